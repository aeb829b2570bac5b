import PyProof.Rows.All
import Wide.All
import OpenK.AllK
import Wide.FinOn
import PyProof.EqAt
import PyProof.EqKinds
import PyProof.NeKinds
import PyProof.TupleCall
import PyProof.ExcArgsOwn
import PyProof.EnumFor
import PyProof.EnumStmt
import PyProof.EnumMake
import Lean
import KE.KDictList
import KE.KDictOf
import KE.KDictSum
import KE.KEqDict
import KE.KItemsList
import KE.KPairComp
import KE.KRevIter
import KE.KSortTup
import KE.KTupSum
import PyProof.AttrMiss
import PyProof.DictWalks
import PyProof.EnumFor
import PyProof.EnumMake
import PyProof.IsiH_list
import PyProof.Rows.ZipForRows
import PyProof.TupleIter
import PyProof.ListRange
import PyProof.SetRoads
import PyProof.Rows.SetFrom
import PyProof.Rows.SeqMore2
import PyProof.IsiH_tuple
import PyProof.Rows.SumAny
import PySem.Challenge.RW_endnever_k29_whole_meetings_and_runs
local macro_rules | `(tactic| omega) => `(tactic| first | with_reducible assumption | with_reducible exact Nat.le_of_lt (by assumption) | with_reducible exact Nat.lt_of_lt_of_le (by assumption) (by assumption) | with_reducible exact Nat.lt_of_le_of_lt (by assumption) (by assumption) | with_reducible exact Nat.le_trans (by assumption) (by assumption) | with_reducible exact Nat.zero_le _ | lia | omega (config := {}))
set_option genSizeOf false
set_option Elab.async false
set_option linter.all false
def znA:=@List.length_map
def znB:=@List.getElem?_map
def znC:=@List.getElem?_eq_getElem
def znD:=@Option.map_eq_some_iff
def znE:=@List.getElem?_eq_some_iff
def znF:=@List.mem_of_getElem?
def znG:=@decide_eq_true
def znH:=@decide_eq_false
def znI:=@List.map_append
def znJ:=@List.mem_singleton
def znK:=@List.length_append
def znL:=@List.mem_append
def znM:=@List.append_nil
def znN:=@PySem.Heap.get?_push_of_some
def znO:=@Nat.lt_of_le_of_lt
def znP:=@Nat.le_trans
def znQ:=@Nat.le_refl
def znR:=@Nat.lt_of_lt_of_le
def znS:=@List.mem_map
def znT:=@List.mem_cons_of_mem
def znU:=@List.append_assoc
def znV:=@List.take_length
def znW:=@List.take_add_one
def znX:=@List.length_set
def znY:=@List.length_take
def znZ:=@List.all_eq_true
def zn0:=@PySem.Heap.lt_size
def zn1:=@List.map_map
def zn2:=@List.map_cons
def zn3:=@List.map_nil
def zn4:=@List.getElem?_append_left
def zn5:=@List.getElem?_append_right
def zn6:=@List.mem_append_left
def zn7:=@List.mem_append_right
def zn8:=@List.mem_cons_self
def zn9:=@PySem.Heap.get?_push_size
def zoa:=@List.size_toArray
def zob:=@List.length_cons
def zoc:=@if_neg
def zod:=@if_pos
def zoe:=@Array.length_toList
def zof:=@Array.getElem?_toList
def zog:=@List.getD_eq_getElem?_getD
def zoh:=@List.mem_cons
def zoi:=@Nat.ne_of_lt
def zoj:=@of_decide_eq_true
def zok:=@Bool.false_ne_true
def zol:=@Option.some.inj
def zom:=@List.drop_eq_getElem_cons
def zon:=@List.map_congr_left
set_option maxRecDepth 100000
set_option maxHeartbeats 4000000
section
namespace L2
open PySem PySem.Spec PyProof.Rows
abbrev Key:=Sum Int Str
def zff:Key->Value->Bool
 | .inl k,v=>Value.isInt k v
 | .inr x,v=>Value.isStrOf x v
def keyH (w:World):Key->Int
 | .inl k=>hashInt k
 | .inr x=>hashStr w x
theorem zaE:∀ {k:Key} {v:Value},zff k v=true->(∃ i t,k=Sum.inl i/\v=Value.int i t)\/(∃ x t,k=Sum.inr x/\v=Value.str x t)
 | .inl i,v,h=>by
  obtain⟨t,e⟩:=Value.isInt_shape (k:=i) (v:=v) h;exact .inl ⟨i,t,rfl,e⟩
 | .inr x,v,h=>by
  obtain⟨t,e⟩:=Value.isStrOf_shape (x:=x) (v:=v) h;exact .inr ⟨x,t,rfl,e⟩
theorem zhx (i:Int) (t:Tok):zff (.inl i) (.int i t)=true:=by simp [zff,Value.isInt]
theorem zhy (x:Str) (t:Tok):zff (.inr x) (.str x t)=true:=by simp [zff,Value.isStrOf]
theorem zlJ (a b:Int):decide ((Sum.inl a:Key)=Sum.inl b)=(a == b):=by
 by_cases e:a=b
 ·subst e;simp
 ·have h:¬ (Sum.inl a:Key)=Sum.inl b:=fun q=>e (Sum.inl.inj q)
  rw [znH h];exact (beq_eq_false_iff_ne.mpr e).symm
theorem zlM (a b:Str):decide ((Sum.inr a:Key)=Sum.inr b)=decide (a=b):=by
 by_cases e:a=b
 ·subst e;simp
 ·have h:¬ (Sum.inr a:Key)=Sum.inr b:=fun q=>e (Sum.inr.inj q)
  rw [znH h,znH e]
theorem zlK (a:Int) (b:Str):decide ((Sum.inl a:Key)=Sum.inr b)=false:=znH (fun q=>nomatch q)
theorem zlL (a:Str) (b:Int):decide ((Sum.inr a:Key)=Sum.inl b)=false:=znH (fun q=>nomatch q)
def zaF (prog:Program) (w:World):PySem.KeyKind prog w Key where
 is:=zff
 hash:=keyH w
 inj:=fun v a b ha hb=>by
  rcases zaE ha with ⟨i,t,rfl,rfl⟩ | ⟨x,t,rfl,rfl⟩
  ·rcases zaE hb with ⟨j,u,rfl,e⟩ | ⟨y,u,rfl,e⟩
   ·injection e with e1 _;rw [e1]
   ·exact nomatch e
  ·rcases zaE hb with ⟨j,u,rfl,e⟩ | ⟨y,u,rfl,e⟩
   ·exact nomatch e
   ·injection e with e1 _;rw [e1]
 byValue:=fun k v h=>by
  rcases zaE h with ⟨i,t,rfl,rfl⟩ | ⟨x,t,rfl,rfl⟩ <;> rfl
 pyHash:=fun hv h=>by
  rcases zaE hv with ⟨i,t,rfl,rfl⟩ | ⟨x,t,rfl,rfl⟩
  ·exact wpAny_pyHash_int h
  ·exact wpAny_pyHash_str h
 eqBool:=fun hu hv h=>by
  rcases zaE hu with ⟨i,t,rfl,rfl⟩ | ⟨x,t,rfl,rfl⟩
  ·rcases zaE hv with ⟨j,u,rfl,rfl⟩ | ⟨y,u,rfl,rfl⟩
   ·rw [zlJ] at h;exact wpAny_eqBool_int h
   ·rw [zlK] at h;exact SeqAt.EqAt.int_str i t y u _ _ _ _ h
  ·rcases zaE hv with ⟨j,u,rfl,rfl⟩ | ⟨y,u,rfl,rfl⟩
   ·rw [zlL] at h;exact SeqAt.EqAt.str_int x t j u _ _ _ _ h
   ·rw [zlM] at h;exact wpAny_eqBool_str h
 «strs»:=fun k x t v h=>by
  rcases zaE h with ⟨i,u,rfl,e⟩ | ⟨y,u,rfl,e⟩
  ·exact nomatch e
  ·injection e with e1 _
   subst e1;cases v <;> rfl
theorem zfh (prog:Program) (w:World) (i:Int) (t:Tok):(zaF prog w).is (.inl i) (.int i t)=true:=zhx i t
theorem zfi (prog:Program) (w:World) (x:Str) (t:Tok):(zaF prog w).is (.inr x) (.str x t)=true:=zhy x t
inductive V where
 | non | bl (b:Bool) | int (i:Int) | str (x:Str) | byt (b:Array UInt8) | flt (b:UInt64) | ref (a:Addr) | ty (n:String)
 deriving DecidableEq
def zaL:V->Value->Prop
 | .non,u=>u=Value.none
 | .bl b,u=>u=Value.bool b
 | .int i,u=>∃ t,u=Value.int i t
 | .str x,u=>∃ t,u=Value.str x t
 | .byt b,u=>∃ t,u=Value.bytes b t
 | .flt b,u=>∃ t,u=Value.float b t
 | .ref a,u=>u=Value.ref a
 | .ty n,u=>u=Value.type n
abbrev zaM:List V->List Value->Prop:=Paired zaL
theorem zaM.length {xs:List V} {us:List Value} (r:zaM xs us):xs.length=us.length:=Paired.length r
theorem zaM.get:∀ {xs:List V} {us:List Value} {i:Nat} {x:V},zaM xs us->xs[i]?=some x->∃ u,us[i]?=some u/\zaL x u
 | _,_,_,_,.nil,e=>by simp at e
 | _,_,0,_,.cons r _,e=>by simp at e;subst e;exact⟨_,rfl,r⟩
 | _,_,i+1,x,.cons _ t,e=>by
  obtain⟨u,h1,h2⟩:=zaM.get (i:=i) (x:=x) t (by simpa using e);exact⟨u,by simpa using h1,h2⟩
theorem zaM.set {x:V} {u:Value} (r:zaL x u):∀ {xs:List V} {us:List Value} (i:Nat),zaM xs us->zaM (xs.set i x) (us.set i u)
 | _,_,_,.nil=>.nil
 | _,_,0,.cons _ t=>.cons r t
 | _,_,i+1,.cons q t=>.cons q (zaM.set r i t)
theorem zaM.append:∀ {xs ys:List V} {us ws:List Value},zaM xs us->zaM ys ws->zaM (xs++ys) (us++ws)
 | _,_,_,_,.nil,s=>s
 | _,_,_,_,.cons r t,s=>.cons r (zaM.append t s)
theorem zaM.take:∀ {xs:List V} {us:List Value} (n:Nat),zaM xs us->zaM (xs.take n) (us.take n)
 | _,_,0,_=>.nil
 | _,_,_+1,.nil=>.nil
 | _,_,n+1,.cons r t=>.cons r (zaM.take n t)
theorem zaM.drop:∀ {xs:List V} {us:List Value} (n:Nat),zaM xs us->zaM (xs.drop n) (us.drop n)
 | _,_,0,r=>r
 | _,_,_+1,.nil=>.nil
 | _,_,n+1,.cons _ t=>zaM.drop n t
def zeq:Option V->Option Value->Prop
 | some v,some u=>zaL v u
 | none,none=>True
 | _,_=>False
def KV {κ:Type}:List (κ × V)->List (κ × Value)->Prop:=Paired fun (p:κ × V) (q:κ × Value)=>p.1=q.1/\zaL p.2 q.2
def kV:Key->V
 | .inl i=>.int i
 | .inr x=>.str x
inductive HO where
 | lst (xs:List V)
 | tup (xs:List V)
 | dK (kvs:List (Key × V)) | dT (kvs:List (List Key × V))
 | set (S:Int->Bool) (n:Nat)
 | ins (C dx:Addr) (fs:List (Str × V))
 | own (x:Addr)
 | xd (fs:List (Str × V))
 | met (f x:Addr)
 | rng (lo hi:Int)
 | frz (o:Obj) (u:HO)
 | tbl (ps:Array Value)
 | ext (φ:Heap->Prop)
abbrev Hp:=Addr->Option HO
def upd (H:Hp) (a:Addr) (o:HO):Hp:=fun b=>if b=a then some o else H b
theorem zae {H:Hp} {a:Addr} {o:HO}:upd H a o a=some o:=by unfold upd;rw [zod rfl]
theorem zam {H:Hp} {a b:Addr} {o:HO} (h:b≠a):upd H a o b=H b:=by unfold upd;rw [zoc h]
theorem zk1 {H:Hp} {a:Addr} {o u:HO}:upd (upd H a o) a u=upd H a u:=by
 funext b;unfold upd;split <;> rfl
theorem zm8 {H:Hp} {a b:Addr} {o u:HO} (h:H a=some o) (h':H b=some u) (d:o≠u):a≠b:=by
 intro e;subst e;rw [h] at h';exact d (zol h')
theorem zaj {H:Hp} {a b:Addr} {o:HO} (h:H a=some o) (h':H b=none):a≠b:=by
 intro e;subst e;rw [h] at h';cases h'
def zc1 (h:Heap) (a:Addr) (items:Array Value):Prop:=∃ o,h.get? a=some o/\o.cls=.type "tuple"/\∃ n,o.data=.seq items n/\o={ cls:=.type "tuple",data:=.seq items n }
theorem zc1.tup {h:Heap} {a:Addr} {items:Array Value} (x:zc1 h a items):IsTup h a items:=let ⟨o,e,c,n,d,_⟩:=x;⟨o,e,c,n,d⟩
theorem zc1.lt {h:Heap} {a:Addr} {items:Array Value} (x:zc1 h a items):a<h.objs.size:=x.tup.lt
theorem zc1.of {h:Heap} {a:Addr} {items:Array Value} {n:Nat} (x:h.get? a=some { cls:=.type "tuple",data:=.seq items n }):zc1 h a items:=⟨_,x,rfl,n,rfl,rfl⟩
section
variable (P:Program) (w:World)
def zaV (H:Hp) (h:Heap) (a:Addr):HO->Prop
 | .lst xs=>xs.length<=sizeLine/\∃ (its:List Value) (n:Nat),zaM xs its/\h.get? a=some { cls:=.type "list",data:=.seq its.toArray n }
 | .tup xs=>xs.length<=sizeLine/\∃ its:List Value,zaM xs its/\zc1 h a its.toArray
 | .dK kvs=>kvs.length<=sizeLine/\(a == sysModules)=false/\∃ vs,KV kvs vs/\h.DictOf (zaF P w) a vs
 | .dT kvs=>kvs.length<=sizeLine/\(a == sysModules)=false/\∃ xs:List (List Key × Addr × Value),
   Paired (fun (p:List Key × V) (q:List Key × Addr × Value)=>p.1=q.1/\H q.2.1=some (.tup (p.1.map kV))/\zaL p.2 q.2.2) kvs xs /\
   ∃ o es ep,h.get? a=some o/\o.ExactDict/\o.data=.dict es ep/\es.toList=xs.map (entryOfKey (tupleKind (zaF P w)))/\(xs.map (·.1)).Nodup
 | .set S n=>h.SetOf (intKind P w) a S n
 | .ins C dx fs=>H dx=some (.own a)/\fs.length<=1000/\dx≠a/\h.get? a=some (PySem.W.instObj C dx) /\
   ∃ mA,h.Ns1 dx mA/\(∀ f,zeq (fs.lookup f) (mA f))/\PySem.Within mA (fs.map (·.1))
 | .own _=>∃ o,h.get? a=some o
 | .xd fs=>∃ mA,h.Ns1 a mA/\∀ f,zeq (fs.lookup f) (mA f)
 | .rng lo hi=>∃ t u v,h.get? a=some { cls:=.type "range",data:=.fields #[.int lo t,.int hi u,.int 1 v] }
 | .frz o u=>h.get? a=some o/\zaV H h a u
 | .tbl ps=>h.get? a=some { cls:=.none,data:=.fields ps }
 | .met f x=>h.get? a=some (PySem.W.methodObj (.ref f) (.ref x))
 | .ext φ=>φ h/\(∃ o,h.get? a=some o)/\∀ h1 h2:Heap,φ h1->(∀ o,h1.get? a=some o->h2.get? a=some o)->φ h2
def HOk (H:Hp) (h:Heap):Prop:=∀ a o,H a=some o->zaV P w H h a o
end
section
variable {P:Program} {w:World} {H H':Hp} {h h':Heap} {a:Addr} {o:HO}
theorem zaV.lt (x:zaV P w H h a o):a<h.objs.size:=by
 cases o with
 | lst xs=>obtain⟨_,_,_,_,e⟩:=x;exact zn0 e
 | tup xs=>obtain⟨_,_,_,p⟩:=x;exact p.lt
 | dK kvs=>obtain⟨_,_,_,_,o,_,_,e,_⟩:=x;exact zn0 e
 | dT kvs=>obtain⟨_,_,_,_,o,_,_,e,_⟩:=x;exact zn0 e
 | set S n=>obtain⟨o,_,_,_,e,_⟩:=x;exact zn0 e
 | ins C dx fs=>obtain⟨_,_,_,e,_⟩:=x;exact zn0 e
 | own y=>obtain⟨_,e⟩:=x;exact zn0 e
 | xd fs=>obtain⟨_,⟨_,_,_,e,_⟩,_⟩:=x;exact zn0 e
 | rng lo hi=>obtain⟨_,_,_,e⟩:=x;exact zn0 e
 | frz ob u=>obtain⟨e,_⟩:=x;exact zn0 e
 | tbl ps=>exact zn0 (show h.get? a=some _ from x)
 | met f y=>exact zn0 (show h.get? a=some _ from x)
 | ext φ=>obtain⟨_,⟨_,e⟩,_⟩:=x;exact zn0 e
theorem Paired.mapP {α β:Type} {F G:α->β->Prop}:∀ {l₁:List α} {l₂:List β},Paired F l₁ l₂->(∀ a b,F a b->G a b)->Paired G l₁ l₂
 | _,_,.nil,_=>.nil
 | _,_,.cons r t,f=>.cons (f _ _ r) (Paired.mapP t f)
theorem zaV.stay (x:zaV P w H h a o) (k:∀ b u,(b=a\/H b=some (.own a))->h.get? b=some u->h'.get? b=some u)
  (ho:∀ b,H b=some (.own a)->H' b=some (.own a)) (ht:∀ b xs,H b=some (.tup xs)->H' b=some (.tup xs)):zaV P w H' h' a o:=by
 induction o with
 | lst xs=>obtain⟨z,its,n,r,e⟩:=x;exact⟨z,its,n,r,k _ _ (.inl rfl) e⟩
 | tup xs=>obtain⟨z,its,r,ob,e,c⟩:=x;exact⟨z,its,r,ob,k _ _ (.inl rfl) e,c⟩
 | dK kvs=>obtain⟨z,y,vs,r,ob,es,ep,e,c⟩:=x;exact⟨z,y,vs,r,ob,es,ep,k _ _ (.inl rfl) e,c⟩
 | dT kvs =>
  obtain⟨z,y,xs,r,ob,es,ep,e,c⟩:=x;exact⟨z,y,xs,Paired.mapP r fun p q z=>⟨z.1,ht _ _ z.2.1,z.2.2⟩,ob,es,ep,k _ _ (.inl rfl) e,c⟩
 | set S n=>obtain⟨ob,es,ep,t,e,c⟩:=x;exact⟨ob,es,ep,t,k _ _ (.inl rfl) e,c⟩
 | ins C dx fs =>
  obtain⟨d,z,ne,e,mA,⟨od,es,ep,e2,c⟩,r⟩:=x;exact⟨ho _ d,z,ne,k _ _ (.inl rfl) e,mA,⟨od,es,ep,k _ _ (.inr d) e2,c⟩,r⟩
 | own y=>obtain⟨ob,e⟩:=x;exact⟨ob,k _ _ (.inl rfl) e⟩
 | xd fs=>obtain⟨mA,⟨od,es,ep,e,c⟩,r⟩:=x;exact⟨mA,⟨od,es,ep,k _ _ (.inl rfl) e,c⟩,r⟩
 | rng lo hi=>obtain⟨t,u,v,e⟩:=x;exact⟨t,u,v,k _ _ (.inl rfl) e⟩
 | frz ob u ih=>obtain⟨e,q⟩:=x;exact⟨k _ _ (.inl rfl) e,ih q⟩
 | tbl ps =>
  have e:h.get? a=some { cls:=.none,data:=.fields ps }:=x;show h'.get? a=some { cls:=.none,data:=.fields ps };exact k a _ (.inl rfl) e
 | met f y =>
  have e:h.get? a=some (PySem.W.methodObj (.ref f) (.ref y)):=x;show h'.get? a=some (PySem.W.methodObj (.ref f) (.ref y));exact k a _ (.inl rfl) e
 | ext φ=>obtain⟨p,⟨o,e⟩,st⟩:=x;exact⟨st _ _ p fun o q=>k _ _ (.inl rfl) q,⟨o,k _ _ (.inl rfl) e⟩,st⟩
theorem HOk.lt (x:HOk P w H h) (e:H a=some o):a<h.objs.size:=(x a o e).lt
theorem HOk.fresh (x:HOk P w H h) (e:h.objs.size<=a):H a=none:=by
 cases q:H a with
 | none=>rfl
 | some u=>exact absurd (znR (x.lt q) e) (Nat.lt_irrefl _)
theorem HOk.kept (x:HOk P w H h) (k:∀ b u,h.get? b=some u->h'.get? b=some u):HOk P w H h':=fun a o e =>
 (x a o e).stay (fun b u _ q=>k b u q) (fun _ q=>q) fun _ _ q=>q
theorem HOk.laid (x:HOk P w H h) (k:∀ b u,h.get? b=some u->h'.get? b=some u) (hp:h.objs.size<=a) (new:zaV P w (upd H a o) h' a o):HOk P w (upd H a o) h':=fun b u e=>by
 have hn:=x.fresh hp;by_cases hb:b=a
 ·subst hb;rw [zae] at e;cases e;exact new
 ·rw [zam hb] at e;exact (x b u e).stay (fun c v _ q=>k c v q) (fun c q=>by rw [zam (zaj q hn)];exact q) fun c xs q=>by rw [zam (zaj q hn)];exact q
end
def Rd (H:Hp) (a:Addr) (u:HO):Prop:=H a=some u\/∃ o,H a=some (.frz o u)
theorem Rd.ok {P:Program} {w:World} {H:Hp} {h:Heap} {a:Addr} {u:HO} (r:Rd H a u) (x:HOk P w H h):zaV P w H h a u:=by
 rcases r with r | ⟨o,r⟩
 ·exact x a u r
 ·obtain⟨_,q⟩:=x a _ r;exact q
def Mut:Option HO->Prop
 | some (.lst _)=>True
 | some (.dK _)=>True
 | some (.dT _)=>True
 | some (.set _ _)=>True
 | some (.ins _ _ _)=>True
 | some (.ext _)=>True
 | _=>False
section
variable {P:Program} {w:World} {H:Hp} {h h':Heap} {x e:Addr} {o':HO}
theorem HOk.write (ok:HOk P w H h) (mu:Mut (H x)) (he:e=x\/H e=some (.own x)) (k:∀ b u,b≠e->h.get? b=some u->h'.get? b=some u) (heo:∃ u,h'.get? e=some u)
  (new:zaV P w (upd H x o') h' x o'):HOk P w (upd H x o') h':=fun b u q=>by
 have nown:∀ c y,H c=some (.own y)->c≠x:=fun c y r z=>by subst z;rw [r] at mu;exact mu
 have ntup:∀ c xs,H c=some (.tup xs)->c≠x:=fun c xs r z=>by subst z;rw [r] at mu;exact mu
 by_cases hb:b=x
 ·subst hb;rw [zae] at q;cases q;exact new
 ·rw [zam hb] at q;by_cases hbe:b=e
  ·have q':H b=some (.own x):=by
    rcases he with z | z
    ·exact absurd (hbe.trans z) hb
    ·rw [hbe];exact z
   rw [q] at q';cases q';obtain⟨v,hv⟩:=heo;exact⟨v,by rw [hbe];exact hv⟩
  ·refine (ok b u q).stay (fun c v hc r=>k c v ?_ r) (fun c r=>by rw [zam (nown c b r)];exact r) fun c xs r=>by rw [zam (ntup c xs r)];exact r
   rcases hc with rfl | hc
   ·exact hbe
   ·rintro rfl;rcases he with z | z
    ·exact nown c b hc z
    ·rw [hc] at z;cases z;exact hb rfl
end
structure Un (fs ex:List Addr) (H H':Hp) (h h':Heap):Prop where
 keep:∀ b o,h.get? b=some o->H b=none->b ∉ fs->b ∉ ex->h'.get? b=some o
 slot:∀ b o,h.get? b=some o->H b=none->b∈fs->b ∉ ex->∃ sl,h'.get? b=some { o with slots:=sl }
 free:∀ b o,h.get? b=some o->H b=none->b ∉ ex->H' b=none
 there:∀ b o,h.get? b=some o->b ∉ ex->∃ o',h'.get? b=some o'
 tups:∀ b xs,H b=some (.tup xs)->H' b=some (.tup xs)
 frzs:∀ b o u,H b=some (.frz o u)->H' b=some (.frz o u)
 tbls:∀ b ps,H b=some (.tbl ps)->∃ more,H' b=some (.tbl (ps++more))
section
variable {fs fs' ex ex':List Addr} {H H1 H2:Hp} {h h1 h2 h':Heap} {a x e:Addr} {o:HO}
theorem Un.any (u:Un fs ex H H1 h h1) {b:Addr} {ob:Obj} (q:h.get? b=some ob) (n:H b=none) (hx:b ∉ ex):∃ sl,h1.get? b=some { ob with slots:=sl }:=by
 by_cases hb:b∈fs
 ·exact u.slot b ob q n hb hx
 ·exact⟨ob.slots,u.keep b ob q n hb hx⟩
theorem Un.trans (a:Un fs ex H H1 h h1) (b:Un fs ex H1 H2 h1 h2):Un fs ex H H2 h h2 where
 keep:=fun c ob q n hc hx=>b.keep c ob (a.keep c ob q n hc hx) (a.free c ob q n hx) hc hx
 slot:=fun c ob q n hc hx=>by
  obtain⟨sl,e1⟩:=a.slot c ob q n hc hx;obtain⟨sl',e2⟩:=b.slot c _ e1 (a.free c ob q n hx) hc hx;exact⟨sl',e2⟩
 free:=fun c ob q n hx=>by
  obtain⟨o',e1⟩:=a.there c ob q hx;exact b.free c o' e1 (a.free c ob q n hx) hx
 there:=fun c ob q hx=>by
  obtain⟨o',e1⟩:=a.there c ob q hx;exact b.there c o' e1 hx
 tups:=fun c xs q=>b.tups c xs (a.tups c xs q)
 frzs:=fun c ob xs q=>b.frzs c ob xs (a.frzs c ob xs q)
 tbls:=fun c ps q=>by
  obtain⟨m1,e1⟩:=a.tbls c ps q;obtain⟨m2,e2⟩:=b.tbls c _ e1;exact⟨m1++m2,by rw [e2,Array.append_assoc]⟩
theorem Un.kept (k:∀ b u,h.get? b=some u->h'.get? b=some u):Un fs ex H H h h' :=
 ⟨fun b ob q _ _ _=>k b ob q,fun b ob q _ _ _=>⟨ob.slots,k b ob q⟩,fun _ _ _ n _=>n,fun b ob q _=>⟨ob,k b ob q⟩,fun _ _ q=>q,fun _ _ _ q=>q,fun _ ps q=>⟨#[],by rw [q];simp⟩⟩
theorem Un.refl:Un fs ex H H h h:=Un.kept fun _ _ q=>q
theorem Un.laid (k:∀ b u,h.get? b=some u->h'.get? b=some u) (hp:h.objs.size<=a) (hn:H a=none):Un fs ex H (upd H a o) h h' where
 keep:=fun b u q _ _ _=>k b u q
 slot:=fun b u q _ _ _=>⟨u.slots,k b u q⟩
 free:=fun b u q n _=>by rw [zam (zoi (znR (zn0 q) hp))];exact n
 there:=fun b u q _=>⟨u,k b u q⟩
 tups:=fun b xs q=>by rw [zam (zaj q hn)];exact q
 frzs:=fun b u xs q=>by rw [zam (zaj q hn)];exact q
 tbls:=fun b ps q=>⟨#[],by rw [zam (zaj q hn),q];simp⟩
theorem Un.write (mu:Mut (H x)) (he:e=x\/H e=some (.own x)) (k:∀ b u,b≠e->h.get? b=some u->h'.get? b=some u) (heo:∃ u,h'.get? e=some u):Un fs ex H (upd H x o) h h':=by
 have hx:∀ b,H b=none->b≠x:=fun b n z=>by subst z;rw [n] at mu;exact mu
 have hb:∀ b,H b=none->b≠e:=fun b n z=>by
  subst z;rcases he with r | r
  ·exact hx b n r
  ·rw [n] at r;cases r
 have hm:∀ b u,H b=some u->¬ Mut (some u)->b≠x:=fun b u q nm z=>by subst z;rw [q] at mu;exact nm mu
 refine⟨fun b u q n _ _=>k b u (hb b n) q,fun b u q n _ _=>⟨u.slots,k b u (hb b n) q⟩,fun b u q n _=>by rw [zam (hx b n)];exact n,fun b u q _=>?_,
  fun b xs q=>by rw [zam (hm b _ q fun z=>z)];exact q,fun b u xs q=>by rw [zam (hm b _ q fun z=>z)];exact q,fun b ps q=>⟨#[],by rw [zam (hm b _ q fun z=>z),q];simp⟩⟩
 by_cases hbe:b=e
 ·subst hbe;exact heo
 ·exact⟨u,k b u hbe q⟩
end
def trk (h:Heap) (H:Hp):List Addr:=(List.range h.objs.size).filter fun a=>(H a).isSome
def ziE (h:Heap) (H:Hp):Heap:=PySem.W.hideAll h (trk h H)
theorem zhn (h:Heap) (H:Hp):(ziE h H).objs.size=h.objs.size:=PySem.W.hideAll_size _ _
theorem ziF {h:Heap} {H:Hp} {b:Addr} {o:Obj} (e:h.get? b=some o) (n:H b=none):(ziE h H).get? b=some o :=
 PySem.W.hideAll_get _ e fun hm=>by
  have q:(H b).isSome=true:=(List.mem_filter.mp hm).2;rw [n] at q;simp at q
theorem zkq {h:Heap} {H:Hp} {b:Addr} {o:Obj} (e:(ziE h H).get? b=some o):h.get? b=some o/\H b=none:=by
 have e':h.get? b=some o:=PySem.W.of_hideAll (trk h H) e;refine⟨e',?_⟩;cases q:H b with
 | none=>rfl
 | some x =>
  have hm:b∈trk h H:=List.mem_filter.mpr ⟨List.mem_range.mpr (zn0 e'),by simp [q]⟩;have z:(ziE h H).get? b=none:=PySem.W.hideAll_none (trk h H) hm;rw [z] at e;cases e
structure Mod (K:PySem.W.Frag) (mg:Str->Option Value) (base:Heap):Prop where
 kin:K.In base
 glob:base.Ns mainGlobals mg
 blt:∃ mb,base.Ns builtinsNs mb/\∀ x:Str,x≠"__name__"->mb x=bootBuiltins x
 nolimit:base.NoLimit
structure Cx where
 prog:Program
 w:World
 K:PySem.W.Frag
 mg:Str->Option Value
 base:Heap
 A:Around
 N:List Str
 s₀:Shared
 H₀:Hp
 env:Env
 outer:List Env
 stack:List Env
 ex:List Addr
 fn:Str->Bool
 calm:Bool
 pn:List (Addr × Obj)
 xe:Value->Shared->Prop
def frs (l:List Env):List Addr:=l.filterMap (·.frame)
abbrev Cx.fs (X:Cx):List Addr:=frs X.outer
def Vis (sc:Scope) (x:Str):Prop:=sc.names.lookup x=some .local\/sc.names.lookup x=some .cell\/sc.names.lookup x=some .free
def Loc (sc:Scope) (x:Str):Prop:=sc.names.lookup x=some .local\/sc.names.lookup x=some .cell
def Look (env:Env) (h:Heap) (m:Str->Option Value) (x:Str) (u:Value):Prop :=
 (env.kindOf x=some .local/\m x=some u)\/((env.kindOf x=some .cell\/env.kindOf x=some .free)/\∃ c,env.cells.lookup x=some c/\h.IsCell c (some u))
structure Cx.Ok (X:Cx):Prop where
 mod:Mod X.K X.mg X.base
 kind:X.env.scope.kind=.function
 glob:X.env.globals=mainGlobals
 blt:X.env.builtins=builtinsNs
 above:X.s₀.heap.objs.size<=X.env.locals
 inj:∀ x y c,X.env.cells.lookup x=some c->X.env.cells.lookup y=some c->x=y
 has:∀ x,(X.env.kindOf x=some .cell\/X.env.kindOf x=some .free)->∃ c,X.env.cells.lookup x=some c
 cab:∀ x c,X.fn x=true->X.env.cells.lookup x=some c->X.s₀.heap.objs.size<=c
 hd:X.calm=true->X.A.handled=none
 frames:X.A.frames=some X.stack
 stk:X.stack=X.outer\/(X.stack=X.env::X.outer/\X.env.frame=some X.env.locals)
 exf:∀ b∈X.ex,b≠X.env.locals/\∀ x c,X.env.cells.lookup x=some c->c≠b
 bs:∀ b o,X.base.get? b=some o->X.s₀.heap.get? b=some o/\X.H₀ b=none
 bsz:X.base.objs.size<=X.s₀.heap.objs.size
 noex:∀ b o,X.base.get? b=some o->b ∉ X.ex
 exfs:∀ b∈X.ex,b ∉ X.fs
 funs:X.s₀.heap.FunFrames X.base X.outer
 frf:∀ b∈X.fs,X.H₀ b=none
structure Inv (X:Cx) (pins:List (Addr × Obj)) (σ:List (Option V)) (H:Hp) (s:Shared):Prop where
 ok:X.Ok
 os:s.os=X.s₀.os
 bare:AllBare s.gens
 base:Un X.fs X.ex X.H₀ H X.s₀.heap s.heap
 loc:∃ m,s.heap.Ns X.env.locals m/\∀ (i:Nat) (x:Str) (v:V),X.N[i]?=some x->σ[i]?=some (some v)->Vis X.env.scope x->∃ u,zaL v u/\Look X.env s.heap m x u
 cell:∀ x c,X.env.cells.lookup x=some c->∃ v,s.heap.IsCell c v
 free:H X.env.locals=none
 freeC:∀ x c,X.env.cells.lookup x=some c->H c=none
 pin:∀ p∈X.pn++pins,s.heap.get? p.1=some p.2/\H p.1=none/\p.1≠X.env.locals/\p.1 ∉ X.fs/\∀ v,p.2.data≠.cell v
 hok:HOk X.prog X.w H s.heap
 len:σ.length=X.N.length
section
variable {X:Cx} {pins:List (Addr × Obj)} {σ:List (Option V)} {H H':Hp} {s:Shared} {h':Heap}
theorem Cx.Ok.nofr (ok:X.Ok) {b:Addr} {o:Obj} (e:X.base.get? b=some o):b ∉ X.fs:=fun hb=>by
 have:=(ok.funs.mem hb).1
 rw [e] at this;cases this
theorem Inv.bs (I:Inv X pins σ H s):∀ b o,X.base.get? b=some o->s.heap.get? b=some o/\H b=none:=fun b o e =>
 ⟨I.base.keep b o (I.ok.bs b o e).1 (I.ok.bs b o e).2 (I.ok.nofr e) (I.ok.noex b o e),I.base.free b o (I.ok.bs b o e).1 (I.ok.bs b o e).2 (I.ok.noex b o e)⟩
theorem Inv.bk (I:Inv X pins σ H s):∀ b o,X.base.get? b=some o->s.heap.get? b=some o:=fun b o e=>(I.bs b o e).1
theorem Inv.mod (I:Inv X pins σ H s):Mod X.K X.mg X.base:=I.ok.mod
theorem Inv.kIn (I:Inv X pins σ H s):X.K.In s.heap:=I.ok.mod.kin.keeps I.bk
theorem Inv.lt (I:Inv X pins σ H s):X.env.locals<s.heap.objs.size:=let ⟨_,hn,_⟩:=I.loc;hn.lt
theorem Inv.sz (I:Inv X pins σ H s):X.s₀.heap.objs.size<=s.heap.objs.size:=znP I.ok.above (Nat.le_of_lt I.lt)
theorem Inv.nofs (I:Inv X pins σ H s) {a:Addr} (h:s.heap.objs.size<=a):a ∉ X.fs:=fun hb=>by
 obtain⟨_,o,ho,_⟩:=I.ok.funs.mem hb;exact absurd (znR (zn0 ho) (znP I.sz h)) (Nat.lt_irrefl _)
theorem Inv.cne (I:Inv X pins σ H s):∀ x c,X.env.cells.lookup x=some c->c≠X.env.locals:=fun x c e z=>by
 obtain⟨v,o,ho,hd⟩:=I.cell x c e;obtain⟨m,⟨o',es,ep,ho',hd',_⟩,_⟩:=I.loc;rw [z,ho'] at ho;cases ho;rw [hd'] at hd;cases hd
theorem Inv.funs (I:Inv X pins σ H s):s.heap.FunFrames X.base X.outer:=by
 have all:∀ (l:List Env),(∀ b∈frs l,b∈X.fs)->X.s₀.heap.FunFrames X.base l->s.heap.FunFrames X.base l:=by
  intro l
  induction l with
  | nil=>intro _ _;trivial
  | cons env r ih =>
   intro hs hl;obtain⟨hk,⟨L,o,hf,hn,ho,hd⟩,hr⟩:=hl;have hL:L∈X.fs:=hs L (by unfold frs;rw [List.filterMap_cons,hf];exact zn8);obtain⟨sl,e⟩:=I.base.slot L o ho (I.ok.frf L hL) hL fun z=>I.ok.exfs L z hL
   exact⟨hk,⟨L,_,hf,hn,e,hd⟩,ih (fun b hb=>hs b (by unfold frs;rw [List.filterMap_cons,hf];exact znT _ hb)) hr⟩
 exact all X.outer (fun _ hb=>hb) I.ok.funs
theorem Inv.stack (I:Inv X pins σ H s):s.heap.FunFrames X.base X.stack:=by
 rcases I.ok.stk with e | ⟨e,hf⟩
 ·rw [e];exact I.funs
 ·rw [e];obtain⟨m,hn,_⟩:=I.loc;refine .cons (by rw [I.ok.kind];decide) hf hn ?_ I.funs;exact Heap.get?_none_of_le (znP I.ok.bsz I.ok.above)
theorem Inv.stkSub (I:Inv X pins σ H s):∀ b∈frs X.stack,b∈X.env.locals::X.fs:=fun b hb=>by
 rcases I.ok.stk with e | ⟨e,hf⟩
 ·rw [e] at hb;exact znT _ hb
 ·rw [e] at hb;unfold frs at hb;rw [List.filterMap_cons,hf] at hb;exact hb
theorem Inv.stkFree (I:Inv X pins σ H s):∀ b∈frs X.stack,H b=none:=fun b hb=>by
 rcases zoh.mp (I.stkSub b hb) with e | hb
 ·rw [e];exact I.free
 ·obtain⟨_,o,ho,_⟩:=I.ok.funs.mem hb;exact I.base.free b o ho (I.ok.frf b hb) fun z=>I.ok.exfs b z hb
theorem Inv.step {g':Array GenState} {t':Nat} {d':Drawn} {ch:List Addr} (I:Inv X pins σ H s)
  (hch:∀ b∈ch,(b∈X.ex\/X.s₀.heap.objs.size<=b)/\b≠X.env.locals/\(∀ x c,X.env.cells.lookup x=some c->c≠b)/\∀ p∈X.pn++pins,p.1≠b)
  (keep:∀ b o,b≠X.env.locals->b ∉ X.fs->b ∉ ch->s.heap.get? b=some o->H b=none->h'.get? b=some o)
  (slot:∀ b o,b≠X.env.locals->b∈X.fs->b ∉ ch->s.heap.get? b=some o->H b=none->∃ sl,h'.get? b=some { o with slots:=sl }) (free:∀ b o,b ∉ ch->s.heap.get? b=some o->H b=none->H' b=none)
  (there:∀ b o,b ∉ ch->s.heap.get? b=some o->∃ o',h'.get? b=some o')
  (tups:∀ b xs,H b=some (.tup xs)->H' b=some (.tup xs)) (frzs:∀ b o u,H b=some (.frz o u)->H' b=some (.frz o u)) (tbls:∀ b ps,H b=some (.tbl ps)->∃ more,H' b=some (.tbl (ps++more)))
  (ns:∀ m,s.heap.Ns X.env.locals m->h'.Ns X.env.locals m) (hok:HOk X.prog X.w H' h') (hg:AllBare g') :
  Inv X pins σ H' { s with heap:=h',gens:=g',drawn:=d',toks:=t' }:=by
 have neL:∀ b o,X.s₀.heap.get? b=some o->b≠X.env.locals:=fun b o e=>zoi (znR (zn0 e) I.ok.above)
 have neC:∀ b o,X.s₀.heap.get? b=some o->b ∉ X.ex->b ∉ ch:=fun b o e hx hb=>by
  rcases (hch b hb).1 with z | z
  ·exact hx z
  ·exact absurd (znR (zn0 e) z) (Nat.lt_irrefl _)
 have cellK:∀ x c,X.env.cells.lookup x=some c->∀ v,s.heap.IsCell c v->h'.IsCell c v:=fun x c e v ⟨o,ho,hd⟩=>by
  have nch:c ∉ ch:=fun z=>(hch c z).2.2.1 x c e rfl
  by_cases hc:c∈X.fs
  ·obtain⟨sl,q⟩:=slot c o (I.cne x c e) hc nch ho (I.freeC x c e);exact⟨_,q,hd⟩
  ·exact⟨o,keep c o (I.cne x c e) hc nch ho (I.freeC x c e),hd⟩
 refine⟨I.ok,I.os,hg,⟨fun b o e n hb hx=>?_,fun b o e n hb hx=>?_,fun b o e n hx=>?_,fun b o e hx=>?_,fun b xs e=>tups b xs (I.base.tups b xs e),fun b o xs e=>frzs b o xs (I.base.frzs b o xs e),fun b ps e=>?_⟩,?_,fun x c e=>?_,?_,fun x c e=>?_,fun p hp=>?_,hok,I.len⟩
 ·exact keep b o (neL b o e) hb (neC b o e hx) (I.base.keep b o e n hb hx) (I.base.free b o e n hx)
 ·obtain⟨sl,e1⟩:=I.base.slot b o e n hb hx;obtain⟨sl',e2⟩:=slot b _ (neL b o e) hb (neC b o e hx) e1 (I.base.free b o e n hx);exact⟨sl',e2⟩
 ·obtain⟨o',e1⟩:=I.base.there b o e hx;exact free b o' (neC b o e hx) e1 (I.base.free b o e n hx)
 ·obtain⟨o',e1⟩:=I.base.there b o e hx;exact there b o' (neC b o e hx) e1
 ·obtain⟨m1,e1⟩:=I.base.tbls b ps e;obtain⟨m2,e2⟩:=tbls b _ e1;exact⟨m1++m2,by rw [e2,Array.append_assoc]⟩
 ·obtain⟨m,hn,hl⟩:=I.loc;refine⟨m,ns m hn,fun i x v e1 e2 e3=>?_⟩;obtain⟨u,r,l⟩:=hl i x v e1 e2 e3;refine⟨u,r,?_⟩;rcases l with l | ⟨k,c,e,z⟩
  ·exact .inl l
  ·exact .inr ⟨k,c,e,cellK x c e _ z⟩
 ·obtain⟨v,z⟩:=I.cell x c e;exact⟨v,cellK x c e v z⟩
 ·obtain⟨m,⟨o,_,_,ho,_⟩,_⟩:=I.loc;exact free _ o (fun z=>(hch _ z).2.1 rfl) ho I.free
 ·obtain⟨v,o,ho,hd⟩:=I.cell x c e;exact free c o (fun z=>(hch c z).2.2.1 x c e rfl) ho (I.freeC x c e)
 ·obtain⟨e,n,ne,nf,d⟩:=I.pin p hp;have nch:p.1 ∉ ch:=fun z=>(hch p.1 z).2.2.2 p hp rfl
  exact⟨keep p.1 p.2 ne nf nch e n,free p.1 p.2 nch e n,ne,nf,d⟩
theorem Inv.un {t':Nat} (I:Inv X pins σ H s) (u:Un X.fs [] H H' s.heap h') (hok:HOk X.prog X.w H' h'):Inv X pins σ H' { s with heap:=h',toks:=t' }:=by
 obtain⟨m,⟨o,es,ep,ho,r⟩,_⟩:=id I.loc;obtain⟨sl,hL⟩:=u.any ho I.free (by simp);exact I.step (g':=s.gens) (d':=s.drawn) (ch:=[]) (fun _ z=>nomatch z) (fun b o _ hb _ e n=>u.keep b o e n hb (by simp)) (fun b o _ hb _ e n=>u.slot b o e n hb (by simp)) (fun b o _ e n=>u.free b o e n (by simp)) (fun b o _ e=>u.there b o e (by simp)) u.tups u.frzs u.tbls (fun m' hm=>by
  obtain⟨o',es',ep',ho',r'⟩:=hm;rw [ho] at ho';cases ho';exact⟨_,es',ep',hL,r'⟩) hok I.bare
theorem Inv.call {g':Array GenState} {t':Nat} {d':Drawn} {ch:List Addr} (I:Inv X pins σ H s) (u:Un (frs X.stack) ch H H' s.heap h') (hok:HOk X.prog X.w H' h') (hg:AllBare g')
  (hch:∀ b∈ch,(b∈X.ex\/X.s₀.heap.objs.size<=b)/\b≠X.env.locals/\(∀ x c,X.env.cells.lookup x=some c->c≠b)/\∀ p∈X.pn++pins,p.1≠b) :
  Inv X pins σ H' { s with heap:=h',gens:=g',drawn:=d',toks:=t' }:=by
 obtain⟨m,⟨o,es,ep,ho,r⟩,_⟩:=id I.loc;obtain⟨sl,hL⟩:=u.any ho I.free fun z=>(hch _ z).2.1 rfl
 exact I.step (ch:=ch) hch (fun b o hL hb hc e n=>u.keep b o e n (fun z=>(zoh.mp (I.stkSub b z)).elim hL hb) hc) (fun b o _ _ hc e n=>u.any e n hc) (fun b o hc e n=>u.free b o e n hc) (fun b o hc e=>u.there b o e hc) u.tups u.frzs u.tbls (fun m' hm=>by
  obtain⟨o',es',ep',ho',r'⟩:=hm;rw [ho] at ho';cases ho';exact⟨_,es',ep',hL,r'⟩) hok hg
theorem Inv.turned {t':Nat} {it:Addr} (I:Inv X pins σ H s) (k:∀ b o,b≠it->s.heap.get? b=some o->h'.get? b=some o) (hn:H it=none) (hL:it≠X.env.locals)
  (h1:it∈X.ex\/X.s₀.heap.objs.size<=it) (h2:∀ x c,X.env.cells.lookup x=some c->c≠it) (h3:∀ p∈X.pn++pins,p.1≠it):Inv X pins σ H { s with heap:=h',toks:=t' }:=by
 have nit:∀ b u,H b=some u->b≠it:=fun b u e z=>by rw [z,hn] at e;cases e
 refine I.step (g':=s.gens) (d':=s.drawn) (ch:=[it]) (fun b hb=>?_) (fun b o _ _ hc e _=>k b o (fun z=>hc (by simp [z])) e) (fun b o _ _ hc e _=>⟨o.slots,k b o (fun z=>hc (by simp [z])) e⟩) (fun _ _ _ _ n=>n)
  (fun b o hc e=>⟨o,k b o (fun z=>hc (by simp [z])) e⟩) (fun _ _ e=>e) (fun _ _ _ e=>e) (fun b ps e=>⟨#[],by rw [e];simp⟩) (fun m hm=>?_) (fun b u e=>?_) I.bare
 ·have e:b=it:=by simpa using hb
  subst e;exact⟨h1,hL,h2,h3⟩
 ·obtain⟨o,es,ep,ho,r⟩:=hm;exact⟨o,es,ep,k _ o (Ne.symm hL) ho,r⟩
 ·refine (I.hok b u e).stay (fun c v hc q=>k c v ?_ q) (fun _ q=>q) fun _ _ q=>q
  rcases hc with z | z
  ·rw [z];exact nit b u e
  ·exact nit c _ z
theorem Inv.tok (I:Inv X pins σ H s) (t:Nat):Inv X pins σ H { s with toks:=t }:=I.un (h':=s.heap) (t':=t) Un.refl I.hok
theorem Inv.kept {t':Nat} (I:Inv X pins σ H s) (k:∀ b u,s.heap.get? b=some u->h'.get? b=some u):Inv X pins σ H { s with heap:=h',toks:=t' }:=I.un (Un.kept k) (I.hok.kept k)
theorem Inv.laid {a:Addr} {o:HO} {t':Nat} (I:Inv X pins σ H s) (k:∀ b u,s.heap.get? b=some u->h'.get? b=some u) (hp:s.heap.objs.size<=a) (new:zaV X.prog X.w (upd H a o) h' a o) :
  Inv X pins σ (upd H a o) { s with heap:=h',toks:=t' }:=I.un (Un.laid k hp (I.hok.fresh hp)) (I.hok.laid k hp new)
theorem Inv.write {x e:Addr} {o:HO} {t':Nat} (I:Inv X pins σ H s) (mu:Mut (H x)) (he:e=x\/H e=some (.own x)) (k:∀ b u,b≠e->s.heap.get? b=some u->h'.get? b=some u) (heo:∃ u,h'.get? e=some u)
  (new:zaV X.prog X.w (upd H x o) h' x o):Inv X pins σ (upd H x o) { s with heap:=h',toks:=t' }:=I.un (Un.write mu he k heo) (I.hok.write mu he k heo new)
theorem Inv.pins_of {pins':List (Addr × Obj)} (I:Inv X pins σ H s) (h:∀ p∈pins',s.heap.get? p.1=some p.2/\H p.1=none/\p.1≠X.env.locals/\p.1 ∉ X.fs/\∀ v,p.2.data≠.cell v):Inv X pins' σ H s :=
 ⟨I.ok,I.os,I.bare,I.base,I.loc,I.cell,I.free,I.freeC,fun p hp=>(znL.mp hp).elim (fun z=>I.pin p (zn6 _ z)) (h p),I.hok,I.len⟩
theorem zfZ {N:List Str} (hN:N.Nodup) {i j:Nat} {x:Str} (a:N[i]?=some x) (b:N[j]?=some x):i=j:=by
 obtain⟨h1,e1⟩:=znE.mp a;obtain⟨h2,e2⟩:=znE.mp b;exact (List.getElem_inj hN).mp (e1.trans e2.symm)
theorem zeY {M:Model} {A:Around} {E:Value->Shared->Prop} {i:Nat} {x:Str} {v:V} {u:Value} {Q:Unit->Shared->Prop} (I:Inv X pins σ H s) (hN:X.N.Nodup) (hi:X.N[i]?=some x) (hx:Loc X.env.scope x) (r:zaL v u)
  (h:∀ s',Inv X pins (σ.set i (some v)) H s'->(∃ a,Heap.SameBut a s.heap s'.heap/\(a=X.env.locals\/X.env.cells.lookup x=some a))->Q () s') (hf:X.fn x=true\/X.env.scope.names.lookup x=some .local:=by first | exact .inl rfl | exact .inr rfl | assumption):wpAny M A (storeName X.env x u) Q E s:=by
 obtain⟨m,hn,hl⟩:=id I.loc;have hcls:(X.env.scope.kind == .class || (X.env.scope.kind == .module && X.env.locals != X.env.globals))=false:=by rw [I.ok.kind];rfl
 have hiσ:i<σ.length:=by rw [I.len];exact (znE.mp hi).1
 have cne:=I.cne;have tracked:∀ {a:Addr} {h':Heap},(∃ o,s.heap.get? a=some o/\H a=none)->Heap.SameBut a s.heap h'->HOk X.prog X.w H h':=fun {a h'} ha hs b ob e=>by
  obtain⟨_,_,hfree⟩:=ha;refine (I.hok b ob e).stay (fun c w' hc q=>(hs.2 c ?_).trans q) (fun _ q=>q) fun _ _ q=>q
  rintro rfl;rcases hc with rfl | hc
  ·rw [hfree] at e;cases e
  ·rw [hfree] at hc;cases hc
 rcases hx with hk | hk
 ·refine wpAny_storeName_local hk hn (fun h' hn' hs=>?_) hcls;obtain⟨oL,_,_,hoL,_⟩:=id hn;refine h _ ⟨I.ok,I.os,I.bare,⟨fun b o e n hb hx=>?_,fun b o e n hb hx=>?_,I.base.free,fun b o e hx=>?_,I.base.tups,I.base.frzs,I.base.tbls⟩,⟨_,hn',fun j y v' e1 e2 e3=>?_⟩,fun y c e=>?_,I.free,I.freeC,fun p hp=>?_,tracked ⟨oL,hoL,I.free⟩ hs,by simpa using I.len⟩ ⟨_,hs,.inl rfl⟩
  ·exact (hs.2 b (zoi (znR (zn0 e) I.ok.above))).trans (I.base.keep b o e n hb hx)
  ·obtain⟨sl,e1⟩:=I.base.slot b o e n hb hx;exact⟨sl,(hs.2 b (zoi (znR (zn0 e) I.ok.above))).trans e1⟩
  ·obtain⟨o',e1⟩:=I.base.there b o e hx;exact⟨o',(hs.2 b (zoi (znR (zn0 e) I.ok.above))).trans e1⟩
  ·by_cases hj:j=i
   ·subst hj;rw [hi] at e1;cases e1;rw [List.getElem?_set_self hiσ] at e2;cases e2;exact⟨u,r,.inl ⟨hk,by simp⟩⟩
   ·rw [List.getElem?_set_ne (Ne.symm hj)] at e2;obtain⟨u',r',q⟩:=hl j y v' e1 e2 e3;refine⟨u',r',?_⟩;rcases q with ⟨k,e⟩ | ⟨k,c,e,z⟩
    ·refine .inl ⟨k,?_⟩
     have:y≠x:=fun e=>hj (zfZ hN e1 (e ▸ hi))
     simp [this,e]
    ·exact .inr ⟨k,c,e,z.sameBut hs (cne y c e)⟩
  ·obtain⟨w',z⟩:=I.cell y c e;exact⟨w',z.sameBut hs (cne y c e)⟩
  ·obtain⟨e,n,ne,nf,d⟩:=I.pin p hp;exact⟨(hs.2 p.1 ne).trans e,n,ne,nf,d⟩
 ·have hfn:X.fn x=true:=by
   rcases hf with z | z
   ·exact z
   ·rw [z] at hk;cases hk
  obtain⟨c,hc⟩:=I.ok.has x (.inl hk);obtain⟨w',z⟩:=I.cell x c hc;refine wpAny_storeName_cell I.ok.kind hk hc z (fun h' hc' hs=>?_);obtain⟨oc,hoc,hocd⟩:=id z;refine h { s with heap:=h' } ⟨I.ok,I.os,I.bare,⟨fun b o e n hb hx=>?_,fun b o e n hb hx=>?_,I.base.free,fun b o e hx=>?_,I.base.tups,I.base.frzs,I.base.tbls⟩,⟨m,hn.sameBut hs (Ne.symm (cne x c hc)),fun j y v' e1 e2 e3=>?_⟩,fun y c' e=>?_,I.free,I.freeC,fun p hp=>?_,tracked ⟨oc,hoc,I.freeC x c hc⟩ hs,by simpa using I.len⟩ ⟨c,hs,.inr hc⟩
  ·exact (hs.2 b (zoi (znR (zn0 e) (I.ok.cab x c hfn hc)))).trans (I.base.keep b o e n hb hx)
  ·obtain⟨sl,e1⟩:=I.base.slot b o e n hb hx;exact⟨sl,(hs.2 b (zoi (znR (zn0 e) (I.ok.cab x c hfn hc)))).trans e1⟩
  ·obtain⟨o',e1⟩:=I.base.there b o e hx;exact⟨o',(hs.2 b (zoi (znR (zn0 e) (I.ok.cab x c hfn hc)))).trans e1⟩
  ·by_cases hj:j=i
   ·subst hj;rw [hi] at e1;cases e1;rw [List.getElem?_set_self hiσ] at e2;cases e2;exact⟨u,r,.inr ⟨.inl hk,c,hc,hc'⟩⟩
   ·rw [List.getElem?_set_ne (Ne.symm hj)] at e2;obtain⟨u',r',q⟩:=hl j y v' e1 e2 e3;refine⟨u',r',?_⟩;rcases q with q | ⟨k,c',e,z'⟩
    ·exact .inl q
    ·refine .inr ⟨k,c',e,z'.sameBut hs ?_⟩;rintro rfl;exact hj (zfZ hN e1 (I.ok.inj _ _ _ e hc ▸ hi))
  ·by_cases hcc:c'=c
   ·subst hcc;exact⟨_,hc'⟩
   ·obtain⟨w2,z2⟩:=I.cell y c' e;exact⟨w2,z2.sameBut hs hcc⟩
  ·obtain⟨e,n,ne,nf,d⟩:=I.pin p hp;refine⟨(hs.2 p.1 ?_).trans e,n,ne,nf,d⟩;intro q;rw [q,hoc] at e;have q':oc=p.2:=zol e;exact d w' (by rw [← q'];exact hocd)
theorem zen {M:Model} {A:Around} {E:Value->Shared->Prop} {i:Nat} {x:Str} {v:V} {u:Value} {Q:Unit->Shared->Prop} (I:Inv X pins σ H s) (hN:X.N.Nodup) (hi:X.N[i]?=some x) (hx:Loc X.env.scope x) (r:zaL v u)
  (h:∀ s',Inv X pins (σ.set i (some v)) H s'->Q () s') (hf:X.fn x=true\/X.env.scope.names.lookup x=some .local:=by first | exact .inl rfl | exact .inr rfl | assumption):wpAny M A (storeName X.env x u) Q E s :=
 zeY I hN hi hx r (fun s' I' _=>h s' I') hf
theorem Inv.call' {s':Shared} {ch:List Addr} (I:Inv X pins σ H s) (ho:s'.os=s.os) (u:Un (frs X.stack) ch H H' s.heap s'.heap) (hok:HOk X.prog X.w H' s'.heap) (hg:AllBare s'.gens)
  (hch:∀ b∈ch,(b∈X.ex\/X.s₀.heap.objs.size<=b)/\b≠X.env.locals/\(∀ x c,X.env.cells.lookup x=some c->c≠b)/\∀ p∈X.pn++pins,p.1≠b):Inv X pins σ H' s':=by
 obtain⟨h',g',d',t',o'⟩:=s';have e:o'=s.os:=ho;subst e;exact I.call (g':=g') (t':=t') (d':=d') u hok hg hch
end
abbrev XK:=Value->Option Addr->Hp->Prop
abbrev St:=List (Option V)
abbrev VK:=V->Hp->Prop
abbrev TE:=St->Hp->VK->Prop
abbrev TT:=St->Hp->(Bool->Hp->Prop)->Prop
abbrev TA:=St->Hp->(List V->Hp->Prop)->Prop
structure zir where
 nx:St->Hp->Prop
 rt:VK
 bk:St->Hp->Prop:=fun _ _=>False
 ct:St->Hp->Prop:=fun _ _=>False
abbrev TS:=zir->St->Hp->Prop
def EP (X:Cx) (pins:List (Addr × Obj)) (σ:St) (Q:VK) (u:Value) (s':Shared):Prop:=∃ v H',Inv X pins σ H' s'/\zaL v u/\Q v H'
def TP (X:Cx) (pins:List (Addr × Obj)) (σ:St) (Q:Bool->Hp->Prop) (b:Bool) (s':Shared):Prop:=∃ H',Inv X pins σ H' s'/\Q b H'
def AP (X:Cx) (pins:List (Addr × Obj)) (σ:St) (Q:List V->Hp->Prop) (us:List Value) (s':Shared):Prop:=∃ vs H',Inv X pins σ H' s'/\zaM vs us/\Q vs H'
def SP (X:Cx) (pins:List (Addr × Obj)) (D:zir) (f:Flow) (s':Shared):Prop :=
 match f with
 | .next=>∃ σ' H',Inv X pins σ' H' s'/\D.nx σ' H'
 | .brk=>∃ σ' H',Inv X pins σ' H' s'/\D.bk σ' H'
 | .cont=>∃ σ' H',Inv X pins σ' H' s'/\D.ct σ' H'
 | .ret u=>∃ v σ' H',Inv X pins σ' H' s'/\zaL v u/\D.rt v H'
def PE (X:Cx) (e:Expr) (t:TE):Prop :=
 ∀ (pins:List (Addr × Obj)) (s:Shared) (σ:St) (H:Hp) (Q:VK),Inv X pins σ H s->t σ H Q->wpAny (model X.prog X.w) X.A (eval e X.env) (EP X pins σ Q) X.xe s
def PT (X:Cx) (e:Expr) (t:TT):Prop :=
 ∀ (pins:List (Addr × Obj)) (s:Shared) (σ:St) (H:Hp) (Q:Bool->Hp->Prop),Inv X pins σ H s->t σ H Q->wpAny (model X.prog X.w) X.A (isTrue e X.env (eval e X.env)) (TP X pins σ Q) X.xe s
def PW (X:Cx) (e:Expr) (t:TT):Prop :=
 ∀ (whole:Sem Value) (pins:List (Addr × Obj)) (s:Shared) (σ:St) (H:Hp) (Q:Bool->Hp->Prop),Inv X pins σ H s->t σ H Q->wpAny (model X.prog X.w) X.A (isTrue e X.env whole) (TP X pins σ Q) X.xe s
theorem PW.pt {X:Cx} {e:Expr} {t:TT} (h:PW X e t):PT X e t:=h _
def PA (X:Cx) (es:List Expr) (t:TA):Prop :=
 ∀ (pos:Pos) (pins:List (Addr × Obj)) (s:Shared) (σ:St) (H:Hp) (Q:List V->Hp->Prop),Inv X pins σ H s->t σ H Q->wpAny (model X.prog X.w) X.A (spliced (backTo pos (starEach es X.env))) (AP X pins σ Q) X.xe s
def PS (X:Cx) (st:Stmt) (t:TS):Prop :=
 ∀ (pins:List (Addr × Obj)) (s:Shared) (σ:St) (H:Hp) (D:zir),Inv X pins σ H s->t D σ H->wpAny (model X.prog X.w) X.A (exec st X.env) (SP X pins D) X.xe s
def PSs (X:Cx) (st:List Stmt) (t:TS):Prop :=
 ∀ (pins:List (Addr × Obj)) (s:Shared) (σ:St) (H:Hp) (D:zir),Inv X pins σ H s->t D σ H->wpAny (model X.prog X.w) X.A (execs st X.env) (SP X pins D) X.xe s
theorem thn {α:Type} {t:Sem α} {Q Q':α->Shared->Prop} {M:Model} {A:Around} {E:Value->Shared->Prop} {s:Shared} (h:wpAny M A t Q E s) (hQ:∀ a s,Q a s->Q' a s):wpAny M A t Q' E s:=wpAny_mono h hQ fun _ _ x=>x
section
variable {X:Cx}
def tVar (i:Nat):TE:=fun σ H Q=>∃ v,σ[i]?=some (some v)/\Q v H
def tC (v:V):TE:=fun _ H Q=>Q v H
theorem zl3 {i:Nat} {x:Str} {pos:Pos} (hN:X.N[i]?=some x) (hv:Vis X.env.scope x) (hd:(x == ("__debug__":Str))=false:=by decide) (hcd:(x == ("__classdict__":Str))=false:=by decide):PE X (.Name x pos) (tVar i):=by
 intro pins s σ H Q I h;obtain⟨v,e,h⟩:=h;obtain⟨m,hn,hl⟩:=I.loc;obtain⟨u,r,l⟩:=hl i x v hN e hv;have fin:EP X pins σ Q u s:=⟨v,H,I,r,h⟩;rcases l with ⟨hk,hm⟩ | ⟨hk,c,hc,hcell⟩
 ·exact wpAny_Name (wpAny_loadName_local I.ok.kind hk hn hm fin) hd
 ·rcases hk with hk | hk
  ·exact wpAny_Name (wpAny_loadName_cell I.ok.kind hk hc hcell fin) hd
  ·exact wpAny_Name (wpAny_loadName_free I.ok.kind hk hc hcell fin hcd) hd
theorem zad {i j pos}:PE X (.Constant (.int i) j pos) (tC (.int i)):=fun _ _ _ H _ I h=>wpAny_Constant_int ⟨.int i,H,I.tok _,⟨_,rfl⟩,h⟩
theorem zcu {b j pos}:PE X (.Constant (.bool b) j pos) (tC (.bl b)):=fun _ _ _ H _ I h=>Constant_bool ⟨.bl b,H,I,rfl,h⟩
theorem zf1 {j pos}:PE X (.Constant .none j pos) (tC .non):=fun _ _ _ H _ I h=>Constant_none ⟨.non,H,I,rfl,h⟩
theorem zf3 {x j pos}:PE X (.Constant (.str x) j pos) (tC (.str x)):=fun _ _ _ H _ I h=>Calls.Constant_str ⟨.str x,H,I.tok _,⟨_,rfl⟩,h⟩
def Gl (X:Cx) (x:Str):Prop:=X.env.kindOf x=some .globalImplicit
theorem zde {E:Value->Shared->Prop} {pins:List (Addr × Obj)} {s:Shared} {σ:St} {H:Hp} {x:Str} {u:Value} {pos:Pos} {Q:Value->Shared->Prop} (I:Inv X pins σ H s) (hg:Gl X x) (hm:X.mg x=some u) (h:Q u s)
  (hd:(x == ("__debug__":Str))=false:=by decide):wpAny (model X.prog X.w) X.A (eval (.Name x pos) X.env) Q E s :=
 Calls.Name_function_global I.ok.kind hg (Calls.loadGlobal_global (by rw [I.ok.glob];exact I.mod.glob.keeps I.bk) hm h) hd
theorem zdd {E:Value->Shared->Prop} {pins:List (Addr × Obj)} {s:Shared} {σ:St} {H:Hp} {x:Str} {u:Value} {pos:Pos} {Q:Value->Shared->Prop} (I:Inv X pins σ H s) (hg:Gl X x) (hm:X.mg x=none) (hv:bootBuiltins x=some u) (h:Q u s)
  (hn:x≠"__name__":=by decide) (hd:(x == ("__debug__":Str))=false:=by decide):wpAny (model X.prog X.w) X.A (eval (.Name x pos) X.env) Q E s:=by
 obtain⟨mb,h1,h2⟩:=I.mod.blt;exact Calls.Name_function_global I.ok.kind hg (Calls.loadGlobal_builtin (by rw [I.ok.glob];exact I.mod.glob.keeps I.bk) hm (by rw [I.ok.blt];exact h1.keeps I.bk) ((h2 x hn).trans hv) h) hd
theorem zkz {x:Str} {v:V} {u:Value} {pos:Pos} (hg:Gl X x) (hm:X.mg x=some u) (r:zaL v u) (hd:(x == ("__debug__":Str))=false:=by decide):PE X (.Name x pos) (tC v) :=
 fun _ _ _ H _ I h=>zde I hg hm ⟨v,H,I,r,h⟩ hd
variable {a b:Expr} {ta tb:TE} {pos:Pos}
variable {tA tB':TT} {rest:List Expr}
def tAnd (t u:TT):TT:=fun σ H Q=>t σ H fun c H1=>if c=true then u σ H1 Q else Q false H1
def tOr (t u:TT):TT:=fun σ H Q=>t σ H fun c H1=>if c=true then Q true H1 else u σ H1 Q
def tNot (t:TT):TT:=fun σ H Q=>t σ H fun c H1=>Q (!c) H1
theorem zkL (ha:PT X a tA):PW X (.BoolOp .And [a] pos) tA:=by
 intro wh pins s σ H Q I h;refine isTrue_and (thn (ha pins s σ H Q I h) fun c s1 e=>?_);cases c with
 | true=>exact isTrue_and_nil e
 | false=>exact e
theorem zma (ha:PT X a tA):PW X (.BoolOp .Or [a] pos) tA:=by
 intro wh pins s σ H Q I h;refine isTrue_or (thn (ha pins s σ H Q I h) fun c s1 e=>?_);cases c with
 | false=>exact isTrue_or_nil e
 | true=>exact e
theorem zl9 (ha:PT X a tA) (hb:PW X (.BoolOp .And (b::rest) pos) tB'):PW X (.BoolOp .And (a::b::rest) pos) (tAnd tA tB'):=by
 intro wh pins s σ H Q I h;refine isTrue_and (thn (ha pins s σ H _ I h) fun c s1 ⟨H1,I1,q1⟩=>?_);cases c with
 | true=>exact hb wh pins s1 σ H1 Q I1 q1
 | false=>exact⟨H1,I1,q1⟩
theorem zne (ha:PT X a tA) (hb:PW X (.BoolOp .Or (b::rest) pos) tB'):PW X (.BoolOp .Or (a::b::rest) pos) (tOr tA tB'):=by
 intro wh pins s σ H Q I h;refine isTrue_or (thn (ha pins s σ H _ I h) fun c s1 ⟨H1,I1,q1⟩=>?_);cases c with
 | true=>exact⟨H1,I1,q1⟩
 | false=>exact hb wh pins s1 σ H1 Q I1 q1
theorem zdF (ha:PT X a tA):PT X (.UnaryOp .Not a pos) (tNot tA):=by
 intro pins s σ H Q I h;exact isTrue_not (ha pins s σ H (fun c H1=>Q (!c) H1) I h)
theorem zf2 {op} {t:TE} (h:PE X a t):PE X (.BoolOp op [a] pos) t:=fun pins s σ H Q I hw=>BoolOp_one (h pins s σ H Q I hw)
def tIf (t:TT) (ta tb:TE):TE:=fun σ H Q=>t σ H fun c H1=>if c=true then ta σ H1 Q else tb σ H1 Q
theorem zi1 {c:Expr} (hc:PT X c tA) (ha:PE X a ta) (hb:PE X b tb):PE X (.IfExp c a b pos) (tIf tA ta tb):=by
 intro pins s σ H Q I h;refine wpAny_IfExp (thn (hc pins s σ H _ I h) fun d s1 ⟨H1,I1,q1⟩=>?_);cases d with
 | true=>exact ha pins s1 σ H1 Q I1 q1
 | false=>exact hb pins s1 σ H1 Q I1 q1
end
def SqL (K:PySem.W.Frag) (H:Hp) (a:Addr) (xs:List V):Prop :=
 Rd H a (.lst xs) \/
  ∃ (o:Obj) (its:Array Value) (n:Nat),K.lookup a=some o/\o.cls=.type "list"/\o.dict=none/\o.data=.seq its n/\its.size<=sizeLine/\zaM xs its.toList
def SqT (K:PySem.W.Frag) (H:Hp) (a:Addr) (xs:List V):Prop :=
 Rd H a (.tup xs) \/
  ∃ (o:Obj) (its:Array Value) (n:Nat),K.lookup a=some o/\o.cls=.type "tuple"/\o.data=.seq its n/\its.size<=sizeLine/\zaM xs its.toList
def absV:Value->Option V
 | .none=>some .non
 | .bool b=>some (.bl b)
 | .int i _=>some (.int i)
 | .str x _=>some (.str x)
 | .bytes b _=>some (.byt b)
 | .float b _=>some (.flt b)
 | .ref a=>some (.ref a)
 | .type n=>some (.ty n)
 | _=>none
theorem zaL.abs {x:V} {u:Value} (r:zaL x u):absV u=some x:=by
 cases x with
 | non=>cases r;rfl
 | bl _=>cases r;rfl
 | int _=>obtain⟨t,rfl⟩:=r;rfl
 | str _=>obtain⟨t,rfl⟩:=r;rfl
 | byt _=>obtain⟨t,rfl⟩:=r;rfl
 | flt _=>obtain⟨t,rfl⟩:=r;rfl
 | ref _=>cases r;rfl
 | ty _=>cases r;rfl
theorem zaL.inj {x y:V} {u:Value} (r:zaL x u) (q:zaL y u):x=y:=zol (r.abs.symm.trans q.abs)
theorem zaM.inj:∀ {xs ys:List V} {us:List Value},zaM xs us->zaM ys us->xs=ys
 | _,_,_,.nil,.nil=>rfl
 | _,_,_,.cons r t,.cons r' t'=>by rw [r.inj r',zaM.inj t t']
section
variable {X:Cx} {pins:List (Addr × Obj)} {σ:St} {H:Hp} {s:Shared} {a:Addr} {xs ys:List V}
theorem SqL.of {K:PySem.W.Frag} (h:H a=some (.lst xs)):SqL K H a xs:=.inl (.inl h)
theorem SqT.of {K:PySem.W.Frag} (h:H a=some (.tup xs)):SqT K H a xs:=.inl (.inl h)
theorem Inv.list (I:Inv X pins σ H s) (h:SqL X.K H a xs):∃ its:List Value,zaM xs its/\PlainL s.heap a its.toArray/\xs.length<=sizeLine:=by
 rcases h with h | ⟨o,its,n,hk,hc,hd,hs,hz,r⟩
 ·obtain⟨z,its,n,r,e⟩:=h.ok I.hok;exact⟨its,r,⟨_,n,e,rfl,rfl,rfl⟩,z⟩
 ·refine⟨its.toList,r,⟨o,n,I.kIn a o hk,hc,hd,by simpa using hs⟩,?_⟩;have e:=r.length;simp only [zoe] at e;omega
theorem Inv.tuple (I:Inv X pins σ H s) (h:SqT X.K H a xs):∃ its:List Value,zaM xs its/\IsTup s.heap a its.toArray/\xs.length<=sizeLine:=by
 rcases h with h | ⟨o,its,n,hk,hc,hs,hz,r⟩
 ·obtain⟨z,its,r,p⟩:=h.ok I.hok;exact⟨its,r,p.tup,z⟩
 ·refine⟨its.toList,r,⟨o,I.kIn a o hk,hc,n,by simpa using hs⟩,?_⟩;have e:=r.length;simp only [zoe] at e;omega
theorem Inv.list_inj (I:Inv X pins σ H s) (h:SqL X.K H a xs) (h':SqL X.K H a ys):xs=ys:=by
 obtain⟨its,r,⟨o,n,e,_,_,d⟩,_⟩:=I.list h;obtain⟨its',r',⟨o',n',e',_,_,d'⟩,_⟩:=I.list h';rw [e] at e';cases e';rw [d] at d';injection d' with d1 _
 have:its=its':=by simpa using congrArg Array.toList d1
 subst this;exact r.inj r'
end
abbrev Cx.wish (X:Cx) (E:Value->Shared->Prop):Cx:={ X with xe:=E }
abbrev Cx.nox (X:Cx):Cx:=X.wish fun _ _=>False
theorem Cx.Ok.wish {X:Cx} (ok:X.Ok) (E:Value->Shared->Prop):(X.wish E).Ok :=
 ⟨ok.mod,ok.kind,ok.glob,ok.blt,ok.above,ok.inj,ok.has,ok.cab,ok.hd,ok.frames,ok.stk,ok.exf,ok.bs,ok.bsz,ok.noex,ok.exfs,ok.funs,ok.frf⟩
theorem Cx.Ok.unwish {X:Cx} {E:Value->Shared->Prop} (ok:(X.wish E).Ok):X.Ok :=
 ⟨ok.mod,ok.kind,ok.glob,ok.blt,ok.above,ok.inj,ok.has,ok.cab,ok.hd,ok.frames,ok.stk,ok.exf,ok.bs,ok.bsz,ok.noex,ok.exfs,ok.funs,ok.frf⟩
section
variable {X:Cx} {pins:List (Addr × Obj)} {σ:St} {H:Hp} {s:Shared} {E:Value->Shared->Prop}
theorem Inv.wish (I:Inv X pins σ H s) (E:Value->Shared->Prop):Inv (X.wish E) pins σ H s:=⟨I.ok.wish E,I.os,I.bare,I.base,I.loc,I.cell,I.free,I.freeC,I.pin,I.hok,I.len⟩
theorem Inv.unwish (I:Inv (X.wish E) pins σ H s):Inv X pins σ H s:=⟨I.ok.unwish,I.os,I.bare,I.base,I.loc,I.cell,I.free,I.freeC,I.pin,I.hok,I.len⟩
theorem SP.unwish {D:zir} {f:Flow} {s':Shared} (h:SP (X.wish E) pins D f s'):SP X pins D f s':=by
 cases f with
 | next=>obtain⟨σ',H',I,q⟩:=h;exact⟨σ',H',I.unwish,q⟩
 | brk=>obtain⟨σ',H',I,q⟩:=h;exact⟨σ',H',I.unwish,q⟩
 | cont=>obtain⟨σ',H',I,q⟩:=h;exact⟨σ',H',I.unwish,q⟩
 | ret u=>obtain⟨v,σ',H',I,r,q⟩:=h;exact⟨v,σ',H',I.unwish,r,q⟩
theorem PSs.nox {st:List Stmt} {t:TS} (h:PSs X.nox st t):PSs X st t:=fun pins s σ H D I hw =>
 wpAny_mono (h pins s σ H D (I.wish _) hw) (fun _ _ q=>q.unwish) fun _ _ z=>False.elim z
end
section
variable {X:Cx} {st:Stmt} {rest:List Stmt} {t u:TS} {e:Expr} {te:TE} {pos:Pos}
def znu:TS:=fun D σ H=>D.nx σ H
def tSeq (t u:TS):TS:=fun D σ H=>t { D with nx:=u D } σ H
theorem zaz:PSs X [] znu:=fun _ _ σ H _ I h=>wpAny_execs_nil ⟨σ,H,I,h⟩
theorem zab (h1:PS X st t) (h2:PSs X rest u):PSs X (st::rest) (tSeq t u):=by
 intro pins s σ H D I h;refine wpAny_execs_cons (thn (h1 pins s σ H { D with nx:=u D } I h) fun f s1 q=>?_);cases f with
 | next =>
  obtain⟨σ',H',I',q⟩:=q;exact h2 pins s1 σ' H' D I' q
 | ret v=>exact q
 | brk=>exact q
 | cont=>exact q
theorem zag (h1:PS X st t):PSs X [st] t:=by
 intro pins s σ H D I h;refine wpAny_execs_cons (thn (h1 pins s σ H D I h) fun f s1 q=>?_);cases f with
 | next=>exact wpAny_execs_nil q
 | ret v=>exact q
 | brk=>exact q
 | cont=>exact q
theorem Inv.quiet {pins:List (Addr × Obj)} {σ:St} {H:Hp} {s:Shared} (I:Inv X pins σ H s):interactive X.env=false:=by simp [interactive,I.ok.kind]
def zns (te:TE):TS:=fun D σ H=>te σ H fun _ H1=>D.nx σ H1
theorem zbr (he:PE X e te) (hs:swapsWith e none pos.line X.env=pure false:=by rfl):PS X (.Expr e pos) (zns te):=by
 intro pins s σ H D I h;exact wpAny_Expr_any (thn (he pins s σ H _ I h) fun v s1 ⟨x,H1,I1,r1,q1⟩=>⟨σ,H1,I1,q1⟩) I.quiet hs
def tRet (te:TE):TS:=fun D σ H=>te σ H D.rt
theorem zat (he:PE X e te):PS X (.Return (some e) pos) (tRet te):=by
 intro pins s σ H D I h;exact wpAny_Return_some (thn (he pins s σ H _ I h) fun v s1 ⟨x,H1,I1,r1,q1⟩=>⟨x,σ,H1,I1,r1,q1⟩)
end
abbrev TG:=V->St->Hp->(St->Hp->Prop)->Prop
abbrev TGs:=List V->St->Hp->(St->Hp->Prop)->Prop
def PG (X:Cx) (target:Expr) (t:TG):Prop :=
 ∀ (pins:List (Addr × Obj)) (s:Shared) (σ:St) (H:Hp) (v:V) (u:Value) (Q:St->Hp->Prop),Inv X pins σ H s->zaL v u->t v σ H Q ->
  wpAny (model X.prog X.w) X.A (assign target X.env u) (fun _ s'=>∃ σ' H',Inv X pins σ' H' s'/\Q σ' H') X.xe s
def PGs (X:Cx) (ts:List Expr) (t:TGs):Prop :=
 ∀ (pins:List (Addr × Obj)) (s:Shared) (σ:St) (H:Hp) (vs:List V) (us:List Value) (Q:St->Hp->Prop),Inv X pins σ H s->zaM vs us->t vs σ H Q ->
  wpAny (model X.prog X.w) X.A (assignInOrder ((assignEach ts X.env).map (·.2)) us) (fun _ s'=>∃ σ' H',Inv X pins σ' H' s'/\Q σ' H') X.xe s
abbrev zlf:=V->V->V->Hp->(Hp->Prop)->Prop
def zk7 (X:Cx) (t:zlf):Prop :=
 ∀ (pins:List (Addr × Obj)) (s:Shared) (σ:St) (H:Hp) (o i v:V) (ov iv u:Value) (Q:Hp->Prop),Inv X pins σ H s->zaL o ov->zaL i iv->zaL v u->t o i v H Q ->
  wpAny (model X.prog X.w) X.A (setItem ov iv u) (fun _ s'=>∃ H',Inv X pins σ H' s'/\Q H') X.xe s
abbrev TIp:=V->V->Hp->VK->Prop
def PIp (X:Cx) (op:Operator) (t:TIp):Prop :=
 ∀ (pins:List (Addr × Obj)) (s:Shared) (σ:St) (H:Hp) (x y:V) (v u:Value) (Q:VK),Inv X pins σ H s->zaL x v->zaL y u->t x y H Q ->
  wpAny (model X.prog X.w) X.A (inplaceOp op v u) (EP X pins σ Q) X.xe s
section
variable {X:Cx} {pos:Pos}
def zke (i:Nat):TG:=fun v σ H Q=>Q (σ.set i (some v)) H
theorem zak {i:Nat} {x:Str} (hN:X.N.Nodup) (hi:X.N[i]?=some x) (hx:Loc X.env.scope x) (hf:X.fn x=true\/X.env.scope.names.lookup x=some .local:=by first | exact .inl rfl | exact .inr rfl | assumption):PG X (.Name x pos) (zke i):=by
 intro pins s σ H v u Q I r h;exact wpAny_assign_Name (zen I hN hi hx r (fun s' I'=>⟨_,H,I',h⟩) hf)
def gNil:TGs:=fun vs σ H Q=>vs=[]/\Q σ H
def zm4 (t:TG) (u:TGs):TGs:=fun vs σ H Q=>∃ v r,vs=v::r/\t v σ H fun σ' H'=>u r σ' H' Q
theorem zkC:PGs X [] gNil:=by
 intro pins s σ H vs us Q I r h;obtain⟨e,h⟩:=h;subst e;cases r;exact assignInOrder_nil ⟨σ,H,I,h⟩
theorem zi3 {e:Expr} {es:List Expr} {t:TG} {u:TGs} (h1:PG X e t) (h2:PGs X es u)
  (hs:(assignEach (e::es) X.env).map (·.2)=assign e X.env::(assignEach es X.env).map (·.2):=by rfl):PGs X (e::es) (zm4 t u):=by
 intro pins s σ H vs us Q I r h;obtain⟨v,vr,e1,h⟩:=h;subst e1;cases r with
 | cons r rr =>
  rw [hs];refine assignInOrder_cons (thn (h1 pins s σ H _ _ _ I r h) fun _ s1 ⟨σ1,H1,I1,q1⟩=>?_);exact h2 pins s1 σ1 H1 _ _ Q I1 rr q1
def gTup (K:PySem.W.Frag) (n:Nat) (t:TGs):TG:=fun v σ H Q=>∃ a xs,v=.ref a/\SqT K H a xs/\xs.length=n/\t xs σ H Q
theorem zl4 {es:List Expr} {k:Nat} {t:TGs} {n:Nat} (hc:X.calm=true) (h:PGs X es t)
  (hn:(assignEach es X.env).length=n:=by rfl) (hst:(assignEach es X.env).findIdx? (·.1)=none:=by rfl):PG X (.Tuple es k pos) (gTup X.K n t):=by
 intro pins s σ H v u Q I r hw;obtain⟨a,xs,e1,hq,hl,hw⟩:=hw;subst e1;cases r;obtain⟨its,rv,ht,hz⟩:=I.tuple hq;refine assign_Tuple_tuple (I.ok.hd hc) ht (by simp [hn,← hl,rv.length]) hst fun h' hx=>?_
 have I1:Inv X pins σ H { s with heap:=h' }:=I.kept (t':=s.toks) fun b o e=>hx b o (zoi (zn0 e)) e
 exact h pins _ σ H xs _ Q I1 (by simpa using rv) hw
def gSub (to ti:TE) (t:zlf):TG:=fun v σ H Q=>to σ H fun o H1=>ti σ H1 fun i H2=>t o i v H2 fun H3=>Q σ H3
theorem zcG {o i:Expr} {to ti:TE} {t:zlf} (ho:PE X o to) (hi:PE X i ti) (hs:zk7 X t)
  (ha:∀ v,assign (.Subscript o i pos) X.env v=(do
   let ov ← holding [v] (eval o X.env)
   let iv ← holding [v,ov] (eval i X.env)
   standAt pos
   holding [v,ov,iv] (setItem ov iv v)
   release [v,ov,iv] []):=by intro _;rfl):PG X (.Subscript o i pos) (gSub to ti t):=by
 intro pins s σ H v u Q I r h;rw [ha];refine wpAny_bind (wpAny_holding (thn (ho pins s σ H _ I h) fun ov s1 ⟨x,H1,I1,r1,q1⟩=>?_));refine wpAny_bind (wpAny_holding (thn (hi pins s1 σ H1 _ I1 q1) fun iv s2 ⟨y,H2,I2,r2,q2⟩=>?_));refine wpAny_bind (wpAny_standAt (wpAny_bind (wpAny_holding (thn (hs pins s2 σ H2 x y v ov iv u _ I2 r1 r2 r q2) fun _ s3 ⟨H3,I3,q3⟩=>?_))));exact wpAny_release ⟨σ,H3,I3,q3⟩
def znp (te:TE) (g:TG):TS:=fun D σ H=>te σ H fun x H1=>g x σ H1 D.nx
theorem zbL {tg e:Expr} {te:TE} {g:TG} (he:PE X e te) (hg:PG X tg g) (hs:swapsWithSole [tg] e pos.line X.env=pure false:=by rfl) (hw:swappedStores [tg] e X.env=pure none:=by rfl)
  (h1:(assignEach [tg] X.env).map (·.2)=[assign tg X.env]:=by rfl):PS X (.Assign [tg] e pos) (znp te g):=by
 intro pins s σ H D I h;refine wpAny_Assign_stores (thn (he pins s σ H _ I h) fun v s1 ⟨x,H1,I1,r1,q1⟩=>?_) hs hw;rw [h1];exact thn (hg pins s1 σ H1 x v _ I1 r1 q1) fun _ s2 q=>q
theorem zao {i:Nat} {x:Str} {e:Expr} {te:TE} {pos':Pos} (hN:X.N.Nodup) (hi:X.N[i]?=some x) (hx:Loc X.env.scope x) (he:PE X e te) (hs:swapsWith e (some (.Name x pos')) pos.line X.env=pure false:=by rfl) (hf:X.fn x=true\/X.env.scope.names.lookup x=some .local:=by first | exact .inl rfl | exact .inr rfl | assumption) :
  PS X (.Assign [.Name x pos'] e pos) (znp te (zke i)):=by
 intro pins s σ H D I h;refine wpAny_Assign_Name (thn (he pins s σ H _ I h) fun v s1 ⟨y,H1,I1,r1,q1⟩=>?_) hs;exact zen I1 hN hi hx r1 (fun s2 I2=>⟨_,H1,I2,q1⟩) hf
def tAug (i:Nat) (te:TE) (ti:TIp):TS:=fun D σ H=>∃ x,σ[i]?=some (some x)/\te σ H fun y H1=>ti x y H1 fun z H2=>D.nx (σ.set i (some z)) H2
theorem zl6 {i:Nat} {x:Str} {e:Expr} {te:TE} {op:Operator} {ti:TIp} {pos':Pos} (hN:X.N.Nodup) (hi:X.N[i]?=some x) (hx:Loc X.env.scope x) (he:PE X e te) (ho:PIp X op ti) (hf:X.fn x=true\/X.env.scope.names.lookup x=some .local:=by first | exact .inl rfl | exact .inr rfl | assumption) :
  PS X (.AugAssign (.Name x pos') op e pos) (tAug i te ti):=by
 intro pins s σ H D I h;obtain⟨v,e1,h⟩:=h;obtain⟨m,hn,hl⟩:=I.loc;have vis:Vis X.env.scope x:=by rcases hx with k | k;exact .inl k;exact .inr (.inl k)
 obtain⟨u,r,l⟩:=hl i x v hi e1 vis;refine wpAny_AugAssign_Name ?_;have go:wpAny (model X.prog X.w) X.A (eval e X.env) (fun w s₂=>wpAny (model X.prog X.w) X.A (inplaceOp op u w) (fun r s₃=>wpAny (model X.prog X.w) X.A (storeName X.env x r) (fun _=>SP X pins D .next) X.xe s₃) X.xe s₂) X.xe s:=by
  refine thn (he pins s σ H _ I h) fun w s1 ⟨y,H1,I1,r1,q1⟩=>?_
  refine thn (ho pins s1 σ H1 v y u w _ I1 r r1 q1) fun z s2 ⟨zv,H2,I2,r2,q2⟩=>?_
  exact zen I2 hN hi hx r2 (fun s3 I3=>⟨_,H2,I3,q2⟩) hf
 rcases l with ⟨hk,hm⟩ | ⟨hk,c,hc,hcell⟩
 ·exact wpAny_loadName_local I.ok.kind hk hn hm go
 ·rcases hk with hk | hk
  ·exact wpAny_loadName_cell I.ok.kind hk hc hcell go
  ·rcases hx with k | k
   ·have:X.env.scope.names.lookup x=some .free:=hk
    rw [k] at this;cases this
   ·have:X.env.scope.names.lookup x=some .free:=hk
    rw [k] at this;cases this
def ipI (f:Int->Int->Int):TIp:=fun x y H Q=>∃ i j,x=.int i/\y=.int j/\Q (.int (f i j)) H
theorem zlG:PIp X .Add (ipI fun i j=>i+j):=by
 intro pins s σ H x y v u Q I r1 r2 h;obtain⟨i,j,e1,e2,q⟩:=h;subst e1;subst e2;obtain⟨t,rfl⟩:=r1;obtain⟨t',rfl⟩:=r2;exact iadd_int ⟨.int _,H,I.tok _,⟨_,rfl⟩,q⟩
end
section
variable {X:Cx} {pos:Pos}
def zmv (c:TT) (tb:TS):TS:=fun D σ H=>∃ W:Nat->St->Hp->Prop,(∃ m,W m σ H)/\∀ m σ H,W m σ H ->
 c σ H fun b H1=>if b=true then ∃ N:St->Hp->Prop,(∀ σ' H',N σ' H'->∃ m',m'<m/\W m' σ' H')/\tb { D with nx:=N,ct:=N,bk:=D.nx } σ H1 else D.nx σ H1
theorem zf6 {c:Expr} {body:List Stmt} {tc:TT} {tb:TS} (hp:PassesOwn (model X.prog X.w) X.A X.env X.xe) (hc:PT X c tc) (hb:PSs X body tb):PS X (.While c body [] pos) (zmv tc tb):=by
 intro pins s σ H D I h;obtain⟨W,⟨m0,w0⟩,turn⟩:=h;refine wpAny_While (codeAny_whileLoop (fun n s'=>∃ σ' H',Inv X pins σ' H' s'/\W n σ' H') ?_ m0 ⟨σ,H,I,w0⟩);rintro n s1 ⟨σ1,H1,I1,w1⟩;refine wpAny_passesOwn hp (thn (hc pins s1 σ1 H1 _ I1 (turn n σ1 H1 w1)) fun b s2 ⟨H2,I2,q2⟩=>?_);cases b with
 | true =>
  obtain⟨N,hN,q2⟩:=q2;rw [zod rfl];refine wpAny_passesOwn hp (thn (hb pins s2 σ1 H2 _ I2 q2) fun f s3 q3=>?_);cases f with
  | next =>
   obtain⟨σ3,H3,I3,n3⟩:=q3;obtain⟨m',hm,w3⟩:=hN σ3 H3 n3;exact⟨m',hm,σ3,H3,I3,w3⟩
  | cont =>
   obtain⟨σ3,H3,I3,n3⟩:=q3;obtain⟨m',hm,w3⟩:=hN σ3 H3 n3;exact⟨m',hm,σ3,H3,I3,w3⟩
  | brk=>exact q3
  | ret v=>exact q3
 | false =>
  rw [zoc zok];exact wpAny_execs_nil ⟨σ1,H2,I2,q2⟩
end
structure It where
 go:Nat->Hp->Prop
 yld:Nat->Hp->V->Hp->Prop
 stop:Nat->Hp->Prop
def zin (X:Cx) (pins:List (Addr × Obj)) (H:Hp) (b:Addr):Prop :=
 H b=none/\b≠X.env.locals/\b ∉ X.fs/\(b∈X.ex\/X.s₀.heap.objs.size<=b)/\(∀ x c,X.env.cells.lookup x=some c->c≠b)/\∀ p∈X.pn++pins,p.1≠b
theorem Inv.fpOk {X:Cx} {pins:List (Addr × Obj)} {σ:St} {H H':Hp} {s:Shared} {b:Addr} (I:Inv X pins σ H s) (hb:s.heap.objs.size<=b) (hn:H' b=none):zin X pins H' b:=by
 refine⟨hn,Nat.ne_of_gt (znR I.lt hb),I.nofs hb,.inr (znP I.sz hb),fun x c e z=>?_,fun p hp z=>?_⟩
 ·obtain⟨v,q⟩:=I.cell x c e;exact absurd (znR q.lt (by rw [z];exact hb)) (Nat.lt_irrefl _)
 ·exact absurd (znR (zn0 (I.pin p hp).1) (by rw [z];exact hb)) (Nat.lt_irrefl _)
structure zlg (P:Program) (w:World) (K:PySem.W.Frag) (tg:Expr) (J:It) (fp:List Addr) (it:Addr) (tn:Nat->Heap->Prop):Prop where
 mem:it∈fp
 obj:∀ i h,tn i h->∀ b∈fp,∃ o,h.get? b=some o/\∀ v,o.data≠.cell v
 keep:∀ i h h',tn i h->(∀ b∈fp,∀ o,h.get? b=some o->h'.get? b=some o)->tn i h'
 item:∀ (X:Cx),X.prog=P->X.w=w->X.K=K->X.calm=true->∀ (i:Nat) (pins:List (Addr × Obj)) (s:Shared) (σ:St) (H:Hp) (E:Value->Shared->Prop),Inv X pins σ H s->(∀ b∈fp,zin X pins H b)->tn i s.heap->J.go i H ->
  wpAny (model P w) X.A (pyNext (.ref it)) (fun r s1=>∃ u,r=some u /\
   wpAny (model P w) X.A (letOwnedTupleGo tg (.ref it) u) (fun _ s2=>∃ x H',Inv X pins σ H' s2/\zaL x u/\J.yld i H x H'/\tn (i+1) s2.heap/\∀ b∈fp,H' b=none) E s1) E s
 done:∀ (X:Cx),X.prog=P->X.w=w->X.K=K->X.calm=true->∀ (i:Nat) (pins:List (Addr × Obj)) (s:Shared) (σ:St) (H:Hp) (E:Value->Shared->Prop),Inv X pins σ H s->(∀ b∈fp,zin X pins H b)->tn i s.heap->J.stop i H ->
  wpAny (model P w) X.A (pyNext (.ref it)) (fun r s1=>r=none/\Inv X pins σ H s1) E s
 self:∀ (A:Around) (i:Nat) (s:Shared) (Q:Value->Shared->Prop) (E:Value->Shared->Prop),tn i s.heap->Q (.ref it) s->wpAny (model P w) A (pyIter (.ref it)) Q E s
abbrev TI:=St->Hp->(It->Hp->Prop)->Prop
def PIE (X:Cx) (pins:List (Addr × Obj)) (σ:St) (tg:Expr) (R:It->Hp->Prop) (itv:Value) (s2:Shared):Prop :=
 ∃ (it:Addr) (fp:List Addr) (tn:Nat->Heap->Prop) (J:It) (H':Hp),itv=.ref it/\Inv X pins σ H' s2/\zlg X.prog X.w X.K tg J fp it tn/\tn 0 s2.heap/\(∀ b∈fp,zin X pins H' b)/\R J H'
def PI (X:Cx) (tg iter:Expr) (wi:TI):Prop :=
 ∀ (pins:List (Addr × Obj)) (s:Shared) (σ:St) (H:Hp) (R:It->Hp->Prop),Inv X pins σ H s->wi σ H R ->
  wpAny (model X.prog X.w) X.A (eval iter X.env) (fun v s1=>wpAny (model X.prog X.w) X.A (pyIter v) (PIE X pins σ tg R) X.xe s1) X.xe s
theorem zlD {M:Model} {A:Around} {E:Value->Shared->Prop} {s:Shared} {tg:Expr} {it:Addr} {u:Value} {o:Obj} {n:String} {vs:Array Value} {Q:Unit->Shared->Prop} (ho:s.heap.get? it=some o) (hc:o.cls=.type n) (hd:o.data=.fields vs)
  (hn:["enumerate","zip","dict_itemiterator","dict_reverseitemiterator","odict_iterator","itertools.zip_longest","itertools.pairwise"].contains n=false) (hQ:Q () s):wpAny M A (letOwnedTupleGo tg (.ref it) u) Q E s:=by
 unfold letOwnedTupleGo;cases tg <;> first
  | exact wpAny_pure hQ
  | (cases u <;> first
    | exact wpAny_pure hQ
    | (refine wpAny_bind (wpAny_load ho ?_);rw [hc,hd];show wpAny M A (if (["enumerate","zip","dict_itemiterator","dict_reverseitemiterator","odict_iterator","itertools.zip_longest","itertools.pairwise"].contains n && vs[0]? == some (rawInt _))=true then _ else _) Q E s;rw [zoc (by intro h;rw [hn,Bool.false_and] at h;cases h)];exact wpAny_pure hQ))
def Itl (K:PySem.W.Frag) (a:Addr):It :=
 ⟨fun i H=>∃ xs x,SqL K H a xs/\xs[i]?=some x,fun i H x H'=>H'=H/\∀ xs,SqL K H a xs->xs[i]?=some x,fun i H=>∃ xs,SqL K H a xs/\xs.length<=i⟩
def Itr (lo:Int) (n:Nat):It:=⟨fun i _=>i<n,fun i H x H'=>H'=H/\x=.int (lo+i),fun i _=>n<=i⟩
theorem zig {P:Program} {w:World} {K:PySem.W.Frag} {tg:Expr} (a it:Addr):zlg P w K tg (Itl K a) [it] it (fun i h=>h.IsListIter it a i) where
 mem:=by simp
 obj:=fun i h st b hb=>by
  have e:b=it:=by simpa using hb
  subst e;obtain⟨o,e,c,d⟩:=st;exact⟨o,e,fun v z=>by rw [d] at z;cases z⟩
 keep:=fun i h h' st k=>st.at fun o e=>k it (by simp) o e
 item:=by
  intro X hP hw hK hc i pins s σ H E I hf st hg;subst hP hw hK;obtain⟨xs,x,hq,hx⟩:=hg;obtain⟨its,rv,p,hz⟩:=I.list hq;obtain⟨u,hu,ru⟩:=rv.get hx;obtain⟨f0,f1,f2,f3,f4,f5⟩:=hf it (by simp);refine wpAny_pyNext_list_item st p.isList (x:=u) (by simpa using hu) fun h' st' sb=>?_
  have I1:Inv X pins σ H { s with heap:=h' }:=I.turned (t':=s.toks) (fun b o hb e=>(sb.2 b hb).trans e) f0 f1 f3 f4 f5;obtain⟨o,e,c,d⟩:=id st';exact⟨u,rfl,zlD (s:={ s with heap:=h' }) e c d (by decide) ⟨x,H,I1,ru,⟨rfl,fun ys hy=>by rw [I.list_inj hy hq];exact hx⟩,st',fun b hb=>(hf b hb).1⟩⟩
 done:=by
  intro X hP hw hK hc i pins s σ H E I hf st hg;subst hP hw hK;obtain⟨xs,hq,hx⟩:=hg;obtain⟨its,rv,p,hz⟩:=I.list hq;obtain⟨f0,f1,f2,f3,f4,f5⟩:=hf it (by simp);have hl:=rv.length;exact wpAny_pyNext_list_end (I.ok.hd hc) st p.isList (by simp;omega) fun h' eb=>⟨rfl,I.turned (t':=s.toks) (fun b o hb e=>eb b o hb e) f0 f1 f3 f4 f5⟩
 self:=fun _ _ _ _ _ st h=>wpAny_pyIter_listiter st h
theorem zgN {P:Program} {w:World} {K:PySem.W.Frag} {tg:Expr} (it:Addr) (lo:Int) (n:Nat):zlg P w K tg (Itr lo n) [it] it (fun i h=>IsRangeIter h it (lo+(i:Nat)*1) ((n:Int)-(i:Nat)) 1) where
 mem:=by simp
 obj:=fun i h st b hb=>by
  have e:b=it:=by simpa using hb
  subst e;exact⟨_,st,fun v z=>by
   have z':Data.fields _=Data.cell v:=z;cases z'⟩
 keep:=fun i h h' st k=>k it (by simp) _ st
 item:=by
  intro X hP hw hK hc i pins s σ H E I hf st hg;subst hP hw hK;obtain⟨f0,f1,f2,f3,f4,f5⟩:=hf it (by simp);have W:=Walks.range (prog:=X.prog) (w:=X.w) (I.ok.hd hc) it lo 1 n;refine W.item i s _ _ hg st fun v h' tk hv st' kk=>?_
  obtain⟨t,rfl⟩:=hv;have I1:Inv X pins σ H { s with heap:=h',toks:=tk }:=I.turned (fun b o hb e=>kk b o (by simpa using hb) e) f0 f1 f3 f4 f5;refine⟨_,rfl,zlD (s:={ s with heap:=h',toks:=tk }) (n:="range_iterator") st' rfl rfl (by decide) ⟨.int (lo+i),H,I1,⟨t,?_⟩,⟨rfl,rfl⟩,st',fun b hb=>(hf b hb).1⟩⟩;rw [Int.mul_one]
 done:=by
  intro X hP hw hK hc i pins s σ H E I hf st hg;subst hP hw hK;obtain⟨f0,f1,f2,f3,f4,f5⟩:=hf it (by simp);exact wpAny_pyNext_range_end (I.ok.hd hc) st (by have:n<=i:=hg;omega) fun h' eb=>⟨rfl,I.turned (t':=s.toks) (fun b o hb e=>eb b o hb e) f0 f1 f3 f4 f5⟩
 self:=fun _ _ _ _ _ st h=>wpAny_pyIter_rangeiter st h
section
variable {X:Cx} {tg:Expr}
theorem zgb {pins:List (Addr × Obj)} {σ:St} {H:Hp} {s:Shared} {R:It->Hp->Prop} {E:Value->Shared->Prop} {lo hi:Int} {t u v:Tok} {tk:Nat} (I:Inv X pins σ H s) (h1:-(2 ^ 62)<=lo) (h2:lo<2 ^ 62) (h3:-(2 ^ 62)<=hi) (h4:hi<2 ^ 62)
  (q:R (Itr lo (hi-lo).toNat) H):wpAny (model X.prog X.w) X.A (pyIter (.ref s.heap.objs.size)) (PIE X pins σ tg R) E { s with heap:=s.heap.push { cls:=.type "range",data:=.fields #[.int lo t,.int hi u,.int 1 v] },toks:=tk }:=by
 refine wpAny_pyIter_range (IsRange.new ..) (small_one h1 h2 h3 h4) ?_;have I1:Inv X pins σ H { s with heap:=s.heap.push { cls:=.type "range",data:=.fields #[.int lo t,.int hi u,.int 1 v] },toks:=tk }:=I.kept fun b o e=>znN _ e
 refine⟨(s.heap.push { cls:=.type "range",data:=.fields #[.int lo t,.int hi u,.int 1 v] }).objs.size,[(s.heap.push { cls:=.type "range",data:=.fields #[.int lo t,.int hi u,.int 1 v] }).objs.size],_,_,H,rfl,
  I1.kept (t':=tk) fun b o e=>znN _ e,zgN _ lo (hi-lo).toNat,?_,fun b hb=>?_,q⟩
 ·have e1:lo+((0:Nat):Int)*1=lo:=by simp
  have e2:(((hi-lo).toNat:Nat):Int)-((0:Nat):Int)=Builtin.Range.rangeSize lo hi 1:=by rw [rangeSize_one];split <;> omega
  show IsRangeIter _ _ (lo+((0:Nat):Int)*1) ((((hi-lo).toNat:Nat):Int)-((0:Nat):Int)) 1;rw [e1,e2];exact zn9 _ rfl
 ·have e:b=(s.heap.push { cls:=.type "range",data:=.fields #[.int lo t,.int hi u,.int 1 v] }).objs.size:=by simpa using hb
  subst e;exact I1.fpOk (znQ _) (I1.hok.fresh (znQ _))
def tFor (wi:TI) (g:TG) (tb:TS):TS:=fun D σ H=>wi σ H fun J H1=>∃ W:Nat->Nat->St->Hp->Prop,(∃ m,W 0 m σ H1)/\∀ i m σ H,W i m σ H ->
 (J.stop i H/\D.nx σ H)\/(J.go i H/\∃ N:St->Hp->Prop,(∀ σ' H',N σ' H'->∃ m',m'<m/\W (i+1) m' σ' H')/\∀ x H',J.yld i H x H'->g x σ H' fun σ2 H2=>tb { D with nx:=N,ct:=N,bk:=D.nx } σ2 H2)
def zeM (fp:List Addr) (h:Heap):List (Addr × Obj):=fp.filterMap fun b=>(h.get? b).map fun o=>(b,o)
theorem zb1 {fp:List Addr} {h:Heap} {b:Addr} {o:Obj} (hb:b∈fp) (e:h.get? b=some o):(b,o)∈zeM fp h:=List.mem_filterMap.mpr ⟨b,hb,by rw [e];rfl⟩
theorem zhI {fp:List Addr} {h:Heap} {p:Addr × Obj} (hp:p∈zeM fp h):p.1∈fp/\h.get? p.1=some p.2:=by
 obtain⟨b,hb,e⟩:=List.mem_filterMap.mp hp;cases q:h.get? b with
 | none=>rw [q] at e;cases e
 | some o =>
  rw [q] at e;have e':(b,o)=p:=zol e;subst e';exact⟨hb,q⟩
theorem Inv.pinned {pins:List (Addr × Obj)} {σ:St} {H:Hp} {s:Shared} {fp:List Addr} (I:Inv X pins σ H s) (hf:∀ b∈fp,zin X pins H b) (ho:∀ b∈fp,∃ o,s.heap.get? b=some o/\∀ v,o.data≠.cell v):Inv X (pins++zeM fp s.heap) σ H s :=
 I.pins_of fun p hp=>(znL.mp hp).elim (fun z=>I.pin p (zn7 _ z)) fun z=>by
  obtain⟨hb,e⟩:=zhI z;obtain⟨f0,f1,f2,_⟩:=hf p.1 hb;obtain⟨o,e',d⟩:=ho p.1 hb;rw [e] at e';cases e';exact⟨e,f0,f1,f2,d⟩
theorem Inv.unpinned {pins pl:List (Addr × Obj)} {σ:St} {H:Hp} {s:Shared} (I:Inv X (pins++pl) σ H s):Inv X pins σ H s:=I.pins_of fun p hp=>I.pin p (zn7 _ (zn6 _ hp))
theorem zb8 {iter:Expr} {body:List Stmt} {wi:TI} {g:TG} {tb:TS} {pos:Pos} (hp:PassesOwn (model X.prog X.w) X.A X.env X.xe) (hc:X.calm=true) (hi:PI X tg iter wi) (hg:PG X tg g) (hb:PSs X body tb)
  (hs:∀ x,foldedSetIterable iter X.env x=pure x:=by intro _;rfl):PS X (.For tg iter body [] pos) (tFor wi g tb):=by
 intro pins s σ H D I h;refine wpAny_For (thn (hi pins s σ H _ I h) fun v s1 h1=>thn h1 fun itv s2 h2=>?_) hs;obtain⟨it,fp,tn,J,H2,e,I2,T,st2,f2,W,⟨m0,w0⟩,turn⟩:=h2;subst e;have stat:∀ {H':Hp},(∀ b∈fp,H' b=none)->∀ b∈fp,zin X pins H' b:=fun hn b hb=>⟨hn b hb,(f2 b hb).2⟩
 refine codeAny_forLoop_any (fun n s'=>∃ i σ' H',Inv X pins σ' H' s'/\tn i s'.heap/\(∀ b∈fp,H' b=none)/\W i n σ' H') ?_ m0 ⟨0,σ,H2,I2,st2,fun b hb=>(f2 b hb).1,w0⟩;rintro n s3 ⟨i,σ3,H3,I3,st3,fr3,w3⟩;rcases turn i n σ3 H3 w3 with ⟨stop,qn⟩ | ⟨go,N,hN,step⟩
 ·refine wpAny_passesOwn hp (thn (T.done X rfl rfl rfl hc i pins s3 σ3 H3 X.xe I3 (stat fr3) st3 stop) fun r s4 ⟨hr,I4⟩=>?_);subst hr;exact wpAny_execs_nil ⟨σ3,H3,I4,qn⟩
 ·refine wpAny_passesOwn hp (thn (T.item X rfl rfl rfl hc i pins s3 σ3 H3 X.xe I3 (stat fr3) st3 go) fun r s4 ⟨u,hr,h4⟩=>?_);subst hr;refine wpAny_passesOwn hp (thn h4 fun _ s5 ⟨x,H5,I5,r5,y5,st5,fr5⟩=>?_);have I5':=I5.pinned (stat fr5) (T.obj _ _ st5);refine wpAny_passesOwn hp (thn (hg _ s5 σ3 H5 x u _ I5' r5 (step x H5 y5)) fun _ s6 ⟨σ6,H6,I6,q6⟩=>?_);refine wpAny_passesOwn hp (thn (hb _ s6 σ6 H6 _ I6 q6) fun f s7 q7=>?_);have again:∀ {σ7:St} {H7:Hp},Inv X (pins++zeM fp s5.heap) σ7 H7 s7->N σ7 H7->∃ m,m<n/\∃ i σ' H',Inv X pins σ' H' s7/\tn i s7.heap/\(∀ b∈fp,H' b=none)/\W i m σ' H':=fun {σ7 H7} I7 n7=>by
   obtain⟨m',hm,w7⟩:=hN σ7 H7 n7;refine⟨m',hm,i+1,σ7,H7,I7.unpinned,T.keep _ _ _ st5 fun b hb o e=>(I7.pin (b,o) (zn7 _ (zn7 _ (zb1 hb e)))).1,fun b hb=>?_,w7⟩;obtain⟨o,e,d⟩:=T.obj _ _ st5 b hb;exact (I7.pin (b,o) (zn7 _ (zn7 _ (zb1 hb e)))).2.1
  cases f with
  | next=>obtain⟨σ7,H7,I7,n7⟩:=q7;exact again I7 n7
  | cont=>obtain⟨σ7,H7,I7,n7⟩:=q7;exact again I7 n7
  | brk=>obtain⟨σ7,H7,I7,q7⟩:=q7;exact⟨σ7,H7,I7.unpinned,q7⟩
  | ret v=>obtain⟨x7,σ7,H7,I7,r7,q7⟩:=q7;exact⟨x7,σ7,H7,I7.unpinned,r7,q7⟩
end
theorem zfP {K:PySem.W.Frag} {a:Addr} {xs:List V} {g:TG} {tb:TS} {D:zir} {σ:St} {H:Hp} (Pv:Nat->St->Hp->Prop) (h0:Pv 0 σ H) (hl:∀ i σ H,i<=xs.length->Pv i σ H->SqL K H a xs)
  (hs:∀ i x σ H,xs[i]?=some x->Pv i σ H->g x σ H fun σ2 H2=>tb { D with nx:=Pv (i+1),ct:=Pv (i+1),bk:=D.nx } σ2 H2) (hd:∀ σ H,Pv xs.length σ H->D.nx σ H) :
  ∃ W:Nat->Nat->St->Hp->Prop,(∃ m,W 0 m σ H)/\∀ i m σ H,W i m σ H ->
   ((Itl K a).stop i H/\D.nx σ H)\/((Itl K a).go i H/\∃ N:St->Hp->Prop,(∀ σ' H',N σ' H'->∃ m',m'<m/\W (i+1) m' σ' H')/\∀ x H',(Itl K a).yld i H x H'->g x σ H' fun σ2 H2=>tb { D with nx:=N,ct:=N,bk:=D.nx } σ2 H2):=by
 refine⟨fun i m σ H=>m=xs.length-i/\i<=xs.length/\Pv i σ H,⟨xs.length,by simp,Nat.zero_le _,h0⟩,?_⟩;rintro i m σ H ⟨rfl,hi,p⟩;have q:=hl i σ H hi p;by_cases hlt:i<xs.length
 ·refine .inr ⟨⟨xs,xs[i],q,by simp [hlt]⟩,Pv (i+1),fun σ' H' p'=>⟨xs.length-(i+1),by omega,rfl,hlt,p'⟩,fun x H' y=>?_⟩;obtain⟨e,y⟩:=y;subst e;exact hs i x σ _ (y xs q) p
 ·have e:i=xs.length:=by omega
  subst e;exact .inl ⟨⟨xs,q,znQ _⟩,hd σ H p⟩
theorem zbo {lo:Int} {n:Nat} {g:TG} {tb:TS} {D:zir} {σ:St} {H:Hp} (Pv:Nat->St->Hp->Prop) (h0:Pv 0 σ H)
  (hs:∀ i σ H,i<n->Pv i σ H->g (.int (lo+i)) σ H fun σ2 H2=>tb { D with nx:=Pv (i+1),ct:=Pv (i+1),bk:=D.nx } σ2 H2) (hd:∀ σ H,Pv n σ H->D.nx σ H) :
  ∃ W:Nat->Nat->St->Hp->Prop,(∃ m,W 0 m σ H)/\∀ i m σ H,W i m σ H ->
   ((Itr lo n).stop i H/\D.nx σ H)\/((Itr lo n).go i H/\∃ N:St->Hp->Prop,(∀ σ' H',N σ' H'->∃ m',m'<m/\W (i+1) m' σ' H')/\∀ x H',(Itr lo n).yld i H x H'->g x σ H' fun σ2 H2=>tb { D with nx:=N,ct:=N,bk:=D.nx } σ2 H2):=by
 refine⟨fun i m σ H=>m=n-i/\i<=n/\Pv i σ H,⟨n,by simp,Nat.zero_le _,h0⟩,?_⟩;rintro i m σ H ⟨rfl,hi,p⟩;by_cases hlt:i<n
 ·refine .inr ⟨hlt,Pv (i+1),fun σ' H' p'=>⟨n-(i+1),by omega,rfl,hlt,p'⟩,fun x H' y=>?_⟩;obtain⟨e,y⟩:=y;subst e y;exact hs i σ _ hlt p
 ·have e:i=n:=by omega
  subst e;exact .inl ⟨znQ _,hd σ H p⟩
abbrev R2:=V->V->Hp->VK->Prop
def OpR (X:Cx) (f:Value->Value->Sem Value) (r:R2):Prop :=
 ∀ (pins:List (Addr × Obj)) (s:Shared) (σ:St) (H:Hp) (x y:V) (v u:Value) (Q:VK),Inv X pins σ H s->zaL x v->zaL y u->r x y H Q ->
  wpAny (model X.prog X.w) X.A (f v u) (EP X pins σ Q) X.xe s
def UnR (X:Cx) (f:Value->Sem Value) (r:V->Hp->VK->Prop):Prop :=
 ∀ (pins:List (Addr × Obj)) (s:Shared) (σ:St) (H:Hp) (x:V) (v:Value) (Q:VK),Inv X pins σ H s->zaL x v->r x H Q ->
  wpAny (model X.prog X.w) X.A (f v) (EP X pins σ Q) X.xe s
def za9 (X:Cx) (f:Value) (r:List V->Hp->VK->Prop):Prop :=
 ∀ (pins:List (Addr × Obj)) (s:Shared) (σ:St) (H:Hp) (xs:List V) (us:List Value) (Q:VK),Inv X pins σ H s->zaM xs us->r xs H Q ->
  wpAny (model X.prog X.w) X.A (call f us) (EP X pins σ Q) X.xe s
def tOp (r:R2) (ta tb:TE):TE:=fun σ H Q=>ta σ H fun x H1=>tb σ H1 fun y H2=>r x y H2 Q
def tUn (r:V->Hp->VK->Prop) (ta:TE):TE:=fun σ H Q=>ta σ H fun x H1=>r x H1 Q
def rI (C:Int->Int->Prop) (g:Int->Int->V):R2:=fun x y H Q=>∃ i j,x=.int i/\y=.int j/\C i j/\Q (g i j) H
def rI0 (g:Int->Int->V):R2:=fun x y H Q=>∃ i j,x=.int i/\y=.int j/\Q (g i j) H
def rU (g:Int->V):V->Hp->VK->Prop:=fun x H Q=>∃ i,x=.int i/\Q (g i) H
section
variable {X:Cx} {a b c:Expr} {ta tb tc:TE} {pos:Pos}
theorem zmO (ha:PE X a ta) (hb:PE X b tb) {pins:List (Addr × Obj)} {s:Shared} {σ:St} {H:Hp} {R:V->V->Hp->Prop} (I:Inv X pins σ H s)
  (h:ta σ H fun x H1=>tb σ H1 fun y H2=>R x y H2) {Q:Value->Shared->Prop} {f:Value->Value->Sem Value}
  (hf:∀ v u s2 x y H2,Inv X pins σ H2 s2->zaL x v->zaL y u->R x y H2->wpAny (model X.prog X.w) X.A (f v u) Q X.xe s2) :
  wpAny (model X.prog X.w) X.A (eval a X.env) (fun v s₁=>wpAny (model X.prog X.w) X.A (eval b X.env) (fun u s₂=>wpAny (model X.prog X.w) X.A (f v u) Q X.xe s₂) X.xe s₁) X.xe s:=by
 refine thn (ha pins s σ H _ I h) fun v s1 ⟨x,H1,I1,r1,q1⟩=>?_
 refine thn (hb pins s1 σ H1 _ I1 q1) fun u s2 ⟨y,H2,I2,r2,q2⟩=>?_
 exact hf v u s2 x y H2 I2 r1 r2 q2
theorem zav {op:Operator} {r:R2} (ho:OpR X (binaryOp op) r) (ha:PE X a ta) (hb:PE X b tb):PE X (.BinOp a op b pos) (tOp r ta tb):=by
 intro pins s σ H Q I h;exact wpAny_BinOp (zmO ha hb I h fun v u s2 x y H2 I2 rx ry q=>ho pins s2 σ H2 x y v u Q I2 rx ry q)
theorem zhR {op:UnaryOp} {r:V->Hp->VK->Prop} (ho:UnR X (unaryOp op) r) (ha:PE X a ta):PE X (.UnaryOp op a pos) (tUn r ta):=by
 intro pins s σ H Q I h;exact UnaryOp_ (thn (ha pins s σ H _ I h) fun v s1 ⟨x,H1,I1,r1,q1⟩=>ho pins s1 σ H1 x v Q I1 r1 q1)
theorem opI {f:Value->Value->Sem Value} {C:Int->Int->Prop} {g:Int->Int->Int}
  (rule:∀ (i j:Int) (t u:Tok) (s:Shared) (Q:Value->Shared->Prop) (E:Value->Shared->Prop),C i j->Q (.int (g i j) s.toks) { s with toks:=s.toks+1 }->wpAny (model X.prog X.w) X.A (f (.int i t) (.int j u)) Q E s) :
  OpR X f (rI C fun i j=>.int (g i j)):=by
 intro pins s σ H x y v u Q I rx ry h;obtain⟨i,j,rfl,rfl,hc,q⟩:=h;obtain⟨t,rfl⟩:=rx;obtain⟨t',rfl⟩:=ry;exact rule i j t t' s _ _ hc ⟨.int (g i j),H,I.tok _,⟨_,rfl⟩,q⟩
theorem opI0 {f:Value->Value->Sem Value} {g:Int->Int->Int}
  (rule:∀ (i j:Int) (t u:Tok) (s:Shared) (Q:Value->Shared->Prop) (E:Value->Shared->Prop),Q (.int (g i j) s.toks) { s with toks:=s.toks+1 }->wpAny (model X.prog X.w) X.A (f (.int i t) (.int j u)) Q E s) :
  OpR X f (rI0 fun i j=>.int (g i j)):=by
 intro pins s σ H x y v u Q I rx ry h;obtain⟨i,j,rfl,rfl,q⟩:=h;obtain⟨t,rfl⟩:=rx;obtain⟨t',rfl⟩:=ry;exact rule i j t t' s _ _ ⟨.int (g i j),H,I.tok _,⟨_,rfl⟩,q⟩
theorem zmG {f:Value->Value->Sem Value} {g:Int->Int->Bool}
  (rule:∀ (i j:Int) (t u:Tok) (s:Shared) (Q:Value->Shared->Prop) (E:Value->Shared->Prop),Q (.bool (g i j)) s->wpAny (model X.prog X.w) X.A (f (.int i t) (.int j u)) Q E s) :
  OpR X f (rI0 fun i j=>.bl (g i j)):=by
 intro pins s σ H x y v u Q I rx ry h;obtain⟨i,j,rfl,rfl,q⟩:=h;obtain⟨t,rfl⟩:=rx;obtain⟨t',rfl⟩:=ry;exact rule i j t t' s _ _ ⟨.bl (g i j),H,I,rfl,q⟩
def zmH (i j:Int):Prop:=0<=j/\j<=1000000/\i.natAbs<2 ^ 64
def zmE (i j:Int):Prop:=(-(2 ^ 64)<i/\i<2 ^ 64)\/(-(2 ^ 64)<j/\j<2 ^ 64)
theorem zmE.ok {i j:Int} (h:zmE i j):IntMulOk i j:=by
 rcases h with ⟨h1,h2⟩ | ⟨h1,h2⟩
 ·exact .of_left (intBits_le_64 h1 h2)
 ·exact .of_right (intBits_le_64 h1 h2)
theorem zlS:OpR X (binaryOp .Add) (rI0 fun i j=>.int (i+j)):=opI0 fun _ _ _ _ _ _ _ q=>add_int q
theorem zlY:OpR X (binaryOp .Sub) (rI0 fun i j=>.int (i-j)):=opI0 fun _ _ _ _ _ _ _ q=>sub_int q
theorem zlW:OpR X (binaryOp .Mult) (rI zmE fun i j=>.int (i*j)):=opI fun _ _ _ _ _ _ _ hc q=>mul_int q hc.ok
theorem zlV:OpR X (binaryOp .Mod) (rI (fun _ j=>0<j) fun i j=>.int (i % j)):=opI fun i j _ _ _ _ _ hc q=>by
 have h1:(0:Int)<j:=hc;exact mod_int' (by omega) (by rw [Int.fmod_eq_emod_of_nonneg i (by omega)];exact q)
theorem zlX:OpR X (binaryOp .Pow) (rI zmH fun i j=>.int (i ^ j.toNat)):=opI fun _ _ _ _ _ _ _ hc q=>pow_int_small hc.1 hc.2.1 hc.2.2 q
theorem unI {f:Value->Sem Value} {g:Int->Int}
  (rule:∀ (i:Int) (t:Tok) (s:Shared) (Q:Value->Shared->Prop) (E:Value->Shared->Prop),Q (.int (g i) s.toks) { s with toks:=s.toks+1 }->wpAny (model X.prog X.w) X.A (f (.int i t)) Q E s) :
  UnR X f (rU fun i=>.int (g i)):=by
 intro pins s σ H x v Q I rx h;obtain⟨i,rfl,q⟩:=h;obtain⟨t,rfl⟩:=rx;exact rule i t s _ _ ⟨.int (g i),H,I.tok _,⟨_,rfl⟩,q⟩
theorem zmy:UnR X (unaryOp .USub) (rU fun i=>.int (-i)):=unI fun _ _ _ _ _ q=>neg_int q
end
section
variable {X:Cx} {a b c:Expr} {ta tb tc:TE} {pos:Pos}
theorem zc8 {pins:List (Addr × Obj)} {σ:St} {H:Hp} {s:Shared} {Q:VK} {k k':Bool} (I:Inv X pins σ H s) (q:Q (.bl k) H) (e:k=k'):EP X pins σ Q (.bool k') s:=by
 subst e;exact⟨.bl k,H,I,rfl,q⟩
theorem znc:OpR X (compareOp .Lt) (rI0 fun i j=>.bl (decide (i<j))):=zmG fun _ _ _ _ _ _ _ q=>lt_int q
theorem znb:OpR X (compareOp .LtE) (rI0 fun i j=>.bl (decide (i<=j))):=zmG fun _ _ _ _ _ _ _ q=>le_int q
theorem zna:OpR X (compareOp .Gt) (rI0 fun i j=>.bl (decide (j<i))):=zmG fun _ _ _ _ _ _ _ q=>gt_int q
theorem zm9:OpR X (compareOp .GtE) (rI0 fun i j=>.bl (decide (j<=i))):=zmG fun _ _ _ _ _ _ _ q=>ge_int q
theorem zks:OpR X (compareOp .IsNot) (fun x y H Q=>y=.non/\Q (.bl (!decide (x=.non))) H):=by
 intro pins s σ H x y v u Q I rx ry h;obtain⟨rfl,q⟩:=h;cases ry;refine isnot_none_gen (zc8 I q ?_);cases x <;> first
  | (cases rx;rfl)
  | (obtain⟨t,rfl⟩:=rx;rfl)
theorem zbb (b:Expr) {op:CmpOp} (h:op≠.In:=by decide) (h2:op≠.NotIn:=by decide):behindInMarks op b=false:=by
 have e1:(op == CmpOp.In)=false:=by cases op <;> first | rfl | exact absurd rfl h
 have e2:(op == CmpOp.NotIn)=false:=by cases op <;> first | rfl | exact absurd rfl h2
 cases b <;> simp [behindInMarks,e1,e2]
theorem zbU {op:CmpOp} {r:R2} (ho:OpR X (compareOp op) r) (ha:PE X a ta) (hb:PE X b tb) (hm:behindInMarks op b=false):PE X (.Compare a [op] [b] pos) (tOp r ta tb):=by
 intro pins s σ H Q I h;exact wpAny_Compare1 (zmO ha hb I h fun v u s2 x y H2 I2 rx ry q=>ho pins s2 σ H2 x y v u Q I2 rx ry q) hm
theorem zfV:(sizeLine:Nat)<2 ^ 63:=by rw [sizeLine_eq];decide
theorem zih {x:V} {us:List Value} (r:zaM [x] us):∃ u,us=[u]/\zaL x u:=by
 cases r with
 | cons r1 r2=>cases r2;exact⟨_,rfl,r1⟩
theorem zmA {x y:V} {us:List Value} (r:zaM [x,y] us):∃ u w',us=[u,w']/\zaL x u/\zaL y w':=by
 cases r with
 | cons r1 r2 =>
  cases r2 with
  | cons r3 r4=>cases r4;exact⟨_,_,rfl,r1,r3⟩
theorem ziw:za9 X (.builtin "abs") (fun xs H Q=>∃ i,xs=[.int i]/\Q (.int (if i<0 then -i else i)) H):=by
 intro pins s σ H xs us Q I r h;obtain⟨i,rfl,q⟩:=h;obtain⟨u,rfl,t,rfl⟩:=zih r;exact call_abs_int fun u tk=>⟨.int (if i<0 then -i else i),H,I.tok _,⟨_,rfl⟩,q⟩
theorem zg1 (hc:X.calm=true):za9 X (.builtin "max") (fun xs H Q=>∃ i j,xs=[.int i,.int j]/\Q (.int (if j > i then j else i)) H):=by
 intro pins s σ H xs us Q I r h;obtain⟨i,j,rfl,q⟩:=h;obtain⟨u,w',rfl,⟨t,rfl⟩,⟨t',rfl⟩⟩:=zmA r;refine max_two_ints (I.ok.hd hc) fun h' tk k=>⟨_,H,I.kept k,?_,q⟩
 by_cases hj:j > i
 ·rw [zod hj,zod hj];exact⟨_,rfl⟩
 ·rw [zoc hj,zoc hj];exact⟨_,rfl⟩
theorem zg2 (hc:X.calm=true):za9 X (.builtin "min") (fun xs H Q=>∃ i j,xs=[.int i,.int j]/\Q (.int (if j<i then j else i)) H):=by
 intro pins s σ H xs us Q I r h;obtain⟨i,j,rfl,q⟩:=h;obtain⟨u,w',rfl,⟨t,rfl⟩,⟨t',rfl⟩⟩:=zmA r;refine min_two_ints (I.ok.hd hc) fun h' tk k=>⟨_,H,I.kept k,?_,q⟩
 by_cases hj:j<i
 ·rw [zod hj,zod hj];exact⟨_,rfl⟩
 ·rw [zoc hj,zoc hj];exact⟨_,rfl⟩
theorem zg0:za9 X (.type "int") (fun xs H Q=>(∃ i,xs=[.int i]/\Q (.int i) H)\/∃ k,xs=[.bl k]/\Q (.int (if k then 1 else 0)) H):=by
 intro pins s σ H xs us Q I r h;rcases h with ⟨i,rfl,q⟩ | ⟨k,rfl,q⟩
 ·obtain⟨u,rfl,t,rfl⟩:=zih r;exact call_int_int ⟨.int i,H,I,⟨_,rfl⟩,q⟩
 ·obtain⟨u,rfl,r1⟩:=zih r;cases r1;exact call_int_bool ⟨.int (if k then 1 else 0),H,I.tok _,⟨_,rfl⟩,q⟩
end
structure zjV (h:Heap) (x dx C:Addr) (mA:Str->Option Value):Prop where
 obj:h.get? x=some (PySem.W.instObj C dx)
 ns:h.Ns1 dx mA
 ne:dx≠x
theorem zhA {h:Heap} {dx:Addr} {mA:Str->Option Value} (n:h.Ns1 dx mA):∃ od,h.get? dx=some od/\∀ name,PySem.W.lookIn name od=some (mA name):=by
 obtain⟨o,es,ep,ho,hd,hk,_,hm⟩:=n;refine⟨o,ho,fun name=>?_⟩;have e:=hm name;unfold nsFind findBy at e;rw [← Array.find?_toList] at e;unfold PySem.W.lookIn;rw [hd];dsimp only;split
 ·rename_i y q;rw [q] at e;exact congrArg some e
 ·rename_i q;rw [q] at e;have a:es.toList.any (·.refKey)=false:=by
   rw [List.any_eq_false];intro y hy;obtain⟨z,t,hkey⟩:=hk y (Array.mem_toList_iff.mp hy);simp [DictEntry.refKey,hkey]
  have a':¬ es.toList.any (·.refKey)=true:=by rw [a];exact zok
  rw [zoc a'];exact congrArg some e
theorem zjV.look {h:Heap} {x dx C:Addr} {mA:Str->Option Value} (I:zjV h x dx C mA):∃ od,PySem.W.InstAt h x (PySem.W.instObj C dx) C (some od)/\∀ name,PySem.W.lookIn name od=some (mA name) :=
 let ⟨od,ho,hl⟩:=zhA I.ns
 ⟨od,⟨I.obj,rfl,rfl,ho⟩,hl⟩
section
variable {prog:Program} {w:World} {A:Around} {E:Value->Shared->Prop} {s:Shared} {K:PySem.W.Frag} {x dx C f:Addr} {mA:Str->Option Value} {name:Str} {v:Value}
theorem zkg {expr:Bool} {Q:Value->Shared->Prop} (X:K.In s.heap) (I:zjV s.heap x dx C mA) (hg:PySem.W.plainGet K C name=true) (hh:PySem.W.hasDictIn K C=true)
  (ha:PySem.W.findIn K (.ref C) name=some none) (hv:mA name=some v) (hv':PySem.W.handedIn v=true) (h:Q v { s with toks:=s.toks+1 }) :
  wpAny (model prog w) A (getAttr (.ref x) name expr) Q E s:=by
 obtain⟨od,J,hl⟩:=I.look;exact PySem.W.get_value X J (PySem.W.plainGet_of hg).1 (PySem.W.findObj_own hh ha rfl (by rw [hl,hv])) hv' h
theorem ziD {pl:Sem Bool} {Q:Value × List Value->Shared->Prop} (X:K.In s.heap) (I:zjV s.heap x dx C mA) (hg:PySem.W.plainGet K C name=true)
  (hf:PySem.W.findIn K (.ref C) name=some (some (.ref f))) (ht:PySem.W.isFn K (.ref f)=true) (hv:mA name=none) (h:Q (.ref f,[.ref x]) s) :
  wpAny (model prog w) A (getMethod (.ref x) name pl) Q E s:=by
 obtain⟨od,J,hl⟩:=I.look;exact PySem.W.method_fn X J (PySem.W.plainGet_of hg).1 (PySem.W.plainGet_of hg).2 hf (beq_iff_eq.mp ht) (by show (PySem.W.lookIn name od).map (·.isSome)=some false;rw [hl,hv];rfl) h
theorem zkV {ns:List Str} {Q:Unit->Shared->Prop} (X:K.In s.heap) (I:zjV s.heap x dx C mA)
  (hs:PySem.W.findIn K (.ref C) "__setattr__"=some (some (.builtin "object.__setattr__"))) (hp:PySem.W.plainOver K C=true) (ht:PySem.W.takerIn K C name=some none) (hh:PySem.W.hasDictIn K C=true)
  (hw:PySem.Within mA ns) (hsz:ns.length<=sizeLine)
  (h:∀ h',zjV h' x dx C (fun y=>if y=name then some v else mA y)->Heap.SameBut dx s.heap h'->Q () { s with heap:=h',toks:=s.toks+2 }) :
  wpAny (model prog w) A (setAttr (.ref x) name v) Q E s:=by
 obtain⟨od,J,hl⟩:=I.look;refine PySem.W.set_plain X J hs (PySem.W.osa_open (s:={ s with toks:=s.toks+1 }) (r:=none) X J hp ht fun b=>?_);obtain⟨cd,hc,hd'⟩:=PySem.W.any_some hh;have hx:s.heap.get? x=some ⟨.ref C,some dx,.plain,#[]⟩:=I.obj;refine wpAny_bind (wpAny_pure (wpAny_bind (wpAny_bind (wpAny_loadPart hx (wpAny_bind (PySem.W.Looks.here (s:={ s with toks:=s.toks+1 }) (PySem.W.looks_clsIn X hc) ?_))))));rw [hd'];refine wpAny_pure (a:=some dx) (wpAny_bind (wpAny_pure (wpAny_bind ?_)));refine wpAny_nsSet1 (s:={ s with toks:=s.toks+1 }) I.ns fun h' hn2 hs2=>?_
 obtain⟨oD,esD,epD,hoD,hdD,hcD⟩:=hn2.count (PySem.Within.cons name v hw);refine wpAny_bind (wpAny_lookBehind hoD (by rw [hdD];exact pastItsLine_dict (znP hcD (by rw [zob];omega))) ?_);exact wpAny_pure (h _ ⟨(hs2.2 _ (Ne.symm I.ne)).trans I.obj,hn2,I.ne⟩ hs2)
theorem ziO {R:Result->Shared->Prop} {vs:List Value} {kw:List (Str × Value)} (X:K.In s.heap) (hm:PySem.W.makesIn K C=true)
  (hi:PySem.W.findIn K (.ref C) "__init__"=some (some (.ref f))) (hf:PySem.W.typeIn K (.ref f)=some (.type "function"))
  (h:codeAny (model prog w) (A.under (.builtin "type.__call__" ⟨.ref C::vs,kw⟩)) (.call (.ref f) ⟨.ref (s.heap.objs.size+1)::vs,kw⟩) (PySem.W.InitBack (s.heap.objs.size+1) R)
   { s with heap:=(s.heap.push PySem.W.emptyDict).push (PySem.W.instObj C s.heap.objs.size) }) :
  codeAny (model prog w) A (.call (.ref C) ⟨vs,kw⟩) R s:=by
 obtain⟨hh,g,d,t,os⟩:=s;exact PySem.W.make_core (PySem.W.makes_of X hm) (PySem.W.looks_findIn X hi) (fun self=>PySem.W.bind_fn X self hf) (.inl rfl) h
end
def zb9 (f:Str) (v:V):List (Str × V)->List (Str × V)
 | []=>[(f,v)]
 | (g,x)::r=>if g=f then (g,v)::r else (g,x)::zb9 f v r
theorem zdg (f g:Str) (v:V):∀ fs:List (Str × V),(zb9 f v fs).lookup g=if g=f then some v else fs.lookup g
 | []=>by
  show List.lookup g [(f,v)]=_;by_cases h:g=f
  ·have hb:(g == f)=true:=beq_iff_eq.mpr h;simp only [List.lookup,hb,zod h]
  ·have hb:(g == f)=false:=beq_eq_false_iff_ne.mpr h;simp only [List.lookup,hb,zoc h]
 | (k,x)::r=>by
  have ih:=zdg f g v r;rw [show zb9 f v ((k,x)::r)=(if k=f then (k,v)::r else (k,x)::zb9 f v r) from rfl];by_cases hk:k=f
  ·rw [zod hk];by_cases h:g=k
   ·have hb:(g == k)=true:=beq_iff_eq.mpr h;simp only [List.lookup,hb,zod (h.trans hk)]
   ·have hb:(g == k)=false:=beq_eq_false_iff_ne.mpr h;simp only [List.lookup,hb,zoc (fun e:g=f=>h (e.trans hk.symm))]
  ·rw [zoc hk];by_cases h:g=k
   ·have hb:(g == k)=true:=beq_iff_eq.mpr h;simp only [List.lookup,hb,zoc (fun e:g=f=>hk (h.symm.trans e))]
   ·have hb:(g == k)=false:=beq_eq_false_iff_ne.mpr h;simp only [List.lookup,hb];exact ih
theorem zdc (f:Str) (v:V):∀ fs:List (Str × V),f∈(zb9 f v fs).map (·.1)/\∀ g,g∈fs.map (·.1)->g∈(zb9 f v fs).map (·.1)
 | []=>⟨by simp [zb9],fun g h=>by simp at h⟩
 | (k,x)::r=>by
  obtain⟨i1,i2⟩:=zdc f v r;rw [show zb9 f v ((k,x)::r)=(if k=f then (k,v)::r else (k,x)::zb9 f v r) from rfl];by_cases hk:k=f
  ·rw [zod hk];subst hk;exact⟨by simp,fun g h=>by simpa using h⟩
  ·rw [zoc hk];refine⟨?_,fun g h=>?_⟩
   ·rw [zn2];exact znT _ i1
   ·rw [zn2] at h ⊢;rcases zoh.mp h with e | e
    ·exact zoh.mpr (.inl e)
    ·exact znT _ (i2 g e)
theorem zdf (f:Str) (v:V):∀ fs:List (Str × V),(zb9 f v fs).length<=fs.length+1
 | []=>by simp [zb9]
 | (k,x)::r=>by
  have ih:=zdf f v r;rw [show zb9 f v ((k,x)::r)=(if k=f then (k,v)::r else (k,x)::zb9 f v r) from rfl];by_cases hk:k=f
  ·rw [zod hk,zob,zob];omega
  ·rw [zoc hk,zob,zob];omega
theorem zeq.some_of {v:V} {o:Option Value} (r:zeq (some v) o):∃ u,o=some u/\zaL v u:=by
 cases o with
 | none=>exact (show False from r).elim
 | some u=>exact⟨u,rfl,r⟩
theorem zeq.none_of {o:Option Value} (r:zeq none o):o=none:=by
 cases o with
 | none=>rfl
 | some u=>exact (show False from r).elim
theorem zhm {v:V} {u:Value} (r:zaL v u):PySem.W.handedIn u=true:=by
 cases v with
 | non=>cases (show u=Value.none from r);rfl
 | bl b=>cases (show u=Value.bool b from r);rfl
 | int i=>obtain⟨t,e⟩:=(show ∃ t,u=Value.int i t from r);cases e;rfl
 | str x=>obtain⟨t,e⟩:=(show ∃ t,u=Value.str x t from r);cases e;rfl
 | byt b=>obtain⟨t,e⟩:=(show ∃ t,u=Value.bytes b t from r);cases e;rfl
 | flt b=>obtain⟨t,e⟩:=(show ∃ t,u=Value.float b t from r);cases e;rfl
 | ref a=>cases (show u=Value.ref a from r);rfl
 | ty n=>cases (show u=Value.type n from r);rfl
section
variable {P:Program} {w:World} {H H':Hp} {h h':Heap} {a C dx:Addr} {fs fs':List (Str × V)}
theorem zfd (hok:HOk P w H h) (e:H a=some (.ins C dx fs)):∃ mA,zjV h a dx C mA/\(∀ f,zeq (fs.lookup f) (mA f))/\PySem.Within mA (fs.map (·.1))/\fs.length<=1000/\H dx=some (.own a):=by
 obtain⟨d,z,ne,ob,mA,n,r,q⟩:=(show zaV P w H h a (.ins C dx fs) from hok a _ e);exact⟨mA,⟨ob,n,ne⟩,r,q,z,d⟩
end
structure Cls (K:PySem.W.Frag) (C:Addr):Prop where
 pg:PySem.W.plainGet K C Str.empty=true
 hd:PySem.W.hasDictIn K C=true
 po:PySem.W.plainOver K C=true
 sa:PySem.W.findIn K (.ref C) "__setattr__"=some (some (.builtin "object.__setattr__"))
theorem Cls.get {K:PySem.W.Frag} {C:Addr} (c:Cls K C) (f:Str):PySem.W.plainGet K C f=true:=c.pg
def zbO (K:PySem.W.Frag) (C:Addr) (f:Str):Prop:=PySem.W.findIn K (.ref C) f=some none
theorem zbO.taker {K:PySem.W.Frag} {C:Addr} {f:Str} (n:zbO K C f):PySem.W.takerIn K C f=some none:=by
 unfold PySem.W.takerIn;rw [show PySem.W.findIn K (.ref C) f=some none from n]
 rfl
structure zjl (K:PySem.W.Frag) (C:Addr) (m:Str) (f:Addr):Prop where
 at_:PySem.W.findIn K (.ref C) m=some (some (.ref f))
 fn:PySem.W.isFn K (.ref f)=true
 kp:PySem.W.keepIn K (.ref f)=true
section
variable {X:Cx} {pins:List (Addr × Obj)} {σ:St} {H:Hp} {s:Shared} {a C dx:Addr} {fs:List (Str × V)} {f:Str} {v:V} {A:Around} {E:Value->Shared->Prop}
theorem zdA {b:Bool} {Q:Value->Shared->Prop} (I:Inv X pins σ H s) (e:H a=some (.ins C dx fs)) (c:Cls X.K C) (n:zbO X.K C f) (l:fs.lookup f=some v)
  (h:∀ u s',Inv X pins σ H s'->zaL v u->Q u s'):wpAny (model X.prog X.w) A (getAttr (.ref a) f b) Q E s:=by
 obtain⟨mA,O,r,_,_,_⟩:=zfd I.hok e;obtain⟨u,hu,ru⟩:=zeq.some_of (v:=v) (o:=mA f) (by rw [← l];exact r f);exact zkg I.kIn O (c.get f) c.hd n hu (zhm ru) (h u _ (I.tok _) ru)
theorem zdB {m:Str} {g:Addr} {pl:Sem Bool} {Q:Value × List Value->Shared->Prop} (I:Inv X pins σ H s) (e:H a=some (.ins C dx fs)) (c:Cls X.K C) (k:zjl X.K C m g) (l:fs.lookup m=none)
  (h:Q (.ref g,[.ref a]) s):wpAny (model X.prog X.w) A (getMethod (.ref a) m pl) Q E s:=by
 obtain⟨mA,O,r,_,_,_⟩:=zfd I.hok e;have hn:mA m=none:=zeq.none_of (by rw [← l];exact r m);exact ziD I.kIn O (c.get m) k.at_ k.fn hn h
theorem zdK {y:V} {u:Value} {Q:Unit->Shared->Prop} (I:Inv X pins σ H s) (e:H a=some (.ins C dx fs)) (c:Cls X.K C) (n:zbO X.K C f) (hl:fs.length<1000) (ry:zaL y u)
  (h:∀ s',Inv X pins σ (upd H a (.ins C dx (zb9 f y fs))) s'->Q () s'):wpAny (model X.prog X.w) A (setAttr (.ref a) f u) Q E s:=by
 obtain⟨mA,O,r,wi,_,ho⟩:=zfd I.hok e;have hz:(fs.map (·.1)).length<=sizeLine:=by rw [znA,sizeLine_eq];omega
 refine zkV I.kIn O c.sa c.po n.taker c.hd wi hz fun h' O' sb=>h _ ?_
 have hd:∃ o,h'.get? dx=some o:=let ⟨o,_,_,e',_⟩:=O'.ns;⟨o,e'⟩;refine I.write (x:=a) (e:=dx) (by rw [e];exact True.intro) (.inr ho) (fun b q hb z=>(sb.2 b hb).trans z) hd ?_;refine⟨by rw [zam O.ne];exact ho,?_,O.ne,O'.obj,_,O'.ns,fun g=>?_,fun g hg=>?_⟩
 ·have:=zdf f y fs;omega
 ·show zeq ((zb9 f y fs).lookup g) (if g=f then some u else mA g);rw [zdg];by_cases q:g=f
  ·rw [zod q,zod q];exact ry
  ·rw [zoc q,zoc q];exact r g
 ·by_cases q:g=f
  ·rw [q];exact (zdc f y fs).1
  ·refine (zdc f y fs).2 g (wi g fun z=>hg ?_);show (if g=f then some u else mA g)=none;rw [zoc q];exact z
theorem Inv.made (I:Inv X pins σ H s):Inv X pins σ (upd (upd H s.heap.objs.size (.own (s.heap.objs.size+1))) (s.heap.objs.size+1) (.ins C s.heap.objs.size []))
  { s with heap:=(s.heap.push PySem.W.emptyDict).push (PySem.W.instObj C s.heap.objs.size) }:=by
 have e1:(s.heap.push PySem.W.emptyDict).get? s.heap.objs.size=some PySem.W.emptyDict:=zn9 s.heap rfl;have e2:((s.heap.push PySem.W.emptyDict).push (PySem.W.instObj C s.heap.objs.size)).get? (s.heap.objs.size+1)=some (PySem.W.instObj C s.heap.objs.size):=by
  have:=zn9 (s.heap.push PySem.W.emptyDict) (o:=PySem.W.instObj C s.heap.objs.size) rfl
  rwa [Heap.size_push] at this
 have e3:(s.heap.push PySem.W.emptyDict).Ns s.heap.objs.size (fun _=>none):=⟨PySem.W.emptyDict,#[],_,e1,rfl,(fun e he=>absurd he (by simp)),fun _=>rfl⟩;have I1:=I.laid (a:=s.heap.objs.size) (o:=.own (s.heap.objs.size+1)) (h':=s.heap.push PySem.W.emptyDict) (t':=s.toks) (fun b u q=>znN _ q) (znQ _) ⟨_,e1⟩;refine I1.laid (a:=s.heap.objs.size+1) (o:=.ins C s.heap.objs.size []) (t':=s.toks) (fun b u q=>znN _ q) (Nat.le_of_eq (Heap.size_push _ _)) ?_;have ne:s.heap.objs.size≠s.heap.objs.size+1:=zoi (Nat.lt_succ_self _);refine⟨by rw [zam ne,zae],Nat.zero_le _,ne,e2,fun _=>none,(Heap.Ns1.of_empty e3).at fun o q=>znN _ q,fun _=>True.intro,fun y hy=>absurd rfl hy⟩
theorem zjY {prog:Program} {w:World} {env:Env} {e:Expr} {f:Str} {pos:Pos} {s:Shared} {Q:Value->Shared->Prop} (hb:attributeBase e f env (eval e env)=eval e env)
  (h:wpAny (model prog w) A (eval e env) (fun o s₁=>wpAny (model prog w) A (getAttr o f true) Q E s₁) E s):wpAny (model prog w) A (eval (.Attribute e f pos) env) Q E s :=
 Attribute_any_ h (by rw [arm_eval_Attribute,hb])
end
def tFld (K:PySem.W.Frag) (ta:TE) (f:Str):TE:=fun σ H Q=>ta σ H fun x H1=>∃ a C dx fs v,x=.ref a/\H1 a=some (.ins C dx fs)/\Cls K C/\zbO K C f/\fs.lookup f=some v/\Q v H1
def sFld (K:PySem.W.Frag) (ta tv:TE) (f:Str):TS:=fun D σ H=>tv σ H fun y H1=>ta σ H1 fun x H2=>∃ a C dx fs,x=.ref a/\H2 a=some (.ins C dx fs)/\Cls K C/\zbO K C f/\fs.length<1000 /\
 D.nx σ (upd H2 a (.ins C dx (zb9 f y fs)))
def InOp (X:Cx) (op:Operator) (rd:V->V->Hp->VK->Prop):Prop :=
 ∀ (pins:List (Addr × Obj)) (s:Shared) (σ:St) (H:Hp) (x y:V) (u v:Value) (Q:VK),Inv X pins σ H s->zaL x u->zaL y v->rd x y H Q->wpAny (model X.prog X.w) X.A (inplaceOp op u v) (EP X pins σ Q) X.xe s
def zkU (K:PySem.W.Frag) (ta tv:TE) (rd:V->V->Hp->VK->Prop) (f:Str):TS:=fun D σ H=>ta σ H fun x H1=>∃ a C dx fs v,x=.ref a/\H1 a=some (.ins C dx fs)/\Cls K C/\zbO K C f/\fs.lookup f=some v /\
 tv σ H1 fun y H2=>rd v y H2 fun z H3=>∃ dx' fs',H3 a=some (.ins C dx' fs')/\fs'.length<1000/\D.nx σ (upd H3 a (.ins C dx' (zb9 f z fs')))
section
variable {X:Cx} {o e value:Expr} {f:Str} {pos pos' tpos:Pos} {ta tv:TE}
theorem zbK (he:PE X e ta) (hb:attributeBase e f X.env (eval e X.env)=eval e X.env):PE X (.Attribute e f pos) (tFld X.K ta f):=by
 intro pins s σ H Q I h;refine zjY hb (thn (he pins s σ H _ I h) fun u s1 ⟨x,H1,I1,rx,a,C,dx,fs,v,ex,ea,c,n,l,q⟩=>?_);subst ex;obtain rfl:u=Value.ref a:=rx;exact zdA I1 ea c n l fun u' s2 I2 ru=>⟨v,H1,I2,ru,q⟩
theorem zeO (ha:PE X o ta) (hv:PE X value tv) (hs:swapsWith value (some (.Attribute o f pos')) pos.line X.env=pure false):PS X (.Assign [.Attribute o f pos'] value pos) (sFld X.K ta tv f):=by
 intro pins s σ H D I h;refine plainObj_wpAny_Assign_Attribute (thn (hv pins s σ H _ I h) fun u s1 ⟨y,H1,I1,ry,q⟩=>thn (ha pins s1 σ H1 _ I1 q) fun ov s2 ⟨x,H2,I2,rx,a,C,dx,fs,ex,ea,c,n,l,q2⟩=>?_) hs;subst ex;obtain rfl:ov=Value.ref a:=rx;exact zdK I2 ea c n l ry fun s3 I3=>⟨σ,_,I3,q2⟩
theorem zhX {op:Operator} {rd:V->V->Hp->VK->Prop} (ha:PE X o ta) (hv:PE X value tv) (hop:InOp X op rd):PS X (.AugAssign (.Attribute o f tpos) op value pos) (zkU X.K ta tv rd f):=by
 intro pins s σ H D I h;refine wpAny_AugAssign_AttributeAny (thn (ha pins s σ H _ I h) fun ov s1 ⟨x,H1,I1,rx,a,C,dx,fs,v,ex,ea,c,n,l,q⟩=>?_);subst ex;obtain rfl:ov=Value.ref a:=rx;refine zdA I1 ea c n l fun u s2 I2 ru=>thn (hv pins s2 σ H1 _ I2 q) fun w3 s3 ⟨y,H2,I3,ry,q3⟩=>thn (hop pins s3 σ H2 v y u w3 _ I3 ru ry q3) fun w4 s4 ⟨z,H3,I4,rz,dx',fs',ea',l',q4⟩=>?_
 exact zdK I4 ea' c n l' rz fun s5 I5=>⟨σ,_,I5,q4⟩
def rAdd:V->V->Hp->VK->Prop:=fun x y H Q=>∃ i j,x=.int i/\y=.int j/\Q (.int (i+j)) H
theorem zlF:InOp X .Add rAdd:=by
 rintro pins s σ H x y u v Q I rx ry ⟨i,j,rfl,rfl,q⟩;obtain⟨t,rfl⟩:=(show ∃ t,u=Value.int i t from rx);obtain⟨t',rfl⟩:=(show ∃ t',v=Value.int j t' from ry);exact PyProof.Rows.iadd_int ⟨.int (i+j),H,I.tok _,⟨_,rfl⟩,q⟩
end
section
variable {X:Cx} {pins:List (Addr × Obj)} {σ:St} {H:Hp} {s:Shared} {A:Around} {E:Value->Shared->Prop} {Q:Value->Shared->Prop} {c:Value} {b:Bool}
end
structure zb7 (k:Nat) (A:Around):Prop where
 hd:A.handled=none
 dp:A.depth+3*k+5<recursionLimit
 un:A.units+16*k+200<cLine
theorem zb7.mono {j k:Nat} {A:Around} (r:zb7 k A) (h:j<=k):zb7 j A:=⟨r.hd,by have:=r.dp;omega,by have:=r.un;omega⟩
theorem zb7.deeper {k:Nat} {A:Around} (r:zb7 (k+1) A) (env:Env):zb7 k (A.deeper env) :=
 ⟨r.hd,by have:=r.dp;show A.depth+1+3*k+5<_;omega,by have:=r.un;show A.units+3+16*k+200<_;omega⟩
theorem zgv {A:Around} {C:Addr} {us:List Value} {kw:List (Str × Value)}:(A.under (.builtin "type.__call__" ⟨.ref C::us,kw⟩)).depth=A.depth+1:=by
 first | rfl | simp [Around.under,Code.weight,Code.isCreation,Code.isGuard,Code.isCaller,Code.frames,Code.isFrame,guardIds]
theorem zgw {A:Around} {C:Addr} {us:List Value} {kw:List (Str × Value)}:(A.under (.builtin "type.__call__" ⟨.ref C::us,kw⟩)).units=A.units+1:=by
 first | rfl | simp [Around.under,Code.cUnits,Code.frames,Code.isFrame]
theorem zb7.make {k:Nat} {A:Around} (r:zb7 (k+1) A) (C:Addr) (us:List Value) (kw:List (Str × Value)):zb7 k (A.under (.builtin "type.__call__" ⟨.ref C::us,kw⟩)) :=
 ⟨r.hd,by have:=r.dp;rw [zgv];omega,by have:=r.un;rw [zgw];omega⟩
theorem zb7.depth {k:Nat} {A:Around} (r:zb7 k A):A.depth<recursionLimit:=by have:=r.dp;omega
theorem zb7.units {k:Nat} {A:Around} (r:zb7 k A):A.units+64<cLine:=by have:=r.un;omega
def znv:TA:=fun _ H Q=>Q [] H
def znr (ta:TE) (tr:TA):TA:=fun σ H Q=>ta σ H fun x H1=>tr σ H1 fun xs H2=>Q (x::xs) H2
section
variable {X:Cx} {e:Expr} {es:List Expr} {te:TE} {t:TA} {pos:Pos}
theorem zac:PA X [] znv:=fun _ _ _ _ H Q I h=>Calls.spliced_nil ⟨[],H,I,.nil,h⟩
theorem zaa (ha:PE X e te) (hr:PA X es t) (hs:starEach (e::es) X.env=(false,eval e X.env)::starEach es X.env:=by rfl):PA X (e::es) (znr te t):=by
 intro pos pins s σ H Q I h;rw [hs];show wpAny _ _ (spliced ((false,eval e X.env)::backTo pos (starEach es X.env))) _ _ s;refine Calls.spliced_cons (thn (ha pins s σ H _ I h) fun u s1 ⟨x,H1,I1,r1,q1⟩=>?_);exact thn (hr pos pins s1 σ H1 _ I1 q1) fun us s2 ⟨xs,H2,I2,r2,q2⟩=>⟨x::xs,H2,I2,.cons r1 r2,q2⟩
def tTup (t:TA):TE:=fun σ H Q=>t σ H fun xs H1=>xs.length<=sizeLine/\∀ p,H1 p=none->Q (.ref p) (upd H1 p (.tup xs))
def tLst (t:TA):TE:=fun σ H Q=>t σ H fun xs H1=>xs.length<=sizeLine/\∀ p,H1 p=none->Q (.ref p) (upd H1 p (.lst xs))
theorem zay {x1} (h:PA X es t):PE X (.Tuple es x1 pos) (tTup t):=by
 intro pins s σ H Q I hq;refine wpAny_Tuple_spliced (thn (h pos pins s σ H _ I hq) fun us s1 ⟨xs,H1,I1,r,z,q⟩=>⟨by rw [← r.length];exact z,?_⟩);have hf:H1 s1.heap.objs.size=none:=I1.hok.fresh (znQ _);refine⟨.ref s1.heap.objs.size,upd H1 s1.heap.objs.size (.tup xs),I1.laid (t':=s1.toks) (fun b u e=>znN _ e) (znQ _) ?_,rfl,q _ hf⟩;exact⟨z,us,r,.of (zn9 _ rfl)⟩
theorem zaZ (h:PA X es t):PE X (.List es pos) (tLst t):=by
 intro pins s σ H Q I hq;refine wpAny_List_spliced (thn (h pos pins s σ H _ I hq) fun us s1 ⟨xs,H1,I1,r,z,q⟩=>⟨by rw [← r.length];exact z,?_⟩);have hf:H1 s1.heap.objs.size=none:=I1.hok.fresh (znQ _);refine⟨.ref s1.heap.objs.size,upd H1 s1.heap.objs.size (.lst xs),I1.laid (t':=s1.toks) (fun b u e=>znN _ e) (znQ _) ?_,rfl,q _ hf⟩;exact⟨z,us,0,r,zn9 _ rfl⟩
end
abbrev Sp:=List V->Hp->VK->XK->Prop
abbrev CXT:=List Env->Hp->Shared->XK->Value->Shared->Prop
structure zjS (P:Program) (w:World) (K:PySem.W.Frag) (mg:Str->Option Value) (base:Heap) (A:Around) (outer:List Env) (s:Shared) (H:Hp):Prop where
 frames:A.frames=some outer
 mod:Mod K mg base
 bs:∀ b o,base.get? b=some o->s.heap.get? b=some o/\H b=none
 bsz:base.objs.size<=s.heap.objs.size
 funs:s.heap.FunFrames base outer
 frf:∀ b∈frs outer,H b=none
 hok:HOk P w H s.heap
 bare:AllBare s.gens
def CE (outer:List Env) (P:Program) (w:World) (H:Hp) (s:Shared) (Q:VK) (u:Value) (s':Shared):Prop :=
 ∃ v H',s'.os=s.os/\AllBare s'.gens/\Un (frs outer) [] H H' s.heap s'.heap/\HOk P w H' s'.heap/\zaL v u/\Q v H'
def CR (CX:CXT) (outer:List Env) (P:Program) (w:World) (H:Hp) (s:Shared) (Q:VK) (E:XK) (r:Result) (s':Shared):Prop :=
 match r with
 | .ok (.ret u)=>CE outer P w H s Q u s'
 | .ok _=>False
 | .error e=>CX outer H s E e s'
structure zbu (P:Program) (w:World) (K:PySem.W.Frag) (mg:Str->Option Value) (base:Heap) (CX:CXT) (k:Nat) (f:Addr) (fd:FuncData) (ps:List Str) (sp:Sp):Prop where
 len:∀ vs H Q E,sp vs H Q E->vs.length=ps.length
 run:∀ (A:Around) (outer:List Env) (s:Shared) (H:Hp) (args:Args) (us:List Value) (vs:List V) (Q:VK) (E:XK),zb7 k A->zjS P w K mg base A outer s H->BindsTo s fd args (ps.zip us)->zaM vs us->sp vs H Q E ->
  codeAny (model P w) A (.call (.ref f) args) (CR CX outer P w H s Q E) s
theorem zjS.make {P:Program} {w:World} {K:PySem.W.Frag} {mg:Str->Option Value} {base:Heap} {A:Around} {outer:List Env} {s:Shared} {H:Hp} (e:zjS P w K mg base A outer s H) (C:Addr) (us:List Value) (kw:List (Str × Value)) :
  zjS P w K mg base (A.under (.builtin "type.__call__" ⟨.ref C::us,kw⟩)) outer s H:=⟨by first | exact e.frames | (simpa [Around.under,Code.envs,Code.isFrame,pushEnvs] using e.frames),e.mod,e.bs,e.bsz,e.funs,e.frf,e.hok,e.bare⟩
section
variable {X:Cx} {pins:List (Addr × Obj)} {σ:St} {H:Hp} {s s':Shared}
theorem Inv.env0 (I:Inv X pins σ H s):zjS X.prog X.w X.K X.mg X.base X.A X.stack s H :=
 ⟨I.ok.frames,I.ok.mod,I.bs,znP I.ok.bsz I.sz,I.stack,I.stkFree,I.hok,I.bare⟩
theorem Inv.after {Q:VK} {u:Value} (I:Inv X pins σ H s) (h:CE X.stack X.prog X.w H s Q u s'):EP X pins σ Q u s':=by
 obtain⟨v,H',os,bare,un,hok,r,q⟩:=h;obtain⟨hh,g,d,t,os'⟩:=s';obtain rfl:os'=s.os:=os;exact⟨v,H',I.call (h':=hh) (g':=g) (d':=d) (t':=t) (ch:=[]) un hok bare (fun b z=>absurd z (by simp)),r,q⟩
end
def zmn (sp:Sp) (dvs:List V) (E:XK) (t:TA):TE:=fun σ H Q=>t σ H fun vs H1=>sp (vs++dvs) H1 Q E
def zms (C:Addr) (m:Str) (sp:Sp) (dvs:List V) (E:XK) (ta:TE) (t:TA):TE:=fun σ H Q=>ta σ H fun x H1=>∃ a dx fs,x=.ref a/\H1 a=some (.ins C dx fs)/\fs.lookup m=none /\
 t σ H1 fun vs H2=>sp (x::(vs++dvs)) H2 Q E
def znt (C:Addr) (sp:Sp) (dvs:List V) (E:XK) (t:TA):TE:=fun σ H Q=>t σ H fun vs H1=>∀ x dx,H1 x=none->H1 dx=none->dx≠x ->
 sp (.ref x::(vs++dvs)) (upd (upd H1 dx (.own x)) x (.ins C dx [])) (fun v H2=>v=.non/\Q (.ref x) H2) E
def zaK (K:PySem.W.Frag) (fd:FuncData) (ps:List Str) (ds:List Value):Prop :=
 ∀ (s:Shared) (us:List Value),K.In s.heap->(us++ds).length=ps.length->BindsTo s fd ⟨us,[]⟩ (ps.zip (us++ds))
theorem zaK.all {K:PySem.W.Frag} {fd:FuncData} {ps:List Str} (h:∀ us:List Value,us.length=ps.length->bindArgs fd ⟨us,[]⟩=pure (ps.zip us)):zaK K fd ps []:=fun s us _ hl=>by
 rw [znM] at hl ⊢;exact .of_eq (h us hl)
def zcE (CX:CXT) (X:Cx) (E:XK):Prop:=∀ (pins:List (Addr × Obj)) (σ:St) (H:Hp) (s:Shared) (e:Value) (s':Shared),Inv X pins σ H s->CX X.stack H s E e s'->X.xe e s'
section
variable {X:Cx} {CX:CXT} {k:Nat} {f C:Addr} {fd:FuncData} {ps:List Str} {sp:Sp} {dvs:List V} {ds:List Value} {E:XK} {x m:Str} {p pos apos:Pos} {e o:Expr} {es:List Expr} {ta:TE} {t:TA}
theorem zgc {pins:List (Addr × Obj)} {σ:St} {H:Hp} {s:Shared} {Q:VK} {us:List Value} {vs:List V} (F:zbu X.prog X.w X.K X.mg X.base CX k f fd ps sp) (hr:zb7 k X.A) (hb:zaK X.K fd ps ds) (hd:zaM dvs ds) (hx:zcE CX X E)
  (I:Inv X pins σ H s) (r:zaM vs us) (h:sp (vs++dvs) H Q E):wpAny (model X.prog X.w) X.A (call (.ref f) us) (EP X pins σ Q) X.xe s:=by
 have r2:zaM (vs++dvs) (us++ds):=r.append hd;have hl:(us++ds).length=ps.length:=by rw [← r2.length];exact F.len _ _ _ _ h
 refine wpAny_call (codeAny_mono (F.run X.A X.stack s H ⟨us,[]⟩ (us++ds) (vs++dvs) Q E hr I.env0 (hb s us I.kIn hl) r2 h) fun r s' hq=>?_);cases r with
 | error e=>exact hx pins σ H s e s' I hq
 | ok fl =>
  cases fl with
  | ret u=>exact I.after hq
  | next=>exact False.elim hq
  | brk=>exact False.elim hq
  | cont=>exact False.elim hq
theorem zah (F:zbu X.prog X.w X.K X.mg X.base CX k f fd ps sp) (hr:zb7 k X.A) (hg:Gl X x) (hm:X.mg x=some (.ref f)) (hk:PySem.W.keepIn X.K (.ref f)=true) (hb:zaK X.K fd ps ds) (hd:zaM dvs ds) (hx:zcE CX X E)
  (ha:PA X (e::es) t) (hdb:(x == ("__debug__":Str))=false:=by decide) (he:starEach (e::es) X.env=(false,eval e X.env)::starEach es X.env:=by rfl) (hpl:(backTo pos (starEach es X.env)).any (·.1)=false:=by rfl) :
  PE X (.Call (.Name x p) (e::es) [] pos) (zmn sp dvs E t):=by
 intro pins s σ H Q I h;refine wpAny_Call_Name_kw (zde I hg hm ?_ hdb);refine PySem.W.callWith_K (h₀:=X.base) I.ok.mod.kin hk (thn (ha pos pins s σ H _ I h) fun us s1 ⟨vs,H1,I1,r,q⟩=>⟨I1.kIn,?_⟩) he hpl;exact zgc F hr hb hd hx I1 r q
theorem ziX (F:zbu X.prog X.w X.K X.mg X.base CX k f fd ps sp) (hr:zb7 k X.A) (hg:Gl X x) (hm:X.mg x=some (.ref f)) (hk:PySem.W.keepIn X.K (.ref f)=true) (hb:zaK X.K fd ps ds) (hd:zaM dvs ds) (hx:zcE CX X E)
  (hdb:(x == ("__debug__":Str))=false:=by decide):PE X (.Call (.Name x p) [] [] pos) (zmn sp dvs E znv):=by
 intro pins s σ H Q I h;refine wpAny_Call_Name_kw (zde I hg hm ?_ hdb);exact PySem.W.callWith_K0 I.kIn hk (zgc (us:=[]) F hr hb hd hx I .nil h)
theorem zkB {pl:Sem Bool} (he:PE X o ta) (c:Cls X.K C) (hm:zjl X.K C m f) (F:zbu X.prog X.w X.K X.mg X.base CX k f fd ps sp) (hr:zb7 k X.A) (hb:zaK X.K fd ps ds) (hd:zaM dvs ds) (hx:zcE CX X E) (ha:PA X (e::es) t)
  (hst:starEach (e::es) X.env=(false,eval e X.env)::starEach es X.env:=by rfl) (hpl:(backTo pos (starEach es X.env)).any (·.1)=false:=by rfl)
  (ht:eval (.Call (.Attribute o m apos) (e::es) [] pos) X.env=(do
   let ov ← eval o X.env
   standAt apos.atName
   let (f,first) ← holding [ov] (getMethod ov m pl)
   callWith pos f first (backTo pos (starEach (e::es) X.env)) (backToKw pos (keywordEach [] X.env))):=by rfl) :
  PE X (.Call (.Attribute o m apos) (e::es) [] pos) (zms C m sp dvs E ta t):=by
 intro pins s σ H Q I h;refine PySem.W.methodCall_KW (pl:=pl) (thn (he pins s σ H _ I h) fun u s1 ⟨x,H1,I1,rx,a,dx,fs,ex,ea,l,q⟩=>?_) ht;subst ex;obtain rfl:u=Value.ref a:=rx;refine zdB I1 ea c hm l ?_;refine PySem.W.callWith_K (first:=[.ref a]) (h₀:=X.base) I.ok.mod.kin hm.kp (thn (ha pos pins s1 σ H1 _ I1 q) fun us s2 ⟨vs,H2,I2,r,q2⟩=>⟨I2.kIn,?_⟩) hst hpl;exact zgc (us:=.ref a::us) (vs:=.ref a::vs) F hr hb hd hx I2 (.cons rfl r) q2
theorem zaX {pl:Sem Bool} (he:PE X o ta) (c:Cls X.K C) (hm:zjl X.K C m f) (F:zbu X.prog X.w X.K X.mg X.base CX k f fd ps sp) (hr:zb7 k X.A) (hb:zaK X.K fd ps ds) (hd:zaM dvs ds) (hx:zcE CX X E)
  (ht:eval (.Call (.Attribute o m apos) [] [] pos) X.env=(do
   let ov ← eval o X.env
   standAt apos.atName
   let (f,first) ← holding [ov] (getMethod ov m pl)
   callWith pos f first (backTo pos (starEach [] X.env)) (backToKw pos (keywordEach [] X.env))):=by rfl) :
  PE X (.Call (.Attribute o m apos) [] [] pos) (zms C m sp dvs E ta znv):=by
 intro pins s σ H Q I h;refine PySem.W.methodCall_KW (pl:=pl) (thn (he pins s σ H _ I h) fun u s1 ⟨x,H1,I1,rx,a,dx,fs,ex,ea,l,q⟩=>?_) ht;subst ex;obtain rfl:u=Value.ref a:=rx;refine zdB I1 ea c hm l ?_;exact PySem.W.callWith_K0 (first:=[.ref a]) I1.kIn hm.kp (zgc (us:=[.ref a]) (vs:=[.ref a]) F hr hb hd hx I1 (.cons rfl .nil) q)
structure Mk (K:PySem.W.Frag) (C f:Addr):Prop where
 makes:PySem.W.makesIn K C=true
 init:PySem.W.findIn K (.ref C) "__init__"=some (some (.ref f))
 fn:PySem.W.isFn K (.ref f)=true
 kp:PySem.W.keepIn K (.ref C)=true
theorem zjc {pins:List (Addr × Obj)} {σ:St} {H:Hp} {s:Shared} {Q:VK} {us:List Value} {vs:List V} (M:Mk X.K C f) (F:zbu X.prog X.w X.K X.mg X.base CX k f fd ps sp) (hr:zb7 (k+1) X.A) (hb:zaK X.K fd ps ds) (hd:zaM dvs ds)
  (hx:zcE CX X E) (I:Inv X pins σ H s) (r:zaM vs us)
  (h:∀ x dx,H x=none->H dx=none->dx≠x->sp (.ref x::(vs++dvs)) (upd (upd H dx (.own x)) x (.ins C dx [])) (fun v H2=>v=.non/\Q (.ref x) H2) E) :
  wpAny (model X.prog X.w) X.A (call (.ref C) us) (EP X pins σ Q) X.xe s:=by
 have hq:=h (s.heap.objs.size+1) s.heap.objs.size (I.hok.fresh (Nat.le_succ _)) (I.hok.fresh (znQ _)) (zoi (Nat.lt_succ_self _));have I2:=Inv.made (C:=C) I;have r2:zaM (V.ref (s.heap.objs.size+1)::(vs++dvs)) (Value.ref (s.heap.objs.size+1)::(us++ds)):=.cons rfl (r.append hd);have hl:(Value.ref (s.heap.objs.size+1)::us++ds).length=ps.length:=by
  have e:=r2.length;rw [F.len _ _ _ _ hq] at e;exact e.symm
 refine wpAny_call (ziO (f:=f) I.kIn M.makes M.init (beq_iff_eq.mp M.fn) (codeAny_mono (F.run _ X.stack _ _ ⟨Value.ref (s.heap.objs.size+1)::us,[]⟩ (Value.ref (s.heap.objs.size+1)::(us++ds)) _ _ E (hr.make C us [])
  (I2.env0.make C us []) (hb _ (Value.ref (s.heap.objs.size+1)::us) I2.kIn hl) r2 hq) fun r s' hq'=>?_))
 cases r with
 | error e=>exact hx pins σ _ _ e s' I2 hq'
 | ok fl =>
  cases fl with
  | ret u =>
   obtain⟨v,H',I3,rv,ev,q3⟩:=I2.after hq';subst ev;exact⟨rv,⟨V.ref (s.heap.objs.size+1),H',I3,rfl,q3⟩⟩
  | next=>exact False.elim hq'
  | brk=>exact False.elim hq'
  | cont=>exact False.elim hq'
theorem zkA (M:Mk X.K C f) (F:zbu X.prog X.w X.K X.mg X.base CX k f fd ps sp) (hr:zb7 (k+1) X.A) (hg:Gl X x) (hm:X.mg x=some (.ref C)) (hb:zaK X.K fd ps ds) (hd:zaM dvs ds) (hx:zcE CX X E)
  (ha:PA X (e::es) t) (hdb:(x == ("__debug__":Str))=false:=by decide) (he:starEach (e::es) X.env=(false,eval e X.env)::starEach es X.env:=by rfl) (hpl:(backTo pos (starEach es X.env)).any (·.1)=false:=by rfl) :
  PE X (.Call (.Name x p) (e::es) [] pos) (znt C sp dvs E t):=by
 intro pins s σ H Q I h;refine wpAny_Call_Name_kw (zde I hg hm ?_ hdb);refine PySem.W.callWith_K (h₀:=X.base) I.ok.mod.kin M.kp (thn (ha pos pins s σ H _ I h) fun us s1 ⟨vs,H1,I1,r,q⟩=>⟨I1.kIn,?_⟩) he hpl;exact zjc M F hr hb hd hx I1 r q
end
section
variable {X:Cx} {CX:CXT} {k:Nat} {f C:Addr} {fd:FuncData} {ps ks:List Str} {sp:Sp} {E:XK} {x m:Str} {p pos apos kpos:Pos} {e o:Expr} {es:List Expr} {kws:List Keyword} {te ta:TE} {t tk:TA} {nm:Option Str}
variable {g:List Value->List Value->List Value} {gV:List V->List V->List V}
end
structure zar (N P:List Str) (sc:Scope):Prop where
 kind:sc.kind=.function
 co:sc.isCoroutine=false
 gen:sc.isGenerator=false
 nd:N.Nodup
 pre:N.take P.length=P
 par:∀ x∈P,sc.names.lookup x=some .local\/sc.names.lookup x=some .cell
 nofree:∀ y∈sc.names,y.2≠.free
theorem zew {kindOf:Str->Option NameKind} {x:Str}:∀ {binds:List (Str × Value)} {m:Str->Option Value},(∀ v,(x,v) ∉ binds)->bindL kindOf binds m x=m x
 | [],_,_=>rfl
 | (n,v)::r,m,h=>by
  unfold bindL;rw [zew fun w hw=>h w (znT _ hw)];split
  ·have:x≠n:=by rintro rfl;exact h v zn8
   simp [this]
  ·rfl
theorem zeu {kindOf:Str->Option NameKind} {x:Str}:∀ {binds:List (Str × Value)} {m:Str->Option Value},(∀ v,(x,v) ∉ binds)->bindC kindOf binds m x=m x
 | [],_,_=>rfl
 | (n,v)::r,m,h=>by
  unfold bindC;rw [zeu fun w hw=>h w (znT _ hw)];split
  ·rfl
  ·have:x≠n:=by rintro rfl;exact h v zn8
   simp [this]
theorem zev {kindOf:Str->Option NameKind} {x:Str} {v:Value}:∀ {P:List Str} {vs:List Value} {i:Nat} {m:Str->Option Value},P.Nodup->P[i]?=some x->vs[i]?=some v->kindOf x=some .local ->
  bindL kindOf (P.zip vs) m x=some v
 | [],_,_,_,_,h,_,_=>by simp at h
 | _::_,[],_,_,_,_,h,_=>by simp at h
 | p::P,w::vs,0,m,nd,h1,h2,hk=>by
  simp at h1 h2;subst h1;subst h2
  show bindL kindOf ((p,w)::P.zip vs) m p=_;unfold bindL;rw [zew fun v hv=>(List.nodup_cons.mp nd).1 (List.of_mem_zip hv).1,zod hk];simp
 | p::P,w::vs,i+1,m,nd,h1,h2,hk=>by
  show bindL kindOf ((p,w)::P.zip vs) m x=_;unfold bindL;exact zev (i:=i) (List.nodup_cons.mp nd).2 (by simpa using h1) (by simpa using h2) hk
theorem zet {kindOf:Str->Option NameKind} {x:Str} {v:Value}:∀ {P:List Str} {vs:List Value} {i:Nat} {m:Str->Option Value},P.Nodup->P[i]?=some x->vs[i]?=some v->kindOf x≠some .local ->
  bindC kindOf (P.zip vs) m x=some v
 | [],_,_,_,_,h,_,_=>by simp at h
 | _::_,[],_,_,_,_,h,_=>by simp at h
 | p::P,w::vs,0,m,nd,h1,h2,hk=>by
  simp at h1 h2;subst h1;subst h2
  show bindC kindOf ((p,w)::P.zip vs) m p=_;unfold bindC;rw [zeu fun v hv=>(List.nodup_cons.mp nd).1 (List.of_mem_zip hv).1,zoc hk];simp
 | p::P,w::vs,i+1,m,nd,h1,h2,hk=>by
  show bindC kindOf ((p,w)::P.zip vs) m x=_;unfold bindC;exact zet (i:=i) (List.nodup_cons.mp nd).2 (by simpa using h1) (by simpa using h2) hk
def start (N:List Str) (vs:List V):St:=vs.map some++List.replicate (N.length-vs.length) none
def zg4 (CX:CXT) (P:Program) (w:World) (K:PySem.W.Frag) (mg:Str->Option Value) (base:Heap) (N:List Str) (qual:Str) (scope:Scope) (f:Addr) (cd:Value) (A:Around) (outer:List Env) (s:Shared) (H:Hp) (E:XK):Cx where
 prog:=P
 w:=w
 K:=K
 mg:=mg
 base:=base
 A:=A.deeper (envOfC qual scope s.heap.objs.size f cd)
 N:=N
 s₀:=s
 H₀:=H
 env:=envOfC qual scope s.heap.objs.size f cd
 outer:=outer
 stack:=envOfC qual scope s.heap.objs.size f cd::outer
 ex:=[]
 calm:=true
 fn:=fun _=>true
 pn:=[]
 xe:=fun e s'=>wpAny (model P w) (A.deeper (envOfC qual scope s.heap.objs.size f cd)) (leaving (envOfC qual scope s.heap.objs.size f cd) e) (fun _ s''=>CX outer H s E e s'') (fun e' s''=>CX outer H s E e' s'') s'
theorem zfI {sc:Scope} {n:Nat} {x:Str} (h:sc.names.lookup x=some .cell):∃ c,(cellsFrom n sc.names []).lookup x=some c:=by
 have q:=PySem.W.cellsFrom_some sc.names n [] (.inl h);exact Option.isSome_iff_exists.mp q
theorem zhq {CX:CXT} {P:Program} {w:World} {K:PySem.W.Frag} {mg:Str->Option Value} {base:Heap} {N ps:List Str} {qual:Str} {scope:Scope} {f:Addr} {cd:Value} {A:Around} {outer:List Env} {s s1:Shared} {H:Hp} {E:XK} {us:List Value} {vs:List V}
  (S:zar N ps scope) (hd:A.handled=none) (e0:zjS P w K mg base A outer s H) (hl:vs.length=ps.length) (r:zaM vs us)
  (x:InCallC s s.heap.objs.size (bindL (envOfC qual scope s.heap.objs.size f cd).kindOf (ps.zip us) fun _=>none) (cellsFrom (s.heap.objs.size+1) scope.names []) (bindC (envOfC qual scope s.heap.objs.size f cd).kindOf (ps.zip us) fun _=>none) s1) :
  Inv (zg4 CX P w K mg base N qual scope f cd A outer s H E) [] (start N vs) H s1:=by
 have hpl:ps.length<=N.length:=by have:=congrArg List.length S.pre;rw [znY] at this;omega
 obtain⟨h1,tk,rfl,hk⟩:=x.done;have noA:∀ b:Addr,b ∉ (zg4 CX P w K mg base N qual scope f cd A outer s H E).ex:=fun b z=>absurd (show b∈([]:List Addr) from z) (by simp)
 refine⟨⟨e0.mod,S.kind,rfl,rfl,znQ _,fun y z c h1 h2=>?_,fun y hy=>?_,fun y c _ h=>?_,fun _=>hd,Around.frames_deeper e0.frames,.inr ⟨rfl,rfl⟩,fun b z=>absurd z (noA b),e0.bs,e0.bsz,fun b _ _=>noA b,fun b z=>absurd z (noA b),e0.funs,e0.frf⟩,
  rfl,e0.bare,Un.kept hk,⟨_,x.toInCall.ns,fun i y v h1 h2 h3=>?_⟩,fun y c h=>⟨_,x.cell y c h⟩,e0.hok.fresh (znQ _),fun y c h=>?_,fun p hp=>absurd (show p∈([]:List (Addr × Obj)) from hp) (by simp),e0.hok.kept hk,?_⟩
 ·exact name_of_addr x.apart (PySem.mem_of_lookup h1) (PySem.mem_of_lookup h2)
 ·have hy:scope.names.lookup y=some .cell\/scope.names.lookup y=some .free:=hy;rcases hy with hy | hy
  ·exact zfI hy
  ·exact absurd rfl (S.nofree _ (PySem.mem_of_lookup hy))
 ·exact Nat.le_of_lt (x.above y c (PySem.mem_of_lookup h))
 ·have hi:i<vs.length:=by
   unfold start at h2;by_cases hi:i<vs.length
   ·exact hi
   ·rw [zn5 (by simpa using hi)] at h2;rw [List.getElem?_replicate] at h2;split at h2 <;> cases h2
  have ha:vs[i]?=some v:=by
   unfold start at h2;rw [zn4 (by simpa using hi),znB] at h2;cases e:vs[i]? with
   | none=>rw [e] at h2;cases h2
   | some a=>rw [e] at h2;cases h2;rfl
  obtain⟨u,hu,rv⟩:=r.get ha;have hp:ps[i]?=some y:=by
   rw [← S.pre,List.getElem?_take_of_lt (by omega)];exact h1
  have ndP:ps.Nodup:=by rw [← S.pre];exact S.nd.sublist (List.take_sublist _ _)
  refine⟨u,rv,?_⟩;rcases S.par y (znF hp) with k | k
  ·exact .inl ⟨k,zev ndP hp hu k⟩
  ·obtain⟨c,e⟩:=zfI (n:=s.heap.objs.size+1) k;refine .inr ⟨.inl k,c,e,?_⟩;have q:=x.cell y c e;rw [zet ndP hp hu (by show scope.names.lookup y≠_;rw [k];decide)] at q;exact q
 ·exact e0.hok.fresh (Nat.le_of_lt (x.above y c (PySem.mem_of_lookup h)))
 ·unfold start;show _=N.length;rw [znK,znA,List.length_replicate];omega
theorem zlC {CX:CXT} {P:Program} {w:World} {K:PySem.W.Frag} {mg:Str->Option Value} {base:Heap} {k:Nat} {f:Addr} {name qual:Str} {params:Arguments} {body:List Stmt} {scope:Scope} {dV kV doc pm cdv ct oc:Value} {an od:Option Addr}
  {osl:Array (Option Value)} {N ps:List Str} {sp:Sp} (lk:K.lookup f=some ⟨oc,od,.func (PySem.W.fnOf name qual params body scope dV kV doc pm an cdv ct),osl⟩) (hcd:PySem.W.codeIn K cdv qual=true) (S:zar N ps scope)
  (len:∀ vs H Q E,sp vs H Q E->vs.length=ps.length)
  (hbody:∀ (A:Around) (outer:List Env) (s:Shared) (H:Hp) (vs:List V) (Q:VK) (E:XK),zb7 k (A.deeper (envOfC qual scope s.heap.objs.size f cdv))->sp vs H Q E ->
   ∃ t,PSs (zg4 CX P w K mg base N qual scope f cdv A outer s H E) body t/\t { nx:=fun _ H'=>Q .non H',rt:=Q } (start N vs) H) :
  zbu P w K mg base CX (k+1) f (PySem.W.fnOf name qual params body scope dV kV doc pm an cdv ct) ps sp:=by
 refine⟨len,fun A outer s H args us vs Q E hr e0 hb r hsp=>?_⟩;have hl:=len _ _ _ _ hsp;have KX:K.In s.heap:=e0.mod.kin.keeps fun b o e=>(e0.bs b o e).1
 have lim:s.heap.NoLimit:=e0.mod.nolimit.keeps fun b o e=>(e0.bs b o e).1
 have hkind:∀ y∈ps.zip us,scope.names.lookup y.1=some .local\/(scope.names.lookup y.1=some .cell/\((cellsFrom (s.heap.objs.size+1) scope.names []).lookup y.1).isSome=true):=fun ⟨n,v⟩ hy=>by
  rcases S.par n (List.of_mem_zip hy).1 with q | q
  ·exact .inl q
  ·exact .inr ⟨q,PySem.W.cellsFrom_some _ _ _ (.inl q)⟩
 refine codeAny_call_function hr.depth (KX _ _ lk) rfl S.co S.gen rfl (PySem.W.codeRec_of KX hcd) (hb _ _ _ _ ?_);refine wpAny_newFunctionEnv_cells S.kind hkind fun env he s1 x=>?_
 subst he;refine⟨lim.keeps x.toInCall.keep,codeAny_func ?_⟩;obtain⟨t,ht,hq⟩:=hbody A outer s H vs Q E (hr.deeper _) hsp;have I:Inv (zg4 CX P w K mg base N qual scope f cdv A outer s H E) [] (start N vs) H s1:=zhq S hr.hd e0 hl r x;refine wpAny_mono (ht [] s1 (start N vs) H _ I hq) (fun fl s' hs=>?_) fun e s' hs=>hs
 have fin:∀ {σ':St} {H':Hp} {v:V} {u:Value},Inv (zg4 CX P w K mg base N qual scope f cdv A outer s H E) [] σ' H' s'->zaL v u->Q v H'->CE outer P w H s Q u s' :=
  fun {σ' H' v u} J rv q=>⟨v,H',J.os,J.bare,J.base,J.hok,rv,q⟩
 cases fl with
 | ret u =>
  obtain⟨v,σ',H',J,rv,q⟩:=hs;exact fin J rv q
 | next =>
  obtain⟨σ',H',J,q⟩:=hs;exact fin (v:=V.non) (u:=Value.none) J rfl q
 | brk =>
  obtain⟨_,_,_,q⟩:=hs;exact False.elim q
 | cont =>
  obtain⟨_,_,_,q⟩:=hs;exact False.elim q
section
variable {X:Cx} {x:Str} {p pos:Pos} {e:Expr} {es:List Expr} {t:TA} {id T:String} {r:List V->Hp->VK->Prop}
def tCB (r:List V->Hp->VK->Prop) (t:TA):TE:=fun σ H Q=>t σ H fun vs H1=>r vs H1 Q
theorem zaq (hc:za9 X (.builtin id) r) (hg:Gl X x) (hm:X.mg x=none) (hv:bootBuiltins x=some (.builtin id)) (ha:PA X (e::es) t) (hn:x≠"__name__":=by decide) (hdb:(x == ("__debug__":Str))=false:=by decide)
  (he:starEach (e::es) X.env=(false,eval e X.env)::starEach es X.env:=by rfl) (hpl:(backTo pos (starEach es X.env)).any (·.1)=false:=by rfl):PE X (.Call (.Name x p) (e::es) [] pos) (tCB r t):=by
 intro pins s σ H Q I h;refine wpAny_Call_Name_kw (zdd I hg hm hv ?_ hn hdb);exact PyProof.Rows.callWith_builtin1 (thn (ha pos pins s σ H _ I h) fun us s1 ⟨vs,H1,I1,r1,q1⟩=>hc pins s1 σ H1 vs us Q I1 r1 q1) he hpl
theorem zck (hc:za9 X (.type T) r) (hg:Gl X x) (hm:X.mg x=none) (hv:bootBuiltins x=some (.type T)) (ha:PA X (e::es) t) (hn:x≠"__name__":=by decide) (hdb:(x == ("__debug__":Str))=false:=by decide)
  (he:starEach (e::es) X.env=(false,eval e X.env)::starEach es X.env:=by rfl) (hpl:(backTo pos (starEach es X.env)).any (·.1)=false:=by rfl):PE X (.Call (.Name x p) (e::es) [] pos) (tCB r t):=by
 intro pins s σ H Q I h;refine wpAny_Call_Name_kw (zdd I hg hm hv ?_ hn hdb);exact PyProof.Rows.callWith_type1 (thn (ha pos pins s σ H _ I h) fun us s1 ⟨vs,H1,I1,r1,q1⟩=>hc pins s1 σ H1 vs us Q I1 r1 q1) he hpl
end
end L2
namespace HT
open PySem PyProof.Rows
section
open PySem.SeqAt
open PySem.AutoSeq1 (wpAny_loadPart')
open PySem.MeetsSeq PySem.MeetsSeq2 PySem.MeetsSeq3
end
section
variable {prog:Program} {w:World} {A:Around} {E:Value->Shared->Prop} {s:Shared}
def sIx (n d:Nat):Option Int->Nat
 | none=>d
 | some v=>if v<0 then (v+(n:Int)).toNat else min v.toNat n
theorem sIx_nat (n d k:Nat):sIx n d (some (k:Int))=min k n:=by
 show (if (k:Int)<0 then ((k:Int)+(n:Int)).toNat else min (k:Int).toNat n)=min k n;rw [zoc (by omega),Int.toNat_natCast]
end
end HT
namespace L2
open PySem PySem.Spec PyProof.Rows
abbrev TO:=St->Hp->(Option Int->Hp->Prop)->Prop
def PO (X:Cx) (e:Option Expr) (t:TO):Prop :=
 ∀ (pins:List (Addr × Obj)) (s:Shared) (σ:St) (H:Hp) (Q:Option Int->Hp->Prop),Inv X pins σ H s->t σ H Q ->
  wpAny (model X.prog X.w) X.A (evalPart e X.env) (fun u s'=>∃ o H',Inv X pins σ H' s'/\IsPart u o/\Q o H') X.xe s
def zkY:TO:=fun _ H Q=>Q none H
theorem zcs {ns:List Int}:∀ {us:List Value},zaM (ns.map V.int) us->IntsAre us ns:=by
 induction ns with
 | nil=>intro us r;rw [zn3] at r;cases r;exact .nil
 | cons n ns ih =>
  intro us r;rw [zn2] at r;cases r with
  | cons r1 r2 =>
   obtain⟨t,e⟩:=r1;subst e;exact .cons n t (ih r2)
section
variable {X:Cx} {e:Expr} {te:TE} {lo hi:Option Expr} {tl th:TO} {pos p2:Pos}
theorem zd8:PO X none zkY:=by
 intro pins s σ H Q I h;rw [evalPart_none];exact wpAny_pure ⟨none,H,I,.none,h⟩
def SlR (X:Cx) (r:V->Option Int->Option Int->Hp->VK->Prop):Prop :=
 ∀ (pins:List (Addr × Obj)) (s:Shared) (σ:St) (H:Hp) (x:V) (v vl vu:Value) (lo hi:Option Int) (sl:Addr) (Q:VK),Inv X pins σ H s->zaL x v->s.heap.IsSliceOf sl vl vu .none->IsPart vl lo->IsPart vu hi->r x lo hi H Q ->
  ∃ T id,typeLookup (.type T) "__getitem__"=pure (some (.builtin id))/\s.TypeIs v T/\wpAny (model X.prog X.w) X.A (getItem v (.ref sl)) (EP X pins σ Q) X.xe s
def tSl (r:V->Option Int->Option Int->Hp->VK->Prop) (te:TE) (tl th:TO):TE:=fun σ H Q=>te σ H fun x H1=>tl σ H1 fun l H2=>th σ H2 fun u H3=>r x l u H3 Q
theorem zcW {r:V->Option Int->Option Int->Hp->VK->Prop} (hr:SlR X r) (he:PE X e te) (hl:PO X lo tl) (hu:PO X hi th):PE X (.Subscript e (.Slice lo hi none p2) pos) (tSl r te tl th):=by
 intro pins s σ H Q I h;refine Subscript_ (thn (he pins s σ H _ I h) fun v s1 ⟨x,H1,I1,r1,q1⟩=>?_);refine wpAny_Slice (thn (hl pins s1 σ H1 _ I1 q1) fun vl s2 ⟨l,H2,I2,pl,q2⟩=>thn (hu pins s2 σ H2 _ I2 q2) fun vu s3 ⟨u,H3,I3,pu,q3⟩=>?_);rw [evalPart_none];refine wpAny_pure ?_;have I4:Inv X pins σ H3 { s3 with heap:=s3.heap.push { cls:=.type "slice",data:=.fields #[vl,vu,.none] } }:=I3.kept (t':=s3.toks) fun b ob q=>znN _ q
 obtain⟨T,id,hT,ht,hg⟩:=hr pins { s3 with heap:=s3.heap.push { cls:=.type "slice",data:=.fields #[vl,vu,.none] } } σ H3 x v vl vu l u s3.heap.objs.size Q I4 r1 (Heap.IsSliceOf.new ..) pl pu q3;show wpAny (model X.prog X.w) X.A (subscriptTail e (.Slice lo hi none p2) v (.ref s3.heap.objs.size)) (EP X pins σ Q) X.xe { s3 with heap:=s3.heap.push { cls:=.type "slice",data:=.fields #[vl,vu,.none] } };exact tail_any (ops:=[.ref s3.heap.objs.size,v]) ht hT hg (by with_unfolding_all rfl)
def zgp (xs:List V) (lo hi:Option Int):List V:=(xs.drop (HT.sIx xs.length 0 lo)).take (HT.sIx xs.length xs.length hi-HT.sIx xs.length 0 lo)
theorem ze9 (xs:List V) (lo hi:Option Int):(zgp xs lo hi).length<=xs.length:=by
 unfold zgp;rw [znY,List.length_drop];omega
end
def ixN (n:Nat) (i:Int):Option Nat:=if 0<=i then (if i<n then some i.toNat else none) else if -(n:Int)<=i then some (i+n).toNat else none
def atI {α:Type} (xs:List α) (i:Int):Option α:=(ixN xs.length i).bind fun j=>xs[j]?
theorem zhu {n:Nat} {i:Int} {j:Nat} (h:ixN n i=some j):seqIndex? i n=some j/\j<n/\-(n:Int)<=i/\i<n:=by
 unfold ixN at h;by_cases h0:0<=i
 ·rw [zod h0] at h;by_cases h1:i<n
  ·rw [zod h1] at h;have e:i.toNat=j:=zol h;exact⟨by rw [seqIndex_of h0 h1,e],by omega,by omega,h1⟩
  ·rw [zoc h1] at h;cases h
 ·rw [zoc h0] at h;by_cases h1:-(n:Int)<=i
  ·rw [zod h1] at h;have e:(i+n).toNat=j:=zol h;exact⟨by rw [seqIndex_neg (by omega) h1,e],by omega,h1,by omega⟩
  ·rw [zoc h1] at h;cases h
theorem zgV {α:Type} {xs:List α} {i:Int} {v:α} (h:atI xs i=some v):∃ j,seqIndex? i xs.length=some j/\xs[j]?=some v/\j<xs.length/\-(xs.length:Int)<=i/\i<xs.length:=by
 unfold atI at h;cases e:ixN xs.length i with
 | none=>rw [e] at h;cases h
 | some j =>
  rw [e] at h;obtain⟨h1,h2,h3,h4⟩:=zhu e;exact⟨j,h1,h,h2,h3,h4⟩
theorem zcq {α:Type} {xs:List α} {j:Nat} {v:α} (h:xs[j]?=some v):atI xs (j:Int)=some v:=by
 have hj:j<xs.length:=(znE.mp h).1;have e:ixN xs.length (j:Int)=some j:=by
  unfold ixN;rw [zod (by omega),zod (by omega)];simp
 unfold atI;rw [e];exact h
def zjW (b:Expr):Prop:=∀ o i,subscripted b false o i=operate [o,i] (getItem o i)
def IxR (X:Cx) (r:R2):Prop :=
 ∀ (value slice:Expr) (pins:List (Addr × Obj)) (s:Shared) (σ:St) (H:Hp) (x y:V) (v u:Value) (Q:VK),Inv X pins σ H s->zaL x v->zaL y u->r x y H Q ->
  subscripted slice false v u=operate [v,u] (getItem v u)->wpAny (model X.prog X.w) X.A (subscriptTail value slice v u) (EP X pins σ Q) X.xe s
def MtR (X:Cx) (id:String) (r:V->List V->Hp->VK->Prop):Prop :=
 ∀ (pins:List (Addr × Obj)) (s:Shared) (σ:St) (H:Hp) (x:V) (xs:List V) (v:Value) (us:List Value) (Q:VK),Inv X pins σ H s->zaL x v->zaM xs us->r x xs H Q ->
  wpAny (model X.prog X.w) X.A (call (.builtin id) (v::us)) (EP X pins σ Q) X.xe s
section
variable {X:Cx} {a b:Expr} {ta tb:TE} {pos:Pos}
theorem zaQ {r:R2} (hr:IxR X r) (ha:PE X a ta) (hb:PE X b tb) (hs:zjW b):PE X (.Subscript a b pos) (tOp r ta tb):=by
 intro pins s σ H Q I h;exact Subscript_ (zmO ha hb I h fun v u s2 x y H2 I2 rx ry q=>hr a b pins s2 σ H2 x y v u Q I2 rx ry q (hs _ _))
def rIxL (K:PySem.W.Frag):R2:=fun x y H Q=>∃ p xs i v,x=.ref p/\y=.int i/\SqL K H p xs/\atI xs i=some v/\Q v H
def rIxT (K:PySem.W.Frag):R2:=fun x y H Q=>∃ p xs i v,x=.ref p/\y=.int i/\SqT K H p xs/\atI xs i=some v/\Q v H
theorem zki:IxR X (rIxL X.K):=by
 intro value slice pins s σ H x y v u Q I rx ry h hs;obtain⟨p,xs,i,z,rfl,rfl,hq,he,q⟩:=h;cases rx;obtain⟨t,rfl⟩:=ry;obtain⟨its,r,pl,hz⟩:=I.list hq;obtain⟨j,h1,h2,h3,h4,h5⟩:=zgV he;obtain⟨w,ew,rw'⟩:=r.get h2;have hl:=r.length;have hn:=zfV;have fin:EP X pins σ Q w s:=⟨z,H,I,rw',q⟩;by_cases h0:0<=i
 ·have hj:i.toNat=j:=by
   rw [seqIndex_of h0 h5] at h1;exact zol h1
  exact item_listR pl.isList h0 (by omega) (by rw [hj];simpa using ew) fin hs
 ·have hj:(i+(its.toArray.size:Int)).toNat=j:=by
   rw [seqIndex_neg (by omega) h4] at h1;rw [zoa,← hl];exact zol h1
  exact subscriptTail_builtinR (x:=w) pl.isList.typeIs slot_list_getitem.lookup
   (wpAny_getItem_list_neg (Q:=fun r s'=>r=w/\EP X pins σ Q r s') pl.isList (by omega) (by rw [zoa] <;> omega) (by omega) (by rw [hj];simpa using ew) ⟨rfl,fin⟩) hs
theorem zlH:IxR X (rIxT X.K):=by
 intro value slice pins s σ H x y v u Q I rx ry h hs;obtain⟨p,xs,i,z,rfl,rfl,hq,he,q⟩:=h;cases rx;obtain⟨t,rfl⟩:=ry;obtain⟨its,r,pl,hz⟩:=I.tuple hq;obtain⟨j,h1,h2,h3,h4,h5⟩:=zgV he;obtain⟨w,ew,rw'⟩:=r.get h2;have hl:=r.length;have hn:=zfV;have fin:EP X pins σ Q w s:=⟨z,H,I,rw',q⟩;exact subscriptTail_builtinR (x:=w) pl.typeIs slot_tuple_getitem.lookup
  (getItem_tuple (j:=j) (Q:=fun r s'=>r=w/\EP X pins σ Q r s') pl (by omega) (by omega) (by rw [zoa,← hl];exact h1) (by simpa using ew) ⟨rfl,fin⟩) hs
theorem zgx (its:List Value) (n j:Nat) (u:Value):Obj.mapSeq (·.setIfInBounds j u) { cls:=.type "list",data:=.seq its.toArray n }={ cls:=.type "list",data:=.seq (its.set j u).toArray n }:=by
 simp [Obj.mapSeq]
theorem Inv.lst {pins:List (Addr × Obj)} {σ:St} {H:Hp} {s:Shared} {p:Addr} {xs:List V} (I:Inv X pins σ H s) (h:H p=some (.lst xs)) :
  ∃ (its:List Value) (n:Nat),zaM xs its/\s.heap.get? p=some { cls:=.type "list",data:=.seq its.toArray n }/\xs.length<=sizeLine:=by
 obtain⟨z,its,n,r,e⟩:=I.hok p _ h;exact⟨its,n,r,e,z⟩
theorem Inv.lstUpd {pins:List (Addr × Obj)} {σ:St} {H:Hp} {s:Shared} {p:Addr} {xs ys:List V} {its its':List Value} {n n':Nat} {f:Obj->Obj} (I:Inv X pins σ H s) (h:H p=some (.lst xs))
  (ho:s.heap.get? p=some { cls:=.type "list",data:=.seq its.toArray n }) (hf:f { cls:=.type "list",data:=.seq its.toArray n }={ cls:=.type "list",data:=.seq its'.toArray n' }) (r:zaM ys its') (hz:ys.length<=sizeLine) (t:Nat) :
  Inv X pins σ (upd H p (.lst ys)) { s with heap:=s.heap.update p f,toks:=t }:=by
 have e:(s.heap.update p f).get? p=some { cls:=.type "list",data:=.seq its'.toArray n' }:=by
  rw [Heap.get?_update_self f ho (by rw [hf] <;> rfl),hf]
 refine I.write (x:=p) (e:=p) (by rw [h];trivial) (.inl rfl) (fun b u hb q=>(Heap.get?_update_other _ _ (Ne.symm hb)).trans q) ⟨_,e⟩ ?_;exact⟨hz,its',n',r,e⟩
def znm:V->V->V->Hp->(Hp->Prop)->Prop:=fun o i v H Q=>∃ p xs k j,o=.ref p/\i=.int k/\H p=some (.lst xs)/\ixN xs.length k=some j/\Q (upd H p (.lst (xs.set j v)))
theorem zje:zk7 X znm:=by
 intro pins s σ H o i v ov iv u Q I ro ri rv h;obtain⟨p,xs,k,j,rfl,rfl,hp,hj,q⟩:=h;cases ro;obtain⟨t,rfl⟩:=ri;obtain⟨its,n,r,ho,hz⟩:=I.lst hp;obtain⟨h1,h2,h3,h4⟩:=zhu hj;have hl:=r.length;have hn:=zfV;have I':Inv X pins σ (upd H p (.lst (xs.set j v))) { s with heap:=s.heap.update p (Obj.mapSeq (·.setIfInBounds j u)) } :=
  I.lstUpd hp ho (zgx its n j u) (r.set rv j) (by rw [znX];exact hz) s.toks
 by_cases h0:0<=k
 ·have hk:k.toNat=j:=by
   rw [seqIndex_of h0 h4] at h1;exact zol h1
  exact PySem.W.ki_setAt ho h0 (by omega) (by rw [zoa,← hl];exact h4) (by rw [hk];exact⟨_,I',q⟩)
 ·have hk:(k+(its.toArray.size:Int)).toNat=j:=by
   rw [seqIndex_neg (by omega) h3] at h1;rw [zoa,← hl];exact zol h1
  exact PySem.W.ki_setBack ho (by omega) (by rw [zoa,← hl];exact h3) (by omega) (by rw [hk];exact⟨_,I',q⟩)
theorem zeV (lo hi:Option Int) (n:Nat):(sliceBounds lo hi none n).1=((HT.sIx n 0 lo:Nat):Int)/\(sliceBounds lo hi none n).2.1=((HT.sIx n n hi:Nat):Int)/\(sliceBounds lo hi none n).2.2=1:=by
 refine⟨?_,?_,rfl⟩
 ·cases lo with
  | none=>simp [sliceBounds,HT.sIx]
  | some i =>
   simp only [sliceBounds,HT.sIx,Option.getD_none,show (1:Int) > 0 by decide,if_true];by_cases h:i<0
   ·simp only [h,if_true] <;> omega
   ·simp only [h,if_false] <;> omega
 ·cases hi with
  | none=>simp [sliceBounds,HT.sIx]
  | some i =>
   simp only [sliceBounds,HT.sIx,Option.getD_none,show (1:Int) > 0 by decide,if_true];by_cases h:i<0
   ·simp only [h,if_true] <;> omega
   ·simp only [h,if_false] <;> omega
theorem zee (its:List Value) (lo hi:Option Int):slicePick its.toArray lo hi none=((its.drop (HT.sIx its.length 0 lo)).take (HT.sIx its.length its.length hi-HT.sIx its.length 0 lo)).toArray:=by
 obtain⟨h1,h2,h3⟩:=zeV lo hi its.toArray.size;unfold slicePick;rw [h1,h2,h3];simp only [sliceRange_one,pick_run,zoa] <;> rfl
def rSlL (K:PySem.W.Frag):V->Option Int->Option Int->Hp->VK->Prop:=fun x lo hi H Q=>∃ a xs,x=.ref a/\SqL K H a xs/\∀ p,H p=none->Q (.ref p) (upd H p (.lst (zgp xs lo hi)))
theorem zkW:SlR X (rSlL X.K):=by
 intro pins s σ H x v vl vu lo hi sl Q I rx hs pl pu h;obtain⟨a,xs,rfl,hx,q⟩:=h;cases rx;obtain⟨its,r,ht,hz⟩:=I.list hx;have hlen:=r.length;refine⟨"list",_,slot_list_getitem.lookup,ht.isList.typeIs,?_⟩;refine wpAny_getItem_list_slice ht.isList hs pl pu .none (by simp) ?_ (by rw [zoa] <;> omega);rw [zee,← hlen];refine⟨.ref s.heap.objs.size,_,I.laid (t':=s.toks) (o:=.lst (zgp xs lo hi)) (fun b ob q=>znN _ q) (znQ _) ?_,rfl,q _ (I.hok.fresh (znQ _))⟩;exact⟨znP (ze9 xs lo hi) hz,_,0,(r.drop (HT.sIx xs.length 0 lo)).take (HT.sIx xs.length xs.length hi-HT.sIx xs.length 0 lo),zn9 _ rfl⟩
def zds:V->Bool
 | .non=>true
 | .bl _=>true
 | .int _=>true
 | .str _=>true
 | _=>false
def eqV:V->V->Bool
 | .non,.non=>true
 | .bl a,.bl b=>a == b
 | .bl a,.int b=>(if a then 1 else 0) == b
 | .int a,.bl b=>a == (if b then 1 else 0)
 | .int a,.int b=>a == b
 | .str a,.str b=>a == b
 | _,_=>false
theorem zlB {A:Around} {s:Shared} {y x:V} {u v:Value} (ry:zaL y u) (rx:zaL x v) (fy:zds y=true) (fx:zds x=true):SeqAt.EqAt A s u v (eqV y x):=by
 cases y with
 | non =>
  cases ry;cases x with
  | non=>cases rx;exact SeqAt.EqAt.same _
  | bl b=>cases rx;exact SeqAt.EqAt.none_bool b
  | int b=>obtain⟨t,rfl⟩:=rx;exact SeqAt.EqAt.none_int b t
  | str b=>obtain⟨t,rfl⟩:=rx;exact SeqAt.EqAt.none_str b t
  | _=>exact absurd (show false=true from fx) zok
 | bl a =>
  cases ry;cases x with
  | non=>cases rx;exact SeqAt.EqAt.bool_none a
  | bl b=>cases rx;exact SeqAt.EqAt.bool_bool a b
  | int b=>obtain⟨t,rfl⟩:=rx;exact SeqAt.EqAt.bool_int a b t
  | str b=>obtain⟨t,rfl⟩:=rx;exact SeqAt.EqAt.bool_str a b t
  | _=>exact absurd (show false=true from fx) zok
 | int a =>
  obtain⟨t',rfl⟩:=ry;cases x with
  | non=>cases rx;exact SeqAt.EqAt.int_none a t'
  | bl b=>cases rx;exact SeqAt.EqAt.int_bool a t' b
  | int b=>obtain⟨t,rfl⟩:=rx;exact SeqAt.EqAt.int_int a t' b t
  | str b=>obtain⟨t,rfl⟩:=rx;exact SeqAt.EqAt.int_str a t' b t
  | _=>exact absurd (show false=true from fx) zok
 | str a =>
  obtain⟨t',rfl⟩:=ry;cases x with
  | non=>cases rx;exact SeqAt.EqAt.str_none a t'
  | bl b=>cases rx;exact SeqAt.EqAt.str_bool a t' b
  | int b=>obtain⟨t,rfl⟩:=rx;exact SeqAt.EqAt.str_int a t' b t
  | str b=>obtain⟨t,rfl⟩:=rx;exact SeqAt.EqAt.str_str a t' b t
  | _=>exact absurd (show false=true from fx) zok
 | _=>exact absurd (show false=true from fy) zok
def eqU (x:V) (u:Value):Bool:=match u with
 | .none=>eqV .non x
 | .bool b=>eqV (.bl b) x
 | .int i _=>eqV (.int i) x
 | .str z _=>eqV (.str z) x
 | _=>false
theorem zjz {x y:V} {u:Value} (r:zaL y u) (f:zds y=true):eqU x u=eqV y x:=by
 cases y with
 | non=>cases r;rfl
 | bl b=>cases r;rfl
 | int i=>obtain⟨t,rfl⟩:=r;rfl
 | str z=>obtain⟨t,rfl⟩:=r;rfl
 | _=>exact absurd (show false=true from f) zok
theorem ze6 {x:V}:∀ {xs:List V} {us:List Value},zaM xs us->xs.all zds=true->us.any (eqU x)=xs.any fun y=>eqV y x
 | _,_,.nil,_=>rfl
 | y::xs,u::us,.cons r t,f=>by
  rw [List.all_cons,Bool.and_eq_true] at f;rw [List.any_cons,List.any_cons,zjz r f.1,ze6 t f.2]
theorem zd1 {A:Around} {s:Shared} {x:V} {v:Value} (rx:zaL x v) (fx:zds x=true):∀ {xs:List V} {us:List Value},zaM xs us->xs.all zds=true->∀ u∈us,SeqAt.EqAt A s u v (eqU x u)
 | _,_,.nil,_=>fun u hu=>by cases hu
 | y::xs,u::us,.cons r t,f=>fun u' hu=>by
  rw [List.all_cons,Bool.and_eq_true] at f;rcases zoh.mp hu with rfl | hu
  ·rw [zjz r f.1];exact zlB r rx f.1 fx
  ·exact zd1 rx fx t f.2 u' hu
def inV (x:V) (xs:List V):Bool:=xs.any fun y=>eqV y x
def rIn (K:PySem.W.Frag) (neg:Bool):R2:=fun x y H Q=>∃ p xs,y=.ref p/\(SqL K H p xs\/SqT K H p xs)/\zds x=true/\xs.all zds=true/\Q (.bl (if neg then !inV x xs else inV x xs)) H
theorem zhN:OpR X (compareOp .In) (rIn X.K false):=by
 intro pins s σ H x y v u Q I rx ry h;obtain⟨p,xs,rfl,hq,fx,fs,q⟩:=h;cases ry;rcases hq with hq | hq
 ·obtain⟨its,r,pl,hz⟩:=I.list hq;refine SeqAt.in_listAt (eqU x) pl.isList (fun w hw=>zd1 rx fx r fs w (by simpa using hw)) ⟨.bl _,H,I,rfl,?_⟩;rw [show its.toArray.any (eqU x)=its.any (eqU x) by simp,ze6 r fs];exact q
 ·obtain⟨its,r,pl,hz⟩:=I.tuple hq;refine SeqAt.in_tupleAt (eqU x) pl (fun w hw=>zd1 rx fx r fs w (by simpa using hw)) ⟨.bl _,H,I,rfl,?_⟩;rw [show its.toArray.any (eqU x)=its.any (eqU x) by simp,ze6 r fs];exact q
theorem zez:za9 X (.builtin "len") (fun xs H Q=>∃ p ys,xs=[.ref p]/\(SqL X.K H p ys\/SqT X.K H p ys)/\Q (.int ys.length) H):=by
 intro pins s σ H xs us Q I r h;obtain⟨p,ys,rfl,hq,q⟩:=h;obtain⟨u,rfl,rx⟩:=zih r;cases rx;have hn:=zfV;rcases hq with hq | hq
 ·obtain⟨its,r',pl,hz⟩:=I.list hq;have hlen:=r'.length;exact Calls.call_len_list pl.isList (by simp only [zoa] <;> omega) ⟨.int ys.length,H,I.tok _,⟨s.toks+1,by rw [zoa,hlen]⟩,q⟩
 ·obtain⟨its,r',pl,hz⟩:=I.tuple hq;have hlen:=r'.length;exact len_tuple pl (by simp only [zoa] <;> omega) ⟨.int ys.length,H,I.tok _,⟨s.toks+1,by rw [zoa,hlen]⟩,q⟩
def tyV (K:PySem.W.Frag) (T:String) (x:V) (H:Hp):Prop:=match x with
 | .str _=>T="str"
 | .int _=>T="int"
 | .ref p=>(T="list"/\∃ xs,SqL K H p xs)\/(T="tuple"/\∃ o,K.lookup p=some o/\o.cls=.type "tuple"/\o.dict=none) \/
   (T="dict"/\((∃ kvs,H p=some (.dK kvs))\/∃ kvs,H p=some (.dT kvs)))\/(T="set"/\∃ S n,H p=some (.set S n))
 | _=>False
theorem zjP {pins:List (Addr × Obj)} {σ:St} {H:Hp} {s:Shared} {T:String} {x:V} {v:Value} (I:Inv X pins σ H s) (r:zaL x v) (ty:tyV X.K T x H) :
  s.TypeIs v T/\∀ a,v=.ref a->∃ ob,s.heap.get? a=some ob/\ob.dict=none:=by
 cases x with
 | str z =>
  obtain⟨t,rfl⟩:=r;cases (show T="str" from ty);exact⟨typeIs_str s z t,fun _ e=>nomatch e⟩
 | int i =>
  obtain⟨t,rfl⟩:=r;cases (show T="int" from ty);exact⟨typeIs_int s i t,fun _ e=>nomatch e⟩
 | ref p =>
  cases r;rcases ty with ⟨rfl,xs,hq⟩ | ⟨rfl,o,hk,hc,hd⟩ | ⟨rfl,hk⟩ | ⟨rfl,S,n,hk⟩
  ·obtain⟨its,_,pl,_⟩:=I.list hq;refine⟨pl.isList.typeIs,fun a e=>?_⟩;cases e;obtain⟨o,n,e,c,hd,_⟩:=pl;exact⟨o,e,hd⟩
  ·refine⟨⟨o,I.kIn p o hk,hc⟩,fun a e=>?_⟩;cases e;exact⟨o,I.kIn _ o hk,hd⟩
  ·have z:∃ o,s.heap.get? p=some o/\o.ExactDict:=by
    rcases hk with ⟨kvs,hk⟩ | ⟨kvs,hk⟩
    ·obtain⟨_,_,_,_,o,_,_,e,ex,_⟩:=I.hok p _ hk;exact⟨o,e,ex⟩
    ·obtain⟨_,_,_,_,o,_,_,e,ex,_⟩:=I.hok p _ hk;exact⟨o,e,ex⟩
   obtain⟨o,e,ex⟩:=z;refine⟨⟨o,e,ex.1⟩,fun a e2=>?_⟩;cases e2;exact⟨o,e,ex.2.1⟩
  ·obtain⟨o,_,_,_,e,ex,_⟩:=I.hok p _ hk;refine⟨⟨o,e,ex.1⟩,fun a e2=>?_⟩;cases e2;exact⟨o,e,ex.2.1⟩
 | _=>exact False.elim ty
def tBM0 (K:PySem.W.Frag) (T:String) (r:V->List V->Hp->VK->Prop) (to:TE):TE:=fun σ H Q=>to σ H fun x H1=>tyV K T x H1/\r x [] H1 Q
def tBM (K:PySem.W.Frag) (T:String) (r:V->List V->Hp->VK->Prop) (to:TE) (t:TA):TE:=fun σ H Q=>to σ H fun x H1=>tyV K T x H1/\t σ H1 fun xs H2=>r x xs H2 Q
variable {o e:Expr} {es:List Expr} {to:TE} {t:TA} {name:Str} {apos cpos:Pos} {T id:String} {r:V->List V->Hp->VK->Prop}
theorem zjF (pa:PlainAttrs T) (slot:Slot T name id) (hty:typeOf (.builtin id)=pure (.type "method_descriptor")) (hm:MtR X id r) (ho:PE X o to)
  (hbase:attributeBase o name X.env (eval o X.env)=eval o X.env:=by rfl) (hline:(apos.endLine == cpos.line)=true:=by rfl):PE X (.Call (.Attribute o name apos) [] [] cpos) (tBM0 X.K T r to):=by
 intro pins s σ H Q I h;refine wpAny_Call_method0_late hbase hline (thn (ho pins s σ H _ I h) fun v s1 ⟨x,H1,I1,r1,ty,q1⟩=>?_);obtain⟨h1,h2⟩:=zjP I1 r1 ty;exact⟨T,id,pa,slot,hty,h1,h2,Calls.callWith_builtin rfl (PySem.evalArgs_none (hm pins s1 σ H1 x [] v [] Q I1 r1 .nil q1))⟩
theorem zfn (pa:PlainAttrs T) (slot:Slot T name id) (hty:typeOf (.builtin id)=pure (.type "method_descriptor")) (hm:MtR X id r) (ho:PE X o to) (ha:PA X (e::es) t)
  (hbase:attributeBase o name X.env (eval o X.env)=eval o X.env:=by rfl)
  (hfew:((backTo cpos (starEach (e::es) X.env)).all (fun x=>!x.1) && (backToKw cpos (keywordEach [] X.env)).all (fun x=>x.1.isSome)
   && decide ((e::es).length+([]:List Keyword).length+(if ([]:List Keyword).isEmpty then 0 else 1)<30))=true:=by rfl)
  (hline:(apos.endLine == cpos.line)=true:=by rfl) (hs:starEach (e::es) X.env=(false,eval e X.env)::starEach es X.env:=by rfl) (hplain:(backTo cpos (starEach es X.env)).any (·.1)=false:=by rfl) :
  PE X (.Call (.Attribute o name apos) (e::es) [] cpos) (tBM X.K T r to t):=by
 intro pins s σ H Q I h;refine wpAny_Call_method_late hbase hfew hline rfl (thn (ho pins s σ H _ I h) fun v s1 ⟨x,H1,I1,r1,ty,q1⟩=>?_);obtain⟨h1,h2⟩:=zjP I1 r1 ty;refine⟨T,id,pa,slot,hty,h1,h2,?_⟩;have hA:=ha cpos pins s1 σ H1 _ I1 q1;rw [hs] at hA ⊢;refine Calls.callWith_builtin (by show (false || (backTo cpos (starEach es X.env)).any (·.1))=false;rw [hplain] <;> rfl) (Calls.evalArgs_plain ?_)
 exact thn hA fun us s2 ⟨vs,H2,I2,r2,q2⟩=>hm pins s2 σ H2 x vs v us Q I2 r1 r2 q2
end
def MtM (X:Cx) (id:String) (r:V->List V->Hp->VK->Prop):Prop :=
 ∀ (pins:List (Addr × Obj)) (s:Shared) (σ:St) (H:Hp) (x:V) (xs:List V) (v:Value) (us:List Value) (Q:VK),Inv X pins σ H s->zaL x v->zaM xs us->r x xs H Q ->
  wpAny (model X.prog X.w) X.A (call (.builtin id) (v::us)) (EP X pins σ Q) X.xe s
theorem zaM.one:∀ {x:V} {us:List Value},zaM [x] us->∃ u,us=[u]/\zaL x u
 | _,_,.cons r .nil=>⟨_,rfl,r⟩
section
variable {X:Cx} {pins:List (Addr × Obj)} {σ:St} {H:Hp} {s:Shared} {l b:Addr} {xs ys zs:List V}
theorem Inv.lset {its its':List Value} {n:Nat} {f:Array Value->Array Value} {t':Nat} (I:Inv X pins σ H s) (hH:H l=some (.lst xs))
  (e:s.heap.get? l=some { cls:=.type "list",data:=.seq its.toArray n }) (hf:f its.toArray=its'.toArray) (hv:zaM ys its') (hz:ys.length<=sizeLine) :
  Inv X pins σ (upd H l (.lst ys)) { s with heap:=s.heap.update l (Obj.mapSeq f),toks:=t' }:=by
 have q:=PySem.IsL.update e f;rw [hf] at q;refine I.write (x:=l) (e:=l) (by rw [hH];exact trivial) (.inl rfl) (fun b' u hb hu=>(Heap.get?_update_other s.heap (Obj.mapSeq f) (Ne.symm hb)).trans hu) ⟨_,q⟩ ?_;exact⟨hz,its',_,hv,q⟩
theorem Inv.lnew {its:List Value} {t':Nat} (I:Inv X pins σ H s) (hv:zaM ys its) (hz:ys.length<=sizeLine) :
  Inv X pins σ (upd H s.heap.objs.size (.lst ys)) { s with heap:=s.heap.push { cls:=.type "list",data:=.seq its.toArray },toks:=t' } :=
 I.laid (fun _ _ q=>znN _ q) (znQ _) ⟨hz,its,0,hv,zn9 _ rfl⟩
theorem Inv.fresh (I:Inv X pins σ H s):H s.heap.objs.size=none:=I.hok.fresh (znQ _)
theorem Inv.lstM (I:Inv X pins σ H s) (hH:H l=some (.lst xs)):xs.length<=sizeLine/\∃ (its:List Value) (n:Nat),zaM xs its/\xs.length=its.length/\s.heap.get? l=some { cls:=.type "list",data:=.seq its.toArray n }:=by
 obtain⟨z,its,n,r,e⟩:=I.hok l _ hH;exact⟨z,its,n,r,r.length,e⟩
end
section
variable {X:Cx}
def zh5:V->List V->Hp->VK->Prop:=fun x vs H Q=>∃ l xs y,x=.ref l/\vs=[y]/\H l=some (.lst xs)/\xs.length<sizeLine/\Q .non (upd H l (.lst (xs++[y])))
theorem zhG:MtM X "list.append" zh5:=by
 intro pins s σ H x vs v us Q I rx rv h;obtain⟨l,xs,y,rfl,rfl,hH,hz,q⟩:=h;cases rx;obtain⟨u,rfl,ru⟩:=rv.one;obtain⟨z,its,n,r,hl,e⟩:=I.lstM hH;refine call_meets F.slot_list_append ⟨_,e,rfl⟩ F.entry_list_append (F.args_list_append_2 _ _) (PySem.list_append l its.toArray n u (by rw [zoa];omega)) ⟨e,?_⟩;refine⟨.non,_,I.lset (its':=its++[u]) hH e (by simp) (r.append (.cons ru .nil)) ?_,rfl,q⟩;rw [znK,List.length_singleton];omega
def rCat:R2:=fun x y H Q=>∃ l b xs zs,x=.ref l/\y=.ref b/\H l=some (.lst xs)/\H b=some (.lst zs)/\xs.length+zs.length<=sizeLine/\∀ p,H p=none->Q (.ref p) (upd H p (.lst (xs++zs)))
theorem zlT:OpR X (binaryOp .Add) rCat:=by
 intro pins s σ H x y v u Q I rx ry h;obtain⟨l,b,xs,zs,rfl,rfl,hH,hB,hz,q⟩:=h;cases rx;cases ry;obtain⟨z,its,n,r,hl,e⟩:=I.lstM hH;obtain⟨z2,its2,n2,r2,hl2,e2⟩:=I.lstM hB;refine PySem.P.add_list e e2 ?_ (by rw [zoa,zoa];omega);have ea:its.toArray++its2.toArray=(its++its2).toArray:=by simp
 rw [ea];exact⟨.ref _,_,I.lnew (t':=s.toks) (r.append r2) (by rw [znK];omega),rfl,q _ I.fresh⟩
end
section
variable {prog:Program} {w:World} {A:Around} {E:Value->Shared->Prop} {s:Shared}
end
section
variable {X:Cx}
end
section
variable {κ:Type} [DecidableEq κ]
def ze0 (kvs:List (κ × V)) (k:κ):Option V:=(kvs.find? fun kv=>decide (kv.1=k)).map (·.2)
def zfp (kvs:List (κ × V)) (k:κ) (v:V):List (κ × V) :=
 if (kvs.any fun kv=>decide (kv.1=k))=true then kvs.map (fun kv=>if kv.1=k then (kv.1,v) else kv) else kvs++[(k,v)]
def zfc (kvs:List (κ × V)) (k:κ):List (κ × V):=kvs.filter fun kv=>decide (kv.1≠k)
theorem zcY {p:κ × V} {r:List (κ × V)} {k:κ} (e:p.1=k):ze0 (p::r) k=some p.2:=by simp [ze0,List.find?_cons,e]
theorem zcX {p:κ × V} {r:List (κ × V)} {k:κ} (e:¬ p.1=k):ze0 (p::r) k=ze0 r k:=by simp [ze0,List.find?_cons,e]
theorem zgi (k:κ):∀ kvs:List (κ × V),(kvs.any fun kv=>decide (kv.1=k))=(ze0 kvs k).isSome
 | []=>rfl
 | p::r=>by
  rw [List.any_cons];by_cases e:p.1=k
  ·simp only [zcY e,znG e,Bool.true_or,Option.isSome_some]
  ·rw [zcX e,znH e,Bool.false_or];exact zgi k r
theorem zce (kvs:List (κ × V)) (k:κ) (v:V):(zfp kvs k v).length<=kvs.length+1:=by
 unfold zfp;split
 ·rw [znA];omega
 ·rw [znK,zob,List.length_nil];omega
theorem zeq.isSome_eq {o:Option V} {u:Option Value} (r:zeq o u):o.isSome=u.isSome:=by
 cases o with
 | none=>cases u with
  | none=>rfl
  | some _=>exact (show False from r).elim
 | some _=>cases u with
  | none=>exact (show False from r).elim
  | some _=>rfl
theorem zeq.getD {o:Option V} {u:Option Value} {d:V} {d':Value} (r:zeq o u) (rd:zaL d d'):zaL (o.getD d) (u.getD d'):=by
 cases o with
 | none=>cases u with
  | none=>exact rd
  | some _=>exact (show False from r).elim
 | some _=>cases u with
  | none=>exact (show False from r).elim
  | some _=>exact r
theorem KV.val {kvs:List (κ × V)} {vs:List (κ × Value)} (r:KV kvs vs) (k:κ):zeq (ze0 kvs k) (valueAt vs k):=by
 unfold KV at r
 induction r with
 | nil=>exact True.intro
 | @cons p q ps qs h t ih =>
  obtain⟨h1,h2⟩:=h;by_cases e:p.1=k
  ·have e':q.1=k:=h1.symm.trans e;have b:valueAt (q::qs) k=some q.2:=by simp [valueAt,List.find?_cons,e']
   rw [zcY e,b];exact h2
  ·have e':¬ q.1=k:=fun z=>e (h1.trans z)
   have b:valueAt (q::qs) k=valueAt qs k:=by simp [valueAt,List.find?_cons,e']
   rw [zcX e,b];exact ih
theorem KV.any {kvs:List (κ × V)} {vs:List (κ × Value)} (r:KV kvs vs) (k:κ):(kvs.any fun kv=>decide (kv.1=k))=vs.any fun kv=>decide (kv.1=k):=by
 unfold KV at r
 induction r with
 | nil=>rfl
 | cons h t ih=>rw [List.any_cons,List.any_cons,ih,h.1]
theorem KV.repl {kvs:List (κ × V)} {vs:List (κ × Value)} (r:KV kvs vs) (k:κ) {y:V} {u:Value} (ry:zaL y u) :
  KV (kvs.map fun kv=>if kv.1=k then (kv.1,y) else kv) (vs.map fun kv=>if kv.1=k then (kv.1,u) else kv):=by
 unfold KV at r ⊢
 induction r with
 | nil=>exact .nil
 | @cons p q ps qs h t ih =>
  rw [zn2,zn2];refine .cons ?_ ih;obtain⟨h1,h2⟩:=h;by_cases e:p.1=k
  ·rw [zod e,zod (h1.symm.trans e)];exact⟨h1,ry⟩
  ·rw [zoc e,zoc (fun z=>e (h1.trans z))];exact⟨h1,h2⟩
theorem KV.put {kvs:List (κ × V)} {vs:List (κ × Value)} (r:KV kvs vs) (k:κ) {y:V} {u:Value} (ry:zaL y u):KV (zfp kvs k y) (stored vs k u):=by
 unfold zfp stored;rw [r.any k];by_cases e:(vs.any fun kv=>decide (kv.1=k))=true
 ·rw [zod e,zod e];exact r.repl k ry
 ·rw [zoc e,zoc e];exact Paired.snoc r ⟨rfl,ry⟩
theorem KV.drop {kvs:List (κ × V)} {vs:List (κ × Value)} (r:KV kvs vs) (k:κ):KV (zfc kvs k) (without vs k):=by
 unfold KV at r ⊢;unfold zfc without
 induction r with
 | nil=>exact .nil
 | @cons p q ps qs h t ih =>
  obtain⟨h1,h2⟩:=h;rw [List.filter_cons,List.filter_cons];by_cases e:p.1=k
  ·have a:¬ decide (p.1≠k)=true:=by simp [e]
   have b:¬ decide (q.1≠k)=true:=by simp [h1.symm.trans e]
   rw [zoc a,zoc b];exact ih
  ·have e':¬ q.1=k:=fun z=>e (h1.trans z)
   have a:decide (p.1≠k)=true:=by simp [e]
   have b:decide (q.1≠k)=true:=by simp [e']
   rw [zod a,zod b];exact .cons ⟨h1,h2⟩ ih
theorem KV.length {kvs:List (κ × V)} {vs:List (κ × Value)} (r:KV kvs vs):kvs.length=vs.length:=Paired.length r
theorem ziA (kvs:List (κ × V)) (k:κ):(zfc kvs k).length<=kvs.length:=List.length_filter_le _ _
end
theorem zgu {P:Program} {w:World} {k:Key} {u:Value} (r:zaL (kV k) u):(zaF P w).is k u=true:=by
 cases k with
 | inl i=>obtain⟨t,e⟩:=(show ∃ t,u=Value.int i t from r);subst e;exact zfh P w i t
 | inr x=>obtain⟨t,e⟩:=(show ∃ t,u=Value.str x t from r);subst e;exact zfi P w x t
theorem zeC {P:Program} {w:World}:∀ {ks:List Key} {us:List Value},zaM (ks.map kV) us->ItemsAre (zaF P w) ks us
 | [],_,r=>by rw [zn3] at r;cases r;exact .nil
 | k::ks,_,r=>by
  rw [zn2] at r;cases r with
  | cons h t=>exact .cons (zgu h) (zeC t)
abbrev KT (H:Hp):List (List Key × V)->List (List Key × Addr × Value)->Prop:=Paired fun p q=>p.1=q.1/\H q.2.1=some (.tup (p.1.map kV))/\zaL p.2 q.2.2
theorem KT.val {H:Hp} {kvs:List (List Key × V)} {xs:List (List Key × Addr × Value)} (r:KT H kvs xs) (k:List Key):zeq (ze0 kvs k) ((atKey xs k).map (·.2)):=by
 induction r with
 | nil=>exact True.intro
 | @cons p q ps qs h t ih =>
  obtain⟨h1,_,h2⟩:=h;by_cases e:p.1=k
  ·have e':q.1=k:=h1.symm.trans e;have b:atKey (q::qs) k=some q.2:=by simp [atKey,List.find?_cons,e']
   rw [zcY e,b];exact h2
  ·have e':¬ q.1=k:=fun z=>e (h1.trans z)
   have b:atKey (q::qs) k=atKey qs k:=by simp [atKey,List.find?_cons,e']
   rw [zcX e,b];exact ih
theorem KT.repl {H:Hp} {kvs:List (List Key × V)} {xs:List (List Key × Addr × Value)} (r:KT H kvs xs) (k:List Key) {y:V} {u:Value} (ry:zaL y u) :
  KT H (kvs.map fun kv=>if kv.1=k then (kv.1,y) else kv) (xs.map (putAt k u)):=by
 induction r with
 | nil=>exact .nil
 | @cons p q ps qs h t ih =>
  rw [zn2,zn2];refine .cons ?_ ih;obtain⟨h1,h2,h3⟩:=h;unfold putAt;by_cases e:p.1=k
  ·rw [zod e,zod (h1.symm.trans e)];exact⟨h1,h2,ry⟩
  ·rw [zoc e,zoc (fun z=>e (h1.trans z))];exact⟨h1,h2,h3⟩
theorem KT.put {H:Hp} {kvs:List (List Key × V)} {xs:List (List Key × Addr × Value)} (r:KT H kvs xs) (k:List Key) {b:Addr} {y:V} {u:Value} (hb:H b=some (.tup (k.map kV))) (ry:zaL y u) :
  KT H (zfp kvs k y) (storedH xs k b u):=by
 have e:(kvs.any fun kv=>decide (kv.1=k))=(atKey xs k).isSome:=by
  rw [zgi,(r.val k).isSome_eq,Option.isSome_map]
 unfold zfp storedH;rw [e];by_cases q:(atKey xs k).isSome=true
 ·rw [zod q,zod q];exact r.repl k ry
 ·rw [zoc q,zoc q];exact Paired.snoc r ⟨rfl,hb,ry⟩
theorem KT.keeps {H H':Hp} {kvs:List (List Key × V)} {xs:List (List Key × Addr × Value)} (r:KT H kvs xs) (ht:∀ b ys,H b=some (.tup ys)->H' b=some (.tup ys)):KT H' kvs xs :=
 Paired.mapP r fun _ _ z=>⟨z.1,ht _ _ z.2.1,z.2.2⟩
section
variable {P:Program} {w:World} {H:Hp} {h:Heap} {a:Addr}
theorem zmm {u:HO} (ok:HOk P w H h) (e:Rd H a u):zaV P w H h a u:=e.ok ok
theorem zj9 {kvs:List (Key × V)} (ok:HOk P w H h) (e:Rd H a (.dK kvs)):kvs.length<=sizeLine/\(a == sysModules)=false/\∃ vs,KV kvs vs/\h.DictOf (zaF P w) a vs :=
 show zaV P w H h a (.dK kvs) from zmm ok e
theorem zgq {kvs:List (Key × V)} (ok:HOk P w H h) (e:H a=some (.dK kvs)):kvs.length<=sizeLine/\(a == sysModules)=false/\∃ vs,KV kvs vs/\h.DictOf (zaF P w) a vs:=zj9 ok (.inl e)
theorem zhz {ks:List Key} (ok:HOk P w H h) (e:H a=some (.tup (ks.map kV))):(tupleKind (zaF P w)).is h ks a:=by
 obtain⟨_,its,r,o,h1,h2,n,h3,_⟩:=(show zaV P w H h a (.tup (ks.map kV)) from ok a _ e);exact⟨o,its.toArray,n,h1,h2,h3,by simpa using zeC r⟩
theorem zkb {kvs:List (List Key × V)} (ok:HOk P w H h) (e:Rd H a (.dT kvs)):kvs.length<=sizeLine/\(a == sysModules)=false /\
  ∃ xs,KT H kvs xs/\h.DictOfH (tupleKind (zaF P w)) a xs:=by
 obtain⟨z,y,xs,r,o,es,ep,h1,h2,h3,h4,h5⟩:=(show zaV P w H h a (.dT kvs) from zmm ok e);refine⟨z,y,xs,r,o,es,ep,h1,h2,h3,h4,fun x hx=>?_,h5⟩;have all:∀ {l:List (List Key × V)} {m:List (List Key × Addr × Value)},KT H l m->∀ x∈m,(tupleKind (zaF P w)).is h x.1 x.2.1:=by
  intro l m q
  induction q with
  | nil=>intro x hx;exact nomatch hx
  | @cons p q ps qs hq t ih =>
   intro x hx;rcases zoh.mp hx with e | hx
   ·subst e;exact zhz ok (by rw [← hq.1];exact hq.2.1)
   ·exact ih x hx
 exact all r x hx
theorem zm3 {kvs:List (List Key × V)} (ok:HOk P w H h) (e:H a=some (.dT kvs)):kvs.length<=sizeLine/\(a == sysModules)=false /\
  ∃ xs,KT H kvs xs/\h.DictOfH (tupleKind (zaF P w)) a xs:=zkb ok (.inl e)
end
def zk5 (H:Hp) (a:Addr) (y:V) (r:Option V):Prop :=
 (∃ kvs k,Rd H a (.dK kvs)/\y=kV k/\r=ze0 kvs k)\/∃ kvs k b,Rd H a (.dT kvs)/\y=.ref b/\H b=some (.tup (k.map kV))/\r=ze0 kvs k
def zk6 (H:Hp) (a:Addr) (y v:V) (H':Hp):Prop :=
 (∃ kvs k,H a=some (.dK kvs)/\y=kV k/\kvs.length<sizeLine/\H'=upd H a (.dK (zfp kvs k v))) \/
 ∃ kvs k b,H a=some (.dT kvs)/\y=.ref b/\H b=some (.tup (k.map kV))/\kvs.length<sizeLine/\H'=upd H a (.dT (zfp kvs k v))
theorem zk5.k {H:Hp} {a:Addr} {kvs:List (Key × V)} {k:Key} (e:H a=some (.dK kvs)):zk5 H a (kV k) (ze0 kvs k):=.inl ⟨kvs,k,.inl e,rfl,rfl⟩
theorem zk6.k {H:Hp} {a:Addr} {kvs:List (Key × V)} {k:Key} {v:V} (e:H a=some (.dK kvs)) (hl:kvs.length<sizeLine):zk6 H a (kV k) v (upd H a (.dK (zfp kvs k v))):=.inl ⟨kvs,k,e,rfl,hl,rfl⟩
section
variable {X:Cx} {pins:List (Addr × Obj)} {σ:St} {H:Hp} {s:Shared} {a:Addr} {y v:V} {u r:Value} {o:Option V} {A:Around} {E:Value->Shared->Prop}
theorem Inv.big (I:Inv X pins σ H s):sysModules<s.heap.objs.size:=by
 have h:mainGlobals<s.heap.objs.size:=(I.mod.glob.keeps I.bk).lt;exact Nat.lt_trans (by decide) h
theorem zc3 {h':Heap} {t':Nat} {ob:HO} (I:Inv X pins σ H s) (mu:Mut (H a)) (hs:Heap.SameBut a s.heap h') (he:∃ q,h'.get? a=some q) (new:zaV X.prog X.w (upd H a ob) h' a ob) :
  Inv X pins σ (upd H a ob) { s with heap:=h',toks:=t' } :=
 I.write (x:=a) (e:=a) mu (.inl rfl) (fun b q hb z=>(hs.2 b hb).trans z) he new
theorem zhb {P:Program} {w:World} {H':Hp} {h':Heap} {kvs:List (Key × V)} {vs:List (Key × Value)} (z:kvs.length<=sizeLine) (hd:(a == sysModules)=false) (rel:KV kvs vs) (dd:h'.DictOf (zaF P w) a vs) :
  zaV P w H' h' a (.dK kvs):=⟨z,hd,vs,rel,dd⟩
theorem zg5 {H':Hp} {Q:Unit->Shared->Prop} (hu:A.units+1<cLine) (I:Inv X pins σ H s) (g:zk6 H a y v H') (ry:zaL y u) (rv:zaL v r) (h:∀ s',Inv X pins σ H' s'->Q () s') :
  wpAny (model X.prog X.w) A (setItem (.ref a) u r) Q E s:=by
 rcases g with ⟨kvs,k,e,ey,l,eH⟩ | ⟨kvs,k,b,e,ey,eb,l,eH⟩
 ·subst ey eH;obtain⟨z,hd,vs,rel,dd⟩:=zgq I.hok e;have hz:vs.length<=sizeLine:=by rw [← rel.length];exact z
  have hl:(zfp kvs k v).length<=sizeLine:=by have:=zce kvs k v;omega
  refine wpAny_setItem_pairs (hsz:=hz) (zgu ry) dd fun h' dd' hs=>h _ ?_
  have he:∃ q,h'.get? a=some q:=let ⟨q,_,_,hq,_⟩:=dd';⟨q,hq⟩;exact zc3 I (by rw [e];exact True.intro) hs he (zhb hl hd (rel.put k rv) dd')
 ·subst ey eH;cases (show u=Value.ref b from ry);obtain⟨z,hd,xs,rel,dd⟩:=zm3 I.hok e;have hz:xs.length<=sizeLine:=by rw [← Paired.length rel];exact z
  have hl:(zfp kvs k v).length<=sizeLine:=by have:=zce kvs k v;omega
  refine wpAny_setItem_heap (hsz:=hz) (tupleKind_room_in1 hu) (zhz I.hok eb) dd fun h' dd' hs=>h _ ?_
  obtain⟨q,es,ep,hq,h2,h3,h4,_,h5⟩:=dd';refine zc3 I (by rw [e];exact True.intro) hs ⟨q,hq⟩ ⟨hl,hd,_,(rel.put k eb rv).keeps fun c ys ec=>?_,q,es,ep,hq,h2,h3,h4,h5⟩;rw [zam (zm8 ec e (fun z=>nomatch z))];exact ec
end
section
variable {X:Cx} {pins:List (Addr × Obj)} {σ:St} {H:Hp} {s:Shared} {a:Addr} {kvs:List (Key × V)} {k:Key} {u:Value} {A:Around} {E:Value->Shared->Prop}
theorem zm1 {v:V} {more:List Value} {Q:Value->Shared->Prop} (I:Inv X pins σ H s) (e:H a=some (.dK kvs)) (ry:zaL (kV k) u) (l:ze0 kvs k=some v) (hm:more=[]\/∃ x,more=[x])
  (h:∀ w' s',Inv X pins σ (upd H a (.dK (zfc kvs k))) s'->zaL v w'->Q w' s'):wpAny (model X.prog X.w) A (call (.builtin "dict.pop") (.ref a::u::more)) Q E s:=by
 obtain⟨z,hd,vs,rel,dd⟩:=zgq I.hok e;obtain⟨w',hw,rw'⟩:=zeq.some_of (v:=v) (o:=valueAt vs k) (by rw [← l];exact rel.val k);have hp:(keyPart u).isSome=true:=by
  cases k with
  | inl i=>obtain⟨t,q⟩:=(show ∃ t,u=Value.int i t from ry);subst q;rfl
  | inr x=>obtain⟨t,q⟩:=(show ∃ t,u=Value.str x t from ry);subst q;rfl
 have ha:argsOk "dict.pop" ⟨.ref a::u::more,[]⟩:=by
  rcases hm with q | ⟨x,q⟩
  ·subst q;exact PySem.F.args_dict_pop_2 _ _
  ·subst q;exact PySem.F.args_dict_pop_3 _ _ _
 refine call_meetsIn PySem.F.slot_dict_pop dd.typeIs PySem.F.entry_dict_pop ha (meets_dict_pop_there (zaF X.prog X.w) a (zgu ry) more hm hp)
  ⟨vs,w',dd,by rw [← rel.length];exact z,hw,fun h' dd' hs=>h w' _ ?_ rw'⟩
 have he:∃ q,h'.get? a=some q:=let ⟨q,_,_,hq,_⟩:=dd';⟨q,hq⟩;exact zc3 I (by rw [e];exact True.intro) hs he (zhb (znP (ziA kvs k) z) hd (rel.drop k) dd')
theorem zlw {r:Value} {Q:Value->Shared->Prop} (I:Inv X pins σ H s) (e:H a=some (.dK kvs)) (ry:zaL (kV k) u) (l:ze0 kvs k=none) (h:∀ s',Inv X pins σ H s'->Q r s') :
  wpAny (model X.prog X.w) A (call (.builtin "dict.pop") [.ref a,u,r]) Q E s:=by
 obtain⟨z,hd,vs,rel,dd⟩:=zgq I.hok e;have hn:valueAt vs k=none:=zeq.none_of (by rw [← l];exact rel.val k);have hp:(keyPart u).isSome=true:=by
  cases k with
  | inl i=>obtain⟨t,q⟩:=(show ∃ t,u=Value.int i t from ry);subst q;rfl
  | inr x=>obtain⟨t,q⟩:=(show ∃ t,u=Value.str x t from ry);subst q;rfl
 exact call_meetsIn PySem.F.slot_dict_pop dd.typeIs PySem.F.entry_dict_pop (PySem.F.args_dict_pop_3 _ _ _) (meets_dict_pop_default (zaF X.prog X.w) a (zgu ry) hd hp r) ⟨vs,dd,hn,h _ (I.tok _)⟩
end
def znn (td ty tv:TE):TS:=fun D σ H=>tv σ H fun v H1=>td σ H1 fun x H2=>ty σ H2 fun y H3=>∃ a H4,x=.ref a/\zk6 H3 a y v H4/\D.nx σ H4
section
variable {X:Cx} {o i e value:Expr} {pos pos' tpos:Pos} {td ty tv:TE}
theorem zhW (hu:X.A.units+1<cLine) (ho:PE X o td) (hi:PE X i ty) (hv:PE X value tv) (hs:swapsWith value (some (.Subscript o i pos')) pos.line X.env=pure false) :
  PS X (.Assign [.Subscript o i pos'] value pos) (znn td ty tv):=by
 intro pins s σ H D I h;refine wpAny_Assign_Subscript (thn (hv pins s σ H _ I h) fun r s1 ⟨v,H1,I1,rv,q1⟩=>thn (ho pins s1 σ H1 _ I1 q1) fun u s2 ⟨x,H2,I2,rx,q2⟩=>thn (hi pins s2 σ H2 _ I2 q2) fun iv s3 ⟨y,H3,I3,ry,a,H4,ex,g,q3⟩=>?_) hs;subst ex;obtain rfl:u=Value.ref a:=rx;exact zg5 hu I3 g ry rv fun s4 I4=>⟨σ,H4,I4,q3⟩
end
theorem zfL {P:Program} {w:World} {H:Hp} (h:Heap) (hb:sysModules<h.objs.size):zaV P w H (h.push { cls:=.type "dict",data:=.dict #[] }) h.objs.size (.dK []) :=
 ⟨Nat.zero_le _,beq_eq_false_iff_ne.mpr (Ne.symm (zoi hb)),[],.nil,Heap.DictOf.new h⟩
def zmp:TE:=fun _ H Q=>∀ p,H p=none->Q (.ref p) (upd H p (.dK []))
section
variable {X:Cx} {pos:Pos}
theorem ziY:PE X (.Dict [] [] pos) zmp:=fun pins s σ H Q I h =>
 wpAny_Dict_empty ⟨.ref s.heap.objs.size,_,I.laid (a:=s.heap.objs.size) (o:=.dK []) (t':=s.toks) (fun _ _ q=>znN _ q) (znQ _) (zfL s.heap I.big),rfl,h _ (I.hok.fresh (znQ _))⟩
end
structure M2 (X:Cx) (o:Expr) (m:Str) (apos:Pos) (e f:Expr) (cpos:Pos):Prop where
 base:attributeBase o m X.env (eval o X.env)=eval o X.env
 few:((backTo cpos (starEach [e,f] X.env)).all (fun x=>!x.1) && (backToKw cpos (keywordEach [] X.env)).all (fun x=>x.1.isSome)
  && decide (([e,f]:List Expr).length+([]:List Keyword).length+(if ([]:List Keyword).isEmpty then 0 else 1)<30))=true
 line:(apos.endLine == cpos.line)=true
 trees:backTo cpos (starEach [e,f] X.env)=[(false,eval e X.env),(false,eval f X.env)]
def IsD (H:Hp) (a:Addr):Prop:=(∃ kvs,Rd H a (.dK kvs))\/∃ kvs,Rd H a (.dT kvs)
theorem zjB {X:Cx} {pins:List (Addr × Obj)} {σ:St} {H:Hp} {s:Shared} {a:Addr} (I:Inv X pins σ H s) (d:IsD H a) :
  s.TypeIs (.ref a) "dict"/\(∀ b,Value.ref a=.ref b->∃ ob,s.heap.get? b=some ob/\ob.dict=none)/\(a == sysModules)=false:=by
 rcases d with ⟨kvs,e⟩ | ⟨kvs,e⟩
 ·obtain⟨_,hd,vs,_,dd⟩:=zj9 I.hok e;refine⟨dd.typeIs,fun b q=>?_,hd⟩;cases q;obtain⟨ob,_,_,h1,h2,_⟩:=dd;exact⟨ob,h1,h2.2.1⟩
 ·obtain⟨_,hd,xs,_,dd⟩:=zkb I.hok e;refine⟨dd.typeIs,fun b q=>?_,hd⟩;cases q;obtain⟨ob,_,_,h1,h2,_⟩:=dd;exact⟨ob,h1,h2.2.1⟩
section
variable {X:Cx} {pins:List (Addr × Obj)} {σ:St} {H:Hp} {s:Shared} {a:Addr} {y d:V} {u r:Value} {o:Option V} {A:Around} {E:Value->Shared->Prop}
theorem zlv {Q:Value->Shared->Prop} (hu:A.units+1<cLine) (I:Inv X pins σ H s) (g:zk5 H a y o) (ry:zaL y u) (rd:zaL d r) (h:∀ w' s',Inv X pins σ H s'->zaL (o.getD d) w'->Q w' s') :
  wpAny (model X.prog X.w) A (call (.builtin "dict.get") [.ref a,u,r]) Q E s:=by
 rcases g with ⟨kvs,k,e,ey,l⟩ | ⟨kvs,k,b,e,ey,eb,l⟩
 ·subst ey;obtain⟨z,hd,vs,rel,dd⟩:=zj9 I.hok e;refine call_meetsIn PySem.F.slot_dict_get dd.typeIs PySem.F.entry_dict_get (PySem.F.args_dict_get_3 _ _ _) (meets_dict_get_default (zaF X.prog X.w) a (zgu ry) hd r) ⟨_,dd.mapOf,h _ _ (I.tok _) ?_⟩;rw [l];exact (rel.val k).getD rd
 ·subst ey;cases (show u=Value.ref b from ry);obtain⟨z,hd,xs,rel,dd⟩:=zkb I.hok e;refine call_meetsIn PySem.F.slot_dict_get dd.typeIs PySem.F.entry_dict_get (PySem.F.args_dict_get_3 _ _ _) (meetsH_dict_get_default (tupleKind (zaF X.prog X.w)) a b hd r) ⟨tupleKind_room_in1 hu,k,xs,zhz I.hok eb,dd,h _ _ (I.tok _) ?_⟩;rw [l];exact (rel.val k).getD rd
end
def zmo (td ty tx:TE):TE:=fun σ H Q=>td σ H fun x H1=>∃ a,x=.ref a/\IsD H1 a/\ty σ H1 fun y H2=>tx σ H2 fun z H3=>∃ o,zk5 H3 a y o/\Q (o.getD z) H3
def zmr (td ty tx:TE):TE:=fun σ H Q=>td σ H fun x H1=>∃ a,x=.ref a/\IsD H1 a/\ty σ H1 fun y H2=>tx σ H2 fun z H3=>∃ kvs k,H3 a=some (.dK kvs)/\y=kV k /\
 (∀ v,ze0 kvs k=some v->Q v (upd H3 a (.dK (zfc kvs k))))/\(ze0 kvs k=none->Q z H3)
section
variable {X:Cx} {o e f:Expr} {apos cpos:Pos} {td ty tx:TE}
theorem zf0 (hu:X.A.units+1<cLine) (ho:PE X o td) (he:PE X e ty) (hf:PE X f tx) (m:M2 X o "get" apos e f cpos):PE X (.Call (.Attribute o "get" apos) [e,f] [] cpos) (zmo td ty tx):=by
 intro pins s σ H Q I h;refine wpAny_Call_method m.base m.few m.line PySem.F.plainAttrs_dict PySem.F.slot_dict_get PySem.F.type_dict_get (thn (ho pins s σ H _ I h) fun u s1 ⟨x,H1,I1,rx,a,ex,d,q1⟩=>?_);subst ex;obtain rfl:u=Value.ref a:=rx;obtain⟨t1,t2,_⟩:=zjB I1 d;refine⟨t1,t2,?_⟩;rw [m.trees];refine Calls.callWith_builtin rfl (Calls.evalArgs_plain (Calls.spliced_cons (thn (he pins s1 σ H1 _ I1 q1) fun iv s2 ⟨y,H2,I2,ry,q2⟩ =>
  Calls.spliced_cons (thn (hf pins s2 σ H2 _ I2 q2) fun fv s3 ⟨z,H3,I3,rz,ov,g,q3⟩=>Calls.spliced_nil ?_))))
 exact zlv hu I3 g ry rz fun w' s4 I4 rw'=>⟨_,H3,I4,rw',q3⟩
theorem zi0 (ho:PE X o td) (he:PE X e ty) (hf:PE X f tx) (m:M2 X o "pop" apos e f cpos):PE X (.Call (.Attribute o "pop" apos) [e,f] [] cpos) (zmr td ty tx):=by
 intro pins s σ H Q I h;refine wpAny_Call_method m.base m.few m.line PySem.F.plainAttrs_dict PySem.F.slot_dict_pop PySem.F.type_dict_pop (thn (ho pins s σ H _ I h) fun u s1 ⟨x,H1,I1,rx,a,ex,d,q1⟩=>?_);subst ex;obtain rfl:u=Value.ref a:=rx;obtain⟨t1,t2,_⟩:=zjB I1 d;refine⟨t1,t2,?_⟩;rw [m.trees];refine Calls.callWith_builtin rfl (Calls.evalArgs_plain (Calls.spliced_cons (thn (he pins s1 σ H1 _ I1 q1) fun iv s2 ⟨y,H2,I2,ry,q2⟩ =>
  Calls.spliced_cons (thn (hf pins s2 σ H2 _ I2 q2) fun fv s3 ⟨z,H3,I3,rz,kvs,k,ea,ey,q3,q4⟩=>Calls.spliced_nil ?_))))
 subst ey;cases l:ze0 kvs k with
 | some v=>exact zm1 I3 ea ry l (.inr ⟨fv,rfl⟩) fun w' s4 I4 rw'=>⟨v,_,I4,rw',q3 v l⟩
 | none=>exact zlw I3 ea ry l fun s4 I4=>⟨z,H3,I4,rz,q4 l⟩
end
section
variable {X:Cx} {pins:List (Addr × Obj)} {σ:St} {H:Hp} {s:Shared} {a:Addr} {kvs:List (Key × V)} {A:Around} {E:Value->Shared->Prop}
end
section
variable {X:Cx} {pins:List (Addr × Obj)} {σ:St} {H:Hp} {s:Shared} {a:Addr} {y:V} {u:Value} {A:Around} {E:Value->Shared->Prop}
end
end L2
namespace Att
open PySem PySem.W PySem.Calls PyProof.Rows
theorem zc9 {P:Params} {h:Heap}:∀ (ns:List Int) (vs:List Value),WellAll P h vs (ns.map WData.int)->IntsAre vs ns:=by
 intro ns
 induction ns with
 | nil =>
  intro vs w;rw [zn3] at w;cases w;exact .nil
 | cons n ns ih =>
  intro vs w;rw [zn2] at w;cases w with
  | cons a b =>
   cases a;exact .cons _ _ (ih _ b)
theorem zh7 {l:OpenLaw} {n:Nat} (hn:l.most=some n) {P:Params} {h:Heap} {args:List WData} {vals:List Value}
  (hpre:l.row.toRowW.claim.pre args=true) (hwl:WellAll P h vals args) :
  ∃ a vs ns,vals=[Value.ref a]/\args=[WData.list (ns.map WData.int)]/\h.get? a=some { cls:=.type "list",data:=.seq vs.toArray }/\IntsAre vs ns/\ns.length<=n:=by
 have hsh:WShape.hasAll [] args [.list .int]=true:=(pre_splitW hpre).1;have hc:l.pre.holds [] { args:=args }=true:=(pre_splitW hpre).2;obtain⟨d,r,rfl,h1,h2⟩:=hasAllW_cons hsh;obtain rfl:=hasAllW_nil h2;obtain⟨xs,rfl,h3⟩:=hasW_list h1;obtain⟨ns,rfl⟩:=items_int h3;have hlen:ns.length<=n:=by
  unfold OpenLaw.pre at hc;have h4:(WTm.not (.lt (.lit (.int (n:Int))) (.len (.arg 0)))).holds [] { args:=[.list (ns.map .int)] }=true:=by
   have h4:=(holds_andW hc).1;rw [hn] at h4;exact h4
  have h5:=condW_of h4 (w_not (w_lt w_lit (w_len_list (w_arg rfl))));rw [znA] at h5;refine Nat.le_of_not_lt fun q=>?_
  have q':(n:Int)<((ns.length:Nat):Int):=by omega
  first
   | (rw [znG q'] at h5;exact absurd h5 (by decide))
   | (simp at h5;omega)
 cases hwl with
 | cons w1 w2 =>
  cases w2;cases w1 with
  | list ho hall=>exact⟨_,_,ns,rfl,rfl,ho,zc9 ns _ hall,hlen⟩
theorem zhV (l:OpenLaw) (args:List WData):l.row.toRowW.claim.post args (.bool true) args=true :=
 postW_of (r:=l.row.toRowW) (X:=(true == true))
  (show WShape.has [] (.bool true) .bool=true by first | rfl | decide | simp [WShape.has,WShape.arms,WShape.armsAll])
  (show (WTm.eq .res (.lit (.bool true))).value [] { args:=args,res:=some (.bool true),after:=args }=some (.bool (true == true)) from w_eq_bool (w_res rfl) w_lit) rfl
theorem attach_call {l:OpenLaw} {n:Nat} {q:Program} {loose:List Str} {XP:(Str->Option Value)->Heap->Prop} {YP:World->Heap->Prop} {d:DefRec}
  (hn:l.most=some n) (hdf:d.params.defaults=[])
  (call:∀ (w:World) (s₀ s₁:Shared) (mg mb:Str->Option Value) (fa:Addr) (o:Obj) (pm cd doc:Value) (a:Addr) (vs:List Value) (ns:List Int),
   Ground q loose [] XP w s₀ mg mb s₁.heap->YP w s₁.heap ->
   s₁.heap.get? fa=some o->o.data=.func (docDef d.name d.params d.body d.scope pm cd doc)->s₁.heap.CodeRec cd d.name->mg d.name=some (.ref fa) ->
   s₁.heap.get? a=some { cls:=.type "list",data:=.seq vs.toArray }->IntsAre vs ns->ns.length<=n->s₁.gens=#[] ->
   codeAny (model l.prog w) callerA (.call (.ref fa) ⟨[.ref a],[]⟩) (fun r s'=>r=.ok (.ret (.bool true))/\OldK s₁.heap s'.heap/\s'.os=s₁.os/\AllBare s'.gens) s₁) :
  WalkO q loose XP YP l.row.toRowW d [] (fun f vs=>PySem.call f vs):=by
 intro w s₀ s₁ mg mb G Y fa o pm cd doc dV kV ho hd hcd hD hmg hg args vals as hpre hlay hrd hwl hlo;obtain rfl:dV=.none:=Dflts.none hD hdf;obtain rfl:kV=.none:=Dflts.noKw hD;obtain⟨a,vs,ns,rfl,rfl,hobj,hints,hlen⟩:=zh7 hn hpre hwl;refine enter_call (codeAny_mono (call w s₀ s₁ mg mb fa o pm cd doc a vs ns G Y ho (fd_plain hd) hcd hmg hobj hints hlen hg) fun r s' hq=>?_);obtain⟨rfl,h2,h3,h4⟩:=hq;exact⟨.inl ⟨.bool true,.bool true,[],rfl,fun _=>rfl,.bool true,zhV l _,fun _=>⟨List.Pairwise.nil,fun _ hm=>(nomatch hm)⟩⟩,h2,h3,h4⟩
section
variable {prog:Program} {w:World} {A:Around} {E:Value->Shared->Prop} {s:Shared} {K:Frag}
end
end Att
namespace L2
open PySem PySem.Spec PyProof.Rows
theorem ze1:∀ {vs:List Value} {ns:List Int},IntsAre vs ns->zaM (ns.map V.int) vs
 | _,_,.nil=>.nil
 | _,_,.cons n t h=>.cons ⟨t,rfl⟩ (ze1 h)
def zmL (H:Hp):Prop:=∀ b,H b=none\/∃ o xs,H b=some (.frz o (.lst xs))
theorem ziN {P:Program} {w:World} {K:PySem.W.Frag} {mg mb:Str->Option Value} {CX:CXT} {k:Nat} {fa a:Addr} {fd:FuncData} {x:Str} {sp:Sp} {s₁:Shared} {vs:List Value} {ns:List Int}
  (KX:K.In s₁.heap) (hns:s₁.heap.Ns mainGlobals mg) (hb:s₁.heap.Ns builtinsNs mb) (hbb:∀ x:Str,x≠"__name__"->mb x=bootBuiltins x) (hlim:s₁.heap.NoLimit) (hg:s₁.gens=#[])
  (ha:s₁.heap.get? a=some { cls:=.type "list",data:=.seq vs.toArray }) (hi:IntsAre vs ns) (hl:ns.length<=sizeLine) (hr:zb7 k callerA)
  (F:∀ base:Heap,K.In base->base.Ns mainGlobals mg->zbu P w K mg base CX k fa fd [x] sp) (hbind:∀ (s:Shared) (u:Value),BindsTo s fd ⟨[u],[]⟩ [(x,u)])
  (hsp:∀ H:Hp,zmL H->SqL K H a (ns.map V.int)->sp [.ref a] H (fun v _=>v=.bl true) fun _ _ _=>False)
  (hCX:∀ H e s',CX [] H s₁ (fun _ _ _=>False) e s'->False) :
  codeAny (model P w) callerA (.call (.ref fa) ⟨[.ref a],[]⟩) (fun r s'=>r=.ok (.ret (.bool true))/\OldK s₁.heap s'.heap/\s'.os=s₁.os/\AllBare s'.gens) s₁:=by
 have rv:=ze1 hi;have lenV:=hi.length;have core:∀ H:Hp,zmL H->SqL K H a (ns.map V.int)->HOk P w H s₁.heap->(∀ b,H b≠none->b=a)->(H a≠none->K.lookup a=none) ->
   codeAny (model P w) callerA (.call (.ref fa) ⟨[.ref a],[]⟩) (fun r s'=>r=.ok (.ret (.bool true))/\OldK s₁.heap s'.heap/\s'.os=s₁.os/\AllBare s'.gens) s₁:=by
  intro H hO hS hok hA hK;have base_of:∀ {b:Addr} {o:Obj},s₁.heap.get? b=some o->H b=none->(ziE s₁.heap H).get? b=some o:=fun e n=>ziF e n
  have noA:∀ {b:Addr} {o:Obj} {es:Array DictEntry} {ep:Nat},s₁.heap.get? b=some o->o.data=.dict es ep->H b=none:=fun {b o es ep} e d=>by
   cases q:H b with
   | none=>rfl
   | some u =>
    have e':b=a:=hA b (by rw [q];simp);subst e';rw [ha] at e;cases e;have d':Data.seq vs.toArray _=Data.dict es ep:=d;cases d'
  have nsK:∀ {b:Addr} {m:Str->Option Value},s₁.heap.Ns b m->(ziE s₁.heap H).Ns b m:=fun {b m} ⟨o,es,ep,e,d,r⟩=>⟨o,es,ep,base_of e (noA e d),d,r⟩
  have hKb:K.In (ziE s₁.heap H):=fun b o e=>base_of (KX b o e) (by
   cases q:H b with
   | none=>rfl
   | some u =>
    have e':b=a:=hA b (by rw [q];simp);subst e';rw [hK (by rw [q];simp)] at e;cases e)
  have hM:Mod K mg (ziE s₁.heap H):=⟨hKb,nsK hns,⟨mb,nsK hb,hbb⟩,let ⟨mc,h1,h2⟩:=hlim;⟨mc,nsK h1,h2⟩⟩;have e0:zjS P w K mg (ziE s₁.heap H) callerA [] s₁ H:=⟨rfl,hM,fun b o e=>zkq e,Nat.le_of_eq (zhn _ _),trivial,fun b hb=>absurd (show b∈([]:List Addr) from hb) (by simp),hok,.of_eq hg⟩;refine codeAny_mono ((F _ hKb (nsK hns)).run callerA [] s₁ H ⟨[.ref a],[]⟩ [.ref a] [.ref a] _ _ hr e0 (hbind s₁ (.ref a)) (.cons rfl .nil) (hsp H hO hS)) fun r s' h=>?_
  cases r with
  | error e=>exact (hCX H e s' h).elim
  | ok fl =>
   cases fl with
   | next=>exact False.elim h
   | brk=>exact False.elim h
   | cont=>exact False.elim h
   | ret u =>
    obtain⟨v,H',os,bare,un,hok',r',q⟩:=h;have q':v=.bl true:=q;subst q';obtain rfl:u=Value.bool true:=r';refine⟨rfl,OldK.of_keep fun b o e=>?_,os,bare⟩;cases q:H b with
    | none=>exact un.keep b o e q (by intro z;exact absurd (show b∈([]:List Addr) from z) (by simp)) (by simp)
    | some u =>
     rcases hO b with z | ⟨ob,xs,z⟩
     ·rw [q] at z;cases z
     ·have z2:=un.frzs b ob _ z;obtain⟨e1,_⟩:=hok b _ z;obtain⟨e2,_⟩:=hok' b _ z2;rw [e] at e1;cases e1;exact e2
 cases hk:K.lookup a with
 | some o =>
  have e:=KX a o hk;rw [ha] at e;cases e;refine core (fun _=>none) (fun _=>.inl rfl) (.inr ⟨_,vs.toArray,_,hk,rfl,rfl,rfl,by rw [zoa,lenV];exact hl,by simpa using rv⟩) (fun b u z=>by have z':(none:Option HO)=some u:=z;cases z') (fun b z=>absurd rfl z) fun z=>absurd rfl z
 | none =>
  refine core (fun b=>if b=a then some (.frz { cls:=.type "list",data:=.seq vs.toArray } (.lst (ns.map V.int))) else none) (fun b=>?_) (.inl (.inr ⟨{ cls:=.type "list",data:=.seq vs.toArray },zod rfl⟩)) (fun b u z=>?_) (fun b z=>?_) fun _=>hk
  ·by_cases hb:b=a
   ·exact .inr ⟨_,_,zod hb⟩
   ·exact .inl (zoc hb)
  ·by_cases hb:b=a
   ·have z':=(zod hb).symm.trans z;cases z';subst hb;exact⟨ha,by rw [znA];exact hl,vs,_,rv,ha⟩
   ·have z':=(zoc hb).symm.trans z;cases z'
  ·by_cases hb:b=a
   ·exact hb
   ·exact absurd (zoc hb) z
theorem walk_of {l:PySem.W.OpenLaw} {n k:Nat} {q:Program} {loose:List Str} {XP:(Str->Option Value)->Heap->Prop} {YP:World->Heap->Prop} {d:DefRec} {K:Params->PySem.W.Frag} {CX:World->CXT} {sp:World->Sp} {x:Str}
  (hn:l.most=some n) (hn2:n<=sizeLine) (hdf:d.params.defaults=[]) (hr:zb7 k callerA)
  (hY:∀ (w:World) (h:Heap),YP w h->(K w.params).In h)
  (F:∀ (w:World) (mg:Str->Option Value) (fa:Addr) (h:Heap),(K w.params).In h->h.Ns mainGlobals mg->mg d.name=some (.ref fa) ->
   ∃ fd:FuncData,(∀ (s:Shared) (u:Value),BindsTo s fd ⟨[u],[]⟩ [(x,u)]) /\
    ∀ base:Heap,(K w.params).In base->base.Ns mainGlobals mg->zbu l.prog w (K w.params) mg base (CX w) k fa fd [x] (sp w))
  (hsp:∀ (w:World) (H:Hp) (a:Addr) (ns:List Int),ns.length<=n->zmL H->SqL (K w.params) H a (ns.map V.int)->sp w [.ref a] H (fun v _=>v=.bl true) fun _ _ _=>False)
  (hCX:∀ (w:World) (H:Hp) (s:Shared) (e:Value) (s':Shared),CX w [] H s (fun _ _ _=>False) e s'->False) :
  PySem.W.WalkO q loose XP YP l.row.toRowW d [] (fun f vs=>PySem.call f vs):=by
 refine Att.attach_call hn hdf fun w s₀ s₁ mg mb fa o pm cd doc a vs ns G Y ho hd hcd hmg hobj hints hlen hg=>?_
 have KX:=hY w _ Y;obtain⟨fd,hb,hF⟩:=F w mg fa _ KX G.T.g hmg;exact ziN KX G.T.g G.T.b G.T.builtins G.T.nolimit hg hobj hints (znP hlen hn2) hr hF hb (fun H hO hS=>hsp w H a ns hlen hO hS) fun H e s'=>hCX w H s₁ e s'
def zcr (s:Stmt) (j:Nat):Stmt:=match s with
 | .ClassDef _ _ _ body _ _ _ _ _ _ _=>body.getD j (.Pass ⟨0,0,0,0⟩)
 | _=>.Pass ⟨0,0,0,0⟩
def zas (s:Stmt):Arguments:=match s with
 | .FunctionDef _ a _ _ _ _ _ _ _ _=>a
 | _=>{ posonlyargs:=[],args:=[],vararg:=none,kwonlyargs:=[],kw_defaults:=[],kwarg:=none,defaults:=[] }
def zap (s:Stmt):List Stmt:=match s with
 | .FunctionDef _ _ b _ _ _ _ _ _ _=>b
 | _=>[]
def zaf (s:Stmt):Scope:=match s with
 | .FunctionDef _ _ _ _ _ _ sc _ _ _=>sc
 | _=>{ kind:=.function,names:=[],isGenerator:=false,isCoroutine:=false }
abbrev CX0:CXT:=fun _ _ _ _ _ _=>False
abbrev E0:XK:=fun _ _ _=>False
theorem zan {X:Cx}:zcE CX0 X E0:=fun _ _ _ _ _ _ _ h=>h.elim
structure Fun (K:PySem.W.Frag) (x qual:Str) (st:Stmt) (f:Addr) (fd:FuncData):Prop where
 ex:∃ (oc:Value) (od:Option Addr) (kV doc pm:Value) (an:Option Addr) (cdv ct:Value) (osl:Array (Option Value)),
  fd=PySem.W.fnOf x qual (zas st) (zap st) (zaf st) .none kV doc pm an cdv ct/\K.lookup f=some ⟨oc,od,.func fd,osl⟩/\PySem.W.codeIn K cdv qual=true
 kp:PySem.W.keepIn K (.ref f)=true
section
variable {P:Program} {w:World} {K:PySem.W.Frag} {mg:Str->Option Value} {base:Heap}
theorem Fun.ok {x qual:Str} {st:Stmt} {f:Addr} {fd:FuncData} {N ps:List Str} {k:Nat} {sp:Sp} (F:Fun K x qual st f fd) (S:zar N ps (zaf st)) (len:∀ vs H Q E,sp vs H Q E->vs.length=ps.length)
  (hbody:∀ (cdv:Value) (A:Around) (outer:List Env) (s:Shared) (H:Hp) (vs:List V) (Q:VK) (E:XK),zb7 k (A.deeper (envOfC qual (zaf st) s.heap.objs.size f cdv))->sp vs H Q E ->
   ∃ t,PSs (zg4 CX0 P w K mg base N qual (zaf st) f cdv A outer s H E).nox (zap st) t/\t { nx:=fun _ H'=>Q .non H',rt:=Q } (start N vs) H):zbu P w K mg base CX0 (k+1) f fd ps sp:=by
 obtain⟨oc,od,kV,doc,pm,an,cdv,ct,osl,rfl,lk,hcd⟩:=F.ex;refine zlC lk hcd S len fun A outer s H vs Q E hr hsp=>?_
 obtain⟨t,h,q⟩:=hbody cdv A outer s H vs Q E hr hsp;exact⟨t,h.nox,q⟩
theorem Fun.binds {x qual:Str} {st:Stmt} {f:Addr} {fd:FuncData} {ps:List Str} (F:Fun K x qual st f fd)
  (h:∀ (kV doc pm:Value) (an:Option Addr) (cdv ct:Value) (us:List Value),us.length=ps.length->bindArgs (PySem.W.fnOf x qual (zas st) (zap st) (zaf st) .none kV doc pm an cdv ct) ⟨us,[]⟩=pure (ps.zip us)):zaK K fd ps []:=by
 obtain⟨oc,od,kV,doc,pm,an,cdv,ct,osl,rfl,lk,hcd⟩:=F.ex;exact .all (h kV doc pm an cdv ct)
theorem zaD {x qual:Str} {st:Stmt} {f:Addr} {oc:Value} {od an:Option Addr} {osl:Array (Option Value)} {kV doc pm cdv ct:Value} (l:K.lookup f=some ⟨oc,od,.func (PySem.W.fnOf x qual (zas st) (zap st) (zaf st) .none kV doc pm an cdv ct),osl⟩)
  (c:PySem.W.codeIn K cdv qual=true) (k:PySem.W.keepIn K (.ref f)=true):Fun K x qual st f (PySem.W.fnOf x qual (zas st) (zap st) (zaf st) .none kV doc pm an cdv ct):=⟨⟨oc,od,kV,doc,pm,an,cdv,ct,osl,rfl,l,c⟩,k⟩
end
theorem za5 {A:Around} {k:Nat} (hr:zb7 k A):A.units+1<cLine:=znO (Nat.add_le_add_left (by decide:1<=64) _) hr.units
section
variable {X:Cx}
end
section
variable {κ:Type} [DecidableEq κ]
end
end L2
end
section
namespace L2
open PySem PySem.Spec PyProof.Rows
def zbi (sc:Scope):List Str:=(sc.names.filter fun x=>x.2 == .free).map (·.1)
def zbP (sc:Scope) (env:Env):List (Str × Addr):=((zbi sc).reverse).map fun n=>(n,(env.cells.lookup n).getD 0)
theorem zdQ {sc:Scope} {env:Env} (h:∀ n∈zbi sc,∃ c,env.cells.lookup n=some c):closureFor sc env=pure (zbP sc env):=by
 have key:∀ (l:List (Str × NameKind)) (cs:List (Str × Addr)),(∀ x∈l,x.2=.free->∃ c,env.cells.lookup x.1=some c) ->
   (forIn l cs fun (x:Str × NameKind) (r:List (Str × Addr))=>(if (x.2 == NameKind.free)=true then (do let a ← cellOf env x.1;pure (ForInStep.yield ((x.1,a)::r))) else pure (ForInStep.yield r):Sem (ForInStep (List (Str × Addr)))))
   =pure ((((l.filter fun x=>x.2 == .free).map (·.1)).reverse).map (fun n=>(n,(env.cells.lookup n).getD 0))++cs):=by
  intro l
  induction l with
  | nil=>intro cs _;rfl
  | cons x r ih =>
   intro cs hx;rw [List.forIn_cons];by_cases hk:x.2=.free
   ·obtain⟨c,hc⟩:=hx x zn8 hk;have e1:(x.2 == NameKind.free)=true:=by rw [hk];rfl
    have e2:cellOf env x.1=pure c:=by unfold cellOf;rw [hc]
    rw [zod e1,e2];show (forIn r ((x.1,c)::cs) _:Sem _)=_;rw [ih _ fun y hy=>hx y (znT _ hy)];rw [List.filter_cons,zod e1,zn2,List.reverse_cons,znI,znU];simp [hc]
   ·have e1:(x.2 == NameKind.free)=false:=by simpa using hk
    rw [zoc (by rw [e1];decide)];show (forIn r cs _:Sem _)=_;rw [ih _ fun y hy=>hx y (znT _ hy)];rw [List.filter_cons,zoc (by rw [e1];decide)]
 unfold closureFor zbP zbi
 have:=key sc.names [] fun x hx hf=>h x.1 (by
  unfold zbi;exact znS.mpr ⟨x,List.mem_filter.mpr ⟨hx,by rw [hf];rfl⟩,rfl⟩)
 rw [znM] at this;show (forIn sc.names [] _ >>= pure:Sem _)=_;refine Eq.trans (congrArg (· >>= pure) (Eq.trans (congrArg (fun f=>(forIn sc.names [] f:Sem (List (Str × Addr)))) (funext fun x=>funext fun r=>?_)) this)) rfl
 obtain⟨n,k⟩:=x
 rfl
theorem zdD {f:Str->Addr} {x:Str}:∀ {l:List Str} {c:Addr},(l.map fun n=>(n,f n)).lookup x=some c->x∈l/\c=f x
 | [],_,h=>by simp at h
 | n::r,c,h=>by
  simp only [zn2,List.lookup_cons] at h;cases hx:x == n with
  | true =>
   rw [hx] at h;have e:x=n:=by simpa using hx
   subst e;exact⟨zn8,(zol h).symm⟩
  | false =>
   rw [hx] at h;obtain⟨a,b⟩:=zdD h;exact⟨znT _ a,b⟩
theorem zdM {f:Str->Addr} {x:Str}:∀ {l:List Str},x∈l->(l.map fun n=>(n,f n)).lookup x=some (f x)
 | n::r,h=>by
  simp only [zn2,List.lookup_cons];cases hx:x == n with
  | true =>
   have e:x=n:=by simpa using hx
   subst e
   rfl
  | false =>
   rcases zoh.mp h with e | e
   ·subst e;simp at hx
   ·exact zdM e
theorem zbp {env:Env}:∀ {names:List (Str × NameKind)} {x:Str},names.lookup x=some .free ->
  (names.map fun (n,k)=>if (k == NameKind.free && env.scope.kind == .function && env.kindOf n == some .cell) then (n,NameKind.cell) else (n,k)).lookup x=some .cell \/
  (names.map fun (n,k)=>if (k == NameKind.free && env.scope.kind == .function && env.kindOf n == some .cell) then (n,NameKind.cell) else (n,k)).lookup x=some .free
 | [],_,h=>by simp at h
 | (n,k)::r,x,h=>by
  have ih:=@zbp env r x;show List.lookup x ((if (k == NameKind.free && env.scope.kind == .function && env.kindOf n == some .cell)=true then (n,NameKind.cell) else (n,k))::_)=_ \/
   List.lookup x ((if (k == NameKind.free && env.scope.kind == .function && env.kindOf n == some .cell)=true then (n,NameKind.cell) else (n,k))::_)=_
  cases hx:x == n with
  | true =>
   simp only [List.lookup_cons,hx] at h;by_cases hc:(k == NameKind.free && env.scope.kind == .function && env.kindOf n == some .cell)=true
   ·rw [zod hc];simp only [List.lookup_cons,hx];exact .inl trivial
   ·rw [zoc hc];simp only [List.lookup_cons,hx];exact .inr h
  | false =>
   simp only [List.lookup_cons,hx] at h;by_cases hc:(k == NameKind.free && env.scope.kind == .function && env.kindOf n == some .cell)=true
   ·rw [zod hc];simp only [List.lookup_cons,hx];exact ih h
   ·rw [zoc hc];simp only [List.lookup_cons,hx];exact ih h
theorem zcI {env:Env}:∀ {names:List (Str × NameKind)} {x:Str},(∀ y∈names,y.2≠.cell) ->
  ((names.map fun (n,k)=>if (k == NameKind.free && env.scope.kind == .function && env.kindOf n == some .cell) then (n,NameKind.cell) else (n,k)).lookup x=some .cell \/
  (names.map fun (n,k)=>if (k == NameKind.free && env.scope.kind == .function && env.kindOf n == some .cell) then (n,NameKind.cell) else (n,k)).lookup x=some .free)->(x,NameKind.free)∈names
 | [],_,_,h=>by simp at h
 | (n,k)::r,x,nc,h=>by
  have ih:=@zcI env r x fun y hy=>nc y (znT _ hy)
  change (List.lookup x ((if (k == NameKind.free && env.scope.kind == .function && env.kindOf n == some .cell)=true then (n,NameKind.cell) else (n,k))::_)=_ \/
   List.lookup x ((if (k == NameKind.free && env.scope.kind == .function && env.kindOf n == some .cell)=true then (n,NameKind.cell) else (n,k))::_)=_) at h
  cases hx:x == n with
  | true =>
   have e:x=n:=by simpa using hx
   subst e;by_cases hc:(k == NameKind.free && env.scope.kind == .function && env.kindOf x == some .cell)=true
   ·have:k=.free:=by
     have:=(Bool.and_eq_true_iff.mp (Bool.and_eq_true_iff.mp hc).1).1
     simpa using this
    rw [this];exact zn8
   ·rw [zoc hc] at h;simp only [List.lookup_cons,hx] at h;rcases h with h | h
    ·exact absurd (zol h) (nc (x,k) zn8)
    ·rw [zol h];exact zn8
  | false =>
   refine znT _ (ih ?_);by_cases hc:(k == NameKind.free && env.scope.kind == .function && env.kindOf n == some .cell)=true
   ·rw [zod hc] at h;simpa only [List.lookup_cons,hx] using h
   ·rw [zoc hc] at h;simpa only [List.lookup_cons,hx] using h
def zmY (X:Cx) (own:List Str) (fr:List Nat):List Str:=own++fr.map fun k=>X.N.getD k Str.empty
def zjw (n:Nat) (fr:List Nat) (σ:St):St:=List.replicate n none++fr.map fun k=>(σ[k]?).join
def zaA (X:Cx) (sc:Scope) (own:List Str) (fr:List Nat) (C:Addr) (s₀:Shared) (H₀:Hp) (ex:List Addr):Cx where
 prog:=X.prog
 w:=X.w
 K:=X.K
 mg:=X.mg
 base:=X.base
 A:=X.A
 N:=zmY X own fr
 s₀:=s₀
 H₀:=H₀
 env:=compEnvC sc (zbP sc X.env) C X.env
 outer:=X.stack
 stack:=X.stack
 ex:=ex
 fn:=fun _=>false
 calm:=X.calm
 pn:=[]
 xe:=fun _ _=>False
def zlb (X:Cx) (sc:Scope):List Nat->Prop
 | []=>True
 | k::r=>(sc.names.lookup (X.N.getD k Str.empty)=some .free/\(X.env.scope.names.lookup (X.N.getD k Str.empty)=some .cell\/X.env.scope.names.lookup (X.N.getD k Str.empty)=some .free))/\zlb X sc r
theorem zlb.mem {X:Cx} {sc:Scope}:∀ {fr:List Nat},zlb X sc fr->∀ k∈fr,sc.names.lookup (X.N.getD k Str.empty)=some .free/\(X.env.scope.names.lookup (X.N.getD k Str.empty)=some .cell\/X.env.scope.names.lookup (X.N.getD k Str.empty)=some .free)
 | _::_,h,k,hk=>by
  rcases zoh.mp hk with e | e
  ·subst e;exact h.1
  ·exact zlb.mem h.2 k e
def zc0 (X:Cx):List Str->Prop
 | []=>True
 | n::r=>(X.env.scope.names.lookup n=some .cell\/X.env.scope.names.lookup n=some .free)/\zc0 X r
theorem zc0.mem {X:Cx}:∀ {l:List Str},zc0 X l->∀ n∈l,X.env.scope.names.lookup n=some .cell\/X.env.scope.names.lookup n=some .free
 | _::_,h,n,hn=>by
  rcases zoh.mp hn with e | e
  ·subst e;exact h.1
  ·exact zc0.mem h.2 n e
structure zaH (X:Cx) (sc:Scope) (fr:List Nat):Prop where
 kind:sc.kind=.function
 nocell:∀ y∈sc.names,y.2≠.cell
 names:∀ y∈sc.names,y.2=.local->sc.names.lookup y.1=some .local
 frees:zc0 X (zbi sc)
 fr:zlb X sc fr
section
variable {X:Cx} {sc:Scope} {own:List Str} {fr:List Nat} {pins:List (Addr × Obj)} {σ:St} {H:Hp} {s:Shared}
theorem zaH.cells (S:zaH X sc fr) (I:Inv X pins σ H s):∀ n∈zbi sc,∃ c,X.env.cells.lookup n=some c:=fun n hn=>I.ok.has n (S.frees.mem n hn)
theorem zaH.look (S:zaH X sc fr) (I:Inv X pins σ H s) {x:Str} {c:Addr} (h:(zbP sc X.env).lookup x=some c):X.env.cells.lookup x=some c:=by
 obtain⟨a,b⟩:=zdD h;obtain⟨d,e⟩:=S.cells I x (List.mem_reverse.mp a);rw [e] at b;rw [e,b]
 rfl
theorem zcj {x:Str} (h:(x,NameKind.free)∈sc.names):x∈zbi sc:=znS.mpr ⟨_,List.mem_filter.mpr ⟨h,rfl⟩,rfl⟩
theorem zaH.back (S:zaH X sc fr) (I:Inv X pins σ H s) {x:Str} (hx:x∈zbi sc):∃ c,(zbP sc X.env).lookup x=some c/\X.env.cells.lookup x=some c:=by
 obtain⟨c,e⟩:=S.cells I x hx;refine⟨c,?_,e⟩;unfold zbP;rw [zdM (List.mem_reverse.mpr hx),e]
 rfl
theorem ziH (S:zaH X sc fr) {fp:List Addr} (I:Inv X pins σ H s) (hf:∀ b∈fp,zin X pins H b) (ho:∀ b∈fp,∃ o,s.heap.get? b=some o) {h₁:Heap} {t:Nat}
  (hns:h₁.Ns s.heap.objs.size (fun _=>none)) (hk:∀ b o,s.heap.get? b=some o->h₁.get? b=some o) :
  Inv (zaA X sc own fr s.heap.objs.size s H fp) [] (zjw own.length fr σ) H { s with heap:=h₁,toks:=t }:=by
 have ltC:∀ b o,s.heap.get? b=some o->b≠s.heap.objs.size:=fun b o e=>zoi (zn0 e)
 have cellOld:∀ x c,(zbP sc X.env).lookup x=some c->∃ v,s.heap.IsCell c v:=fun x c e=>I.cell x c (S.look I e)
 refine⟨⟨I.ok.mod,S.kind,I.ok.glob,I.ok.blt,znQ _,fun x y c h1 h2=>I.ok.inj x y c (S.look I h1) (S.look I h2),fun x hx=>?_,fun x c z=>absurd z (by simp [zaA]),I.ok.hd,I.ok.frames,.inl rfl,fun b hb=>?_,I.bs,znP I.ok.bsz I.sz,fun b o e hb=>?_,fun b hb=>?_,I.stack,I.stkFree⟩,
  rfl,I.bare,Un.kept hk,⟨_,hns,fun i x v e1 e2 e3=>?_⟩,fun x c e=>?_,I.hok.fresh (znQ _),fun x c e=>I.freeC x c (S.look I e),fun p hp=>absurd (show p∈([]:List (Addr × Obj)) from hp) (by simp),I.hok.kept hk,?_⟩
 ·have:=zcI (env:=X.env) S.nocell hx
  obtain⟨c,e,_⟩:=S.back I (zcj this);exact⟨c,e⟩
 ·obtain⟨o,e⟩:=ho b hb;obtain⟨_,_,_,_,f4,_⟩:=hf b hb;exact⟨ltC b o e,fun x c e'=>f4 x c (S.look I e')⟩
 ·obtain⟨_,_,_,f3,_⟩:=hf b hb;rcases f3 with z | z
  ·exact I.ok.noex b o e z
  ·exact absurd (znR (zn0 e) (znP I.ok.bsz z)) (Nat.lt_irrefl _)
 ·obtain⟨_,f1,f2,_⟩:=hf b hb;intro z;rcases zoh.mp (I.stkSub b z) with q | q
  ·exact f1 q
  ·exact f2 q
 ·
  have hi:own.length<=i:=by
   rcases Nat.lt_or_ge i own.length with z | z
   ·exfalso
    change (List.replicate own.length none++fr.map fun k=>(σ[k]?).join)[i]?=some (some v) at e2
    rw [zn4 (by simpa using z),List.getElem?_replicate,zod z] at e2;cases e2
   ·exact z
  change (List.replicate own.length none++fr.map fun k=>(σ[k]?).join)[i]?=some (some v) at e2
  rw [zn5 (by simpa using hi),List.length_replicate,znB] at e2
  change (own++fr.map fun k=>X.N.getD k Str.empty)[i]?=some x at e1
  rw [zn5 hi,znB] at e1;cases e:fr[i-own.length]? with
  | none=>rw [e] at e1;cases e1
  | some k =>
   rw [e] at e1 e2;have e1:X.N.getD k Str.empty=x:=zol e1;have e2:(σ[k]?).join=some v:=zol e2;have e2':σ[k]?=some (some v):=by
    cases q:σ[k]? with
    | none=>rw [q] at e2;cases e2
    | some z=>rw [q] at e2;cases z with
     | none=>cases e2
     | some z=>rw [show z=v from zol e2]
   have hkl:k<X.N.length:=by
    have:=(znE.mp e2').1
    rw [I.len] at this;exact this
   have e1':X.N[k]?=some x:=by
    rw [znC hkl,← e1];simp [List.getD,hkl]
   obtain⟨q1,q2⟩:=S.fr.mem k (znF e);rw [e1] at q1 q2;have hvis:Vis X.env.scope x:=by
    rcases q2 with z | z
    ·exact .inr (.inl z)
    ·exact .inr (.inr z)
   obtain⟨m,hn,hl⟩:=I.loc;obtain⟨u,r,l⟩:=hl k x v e1' e2' hvis;refine⟨u,r,.inr ⟨?_,?_⟩⟩
   ·exact zbp (env:=X.env) q1
   ·rcases l with ⟨z,_⟩ | ⟨_,c,hc,z⟩
    ·exfalso
     have z:X.env.scope.names.lookup x=some .local:=z;rcases q2 with y | y
     ·rw [z] at y;cases y
     ·rw [z] at y;cases y
    ·obtain⟨c',h1,h2⟩:=S.back I (zcj (PySem.mem_of_lookup q1));rw [hc] at h2;cases h2;obtain⟨o,ho',hd⟩:=z;exact⟨c,h1,o,hk c o ho',hd⟩
 ·obtain⟨v,o,ho',hd⟩:=cellOld x c e;exact⟨v,o,hk c o ho',hd⟩
 ·show (List.replicate own.length none++fr.map fun k=>(σ[k]?).join).length=(own++fr.map fun k=>X.N.getD k Str.empty).length;simp
end
def PTs (X:Cx) (ifs:List Expr) (t:TT):Prop :=
 ∀ (pins:List (Addr × Obj)) (s:Shared) (σ:St) (H:Hp) (Q:Bool->Hp->Prop),Inv X pins σ H s->t σ H Q ->
  wpAny (model X.prog X.w) X.A (forIn ifs true fun c r=>if r=true then do let ok ← isTrue c X.env (eval c X.env);pure (ForInStep.yield ok) else pure (ForInStep.yield r)) (TP X pins σ Q) X.xe s
def tYes:TT:=fun _ H Q=>Q true H
theorem zbw {X:Cx}:PTs X [] tYes:=fun pins s σ H Q I h=>wpAny_tests_nil ⟨H,I,h⟩
abbrev TM:=Addr->St->Hp->(Hp->Prop)->Prop
def PM (X:Cx) (emit:Env->Addr->Sem Unit) (t:TM):Prop :=
 ∀ (pins:List (Addr × Obj)) (s:Shared) (σ:St) (H:Hp) (D:Addr) (Q:Hp->Prop),Inv X pins σ H s->t D σ H Q ->
  wpAny (model X.prog X.w) X.A (emit X.env D) (fun _ s'=>∃ H',Inv X pins σ H' s'/\Q H') X.xe s
def zeZ (acc:HO) (wi:TI) (n:Nat) (fr:List Nat) (g:TG) (tc:TT) (tm:TM):St->Hp->(Addr->Hp->Prop)->Prop:=fun σ H Q =>
 wi σ H fun J H1=>∀ p,H1 p=none->∃ W:Nat->Nat->St->Hp->Prop,(∃ m,W 0 m (zjw n fr σ) (upd H1 p acc)) /\
  ∀ i m σ' H',W i m σ' H'->(J.stop i H'/\Q p H')\/(J.go i H'/\∃ N:St->Hp->Prop,(∀ σ2 H2,N σ2 H2->∃ m',m'<m/\W (i+1) m' σ2 H2)/\∀ x H2,J.yld i H' x H2->g x σ' H2 fun σ3 H3=>tc σ3 H3 fun b H4 =>
   if b=true then tm p σ3 H4 (N σ3) else N σ3 H4)
structure zbY (e:Expr) (tg iter:Expr) (ifs:List Expr) (emit:Env->Addr->Sem Unit):Prop where
 cl:∃ gs,clausesOf e=⟨tg,iter,ifs,0⟩::gs
 under:∀ (A:Around) it acc env,A.under (.compLoop e 0 it acc env)=A
 den:∀ (prog:Program) (w:World) it acc env,(model prog w).den (.compLoop e 0 it acc env)=((compTurn e 0 it acc env).onRaise (fun x=>do noteFrame x env;theTreesLotGoes x))
 turn:∀ it D env,compTurn e 0 it (.ref D) env=(do
   standAt iter.pos
   match ← pyNext it with
   | none=>pure (.done .next)
   | some v =>
    letOwnedTupleGo tg it v
    assign tg env v
    let mut ok:=true
    for c in ifs do
     if ok then ok ← isTrue c env (eval c env)
    if ok then
     emit env D
    again (.compLoop e 0 it (.ref D) env))
 start:∀ (prog:Program) (w:World) (A:Around) (R:Result->Shared->Prop) (s:Shared) it acc env,codeAny (model prog w) A (.compLoop e 0 it acc env) R s ->
  wpAny (model prog w) A (pyIter it) (fun it' s'=>codeAny (model prog w) A (.compLoop e 0 it' acc env) R s') (notedBy (model prog w) A env fun x s'=>R (.error x) s') s ->
  codeAny (model prog w) A (.compStart e 0 it acc env) R s
section
variable {X:Cx} {sc:Scope} {own:List Str} {fr:List Nat} {e tg iter:Expr} {ifs:List Expr} {emit:Env->Addr->Sem Unit} {wi:TI} {g:TG} {tc:TT} {tm:TM} {acc:HO}
theorem zg3 (F:zbY e tg iter ifs emit) (hc:X.calm=true) {C:Addr} {s₀:Shared} {H₀:Hp} {fp:List Addr} {it D:Addr} {tn:Nat->Heap->Prop} {J:It} {R:Result->Shared->Prop} {s:Shared}
  (hg:PG (zaA X sc own fr C s₀ H₀ fp) tg g) (ht:PTs (zaA X sc own fr C s₀ H₀ fp) ifs tc) (hm:PM (zaA X sc own fr C s₀ H₀ fp) emit tm)
  (T:zlg X.prog X.w X.K tg J fp it tn) (hfp:∀ b∈fp,b≠C/\b ∉ frs X.stack/\∀ x c,(zbP sc X.env).lookup x=some c->c≠b)
  (W:Nat->Nat->St->Hp->Prop) {Q:Hp->Prop} (turn:∀ i m σ' H',W i m σ' H'->(J.stop i H'/\Q H')\/(J.go i H'/\∃ N:St->Hp->Prop,(∀ σ2 H2,N σ2 H2->∃ m',m'<m/\W (i+1) m' σ2 H2)/\∀ x H2,J.yld i H' x H2->g x σ' H2 fun σ3 H3=>tc σ3 H3 fun b H4 =>
   if b=true then tm D σ3 H4 (N σ3) else N σ3 H4))
  (hR:∀ σ' H' s',Inv (zaA X sc own fr C s₀ H₀ fp) [] σ' H' s'->Q H'->R (.ok .next) s')
  {m0:Nat} {σ0:St} {H0:Hp} (I0:Inv (zaA X sc own fr C s₀ H₀ fp) [] σ0 H0 s) (st0:tn 0 s.heap) (fr0:∀ b∈fp,H0 b=none) (w0:W 0 m0 σ0 H0) :
  codeAny (model X.prog X.w) X.A (.compLoop e 0 (.ref it) (.ref D) (compEnvC sc (zbP sc X.env) C X.env)) R s:=by
 have stat:∀ {H':Hp},(∀ b∈fp,H' b=none)->∀ b∈fp,zin (zaA X sc own fr C s₀ H₀ fp) [] H' b:=fun hn b hb =>
  ⟨hn b hb,(hfp b hb).1,(hfp b hb).2.1,.inl hb,(hfp b hb).2.2,fun p hp=>absurd (show p∈([]:List (Addr × Obj)) from hp) (by simp)⟩
 refine codeAny_loop rfl (fun n s'=>∃ i σ' H',Inv (zaA X sc own fr C s₀ H₀ fp) [] σ' H' s'/\tn i s'.heap/\(∀ b∈fp,H' b=none)/\W i n σ' H') (fun n s hI=>?_) m0 ⟨0,σ0,H0,I0,st0,fr0,w0⟩;rw [F.under,F.den];refine wpAny_noted ?_;rw [F.turn];obtain⟨i,σ3,H3,I3,st3,fr3,w3⟩:=hI;have lift:∀ {α:Type} {t:Sem α} {Q':α->Shared->Prop} {E:Value->Shared->Prop} {s:Shared},wpAny (model X.prog X.w) X.A t Q' (fun _ _=>False) s->wpAny (model X.prog X.w) X.A t Q' E s:=fun h=>wpAny_mono h (fun _ _ q=>q) fun _ _ z=>z.elim
 refine wpAny_bind (wpAny_standAt (wpAny_bind ?_));rcases turn i n σ3 H3 w3 with ⟨stop,qn⟩ | ⟨go,N,hN,step⟩
 ·refine lift (thn (T.done (zaA X sc own fr C s₀ H₀ fp) rfl rfl rfl hc i [] s σ3 H3 (fun _ _=>False) I3 (stat fr3) st3 stop) fun r s4 ⟨hr,I4⟩=>?_);subst hr;exact wpAny_pure (hR σ3 H3 s4 I4 qn)
 ·refine lift (thn (T.item (zaA X sc own fr C s₀ H₀ fp) rfl rfl rfl hc i [] s σ3 H3 (fun _ _=>False) I3 (stat fr3) st3 go) fun r s4 ⟨u,hr,h4⟩=>?_);subst hr;refine wpAny_bind (lift (thn h4 fun _ s5 ⟨x,H5,I5,r5,y5,st5,fr5⟩=>?_));have I5':=I5.pinned (stat fr5) (T.obj _ _ st5);refine wpAny_bind (lift (thn (hg _ s5 σ3 H5 x u _ I5' r5 (step x H5 y5)) fun _ s6 ⟨σ6,H6,I6,q6⟩=>?_));refine wpAny_bind (lift (thn (ht _ s6 σ6 H6 _ I6 q6) fun ok s7 ⟨H7,I7,q7⟩=>?_));have again:∀ {σ8:St} {H8:Hp} {s8:Shared},Inv (zaA X sc own fr C s₀ H₀ fp) ([]++zeM fp s5.heap) σ8 H8 s8->(∃ m',m'<n/\W (i+1) m' σ8 H8)->∃ m,m<n/\∃ i σ' H',Inv (zaA X sc own fr C s₀ H₀ fp) [] σ' H' s8/\tn i s8.heap/\(∀ b∈fp,H' b=none)/\W i m σ' H':=fun {σ8 H8 s8} I8 ⟨m',hm',w8⟩=>by
   refine⟨m',hm',i+1,σ8,H8,I8.unpinned,T.keep _ _ _ st5 fun b hb o e=>(I8.pin (b,o) (zn7 _ (zn7 _ (zb1 hb e)))).1,fun b hb=>?_,w8⟩;obtain⟨o,e,d⟩:=T.obj _ _ st5 b hb;exact (I8.pin (b,o) (zn7 _ (zn7 _ (zb1 hb e)))).2.1
  cases ok with
  | false=>exact wpAny_pure ⟨rfl,again I7 (hN _ _ q7)⟩
  | true =>
   refine wpAny_bind (lift (thn (hm _ s7 σ6 H7 D _ I7 q7) fun _ s8 ⟨H8,I8,q8⟩=>?_));exact wpAny_pure ⟨rfl,again I8 (hN _ _ q8)⟩
end
def zld (X:Cx) (newAcc:Sem Value) (acc:HO):Prop :=
 ∀ (pins:List (Addr × Obj)) (s:Shared) (σ:St) (H:Hp) (E:Value->Shared->Prop) (Q:Value->Shared->Prop),Inv X pins σ H s ->
  (∀ p s',H p=none->p=s.heap.objs.size->(∀ b o,s.heap.get? b=some o->s'.heap.get? b=some o)->s'.os=s.os->Inv X pins σ (upd H p acc) s'->Q (.ref p) s')->wpAny (model X.prog X.w) X.A newAcc Q E s
theorem zeN {X:Cx}:zld X (newList []) (.lst []):=by
 intro pins s σ H E Q I h;refine wpAny_newObj_type ?_;exact h _ _ (I.hok.fresh (znQ _)) rfl (fun b o e=>znN _ e) rfl (I.lnew (its:=[]) (t':=s.toks) .nil (Nat.zero_le _))
theorem zhU {X:Cx}:zld X newDict (.dK []):=by
 intro pins s σ H E Q I h;refine wpAny_newObj_type ?_;exact h _ _ (I.hok.fresh (znQ _)) rfl (fun b o e=>znN _ e) rfl (I.laid (a:=s.heap.objs.size) (o:=.dK []) (t':=s.toks) (fun _ _ q=>znN _ q) (znQ _) (zfL s.heap I.big))
section
variable {X:Cx} {sc:Scope} {own:List Str} {fr:List Nat} {e tg iter:Expr} {ifs:List Expr} {emit:Env->Addr->Sem Unit} {wi:TI} {g:TG} {tc:TT} {tm:TM} {acc:HO} {newAcc:Sem Value} {pos:Pos}
theorem zfJ (F:zbY e tg iter ifs emit) (hc:X.calm=true) (S:zaH X sc fr) (hi:PI X tg iter wi) (hnew:zld X newAcc acc)
  (hg:∀ C s₀ H₀ fp,PG (zaA X sc own fr C s₀ H₀ fp) tg g) (ht:∀ C s₀ H₀ fp,PTs (zaA X sc own fr C s₀ H₀ fp) ifs tc) (hm:∀ C s₀ H₀ fp,PM (zaA X sc own fr C s₀ H₀ fp) emit tm)
  (hs:∀ x,foldedSetIterable iter X.env x=pure x) {use:Option (Value->Sem Unit)} {pins:List (Addr × Obj)} {s:Shared} {σ:St} {H:Hp} {Q:Addr->Hp->Prop} {Q':Value->Shared->Prop} (I:Inv X pins σ H s)
  (h:zeZ acc wi own.length fr g tc tm σ H Q)
  (hq:∀ (p C:Addr) (H':Hp) (s':Shared) (m:Str->Option Value),Inv X pins σ H' s'->Q p H'->s'.heap.Ns C m->H' C=none->C≠X.env.locals->X.s₀.heap.objs.size<=C->(∀ x c,X.env.cells.lookup x=some c->c≠C)->(∀ q∈X.pn++pins,q.1≠C) ->
   compPost (model X.prog X.w) X.A X.xe use Q' (.ref p) C (.ok .next) s') :
  wpAny (model X.prog X.w) X.A (comprehension e sc X.env pos newAcc false (eval iter X.env) use) Q' X.xe s:=by
 obtain⟨gs,hcl⟩:=F.cl;refine wpAny_comprehension_free hcl hs (zdQ (S.cells I)) S.kind S.names (thn (hi pins s σ H _ I h) fun v s1 h1=>thn h1 fun itv s2 h2=>?_);obtain⟨it,fp,tn,J,H2,e2,I2,T,st2,f2,q2⟩:=h2;subst e2;refine hnew pins s2 σ H2 _ _ I2 fun p s3 np hp k3 os3 I3=>?_
 obtain⟨W,⟨m0,w0⟩,turn⟩:=q2 p np;refine wpAny_newFunctionEnv S.nocell (by intro x hx;simp at hx) (fun h₁ hns hsb=>?_) S.kind;have hk:∀ b o,s3.heap.get? b=some o->h₁.get? b=some o:=fun b o eb=>hsb.extBut b o (zoi (zn0 eb)) (znN _ eb)
 have ob2:∀ b∈fp,∃ o,s2.heap.get? b=some o:=fun b hb=>let ⟨o,eo,_⟩:=T.obj _ _ st2 b hb;⟨o,eo⟩
 have fpn:∀ b∈fp,b≠p:=fun b hb z=>by
  obtain⟨o,eo⟩:=ob2 b hb;rw [z,hp] at eo;exact absurd (zn0 eo) (Nat.lt_irrefl _)
 have f3:∀ b∈fp,zin X pins (upd H2 p acc) b:=fun b hb=>by
  obtain⟨a1,a2⟩:=f2 b hb;exact⟨by rw [zam (fpn b hb)];exact a1,a2⟩
 have ob3:∀ b∈fp,∃ o,s3.heap.get? b=some o:=fun b hb=>let ⟨o,eo⟩:=ob2 b hb;⟨o,k3 b o eo⟩
 have I4:=ziH (own:=own) (t:=s3.toks+([]:List (Str × Value)).length) S I3 f3 ob3 (h₁:=h₁) hns hk;have st4:tn 0 h₁:=T.keep _ _ _ st2 fun b hb o eo=>hk b o (k3 b o eo)
 have hfp:∀ b∈fp,b≠s3.heap.objs.size/\b ∉ frs X.stack/\∀ x c,(zbP sc X.env).lookup x=some c->c≠b:=fun b hb=>by
  obtain⟨_,f1,f2',_,f4,_⟩:=f3 b hb;obtain⟨o,eo⟩:=ob3 b hb;refine⟨zoi (zn0 eo),fun z=>?_,fun x c ec=>f4 x c (S.look I3 ec)⟩;rcases zoh.mp (I3.stkSub b z) with q | q
  ·exact f1 q
  ·exact f2' q
 have loop:codeAny (model X.prog X.w) X.A (.compLoop e 0 (.ref it) (.ref p) (compEnvC sc (zbP sc X.env) s3.heap.objs.size X.env)) (compPost (model X.prog X.w) X.A X.xe use Q' (.ref p) s3.heap.objs.size) { s3 with heap:=h₁,toks:=s3.toks+([]:List (Str × Value)).length }:=by
  refine zg3 (s₀:=s3) (H₀:=upd H2 p acc) (own:=own) (fr:=fr) (Q:=fun H'=>Q p H') F hc (hg _ _ _ _) (ht _ _ _ _) (hm _ _ _ _) T hfp W turn (fun σ' H' s' J' qq=>?_) I4 st4 (fun b hb=>(f3 b hb).1) w0;obtain⟨m,hn,_⟩:=J'.loc;have un:Un (frs X.stack) fp H2 H' s2.heap s'.heap:=(Un.laid (o:=acc) k3 (by rw [hp];exact znQ _) np).trans J'.base;have IX:Inv X pins σ H' s':=I2.call' (ch:=fp) (J'.os.trans os3) un J'.hok J'.bare fun b hb=>by
   obtain⟨_,f1,_,f3',f4,f5⟩:=f2 b hb;exact⟨f3',f1,f4,f5⟩
  refine hq p s3.heap.objs.size H' s' m IX qq hn J'.free (Ne.symm (zoi I3.lt)) I3.sz (fun x c ec=>?_) fun q hq'=>?_
  ·obtain⟨v,o,eo,_⟩:=I3.cell x c ec;exact zoi (zn0 eo)
  ·exact zoi (zn0 (I3.pin q hq').1)
 exact F.start _ _ _ _ _ _ _ _ loop (T.self _ _ _ _ _ st4 loop)
theorem zdy (F:zbY e tg iter ifs emit) (hc:X.calm=true) (S:zaH X sc fr) (hi:PI X tg iter wi) (hnew:zld X newAcc acc)
  (hg:∀ C s₀ H₀ fp,PG (zaA X sc own fr C s₀ H₀ fp) tg g) (ht:∀ C s₀ H₀ fp,PTs (zaA X sc own fr C s₀ H₀ fp) ifs tc) (hm:∀ C s₀ H₀ fp,PM (zaA X sc own fr C s₀ H₀ fp) emit tm)
  (hs:∀ x,foldedSetIterable iter X.env x=pure x) {pins:List (Addr × Obj)} {s:Shared} {σ:St} {H:Hp} {Q:VK} (I:Inv X pins σ H s)
  (h:zeZ acc wi own.length fr g tc tm σ H fun p H'=>Q (.ref p) H') :
  wpAny (model X.prog X.w) X.A (comprehension e sc X.env pos newAcc false (eval iter X.env) none) (EP X pins σ Q) X.xe s:=by
 refine zfJ F hc S hi hnew hg ht hm hs I h fun p C H' s' m I' q hn h1 h2 h3 h4 h5=>⟨m,hn,fun h' hb=>?_⟩
 exact⟨.ref p,H',I'.turned (t':=s'.toks) (fun b o hne eo=>hb.extBut b o hne eo) h1 h2 (.inr h3) h4 h5,rfl,q⟩
theorem zgo (F:zbY e tg iter ifs emit) (hc:X.calm=true) (S:zaH X sc fr) (hi:PI X tg iter wi) (hnew:zld X newAcc acc)
  (hg:∀ C s₀ H₀ fp,PG (zaA X sc own fr C s₀ H₀ fp) tg g) (ht:∀ C s₀ H₀ fp,PTs (zaA X sc own fr C s₀ H₀ fp) ifs tc) (hm:∀ C s₀ H₀ fp,PM (zaA X sc own fr C s₀ H₀ fp) emit tm)
  (hs:∀ x,foldedSetIterable iter X.env x=pure x) {pins:List (Addr × Obj)} {s:Shared} {σ:St} {H:Hp} {D:zir} {j:Nat} {y:Str} {py:Pos} (hN:X.N.Nodup) (hj:X.N[j]?=some y) (hy:Loc X.env.scope y)
  (hf:X.fn y=true\/X.env.scope.names.lookup y=some .local) (I:Inv X pins σ H s)
  (h:zeZ acc wi own.length fr g tc tm σ H fun p H'=>D.nx (σ.set j (some (.ref p))) H') :
  wpAny (model X.prog X.w) X.A (comprehension e sc X.env pos newAcc false (eval iter X.env) (some (assign (.Name y py) X.env))) (fun _ s'=>SP X pins D .next s') X.xe s:=by
 refine zfJ F hc S hi hnew hg ht hm hs I h fun p C H' s' m I' q hn h1 h2 h3 h4 h5=>?_
 show wpAny _ _ (assign (.Name y py) X.env (.ref p)) _ _ s';refine wpAny_assign_Name (zeY I' hN hj hy (show zaL (V.ref p) (Value.ref p) from rfl) (fun s2 I2 ⟨a,sb,ha⟩=>?_) hf);have hCa:C≠a:=by
  rcases ha with z | z
  ·rw [z];exact h2
  ·exact fun w=>h4 y a z w.symm
 refine⟨m,hn.sameBut sb hCa,fun h' hb=>?_⟩;exact⟨_,H',I2.turned (t':=s2.toks) (fun b o hne eo=>hb.extBut b o hne eo) h1 h2 (.inr h3) h4 h5,q⟩
end
def zkd (elt:Expr):Env->Addr->Sem Unit:=fun env D=>do let _ ← call (.builtin "list.append") [.ref D,← eval elt env]
theorem zeB {elt tg iter:Expr} {ifs:List Expr} {sc:Scope} {pos:Pos}:zbY (.ListComp elt [⟨tg,iter,ifs,0⟩] sc pos) tg iter ifs (zkd elt) :=
 ⟨⟨_,rfl⟩,fun _ _ _ _=>rfl,fun _ _ _ _ _=>rfl,fun _ _ _=>rfl,fun _ _ _ _ _ _ _ _ h0 h=>codeAny_compStart_list h0 h⟩
def mApp (te:TE):TM:=fun p σ H Q=>te σ H fun y H1=>∃ ys,H1 p=some (.lst ys)/\ys.length<sizeLine/\Q (upd H1 p (.lst (ys++[y])))
theorem zhT {X:Cx} {elt:Expr} {te:TE} (h:PE X elt te):PM X (zkd elt) (mApp te):=by
 intro pins s σ H D Q I hw;unfold zkd;refine wpAny_bind (thn (h pins s σ H _ I hw) fun u s1 ⟨y,H1,I1,r1,ys,e1,l1,q1⟩=>wpAny_bind ?_);obtain⟨z,its,n,r,hl,e⟩:=I1.lstM e1;refine call_meets F.slot_list_append ⟨_,e,rfl⟩ F.entry_list_append (F.args_list_append_2 _ _) (PySem.list_append D its.toArray n u (by rw [zoa];omega)) ⟨e,?_⟩;refine wpAny_pure ⟨_,I1.lset (its':=its++[u]) e1 e (by simp) (r.append (.cons r1 .nil)) ?_,q1⟩;rw [znK,List.length_singleton];omega
def tLC (wi:TI) (n:Nat) (fr:List Nat) (g:TG) (tc:TT) (te:TE):TE:=fun σ H Q=>zeZ (.lst []) wi n fr g tc (mApp te) σ H fun p H'=>Q (.ref p) H'
section
variable {X:Cx} {sc:Scope} {own:List Str} {fr:List Nat} {elt tg iter:Expr} {ifs:List Expr} {wi:TI} {g:TG} {tc:TT} {te:TE} {pos:Pos}
theorem zhP (hc:X.calm=true) (S:zaH X sc fr) (hi:PI X tg iter wi)
  (hg:∀ C s₀ H₀ fp,PG (zaA X sc own fr C s₀ H₀ fp) tg g) (ht:∀ C s₀ H₀ fp,PTs (zaA X sc own fr C s₀ H₀ fp) ifs tc) (he:∀ C s₀ H₀ fp,PE (zaA X sc own fr C s₀ H₀ fp) elt te)
  (hs:∀ x,foldedSetIterable iter X.env x=pure x:=by intro _;rfl):PE X (.ListComp elt [⟨tg,iter,ifs,0⟩] sc pos) (tLC wi own.length fr g tc te):=by
 intro pins s σ H Q I h;rw [eval_ListComp];exact zdy zeB hc S hi zeN hg ht (fun _ _ _ _=>zhT (he _ _ _ _)) hs I h
theorem zi5 {j:Nat} {y:Str} {py spos:Pos} (hc:X.calm=true) (hN:X.N.Nodup) (hj:X.N[j]?=some y) (hy:Loc X.env.scope y) (S:zaH X sc fr) (hi:PI X tg iter wi)
  (hg:∀ C s₀ H₀ fp,PG (zaA X sc own fr C s₀ H₀ fp) tg g) (ht:∀ C s₀ H₀ fp,PTs (zaA X sc own fr C s₀ H₀ fp) ifs tc) (he:∀ C s₀ H₀ fp,PE (zaA X sc own fr C s₀ H₀ fp) elt te)
  (hsw:swapsWith (.ListComp elt [⟨tg,iter,ifs,0⟩] sc pos) (some (.Name y py)) spos.line X.env=pure true:=by rfl)
  (hf:X.fn y=true\/X.env.scope.names.lookup y=some .local:=by first | exact .inl rfl | exact .inr rfl | assumption)
  (hs:∀ x,foldedSetIterable iter X.env x=pure x:=by intro _;rfl):PS X (.Assign [.Name y py] (.ListComp elt [⟨tg,iter,ifs,0⟩] sc pos) spos) (znp (tLC wi own.length fr g tc te) (zke j)):=by
 intro pins s σ H D I h;rw [exec_Assign_Name_used _ _ _ _ hsw];refine wpAny_bind (wpAny_standAt (wpAny_bind ?_));show wpAny _ _ (do let _ ← comprehension (.ListComp elt [⟨tg,iter,ifs,0⟩] sc pos) sc X.env _ (newList []) false (eval iter X.env) (some (assign (.Name y py) X.env))) _ _ s;refine wpAny_bind (thn (zgo zeB hc S hi zeN hg ht (fun _ _ _ _=>zhT (he _ _ _ _)) hs hN hj hy hf I h) fun _ s' q=>wpAny_pure (wpAny_pure q))
end
def zkc (kx vx:Expr):Env->Addr->Sem Unit:=fun env D=>do
 let kv ← eval kx env
 let vv ← holding [kv] (eval vx env)
 standAt { kx.pos with endLine:=vx.pos.endLine,endCol:=vx.pos.endCol }
 holding [kv,vv] (dictSet D kv vv)
theorem zhk {kx vx tg iter:Expr} {ifs:List Expr} {sc:Scope} {pos:Pos}:zbY (.DictComp kx vx [⟨tg,iter,ifs,0⟩] sc pos) tg iter ifs (zkc kx vx) :=
 ⟨⟨_,rfl⟩,fun _ _ _ _=>rfl,fun _ _ _ _ _=>rfl,fun _ _ _=>rfl,fun _ _ _ _ _ _ _ _ h0 h=>codeAny_compStart_dict h0 h⟩
def mPut (tk tv:TE):TM:=fun p σ H Q=>tk σ H fun k H1=>tv σ H1 fun v H2=>∃ kvs key,H2 p=some (.dK kvs)/\k=kV key/\kvs.length<sizeLine/\Q (upd H2 p (.dK (zfp kvs key v)))
theorem zkG {X:Cx} {kx vx:Expr} {tk tv:TE} (hk:PE X kx tk) (hv:PE X vx tv):PM X (zkc kx vx) (mPut tk tv):=by
 intro pins s σ H D Q I hw;unfold zkc;refine wpAny_bind (thn (hk pins s σ H _ I hw) fun u s1 ⟨k,H1,I1,r1,q1⟩=>wpAny_bind (wpAny_holding (thn (hv pins s1 σ H1 _ I1 q1) fun w s2 ⟨v,H2,I2,r2,kvs,key,e,ey,l,q2⟩=>?_)));refine wpAny_bind (wpAny_standAt (wpAny_holding ?_));subst ey;obtain⟨z,hd,vs,rel,dd⟩:=zgq I2.hok e;have hz:vs.length<=sizeLine:=by rw [← rel.length];exact z
 have hl:(zfp kvs key v).length<=sizeLine:=by have:=zce kvs key v;omega
 refine wpAny_dictSet_pairs (hsz:=hz) (zgu r1) dd fun h' dd' hs=>⟨_,?_,q2⟩
 have he:∃ q,h'.get? D=some q:=let ⟨q,_,_,hq,_⟩:=dd';⟨q,hq⟩;exact zc3 I2 (by rw [e];exact True.intro) hs he (zhb hl hd (rel.put key r2) dd')
def tDC (wi:TI) (n:Nat) (fr:List Nat) (g:TG) (tc:TT) (tk tv:TE):TE:=fun σ H Q=>zeZ (.dK []) wi n fr g tc (mPut tk tv) σ H fun p H'=>Q (.ref p) H'
section
variable {X:Cx} {sc:Scope} {own:List Str} {fr:List Nat} {kx vx tg iter:Expr} {ifs:List Expr} {wi:TI} {g:TG} {tc:TT} {tk tv:TE} {pos:Pos}
theorem znd (hc:X.calm=true) (S:zaH X sc fr) (hi:PI X tg iter wi)
  (hg:∀ C s₀ H₀ fp,PG (zaA X sc own fr C s₀ H₀ fp) tg g) (ht:∀ C s₀ H₀ fp,PTs (zaA X sc own fr C s₀ H₀ fp) ifs tc) (hk:∀ C s₀ H₀ fp,PE (zaA X sc own fr C s₀ H₀ fp) kx tk) (hv:∀ C s₀ H₀ fp,PE (zaA X sc own fr C s₀ H₀ fp) vx tv)
  (hs:∀ x,foldedSetIterable iter X.env x=pure x:=by intro _;rfl):PE X (.DictComp kx vx [⟨tg,iter,ifs,0⟩] sc pos) (tDC wi own.length fr g tc tk tv):=by
 intro pins s σ H Q I h;show wpAny _ _ (comprehension (.DictComp kx vx [⟨tg,iter,ifs,0⟩] sc pos) sc X.env _ newDict false (eval iter X.env)) _ _ s;exact zdy zhk hc S hi zhU hg ht (fun _ _ _ _=>zkG (hk _ _ _ _) (hv _ _ _ _)) hs I h
end
theorem za4 {K:PySem.W.Frag} {a:Addr} {xs:List V} {g:TG} {tc:TT} {tm:TM} {σ:St} {H:Hp} {p:Addr} {Q:Hp->Prop} (Pv:Nat->St->Hp->Prop) (h0:Pv 0 σ H)
  (hl:∀ i σ H,i<=xs.length->Pv i σ H->SqL K H a xs)
  (hs:∀ i x σ H,xs[i]?=some x->Pv i σ H->g x σ H fun σ3 H3=>tc σ3 H3 fun b H4=>if b=true then tm p σ3 H4 (Pv (i+1) σ3) else Pv (i+1) σ3 H4) (hd:∀ σ H,Pv xs.length σ H->Q H) :
  ∃ W:Nat->Nat->St->Hp->Prop,(∃ m,W 0 m σ H) /\
  ∀ i m σ' H',W i m σ' H'->((Itl K a).stop i H'/\Q H')\/((Itl K a).go i H'/\∃ N:St->Hp->Prop,(∀ σ2 H2,N σ2 H2->∃ m',m'<m/\W (i+1) m' σ2 H2)/\∀ x H2,(Itl K a).yld i H' x H2->g x σ' H2 fun σ3 H3=>tc σ3 H3 fun b H4 =>
   if b=true then tm p σ3 H4 (N σ3) else N σ3 H4):=by
 refine⟨fun i m σ H=>m=xs.length-i/\i<=xs.length/\Pv i σ H,⟨xs.length,by simp,Nat.zero_le _,h0⟩,?_⟩;rintro i m σ H ⟨rfl,hi,pv⟩;have q:=hl i σ H hi pv;by_cases hlt:i<xs.length
 ·refine .inr ⟨⟨xs,xs[i],q,by simp [hlt]⟩,Pv (i+1),fun σ' H' p'=>⟨xs.length-(i+1),by omega,rfl,hlt,p'⟩,fun x H' y=>?_⟩;obtain⟨e,y⟩:=y;subst e;exact hs i x σ _ (y xs q) pv
 ·have e:i=xs.length:=by omega
  subst e;exact .inl ⟨⟨xs,q,znQ _⟩,hd σ H pv⟩
theorem zgn {lo:Int} {n:Nat} {g:TG} {tc:TT} {tm:TM} {σ:St} {H:Hp} {p:Addr} {Q:Hp->Prop} (Pv:Nat->St->Hp->Prop) (h0:Pv 0 σ H)
  (hs:∀ i σ H,i<n->Pv i σ H->g (.int (lo+i)) σ H fun σ3 H3=>tc σ3 H3 fun b H4=>if b=true then tm p σ3 H4 (Pv (i+1) σ3) else Pv (i+1) σ3 H4) (hd:∀ σ H,Pv n σ H->Q H) :
  ∃ W:Nat->Nat->St->Hp->Prop,(∃ m,W 0 m σ H) /\
  ∀ i m σ' H',W i m σ' H'->((Itr lo n).stop i H'/\Q H')\/((Itr lo n).go i H'/\∃ N:St->Hp->Prop,(∀ σ2 H2,N σ2 H2->∃ m',m'<m/\W (i+1) m' σ2 H2)/\∀ x H2,(Itr lo n).yld i H' x H2->g x σ' H2 fun σ3 H3=>tc σ3 H3 fun b H4 =>
   if b=true then tm p σ3 H4 (N σ3) else N σ3 H4):=by
 refine⟨fun i m σ H=>m=n-i/\i<=n/\Pv i σ H,⟨n,by simp,Nat.zero_le _,h0⟩,?_⟩;rintro i m σ H ⟨rfl,hi,pv⟩;by_cases hlt:i<n
 ·refine .inr ⟨hlt,Pv (i+1),fun σ' H' p'=>⟨n-(i+1),by omega,rfl,hlt,p'⟩,fun x H' y=>?_⟩;obtain⟨e,y⟩:=y;subst e y;exact hs i σ _ hlt pv
 ·have e:i=n:=by omega
  subst e;exact .inl ⟨znQ _,hd σ H pv⟩
end L2
end
section
namespace L2
open PySem PySem.Spec PyProof.Rows
inductive DD where
 | non | bl (b:Bool) | int (i:Int) | str (x:Str) | lst (ds:List DD) | tup (ds:List DD)
mutual
def dep:DD->Nat
 | .lst ds=>depL ds+1
 | .tup ds=>depL ds+1
 | _=>0
def depL:List DD->Nat
 | []=>0
 | d::ds=>max (dep d) (depL ds)
end
mutual
def eqD:DD->DD->Bool
 | .non,.non=>true
 | .bl a,.bl b=>a == b
 | .bl a,.int b=>(if a then 1 else 0) == b
 | .int a,.bl b=>a == (if b then 1 else 0)
 | .int a,.int b=>a == b
 | .str a,.str b=>a == b
 | .lst as,.lst bs=>zfM as bs
 | .tup as,.tup bs=>zfM as bs
 | _,_=>false
def zfM:List DD->List DD->Bool
 | [],[]=>true
 | a::as,b::bs=>eqD a b && zfM as bs
 | _,_=>false
end
mutual
def Den (H:Hp) (v:V):DD->Prop
 | .non=>v=.non
 | .bl b=>v=.bl b
 | .int i=>v=.int i
 | .str x=>v=.str x
 | .lst ds=>∃ a xs,v=.ref a/\H a=some (.lst xs)/\zbl H xs ds
 | .tup ds=>∃ a xs,v=.ref a/\H a=some (.tup xs)/\zbl H xs ds
def zbl (H:Hp) (xs:List V):List DD->Prop
 | []=>xs=[]
 | d::ds=>∃ x r,xs=x::r/\Den H x d/\zbl H r ds
end
theorem zdS:∀ {ds:List DD} {d:DD},d∈ds->dep d<=depL ds
 | d::ds,e,h=>by
  rw [depL];rcases zoh.mp h with rfl | h
  ·omega
  ·have:=zdS h
   omega
theorem zfa {n:Nat}:∀ {ds:List DD},(∀ d∈ds,dep d<=n)->depL ds<=n
 | [],_=>by simp [depL]
 | d::ds,h=>by
  rw [depL];have h1:=h d zn8;have h2:=zfa (ds:=ds) fun e he=>h e (znT _ he)
  omega
theorem zbl.length:∀ {H:Hp} {xs:List V} {ds:List DD},zbl H xs ds->xs.length=ds.length
 | _,_,[],h=>by rw [zbl] at h;subst h;rfl
 | _,_,d::ds,h=>by
  rw [zbl] at h;obtain⟨x,r,rfl,_,h⟩:=h;simp [zbl.length h]
theorem zbl.get {H:Hp}:∀ {xs:List V} {ds:List DD} {i:Nat} {d:DD},zbl H xs ds->ds[i]?=some d->∃ x,xs[i]?=some x/\Den H x d
 | _,[],_,_,_,e=>by simp at e
 | _,d::ds,i,c,h,e=>by
  rw [zbl] at h;obtain⟨x,r,rfl,h1,h⟩:=h;cases i with
  | zero=>simp at e;subst e;exact⟨x,rfl,h1⟩
  | succ i =>
   obtain⟨y,e1,e2⟩:=zbl.get (i:=i) h (by simpa using e);exact⟨y,by simpa using e1,e2⟩
theorem zbl.get' {H:Hp} {xs:List V} {ds:List DD} {i:Nat} {x:V} (h:zbl H xs ds) (e:xs[i]?=some x):∃ d,ds[i]?=some d/\Den H x d:=by
 have hi:i<ds.length:=by rw [← h.length];exact (znE.mp e).1
 obtain⟨y,e1,e2⟩:=h.get (znC hi);rw [e] at e1;cases e1;exact⟨_,znC hi,e2⟩
theorem zbl.ints {H:Hp}:∀ {ns:List Int},zbl H (ns.map V.int) (ns.map DD.int)
 | []=>rfl
 | n::ns=>⟨_,_,rfl,rfl,zbl.ints⟩
def Sub (G H:Hp):Prop:=∀ a o,G a=some o->H a=some o
theorem Sub.refl {H:Hp}:Sub H H:=fun _ _ h=>h
theorem Sub.trans {A B C:Hp} (h:Sub A B) (h':Sub B C):Sub A C:=fun a o e=>h' a o (h a o e)
theorem Sub.upd {G H:Hp} {p:Addr} {o:HO} (h:Sub G H) (n:G p=none):Sub G (upd H p o):=fun a u e=>by
 rw [zam (zaj e n)];exact h a u e
theorem Sub.new {H:Hp} {p:Addr} {o:HO} (n:H p=none):Sub H (L2.upd H p o):=Sub.upd Sub.refl n
theorem Sub.free {G H:Hp} {p:Addr} (h:Sub G H) (n:H p=none):G p=none:=by
 cases e:G p with
 | none=>rfl
 | some o=>rw [h p o e] at n;cases n
mutual
theorem Den.inj {H:Hp}:∀ {v:V} (d e:DD),Den H v d->Den H v e->d=e
 | v,.non,e,h,h'=>by
  rw [Den] at h;subst h;cases e <;> rw [Den] at h' <;> first | rfl | (cases h';done) | (obtain⟨_,_,z,_⟩:=h';cases z)
 | v,.bl b,e,h,h'=>by
  rw [Den] at h;subst h;cases e <;> rw [Den] at h' <;> first | (cases h';rfl) | (cases h';done) | (obtain⟨_,_,z,_⟩:=h';cases z)
 | v,.int b,e,h,h'=>by
  rw [Den] at h;subst h;cases e <;> rw [Den] at h' <;> first | (cases h';rfl) | (cases h';done) | (obtain⟨_,_,z,_⟩:=h';cases z)
 | v,.str b,e,h,h'=>by
  rw [Den] at h;subst h;cases e <;> rw [Den] at h' <;> first | (cases h';rfl) | (cases h';done) | (obtain⟨_,_,z,_⟩:=h';cases z)
 | v,.lst ds,e,h,h'=>by
  rw [Den] at h;obtain⟨a,xs,rfl,h1,h2⟩:=h;cases e <;> rw [Den] at h' <;> first | (cases h';done) | (obtain⟨b,ys,z,h3,h4⟩:=h';cases z;rw [h1] at h3;cases h3;done) | (obtain⟨b,ys,z,h3,h4⟩:=h';cases z;rw [h1] at h3;cases h3;rw [zbl.inj ds _ h2 h4])
 | v,.tup ds,e,h,h'=>by
  rw [Den] at h;obtain⟨a,xs,rfl,h1,h2⟩:=h;cases e <;> rw [Den] at h' <;> first | (cases h';done) | (obtain⟨b,ys,z,h3,h4⟩:=h';cases z;rw [h1] at h3;cases h3;done) | (obtain⟨b,ys,z,h3,h4⟩:=h';cases z;rw [h1] at h3;cases h3;rw [zbl.inj ds _ h2 h4])
theorem zbl.inj {H:Hp}:∀ {xs:List V} (ds es:List DD),zbl H xs ds->zbl H xs es->ds=es
 | _,[],es,h,h'=>by
  rw [zbl] at h;subst h;cases es with
  | nil=>rfl
  | cons e es=>obtain⟨_,_,z,_⟩:=h';cases z
 | _,d::ds,es,h,h'=>by
  rw [zbl] at h;obtain⟨x,r,rfl,h1,h2⟩:=h;cases es with
  | nil=>cases h'
  | cons e es =>
   obtain⟨y,q,z,h3,h4⟩:=h';cases z;rw [Den.inj d e h1 h3,zbl.inj ds es h2 h4]
end
mutual
theorem zaW:∀ d:DD,eqD d d=true
 | .non=>by simp [eqD]
 | .bl b=>by simp [eqD]
 | .int b=>by simp [eqD]
 | .str b=>by simp [eqD]
 | .lst ds=>by rw [eqD];exact zc6 ds
 | .tup ds=>by rw [eqD];exact zc6 ds
theorem zc6:∀ ds:List DD,zfM ds ds=true
 | []=>by simp [zfM]
 | d::ds=>by rw [zfM,zaW d,zc6 ds];rfl
end
theorem zdT:∀ as bs:List DD,zfM as bs=((List.range (min as.length bs.length)).all (fun j=>eqD (as.getD j .non) (bs.getD j .non)) && as.length == bs.length)
 | [],[]=>by simp [zfM]
 | [],b::bs=>by simp [zfM]
 | a::as,[]=>by simp [zfM]
 | a::as,b::bs=>by
  rw [zfM,zdT as bs];rw [show min (a::as).length (b::bs).length=min as.length bs.length+1 by simp only [zob];omega];rw [List.range_succ_eq_map,List.all_cons,List.all_map];simp only [List.getD_cons_zero,zob,Bool.and_assoc]
  congr 1
  congr 1
  have:∀ (m n:Nat),(m+1 == n+1)=(m == n):=fun m n=>by
   by_cases h:m=n
   ·subst h;simp
   ·rw [beq_eq_false_iff_ne.mpr h,beq_eq_false_iff_ne.mpr (by omega)]
  rw [this]
section
variable {X:Cx} {pins:List (Addr × Obj)} {σ:St} {H:Hp} {s:Shared}
open PySem.SeqAt
def zmJ (A:Around) (s:Shared) (u v:Value) (b:Bool):Prop:=EqAt A s u v b/\RcAt A s u v b/\RcNeAt A s u v (!b)
theorem zcp {H:Hp} {xs:List V} {ds:List DD} {us:List Value} (h:zbl H xs ds) (r:zaM xs us) {j:Nat} (hj:j<us.toArray.size):∃ x d,Den H x d/\zaL x (us.toArray[j])/\ds.getD j .non=d/\d∈ds:=by
 rw [zoa] at hj;have hj':j<xs.length:=by rw [r.length];exact hj
 obtain⟨u,e1,e2⟩:=r.get (znC hj');obtain⟨d,e3,e4⟩:=h.get' (znC hj');refine⟨_,d,e4,?_,?_,znF e3⟩
 ·rw [znC hj] at e1;cases e1;simpa using e2
 ·rw [zog,e3];rfl
theorem zhg (I:Inv X pins σ H s):∀ (n:Nat) (d e:DD) (A:Around) (x y:V) (u v:Value),dep d<=n->Den H x d->Den H y e->zaL x u->zaL y v->A.units+n<cLine->zmJ A s u v (eqD d e):=by
 intro n
 induction n with
 | zero =>
  intro d e A x y u v hd hx hy rx ry hu;cases d with
  | lst ds=>simp [dep] at hd
  | tup ds=>simp [dep] at hd
  | non =>
   rw [Den] at hx;subst hx;cases rx;cases e with
   | non=>rw [Den] at hy;subst hy;cases ry;exact⟨EqAt.same _,RcAt.none_none,RcNeAt.none_none⟩
   | bl b=>rw [Den] at hy;subst hy;cases ry;exact⟨EqAt.none_bool b,RcAt.none_bool b,RcNeAt.none_bool b⟩
   | int b=>rw [Den] at hy;subst hy;obtain⟨t,rfl⟩:=ry;exact⟨EqAt.none_int b t,RcAt.none_int b t,RcNeAt.none_int b t⟩
   | str b=>rw [Den] at hy;subst hy;obtain⟨t,rfl⟩:=ry;exact⟨EqAt.none_str b t,RcAt.none_str b t,RcNeAt.none_str b t⟩
   | lst es=>rw [Den] at hy;obtain⟨a,xs,rfl,h1,h2⟩:=hy;cases ry;obtain⟨its,_,p,_⟩:=I.list (SqL.of h1);exact⟨EqAt.none_list p.isList hu,RcAt.none_list p.isList hu,RcNeAt.none_list p.isList hu⟩
   | tup es=>rw [Den] at hy;obtain⟨a,xs,rfl,h1,h2⟩:=hy;cases ry;obtain⟨its,_,p,_⟩:=I.tuple (SqT.of h1);exact⟨EqAt.none_tuple p hu,RcAt.none_tuple p hu,RcNeAt.none_tuple p hu⟩
  | bl a =>
   rw [Den] at hx;subst hx;cases rx;cases e with
   | non=>rw [Den] at hy;subst hy;cases ry;exact⟨EqAt.bool_none a,RcAt.bool_none a,RcNeAt.bool_none a⟩
   | bl b=>rw [Den] at hy;subst hy;cases ry;exact⟨EqAt.bool_bool a b,RcAt.bool_bool a b,RcNeAt.bool_bool a b⟩
   | int b=>rw [Den] at hy;subst hy;obtain⟨t,rfl⟩:=ry;exact⟨EqAt.bool_int a b t,RcAt.bool_int a b t,RcNeAt.bool_int a b t⟩
   | str b=>rw [Den] at hy;subst hy;obtain⟨t,rfl⟩:=ry;exact⟨EqAt.bool_str a b t,RcAt.bool_str a b t,RcNeAt.bool_str a b t⟩
   | lst es=>rw [Den] at hy;obtain⟨b,xs,rfl,h1,h2⟩:=hy;cases ry;obtain⟨its,_,p,_⟩:=I.list (SqL.of h1);exact⟨EqAt.bool_list a p.isList hu,RcAt.bool_list a p.isList hu,RcNeAt.bool_list a p.isList hu⟩
   | tup es=>rw [Den] at hy;obtain⟨b,xs,rfl,h1,h2⟩:=hy;cases ry;obtain⟨its,_,p,_⟩:=I.tuple (SqT.of h1);exact⟨EqAt.bool_tuple a p hu,RcAt.bool_tuple a p hu,RcNeAt.bool_tuple a p hu⟩
  | int a =>
   rw [Den] at hx;subst hx;obtain⟨t',rfl⟩:=rx;cases e with
   | non=>rw [Den] at hy;subst hy;cases ry;exact⟨EqAt.int_none a t',RcAt.int_none a t',RcNeAt.int_none a t'⟩
   | bl b=>rw [Den] at hy;subst hy;cases ry;exact⟨EqAt.int_bool a t' b,RcAt.int_bool a t' b,RcNeAt.int_bool a t' b⟩
   | int b=>rw [Den] at hy;subst hy;obtain⟨t,rfl⟩:=ry;exact⟨EqAt.int_int a t' b t,RcAt.int_int a t' b t,RcNeAt.int_int a t' b t⟩
   | str b=>rw [Den] at hy;subst hy;obtain⟨t,rfl⟩:=ry;exact⟨EqAt.int_str a t' b t,RcAt.int_str a t' b t,RcNeAt.int_str a t' b t⟩
   | lst es=>rw [Den] at hy;obtain⟨b,xs,rfl,h1,h2⟩:=hy;cases ry;obtain⟨its,_,p,_⟩:=I.list (SqL.of h1);exact⟨EqAt.int_list a t' p.isList hu,RcAt.int_list a t' p.isList hu,RcNeAt.int_list a t' p.isList hu⟩
   | tup es=>rw [Den] at hy;obtain⟨b,xs,rfl,h1,h2⟩:=hy;cases ry;obtain⟨its,_,p,_⟩:=I.tuple (SqT.of h1);exact⟨EqAt.int_tuple a t' p hu,RcAt.int_tuple a t' p hu,RcNeAt.int_tuple a t' p hu⟩
  | str a =>
   rw [Den] at hx;subst hx;obtain⟨t',rfl⟩:=rx;cases e with
   | non=>rw [Den] at hy;subst hy;cases ry;exact⟨EqAt.str_none a t',RcAt.str_none a t',RcNeAt.str_none a t'⟩
   | bl b=>rw [Den] at hy;subst hy;cases ry;exact⟨EqAt.str_bool a t' b,RcAt.str_bool a t' b,RcNeAt.str_bool a t' b⟩
   | int b=>rw [Den] at hy;subst hy;obtain⟨t,rfl⟩:=ry;exact⟨EqAt.str_int a t' b t,RcAt.str_int a t' b t,RcNeAt.str_int a t' b t⟩
   | str b=>rw [Den] at hy;subst hy;obtain⟨t,rfl⟩:=ry;exact⟨EqAt.str_str a t' b t,RcAt.str_str a t' b t,RcNeAt.str_str a t' b t⟩
   | lst es=>rw [Den] at hy;obtain⟨b,xs,rfl,h1,h2⟩:=hy;cases ry;obtain⟨its,_,p,_⟩:=I.list (SqL.of h1);exact⟨EqAt.str_list a t' p.isList hu,RcAt.str_list a t' p.isList hu,RcNeAt.str_list a t' p.isList hu⟩
   | tup es=>rw [Den] at hy;obtain⟨b,xs,rfl,h1,h2⟩:=hy;cases ry;obtain⟨its,_,p,_⟩:=I.tuple (SqT.of h1);exact⟨EqAt.str_tuple a t' p hu,RcAt.str_tuple a t' p hu,RcNeAt.str_tuple a t' p hu⟩
 | succ n ih =>
  intro d e A x y u v hd hx hy rx ry hu;have hu0:A.units<cLine:=by omega
  cases d with
  | lst ds =>
   have hdl:∀ c∈ds,dep c<=n:=fun c hc=>by have:=zdS hc;rw [dep] at hd;omega
   have hxd:=hx;rw [Den] at hx;obtain⟨a,xs,rfl,h1,h2⟩:=hx;cases rx;obtain⟨its,r,p,_⟩:=I.list (SqL.of h1);cases e with
   | non=>rw [Den] at hy;subst hy;cases ry;exact⟨EqAt.list_none p.isList hu0,RcAt.list_none p.isList hu0,RcNeAt.list_none p.isList hu0⟩
   | bl b=>rw [Den] at hy;subst hy;cases ry;exact⟨EqAt.list_bool b p.isList hu0,RcAt.list_bool b p.isList hu0,RcNeAt.list_bool b p.isList hu0⟩
   | int b=>rw [Den] at hy;subst hy;obtain⟨t,rfl⟩:=ry;exact⟨EqAt.list_int b t p.isList hu0,RcAt.list_int b t p.isList hu0,RcNeAt.list_int b t p.isList hu0⟩
   | str b=>rw [Den] at hy;subst hy;obtain⟨t,rfl⟩:=ry;exact⟨EqAt.list_str b t p.isList hu0,RcAt.list_str b t p.isList hu0,RcNeAt.list_str b t p.isList hu0⟩
   | tup es=>rw [Den] at hy;obtain⟨b,ys,rfl,h3,h4⟩:=hy;cases ry;obtain⟨its',_,p',_⟩:=I.tuple (SqT.of h3);exact⟨EqAt.list_tuple p.isList p' hu0,RcAt.list_tuple p.isList p' hu0,RcNeAt.list_tuple p.isList p' hu0⟩
   | lst es =>
    have hyd:=hy;rw [Den] at hy;obtain⟨b,ys,rfl,h3,h4⟩:=hy;cases ry;obtain⟨its',r',p',_⟩:=I.list (SqL.of h3);have l1:=h2.length;have l2:=h4.length;have l3:=r.length;have l4:=r'.length;have ch:∀ j (g1:j<its.toArray.size) (g2:j<its'.toArray.size),EqAt A.in1 s its.toArray[j] its'.toArray[j] (eqD (ds.getD j .non) (es.getD j .non)):=fun j g1 g2=>by
     obtain⟨x1,d1,a1,a2,a3,a4⟩:=zcp h2 r g1;obtain⟨x2,d2,b1,b2,b3,b4⟩:=zcp h4 r' g2;rw [a3,b3];exact (ih d1 d2 A.in1 x1 x2 _ _ (hdl d1 a4) a1 b1 a2 b2 (by show A.units+1+n<_;omega)).1
    have main:RcAt A s (.ref a) (.ref b) (eqD (.lst ds) (.lst es))/\RcNeAt A s (.ref a) (.ref b) (!eqD (.lst ds) (.lst es)):=by
     rw [eqD,zdT];by_cases hl:ds.length=es.length
     ·have hs:its.toArray.size=its'.toArray.size:=by simp;omega
      have e1:min ds.length es.length=its.toArray.size:=by simp;omega
      have e2:(ds.length == es.length)=true:=by simpa using hl
      rw [e1,e2,Bool.and_true];exact⟨RcAt.lists p.isList p'.isList hs hu0 ch,RcNeAt.lists p.isList p'.isList hs hu0 ch⟩
     ·have hs:(its.toArray.size != its'.toArray.size)=true:=by simp;omega
      have e2:(ds.length == es.length)=false:=by simpa using hl
      rw [e2,Bool.and_false];exact⟨RcAt.lists_lengths p.isList p'.isList hs hu0,RcNeAt.lists_lengths p.isList p'.isList hs hu0⟩
    refine⟨?_,main⟩;by_cases hab:a=b
    ·subst hab
     have:=Den.inj _ _ hxd hyd
     rw [this,zaW];exact EqAt.same _
    ·exact EqAt.of_refs hab main.1
  | tup ds =>
   have hdl:∀ c∈ds,dep c<=n:=fun c hc=>by have:=zdS hc;rw [dep] at hd;omega
   have hxd:=hx;rw [Den] at hx;obtain⟨a,xs,rfl,h1,h2⟩:=hx;cases rx;obtain⟨its,r,p,_⟩:=I.tuple (SqT.of h1);cases e with
   | non=>rw [Den] at hy;subst hy;cases ry;exact⟨EqAt.tuple_none p hu0,RcAt.tuple_none p hu0,RcNeAt.tuple_none p hu0⟩
   | bl b=>rw [Den] at hy;subst hy;cases ry;exact⟨EqAt.tuple_bool b p hu0,RcAt.tuple_bool b p hu0,RcNeAt.tuple_bool b p hu0⟩
   | int b=>rw [Den] at hy;subst hy;obtain⟨t,rfl⟩:=ry;exact⟨EqAt.tuple_int b t p hu0,RcAt.tuple_int b t p hu0,RcNeAt.tuple_int b t p hu0⟩
   | str b=>rw [Den] at hy;subst hy;obtain⟨t,rfl⟩:=ry;exact⟨EqAt.tuple_str b t p hu0,RcAt.tuple_str b t p hu0,RcNeAt.tuple_str b t p hu0⟩
   | lst es=>rw [Den] at hy;obtain⟨b,ys,rfl,h3,h4⟩:=hy;cases ry;obtain⟨its',_,p',_⟩:=I.list (SqL.of h3);exact⟨EqAt.tuple_list p p'.isList hu0,RcAt.tuple_list p p'.isList hu0,RcNeAt.tuple_list p p'.isList hu0⟩
   | tup es =>
    have hyd:=hy;rw [Den] at hy;obtain⟨b,ys,rfl,h3,h4⟩:=hy;cases ry;obtain⟨its',r',p',_⟩:=I.tuple (SqT.of h3);have l1:=h2.length;have l2:=h4.length;have l3:=r.length;have l4:=r'.length;have ch:∀ j (g1:j<its.toArray.size) (g2:j<its'.toArray.size),EqAt A.in1 s its.toArray[j] its'.toArray[j] (eqD (ds.getD j .non) (es.getD j .non)):=fun j g1 g2=>by
     obtain⟨x1,d1,a1,a2,a3,a4⟩:=zcp h2 r g1;obtain⟨x2,d2,b1,b2,b3,b4⟩:=zcp h4 r' g2;rw [a3,b3];exact (ih d1 d2 A.in1 x1 x2 _ _ (hdl d1 a4) a1 b1 a2 b2 (by show A.units+1+n<_;omega)).1
    have main:RcAt A s (.ref a) (.ref b) (eqD (.tup ds) (.tup es))/\RcNeAt A s (.ref a) (.ref b) (!eqD (.tup ds) (.tup es)):=by
     rw [eqD,zdT];have e1:min ds.length es.length=min its.toArray.size its'.toArray.size:=by simp;omega
     have e2:(ds.length == es.length)=(its.toArray.size == its'.toArray.size):=by
      rw [zoa,zoa,← l1,← l2,l3,l4]
     rw [e1,e2];exact⟨RcAt.tuples p p' hu0 ch,RcNeAt.tuples p p' hu0 ch⟩
    refine⟨?_,main⟩;by_cases hab:a=b
    ·subst hab
     have:=Den.inj _ _ hxd hyd
     rw [this,zaW];exact EqAt.same _
    ·exact EqAt.of_refs hab main.1
  | non=>exact ih .non e A x y u v (by simp [dep]) hx hy rx ry (by omega)
  | bl b=>exact ih (.bl b) e A x y u v (by simp [dep]) hx hy rx ry (by omega)
  | int b=>exact ih (.int b) e A x y u v (by simp [dep]) hx hy rx ry (by omega)
  | str b=>exact ih (.str b) e A x y u v (by simp [dep]) hx hy rx ry (by omega)
def rEqD:R2:=fun x y H Q=>∃ d e,Den H x d/\Den H y e/\dep d<=60/\Q (.bl (eqD d e)) H
def rNeD:R2:=fun x y H Q=>∃ d e,Den H x d/\Den H y e/\dep d<=60/\Q (.bl (!eqD d e)) H
theorem zeH {k:Nat} (hr:zb7 k X.A):OpR X (compareOp .Eq) rEqD:=by
 intro pins s σ H x y v u Q I rx ry h;obtain⟨d,e,h1,h2,h3,q⟩:=h;have hu:=hr.units;exact (zhg I 60 d e X.A x y _ _ h3 h1 h2 rx ry (by omega)).2.1 _ _ _ _ ⟨.bl _,H,I,rfl,q⟩
theorem zeI {k:Nat} (hr:zb7 k X.A):OpR X (compareOp .NotEq) rNeD:=by
 intro pins s σ H x y v u Q I rx ry h;obtain⟨d,e,h1,h2,h3,q⟩:=h;have hu:=hr.units;exact (zhg I 60 d e X.A x y _ _ h3 h1 h2 rx ry (by omega)).2.2 _ _ _ _ ⟨.bl _,H,I,rfl,q⟩
end
end L2
end
section
namespace L2
open PySem PySem.Spec PyProof.Rows
structure ExC (K:PySem.W.Frag) (C:Addr):Prop where
 ga:PySem.W.findIn K (.ref C) "__getattribute__"=some (some (.builtin "BaseException.__getattribute__"))
 na:PySem.W.findIn K (.ref C) "__getattr__"=some none
 cl:PySem.W.findIn K (.ref C) "__class__"=some (some (.builtin "object.__class__"))
 gt:PySem.W.specialIn K (.builtin "object.__class__") "__get__"=some (some (.builtin "getset_descriptor.__get__"))
 tk:PySem.W.takesIn K (.builtin "object.__class__")=some true
 mo:PySem.W.mroIn K C (.type "object")=some true
 mb:PySem.W.mroIn K C (.type "BaseException")=some true
 ci:(PySem.W.clsIn K C).isSome=true
section
variable {prog:Program} {w:World} {A:Around} {E:Value->Shared->Prop} {s:Shared} {K:PySem.W.Frag} {x C:Addr}
open PySem.W PySem.Builtin PySem.Builtin.ObjectAttr PySem.Builtin.Getset_descriptor
end
section
variable {X:Cx} {pins:List (Addr × Obj)} {σ:St} {H:Hp} {s:Shared} {A:Around} {E:Value->Shared->Prop} {Q:Value->Shared->Prop} {c:Value} {b:Bool}
end
end L2
end
section
namespace L2
open PySem PySem.Spec PyProof.Rows
def CXE (P:Program) (w:World):CXT:=fun outer H s E e s'=>∃ (x C:Addr) (B hr:Heap) (a0:Value) (H':Hp),e=.ref x/\s'.os=s.os/\AllBare s'.gens/\Un (frs outer) [] H H' s.heap hr/\HOk P w H' hr /\
 Heap.FlyingW B outer x (.ref C) a0 s'.heap/\hr.UpToSlots s'.heap/\hr.get? x=none/\(∀ b o,hr.get? b=some o->b ∉ frs outer->B.get? b=none->s.heap.objs.size<=b/\H' b=none) /\
 (∀ b o,hr.get? b=some o->B.get? b=none\/B.get? b=some o)/\E (.ref C) none H'
section
variable {X:Cx} {pins:List (Addr × Obj)} {σ:St} {H:Hp} {s:Shared}
theorem Inv.track {x:Addr} {o:HO} (I:Inv X pins σ H s) (h0:X.s₀.heap.get? x=none) (hx:H x=none) (hL:x≠X.env.locals) (hc:∀ y c,X.env.cells.lookup y=some c->c≠x) (hp:∀ p∈X.pn++pins,p.1≠x)
  (new:zaV X.prog X.w (upd H x o) s.heap x o):Inv X pins σ (upd H x o) s:=by
 have h0':∀ b ob,X.s₀.heap.get? b=some ob->b≠x:=fun b ob e z=>by rw [z,h0] at e;cases e
 refine⟨I.ok,I.os,I.bare,⟨I.base.keep,I.base.slot,fun b ob e n hb=>?_,I.base.there,fun b xs e=>?_,fun b ob u e=>?_,fun b ps e=>?_⟩,I.loc,I.cell,?_,fun y c e=>?_,fun p hq=>?_,fun b u e=>?_,I.len⟩
 ·rw [zam (h0' b ob e)];exact I.base.free b ob e n hb
 ·have q:=I.base.tups b xs e;rw [zam (zaj q hx)];exact q
 ·have q:=I.base.frzs b ob u e;rw [zam (zaj q hx)];exact q
 ·obtain⟨m,q⟩:=I.base.tbls b ps e;exact⟨m,by rw [zam (zaj q hx)];exact q⟩
 ·rw [zam (Ne.symm hL)];exact I.free
 ·rw [zam (hc y c e)];exact I.freeC y c e
 ·obtain⟨a1,a2,a3⟩:=I.pin p hq;exact⟨a1,by rw [zam (hp p hq)];exact a2,a3⟩
 ·by_cases hb:b=x
  ·subst hb;rw [zae] at e;cases e;exact new
  ·rw [zam hb] at e;exact (I.hok b u e).stay (fun _ _ _ q=>q) (fun c q=>by rw [zam (zaj q hx)];exact q) fun c xs q=>by rw [zam (zaj q hx)];exact q
theorem zkx {K:PySem.W.Frag} {h₀:Heap} {C:Addr} {bmB:List Value} {newId:String} (X:K.In h₀) (q:PySem.W.excIn K C bmB newId=true) :
  ∃ bm N nm q bs hdct sn sub ab col dd k0 k1 k2 k3 k5 mN,h₀.get? C=some (excClassObj nm q C N bs bm hdct sn sub ab col dd k0 k1 k2 k3 k5 newId)/\h₀.Ns N mN/\mN "__init__"=none/\OwnTail h₀ bmB bm:=by
 open PySem.W in
 unfold excIn at q;split at q
 ·rename_i dd cd sl ho;split at q
  ·rename_i C' bm k0 k1 k2 k3 n k5 hm hs;simp only [Bool.and_eq_true,beq_iff_eq,Bool.not_eq_true'] at q;obtain⟨⟨⟨⟨⟨rfl,rfl⟩,hdel⟩,ht⟩,hok⟩,hni⟩:=q;obtain⟨nm,bs,mro,ns,qn,hd,sn,sub,ab,col,del⟩:=cd;dsimp only at hm hdel hok hni;subst hm hdel;have hsl:sl=#[k0,k1,k2,k3,some (.builtin n),k5]:=by
    obtain⟨l⟩:=sl;simp only at hs;rw [hs]
   subst hsl;exact⟨bm,ns,nm,qn,bs,hd,sn,sub,ab,col,dd,k0,k1,k2,k3,k5,_,X _ _ ho,.of_isNs (PySem.W.isNs_of_in X hok),PySem.W.nsMap_none_of_in X hok hni,PySem.W.tail_of_in X ht⟩
  ·cases q
 ·cases q
abbrev zgO:List Value:=[.type "ValueError",.type "Exception",.type "BaseException",.type "object"]
structure ExK (K:PySem.W.Frag) (C:Addr):Prop where
 inn:PySem.W.excIn K C zgO "ValueError.__new__"=true
 kp:PySem.W.keepIn K (.ref C)=true
section
variable {C:Addr} {y:Str} {p pos:Pos} {e:Expr} {es:List Expr} {t:TA}
end
def zlh (X:Cx) (E:St->Addr->Hp->Prop):Prop:=∀ (pins:List (Addr × Obj)) (σ:St) (H:Hp) (s:Shared) (h':Heap) (x C:Addr) (vs:List Value),Inv X pins σ H s->Heap.MadeExcOf s.heap h' x (.ref C) vs->E σ C H->X.xe (.ref x) { s with heap:=h' }
def zmt (C:Addr) (E:St->Addr->Hp->Prop) (t:TA):TS:=fun _ σ H=>t σ H fun vs H1=>vs.length<=sizeLine/\E σ C H1
section
variable {C:Addr} {y:Str} {np cpos pos:Pos} {e:Expr} {es:List Expr} {t:TA} {E:St->Addr->Hp->Prop}
theorem zi6 (hc:X.calm=true) (M:ExK X.K C) (hg:Gl X y) (hm:X.mg y=some (.ref C)) (hw:zlh X E) (ha:PA X (e::es) t) (hdb:(y == ("__debug__":Str))=false:=by decide)
  (he:starEach (e::es) X.env=(false,eval e X.env)::starEach es X.env:=by rfl) (hpl:(backTo cpos (starEach es X.env)).any (·.1)=false:=by rfl):PS X (.Raise (some (.Call (.Name y np) (e::es) [] cpos)) none pos) (zmt C E t):=by
 intro pins s σ H D I h;obtain⟨bm,N,nm,q,bs,hdct,sn,sub,ab,col,dd,k0,k1,k2,k3,k5,mN,hC,hN,hni,T⟩:=zkx I.ok.mod.kin M.inn;refine wpAny_Raise_call_subT (C:=C) (nm:=nm) (q:=q) (N:=N) (bs:=bs) (bm:=bm) (hdct:=hdct) (sn:=sn) (sub:=sub) (ab:=ab) (col:=col) (dd:=dd) (k0:=k0) (k1:=k1) (k2:=k2) (k3:=k3) (k5:=k5)
  PySem.F.excBase_ValueError (mN:=mN) (T.hasType PySem.F.excBase_ValueError.hasBase) (I.ok.hd hc) (by rw [he];show (false || (backTo cpos (starEach es X.env)).any (·.1))=false;rw [hpl];rfl) hni (zde I hg hm ⟨rfl,?_⟩ hdb)
 have ha':=ha cpos pins s σ H _ I h;rw [he] at ha' ⊢;refine Calls.evalArgs_plain (thn ha' fun us s1 ⟨vs,H1,I1,r,z,hE⟩=>⟨rfl,by rw [← r.length];exact z,I1.bk _ _ hC,hN.keeps I1.bk,T.keeps I1.bk,fun h' x m=>?_⟩);exact hw pins σ H1 s1 h' x C _ I1 m hE
end
section
variable {P:Program} {w:World} {K:PySem.W.Frag} {mg:Str->Option Value} {base:Heap} {N:List Str} {qual:Str} {scope:Scope} {f:Addr} {cd:Value} {A:Around} {outer:List Env} {s:Shared} {H:Hp} {E:XK}
theorem zkh {h:Heap} {as:List Addr} {b:Addr} {o:Obj} (e:h.get? b=some o):(PySem.W.hideAll h as).get? b=none\/(PySem.W.hideAll h as).get? b=some o:=by
 by_cases hb:b∈as
 ·exact .inl (PySem.W.hideAll_none as hb)
 ·exact .inr (PySem.W.hideAll_get _ e hb)
theorem zgM {h:Heap} {as:List Addr}:(PySem.W.hideAll h as).StaysIn h:=fun b o e=>PySem.W.of_hideAll as e
theorem Inv.hidden {X:Cx} {pins:List (Addr × Obj)} {σ:St} {H:Hp} {s:Shared} (I:Inv X pins σ H s):s.heap.FunFrames (PySem.W.hideAll s.heap (frs X.stack)) X.stack :=
 PySem.W.funFrames_hide I.stack fun env he b hb=>List.mem_filterMap.mpr ⟨env,he,hb⟩
theorem zji:zlh (zg4 (CXE P w) P w K mg base N qual scope f cd A outer s H E) (fun _ C H'=>E (.ref C) none H'):=by
 intro pins σ H1 s1 h' x C vs I m hE;show wpAny (model P w) _ (leaving (envOfC qual scope s.heap.objs.size f cd) (.ref x)) _ _ _;have hst:frs (zg4 (CXE P w) P w K mg base N qual scope f cd A outer s H E).stack=s.heap.objs.size::frs outer:=rfl;refine wpAny_leaves_madeW (base:=PySem.W.hideAll s1.heap (frs (zg4 (CXE P w) P w K mg base N qual scope f cd A outer s H E).stack)) (h:=s1.heap) (env:=envOfC qual scope s.heap.objs.size f cd) (outer:=outer) I.ok.frames rfl zgM I.hidden m fun h2 t fl _ _ up=>?_
 refine⟨x,C,_,s1.heap,_,H1,rfl,I.os,I.bare,I.base,I.hok,fl,(Heap.UpToSlots.of_keeps m.keeps).trans up,m.new,fun b o e hb n=>?_,fun b o e=>zkh e,hE⟩;by_cases hs:b∈frs (zg4 (CXE P w) P w K mg base N qual scope f cd A outer s H E).stack
 ·rw [hst] at hs;rcases zoh.mp hs with z | z
  ·subst z;exact⟨znQ _,I.free⟩
  ·exact absurd z hb
 ·rw [PySem.W.hideAll_get _ e hs] at n;cases n
theorem Fun.okE {x qual:Str} {st:Stmt} {f:Addr} {fd:FuncData} {N ps:List Str} {k:Nat} {sp:Sp} (F:Fun K x qual st f fd) (S:zar N ps (zaf st)) (len:∀ vs H Q E,sp vs H Q E->vs.length=ps.length)
  (hbody:∀ (cdv:Value) (A:Around) (outer:List Env) (s:Shared) (H:Hp) (vs:List V) (Q:VK) (E:XK),zb7 k (A.deeper (envOfC qual (zaf st) s.heap.objs.size f cdv))->sp vs H Q E ->
   ∃ t,PSs (zg4 (CXE P w) P w K mg base N qual (zaf st) f cdv A outer s H E) (zap st) t/\t { nx:=fun _ H'=>Q .non H',rt:=Q } (start N vs) H):zbu P w K mg base (CXE P w) (k+1) f fd ps sp:=by
 obtain⟨oc,od,kV,doc,pm,an,cdv,ct,osl,rfl,lk,hcd⟩:=F.ex;exact zlC lk hcd S len fun A outer s H vs Q E hr hsp=>hbody cdv A outer s H vs Q E hr hsp
end
section
variable {X:Cx} {pins:List (Addr × Obj)} {σ:St} {H:Hp} {s:Shared} {T:St->Addr->Hp->Prop} {pn:List (Addr × Obj)} {x:Addr}
end
end
end L2
end
section
namespace L2
open PySem PySem.Spec PyProof.Rows
theorem PE.imp {X:Cx} {e:Expr} {t t':TE} (h:PE X e t) (i:∀ σ H Q,t' σ H Q->t σ H Q):PE X e t':=fun pins s σ H Q I q=>h pins s σ H Q I (i σ H Q q)
theorem OpR.imp {X:Cx} {f:Value->Value->Sem Value} {r r':R2} (h:OpR X f r) (i:∀ x y H Q,r' x y H Q->r x y H Q):OpR X f r':=fun pins s σ H x y v u Q I rx ry q=>h pins s σ H x y v u Q I rx ry (i x y H Q q)
theorem za9.imp {X:Cx} {f:Value} {r r':List V->Hp->VK->Prop} (h:za9 X f r) (i:∀ xs H Q,r' xs H Q->r xs H Q):za9 X f r':=fun pins s σ H xs us Q I rx q=>h pins s σ H xs us Q I rx (i xs H Q q)
@[irreducible] def ifB (b:Bool) (p q:Prop):Prop:=if b=true then p else q
theorem zdC (b:Bool) (p q:Prop):ifB b p q=(if b=true then p else q):=by unfold ifB;rfl
theorem ifB.mk {b:Bool} {p q:Prop} (h1:b=true->p) (h2:b=false->q):ifB b p q:=by
 rw [zdC];cases b with
 | true=>rw [zod rfl];exact h1 rfl
 | false=>rw [zoc zok];exact h2 rfl
theorem ifB.yes {b:Bool} {p q:Prop} (e:b=true) (h:p):ifB b p q:=ifB.mk (fun _=>h) fun z=>by rw [e] at z;cases z
theorem ifB.no {b:Bool} {p q:Prop} (e:b=false) (h:q):ifB b p q:=ifB.mk (fun z=>by rw [e] at z;cases z) fun _=>h
theorem ifB.dec {c:Prop} [Decidable c] {p q:Prop} (h1:c->p) (h2:¬ c->q):ifB (decide c) p q:=ifB.mk (fun z=>h1 (zoj z)) fun z=>h2 (of_decide_eq_false z)
def tV (i:Nat):TE:=fun σ H Q=>match σ[i]? with | some (some v)=>Q v H | _=>False
def bV (x:V) (Q:Bool->Prop):Prop:=match x with | .bl k=>Q k | _=>False
def cT (t:TE):TT:=fun σ H Q=>t σ H fun x H'=>bV x fun k=>Q k H'
def cI (f:Int->Int->V):R2:=fun x y H Q=>match x,y with | .int i,.int j=>Q (f i j) H | _,_=>False
def cL (C:Int->Int->Prop) (f:Int->Int->Int) (F:Int->Int->Int->Prop):R2:=fun x y H Q=>match x,y with | .int i,.int j=>C i j/\∀ m,m=f i j->F i j m->Q (.int m) H | _,_=>False
abbrev CMod (_ j:Int):Prop:=0<j
theorem cpow {i j:Int} (h:(decide (0<=j) && decide (j<=1000000) && decide (i.natAbs<2 ^ 64))=true):zmH i j:=by
 simp only [Bool.and_eq_true,decide_eq_true_eq] at h;exact⟨h.1.1,h.1.2,h.2⟩
abbrev zk9 (_ j:Int):Prop:=0<j/\j.natAbs.log2<9000
def ziu (neg:Bool):R2:=fun x y H Q=>match x,y with
 | .int i,.int j=>Q (.bl (if neg then !decide (i=j) else decide (i=j))) H
 | .str i,.str j=>Q (.bl (if neg then !decide (i=j) else decide (i=j))) H
 | .bl i,.bl j=>Q (.bl (if neg then !decide (i=j) else decide (i=j))) H
 | _,_=>False
section
variable {X:Cx} {a b:Expr} {ta tb:TE} {pos:Pos}
theorem zmu {i:Nat} {σ:St} {H:Hp} {Q:VK} (h:tV i σ H Q):tVar i σ H Q:=by
 unfold tV at h;split at h
 ·rename_i v e;exact⟨v,e,h⟩
 ·exact h.elim
theorem qv (i:Nat) {x:Str} {pos:Pos} (hN:X.N[i]?=some x:=by rfl) (hv:Vis X.env.scope x:=by first | exact Or.inl rfl | exact Or.inr (Or.inl rfl) | exact Or.inr (Or.inr rfl)) (hd:(x == ("__debug__":Str))=false:=by decide)
  (hcd:(x == ("__classdict__":Str))=false:=by decide):PE X (.Name x pos) (tV i):=(zl3 hN hv hd hcd).imp fun _ _ _ h=>zmu h
theorem zgm {f:Int->Int->V} {x y:V} {H:Hp} {Q:VK} (h:cI f x y H Q):rI0 f x y H Q:=by
 unfold cI at h;split at h
 ·exact⟨_,_,rfl,rfl,h⟩
 ·exact h.elim
theorem zbx:OpR X (binaryOp .Add) (cI fun i j=>.int (i+j)):=zlS.imp fun _ _ _ _=>zgm
theorem zeb:OpR X (binaryOp .Sub) (cI fun i j=>.int (i-j)):=zlY.imp fun _ _ _ _=>zgm
theorem ziv {C:Int->Int->Prop} {f:Int->Int->Int} {F:Int->Int->Int->Prop} (hF:∀ i j,C i j->F i j (f i j)) {x y:V} {H:Hp} {Q:VK} (h:cL C f F x y H Q):rI C (fun i j=>.int (f i j)) x y H Q:=by
 unfold cL at h;split at h
 ·exact⟨_,_,rfl,rfl,h.1,h.2 _ rfl (hF _ _ h.1)⟩
 ·exact h.elim
theorem zcw:OpR X (binaryOp .Mult) (cL zmE (fun i j=>i*j) fun _ _ _=>True):=zlW.imp fun _ _ _ _=>ziv fun _ _ _=>trivial
theorem zgF:OpR X (binaryOp .Mod) (cL CMod (fun i j=>i % j) fun _ j m=>0<=m/\m<j):=zlV.imp fun _ _ _ _ h=>ziv (fun i j hj=>⟨Int.emod_nonneg _ (by have:0<j:=hj;omega),Int.emod_lt_of_pos _ hj⟩) h
theorem zmc:OpR X (binaryOp .FloorDiv) (cL zk9 (fun i j=>i / j) fun _ _ _=>True):=by
 intro pins s σ H x y v u Q I rx ry h;obtain⟨i,j,rfl,rfl,⟨h0,h1⟩,q⟩:=ziv (fun _ _ _=>trivial) h;obtain⟨t,rfl⟩:=rx;obtain⟨t',rfl⟩:=ry;refine floordiv_int (by omega) ?_ (.inl (PyProof.noPylong_of_log2 h1));rw [Int.fdiv_eq_ediv_of_nonneg _ (by omega)];exact⟨.int _,H,I.tok _,⟨_,rfl⟩,q⟩
theorem zmi:OpR X (binaryOp .Pow) (cL zmH (fun i j=>i ^ j.toNat) fun _ _ _=>True):=zlX.imp fun _ _ _ _=>ziv fun _ _ _=>trivial
theorem zk8:OpR X (compareOp .Lt) (cI fun i j=>.bl (decide (i<j))):=znc.imp fun _ _ _ _=>zgm
theorem zi7:OpR X (compareOp .LtE) (cI fun i j=>.bl (decide (i<=j))):=znb.imp fun _ _ _ _=>zgm
theorem q_gt:OpR X (compareOp .Gt) (cI fun i j=>.bl (decide (j<i))):=zna.imp fun _ _ _ _=>zgm
theorem q_ge:OpR X (compareOp .GtE) (cI fun i j=>.bl (decide (j<=i))):=zm9.imp fun _ _ _ _=>zgm
theorem dI {i j:Int}:decide (i=j)=(i == j):=by rw [Bool.eq_iff_iff];simp
theorem dB {i j:Bool}:decide (i=j)=(i == j):=by rw [Bool.eq_iff_iff];simp
theorem dS {i j:Str}:decide (i=j)=(i == j):=by rw [Bool.eq_iff_iff];simp
theorem zhp {p q:Prop} (h:ifB true p q):p:=by rw [zdC,zod rfl] at h;exact h
theorem zho {p q:Prop} (h:ifB false p q):q:=by rw [zdC,zoc zok] at h;exact h
theorem zgQ:OpR X (compareOp .Eq) (ziu false):=by
 intro pins s σ H x y v u Q I rx ry h;unfold ziu at h;split at h
 ·obtain⟨t,rfl⟩:=rx;obtain⟨t',rfl⟩:=ry;exact SeqAt.RcAt.int_int _ t _ t' _ _ _ _ (zc8 I h (by rw [zoc (by decide)];exact dI))
 ·obtain⟨t,rfl⟩:=rx;obtain⟨t',rfl⟩:=ry;exact SeqAt.RcAt.str_str _ t _ t' _ _ _ _ (zc8 I h (by rw [zoc (by decide)];exact dS))
 ·cases rx;cases ry;exact SeqAt.RcAt.bool_bool _ _ _ _ _ _ (zc8 I h (by rw [zoc (by decide)];exact dB))
 ·exact h.elim
theorem znk:OpR X (compareOp .NotEq) (ziu true):=by
 intro pins s σ H x y v u Q I rx ry h;unfold ziu at h;split at h
 ·obtain⟨t,rfl⟩:=rx;obtain⟨t',rfl⟩:=ry;exact SeqAt.RcNeAt.int_int _ t _ t' _ _ _ _ (zc8 I h (by rw [zod rfl,dI]))
 ·obtain⟨t,rfl⟩:=rx;obtain⟨t',rfl⟩:=ry;exact SeqAt.RcNeAt.str_str _ t _ t' _ _ _ _ (zc8 I h (by rw [zod rfl,dS]))
 ·cases rx;cases ry;exact SeqAt.RcNeAt.bool_bool _ _ _ _ _ _ (zc8 I h (by rw [zod rfl,dB]))
 ·exact h.elim
def cNeg:V->Hp->VK->Prop:=fun x H Q=>match x with | .int i=>Q (.int (-i)) H | _=>False
theorem zh3:UnR X (unaryOp .USub) cNeg:=by
 intro pins s σ H x v Q I rx h;refine zmy pins s σ H x v Q I rx ?_;unfold cNeg at h;split at h
 ·exact⟨_,rfl,h⟩
 ·exact h.elim
theorem ze7 {x:V} {Q:Bool->Prop} (h:bV x Q):∃ k,x=.bl k/\Q k:=by
 cases x with
 | bl k=>exact⟨k,rfl,h⟩
 | _=>exact False.elim h
theorem zl8 {e:Expr} {t:TE} (h:PE X e t) (he:∀ whole,isTrue e X.env whole=(do let v ← whole;standAt e.pos;holding [v] (truthy v)):=by intro _;rfl):PT X e (cT t):=by
 intro pins s σ H Q I hw;rw [he];refine wpAny_bind (thn (h pins s σ H _ I hw) fun v s1 ⟨x,H1,I1,r1,q1⟩=>wpAny_bind (wpAny_standAt (wpAny_holding ?_)));obtain⟨k,rfl,q⟩:=ze7 q1;cases r1;exact wpAny_truthy_bool ⟨H1,I1,q⟩
theorem zcv {op:CmpOp} {r:R2} (ho:OpR X (compareOp op) r) (ha:PE X a ta) (hb:PE X b tb) (hm:behindInMarks op b=false:=by first | exact zbb _ | rfl):PT X (.Compare a [op] [b] pos) (cT (tOp r ta tb)):=by
 intro pins s σ H Q I hw;refine wpAny_isTrue_Compare1 (thn (ha pins s σ H _ I hw) fun v s1 ⟨x,H1,I1,r1,q1⟩=>thn (hb pins s1 σ H1 _ I1 q1) fun u s2 ⟨y,H2,I2,r2,q2⟩ =>
  thn (ho pins s2 σ H2 x y v u _ I2 r1 r2 q2) fun c s3 ⟨z,H3,I3,r3,q3⟩=>?_) hm
 obtain⟨k,rfl,q⟩:=ze7 q3;cases r3;exact wpAny_truthy_bool ⟨H3,I3,q⟩
def zjs (r r':R2) (ta tb tc:TE):TE:=fun σ H Q=>ta σ H fun x H1=>tb σ H1 fun y H2=>r x y H2 fun z H3=>bV z fun k=>ifB k (tc σ H3 fun u H4=>r' y u H4 Q) (Q (.bl false) H3)
theorem zl0 {op op':CmpOp} {r r':R2} {c:Expr} {tc:TE} (ho:OpR X (compareOp op) r) (ho':OpR X (compareOp op') r') (ha:PE X a ta) (hb:PE X b tb) (hc:PE X c tc)
  (hm:lastMarks [op,op'] [b,c]=false:=by with_unfolding_all rfl):PE X (.Compare a [op,op'] [b,c] pos) (zjs r r' ta tb tc):=by
 intro pins s σ H Q I h;refine Compare_chain (thn (ha pins s σ H _ I h) fun v s1 ⟨x,H1,I1,r1,q1⟩=>chain_link (thn (hb pins s1 σ H1 _ I1 q1) fun u s2 ⟨y,H2,I2,r2,q2⟩ =>
  thn (ho pins s2 σ H2 x y v u _ I2 r1 r2 q2) fun d s3 ⟨z,H3,I3,r3,q3⟩=>?_)) hm
 obtain⟨k,rfl,q⟩:=ze7 q3;cases r3;refine wpAny_truthy_bool ?_;cases k with
 | false=>exact ite_ff ⟨.bl false,H3,I3,rfl,zho q⟩
 | true=>exact ite_tt (chain_last (thn (hc pins s3 σ H3 _ I3 (zhp q)) fun w' s4 ⟨z',H4,I4,r4,q4⟩=>ho' pins s4 σ H4 y z' u w' Q I4 r2 r4 q4))
theorem zkI {op op':CmpOp} {r r':R2} {c:Expr} {tc:TE} (ho:OpR X (compareOp op) r) (ho':OpR X (compareOp op') r') (ha:PE X a ta) (hb:PE X b tb) (hc:PE X c tc)
  (hm:lastMarks [op,op'] [b,c]=false:=by with_unfolding_all rfl):PT X (.Compare a [op,op'] [b,c] pos) (cT (zjs r r' ta tb tc)):=by
 intro pins s σ H Q I h;refine isTrue_chain (thn (ha pins s σ H _ I h) fun v s1 ⟨x,H1,I1,r1,q1⟩=>test_link (thn (hb pins s1 σ H1 _ I1 q1) fun u s2 ⟨y,H2,I2,r2,q2⟩ =>
  thn (ho pins s2 σ H2 x y v u _ I2 r1 r2 q2) fun d s3 ⟨z,H3,I3,r3,q3⟩=>?_)) hm
 obtain⟨k,rfl,q⟩:=ze7 q3;cases r3;refine wpAny_truthy_bool ?_;cases k with
 | false=>exact ite_ff ⟨H3,I3,zho q⟩
 | true =>
  refine ite_tt (test_last (thn (hc pins s3 σ H3 _ I3 (zhp q)) fun w' s4 ⟨z',H4,I4,r4,q4⟩=>thn (ho' pins s4 σ H4 y z' u w' _ I4 r2 r4 q4) fun d' s5 ⟨z2,H5,I5,r5,q5⟩=>?_));obtain⟨k2,rfl,q6⟩:=ze7 q5;cases r5;exact wpAny_truthy_bool ⟨H5,I5,q6⟩
def cIf (c:TT) (t u:TS):TS:=fun D σ H=>c σ H fun b H1=>ifB b (t D σ H1) (u D σ H1)
theorem zcP {c:Expr} {a b:List Stmt} {tc:TT} {t u:TS} {pos:Pos} (hc:PT X c tc) (ha:PSs X a t) (hb:PSs X b u):PS X (.If c a b pos) (cIf tc t u):=by
 intro pins s σ H D I h;refine wpAny_If (thn (hc pins s σ H _ I h) fun d s1 ⟨H1,I1,q1⟩=>?_);cases d with
 | true=>exact ha pins s1 σ H1 D I1 (zhp q1)
 | false=>exact hb pins s1 σ H1 D I1 (zho q1)
def cAnd (t u:TT):TT:=fun σ H Q=>t σ H fun c H1=>ifB c (u σ H1 Q) (Q false H1)
def cOr (t u:TT):TT:=fun σ H Q=>t σ H fun c H1=>ifB c (Q true H1) (u σ H1 Q)
section
variable {rest:List Expr} {tA tB:TT}
theorem zfu (ha:PT X a tA):PW X (.BoolOp .And [a] pos) tA:=zkL ha
theorem zga (ha:PT X a tA):PW X (.BoolOp .Or [a] pos) tA:=zma ha
theorem zfq (ha:PT X a tA) (hb:PW X (.BoolOp .And (b::rest) pos) tB):PW X (.BoolOp .And (a::b::rest) pos) (cAnd tA tB):=by
 intro whole pins s σ H Q I h;exact zl9 (X:=X) (tA:=fun σ H Q=>tA σ H fun c H1=>Q c H1) (tB':=tB) ha hb whole pins s σ H Q I (by
  have e:(fun (c:Bool) (H1:Hp)=>if c=true then tB σ H1 Q else Q false H1)=fun c H1=>ifB c (tB σ H1 Q) (Q false H1):=by funext c H1;rw [zdC]
  show tA σ H (fun (c:Bool) (H1:Hp)=>if c=true then tB σ H1 Q else Q false H1);rw [e];exact h)
theorem zf7 (ha:PT X a tA) (hb:PW X (.BoolOp .Or (b::rest) pos) tB):PW X (.BoolOp .Or (a::b::rest) pos) (cOr tA tB):=by
 intro whole pins s σ H Q I h;exact zne (X:=X) (tA:=fun σ H Q=>tA σ H fun c H1=>Q c H1) (tB':=tB) ha hb whole pins s σ H Q I (by
  have e:(fun (c:Bool) (H1:Hp)=>if c=true then Q true H1 else tB σ H1 Q)=fun c H1=>ifB c (Q true H1) (tB σ H1 Q):=by funext c H1;rw [zdC]
  show tA σ H (fun (c:Bool) (H1:Hp)=>if c=true then Q true H1 else tB σ H1 Q);rw [e];exact h)
def zmQ (ta tb:TE):TE:=fun σ H Q=>ta σ H fun x H1=>bV x fun c=>ifB c (tb σ H1 Q) (Q (.bl false) H1)
def cOrV (ta tb:TE):TE:=fun σ H Q=>ta σ H fun x H1=>bV x fun c=>ifB c (Q (.bl true) H1) (tb σ H1 Q)
theorem zd7 (ha:PE X a ta) (hb:PE X (.BoolOp .And (b::rest) pos) tb):PE X (.BoolOp .And (a::b::rest) pos) (zmQ ta tb):=by
 intro pins s σ H Q I h;refine BoolOp_and (thn (ha pins s σ H _ I h) fun v s1 ⟨x,H1,I1,r1,q1⟩=>?_);obtain⟨c,rfl,q1⟩:=ze7 q1;cases r1;refine wpAny_truthy_bool ?_;cases c with
 | true=>exact hb pins s1 σ H1 Q I1 (zhp q1)
 | false=>exact⟨.bl false,H1,I1,rfl,zho q1⟩
theorem zl2 (ha:PE X a ta) (hb:PE X (.BoolOp .Or (b::rest) pos) tb):PE X (.BoolOp .Or (a::b::rest) pos) (cOrV ta tb):=by
 intro pins s σ H Q I h;refine BoolOp_or (thn (ha pins s σ H _ I h) fun v s1 ⟨x,H1,I1,r1,q1⟩=>?_);obtain⟨c,rfl,q1⟩:=ze7 q1;cases r1;refine wpAny_truthy_bool ?_;cases c with
 | false=>exact hb pins s1 σ H1 Q I1 (zho q1)
 | true=>exact⟨.bl true,H1,I1,rfl,zhp q1⟩
end
def cIfE (t:TT) (ta tb:TE):TE:=fun σ H Q=>t σ H fun c H1=>ifB c (ta σ H1 Q) (tb σ H1 Q)
theorem zl1 {c:Expr} {tc:TT} (hc:PT X c tc) (ha:PE X a ta) (hb:PE X b tb):PE X (.IfExp c a b pos) (cIfE tc ta tb):=by
 intro pins s σ H Q I h;refine zi1 hc ha hb pins s σ H Q I ?_;have e:(fun (c:Bool) (H1:Hp)=>if c=true then ta σ H1 Q else tb σ H1 Q)=fun c H1=>ifB c (ta σ H1 Q) (tb σ H1 Q):=by funext c H1;rw [zdC]
 show tc σ H (fun (c:Bool) (H1:Hp)=>if c=true then ta σ H1 Q else tb σ H1 Q);rw [e];exact h
end
end L2
end
section
namespace L2
open PySem PySem.Spec PyProof.Rows
theorem zby:bootBuiltins "len"=some (.builtin "len"):=by decide +kernel
theorem zjp:bootBuiltins "abs"=some (.builtin "abs"):=by decide +kernel
theorem zjq:bootBuiltins "all"=some (.builtin "all"):=by decide +kernel
theorem zll:bootBuiltins "sum"=some (.builtin "sum"):=by decide +kernel
theorem zfH:bootBuiltins "min"=some (.builtin "min"):=by decide +kernel
theorem zgZ:bootBuiltins "max"=some (.builtin "max"):=by decide +kernel
theorem zey:bootBuiltins "sorted"=some (.builtin "sorted"):=by decide +kernel
theorem zgY:bootBuiltins "list"=some (.type "list"):=by decide +kernel
theorem zjr:bootBuiltins "int"=some (.type "int"):=by decide +kernel
theorem zex:bootBuiltins "enumerate"=some (.type "enumerate"):=by decide +kernel
theorem zlI {H:Hp} {a p:Addr} {o u:HO} (h:H a=some o) (n:H p=none):upd H p u a=some o:=by rw [zam (zaj h n)];exact h
section
variable {X:Cx} {pins:List (Addr × Obj)} {σ:St} {H:Hp} {s:Shared}
theorem Inv.turnedL {h':Heap} {t':Nat} {fp:List Addr} (I:Inv X pins σ H s) (k:∀ b o,b ∉ fp->s.heap.get? b=some o->h'.get? b=some o) (hf:∀ b∈fp,zin X pins H b):Inv X pins σ H { s with heap:=h',toks:=t' }:=by
 have nit:∀ b u,H b=some u->b ∉ fp:=fun b u e z=>by rw [(hf b z).1] at e;cases e
 refine I.step (g':=s.gens) (d':=s.drawn) (ch:=fp) (fun b hb=>?_) (fun b o _ _ hc e _=>k b o hc e) (fun b o _ _ hc e _=>⟨o.slots,k b o hc e⟩) (fun _ _ _ _ n=>n)
  (fun b o hc e=>⟨o,k b o hc e⟩) (fun _ _ e=>e) (fun _ _ _ e=>e) (fun b ps e=>⟨#[],by rw [e];simp⟩) (fun m hm=>?_) (fun b u e=>?_) I.bare
 ·obtain⟨f0,f1,f2,f3,f4,f5⟩:=hf b hb;exact⟨f3,f1,f4,f5⟩
 ·obtain⟨o,es,ep,ho,r⟩:=hm;exact⟨o,es,ep,k _ o (fun z=>(hf _ z).2.1 rfl) ho,r⟩
 ·refine (I.hok b u e).stay (fun c v hc q=>k c v ?_ q) (fun _ q=>q) fun _ _ q=>q
  rcases hc with z | z
  ·rw [z];exact nit b u e
  ·exact nit c _ z
theorem Inv.trackNew {s':Shared} {p:Addr} {o:HO} (I:Inv X pins σ H s) (I':Inv X pins σ H s') (hp:s.heap.objs.size<=p) (new:zaV X.prog X.w (upd H p o) s'.heap p o):H p=none/\Inv X pins σ (upd H p o) s':=by
 have hn:=I.hok.fresh hp;refine⟨hn,I'.track (Heap.get?_none_of_le (znP I.sz hp)) hn (Ne.symm (zoi (znR I.lt hp))) (fun y c e z=>?_) (fun q hq z=>?_) new⟩
 ·obtain⟨v,o,ho,_⟩:=I.cell y c e;exact absurd (znR (zn0 ho) (by rw [z];exact hp)) (Nat.lt_irrefl _)
 ·exact absurd (znR (zn0 (I.pin q hq).1) (by rw [z];exact hp)) (Nat.lt_irrefl _)
end
def Ite (K:PySem.W.Frag) (a:Addr):It where
 go:=fun i H=>∃ xs x,SqL K H a xs/\xs[i]?=some x
 yld:=fun i H v H'=>∃ p x,H p=none/\v=.ref p/\H'=upd H p (.tup [.int i,x])/\∀ ys,SqL K H a ys->ys[i]?=some x
 stop:=fun i H=>∃ xs,SqL K H a xs/\xs.length<=i
theorem zif {P:Program} {w:World} {K:PySem.W.Frag} {elts:List Expr} {x1:Nat} {tp:Pos} (a e it:Addr) (hei:e≠it):zlg P w K (.Tuple elts x1 tp) (Ite K a) [e,it] e (fun i h=>(∃ old,IsEnum h e it i old)/\h.IsListIter it a i) where
 mem:=by simp
 obj:=fun i h st b hb=>by
  obtain⟨⟨old,he⟩,o,ho,hc,hd⟩:=st;rcases zoh.mp hb with z | z
  ·subst z;exact⟨_,he,fun v z=>by
    have z':Data.fields _=Data.cell v:=z;cases z'⟩
  ·have z:b=it:=by simpa using z
   subst z;exact⟨o,ho,fun v z=>by rw [hd] at z;cases z⟩
 keep:=fun i h h' st k=>⟨let ⟨old,he⟩:=st.1;⟨old,k e (by simp) _ he⟩,st.2.at fun o q=>k it (by simp) o q⟩
 item:=by
  intro X hP hw hK hc i pins s σ H E I hf st hg;subst hP hw hK;obtain⟨xs,x,hq,hx⟩:=hg;obtain⟨its,rv,p,hz⟩:=I.list hq;obtain⟨u,hu,ru⟩:=rv.get hx;obtain⟨⟨old,he⟩,hit⟩:=st;refine wpAny_pyNext_enum_item he hit p.isList (x:=u) (by simpa using hu) hei fun h1 he1 hit1 ht1 hz1 hk1=>⟨_,rfl,?_⟩
  refine wpAny_letOwnedTupleGo_enum he1 fun h2 he2 hs2=>?_
  have hs2:Heap.SameBut e h1 h2:=hs2;have hlt:e<s.heap.objs.size:=zn0 he;have hk2:∀ b o,b ∉ [e,it]->s.heap.get? b=some o->h2.get? b=some o:=fun b o hb q=>by
   simp only [zoh,List.not_mem_nil,or_false,not_or] at hb;exact hs2.extBut b o hb.1 (hk1 b o hb.1 hb.2 q)
  have I2:Inv X pins σ H { s with heap:=h2,toks:=s.toks+1 }:=I.turnedL hk2 hf;have ht2:h2.get? s.heap.objs.size=some { cls:=.type "tuple",data:=.seq #[.int i s.toks,u] }:=hs2.extBut _ _ (Nat.ne_of_gt hlt) ht1;obtain⟨hn,I3⟩:=I.trackNew (o:=.tup [.int i,x]) I2 (znQ _) ⟨by show 2<=sizeLine;decide,[.int i s.toks,u],.cons ⟨_,rfl⟩ (.cons ru .nil),⟨_,ht2,rfl,_,rfl,rfl⟩⟩;refine⟨.ref s.heap.objs.size,_,I3,rfl,⟨_,x,hn,rfl,rfl,fun ys hy=>by rw [I.list_inj hy hq];exact hx⟩,⟨⟨u,?_⟩,?_⟩,fun b hb=>?_⟩
  ·have:((i+1:Nat):Int)=(i:Int)+1:=by push_cast;rfl
   rw [this];exact he2
  ·exact hit1.extBut hs2.extBut (Ne.symm hei)
  ·obtain⟨o,ho,_⟩:=id hit;have hb':b<s.heap.objs.size:=by
    rcases zoh.mp hb with z | z
    ·rw [z];exact hlt
    ·have z:b=it:=by simpa using z
     obtain⟨oi,hoi,_⟩:=id hit;rw [z];exact zn0 hoi
   rw [zam (zoi hb')];exact (hf b hb).1
 done:=by
  intro X hP hw hK hc i pins s σ H E I hf st hg;subst hP hw hK;obtain⟨xs,hq,hx⟩:=hg;obtain⟨its,rv,p,hz⟩:=I.list hq;obtain⟨⟨old,he⟩,hit⟩:=st;have hl:=rv.length;refine wpAny_pyNext_enum_end (I.ok.hd hc) he hit p.isList (by simp;omega) fun h' eb=>⟨rfl,I.turnedL (t':=s.toks) (fun b o hb q=>eb b o (fun z=>hb (by simp [z])) q) hf⟩
 self:=fun _ _ _ _ _ st h=>by obtain⟨⟨old,he⟩,_⟩:=st;exact wpAny_pyIter_enum he h
section
variable {X:Cx}
def zm6 (K:PySem.W.Frag) (ta:TA):TI:=fun σ H R=>ta σ H fun vs H1=>match vs with | [.ref a]=>(∃ xs,SqL K H1 a xs)/\R (Ite K a) H1 | _=>False
theorem zkE {a:Expr} {ta:TA} {p pos:Pos} {elts:List Expr} {x1:Nat} {tp:Pos} (hg:Gl X "enumerate") (hm:X.mg "enumerate"=none) (ha:PA X [a] ta) (hs:starEach [a] X.env=[(false,eval a X.env)]:=by rfl):PI X (.Tuple elts x1 tp) (.Call (.Name "enumerate" p) [a] [] pos) (zm6 X.K ta):=by
 intro pins s σ H R I h;refine Call_ (zdd I hg hm zex (PyProof.Rows.callWith_type1 (thn (ha pos pins s σ H _ I h) fun us s1 ⟨vs,H1,I1,r1,q1⟩=>?_) hs rfl));obtain⟨l,rfl,hq,q⟩:∃ l,vs=[.ref l]/\(∃ xs,SqL X.K H1 l xs)/\R (Ite X.K l) H1:=by
  dsimp only at q1;split at q1
  ·exact⟨_,rfl,q1⟩
  ·exact q1.elim
 obtain⟨xs,hq⟩:=hq;cases r1 with
 | cons r rr =>
  cases rr;cases r;obtain⟨its,rv,pl,hz⟩:=I1.list hq;refine call_enumerate_list pl.isList fun h' he hit hsz hk=>?_
  refine wpAny_pyIter_enum he ?_;have I2:Inv X pins σ H1 { s1 with heap:=h' }:=I1.kept (t':=s1.toks) hk;refine⟨s1.heap.objs.size+1,[s1.heap.objs.size+1,s1.heap.objs.size],_,_,H1,rfl,I2,zif l _ _ (Nat.succ_ne_self _),⟨⟨_,he⟩,hit⟩,fun b hb=>?_,q⟩;rcases zoh.mp hb with z | z
  ·subst z;exact I1.fpOk (Nat.le_succ _) (I1.hok.fresh (Nat.le_succ _))
  ·have z:b=s1.heap.objs.size:=by simpa using z
   subst z;exact I1.fpOk (znQ _) (I1.hok.fresh (znQ _))
end
theorem ziC {K:PySem.W.Frag} {a:Addr} {xs:List V} {g:TG} {tb:TS} {D:zir} {σ:St} {H:Hp} (Pv:Nat->St->Hp->Prop) (h0:Pv 0 σ H) (hl:∀ i σ H,i<=xs.length->Pv i σ H->SqL K H a xs)
  (hs:∀ i x σ H p,xs[i]?=some x->Pv i σ H->H p=none->g (.ref p) σ (upd H p (.tup [.int i,x])) fun σ2 H2=>tb { D with nx:=Pv (i+1),ct:=Pv (i+1),bk:=D.nx } σ2 H2) (hd:∀ σ H,Pv xs.length σ H->D.nx σ H) :
  ∃ W:Nat->Nat->St->Hp->Prop,(∃ m,W 0 m σ H)/\∀ i m σ H,W i m σ H ->
   ((Ite K a).stop i H/\D.nx σ H)\/((Ite K a).go i H/\∃ N:St->Hp->Prop,(∀ σ' H',N σ' H'->∃ m',m'<m/\W (i+1) m' σ' H')/\∀ x H',(Ite K a).yld i H x H'->g x σ H' fun σ2 H2=>tb { D with nx:=N,ct:=N,bk:=D.nx } σ2 H2):=by
 refine⟨fun i m σ H=>m=xs.length-i/\i<=xs.length/\Pv i σ H,⟨xs.length,by simp,Nat.zero_le _,h0⟩,?_⟩;rintro i m σ H ⟨rfl,hi,p⟩;have q:=hl i σ H hi p;by_cases hlt:i<xs.length
 ·refine .inr ⟨⟨xs,xs[i],q,by simp [hlt]⟩,Pv (i+1),fun σ' H' p'=>⟨xs.length-(i+1),by omega,rfl,hlt,p'⟩,fun x H' y=>?_⟩;obtain⟨pp,z,hn,rfl,rfl,hy⟩:=y;exact hs i z σ H pp (hy xs q) p hn
 ·have e:i=xs.length:=by omega
  subst e;exact .inl ⟨⟨xs,q,znQ _⟩,hd σ H p⟩
section
variable {X:Cx}
end
end L2
end
section
namespace L2
open PySem PySem.Spec PyProof.Rows
theorem IxR.imp {X:Cx} {r r':R2} (h:IxR X r) (i:∀ x y H Q,r' x y H Q->r x y H Q):IxR X r':=fun a b pins s σ H x y v u Q I rx ry q e=>h a b pins s σ H x y v u Q I rx ry (i x y H Q q) e
theorem MtR.imp {X:Cx} {id:String} {r r':V->List V->Hp->VK->Prop} (h:MtR X id r) (i:∀ x xs H Q,r' x xs H Q->r x xs H Q):MtR X id r':=fun pins s σ H x xs v us Q I rx rv q=>h pins s σ H x xs v us Q I rx rv (i x xs H Q q)
theorem zk7.imp {X:Cx} {t t':zlf} (h:zk7 X t) (i:∀ o j v H Q,t' o j v H Q->t o j v H Q):zk7 X t':=fun pins s σ H o j v ov iv u Q I ro ri rv q=>h pins s σ H o j v ov iv u Q I ro ri rv (i o j v H Q q)
theorem SlR.imp {X:Cx} {r r':V->Option Int->Option Int->Hp->VK->Prop} (h:SlR X r) (i:∀ x l u H Q,r' x l u H Q->r x l u H Q):SlR X r':=fun pins s σ H x v vl vu lo hi sl Q I rx hs pl pu q=>h pins s σ H x v vl vu lo hi sl Q I rx hs pl pu (i _ _ _ _ _ q)
theorem zai {H H':Hp} {p:Addr} {o:HO} (n:H p=none) (e:upd H p o=H'):Sub H H'/\H' p=some o:=by subst e;exact⟨Sub.new n,zae⟩
def CV (mg:Str->Option Value) (x:Str) (v:V):Prop:=∃ u,mg x=some u/\zaL v u
section
variable {X:Cx} {a b:Expr} {ta tb:TE} {pos:Pos}
theorem zky {x:Str} {v:V} {pos:Pos} (hg:Gl X x) (h:CV X.mg x v) (hd:(x == ("__debug__":Str))=false:=by decide):PE X (.Name x pos) (tC v):=by
 obtain⟨u,h1,h2⟩:=h;exact zkz hg h1 h2 hd
def zmR (K:PySem.W.Frag):R2:=fun x y H Q=>match x,y with | .ref p,.int i=>∃ xs v,SqL K H p xs/\atI xs i=some v/\Q v H | _,_=>False
def zmS (K:PySem.W.Frag):R2:=fun x y H Q=>match x,y with | .ref p,.int i=>∃ xs v,SqT K H p xs/\atI xs i=some v/\Q v H | _,_=>False
theorem znh:IxR X (zmR X.K):=zki.imp fun x y H Q h=>by
 unfold zmR at h;split at h
 ·obtain⟨xs,v,h1,h2,h3⟩:=h;exact⟨_,xs,_,v,rfl,rfl,h1,h2,h3⟩
 ·exact h.elim
theorem zni:IxR X (zmS X.K):=zlH.imp fun x y H Q h=>by
 unfold zmS at h;split at h
 ·obtain⟨xs,v,h1,h2,h3⟩:=h;exact⟨_,xs,_,v,rfl,rfl,h1,h2,h3⟩
 ·exact h.elim
def zj1:zlf:=fun o i v H Q=>match o,i with | .ref p,.int k=>∃ xs j,H p=some (.lst xs)/\ixN xs.length k=some j/\Q (upd H p (.lst (xs.set j v))) | _,_=>False
theorem zcH:zk7 X zj1:=zje.imp fun o i v H Q h=>by
 unfold zj1 at h;split at h
 ·obtain⟨xs,j,h1,h2,h3⟩:=h;exact⟨_,xs,_,j,rfl,rfl,h1,h2,h3⟩
 ·exact h.elim
def cCat:R2:=fun x y H Q=>match x,y with | .ref l,.ref b=>∃ xs zs,H l=some (.lst xs)/\H b=some (.lst zs)/\xs.length+zs.length<=sizeLine/\∀ p,H p=none->Q (.ref p) (upd H p (.lst (xs++zs))) | _,_=>False
theorem zkM:OpR X (binaryOp .Add) cCat:=zlT.imp fun x y H Q h=>by
 unfold cCat at h;split at h
 ·obtain⟨xs,zs,h⟩:=h;exact⟨_,_,xs,zs,rfl,rfl,h⟩
 ·exact h.elim
def zmX (K:PySem.W.Frag):V->Option Int->Option Int->Hp->VK->Prop:=fun x lo hi H Q=>match x with | .ref a=>∃ xs,SqL K H a xs/\∀ p,H p=none->Q (.ref p) (upd H p (.lst (zgp xs lo hi))) | _=>False
theorem znl:SlR X (zmX X.K):=zkW.imp fun x lo hi H Q h=>by
 unfold zmX at h;split at h
 ·obtain⟨xs,h⟩:=h;exact⟨_,xs,rfl,h⟩
 ·exact h.elim
def zmT (K:PySem.W.Frag):List V->Hp->VK->Prop:=fun xs H Q=>match xs with | [.ref p]=>∃ ys,(SqL K H p ys\/SqT K H p ys)/\Q (.int ys.length) H | _=>False
theorem znj:za9 X (.builtin "len") (zmT X.K):=zez.imp fun xs H Q h=>by
 unfold zmT at h;split at h
 ·obtain⟨ys,h⟩:=h;exact⟨_,ys,rfl,h⟩
 ·exact h.elim
def cAbs:List V->Hp->VK->Prop:=fun xs H Q=>match xs with | [.int i]=>∀ m,m=(if i<0 then -i else i)->Q (.int m) H | _=>False
theorem zmb:za9 X (.builtin "abs") cAbs:=ziw.imp fun xs H Q h=>by
 unfold cAbs at h;split at h
 ·exact⟨_,rfl,h _ rfl⟩
 ·exact h.elim
def cApp:V->List V->Hp->VK->Prop:=fun x vs H Q=>match x,vs with | .ref l,[y]=>∃ xs,H l=some (.lst xs)/\xs.length<sizeLine/\Q .non (upd H l (.lst (xs++[y]))) | _,_=>False
theorem zfr:MtR X "list.append" cApp:=MtR.imp (r:=zh5) zhG fun x vs H Q h=>by
 unfold cApp at h;split at h
 ·obtain⟨xs,h⟩:=h;exact⟨_,xs,_,rfl,rfl,h⟩
 ·exact h.elim
def cIn (K:PySem.W.Frag) (neg:Bool):R2:=fun x y H Q=>match y with | .ref p=>∃ xs,(SqL K H p xs\/SqT K H p xs)/\zds x=true/\xs.all zds=true/\Q (.bl (if neg then !inV x xs else inV x xs)) H | _=>False
theorem q_in:OpR X (compareOp .In) (cIn X.K false):=zhN.imp fun x y H Q h=>by
 unfold cIn at h;split at h
 ·obtain⟨xs,h⟩:=h;exact⟨_,xs,rfl,h⟩
 ·exact h.elim
def zlo (K:PySem.W.Frag) (tl:TE):TI:=fun σ H R=>tl σ H fun x H1=>match x with | .ref a=>(∃ xs,SqL K H1 a xs)/\R (Itl K a) H1 | _=>False
theorem zkP {tg l:Expr} {tl:TE} (hl:PE X l tl):PI X tg l (zlo X.K tl):=by
 intro pins s σ H R I h;refine thn (hl pins s σ H _ I h) fun v s1 ⟨x,H1,I1,r1,q1⟩=>?_
 obtain⟨a,rfl,⟨xs,hq⟩,q⟩:∃ a,x=.ref a/\(∃ xs,SqL X.K H1 a xs)/\R (Itl X.K a) H1:=by
  dsimp only at q1;split at q1
  ·exact⟨_,rfl,q1⟩
  ·exact q1.elim
 cases r1;obtain⟨its,rv,p,hz⟩:=I1.list hq;refine wpAny_pyIter_list p.isList ?_;refine⟨s1.heap.objs.size,[s1.heap.objs.size],_,_,H1,rfl,I1.kept (t':=s1.toks) fun b o e=>znN _ e,zig a _,⟨_,zn9 _ rfl,rfl,rfl⟩,fun b hb=>?_,q⟩;have e:b=s1.heap.objs.size:=by simpa using hb
 subst e;exact I1.fpOk (znQ _) (I1.hok.fresh (znQ _))
def zmV (ta:TA):TI:=fun σ H R=>ta σ H fun vs H1=>match vs with | [.int j]=>(-(2 ^ 62)<=j/\j<2 ^ 62)/\R (Itr 0 j.toNat) H1 | _=>False
theorem zbs {tg a:Expr} {ta:TA} {p pos:Pos} (hg:Gl X "range") (hm:X.mg "range"=none) (ha:PA X [a] ta) (hs:starEach [a] X.env=[(false,eval a X.env)]:=by rfl):PI X tg (.Call (.Name "range" p) [a] [] pos) (zmV ta):=by
 intro pins s σ H R I h;refine Call_ (zdd I hg hm boot_range (PyProof.Rows.callWith_type1 (thn (ha pos pins s σ H _ I h) fun us s1 ⟨vs,H1,I1,r1,q1⟩=>?_) hs rfl));obtain⟨j,rfl,⟨q1,q2⟩,q⟩:∃ j,vs=[.int j]/\(-(2 ^ 62)<=j/\j<2 ^ 62)/\R (Itr 0 j.toNat) H1:=by
  dsimp only at q1;split at q1
  ·exact⟨_,rfl,q1⟩
  ·exact q1.elim
 cases r1 with
 | cons r rr =>
  cases rr;obtain⟨t,rfl⟩:=r;exact call_range_1 (zgb I1 (by omega) (by omega) q1 q2 (by simpa using q))
end
section
variable {X:Cx}
def zlt:TGs:=fun vs σ H Q=>match vs with | []=>Q σ H | _=>False
def zjv (t:TG) (u:TGs):TGs:=fun vs σ H Q=>match vs with | v::r=>t v σ H fun σ' H'=>u r σ' H' Q | []=>False
theorem za7:PGs X [] zlt:=fun pins s σ H vs us Q I r h=>zkC pins s σ H vs us Q I r (by
 unfold zlt at h;split at h
 ·exact⟨rfl,h⟩
 ·exact h.elim)
theorem zal {e:Expr} {es:List Expr} {t:TG} {u:TGs} (h1:PG X e t) (h2:PGs X es u)
  (hs:(assignEach (e::es) X.env).map (·.2)=assign e X.env::(assignEach es X.env).map (·.2):=by rfl):PGs X (e::es) (zjv t u):=fun pins s σ H vs us Q I r h=>zi3 h1 h2 hs pins s σ H vs us Q I r (by
 unfold zjv at h;split at h
 ·exact⟨_,_,rfl,h⟩
 ·exact h.elim)
def zj3 (K:PySem.W.Frag) (n:Nat) (t:TGs):TG:=fun v σ H Q=>match v with | .ref a=>∃ xs,SqT K H a xs/\xs.length=n/\t xs σ H Q | _=>False
theorem zml {es:List Expr} {k:Nat} {t:TGs} {n:Nat} {pos:Pos} (hc:X.calm=true) (h:PGs X es t)
  (hn:(assignEach es X.env).length=n:=by rfl) (hst:(assignEach es X.env).findIdx? (·.1)=none:=by rfl):PG X (.Tuple es k pos) (zj3 X.K n t):=fun pins s σ H v u Q I r hw=>zl4 hc h hn hst pins s σ H v u Q I r (by
 unfold zj3 at hw;split at hw
 ·obtain⟨xs,h⟩:=hw;exact⟨_,xs,rfl,h⟩
 ·exact hw.elim)
def zmU (t:TE):TO:=fun σ H Q=>t σ H fun x H1=>match x with | .int i=>Q (some i) H1 | _=>False
theorem zec {e:Expr} {te:TE} (h:PE X e te):PO X (some e) (zmU te):=by
 intro pins s σ H Q I hw;rw [evalPart_some];refine thn (h pins s σ H _ I hw) fun u s1 ⟨x,H1,I1,r1,q1⟩=>?_
 obtain⟨i,rfl,q⟩:∃ i,x=.int i/\Q (some i) H1:=by
  dsimp only at q1;split at q1
  ·exact⟨_,rfl,q1⟩
  ·exact q1.elim
 obtain⟨t,rfl⟩:=r1;exact⟨some i,H1,I1,.int i t,q⟩
end
structure ExM (K:PySem.W.Frag) (C:Addr) (pre:List Value):Prop where
 mro:∃ cd,PySem.W.clsIn K C=some cd/\cd.mro=pre++zgO
 ty:PySem.W.typeIn K (.ref C)=some (.type "type")
section
open PySem.W
variable {K:PySem.W.Frag} {C D:Addr} {pre pre':List Value}
end
end L2
end
section
namespace L2
open PySem PySem.Spec PyProof.Rows
theorem ifB.ndec {c:Prop} [Decidable c] {p q:Prop} (h1:c->q) (h2:¬ c->p):ifB (!decide c) p q:=ifB.mk (fun z=>h2 (by simpa using z)) fun z=>h1 (by simpa using z)
section
variable {X:Cx}
theorem zkk {s:Shared} {h':Heap} {o:Obj} (hk:∀ b x,b ∉ [s.heap.objs.size]->(s.heap.push o).get? b=some x->h'.get? b=some x):∀ b x,s.heap.get? b=some x->h'.get? b=some x :=
 fun b x e=>hk b x (fun hm=>by rw [znJ.mp hm] at e;exact Nat.lt_irrefl _ (zn0 e)) (znN _ e)
theorem zij:∀ {bs:List Bool} {us:List Value},zaM (bs.map V.bl) us->us=bs.map Value.bool
 | [],us,r=>by cases r;rfl
 | b::bs,us,r=>by
  rw [zn2] at r;cases r with
  | cons r1 r2=>cases r1;rw [zij r2];rfl
theorem zgG (bs:List Bool):((List.range bs.length).all fun i=>(bs[i]?).getD true)=bs.all id:=by
 rw [Bool.eq_iff_iff,znZ,znZ]
 constructor
 ·intro h b hb;obtain⟨i,hi,e⟩:=List.getElem_of_mem hb
  have:=h i (List.mem_range.mpr hi)
  simp only [znC hi,Option.getD_some,e] at this;exact this
 ·intro h i hi;have hi':=List.mem_range.mp hi;simp only [znC hi',Option.getD_some];exact h _ (List.getElem_mem hi')
def zmP (K:PySem.W.Frag):List V->Hp->VK->Prop:=fun xs H Q=>match xs with | [.ref p]=>∃ bs:List Bool,SqL K H p (bs.map V.bl)/\Q (.bl (bs.all id)) H | _=>False
theorem znf (hc:X.calm=true):za9 X (.builtin "all") (zmP X.K):=by
 intro pins s σ H xs us Q I r h;unfold zmP at h;split at h
 ·rename_i p;obtain⟨bs,hq,q⟩:=h;cases r with
  | cons r rr =>
   cases rr;cases r;obtain⟨its,rv,pl,hz⟩:=I.list hq;have e:=zij rv;subst e;have hl:=pl.isList;have hlt:p<s.heap.objs.size:=by obtain⟨_,e,_⟩:=hl;exact zn0 e
   refine call_all_walk (wpAny_pyIter_list hl ?_);refine⟨s.heap.objs.size,[s.heap.objs.size,p],[s.heap.objs.size],(bs.map Value.bool).toArray.size,_,_,fun i=>(bs[i]?).getD true,rfl,Walks.list (A:=X.A.in1) (I.ok.hd hc) _ p (zoi hlt) (bs.map Value.bool).toArray,
    ⟨⟨_,zn9 _ rfl,rfl,rfl⟩,hl.push _⟩,fun i v s' Q' E' hP hQ=>?_,fun h' tk hk=>?_⟩
   ·have hP:(bs.map Value.bool)[i]?=some v:=by simpa using hP
    rw [znB] at hP;obtain⟨b,e,rfl⟩:=znD.1 hP;simp only [e,Option.getD_some] at hQ;exact wpAny_truthy_bool hQ
   ·have e:((List.range (bs.map Value.bool).toArray.size).all fun i=>(bs[i]?).getD true)=bs.all id:=by
     rw [zoa,znA];exact zgG bs
    rw [e];exact⟨.bl _,H,I.kept (t':=tk) (zkk hk),rfl,q⟩
 ·exact h.elim
def zj0 (K:PySem.W.Frag):List V->Hp->VK->Prop:=fun xs H Q=>match xs with | [.ref p]=>∃ ns:List Int,SqL K H p (ns.map V.int)/\ns≠[]/\∀ m,m∈ns->(∀ n∈ns,m<=n)->Q (.int m) H | _=>False
def zjZ (K:PySem.W.Frag):List V->Hp->VK->Prop:=fun xs H Q=>match xs with | [.ref p]=>∃ ns:List Int,SqL K H p (ns.map V.int)/\ns≠[]/\∀ m,m∈ns->(∀ n∈ns,n<=m)->Q (.int m) H | _=>False
theorem zmh (hc:X.calm=true):za9 X (.builtin "min") (zj0 X.K):=by
 intro pins s σ H xs us Q I r h;unfold zj0 at h;split at h
 ·rename_i p;obtain⟨ns,hq,hne,q⟩:=h;cases r with
  | cons r rr =>
   cases rr;cases r;obtain⟨its,rv,pl,hz⟩:=I.list hq;have hi:IntsAre its ns:=zcs rv;have hl:=pl.isList;obtain⟨xs,e⟩:=hi.allInts.items;have hns:ns=xs.toList.map (·.1):=by
    rw [← nums_intItems,← e];exact (show numsOf its.toArray.toList=ns from hi.numsOf).symm
   have hsz:0<xs.size:=by
    have h3:=List.length_pos_iff.mpr hne;rw [hns,znA,zoe] at h3;exact h3
   rw [e] at hl;refine min_intList (I.ok.hd hc) hl hsz fun v h' tk hv hk=>?_
   obtain⟨t,rfl⟩:=intItems_at hv;obtain⟨h1,h2⟩:=argBest_lt (numAt xs) (xs.size-1);refine⟨.int _,H,I.kept (t':=tk) hk,⟨t,rfl⟩,q _ ?_ fun a ha=>?_⟩
   ·rw [hns,numAt_eq];exact getD_mem (by rw [znA,zoe];omega)
   ·rw [hns] at ha;obtain⟨j,hj,rfl⟩:=mem_getD ha;rw [znA,zoe] at hj;rw [← numAt_eq];exact h2 j (by omega)
 ·exact h.elim
theorem zmf (hc:X.calm=true):za9 X (.builtin "max") (zjZ X.K):=by
 intro pins s σ H xs us Q I r h;unfold zjZ at h;split at h
 ·rename_i p;obtain⟨ns,hq,hne,q⟩:=h;cases r with
  | cons r rr =>
   cases rr;cases r;obtain⟨its,rv,pl,hz⟩:=I.list hq;have hi:IntsAre its ns:=zcs rv;have hl:=pl.isList;obtain⟨xs,e⟩:=hi.allInts.items;have hns:ns=xs.toList.map (·.1):=by
    rw [← nums_intItems,← e];exact (show numsOf its.toArray.toList=ns from hi.numsOf).symm
   have hsz:0<xs.size:=by
    have h3:=List.length_pos_iff.mpr hne;rw [hns,znA,zoe] at h3;exact h3
   rw [e] at hl;refine max_intList (I.ok.hd hc) hl hsz fun v h' tk hv hk=>?_
   obtain⟨t,rfl⟩:=intItems_at hv;obtain⟨h1,h2⟩:=argBest_gt (numAt xs) (xs.size-1);refine⟨.int _,H,I.kept (t':=tk) hk,⟨t,rfl⟩,q _ ?_ fun a ha=>?_⟩
   ·rw [hns,numAt_eq];exact getD_mem (by rw [znA,zoe];omega)
   ·rw [hns] at ha;obtain⟨j,hj,rfl⟩:=mem_getD ha;rw [znA,zoe] at hj;rw [← numAt_eq];exact h2 j (by omega)
 ·exact h.elim
end
section
variable {prog:Program} {w:World} {A:Around} {E:Value->Shared->Prop} {s:Shared}
end
section
variable {X:Cx} {e st:Expr} {te:TE} {ts:TO} {pos p2:Pos}
end
section
variable {X:Cx} {K:PySem.W.Frag} {tg l e st:Expr} {tl te:TE} {ts:TO} {pos p2:Pos}
theorem zaN (hK:X.K=K):IxR X (zmR K):=hK ▸ znh
theorem zca (hK:X.K=K):IxR X (zmS K):=hK ▸ zni
theorem zf9 (hK:X.K=K):SlR X (zmX K):=hK ▸ znl
theorem zbM (hK:X.K=K):za9 X (.builtin "len") (zmT K):=hK ▸ znj
theorem zng (hK:X.K=K):OpR X (compareOp .In) (cIn K false):=hK ▸ q_in
theorem zjH (hK:X.K=K) (hc:X.calm=true):za9 X (.builtin "all") (zmP K):=hK ▸ znf hc
theorem zfs (hK:X.K=K) (hc:X.calm=true):za9 X (.builtin "min") (zj0 K):=hK ▸ zmh hc
theorem zh2 (hK:X.K=K) (hc:X.calm=true):za9 X (.builtin "max") (zjZ K):=hK ▸ zmf hc
theorem za8 (hK:X.K=K) (hl:PE X l tl):PI X tg l (zlo K tl):=hK ▸ zkP hl
theorem za6 {es:List Expr} {k:Nat} {t:TGs} {n:Nat} (hK:X.K=K) (hc:X.calm=true) (h:PGs X es t)
  (hn:(assignEach es X.env).length=n:=by rfl) (hst:(assignEach es X.env).findIdx? (·.1)=none:=by rfl):PG X (.Tuple es k pos) (zj3 K n t):=hK ▸ zml hc h hn hst
end
end L2
end
section
namespace L2
open PySem PySem.Spec PyProof.Rows
abbrev En:=List Int
abbrev Ma:=List (List En)
def zax (rows signs:Int):En->Bool
 | []=>true
 | [s,w,r]=>(decide (0<=s) && decide (s<signs)) && (decide (w=-1) || decide (w=1)) && (decide (0<=r) && decide (r<rows))
 | _=>false
def zdv (rows signs:Int) (es:List En):Bool:=decide ((es.length:Int)=signs) && es.all (zax rows signs)
def isM (m:Ma):Bool:=match m with
 | []=>false
 | r0::_=>decide (m.length<=4) && decide (2<=r0.length) && decide (r0.length<=4) && m.all (zdv m.length r0.length)
theorem zbh {α:Type} {xs:List α} {i:Int} {v:α} (h0:0<=i) (h:xs[i.toNat]?=some v):atI xs i=some v:=by
 obtain⟨j,rfl⟩:=Int.eq_ofNat_of_zero_le h0;exact zcq h
theorem zbA {n:Nat} {i:Int} (h0:0<=i) (h1:i<n):ixN n i=some i.toNat:=by
 unfold ixN;rw [zod h0,zod h1]
def zaY {α:Type} (R:Addr->α->Prop) (as:List Addr) (xs:List α):Prop:=as.length=xs.length/\∀ (i:Nat) (a:Addr) (x:α),as[i]?=some a->xs[i]?=some x->R a x
section
variable {α:Type} {R S:Addr->α->Prop} {as:List Addr} {xs:List α}
theorem zaY.nil:zaY R [] []:=⟨rfl,fun i a x h=>by simp at h⟩
theorem zaY.mono (h:zaY R as xs) (i:∀ a x,a∈as->R a x->S a x):zaY S as xs:=⟨h.1,fun k a x ha hx=>i a x (znF ha) (h.2 k a x ha hx)⟩
theorem zaY.app (h:zaY R as xs) {a:Addr} {x:α} (r:R a x):zaY R (as++[a]) (xs++[x]):=by
 refine⟨by simp [h.1],fun i b y hb hy=>?_⟩;by_cases hi:i<as.length
 ·rw [zn4 hi] at hb;rw [zn4 (h.1 ▸ hi)] at hy;exact h.2 i b y hb hy
 ·have e:i=as.length:=by
   have:=(znE.1 hb).1
   simp at this;omega
  subst e;rw [zn5 (znQ _),Nat.sub_self] at hb;rw [h.1,zn5 (znQ _),Nat.sub_self] at hy;cases hb;cases hy;exact r
theorem zaY.at (h:zaY R as xs) {i:Nat} {a:Addr} (ha:as[i]?=some a):∃ x,xs[i]?=some x/\R a x:=by
 have hi:=(znE.1 ha).1;have hi':i<xs.length:=h.1 ▸ hi;exact⟨xs[i],znC hi',h.2 i a _ ha (znC hi')⟩
theorem zaY.set (h:zaY R as xs) {i:Nat} {a:Addr} {x:α} (r:R a x):zaY R (as.set i a) (xs.set i x):=by
 refine⟨by simp [h.1],fun k b y hb hy=>?_⟩;rw [List.getElem?_set] at hb hy;by_cases e:i=k
 ·subst e;rw [zod rfl] at hb hy;split at hb
  ·split at hy
   ·cases hb;cases hy;exact r
   ·cases hy
  ·cases hb
 ·rw [zoc e] at hb hy;exact h.2 k b y hb hy
theorem zaY.setA (h:zaY R as xs) {i:Nat} {a:Addr} {x:α} (ha:as[i]?=some a) (o:∀ b y,b∈as->b≠a->R b y->S b y) (nd:as.Nodup) (s:S a x):zaY S as (xs.set i x):=by
 refine⟨by simp [h.1],fun k b y hb hy=>?_⟩;rw [List.getElem?_set] at hy;by_cases e:i=k
 ·subst e;rw [zod rfl] at hy;rw [ha] at hb;cases hb;split at hy
  ·cases hy;exact s
  ·cases hy
 ·rw [zoc e] at hy;refine o b y (znF hb) ?_ (h.2 k b y hb hy);rintro rfl;obtain⟨h1,h2⟩:=znE.1 ha;obtain⟨h3,h4⟩:=znE.1 hb;exact e ((List.getElem_inj nd).1 (h2.trans h4.symm))
theorem zaY.drop (h:zaY R as xs) (i:Nat):zaY R (as.drop i) (xs.drop i):=by
 refine⟨by rw [List.length_drop,List.length_drop,h.1],fun k b y hb hy=>?_⟩;rw [List.getElem?_drop] at hb hy;exact h.2 _ b y hb hy
theorem zaY.take (h:zaY R as xs) (i:Nat):zaY R (as.take i) (xs.take i):=by
 refine⟨by rw [znY,znY,h.1],fun k b y hb hy=>?_⟩;rw [List.getElem?_take] at hb hy;split at hb
 ·rename_i e;rw [zod e] at hy;exact h.2 _ b y hb hy
 ·cases hb
theorem zaY.append {bs:List Addr} {ys:List α} (h:zaY R as xs) (h':zaY R bs ys):zaY R (as++bs) (xs++ys):=by
 refine⟨by rw [znK,znK,h.1,h'.1],fun k b y hb hy=>?_⟩;by_cases hi:k<as.length
 ·rw [zn4 hi] at hb;rw [zn4 (h.1 ▸ hi)] at hy;exact h.2 k b y hb hy
 ·rw [zn5 (by omega)] at hb;rw [zn5 (by have:=h.1;omega),← h.1] at hy;exact h'.2 _ b y hb hy
end
def Ent (H:Hp) (a:Addr) (e:En):Prop:=H a=some (.tup (e.map V.int))
def zdq (H:Hp) (r:Addr) (as:List Addr) (es:List En):Prop:=H r=some (.lst (as.map V.ref))/\zaY (Ent H) as es
def Row (H:Hp) (r:Addr) (es:List En):Prop:=∃ as,zdq H r as es
def MaR (H:Hp) (p:Addr) (rs:List Addr) (m:Ma):Prop:=H p=some (.lst (rs.map V.ref))/\rs.Nodup/\zaY (Row H) rs m
def zc2 (H:Hp) (p:Addr) (m:Ma):Prop:=∃ rs,MaR H p rs m
theorem zkR {as bs:List Addr} (h:as.map V.ref=bs.map V.ref):as=bs:=by
 induction as generalizing bs with
 | nil=>cases bs with
  | nil=>rfl
  | cons b bs=>cases h
 | cons a as ih=>cases bs with
  | nil=>cases h
  | cons b bs =>
   rw [zn2,zn2] at h;injection h with h1 h2
   injection h1 with h1
   rw [h1,ih h2]
section
variable {H H':Hp} {p r a:Addr} {rs as:List Addr} {m:Ma} {es:List En} {e:En}
structure zdO (H H':Hp):Prop where
 tup:∀ a xs,H a=some (.tup xs)->H' a=some (.tup xs)
 refs:∀ a (as:List Addr),H a=some (.lst (as.map V.ref))->H' a=some (.lst (as.map V.ref))
theorem zdO.sub (S:Sub H H'):zdO H H':=⟨fun _ _ h=>S _ _ h,fun _ _ h=>S _ _ h⟩
theorem Ent.stay (S:zdO H H') (h:Ent H a e):Ent H' a e:=S.tup _ _ h
theorem zdq.stay (S:zdO H H') (h:zdq H r as es):zdq H' r as es:=⟨S.refs _ _ h.1,h.2.mono fun _ _ _ z=>z.stay S⟩
theorem Row.stay (S:zdO H H'):Row H r es->Row H' r es:=fun ⟨as,h⟩=>⟨as,h.stay S⟩
theorem MaR.stay (S:zdO H H') (h:MaR H p rs m):MaR H' p rs m:=⟨S.refs _ _ h.1,h.2.1,h.2.2.mono fun _ _ _ z=>z.stay S⟩
theorem zc2.stay (S:zdO H H'):zc2 H p m->zc2 H' p m:=fun ⟨rs,h⟩=>⟨rs,h.stay S⟩
theorem MaR.ne (h:MaR H p rs m) (hr:r∈rs):r≠p:=by
 rintro rfl;obtain⟨i,hi,e⟩:=List.getElem_of_mem hr;obtain⟨es,_,as,h1,h2⟩:=h.2.2.at (znE.2 ⟨hi,e⟩);rw [h.1] at h1;injection h1 with h1
 injection h1 with h1
 have:=zkR h1
 subst this;obtain⟨e,_,h3⟩:=h2.at (znE.2 ⟨hi,e⟩);have h3:H r=some (.tup _):=h3;rw [h.1] at h3;cases h3
theorem Ent.upd {l:Addr} {vs us:List V} (h:Ent H a e) (hl:H l=some (.lst vs)):Ent (L2.upd H l (.lst us)) a e:=by
 show L2.upd H l (.lst us) a=_;rw [zam]
 ·exact h
 ·rintro rfl;have h:H a=some (.tup _):=h;rw [hl] at h;cases h
theorem zdq.upd {l:Addr} {vs us:List V} (h:zdq H r as es) (hl:H l=some (.lst vs)) (ne:r≠l):zdq (L2.upd H l (.lst us)) r as es :=
 ⟨by rw [zam ne];exact h.1,h.2.mono fun _ _ _ z=>z.upd hl⟩
theorem Row.upd {l:Addr} {vs us:List V} (h:Row H r es) (hl:H l=some (.lst vs)) (ne:r≠l):Row (L2.upd H l (.lst us)) r es:=h.elim fun as h=>⟨as,h.upd hl ne⟩
theorem MaR.row {i:Nat} {as':List Addr} (h:MaR H p rs m) (hi:rs[i]?=some r) (he:zaY (Ent H) as' es):MaR (L2.upd H r (.lst (as'.map V.ref))) p rs (m.set i es):=by
 have hr:r∈rs:=znF hi;obtain⟨es0,_,as,h1,h2⟩:=h.2.2.at hi;refine⟨by rw [zam (h.ne hr).symm];exact h.1,h.2.1,h.2.2.setA hi (fun b y _ hb z=>z.upd h1 hb) h.2.1 ⟨as',zae,he.mono fun _ _ _ z=>z.upd h1⟩⟩
theorem MaR.app (h:MaR H p rs m) (hr:Row H r es) (hn:r ∉ rs) (hp:r≠p):MaR (L2.upd H p (.lst ((rs++[r]).map V.ref))) p (rs++[r]) (m++[es]):=by
 refine⟨zae,?_,(h.2.2.mono fun b y hb z=>z.upd h.1 (h.ne hb)).app (hr.upd h.1 hp)⟩;rw [List.nodup_append];exact⟨h.2.1,by simp,fun a ha b hb=>by rw [znJ.1 hb];rintro rfl;exact hn ha⟩
theorem zdq.app (h:zdq H r as es) (he:Ent H a e):zdq (L2.upd H r (.lst ((as++[a]).map V.ref))) r (as++[a]) (es++[e]) :=
 ⟨zae,(h.2.mono fun _ _ _ z=>z.upd h.1).app (he.upd h.1)⟩
theorem zdq.app' (h:zdq H r as es) (he:Ent H a e):zdq (L2.upd H r (.lst (as.map V.ref++[V.ref a]))) r (as++[a]) (es++[e]):=by
 have:=h.app he
 rw [znI] at this;exact this
theorem MaR.app' (h:MaR H p rs m) (hr:Row H r es) (hn:r ∉ rs) (hp:r≠p):MaR (L2.upd H p (.lst (rs.map V.ref++[V.ref r]))) p (rs++[r]) (m++[es]):=by
 have:=h.app hr hn hp
 rw [znI] at this;exact this
theorem MaR.other {l:Addr} {vs us:List V} (h:MaR H p rs m) (hl:H l=some (.lst vs)) (np:l≠p) (nr:l ∉ rs):MaR (L2.upd H l (.lst us)) p rs m :=
 ⟨by rw [zam np.symm];exact h.1,h.2.1,h.2.2.mono fun b y hb z=>z.upd hl (by rintro rfl;exact nr hb)⟩
theorem zdh (as:List Addr) (i:Nat) (a:Addr):(as.map V.ref).set i (V.ref a)=(as.set i a).map V.ref:=(List.map_set).symm
theorem MaR.rowSet {i j:Nat} {a:Addr} (h:MaR H p rs m) (hi:rs[i]?=some r) (hr:zdq H r as es) (he:Ent H a e):MaR (L2.upd H r (.lst ((as.map V.ref).set j (V.ref a)))) p rs (m.set i (es.set j e)):=by
 rw [zdh];exact h.row hi (hr.2.set he)
theorem zfK:∀ ns:List Int,zbl H (ns.map V.int) (ns.map DD.int)
 | []=>by rw [zn3,zn3,zbl]
 | n::ns=>by rw [zn2,zn2,zbl];exact⟨_,_,rfl,by rw [Den],zfK ns⟩
abbrev dE (e:En):DD:=.tup (e.map DD.int)
theorem Ent.den (h:Ent H a e):Den H (.ref a) (dE e):=by rw [dE,Den];exact⟨_,_,rfl,h,zfK e⟩
theorem zg7 {α:Type} {f:α->DD} {R:Addr->α->Prop} (hR:∀ a x,R a x->Den H (.ref a) (f x)):∀ {as:List Addr} {xs:List α},zaY R as xs->zbl H (as.map V.ref) (xs.map f)
 | [],[],_=>by rw [zn3,zn3,zbl]
 | a::as,x::xs,h=>by
  rw [zn2,zn2,zbl];exact⟨_,_,rfl,hR a x (h.2 0 a x rfl rfl),zg7 hR ⟨by have:=h.1;simpa using this,fun i b y hb hy=>h.2 (i+1) b y hb hy⟩⟩
 | [],_::_,h=>by have:=h.1;simp at this
 | _::_,[],h=>by have:=h.1;simp at this
theorem zbk {k:Nat}:∀ {ds:List DD},(∀ d∈ds,dep d<=k)->depL ds<=k
 | [],_=>by rw [depL];omega
 | d::ds,h=>by rw [depL];exact Nat.max_le.2 ⟨h d (by simp),zbk fun x hx=>h x (by simp [hx])⟩
theorem zly:dep (dE e)<=1:=by
 rw [dE,dep]
 have:depL (e.map DD.int)<=0:=zbk fun d hd=>by
  obtain⟨i,_,rfl⟩:=znS.1 hd;exact znQ 0
 omega
end
theorem MaR.out {H:Hp} {p q:Addr} {rs:List Addr} {m:Ma} (h:MaR H p rs m) (n:H q=none):q ∉ rs:=fun z=>by
 obtain⟨j,hj,e⟩:=List.getElem_of_mem z;obtain⟨es,_,as,h1,_⟩:=h.2.2.at (znE.2 ⟨hj,e⟩);rw [n] at h1;cases h1
theorem MaR.outp {H:Hp} {p q:Addr} {rs:List Addr} {m:Ma} (h:MaR H p rs m) (n:H q=none):q≠p:=fun z=>by
 have:=h.1
 rw [← z,n] at this;cases this
theorem zlu {rs:List Addr} {i:Int} (h0:0<=i) (h1:i.toNat<rs.length):zgp (rs.map V.ref) none (some i)=(rs.take i.toNat).map V.ref:=by
 obtain⟨j,rfl⟩:=Int.eq_ofNat_of_zero_le h0;have h1:j<rs.length:=h1;have e1:HT.sIx (rs.map V.ref).length 0 none=0:=rfl;have e2:HT.sIx (rs.map V.ref).length (rs.map V.ref).length (some (j:Int))=j:=by
  rw [HT.sIx_nat,znA];omega
 unfold zgp;rw [e1,e2,List.drop_zero,Nat.sub_zero,List.map_take]
 rfl
theorem zix {rs:List Addr} {i:Int} (h0:0<=i) (h1:i.toNat<rs.length):zgp (rs.map V.ref) (some (i+1)) none=(rs.drop (i.toNat+1)).map V.ref:=by
 obtain⟨j,rfl⟩:=Int.eq_ofNat_of_zero_le h0;have h1:j<rs.length:=h1;have e1:HT.sIx (rs.map V.ref).length 0 (some ((j:Int)+1))=j+1:=by
  rw [show ((j:Int)+1)=((j+1:Nat):Int) from rfl,HT.sIx_nat,znA];omega
 have e2:HT.sIx (rs.map V.ref).length (rs.map V.ref).length none=(rs.map V.ref).length:=rfl;unfold zgp;rw [e1,e2,List.map_drop,List.take_of_length_le]
 ·rfl
 ·rw [List.length_drop];omega
structure Pu (pp:Addr) (k:Int) (H H':Hp):Prop where
 had:∃ n:Int,H pp=some (.lst [.int n,.int k])
 has:∃ n:Int,H' pp=some (.lst [.int n,.int k])
 keep:∀ a o,a≠pp->H a=some o->H' a=some o
section
variable {pp:Addr} {k:Int} {A B C:Hp}
theorem Pu.refl (h:∃ n:Int,A pp=some (.lst [.int n,.int k])):Pu pp k A A:=⟨h,h,fun _ _ _ e=>e⟩
theorem Pu.trans (h:Pu pp k A B) (h':Pu pp k B C):Pu pp k A C:=⟨h.had,h'.has,fun a o n e=>h'.keep a o n (h.keep a o n e)⟩
theorem Pu.sub (h:Pu pp k A B) (S:Sub B C):Pu pp k A C:=⟨h.had,h.has.imp fun _ e=>S _ _ e,fun a o n e=>S _ _ (h.keep a o n e)⟩
theorem Pu.draw (h:Pu pp k A B) (n:Int):Pu pp k A (upd B pp (.lst [.int n,.int k])):=⟨h.had,⟨n,zae⟩,fun a o ne e=>by rw [zam ne];exact h.keep a o ne e⟩
theorem Pu.set {p:Addr} {o:HO} (h:Pu pp k A B) (hp:A p=none):Pu pp k A (upd B p o):=by
 have ne:pp≠p:=by
  rintro rfl;obtain⟨n,e⟩:=h.had;rw [hp] at e;cases e
 refine⟨h.had,?_,fun a u na e=>?_⟩
 ·obtain⟨n,e⟩:=h.has;exact⟨n,by rw [zam ne];exact e⟩
 ·rw [zam]
  ·exact h.keep a u na e
  ·rintro rfl;rw [hp] at e;cases e
theorem Pu.stay (h:Pu pp k A B):zdO A B:=by
 obtain⟨n,e⟩:=h.had;refine⟨fun a xs q=>h.keep _ _ ?_ q,fun a as q=>h.keep _ _ ?_ q⟩
 ·rintro rfl;rw [q] at e;cases e
 ·rintro rfl;rw [q] at e;cases as with
  | nil=>cases e
  | cons x xs=>cases e
theorem Pu.free (h:Pu pp k A B) {p:Addr} (n:B p=none):A p=none:=by
 cases e:A p with
 | none=>rfl
 | some o =>
  by_cases q:p=pp
  ·obtain⟨_,e'⟩:=h.has;rw [← q,n] at e';cases e'
  ·rw [h.keep _ _ q e] at n;cases n
theorem Pu.of_draw (n:Int) {n':Int} (h:A pp=some (.lst [.int n',.int k])):Pu pp k A (upd A pp (.lst [.int n,.int k])):=(Pu.refl ⟨n',h⟩).draw n
end
end L2
end
section
namespace L2
open PySem PySem.Spec PyProof.Rows PySem.W
def zkf:Bool->Keyed->Array Keyed->Nat->Nat->Nat->StateT SortSt Sem (Option Nat):=sortPriv% PySem.Builtin.gallop
def ziQ:Array Keyed->Array Keyed->StateT SortSt Sem (Array Keyed):=sortPriv% PySem.Builtin.mergeLo
def ziP:Array Keyed->Array Keyed->StateT SortSt Sem (Array Keyed):=sortPriv% PySem.Builtin.mergeHi
section
variable {M:Model} {A:Around} {E:Value->Shared->Prop} {s:Shared} {kf:Keyed->Int} {G:Keyed->Prop} {κ:SortKind}
def Cmp (M:Model) (A:Around) (E:Value->Shared->Prop) (s:Shared) (kf:Keyed->Int) (G:Keyed->Prop) (κ:SortKind):Prop :=
 ∀ (x y:Keyed) (st:SortSt) (Q:Option Bool->SortSt->Prop),G x->G y->kf x≠kf y->kindOf st=κ->Q (some (decide (kf x<kf y))) st->wpS M A E s (lt' x y) Q st
theorem zbz (C:Cmp M A E s kf G κ) {left:Bool} {key:Keyed} {arr:Array Keyed} {base n hint K:Nat} {st:SortSt} {Q:Option Nat->SortSt->Prop} (hk:kindOf st=κ) (gk:G key)
  (hG:∀ i,i<n->∃ x,arr[base+i]?=some x/\G x/\kf x≠kf key/\(kf x<kf key↔i<K)) (hh:hint<n) (hK:K<=n) (h:Q (some K) st):wpS M A E s (zkf left key arr base n hint) Q st:=by
 have beyond:∀ (i:Nat) (R:Option Bool->SortSt->Prop),i<n->R (some (decide (i<K))) st->wpS M A E s (do let x ← elem' arr (base+i);if left=true then lt' x key else do let r ← lt' key x;pure (r.map (!·))) R st:=by
  intro i R hi hR;obtain⟨x,e,gx,ne,hx⟩:=hG i hi;rw [elem'_eq,e];refine wpS_bind (wpS_pure ?_);cases left with
  | true =>
   rw [zod rfl];refine C x key st R gx gk ne hk ?_;rw [show decide (kf x<kf key)=decide (i<K) from decide_eq_decide.2 hx];exact hR
  | false =>
   rw [zoc (by simp)];refine wpS_bind (C key x st _ gk gx (Ne.symm ne) hk (wpS_pure ?_))
   have:(some (decide (kf key<kf x))).map (!·)=some (decide (i<K)):=by
    show some (!decide (kf key<kf x))=_
    congr 1
    rw [show decide (i<K)=decide (kf x<kf key) from decide_eq_decide.2 hx.symm];by_cases q:kf x<kf key
    ·rw [znG q,znH (by omega)];rfl
    ·rw [znH q,znG (by omega)];rfl
   rw [this];exact hR
 refine wpS_bind (beyond hint _ hh ?_);by_cases hr:hint<K
 ·rw [znG hr];refine wpS_bind (wpS_mono (wpS_forRange (I:=fun i c st'=>st'=st/\∃ l o,c=(none,l,o)/\hint+l<K/\i+1<=o) (Q:=fun c st'=>st'=st/\∃ l o,c=(none,l,o)/\hint+l<K/\(n-hint<=o\/K<=hint+o)) ?_ ?_ ⟨rfl,0,1,rfl,by omega,by omega⟩) ?_)
  ·rintro i c st' _ hi ⟨rfl,l,o,rfl,h1,h2⟩;dsimp only;by_cases ho:o ≥ n-hint
   ·rw [zod ho];exact wpS_pure ⟨rfl,l,o,rfl,h1,.inl ho⟩
   ·rw [zoc ho];refine wpS_bind (beyond (hint+o) _ (by omega) ?_);by_cases hm:hint+o<K
    ·rw [znG hm];exact wpS_pure ⟨rfl,o,2*o+1,rfl,hm,by omega⟩
    ·rw [znH hm];exact wpS_pure ⟨rfl,l,o,rfl,h1,.inr (by omega)⟩
  ·rintro c st' ⟨rfl,l,o,rfl,h1,h2⟩;exact⟨rfl,l,o,rfl,h1,.inl (by omega)⟩
  ·rintro c st' ⟨rfl,l,o,rfl,h1,h2⟩;dsimp only;have b1:hint+l+1<=K:=by omega
   have b2:K<=hint+min o (n-hint):=by omega
   have b3:hint+min o (n-hint)<=n:=by omega
   generalize hint+l+1=lo at b1 ⊢;generalize hint+min o (n-hint)=hi at b2 b3 ⊢;refine wpS_bind (wpS_mono (wpS_forRange (I:=fun i c st''=>st''=st'/\∃ a b,c=(none,a,b)/\a<=K/\K<=b/\b<=n/\b-a<=n-i) (Q:=fun c st''=>st''=st'/\∃ a,c=(none,a,K)) ?_ ?_ ⟨rfl,lo,hi,rfl,b1,b2,b3,by omega⟩) ?_)
   ·rintro i c st'' _ hi ⟨rfl,a,b,rfl,h1,h2,h3,h4⟩;dsimp only;by_cases ho:a ≥ b
    ·rw [zod ho]
     have:b=K:=by omega
     exact wpS_pure ⟨rfl,a,by rw [this]⟩
    ·rw [zoc ho];refine wpS_bind (beyond (a+(b-a) / 2) _ (by omega) ?_);by_cases hm:a+(b-a) / 2<K
     ·rw [znG hm];exact wpS_pure ⟨rfl,_,_,rfl,by omega,h2,h3,by omega⟩
     ·rw [znH hm];exact wpS_pure ⟨rfl,_,_,rfl,h1,by omega,by omega,by omega⟩
   ·rintro c st'' ⟨rfl,a,b,rfl,h1,h2,h3,h4⟩
    have:b=K:=by omega
    exact⟨rfl,a,by rw [this]⟩
   ·rintro c st'' ⟨rfl,a,rfl⟩;exact wpS_pure h
 ·rw [znH hr];refine wpS_bind (wpS_mono (wpS_forRange (I:=fun i c st'=>st'=st/\∃ l o,c=(none,l,o)/\K+l<=hint/\i+1<=o) (Q:=fun c st'=>st'=st/\∃ l o,c=(none,l,o)/\K+l<=hint/\(hint+1<=o\/hint<K+o)) ?_ ?_ ⟨rfl,0,1,rfl,by omega,by omega⟩) ?_)
  ·rintro i c st' _ hi ⟨rfl,l,o,rfl,h1,h2⟩;dsimp only;by_cases ho:o ≥ hint+1
   ·rw [zod ho];exact wpS_pure ⟨rfl,l,o,rfl,h1,.inl ho⟩
   ·rw [zoc ho];refine wpS_bind (beyond (hint-o) _ (by omega) ?_);by_cases hm:hint-o<K
    ·rw [znG hm];exact wpS_pure ⟨rfl,l,o,rfl,h1,.inr (by omega)⟩
    ·rw [znH hm];exact wpS_pure ⟨rfl,o,2*o+1,rfl,by omega,by omega⟩
  ·rintro c st' ⟨rfl,l,o,rfl,h1,h2⟩;exact⟨rfl,l,o,rfl,h1,.inl (by omega)⟩
  ·rintro c st' ⟨rfl,l,o,rfl,h1,h2⟩;dsimp only;have b1:hint+1-min o (hint+1)<=K:=by omega
   have b2:K<=hint-l:=by omega
   have b3:hint-l<=n:=by omega
   generalize hint+1-min o (hint+1)=lo at b1 ⊢;generalize hint-l=hi at b2 b3 ⊢;refine wpS_bind (wpS_mono (wpS_forRange (I:=fun i c st''=>st''=st'/\∃ a b,c=(none,a,b)/\a<=K/\K<=b/\b<=n/\b-a<=n-i) (Q:=fun c st''=>st''=st'/\∃ a,c=(none,a,K)) ?_ ?_ ⟨rfl,lo,hi,rfl,b1,b2,b3,by omega⟩) ?_)
   ·rintro i c st'' _ hi ⟨rfl,a,b,rfl,h1,h2,h3,h4⟩;dsimp only;by_cases ho:a ≥ b
    ·rw [zod ho]
     have:b=K:=by omega
     exact wpS_pure ⟨rfl,a,by rw [this]⟩
    ·rw [zoc ho];refine wpS_bind (beyond (a+(b-a) / 2) _ (by omega) ?_);by_cases hm:a+(b-a) / 2<K
     ·rw [znG hm];exact wpS_pure ⟨rfl,_,_,rfl,by omega,h2,h3,by omega⟩
     ·rw [znH hm];exact wpS_pure ⟨rfl,_,_,rfl,h1,by omega,by omega,by omega⟩
   ·rintro c st'' ⟨rfl,a,b,rfl,h1,h2,h3,h4⟩
    have:b=K:=by omega
    exact⟨rfl,a,by rw [this]⟩
   ·rintro c st'' ⟨rfl,a,rfl⟩;exact wpS_pure h
end
section
variable {kf:Keyed->Int} {G:Keyed->Prop}
def Ord (kf:Keyed->Int) (l:List Keyed):Prop:=l.Pairwise fun x y=>kf x<kf y
def Res (kf:Keyed->Int) (base o:List Keyed):Prop:=Ord kf o/\o.Perm base
structure MI (kf:Keyed->Int) (base o ra rb:List Keyed):Prop where
 so:Ord kf o
 sa:Ord kf ra
 sb:Ord kf rb
 oa:∀ x∈o,∀ y∈ra,kf x<kf y
 ob:∀ x∈o,∀ y∈rb,kf x<kf y
 pm:(o++(ra++rb)).Perm base
variable {base o ra rb xs:List Keyed}
theorem MI.swap (h:MI kf base o ra rb):MI kf base o rb ra:=⟨h.so,h.sb,h.sa,h.ob,h.oa,(List.Perm.append_left _ List.perm_append_comm).trans h.pm⟩
theorem MI.stepA (h:MI kf base o (xs++ra) rb) (hx:∀ x∈xs,∀ y∈rb,kf x<kf y):MI kf base (o++xs) ra rb:=by
 obtain⟨s1,s2,s3⟩:=List.pairwise_append.1 h.sa;refine⟨List.pairwise_append.2 ⟨h.so,s1,fun x hx y hy=>h.oa x hx y (zn6 _ hy)⟩,s2,h.sb,fun x hx' y hy=>?_,fun x hx' y hy=>?_,?_⟩
 ·rcases znL.1 hx' with q | q
  ·exact h.oa x q y (zn7 _ hy)
  ·exact s3 x q y hy
 ·rcases znL.1 hx' with q | q
  ·exact h.ob x q y hy
  ·exact hx x q y hy
 ·have:=h.pm
  rw [znU] at this;rw [znU];exact this
theorem MI.stepB (h:MI kf base o ra (xs++rb)) (hx:∀ x∈xs,∀ y∈ra,kf x<kf y):MI kf base (o++xs) ra rb:=(h.swap.stepA hx).swap
theorem MI.endA (h:MI kf base o ra []):Res kf base (o++ra):=⟨List.pairwise_append.2 ⟨h.so,h.sa,h.oa⟩,by have:=h.pm;rw [znM] at this;exact this⟩
theorem MI.endAB (h:MI kf base o ra rb) (hx:∀ x∈ra,∀ y∈rb,kf x<kf y):Res kf base (o++ra++rb):=by
 have:=h
 rw [← znM ra] at this;exact (this.stepA hx).swap.endA
theorem MI.endBA (h:MI kf base o ra rb) (hx:∀ x∈ra,∀ y∈rb,kf y<kf x):Res kf base (o++rb++ra):=h.swap.endAB fun y hy x hx'=>hx x hx' y hy
theorem zjx (k:Int):∀ (l:List Keyed),Ord kf l->(∀ x∈l,kf x≠k)->∃ K,K<=l.length/\∀ i (h:i<l.length),(kf l[i]<k↔i<K)
 | [],_,_=>⟨0,znQ _,fun i h=>absurd h (by simp)⟩
 | x::l,hs,hn=>by
  obtain⟨s1,s2⟩:=List.pairwise_cons.1 hs;obtain⟨K,h1,h2⟩:=zjx k l s2 fun y hy=>hn y (znT _ hy)
  by_cases hx:kf x<k
  ·refine⟨K+1,by simp;omega,fun i hi=>?_⟩;cases i with
   | zero=>simp [hx]
   | succ i=>rw [List.getElem_cons_succ,h2 i (by simp at hi;omega)];omega
  ·refine⟨0,Nat.zero_le _,fun i hi=>?_⟩;have hk:k<kf x:=by have:=hn x (zn8 ..);omega
   cases i with
   | zero=>simp;omega
   | succ i =>
    rw [List.getElem_cons_succ];have hi':i<l.length:=by simp at hi;omega
    have:=s1 l[i] (List.getElem_mem _)
    omega
structure AI (kf:Keyed->Int) (a b out:Array Keyed) (ia ib:Nat):Prop where
 m:MI kf (a.toList++b.toList) out.toList (a.toList.drop ia) (b.toList.drop ib)
variable {a b out:Array Keyed} {ia ib k:Nat} {x y:Keyed}
theorem zbQ (h:a[ia]?=some x):a.toList.drop ia=x::a.toList.drop (ia+1):=by
 rw [← zof] at h;obtain⟨h1,h2⟩:=znE.1 h;rw [zom h1,h2]
theorem zcR:(a.extract ia (ia+k)).toList++a.toList.drop (ia+k)=a.toList.drop ia:=by
 rw [Array.toList_extract,List.extract_eq_take_drop,show ia+k-ia=k by omega,← List.drop_drop];exact List.take_append_drop _ _
theorem zdU:(a.extract ia a.size).toList=a.toList.drop ia:=by
 rw [Array.toList_extract,List.extract_eq_take_drop,List.take_of_length_le];rw [List.length_drop,zoe];exact znQ _
theorem AI.pushA (h:AI kf a b out ia ib) (hx:a[ia]?=some x) (hl:∀ y∈b.toList.drop ib,kf x<kf y):AI kf a b (out.push x) (ia+1) ib:=by
 have:=h.m
 rw [zbQ hx] at this;refine⟨?_⟩;rw [Array.toList_push];exact this.stepA (xs:=[x]) fun z hz=>by rw [znJ.1 hz];exact hl
theorem AI.pushB (h:AI kf a b out ia ib) (hx:b[ib]?=some x) (hl:∀ y∈a.toList.drop ia,kf x<kf y):AI kf a b (out.push x) ia (ib+1):=by
 have:=h.m
 rw [zbQ hx] at this;refine⟨?_⟩;rw [Array.toList_push];exact this.stepB (xs:=[x]) fun z hz=>by rw [znJ.1 hz];exact hl
theorem AI.extA (h:AI kf a b out ia ib) (hl:∀ x∈(a.extract ia (ia+k)).toList,∀ y∈b.toList.drop ib,kf x<kf y):AI kf a b (out++a.extract ia (ia+k)) (ia+k) ib:=by
 have:=h.m
 rw [← zcR (k:=k)] at this;refine⟨?_⟩;rw [Array.toList_append];exact this.stepA hl
theorem AI.extB (h:AI kf a b out ia ib) (hl:∀ x∈(b.extract ib (ib+k)).toList,∀ y∈a.toList.drop ia,kf x<kf y):AI kf a b (out++b.extract ib (ib+k)) ia (ib+k):=by
 have:=h.m
 rw [← zcR (a:=b) (k:=k)] at this;refine⟨?_⟩;rw [Array.toList_append];exact this.stepB hl
def zer (kf:Keyed->Int) (a b out:Array Keyed):Prop:=Res kf (a.toList++b.toList) out.toList
theorem AI.done (h:AI kf a b out ia ib) (he:a.size<=ia\/b.size<=ib):zer kf a b (out++a.extract ia a.size++b.extract ib b.size):=by
 unfold zer;rw [Array.toList_append,Array.toList_append,zdU,zdU];refine h.m.endAB fun x hx y hy=>?_
 rcases he with he | he
 ·rw [List.drop_eq_nil_of_le (by rw [zoe];exact he)] at hx;cases hx
 ·rw [List.drop_eq_nil_of_le (by rw [zoe];exact he)] at hy;cases hy
theorem AI.lastA (h:AI kf a b out ia ib) (he:ia+1=a.size) (hl:∀ x,a[a.size-1]?=some x->∀ y∈b.toList,kf y<kf x):zer kf a b (out++b.extract ib b.size++a.extract ia a.size):=by
 unfold zer;rw [Array.toList_append,Array.toList_append,zdU,zdU];refine h.m.endBA fun x hx y hy=>?_
 have hia:ia<a.size:=by omega
 rw [zbQ (Array.getElem?_eq_getElem hia),List.drop_eq_nil_of_le (by rw [zoe];omega)] at hx;rw [znJ.1 hx];exact hl _ (by rw [show a.size-1=ia by omega];exact Array.getElem?_eq_getElem hia) y (List.mem_of_mem_drop hy)
theorem Ord.head (h:Ord kf (x::ra)):∀ y∈x::ra,kf x<=kf y:=fun y hy=>by
 rcases zoh.1 hy with rfl | q
 ·exact Int.le_refl _
 ·exact Int.le_of_lt ((List.pairwise_cons.1 h).1 y q)
structure Two (kf:Keyed->Int) (G:Keyed->Prop) (a b:Array Keyed):Prop where
 ga:∀ x∈a.toList,G x
 gb:∀ x∈b.toList,G x
 ne:∀ x∈a.toList,∀ y∈b.toList,kf x≠kf y
 sa:Ord kf a.toList
 sb:Ord kf b.toList
 na:0<a.size
 nb:0<b.size
 hd:∀ y,b[0]?=some y->∀ x∈a.toList,kf y<kf x
 lst:∀ x,a[a.size-1]?=some x->∀ y∈b.toList,kf y<kf x
theorem zaI (h:a[ia]?=some x):x∈a.toList:=Array.mem_toList_iff.2 (Array.mem_of_getElem? h)
theorem zaw (h:ia<a.size):∃ x,a[ia]?=some x:=⟨_,Array.getElem?_eq_getElem h⟩
theorem AI.start (T:Two kf G a b) (h:b[0]?=some x):AI kf a b #[x] 0 1:=by
 refine⟨?_⟩;have e:=zbQ h;rw [List.drop_zero] at e;have s:=T.sb;rw [e] at s;have s':=List.pairwise_cons.1 s;refine⟨List.pairwise_singleton _ _,T.sa,s'.2,fun z hz y hy=>?_,fun z hz y hy=>?_,?_⟩
 ·rw [znJ.1 hz];exact T.hd x h y hy
 ·rw [znJ.1 hz];exact s'.1 y hy
 ·rw [List.drop_zero]
  conv=>rhs;rw [e]
  show (x::(a.toList++List.drop 1 b.toList)).Perm _;exact (List.perm_middle).symm
theorem AI.ltB (h:AI kf a b out ia ib) (hx:a[ia]?=some x) (hy:b[ib]?=some y) (l:kf x<kf y):∀ z∈b.toList.drop ib,kf x<kf z:=fun z hz=>by
 have s:=h.m.sb;rw [zbQ hy] at s hz;exact Int.lt_of_lt_of_le l (s.head z hz)
theorem AI.ltA (h:AI kf a b out ia ib) (hx:a[ia]?=some x) (hy:b[ib]?=some y) (l:kf y<kf x):∀ z∈a.toList.drop ia,kf y<kf z:=fun z hz=>by
 have s:=h.m.sa;rw [zbQ hx] at s hz;exact Int.lt_of_lt_of_le l (s.head z hz)
theorem zbc {i j:Nat} (h:x∈(a.extract i j).toList):∃ k,i<=k/\k<j/\a[k]?=some x:=by
 rw [Array.toList_extract,List.extract_eq_take_drop] at h;obtain⟨n,hn⟩:=List.mem_iff_getElem?.1 h;rw [List.getElem?_take] at hn;split at hn
 ·rw [List.getElem?_drop] at hn;refine⟨i+n,by omega,by omega,?_⟩;rw [← zof];exact hn
 ·cases hn
theorem zhE {i:Nat} (h:x∈a.toList.drop i):∃ k,i<=k/\a[k]?=some x:=by
 obtain⟨n,hn⟩:=List.mem_iff_getElem?.1 h;rw [List.getElem?_drop] at hn;exact⟨i+n,by omega,by rw [← zof];exact hn⟩
theorem zdR {arr:Array Keyed} {bs n:Nat} {kk:Int} (hn:bs+n<=arr.size) (hs:∀ i j x y,i<j->j<n->arr[bs+i]?=some x->arr[bs+j]?=some y->kf x<kf y)
  (hg:∀ i x,i<n->arr[bs+i]?=some x->G x/\kf x≠kk):∃ K,K<=n/\∀ i,i<n->∃ x,arr[bs+i]?=some x/\G x/\kf x≠kk/\(kf x<kk↔i<K):=by
 have g:∀ i (h:i<((arr.toList.drop bs).take n).length),i<n/\arr[bs+i]?=some ((arr.toList.drop bs).take n)[i]:=fun i h=>by
  have e:=znC h
  have:i<n:=by rw [znY] at h;omega
  rw [List.getElem?_take,zod this,List.getElem?_drop,zof] at e;exact⟨this,e⟩
 have hl:((arr.toList.drop bs).take n).length=n:=by rw [znY,List.length_drop,zoe];omega
 obtain⟨K,h1,h2⟩:=zjx (kf:=kf) kk ((arr.toList.drop bs).take n) (List.pairwise_iff_getElem.2 fun i j hi hj hij=>hs i j _ _ hij (g j hj).1 (g i hi).2 (g j hj).2) fun x hx=>by
  obtain⟨i,hi,rfl⟩:=List.mem_iff_getElem.1 hx;exact (hg i _ (g i hi).1 (g i hi).2).2
 refine⟨K,by omega,fun i hi=>?_⟩;have hi':i<((arr.toList.drop bs).take n).length:=by omega
 obtain⟨q1,q2⟩:=hg i _ hi (g i hi').2;exact⟨_,(g i hi').2,q1,q2,h2 i hi'⟩
theorem Ord.arr (h:Ord kf a.toList) {i j:Nat} {x y:Keyed} (hij:i<j) (hx:a[i]?=some x) (hy:a[j]?=some y):kf x<kf y:=by
 rw [← zof] at hx hy;obtain⟨h1,rfl⟩:=znE.1 hx;obtain⟨h2,rfl⟩:=znE.1 hy;exact List.pairwise_iff_getElem.1 h i j h1 h2 hij
theorem Ord.ofArr (h:∀ (i j:Nat) (x y:Keyed),i<j->a[i]?=some x->a[j]?=some y->kf x<kf y):Ord kf a.toList :=
 List.pairwise_iff_getElem.2 fun i j hi hj hij=>h i j _ _ hij (by rw [← zof];exact znC hi) (by rw [← zof];exact znC hj)
theorem Two.cutA (T:Two kf G a b) (hy:y∈b.toList) {bs n:Nat} (hn:bs+n<=a.size):∃ K,K<=n/\∀ i,i<n->∃ x,a[bs+i]?=some x/\G x/\kf x≠kf y/\(kf x<kf y↔i<K) :=
 zdR hn (fun i j x z hij _ hx hz=>T.sa.arr (by omega) hx hz) fun i x _ hx=>⟨T.ga x (zaI hx),T.ne x (zaI hx) y hy⟩
theorem Two.cutB (T:Two kf G a b) (hx:x∈a.toList) {bs n:Nat} (hn:bs+n<=b.size):∃ K,K<=n/\∀ i,i<n->∃ y,b[bs+i]?=some y/\G y/\kf y≠kf x/\(kf y<kf x↔i<K) :=
 zdR hn (fun i j x z hij _ hx hz=>T.sb.arr (by omega) hx hz) fun i y _ hy=>⟨T.gb y (zaI hy),Ne.symm (T.ne x hx y (zaI hy))⟩
theorem AI.galA {K:Nat} (T:Two kf G a b) (S:AI kf a b out ia ib) (hy:b[ib]?=some y) (l1:ia+1<a.size) (hK:K<=a.size-ia)
  (cut:∀ i,i<a.size-ia->∃ x,a[ia+i]?=some x/\G x/\kf x≠kf y/\(kf x<kf y↔i<K)) :
  AI kf a b (out++a.extract ia (ia+K)) (ia+K) ib/\(∀ x∈a.toList.drop (ia+K),kf y<kf x)/\ia+K+1<=a.size:=by
 have at_:∀ k x,ia<=k->a[k]?=some x->kf x≠kf y/\(kf x<kf y↔k<ia+K):=fun k x k1 k3=>by
  have hk3:=(Array.getElem?_eq_some_iff.1 k3).1;obtain⟨d,rfl⟩:=Nat.exists_eq_add_of_le k1;obtain⟨x',e,_,ne,z⟩:=cut d (by omega);rw [k3] at e;cases e;exact⟨ne,z.trans Nat.add_lt_add_iff_left.symm⟩
 refine⟨S.extA (k:=K) fun x hx z hz=>?_,fun x hx=>?_,?_⟩
 ·obtain⟨k,k1,k2,k3⟩:=zbc hx;have s:=S.m.sb;rw [zbQ hy] at s hz;exact Int.lt_of_lt_of_le ((at_ k x k1 k3).2.2 k2) (s.head z hz)
 ·obtain⟨k,k1,k3⟩:=zhE hx;obtain⟨ne,z⟩:=at_ k x (znP (Nat.le_add_right _ _) k1) k3;exact (Int.lt_or_lt_of_ne ne).resolve_left fun q=>absurd (z.1 q) (Nat.not_lt.2 k1)
 ·obtain⟨xl,hxl⟩:=zaw (a:=a) (ia:=a.size-1) (by omega);obtain⟨ne,z⟩:=at_ _ xl (by omega) hxl;have q:=T.lst _ hxl y (zaI hy)
  have:=mt z.2 (Int.not_lt.2 (Int.le_of_lt q))
  omega
theorem AI.galB {L:Nat} (S:AI kf a b out ia ib) (hx:a[ia]?=some x) (cut:∀ i,i<b.size-ib->∃ y,b[ib+i]?=some y/\G y/\kf y≠kf x/\(kf y<kf x↔i<L)) :
  AI kf a b (out++b.extract ib (ib+L)) ia (ib+L)/\∀ z∈b.toList.drop (ib+L),kf x<kf z:=by
 have at_:∀ k y,ib<=k->b[k]?=some y->kf y≠kf x/\(kf y<kf x↔k<ib+L):=fun k y k1 k3=>by
  have hk3:=(Array.getElem?_eq_some_iff.1 k3).1;obtain⟨d,rfl⟩:=Nat.exists_eq_add_of_le k1;obtain⟨x',e,_,ne,z⟩:=cut d (by omega);rw [k3] at e;cases e;exact⟨ne,z.trans Nat.add_lt_add_iff_left.symm⟩
 refine⟨S.extB (k:=L) fun z hz u hu=>?_,fun z hz=>?_⟩
 ·obtain⟨k,k1,k2,k3⟩:=zbc hz;have s:=S.m.sa;rw [zbQ hx] at s hu;exact Int.lt_of_lt_of_le ((at_ k z k1 k3).2.2 k2) (s.head u hu)
 ·obtain⟨k,k1,k3⟩:=zhE hz;obtain⟨ne,w⟩:=at_ k z (znP (Nat.le_add_right _ _) k1) k3;exact (Int.lt_or_lt_of_ne ne).resolve_left fun q=>absurd (w.1 q) (Nat.not_lt.2 k1)
end
section
variable {M:Model} {A:Around} {E:Value->Shared->Prop} {s:Shared} {kf:Keyed->Int} {G:Keyed->Prop} {κ:SortKind}
abbrev zbv (st:SortSt) (g:Nat):SortSt:=SortSt.mk' (kindOf st) (arrOf st) (pendingOf st) g (failedOf st)
theorem zaB {a:Array Keyed} {i:Nat} {x:Keyed} {st:SortSt} {R:Keyed->SortSt->Prop} (hx:a[i]?=some x) (h:R x st):wpS M A E s (elem' a i) R st:=by rw [elem'_eq,hx];exact wpS_pure h
theorem zau {σ α:Type} {c:Prop} [Decidable c] {m1 m2:StateT σ Sem α} {Q:α->σ->Prop} {st:σ} (h1:c->wpS M A E s m1 Q st) (h2:¬ c->wpS M A E s m2 Q st):wpS M A E s (if c then m1 else m2) Q st:=by
 by_cases h:c
 ·rw [zod h];exact h1 h
 ·rw [zoc h];exact h2 h
theorem zgl {σ α:Type} {k f:Nat->StateT σ Sem α} {Q:α->σ->Prop} {st:σ} (hk:∀ n,k n=f (n-1)) (h:∀ n,wpS M A E s (f n) Q st):∀ mg:Nat,wpS M A E s (if mg > 1 then k mg else f mg) Q st:=fun mg=>zau (fun _=>by rw [hk];exact h _) fun _=>h _
set_option hygiene false in
local macro_rules | `(tactic| walk_at "loEnd") => `(tactic| (
 refine wpS_bind (zaB hx ?_);have S4:=S3.pushA hx hi2;refine zau (fun e=>?_) fun e=>?_
 ·exact wpS_pure ⟨_,rfl,.inl ⟨_,rfl,S4.lastA (by simpa using e) T.lst⟩⟩
 have e2:I+1+1≠a.size:=by simpa using e
 refine zau (fun _=>?_) fun _=>?_
 ·exact wpS_pure ⟨_,rfl,.inr ⟨_,_,_,_,_,_,rfl,S4,by omega,by omega,by omega⟩⟩
 ·exact wpS_pure ⟨_,rfl,_,_,_,_,_,_,rfl,S4,by omega,by omega,by omega⟩))
set_option hygiene false in
local macro_rules | `(tactic| walk_at "loTail") => `(tactic| (
 refine wpS_bind (zaB hy ?_);have S2:=S1.pushB hy hi;refine zau (fun e=>?_) fun e=>?_
 ·have e0:ib+1=b.size:=by simpa using e
  exact wpS_pure ⟨_,rfl,.inl ⟨_,rfl,S2.done (.inr (by omega))⟩⟩
 have e1:ib+1≠b.size:=by simpa using e
 obtain⟨x,hx⟩:=zaw (a:=a) (ia:=I) (by omega);refine wpS_bind (zaB hx ?_);obtain⟨L,hL,cutb⟩:=T.cutB (zaI hx) (bs:=ib+1) (n:=b.size-(ib+1)) (by omega);refine wpS_bind (zbz C (K:=L) hk (T.ga x (zaI hx)) cutb (by omega) hL ?_);dsimp only;obtain⟨S3,hi2⟩:=AI.galB S2 hx cutb;refine zau (fun _=>?_) fun eL=>?_
 ·refine zau (fun e=>?_) fun e=>?_
  ·have e0:ib+1+L=b.size:=by simpa using e
   exact wpS_pure ⟨_,rfl,.inl ⟨_,rfl,S3.done (.inr (by omega))⟩⟩
  have e3:ib+1+L≠b.size:=by simpa using e
  walk_at "loEnd"
 ·obtain rfl:L=0:=by omega
  have S3:=S2;walk_at "loEnd"))
theorem zgA (C:Cmp M A E s kf G κ) {a b:Array Keyed} {st:SortSt} {Q:Array Keyed->SortSt->Prop} (hk:kindOf st=κ) (T:Two kf G a b) (h:∀ o g,zer kf a b o->Q o (zbv st g)):wpS M A E s (ziQ a b) Q st:=by
 obtain⟨x0,hx0⟩:=zaw T.nb;refine wpS_bind (wpS_lift (wpAny_rule ⟨rfl,?_⟩));refine wpS_bind (zaB hx0 ?_);have S:=AI.start T hx0;by_cases h1:1=b.size
 ·rw [zod (by simpa using h1)];exact wpS_pure (h _ (gallopOf st) (S.done (.inr (by omega))))
 by_cases h2:1=a.size
 ·rw [zoc (by simpa using h1),zod (by simpa using h2)];exact wpS_pure (h _ (gallopOf st) (S.lastA (by omega) T.lst))
 rw [zoc (by simpa using h1),zoc (by simpa using h2)];refine wpS_bind (wpS_get ?_);have na:=T.na;have nb:=T.nb;refine wpS_bind (wpS_mono (wpS_forRange (I:=fun i c st'=>∃ g,st'=zbv st g/\∃ out ia ib mg,c=(none,out,ia,ib,mg)/\AI kf a b out ia ib/\ia+1<a.size/\ib<b.size/\i+1<=ia+ib)
  (Q:=fun c st'=>∃ g,st'=zbv st g/\∃ o,c.1=some o/\zer kf a b o) ?_ ?_ ⟨gallopOf st,rfl,_,0,1,_,rfl,S,by omega,by omega,by omega⟩) ?_)
 ·rintro i c st' _ hi ⟨g,rfl,out,ia,ib,mg,rfl,S,l1,l2,l3⟩;dsimp only;refine wpS_bind (wpS_mono (wpS_forRange (I:=fun j c st'=>st'=zbv st g/\∃ out ia ib ac bc,c=(none,out,ia,ib,ac,bc)/\AI kf a b out ia ib/\ia+1<a.size/\ib<b.size/\i+1+j<=ia+ib)
   (Q:=fun c st'=>st'=zbv st g/\((∃ o,c.1=some o/\zer kf a b o)\/∃ out ia ib ac bc,c=(none,out,ia,ib,ac,bc)/\AI kf a b out ia ib/\ia+1<a.size/\ib<b.size/\i+2<=ia+ib)) ?_ ?_ ⟨rfl,out,ia,ib,0,0,rfl,S,l1,l2,by omega⟩) ?_)
  ·rintro j c st' _ hj ⟨rfl,out,ia,ib,ac,bc,rfl,S,l1,l2,l3⟩;dsimp only;obtain⟨x,hx⟩:=zaw (a:=a) (ia:=ia) (by omega);obtain⟨y,hy⟩:=zaw (a:=b) (ia:=ib) l2;refine wpS_bind (zaB hy ?_);refine wpS_bind (zaB hx ?_);refine wpS_bind (C y x _ _ (T.gb y (zaI hy)) (T.ga x (zaI hx)) (Ne.symm (T.ne x (zaI hx) y (zaI hy))) hk ?_);have hn:=T.ne x (zaI hx) y (zaI hy);by_cases q:kf y<kf x
   ·rw [znG q];dsimp only;rw [zod rfl];refine wpS_bind (zaB hy ?_);have S':=S.pushB hy (S.ltA hx hy q);by_cases e1:ib+1=b.size
    ·rw [zod (by simpa using e1)];exact wpS_pure ⟨rfl,.inl ⟨_,rfl,S'.done (.inr (by omega))⟩⟩
    rw [zoc (by simpa using e1)];split
    ·exact wpS_pure ⟨rfl,.inr ⟨_,_,_,_,_,rfl,S',l1,by omega,by omega⟩⟩
    ·exact wpS_pure ⟨rfl,_,_,_,_,_,rfl,S',l1,by omega,by omega⟩
   ·rw [znH q];dsimp only;rw [zoc (by simp)];refine wpS_bind (zaB hx ?_);have S':=S.pushA hx (S.ltB hx hy (by omega));by_cases e1:ia+1+1=a.size
    ·rw [zod (by simpa using e1)];exact wpS_pure ⟨rfl,.inl ⟨_,rfl,S'.lastA e1 T.lst⟩⟩
    rw [zoc (by simpa using e1)];split
    ·exact wpS_pure ⟨rfl,.inr ⟨_,_,_,_,_,rfl,S',by omega,by omega,by omega⟩⟩
    ·exact wpS_pure ⟨rfl,_,_,_,_,_,rfl,S',by omega,by omega,by omega⟩
  ·rintro c st' ⟨rfl,out,ia,ib,ac,bc,rfl,S,l1,l2,l3⟩;exact⟨rfl,.inr ⟨_,_,_,_,_,rfl,S,l1,l2,by omega⟩⟩
  ·rintro c st' ⟨rfl,⟨o,e,ho⟩ | ⟨out,ia,ib,ac,bc,rfl,S,l1,l2,l3⟩⟩
   ·obtain⟨c1,c2⟩:=c;dsimp only at e ⊢;subst e;exact wpS_pure ⟨g,rfl,o,rfl,ho⟩
   dsimp only;refine wpS_bind (wpS_lift (wpAny_rule ⟨rfl,?_⟩));refine wpS_bind (wpS_mono (wpS_forRange (I:=fun j c st'=>∃ g,st'=zbv st g/\∃ out ia ib mg ac bc,c=(none,out,ia,ib,mg,ac,bc)/\AI kf a b out ia ib/\ia+1<a.size/\ib<b.size/\i+2<=ia+ib)
    (Q:=fun c st'=>∃ g,st'=zbv st g/\((∃ o,c.1=some o/\zer kf a b o)\/∃ out ia ib mg ac bc,c=(none,out,ia,ib,mg,ac,bc)/\AI kf a b out ia ib/\ia+1<a.size/\ib<b.size/\i+2<=ia+ib)) ?_ ?_ ⟨g,rfl,out,ia,ib,_,_,_,rfl,S,l1,l2,by omega⟩) ?_)
   ·rintro j c st' _ hj ⟨g,rfl,out,ia,ib,mg,ac,bc,rfl,S,l1,l2,l3⟩;dsimp only
    revert mg
    refine zgl (fun _=>rfl) (fun mg=>?_);refine wpS_bind (wpS_modify ?_);obtain⟨y,hy⟩:=zaw (a:=b) (ia:=ib) l2;refine wpS_bind (zaB hy ?_);obtain⟨K,hK,cut⟩:=T.cutA (zaI hy) (bs:=ia) (n:=a.size-ia) (by omega);refine wpS_bind (zbz C (K:=K) hk (T.gb y (zaI hy)) cut (by omega) hK ?_);dsimp only;obtain⟨S1,hi,hKl⟩:=AI.galA T S hy l1 hK cut;refine zau (fun _=>?_) fun eK=>?_
    ·refine zau (fun e=>?_) fun e=>?_
     ·exact wpS_pure ⟨_,rfl,.inl ⟨_,rfl,S1.lastA (by simpa using e) T.lst⟩⟩
     have e4:ia+K+1≠a.size:=by simpa using e
     rw [zoc (by simp;omega)];generalize hI:ia+K=I at *;walk_at "loTail"
    ·obtain rfl:K=0:=by omega
     clear S1;have S1:=S;rw [Nat.add_zero] at hi;generalize ia=I at *;walk_at "loTail"
   ·rintro c st' ⟨g,rfl,out,ia,ib,mg,ac,bc,rfl,S,l1,l2,l3⟩;exact⟨g,rfl,.inr ⟨_,_,_,_,_,_,rfl,S,l1,l2,by omega⟩⟩
   ·rintro c st' ⟨g,rfl,⟨o,e,ho⟩ | ⟨out,ia,ib,mg,ac,bc,rfl,S,l1,l2,l3⟩⟩
    ·obtain⟨c1,c2⟩:=c;dsimp only at e ⊢;subst e;exact wpS_pure ⟨g,rfl,o,rfl,ho⟩
    dsimp only;exact wpS_bind (wpS_modify (wpS_pure ⟨_,rfl,_,_,_,_,rfl,S,l1,l2,by omega⟩))
 ·rintro c st' ⟨g,rfl,out,ia,ib,mg,rfl,S,l1,l2,l3⟩;omega
 ·rintro ⟨c1,c2⟩ st' ⟨g,rfl,o,rfl,ho⟩;exact wpS_pure (h o g ho)
end
section
variable {kf:Keyed->Int} {G:Keyed->Prop}
structure HI (kf:Keyed->Int) (a b out:Array Keyed) (na nb:Nat):Prop where
 m:MI (fun x=>- kf x) (a.toList++b.toList) out.toList (a.toList.take na).reverse (b.toList.take nb).reverse
variable {a b out:Array Keyed} {na nb k:Nat} {x y:Keyed}
theorem zfF (h:a[na]?=some x):(a.toList.take (na+1)).reverse=x::(a.toList.take na).reverse:=by
 rw [← zof] at h;obtain⟨h1,h2⟩:=znE.1 h;rw [List.take_succ_eq_append_getElem h1,h2,List.reverse_append]
 rfl
theorem zfO (h:k<=na):(a.extract k na).reverse.toList++(a.toList.take k).reverse=(a.toList.take na).reverse:=by
 rw [Array.toList_reverse,← List.reverse_append,Array.toList_extract,List.extract_eq_take_drop]
 congr 1
 conv=>rhs;rw [show na=k+(na-k) by omega,List.take_add]
theorem zc7:(a.extract 0 na).toList=a.toList.take na:=by
 rw [Array.toList_extract,List.extract_eq_take_drop,List.drop_zero]
 rfl
theorem HI.pushA (h:HI kf a b out (na+1) nb) (hx:a[na]?=some x) (hl:∀ y∈b.toList.take nb,kf y<kf x):HI kf a b (out.push x) na nb:=by
 have:=h.m
 rw [zfF hx] at this;refine⟨?_⟩;rw [Array.toList_push];exact this.stepA (xs:=[x]) fun z hz y hy=>by rw [znJ.1 hz];have:=hl y (List.mem_reverse.1 hy);omega
theorem HI.pushB (h:HI kf a b out na (nb+1)) (hx:b[nb]?=some x) (hl:∀ y∈a.toList.take na,kf y<kf x):HI kf a b (out.push x) na nb:=by
 have:=h.m
 rw [zfF hx] at this;refine⟨?_⟩;rw [Array.toList_push];exact this.stepB (xs:=[x]) fun z hz y hy=>by rw [znJ.1 hz];have:=hl y (List.mem_reverse.1 hy);omega
theorem HI.extA (h:HI kf a b out na nb) (hk:k<=na) (hl:∀ x∈(a.extract k na).toList,∀ y∈b.toList.take nb,kf y<kf x):HI kf a b (out++(a.extract k na).reverse) k nb:=by
 have:=h.m
 rw [← zfO hk] at this;refine⟨?_⟩;rw [Array.toList_append];exact this.stepA fun x hx y hy=>by rw [Array.toList_reverse,List.mem_reverse] at hx;have:=hl x hx y (List.mem_reverse.1 hy);omega
theorem HI.extB (h:HI kf a b out na nb) (hk:k<=nb) (hl:∀ x∈(b.extract k nb).toList,∀ y∈a.toList.take na,kf y<kf x):HI kf a b (out++(b.extract k nb).reverse) na k:=by
 have:=h.m
 rw [← zfO hk] at this;refine⟨?_⟩;rw [Array.toList_append];exact this.stepB fun x hx y hy=>by rw [Array.toList_reverse,List.mem_reverse] at hx;have:=hl x hx y (List.mem_reverse.1 hy);omega
theorem Res.back {base o:List Keyed} (h:Res (fun x=>- kf x) base o):Res kf base o.reverse:=by
 refine⟨?_,(List.reverse_perm _).trans h.2⟩;unfold Ord;rw [List.pairwise_reverse];exact h.1.imp fun q=>by dsimp only at q;omega
theorem HI.done (h:HI kf a b out na nb) (he:na=0\/nb=0):zer kf a b (a.extract 0 na++b.extract 0 nb++out.reverse):=by
 unfold zer
 have:=(h.m.endBA fun x hx y hy=>by
  rcases he with rfl | rfl
  ·cases hx
  ·cases hy).back
 rw [List.reverse_append,List.reverse_append,List.reverse_reverse,List.reverse_reverse] at this;rw [Array.toList_append,Array.toList_append,zc7,zc7,Array.toList_reverse,znU];exact this
theorem HI.firstB (h:HI kf a b out na nb) (he:nb=1) (hl:∀ y,b[0]?=some y->∀ x∈a.toList,kf y<kf x):zer kf a b (b.extract 0 nb++a.extract 0 na++out.reverse):=by
 unfold zer
 have:=(h.m.endAB fun x hx y hy=>by
  subst he;rw [List.mem_reverse] at hx hy
  have:b[0]?=some y:=by
   rw [← zof]
   revert hy
   cases b.toList with
   | nil=>intro hy;cases hy
   | cons z r=>intro hy;simp at hy;subst hy;rfl
  have:=hl y this x (List.mem_of_mem_take hx)
  omega).back
 rw [List.reverse_append,List.reverse_append,List.reverse_reverse,List.reverse_reverse] at this;rw [Array.toList_append,Array.toList_append,zc7,zc7,Array.toList_reverse,znU];exact this
theorem zd2 {i:Nat} (h:x∈a.toList.take i):∃ k,k<i/\a[k]?=some x:=by
 rw [← zc7] at h;obtain⟨k,_,k2,k3⟩:=zbc h;exact⟨k,k2,k3⟩
theorem HI.start (T:Two kf G a b) (h:a[a.size-1]?=some x):HI kf a b #[x] (a.size-1) b.size:=by
 refine⟨?_⟩;have na:=T.na;have e:=zfF h;rw [show a.size-1+1=a.size by omega,show a.toList.take a.size=a.toList by rw [← zoe];exact znV] at e;have eb:b.toList.take b.size=b.toList:=by rw [← zoe];exact znV
 rw [eb];have rv:∀ {l:List Keyed},Ord kf l->Ord (fun x=>- kf x) l.reverse:=fun hl=>by unfold Ord;rw [List.pairwise_reverse];exact hl.imp fun q=>by dsimp only;omega
 have s:=rv T.sa;rw [e] at s;have s':=List.pairwise_cons.1 s;refine⟨List.pairwise_singleton _ _,s'.2,rv T.sb,fun z hz y hy=>?_,fun z hz y hy=>?_,?_⟩
 ·rw [znJ.1 hz];exact s'.1 y hy
 ·rw [znJ.1 hz];have:=T.lst x h y (List.mem_reverse.1 hy);omega
 ·show (x::((a.toList.take (a.size-1)).reverse++b.toList.reverse)).Perm _;rw [← List.cons_append,← e];exact List.Perm.append (List.reverse_perm _) (List.reverse_perm _)
theorem HI.ltA (T:Two kf G a b) (hx:a[na]?=some x) (l:kf x<kf y):∀ z∈a.toList.take (na+1),kf z<kf y:=fun z hz=>by
 obtain⟨k,h1,h2⟩:=zd2 hz;by_cases q:k=na
 ·subst q;rw [hx] at h2;cases h2;exact l
 ·exact Int.lt_trans (T.sa.arr (by omega) h2 hx) l
theorem HI.ltB (T:Two kf G a b) (hy:b[nb]?=some y) (l:kf y<kf x):∀ z∈b.toList.take (nb+1),kf z<kf x:=fun z hz=>by
 obtain⟨k,h1,h2⟩:=zd2 hz;by_cases q:k=nb
 ·subst q;rw [hy] at h2;cases h2;exact l
 ·exact Int.lt_trans (T.sb.arr (by omega) h2 hy) l
theorem HI.galB {L:Nat} (T:Two kf G a b) (S:HI kf a b out na nb) (hna:0<na) (hx:a[na-1]?=some x) (hnb:0<nb) (hL:L<=nb)
  (cut:∀ i,i<nb->∃ y,b[0+i]?=some y/\G y/\kf y≠kf x/\(kf y<kf x↔i<L)) :
  HI kf a b (out++(b.extract L nb).reverse) na L/\(∀ z∈b.toList.take L,kf z<kf x)/\1<=L:=by
 have at_:∀ k y,k<nb->b[k]?=some y->kf y≠kf x/\(kf y<kf x↔k<L):=fun k y k1 k3=>by
  obtain⟨x',e,_,ne,z⟩:=cut k k1;rw [Nat.zero_add,k3] at e;cases e;exact⟨ne,z⟩
 refine⟨S.extB (k:=L) hL fun z hz u hu=>?_,fun z hz=>?_,?_⟩
 ·obtain⟨k,k1,k2,k3⟩:=zbc hz;obtain⟨ne,w⟩:=at_ k z k2 k3;refine HI.ltA (na:=na-1) T hx ((Int.lt_or_lt_of_ne ne).resolve_left fun q=>absurd (w.1 q) (Nat.not_lt.2 k1)) u ?_;rw [Nat.sub_add_cancel hna];exact hu
 ·obtain⟨k,k1,k3⟩:=zd2 hz;exact (at_ k z (znR k1 hL) k3).2.2 k1
 ·obtain⟨y0,e⟩:=zaw (a:=b) (ia:=0) T.nb;exact (at_ 0 y0 hnb e).2.1 (T.hd y0 e x (zaI hx))
theorem HI.galA {K:Nat} (T:Two kf G a b) (S:HI kf a b out na nb) (hnb:0<nb) (hy:b[nb-1]?=some y) (hK:K<=na)
  (cut:∀ i,i<na->∃ x,a[0+i]?=some x/\G x/\kf x≠kf y/\(kf x<kf y↔i<K)) :
  HI kf a b (out++(a.extract K na).reverse) K nb/\∀ z∈a.toList.take K,kf z<kf y:=by
 have at_:∀ k x,k<na->a[k]?=some x->kf x≠kf y/\(kf x<kf y↔k<K):=fun k x k1 k3=>by
  obtain⟨x',e,_,ne,z⟩:=cut k k1;rw [Nat.zero_add,k3] at e;cases e;exact⟨ne,z⟩
 refine⟨S.extA (k:=K) hK fun z hz u hu=>?_,fun z hz=>?_⟩
 ·obtain⟨k,k1,k2,k3⟩:=zbc hz;obtain⟨ne,w⟩:=at_ k z k2 k3;refine HI.ltB (nb:=nb-1) T hy ((Int.lt_or_lt_of_ne ne).resolve_left fun q=>absurd (w.1 q) (Nat.not_lt.2 k1)) u ?_;rw [Nat.sub_add_cancel hnb];exact hu
 ·obtain⟨k,k1,k3⟩:=zd2 hz;exact (at_ k z (znR k1 hK) k3).2.2 k1
theorem HI.pushA' (h:HI kf a b out na nb) (hn:0<na) (hx:a[na-1]?=some x) (hl:∀ y∈b.toList.take nb,kf y<kf x):HI kf a b (out.push x) (na-1) nb :=
 HI.pushA (by rw [Nat.sub_add_cancel hn];exact h) hx hl
theorem HI.pushB' (h:HI kf a b out na nb) (hn:0<nb) (hx:b[nb-1]?=some x) (hl:∀ y∈a.toList.take na,kf y<kf x):HI kf a b (out.push x) na (nb-1) :=
 HI.pushB (by rw [Nat.sub_add_cancel hn];exact h) hx hl
end
section
variable {M:Model} {A:Around} {E:Value->Shared->Prop} {s:Shared} {kf:Keyed->Int} {G:Keyed->Prop} {κ:SortKind}
set_option hygiene false in
local macro_rules | `(tactic| walk_at "hiEnd") => `(tactic| (
 refine wpS_bind (zaB hx ?_);have S4:=S3.pushA' (by omega) hx hi2;refine zau (fun e=>?_) fun e=>?_
 ·have e0:I-1=0:=by simpa using e
  exact wpS_pure ⟨_,rfl,.inl ⟨_,rfl,S4.done (.inl e0)⟩⟩
 have e2:I-1≠0:=by simpa using e
 refine zau (fun _=>?_) fun _=>?_
 ·exact wpS_pure ⟨_,rfl,.inr ⟨_,_,_,_,_,_,rfl,S4,by omega,by omega,by omega,by omega,by omega⟩⟩
 ·exact wpS_pure ⟨_,rfl,_,_,_,_,_,_,rfl,S4,by omega,by omega,by omega,by omega,by omega⟩))
set_option hygiene false in
local macro_rules | `(tactic| walk_at "hiTail") => `(tactic| (
 refine wpS_bind (zaB hy ?_);have S2:=S1.pushB' (by omega) hy hi;refine zau (fun e=>?_) fun e=>?_
 ·have e0:nb-1=1:=by simpa using e
  exact wpS_pure ⟨_,rfl,.inl ⟨_,rfl,S2.firstB e0 T.hd⟩⟩
 have e1:nb-1≠1:=by simpa using e
 obtain⟨x,hx⟩:=zaw (a:=a) (ia:=I-1) (by omega);refine wpS_bind (zaB hx ?_);obtain⟨L,hL,cutb⟩:=T.cutB (zaI hx) (bs:=0) (n:=nb-1) (by omega);refine wpS_bind (zbz C (K:=L) hk (T.ga x (zaI hx)) cutb (by omega) hL ?_);dsimp only;obtain⟨S3,hi2,hL1⟩:=HI.galB T S2 (by omega) hx (by omega) hL cutb;refine zau (fun _=>?_) fun eL=>?_
 ·refine zau (fun e=>?_) fun e=>?_
  ·have e0:L=1:=by simpa using e
   exact wpS_pure ⟨_,rfl,.inl ⟨_,rfl,S3.firstB e0 T.hd⟩⟩
  have e3:L≠1:=by simpa using e
  rw [zoc (by simp;omega)];walk_at "hiEnd"
 ·obtain rfl:L=nb-1:=by omega
  clear S3;have S3:=S2;walk_at "hiEnd"))
theorem zgz (C:Cmp M A E s kf G κ) {a b:Array Keyed} {st:SortSt} {Q:Array Keyed->SortSt->Prop} (hk:kindOf st=κ) (T:Two kf G a b) (h:∀ o g,zer kf a b o->Q o (zbv st g)):wpS M A E s (ziP a b) Q st:=by
 have ta:=T.na;have tb:=T.nb;obtain⟨x0,hx0⟩:=zaw (a:=a) (ia:=a.size-1) (by omega);refine wpS_bind (wpS_lift (wpAny_rule ⟨rfl,?_⟩));refine wpS_bind (zaB hx0 ?_);have S:=HI.start T hx0;by_cases h1:a.size-1=0
 ·rw [zod (by simpa using h1)];exact wpS_pure (h _ (gallopOf st) (S.done (.inl h1)))
 by_cases h2:b.size=1
 ·rw [zoc (by simpa using h1),zod (by simpa using h2)];exact wpS_pure (h _ (gallopOf st) (S.firstB h2 T.hd))
 rw [zoc (by simpa using h1),zoc (by simpa using h2)];refine wpS_bind (wpS_get ?_);refine wpS_bind (wpS_mono (wpS_forRange (I:=fun i c st'=>∃ g,st'=zbv st g/\∃ out na nb mg,c=(none,na,nb,out,mg)/\HI kf a b out na nb/\0<na/\1<nb/\na<a.size/\nb<=b.size/\na+nb+i+1<=a.size+b.size)
  (Q:=fun c st'=>∃ g,st'=zbv st g/\∃ o,c.1=some o/\zer kf a b o) ?_ ?_ ⟨gallopOf st,rfl,_,_,_,_,rfl,S,by omega,by omega,by omega,by omega,by omega⟩) ?_)
 ·rintro i c st' _ hi ⟨g,rfl,out,na,nb,mg,rfl,S,l1,l2,l3,l4,l5⟩;dsimp only;refine wpS_bind (wpS_mono (wpS_forRange (I:=fun j c st'=>st'=zbv st g/\∃ out na nb ac bc,c=(none,na,nb,out,ac,bc)/\HI kf a b out na nb/\0<na/\1<nb/\na<a.size/\nb<=b.size/\na+nb+i+1+j<=a.size+b.size)
   (Q:=fun c st'=>st'=zbv st g/\((∃ o,c.1=some o/\zer kf a b o)\/∃ out na nb ac bc,c=(none,na,nb,out,ac,bc)/\HI kf a b out na nb/\0<na/\1<nb/\na<a.size/\nb<=b.size/\na+nb+i+2<=a.size+b.size)) ?_ ?_ ⟨rfl,out,na,nb,0,0,rfl,S,l1,l2,l3,l4,by omega⟩) ?_)
  ·rintro j c st' _ hj ⟨rfl,out,na,nb,ac,bc,rfl,S,l1,l2,l3,l4,l5⟩;dsimp only;obtain⟨x,hx⟩:=zaw (a:=a) (ia:=na-1) (by omega);obtain⟨y,hy⟩:=zaw (a:=b) (ia:=nb-1) (by omega);refine wpS_bind (zaB hy ?_);refine wpS_bind (zaB hx ?_);refine wpS_bind (C y x _ _ (T.gb y (zaI hy)) (T.ga x (zaI hx)) (Ne.symm (T.ne x (zaI hx) y (zaI hy))) hk ?_);have hn:=T.ne x (zaI hx) y (zaI hy);by_cases q:kf y<kf x
   ·rw [znG q];dsimp only;rw [zod rfl];refine wpS_bind (zaB hx ?_);have S':=HI.pushA (na:=na-1) (by rw [show na-1+1=na by omega];exact S) hx fun z hz=>HI.ltB (nb:=nb-1) T hy q z (by rw [show nb-1+1=nb by omega];exact hz)
    refine zau (fun e=>?_) fun e=>?_
    ·have e0:na-1=0:=by simpa using e
     exact wpS_pure ⟨rfl,.inl ⟨_,rfl,S'.done (.inl e0)⟩⟩
    have e0:na-1≠0:=by simpa using e
    refine zau (fun e=>?_) fun e=>?_
    ·exact wpS_pure ⟨rfl,.inr ⟨_,_,_,_,_,rfl,S',by omega,by omega,by omega,by omega,by omega⟩⟩
    ·exact wpS_pure ⟨rfl,_,_,_,_,_,rfl,S',by omega,by omega,by omega,by omega,by omega⟩
   ·rw [znH q];dsimp only;rw [zoc (by simp)];refine wpS_bind (zaB hy ?_);have S':=HI.pushB (nb:=nb-1) (by rw [show nb-1+1=nb by omega];exact S) hy fun z hz=>HI.ltA (na:=na-1) T hx (by omega) z (by rw [show na-1+1=na by omega];exact hz)
    refine zau (fun e=>?_) fun e=>?_
    ·have e0:nb-1=1:=by simpa using e
     exact wpS_pure ⟨rfl,.inl ⟨_,rfl,S'.firstB e0 T.hd⟩⟩
    have e0:nb-1≠1:=by simpa using e
    refine zau (fun e=>?_) fun e=>?_
    ·exact wpS_pure ⟨rfl,.inr ⟨_,_,_,_,_,rfl,S',by omega,by omega,by omega,by omega,by omega⟩⟩
    ·exact wpS_pure ⟨rfl,_,_,_,_,_,rfl,S',by omega,by omega,by omega,by omega,by omega⟩
  ·rintro c st' ⟨rfl,out,na,nb,ac,bc,rfl,S,l1,l2,l3,l4,l5⟩;exact⟨rfl,.inr ⟨_,_,_,_,_,rfl,S,l1,l2,l3,l4,by omega⟩⟩
  ·rintro c st' ⟨rfl,⟨o,e,ho⟩ | ⟨out,na,nb,ac,bc,rfl,S,l1,l2,l3,l4,l5⟩⟩
   ·obtain⟨c1,c2⟩:=c;dsimp only at e ⊢;subst e;exact wpS_pure ⟨g,rfl,o,rfl,ho⟩
   dsimp only;refine wpS_bind (wpS_lift (wpAny_rule ⟨rfl,?_⟩));refine wpS_bind (wpS_mono (wpS_forRange (I:=fun j c st'=>∃ g,st'=zbv st g/\∃ out na nb mg ac bc,c=(none,na,nb,out,mg,ac,bc)/\HI kf a b out na nb/\0<na/\1<nb/\na<a.size/\nb<=b.size/\na+nb+i+2<=a.size+b.size)
    (Q:=fun c st'=>∃ g,st'=zbv st g/\((∃ o,c.1=some o/\zer kf a b o)\/∃ out na nb mg ac bc,c=(none,na,nb,out,mg,ac,bc)/\HI kf a b out na nb/\0<na/\1<nb/\na<a.size/\nb<=b.size/\na+nb+i+2<=a.size+b.size)) ?_ ?_ ⟨g,rfl,out,na,nb,_,_,_,rfl,S,l1,l2,l3,l4,by omega⟩) ?_)
   ·rintro j c st' _ hj ⟨g,rfl,out,na,nb,mg,ac,bc,rfl,S,l1,l2,l3,l4,l5⟩;dsimp only
    revert mg
    refine zgl (fun _=>rfl) (fun mg=>?_);refine wpS_bind (wpS_modify ?_);obtain⟨y,hy⟩:=zaw (a:=b) (ia:=nb-1) (by omega);refine wpS_bind (zaB hy ?_);obtain⟨K,hK,cut⟩:=T.cutA (zaI hy) (bs:=0) (n:=na) (by omega);refine wpS_bind (zbz C (K:=K) hk (T.gb y (zaI hy)) cut (by omega) hK ?_);dsimp only;obtain⟨S1,hi⟩:=HI.galA T S (by omega) hy hK cut;refine zau (fun _=>?_) fun eK=>?_
    ·refine zau (fun e=>?_) fun e=>?_
     ·have e0:K=0:=by simpa using e
      exact wpS_pure ⟨_,rfl,.inl ⟨_,rfl,S1.done (.inl e0)⟩⟩
     have e4:K≠0:=by simpa using e
     generalize hI:K=I at *;walk_at "hiTail"
    ·obtain rfl:K=na:=by omega
     clear S1;have S1:=S;generalize K=I at *;walk_at "hiTail"
   ·rintro c st' ⟨g,rfl,out,na,nb,mg,ac,bc,rfl,S,l1,l2,l3,l4,l5⟩;exact⟨g,rfl,.inr ⟨_,_,_,_,_,_,rfl,S,l1,l2,l3,l4,by omega⟩⟩
   ·rintro c st' ⟨g,rfl,⟨o,e,ho⟩ | ⟨out,na,nb,mg,ac,bc,rfl,S,l1,l2,l3,l4,l5⟩⟩
    ·obtain⟨c1,c2⟩:=c;dsimp only at e ⊢;subst e;exact wpS_pure ⟨g,rfl,o,rfl,ho⟩
    dsimp only;exact wpS_bind (wpS_modify (wpS_pure ⟨_,rfl,_,_,_,_,rfl,S,l1,l2,l3,l4,by omega⟩))
 ·rintro c st' ⟨g,rfl,out,ia,ib,mg,rfl,S,l1,l2,l3,l4,l5⟩;omega
 ·rintro ⟨c1,c2⟩ st' ⟨g,rfl,o,rfl,ho⟩;exact wpS_pure (h o g ho)
end
section
variable {M:Model} {A:Around} {E:Value->Shared->Prop} {s:Shared} {kf:Keyed->Int} {G:Keyed->Prop} {κ:SortKind}
structure Gd (kf:Keyed->Int) (G:Keyed->Prop) (xs:Array Keyed):Prop where
 g:∀ x∈xs.toList,G x
 nd:(xs.toList.map kf).Nodup
theorem Gd.perm {xs ys:Array Keyed} (h:Gd kf G xs) (p:ys.Perm xs):Gd kf G ys:=by
 have p:=Array.perm_iff_toList_perm.1 p;exact⟨fun x hx=>h.g x (p.mem_iff.1 hx),(p.map kf).nodup_iff.2 h.nd⟩
theorem Gd.ne {xs:Array Keyed} (h:Gd kf G xs) {i j:Nat} {x y:Keyed} (hij:i≠j) (hx:xs[i]?=some x) (hy:xs[j]?=some y):kf x≠kf y:=fun e=>by
 rw [← zof] at hx hy;have h1:(xs.toList.map kf)[i]?=some (kf x):=by rw [znB,hx];rfl
 have h2:(xs.toList.map kf)[j]?=some (kf x):=by rw [znB,hy,e];rfl
 obtain⟨a1,a2⟩:=znE.1 h1;obtain⟨b1,b2⟩:=znE.1 h2;exact hij ((List.getElem_inj h.nd).1 (a2.trans b2.symm))
theorem Gd.at {xs:Array Keyed} (h:Gd kf G xs) {i:Nat} {x:Keyed} (hx:xs[i]?=some x):G x:=h.g x (zaI hx)
def Seg (kf:Keyed->Int) (xs:Array Keyed) (lo hi:Nat):Prop:=∀ i j x y,lo<=i->i<j->j<hi->xs[i]?=some x->xs[j]?=some y->kf x<kf y
def Des (kf:Keyed->Int) (xs:Array Keyed) (lo hi:Nat):Prop:=∀ i j x y,lo<=i->i<j->j<hi->xs[i]?=some x->xs[j]?=some y->kf y<kf x
theorem Seg.one {xs:Array Keyed} {lo:Nat}:Seg kf xs lo (lo+1):=fun i j x y h1 h2 h3=>by omega
theorem Seg.more {xs:Array Keyed} {lo n:Nat} {x y:Keyed} (h:Seg kf xs lo n) (hn:lo<n) (hx:xs[n-1]?=some x) (hy:xs[n]?=some y) (l:kf x<kf y):Seg kf xs lo (n+1):=fun i j u v h1 h2 h3 hu hv=>by
 by_cases hj:j<n
 ·exact h i j u v h1 h2 hj hu hv
 ·obtain rfl:j=n:=by omega
  rw [hy] at hv;cases hv;by_cases hi:i=j-1
  ·subst hi;rw [hx] at hu;cases hu;exact l
  ·exact Int.lt_trans (h i (j-1) u x h1 (by omega) (by omega) hu hx) l
theorem Des.more {xs:Array Keyed} {lo n:Nat} {x y:Keyed} (h:Des kf xs lo n) (hn:lo<n) (hx:xs[n-1]?=some x) (hy:xs[n]?=some y) (l:kf y<kf x):Des kf xs lo (n+1):=fun i j u v h1 h2 h3 hu hv=>by
 by_cases hj:j<n
 ·exact h i j u v h1 h2 hj hu hv
 ·obtain rfl:j=n:=by omega
  rw [hy] at hv;cases hv;by_cases hi:i=j-1
  ·subst hi;rw [hx] at hu;cases hu;exact l
  ·exact Int.lt_trans l (h i (j-1) u x h1 (by omega) (by omega) hu hx)
theorem Seg.congr {xs ys:Array Keyed} {lo hi:Nat} (h:Seg kf xs lo hi) (e:∀ k,lo<=k->k<hi->ys[k]?=xs[k]?):Seg kf ys lo hi:=fun i j x y h1 h2 h3 hx hy =>
 h i j x y h1 h2 h3 (by rw [← e i h1 (by omega)];exact hx) (by rw [← e j (by omega) h3];exact hy)
theorem zct (C:Cmp M A E s kf G κ) {st:SortSt} {i j:Nat} {x y:Keyed} {Q:Option Bool->SortSt->Prop} (hk:kindOf st=κ) (hg:Gd kf G (arrOf st)) (hx:(arrOf st)[i]?=some x) (hy:(arrOf st)[j]?=some y) (ne:i≠j)
  (h:Q (some (decide (kf x<kf y))) st):wpS M A E s (ltAt' i j) Q st:=by
 rw [ltAt'_eq];refine wpS_bind (wpS_get ?_);refine wpS_bind (zaB hx (wpS_bind (zaB hy ?_)));exact C x y st Q (hg.at hx) (hg.at hy) (hg.ne ne hx hy) hk h
theorem ze8 (C:Cmp M A E s kf G κ) {st:SortSt} {lo nrem:Nat} {Q:Option Nat->SortSt->Prop} (hk:kindOf st=κ) (hg:Gd kf G (arrOf st)) (hn:1<=nrem) (hz:lo+nrem<=(arrOf st).size)
  (h:∀ xs n,1<=n->n<=nrem->xs.Perm (arrOf st)->(∀ k,k<lo->xs[k]?=(arrOf st)[k]?)->Seg kf xs lo (lo+n)->Q (some n) (setArr st xs)):wpS M A E s (countRun' lo nrem) Q st:=by
 refine wpS_bind (wpS_mono (wpS_forRange (I:=fun i c st'=>st'=st/\c=(none,i)/\Seg kf (arrOf st) lo (lo+i))
  (Q:=fun c st'=>st'=st/\∃ n,c=(none,n)/\1<=n/\n<=nrem/\Seg kf (arrOf st) lo (lo+n)/\(n<nrem->∀ x y,(arrOf st)[lo+n-1]?=some x->(arrOf st)[lo+n]?=some y->kf y<kf x)) ?_ ?_ ⟨rfl,rfl,Seg.one⟩) ?_)
 ·rintro i c st' h1 h2 ⟨rfl,rfl,S⟩;dsimp only;obtain⟨x,hx⟩:=zaw (a:=arrOf st') (ia:=lo+i-1) (by omega);obtain⟨y,hy⟩:=zaw (a:=arrOf st') (ia:=lo+i) (by omega);refine wpS_bind (zct C hk hg hy hx (by omega) ?_);have ne:=hg.ne (by omega) hx hy;by_cases q:kf y<kf x
  ·rw [znG q];dsimp only;rw [zod rfl];refine wpS_pure ⟨rfl,i,rfl,h1,by omega,S,fun _ x' y' hx' hy'=>?_⟩;rw [hx] at hx';rw [hy] at hy';cases hx';cases hy';exact q
  ·rw [znH q];dsimp only;rw [zoc (by simp)];exact wpS_pure ⟨rfl,rfl,S.more (by omega) hx hy (by omega)⟩
 ·rintro c st' ⟨rfl,rfl,S⟩;rw [show max 1 nrem=nrem by omega] at S ⊢;exact⟨rfl,_,rfl,hn,znQ _,S,fun z=>by omega⟩
 ·rintro c st' ⟨rfl,n,rfl,n1,n2,S,D⟩;dsimp only;refine zau (fun e=>wpS_pure (h (arrOf st') n n1 n2 (Array.Perm.refl _) (fun _ _=>rfl) S)) fun e=>?_
  have hlt:n<nrem:=by
   have:n≠nrem:=by simpa using e
   omega
  refine zau (fun e=>?_) fun e=>?_
  ·obtain⟨x,hx⟩:=zaw (a:=arrOf st') (ia:=lo) (by omega);obtain⟨y,hy⟩:=zaw (a:=arrOf st') (ia:=lo+n-1) (by omega);refine wpS_bind (zct C hk hg hx hy (by omega) ?_);rw [znG (S lo (lo+n-1) x y (znQ _) (by omega) (by omega) hx hy)];dsimp only;rw [zod rfl];exact wpS_pure (h (arrOf st') n n1 n2 (Array.Perm.refl _) (fun _ _=>rfl) S)
  obtain rfl:n=1:=by omega
  have D:=D hlt;refine wpS_bind (wpS_lift (wpAny_rule ⟨rfl,?_⟩));refine wpS_bind (wpS_mono (wpS_forRange (I:=fun i c st''=>st''=st'/\c=(none,i,0)/\Des kf (arrOf st') lo (lo+i))
   (Q:=fun c st''=>st''=st'/\∃ n,c=(none,n,0)/\2<=n/\n<=nrem/\Des kf (arrOf st') lo (lo+n)) ?_ ?_ ⟨rfl,rfl,fun i j x y h1 h2 h3 hx hy=>?_⟩) ?_)
  ·rintro i c st'' h1 h2 ⟨rfl,rfl,S⟩;dsimp only;obtain⟨x,hx⟩:=zaw (a:=arrOf st'') (ia:=lo+i-1) (by omega);obtain⟨y,hy⟩:=zaw (a:=arrOf st'') (ia:=lo+i) (by omega);refine wpS_bind (zct C hk hg hy hx (by omega) ?_);have ne:=hg.ne (by omega) hx hy;by_cases q:kf y<kf x
   ·rw [znG q];dsimp only;rw [zod rfl,zoc (by omega)];exact wpS_pure ⟨rfl,rfl,S.more (by omega) hx hy q⟩
   ·rw [znH q];dsimp only;rw [zoc (by simp)];refine wpS_bind (zct C hk hg hx hy (by omega) ?_);rw [znG (show kf x<kf y by omega)];dsimp only;rw [zod rfl];exact wpS_pure ⟨rfl,i,rfl,by omega,by omega,S⟩
  ·rintro c st'' ⟨rfl,rfl,S⟩;rw [show max (1+1) nrem=nrem by omega] at S ⊢;exact⟨rfl,_,rfl,by omega,znQ _,S⟩
  ·obtain rfl:i=lo:=by omega
   obtain rfl:j=i+1:=by omega
   exact D x y hx hy
  ·rintro c st'' ⟨rfl,n,rfl,m1,m2,DS⟩;dsimp only;rw [zoc (by omega)];refine wpS_bind (wpS_modify ?_);show wpS M A E s _ Q (setArr st'' (mirror (arrOf st'') lo (lo+n) ((lo+n-lo) / 2)));have mp:=mirror_perm (arrOf st'') lo (lo+n) ((lo+n-lo) / 2);have me:=getElem?_mirror_all (xs:=arrOf st'') (i:=lo) (j:=lo+n) (by omega);generalize mirror (arrOf st'') lo (lo+n) ((lo+n-lo) / 2)=xs at mp me;have gx:=hg.perm mp;have sz:=mp.size_eq;have keep:∀ k,k<lo->xs[k]?=(arrOf st'')[k]?:=fun k hk=>by rw [me,zoc (by omega)]
   have up:Seg kf xs lo (lo+n):=fun i j x y h1 h2 h3 hx hy=>by
    rw [me,zod (by omega)] at hx hy;exact DS _ _ _ _ (by omega) (by omega) (by omega) hy hx
   refine wpS_bind (wpS_mono (wpS_forRange (I:=fun i c st'=>st'=setArr st'' xs/\c=(none,i)/\Seg kf xs lo (lo+i))
    (Q:=fun c st'=>st'=setArr st'' xs/\∃ n,c=(none,n)/\1<=n/\n<=nrem/\Seg kf xs lo (lo+n)) ?_ ?_ ⟨rfl,rfl,up⟩) ?_)
   ·rintro i c st' h1 h2 ⟨rfl,rfl,S⟩;dsimp only;obtain⟨x,hx⟩:=zaw (a:=xs) (ia:=lo+i-1) (by omega);obtain⟨y,hy⟩:=zaw (a:=xs) (ia:=lo+i) (by omega);refine wpS_bind (zct C hk gx hy hx (by omega) ?_);have ne:=gx.ne (by omega) hx hy;by_cases q:kf y<kf x
    ·rw [znG q];dsimp only;rw [zod rfl];exact wpS_pure ⟨rfl,i,rfl,by omega,by omega,S⟩
    ·rw [znH q];dsimp only;rw [zoc (by simp)];exact wpS_pure ⟨rfl,rfl,S.more (by omega) hx hy (by omega)⟩
   ·rintro c st' ⟨rfl,rfl,S⟩;rw [show max n nrem=nrem by omega] at S ⊢;exact⟨rfl,_,rfl,hn,znQ _,S⟩
   ·rintro c st' ⟨rfl,n,rfl,n1,n2,S⟩;exact wpS_pure (h xs n n1 n2 mp keep S)
theorem zdP (C:Cmp M A E s kf G κ) {st:SortSt} {lo n ok:Nat} {Q:Bool->SortSt->Prop} (hk:kindOf st=κ) (hg:Gd kf G (arrOf st)) (hok:1<=ok) (hon:ok<=n) (hz:lo+n<=(arrOf st).size) (hs:Seg kf (arrOf st) lo (lo+ok))
  (h:∀ xs,xs.Perm (arrOf st)->(∀ k,k<lo->xs[k]?=(arrOf st)[k]?)->Seg kf xs lo (lo+n)->Q true (setArr st xs)):wpS M A E s (binarySort' lo n ok) Q st:=by
 refine wpS_bind (wpS_mono (wpS_forRange (I:=fun k c st'=>∃ xs,st'=setArr st xs/\c=(none,())/\xs.Perm (arrOf st)/\(∀ k,k<lo->xs[k]?=(arrOf st)[k]?)/\Seg kf xs lo (lo+k))
  (Q:=fun c st'=>∃ xs,st'=setArr st xs/\c=(none,())/\xs.Perm (arrOf st)/\(∀ k,k<lo->xs[k]?=(arrOf st)[k]?)/\Seg kf xs lo (lo+n)) ?_ ?_ ⟨arrOf st,rfl,rfl,Array.Perm.refl _,fun _ _=>rfl,by rw [show max ok 1=ok by omega];exact hs⟩) ?_)
 ·rintro k c st' h1 h2 ⟨xs,rfl,rfl,pm,keep,S⟩;have gx:=hg.perm pm;have sz:=pm.size_eq;obtain⟨y,hy⟩:=zaw (a:=xs) (ia:=lo+k) (by omega);refine wpS_bind (wpS_mono (wpS_forRange (I:=fun i c st'=>st'=setArr st xs/\∃ l r,c=(none,l,r)/\l<=r/\r<=k/\r-l<=k-i/\(∀ i x,i<l->xs[lo+i]?=some x->kf x<kf y)/\(∀ i x,r<=i->i<k->xs[lo+i]?=some x->kf y<kf x))
   (Q:=fun c st'=>st'=setArr st xs/\∃ l r,c=(none,l,r)/\l<=k/\(∀ i x,i<l->xs[lo+i]?=some x->kf x<kf y)/\(∀ i x,l<=i->i<k->xs[lo+i]?=some x->kf y<kf x)) ?_ ?_ ⟨rfl,0,k,rfl,by omega,by omega,by omega,fun i x hi=>by omega,fun i x h1 h2=>by omega⟩) ?_)
  ·rintro i c st' g1 g2 ⟨rfl,l,r,rfl,a1,a2,a3,a4,a5⟩;dsimp only;refine zau (fun e=>?_) fun e=>?_
   ·obtain rfl:l=r:=by omega
    exact wpS_pure ⟨rfl,l,l,rfl,a2,a4,a5⟩
   obtain⟨x,hx⟩:=zaw (a:=xs) (ia:=lo+(l+r) / 2) (by omega);refine wpS_bind (zct C hk gx hy hx (by omega) ?_);have ne:=gx.ne (by omega) hx hy;by_cases q:kf y<kf x
   ·rw [znG q];dsimp only;rw [zod rfl];refine wpS_pure ⟨rfl,l,(l+r) / 2,rfl,by omega,by omega,by omega,a4,fun i z z1 z2 hz=>?_⟩;by_cases w:i=(l+r) / 2
    ·subst w;rw [hx] at hz;cases hz;exact q
    ·exact Int.lt_trans q (S _ _ x z (by omega) (show lo+(l+r) / 2<lo+i by omega) (by omega) hx hz)
   ·rw [znH q];dsimp only;rw [zoc (by simp)];refine wpS_pure ⟨rfl,(l+r) / 2+1,r,rfl,by omega,by omega,by omega,fun i z z1 hz=>?_,a5⟩;by_cases w:i=(l+r) / 2
    ·subst w;rw [hx] at hz;cases hz;omega
    ·have:=S _ _ z x (by omega) (show lo+i<lo+(l+r) / 2 by omega) (by omega) hz hx
     omega
  ·rintro c st' ⟨rfl,l,r,rfl,a1,a2,a3,a4,a5⟩;obtain rfl:l=r:=by omega
   exact⟨rfl,l,l,rfl,a2,a4,a5⟩
  ·rintro c st' ⟨rfl,l,r,rfl,a2,a4,a5⟩;dsimp only;refine wpS_bind (wpS_modify ?_);show wpS M A E s _ _ (setArr st (bubble xs (lo+k) (lo+k-(lo+l))));have bp:=bubble_perm xs (lo+k) (lo+k-(lo+l));have be:=getElem?_bubble (xs:=xs) (src:=lo+k) (by omega) (lo+k-(lo+l)) (by omega);generalize bubble xs (lo+k) (lo+k-(lo+l))=ys at bp be;rw [show lo+k-(lo+k-(lo+l))=lo+l by omega] at be;refine wpS_pure ⟨ys,rfl,rfl,bp.trans pm,fun k' hk'=>?_,fun i j u v i1 i2 i3 hu hv=>?_⟩
   ·rw [be,zoc (by omega),zoc (by omega)];exact keep k' hk'
   ·rw [be] at hu hv;have lw:∀ i x,lo<=i->i<lo+l->xs[i]?=some x->kf x<kf y:=fun i x z1 z2 hx=>a4 (i-lo) x (by omega) (by rw [show lo+(i-lo)=i by omega];exact hx)
    have hw:∀ i x,lo+l<=i->i<lo+k->xs[i]?=some x->kf y<kf x:=fun i x z1 z2 hx=>a5 (i-lo) x (by omega) (by omega) (by rw [show lo+(i-lo)=i by omega];exact hx)
    split at hu <;> split at hv
    ·omega
    ·rw [hy] at hu;cases hu;split at hv
     ·exact hw _ _ (by omega) (by omega) hv
     ·omega
    ·rw [hy] at hv;cases hv;split at hu
     ·omega
     ·exact lw _ _ (by omega) (by omega) hu
    ·split at hu <;> split at hv
     all_goals first
      | (exfalso;omega)
      | exact S _ _ _ _ (by omega) (by omega) (by omega) hu hv
 ·rintro c st' ⟨xs,rfl,rfl,pm,keep,S⟩;rw [show max (max ok 1) n=n by omega] at S;exact⟨xs,rfl,rfl,pm,keep,S⟩
 ·rintro c st' ⟨xs,rfl,rfl,pm,keep,S⟩;exact wpS_pure (h xs pm keep S)
end
section
variable {M:Model} {A:Around} {E:Value->Shared->Prop} {s:Shared} {kf:Keyed->Int} {G:Keyed->Prop} {κ:SortKind}
theorem zdV (b:Nat):∀ (l:List Keyed) (n:Nat) (xs:Array Keyed) (k:Nat),b+n+l.length<=xs.size ->
  ((l.zipIdx n).foldl (fun a p=>a.setIfInBounds (b+p.2) p.1) xs)[k]?=if b+n<=k/\k<b+n+l.length then l[k-(b+n)]? else xs[k]?
 | [],n,xs,k,h=>by rw [zoc (by simp)];rfl
 | x::l,n,xs,k,h=>by
  rw [zob] at h;rw [List.zipIdx_cons,List.foldl_cons,zdV b l (n+1) _ k (by rw [Array.size_setIfInBounds];omega)];rw [zob];by_cases h1:b+(n+1)<=k/\k<b+(n+1)+l.length
  ·rw [zod h1,zod (by omega),show k-(b+n)=k-(b+(n+1))+1 by omega,List.getElem?_cons_succ]
  ·rw [zoc h1];by_cases h2:k=b+n
   ·subst h2;rw [zod (by omega),Array.getElem?_setIfInBounds_self_of_lt (by omega),Nat.sub_self,List.getElem?_cons_zero]
   ·rw [zoc (by omega),Array.getElem?_setIfInBounds_ne (by omega)]
theorem zdW {b:Nat} {l:List Keyed} {xs:Array Keyed} (h:b+l.length<=xs.size):((l.zipIdx 0).foldl (fun a p=>a.setIfInBounds (b+p.2) p.1) xs).toList=xs.toList.take b++(l++xs.toList.drop (b+l.length)):=by
 have hx:xs.toList.length=xs.size:=zoe
 apply List.ext_getElem?
 intro k;rw [zof,zdV b l 0 xs k (by omega),List.getElem?_append,znY,hx,Nat.min_eq_left (by omega),List.getElem?_append,List.getElem?_take,List.getElem?_drop];by_cases h1:k<b
 ·rw [zoc (by omega),zod h1,zod h1,zof]
 ·rw [zoc h1];by_cases h2:k<b+l.length
  ·rw [zod (by omega),zod (by omega)];rfl
  ·rw [zoc (by omega),zoc (by omega),zof]
   congr 1
   omega
theorem zk4 {σ:Type} {st st':σ} {Q:PUnit->σ->Prop} (h:Q ⟨⟩ st'):wpS M A E s (set st':StateT σ Sem PUnit) Q st:=by
 unfold wpS;rw [StateT.run_set];exact wpAny_pure ⟨rfl,h⟩
theorem zhh {X:Array Keyed} {i j k:Nat} (hj:j<=X.size) (hk:i+k<j):(X.extract i j)[k]?=X[i+k]?:=by
 rw [Array.getElem?_extract,zod (by omega)]
theorem zdz {X:Array Keyed} {i j:Nat} (hj:j<=X.size):(X.extract i j).size=j-i:=by rw [Array.size_extract];omega
theorem Seg.ext {X:Array Keyed} {i j:Nat} (h:Seg kf X i j) (hj:j<=X.size):Ord kf (X.extract i j).toList:=Ord.ofArr fun u v x y huv hx hy=>by
 have h1:=(Array.getElem?_eq_some_iff.1 hx).1;have h2:=(Array.getElem?_eq_some_iff.1 hy).1;rw [zdz hj] at h1 h2;rw [zhh hj (by omega)] at hx hy;exact h _ _ x y (by omega) (show i+u<i+v by omega) (by omega) hx hy
theorem Seg.sub {X:Array Keyed} {i j i' j':Nat} (h:Seg kf X i j) (h1:i<=i') (h2:j'<=j):Seg kf X i' j':=fun u v x y a b c=>h u v x y (by omega) b (by omega)
theorem Seg.merge {X o:Array Keyed} {sa sb nb K L:Nat} (s1:Seg kf X sa sb) (s2:Seg kf X sb (sb+nb)) (hK:sa+K<sb) (hL:L<=nb) (hL1:1<=L) (hz:sb+nb<=X.size)
  (ca:∀ i x y,sa<=i->i<sa+K->X[i]?=some x->X[sb]?=some y->kf x<kf y) (cb:∀ j x y,sb+L<=j->j<sb+nb->X[sb-1]?=some x->X[j]?=some y->kf x<kf y)
  (R:zer kf (X.extract (sa+K) sb) (X.extract sb (sb+L)) o):((o.toList.zipIdx 0).foldl (fun a p=>a.setIfInBounds (sa+K+p.2) p.1) X).Perm X /\
  (∀ k,k<sa\/sb+nb<=k->((o.toList.zipIdx 0).foldl (fun a p=>a.setIfInBounds (sa+K+p.2) p.1) X)[k]?=X[k]?)/\Seg kf ((o.toList.zipIdx 0).foldl (fun a p=>a.setIfInBounds (sa+K+p.2) p.1) X) sa (sb+nb):=by
 have hl:o.toList.length=sb-(sa+K)+L:=by
  have:=R.2.length_eq
  rw [znK,zoe (xs:=X.extract _ _),zoe (xs:=X.extract _ _),zdz (by omega),zdz (by omega)] at this;omega
 have hlt:=zdW (b:=sa+K) (l:=o.toList) (xs:=X) (by omega);have hat:=fun k=>zdV (sa+K) o.toList 0 X k (by omega)
 rw [hl] at hlt hat;generalize (o.toList.zipIdx 0).foldl (fun a p=>a.setIfInBounds (sa+K+p.2) p.1) X=Y at hlt hat;refine⟨?_,fun k hk=>?_,?_⟩
 ·rw [Array.perm_iff_toList_perm,hlt];have e1:=zcR (a:=X) (ia:=sa+K) (k:=sb-(sa+K));have e2:=zcR (a:=X) (ia:=sb) (k:=L);rw [show sa+K+(sb-(sa+K))=sb by omega] at e1
  conv=>rhs;rw [← List.take_append_drop (sa+K) X.toList,← e1,← e2,← znU (as:=(X.extract (sa+K) sb).toList)]
  rw [show sa+K+(sb-(sa+K)+L)=sb+L by omega];exact List.Perm.append_left _ (List.Perm.append_right _ R.2)
 ·rw [hat,zoc (by omega)]
 ·have mo:∀ k x,k<sb-(sa+K)+L->o.toList[k]?=some x->(∃ i,sa+K<=i/\i<sb/\X[i]?=some x)\/(∃ i,sb<=i/\i<sb+L/\X[i]?=some x):=fun k x _ hx=>by
   have:=R.2.mem_iff.1 (znF hx)
   rcases znL.1 this with q | q
   ·exact .inl (zbc q)
   ·exact .inr (zbc q)
  obtain⟨y0,hy0⟩:=zaw (a:=X) (ia:=sb) (by omega);obtain⟨xl,hxl⟩:=zaw (a:=X) (ia:=sb-1) (by omega);have lo1:∀ i x,sb<=i->i<sb+nb->X[i]?=some x->kf y0<=kf x:=fun i x a b hx=>by
   by_cases q:i=sb
   ·subst q;rw [hy0] at hx;cases hx;exact Int.le_refl _
   ·exact Int.le_of_lt (s2 sb i y0 x (znQ _) (by omega) b hy0 hx)
  have hi1:∀ i x,sa<=i->i<sb->X[i]?=some x->kf x<=kf xl:=fun i x a b hx=>by
   by_cases q:i=sb-1
   ·subst q;rw [hxl] at hx;cases hx;exact Int.le_refl _
   ·exact Int.le_of_lt (s1 i (sb-1) x xl a (by omega) (by omega) hx hxl)
  intro i j x y a b c hx hy;rw [hat] at hx hy;split at hx <;> split at hy
  ·rw [Nat.add_zero] at hx hy;exact R.1.arr (a:=o) (i:=i-(sa+K)) (j:=j-(sa+K)) (by omega) (by rw [← zof];exact hx) (by rw [← zof];exact hy)
  ·rcases mo _ x (by omega) hx with ⟨u,u1,u2,u3⟩ | ⟨u,u1,u2,u3⟩
   ·exact Int.lt_of_le_of_lt (hi1 u x (by omega) u2 u3) (cb j xl y (by omega) c hxl hy)
   ·exact s2 u j x y u1 (by omega) c u3 hy
  ·rcases mo _ y (by omega) hy with ⟨u,u1,u2,u3⟩ | ⟨u,u1,u2,u3⟩
   ·exact s1 i u x y a (by omega) u2 hx u3
   ·exact Int.lt_of_lt_of_le (ca i x y0 a (by omega) hx hy0) (lo1 u y u1 (by omega) u3)
  ·by_cases q1:i<sa+K
   ·by_cases q2:j<sa+K
    ·exact s1 i j x y a b (by omega) hx hy
    ·exact Int.lt_of_lt_of_le (ca i x y0 a q1 hx hy0) (lo1 j y (by omega) c hy)
   ·exact s2 i j x y (by omega) b c hx hy
theorem zgy (C:Cmp M A E s kf G κ) {st:SortSt} {i sa na p sb nb p':Nat} {Q:Bool->SortSt->Prop} (hk:kindOf st=κ) (hf:failedOf st=none) (hg:Gd kf G (arrOf st)) (h1:(pendingOf st)[i]?=some (sa,na,p)) (h2:(pendingOf st)[i+1]?=some (sb,nb,p'))
  (hb:sb=sa+na) (n1:1<=na) (n2:1<=nb) (hz:sb+nb<=(arrOf st).size) (s1:Seg kf (arrOf st) sa sb) (s2:Seg kf (arrOf st) sb (sb+nb))
  (h:∀ xs g,xs.Perm (arrOf st)->(∀ k,k<sa\/sb+nb<=k->xs[k]?=(arrOf st)[k]?)->Seg kf xs sa (sb+nb)->Q true (SortSt.mk' κ xs (((pendingOf st).setIfInBounds i (sa,na+nb,p)).eraseIdxIfInBounds (i+1)) g none)):wpS M A E s (mergeAt' i) Q st:=by
 refine wpS_bind (wpS_get ?_);rw [h1,h2];dsimp only;refine wpS_bind (zk4 ?_);obtain⟨y0,hy0⟩:=zaw (a:=arrOf st) (ia:=sb) (by omega);refine wpS_bind (zaB hy0 ?_);obtain⟨K,hK,cut⟩:=zdR (G:=G) (kf:=kf) (arr:=arrOf st) (bs:=sa) (n:=na) (kk:=kf y0) (by omega) (fun u v x y huv hv hx hy=>s1 _ _ x y (by omega) (show sa+u<sa+v by omega) (by omega) hx hy) fun u x hu hx=>⟨hg.at hx,hg.ne (by omega) hx hy0⟩
 refine wpS_bind (zbz C (K:=K) hk (hg.at hy0) cut (by omega) hK ?_);dsimp only;have ca:∀ i x y,sa<=i->i<sa+K->(arrOf st)[i]?=some x->(arrOf st)[sb]?=some y->kf x<kf y:=fun i x y a b hx hy=>by
  rw [hy0] at hy;cases hy;obtain⟨x',e,_,_,z⟩:=cut (i-sa) (by omega);rw [show sa+(i-sa)=i by omega,hx] at e;cases e;exact z.2 (by omega)
 have cA:∀ i x,sa+K<=i->i<sb->(arrOf st)[i]?=some x->kf y0<kf x:=fun i x a b hx=>by
  obtain⟨x',e,_,ne,z⟩:=cut (i-sa) (by omega);rw [show sa+(i-sa)=i by omega,hx] at e;cases e
  have:=z.1
  omega
 refine zau (fun e=>?_) fun e=>?_
 ·have e0:na-K=0:=by simpa using e
  have:=h (arrOf st) (gallopOf st) (Array.Perm.refl _) (fun _ _=>rfl) fun i j x y a b c hx hy=>by
   have lo1:∀ i x,sb<=i->i<sb+nb->(arrOf st)[i]?=some x->kf y0<=kf x:=fun i x a b hx=>by
    by_cases q:i=sb
    ·subst q;rw [hy0] at hx;cases hx;exact Int.le_refl _
    ·exact Int.le_of_lt (s2 sb i y0 x (znQ _) (by omega) b hy0 hx)
   by_cases q1:i<sb
   ·by_cases q2:j<sb
    ·exact s1 i j x y a b q2 hx hy
    ·exact Int.lt_of_lt_of_le (ca i x y0 a (by omega) hx hy0) (lo1 j y (by omega) c hy)
   ·exact s2 i j x y (by omega) b c hx hy
  rw [← hk,← hf] at this;exact wpS_pure this
 have e0:na-K≠0:=by simpa using e
 obtain⟨xl,hxl⟩:=zaw (a:=arrOf st) (ia:=sa+K+(na-K)-1) (by omega);refine wpS_bind (zaB hxl ?_);have ex:sa+K+(na-K)-1=sb-1:=by omega
 rw [ex] at hxl;obtain⟨L,hL,cut2⟩:=zdR (G:=G) (kf:=kf) (arr:=arrOf st) (bs:=sb) (n:=nb) (kk:=kf xl) (by omega) (fun u v x y huv hv hx hy=>s2 _ _ x y (by omega) (show sb+u<sb+v by omega) (by omega) hx hy) fun u x hu hx=>⟨hg.at hx,hg.ne (by omega) hx hxl⟩
 refine wpS_bind (zbz C (K:=L) hk (hg.at hxl) cut2 (by omega) hL ?_);dsimp only;have cb:∀ j x y,sb+L<=j->j<sb+nb->(arrOf st)[sb-1]?=some x->(arrOf st)[j]?=some y->kf x<kf y:=fun j x y a b hx hy=>by
  rw [hxl] at hx;cases hx;obtain⟨x',e,_,ne,z⟩:=cut2 (j-sb) (by omega);rw [show sb+(j-sb)=j by omega,hy] at e;cases e
  have:=z.1
  omega
 have cB:∀ j y,sb<=j->j<sb+L->(arrOf st)[j]?=some y->kf y<kf xl:=fun j y a b hy=>by
  obtain⟨x',e,_,ne,z⟩:=cut2 (j-sb) (by omega);rw [show sb+(j-sb)=j by omega,hy] at e;cases e;exact z.2 (by omega)
 have hL1:1<=L:=by
  obtain⟨x',e,_,ne,z⟩:=cut2 0 (by omega);rw [Nat.add_zero,hy0] at e;cases e
  have:=z.1 (cA (sb-1) xl (by omega) (by omega) hxl)
  omega
 rw [zoc (by simp;omega)];have T:Two kf G ((arrOf st).extract (sa+K) sb) ((arrOf st).extract sb (sb+L)):=by
  refine⟨fun x hx=>?_,fun x hx=>?_,fun x hx y hy=>?_,(s1.sub (by omega) (znQ _)).ext (by omega),(s2.sub (znQ _) (by omega)).ext (by omega),by rw [zdz (by omega)];omega,by rw [zdz (by omega)];omega,fun y hy x hx=>?_,fun x hx y hy=>?_⟩
  ·obtain⟨k,_,_,k3⟩:=zbc hx;exact hg.at k3
  ·obtain⟨k,_,_,k3⟩:=zbc hx;exact hg.at k3
  ·obtain⟨k,k1,k2,k3⟩:=zbc hx;obtain⟨l,l1,l2,l3⟩:=zbc hy;exact hg.ne (by omega) k3 l3
  ·rw [zhh (by omega) (by omega),Nat.add_zero,hy0] at hy;cases hy;obtain⟨k,k1,k2,k3⟩:=zbc hx;exact cA k x k1 k2 k3
  ·rw [zdz (by omega),zhh (by omega) (by omega),show sa+K+(sb-(sa+K)-1)=sb-1 by omega,hxl] at hx;cases hx;obtain⟨k,k1,k2,k3⟩:=zbc hy;exact cB k y k1 k2 k3
 refine zau (fun _=>?_) fun _=>?_
 ·refine wpS_bind (zgA C hk T fun o g R=>?_);obtain⟨r1,r2,r3⟩:=Seg.merge s1 s2 (by omega) hL hL1 hz ca cb R;refine wpS_bind (wpS_modify (wpS_bind (wpS_get (wpS_pure ?_))))
  have:=h _ g r1 r2 r3
  rw [← hk] at this;show Q (Option.isNone (failedOf st)) (SortSt.mk' (kindOf st) _ _ g (failedOf st));rw [hf];exact this
 ·refine wpS_bind (zgz C hk T fun o g R=>?_);obtain⟨r1,r2,r3⟩:=Seg.merge s1 s2 (by omega) hL hL1 hz ca cb R;refine wpS_bind (wpS_modify (wpS_bind (wpS_get (wpS_pure ?_))))
  have:=h _ g r1 r2 r3
  rw [← hk] at this;show Q (Option.isNone (failedOf st)) (SortSt.mk' (kindOf st) _ _ g (failedOf st));rw [hf];exact this
end
section
variable {M:Model} {A:Around} {E:Value->Shared->Prop} {s:Shared} {kf:Keyed->Int} {G:Keyed->Prop} {κ:SortKind}
def zaG (kf:Keyed->Int) (xs:Array Keyed):Nat->List (Nat × Nat × Nat)->Nat->Prop
 | a,[],e=>a=e
 | a,t::r,e=>t.1=a/\1<=t.2.1/\Seg kf xs a (a+t.2.1)/\zaG kf xs (a+t.2.1) r e
theorem zaG.le {xs:Array Keyed}:∀ {l:List (Nat × Nat × Nat)} {a e:Nat},zaG kf xs a l e->a+l.length<=e
 | [],a,e,h=>by cases h;exact znQ _
 | t::r,a,e,h=>by have:=zaG.le h.2.2.2;have:=h.2.1;rw [zob];omega
theorem zaG.app {xs:Array Keyed}:∀ {l l':List (Nat × Nat × Nat)} {a e:Nat},zaG kf xs a (l++l') e↔∃ m,zaG kf xs a l m/\zaG kf xs m l' e
 | [],l',a,e=>⟨fun h=>⟨a,rfl,h⟩,fun ⟨m,h1,h2⟩=>by cases h1;exact h2⟩
 | t::r,l',a,e=>by
  constructor
  ·rintro ⟨h1,h2,h3,h4⟩;obtain⟨m,m1,m2⟩:=zaG.app.1 h4;exact⟨m,⟨h1,h2,h3,m1⟩,m2⟩
  ·rintro ⟨m,⟨h1,h2,h3,m1⟩,m2⟩;exact⟨h1,h2,h3,zaG.app.2 ⟨m,m1,m2⟩⟩
theorem zaG.congr {xs ys:Array Keyed}:∀ {l:List (Nat × Nat × Nat)} {a e:Nat},zaG kf xs a l e->(∀ k,a<=k->k<e->ys[k]?=xs[k]?)->zaG kf ys a l e
 | [],a,e,h,_=>h
 | t::r,a,e,⟨h1,h2,h3,h4⟩,q=>by
  have:=zaG.le h4
  exact⟨h1,h2,h3.congr fun k k1 k2=>q k k1 (by omega),zaG.congr h4 fun k k1 k2=>q k (by omega) k2⟩
theorem zaG.pow {xs:Array Keyed} {f:Nat × Nat × Nat->Nat × Nat × Nat} (hf:∀ t,(f t).1=t.1/\(f t).2.1=t.2.1):∀ {l:List (Nat × Nat × Nat)} {a e:Nat} (i:Nat),zaG kf xs a l e->zaG kf xs a (l.modify i f) e
 | [],a,e,i,h=>by cases i <;> exact h
 | t::r,a,e,0,⟨h1,h2,h3,h4⟩=>by
  obtain⟨f1,f2⟩:=hf t;show zaG kf xs a (f t::r) e;exact⟨f1.trans h1,by rw [f2];exact h2,by rw [f2];exact h3,by rw [f2];exact h4⟩
 | t::r,a,e,i+1,⟨h1,h2,h3,h4⟩=>⟨h1,h2,h3,zaG.pow hf i h4⟩
theorem zmx {P:Array (Nat × Nat × Nat)} {i:Nat} (hi:i+1<P.size):∃ l t u r,P.toList=l++t::u::r/\l.length=i/\P[i]?=some t/\P[i+1]?=some u:=by
 have h1:i<P.toList.length:=by rw [zoe];omega
 have h2:i+1<P.toList.length:=by rw [zoe];omega
 refine⟨P.toList.take i,P.toList[i],P.toList[i+1],P.toList.drop (i+2),?_,by rw [znY];omega,?_,?_⟩
 ·rw [← zom h2,← zom h1,List.take_append_drop]
 ·rw [← zof];exact znC h1
 ·rw [← zof];exact znC h2
theorem zfN {P:Array (Nat × Nat × Nat)} {l r:List (Nat × Nat × Nat)} {t u v:Nat × Nat × Nat} {i:Nat} (h:P.toList=l++t::u::r) (hl:l.length=i):((P.setIfInBounds i v).eraseIdxIfInBounds (i+1)).toList=l++v::r:=by
 subst hl;have hs:l.length+1<(P.setIfInBounds l.length v).size:=by
  rw [Array.size_setIfInBounds,← zoe,h];simp
 rw [Array.eraseIdxIfInBounds,dif_pos hs,Array.toList_eraseIdx,Array.toList_setIfInBounds,h];simp [List.set_append,List.eraseIdx_append]
 omega
theorem zdE (C:Cmp M A E s kf G κ) {xs:Array Keyed} {P:Array (Nat × Nat × Nat)} {g i e:Nat} {Q:Bool->SortSt->Prop} (hg:Gd kf G xs) (hc:zaG kf xs 0 P.toList e) (he:e<=xs.size) (hi:i+1<P.size)
  (h:∀ ys P' g',ys.Perm xs->(∀ k,e<=k->ys[k]?=xs[k]?)->zaG kf ys 0 P'.toList e->P'.size+1=P.size->Q true (SortSt.mk' κ ys P' g' none)):wpS M A E s (mergeAt' i) Q (SortSt.mk' κ xs P g none):=by
 obtain⟨l,⟨sa,na,p⟩,⟨sb,nb,p'⟩,r,hP,hl,e1,e2⟩:=zmx hi;rw [hP] at hc;obtain⟨m,c1,c2⟩:=zaG.app.1 hc;obtain⟨d1,d2,d3,d4,d5,d6,d7⟩:=c2;dsimp only at d1 d2 d3 d4 d5 d6 d7;subst d1;have hle:=zaG.le c1;have hle2:=zaG.le d7;rw [← d4] at d6;refine zgy C (st:=SortSt.mk' κ xs P g none) rfl rfl hg e1 e2 d4 d2 d5 (by show sb+nb<=xs.size;omega) (by rw [d4];exact d3) d6 fun ys g' pm keep sg=>?_
 refine h ys _ g' pm (fun k hk=>keep k (.inr (by omega))) ?_ ?_
 ·show zaG kf ys 0 ((P.setIfInBounds i (sa,na+nb,p)).eraseIdxIfInBounds (i+1)).toList e;rw [zfN hP hl];refine zaG.app.2 ⟨sa,c1.congr fun k _ hk=>keep k (.inl hk),rfl,by show 1<=na+nb;omega,?_,?_⟩
  ·show Seg kf ys sa (sa+(na+nb));rw [show sa+(na+nb)=sb+nb by omega];exact sg
  ·show zaG kf ys (sa+(na+nb)) r e;rw [show sa+(na+nb)=sb+nb by omega];rw [← d4] at d7;exact d7.congr fun k hk _=>keep k (.inr hk)
 ·show ((P.setIfInBounds i (sa,na+nb,p)).eraseIdxIfInBounds (i+1)).size+1=P.size
  have:=congrArg List.length (zfN (v:=(sa,na+nb,p)) hP hl)
  rw [zoe] at this;rw [this,← zoe,hP];simp
  omega
theorem zkF {c:Prop} [Decidable c] {n:Nat} (h:1<n):(if c then n-2-1 else n-2)+1<n:=by split <;> omega
set_option hygiene false in
local macro_rules | `(tactic| walk_at "runTail") => `(tactic| (
 refine wpS_bind (wpS_get ?_);have push:∀ (us:Array Keyed) (P':Array (Nat × Nat × Nat)) (g':Nat),us.Perm xs->zaG kf us 0 P'.toList lo->Seg kf us lo (lo+nn)->∃ ys P g,SortSt.mk' κ us (P'.push (lo,nn,0)) g' none=SortSt.mk' κ ys P g none/\ys.Perm xs/\∃ lo',((none:Option Unit),lo+nn)=(none,lo')/\i+1<=lo'/\lo'<=xs.size/\zaG kf ys 0 P.toList lo' :=
  fun us P' g' pm ch sg=>⟨us,_,g',rfl,pm,lo+nn,rfl,by omega,by omega,by rw [Array.toList_push];exact zaG.app.2 ⟨lo,ch,rfl,nn1,sg,rfl⟩⟩
 obtain hb | ⟨⟨s1,n1',pw'⟩,hb⟩:P.back?=none\/∃ t,P.back?=some t:=by cases P.back? <;> simp
 ·have hb':(pendingOf (SortSt.mk' κ zs P g none)).back?=none:=hb;rw [hb'];exact wpS_bind (wpS_modify (wpS_pure (push zs P g pmz chz sgz)))
 ·have hb':(pendingOf (SortSt.mk' κ zs P g none)).back?=some (s1,n1',pw'):=hb;rw [hb'];dsimp only;refine wpS_bind (wpS_mono (wpS_forRange (I:=fun _ c st'=>c=(none,())/\∃ us P' g',st'=SortSt.mk' κ us P' g' none/\us.Perm xs/\zaG kf us 0 P'.toList lo/\Seg kf us lo (lo+nn))
   (Q:=fun c st'=>c=(none,())/\∃ us P' g',st'=SortSt.mk' κ us P' g' none/\us.Perm xs/\zaG kf us 0 P'.toList lo/\Seg kf us lo (lo+nn)) ?_ (fun _ _ h=>h) ⟨rfl,zs,P,g,rfl,pmz,chz,sgz⟩) ?_)
  ·rintro j c st' _ _ ⟨rfl,us,P',g',rfl,pm',ch',sg'⟩;refine wpS_bind (wpS_get ?_);by_cases hs:1<P'.size
   ·have hs':(pendingOf (SortSt.mk' κ us P' g' none)).size > 1:=hs;rw [zod hs'];obtain⟨⟨q1,q2,q3⟩,hq⟩:∃ t,P'[P'.size-2]?=some t:=⟨_,Array.getElem?_eq_getElem (by omega)⟩;have hq':(pendingOf (SortSt.mk' κ us P' g' none))[(pendingOf (SortSt.mk' κ us P' g' none)).size-2]?=some (q1,q2,q3):=hq;rw [hq'];dsimp only;refine zau (fun _=>wpS_pure ⟨rfl,us,P',g',rfl,pm',ch',sg'⟩) fun _=>?_
    have szu:=pm'.size_eq;refine wpS_bind (zdE C (hg.perm pm') ch' (by omega) (i:=P'.size-2) (by omega) fun vs P'' g'' pv kv cv _=>?_);rw [zoc (by simp)];exact wpS_pure ⟨rfl,vs,P'',g'',rfl,pv.trans pm',cv,sg'.congr fun k k1 _=>kv k k1⟩
   ·have hs':¬ (pendingOf (SortSt.mk' κ us P' g' none)).size > 1:=hs;rw [zoc hs'];exact wpS_pure ⟨rfl,us,P',g',rfl,pm',ch',sg'⟩
  ·rintro c st' ⟨rfl,us,P',g',rfl,pm',ch',sg'⟩;dsimp only;refine wpS_bind (wpS_modify (wpS_bind (wpS_modify (wpS_pure (push us _ g' pm' ?_ sg')))));rw [Array.toList_modify];refine zaG.pow ?_ _ ch';exact fun t=>⟨rfl,rfl⟩))
theorem zfx (C:Cmp M A E s kf G κ) {xs:Array Keyed} {g:Nat} {Q:Unit->SortSt->Prop} (hg:Gd kf G xs) (h:∀ ys P g',ys.Perm xs->Seg kf ys 0 ys.size->Q () (SortSt.mk' κ ys P g' none)) :
  wpS M A E s sortRuns' Q (SortSt.mk' κ xs #[] g none):=by
 refine wpS_bind (wpS_get ?_);refine wpS_bind (wpS_mono (wpS_forRange (I:=fun i c st'=>∃ ys P g,st'=SortSt.mk' κ ys P g none/\ys.Perm xs/\∃ lo,c=(none,lo)/\i<=lo/\lo<=xs.size/\zaG kf ys 0 P.toList lo)
  (Q:=fun c st'=>∃ ys P g,st'=SortSt.mk' κ ys P g none/\ys.Perm xs/\∃ lo,c=(none,lo)/\lo=xs.size/\zaG kf ys 0 P.toList lo) ?_ ?_ ⟨xs,#[],g,rfl,Array.Perm.refl _,0,rfl,by omega,by omega,rfl⟩) ?_)
 ·rintro i c st' _ hi ⟨ys,P,g,rfl,pm,lo,rfl,h1,h2,ch⟩;have gy:=hg.perm pm;have sz:=pm.size_eq;dsimp only;refine zau (fun e=>?_) fun e=>?_
  ·exact wpS_pure ⟨ys,P,g,rfl,pm,lo,rfl,by have:xs.size<=lo:=e;omega,ch⟩
  have e:lo<xs.size:=Nat.not_le.1 e;refine wpS_bind (ze8 C (st:=SortSt.mk' κ ys P g none) rfl gy (by show 1<=xs.size-lo;omega) (by show lo+(xs.size-lo)<=ys.size;omega) fun zs n n1 n2 pm2 kp sg=>?_);dsimp only;have pmz:zs.Perm xs:=Array.Perm.trans pm2 pm;have chz:zaG kf zs 0 P.toList lo:=ch.congr fun k _ hk=>kp k hk
  have gz:=hg.perm pmz;have szz:=pmz.size_eq;refine zau (fun e'=>?_) fun e'=>?_
  ·refine wpS_bind (wpS_lift (wpAny_rule ⟨rfl,?_⟩));refine wpS_bind (zdP C (st:=SortSt.mk' κ zs P g none) rfl gz n1 (by omega) (by show lo+_<=zs.size;omega) sg fun zs pw kw sgz=>?_);rw [zoc (by simp)];have pmz:zs.Perm xs:=Array.Perm.trans pw pmz;have chz:zaG kf zs 0 P.toList lo:=chz.congr fun k _ hk=>kw k hk
   show wpS M A E s _ _ (SortSt.mk' κ zs P g none);have nn1:1<=min (xs.size-lo) (minRun' xs.size xs.size 0):=by
    have:n<minRun' xs.size xs.size 0:=e'
    omega
   obtain⟨nn,hnn⟩:∃ nn,nn=min (xs.size-lo) (minRun' xs.size xs.size 0):=⟨_,rfl⟩;have hnn2:lo+nn<=xs.size:=by omega
   rw [← hnn] at nn1;have sgz:Seg kf zs lo (lo+nn):=by rw [hnn];exact sgz
   unfold minRun' at hnn;rw [← hnn];walk_at "runTail"
  ·show wpS M A E s _ _ (SortSt.mk' κ zs P g none);obtain⟨nn,hnn⟩:∃ nn,nn=n:=⟨_,rfl⟩;subst hnn;have nn1:=n1;have sgz:=sg;walk_at "runTail"
 ·rintro c st' ⟨ys,P,g,rfl,pm,lo,rfl,h1,h2,ch⟩;refine⟨ys,P,g,rfl,pm,lo,rfl,?_,ch⟩
  have:max 0 xs.size<=lo:=h1
  omega
 ·rintro c st' ⟨ys,P,g,rfl,pm,lo,rfl,rfl,ch⟩;dsimp only;have hP:P.size<=xs.size:=by have:=zaG.le ch;rw [zoe] at this;omega
  refine wpS_bind (wpS_mono (wpS_forRange (I:=fun j c st'=>c=(none,())/\∃ us P' g',st'=SortSt.mk' κ us P' g' none/\us.Perm xs/\zaG kf us 0 P'.toList xs.size/\P'.size+j<=xs.size)
   (Q:=fun c st'=>c=(none,())/\∃ us P' g',st'=SortSt.mk' κ us P' g' none/\us.Perm xs/\zaG kf us 0 P'.toList xs.size/\P'.size<=1) ?_ ?_ ⟨rfl,ys,P,g,rfl,pm,ch,by omega⟩) ?_)
  ·rintro j c st' _ hj ⟨rfl,us,P',g',rfl,pm',ch',hs⟩;refine wpS_bind (wpS_get ?_);refine zau (fun e=>wpS_pure ⟨rfl,us,P',g',rfl,pm',ch',e⟩) fun e=>?_
   have e:1<P'.size:=Nat.not_le.1 e;have szu:=pm'.size_eq;refine wpS_bind (zdE C (hg.perm pm') ch' (by omega) ?_ fun vs P'' g'' pv kv cv hs'=>?_)
   ·exact zkF e
   rw [zoc (by simp)];exact wpS_pure ⟨rfl,vs,P'',g'',rfl,pv.trans pm',cv,by omega⟩
  ·rintro c st' ⟨rfl,us,P',g',rfl,pm',ch',hs⟩;refine⟨rfl,us,P',g',rfl,pm',ch',?_⟩
   have:P'.size+max 0 xs.size<=xs.size:=hs
   omega
  ·rintro c st' ⟨rfl,us,P',g',rfl,pm',ch',hs⟩;refine wpS_pure (h us P' g' pm' ?_);have szu:=pm'.size_eq;rw [szu];rw [← zoe] at hs
   revert ch' hs
   cases P'.toList with
   | nil =>
    intro ch' _
    have:0=xs.size:=ch'
    exact fun i j x y _ _ _=>by omega
   | cons t r =>
    intro ch' hs;cases r with
    | nil =>
     obtain⟨_,_,c3,c4⟩:=ch';have c4:0+t.2.1=xs.size:=c4;rw [← c4];exact c3
    | cons u r=>simp at hs
end
end L2
end
section
namespace L2
open PySem PySem.Spec PyProof.Rows PySem.W
theorem zfo {α:Type} (d:α):∀ {l' l:List α},l'.Perm l->∃ p:List Nat,p.Perm (List.range l.length)/\l'=p.map fun i=>l.getD i d:=fun h=>by
 induction h with
 | nil=>exact⟨[],List.Perm.refl _,rfl⟩
 | @cons x l1 l2 _ ih =>
  obtain⟨p,p1,p2⟩:=ih;refine⟨0::p.map Nat.succ,?_,?_⟩
  ·rw [zob,List.range_succ_eq_map];exact (p1.map _).cons _
  ·rw [p2,zn2,zn1]
   rfl
 | swap x y l =>
  refine⟨1::0::(List.range l.length).map (·+2),?_,?_⟩
  ·rw [zob,zob,List.range_succ_eq_map,List.range_succ_eq_map,zn2,zn1];exact List.Perm.swap _ _ _
  ·rw [zn2,zn2,zn1];show y::x::l=y::x::(List.range l.length).map (fun i=>l.getD i d)
   congr 2
   apply List.ext_getElem?
   intro i;by_cases hi:i<l.length
   ·simp [hi]
   ·simp [Nat.le_of_not_lt hi]
 | @trans l1 l2 l3 _ _ ih1 ih2 =>
  obtain⟨p1,a1,b1⟩:=ih1;obtain⟨p2,a2,b2⟩:=ih2;have hl:l2.length=p2.length:=by rw [b2,znA]
  refine⟨p1.map fun i=>p2.getD i 0,?_,?_⟩
  ·refine (a1.map _).trans ?_
   have:(List.range l2.length).map (fun i=>p2.getD i 0)=p2:=by
    apply List.ext_getElem?
    intro i;by_cases hi:i<p2.length
    ·simp [hi,hl]
    ·simp [Nat.le_of_not_lt hi,hl]
   rw [this];exact a2
  ·rw [b1,zn1];refine zon fun i hi=>?_
   have hi:i<p2.length:=by rw [← hl];exact List.mem_range.1 (a1.mem_iff.1 hi)
   show l2.getD i d=l3.getD (p2.getD i 0) d;rw [b2];simp [hi]
section
variable {prog:Program} {w:World} {A:Around} {E:Value->Shared->Prop} {s:Shared}
def zdw (h:Heap) (a:Addr) (vs:List Value) (ky:Nat->Int):Prop:=∀ i v,vs[i]?=some v->∃ b o xs c t,v=.ref b/\b≠a/\h.get? b=some o/\o.cls=.type "tuple"/\o.data=.seq xs c/\xs[0]?=some (.int (ky i) t)
theorem zdw.kat {h:Heap} {a:Addr}:∀ {vs:List Value} {ky:Nat->Int},zdw h a vs ky->∃ fs,KatTups h vs fs/\fs.length=vs.length/\∀ v∈fs,∃ i t,v=Value.int i t
 | [],_,_=>⟨[],KatTups.nil,rfl,by simp⟩
 | v::vs,ky,H=>by
  obtain⟨b,o,xs,c,t,rfl,_,h1,h2,h3,h4⟩:=H 0 v rfl;obtain⟨fs,k,l,q⟩:=zdw.kat (vs:=vs) (ky:=fun i=>ky (i+1)) fun i u hu=>H (i+1) u hu
  refine⟨_::fs,KatTups.cons h1 h2 h3 h4 k,by simp [l],fun v hv=>?_⟩;rcases zoh.1 hv with rfl | hv
  ·exact⟨_,_,rfl⟩
  ·exact q v hv
def ziK (h:Heap) (x:Keyed):Int :=
 match x.1 with
 | .ref b=>match h.get? b with
  | some o=>match o.data with
   | .seq xs _=>match (xs:Array Value)[0]? with
    | some (Value.int k _)=>k
    | _=>0
   | _=>0
  | none=>0
 | _=>0
def zlc (h:Heap) (x:Keyed):Prop:=∃ b o xs c k t,x.1=.ref b/\h.get? b=some o/\o.data=.seq xs c/\xs[0]?=some (.int k t)
theorem zdZ {h:Heap} {x:Keyed} {b:Addr} {o:Obj} {xs:Array Value} {c:Nat} {k:Int} {t:Tok} (h1:x.1=.ref b) (h2:h.get? b=some o) (h3:o.data=.seq xs c) (h4:xs[0]?=some (.int k t)):ziK h x=k:=by
 unfold ziK;rw [h1];dsimp only;rw [h2];dsimp only;rw [h3];dsimp only;rw [h4]
theorem zgt:Cmp (model prog w) A E s (ziK s.heap) (zlc s.heap) (tuples' true):=fun x y st Q hx hy ne hk hQ=>by
 obtain⟨b,o,xs,c,k,t,e1,h1,h3,h4⟩:=hx;obtain⟨b',o',xs',c',k',t',e1',h1',h3',h4'⟩:=hy;rw [zdZ e1 h1 h3 h4,zdZ e1' h1' h3' h4'] at hQ ne;rw [lt'_eq];refine wpS_bind (wpS_get (wpS_bind (wpS_lift (wpAny_attempt ?_))));rw [hk,e1,e1'];refine kat_lt h1 h3 h1' h3' ?_;obtain⟨xr,hx⟩:∃ xr,xs.toList=.int k t::xr:=by
  have:xs.toList[0]?=some (.int k t):=by rw [zof];exact h4
  cases hz:xs.toList with
  | nil=>rw [hz] at this;cases this
  | cons x r=>rw [hz] at this;cases this;exact⟨r,rfl⟩
 obtain⟨yr,hy⟩:∃ yr,xs'.toList=.int k' t'::yr:=by
  have:xs'.toList[0]?=some (.int k' t'):=by rw [zof];exact h4'
  cases hz:xs'.toList with
  | nil=>rw [hz] at this;cases this
  | cons x r=>rw [hz] at this;cases this;exact⟨r,rfl⟩
 rw [hx,hy,List.zip_cons_cons];refine kat_cons (wpAny_eqBool_int ?_);rw [beq_eq_false_iff_ne.2 ne];exact kat_no (oneLt_int ⟨rfl,wpS_pure hQ⟩)
theorem zm5 {a:Addr} {vs:List Value} {n:Nat} {ky:Nat->Int} {κ:SortKind} {kf:Heap->Keyed->Int} {G:Heap->Keyed->Prop} {P:PySem.Fin->Shared->Prop} (ho:s.heap.get? a=some (seqObj "list" vs.toArray n)) (h64:vs.length<65536)
  (hkind:∀ h6:Heap,(∀ b o,b≠a->s.heap.get? b=some o->h6.get? b=some o)->2<=vs.length->∀ Q:SortKind->Shared->Prop,Q κ { s with heap:=h6 }->wpAny (model prog w) A (keyKind' vs.toArray) Q E { s with heap:=h6 })
  (hcmp:∀ h6:Heap,(∀ b o,b≠a->s.heap.get? b=some o->h6.get? b=some o)->Cmp (model prog w) A E { s with heap:=h6 } (kf h6) (G h6) κ)
  (hkey:∀ h6:Heap,(∀ b o,b≠a->s.heap.get? b=some o->h6.get? b=some o)->∀ i v,vs[i]?=some v->G h6 (v,v)/\kf h6 (v,v)=ky i)
  (hd:∀ i j,i<vs.length->j<vs.length->i≠j->ky i≠ky j)
  (h:∀ (p:List Nat) (h':Heap) (c:Nat),p.Perm (List.range vs.length)->(∀ i j,i<j->j<vs.length->ky (p.getD i 0)<ky (p.getD j 0))->(∀ b o,b≠a->s.heap.get? b=some o->h'.get? b=some o) ->
   h'.get? a=some (seqObj "list" (p.map fun i=>vs.getD i Value.none).toArray c)->P (.done (.ret .none)) { s with heap:=h' }) :
  wpAny (model prog w) A (Builtin.«list.sort» ⟨[.ref a],[]⟩) P E s:=by
 have ha:a<s.heap.objs.size:=zn0 ho;have s1:=Heap.SameBut.update s.heap a (Obj.mapSeq fun _=>(#[]:Array Value));obtain⟨e1,ho1⟩:∃ e1,(s.heap.update a (Obj.mapSeq fun _=>(#[]:Array Value))).get? a=some (seqObj "list" #[] e1):=⟨_,get?_update_seq ho fun _=>#[]⟩;have ho6:(((s.heap.update a (Obj.mapSeq fun _=>(#[]:Array Value))).push (seqObj "tuple" vs.toArray 0)).push (seqObj "list" #[] 0)).get? a=some (seqObj "list" #[] e1):=znN _ (znN _ ho1);have keep:∀ b o,b≠a->s.heap.get? b=some o->(((s.heap.update a (Obj.mapSeq fun _=>(#[]:Array Value))).push (seqObj "tuple" vs.toArray 0)).push (seqObj "list" #[] 0)).get? b=some o:=fun b o hb e =>
  znN _ (znN _ ((s1.2 b hb).trans e))
 rw [list_sort_plain];refine wpAny_bind (listItems_at ho rfl ?_);refine wpAny_bind (listUpdate_at ho rfl ?_ (by rw [zoa,sizeLine_eq];omega) (Nat.zero_le _));refine wpAny_bind (seqEpoch_at ho1 rfl ?_);refine wpAny_bind (wpAny_newTuple ?_ (by show vs.length<=_;rw [sizeLine_eq];omega));refine wpAny_bind (wpAny_newList ?_ (Nat.zero_le _));refine wpAny_holding ?_;show wpAny (model prog w) A _ P E { s with heap:=((s.heap.update a (Obj.mapSeq fun _=>(#[]:Array Value))).push (seqObj "tuple" vs.toArray 0)).push (seqObj "list" #[] 0) };generalize ((s.heap.update a (Obj.mapSeq fun _=>(#[]:Array Value))).push (seqObj "tuple" vs.toArray 0)).push (seqObj "list" #[] 0)=h6 at ho6 keep ⊢;dsimp only;by_cases h2:vs.toArray.size<2
 ·rw [zod h2,zod h2];refine wpAny_bind (wpAny_pure ?_);rw [StateT.run_pure];refine wpAny_bind (wpAny_pure ?_);dsimp only;refine wpAny_bind (seqEpoch_at ho6 rfl ?_);have eo:(vs.toArray.zip vs.toArray).map (·.2)=((List.range vs.length).map fun i=>vs.getD i Value.none).toArray:=by
   apply Array.toList_inj.mp
   rw [Array.toList_map,Array.toList_zip]
   apply List.ext_getElem?
   intro i;by_cases hi:i<vs.length
   ·simp [hi]
   ·simp [Nat.le_of_not_lt hi]
  refine wpAny_bind (listUpdate_at ho6 rfl ?_ (Nat.zero_le _) (by rw [Array.size_map];show (vs.toArray.zip vs.toArray).size<=_;simp;rw [sizeLine_eq];omega));simp only [bne_self_eq_false,Bool.false_eq_true,if_false];refine wpAny_pure ?_;have s2:=Heap.SameBut.update h6 a (Obj.mapSeq fun _=>(vs.toArray.zip vs.toArray).map (·.2))
  obtain⟨c2,hc2⟩:∃ c2,(h6.update a (Obj.mapSeq fun _=>(vs.toArray.zip vs.toArray).map (·.2))).get? a=some (seqObj "list" ((vs.toArray.zip vs.toArray).map (·.2)) c2):=⟨_,get?_update_seq ho6 fun _=>(vs.toArray.zip vs.toArray).map (·.2)⟩
  refine h (List.range vs.length) _ c2 (List.Perm.refl _) (fun i j hij hj=>?_) (fun b o hb e=>(s2.2 b hb).trans (keep b o hb e)) (by rw [← eo];exact hc2);rw [zoa] at h2;omega
 ·rw [zoc h2,zoc h2];rw [zoa] at h2;refine wpAny_bind (hkind h6 keep (by omega) _ ?_);have hz:(vs.toArray.zip vs.toArray).toList=vs.map fun v=>(v,v):=by
   rw [Array.toList_zip]
   apply List.ext_getElem?
   intro i;by_cases hi:i<vs.length
   ·simp [hi]
   ·simp [Nat.le_of_not_lt hi]
  have key:=hkey h6 keep;have gd:Gd (kf h6) (G h6) (vs.toArray.zip vs.toArray):=by
   constructor
   ·intro x hx;rw [hz] at hx;obtain⟨v,hv,rfl⟩:=znS.1 hx;obtain⟨i,hi⟩:=List.getElem?_of_mem hv;exact (key i v hi).1
   ·rw [hz,zn1];rw [List.Nodup,List.pairwise_iff_getElem];intro i j hi hj hij;rw [znA] at hi hj;rw [List.getElem_map,List.getElem_map];show kf h6 (vs[i],vs[i])≠kf h6 (vs[j],vs[j]);rw [(key i _ (znC hi)).2,(key j _ (znC hj)).2];exact hd i j hi hj (by omega)
  refine wpAny_bind (wpAny_mono (zfx (s:={ s with heap:=h6 }) (hcmp h6 keep) (g:=7) (Q:=fun _ st'=>∃ ys P g,st'=SortSt.mk' (κ) ys P g none/\ys.Perm (vs.toArray.zip vs.toArray)/\Seg (kf h6) ys 0 ys.size) gd fun ys P g a1 a2=>⟨ys,P,g,rfl,a1,a2⟩) ?_ fun _ _ e=>e);rintro ⟨⟨⟩,st'⟩ s' ⟨rfl,ys,P',g,rfl,pm,sg⟩;dsimp only;have pm':=Array.perm_iff_toList_perm.1 pm;rw [hz] at pm';obtain⟨p,hp,hm⟩:=zfo ((Value.none,Value.none):Keyed) pm';rw [znA] at hp;have hpl:p.length=vs.length:=by have:=hp.length_eq;rw [List.length_range] at this;exact this
  have plt:∀ i,i<p.length->p.getD i 0<vs.length:=fun i hi=>by
   rw [zog,znC hi];exact List.mem_range.1 (hp.mem_iff.1 (List.getElem_mem hi))
  have hm':ys.toList=p.map fun i=>(vs.getD i Value.none,vs.getD i Value.none):=by
   rw [hm];refine zon fun i hi=>?_
   have hi:i<vs.length:=List.mem_range.1 (hp.mem_iff.1 hi);simp [hi]
  have hout:(arrOf (SortSt.mk' (κ) ys P' g none)).map (·.2)=(p.map fun i=>vs.getD i Value.none).toArray:=by
   show ys.map (·.2)=_
   apply Array.toList_inj.mp
   rw [Array.toList_map,hm',zn1]
   rfl
  rw [hout];have hsz:(List.toArray (p.map fun i=>vs.getD i Value.none)).size=vs.length:=by rw [zoa,znA,hpl]
  have s2:=Heap.SameBut.update h6 a (Obj.mapSeq fun _=>List.toArray (p.map fun i=>vs.getD i Value.none));obtain⟨c2,hc2⟩:∃ c2,(h6.update a (Obj.mapSeq fun _=>List.toArray (p.map fun i=>vs.getD i Value.none))).get? a=some (seqObj "list" (List.toArray (p.map fun i=>vs.getD i Value.none)) c2):=⟨_,get?_update_seq ho6 fun _=>List.toArray (p.map fun i=>vs.getD i Value.none)⟩;refine wpAny_bind (seqEpoch_at ho6 rfl ?_);refine wpAny_bind (listUpdate_at ho6 rfl ?_ (Nat.zero_le _) (znP (Nat.le_of_eq hsz) (by rw [sizeLine_eq];omega)));simp only [bne_self_eq_false,Bool.false_eq_true,if_false];refine wpAny_pure (h p _ c2 hp (fun i j hij hj=>?_) (fun b o hb e=>(s2.2 b hb).trans (keep b o hb e)) hc2);have yat:∀ i,i<vs.length->∃ x,ys[i]?=some x/\kf h6 x=ky (p.getD i 0):=fun i hi=>by
   have hi':i<p.length:=by omega
   refine⟨_,by rw [← zof,hm',znB,znC hi'];rfl,?_⟩
   have:=plt i hi'
   rw [show p.getD i 0=p[i] by rw [zog,znC hi'];rfl] at this ⊢;dsimp only;rw [show vs.getD p[i] Value.none=vs[p[i]] by rw [zog,znC this];rfl];exact (key _ _ (znC this)).2
  obtain⟨x,x1,x2⟩:=yat i (by omega);obtain⟨y,y1,y2⟩:=yat j hj;rw [← x2,← y2];exact sg i j x y (Nat.zero_le _) hij (by have:=(Array.getElem?_eq_some_iff.1 y1).1;exact this) x1 y1
theorem znx {a:Addr} {vs:List Value} {n:Nat} {ky:Nat->Int} {P:PySem.Fin->Shared->Prop} (ho:s.heap.get? a=some (seqObj "list" vs.toArray n)) (h64:vs.length<65536) (H:zdw s.heap a vs ky)
  (hd:∀ i j,i<vs.length->j<vs.length->i≠j->ky i≠ky j)
  (h:∀ (p:List Nat) (h':Heap) (c:Nat),p.Perm (List.range vs.length)->(∀ i j,i<j->j<vs.length->ky (p.getD i 0)<ky (p.getD j 0))->(∀ b o,b≠a->s.heap.get? b=some o->h'.get? b=some o) ->
   h'.get? a=some (seqObj "list" (p.map fun i=>vs.getD i Value.none).toArray c)->P (.done (.ret .none)) { s with heap:=h' }) :
  wpAny (model prog w) A (Builtin.«list.sort» ⟨[.ref a],[]⟩) P E s:=by
 have up:∀ h6:Heap,(∀ b o,b≠a->s.heap.get? b=some o->h6.get? b=some o)->zdw h6 a vs ky:=fun h6 keep i v hv=>by
  obtain⟨b,o,xs,c,t,r0,r1,r2,r3⟩:=H i v hv;exact⟨b,o,xs,c,t,r0,r1,keep b o r1 r2,r3⟩
 refine zm5 (κ:=tuples' true) (kf:=ziK) (G:=zlc) (ky:=ky) ho h64 (fun h6 keep h2 Q q=>?_) (fun h6 _=>zgt) (fun h6 keep i v hv=>?_) hd h
 ·obtain⟨fs,kt,fl,fi⟩:=(up h6 keep).kat;refine kat_kind (s:={ s with heap:=h6 }) (T:=.type "int") kt (by omega) (fun v hv=>?_) rfl q;obtain⟨i,t,rfl⟩:=fi v hv;exact .now
 ·obtain⟨b,o,xs,c,t,r0,r1,r2,_,r4,r5⟩:=up h6 keep i v hv;exact⟨⟨b,o,xs,c,_,t,r0,r2,r4,r5⟩,zdZ r0 r2 r4 r5⟩
end
end L2
end
section
namespace L2
open PySem PySem.Spec PyProof.Rows PySem.W
section
variable {X:Cx} {pins:List (Addr × Obj)} {σ:St} {H H':Hp} {s:Shared} {h':Heap}
theorem zaV.there {P:Program} {w:World} {H:Hp} {h:Heap} {a:Addr} {o:HO} (x:zaV P w H h a o):∃ u,h.get? a=some u:=by
 cases o with
 | lst xs=>obtain⟨_,_,_,_,e⟩:=x;exact⟨_,e⟩
 | tup xs=>obtain⟨_,_,_,o,e,_⟩:=x;exact⟨_,e⟩
 | dK kvs=>obtain⟨_,_,_,_,o,_,_,e,_⟩:=x;exact⟨_,e⟩
 | dT kvs=>obtain⟨_,_,_,_,o,_,_,e,_⟩:=x;exact⟨_,e⟩
 | set S n=>obtain⟨o,_,_,_,e,_⟩:=x;exact⟨_,e⟩
 | ins C dx fs=>obtain⟨_,_,_,e,_⟩:=x;exact⟨_,e⟩
 | own y=>exact x
 | xd fs=>obtain⟨_,⟨_,_,_,e,_⟩,_⟩:=x;exact⟨_,e⟩
 | rng lo hi=>obtain⟨_,_,_,e⟩:=x;exact⟨_,e⟩
 | frz ob u=>obtain⟨e,_⟩:=x;exact⟨_,e⟩
 | tbl ps=>exact⟨_,(show h.get? a=some _ from x)⟩
 | met f y=>exact⟨_,(show h.get? a=some _ from x)⟩
 | ext φ=>obtain⟨_,e,_⟩:=x;exact e
theorem Inv.noneAt {a:Addr} (I:Inv X pins σ H s) (n:s.heap.get? a=none):H a=none:=by
 cases q:H a with
 | none=>rfl
 | some o =>
  obtain⟨u,e⟩:=zaV.there (I.hok a o q);rw [n] at e;cases e
theorem Inv.more {t':Nat} (I:Inv X pins σ H s) (k:∀ b u,s.heap.get? b=some u->h'.get? b=some u) (S:Sub H H') (new:∀ a o,H' a=some o->H a=none->s.heap.get? a=none/\zaV X.prog X.w H' h' a o) :
  Inv X pins σ H' { s with heap:=h',toks:=t' }:=by
 refine I.un ⟨fun b o e _ _ _=>k b o e,fun b o e _ _ _=>⟨o.slots,k b o e⟩,fun b o e n _=>?_,fun b o e _=>⟨o,k b o e⟩,fun b xs e=>S _ _ e,fun b o u e=>S _ _ e,fun b ps e=>⟨#[],by rw [S _ _ e];simp⟩⟩ fun a o e=>?_
 ·cases q:H' b with
  | none=>rfl
  | some u=>have:=(new b u q n).1;rw [e] at this;cases this
 ·cases q:H a with
  | none=>exact (new a o e q).2
  | some u =>
   have:=S a u q
   rw [e] at this;cases this;exact (I.hok a o q).stay (fun b u _ z=>k b u z) (fun b z=>S _ _ z) fun b xs z=>S _ _ z
end
def ovr (H:Hp) (l:List (Addr × HO)):Hp:=fun a=>match l.lookup a with | some o=>some o | none=>H a
theorem zkv {H:Hp} {l:List (Addr × HO)} (h:∀ p∈l,H p.1=none):Sub H (ovr H l):=fun a o e=>by
 unfold ovr;cases q:l.lookup a with
 | none=>exact e
 | some u =>
  have:(a,u)∈l:=by
   rw [List.lookup_eq_some_iff] at q;obtain⟨l1,l2,rfl,_⟩:=q;simp
  have:=h _ this
  rw [e] at this;cases this
theorem zku {H:Hp} {l:List (Addr × HO)} {a:Addr} {o:HO} (h:ovr H l a=some o) (n:H a=none):(a,o)∈l:=by
 unfold ovr at h;cases q:l.lookup a with
 | none=>rw [q] at h;rw [n] at h;cases h
 | some u =>
  rw [q] at h;cases h;rw [List.lookup_eq_some_iff] at q;obtain⟨l1,l2,rfl,_⟩:=q;simp
theorem zjE {H:Hp}:∀ {l:List (Addr × HO)} {a:Addr} {o:HO},(l.map (·.1)).Nodup->(a,o)∈l->ovr H l a=some o:=by
 intro l a o nd m
 have:l.lookup a=some o:=by
  induction l with
  | nil=>cases m
  | cons p l ih =>
   rw [zn2,List.nodup_cons] at nd;rcases zoh.1 m with rfl | m
   ·simp [List.lookup]
   ·have ne:¬ a=p.1:=fun e=>nd.1 (znS.2 ⟨(a,o),m,e⟩)
    have hb:(a == p.1)=false:=beq_eq_false_iff_ne.2 ne;rw [List.lookup_cons,hb];exact ih nd.2 m
 unfold ovr;rw [this]
abbrev dcI (kvs:List (Int × V)):List (Key × V):=kvs.map fun q=>(Sum.inl q.1,q.2)
abbrev tI (q:Int × V):HO:=.tup [.int q.1,q.2]
theorem zm7 {kvs:List (Int × V)} {vs:List (Key × Value)} (r:KV (dcI kvs) vs) {i:Nat} {k:Key} {x:Value} (h:vs[i]?=some (k,x)):∃ q,kvs[i]?=some q/\k=.inl q.1/\zaL q.2 x:=by
 have:∀ {l:List (Key × V)} {m:List (Key × Value)} {i:Nat},KV l m->m[i]?=some (k,x)->∃ p,l[i]?=some p/\p.1=k/\zaL p.2 x:=by
  intro l m i r
  induction r generalizing i with
  | nil=>intro h;simp at h
  | @cons p q ps qs hp t ih =>
   intro h;cases i with
   | zero=>cases h;exact⟨p,rfl,hp.1,hp.2⟩
   | succ i=>exact ih h
 obtain⟨p,h1,h2,h3⟩:=this r h;rw [znB] at h1;obtain⟨q,hq,rfl⟩:=znD.1 h1;exact⟨q,hq,h2.symm,h3⟩
theorem zha {P:Program} {w:World} {h:Heap} {a:Addr} {vs:List (Key × Value)} (d:h.DictOf (zaF P w) a vs):∃ ep,h.DictAt (zaF P w) a vs ep:=by
 obtain⟨o,es,ep,r⟩:=d;exact⟨ep,o,es,r⟩
theorem ziL {kvs:List (Int × V)} {vs:List (Key × Value)} (r:KV (dcI kvs) vs) (nd:(vs.map (·.1)).Nodup):(kvs.map (·.1)).Nodup:=by
 have e:vs.map (·.1)=kvs.map fun q=>(Sum.inl q.1:Key):=by
  have:∀ {l:List (Key × V)} {m:List (Key × Value)},KV l m->m.map (·.1)=l.map (·.1):=by
   intro l m r
   induction r with
   | nil=>rfl
   | @cons p q ps qs hp t ih=>rw [zn2,zn2,ih,hp.1]
  rw [this r,zn1]
  rfl
 rw [e,show (kvs.map fun q=>(Sum.inl q.1:Key))=(kvs.map (·.1)).map Sum.inl by rw [zn1];rfl] at nd
 exact (List.pairwise_map.1 nd).imp fun h e=>h (by rw [e])
theorem zlN {κ:Type} {l:List (κ × V)} {m:List (κ × Value)} (r:KV l m):l.length=m.length:=Paired.length r
theorem zgH {α:Type} (l:List α) (d:α):(List.range l.length).map (fun i=>l.getD i d)=l:=by
 apply List.ext_getElem?
 intro i;rw [znB];by_cases h:i<l.length
 ·rw [List.getElem?_range h];simp [h]
 ·rw [List.getElem?_eq_none (by rw [List.length_range];omega),List.getElem?_eq_none (by omega)];rfl
theorem zgj:∀ bs:List Addr,zaM (bs.map V.ref) (bs.map Value.ref)
 | []=>.nil
 | _::bs=>.cons rfl (zgj bs)
theorem zcN {as:List Addr} {kvs:List (Int × V)} {p:List Nat} {ky:Nat->Int} {R:Addr->Int × V->Prop} (hp:p.Perm (List.range kvs.length)) (hA:zaY R as kvs) (hky:∀ i,ky i=(kvs.getD i (0,.non)).1)
  (hs:∀ i j,i<j->j<kvs.length->ky (p.getD i 0)<ky (p.getD j 0)) :
  (p.map fun i=>kvs.getD i (0,.non)).Perm kvs/\((p.map fun i=>kvs.getD i (0,.non)).map (·.1)).Pairwise (·<·)/\zaY R (p.map fun i=>as.getD i 0) (p.map fun i=>kvs.getD i (0,.non)) /\
   (p.map fun i=>(as.map Value.ref).getD i Value.none)=(p.map fun i=>as.getD i 0).map Value.ref:=by
 have hlen:p.length=kvs.length:=by rw [hp.length_eq,List.length_range]
 have hlt:∀ i∈p,i<kvs.length:=fun i hi=>List.mem_range.1 (hp.mem_iff.1 hi)
 refine⟨?_,?_,⟨by rw [znA,znA],fun i a q ha hq=>?_⟩,?_⟩
 ·have:=hp.map fun i=>kvs.getD i (0,V.non)
  rwa [zgH] at this
 ·rw [zn1];refine List.pairwise_iff_getElem.2 fun i j hi hj hij=>?_
  rw [znA] at hi hj
  have:=hs i j hij (by omega)
  rw [hky,hky] at this;simpa [hi,hj] using this
 ·rw [znB] at ha hq;obtain⟨j,hj,rfl⟩:=znD.1 ha;rw [hj] at hq;cases hq;have hjl:=hlt j (znF hj);have hja:j<as.length:=by rw [hA.1];exact hjl
  refine hA.2 j _ _ ?_ ?_
  ·simp [hja]
  ·simp [hjl]
 ·rw [zn1];refine zon fun i hi=>?_
  have hja:i<as.length:=by rw [hA.1];exact hlt i hi
  simp [hja]
def ze3 (v d:Addr):HO:=.ext fun h=>h.IsItemsView v d
theorem zlO {kvs:List (Int × V)} (nd:(kvs.map (·.1)).Nodup) {i j:Nat} (hi:i<kvs.length) (hj:j<kvs.length) (ne:i≠j):(kvs.getD i (0,.non)).1≠(kvs.getD j (0,.non)).1:=fun e=>by
 apply ne
 refine (List.getElem_inj (i:=i) (j:=j) (h₀:=by rw [znA];exact hi) (h₁:=by rw [znA];exact hj) nd).1 ?_;simpa [hi,hj] using e
section
variable {X:Cx}
def zjt:V->List V->Hp->VK->Prop:=fun x vs H Q=>match x,vs with | .ref d,[]=>(∃ kvs,H d=some (.dK kvs))/\∀ v,H v=none->Q (.ref v) (upd H v (ze3 v d)) | _,_=>False
theorem zh1:MtR X "dict.items" zjt:=by
 intro pins s σ H x vs v us Q I rx rv h;unfold zjt at h;split at h
 ·rename_i d;obtain⟨⟨kvs,hd⟩,q⟩:=h;cases rx;cases rv;obtain⟨z,hsys,ws,rel,dd⟩:=zgq I.hok hd;refine call_meetsIn PySem.F.slot_dict_items dd.typeIs PySem.F.entry_dict_items (PySem.F.args_dict_items_1 _) (meets_dict_items (zaF X.prog X.w) d hsys) ⟨⟨ws,dd⟩,?_⟩;refine⟨.ref s.heap.objs.size,_,I.laid (a:=s.heap.objs.size) (o:=ze3 s.heap.objs.size d) (t':=s.toks) (fun b u e=>znN _ e) (znQ _) ?_,rfl,q _ (I.hok.fresh (znQ _))⟩;have e:(s.heap.push { cls:=.type "dict_items",data:=.fields #[.ref d] }).get? s.heap.objs.size=some { cls:=.type "dict_items",data:=.fields #[.ref d] }:=zn9 _ rfl;refine⟨⟨_,e,rfl,rfl⟩,⟨_,e⟩,fun h1 h2 ⟨o,a1,a2⟩ k=>⟨o,k o a1,a2⟩⟩
 ·exact h.elim
def zls:List V->Hp->VK->Prop:=fun xs H Q=>match xs with
 | [.ref v]=>∃ d kvs,H v=some (ze3 v d)/\H d=some (.dK (dcI kvs))/\kvs.length<65536/\∀ (ps:List (Int × V)) (bs:List Addr) (l:Addr) (H':Hp),Sub H H'->ps.Perm kvs->(ps.map (·.1)).Pairwise (·<·) ->
   zaY (fun b q=>H' b=some (tI q)) bs ps->H' l=some (.lst (bs.map V.ref))->H l=none->(∀ b∈bs,H b=none)->Q (.ref l) H'
 | _=>False
theorem zjJ (hc:X.calm=true):za9 X (.builtin "sorted") zls:=by
 intro pins s σ H xs us Q I r h;unfold zls at h;split at h
 ·rename_i v;obtain⟨d,kvs,hv,hd,h64,q⟩:=h;cases r with
  | cons r rr =>
  cases rr;cases r;obtain⟨z,hsys,ws,rel,dd⟩:=zgq I.hok hd;obtain⟨ep,hat⟩:=zha dd;obtain⟨hview,_,_⟩:=(show zaV X.prog X.w H s.heap v (ze3 v d) from I.hok v _ hv);have hwl:kvs.length=ws.length:=by rw [← zlN rel,znA]
  refine Calls.call_function_entry kind_sorted plain_sorted entry_sorted (args_sorted1 _) ?_;unfold Builtin.«sorted»;refine wpAny_bind (m:=checkCount "sorted" 1 1 _) (wpAny_pure ?_);refine wpAny_bind (kdx_collect (A:=X.A.in1) (knd:=zaF X.prog X.w) (kvs:=ws) (ep:=ep) (I.ok.hd hc) hview hat (by rw [← hwl,sizeLine_eq];omega) fun h' tk as hk hl hG=>?_);have hal:as.length=kvs.length:=by rw [hl,hwl]
  refine wpAny_bind (wpAny_newList ?_ (by rw [znA,hal,sizeLine_eq];omega));have hB:(h'.push { cls:=.type "list",data:=.seq (as.map Value.ref).toArray }).get? h'.objs.size=some (seqObj "list" (as.map Value.ref).toArray 0):=zn9 _ rfl;have hasB:∀ a∈as,a≠h'.objs.size:=fun a ha=>zoi (hG.there ha)
  have tup:∀ i a,as[i]?=some a->∃ (qv:Int × V) (t:Tok) (x:Value),kvs[i]?=some qv/\zaL qv.2 x/\h'.get? a=some { cls:=.type "tuple",data:=.seq #[.int qv.1 t,x] }:=fun i a ha=>by
   obtain⟨key,k,x,e1,e2,e3⟩:=hG.pairs i a ha;obtain⟨qv,f1,rfl,f3⟩:=zm7 rel e1;rcases zaE (show zff (.inl qv.1) key=true from e2) with ⟨i',t,g1,rfl⟩ | ⟨x',t,g1,rfl⟩
   ·cases g1;exact⟨qv,t,x,f1,f3,e3⟩
   ·cases g1
  have hT:zdw (h'.push { cls:=.type "list",data:=.seq (as.map Value.ref).toArray }) h'.objs.size (as.map Value.ref) (fun i=>(kvs.getD i (0,.non)).1):=fun i u hu=>by
   rw [znB] at hu;obtain⟨a,ha,rfl⟩:=znD.1 hu;obtain⟨qv,t,x,e1,e2,e3⟩:=tup i a ha;refine⟨a,_,_,_,t,rfl,hasB a (znF ha),znN _ e3,rfl,rfl,?_⟩
   have:kvs.getD i (0,.non)=qv:=by rw [zog,e1];rfl
   show some (Value.int qv.1 t)=some (Value.int (kvs.getD i (0,V.non)).1 t);rw [this]
  have nd:=ziL rel (let ⟨_,_,_,_,_,_,_,_,z⟩:=dd;z);refine wpAny_bind (wpAny_holding (wpAny_call_entry slot_list_sort ⟨_,hB,rfl⟩ entry_list_sort (znx (s:={ s with heap:=h'.push { cls:=.type "list",data:=.seq (as.map Value.ref).toArray },toks:=tk }) hB (by rw [znA,hal];exact h64) hT
   (fun i j hi hj ne=>zlO nd (by rw [znA,hal] at hi;exact hi) (by rw [znA,hal] at hj;exact hj) ne) fun p h2 c hp hs hkeep hB2=>⟨_,rfl,?_⟩) (args_list_sort _)))
  rw [znA,hal] at hp hs;refine wpAny_pure ⟨_,rfl,?_⟩;have hA0:zaY (fun (_:Addr) (_:Int × V)=>True) as kvs:=⟨hal,fun _ _ _ _ _=>trivial⟩;have keep2:∀ b o,b≠h'.objs.size->h'.get? b=some o->h2.get? b=some o:=fun b o hb e=>hkeep b o hb (znN _ e)
  have noneB:s.heap.get? h'.objs.size=none:=by
   cases e:s.heap.get? h'.objs.size with
   | none=>rfl
   | some o=>exact absurd (zn0 (hk _ _ e)) (Nat.lt_irrefl _)
  have noneA:∀ a∈as,s.heap.get? a=none:=fun a ha=>Heap.get?_none_of_le (Nat.le_of_lt (hG.above a ha))
  generalize hbs:(p.map fun i=>as.getD i 0)=bs;obtain⟨s1,s2,_,s4⟩:=zcN hp hA0 (fun i=>rfl) hs;rw [s4,hbs] at hB2;generalize hL:((h'.objs.size,HO.lst (bs.map V.ref))::as.zip (kvs.map tI))=L;have zkeys:(as.zip (kvs.map tI)).map (·.1)=as:=by
   rw [← List.unzip_fst,List.unzip_zip (by rw [znA,hal])]
  have Lnone:∀ p∈L,s.heap.get? p.1=none:=fun p hpL=>by
   rw [← hL] at hpL;rcases zoh.1 hpL with rfl | hpL
   ·exact noneB
   ·exact noneA _ (by rw [← zkeys];exact znS.2 ⟨p,hpL,rfl⟩)
  have Lnd:(L.map (·.1)).Nodup:=by
   rw [← hL,zn2,zkeys,List.nodup_cons];exact⟨fun z=>hasB _ z rfl,hG.rise.imp fun h=>zoi h⟩
  have S:Sub H (ovr H L):=zkv fun p hpL=>I.noneAt (Lnone p hpL)
  have atA:∀ i a qv,as[i]?=some a->kvs[i]?=some qv->ovr H L a=some (tI qv):=fun i a qv ha hq=>by
   refine zjE Lnd ?_;rw [← hL];refine znT _ ?_;refine znF (i:=i) ?_;rw [List.getElem?_zip_eq_some];exact⟨ha,by rw [znB,hq];rfl⟩
  have hA1:zaY (fun b qv=>ovr H L b=some (tI qv)) as kvs:=⟨hal,fun i a qv ha hq=>atA i a qv ha hq⟩;obtain⟨_,_,s3,_⟩:=zcN hp hA1 (fun i=>rfl) hs;rw [hbs] at s3;have bsl:bs.length=kvs.length:=by rw [← hbs,znA,hp.length_eq,List.length_range]
  have bsin:∀ b∈bs,b∈as:=fun b hb=>by
   rw [← hbs] at hb;obtain⟨i,hi,rfl⟩:=znS.1 hb;have hja:i<as.length:=by rw [hal];exact List.mem_range.1 (hp.mem_iff.1 hi)
   rw [show as.getD i 0=as[i] by simp [hja]];exact List.getElem_mem hja
  refine⟨.ref h'.objs.size,ovr H L,I.more (fun b u e=>keep2 b u (fun z=>by rw [z,noneB] at e;cases e) (hk b u e)) S (fun a o ho hn=>?_),rfl,q _ bs _ _ S s1 s2 s3 ?_ (I.noneAt noneB) fun b hb=>I.noneAt (noneA b (bsin b hb))⟩
  ·have hm:=zku ho hn;refine⟨Lnone _ hm,?_⟩;rw [← hL] at hm;rcases zoh.1 hm with e | hm
   ·cases e;exact⟨by rw [znA,bsl,sizeLine_eq];omega,bs.map Value.ref,c,zgj bs,hB2⟩
   ·obtain⟨i,hi⟩:=List.mem_iff_getElem?.1 hm;rw [List.getElem?_zip_eq_some] at hi;obtain⟨ha,hq⟩:=hi;rw [znB] at hq;obtain⟨qv,hqv,rfl⟩:=znD.1 hq;obtain⟨qv',t,x,e1,e2,e3⟩:=tup i a ha;rw [hqv] at e1;cases e1;exact⟨by show 2<=sizeLine;decide,[.int qv.1 t,x],.cons ⟨t,rfl⟩ (.cons e2 .nil),⟨_,keep2 a _ (hasB a (znF ha)) e3,rfl,_,rfl,rfl⟩⟩
  ·refine zjE Lnd ?_;rw [← hL];exact zn8
 ·exact h.elim
theorem ze2 {as:List Addr} {us:List Value} (r:zaM (as.map V.ref) us):us=as.map Value.ref:=by
 induction as generalizing us with
 | nil=>cases r;rfl
 | cons a as ih =>
  cases r with
  | cons h t=>cases h;rw [ih t];rfl
end
end L2
end
section
namespace L2
open PySem PySem.Spec PyProof.Rows PySem.W
section
variable {X:Cx} {pins:List (Addr × Obj)} {σ:St} {H:Hp} {s:Shared}
end
section
variable {X:Cx}
end
end L2
end
section
namespace PySem
open Sem (wp)
section
variable {prog:Program} {w:World} {A:Around} {E:Value->Shared->Prop} {h:Heap} {g:Array GenState} {d:Drawn} {t:Nat} {os:OsState} {a:Addr} {o:Obj} {its:Array Value} {n:Nat}
end
end PySem
end
section
namespace L2
open PySem PySem.Spec PyProof.Rows PySem.W
section
variable {prog:Program} {w:World} {K:Type} [DecidableEq K] {knd:PySem.KeyKind prog w K} {A:Around} {s:Shared} {R:Result->Shared->Prop}
end
section
variable {X:Cx}
end
end L2
end
section
namespace PySem
end PySem
namespace L2
open PySem PySem.Spec PyProof.Rows PySem.W HT
section
variable {prog:Program} {w:World} {A:Around} {E:Value->Shared->Prop} {s:Shared}
end
section
variable {X:Cx} {K:PySem.W.Frag}
end
theorem zbu.noE {P:Program} {w:World} {K:PySem.W.Frag} {mg:Str->Option Value} {base:Heap} {k:Nat} {f:Addr} {fd:FuncData} {ps:List Str} {sp:Sp} (F:zbu P w K mg base (CXE P w) k f fd ps sp) :
  zbu P w K mg base CX0 k f fd ps (fun vs H Q _=>sp vs H Q fun _ _ _=>False) :=
 ⟨fun vs H Q _ h=>F.len vs H Q _ h,fun A outer s H args us vs Q E hr he hb hv hs=>codeAny_mono (F.run A outer s H args us vs Q (fun _ _ _=>False) hr he hb hv hs) fun r s' hq=>by
  cases r with
  | ok fl=>cases fl <;> exact hq
  | error e =>
   obtain⟨x,C,B,hr,a0,H',_,_,_,_,_,_,_,_,_,_,z⟩:=hq;exact z.elim⟩
end L2
end
section
namespace L2
open PySem PySem.Spec PyProof.Rows PySem.W
abbrev Mk2:=List (Int × Int)
abbrev iv (ks:Mk2):List (Int × V):=ks.map fun q=>(q.1,V.int q.2)
def zbj (ks:Mk2) (k:Int):Option Int:=(ks.find? fun q=>decide (q.1=k)).map (·.2)
def zd9 (ks:Mk2) (k s:Int):Mk2:=if (ks.any fun q=>decide (q.1=k))=true then ks.map (fun q=>if q.1=k then (q.1,s) else q) else ks++[(k,s)]
def zfb (ks:Mk2) (k:Int):Mk2:=ks.filter fun q=>decide (q.1≠k)
def nxt (ks:Mk2) (p s:Int):Mk2:=if s=0 then zfb ks p else zd9 ks p s
theorem ziq (k:Int):∀ ks:Mk2,ze0 (dcI (iv ks)) (.inl k)=(zbj ks k).map V.int
 | []=>rfl
 | q::ks=>by
  by_cases e:q.1=k
  ·rw [show dcI (iv (q::ks))=((.inl q.1:Key),V.int q.2)::dcI (iv ks) from rfl,zcY (by rw [e])];simp [zbj,List.find?_cons,e]
  ·rw [show dcI (iv (q::ks))=((.inl q.1:Key),V.int q.2)::dcI (iv ks) from rfl,zcX (by intro z;exact e (Sum.inl.inj z)),ziq k ks];simp [zbj,List.find?_cons,e]
theorem zmI (k:Int) (ks:Mk2):((dcI (iv ks)).any fun kv=>decide (kv.1=(.inl k:Key)))=ks.any fun q=>decide (q.1=k):=by
 rw [List.any_map,List.any_map]
 congr 1
 funext q
 simp [Function.comp]
theorem zjR (k s:Int) (ks:Mk2):zfp (dcI (iv ks)) (.inl k) (.int s)=dcI (iv (zd9 ks k s)):=by
 unfold zfp zd9;rw [zmI];by_cases h:(ks.any fun q=>decide (q.1=k))=true
 ·rw [zod h,zod h];show _=List.map _ (List.map _ (List.map _ ks));rw [zn1,zn1,zn1,zn1];refine zon fun q _=>?_
  by_cases e:q.1=k <;> simp [e]
 ·rw [zoc h,zoc h];show _=List.map _ (List.map _ (ks++[(k,s)]));rw [znI,znI]
  rfl
theorem zla (k:Int) (ks:Mk2):zfc (dcI (iv ks)) (.inl k)=dcI (iv (zfb ks k)):=by
 unfold zfc zfb;rw [List.filter_map,List.filter_map,zn1];show _=List.map _ (List.map _ (ks.filter _));rw [zn1]
 congr 1
 refine List.filter_congr fun q _=>?_
 simp [Function.comp]
theorem zhc {ks:Mk2} {k:Int} (h:zbj ks k=none):zfb ks k=ks:=by
 unfold zfb;refine List.filter_eq_self.2 fun q hq=>?_
 unfold zbj at h;rw [Option.map_eq_none_iff,List.find?_eq_none] at h;simpa using h q hq
theorem zh0 {ks:Mk2} {k s:Int} {q:Int × Int} (h:q∈zd9 ks k s):q=(k,s)\/q∈ks:=by
 unfold zd9 at h;split at h
 ·obtain⟨r,hr,rfl⟩:=znS.1 h;by_cases e:r.1=k
  ·rw [zod e,e];exact .inl rfl
  ·rw [zoc e];exact .inr hr
 ·rcases znL.1 h with h | h
  ·exact .inr h
  ·exact .inl (znJ.1 h)
theorem ziB {ks:Mk2} {k:Int} {q:Int × Int} (h:q∈zfb ks k):q∈ks:=(List.mem_filter.1 h).1
theorem zea (ks:Mk2) (k s:Int):((ks.any fun q=>decide (q.1=k))=true->(zd9 ks k s).map (·.1)=ks.map (·.1))/\((ks.any fun q=>decide (q.1=k))=false->(zd9 ks k s).map (·.1)=ks.map (·.1)++[k]):=by
 refine⟨fun h=>?_,fun h=>?_⟩
 ·unfold zd9;rw [zod h,zn1];refine zon fun q _=>?_
  by_cases e:q.1=k <;> simp [e]
 ·unfold zd9;rw [zoc (by rw [h];simp),znI]
  rfl
theorem zdk {ks:Mk2} {k s:Int} (nd:(ks.map (·.1)).Nodup):((zd9 ks k s).map (·.1)).Nodup:=by
 cases h:ks.any fun q=>decide (q.1=k) with
 | true=>rw [(zea ks k s).1 h];exact nd
 | false =>
  rw [(zea ks k s).2 h,List.nodup_append];refine⟨nd,by simp,fun a ha b hb=>?_⟩;rw [znJ.1 hb];rintro rfl;obtain⟨q,hq,e⟩:=znS.1 ha;rw [List.any_eq_false] at h;exact h q hq (znG e)
theorem zgr {ks:Mk2} {k:Int} (nd:(ks.map (·.1)).Nodup):((zfb ks k).map (·.1)).Nodup:=nd.sublist (List.filter_sublist.map _)
theorem zhH {ks:Mk2} {k s:Int} (nd:(ks.map (·.1)).Nodup):((nxt ks k s).map (·.1)).Nodup:=by
 unfold nxt;split
 ·exact zgr nd
 ·exact zdk nd
theorem zhZ (ks:Mk2) (k s:Int):(zd9 ks k s).length<=ks.length+1:=by
 unfold zd9;split
 ·rw [znA];omega
 ·rw [znK];exact znQ _
theorem zfj (ks:Mk2) (k s:Int):(nxt ks k s).length<=ks.length+1:=by
 unfold nxt;split
 ·exact znP (List.length_filter_le _ _) (Nat.le_succ _)
 ·exact zhZ ks k s
theorem zf4 {α:Type} {R:α->α->Prop} (as:∀ a b,R a b->¬ R b a):∀ {l m:List α},l.Perm m->l.Pairwise R->m.Pairwise R->l=m
 | [],m,p,_,_=>by rw [p.nil_eq]
 | a::l,[],p,_,_=>by have:=p.length_eq;simp at this
 | a::l,b::m,p,hl,hm=>by
  rw [List.pairwise_cons] at hl hm;have e:a=b:=by
   apply Classical.byContradiction
   intro ne;have h1:a∈m:=by
    rcases zoh.1 (p.mem_iff.1 (zn8)) with z | z
    ·exact (ne z).elim
    ·exact z
   have h2:b∈l:=by
    rcases zoh.1 (p.mem_iff.2 (zn8)) with z | z
    ·exact (ne z.symm).elim
    ·exact z
   exact as _ _ (hl.1 b h2) (hm.1 a h1)
  subst e;rw [zf4 as (List.Perm.cons_inv p) hl.2 hm.2]
abbrev Srt (ks:Mk2):Prop:=(ks.map (·.1)).Pairwise (·<·)
theorem zkX {ks js:Mk2} (p:ks.Perm js) (h1:Srt ks) (h2:Srt js):ks=js :=
 zf4 (R:=fun a b:Int × Int=>a.1<b.1) (fun a b h h'=>by omega) p (List.pairwise_map.1 h1) (List.pairwise_map.1 h2)
theorem zht {ps:List (Int × V)} {ks:Mk2} (p:ps.Perm (iv ks)) (h:(ps.map (·.1)).Pairwise (·<·)):∃ js:Mk2,ps=iv js/\js.Perm ks/\Srt js:=by
 let g:Int × V->Int × Int:=fun q=>(q.1,match q.2 with | .int i=>i | _=>0)
 have e:ps=iv (ps.map g):=by
  show ps=List.map _ (List.map g ps);rw [zn1]
  conv=>lhs;rw [← List.map_id ps]
  refine zon fun q hq=>?_
  obtain⟨r,_,rfl⟩:=znS.1 (p.mem_iff.1 hq)
  rfl
 refine⟨ps.map g,e,?_,?_⟩
 ·have:=p.map g
  rw [zn1] at this;have e2:ks.map (g ∘ fun q=>(q.1,V.int q.2))=ks:=by
   conv=>rhs;rw [← List.map_id ks]
   exact zon fun q _=>rfl
  rw [e2] at this;exact this
 ·show ((ps.map g).map (·.1)).Pairwise _
  rw [zn1];exact h
section
variable {H H':Hp} {l t:Addr} {ks:Mk2} {r p:Int}
def zdr (H:Hp) (l:Addr) (ks:Mk2):Prop:=∃ as:List Addr,H l=some (.lst (as.map V.ref))/\zaY (fun b q=>H b=some (tI q)) as (iv ks)
def SU (H:Hp) (t:Addr) (r p:Int) (ks:Mk2):Prop:=∃ l,H t=some (.tup [.int r,.int p,.ref l])/\zdr H l ks
theorem zdr.sub (S:Sub H H'):zdr H l ks->zdr H' l ks:=fun ⟨as,h1,h2⟩=>⟨as,S _ _ h1,h2.mono fun _ _ _ z=>S _ _ z⟩
theorem SU.sub (S:Sub H H'):SU H t r p ks->SU H' t r p ks:=fun ⟨l,h1,h2⟩=>⟨l,S _ _ h1,h2.sub S⟩
abbrev dP (q:Int × Int):DD:=.tup [.int q.1,.int q.2]
abbrev dL (ks:Mk2):DD:=.lst (ks.map dP)
abbrev dSu (r p:Int) (ks:Mk2):DD:=.tup [.int r,.int p,dL ks]
theorem zdr.den:zdr H l ks->Den H (.ref l) (dL ks):=fun ⟨as,h1,h2⟩=>by
 rw [dL,Den];refine⟨_,_,rfl,h1,zg7 (R:=fun b q=>H b=some (tI (q.1,V.int q.2))) (f:=dP) (fun a q z=>?_) ⟨by rw [h2.1,znA],fun i a q ha hq=>h2.2 i a _ ha (by rw [znB,hq];rfl)⟩⟩;rw [dP,Den];refine⟨_,_,rfl,z,?_⟩;rw [zbl];refine⟨_,_,rfl,by rw [Den],?_⟩;rw [zbl];exact⟨_,_,rfl,by rw [Den],by rw [zbl]⟩
theorem SU.den:SU H t r p ks->Den H (.ref t) (dSu r p ks):=fun ⟨l,h1,h2⟩=>by
 rw [dSu,Den];refine⟨_,_,rfl,h1,?_⟩;rw [zbl];refine⟨_,_,rfl,by rw [Den],?_⟩;rw [zbl];refine⟨_,_,rfl,by rw [Den],?_⟩;rw [zbl];exact⟨_,_,rfl,h2.den,by rw [zbl]⟩
end
def ziU (m:Ma) (s:Nat) (r:List En):Bool:=r.all (zax m.length s)
theorem ziI {r0:List En} {m':Ma} (h:isM (r0::m')=true):(r0::m').length<=4/\2<=r0.length/\r0.length<=4/\∀ r∈r0::m',r.length=r0.length/\ziU (r0::m') r0.length r=true:=by
 have hd:isM (r0::m')=(decide ((r0::m').length<=4) && decide (2<=r0.length) && decide (r0.length<=4) && (r0::m').all (zdv (r0::m').length r0.length)):=rfl;rw [hd,Bool.and_eq_true,Bool.and_eq_true,Bool.and_eq_true] at h;obtain⟨⟨⟨h1,h2⟩,h3⟩,h4⟩:=h;refine⟨zoj h1,zoj h2,zoj h3,fun r hr=>?_⟩
 have:=znZ.1 h4 r hr
 unfold zdv at this;rw [Bool.and_eq_true] at this;exact⟨by have:=zoj this.1;omega,this.2⟩
theorem zjC {r0:List En} {m':Ma} (h1:(r0::m').length<=4) (h2:2<=r0.length) (h3:r0.length<=4) (h4:∀ r∈r0::m',r.length=r0.length/\ziU (r0::m') r0.length r=true):isM (r0::m')=true:=by
 have hd:isM (r0::m')=(decide ((r0::m').length<=4) && decide (2<=r0.length) && decide (r0.length<=4) && (r0::m').all (zdv (r0::m').length r0.length)):=rfl;rw [hd,znG h1,znG h2,znG h3];refine znZ.2 fun r hr=>?_
 unfold zdv;rw [(h4 r hr).1]
 have:=(h4 r hr).2
 unfold ziU at this;rw [this];simp
def sgn (m:Ma):Nat:=(m.headD []).length
structure OkM (m:Ma):Prop where
 n1:1<=m.length
 n4:m.length<=4
 s2:2<=sgn m
 s4:sgn m<=4
 len:∀ r∈m,r.length=sgn m
 ent:∀ r∈m,∀ e∈r,zax m.length (sgn m) e=true
theorem OkM.of {m:Ma} (h:isM m=true):OkM m:=by
 cases m with
 | nil=>cases h
 | cons r0 m' =>
  obtain⟨h1,h2,h3,h4⟩:=ziI h;exact⟨by simp,h1,h2,h3,fun r hr=>(h4 r hr).1,fun r hr e he=>znZ.1 (h4 r hr).2 e he⟩
theorem OkM.isM {m:Ma} (h:OkM m):L2.isM m=true:=by
 cases m with
 | nil=>have:=h.n1;simp at this
 | cons r0 m'=>exact zjC h.n4 h.s2 h.s4 fun r hr=>⟨h.len r hr,znZ.2 fun e he=>h.ent r hr e he⟩
theorem zaC {rows signs:Int} {e:En} (h:zax rows signs e=true) (ne:e≠[]):∃ s w r,e=[s,w,r]/\0<=s/\s<signs/\(w=-1\/w=1)/\0<=r/\r<rows:=by
 match e,h with
 | [],_=>exact (ne rfl).elim
 | [s,w,r],h =>
  have h:((decide (0<=s) && decide (s<signs)) && (decide (w=-1) || decide (w=1)) && (decide (0<=r) && decide (r<rows)))=true:=h;simp only [Bool.and_eq_true,Bool.or_eq_true,decide_eq_true_eq] at h;obtain⟨⟨⟨a,b⟩,c⟩,d,e⟩:=h;exact⟨s,w,r,rfl,a,b,c,d,e⟩
 | [_],h=>cases h
 | [_,_],h=>cases h
 | _::_::_::_::_,h=>cases h
def ent (m:Ma) (r p:Int) (ks:Mk2):Option En:=(m[r.toNat]?).bind fun es=>es[((zbj ks p).getD 0).toNat]?
structure OkS (m:Ma) (r:Int) (ks:Mk2):Prop where
 r0:0<=r
 r1:r<m.length
 sg:∀ q∈ks,0<=q.2/\q.2<sgn m
 nd:(ks.map (·.1)).Nodup
theorem zmz {ks:Mk2} {k s:Int} (h:zbj ks k=some s):∃ q∈ks,q.2=s:=by
 unfold zbj at h;obtain⟨q,hq,rfl⟩:=znD.1 h;exact⟨q,List.mem_of_find?_eq_some hq,rfl⟩
theorem OkS.val {m:Ma} {r:Int} {ks:Mk2} (M:OkM m) (h:OkS m r ks) (p:Int):0<=(zbj ks p).getD 0/\(zbj ks p).getD 0<sgn m:=by
 cases e:zbj ks p with
 | none=>have:=M.s2;simp;omega
 | some s =>
  obtain⟨q,hq,rfl⟩:=zmz e;exact h.sg q hq
theorem OkS.at {m:Ma} {r:Int} {ks:Mk2} (M:OkM m) (h:OkS m r ks) (p:Int):∃ es e,m[r.toNat]?=some es/\es[((zbj ks p).getD 0).toNat]?=some e/\ent m r p ks=some e/\zax m.length (sgn m) e=true/\es.length=sgn m:=by
 have hr:r.toNat<m.length:=by have:=h.r0;have:=h.r1;omega
 have he:m[r.toNat]?=some m[r.toNat]:=znC hr;have hm:m[r.toNat]∈m:=List.getElem_mem hr;have hl:=M.len _ hm;have hv:=h.val M p;have hs:((zbj ks p).getD 0).toNat<m[r.toNat].length:=by rw [hl];omega
 refine⟨_,_,he,znC hs,?_,M.ent _ hm _ (List.getElem_mem hs),hl⟩;unfold ent;rw [he,Option.bind_some,znC hs]
theorem OkS.nxt {m:Ma} {r r' p s:Int} {ks:Mk2} (h:OkS m r ks) (h0:0<=s) (h1:s<sgn m) (h2:0<=r') (h3:r'<m.length):OkS m r' (nxt ks p s) :=
 ⟨h2,h3,fun q hq=>by
  unfold L2.nxt at hq;split at hq
  ·exact h.sg q (ziB hq)
  ·rcases zh0 hq with rfl | hq
   ·exact⟨h0,h1⟩
   ·exact h.sg q hq,zhH h.nd⟩
def wf (t:Addr) (r p:Int) (d:Addr):List (Str × V):=[("table",.ref t),("row",.int r),("place",.int p),("marks",.ref d)]
theorem znz (t:Addr) (r p:Int) (d:Addr):zb9 "marks" (.ref d) (zb9 "place" (.int p) (zb9 "row" (.int r) (zb9 "table" (.ref t) [])))=wf t r p d:=by
 have a1:¬ (("table":Str)="row"):=by decide +kernel
 have a2:¬ (("table":Str)="place"):=by decide +kernel
 have a3:¬ (("table":Str)="marks"):=by decide +kernel
 have a4:¬ (("row":Str)="place"):=by decide +kernel
 have a5:¬ (("row":Str)="marks"):=by decide +kernel
 have a6:¬ (("place":Str)="marks"):=by decide +kernel
 simp only [zb9,a1,a2,a3,a4,a5,a6,if_false,wf]
theorem zmD (t:Addr) (r p y:Int) (d:Addr):zb9 "row" (.int y) (wf t r p d)=wf t y p d:=by
 have a1:¬ (("table":Str)="row"):=by decide +kernel
 simp only [wf,zb9,a1,if_false,if_true]
theorem zjk (t:Addr) (r p y:Int) (d:Addr):zb9 "place" (.int y) (wf t r p d)=wf t r y d:=by
 have a2:¬ (("table":Str)="place"):=by decide +kernel
 have a4:¬ (("row":Str)="place"):=by decide +kernel
 simp only [wf,zb9,a2,a4,if_false,if_true]
theorem zny (t:Addr) (r p:Int) (d:Addr):(wf t r p d).lookup ("table":Str)=some (.ref t):=rfl
theorem zmC (t:Addr) (r p:Int) (d:Addr):(wf t r p d).lookup ("row":Str)=some (.int r):=rfl
theorem zgP (t:Addr) (r p:Int) (d:Addr):(wf t r p d).lookup ("place":Str)=some (.int p):=rfl
theorem zjj (t:Addr) (r p:Int) (d:Addr):(wf t r p d).lookup ("marks":Str)=some (.ref d):=rfl
theorem zjQ (t:Addr) (r p:Int) (d:Addr):(wf t r p d).length<1000:=by show 4<1000;decide
structure WK (C:Addr) (H:Hp) (o t d:Addr) (r p:Int) (ks:Mk2):Prop where
 ob:∃ dx,H o=some (.ins C dx (wf t r p d))
 dc:H d=some (.dK (dcI (iv ks)))
theorem WK.sub {C:Addr} {H H':Hp} {o t d:Addr} {r p:Int} {ks:Mk2} (S:Sub H H') (h:WK C H o t d r p ks):WK C H' o t d r p ks:=⟨h.ob.imp fun _ z=>S _ _ z,S _ _ h.dc⟩
theorem zkJ {ks:Mk2} {k s:Int} (h:k ∉ ks.map (·.1)):zd9 ks k s=ks++[(k,s)]:=by
 unfold zd9;rw [zoc];rw [List.any_eq_true];rintro ⟨q,hq,e⟩;exact h (znS.2 ⟨q,hq,zoj e⟩)
theorem zjg {ks:Mk2} (nd:(ks.map (·.1)).Nodup) {i:Nat} {q:Int × Int} (h:ks[i]?=some q):zd9 (ks.take i) q.1 q.2=ks.take (i+1):=by
 rw [zkJ,znW,h]
 ·rfl
 ·intro hm;rw [List.map_take] at hm;obtain⟨j,hj⟩:=List.mem_iff_getElem?.1 hm;rw [List.getElem?_take] at hj;split at hj
  ·rename_i hji;have e2:(ks.map (·.1))[i]?=some q.1:=by rw [znB,h];rfl
   obtain⟨a1,a2⟩:=znE.1 hj;obtain⟨b1,b2⟩:=znE.1 e2
   have:=(List.getElem_inj nd).1 (a2.trans b2.symm)
   omega
  ·cases hj
theorem zc5 (e:En):dep (dE e)<=60:=znP zly (by decide)
theorem zhe {e:En}:eqD (dE e) (dE [])=decide (e=[]):=by
 cases e with
 | nil=>rw [zaW];simp
 | cons x e=>show eqD (.tup (.int x::e.map DD.int)) (.tup [])=_;rw [eqD];simp [zfM]
abbrev St3:=Int × Int × Mk2
theorem zdO.trans {A B C:Hp} (h:zdO A B) (h':zdO B C):zdO A C:=⟨fun a xs e=>h'.tup _ _ (h.tup _ _ e),fun a as e=>h'.refs _ _ (h.refs _ _ e)⟩
end L2
end
section
namespace L2
open PySem PySem.Spec PyProof.Rows PySem.W
section
variable {X:Cx} {pos:Pos}
def znq (te:TE) (g1 g2:TG):TS:=fun D σ H=>te σ H fun x H1=>g1 x σ H1 fun σ1 H2=>g2 x σ1 H2 D.nx
theorem zkH {t1 t2 e:Expr} {te:TE} {g1 g2:TG} (he:PE X e te) (h1:PG X t1 g1) (h2:PG X t2 g2) (ha:(assignEach [t1,t2] X.env).map (·.2)=[assign t1 X.env,assign t2 X.env]:=by rfl) (hw:swappedStores [t1,t2] e X.env=pure none:=by rfl) :
  PS X (.Assign [t1,t2] e pos) (znq te g1 g2):=by
 intro pins s σ H D I h;refine wpAny_Assign_two (thn (he pins s σ H _ I h) fun v s1 ⟨x,H1,I1,r1,q1⟩=>?_) ha hw;refine thn (h1 pins s1 σ H1 x v _ I1 r1 q1) fun _ s2 ⟨σ2,H2,I2,q2⟩=>?_
 exact thn (h2 pins s2 σ2 H2 x v _ I2 r1 q2) fun _ s3 q=>q
def zlq:List V->Hp->VK->Prop:=fun xs H Q=>match xs with | [.int i,.int j]=>∀ m,m=(if j<i then j else i)->Q (.int m) H | _=>False
def zlp:List V->Hp->VK->Prop:=fun xs H Q=>match xs with | [.int i,.int j]=>∀ m,m=(if i<j then j else i)->Q (.int m) H | _=>False
theorem zmg (hc:X.calm=true):za9 X (.builtin "min") zlq:=(zg2 hc).imp fun xs H Q h=>by
 unfold zlq at h;split at h
 ·exact⟨_,_,rfl,h _ rfl⟩
 ·exact h.elim
theorem zme (hc:X.calm=true):za9 X (.builtin "max") zlp:=(zg1 hc).imp fun xs H Q h=>by
 unfold zlp at h;split at h
 ·exact⟨_,_,rfl,h _ rfl⟩
 ·exact h.elim
end
def stN (m:Ma) (x:St3):Option St3:=match ent m x.1 x.2.1 x.2.2 with
 | some [s,w,r]=>some (r,x.2.1+w,nxt x.2.2 x.2.1 s)
 | _=>none
def tr (m:Ma):Nat->St3->List St3
 | 0,x=>[x]
 | k+1,x=>x::(match stN m x with | some y=>tr m k y | none=>[])
theorem zbJ {m:Ma} {k:Nat} {x y:St3} (h:stN m x=some y):tr m (k+1) x=x::tr m k y:=by show x::_=_;rw [h]
theorem zbX {m:Ma} {k:Nat} {x:St3} (h:stN m x=none):tr m k x=[x]:=by
 cases k with
 | zero=>rfl
 | succ k=>show x::_=_;rw [h]
theorem zdN (m:Ma):∀ (k:Nat) (x:St3),(tr m k x).length<=k+1
 | 0,x=>znQ _
 | k+1,x=>by
  cases h:stN m x with
  | none=>rw [zbX h];simp
  | some y=>rw [zbJ h,zob];have:=zdN m k y;omega
theorem zmw (m:Ma) (k:Nat) (x:St3):tr m k x≠[]:=by
 cases k with
 | zero=>simp [tr]
 | succ k=>simp [tr]
structure At (m:Ma) (N:Nat) (x0:St3) (sts:List St3) (x:St3):Prop where
 pre:∃ l,sts=l++[x]/\l.length<=N/\tr m N x0=l++tr m (N-l.length) x
theorem At.start {m:Ma} {N:Nat} {x0:St3}:At m N x0 [x0] x0:=⟨[],rfl,Nat.zero_le _,rfl⟩
theorem At.step {m:Ma} {N:Nat} {x0 x y:St3} {sts:List St3} (h:At m N x0 sts x) (hs:stN m x=some y) (hl:sts.length<=N):At m N x0 (sts++[y]) y:=by
 obtain⟨l,rfl,h1,h2⟩:=h.pre;rw [znK] at hl;have hl:l.length+1<=N:=hl;refine⟨l++[x],rfl,by rw [znK];exact hl,?_⟩;rw [h2,show N-l.length=(N-(l.length+1))+1 by omega,zbJ hs,znK];simp
theorem At.done {m:Ma} {N:Nat} {x0 x:St3} {sts:List St3} (h:At m N x0 sts x) (hs:stN m x=none\/N<sts.length):sts=tr m N x0:=by
 obtain⟨l,rfl,h1,h2⟩:=h.pre;rcases hs with hs | hs
 ·rw [h2,zbX hs]
 ·rw [znK] at hs;have hs:N<l.length+1:=hs;rw [h2,show N-l.length=0 by omega]
  rfl
theorem At.len {m:Ma} {N:Nat} {x0 x:St3} {sts:List St3} (h:At m N x0 sts x):sts.length<=N+1/\1<=sts.length:=by
 obtain⟨l,rfl,h1,h2⟩:=h.pre;rw [znK];exact⟨Nat.succ_le_succ h1,by simp⟩
theorem zie {m:Ma} {x:St3} {s w r:Int} (h:ent m x.1 x.2.1 x.2.2=some [s,w,r]):stN m x=some (r,x.2.1+w,nxt x.2.2 x.2.1 s):=by unfold stN;rw [h]
theorem zeX {m:Ma} {x:St3} (h:ent m x.1 x.2.1 x.2.2=some []):stN m x=none:=by unfold stN;rw [h]
abbrev dT (x:St3):DD:=dSu x.1 x.2.1 x.2.2
def SZ (H:Hp) (q:Addr) (z:Addr × St3):Prop:=H q=some (.tup [.int z.2.1,.int z.2.2.1,.ref z.1])/\zdr H z.1 z.2.2.2
theorem SZ.sub {H H':Hp} {q:Addr} {z:Addr × St3} (S:Sub H H') (h:SZ H q z):SZ H' q z:=⟨S _ _ h.1,h.2.sub S⟩
theorem SZ.den {H:Hp} {q:Addr} {z:Addr × St3} (h:SZ H q z):Den H (.ref q) (dT z.2):=SU.den ⟨z.1,h.1,h.2⟩
def zjU (lo:Int) (ns:List Int):Prop:=lo∈ns/\∀ n∈ns,lo<=n
def zjT (hi:Int) (ns:List Int):Prop:=hi∈ns/\∀ n∈ns,n<=hi
theorem zjU.one {a b:Int} {ns:List Int} (h:zjU a ns) (h':zjU b ns):a=b:=by have:=h.2 b h'.1;have:=h'.2 a h.1;omega
theorem zjT.one {a b:Int} {ns:List Int} (h:zjT a ns) (h':zjT b ns):a=b:=by have:=h.2 b h'.1;have:=h'.2 a h.1;omega
theorem zdO.two {C:Addr} {H H':Hp} {o t d:Addr} {r p:Int} {ks:Mk2} (W:WK C H o t d r p ks) (k:∀ c u,H c=some u->c≠o->c≠d->H' c=some u):zdO H H':=by
 obtain⟨⟨dx,ho⟩,hd⟩:=W;exact⟨fun a xs e=>k a _ e (fun z=>by rw [z,ho] at e;cases e) (fun z=>by rw [z,hd] at e;cases e),fun a as e=>k a _ e (fun z=>by rw [z,ho] at e;cases e) (fun z=>by rw [z,hd] at e;cases e)⟩
theorem At.last {m:Ma} {N:Nat} {x0 x:St3} {sts:List St3} (h:At m N x0 sts x):sts.getLast?=some x:=by
 obtain⟨l,rfl,_⟩:=h.pre;simp
def wd (m:Ma) (x:St3):Str:=if ent m x.1 x.2.1 x.2.2=some [] then "ends" else "on"
def RU (H:Hp) (q:Addr) (w:Str) (n:Int) (z:Addr × St3):Prop:=∃ s,H q=some (.tup [.str w,.int n,.ref s])/\SZ H s z
theorem RU.sub {H H':Hp} {q:Addr} {w:Str} {n:Int} {z:Addr × St3} (S:Sub H H'):RU H q w n z->RU H' q w n z:=fun ⟨s,h1,h2⟩=>⟨s,S _ _ h1,h2.sub S⟩
abbrev dRu (w:Str) (n:Int) (x:St3):DD:=.tup [.str w,.int n,dT x]
theorem RU.den {H:Hp} {q:Addr} {w:Str} {n:Int} {z:Addr × St3}:RU H q w n z->Den H (.ref q) (dRu w n z.2):=fun ⟨s,h1,h2⟩=>by
 rw [dRu,Den];refine⟨_,_,rfl,h1,?_⟩;rw [zbl];refine⟨_,_,rfl,by rw [Den],?_⟩;rw [zbl];refine⟨_,_,rfl,by rw [Den],?_⟩;rw [zbl];exact⟨_,_,rfl,h2.den,by rw [zbl]⟩
theorem zj8 {w:Str} {n:Int} {x:St3}:dep (dRu w n x)<=60:=by
 have h4:dep (dT x)<=50:=by
  have h1:∀ q,dep (dP q)<=1:=fun q=>by
   rw [dP,dep]
   have:depL [DD.int q.1,DD.int q.2]<=0:=zbk fun d hd=>by
    rcases zoh.1 hd with rfl | hd
    ·exact znQ 0
    ·rw [znJ.1 hd];exact znQ 0
   omega
  have h2:dep (dL x.2.2)<=2:=by
   rw [dL,dep]
   have:depL (x.2.2.map dP)<=1:=zbk fun d hd=>by
    obtain⟨q,_,rfl⟩:=znS.1 hd;exact h1 q
   omega
  rw [dT,dSu,dep]
  have:depL [DD.int x.1,DD.int x.2.1,dL x.2.2]<=2:=zbk fun d hd=>by
   rcases zoh.1 hd with rfl | hd
   ·exact Nat.zero_le _
   ·rcases zoh.1 hd with rfl | hd
    ·exact Nat.zero_le _
    ·rw [znJ.1 hd];exact h2
  omega
 rw [dRu,dep]
 have:depL [DD.str w,DD.int n,dT x]<=50:=zbk fun d hd=>by
  rcases zoh.1 hd with rfl | hd
  ·exact Nat.zero_le _
  ·rcases zoh.1 hd with rfl | hd
   ·exact Nat.zero_le _
   ·rw [znJ.1 hd];exact h4
 omega
end L2
end
section
namespace L2
open PySem PySem.Spec PyProof.Rows PySem.W
section
variable {X:Cx}
end
end L2
end
section
namespace L2
open PySem PySem.Spec PyProof.Rows PySem.W
theorem zk2 {ks:Mk2} (nd:(ks.map (·.1)).Nodup) {k s:Int}:zbj ks k=some s↔(k,s)∈ks:=by
 induction ks with
 | nil=>simp [zbj]
 | cons q ks ih =>
  rw [zn2,List.nodup_cons] at nd;have ih:=ih nd.2;unfold zbj at ih ⊢;by_cases e:q.1=k
  ·rw [List.find?_cons_of_pos (by simpa using e),Option.map_some,zoh]
   constructor
   ·intro h;cases h;exact .inl (Prod.ext e.symm rfl)
   ·rintro (h | h)
    ·rw [← h]
    ·exact (nd.1 (znS.2 ⟨_,h,e.symm⟩)).elim
  ·rw [List.find?_cons_of_neg (by simpa using e),ih,zoh]
   constructor
   ·exact .inr
   ·rintro (h | h)
    ·rw [← h] at e;exact (e rfl).elim
    ·exact h
theorem OkS.next {m:Ma} {x y:St3} (M:OkM m) (h:OkS m x.1 x.2.2) (hs:stN m x=some y):OkS m y.1 y.2.2:=by
 obtain⟨es,e,_,_,h3,h4,_⟩:=h.at M x.2.1;unfold stN at hs;rw [h3] at hs;by_cases z:e=[]
 ·subst z;cases hs
 ·obtain⟨s',w',r',rfl,a0,a1,a2,a3,a4⟩:=zaC h4 z;cases hs;exact h.nxt a0 a1 a3 a4
theorem zjh {m:Ma} (M:OkM m):∀ (k:Nat) (x:St3),OkS m x.1 x.2.2->∀ y∈tr m k x,OkS m y.1 y.2.2
 | 0,x,h,y,hy=>by rw [znJ.1 hy];exact h
 | k+1,x,h,y,hy=>by
  cases hs:stN m x with
  | none=>rw [zbX hs] at hy;rw [znJ.1 hy];exact h
  | some z =>
   rw [zbJ hs] at hy;rcases zoh.1 hy with rfl | hy
   ·exact h
   ·exact zjh M k z (h.next M hs) y hy
theorem OkM.start {m:Ma} (M:OkM m):OkS m 0 []:=⟨by decide,by have:=M.n1;omega,by simp,by simp⟩
theorem zk0 (m:Ma) (k:Nat) (x:St3):(tr m k x)[0]?=some x:=by cases k <;> rfl
section
variable {X:Cx} {K:PySem.W.Frag}
end
end L2
end
section
namespace L2
open PySem PySem.Spec PyProof.Rows PySem.W
section
variable {X:Cx}
def zmW (ta:TA):TI:=fun σ H R=>ta σ H fun vs H1=>match vs with | [.int i,.int j]=>(-(2 ^ 62)<=i/\i<2 ^ 62/\-(2 ^ 62)<=j/\j<2 ^ 62)/\R (Itr i (j-i).toNat) H1 | _=>False
theorem zh4 {tg a b:Expr} {ta:TA} {p pos:Pos} (hg:Gl X "range") (hm:X.mg "range"=none) (ha:PA X [a,b] ta) (hs:starEach [a,b] X.env=[(false,eval a X.env),(false,eval b X.env)]:=by rfl) (hs2:starEach [b] X.env=[(false,eval b X.env)]:=by rfl) :
  PI X tg (.Call (.Name "range" p) [a,b] [] pos) (zmW ta):=by
 intro pins s σ H R I h;have step:∀ (vs:List V) (us:List Value) (H1:Hp) (s1:Shared),Inv X pins σ H1 s1->zaM vs us->(match vs with | [.int i,.int j]=>(-(2 ^ 62)<=i/\i<2 ^ 62/\-(2 ^ 62)<=j/\j<2 ^ 62)/\R (Itr i (j-i).toNat) H1 | _=>False)->∃ (i j:Int) (t t':Tok),us=[.int i t,.int j t']/\(-(2 ^ 62)<=i/\i<2 ^ 62/\-(2 ^ 62)<=j/\j<2 ^ 62)/\R (Itr i (j-i).toNat) H1:=by
  intro vs us H1 s1 I1 r1 q1;split at q1
  ·cases r1 with
   | cons r rr=>cases rr with
    | cons r' rr =>
     cases rr;obtain⟨t,rfl⟩:=r;obtain⟨t',rfl⟩:=r';exact⟨_,_,t,t',rfl,q1⟩
  ·exact q1.elim
 refine Call_ (zdd I hg hm boot_range (PyProof.Rows.callWith_type1 (thn (ha pos pins s σ H _ I h) fun us s1 ⟨vs,H1,I1,r1,q1⟩=>?_) (by rw [hs,hs2]) (by rw [hs2];rfl)));obtain⟨i,j,t,t',rfl,⟨q1,q2,q3,q4⟩,q⟩:=step vs us H1 s1 I1 r1 q1;exact call_range_2 (zgb I1 q1 q2 q3 q4 q)
end
section
variable {X:Cx} {pins:List (Addr × Obj)} {σ:St} {H:Hp} {s:Shared}
open PySem.SeqAt
end
theorem zeA:∀ e e':List Int,zfM (e.map DD.int) (e'.map DD.int)=decide (e=e')
 | [],[]=>rfl
 | [],_::_=>rfl
 | _::_,[]=>rfl
 | i::e,j::e'=>by
  show (i == j && zfM (e.map DD.int) (e'.map DD.int))=_;rw [zeA e e'];by_cases c:i=j
  ·subst c;by_cases d:e=e' <;> simp [d]
  ·simp [c]
theorem zhf {e e':En}:eqD (dE e) (dE e')=decide (e=e'):=zeA e e'
abbrev en3 (m:Ma) (x:St3):Option En:=ent m x.1 x.2.1 x.2.2
def pf (m m':Ma):Nat->Int->St3->Option Int
 | 0,_,_=>none
 | k+1,i,x=>if en3 m x=en3 m' x then (match stN m x with | none=>none | some y=>pf m m' k (i+1) y) else some i
theorem zgh {m m':Ma} {x:St3} (h:en3 m x=en3 m' x):stN m x=stN m' x:=by
 unfold stN;rw [show ent m x.1 x.2.1 x.2.2=ent m' x.1 x.2.1 x.2.2 from h]
theorem zfG (m:Ma) (k:Nat) (x:St3):∃ l,tr m k x=x::l:=by
 cases k with
 | zero=>exact⟨[],rfl⟩
 | succ k=>exact⟨_,rfl⟩
end L2
end
section
namespace L2
open PySem PySem.Spec PyProof.Rows PySem.W
section
variable {X:Cx}
end
section
variable {X:Cx}
def zlm:List V->Hp->VK->Prop:=fun xs H Q=>match xs with | [.bl k]=>Q (.int (if k then 1 else 0)) H | [.int i]=>Q (.int i) H | _=>False
theorem zjI:za9 X (.type "int") zlm:=zg0.imp fun xs H Q h=>by
 unfold zlm at h;split at h
 ·exact .inr ⟨_,rfl,h⟩
 ·exact .inl ⟨_,rfl,h⟩
 ·exact h.elim
end
section
variable {X:Cx} {K:PySem.W.Frag} {o e:Expr} {es:List Expr} {to:TE} {t:TA} {name:Str} {apos cpos:Pos} {T id:String} {r:V->List V->Hp->VK->Prop}
end
section
variable {X:Cx} {e e1 e2 e3:Expr} {te t1 t2 t3:TE} {pos:Pos}
variable {K:PySem.W.Frag} {o i:Expr} {td ty:TE}
end
section
variable {X:Cx}
end
end L2
end
section
namespace L2
open PySem PySem.Spec PyProof.Rows PySem.W
section
variable {X:Cx}
end
section
variable {X:Cx}
end
theorem zii:∀ {xs:List V} {us:List Value},xs.length=us.length->(∀ (i:Nat) (x:V) (u:Value),xs[i]?=some x->us[i]?=some u->zaL x u)->zaM xs us
 | [],[],_,_=>.nil
 | x::xs,u::us,h,f=>.cons (f 0 x u rfl rfl) (zii (by simpa using h) fun i y v hy hv=>f (i+1) y v hy hv)
 | [],_::_,h,_=>by simp at h
 | _::_,[],h,_=>by simp at h
section
variable {X:Cx}
end
section
variable {X:Cx} {a b c d:Expr} {ta tb tc td:TE} {pos:Pos}
end
end L2
end
section
namespace L2
open PySem PySem.Spec PyProof.Rows PySem.W
abbrev s00:St3:=(0,0,[])
section
variable {X:Cx} {pins:List (Addr × Obj)} {σ:St} {H:Hp} {s:Shared}
open PySem.SeqAt
end
theorem ziy {xs:List V} {j:Nat} (h:j<=xs.length):zgp xs none (some (j:Int))=xs.take j:=by
 unfold zgp;rw [show HT.sIx xs.length 0 none=0 from rfl,HT.sIx_nat,List.drop_zero,Nat.sub_zero,Nat.min_eq_left h]
end L2
end
section
namespace L2
open PySem PySem.Spec PyProof.Rows PySem.W
section
variable {X:Cx}
end
end L2
end
section
namespace L2
open PySem PySem.Spec PyProof.Rows PySem.W
inductive NK where
 | int (i:Int)
 | tup (l:List NK)
mutual
def NK.dep:NK->Nat
 | .int _=>0
 | .tup l=>1+NK.depL l
def NK.depL:List NK->Nat
 | []=>0
 | k::r=>max k.dep (NK.depL r)
end
mutual
def NK.hash:NK->Int
 | .int i=>hashInt i
 | .tup l=>reduceHash (Builtin.Tuple.tupleHashOf (NK.hashL l))
def NK.hashL:List NK->List Int
 | []=>[]
 | k::r=>k.hash::NK.hashL r
end
mutual
def NK.dr:NK->Nat
 | .int _=>1
 | .tup l=>NK.drL l+1
def NK.drL:List NK->Nat
 | []=>0
 | k::r=>k.dr+NK.drL r
end
mutual
def IsN (h:Heap):NK->Value->Prop
 | .int i,v=>∃ t,v=.int i t
 | .tup l,v=>∃ a its,v=.ref a/\IsTup h a (List.toArray its)/\zbZ h l its
def zbZ (h:Heap):List NK->List Value->Prop
 | [],vs=>vs=[]
 | k::r,vs=>∃ u us,vs=u::us/\IsN h k u/\zbZ h r us
end
noncomputable instance:DecidableEq NK:=fun a b=>Classical.propDecidable (a=b)
theorem zgI {M:Model} {A:Around} {E:Value->Shared->Prop} {s:Shared} {i:Int} {Q:Int->Shared->Prop} (h:Q (reduceHash i) s):wpAny M A (pyHashByItsType.reduced i) Q E s:=by
 unfold pyHashByItsType.reduced;unfold reduceHash at h;split
 ·rename_i c;rw [zod c] at h;exact wpAny_pure h
 ·rename_i c;rw [zoc c] at h;exact wpAny_bind (wpAny_rule (wpAny_pure h))
section
variable {prog:Program} {w:World} {E:Value->Shared->Prop}
theorem zf8:∀ (n:Nat) (k:NK) (A:Around) (s:Shared) (v:Value) (Q:Int->Shared->Prop),k.dep<=n->A.units+n<cLine->IsN s.heap k v->Q k.hash { s with toks:=s.toks+k.dr }->wpAny (model prog w) A (pyHash v) Q E s:=by
 intro n
 induction n with
 | zero =>
  intro k A s v Q hd hu hi h;cases k with
  | int i =>
   rw [IsN] at hi;obtain⟨t,rfl⟩:=hi;rw [NK.hash,NK.dr] at h;exact wpAny_pyHash_int h
  | tup l=>rw [NK.dep] at hd;omega
 | succ n ih =>
  intro k A s v Q hd hu hi h;cases k with
  | int i =>
   rw [IsN] at hi;obtain⟨t,rfl⟩:=hi;rw [NK.hash,NK.dr] at h;exact wpAny_pyHash_int h
  | tup l =>
   rw [NK.dep] at hd;rw [NK.hash,NK.dr] at h;rw [IsN] at hi;obtain⟨a,its,rfl,ht,hi⟩:=hi;have loop:∀ (l:List NK) (vs:List Value) (b:Array Int) (s:Shared) (Q':Array Int->Shared->Prop),NK.depL l<=n->zbZ s.heap l vs->(∀ b':Array Int,b'.toList=b.toList++NK.hashL l->Q' b' { s with toks:=s.toks+NK.drL l }) ->
     wpAny (model prog w) A.in1 (forIn vs b fun x (r:Array Int)=>do let h ← pyHash x;pure (ForInStep.yield (r.push h))) Q' E s:=by
    intro l
    induction l with
    | nil =>
     intro vs b s Q' _ hv hq;rw [zbZ] at hv;subst hv;exact wpAny_pure (hq b (by rw [NK.hashL,znM]))
    | cons k r ihl =>
     intro vs b s Q' hd hv hq;rw [NK.depL] at hd;rw [zbZ] at hv;obtain⟨u,us,rfl,hu',hr⟩:=hv;rw [List.forIn_cons];refine wpAny_bind (wpAny_bind (ih k A.in1 s u _ (by omega) (by show A.units+1+n<_;omega) hu' (wpAny_pure ?_)));refine ihl us _ _ _ (by omega) hr fun b' hb'=>?_
     have:=hq b' (by rw [hb',NK.hashL];simp)
     rw [NK.drL,← Nat.add_assoc] at this;exact this
   show wpAny _ _ (pyHashByItsType (.ref a)) Q E s;unfold pyHashByItsType;have hT:=ht.typeIs;refine wpAny_bind (wpAny_cRoomFor_or (.inr (by omega)) (wpAny_bind (wpAny_specialOf hT F.slot_tuple_hash.lookup ?_)));rw [zoc (by rw [beq_builtin_none];exact zok)];refine wpAny_bind (wpAny_specialOf hT F.slot_tuple_hash.lookup ?_);refine wpAny_bind (wpAny_callSpecialIfBoundUnlessNone?_slot hT F.slot_tuple_hash (wpAny_call_entry F.slot_tuple_hash hT F.entry_tuple_hash ?_ (F.args_tuple_hash_1 _)));show wpAny _ _ (Builtin.Tuple.tupleItemsOf (.ref a) >>= _) _ _ s;refine wpAny_bind (tupleItemsOf_ ht (wpAny_bind ?_));rw [← Array.forIn_toList];refine loop l its #[] s _ (by omega) hi fun b' hb'=>?_
   have hb':b'.toList=NK.hashL l:=by rw [hb'];rfl
   show wpAny _ _ (retInt (Builtin.Tuple.tupleHashOf b'.toList)) _ _ _;rw [hb'];refine wpAny_bind (wpAny_mkInt (wpAny_pure ⟨_,rfl,?_⟩));exact zgI h
theorem IsTup.inj' {h:Heap} {a:Addr} {x y:List Value} (h1:IsTup h a x.toArray) (h2:IsTup h a y.toArray):x=y:=by
 obtain⟨o,e1,_,n,d1⟩:=h1;obtain⟨o',e2,_,n',d2⟩:=h2;rw [e1] at e2;cases e2;rw [d1] at d2;injection d2 with d2 _
 have:=congrArg Array.toList d2
 simpa using this
theorem zhr {h:Heap}:∀ (n:Nat) (x y:NK) (v:Value),x.dep<=n->IsN h x v->IsN h y v->x=y:=by
 intro n
 induction n with
 | zero =>
  intro x y v hd hx hy;cases x with
  | int i =>
   rw [IsN] at hx;obtain⟨t,rfl⟩:=hx;cases y with
   | int j=>rw [IsN] at hy;obtain⟨t',e⟩:=hy;cases e;rfl
   | tup l=>rw [IsN] at hy;obtain⟨a,its,e,_⟩:=hy;cases e
  | tup l=>rw [NK.dep] at hd;omega
 | succ n ih =>
  intro x y v hd hx hy;cases x with
  | int i =>
   rw [IsN] at hx;obtain⟨t,rfl⟩:=hx;cases y with
   | int j=>rw [IsN] at hy;obtain⟨t',e⟩:=hy;cases e;rfl
   | tup l=>rw [IsN] at hy;obtain⟨a,its,e,_⟩:=hy;cases e
  | tup l =>
   rw [NK.dep] at hd;rw [IsN] at hx;obtain⟨a,its,rfl,ht,hi⟩:=hx;cases y with
   | int j=>rw [IsN] at hy;obtain⟨t',e⟩:=hy;cases e
   | tup l' =>
    rw [IsN] at hy;obtain⟨a',its',e,ht',hi'⟩:=hy;cases e;have e:=IsTup.inj' ht ht';subst e;have key:∀ (l l':List NK) (vs:List Value),NK.depL l<=n->zbZ h l vs->zbZ h l' vs->l=l':=by
     intro l
     induction l with
     | nil =>
      intro l' vs _ h1 h2;rw [zbZ] at h1;subst h1;cases l' with
      | nil=>rfl
      | cons k r=>rw [zbZ] at h2;obtain⟨u,us,e,_⟩:=h2;cases e
     | cons k r ihl =>
      intro l' vs hd h1 h2;rw [NK.depL] at hd;rw [zbZ] at h1;obtain⟨u,us,rfl,hu,hr⟩:=h1;cases l' with
      | nil=>rw [zbZ] at h2;cases h2
      | cons k' r' =>
       rw [zbZ] at h2;obtain⟨u',us',e,hu',hr'⟩:=h2;cases e;rw [ih k k' u (by omega) hu hu',ihl r' us (by omega) hr hr']
    rw [key l l' its (by omega) hi hi']
theorem zch {h h':Heap} (kp:∀ (a:Addr) (its:List Value),IsTup h a its.toArray->IsTup h' a its.toArray):∀ (n:Nat) (x:NK) (v:Value),x.dep<=n->IsN h x v->IsN h' x v:=by
 intro n
 induction n with
 | zero =>
  intro x v hd hx;cases x with
  | int i=>rw [IsN] at hx ⊢;exact hx
  | tup l=>rw [NK.dep] at hd;omega
 | succ n ih =>
  intro x v hd hx;cases x with
  | int i=>rw [IsN] at hx ⊢;exact hx
  | tup l =>
   rw [NK.dep] at hd;rw [IsN] at hx ⊢;obtain⟨a,its,rfl,ht,hi⟩:=hx;refine⟨a,its,rfl,kp _ _ ht,?_⟩;have key:∀ (l:List NK) (vs:List Value),NK.depL l<=n->zbZ h l vs->zbZ h' l vs:=by
    intro l
    induction l with
    | nil=>intro vs _ h1;rw [zbZ] at h1 ⊢;exact h1
    | cons k r ihl =>
     intro vs hd h1;rw [NK.depL] at hd;rw [zbZ] at h1 ⊢;obtain⟨u,us,rfl,hu,hr⟩:=h1;exact⟨u,us,rfl,ih k u (by omega) hu,ihl us (by omega) hr⟩
   exact key l its (by omega) hi
theorem zdX {h:Heap}:∀ {l:List NK} {vs:List Value},zbZ h l vs->vs.length=l.length
 | [],vs,h1=>by rw [zbZ] at h1;subst h1;rfl
 | k::r,vs,h1=>by
  rw [zbZ] at h1;obtain⟨u,us,rfl,_,hr⟩:=h1;rw [zob,zob,zdX hr]
theorem zfe {h:Heap}:∀ {l:List NK} {vs:List Value} {j:Nat} (hj:j<vs.length),zbZ h l vs->∃ k,l[j]?=some k/\IsN h k vs[j]
 | [],vs,j,hj,h1=>by rw [zbZ] at h1;subst h1;cases hj
 | k::r,vs,j,hj,h1=>by
  rw [zbZ] at h1;obtain⟨u,us,rfl,hu,hr⟩:=h1;cases j with
  | zero=>exact⟨k,rfl,hu⟩
  | succ j=>exact zfe (l:=r) (vs:=us) (j:=j) (by simpa using hj) hr
theorem zg8 {n:Nat}:∀ {l:List NK} {j:Nat} {k:NK},NK.depL l<=n->l[j]?=some k->k.dep<=n
 | [],j,k,_,h=>by cases h
 | k'::r,0,k,hd,h=>by cases h;rw [NK.depL] at hd;omega
 | k'::r,j+1,k,hd,h=>by rw [NK.depL] at hd;exact zg8 (l:=r) (j:=j) (by omega) h
theorem ziz (i j:Int):decide (NK.int i=NK.int j)=(i == j):=by
 by_cases e:i=j
 ·subst e;simp
 ·rw [znH (fun q=>e (by injection q)),show (i == j)=false by simpa using e]
theorem zj5 (l l':List NK):decide (NK.tup l=NK.tup l')=decide (l=l'):=by
 by_cases e:l=l'
 ·subst e;simp
 ·rw [znH e,znH (fun q=>e (by injection q))]
theorem zfg {l l':List NK}:((List.range (min l.length l'.length)).all (fun j=>decide (l.getD j (.int 0)=l'.getD j (.int 0))) && l.length == l'.length)=decide (l=l'):=by
 by_cases h:l=l'
 ·subst h;simp
 ·rw [znH h];by_cases hl:l.length=l'.length
  ·have:¬ (List.range (min l.length l'.length)).all (fun j=>decide (l.getD j (.int 0)=l'.getD j (.int 0)))=true:=fun q=>h (List.ext_getElem hl fun j h1 h2=>by
    have:=znZ.1 q j (List.mem_range.2 (by omega))
    have:=zoj this
    simpa [List.getD,h1,h2] using this)
   cases e:(List.range (min l.length l'.length)).all (fun j=>decide (l.getD j (.int 0)=l'.getD j (.int 0))) with
   | true=>exact (this e).elim
   | false=>rfl
  ·have:(l.length == l'.length)=false:=by simpa using hl
   rw [this,Bool.and_false]
theorem eq_n {s:Shared}:∀ (n:Nat) (x y:NK) (A:Around) (u v:Value),x.dep<=n->A.units+n<cLine->IsN s.heap x u->IsN s.heap y v->SeqAt.EqAt A s u v (decide (x=y)):=by
 have intsN:∀ (i:Int) (y:NK) (A:Around) (u v:Value),A.units<cLine->IsN s.heap (.int i) u->IsN s.heap y v->SeqAt.EqAt A s u v (decide (NK.int i=y)):=by
  intro i y A u v hu hx hy;rw [IsN] at hx;obtain⟨t,rfl⟩:=hx;cases y with
  | int j =>
   rw [IsN] at hy;obtain⟨t',rfl⟩:=hy
   have:=SeqAt.EqAt.int_int (A:=A) (s:=s) i t j t'
   rw [ziz];exact this
  | tup l =>
   rw [IsN] at hy;obtain⟨a,its,rfl,ht,_⟩:=hy;rw [znH (fun q=>by cases q)];exact SeqAt.EqAt.int_tuple i t ht hu
 intro n
 induction n with
 | zero =>
  intro x y A u v hd hu hx hy;cases x with
  | int i=>exact intsN i y A u v (by omega) hx hy
  | tup l=>rw [NK.dep] at hd;omega
 | succ n ih =>
  intro x y A u v hd hu hx hy;cases x with
  | int i=>exact intsN i y A u v (by omega) hx hy
  | tup l =>
   have hxx:=hx;have hdd:=hd;rw [NK.dep] at hd;rw [IsN] at hx;obtain⟨a,its,rfl,ht,hi⟩:=hx;cases y with
   | int j =>
    rw [IsN] at hy;obtain⟨t',rfl⟩:=hy;rw [znH (fun q=>by cases q)];exact SeqAt.EqAt.tuple_int j t' ht (by omega)
   | tup l' =>
    have hyy:=hy;rw [IsN] at hy;obtain⟨b,its',rfl,ht',hi'⟩:=hy;by_cases hab:a=b
    ·subst hab;rw [zhr (n+1) _ _ _ hdd hxx hyy,znG rfl];exact SeqAt.EqAt.same _
    ·have l1:=zdX hi;have l2:=zdX hi';have main:=SeqAt.RcAt.tuples (e:=fun j=>decide (l.getD j (.int 0)=l'.getD j (.int 0))) ht ht' (show A.units<cLine by omega) fun j g1 g2=>by
      obtain⟨k,hk,hkn⟩:=zfe (j:=j) (by simpa using g1) hi;obtain⟨k',hk',hkn'⟩:=zfe (j:=j) (by simpa using g2) hi';rw [zog,zog,hk,hk'];exact ih k k' A.in1 _ _ (zg8 (by omega) hk) (by show A.units+1+n<_;omega) (by simpa using hkn) (by simpa using hkn')
     rw [zoa,zoa,l1,l2,zfg] at main;rw [zj5];exact SeqAt.EqAt.of_refs hab main
theorem zft {s:Shared}:∀ (n:Nat) (x:NK) (A:Around) (v:Value) (Q:Bool->Shared->Prop),x.dep<=n->IsN s.heap x v->Q true s->wpAny (model prog w) A (eqIsQuiet n v) Q E s:=by
 have intsN:∀ (n:Nat) (i:Int) (A:Around) (v:Value) (Q:Bool->Shared->Prop),IsN s.heap (.int i) v->Q true s->wpAny (model prog w) A (eqIsQuiet n v) Q E s:=by
  intro n i A v Q hx h;rw [IsN] at hx;obtain⟨t,rfl⟩:=hx;rw [eqIsQuiet.eq_3 n _ (fun a q=>by cases q)];exact wpAny_pure h
 intro n
 induction n with
 | zero =>
  intro x A v Q hd hx h;cases x with
  | int i=>exact intsN 0 i A v Q hx h
  | tup l=>rw [NK.dep] at hd;omega
 | succ n ih =>
  intro x A v Q hd hx h;cases x with
  | int i=>exact intsN (n+1) i A v Q hx h
  | tup l =>
   rw [NK.dep] at hd;rw [IsN] at hx;obtain⟨a,its,rfl,ht,hi⟩:=hx;have hT:=ht.typeIs;rw [eqIsQuiet.eq_2];refine wpAny_bind (wpAny_specialOf hT F.slot_tuple_eq.lookup ?_);refine wpAny_bind (wpAny_isInstance hT isSubtype_tuple_tuple ?_);rw [zoc (by simp)];have loop:∀ (l:List NK) (vs:List Value) (Q':Option Bool × Unit->Shared->Prop),NK.depL l<=n->zbZ s.heap l vs->Q' (none,()) s ->
     wpAny (model prog w) A (forIn vs ((none,()):Option Bool × Unit) fun y _=>do let q ← eqIsQuiet n y;if (!q)=true then pure (ForInStep.done (some false,())) else pure (ForInStep.yield (none,()))) Q' E s:=by
    intro l
    induction l with
    | nil =>
     intro vs Q' _ hv hq;rw [zbZ] at hv;subst hv;exact wpAny_pure hq
    | cons k r ihl =>
     intro vs Q' hd hv hq;rw [NK.depL] at hd;rw [zbZ] at hv;obtain⟨u,us,rfl,hu',hr⟩:=hv;rw [List.forIn_cons];refine wpAny_bind (wpAny_bind (ih k A u _ (by omega) hu' ?_));rw [zoc (by simp)];exact wpAny_pure (ihl us Q' (by omega) hr hq)
   obtain⟨o,ho,hc,m',hdt⟩:=id ht;refine wpAny_bind (wpAny_seqItems ho hdt (wpAny_bind ?_));show wpAny _ _ (forIn its.toArray _ _) _ _ _;rw [← Array.forIn_toList];exact loop l its _ (by omega) hi (wpAny_pure h)
noncomputable def zkp (prog:Program) (w:World):HeapKind prog w NK where
 is:=fun h k a=>k.dep<=7/\IsN h k (.ref a)
 hash:=NK.hash
 draws:=NK.dr
 room:=fun A=>A.units+8<cLine
 inj:=fun hx hy=>zhr 7 _ _ _ hx.1 hx.2 hy.2
 keeps:=fun {h h' k a d o es ep} hx ho hd hs=>⟨hx.1,zch (fun b its ⟨o',e,c,n,q⟩=>⟨o',by
  rw [hs.2 b (by rintro rfl;rw [ho] at e;cases e;rw [hd] at q;cases q)];exact e,c,n,q⟩) 7 _ _ hx.1 hx.2⟩
 pyHash:=fun {A E s k a Q} hr hx h=>zf8 7 k A s _ Q hx.1 (by omega) hx.2 h
 eqBool:=fun {A E s x y a b Q} hr hx hy h=>eq_n 7 x y A _ _ hx.1 (by omega) hx.2 hy.2 prog w E Q h
 quiet:=fun {A E s k a Q} hx h=>zft 8 k A _ Q (znP hx.1 (by decide)) hx.2 h
end
mutual
def zcZ (H:Hp):NK->V->Prop
 | .int i,v=>v=.int i
 | .tup l,v=>∃ a xs,v=.ref a/\H a=some (.tup xs)/\zcd H l xs
def zcd (H:Hp):List NK->List V->Prop
 | [],vs=>vs=[]
 | k::r,vs=>∃ u us,vs=u::us/\zcZ H k u/\zcd H r us
end
theorem zcZ.mono {H H':Hp} (kp:∀ a xs,H a=some (.tup xs)->H' a=some (.tup xs)):∀ (n:Nat) (x:NK) (v:V),x.dep<=n->zcZ H x v->zcZ H' x v:=by
 intro n
 induction n with
 | zero =>
  intro x v hd hx;cases x with
  | int i=>rw [zcZ] at hx ⊢;exact hx
  | tup l=>rw [NK.dep] at hd;omega
 | succ n ih =>
  intro x v hd hx;cases x with
  | int i=>rw [zcZ] at hx ⊢;exact hx
  | tup l =>
   rw [NK.dep] at hd;rw [zcZ] at hx ⊢;obtain⟨a,its,rfl,ht,hi⟩:=hx;refine⟨a,its,rfl,kp _ _ ht,?_⟩;have key:∀ (l:List NK) (vs:List V),NK.depL l<=n->zcd H l vs->zcd H' l vs:=by
    intro l
    induction l with
    | nil=>intro vs _ h1;rw [zcd] at h1 ⊢;exact h1
    | cons k r ihl =>
     intro vs hd h1;rw [NK.depL] at hd;rw [zcd] at h1 ⊢;obtain⟨u,us,rfl,hu,hr⟩:=h1;exact⟨u,us,rfl,ih k u (by omega) hu,ihl us (by omega) hr⟩
   exact key l its (by omega) hi
theorem zhs {X:Cx} {pins:List (Addr × Obj)} {σ:St} {H:Hp} {s:Shared} (I:Inv X pins σ H s):∀ (n:Nat) (x:NK) (v:V) (u:Value),x.dep<=n->zcZ H x v->zaL v u->IsN s.heap x u:=by
 intro n
 induction n with
 | zero =>
  intro x v u hd hx ru;cases x with
  | int i=>rw [zcZ] at hx;subst hx;rw [IsN];exact ru
  | tup l=>rw [NK.dep] at hd;omega
 | succ n ih =>
  intro x v u hd hx ru;cases x with
  | int i=>rw [zcZ] at hx;subst hx;rw [IsN];exact ru
  | tup l =>
   rw [NK.dep] at hd;rw [zcZ] at hx;rw [IsN];obtain⟨a,xs,rfl,ht,hi⟩:=hx;cases ru;obtain⟨its,r,p,_⟩:=I.tuple (SqT.of ht);refine⟨a,its,rfl,p,?_⟩;have key:∀ (l:List NK) (vs:List V) (us:List Value),NK.depL l<=n->zcd H l vs->zaM vs us->zbZ s.heap l us:=by
    intro l
    induction l with
    | nil=>intro vs us _ h1 r;rw [zcd] at h1;subst h1;rw [zbZ];cases r;rfl
    | cons k q ihl =>
     intro vs us hd h1 r;rw [NK.depL] at hd;rw [zcd] at h1;rw [zbZ];obtain⟨u,ws,rfl,hu,hr⟩:=h1;cases r with
     | @cons _ b _ bs h t=>exact⟨b,bs,rfl,ih k u b (by omega) hu h,ihl ws bs (by omega) hr t⟩
   exact key l xs its (by omega) hi r
def zio (d:Addr) (xs:List (NK × Addr × Value)):Heap->Prop:=fun h=>∃ o es ep,h.get? d=some o/\o.ExactDict/\o.data=.dict es ep/\es.toList=xs.map fun x=>({ hash:=x.1.hash,key:=.ref x.2.1,val:=x.2.2 }:DictEntry)
theorem zjG {P:Program} {w:World} {H:Hp} {h:Heap} {d:Addr} {xs:List (NK × Addr × Value)} (p:zio d xs h):zaV P w H h d (.ext (zio d xs)):=by
 refine⟨p,?_,fun h1 h2 q k=>?_⟩
 ·obtain⟨o,_,_,e,_⟩:=p;exact⟨o,e⟩
 ·obtain⟨o,es,ep,e,r⟩:=q;exact⟨o,es,ep,k o e,r⟩
structure DNx (H:Hp) (d:Addr) (kvs:List (NK × Addr × V)):Prop where
 ex:∃ xs,H d=some (.ext (zio d xs))/\xs.map (fun x=>(x.1,x.2.1))=kvs.map (fun q=>(q.1,q.2.1))/\zaM (kvs.map (·.2.2)) (xs.map (·.2.2))
 ks:∀ q∈kvs,q.1.dep<=7/\zcZ H q.1 (.ref q.2.1)
 nd:(kvs.map (·.1)).Nodup
 sz:kvs.length<=sizeLine
 sm:(d == sysModules)=false
theorem zlA {X:Cx} {pins:List (Addr × Obj)} {σ:St} {H:Hp} {s:Shared} {d:Addr} {kvs:List (NK × Addr × V)} (I:Inv X pins σ H s) (D:DNx H d kvs) :
  ∃ xs,H d=some (.ext (zio d xs))/\xs.map (fun x=>(x.1,x.2.1))=kvs.map (fun q=>(q.1,q.2.1))/\zaM (kvs.map (·.2.2)) (xs.map (·.2.2))/\s.heap.DictOfH (zkp X.prog X.w) d xs:=by
 obtain⟨xs,e,hk,hv⟩:=D.ex;refine⟨xs,e,hk,hv,?_⟩;obtain⟨⟨o,es,ep,h1,h2,h3,h4⟩,_,_⟩:=(show zaV X.prog X.w H s.heap d (.ext (zio d xs)) from I.hok d _ e);refine⟨o,es,ep,h1,h2,h3,h4,fun x hx=>?_,?_⟩
 ·have:(x.1,x.2.1)∈kvs.map (fun q=>(q.1,q.2.1)):=by rw [← hk];exact znS.2 ⟨x,hx,rfl⟩
  obtain⟨q,hq,e'⟩:=znS.1 this;obtain⟨k1,k2⟩:=D.ks q hq;injection e' with e1 e2
  rw [e1] at k1 k2;rw [e2] at k2;exact⟨k1,zhs I 7 x.1 _ _ k1 k2 rfl⟩
 ·have:=congrArg (List.map (fun z:NK × Addr=>z.1)) hk
  rw [zn1,zn1] at this;have n:=D.nd;rw [show kvs.map (·.1)=kvs.map ((fun z:NK × Addr=>z.1) ∘ fun q=>(q.1,q.2.1)) from rfl,← this] at n
  exact n
section
variable {X:Cx} {pos:Pos}
def zmq:TE:=fun _ H Q=>∀ p H',H p=none->H'=upd H p (.ext (zio p []))->DNx H' p []->Q (.ref p) H'
theorem ziZ:PE X (.Dict [] [] pos) zmq:=fun pins s σ H Q I h =>
 wpAny_Dict_empty ⟨.ref s.heap.objs.size,_,I.laid (a:=s.heap.objs.size) (o:=.ext (zio s.heap.objs.size [])) (t':=s.toks) (fun _ _ q=>znN _ q) (znQ _) (zjG ⟨_,#[],0,zn9 _ rfl,⟨rfl,rfl,rfl⟩,rfl,rfl⟩),rfl,
  h _ _ (I.hok.fresh (znQ _)) rfl ⟨⟨[],zae,rfl,.nil⟩,(fun q hq=>by cases hq),List.nodup_nil,Nat.zero_le _,beq_eq_false_iff_ne.mpr (Ne.symm (zoi I.big))⟩⟩
theorem zdx {xs:List (NK × Addr × Value)} {k:NK}:(atKey xs k).isSome=decide (k∈xs.map (·.1)):=by
 unfold atKey;rw [Option.isSome_map];by_cases h:k∈xs.map (·.1)
 ·rw [znG h];obtain⟨x,hx,rfl⟩:=znS.1 h;exact List.find?_isSome.2 ⟨x,hx,znG rfl⟩
 ·rw [znH h];cases e:xs.find? (fun x=>decide (x.1=k)) with
  | none=>rfl
  | some x =>
   have e2:=List.find?_some e;exact (h (znS.2 ⟨x,List.mem_of_find?_eq_some e,zoj e2⟩)).elim
theorem zkl {xs:List (NK × Addr × Value)} {kvs:List (NK × Addr × V)} (h:xs.map (fun x=>(x.1,x.2.1))=kvs.map (fun q=>(q.1,q.2.1))):xs.map (·.1)=kvs.map (·.1):=by
 have:=congrArg (List.map (fun z:NK × Addr=>z.1)) h
 rw [zn1,zn1] at this;exact this
end
theorem DNx.sub {H H':Hp} {d:Addr} {kvs:List (NK × Addr × V)} (S:Sub H H') (h:DNx H d kvs):DNx H' d kvs :=
 ⟨h.ex.imp fun _ z=>⟨S _ _ z.1,z.2⟩,fun q hq=>⟨(h.ks q hq).1,zcZ.mono (fun _ _ e=>S _ _ e) 7 _ _ (h.ks q hq).1 (h.ks q hq).2⟩,h.nd,h.sz,h.sm⟩
end L2
end
section
set_option autoImplicit true
open PySem
namespace L2
end L2
end
section
set_option autoImplicit true
open PySem
namespace L2
end L2
end
section
set_option autoImplicit true
open PySem PySem.Spec PyProof.Rows
namespace L2
variable {X:Cx}
def znw (t:TT):TT:=fun σ H Q=>∃ R:Bool->Hp->Prop,t σ H R/\∀ b H',R b H'->Q b H'
theorem zl7 {e:Expr} {t:TT} (h:PT X e t):PT X e (znw t):=fun pins s σ H _ I ⟨R,h1,h2⟩ =>
 thn (h pins s σ H R I h1) fun _ _ ⟨H',I',q⟩=>⟨H',I',h2 _ _ q⟩
end L2
end
section
namespace L2
open PySem PySem.Spec PyProof.Rows PySem.W
section
variable {prog:Program} {w:World} {A:Around} {E:Value->Shared->Prop} {s:Shared}
end
section
variable {prog:Program} {w:World} {A:Around} {s:Shared} {R:Result->Shared->Prop} {its:Array Value}
end
section
variable {prog:Program} {w:World} {A:Around} {E:Value->Shared->Prop} {s:Shared} {its:Array Value}
end
section
variable {prog:Program} {w:World} {A:Around} {E:Value->Shared->Prop} {s:Shared}
end
section
variable {X:Cx} {K:PySem.W.Frag}
end
end L2
end
section
set_option autoImplicit true
open PySem
namespace L2
end L2
end
section
namespace L2
open PySem PySem.Spec PyProof.Rows PySem.W
def zgS (h:Heap) (d:Addr) (es:Array DictEntry) (ep:Nat):Prop:=∃ o,h.get? d=some o/\o.ExactDict/\o.data=.dict es ep
theorem zgS.at {h h1:Heap} {d:Addr} {es:Array DictEntry} {ep:Nat} (x:zgS h d es ep) (k:∀ o,h.get? d=some o->h1.get? d=some o):zgS h1 d es ep:=let ⟨o,e,r⟩:=x;⟨o,k o e,r⟩
section
variable {prog:Program} {w:World} {A:Around} {E:Value->Shared->Prop} {s:Shared} {es:Array DictEntry} {ep:Nat}
theorem zgS.ty {d:Addr} (x:zgS s.heap d es ep):s.TypeIs (.ref d) "dict":=let ⟨o,e,c,_⟩:=x;⟨o,e,c.1⟩
theorem zi9 {d:Addr} {Q:Value->Shared->Prop} (hd:(d == sysModules)=false) (hm:zgS s.heap d es ep) (q:Q (.ref s.heap.objs.size) { s with heap:=s.heap.push { cls:=.type "dict_keyiterator",data:=.fields #[.ref d,.int 0 0,.int es.size 0,.int ep 0] } }) :
  wpAny (model prog w) A (pyIter (.ref d)) Q E s:=by
 have hT:=hm.ty;obtain⟨o,ho,hc,hdat⟩:=id hm;refine wpAny_pyIter_slot hT F.slot_dict_iter (wpAny_call_entry F.slot_dict_iter hT F.entry_dict_iter ?_ (F.args_dict_iter_1 _));unfold Builtin.«dict.__iter__» Builtin.Dict.dictSlotNone;refine wpAny_bind (wpAny_bind (wpAny_notOrdered_dict hT ?_));show wpAny (model prog w) _ (pure (Value.ref d)) _ _ s;refine wpAny_pure ?_;show wpAny (model prog w) _ (Builtin.Dict.showsAll d >>= _) _ _ s;unfold Builtin.Dict.showsAll;rw [hd];refine wpAny_bind (wpAny_pure (wpAny_bind (wpAny_dictEntries ho hdat (wpAny_bind (wpAny_dictEpoch ho hdat ?_)))));exact wpAny_bind (wpAny_newObj_type (wpAny_pure ⟨_,rfl,"dict_keyiterator",_,⟨_,zn9 _ rfl,rfl⟩,F.slot_dict_keyiterator_next.lookup,by simpa [rawInt] using q⟩))
theorem zi8 {j d:Addr} {i:Nat} {x:DictEntry} {Q:Option Value->Shared->Prop} (hit:s.heap.IsKeyIter j d i es.size ep) (hm:zgS s.heap d es ep) (hx:es[i]?=some x) (q:∀ h1,h1.IsKeyIter j d (i+1) es.size ep->Heap.SameBut j s.heap h1->Q (some x.key) { s with heap:=h1 }) :
  wpAny (model prog w) A (pyNext (.ref j)) Q E s:=by
 obtain⟨o,ho,hc,hd⟩:=id hit;obtain⟨od,hod,hcd,hdd⟩:=id hm;unfold pyNext;refine wpAny_bind (wpAny_attempt (wpAny_callSpecial?_slot (name:=Str.ofString "__next__") hit.typeIs F.slot_dict_keyiterator_next (wpAny_call_entry F.slot_dict_keyiterator_next hit.typeIs F.entry_dict_keyiterator_next ?_ (F.args_dict_keyiterator_next_1 _))));refine wpAny_bind (wpAny_pure (wpAny_bind (wpAny_bind ?_)))
 first | refine wpAny_bind (wpAny_typeNameOfWhole_keyiter hit.typeIs (wpAny_pure (wpAny_bind (wpAny_fieldsOf ho hd ?_)))) | refine wpAny_bind (wpAny_typeNameOf_keyiter hit.typeIs (wpAny_pure (wpAny_bind (wpAny_fieldsOf ho hd ?_))))
 simp only [show Builtin.Dict_items.ownsTuple "dict_keyiterator"=false from by decide,Bool.false_eq_true,if_false];show wpAny _ _ (if (Value.ref d == Value.none)=true then _ else _) _ _ s;rw [zoc (by intro z;exact zok z)];refine wpAny_bind (wpAny_pure (wpAny_bind (wpAny_dictEntries hod hdd ?_)));rw [zoc (by simp)];refine wpAny_bind (wpAny_pure (wpAny_bind (wpAny_dictEpoch hod hdd ?_)));rw [zoc (by simp)];refine wpAny_pure ?_;have hlt:i<es.size:=(Array.getElem?_eq_some_iff.1 hx).1;have hxe:es[i]=x:=(Array.getElem?_eq_some_iff.1 hx).2;simp only [show ¬ ((i:Int)<0) from by omega,if_false,Int.toNat_natCast,Array.getElem?_eq_getElem hlt];refine wpAny_bind ?_
 first | refine wpAny_bind (wpAny_typeNameOfWhole_keyiter hit.typeIs (wpAny_pure (wpAny_bind (wpAny_isOneOf_keyiter hit.typeIs ?_)))) | refine wpAny_bind (wpAny_typeNameOf_keyiter hit.typeIs (wpAny_pure (wpAny_bind (wpAny_isOneOf_keyiter hit.typeIs ?_))))
 show wpAny _ _ (setField (.ref j) 1 (rawInt ((i:Int)+1)) >>= _) _ _ s;refine wpAny_bind (wpAny_setField ho hd (by simp) ?_);have hit1:(s.heap.update j (Obj.mapFields (·.setIfInBounds 1 (rawInt ((i:Int)+1))))).IsKeyIter j d (i+1) es.size ep :=
  ⟨_,Heap.get?_update_self _ ho (Obj.isFreed_of_fields (Obj.data_mapFields hd _)),(Obj.cls_mapFields ..).trans hc,by rw [Obj.data_mapFields hd];simp [rawInt]⟩
 refine wpAny_bind (wpAny_holding (wpAny_bind (wpAny_isOneOf_keyiter (s:={ s with heap:=s.heap.update j (Obj.mapFields (·.setIfInBounds 1 (rawInt ((i:Int)+1)))) }) hit1.typeIs ?_)))
 show wpAny (model prog w) _ (pure es[i].key) _ _ _;rw [hxe];exact wpAny_pure (wpAny_pure ⟨_,rfl,wpAny_pure (q _ hit1 (Heap.SameBut.update ..))⟩)
theorem zkQ {j d:Addr} {i:Nat} {Q:Option Value->Shared->Prop} (hh:A.handled=none) (hit:s.heap.IsKeyIter j d i es.size ep) (hm:zgS s.heap d es ep) (hx:es.size<=i) (q:∀ h1,Heap.ExtBut j s.heap h1->Q none { s with heap:=h1 }) :
  wpAny (model prog w) A (pyNext (.ref j)) Q E s:=by
 obtain⟨o,ho,hc,hd⟩:=id hit;obtain⟨od,hod,hcd,hdd⟩:=id hm;unfold pyNext;refine wpAny_bind (wpAny_attempt (wpAny_callSpecial?_slot (name:=Str.ofString "__next__") hit.typeIs F.slot_dict_keyiterator_next (wpAny_call_entry F.slot_dict_keyiterator_next hit.typeIs F.entry_dict_keyiterator_next ?_ (F.args_dict_keyiterator_next_1 _))));refine wpAny_bind (wpAny_pure (wpAny_bind (wpAny_bind ?_)))
 first | refine wpAny_bind (wpAny_typeNameOfWhole_keyiter hit.typeIs (wpAny_pure (wpAny_bind (wpAny_fieldsOf ho hd ?_)))) | refine wpAny_bind (wpAny_typeNameOf_keyiter hit.typeIs (wpAny_pure (wpAny_bind (wpAny_fieldsOf ho hd ?_))))
 simp only [show Builtin.Dict_items.ownsTuple "dict_keyiterator"=false from by decide,Bool.false_eq_true,if_false];show wpAny _ _ (if (Value.ref d == Value.none)=true then _ else _) _ _ s;rw [zoc (by intro z;exact zok z)];refine wpAny_bind (wpAny_pure (wpAny_bind (wpAny_dictEntries hod hdd ?_)));rw [zoc (by simp)];refine wpAny_bind (wpAny_pure (wpAny_bind (wpAny_dictEpoch hod hdd ?_)));rw [zoc (by simp)];refine wpAny_pure ?_;simp only [show ¬ ((i:Int)<0) from by omega,if_false,Int.toNat_natCast,Array.getElem?_eq_none hx];refine wpAny_bind ?_
 first | refine wpAny_bind (wpAny_typeNameOfWhole_keyiter hit.typeIs (wpAny_pure ?_)) | refine wpAny_bind (wpAny_typeNameOf_keyiter hit.typeIs (wpAny_pure ?_))
 show wpAny _ _ (setField (.ref j) 0 .none >>= _) _ _ s;refine wpAny_bind (wpAny_setField ho hd (by simp) ?_);show wpAny (model prog w) _ (newExc (.type "StopIteration") [] >>= _) _ _ _;refine wpAny_bind ?_;simp only [newExc,newTuple];refine wpAny_bind (wpAny_newObj_type (?_:_) (by size_fits));refine wpAny_bind (m:=firstArgMember _ _) (wpAny_of_eq (a:=Value.none) (by first | rfl | (with_unfolding_all rfl)) ?_);refine wpAny_newObj_type (?_:_) (by size_fits);simp only [raiseNew];refine wpAny_bind (wpAny_handled ?_)
 first | rw [show A.in1.handled=none from hh] | rw [hh]
 refine wpAny_bind (wpAny_pure (wpAny_throw ?_));refine wpAny_bind (wpAny_isInstance (b:=true) (T:="StopIteration") ⟨_,zn9 _ rfl,rfl⟩ isSubtype_stop ?_);exact wpAny_pure (q _ (((Heap.SameBut.update ..).extBut.push _).push _))
theorem zh6 (hh:A.handled=none) (I d:Addr) (hne:d≠I):Walks prog w A I [I,d] [I] es.size (fun i v=>∃ x,es[i]?=some x/\x.key=v) (fun i h=>h.IsKeyIter I d i es.size ep/\zgS h d es ep) where
 sub:=fun b hb=>by simp at hb;simp [hb]
 frame:=fun _ _ _ st hk=>⟨let ⟨o,e,r⟩:=st.1;⟨o,hk I (by simp) o e,r⟩,st.2.at fun o e=>hk d (by simp) o e⟩
 item:=fun i s Q E hi st hQ=>zi8 st.1 st.2 (x:=es[i]) (by simp [hi]) fun h1 hit1 hs1=>hQ _ h1 s.toks ⟨es[i],by simp [hi],rfl⟩ ⟨hit1,st.2.at fun o e=>hs1.extBut d o hne e⟩ fun b o hb e=>hs1.extBut b o (fun z=>hb (by simp [z])) e
 done:=fun s Q E st hQ=>zkQ hh st.1 st.2 (znQ _) fun h1 he=>hQ h1 s.toks fun b o hb e=>he b o (fun z=>hb (by simp [z])) e
 self:=fun _ _ _ _ st hQ=>wpAny_pyIter_keyiter st.1 hQ
theorem zkj {d:Addr} (lo:(d == sysModules)=false):KdlSrc prog w "dict" d d es.size (fun i v=>∃ x,es[i]?=some x/\x.key=v) (fun h=>zgS h d es ep) where
 type:=fun _ hm=>hm.ty
 there:=fun h hm=>let ⟨o,e,_⟩:=hm;⟨zn0 e,zn0 e⟩
 keep:=fun _ _ hm hk=>hm.at fun o e=>hk d (.inl rfl) o e
 notList:=by decide
 notTuple:=by decide
 hint:=fun _ _ _ _ hm hq=>kdl_hint_dict hm.ty hq
 iter:=fun _ s hh hm=>⟨_,_,(fun _ _ hq=>zi9 lo hm hq),zh6 hh _ d (by obtain⟨o,e,_⟩:=hm;exact zoi (zn0 e)),⟨⟨_,zn9 _ rfl,rfl,rfl⟩,hm.at fun o e=>znN _ e⟩⟩
end
section
variable {X:Cx} {pos:Pos}
def zju:List V->Hp->VK->Prop:=fun xs H Q=>match xs with
 | [.ref d]=>∃ kvs:List (NK × Addr × V),DNx H d kvs/\∀ p,H p=none->Q (.ref p) (upd H p (.lst (kvs.map fun q=>V.ref q.2.1)))
 | _=>False
theorem zkN (hc:X.calm=true):za9 X (.type "list") zju:=by
 intro pins s σ H xs us Q I r h;unfold zju at h;split at h
 ·rename_i d;obtain⟨kvs,D,q⟩:=h;cases r with
  | cons r rr =>
  cases rr;cases r;obtain⟨xs,e,hks,hv,dd⟩:=zlA I D;obtain⟨o,es,ep,g1,g2,g3,g4,_⟩:=id dd;have hraw:zgS s.heap d es ep:=⟨o,g1,g2,g3⟩;have hxl:xs.length=kvs.length:=by have:=congrArg List.length hks;simpa using this
  have hel:es.size=kvs.length:=by rw [← zoe,g4,znA,hxl]
  refine kdl_call (zkj D.sm) (I.ok.hd hc) hraw (by rw [hel];exact D.sz) fun h' tk acc c hk hg hi=>?_
  refine⟨.ref s.heap.objs.size,_,I.laid (a:=s.heap.objs.size) (o:=.lst (kvs.map fun q=>V.ref q.2.1)) (t':=tk) hk (znQ _) ⟨by rw [znA];exact D.sz,acc.toList,c,?_,by simpa using hg⟩,rfl,q _ (I.hok.fresh (znQ _))⟩;refine zii (by rw [znA,← hel,← hi.1,zoe]) fun i x u hx hu=>?_
  rw [zof] at hu;obtain⟨y,hy,hyu⟩:=hi.2 i u hu;rw [← zof,g4,znB] at hy;obtain⟨z,hz,rfl⟩:=znD.1 hy;rw [znB] at hx;obtain⟨qv,hq,rfl⟩:=znD.1 hx
  have:=congrArg (fun l=>l[i]?) hks
  simp only [znB,hz,hq,Option.map_some] at this;injection this with this
  injection this with _ this
  subst hyu;show Value.ref z.2.1=Value.ref qv.2.1;rw [this]
 ·exact h.elim
noncomputable def zmF (kvs:List (NK × Addr × V)) (k:NK) (b:Addr) (v:V):List (NK × Addr × V):=if k∈kvs.map (·.1) then kvs.map (fun q=>if q.1=k then (q.1,q.2.1,v) else q) else kvs++[(k,b,v)]
def zno (td ty tv:TE):TS:=fun D σ H=>tv σ H fun v H1=>td σ H1 fun x H2=>ty σ H2 fun y H3=>∃ d b k kvs,x=.ref d/\y=.ref b/\k.dep<=7/\zcZ H3 k (.ref b)/\DNx H3 d kvs/\kvs.length<sizeLine /\
 ∀ H4:Hp,(∀ c u,H3 c=some u->c≠d->H4 c=some u)->(∀ c,H3 c=none->H4 c=none)->DNx H4 d (zmF kvs k b v)->D.nx σ H4
theorem zi4 {r:Nat} {o i value:Expr} {td ty tv:TE} {pos':Pos} (hr:zb7 r X.A) (ho:PE X o td) (hi:PE X i ty) (hv:PE X value tv) (hs:swapsWith value (some (.Subscript o i pos')) pos.line X.env=pure false) :
  PS X (.Assign [.Subscript o i pos'] value pos) (zno td ty tv):=by
 intro pins s σ H D I h;refine wpAny_Assign_Subscript (thn (hv pins s σ H _ I h) fun rr s1 ⟨v,H1,I1,rv,q1⟩=>thn (ho pins s1 σ H1 _ I1 q1) fun u s2 ⟨x,H2,I2,rx,q2⟩=>thn (hi pins s2 σ H2 _ I2 q2) fun iv s3 ⟨y,H3,I3,ry,d,b,k,kvs,ex,ey,hk,hb,DD,hl,q3⟩=>?_) hs;subst ex;subst ey;obtain rfl:u=Value.ref d:=rx;obtain rfl:iv=Value.ref b:=ry;obtain⟨xs,e,hks,hvv,dd⟩:=zlA I3 DD;have hxl:xs.length=kvs.length:=by have:=congrArg List.length hks;simpa using this
 have hkk:=zkl hks;refine wpAny_setItem_heap (knd:=zkp X.prog X.w) (by show X.A.units+1+8<cLine;have:=hr.units;omega) ⟨hk,zhs I3 7 k _ _ hk hb rfl⟩ dd (fun h' dd' hsb=>?_) (by omega);obtain⟨o',es,ep,g1,g2,g3,g4,g5,g6⟩:=dd';have new:zaV X.prog X.w (upd H3 d (.ext (zio d (storedH xs k b rr)))) h' d (.ext (zio d (storedH xs k b rr))):=zjG ⟨o',es,ep,g1,g2,g3,g4⟩;have I4:=zc3 (t':=s3.toks+(zkp X.prog X.w).draws k) I3 (by rw [e];exact True.intro) hsb ⟨o',g1⟩ new;refine⟨σ,_,I4,q3 _ (fun c u' ec ne=>by rw [zam ne];exact ec) (fun c ec=>by rw [zam (by rintro rfl;rw [e] at ec;cases ec)];exact ec) ?_⟩;have kp:∀ a xs',H3 a=some (.tup xs')->(upd H3 d (.ext (zio d (storedH xs k b rr)))) a=some (.tup xs'):=fun a xs' ea=>by rw [zam (by rintro rfl;rw [e] at ea;cases ea)];exact ea
 unfold zmF;by_cases hn:k∈kvs.map (·.1)
 ·have hst:storedH xs k b rr=xs.map (putAt k rr):=by
   unfold storedH;rw [zdx,hkk,zod (znG hn)]
  rw [zod hn];rw [hst] at kp ⊢;refine⟨⟨_,zae,?_,?_⟩,fun q hq=>?_,?_,by rw [znA];exact DD.sz,DD.sm⟩
  ·rw [zn1,zn1];have e1:xs.map ((fun x:NK × Addr × Value=>(x.1,x.2.1)) ∘ putAt k rr)=xs.map (fun x=>(x.1,x.2.1)):=zon fun x _=>by
    show ((putAt k rr x).1,(putAt k rr x).2.1)=_;unfold putAt;split <;> rfl
   have e2:kvs.map ((fun q:NK × Addr × V=>(q.1,q.2.1)) ∘ fun q=>if q.1=k then (q.1,q.2.1,v) else q)=kvs.map (fun q=>(q.1,q.2.1)):=zon fun x _=>by
    show ((if x.1=k then (x.1,x.2.1,v) else x).1,(if x.1=k then (x.1,x.2.1,v) else x).2.1)=_;split <;> rfl
   rw [e1,e2,hks]
  ·have key:∀ (xs:List (NK × Addr × Value)) (kvs:List (NK × Addr × V)),xs.map (fun x=>(x.1,x.2.1))=kvs.map (fun q=>(q.1,q.2.1))->zaM (kvs.map (·.2.2)) (xs.map (·.2.2)) -> zaM ((kvs.map fun q=>if q.1=k then (q.1,q.2.1,v) else q).map (·.2.2)) ((xs.map (putAt k rr)).map (·.2.2)):=by
    intro xs
    induction xs with
    | nil=>intro kvs h1 h2;cases kvs with
     | nil=>exact .nil
     | cons q kvs=>cases h1
    | cons x xs ih=>intro kvs h1 h2;cases kvs with
     | nil=>cases h1
     | cons q kvs =>
      rw [zn2,zn2] at h1;injection h1 with h3 h4
      injection h3 with h3 _
      rw [zn2,zn2] at h2;cases h2 with
      | cons r1 r2 =>
      rw [zn2,zn2,zn2,zn2];refine .cons ?_ (ih kvs h4 r2);unfold putAt;by_cases c:x.1=k
      ·rw [zod c,zod (h3.symm.trans c)];exact rv
      ·rw [zoc c,zoc (fun z=>c (h3.trans z))];exact r1
   exact key xs kvs hks hvv
  ·obtain⟨q0,hq0,rfl⟩:=znS.1 hq
   have:=DD.ks q0 hq0
   have e1:(if q0.1=k then (q0.1,q0.2.1,v) else q0).1=q0.1:=by split <;> rfl
   have e2:(if q0.1=k then (q0.1,q0.2.1,v) else q0).2.1=q0.2.1:=by split <;> rfl
   rw [e1,e2];exact⟨this.1,zcZ.mono kp 7 _ _ this.1 this.2⟩
  ·rw [zn1];have e2:kvs.map ((fun q:NK × Addr × V=>q.1) ∘ fun q=>if q.1=k then (q.1,q.2.1,v) else q)=kvs.map (·.1):=zon fun x _=>by
    show (if x.1=k then (x.1,x.2.1,v) else x).1=_;split <;> rfl
   rw [show (fun q:NK × Addr × V=>q.1)=(·.1) from rfl] at e2
   rw [e2];exact DD.nd
 ·have hst:storedH xs k b rr=xs++[(k,b,rr)]:=by
   unfold storedH;rw [zdx,hkk,znH hn,zoc zok]
  rw [zoc hn];rw [hst] at kp ⊢;refine⟨⟨_,zae,by rw [znI,znI,hks];rfl,?_⟩,fun q hq=>?_,?_,by rw [znK];show kvs.length+1<=_;omega,DD.sm⟩
  ·rw [znI,znI];exact hvv.append (.cons rv .nil)
  ·rcases znL.1 hq with hq | hq
   ·exact⟨(DD.ks q hq).1,zcZ.mono kp 7 _ _ (DD.ks q hq).1 (DD.ks q hq).2⟩
   ·simp at hq
    subst hq;exact⟨hk,zcZ.mono kp 7 _ _ hk hb⟩
  ·rw [znI];exact List.nodup_append.2 ⟨DD.nd,by simp,fun a ha c hc=>by simp at hc;subst hc;rintro rfl;exact hn ha⟩
end
end L2
end
section
namespace L2
open PySem PySem.Spec PyProof.Rows PySem.W
section
variable {X:Cx}
def rgL (a:Int) (n:Nat):List Int:=(List.range n).map fun (i:Nat)=>a+(i:Int)
def tLR (ta:TA):TE:=fun σ H Q=>ta σ H fun vs H1=>match vs with
 | [.int i,.int j]=>(-(2 ^ 62)<=i/\i<2 ^ 62/\-(2 ^ 62)<=j/\j<2 ^ 62/\(j-i).toNat<=2000)/\∀ (p:Addr),H1 p=none->Q (.ref p) (upd H1 p (.lst ((rgL i (j-i).toNat).map V.int)))
 | _=>False
theorem zik:∀ (us:List Value) (a:Int),(∀ (j:Nat) (v:Value),us[j]?=some v->∃ t,v=.int (a+j*1) t)->zaM ((rgL a us.length).map V.int) us
 | [],_,_=>.nil
 | u::us,a,h=>by
  have e:rgL a (u::us).length=a::rgL (a+1) us.length:=by
   unfold rgL;rw [zob,List.range_succ_eq_map,zn2,zn1];refine congr (congrArg List.cons (Int.add_zero a)) (zon fun i _=>?_);show a+((i+1:Nat):Int)=a+1+(i:Int);omega
  rw [e];refine .cons ?_ (zik us (a+1) fun j v hj=>?_)
  ·obtain⟨t,ht⟩:=h 0 u rfl;exact⟨t,by rw [ht];congr 1;omega⟩
  ·obtain⟨t,ht⟩:=h (j+1) v hj;exact⟨t,by rw [ht];congr 1;omega⟩
theorem zhQ {a b:Expr} {ta:TA} {p p' pos pos':Pos} (hc:X.calm=true) (gl:Gl X "list") (ml:X.mg "list"=none) (ge:Gl X "range") (me:X.mg "range"=none) (ha:PA X [a,b] ta) (hs:starEach [a,b] X.env=[(false,eval a X.env),(false,eval b X.env)]:=by rfl) (hs2:starEach [b] X.env=[(false,eval b X.env)]:=by rfl)
  (hs':starEach [.Call (.Name "range" p') [a,b] [] pos'] X.env=[(false,eval (.Call (.Name "range" p') [a,b] [] pos') X.env)]:=by rfl) :
  PE X (.Call (.Name "list" p) [.Call (.Name "range" p') [a,b] [] pos'] [] pos) (tLR ta):=by
 intro pins s σ H Q I h;refine Call_ (zdd I gl ml zgY (PyProof.Rows.callWith_type1 ?_ hs' rfl));rw [hs'];show wpAny _ _ (spliced ((false,eval (.Call (.Name "range" p') [a,b] [] pos') X.env)::backTo pos [])) _ _ s;refine Calls.spliced_cons ?_;refine Call_ (zdd I ge me boot_range (PyProof.Rows.callWith_type1 (thn (ha pos' pins s σ H _ I h) fun us s1 ⟨vs,H1,I1,r1,q1⟩=>?_) (by rw [hs,hs2]) (by rw [hs2];rfl)));obtain⟨i,j,t,t',rfl,⟨b1,b2,b3,b4,b5⟩,q⟩:∃ (i j:Int) (t t':Tok),us=[.int i t,.int j t']/\(-(2 ^ 62)<=i/\i<2 ^ 62/\-(2 ^ 62)<=j/\j<2 ^ 62/\(j-i).toNat<=2000)/\∀ (p:Addr),H1 p=none->Q (.ref p) (upd H1 p (.lst ((rgL i (j-i).toNat).map V.int))):=by
  dsimp only at q1;split at q1
  ·cases r1 with
   | cons r rr=>cases rr with
    | cons r' rr =>
     cases rr;obtain⟨t,rfl⟩:=r;obtain⟨t',rfl⟩:=r';exact⟨_,_,t,t',rfl,q1⟩
  ·exact q1.elim
 refine call_range_2 ?_;refine Calls.spliced_nil ?_;have hn:Builtin.Range.rangeSize i j 1=((j-i).toNat:Int):=by rw [rangeSize_one];split <;> omega
 refine call_list_range (s:={ s1 with heap:=s1.heap.push _,toks:=s1.toks+1 }) (I.ok.hd hc) (IsRange.new s1.heap i j 1 t t' s1.toks) (small_one b1 b2 b3 b4) hn (znP b5 (by decide)) fun h' tk acc c hk hD hI=>?_
 dsimp only at hk hD;have hk3:∀ b o,s1.heap.get? b=some o->h'.get? b=some o:=fun b o e=>hk b o (znN _ e)
 have noneS:s1.heap.get? (s1.heap.push { cls:=.type "range",data:=.fields #[.int i t,.int j t',.int 1 s1.toks] }).objs.size=none:=Heap.get?_none_of_le (by show _<=(Array.push _ _).size;rw [Array.size_push];exact Nat.le_succ _);generalize (s1.heap.push { cls:=.type "range",data:=.fields #[.int i t,.int j t',.int 1 s1.toks] }).objs.size=D at hD noneS ⊢;have hl:acc.toList.length=(j-i).toNat:=by rw [zoe];exact hI.1
 have hI':zaM ((rgL i (j-i).toNat).map V.int) acc.toList:=by
  rw [← hl];exact zik _ _ fun k v hv=>hI.2 k v (by rw [← hv,zof])
 have nH:=I1.noneAt noneS;refine⟨.ref D,_,I1.more hk3 (Sub.new nH) (fun b o ho hb=>?_),rfl,q D nH⟩;by_cases cb:b=D
 ·subst cb;rw [zae] at ho;cases ho;refine⟨noneS,?_⟩;exact⟨by rw [znA];unfold rgL;rw [znA,List.length_range];exact znP b5 (by decide),acc.toList,c,hI',by rw [Array.toArray_toList];exact hD⟩
 ·rw [zam cb,hb] at ho;cases ho
end
end L2
end
section
namespace L2
open PySem PySem.Spec PyProof.Rows PySem.W
section
variable {X:Cx}
end
section
variable {X:Cx} {K:PySem.W.Frag} {e st:Expr} {te:TE} {ts:TO} {pos p2:Pos}
end
theorem zj6 (rs:Mk2):dep (dL rs)<=3:=by
 rw [dL,dep]
 have:depL (rs.map dP)<=2:=zfa fun d hd=>by
  obtain⟨q,_,rfl⟩:=znS.1 hd;show dep (.tup [.int q.1,.int q.2])<=2;rw [dep]
  have:depL [DD.int q.1,DD.int q.2]<=1:=zfa fun d hd=>by
   simp at hd
   rcases hd with rfl | rfl <;> simp [dep]
  omega
 omega
theorem zg9 (rs:Mk2):dep (dL rs)<=60:=znP (zj6 rs) (by decide)
end L2
end
section
set_option autoImplicit false
open PySem PySem.Spec PyProof.Rows
namespace L2
section
variable {Y:Cx} {e tg iter:Expr} {d:Nat} {ifs:List Expr} {emit:Env->Addr->Sem Unit} {wi:TI} {g:TG} {tc:TT} {tm:TM}
end
section
variable {X:Cx} {sc:Scope} {own:List Str} {fr:List Nat} {elt tg iter tg2 iter2 tg3 iter3:Expr} {ifs ifs2 ifs3:List Expr} {wi wi2 wi3:TI} {g g2 g3:TG} {tc tc2 tc3:TT} {te:TE} {pos:Pos}
end
end L2
end
section
namespace L2
open PySem PySem.Spec PyProof.Rows PySem.W
section
variable {X:Cx}
end
section
variable {prog:Program} {w:World} {A:Around} {E:Value->Shared->Prop} {s:Shared}
end
section
variable {X:Cx} {K:PySem.W.Frag}
end
section
variable {K:PySem.W.Frag} {a:Addr} {xs:List V} {g:TG} {tc:TT} {tm:TM} {σ:St} {H:Hp} {p:Addr} {Q:Hp->Prop}
end
end L2
end
section
namespace L2
open PySem PySem.Spec PyProof.Rows PySem.W
def zdi (M:Nat):Prop:=M=7\/M=31\/M=127
def lcg (M:Nat):Nat->Nat->Nat
 | i,0=>i
 | i,r+1=>lcg M ((i*5+1) % (M+1)) r
def orb (M:Nat):Nat->Nat->List Nat
 | _,0=>[]
 | i,r+1=>i::orb M ((i*5+1) % (M+1)) r
theorem zhO {M j:Nat}:∀ {r i:Nat},j∈orb M i r->∃ b,b<r/\lcg M i b=j
 | 0,_,h=>by cases h
 | r+1,i,h=>by
  rw [orb] at h;rcases zoh.1 h with h | h
  ·exact⟨0,Nat.succ_pos _,h.symm⟩
  ·obtain⟨b,hb,e⟩:=zhO h;exact⟨b+1,Nat.succ_lt_succ hb,e⟩
theorem zd0 {M:Nat}:∀ (a i b:Nat),lcg M (lcg M i a) b=lcg M i (a+b)
 | 0,i,b=>by rw [Nat.zero_add];rfl
 | a+1,i,b=>by rw [Nat.add_right_comm];exact zd0 a _ b
theorem zkt {M:Nat} (h:zdi M):(List.range (M+1)).all (fun j=>(orb M 0 (M+1)).contains j)=true/\lcg M 0 (M+1)=0:=by
 rcases h with rfl | rfl | rfl
 ·exact⟨by decide +kernel,by decide +kernel⟩
 ·exact⟨by decide +kernel,by decide +kernel⟩
 ·exact⟨by decide +kernel,by decide +kernel⟩
theorem zkn {M i j:Nat} (h:zdi M) (hi:i<=M) (hj:j<=M):∃ r,r<=M/\lcg M i r=j:=by
 obtain⟨ha,hz⟩:=zkt h;have get:∀ x,x<=M->∃ b,b<M+1/\lcg M 0 b=x:=fun x hx=>zhO (by simpa using znZ.1 ha x (List.mem_range.2 (by omega)))
 obtain⟨a,ha,rfl⟩:=get i hi;obtain⟨b,hb,rfl⟩:=get j hj;by_cases c:a<=b
 ·exact⟨b-a,by omega,by rw [zd0,Nat.add_sub_cancel' c]⟩
 ·refine⟨M+1+b-a,by omega,?_⟩;rw [zd0,show a+(M+1+b-a)=M+1+b by omega,← zd0,hz]
def lpI (M:Nat):Nat->Nat->Nat->Nat × Nat
 | i,p,0=>(i,p)
 | i,p,r+1=>lpI M (SetTable.leap M i p).1 (SetTable.leap M i p).2 r
theorem zhB {M:Nat}:∀ (a i p b:Nat),lpI M (lpI M i p a).1 (lpI M i p a).2 b=lpI M i p (a+b)
 | 0,i,p,b=>by rw [Nat.zero_add];rfl
 | a+1,i,p,b=>by rw [Nat.add_right_comm];exact zhB a _ _ b
theorem zfW {M:Nat}:∀ (r i:Nat),lpI M i 0 r=(lcg M i r,0)
 | 0,i=>rfl
 | r+1,i=>by
  have e:SetTable.leap M i 0=((i*5+1) % (M+1),0):=by simp [SetTable.leap]
  show lpI M (SetTable.leap M i 0).1 (SetTable.leap M i 0).2 r=_;rw [e];exact zfW r _
theorem zjD {M:Nat}:∀ (r i p:Nat),i<=M->(lpI M i p r).1<=M
 | 0,i,p,h=>h
 | r+1,i,p,h=>zjD r _ _ (by
  show (i*5+1+p / 32) % (M+1)<=M;exact Nat.le_of_lt_succ (Nat.mod_lt _ (Nat.succ_pos M)))
theorem zhD {M:Nat}:∀ (r i p:Nat),(lpI M i p r).2=p / 32 ^ r
 | 0,i,p=>by simp [lpI]
 | r+1,i,p=>by
  show (lpI M _ (p / 32) r).2=_;rw [zhD r,Nat.div_div_eq_div_mul,Nat.pow_succ,Nat.mul_comm]
theorem zhC {M i p j:Nat} (h:zdi M) (hi:i<=M) (hp:p<2 ^ 64) (hj:j<=M):∃ r,r<=M+13/\(lpI M i p r).1=j:=by
 have e2:(lpI M i p 13).2=0:=by
  rw [zhD];exact Nat.div_eq_of_lt (znR hp (by decide))
 obtain⟨r,hr,e⟩:=zkn (i:=(lpI M i p 13).1) h (zjD 13 i p hi) hj;refine⟨13+r,by omega,?_⟩;rw [← zhB 13,e2,zfW];exact e
theorem zgX (h:Int):SetTable.bits h<2 ^ 64:=by
 unfold SetTable.bits;have h1:=Int.emod_lt_of_pos h (show (0:Int)<2 ^ 64 by decide);have h2:=Int.emod_nonneg h (show (2 ^ 64:Int)≠0 by decide);omega
theorem zeP (M i:Nat):i<=SetTable.runEnd M i/\SetTable.runEnd M i<=i+9:=by
 unfold SetTable.runEnd;split <;> omega
theorem zhl {M:Nat} {ow:Array (Option Nat)}:∀ (r f i p:Nat),r<f->ow.getD (lpI M i p r).1 (some 0)=none->∃ j,SetTable.layClean.free M ow f i p=some j/\ow.getD j (some 0)=none
 | r,0,i,p,h,_=>by omega
 | r,f+1,i,p,h,hn=>by
  rw [SetTable.layClean.free];cases e:(List.range (SetTable.runEnd M i+1-i)).find? (fun k=>(ow.getD (i+k) (some 0)).isNone) with
  | some k =>
   have:=List.find?_some e
   exact⟨i+k,rfl,Option.isNone_iff_eq_none.1 this⟩
  | none =>
   cases r with
   | zero =>
    have:=List.find?_eq_none.1 e 0 (List.mem_range.2 (by have:=(zeP M i).1;omega))
    rw [Nat.add_zero,show ow.getD i (some 0)=none from hn] at this;exact (this rfl).elim
   | succ r=>exact zhl r f _ _ (by omega) hn
theorem zhj {β:Type} {f g:Nat->Option β} {j:Nat} {x:β} (hf:f j=none) (hg:g j=some x) (ho:∀ i,i≠j->g i=f i):∀ n,((List.range n).filterMap g).length=((List.range n).filterMap f).length+(if j<n then 1 else 0)
 | 0=>by simp
 | n+1=>by
  have ih:=zhj hf hg ho n;rw [List.range_succ,List.filterMap_append,List.filterMap_append,znK,znK,ih];by_cases c:n=j
  ·subst c;rw [zoc (Nat.lt_irrefl _),zod (Nat.lt_succ_self _)];simp [hf,hg]
  ·have e1:([n].filterMap g).length=([n].filterMap f).length:=by
    rw [List.filterMap_cons,List.filterMap_cons,ho n c];cases f n <;> rfl
   rw [e1];by_cases d:j<n
   ·rw [zod d,zod (by omega)];omega
   ·rw [zoc d,zoc (by omega)];omega
theorem zhi {β:Type} {f:Nat->Option β}:∀ {n:Nat},((List.range n).filterMap f).length<n->∃ j,j<n/\f j=none
 | 0,h=>by omega
 | n+1,h=>by
  cases e:f n with
  | none=>exact⟨n,Nat.lt_succ_self _,e⟩
  | some x =>
   rw [List.range_succ,List.filterMap_append,znK] at h
   have:([n].filterMap f).length=1:=by simp [e]
   obtain⟨j,hj,hn⟩:=zhi (f:=f) (n:=n) (by omega);exact⟨j,by omega,hn⟩
def liv (M:Nat) (ow:Array (Option Nat)):List (Nat × Nat):=(List.range (M+1)).filterMap fun j=>(ow.getD j none).map (j,·)
structure OwK (M k:Nat) (ow:Array (Option Nat)):Prop where
 sz:ow.size=M+1
 cn:(liv M ow).length=k
 lt:∀ j v,ow.getD j none=some v->v<k
theorem zlZ {M k j:Nat} {ow:Array (Option Nat)} (O:OwK M k ow) (hj:ow.getD j (some 0)=none):OwK M (k+1) (ow.setIfInBounds j (some k)):=by
 have hlt:j<ow.size:=by
  refine Decidable.byContradiction fun c=>?_
  rw [Array.getD_eq_getD_getElem?,Array.getElem?_eq_none (by omega)] at hj;cases hj
 have hn:ow.getD j none=none:=by
  rw [Array.getD_eq_getD_getElem?,Array.getElem?_eq_getElem hlt] at hj ⊢;exact hj
 have h1:(ow.setIfInBounds j (some k)).getD j none=some k:=by
  rw [Array.getD_eq_getD_getElem?,Array.getElem?_setIfInBounds];simp [hlt]
 have h2:∀ i,i≠j->(ow.setIfInBounds j (some k)).getD i none=ow.getD i none:=fun i c=>by
  rw [Array.getD_eq_getD_getElem?,Array.getElem?_setIfInBounds,zoc (Ne.symm c),← Array.getD_eq_getD_getElem?]
 refine⟨by rw [Array.size_setIfInBounds];exact O.sz,?_,fun i v hv=>?_⟩
 ·have:=zhj (f:=fun j=>(ow.getD j none).map (j,·)) (g:=fun j=>((ow.setIfInBounds j (some k)).getD j none).map (j,·)) (j:=j) (x:=(j,k))
  have:=zhj (f:=fun i=>(ow.getD i none).map (i,·)) (g:=fun i=>((ow.setIfInBounds j (some k)).getD i none).map (i,·)) (j:=j) (x:=(j,k)) (by show (ow.getD j none).map _=none;rw [hn];rfl) (by show ((ow.setIfInBounds j (some k)).getD j none).map _=_;rw [h1];rfl) (fun i c=>by show ((ow.setIfInBounds j (some k)).getD i none).map _=_;rw [h2 i c]) (M+1)
  rw [zod (by rw [← O.sz];exact hlt)] at this;have e:(liv M (ow.setIfInBounds j (some k))).length=(liv M ow).length+1:=this;rw [e,O.cn]
 ·by_cases c:i=j
  ·subst c;rw [h1] at hv;cases hv;exact Nat.lt_succ_self _
  ·rw [h2 i c] at hv;exact Nat.lt_succ_of_lt (O.lt i v hv)
theorem zfU {M:Nat} (hM:zdi M):∀ (hs:List Int) (k:Nat) (ow:Array (Option Nat)),OwK M k ow->k+hs.length<=M->∃ ow',hs.foldl (fun (acc:Option (Array (Option Nat) × Nat)) h=>do let (owner,k) ← acc;let j ← SetTable.layClean.free M owner (SetTable.turns M) (SetTable.bits h % (M+1)) (SetTable.bits h);pure (owner.setIfInBounds j (some k),k+1)) (some (ow,k))=some (ow',k+hs.length)/\OwK M (k+hs.length) ow'
 | [],k,ow,O,_=>⟨ow,rfl,O⟩
 | h::hs,k,ow,O,hl=>by
  rw [zob] at hl;obtain⟨j,hj,hn⟩:=zhi (f:=fun j=>(ow.getD j none).map (j,·)) (n:=M+1) (by have:(liv M ow).length=k:=O.cn;unfold liv at this;omega)
  have hn:ow.getD j none=none:=by
   cases e:ow.getD j none with
   | none=>rfl
   | some v=>rw [e] at hn;cases hn
  have hn':ow.getD j (some 0)=none:=by
   have hlt:j<ow.size:=by rw [O.sz];exact hj
   rw [Array.getD_eq_getD_getElem?,Array.getElem?_eq_getElem hlt] at hn ⊢;exact hn
  obtain⟨r,hr,e⟩:=zhC (i:=SetTable.bits h % (M+1)) (p:=SetTable.bits h) (j:=j) hM (Nat.le_of_lt_succ (Nat.mod_lt _ (Nat.succ_pos M))) (zgX h) (by omega);obtain⟨j',e',hn2⟩:=zhl (ow:=ow) r (SetTable.turns M) _ _ (by unfold SetTable.turns;omega) (by rw [e];exact hn');obtain⟨ow',e2,O'⟩:=zfU hM hs (k+1) _ (zlZ O hn2) (by omega);refine⟨ow',?_,?_⟩
  ·rw [List.foldl_cons,zob,show k+(hs.length+1)=k+1+hs.length by omega];show List.foldl _ ((SetTable.layClean.free M ow (SetTable.turns M) (SetTable.bits h % (M+1)) (SetTable.bits h)).bind _) hs=_;rw [e'];exact e2
  ·rw [zob,show k+(hs.length+1)=k+1+hs.length by omega];exact O'
theorem zkw {M:Nat}:OwK M 0 (Array.replicate (M+1) none):=by
 have h0:∀ j,(Array.replicate (M+1) (none:Option Nat)).getD j none=none:=fun j=>by
  rw [Array.getD_eq_getD_getElem?,Array.getElem?_replicate];split <;> rfl
 refine⟨by simp,?_,fun j v h=>by rw [h0] at h;cases h⟩;unfold liv;rw [List.length_eq_zero_iff,List.filterMap_eq_nil_iff];intro j _;rw [h0];rfl
theorem zkm {M fg mv:Nat} {ld pl:Bool} {hs:Array Int} (hM:zdi M) (hl:hs.size<=M):∃ t od,SetTable.laid M fg mv ld pl hs=some (t,od)/\t.mask=M/\t.dummies=#[]/\t.place.size=hs.size/\od.size=hs.size/\∀ v∈od.toList,v<hs.size:=by
 obtain⟨ow,e,O⟩:=zfU hM hs.toList 0 _ zkw (by simpa using hl);have e1:SetTable.layClean M hs=some ow:=by
  unfold SetTable.layClean;rw [← Array.foldl_toList];exact (congrArg (Option.map (·.1)) e)
 rw [Nat.zero_add,zoe] at O;unfold SetTable.laid;rw [e1];refine⟨_,_,rfl,rfl,rfl,?_,?_,fun v hv=>?_⟩
 ·show ((liv M ow).map (·.1)).toArray.size=_
  rw [zoa,znA,O.cn]
 ·show ((liv M ow).map (·.2)).toArray.size=_
  rw [zoa,znA,O.cn]
 ·have hv:v∈((liv M ow).map (·.2)).toArray.toList:=hv
  rw [List.toList_toArray] at hv;obtain⟨q,hq,rfl⟩:=znS.1 hv;obtain⟨j,hj,e⟩:=List.mem_filterMap.1 hq;cases e3:ow.getD j none with
  | none=>rw [e3] at e;cases e
  | some v=>rw [e3] at e;cases e;exact O.lt j v e3
def ze5 (t:SetTable):SetTable.Probe->Nat->SetTable.Probe
 | p,0=>p
 | p,n+1=>ze5 t (t.advance p) n
theorem zcQ {t:SetTable}:∀ (a:Nat) (p:SetTable.Probe) (b:Nat),ze5 t (ze5 t p a) b=ze5 t p (a+b)
 | 0,p,b=>by rw [Nat.zero_add];rfl
 | a+1,p,b=>by rw [Nat.add_right_comm];exact zcQ a _ b
def rst (M i p:Nat):SetTable.Probe:={ j:=i,more:=SetTable.runEnd M i-i,i:=i,perturb:=p,dummy:=none }
theorem zjL {t:SetTable}:∀ (m j i p:Nat),ze5 t { j:=j,more:=m,i:=i,perturb:=p,dummy:=none } m={ j:=j+m,more:=0,i:=i,perturb:=p,dummy:=none }
 | 0,j,i,p=>rfl
 | m+1,j,i,p=>by
  show ze5 t (t.advance _) m=_;have e:t.advance { j:=j,more:=m+1,i:=i,perturb:=p,dummy:=none }={ j:=j+1,more:=m,i:=i,perturb:=p,dummy:=none }:=by
   unfold SetTable.advance;rw [zod (Nat.succ_pos m)]
   rfl
  rw [e,zjL m (j+1) i p,Nat.add_right_comm,Nat.add_assoc]
theorem zkZ {t:SetTable} (i p:Nat):ze5 t (rst t.mask i p) (SetTable.runEnd t.mask i-i+1)=rst t.mask (SetTable.leap t.mask i p).1 (SetTable.leap t.mask i p).2:=by
 rw [← zcQ];unfold rst;rw [zjL]
 rfl
theorem zjK {t:SetTable}:∀ (r i p:Nat),∃ n,n<=10*r/\ze5 t (rst t.mask i p) n=rst t.mask (lpI t.mask i p r).1 (lpI t.mask i p r).2
 | 0,i,p=>⟨0,znQ _,rfl⟩
 | r+1,i,p=>by
  obtain⟨n,hn,e⟩:=zjK (t:=t) r (SetTable.leap t.mask i p).1 (SetTable.leap t.mask i p).2;refine⟨SetTable.runEnd t.mask i-i+1+n,by have:=(zeP t.mask i);omega,?_⟩;rw [← zcQ,zkZ,e]
  rfl
theorem zeW {t:SetTable} {j i:Nat} (h:t.slot j=.live i):t.place[i]?=some j:=by
 unfold SetTable.slot at h;dsimp only at h;split at h
 ·rename_i c;cases h;simpa using c
 ·split at h <;> cases h
theorem zfY {t:SetTable} {j:Nat} (hd:t.dummies=#[]):t.slot j≠.dummy:=by
 intro h;unfold SetTable.slot at h;dsimp only at h;split at h
 ·cases h
 ·rename_i c;rw [hd] at h
  have:SetTable.has #[] j=false:=by simp [SetTable.has]
  rw [this] at h;cases h
theorem zfE:∀ {l l':List Nat},l.Nodup->(∀ x∈l,x∈l')->l.length<=l'.length
 | [],l',_,_=>Nat.zero_le _
 | x::l,l',nd,h=>by
  obtain⟨hx,nd'⟩:=List.nodup_cons.1 nd;have hm:=h x (zn8 ..)
  have:=zfE (l:=l) (l':=l'.erase x) nd' fun y hy=>(List.mem_erase_of_ne (fun (e:y=x)=>hx (by rw [← e];exact hy))).2 (h y (znT _ hy))
  rw [List.length_erase_of_mem hm] at this;have hp:0<l'.length:=List.length_pos_of_mem hm;rw [zob];omega
theorem zh9 {t:SetTable} (hd:t.dummies=#[]) (hl:t.place.size<=t.mask):∃ j,j<=t.mask/\t.slot j=.empty:=by
 refine Classical.byContradiction fun c=>?_
 have all:∀ j∈List.range (t.mask+1),j∈t.place.toList:=fun j hj=>by
  have hj:=List.mem_range.1 hj;cases e:t.slot j with
  | empty=>exact (c ⟨j,by omega,e⟩).elim
  | dummy=>exact (zfY hd e).elim
  | live i=>exact znF (by rw [zof];exact zeW e)
 have:=zfE List.nodup_range all
 rw [List.length_range,zoe] at this;omega
theorem zgL {t:SetTable} (hM:zdi t.mask) (hd:t.dummies=#[]) (hl:t.place.size<=t.mask) (h:Int):∃ n,n<10*SetTable.turns t.mask/\t.slot (ze5 t (t.probeStart h) n).j=.empty:=by
 obtain⟨j,hj,e⟩:=zh9 hd hl;obtain⟨r,hr,er⟩:=zhC (i:=SetTable.bits h % (t.mask+1)) (p:=SetTable.bits h) hM (Nat.le_of_lt_succ (Nat.mod_lt _ (Nat.succ_pos t.mask))) (zgX h) hj;obtain⟨n,hn,en⟩:=zjK (t:=t) r (SetTable.bits h % (t.mask+1)) (SetTable.bits h);refine⟨n,by unfold SetTable.turns;omega,?_⟩
 have:ze5 t (t.probeStart h) n=rst t.mask (lpI t.mask (SetTable.bits h % (t.mask+1)) (SetTable.bits h) r).1 (lpI t.mask (SetTable.bits h % (t.mask+1)) (SetTable.bits h) r).2:=en
 rw [this];show t.slot (lpI t.mask (SetTable.bits h % (t.mask+1)) (SetTable.bits h) r).1=_;rw [er];exact e
theorem zes {t:SetTable} {p:SetTable.Probe} (h:p.dummy=none):(t.advance p).dummy=none:=by
 unfold SetTable.advance;split
 ·exact h
 ·exact h
theorem zf5 {t:SetTable} {ha:Nat->Int} {h:Int} (hd:t.dummies=#[]):∀ (n f:Nat) (p:SetTable.Probe),n<f->p.dummy=none->t.slot (ze5 t p n).j=.empty ->
  (∃ j,SetTable.probe.go t ha h f p=some (.empty j none)/\t.slot j=.empty)\/∃ j i m q,m<n/\SetTable.probe.go t ha h f p=some (.candidate j i q)/\t.slot j=.live i/\q=ze5 t p (m+1)/\q.dummy=none
 | n,0,p,hn,_,_=>by omega
 | n,f+1,p,hn,hp,he=>by
  rw [SetTable.probe.go];cases e:t.slot p.j with
  | empty=>exact .inl ⟨p.j,by rw [hp],e⟩
  | dummy=>exact (zfY hd e).elim
  | live i =>
   cases n with
   | zero=>rw [show ze5 t p 0=p from rfl,e] at he;cases he
   | succ n =>
    dsimp only;by_cases c:(ha i == h)=true
    ·rw [zod c];exact .inr ⟨p.j,i,0,_,Nat.succ_pos _,rfl,e,rfl,zes hp⟩
    ·rw [zoc c];rcases zf5 hd n f (t.advance p) (by omega) (zes hp) he with ⟨j,h1,h2⟩ | ⟨j,i,m,q,h0,h1,h2,h3,h4⟩
     ·exact .inl ⟨j,h1,h2⟩
     ·exact .inr ⟨j,i,m+1,q,by omega,h1,h2,h3,h4⟩
section
variable {prog:Program} {w:World} {A:Around} {E:Value->Shared->Prop} {s:Shared}
theorem zit:∀ (n:Nat) (k:NK) (v:Value) (Q:Bool->Shared->Prop),IsN s.heap k v->(∀ b,Q b s)->wpAny (model prog w) A (hashByValue n v) Q E s:=by
 intro n
 induction n with
 | zero =>
  intro k v Q hk h;cases k with
  | int i=>rw [IsN] at hk;obtain⟨t,rfl⟩:=hk;exact wpAny_pure (h _)
  | tup l=>rw [IsN] at hk;obtain⟨a,its,rfl,_⟩:=hk;exact wpAny_pure (h _)
 | succ n ih =>
  intro k v Q hk h;cases k with
  | int i=>rw [IsN] at hk;obtain⟨t,rfl⟩:=hk;exact wpAny_pure (h _)
  | tup l =>
   rw [IsN] at hk;obtain⟨a,its,rfl,ht,hi⟩:=hk;have hT:=ht.typeIs;rw [hashByValue];refine wpAny_bind (wpAny_specialOf hT F.slot_tuple_hash.lookup ?_);have loop:∀ (l:List NK) (vs:List Value) (Q':Option Bool × Unit->Shared->Prop),zbZ s.heap l vs->(∀ b,Q' b s) ->
     wpAny (model prog w) A (forIn vs ((none,()):Option Bool × Unit) fun y _=>do let q ← hashByValue n y;if (!q)=true then pure (ForInStep.done (some false,())) else pure (ForInStep.yield (none,()))) Q' E s:=by
    intro l
    induction l with
    | nil=>intro vs Q' hv hq;rw [zbZ] at hv;subst hv;exact wpAny_pure (hq _)
    | cons k r ihl =>
     intro vs Q' hv hq;rw [zbZ] at hv;obtain⟨u,us,rfl,hu',hr⟩:=hv;rw [List.forIn_cons];refine wpAny_bind (wpAny_bind (ih k u _ hu' fun b=>?_));cases b with
     | false=>rw [zod (show (!false)=true from rfl)];exact wpAny_pure (wpAny_pure (hq _))
     | true=>rw [zoc (by simp)];exact wpAny_pure (ihl us Q' hr hq)
   obtain⟨o,ho,hc,m',hdt⟩:=id ht;refine wpAny_bind (wpAny_seqItems ho hdt (wpAny_bind ?_));show wpAny _ _ (forIn its.toArray _ _) _ _ _;rw [← Array.forIn_toList];refine loop l its _ hi fun b=>?_
   obtain⟨b,u⟩:=b;cases b with
   | none=>exact wpAny_pure (h _)
   | some b=>exact wpAny_pure (h _)
theorem zfX:∀ (n:Nat) (k:NK) (v:Value) (Q:Bool->Shared->Prop),k.dep<=n->IsN s.heap k v->Q false s->wpAny (model prog w) A (ofAClassStatement n v) Q E s:=by
 have intsN:∀ (n:Nat) (i:Int) (v:Value) (Q:Bool->Shared->Prop),IsN s.heap (.int i) v->Q false s->wpAny (model prog w) A (ofAClassStatement n v) Q E s:=by
  intro n i v Q hx h;rw [IsN] at hx;obtain⟨t,rfl⟩:=hx;cases n <;> exact wpAny_pure h
 intro n
 induction n with
 | zero =>
  intro k v Q hd hk h;cases k with
  | int i=>exact intsN 0 i v Q hk h
  | tup l=>rw [NK.dep] at hd;omega
 | succ n ih =>
  intro k v Q hd hk h;cases k with
  | int i=>exact intsN _ i v Q hk h
  | tup l =>
   rw [NK.dep] at hd;rw [IsN] at hk;obtain⟨a,its,rfl,ht,hi⟩:=hk;have hT:=ht.typeIs;rw [ofAClassStatement];refine wpAny_bind (wpAny_typeOf hT ?_);dsimp only;rw [zod (by decide)];refine wpAny_bind (wpAny_pure ?_);rw [zoc (by simp)];have loop:∀ (l:List NK) (vs:List Value) (Q':Option Bool × Unit->Shared->Prop),NK.depL l<=n->zbZ s.heap l vs->Q' (none,()) s ->
     wpAny (model prog w) A (forIn vs ((none,()):Option Bool × Unit) fun y _=>do let q ← ofAClassStatement n y;if q=true then pure (ForInStep.done (some true,())) else pure (ForInStep.yield (none,()))) Q' E s:=by
    intro l
    induction l with
    | nil=>intro vs Q' _ hv hq;rw [zbZ] at hv;subst hv;exact wpAny_pure hq
    | cons k r ihl =>
     intro vs Q' hd hv hq;rw [NK.depL] at hd;rw [zbZ] at hv;obtain⟨u,us,rfl,hu',hr⟩:=hv;rw [List.forIn_cons];refine wpAny_bind (wpAny_bind (ih k u _ (by omega) hu' ?_));rw [zoc (by simp)];exact wpAny_pure (ihl us Q' (by omega) hr hq)
   obtain⟨o,ho,hc,m',hdt⟩:=id ht;refine wpAny_bind (wpAny_seqItems ho hdt ?_);dsimp only;refine wpAny_bind ?_;show wpAny _ _ (forIn its.toArray _ _) _ _ _;rw [← Array.forIn_toList];exact loop l its _ (by omega) hi (wpAny_pure h)
def zmK (h:Heap) (v:Value):Prop:=∃ (k:NK) (a:Addr),v=.ref a/\k.dep<=7/\IsN h k v
theorem ziT {x:Value} (hx:zmK s.heap x):∀ (l:List Value) (Q:Bool->Shared->Prop),(∀ y∈l,zmK s.heap y)->Q false s->wpAny (model prog w) A (searchCouldBeSeen x l) Q E s:=by
 intro l Q hl h;unfold searchCouldBeSeen;refine wpAny_bind ?_
 suffices loop:∀ (l:List Value) (Q':Option Bool × Unit->Shared->Prop),(∀ y∈l,zmK s.heap y)->Q' (none,()) s->wpAny (model prog w) A (forIn l ((none,()):Option Bool × Unit) _) Q' E s from loop l _ hl (wpAny_pure h)
 intro l
 induction l with
 | nil=>intro Q' _ hq;exact wpAny_pure hq
 | cons y r ihl =>
  intro Q' hl hq;rw [List.forIn_cons];have rest:=ihl Q' (fun z hz=>hl z (znT _ hz)) hq;obtain⟨k,a,rfl,hd,hk⟩:=hx;obtain⟨k',b,rfl,hd',hk'⟩:=hl _ (zn8 ..);refine wpAny_bind ?_;dsimp only;split
  ·exact wpAny_pure rest
  ·refine wpAny_bind (zft 8 k A _ _ (by omega) hk ?_);rw [zoc (by simp)];refine wpAny_bind (zft 8 k' A _ _ (by omega) hk' ?_);rw [zoc (by simp)];refine wpAny_bind (zfX 8 k _ _ (by omega) hk ?_);rw [zoc (by simp)];refine wpAny_bind (zfX 8 k' _ _ (by omega) hk' ?_);rw [zoc (by simp)];exact wpAny_pure rest
structure Elm (h:Heap) (kx:NK) (v:Value):Prop where
 ex:∃ (k:NK) (c:Addr),v=.ref c/\k.dep<=7/\IsN h k v/\k≠kx
theorem zh8 {a cx:Addr} {o:Obj} {es:Array (Int × Value)} {ep:Nat} {t:SetTable} {h:Int} {kx:NK} (hr:A.units+8<cLine) (hxd:kx.dep<=7) (hx:IsN s.heap kx (.ref cx))
  (ho:s.heap.get? a=some o) (hd:o.data=.set es ep t) (hf:t.fits es.size=true) (hM:zdi t.mask) (hdm:t.dummies=#[]) (hel:∀ e∈es.toList,Elm s.heap kx e.2)
  {Q:SetFound->Shared->Prop} (q:∀ j,t.slot j=.empty->Q (.free j false) s) :
  ∀ (n f:Nat) (st:Option SetTable.Probe),n<f->n<10*SetTable.turns t.mask->(st.getD (t.probeStart h)).dummy=none->t.slot (ze5 t (st.getD (t.probeStart h)) n).j=.empty ->
   wpAny (model prog w) A (setSearchFrom a (.ref cx) h true f st) Q E s:=by
 have hg:t.gaveWay=false:=by
  unfold SetTable.gaveWay;rcases hM with e | e | e <;> (rw [e];decide)
 intro n
 induction n using Nat.strongRecOn with
 | ind n ih =>
 intro f st hn hn2 hp he;cases f with
 | zero=>omega
 | succ f =>
 rw [setSearchFrom];refine wpAny_bind (wpAny_setState_of ho hd hf ?_);dsimp only;rw [hg,zoc zok];generalize hpr:SetTable.probe _ _ _ _=pr;obtain⟨ha,hpr⟩:∃ ha,SetTable.probe.go t ha h (10*SetTable.turns t.mask) (st.getD (t.probeStart h))=pr:=⟨_,hpr⟩;rcases zf5 (ha:=ha) (h:=h) hdm n _ _ hn2 hp he with ⟨j,e,hj⟩ | ⟨j,i,m,p',hm,e,hj,e',hp'⟩
 ·rw [← hpr,e];exact wpAny_pure (q j hj)
 ·rw [← hpr,e];have hpl:=zeW hj;have hi:i<es.size:=by
   have h1:=(Array.getElem?_eq_some_iff.1 hpl).1;simp only [SetTable.fits,Bool.and_eq_true,beq_iff_eq] at hf;omega
  obtain⟨ky,cy,ey,hyd,hy,hne⟩:=(hel es[i] (by simp)).ex;have hes:es[i]?=some (es[i].1,.ref cy):=by rw [Array.getElem?_eq_getElem hi,← ey]
  rw [ey] at hy;have hsm:t.sameMemory t.moves t.mask=some true:=by unfold SetTable.sameMemory;simp
  dsimp only;rw [hes];dsimp only;split
  case' isTrue =>
   refine wpAny_bind (ziT ⟨kx,cx,rfl,hxd,hx⟩ _ _ (fun y hy=>?_) ?_)
   case' refine_1 =>
    obtain⟨e1,h1,rfl⟩:=znS.1 hy;have h1:e1∈es.toList:=by
     have:=Array.mem_toList_iff.1 h1
     exact Array.mem_toList_iff.2 (Array.mem_filter.1 this).1
    obtain⟨k1,c1,z1,z2,z3,_⟩:=(hel e1 h1).ex;exact⟨k1,c1,z1,z2,z3⟩
   rw [zoc zok]
  all_goals
   refine wpAny_bind (wpAny_holding (eq_n 7 ky kx A _ _ hyd (by omega) hy hx prog w E _ ?_));refine wpAny_bind (wpAny_setState_of ho hd hf ?_);dsimp only;rw [znH hne,zoc (by simp),hsm];dsimp only;rw [zod rfl,hj];dsimp only;rw [hes];dsimp only;refine wpAny_bind (wpAny_isSame_ref_self (wpAny_bind (wpAny_pure ?_)));rw [zod rfl];dsimp only;rw [zoc zok];refine ih (n-(m+1)) (by omega) f (some p') (by omega) (by omega) hp' ?_;show t.slot (ze5 t p' _).j=_;rw [e',zcQ,show m+1+(n-(m+1))=n by omega];exact he
def zjn (ks:List NK) (a:Addr) (h:Heap):Prop:=∃ o es ep t,h.get? a=some o/\o.ExactSet/\o.data=.set es ep t/\es.size=ks.length/\t.place.size=es.size/\t.dummies=#[]/\((t.mask=7/\es.size<5)\/(t.mask=31/\es.size<19)\/(t.mask=127/\es.size<77))/\∀ e∈es.toList,∃ (k:NK) (c:Addr),k∈ks/\e.2=.ref c/\k.dep<=7/\IsN h k e.2
theorem zja {a:Addr} {o:Obj} {es:Array (Int × Value)} {ep:Nat} {t:SetTable} {M:Nat} {Q:Unit->Shared->Prop} {wt:Nat} (ho:s.heap.get? a=some o) (hd:o.data=.set es ep t) (hf:t.fits es.size=true)
  (hM:zdi M) (hw:SetTable.sizeAbove wt=M+1) (hl:es.size<=M)
  (q:∀ es' t',es'.size=es.size->(∀ e∈es'.toList,e∈es.toList)->t'.mask=M->t'.dummies=#[]->t'.place.size=es.size->Q () { s with heap:=s.heap.update a (Obj.putSet es' t') }) :
  wpAny (model prog w) A (setRelay a wt) Q E s:=by
 unfold setRelay;refine wpAny_bind (wpAny_setState_of ho hd hf ?_);dsimp only;rw [zoc (by rw [hw,sizeLine_eq];rcases hM with rfl | rfl | rfl <;> decide)];obtain⟨t',od,e,e1,e2,e3,e4,e5⟩:=zkm (fg:=t.finger) (mv:=t.movedTo M) (ld:=t.led) (pl:=t.plain) (hs:=es.map (·.1)) hM (by rw [Array.size_map];exact hl)
 rw [Array.size_map] at e3 e4 e5;have er:t.relaid (es.map (·.1)) wt=some (t',od):=by unfold SetTable.relaid;rw [hw];exact e
 rw [er];have hfm:∀ l:List Nat,(∀ v∈l,v<es.size)->(l.filterMap (es[·]?)).length=l.length/\∀ e∈l.filterMap (es[·]?),e∈es.toList:=by
  intro l hl;refine⟨?_,fun e he=>?_⟩
  ·induction l with
   | nil=>rfl
   | cons v l ih =>
    rw [List.filterMap_cons,Array.getElem?_eq_getElem (hl v (zn8 ..))];show (_::_).length=_;rw [zob,ih fun v hv=>hl v (znT _ hv),zob]
  ·obtain⟨v,_,hv⟩:=List.mem_filterMap.1 he;exact znF (i:=v) (by rw [zof];exact hv)
 obtain⟨g1,g2⟩:=hfm od.toList e5;have hsz:(od.filterMap (es[·]?)).size=es.size:=by rw [← zoe,Array.toList_filterMap,g1,zoe,e4]
 refine wpAny_bind ?_;show wpAny _ _ (if ((od.filterMap (es[·]?)).size != es.size)=true then (do unsupported "internal:set-table-lost-an-element";pure (od.filterMap (es[·]?),t')) else pure (od.filterMap (es[·]?),t')) _ _ _
 rw [zoc (by rw [hsz];simp)];refine wpAny_pure ?_;dsimp only;refine wpAny_storeSet_of ho hd (q _ _ hsz (fun e he=>g2 e (by rw [Array.toList_filterMap] at he;exact he)) e1 e2 e3) (by rw [hsz,sizeLine_eq];rcases hM with rfl | rfl | rfl <;> omega)
theorem zhY {t:SetTable} {j:Nat} (hd:t.dummies=#[]):(t.put j).1.mask=t.mask/\(t.put j).1.dummies=#[]/\(t.put j).1.place.size=t.place.size+1:=by
 unfold SetTable.put;have hh:SetTable.has #[] j=false:=by simp [SetTable.has]
 refine⟨rfl,?_,?_⟩
 ·show (if SetTable.has t.dummies j=true then _ else t.dummies)=_;rw [hd,hh,zoc zok]
 ·show (SetTable.insertAt t.place _ j).size=_;rw [← zoe,(SetTable.insertAt_perm ..).length_eq,Array.toList_push,znK,zoe];rfl
theorem ziG (es:Array (Int × Value)) (p:Nat) (x:Int × Value):(SetTable.insertAt es p x).size=es.size+1/\∀ e∈(SetTable.insertAt es p x).toList,e∈es.toList\/e=x:=by
 have hp:=SetTable.insertAt_perm es p x;refine⟨by rw [← zoe,hp.length_eq,Array.toList_push,znK,zoe];rfl,fun e he=>?_⟩
 have:=hp.mem_iff.1 he
 rw [Array.toList_push] at this;rcases znL.1 this with h | h
 ·exact .inl h
 ·exact .inr (znJ.1 h)
theorem zfQ {h h':Heap} {a:Addr} {o:Obj} {es:Array (Int × Value)} {ep:Nat} {t:SetTable} (ho:h.get? a=some o) (hd:o.data=.set es ep t) (hs:Heap.SameBut a h h') {k:NK} {v:Value} (hk:k.dep<=7) (hx:IsN h k v):IsN h' k v :=
 zch (fun b its ⟨o',e,c,n,q⟩=>⟨o',by rw [hs.2 b (by rintro rfl;rw [ho] at e;cases e;rw [hd] at q;cases q)];exact e,c,n,q⟩) 7 _ _ hk hx
theorem zli {a cx:Addr} {ks:List NK} {kx:NK} {Q:Bool->Shared->Prop} (hr:A.units+8<cLine) (hS:zjn ks a s.heap) (hkx:kx ∉ ks) (hxd:kx.dep<=7) (hx:IsN s.heap kx (.ref cx)) (hl:ks.length<76)
  (q:∀ h' tk,Heap.SameBut a s.heap h'->zjn (ks++[kx]) a h'->Q true { s with heap:=h',toks:=tk }):wpAny (model prog w) A (setAdd a (.ref cx)) Q E s:=by
 obtain⟨o,es,ep,t,ho,hex,hd,hn,hpl,hdm,hmk,hel⟩:=hS;have hfl:t.fill=t.place.size:=by unfold SetTable.fill;rw [hdm];rfl
 have hf:t.fits es.size=true:=by
  unfold SetTable.fits;rw [hfl,hpl];simp
  omega
 have hM:zdi t.mask:=by rcases hmk with ⟨e,_⟩ | ⟨e,_⟩ | ⟨e,_⟩ <;> (unfold zdi;omega)
 unfold setAdd;refine wpAny_holding (wpAny_bind (zf8 7 kx A s _ _ hxd (by omega) hx ?_));generalize s.toks+kx.dr=tk;generalize kx.hash=hsh;unfold setAddHashed setAddHashedIn;refine wpAny_holding (wpAny_bind (wpAny_setState_of (s:={ s with toks:=tk }) ho hd hf ?_));dsimp only;rw [show byScan (.ref cx) es=false from rfl,zoc zok];obtain⟨n0,hn0,he0⟩:=zgL hM hdm (by rw [hpl];omega) hsh;have htn:10*SetTable.turns t.mask<100000:=by unfold SetTable.turns;omega
 refine wpAny_bind (zh8 (s:={ s with toks:=tk }) hr hxd hx ho hd hf hM hdm (fun e he=>?_) (fun j hj=>?_) n0 100000 none (by omega) hn0 rfl he0)
 ·obtain⟨k,c,h1,h2,h3,h4⟩:=hel e he;exact⟨k,c,h2,h3,h4,fun z=>hkx (z ▸ h1)⟩
 dsimp only;refine wpAny_bind (wpAny_setState_of (s:={ s with toks:=tk }) ho hd hf ?_);dsimp only;obtain⟨p1,p2,p3⟩:=zhY (j:=j) hdm;generalize t.put j=tp at p1 p2 p3;obtain⟨tp,pp⟩:=tp;dsimp only at p1 p2 p3 ⊢;have fin:∀ t2:SetTable,t2.mask=t.mask->t2.dummies=#[]->t2.place.size=t.place.size+1->wpAny (model prog w) A (do
   storeSet a (SetTable.insertAt es pp (hsh,.ref cx)) t2
   if (!false && t2.tooFull)=true then do
    setRelay a (SetTable.grown (es.size+1))
    pure true
   else pure true) Q E { s with toks:=tk }:=by
  intro t2 m1 m2 m3;obtain⟨i1,i2⟩:=ziG es pp (hsh,.ref cx);generalize SetTable.insertAt es pp (hsh,.ref cx)=es1 at i1 i2;have hsz1:es1.size<=sizeLine:=by rw [sizeLine_eq];omega
  refine wpAny_bind (wpAny_storeSet_of (s:={ s with toks:=tk }) ho hd ?_ hsz1);have ho1:(s.heap.update a (Obj.putSet es1 t2)).get? a=some { o with data:=.set es1 (ep+1) t2 }:=by
   have:=Heap.get?_update_self (Obj.putSet es1 t2) ho (by rw [putSet_of es1 t2 hd];rfl)
   rw [putSet_of es1 t2 hd] at this;exact this
  have sb1:=Heap.SameBut.update s.heap a (Obj.putSet es1 t2);have hfl2:t2.fill=es.size+1:=by unfold SetTable.fill;rw [m2,m3,hpl];rfl
  have hf2:t2.fits es1.size=true:=by
   unfold SetTable.fits;rw [hfl2,m3,hpl,i1,m1];simp
   omega
  have elm:∀ h':Heap,Heap.SameBut a s.heap h'->∀ e∈es1.toList,∃ (k:NK) (c:Addr),k∈ks++[kx]/\e.2=.ref c/\k.dep<=7/\IsN h' k e.2:=by
   intro h' sb e he;rcases i2 e he with h | rfl
   ·obtain⟨k,c,h1,h2,h3,h4⟩:=hel e h;exact⟨k,c,zn6 _ h1,h2,h3,zfQ ho hd sb h3 h4⟩
   ·exact⟨kx,cx,by simp,rfl,hxd,zfQ ho hd sb hxd hx⟩
  have hkl:es1.size=(ks++[kx]).length:=by rw [i1,hn,znK];rfl
  have htf:t2.tooFull=decide ((es.size+1)*5 ≥ t.mask*3):=by unfold SetTable.tooFull;rw [hfl2,m1]
  have rl:∀ M,zdi M->SetTable.sizeAbove (SetTable.grown (es.size+1))=M+1->es1.size<=M->((M=7/\es1.size<5)\/(M=31/\es1.size<19)\/(M=127/\es1.size<77)) ->
    wpAny (model prog w) A (do setRelay a (SetTable.grown (es.size+1));pure true) Q E { s with toks:=tk,heap:=s.heap.update a (Obj.putSet es1 t2) }:=by
   intro M hM hw hle hlt;refine wpAny_bind (zja (s:={ s with toks:=tk,heap:=s.heap.update a (Obj.putSet es1 t2) }) ho1 rfl hf2 hM hw hle fun es' t' r1 r2 r3 r4 r5=>wpAny_pure ?_);have sb2:=sb1.trans (Heap.SameBut.update (s.heap.update a (Obj.putSet es1 t2)) a (Obj.putSet es' t'));refine q _ tk sb2 ⟨_,es',_,t',Heap.get?_update_self _ ho1 rfl,hex,rfl,by rw [r1,hkl],by rw [r5,r1],r4,by rw [r1,r3];exact hlt,fun e he=>elm _ sb2 e (r2 e he)⟩
  rw [htf];rcases hmk with ⟨e,hlt⟩ | ⟨e,hlt⟩ | ⟨e,hlt⟩
  ·by_cases c:es.size+1=5
   ·rw [zod (by rw [e,c];decide)];exact rl 31 (.inr (.inl rfl)) (by rw [c];decide +kernel) (by omega) (.inr (.inl ⟨rfl,by omega⟩))
   ·rw [zoc (by rw [e];simp;omega)];exact wpAny_pure (q _ tk sb1 ⟨_,es1,_,t2,ho1,hex,rfl,hkl,by rw [m3,hpl,i1],m2,.inl ⟨by rw [m1,e],by omega⟩,elm _ sb1⟩)
  ·by_cases c:es.size+1=19
   ·rw [zod (by rw [e,c];decide)];exact rl 127 (.inr (.inr rfl)) (by rw [c];decide +kernel) (by omega) (.inr (.inr ⟨rfl,by omega⟩))
   ·rw [zoc (by rw [e];simp;omega)];exact wpAny_pure (q _ tk sb1 ⟨_,es1,_,t2,ho1,hex,rfl,hkl,by rw [m3,hpl,i1],m2,.inr (.inl ⟨by rw [m1,e],by omega⟩),elm _ sb1⟩)
  ·rw [zoc (by rw [e];simp;omega)];exact wpAny_pure (q _ tk sb1 ⟨_,es1,_,t2,ho1,hex,rfl,hkl,by rw [m3,hpl,i1],m2,.inr (.inr ⟨by rw [m1,e],by omega⟩),elm _ sb1⟩)
 have fin2:∀ b:Bool,wpAny (model prog w) A (do
   storeSet a (SetTable.insertAt es pp (hsh,.ref cx)) (if b=true then tp else { tp with plain:=false })
   if (!false && (if b=true then tp else { tp with plain:=false }).tooFull)=true then do
    setRelay a (SetTable.grown (es.size+1))
    pure true
   else pure true) Q E { s with toks:=tk }:=by
  intro b;cases b
  ·exact fin { tp with plain:=false } p1 p2 p3
  ·exact fin tp p1 p2 p3
 split
 ·exact wpAny_bind (zit (s:={ s with toks:=tk }) 8 kx _ _ hx fun b=>fin2 b)
 ·exact wpAny_bind (wpAny_pure (fin2 true))
end
section
variable {prog:Program} {w:World} {A:Around} {E:Value->Shared->Prop} {s:Shared} {Q:Value->Shared->Prop}
def zbW (led:Bool):Obj:={ cls:=.type "set",dict:=none,data:=.set #[] 0 (.fresh 0 0 led) }
theorem zjd {x:Value} (hn:∀ led,wpAny (model prog w) A.in1.in1 (Builtin.«set.__init__» ⟨[.ref s.heap.objs.size,x],[]⟩) (fun fin s'=>match fin with | .done f=>wants (fun r s2=>r=.none/\Q (.ref s.heap.objs.size) s2) E (.ok f) s' | .again c'=>c'.quiet=true/\codeAny (model prog w) A.in1 c' (wants (fun r s2=>r=.none/\Q (.ref s.heap.objs.size) s2) E) s') (fun e s'=>wants (fun r s2=>r=.none/\Q (.ref s.heap.objs.size) s2) E (.error e) s') { s with heap:=s.heap.push (zbW led) }):wpAny (model prog w) A (call (.type "set") [x]) Q E s:=by
 obtain⟨c0,tl0,hm0⟩:=F.called_set.mro;have m1:=F.called_set.made;have m2:=F.called_set.sub;have m3:=F.called_set.notType;have m4:=F.called_set.canCreate;have m5:=F.typeCall_set_1 x;refine wpAny_call (codeAny_of_tree (show wpAny _ _ (callAny (.type "set") _) _ _ _ from wpAny_pure ⟨Code.quiet_builtin _ (by decide +kernel),codeAny_builtin F.entry_type_call ?_⟩));rw [Around.under_plain (weight_type_call_type "set" [x] []) rfl]
 repeat (any_goals (first | assumption | wp_step))
 refine codeAny_mono (code_set_new_1 x (E:=E) (Q₁:=fun ob s1=>∃ led,ob=.ref s.heap.objs.size/\s1={ s with heap:=s.heap.push (zbW led) }) fun led=>⟨led,rfl,rfl⟩) fun r1 s1 hr1=>?_
 rcases r1 with e | (f | f)
 all_goals first | exact hr1 | exact hr1.elim | skip
 all_goals
  obtain⟨led,rfl,rfl⟩:=hr1;have hT:Shared.TypeIs { s with heap:=s.heap.push (zbW led) } (.ref s.heap.objs.size) "set":=⟨_,zn9 _ rfl,rfl⟩;have m6:=F.called_set.init.lookup;have m7:=F.called_set.init.bind (.ref s.heap.objs.size)
  repeat (any_goals (first | assumption | wp_step))
  refine codeAny_mono (codeAny_call_builtin F.called_set.init.plain F.entry_set_init (check_set_init_1 hT (hn led))) fun r2 s2 hr2=>?_
  rcases r2 with e | (f | f)
  all_goals first | exact hr2 | exact hr2.elim | skip
  all_goals
   obtain⟨rfl,hq⟩:=hr2
   repeat (any_goals (first | assumption | wp_step))
theorem zjn.mv {ks:List NK} {a it:Addr} {h h':Heap} (S:zjn ks a h) (hai:a≠it) (hit:∀ its,¬ IsTup h it its) (kp:∀ b o,b≠it->h.get? b=some o->h'.get? b=some o):zjn ks a h':=by
 obtain⟨o,es,ep,t,ho,hex,hd,hn,hpl,hdm,hmk,hel⟩:=S;refine⟨o,es,ep,t,kp a o hai ho,hex,hd,hn,hpl,hdm,hmk,fun e he=>?_⟩;obtain⟨k,c,h1,h2,h3,h4⟩:=hel e he;exact⟨k,c,h1,h2,h3,zch (fun b its z=>by
  have nb:b≠it:=by rintro rfl;exact hit _ z
  obtain⟨o',e,r⟩:=z;exact⟨o',kp b o' nb e,r⟩) 7 _ _ h3 h4⟩
theorem zdb {h:Heap} {it l:Addr} {i:Nat} (hi:h.IsListIter it l i):∀ its,¬ IsTup h it its:=by
 rintro its ⟨o,e,c,_⟩;obtain⟨o',e',c',_⟩:=hi;rw [e] at e';cases e';rw [c] at c';exact absurd c' (by decide)
theorem zjf {R:Result->Shared->Prop} {h0:Heap} {S l it:Addr} {its:List Value} {ks:List NK} (hA:A.handled=none) (hr:A.units+9<cLine) (nSi:S≠it) (nlS:l≠S) (nli:l≠it) (hlen:ks.length=its.length) (nd:ks.Nodup) (hsz:ks.length<=76)
  (hl:h0.IsList l its.toArray) (hk:∀ (i:Nat) (u:Value),its[i]?=some u->∃ (c:Addr) (k:NK),u=.ref c/\ks[i]?=some k/\k.dep<=7/\IsN h0 k u) (ht:∀ b its,IsTup h0 b its->b≠S/\b≠it)
  (hR:∀ h' tk,(∀ b o,b≠S->b≠it->h0.get? b=some o->h'.get? b=some o)->zjn ks S h'->R (.ok (.ret .none)) { s with heap:=h',toks:=tk }) :
  ∀ (k i:Nat) (h:Heap) (tk:Nat),its.length-i=k->i<=its.length->h.IsListIter it l i->zjn (ks.take i) S h->(∀ b o,b≠S->b≠it->h0.get? b=some o->h.get? b=some o) ->
   codeAny (model prog w) A (.builtin "set.update.loop" ⟨[.ref S,.ref it],[]⟩) R { s with heap:=h,toks:=tk }:=by
 intro k
 induction k with
 | zero =>
  intro i h tk hk' hi hit hS keep;refine codeAny_builtin PyProof.Rows.F.entry_set_update_loop ?_;rw [Around.under_plainId PyProof.Rows.F.plain_set_update_loop _];refine (show wpAny _ A.in1 (pyNext (.ref it) >>= _) _ _ _ from wpAny_bind (wpAny_pyNext_list_end (s:={ s with heap:=h,toks:=tk }) (A:=A.in1) hA hit (show h.IsList l its.toArray from (let ⟨o,e,r⟩:=hl;⟨o,keep l o nlS nli e,r⟩)) (by simp;omega) fun h' eb=>?_));refine wpAny_pure (hR h' tk (fun b o h1 h2 e=>eb b o h2 (keep b o h1 h2 e)) ?_);rw [show i=ks.length by omega,znV] at hS;exact hS.mv nSi (zdb hit) eb
 | succ k ih =>
  intro i h tk hk' hi hit hS keep;have hlt:i<its.length:=by omega
  obtain⟨c,kx,eu,hkx,hxd,hx⟩:=hk i its[i] (znC hlt);refine codeAny_builtin PyProof.Rows.F.entry_set_update_loop ?_;rw [Around.under_plainId PyProof.Rows.F.plain_set_update_loop _];refine (show wpAny _ A.in1 (pyNext (.ref it) >>= _) _ _ _ from wpAny_bind (wpAny_pyNext_list_item (s:={ s with heap:=h,toks:=tk }) (A:=A.in1) hit (show h.IsList l its.toArray from (let ⟨o,e,r⟩:=hl;⟨o,keep l o nlS nli e,r⟩)) (x:=.ref c) (by rw [← eu];simp [hlt]) fun h1 hit1 sb1=>?_));have hS1:zjn (ks.take i) S h1:=hS.mv nSi (zdb hit) fun b o nb e=>(sb1.2 b nb).trans e
  rw [eu] at hx;have hx1:IsN h1 kx (.ref c):=zch (fun b its' z=>by
   obtain⟨n1,n2⟩:=ht b _ z;obtain⟨o,e,r⟩:=z;exact⟨o,(sb1.2 b n2).trans (keep b o n1 n2 e),r⟩) 7 _ _ hxd hx
  have hki:i<ks.length:=by omega
  have eki:ks[i]=kx:=by rw [znC hki] at hkx;exact zol hkx
  have nin:kx ∉ ks.take i:=fun hm=>by
   obtain⟨j,hj,e⟩:=List.mem_take_iff_getElem.1 hm
   have:=(List.getElem_inj nd).1 (e.trans eki.symm)
   omega
  dsimp only;refine wpAny_bind (wpAny_holding (zli (A:=A.in1) (s:={ s with heap:=h1,toks:=tk }) (by show A.units+1+8<cLine;omega) hS1 nin hxd hx1 (by rw [znY];omega) fun h2 tk2 sb2 hS2=>?_));rw [← eki,List.take_append_getElem hki] at hS2;exact wpAny_pure ⟨plainId_quiet PyProof.Rows.F.plain_set_update_loop _,ih (i+1) h2 tk2 (by omega) hlt (hit1.at fun o e=>(sb2.2 it (Ne.symm nSi)).trans e) hS2 fun b o n1 n2 e=>(sb2.2 b n1).trans ((sb1.2 b n2).trans (keep b o n1 n2 e))⟩
end
def zjm (d:Addr) (n:Nat):Heap->Prop:=fun h=>∃ o es ep t,h.get? d=some o/\o.ExactSet/\o.data=.set es ep t/\t.fits es.size=true/\es.size=n
theorem zkD {P:Program} {w:World} {H:Hp} {h:Heap} {d:Addr} {n:Nat} (p:zjm d n h):zaV P w H h d (.ext (zjm d n)):=by
 refine⟨p,?_,fun h1 h2 q k=>?_⟩
 ·obtain⟨o,_,_,_,e,_⟩:=p;exact⟨o,e⟩
 ·obtain⟨o,es,ep,t,e,r⟩:=q;exact⟨o,es,ep,t,k o e,r⟩
section
variable {X:Cx}
theorem zlk:bootBuiltins "set"=some (.type "set"):=by decide +kernel
def zlr:List V->Hp->VK->Prop:=fun xs H Q=>match xs with
 | [.ref l]=>∃ (as:List Addr) (ks:List NK),H l=some (.lst (as.map V.ref))/\zaY (fun a k=>k.dep<=7/\zcZ H k (.ref a)) as ks/\ks.Nodup/\ks.length<=76/\∀ d,H d=none->Q (.ref d) (upd H d (.ext (zjm d ks.length)))
 | _=>False
theorem zmj {r:Nat} (hr:zb7 r X.A) (hc:X.calm=true):za9 X (.type "set") zlr:=by
 intro pins s σ H xs us Q I r h;unfold zlr at h;split at h
 ·rename_i l;obtain⟨as,ks,hl,hA,nd,h76,q⟩:=h;cases r with
  | cons r rr =>
  cases rr;cases r;obtain⟨z,its,n,rel,he⟩:=(show zaV X.prog X.w H s.heap l (.lst (as.map V.ref)) from I.hok l _ hl);have hits:=ze2 rel;subst hits;have hal:=hA.1;have hisn:∀ (i:Nat) (u:Value),(as.map Value.ref)[i]?=some u->∃ (c:Addr) (k:NK),u=.ref c/\ks[i]?=some k/\k.dep<=7/\IsN s.heap k u:=fun i u hu=>by
   rw [znB] at hu;obtain⟨a,ha,rfl⟩:=znD.1 hu;obtain⟨k,h1,h2,h3⟩:=hA.at ha;exact⟨a,k,rfl,h1,h2,zhs I 7 k _ _ h2 h3 rfl⟩
  refine zjd fun led=>?_
  have kS:∀ b o,s.heap.get? b=some o->(s.heap.push (zbW led)).get? b=some o:=fun b o e=>znN _ e
  have hoS:(s.heap.push (zbW led)).get? s.heap.objs.size=some (zbW led):=zn9 _ rfl;have hT:Shared.TypeIs { s with heap:=s.heap.push (zbW led) } (.ref s.heap.objs.size) "set":=⟨_,hoS,rfl⟩;have he1:=kS _ _ he;have hTl:Shared.TypeIs { s with heap:=s.heap.push (zbW led) } (.ref l) "list":=⟨_,he1,rfl⟩;have hl1:(s.heap.push (zbW led)).IsList l (as.map Value.ref).toArray:=PySem.IsL.isList he1;have x1:=F.sub_list_set;have x2:=F.sub_list_frozenset;have x3:(Value.type "list" == Value.type "dict")=false:=by decide
  unfold Builtin.«set.__init__» noKeywords Builtin.Frozenset.updateFrom;generalize hPI:pyIter=PI;have hoS2:(s.heap.push (zbW led)).get? s.heap.objs.size=some { cls:=.type "set",dict:=none,data:=.set #[] 0 (.fresh 0 0 led) }:=hoS;generalize hG:s.heap.push (zbW led)=G at *
  wp_walk
  subst hPI;refine wpAny_pyIter_list hl1 (wpAny_bind (wpAny_runValue ?_));have hlt:l<s.heap.objs.size:=zn0 he;have hSlt:s.heap.objs.size<G.objs.size:=zn0 hoS2;have kI:∀ b o,G.get? b=some o->(G.push { cls:=.type "list_iterator",data:=.fields #[.ref l,.int 0 0] }).get? b=some o:=fun b o e=>znN _ e
  refine zjf (A:=X.A.in1.in1) (s:=s) (h0:=G) (ks:=ks) (its:=as.map Value.ref) (S:=s.heap.objs.size) (l:=l) (I.ok.hd hc) ?hu (zoi hSlt) (zoi hlt) (zoi (Nat.lt_trans hlt hSlt)) (by rw [znA,hal]) nd h76 hl1 (fun i u hu=>?_) (fun b its' hb=>?_) (fun h' tk keep hS=>?_) _ 0 _ _ rfl (Nat.zero_le _) ⟨_,zn9 _ rfl,rfl,rfl⟩ ?_ fun b o _ _ e=>kI b o e
  case hu=>have:=hr.units;show X.A.units+1+1+9<cLine;omega
  ·obtain⟨c,k,h1,h2,h3,h4⟩:=hisn i u hu;exact⟨c,k,h1,h2,h3,zch (fun b its' ⟨o,e,r⟩=>⟨o,kS b o e,r⟩) 7 _ _ h3 h4⟩
  ·obtain⟨o,e,c,_⟩:=hb;refine⟨?_,zoi (zn0 e)⟩;rintro rfl;rw [hoS2] at e;cases e;have c:Value.type "set"=Value.type "tuple":=c;exact absurd c (by decide)
  ·show wpAny _ _ _ _ _ _;refine wpAny_pure ?_;refine (show wpAny _ _ (ret Value.none) _ _ _ from wpAny_pure ⟨rfl,.ref s.heap.objs.size,_,I.laid (a:=s.heap.objs.size) (o:=.ext (zjm s.heap.objs.size ks.length)) (h':=h') (t':=tk) (fun b u e=>keep b u (zoi (zn0 e)) (zoi (Nat.lt_trans (zn0 e) hSlt)) (kS b u e)) (znQ _) (zkD ?_),rfl,q _ (I.hok.fresh (znQ _))⟩);obtain⟨o,es,ep,t,h1,h2,h3,h4,h5,h6,h7,_⟩:=hS;refine⟨o,es,ep,t,h1,h2,h3,?_,h4⟩;have hfl:t.fill=t.place.size:=by unfold SetTable.fill;rw [h6];rfl
   unfold SetTable.fits;rw [hfl,h5];simp
   omega
  ·exact⟨_,#[],0,_,kI _ _ hoS2,⟨rfl,rfl,rfl⟩,rfl,rfl,rfl,rfl,.inl ⟨rfl,by decide⟩,fun e he=>by simp at he⟩
 ·exact h.elim
def zln:List V->Hp->VK->Prop:=fun xs H Q=>match xs with
 | [.ref d]=>∃ n,H d=some (.ext (zjm d n))/\n<=76/\Q (.int n) H
 | _=>False
theorem zmd:za9 X (.builtin "len") zln:=by
 intro pins s σ H xs us Q I r h;unfold zln at h;split at h
 ·rename_i d;obtain⟨n,e,hn,q⟩:=h;obtain⟨u,rfl,ru⟩:=zih r;cases ru;obtain⟨⟨o,es,ep,t,h1,h2,h3,h4,h5⟩,_,_⟩:=(show zaV X.prog X.w H s.heap d (.ext (zjm d n)) from I.hok d _ e);refine call_len_set h1 h2 h3 h4 (by omega) ⟨.int n,H,?_,⟨_,by rw [h5]⟩,q⟩;exact I.tok _
 ·exact h.elim
end
end L2
end
section
namespace L2
open PySem PySem.Spec PyProof.Rows PySem.W
section
open PySem.SeqAt
open PySem.AutoSeq1 (wpAny_loadPart')
open PySem.MeetsSeq PySem.MeetsSeq2 PySem.MeetsSeq3
end
section
variable {X:Cx}
end
end L2
end
section
set_option autoImplicit true
namespace L2
open PySem PySem.Spec PyProof.Rows PySem.W
section
variable {X:Cx}
end
end L2
end
section
set_option autoImplicit true
namespace L2
open PySem PySem.Spec PyProof.Rows PySem.W
section
variable {X:Cx}
abbrev DnL (H:Hp) (rs:List Addr) (ds:List DD):Prop:=zaY (fun a e=>Den H (.ref a) e) rs ds
theorem zlE {r:Nat} (hr:zb7 r X.A) {pins:List (Addr × Obj)} {σ:St} {H:Hp} {s:Shared} {x:V} {v:Value} {d:DD} {rs:List Addr} {ds:List DD} (I:Inv X pins σ H s) (rx:zaL x v) (hx:Den H x d) (hA:DnL H rs ds) (hd:∀ e∈ds,dep e<=50) :
  ∃ f:Value->Bool,(∀ y,y∈(rs.map Value.ref).toArray->SeqAt.EqAt X.A.in1 s y v (f y))/\∀ (i:Nat) a e,rs[i]?=some a->ds[i]?=some e->f (.ref a)=eqD e d:=by
 let f:Value->Bool:=fun u=>match u with
  | .ref a=>@decide (∃ e,Den H (.ref a) e/\eqD e d=true) (Classical.propDecidable _)
  | _=>false
 have hf:∀ a e,Den H (.ref a) e->f (.ref a)=eqD e d:=fun a e he=>by
  show @decide (∃ e,Den H (.ref a) e/\eqD e d=true) (Classical.propDecidable _)=_;cases c:eqD e d with
  | true=>exact @znG _ (Classical.propDecidable _) ⟨e,he,c⟩
  | false =>
   refine @znH _ (Classical.propDecidable _) fun ⟨e',h1,h2⟩=>?_
   rw [Den.inj e' e h1 he,c] at h2;cases h2
 refine⟨f,fun y hy=>?_,fun i a e ha he=>hf a e (hA.2 i a e ha he)⟩;obtain⟨i,hi⟩:=List.getElem?_of_mem (show y∈rs.map Value.ref by simpa using hy);rw [znB] at hi;obtain⟨a,ha,rfl⟩:=znD.1 hi;obtain⟨e,he,hde⟩:=hA.at ha;rw [hf a e hde];have hu:=hr.units;exact (zhg I 50 e d X.A.in1 (.ref a) x _ _ (hd e (znF he)) hde hx rfl rx (by show X.A.units+1+50<cLine;omega)).1
theorem zmN {f:Value->Bool} {rs:List Addr} {ds:List DD} {d:DD} (hl:rs.length=ds.length) (h:∀ (i:Nat) a e,rs[i]?=some a->ds[i]?=some e->f (.ref a)=eqD e d):(rs.map Value.ref).toArray.any f=ds.any fun e=>eqD e d:=by
 rw [List.any_toArray,List.any_map];rw [Bool.eq_iff_iff,List.any_eq_true,List.any_eq_true]
 constructor
 ·rintro ⟨a,ha,h1⟩;obtain⟨i,hi⟩:=List.getElem?_of_mem ha;have hil:=(znE.1 hi).1;have he:ds[i]?=some (ds[i]'(by omega)):=znC _;exact⟨_,znF he,by rw [← h i a _ hi he];exact h1⟩
 ·rintro ⟨e,he,h1⟩;obtain⟨i,hi⟩:=List.getElem?_of_mem he;have hil:=(znE.1 hi).1;have ha:rs[i]?=some (rs[i]'(by omega)):=znC _;exact⟨_,znF ha,(h i _ e ha hi).trans h1⟩
def cInL (neg:Bool):R2:=fun x y H Q=>match y with
 | .ref p=>∃ (rs:List Addr) (ds:List DD) (d:DD),H p=some (.lst (rs.map V.ref))/\DnL H rs ds/\Den H x d/\(∀ e∈ds,dep e<=50)/\Q (.bl (if neg then !(ds.any fun e=>eqD e d) else ds.any fun e=>eqD e d)) H
 | _=>False
theorem zlU {r:Nat} (hr:zb7 r X.A):OpR X (compareOp .In) (cInL false):=by
 intro pins s σ H x y v u Q I rx ry h;unfold cInL at h;split at h
 ·rename_i p;obtain⟨rs,ds,d,hp,hA,hx,hd,q⟩:=h;cases ry;obtain⟨its,rv,pl,hz⟩:=I.list (.inl (.inl hp));cases ze2 rv;obtain⟨f,h1,h2⟩:=zlE hr I rx hx hA hd;refine SeqAt.in_listAt f pl.isList h1 ⟨.bl _,H,I,rfl,?_⟩;rw [zmN hA.1 h2];exact q
 ·exact h.elim
end
end L2
end
section
namespace L2
open PySem PySem.Spec PyProof.Rows PySem.W
section
open PySem.SeqAt
open PySem.AutoSeq1 (wpAny_loadPart')
open PySem.MeetsSeq PySem.MeetsSeq2 PySem.MeetsSeq3
end
section
variable {prog:Program} {w:World} {A:Around} {E:Value->Shared->Prop} {s:Shared}
end
end L2
end
section
namespace PySem
open Sem (wp)
section
variable {prog:Program} {w:World} {A:Around} {E:Value->Shared->Prop} {h:Heap} {g:Array GenState} {d:Drawn} {t:Nat} {os:OsState} {a:Addr} {o:Obj} {its:Array Value} {n:Nat}
end
end PySem
namespace L2
open PySem PySem.Spec PyProof.Rows PySem.W
section
variable {prog:Program} {w:World} {K:Type} [DecidableEq K] {knd:PySem.KeyKind prog w K} {A:Around} {s:Shared} {R:Result->Shared->Prop}
end
section
variable {X:Cx}
end
end L2
end
section
namespace L2
open PySem PySem.Spec PyProof.Rows PySem.W
section
variable {X:Cx}
end
end L2
end
section
set_option autoImplicit true
namespace L2
open PySem PySem.Spec PyProof.Rows PySem.W
section
open PySem.SeqAt
open PySem.AutoSeq1 (wpAny_loadPart')
open PySem.MeetsSeq PySem.MeetsSeq2 PySem.MeetsSeq3
end
section
variable {prog:Program} {w:World} {A:Around} {R:Result->Shared->Prop} {I:Addr} {fp wr:List Addr} {n:Nat} {P:Nat->Value->Prop} {St:Nat->Heap->Prop}
end
section
variable {X:Cx} {pins:List (Addr × Obj)} {σ:St} {H:Hp} {s:Shared}
end
section
variable {X:Cx}
end
end L2
end
section
namespace L2
open PySem PySem.Spec PyProof.Rows PySem.W
section
variable {X:Cx} {K:PySem.W.Frag}
def zj2 (K:PySem.W.Frag):List V->Hp->VK->Prop:=fun xs H Q=>match xs with | [.ref a]=>∃ ns:List Int,SqL K H a (ns.map V.int)/\Q (.int ns.sum) H | _=>False
theorem zmk (hc:X.calm=true):za9 X (.builtin "sum") (zj2 X.K):=by
 intro pins s σ H xs us Q I r h;unfold zj2 at h;split at h
 ·rename_i a;obtain⟨ns,hx,q⟩:=h;cases r with
  | cons r rr =>
  cases rr;cases r;obtain⟨its,rv,pl,hz⟩:=I.list hx;have hi:IntsAre its ns:=zcs rv;obtain⟨ys,e⟩:=hi.allInts.items;have hns:ys.toList.map (·.1)=ns:=by
   rw [← nums_intItems,← e];exact (show numsOf its.toArray.toList=ns from hi.numsOf)
  have hl:=pl.isList;rw [e] at hl;refine sum_intListG (I.ok.hd hc) hl fun h' tk t' hk=>?_
  refine⟨.int _,H,I.kept (t':=tk) hk,⟨t',rfl⟩,?_⟩;rw [preSum_eq,List.take_of_length_le (by simp),hns];exact q
 ·exact h.elim
theorem zkO (hK:X.K=K) (hc:X.calm=true):za9 X (.builtin "sum") (zj2 K):=hK ▸ zmk hc
end
end L2
end
namespace Law
open PySem PySem.Spec PyProof.Rows L2
local macro_rules | `(tactic| walk_at "o") => `(tactic| first | exact Or.inl rfl | exact Or.inr rfl)
local macro_rules | `(tactic| walk_at "w") => `(tactic| conv => whnf)
local macro_rules | `(tactic| walk_at "hp") => `(tactic| (repeat (first | assumption | exact zae | refine zlI ?_ (by assumption))))
local macro_rules | `(tactic| walk_at "frees") => `(tactic| (repeat ((conv => whnf); first | exact True.intro | refine ⟨Or.inl rfl, ?_⟩ | refine ⟨Or.inr rfl, ?_⟩ | refine ⟨⟨rfl, Or.inl rfl⟩, ?_⟩ | refine ⟨⟨rfl, Or.inr rfl⟩, ?_⟩)))
local macro_rules | `(tactic| walk_at "s") => `(tactic| exact ⟨rfl, rfl, rfl, by decide +kernel, rfl, by decide +kernel, by decide +kernel⟩)
local macro_rules | `(tactic| walk_at "comp_ok") => `(tactic| exact ⟨rfl, by decide +kernel, by decide +kernel, by walk_at "frees", by walk_at "frees"⟩)
def top (i:Nat):Stmt:=PySem.Challenge.pw_endnever_k29_whole_meetings_and_runs.main.body.getD i (.Pass ⟨0,0,0,0⟩)
abbrev zbC:Stmt:=top 24
abbrev zb3:Stmt:=top 26
abbrev zbD:Stmt:=top 25
abbrev zbm:Stmt:=top 9
abbrev zb2:Stmt:=top 10
abbrev za2:Stmt:=top 11
abbrev zaO:Stmt:=top 12
abbrev zaJ:Stmt:=zcr (top 7) 0
abbrev zbd:Stmt:=zcr (top 7) 1
abbrev za0:Stmt:=zcr (top 7) 2
abbrev zbe:Stmt:=zcr (top 7) 4
abbrev zbf:Stmt:=zcr (top 7) 3
abbrev za1:Stmt:=zcr (top 7) 5
abbrev zaT:Stmt:=top 8
abbrev zcx:Stmt:=top 14
abbrev zgK:Stmt:=top 15
abbrev zcA:Stmt:=top 16
abbrev zbF:Stmt:=top 17
abbrev zaU:Stmt:=top 19
abbrev zb6:Stmt:=top 20
abbrev zbE:Stmt:=top 21
abbrev za3:Stmt:=top 22
abbrev zbg:Stmt:=top 27
abbrev zcz:Stmt:=top 28
abbrev zb5:Stmt:=top 29
abbrev zcy:Stmt:=top 30
abbrev zb4:Stmt:=top 31
abbrev zbn:Stmt:=top 32
abbrev zgJ:Stmt:=top 33
theorem us0 {P:List Value->Prop} (h:Unit->P []):∀ us:List Value,us.length=0->P us
 | [],_=>h ()
theorem us1 {P:List Value->Prop} (h:∀ v0,P [v0]):∀ us:List Value,us.length=1->P us
 | [v0],_=>h v0
theorem us2 {P:List Value->Prop} (h:∀ v0 v1,P [v0,v1]):∀ us:List Value,us.length=2->P us
 | [v0,v1],_=>h v0 v1
theorem us3 {P:List Value->Prop} (h:∀ v0 v1 v2,P [v0,v1,v2]):∀ us:List Value,us.length=3->P us
 | [v0,v1,v2],_=>h v0 v1 v2
set_option genInjectivity false in
set_option genSizeOf false in
structure Ad where
 l_mixed:Addr
 l_mixed_d:FuncData
 l_draw:Addr
 l_draw_d:FuncData
 l_purse:Addr
 l_purse_d:FuncData
 is_entry:Addr
 is_entry_d:FuncData
 is_row:Addr
 is_row_d:FuncData
 is_machine:Addr
 is_machine_d:FuncData
 must_machine:Addr
 must_machine_d:FuncData
 Walk___init__:Addr
 Walk___init___d:FuncData
 Walk_look:Addr
 Walk_look_d:FuncData
 Walk_entry:Addr
 Walk_entry_d:FuncData
 Walk_mark:Addr
 Walk_mark_d:FuncData
 Walk_step:Addr
 Walk_step_d:FuncData
 Walk_setup:Addr
 Walk_setup_d:FuncData
 first_setup:Addr
 first_setup_d:FuncData
 begun:Addr
 begun_d:FuncData
 run:Addr
 run_d:FuncData
 looks:Addr
 looks_d:FuncData
 touched:Addr
 touched_d:FuncData
 met_entries:Addr
 met_entries_d:FuncData
 visits:Addr
 visits_d:FuncData
 records:Addr
 records_d:FuncData
 parts_from:Addr
 parts_from_d:FuncData
 l_machine:Addr
 l_machine_d:FuncData
 l_led:Addr
 l_led_d:FuncData
 l_late:Addr
 l_late_d:FuncData
 l_any:Addr
 l_any_d:FuncData
 l_kept:Addr
 l_kept_d:FuncData
 l_places:Addr
 l_places_d:FuncData
 law:Addr
 law_d:FuncData
 MillError:Addr
 NoMachine:Addr
 Walk:Addr
structure Tx (K:PySem.W.Frag) (mg:Str->Option Value) (a:Ad):Prop where
 f_l_mixed:Fun K "_law_mixed" "_law_mixed" zbC a.l_mixed a.l_mixed_d
 b_l_mixed:zaK K a.l_mixed_d ["_law_cell","_law_k"] []
 g_l_mixed:mg "_law_mixed"=some (.ref a.l_mixed)
 f_l_draw:Fun K "_law_draw" "_law_draw" zb3 a.l_draw a.l_draw_d
 b_l_draw:zaK K a.l_draw_d ["_law_purse_here","_law_out_of"] []
 g_l_draw:mg "_law_draw"=some (.ref a.l_draw)
 f_l_purse:Fun K "_law_purse" "_law_purse" zbD a.l_purse a.l_purse_d
 b_l_purse:zaK K a.l_purse_d ["_law_script"] []
 g_l_purse:mg "_law_purse"=some (.ref a.l_purse)
 f_is_entry:Fun K "is_entry" "is_entry" zbm a.is_entry a.is_entry_d
 b_is_entry:zaK K a.is_entry_d ["entry","rows","signs"] []
 g_is_entry:mg "is_entry"=some (.ref a.is_entry)
 f_is_row:Fun K "is_row" "is_row" zb2 a.is_row a.is_row_d
 b_is_row:zaK K a.is_row_d ["row","rows","signs"] []
 g_is_row:mg "is_row"=some (.ref a.is_row)
 f_is_machine:Fun K "is_machine" "is_machine" za2 a.is_machine a.is_machine_d
 b_is_machine:zaK K a.is_machine_d ["machine"] []
 g_is_machine:mg "is_machine"=some (.ref a.is_machine)
 f_must_machine:Fun K "must_machine" "must_machine" zaO a.must_machine a.must_machine_d
 b_must_machine:zaK K a.must_machine_d ["machine"] []
 g_must_machine:mg "must_machine"=some (.ref a.must_machine)
 f_Walk___init__:Fun K "__init__" "Walk.__init__" zaJ a.Walk___init__ a.Walk___init___d
 b_Walk___init__:zaK K a.Walk___init___d ["self","table","begin"] []
 mk_Walk:Mk K a.Walk a.Walk___init__
 f_Walk_look:Fun K "look" "Walk.look" zbd a.Walk_look a.Walk_look_d
 b_Walk_look:zaK K a.Walk_look_d ["self"] []
 m_Walk_look:zjl K a.Walk "look" a.Walk_look
 f_Walk_entry:Fun K "entry" "Walk.entry" za0 a.Walk_entry a.Walk_entry_d
 b_Walk_entry:zaK K a.Walk_entry_d ["self"] []
 m_Walk_entry:zjl K a.Walk "entry" a.Walk_entry
 f_Walk_mark:Fun K "mark" "Walk.mark" zbe a.Walk_mark a.Walk_mark_d
 b_Walk_mark:zaK K a.Walk_mark_d ["self","sign"] []
 m_Walk_mark:zjl K a.Walk "mark" a.Walk_mark
 f_Walk_step:Fun K "step" "Walk.step" zbf a.Walk_step a.Walk_step_d
 b_Walk_step:zaK K a.Walk_step_d ["self"] []
 m_Walk_step:zjl K a.Walk "step" a.Walk_step
 f_Walk_setup:Fun K "setup" "Walk.setup" za1 a.Walk_setup a.Walk_setup_d
 b_Walk_setup:zaK K a.Walk_setup_d ["self"] []
 m_Walk_setup:zjl K a.Walk "setup" a.Walk_setup
 f_first_setup:Fun K "first_setup" "first_setup" zaT a.first_setup a.first_setup_d
 b_first_setup:zaK K a.first_setup_d [] []
 g_first_setup:mg "first_setup"=some (.ref a.first_setup)
 f_begun:Fun K "begun" "begun" zcx a.begun a.begun_d
 b_begun:zaK K a.begun_d ["machine"] []
 g_begun:mg "begun"=some (.ref a.begun)
 f_run:Fun K "run" "run" zgK a.run a.run_d
 b_run:zaK K a.run_d ["machine","most"] []
 g_run:mg "run"=some (.ref a.run)
 f_looks:Fun K "looks" "looks" zcA a.looks a.looks_d
 b_looks:zaK K a.looks_d ["machine","most"] []
 g_looks:mg "looks"=some (.ref a.looks)
 f_touched:Fun K "touched" "touched" zbF a.touched a.touched_d
 b_touched:zaK K a.touched_d ["machine","most"] []
 g_touched:mg "touched"=some (.ref a.touched)
 f_met_entries:Fun K "met_entries" "met_entries" zaU a.met_entries a.met_entries_d
 b_met_entries:zaK K a.met_entries_d ["machine","most"] []
 g_met_entries:mg "met_entries"=some (.ref a.met_entries)
 f_visits:Fun K "visits" "visits" zb6 a.visits a.visits_d
 b_visits:zaK K a.visits_d ["machine","most"] []
 g_visits:mg "visits"=some (.ref a.visits)
 f_records:Fun K "records" "records" zbE a.records a.records_d
 b_records:zaK K a.records_d ["machine","most"] []
 g_records:mg "records"=some (.ref a.records)
 f_parts_from:Fun K "parts_from" "parts_from" za3 a.parts_from a.parts_from_d
 b_parts_from:zaK K a.parts_from_d ["one","other","most"] []
 g_parts_from:mg "parts_from"=some (.ref a.parts_from)
 f_l_machine:Fun K "_law_machine" "_law_machine" zbg a.l_machine a.l_machine_d
 b_l_machine:zaK K a.l_machine_d ["_law_purse_here"] []
 g_l_machine:mg "_law_machine"=some (.ref a.l_machine)
 f_l_led:Fun K "_law_led" "_law_led" zcz a.l_led a.l_led_d
 b_l_led:zaK K a.l_led_d ["_law_purse_here"] []
 g_l_led:mg "_law_led"=some (.ref a.l_led)
 f_l_late:Fun K "_law_late" "_law_late" zb5 a.l_late a.l_late_d
 b_l_late:zaK K a.l_late_d ["_law_purse_here"] []
 g_l_late:mg "_law_late"=some (.ref a.l_late)
 f_l_any:Fun K "_law_any" "_law_any" zcy a.l_any a.l_any_d
 b_l_any:zaK K a.l_any_d ["_law_purse_here"] []
 g_l_any:mg "_law_any"=some (.ref a.l_any)
 f_l_kept:Fun K "_law_kept" "_law_kept" zb4 a.l_kept a.l_kept_d
 b_l_kept:zaK K a.l_kept_d ["_law_machine_here","_law_entries"] []
 g_l_kept:mg "_law_kept"=some (.ref a.l_kept)
 f_l_places:Fun K "_law_places" "_law_places" zbn a.l_places a.l_places_d
 b_l_places:zaK K a.l_places_d ["_law_machine_here","_law_most","_law_far"] []
 g_l_places:mg "_law_places"=some (.ref a.l_places)
 f_law:Fun K "law" "law" zgJ a.law a.law_d
 b_law:zaK K a.law_d ["_law_script"] []
 g_law:mg "law"=some (.ref a.law)
 e_MillError:ExK K a.MillError
 t_MillError:ExC K a.MillError
 g_MillError:mg "MillError"=some (.ref a.MillError)
 m_MillError:ExM K a.MillError ([.ref a.MillError])
 e_NoMachine:ExK K a.NoMachine
 t_NoMachine:ExC K a.NoMachine
 g_NoMachine:mg "NoMachine"=some (.ref a.NoMachine)
 m_NoMachine:ExM K a.NoMachine ([.ref a.NoMachine,.ref a.MillError])
 k_Walk:Cls K a.Walk
 g_Walk:mg "Walk"=some (.ref a.Walk)
 n_Walk_table:zbO K a.Walk "table"
 n_Walk_row:zbO K a.Walk "row"
 n_Walk_place:zbO K a.Walk "place"
 n_Walk_marks:zbO K a.Walk "marks"
 c_MOST_ROWS:CV mg "MOST_ROWS" (.int 4)
 c_LEAST_SIGNS:CV mg "LEAST_SIGNS" (.int 2)
 c_MOST_SIGNS:CV mg "MOST_SIGNS" (.int 4)
 z_abs:mg "abs"=none
 z_all:mg "all"=none
 z_dict:mg "dict"=none
 z_enumerate:mg "enumerate"=none
 z_int:mg "int"=none
 z_isinstance:mg "isinstance"=none
 z_len:mg "len"=none
 z_list:mg "list"=none
 z_max:mg "max"=none
 z_min:mg "min"=none
 z_range:mg "range"=none
 z_set:mg "set"=none
 z_sorted:mg "sorted"=none
 z_sum:mg "sum"=none
 z_tuple:mg "tuple"=none
 ex_nd:[a.MillError,a.NoMachine].Nodup
section
variable {P:Program} {w:World} {K:PySem.W.Frag} {mg:Str->Option Value} {base:Heap} {a:Ad}
theorem zdG:zar ["_law_cell","_law_k","_law_rest","_law_number"] ["_law_cell","_law_k"] (zaf zbC):=by walk_at "s"
def zek:Sp:=fun vs H Q _=>match vs with
 | [.int _,.int k]=>(0<=k/\k<=1000)/\∀ (n:Int),0<=n->n<2147483587->Q (.int n) H
 | _=>False
theorem zgB (T:Tx K mg a):zbu P w K mg base CX0 1 a.l_mixed a.l_mixed_d ["_law_cell","_law_k"] (zek):=by
 refine T.f_l_mixed.ok zdG (fun vs H Q E h=>?_) (fun cdv A outer s H vs Q E hr h=>?_)
 ·unfold zek at h;split at h
  ·rfl
  ·exact h.elim
 ·unfold zek at h;split at h
  ·have nd:=zdG.nd;have hu:=za5 hr;rename_i c k;refine⟨_,(zab (zao (i:=2) nd rfl (by walk_at "o") (zav zgF (qv 0) (zav zmi zad zad)))
  (zab (zao (i:=3) nd rfl (by walk_at "o") (zav zgF (zav zcw (zav zbx (zav zbx (zav zbx (zav zcw (qv 2) (qv 2)) (zav zcw zad (qv 2))) (zav zcw zad (qv 1))) zad) zad) zad))
  (zag (zat (zav zgF (zav zbx (zav zcw (qv 3) (qv 3)) zad) zad))))),?_⟩
   refine⟨cpow (by decide),fun p hp _=>?_⟩;have hp:p=1000000000000000:=by rw [hp];decide
   refine⟨by show (0:Int)<_;omega,fun r _ ⟨r0,r1⟩=>?_⟩;refine⟨.inl ⟨by omega,by omega⟩,fun m1 _ _=>?_⟩;refine⟨.inl ⟨by omega,by omega⟩,fun m2 _ _=>?_⟩;refine⟨.inl ⟨by omega,by omega⟩,fun m3 _ _=>?_⟩;refine⟨.inr ⟨by omega,by omega⟩,fun m4 _ _=>?_⟩;refine⟨by show (0:Int)<_;decide,fun m5 _ ⟨a0,a1⟩=>?_⟩;refine⟨.inl ⟨by omega,by omega⟩,fun m6 _ _=>?_⟩;refine⟨by show (0:Int)<_;decide,fun m7 _ ⟨b0,b1⟩=>?_⟩;exact h.2 _ b0 b1
  ·exact h.elim
theorem zeR:zar ["_law_purse_here","_law_out_of","_law_drawn"] ["_law_purse_here","_law_out_of"] (zaf zb3):=by walk_at "s"
def zfy:Sp:=fun vs H Q _=>match vs with
 | [.ref b,.int k]=>(0<k/\k.natAbs.log2<9000)/\∃ n m,H b=some (.lst [.int n,.int m])/\∀ d n':Int,0<=d->d<k->Q (.int d) (upd H b (.lst [.int n',.int m]))
 | _=>False
theorem zbS (T:Tx K mg a):zbu P w K mg base CX0 1 a.l_draw a.l_draw_d ["_law_purse_here","_law_out_of"] (zfy):=by
 refine T.f_l_draw.ok zeR (fun vs H Q E h=>?_) (fun cdv A outer s H vs Q E hr h=>?_)
 ·unfold zfy at h;split at h
  ·rfl
  ·exact h.elim
 ·unfold zfy at h;split at h
  ·have nd:=zeR.nd;have hu:=za5 hr;rename_i b k;obtain⟨hk,n,m,hb,h⟩:=h;refine⟨_,(zab (zcP (zcv zgQ (zaQ (zaN (K:=K) rfl) (qv 0) zad (fun _ _=>rfl)) zad) (zag (zbL (zaQ (zaN (K:=K) rfl) (qv 0) zad (fun _ _=>rfl)) (zcG (qv 0) zad zcH))) zaz)
  (zab (zao (i:=2) nd rfl (by walk_at "o") (zav zgF (zaQ (zaN (K:=K) rfl) (qv 0) zad (fun _ _=>rfl)) (qv 1)))
  (zab (zbL (zav zmc (zaQ (zaN (K:=K) rfl) (qv 0) zad (fun _ _=>rfl)) (qv 1)) (zcG (qv 0) zad zcH))
  (zag (zat (qv 2)))))),?_⟩
   refine⟨_,_,SqL.of hb,rfl,?_⟩;walk_at "w";have fin:∀ (n1:Int) (H1:Hp),H1 b=some (.lst [.int n1,.int m])->(∀ n',upd H1 b (.lst [.int n',.int m])=upd H b (.lst [.int n',.int m])) ->
     ∃ xs v,SqL K H1 b xs/\atI xs 0=some v/\(cL CMod (fun i j=>i % j) fun _ j m=>0<=m/\m<j) v (.int k) H1 fun x H2 =>
      ∃ xs v,SqL K H2 b xs/\atI xs 0=some v/\(cL zk9 (fun i j=>i / j) fun _ _ _=>True) v (.int k) H2 fun y H3=>zj1 (.ref b) (.int 0) y H3 fun H4=>Q x H4:=by
    intro n1 H1 h1 he;refine⟨_,_,SqL.of h1,rfl,hk.1,fun d _ ⟨d0,d1⟩=>⟨_,_,SqL.of h1,rfl,hk,fun q _ _=>⟨_,0,h1,rfl,?_⟩⟩⟩;show Q (.int d) (upd H1 b (.lst [.int q,.int m]));rw [he];exact h d q d0 d1
   refine ifB.mk (fun _=>?_) (fun _=>?_)
   ·walk_at "w";refine⟨_,_,SqL.of hb,rfl,?_⟩;refine⟨_,0,hb,rfl,?_⟩;exact fin m _ zae fun n'=>zk1
   ·exact fin n H hb fun n'=>rfl
  ·exact h.elim
theorem zdH:zar ["_law_script","_law_cells","_law_number","_law_k"] ["_law_script"] (zaf zbD):=by walk_at "s"
def zel (K:PySem.W.Frag):Sp:=fun vs H Q _=>match vs with
 | [.ref b]=>∃ ns:List Int,SqL K H b (ns.map V.int)/\ns.length<=63/\∀ (p:Addr) (H':Hp) (n m:Int),Sub H H'->H p=none->H' p=some (.lst [.int n,.int m])->Q (.ref p) H'
 | _=>False
theorem zmZ (ns:List Int):∃ ms:List Int,zgp (ns.map V.int) none (some 63)=ms.map V.int/\ms.length<=63:=by
 unfold zgp;rw [znA];refine⟨(ns.drop (HT.sIx ns.length 0 none)).take (HT.sIx ns.length ns.length (some 63)-HT.sIx ns.length 0 none),?_,?_⟩
 ·rw [List.map_take,List.map_drop]
 ·rw [znY]
  have:HT.sIx ns.length ns.length (some ((63:Nat):Int))=min 63 ns.length:=HT.sIx_nat _ _ _
  have e:((63:Nat):Int)=(63:Int):=rfl;rw [e] at this;rw [this];omega
theorem zgW {vs:List V} {ns:List Int} (e:vs=ns.map V.int) {i:Int} (h0:0<=i) (h1:i<vs.length):∃ n:Int,atI vs i=some (.int n):=by
 subst e;unfold atI ixN;rw [zod h0,zod h1,Option.bind_some];have hl:i.toNat<ns.length:=by rw [znA] at h1;omega
 exact⟨ns[i.toNat],by rw [znB,znC hl];rfl⟩
theorem zgC (T:Tx K mg a):zbu P w K mg base CX0 2 a.l_purse a.l_purse_d ["_law_script"] (zel K):=by
 have G_l_mixed:=zgB (P:=P) (w:=w) (base:=base) T;refine T.f_l_purse.ok zdH (fun vs H Q E h=>?_) (fun cdv A outer s H vs Q E hr h=>?_)
 ·unfold zel at h;split at h
  ·rfl
  ·exact h.elim
 ·unfold zel at h;split at h
  ·have nd:=zdH.nd;have hu:=za5 hr;rename_i b;obtain⟨ns,hS,hlen,h⟩:=h;obtain⟨ms,hms,hml⟩:=zmZ ns;refine⟨_,(zab (zao (i:=1) nd rfl (by walk_at "o") (zav zkM (zcW (zf9 (K:=K) rfl) (qv 0) zd8 (zec zad)) (zaZ (zaa zad zac))))
  (zab (zao (i:=2) nd rfl (by walk_at "o") zad)
  (zab (zb8 PassesOwn.never rfl (zbs rfl T.z_range (zaa zad zac)) (zak (i:=3) nd rfl (by walk_at "o")) (zag (zao (i:=2) nd rfl (by walk_at "o") (zav zbx (zav zcw (qv 2) zad) (zah G_l_mixed (hr.mono (by decide)) rfl T.g_l_mixed T.f_l_mixed.kp T.b_l_mixed .nil zan (zaa (zaQ (zaN (K:=K) rfl) (qv 1) (zav zgF (qv 3) (zaq (zbM (K:=K) rfl) rfl T.z_len zby (zaa (qv 1) zac))) (fun _ _=>rfl)) (zaa (qv 3) zac)))))))
  (zab (zcP (zcv q_ge (zaq zmb rfl T.z_abs zjp (zaa (zaQ (zaN (K:=K) rfl) (qv 1) zad (fun _ _=>rfl)) zac)) (zav zmi zad zad)) (zag (zat (zaZ (zaa (zaq zmb rfl T.z_abs zjp (zaa (zaQ (zaN (K:=K) rfl) (qv 1) zad (fun _ _=>rfl)) zac)) (zaa (qv 2) zac))))) zaz)
  (zag (zat (zaZ (zaa (qv 2) (zaa (qv 2) zac))))))))),?_⟩
   refine⟨_,hS,fun p1 n1=>?_⟩;rw [hms];refine⟨by show 1<=sizeLine;decide,fun p2 n2=>?_⟩;refine⟨_,_,zlI zae n2,zae,by rw [znA];show ms.length+1<=sizeLine;exact znP (Nat.add_le_add_right hml 1) (by decide),fun p3 n3=>?_⟩;have e3:ms.map V.int++[.int 0]=(ms++[0]).map V.int:=by rw [znI];rfl
   have el:((ms++[0]).map V.int).length=ms.length+1:=by simp
   rw [e3];have sub3:Sub H (upd (upd (upd H p1 (.lst (ms.map V.int))) p2 (.lst [.int 0])) p3 (.lst ((ms++[0]).map V.int))) :=
    ((Sub.new n1).trans (Sub.new n2)).trans (Sub.new n3)
   have h3:(upd (upd (upd H p1 (.lst (ms.map V.int))) p2 (.lst [.int 0])) p3 (.lst ((ms++[0]).map V.int))) p3=some (.lst ((ms++[0]).map V.int)):=zae;generalize (upd (upd (upd H p1 (.lst (ms.map V.int))) p2 (.lst [.int 0])) p3 (.lst ((ms++[0]).map V.int)))=H3 at sub3 h3 ⊢;refine⟨⟨by decide,by decide⟩,?_⟩;refine zbo (lo:=0) (n:=(64:Int).toNat) (fun _ σ H4=>∃ (n:Int) (v:Option V),σ=[some (.ref b),some (.ref p3),some (.int n),v]/\H4=H3) ⟨1,none,rfl,rfl⟩ ?_ ?_
   ·rintro i σ H4 hi ⟨n,v,rfl,rfl⟩;have hi:i<64:=hi;refine⟨.inr ⟨by decide,by decide⟩,fun m1 _ _=>?_⟩;refine⟨_,.inl (SqL.of h3),?_⟩;walk_at "w";rw [el];refine⟨by show (0:Int)<_;omega,fun r _ ⟨r0,r1⟩=>?_⟩;obtain⟨c,hc⟩:=zgW (i:=r) (rfl:(ms++[0]).map V.int=_) r0 (by rw [el];omega);refine⟨_,_,SqL.of h3,hc,?_⟩;refine⟨⟨by omega,by omega⟩,fun k _ _=>?_⟩;exact⟨_,_,rfl,rfl⟩
   ·rintro σ H4 ⟨n,v,rfl,rfl⟩;obtain⟨c,hc⟩:=zgW (i:=0) (rfl:(ms++[0]).map V.int=_) (by decide) (by rw [el];omega);refine⟨_,_,SqL.of h3,hc,?_⟩;walk_at "w";intro m1 _;refine⟨cpow (by decide),fun m2 _ _=>?_⟩;walk_at "w";refine ifB.mk (fun _=>?_) (fun _=>?_)
    ·walk_at "w";refine⟨_,_,SqL.of h3,hc,?_⟩;walk_at "w";intro m3 _;refine⟨by show 2<=sizeLine;decide,fun p4 n4=>?_⟩;exact h p4 _ _ _ (sub3.trans (Sub.new n4)) (sub3.free n4) zae
    ·walk_at "w";refine⟨by show 2<=sizeLine;decide,fun p4 n4=>?_⟩;exact h p4 _ _ _ (sub3.trans (Sub.new n4)) (sub3.free n4) zae
  ·exact h.elim
theorem zdl:zar ["entry","rows","signs","sign","way","row"] ["entry","rows","signs"] (zaf zbm):=by walk_at "s"
def zcf:Sp:=fun vs H Q _=>match vs with
 | [.ref b,.int rows,.int signs]=>∃ e:En,Ent H b e/\∀ H',Sub H H'->Q (.bl (zax rows signs e)) H'
 | _=>False
theorem zhd {K:PySem.W.Frag} {H:Hp} {b:Addr} {e:En} (h:Ent H b e):SqT K H b (e.map V.int):=SqT.of h
theorem zjA {y:Int}:(decide (y=-1) || decide (y=1))=inV (.int y) [.int (-1),.int 1]:=by
 unfold inV;simp only [List.any_cons,List.any_nil,eqV,Bool.or_false];by_cases h1:y=-1
 ·subst h1;rfl
 ·by_cases h2:y=1
  ·subst h2;rfl
  ·have h3:¬ (-1=y):=fun e=>h1 e.symm
   have h4:¬ (1=y):=fun e=>h2 e.symm
   simp [h1,h2,h3,h4]
theorem zfk (T:Tx K mg a):zbu P w K mg base CX0 1 a.is_entry a.is_entry_d ["entry","rows","signs"] (zcf):=by
 refine T.f_is_entry.ok zdl (fun vs H Q E h=>?_) (fun cdv A outer s H vs Q E hr h=>?_)
 ·unfold zcf at h;split at h
  ·rfl
  ·exact h.elim
 ·unfold zcf at h;split at h
  ·have nd:=zdl.nd;have hu:=za5 hr;rename_i b rows signs;obtain⟨e,hb,h⟩:=h;refine⟨_,(zab (zcP (zcv zgQ (zaq (zbM (K:=K) rfl) rfl T.z_len zby (zaa (qv 0) zac)) zad) (zag (zat zcu)) zaz)
  (zab (zcP (zcv znk (zaq (zbM (K:=K) rfl) rfl T.z_len zby (zaa (qv 0) zac)) zad) (zag (zat zcu)) zaz)
  (zab (zbL (qv 0) (za6 (K:=K) (n:=3) rfl rfl (zal (zak (i:=3) nd rfl (by walk_at "o")) (zal (zak (i:=4) nd rfl (by walk_at "o")) (zal (zak (i:=5) nd rfl (by walk_at "o")) za7)))))
  (zag (zat (zd7 (zl0 zi7 zk8 zad (qv 3) (qv 2)) (zd7 (zbU (zng (K:=K) rfl) (qv 4) (zay (zaa (zhR zh3 zad) (zaa zad zac))) (by first | exact zbb _ | rfl)) (zf2 (zl0 zi7 zk8 zad (qv 5) (qv 1)))))))))),?_⟩
   refine⟨_,.inr (zhd hb),?_⟩;walk_at "w";refine ifB.dec (fun h0=>?_) (fun h0=>?_)
   ·have e0:e=[]:=by cases e with
     | nil=>rfl
     | cons x r=>simp at h0;omega
    subst e0;exact h H Sub.refl
   ·walk_at "w";refine⟨_,.inr (zhd hb),?_⟩;walk_at "w";refine ifB.mk (fun h3=>?_) (fun h3=>?_)
    ·have:zax rows signs e=false:=by
      match e,h0,h3 with
      | [],h0,_=>simp at h0
      | [_],_,_=>rfl
      | [_,_],_,_=>rfl
      | [_,_,_],_,h3=>simp at h3
      | _::_::_::_::_,_,_=>rfl
     have h:=h H Sub.refl;rw [this] at h;exact h
    ·obtain⟨x,y,z,rfl⟩:∃ x y z,e=[x,y,z]:=by
      match e,h3 with
      | [],h3=>simp at h3
      | [_],h3=>simp at h3
      | [_,_],h3=>simp at h3
      | [x,y,z],_=>exact⟨x,y,z,rfl⟩
      | _::_::_::_::_,h3=>simp at h3;omega
     refine⟨_,zhd hb,rfl,?_⟩;walk_at "w";have fin:∀ (c:Bool) (H':Hp),Sub H H'->zax rows signs [x,y,z]=c->Q (.bl c) H':=fun c H' S e=>e ▸ h H' S
     have hd:zax rows signs [x,y,z]=((decide (0<=x) && decide (x<signs)) && (decide (y=-1) || decide (y=1)) && (decide (0<=z) && decide (z<rows))):=rfl;refine ifB.dec (fun h1=>?_) (fun h1=>?_)
     ·walk_at "w";refine ifB.dec (fun h2=>?_) (fun h2=>?_)
      ·walk_at "w";refine⟨by show 2<=sizeLine;decide,?_⟩;intro p1 n1;generalize U':upd _ p1 _=H1;obtain ⟨S1,e1⟩:=zai n1 U';clear U';refine⟨_,.inr (SqT.of e1),rfl,rfl,?_⟩;walk_at "w";refine ifB.mk (fun h3=>?_) (fun h3=>?_)
       ·have h3:(decide (y=-1) || decide (y=1))=true:=by rw [← h3];exact zjA
        walk_at "w";refine ifB.dec (fun h4=>?_) (fun h4=>?_)
        ·exact fin _ _ S1 (by rw [hd,h3];simp [h1,h2,h4])
        ·exact fin _ _ S1 (by rw [hd,h3];simp [h1,h2,h4])
       ·have h3:(decide (y=-1) || decide (y=1))=false:=by rw [← h3];exact zjA
        exact fin _ _ S1 (by rw [hd,h3];simp)
      ·exact fin _ _ Sub.refl (by rw [hd];simp [h2])
     ·walk_at "w";refine ifB.no rfl ?_;exact fin false _ Sub.refl (by rw [hd];simp [h1])
  ·exact h.elim
theorem zeQ:zar ["row","rows","signs"] ["row","rows","signs"] (zaf zb2):=by walk_at "s"
def zdn:Sp:=fun vs H Q _=>match vs with
 | [.ref b,.int rows,.int signs]=>∃ es:List En,Row H b es/\es.length<=100/\∀ H',Sub H H'->Q (.bl (zdv rows signs es)) H'
 | _=>False
theorem zjo (f:α->Bool) (l:List α):(l.map f).all id=l.all f:=by rw [List.all_map];rfl
theorem zhJ (T:Tx K mg a):zbu P w K mg base CX0 2 a.is_row a.is_row_d ["row","rows","signs"] (zdn):=by
 have G_is_entry:=zfk (P:=P) (w:=w) (base:=base) T;refine T.f_is_row.ok zeQ (fun vs H Q E h=>?_) (fun cdv A outer s H vs Q E hr h=>?_)
 ·unfold zdn at h;split at h
  ·rfl
  ·exact h.elim
 ·unfold zdn at h;split at h
  ·have nd:=zeQ.nd;have hu:=za5 hr;rename_i b rows signs;obtain⟨es,⟨as,hb,ha⟩,hlen,h⟩:=h;refine⟨_,(zag (zat (zd7 (zbU zgQ (zaq (zbM (K:=K) rfl) rfl T.z_len zby (zaa (qv 0) zac)) (qv 2) (by first | exact zbb _ | rfl)) (zf2 (zaq (zjH (K:=K) rfl rfl) rfl T.z_all zjq (zaa (zhP (own:=["entry"]) (fr:=[1,2]) rfl (by walk_at "comp_ok") (za8 (K:=K) rfl (qv 0)) (fun _ _ _ _=>(zak (i:=0) (show List.Nodup (α:=Str) ["entry","rows","signs"] from by decide +kernel) rfl (by walk_at "o"))) (fun _ _ _ _=>zbw) (fun _ _ _ _=>(zah G_is_entry (hr.mono (by decide)) rfl T.g_is_entry T.f_is_entry.kp T.b_is_entry .nil zan (zaa (qv 0) (zaa (qv 1) (zaa (qv 2) zac)))))) zac)))))),?_⟩;refine⟨_,.inl (SqL.of hb),?_⟩;walk_at "w";have el:((as.map V.ref).length:Int)=es.length:=by rw [znA,ha.1]
   rw [el];refine ifB.dec (fun h1=>?_) (fun h1=>?_)
   ·walk_at "w";refine⟨⟨_,SqL.of hb⟩,?_⟩;intro p1 n1;refine za4 (K:=K) (a:=b) (xs:=as.map V.ref) (fun i σ H4=>∃ v:Option V,σ=[v,some (.int rows),some (.int signs)]/\Sub H H4/\H4 p1=some (.lst (((es.take i).map (zax rows signs)).map V.bl))) ?_ ?_ ?_ ?_
    ·exact⟨none,rfl,Sub.new n1,by rw [zae];rfl⟩
    ·rintro i σ H4 _ ⟨v,rfl,S4,_⟩;exact SqL.of (S4 _ _ hb)
    ·rintro i x σ H4 hi ⟨v,rfl,S4,g4⟩;rw [znB] at hi;obtain⟨c,hc,rfl⟩:=znD.1 hi;obtain⟨e,he,hE⟩:=ha.at hc;refine⟨e,S4 _ _ hE,fun H5 S5=>?_⟩;refine⟨_,S5 _ _ g4,?_,_,rfl,(S4.trans S5).upd n1,?_⟩
     ·rw [znA,znA,znY];exact znO (Nat.min_le_right _ _) (znO hlen (by decide))
     ·rw [zae,znW,he,znI,znI];rfl
    ·rintro σ H4 ⟨v,rfl,S4,g4⟩;rw [znA,ha.1,znV] at g4;refine⟨_,SqL.of g4,?_⟩;rw [zjo];have h:=h H4 S4;unfold zdv at h;rw [znG h1,Bool.true_and] at h;exact h
   ·have h:=h H Sub.refl;unfold zdv at h;rw [znH h1,Bool.false_and] at h;exact h
  ·exact h.elim
theorem zcn:zar ["machine","rows","signs"] ["machine"] (zaf za2):=by walk_at "s"
def Bd (k:Nat) (m:Ma):Prop:=m.length<=k/\∀ r∈m,r.length<=k
def zbH:Sp:=fun vs H Q _=>match vs with
 | [.ref b]=>∃ m:Ma,zc2 H b m/\Bd 100 m/\∀ H',Sub H H'->Q (.bl (isM m)) H'
 | _=>False
theorem ziJ {m:Ma} (h:¬ m.length<=4):isM m=false:=by
 unfold isM;cases m with
 | nil=>rfl
 | cons r m=>simp only;rw [znH h];rfl
theorem zd5 (T:Tx K mg a):zbu P w K mg base CX0 3 a.is_machine a.is_machine_d ["machine"] (zbH):=by
 have G_is_row:=zhJ (P:=P) (w:=w) (base:=base) T;refine T.f_is_machine.ok zcn (fun vs H Q E h=>?_) (fun cdv A outer s H vs Q E hr h=>?_)
 ·unfold zbH at h;split at h
  ·rfl
  ·exact h.elim
 ·unfold zbH at h;split at h
  ·have nd:=zcn.nd;have hu:=za5 hr;rename_i b;obtain⟨m,⟨rs,hb,hnd,hrw⟩,⟨hl1,hl2⟩,h⟩:=h;refine⟨_,(zab (zao (i:=1) nd rfl (by walk_at "o") (zaq (zbM (K:=K) rfl) rfl T.z_len zby (zaa (qv 0) zac)))
  (zab (zcP (zdF (zkI zi7 zi7 zad (qv 1) (zky rfl T.c_MOST_ROWS))) (zag (zat zcu)) zaz)
  (zab (zao (i:=2) nd rfl (by walk_at "o") (zaq (zbM (K:=K) rfl) rfl T.z_len zby (zaa (zaQ (zaN (K:=K) rfl) (qv 0) zad (fun _ _=>rfl)) zac)))
  (zab (zcP (zdF (zkI zi7 zi7 (zky rfl T.c_LEAST_SIGNS) (qv 2) (zky rfl T.c_MOST_SIGNS))) (zag (zat zcu)) zaz)
  (zag (zat (zaq (zjH (K:=K) rfl rfl) rfl T.z_all zjq (zaa (zhP (own:=["row"]) (fr:=[1,2]) rfl (by walk_at "comp_ok") (za8 (K:=K) rfl (qv 0)) (fun _ _ _ _=>(zak (i:=0) (show List.Nodup (α:=Str) ["row","rows","signs"] from by decide +kernel) rfl (by walk_at "o"))) (fun _ _ _ _=>zbw) (fun _ _ _ _=>(zah G_is_row (hr.mono (by decide)) rfl T.g_is_row T.f_is_row.kp T.b_is_row .nil zan (zaa (qv 0) (zaa (qv 1) (zaa (qv 2) zac)))))) zac)))))))),?_⟩
   refine⟨_,.inl (SqL.of hb),?_⟩;walk_at "w";have el:((rs.map V.ref).length:Int)=m.length:=by rw [znA,hrw.1]
   rw [el];have fin:∀ (c:Bool) (H':Hp),Sub H H'->isM m=c->Q (.bl c) H':=fun c H' S e=>e ▸ h H' S
   refine ifB.dec (fun h1=>?_) (fun h1=>?_)
   ·walk_at "w";refine ifB.ndec (fun h2=>?_) (fun h2=>?_)
    ·obtain⟨r0,m',rfl⟩:∃ r0 m',m=r0::m':=by
      cases m with
      | nil=>simp at h1
      | cons r m=>exact⟨r,m,rfl⟩
     obtain⟨q0,rs',rfl⟩:∃ q0 rs',rs=q0::rs':=by
      cases rs with
      | nil=>have:=hrw.1;simp at this
      | cons r rs=>exact⟨r,rs,rfl⟩
     obtain⟨as0,hq0,ha0⟩:=hrw.2 0 q0 r0 rfl rfl;refine⟨_,_,SqL.of hb,zcq (j:=0) rfl,?_⟩;refine⟨_,.inl (SqL.of hq0),?_⟩;walk_at "w";have el0:((as0.map V.ref).length:Int)=r0.length:=by rw [znA,ha0.1]
     rw [el0];have hd:isM (r0::m')=(decide ((r0::m').length<=4) && decide (2<=r0.length) && decide (r0.length<=4) && (r0::m').all (zdv (r0::m').length r0.length)):=rfl;refine ifB.dec (fun h3=>?_) (fun h3=>?_)
     ·walk_at "w";refine ifB.ndec (fun h4=>?_) (fun h4=>?_)
      ·walk_at "w";refine⟨⟨_,SqL.of hb⟩,?_⟩;intro p1 n1;refine za4 (K:=K) (a:=b) (xs:=(q0::rs').map V.ref) (fun i σ H4=>∃ v:Option V,σ=[v,some (.int (r0::m').length),some (.int r0.length)]/\Sub H H4/\H4 p1=some (.lst ((((r0::m').take i).map (zdv (r0::m').length r0.length)).map V.bl))) ?_ ?_ ?_ ?_
       ·exact⟨none,rfl,Sub.new n1,by rw [zae];rfl⟩
       ·rintro i σ H4 _ ⟨v,rfl,S4,_⟩;exact SqL.of (S4 _ _ hb)
       ·rintro i x σ H4 hi ⟨v,rfl,S4,g4⟩;rw [znB] at hi;obtain⟨c,hc,rfl⟩:=znD.1 hi;obtain⟨e,he,hE⟩:=hrw.at hc;refine⟨e,hE.stay (.sub S4),hl2 e (znF he),fun H5 S5=>?_⟩;refine⟨_,S5 _ _ g4,?_,_,rfl,(S4.trans S5).upd n1,?_⟩
        ·rw [znA,znA,znY];exact znO (Nat.min_le_right _ _) (znO hl1 (by decide))
        ·rw [zae,znW,he,znI,znI];rfl
       ·rintro σ H4 ⟨v,rfl,S4,g4⟩;rw [znA,hrw.1,znV] at g4;refine⟨_,SqL.of g4,?_⟩;rw [zjo];refine fin _ _ S4 ?_;rw [hd,znG (show (r0::m').length<=4 by omega),znG (show 2<=r0.length by omega),znG (show r0.length<=4 by omega)]
        rfl
      ·exact fin false _ Sub.refl (by rw [hd,znH (show ¬ r0.length<=4 by omega)];simp)
     ·walk_at "w";refine ifB.yes rfl ?_;exact fin false _ Sub.refl (by rw [hd,znH (show ¬ 2<=r0.length by omega)];simp)
    ·exact fin false _ Sub.refl (ziJ (by omega))
   ·walk_at "w";refine ifB.yes rfl ?_;exact fin false _ Sub.refl (by cases m with
     | nil=>rfl
     | cons r m=>simp at h1;omega)
  ·exact h.elim
theorem zbV:zar ["machine"] ["machine"] (zaf zaO):=by walk_at "s"
def zbt (a:Ad):Sp:=fun vs H Q E=>match vs with
 | [.ref b]=>∃ m:Ma,zc2 H b m/\Bd 100 m/\(isM m=true->∀ H',Sub H H'->Q .non H')/\(isM m=false->∀ H',Sub H H'->E (.ref a.NoMachine) none H')
 | _=>False
theorem zdj (T:Tx K mg a):zbu P w K mg base (CXE P w) 4 a.must_machine a.must_machine_d ["machine"] (zbt a):=by
 have G_is_machine:=zd5 (P:=P) (w:=w) (base:=base) T;refine T.f_must_machine.okE zbV (fun vs H Q E h=>?_) (fun cdv A outer s H vs Q E hr h=>?_)
 ·unfold zbt at h;split at h
  ·rfl
  ·exact h.elim
 ·unfold zbt at h;split at h
  ·have nd:=zbV.nd;have hu:=za5 hr;rename_i b;obtain⟨m,hm,hb,h1,h2⟩:=h;refine⟨_,(zag (zcP (zdF (zl8 (zah G_is_machine (hr.mono (by decide)) rfl T.g_is_machine T.f_is_machine.kp T.b_is_machine .nil zan (zaa (qv 0) zac)))) (zag (zi6 rfl T.e_NoMachine rfl T.g_NoMachine zji (zaa zf3 zac))) zaz)),?_⟩;refine⟨m,hm,hb,fun H1 S1=>?_⟩;walk_at "w";refine ifB.mk (fun e=>?_) (fun e=>?_)
   ·have e:isM m=false:=by simpa using e
    walk_at "w";exact⟨by show 1<=sizeLine;decide,h2 e H1 S1⟩
   ·have e:isM m=true:=by simpa using e
    exact h1 e H1 S1
  ·exact h.elim
theorem zbN:zar ["self","table","begin","row","place","strip"] ["self","table","begin"] (zaf zaJ):=by walk_at "s"
def zfz (a:Ad):Sp:=fun vs H Q _=>match vs with
 | [.ref o,.ref t,.ref b]=>∃ (dx:Addr) (r p:Int) (ks:Mk2),H o=some (.ins a.Walk dx [])/\SU H b r p ks/\(ks.map (·.1)).Nodup/\ks.length<=10000/\∀ (d:Addr) (H':Hp),H d=none->WK a.Walk H' o t d r p ks->(∀ c u,H c=some u->c≠o->H' c=some u)->Q .non H'
 | _=>False
theorem zcO (T:Tx K mg a):zbu P w K mg base CX0 1 a.Walk___init__ a.Walk___init___d ["self","table","begin"] (zfz a):=by
 refine T.f_Walk___init__.ok zbN (fun vs H Q E h=>?_) (fun cdv A outer s H vs Q E hr h=>?_)
 ·unfold zfz at h;split at h
  ·rfl
  ·exact h.elim
 ·unfold zfz at h;split at h
  ·have nd:=zbN.nd;have hu:=za5 hr;rename_i o t b;obtain⟨dx,r,p,ks,ho,⟨l,hb,as,hl,hA⟩,hnd,hlen,h⟩:=h;refine⟨_,(zab (zbL (qv 2) (za6 (K:=K) (n:=3) rfl rfl (zal (zak (i:=3) nd rfl (by walk_at "o")) (zal (zak (i:=4) nd rfl (by walk_at "o")) (zal (zak (i:=5) nd rfl (by walk_at "o")) za7)))))
  (zab (zeO (qv 0) (qv 1) rfl)
  (zab (zeO (qv 0) (qv 3) rfl)
  (zab (zeO (qv 0) (qv 4) rfl)
  (zag (zeO (qv 0) (znd (own:=["where","sign"]) (fr:=[]) rfl (by walk_at "comp_ok") (za8 (K:=K) rfl (qv 5)) (fun _ _ _ _=>(za6 (K:=K) (n:=2) rfl rfl (zal (zak (i:=0) (show List.Nodup (α:=Str) ["where","sign"] from by decide +kernel) rfl (by walk_at "o")) (zal (zak (i:=1) (show List.Nodup (α:=Str) ["where","sign"] from by decide +kernel) rfl (by walk_at "o")) za7)))) (fun _ _ _ _=>zbw) (fun _ _ _ _=>(qv 0)) (fun _ _ _ _=>(qv 1))) rfl)))))),?_⟩
   refine⟨_,SqT.of hb,rfl,?_⟩;refine⟨_,_,_,_,rfl,ho,T.k_Walk,T.n_Walk_table,by show 0<1000;decide,?_⟩;generalize U':upd _ o _=H1;have f1:∀ c u,H c=some u->c≠o->H1 c=some u:=fun c u e ne=>by rw [← U',zam ne];exact e
   have ho1:H1 o=some (.ins a.Walk dx (zb9 "table" (.ref t) [])):=by rw [← U'];exact zae
   clear U';refine⟨_,_,_,_,rfl,ho1,T.k_Walk,T.n_Walk_row,by show 1<1000;decide,?_⟩;generalize U':upd _ o _=H2;have f2:∀ c u,H c=some u->c≠o->H2 c=some u:=fun c u e ne=>by rw [← U',zam ne];exact f1 c u e ne
   have ho2:H2 o=some (.ins a.Walk dx (zb9 "row" (.int r) (zb9 "table" (.ref t) []))):=by rw [← U'];exact zae
   clear U';refine⟨_,_,_,_,rfl,ho2,T.k_Walk,T.n_Walk_place,by show 2<1000;decide,?_⟩;generalize U':upd _ o _=H3;have f3:∀ c u,H c=some u->c≠o->H3 c=some u:=fun c u e ne=>by rw [← U',zam ne];exact f2 c u e ne
   have ho3:H3 o=some (.ins a.Walk dx (zb9 "place" (.int p) (zb9 "row" (.int r) (zb9 "table" (.ref t) [])))):=by rw [← U'];exact zae
   clear U';walk_at "w";have nl:l≠o:=fun z=>by rw [z,ho] at hl;cases hl
   refine⟨⟨_,SqL.of (f3 _ _ hl nl)⟩,?_⟩;intro d nd;have nH:H d=none:=by
    cases e:H d with
    | none=>rfl
    | some u =>
     by_cases z:d=o
     ·rw [z,ho3] at nd;cases nd
     ·rw [f3 _ _ e z] at nd;cases nd
   refine za4 (K:=K) (a:=l) (xs:=as.map V.ref) (fun i σ H4=>∃ v w:Option V,σ=[v,w]/\Sub H3 H4/\H4 d=some (.dK (dcI (iv (ks.take i))))) ?_ ?_ ?_ ?_
   ·exact⟨none,none,rfl,Sub.new nd,zae⟩
   ·rintro i σ H4 _ ⟨v,w,rfl,S4,_⟩;exact SqL.of (S4 _ _ (f3 _ _ hl nl))
   ·rintro i x σ H4 hi ⟨v,w,rfl,S4,g4⟩;rw [znB] at hi;obtain⟨c,hc,rfl⟩:=znD.1 hi;obtain⟨q',hq,hE⟩:=hA.at hc;rw [znB] at hq;obtain⟨q,hq1,rfl⟩:=znD.1 hq;have nc:c≠o:=fun z=>by rw [z,ho] at hE;cases hE
    refine⟨_,SqT.of (S4 _ _ (f3 _ _ hE nc)),rfl,?_⟩;refine⟨_,.inl q.1,g4,rfl,?_,_,_,rfl,S4.upd nd,?_⟩
    ·rw [znA,znA,znY];exact znO (Nat.min_le_right _ _) (znO hlen (by decide))
    ·rw [zae,zjR,zjg hnd hq1]
   ·rintro σ H4 ⟨v,w,rfl,S4,g4⟩;rw [znA,hA.1,znA,znV] at g4;refine⟨_,_,_,_,rfl,S4 _ _ ho3,T.k_Walk,T.n_Walk_marks,by show 3<1000;decide,?_⟩;rw [znz];have ndo:d≠o:=fun z=>by rw [z,ho3] at nd;cases nd
    exact h d _ nH ⟨⟨dx,zae⟩,by rw [zam ndo];exact g4⟩ fun c u e ne=>by rw [zam ne];exact S4 _ _ (f3 c u e ne)
  ·exact h.elim
theorem zcJ:zar ["self"] ["self"] (zaf zbd):=by walk_at "s"
def zfB (a:Ad):Sp:=fun vs H Q _=>match vs with
 | [.ref o]=>∃ (t d:Addr) (r p:Int) (ks:Mk2),WK a.Walk H o t d r p ks/\∀ (q:Addr) (H':Hp),Sub H H'->H' q=some (.tup [.int r,.int p,.int ((zbj ks p).getD 0)])->H q=none->Q (.ref q) H'
 | _=>False
theorem zcF (T:Tx K mg a):zbu P w K mg base CX0 1 a.Walk_look a.Walk_look_d ["self"] (zfB a):=by
 refine T.f_Walk_look.ok zcJ (fun vs H Q E h=>?_) (fun cdv A outer s H vs Q E hr h=>?_)
 ·unfold zfB at h;split at h
  ·rfl
  ·exact h.elim
 ·unfold zfB at h;split at h
  ·have nd:=zcJ.nd;have hu:=za5 hr;rename_i o;obtain⟨t,d,r,p,ks,⟨⟨dx,ho⟩,hd⟩,h⟩:=h;refine⟨_,(zag (zat (zay (zaa (zbK (qv 0) rfl) (zaa (zbK (qv 0) rfl) (zaa (zf0 hu (zbK (qv 0) rfl) (zbK (qv 0) rfl) zad ⟨rfl,rfl,rfl,rfl⟩) zac)))))),?_⟩;refine⟨_,_,_,_,_,rfl,ho,T.k_Walk,T.n_Walk_row,zmC _ _ _ _,?_⟩;refine⟨_,_,_,_,_,rfl,ho,T.k_Walk,T.n_Walk_place,zgP _ _ _ _,?_⟩;refine⟨_,_,_,_,_,rfl,ho,T.k_Walk,T.n_Walk_marks,zjj _ _ _ _,?_⟩;refine⟨_,rfl,.inl ⟨_,.inl hd⟩,?_⟩;refine⟨_,_,_,_,_,rfl,ho,T.k_Walk,T.n_Walk_place,zgP _ _ _ _,?_⟩;refine⟨_,zk5.k (k:=.inl p) hd,?_⟩;rw [ziq,show ((zbj ks p).map V.int).getD (V.int 0)=V.int ((zbj ks p).getD 0) by cases zbj ks p <;> rfl];refine⟨by show 3<=sizeLine;decide,?_⟩;intro p1 n1;generalize U':upd _ p1 _=H1;obtain ⟨S1,e1⟩:=zai n1 U';clear U';exact h p1 H1 S1 e1 n1
  ·exact h.elim
theorem zcl:zar ["self","row","place","sign"] ["self"] (zaf za0):=by walk_at "s"
def zeh (a:Ad):Sp:=fun vs H Q _=>match vs with
 | [.ref o]=>∃ (t d:Addr) (r p:Int) (ks:Mk2) (m:Ma),WK a.Walk H o t d r p ks/\zc2 H t m/\OkM m/\OkS m r ks/\∀ (b:Addr) (e:En) (H':Hp),Sub H H'->ent m r p ks=some e->zax m.length (sgn m) e=true->Ent H' b e->Q (.ref b) H'
 | _=>False
theorem zbG (T:Tx K mg a):zbu P w K mg base CX0 2 a.Walk_entry a.Walk_entry_d ["self"] (zeh a):=by
 have G_Walk_look:=zcF (P:=P) (w:=w) (base:=base) T;refine T.f_Walk_entry.ok zcl (fun vs H Q E h=>?_) (fun cdv A outer s H vs Q E hr h=>?_)
 ·unfold zeh at h;split at h
  ·rfl
  ·exact h.elim
 ·unfold zeh at h;split at h
  ·have nd:=zcl.nd;have hu:=za5 hr;rename_i o;obtain⟨t,d,r,p,ks,m,W,hm,M,S,h⟩:=h;refine⟨_,(zab (zbL (zaX (qv 0) T.k_Walk T.m_Walk_look G_Walk_look (hr.mono (by decide)) T.b_Walk_look .nil zan) (za6 (K:=K) (n:=3) rfl rfl (zal (zak (i:=1) nd rfl (by walk_at "o")) (zal (zak (i:=2) nd rfl (by walk_at "o")) (zal (zak (i:=3) nd rfl (by walk_at "o")) za7)))))
  (zag (zat (zaQ (zaN (K:=K) rfl) (zaQ (zaN (K:=K) rfl) (zbK (qv 0) rfl) (qv 1) (fun _ _=>rfl)) (qv 3) (fun _ _=>rfl))))),?_⟩
   obtain⟨⟨dx,ho⟩,hd⟩:=id W;refine⟨_,_,_,rfl,ho,rfl,?_⟩;refine⟨t,d,r,p,ks,W,fun q H1 S1 hq nq=>?_⟩;have hm1:=hm.stay (.sub S1);obtain⟨rs,hm1,hnd,hrw⟩:=hm1;obtain⟨es,e,h1,h2,h3,h4,h5⟩:=S.at M p;have hv:=S.val M p;refine⟨_,SqT.of hq,rfl,?_⟩;refine⟨_,_,_,_,_,rfl,S1 _ _ ho,T.k_Walk,T.n_Walk_table,zny _ _ _ _,?_⟩;walk_at "w";have hlt:r.toNat<rs.length:=by rw [hrw.1];have:=S.r0;have:=S.r1;omega
   have hrd:rs[r.toNat]?=some rs[r.toNat]:=znC hlt;obtain⟨es',he',as,hra⟩:=hrw.at hrd;rw [h1] at he';cases he';refine⟨_,_,SqL.of hm1,zbh (v:=V.ref rs[r.toNat]) S.r0 (by rw [znB,hrd];rfl),?_⟩;walk_at "w";have hlt2:((zbj ks p).getD 0).toNat<as.length:=by rw [hra.2.1,h5];omega
   have had:as[((zbj ks p).getD 0).toNat]?=some as[((zbj ks p).getD 0).toNat]:=znC hlt2;obtain⟨e',hee,heb⟩:=hra.2.at had;rw [h2] at hee;cases hee;refine⟨_,_,SqL.of hra.1,zbh (v:=V.ref as[((zbj ks p).getD 0).toNat]) hv.1 (by rw [znB,had];rfl),?_⟩;exact h _ e H1 S1 h3 h4 heb
  ·exact h.elim
theorem zcK:zar ["self","sign"] ["self","sign"] (zaf zbe):=by walk_at "s"
def zfC (a:Ad):Sp:=fun vs H Q _=>match vs with
 | [.ref o,.int s]=>∃ (t d:Addr) (r p:Int) (ks:Mk2),WK a.Walk H o t d r p ks/\ks.length<=10000/\∀ H':Hp,H' d=some (.dK (dcI (iv (nxt ks p s))))->(∀ c u,H c=some u->c≠d->H' c=some u)->Q .non H'
 | _=>False
theorem zeF (T:Tx K mg a):zbu P w K mg base CX0 1 a.Walk_mark a.Walk_mark_d ["self","sign"] (zfC a):=by
 refine T.f_Walk_mark.ok zcK (fun vs H Q E h=>?_) (fun cdv A outer s H vs Q E hr h=>?_)
 ·unfold zfC at h;split at h
  ·rfl
  ·exact h.elim
 ·unfold zfC at h;split at h
  ·have nd:=zcK.nd;have hu:=za5 hr;rename_i o s';obtain⟨t,d,r,p,ks,⟨⟨dx,ho⟩,hd⟩,hlen,h⟩:=h;refine⟨_,(zag (zcP (zcv zgQ (qv 1) zad) (zag (zbr (zi0 (zbK (qv 0) rfl) (zbK (qv 0) rfl) zad ⟨rfl,rfl,rfl,rfl⟩))) (zag (zhW hu (zbK (qv 0) rfl) (zbK (qv 0) rfl) (qv 1) rfl)))),?_⟩;walk_at "w";refine ifB.mk (fun hs=>?_) (fun hs=>?_)
   ·walk_at "w";refine⟨_,_,_,_,_,rfl,ho,T.k_Walk,T.n_Walk_marks,zjj _ _ _ _,?_⟩;refine⟨_,rfl,.inl ⟨_,.inl hd⟩,?_⟩;refine⟨_,_,_,_,_,rfl,ho,T.k_Walk,T.n_Walk_place,zgP _ _ _ _,?_⟩;have hs:s'=0:=zoj hs;refine⟨_,.inl p,hd,rfl,fun v _=>?_,fun hn=>?_⟩
    ·rw [zla];exact h _ (by rw [zae];unfold nxt;rw [zod hs]) fun c u e ne=>by rw [zam ne];exact e
    ·rw [ziq] at hn;have hn:zbj ks p=none:=by
      cases e:zbj ks p with
      | none=>rfl
      | some z=>rw [e] at hn;cases hn
     exact h H (by unfold nxt;rw [zod hs,zhc hn];exact hd) fun c u e ne=>e
   ·walk_at "w";refine⟨_,_,_,_,_,rfl,ho,T.k_Walk,T.n_Walk_marks,zjj _ _ _ _,?_⟩;refine⟨_,_,_,_,_,rfl,ho,T.k_Walk,T.n_Walk_place,zgP _ _ _ _,?_⟩;have hs:¬ s'=0:=of_decide_eq_false hs;refine⟨_,_,rfl,zk6.k (k:=.inl p) hd ?_,?_⟩
    ·rw [znA,znA];exact znO hlen (by decide)
    ·rw [zjR];exact h _ (by rw [zae];unfold nxt;rw [zoc hs]) fun c u e ne=>by rw [zam ne];exact e
  ·exact h.elim
theorem zcL:zar ["self","entry","sign","way","row"] ["self"] (zaf zbf):=by walk_at "s"
def zfD (a:Ad):Sp:=fun vs H Q _=>match vs with
 | [.ref o]=>∃ (t d:Addr) (r p:Int) (ks:Mk2) (m:Ma),WK a.Walk H o t d r p ks/\zc2 H t m/\OkM m/\OkS m r ks/\ks.length<=10000 /\
   (ent m r p ks=some []->∀ H',Sub H H'->Q (.bl false) H') /\
   ∀ (s w r':Int) (H':Hp),ent m r p ks=some [s,w,r']->zax m.length (sgn m) [s,w,r']=true->WK a.Walk H' o t d r' (p+w) (nxt ks p s)->(∀ c u,H c=some u->c≠o->c≠d->H' c=some u)->Q (.bl true) H'
 | _=>False
theorem zbR (T:Tx K mg a):zbu P w K mg base CX0 3 a.Walk_step a.Walk_step_d ["self"] (zfD a):=by
 have G_Walk_entry:=zbG (P:=P) (w:=w) (base:=base) T;have G_Walk_mark:=zeF (P:=P) (w:=w) (base:=base) T;refine T.f_Walk_step.ok zcL (fun vs H Q E h=>?_) (fun cdv A outer s H vs Q E hr h=>?_)
 ·unfold zfD at h;split at h
  ·rfl
  ·exact h.elim
 ·unfold zfD at h;split at h
  ·have nd:=zcL.nd;have hu:=za5 hr;rename_i o;obtain⟨t,d,r,p,ks,m,W,hm,M,S,hlen,h0,h1⟩:=h;refine⟨_,(zab (zao (i:=1) nd rfl (by walk_at "o") (zaX (qv 0) T.k_Walk T.m_Walk_entry G_Walk_entry (hr.mono (by decide)) T.b_Walk_entry .nil zan))
  (zab (zcP (zcv (zeH hr) (qv 1) (zay zac)) (zag (zat zcu)) zaz)
  (zab (zbL (qv 1) (za6 (K:=K) (n:=3) rfl rfl (zal (zak (i:=2) nd rfl (by walk_at "o")) (zal (zak (i:=3) nd rfl (by walk_at "o")) (zal (zak (i:=4) nd rfl (by walk_at "o")) za7)))))
  (zab (zbr (zkB (qv 0) T.k_Walk T.m_Walk_mark G_Walk_mark (hr.mono (by decide)) T.b_Walk_mark .nil zan (zaa (qv 2) zac)))
  (zab (zhX (qv 0) (qv 3) zlF)
  (zab (zeO (qv 0) (qv 4) rfl)
  (zag (zat zcu)))))))),?_⟩
   obtain⟨⟨dx,ho⟩,hd⟩:=id W;refine⟨_,_,_,rfl,ho,rfl,?_⟩;refine⟨t,d,r,p,ks,m,W,hm,M,S,fun b e H0 S0 he hok hE=>?_⟩;refine⟨by show 0<=sizeLine;decide,?_⟩;intro p1 n1;generalize U':upd _ p1 _=H1;obtain ⟨S1,e1⟩:=zai n1 U';clear U';have W1:=(W.sub S0).sub S1;obtain⟨⟨dx1,ho1⟩,hd1⟩:=id W1;refine⟨_,_,(Ent.den (e:=e) (S1 _ _ hE)),(Ent.den (e:=[]) e1),zc5 _,?_⟩;rw [zhe];walk_at "w";refine ifB.dec (fun z=>?_) (fun z=>?_)
   ·subst z;exact h0 he H1 (S0.trans S1)
   ·obtain⟨s',w',r',rfl,a0,a1,a2,a3,a4⟩:=zaC hok z;refine⟨_,SqT.of (S1 _ _ hE),rfl,?_⟩;refine⟨_,_,_,rfl,ho1,rfl,?_⟩;refine⟨t,d,r,p,ks,W1,hlen,fun H2 g2 k2=>?_⟩;have nod:o≠d:=fun q=>by rw [q,hd1] at ho1;cases ho1
    have ho2:=k2 _ _ ho1 nod;refine⟨_,_,_,_,_,rfl,ho2,T.k_Walk,T.n_Walk_place,zgP _ _ _ _,?_⟩;refine⟨_,_,rfl,rfl,?_⟩;refine⟨_,_,ho2,zjQ _ _ _ _,?_⟩;rw [zjk];refine⟨_,_,_,_,rfl,zae,T.k_Walk,T.n_Walk_row,zjQ _ _ _ _,?_⟩;rw [zmD];walk_at "w";refine h1 s' w' r' _ he hok ⟨⟨_,zae⟩,by rw [zam nod.symm,zam nod.symm];exact g2⟩ fun c u e hc1 hc2=>by rw [zam hc1,zam hc1];exact k2 _ _ ((S0.trans S1) _ _ e) hc2
  ·exact h.elim
theorem zcm:zar ["self"] ["self"] (zaf za1):=by walk_at "s"
def zem (a:Ad):Sp:=fun vs H Q _=>match vs with
 | [.ref o]=>∃ (t d:Addr) (r p:Int) (ks:Mk2),WK a.Walk H o t d r p ks/\ks.length<65536/\∀ (q l:Addr) (js:Mk2) (H':Hp),Sub H H'->js.Perm ks->Srt js->H' q=some (.tup [.int r,.int p,.ref l])->zdr H' l js->H l=none->Q (.ref q) H'
 | _=>False
theorem zd3 (T:Tx K mg a):zbu P w K mg base CX0 1 a.Walk_setup a.Walk_setup_d ["self"] (zem a):=by
 refine T.f_Walk_setup.ok zcm (fun vs H Q E h=>?_) (fun cdv A outer s H vs Q E hr h=>?_)
 ·unfold zem at h;split at h
  ·rfl
  ·exact h.elim
 ·unfold zem at h;split at h
  ·have nd:=zcm.nd;have hu:=za5 hr;rename_i o;obtain⟨t,d,r,p,ks,W,h64,h⟩:=h;refine⟨_,(zag (zat (zay (zaa (zbK (qv 0) rfl) (zaa (zbK (qv 0) rfl) (zaa (zaq (zjJ rfl) rfl T.z_sorted zey (zaa (zjF PySem.F.plainAttrs_dict PySem.F.slot_dict_items PySem.F.type_dict_items zh1 (zbK (qv 0) rfl)) zac)) zac)))))),?_⟩;obtain⟨⟨dx,ho⟩,hd⟩:=id W;refine⟨_,_,_,_,_,rfl,ho,T.k_Walk,T.n_Walk_row,zmC _ _ _ _,?_⟩;refine⟨_,_,_,_,_,rfl,ho,T.k_Walk,T.n_Walk_place,zgP _ _ _ _,?_⟩;refine⟨_,_,_,_,_,rfl,ho,T.k_Walk,T.n_Walk_marks,zjj _ _ _ _,?_⟩;refine⟨.inr (.inr (.inl ⟨rfl,.inl ⟨_,hd⟩⟩)),?_⟩;refine⟨⟨_,hd⟩,?_⟩;intro p1 n1;generalize U':upd _ p1 _=H1;obtain ⟨S1,e1⟩:=zai n1 U';clear U';refine⟨d,iv ks,e1,S1 _ _ hd,by rw [znA];exact h64,fun ps bs l H2 S2 hp hs hA hl nl _=>?_⟩;obtain⟨js,rfl,pj,sj⟩:=zht hp hs;refine⟨by show 3<=sizeLine;decide,?_⟩;intro p3 n3;generalize U':upd _ p3 _=H3;obtain ⟨S3,e3⟩:=zai n3 U';clear U';exact h p3 l js H3 ((S1.trans S2).trans S3) pj sj e3 ⟨bs,S3 _ _ hl,hA.mono fun _ _ _ z=>S3 _ _ z⟩ (S1.free nl)
  ·exact h.elim
theorem zcb:zar [] [] (zaf zaT):=by walk_at "s"
def zei:Sp:=fun vs H Q _=>match vs with
 | []=>∀ (q:Addr) (H':Hp),Sub H H'->SU H' q 0 0 []->Q (.ref q) H'
 | _=>False
theorem zdt (T:Tx K mg a):zbu P w K mg base CX0 1 a.first_setup a.first_setup_d [] (zei):=by
 refine T.f_first_setup.ok zcb (fun vs H Q E h=>?_) (fun cdv A outer s H vs Q E hr h=>?_)
 ·unfold zei at h;split at h
  ·rfl
  ·exact h.elim
 ·unfold zei at h;split at h
  ·have nd:=zcb.nd;have hu:=za5 hr;refine⟨_,(zag (zat (zay (zaa zad (zaa zad (zaa (zaZ zac) zac)))))),?_⟩;refine⟨by decide,?_⟩;intro p1 n1;generalize U':upd _ p1 _=H1;obtain ⟨S1,e1⟩:=zai n1 U';clear U';refine⟨by show 3<=sizeLine;decide,?_⟩;intro p2 n2;generalize U':upd _ p2 _=H2;obtain ⟨S2,e2⟩:=zai n2 U';clear U';exact h p2 H2 (S1.trans S2) ⟨p1,e2,[],S2 _ _ e1,.nil⟩
  ·exact h.elim
theorem zgd:zar ["machine"] ["machine"] (zaf zcx):=by walk_at "s"
def zeg (a:Ad):Sp:=fun vs H Q _=>match vs with
 | [.ref t]=>∃ m:Ma,zc2 H t m/\isM m=true/\∀ (o d:Addr) (H':Hp),Sub H H'->WK a.Walk H' o t d 0 0 []->H o=none->H d=none->Q (.ref o) H'
 | _=>False
theorem zlj {m:Ma} (h:isM m=true):Bd 100 m:=by
 have M:=OkM.of h;exact⟨znP M.n4 (by decide),fun r hr=>by have:=M.len r hr;have:=M.s4;omega⟩
theorem zd4 (T:Tx K mg a):zbu P w K mg base CX0 5 a.begun a.begun_d ["machine"] (zeg a):=by
 have G_Walk___init__:=zcO (P:=P) (w:=w) (base:=base) T;have G_first_setup:=zdt (P:=P) (w:=w) (base:=base) T;have G_must_machine:=(zdj (P:=P) (w:=w) (base:=base) T).noE;refine T.f_begun.ok zgd (fun vs H Q E h=>?_) (fun cdv A outer s H vs Q E hr h=>?_)
 ·unfold zeg at h;split at h
  ·rfl
  ·exact h.elim
 ·unfold zeg at h;split at h
  ·have nd:=zgd.nd;have hu:=za5 hr;rename_i t;obtain⟨m,hm,hM,h⟩:=h;refine⟨_,(zab (zbr (zah G_must_machine (hr.mono (by decide)) rfl T.g_must_machine T.f_must_machine.kp T.b_must_machine .nil zan (zaa (qv 0) zac)))
  (zag (zat (zkA T.mk_Walk G_Walk___init__ (hr.mono (by decide)) rfl T.g_Walk T.b_Walk___init__ .nil zan (zaa (qv 0) (zaa (ziX G_first_setup (hr.mono (by decide)) rfl T.g_first_setup T.f_first_setup.kp T.b_first_setup .nil zan) zac)))))),?_⟩
   refine⟨m,hm,zlj hM,fun _ H1 S1=>?_,fun z=>by rw [hM] at z;cases z⟩;walk_at "w";intro q H2 S2 hS;walk_at "w";intro o dx n1 n2 ne;have T2:Sub H2 (upd (upd H2 dx (.own o)) o (.ins a.Walk dx [])):=(Sub.new n2).upd n1;refine⟨dx,0,0,[],zae,hS.sub T2,by simp,by simp,fun d H3 nd W3 k3=>⟨rfl,?_⟩⟩;have S23:Sub H2 H3:=fun c u e=>k3 c u (T2 _ _ e) (zaj e n1)
   exact h o d H3 ((S1.trans S2).trans S23) W3 (S1.free (S2.free n1)) (S1.free (S2.free (T2.free nd)))
  ·exact h.elim
theorem zjN:zar ["machine","most","walk","steps","word"] ["machine","most"] (zaf zgK):=by walk_at "s"
def zid:Sp:=fun vs H Q _=>match vs with
 | [.ref t,.int most]=>∃ m:Ma,zc2 H t m/\isM m=true/\0<=most/\most<=1000/\∀ (q l:Addr) (x:St3) (js:Mk2) (H':Hp),Sub H H'->(tr m most.toNat (0,0,[])).getLast?=some x->RU H' q (wd m x) ((tr m most.toNat (0,0,[])).length-1) (l,(x.1,x.2.1,js))->js.Perm x.2.2->Srt js->H l=none->Q (.ref q) H'
 | _=>False
theorem zlR (T:Tx K mg a):zbu P w K mg base CX0 6 a.run a.run_d ["machine","most"] (zid):=by
 have G_begun:=zd4 (P:=P) (w:=w) (base:=base) T;have G_Walk_step:=zbR (P:=P) (w:=w) (base:=base) T;have G_Walk_entry:=zbG (P:=P) (w:=w) (base:=base) T;have G_Walk_setup:=zd3 (P:=P) (w:=w) (base:=base) T;refine T.f_run.ok zjN (fun vs H Q E h=>?_) (fun cdv A outer s H vs Q E hr h=>?_)
 ·unfold zid at h;split at h
  ·rfl
  ·exact h.elim
 ·unfold zid at h;split at h
  ·have nd:=zjN.nd;have hu:=za5 hr;rename_i t most;obtain⟨m,hm,hM,hm0,hm60,h⟩:=h;have M:=OkM.of hM;refine⟨_,(zab (zao (i:=2) nd rfl (by walk_at "o") (zah G_begun (hr.mono (by decide)) rfl T.g_begun T.f_begun.kp T.b_begun .nil zan (zaa (qv 0) zac)))
  (zab (zao (i:=3) nd rfl (by walk_at "o") zad)
  (zab (zf6 PassesOwn.never (PW.pt (zfq (zcv zk8 (qv 3) (qv 1)) (zfu (zl8 (zaX (qv 2) T.k_Walk T.m_Walk_step G_Walk_step (hr.mono (by decide)) T.b_Walk_step .nil zan))))) (zag (zl6 (i:=3) nd rfl (by walk_at "o") zad zlG)))
  (zab (zao (i:=4) nd rfl (by walk_at "o") (zl1 (zcv (zeH hr) (zaX (qv 2) T.k_Walk T.m_Walk_entry G_Walk_entry (hr.mono (by decide)) T.b_Walk_entry .nil zan) (zay zac)) zf3 zf3))
  (zag (zat (zay (zaa (qv 4) (zaa (qv 3) (zaa (zaX (qv 2) T.k_Walk T.m_Walk_setup G_Walk_setup (hr.mono (by decide)) T.b_Walk_setup .nil zan) zac)))))))))),?_⟩
   refine⟨m,hm,hM,fun o d H1 S1 W1 no nd=>?_⟩;refine⟨fun k σ H5=>∃ (sts:List St3) (x:St3) (v4:Option V),k=most.toNat+1-sts.length/\σ=[some (.ref t),some (.int most),some (.ref o),some (.int (sts.length-1)),v4]/\Sub H H5/\WK a.Walk H5 o t d x.1 x.2.1 x.2.2/\At m most.toNat (0,0,[]) sts x/\OkS m x.1 x.2.2/\x.2.2.length<=sts.length,
    ⟨_,[(0,0,[])],(0,0,[]),none,rfl,rfl,S1,W1,At.start,⟨by decide,by have:=M.n1;omega,by simp,by simp⟩,by simp⟩,?_⟩
   rintro k σ H5 ⟨sts,x,v4,rfl,rfl,S5,W5,hAt,hok,hxl⟩;have hl5:=hAt.len;obtain⟨⟨dx5,ho5⟩,hd5⟩:=id W5;walk_at "w";refine ifB.dec (fun z=>?_) (fun z=>?_)
   ·have z:(sts.length:Int)-1<most:=z;refine⟨_,_,_,rfl,ho5,rfl,?_⟩;refine⟨t,d,x.1,x.2.1,x.2.2,m,W5,hm.stay (.sub S5),M,hok,by omega,fun he H6 S6=>?_,fun s' w' r' H6 he hE W6 k6=>?_⟩
    ·have hst:=hAt.done (.inl (zeX he));have S06:=S5.trans S6;have W6:=W5.sub S6;obtain⟨⟨dx6,ho6⟩,hd6⟩:=id W6;refine⟨_,_,_,rfl,ho6,rfl,?_⟩;refine⟨t,d,x.1,x.2.1,x.2.2,m,W6,hm.stay (.sub S06),M,hok,fun b e HQ SQ he hoke hE=>?_⟩;refine⟨by show 0<=sizeLine;decide,?_⟩;intro p7 n7;generalize U':upd _ p7 _=H7;obtain ⟨S7,e7⟩:=zai n7 U';clear U';refine⟨_,_,(Ent.den (e:=e) (S7 _ _ hE)),(Ent.den (e:=[]) e7),zc5 _,?_⟩;rw [zhe];walk_at "w";have W7:=(W6.sub SQ).sub S7;obtain⟨⟨dx7,ho7⟩,hd7⟩:=id W7;have S07:=(S06.trans SQ).trans S7;refine ifB.dec (fun z=>?_) (fun z=>?_)
     ·have hw:wd m x="ends":=by unfold wd;rw [he,z,zod rfl]
      refine⟨_,_,_,rfl,ho7,rfl,?_⟩;refine⟨t,d,x.1,x.2.1,x.2.2,W7,by omega,fun q l js H8 S8 pj sj hq hl nl=>?_⟩;refine⟨by show 3<=sizeLine;decide,?_⟩;intro p9 n9;generalize U':upd _ p9 _=H9;obtain ⟨S9,e9⟩:=zai n9 U';clear U';rw [hst] at hAt e9;exact h p9 l x js H9 ((S07.trans S8).trans S9) hAt.last ⟨q,by rw [hw];exact e9,S9 _ _ hq,hl.sub S9⟩ pj sj (S07.free nl)
     ·have hw:wd m x="on":=by unfold wd;rw [he,zoc (fun q=>z (zol q))]
      refine⟨_,_,_,rfl,ho7,rfl,?_⟩;refine⟨t,d,x.1,x.2.1,x.2.2,W7,by omega,fun q l js H8 S8 pj sj hq hl nl=>?_⟩;refine⟨by show 3<=sizeLine;decide,?_⟩;intro p9 n9;generalize U':upd _ p9 _=H9;obtain ⟨S9,e9⟩:=zai n9 U';clear U';rw [hst] at hAt e9;exact h p9 l x js H9 ((S07.trans S8).trans S9) hAt.last ⟨q,by rw [hw];exact e9,S9 _ _ hq,hl.sub S9⟩ pj sj (S07.free nl)
    ·obtain⟨s2,w2,r2,e2,a0,a1,a2,a3,a4⟩:=zaC hE (by simp);cases e2;have S06:Sub H H6:=fun c u e=>k6 c u (S5 _ _ e) (zaj e no) (zaj e nd)
     have hnl:=zfj x.2.2 x.2.1 s';refine⟨_,fun σ' H' z=>z,?_⟩;refine⟨_,rfl,?_⟩;refine⟨_,_,rfl,rfl,?_⟩;refine⟨_,?_,sts++[(r',x.2.1+w',nxt x.2.2 x.2.1 s')],(r',x.2.1+w',nxt x.2.2 x.2.1 s'),v4,rfl,?_,S06,W6,hAt.step (zie he) (by omega),hok.nxt a0 a1 a3 a4,?_⟩
     ·rw [znK];show most.toNat+1-(sts.length+1)<_;omega
     ·have:((sts++[(r',x.2.1+w',nxt x.2.2 x.2.1 s')]).length:Int)-1=(sts.length:Int)-1+1:=by rw [znK];show ((sts.length+1:Nat):Int)-1=_;omega
      rw [this]
      rfl
     ·rw [znK];show (nxt x.2.2 x.2.1 s').length<=sts.length+1;omega
   ·have hst:=hAt.done (.inr (by omega));have S06:=S5;have W6:=W5;have ho6:=ho5;refine⟨_,_,_,rfl,ho6,rfl,?_⟩;refine⟨t,d,x.1,x.2.1,x.2.2,m,W6,hm.stay (.sub S06),M,hok,fun b e HQ SQ he hoke hE=>?_⟩;refine⟨by show 0<=sizeLine;decide,?_⟩;intro p7 n7;generalize U':upd _ p7 _=H7;obtain ⟨S7,e7⟩:=zai n7 U';clear U';refine⟨_,_,(Ent.den (e:=e) (S7 _ _ hE)),(Ent.den (e:=[]) e7),zc5 _,?_⟩;rw [zhe];walk_at "w";have W7:=(W6.sub SQ).sub S7;obtain⟨⟨dx7,ho7⟩,hd7⟩:=id W7;have S07:=(S06.trans SQ).trans S7;refine ifB.dec (fun z=>?_) (fun z=>?_)
    ·have hw:wd m x="ends":=by unfold wd;rw [he,z,zod rfl]
     refine⟨_,_,_,rfl,ho7,rfl,?_⟩;refine⟨t,d,x.1,x.2.1,x.2.2,W7,by omega,fun q l js H8 S8 pj sj hq hl nl=>?_⟩;refine⟨by show 3<=sizeLine;decide,?_⟩;intro p9 n9;generalize U':upd _ p9 _=H9;obtain ⟨S9,e9⟩:=zai n9 U';clear U';rw [hst] at hAt e9;exact h p9 l x js H9 ((S07.trans S8).trans S9) hAt.last ⟨q,by rw [hw];exact e9,S9 _ _ hq,hl.sub S9⟩ pj sj (S07.free nl)
    ·have hw:wd m x="on":=by unfold wd;rw [he,zoc (fun q=>z (zol q))]
     refine⟨_,_,_,rfl,ho7,rfl,?_⟩;refine⟨t,d,x.1,x.2.1,x.2.2,W7,by omega,fun q l js H8 S8 pj sj hq hl nl=>?_⟩;refine⟨by show 3<=sizeLine;decide,?_⟩;intro p9 n9;generalize U':upd _ p9 _=H9;obtain ⟨S9,e9⟩:=zai n9 U';clear U';rw [hst] at hAt e9;exact h p9 l x js H9 ((S07.trans S8).trans S9) hAt.last ⟨q,by rw [hw];exact e9,S9 _ _ hq,hl.sub S9⟩ pj sj (S07.free nl)
  ·exact h.elim
theorem zgg:zar ["machine","most","walk","told"] ["machine","most"] (zaf zcA):=by walk_at "s"
def zis (H:Hp) (t:Addr) (x:St3):Prop:=H t=some (.tup [.int x.1,.int x.2.1,.int ((zbj x.2.2 x.2.1).getD 0)])
def zej:Sp:=fun vs H Q _=>match vs with
 | [.ref t,.int most]=>∃ m:Ma,zc2 H t m/\isM m=true/\0<=most/\most<=1000/\∀ (f:Addr) (ts:List Addr) (H':Hp),Sub H H'->H' f=some (.lst (ts.map V.ref))->zaY (zis H') ts (tr m most.toNat (0,0,[]))->H f=none->Q (.ref f) H'
 | _=>False
theorem zcU (T:Tx K mg a):zbu P w K mg base CX0 6 a.looks a.looks_d ["machine","most"] (zej):=by
 have G_begun:=zd4 (P:=P) (w:=w) (base:=base) T;have G_Walk_look:=zcF (P:=P) (w:=w) (base:=base) T;have G_Walk_step:=zbR (P:=P) (w:=w) (base:=base) T;refine T.f_looks.ok zgg (fun vs H Q E h=>?_) (fun cdv A outer s H vs Q E hr h=>?_)
 ·unfold zej at h;split at h
  ·rfl
  ·exact h.elim
 ·unfold zej at h;split at h
  ·have nd:=zgg.nd;have hu:=za5 hr;rename_i t most;obtain⟨m,hm,hM,hm0,hm60,h⟩:=h;have M:=OkM.of hM;refine⟨_,(zab (zao (i:=2) nd rfl (by walk_at "o") (zah G_begun (hr.mono (by decide)) rfl T.g_begun T.f_begun.kp T.b_begun .nil zan (zaa (qv 0) zac)))
  (zab (zao (i:=3) nd rfl (by walk_at "o") (zaZ (zaa (zaX (qv 2) T.k_Walk T.m_Walk_look G_Walk_look (hr.mono (by decide)) T.b_Walk_look .nil zan) zac)))
  (zab (zf6 PassesOwn.never (PW.pt (zfq (zcv zi7 (zaq (zbM (K:=K) rfl) rfl T.z_len zby (zaa (qv 3) zac)) (qv 1)) (zfu (zl8 (zaX (qv 2) T.k_Walk T.m_Walk_step G_Walk_step (hr.mono (by decide)) T.b_Walk_step .nil zan))))) (zag (zbr (zfn PySem.F.plainAttrs_list PySem.F.slot_list_append PySem.F.type_list_append zfr (qv 3) (zaa (zaX (qv 2) T.k_Walk T.m_Walk_look G_Walk_look (hr.mono (by decide)) T.b_Walk_look .nil zan) zac)))))
  (zag (zat (qv 3)))))),?_⟩
   refine⟨m,hm,hM,fun o d H1 S1 W1 no nd=>?_⟩;obtain⟨⟨dx,ho1⟩,hd1⟩:=id W1;refine⟨_,_,_,rfl,ho1,rfl,?_⟩;refine⟨t,d,0,0,[],W1,fun q H2 S2 hq nq=>?_⟩;refine⟨by show 1<=sizeLine;decide,?_⟩;intro p3 n3;generalize U':upd _ p3 _=H3;obtain ⟨S3,e3⟩:=zai n3 U';clear U';have S13:=S2.trans S3;have S03:=S1.trans S13;have nf:H p3=none:=S1.free (S2.free n3);refine⟨fun k σ H5=>∃ (ts:List Addr) (sts:List St3) (x:St3),k=most.toNat+1-sts.length/\σ=[some (.ref t),some (.int most),some (.ref o),some (.ref p3)]/\Sub H H5/\WK a.Walk H5 o t d x.1 x.2.1 x.2.2/\H5 p3=some (.lst (ts.map V.ref))/\zaY (zis H5) ts sts/\At m most.toNat (0,0,[]) sts x/\OkS m x.1 x.2.2/\x.2.2.length<=sts.length,⟨_,[q],[(0,0,[])],(0,0,[]),rfl,rfl,S03,W1.sub S13,e3,zaY.app .nil (S3 _ _ hq),At.start,⟨by decide,by have:=M.n1;omega,by simp,by simp⟩,by simp⟩,?_⟩;rintro k σ H5 ⟨ts,sts,x,rfl,rfl,S5,W5,hf5,hA5,hAt,hok,hxl⟩;have hl5:=hAt.len;have hfl:((ts.map V.ref).length:Int)=sts.length:=by rw [znA,hA5.1]
   obtain⟨⟨dx5,ho5⟩,hd5⟩:=id W5;refine⟨_,.inl (SqL.of hf5),?_⟩;rw [hfl];walk_at "w";refine ifB.dec (fun z=>?_) (fun z=>?_)
   ·have z:(sts.length:Int)<=most:=z;refine⟨_,_,_,rfl,ho5,rfl,?_⟩;refine⟨t,d,x.1,x.2.1,x.2.2,m,W5,hm.stay (.sub S5),M,hok,by omega,fun he H6 S6=>?_,fun s' w' r' H6 he hE W6 k6=>?_⟩
    ·have hst:=hAt.done (.inl (zeX he));rw [hst] at hA5;exact h p3 ts H6 (S5.trans S6) (S6 _ _ hf5) (hA5.mono fun _ _ _ z=>S6 _ _ z) nf
    ·obtain⟨s2,w2,r2,e2,a0,a1,a2,a3,a4⟩:=zaC hE (by simp);cases e2;have S06:Sub H H6:=fun c u e=>k6 c u (S5 _ _ e) (zaj e no) (zaj e nd)
     have st6:=zdO.two W5 k6;have hf6:=st6.refs _ _ hf5;have hA6:zaY (zis H6) ts sts:=hA5.mono fun _ _ _ z=>st6.tup _ _ z
     obtain⟨⟨dx6,ho6⟩,hd6⟩:=id W6;have hnl:=zfj x.2.2 x.2.1 s';refine⟨_,fun σ' H' z=>z,?_⟩;refine⟨.inl ⟨rfl,_,SqL.of hf6⟩,?_⟩;refine⟨_,_,_,rfl,ho6,rfl,?_⟩;refine⟨t,d,r',x.2.1+w',nxt x.2.2 x.2.1 s',W6,fun q7 H7 S7 hq7 nq7=>?_⟩;refine⟨_,S7 _ _ hf6,?_,?_⟩
     ·rw [znA,hA6.1];exact znO (show sts.length<=1100 by omega) (by decide)
     have hf7:=S7 _ _ hf6;have lk:∀ (b:Addr) (y:St3),zis H7 b y->zis (upd H7 p3 (.lst (ts.map V.ref++[V.ref q7]))) b y:=fun b y z=>by
      show upd H7 p3 _ b=_;rw [zam (fun e=>by rw [zis,e,hf7] at z;cases z)];exact z
     have nop:o≠p3:=fun e=>by rw [e,hf6] at ho6;cases ho6
     have ndp:d≠p3:=fun e=>by rw [e,hf6] at hd6;cases hd6
     refine⟨_,?_,ts++[q7],sts++[(r',x.2.1+w',nxt x.2.2 x.2.1 s')],(r',x.2.1+w',nxt x.2.2 x.2.1 s'),rfl,rfl,(S06.trans S7).upd nf,⟨⟨dx6,by rw [zam nop];exact S7 _ _ ho6⟩,by rw [zam ndp];exact S7 _ _ hd6⟩,by rw [zae,znI];rfl,(hA6.mono fun b y _ z=>lk b y (S7 _ _ z)).app (lk _ _ hq7),hAt.step (zie he) (by omega),hok.nxt a0 a1 a3 a4,?_⟩
     ·rw [znK];show most.toNat+1-(sts.length+1)<_;omega
     ·rw [znK];show (nxt x.2.2 x.2.1 s').length<=sts.length+1;omega
   ·have hst:=hAt.done (.inr (by omega));rw [hst] at hA5;exact h p3 ts H5 S5 hf5 hA5 nf
  ·exact h.elim
theorem zdJ:zar ["machine","most","places"] ["machine","most"] (zaf zbF):=by walk_at "s"
def zcD:Sp:=fun vs H Q _=>match vs with
 | [.ref t,.int most]=>∃ m:Ma,zc2 H t m/\isM m=true/\0<=most/\most<=1000/\∀ (q:Addr) (lo hi:Int) (H':Hp),Sub H H'->H' q=some (.tup [.int lo,.int hi])->zjU lo ((tr m most.toNat (0,0,[])).map fun x=>x.2.1)->zjT hi ((tr m most.toNat (0,0,[])).map fun x=>x.2.1)->Q (.ref q) H'
 | _=>False
theorem zgE (T:Tx K mg a):zbu P w K mg base CX0 7 a.touched a.touched_d ["machine","most"] (zcD):=by
 have G_looks:=zcU (P:=P) (w:=w) (base:=base) T;refine T.f_touched.ok zdJ (fun vs H Q E h=>?_) (fun cdv A outer s H vs Q E hr h=>?_)
 ·unfold zcD at h;split at h
  ·rfl
  ·exact h.elim
 ·unfold zcD at h;split at h
  ·have nd:=zdJ.nd;have hu:=za5 hr;rename_i t most;obtain⟨m,hm,hM,hm0,hm60,h⟩:=h;refine⟨_,(zab (zi5 (j:=2) rfl nd rfl (by walk_at "o") (own:=["row","place","sign"]) (fr:=[]) (by walk_at "comp_ok") (za8 (K:=K) rfl (zah G_looks (hr.mono (by decide)) rfl T.g_looks T.f_looks.kp T.b_looks .nil zan (zaa (qv 0) (zaa (qv 1) zac)))) (fun _ _ _ _=>(za6 (K:=K) (n:=3) rfl rfl (zal (zak (i:=0) (show List.Nodup (α:=Str) ["row","place","sign"] from by decide +kernel) rfl (by walk_at "o")) (zal (zak (i:=1) (show List.Nodup (α:=Str) ["row","place","sign"] from by decide +kernel) rfl (by walk_at "o")) (zal (zak (i:=2) (show List.Nodup (α:=Str) ["row","place","sign"] from by decide +kernel) rfl (by walk_at "o")) za7))))) (fun _ _ _ _=>zbw) (fun _ _ _ _=>(qv 1)))
  (zag (zat (zay (zaa (zaq (zfs (K:=K) rfl rfl) rfl T.z_min zfH (zaa (qv 2) zac)) (zaa (zaq (zh2 (K:=K) rfl rfl) rfl T.z_max zgZ (zaa (qv 2) zac)) zac)))))),?_⟩
   refine⟨m,hm,hM,hm0,hm60,fun f ts H1 S1 hf hA nf=>?_⟩;have hXl:=zdN m most.toNat (0,0,[]);have hXn:=zmw m most.toNat (0,0,[]);generalize tr m most.toNat (0,0,[])=X at hXl hXn hA h;refine⟨⟨_,SqL.of hf⟩,?_⟩;intro pc npc;refine za4 (K:=K) (a:=f) (xs:=ts.map V.ref) (fun i σ H5=>∃ v1 v2 v3,σ=[v1,v2,v3]/\Sub H1 H5/\H5 pc=some (.lst (((X.take i).map fun x=>x.2.1).map V.int))) ?_ ?_ ?_ ?_
   ·exact⟨none,none,none,rfl,Sub.new npc,zae⟩
   ·rintro i σ H5 _ ⟨v1,v2,v3,rfl,S5,_⟩;exact SqL.of (S5 _ _ hf)
   ·rintro i w σ H5 hi ⟨v1,v2,v3,rfl,S5,g5⟩;rw [znB] at hi;obtain⟨b,hb,rfl⟩:=znD.1 hi;obtain⟨x,hx,hbx⟩:=hA.at hb;have hil:i<1100:=by have:=(znE.1 hx).1;omega
    refine⟨_,SqT.of (S5 _ _ hbx),rfl,?_⟩;refine⟨_,g5,?_,_,_,_,rfl,S5.upd npc,?_⟩
    ·rw [znA,znA];exact znO (List.length_take_le _ _) (Nat.lt_trans hil (by decide))
    ·rw [zae,znW,hx,znI,znI];rfl
   ·rintro σ H5 ⟨v1,v2,v3,rfl,S5,g5⟩;rw [znA,hA.1,znV] at g5;have hne:X.map (fun x=>x.2.1)≠[]:=fun e=>hXn (List.map_eq_nil_iff.1 e)
    refine⟨_,SqL.of g5,hne,fun lo l1 l2=>?_⟩;refine⟨_,SqL.of g5,hne,fun hi h1 h2=>?_⟩;refine⟨by show 2<=sizeLine;decide,?_⟩;intro p6 n6;generalize U':upd _ p6 _=H6;obtain ⟨S6,e6⟩:=zai n6 U';clear U';exact h p6 lo hi H6 ((S1.trans S5).trans S6) e6 ⟨l1,l2⟩ ⟨h1,h2⟩
  ·exact h.elim
theorem zcc:zar ["machine","most","met","row","place","sign"] ["machine","most"] (zaf zaU):=by walk_at "s"
def zcT (x:St3):Int × Int:=(x.1,(zbj x.2.2 x.2.1).getD 0)
def zaP {α:Type} [DecidableEq α]:List α->List α->List α
 | acc,[]=>acc
 | acc,x::r=>zaP (if x∈acc then acc else acc++[x]) r
def zba (m:Ma) (N:Nat):List (Int × Int):=zaP [] ((tr m N s00).map zcT)
theorem zbB {α:Type} [DecidableEq α] (x:α):∀ (l acc:List α),zaP acc (l++[x])=if x∈zaP acc l then zaP acc l else zaP acc l++[x]
 | [],acc=>rfl
 | y::l,acc=>zbB x l _
def zbT (q:Int × Int):NK:=.tup [.int q.1,.int q.2]
theorem zeK {x y:Int × Int} (h:zbT x=zbT y):x=y:=by
 unfold zbT at h;injection h with h
 injection h with h1 h
 injection h with h2 _
 injection h1 with h1
 injection h2 with h2
 exact Prod.ext h1 h2
theorem zeJ (q:Int × Int):(zbT q).dep<=7:=by unfold zbT;simp [NK.dep,NK.depL]
theorem zeL {q:Int × Int} {l:List (Int × Int)}:zbT q∈l.map zbT↔q∈l :=
 ⟨fun h=>by obtain⟨y,hy,e⟩:=znS.1 h;rw [← zeK e];exact hy,fun h=>znS.2 ⟨q,h,rfl⟩⟩
theorem zc4 {H:Hp} {p:Addr} {q:Int × Int}:zcZ H (zbT q) (.ref p)↔H p=some (.tup [.int q.1,.int q.2]):=by
 unfold zbT;rw [zcZ]
 constructor
 ·rintro ⟨a,xs,e,h1,h2⟩;cases e;rw [zcd] at h2;obtain⟨u,us,rfl,h3,h2⟩:=h2;rw [zcd] at h2;obtain⟨u',us',rfl,h4,h2⟩:=h2;rw [zcd] at h2;rw [zcZ] at h3 h4;subst h2 h3 h4;exact h1
 ·intro h;refine⟨p,_,rfl,h,?_⟩;rw [zcd];refine⟨_,_,rfl,by rw [zcZ],?_⟩;rw [zcd];exact⟨_,_,rfl,by rw [zcZ],by rw [zcd]⟩
theorem zeD (kvs:List (NK × Addr × V)) (k:NK) (b:Addr) (v:V):(zmF kvs k b v).map (·.1)=if k∈kvs.map (·.1) then kvs.map (·.1) else kvs.map (·.1)++[k]:=by
 unfold zmF;split
 ·rw [zn1];refine zon fun x _=>?_
  show (if x.1=k then (x.1,x.2.1,v) else x).1=_;split <;> rfl
 ·rw [znI];rfl
def zic:Sp:=fun vs H Q _=>match vs with
 | [.ref t,.int most]=>∃ m:Ma,zc2 H t m/\isM m=true/\0<=most/\most<=1000/\∀ (f:Addr) (as:List Addr) (H':Hp),Sub H H'->H f=none->H' f=some (.lst (as.map V.ref))->zaY (fun a q=>H' a=some (.tup [.int q.1,.int q.2])) as (zba m most.toNat)->Q (.ref f) H'
 | _=>False
theorem zdu (T:Tx K mg a):zbu P w K mg base CX0 7 a.met_entries a.met_entries_d ["machine","most"] (zic):=by
 have G_looks:=zcU (P:=P) (w:=w) (base:=base) T;refine T.f_met_entries.ok zcc (fun vs H Q E h=>?_) (fun cdv A outer s H vs Q E hr h=>?_)
 ·unfold zic at h;split at h
  ·rfl
  ·exact h.elim
 ·unfold zic at h;split at h
  ·have nd:=zcc.nd;have hu:=za5 hr;rename_i t most;obtain⟨m,hm,hM,hm0,hm1,h⟩:=h;have M:=OkM.of hM;refine⟨_,(zab (zao (i:=2) nd rfl (by walk_at "o") ziZ)
  (zab (zb8 PassesOwn.never rfl (za8 (K:=K) rfl (zah G_looks (hr.mono (by decide)) rfl T.g_looks T.f_looks.kp T.b_looks .nil zan (zaa (qv 0) (zaa (qv 1) zac)))) (za6 (K:=K) (n:=3) rfl rfl (zal (zak (i:=3) nd rfl (by walk_at "o")) (zal (zak (i:=4) nd rfl (by walk_at "o")) (zal (zak (i:=5) nd rfl (by walk_at "o")) za7)))) (zag (zi4 hr (qv 2) (zay (zaa (qv 3) (zaa (qv 5) zac))) zcu rfl)))
  (zag (zat (zck (zkN rfl) rfl T.z_list zgY (zaa (qv 2) zac)))))),?_⟩
   walk_at "w";intro d H1 nd1 hH1 D1;have S1:Sub H H1:=by rw [hH1];exact Sub.new nd1
   clear hH1;refine⟨m,hm.stay (.sub S1),hM,hm0,hm1,fun f ts H2 S2 hf hA nf=>?_⟩;refine⟨⟨_,SqL.of hf⟩,?_⟩;obtain⟨xs1,hd1,_⟩:=D1.ex;have nfd:f≠d:=by rintro rfl;rw [hd1] at nf;cases nf
   have hXl:(tr m most.toNat s00).length<=most.toNat+1:=zdN m most.toNat (0,0,[]);refine zfP (K:=K) (a:=f) (xs:=ts.map V.ref) (fun i σ H5=>∃ (v3 v4 v5:Option V) (kvs:List (NK × Addr × V)),σ=[some (.ref t),some (.int most),some (.ref d),v3,v4,v5]/\(∀ c u,H2 c=some u->c≠d->H5 c=some u)/\DNx H5 d kvs/\kvs.map (·.1)=(zaP [] (((tr m most.toNat s00).take i).map zcT)).map zbT/\kvs.length<=i) ?_ ?_ ?_ ?_
   ·exact⟨none,none,none,[],rfl,fun c u e _=>e,D1.sub S2,rfl,znQ _⟩
   ·rintro i σ H5 _ ⟨v3,v4,v5,kvs,rfl,k5,_⟩;exact SqL.of (k5 _ _ hf nfd)
   ·rintro i x σ H5 hi ⟨v3,v4,v5,kvs,rfl,k5,D5,hks,hkl⟩;rw [znB] at hi;obtain⟨c,hc,rfl⟩:=znD.1 hi;obtain⟨z,hz,hL⟩:=hA.at hc;have hz:(tr m most.toNat s00)[i]?=some z:=hz;have hil:i<(tr m most.toNat s00).length:=(znE.1 hz).1;obtain⟨xs2,hd2,_⟩:=(D1.sub S2).ex;have hc5:H5 c=some (.tup [.int z.1,.int z.2.1,.int ((zbj z.2.2 z.2.1).getD 0)]):=k5 _ _ hL (by rintro rfl;rw [zis,hd2] at hL;cases hL);refine⟨_,SqT.of hc5,rfl,?_⟩;refine⟨by show 2<=sizeLine;decide,?_⟩;intro p6 n6;generalize U':upd _ p6 _=H6;obtain ⟨S6,e6⟩:=zai n6 U';clear U';refine⟨d,p6,zbT (zcT z),kvs,rfl,rfl,zeJ _,zc4.2 e6,D5.sub S6,znO (show kvs.length<=1001 by omega) (by decide),fun H7 k7 _ D7=>?_⟩;refine⟨_,_,_,_,rfl,fun c u e ne=>k7 _ _ (S6 _ _ (k5 c u e ne)) ne,D7,?_,?_⟩
    ·rw [zeD,hks,znW,hz,znI];show _=(zaP [] ((((tr m most.toNat s00).take i).map zcT)++[zcT z])).map zbT;rw [zbB];by_cases hin:zcT z∈zaP [] (((tr m most.toNat s00).take i).map zcT)
     ·rw [zod hin,zod (zeL.2 hin)]
     ·rw [zoc hin,zoc (fun q=>hin (zeL.1 q)),znI];rfl
    ·have:=congrArg List.length (zeD kvs (zbT (zcT z)) p6 (V.bl true))
     rw [znA] at this;rw [this];split
     ·rw [znA];omega
     ·rw [znK,znA];show kvs.length+1<=i+1;omega
   ·rintro σ H5 ⟨v3,v4,v5,kvs,rfl,k5,D5,hks,hkl⟩;have hall:ts.length=(tr m most.toNat s00).length:=hA.1;rw [znA,hall,znV] at hks;refine⟨kvs,D5,?_⟩;intro p6 n6;generalize U':upd _ p6 _=H6;obtain ⟨S6,e6⟩:=zai n6 U';clear U';have S05:Sub H H5:=fun c u e=>k5 _ _ (S2 _ _ (S1 _ _ e)) (by rintro rfl;rw [nd1] at e;cases e)
    refine h p6 (kvs.map (·.2.1)) H6 (S05.trans S6) (S05.free n6) (by rw [e6,zn1];rfl) ⟨?_,fun i b q hb hq=>?_⟩
    ·have:=congrArg List.length hks
     rw [znA,znA] at this;rw [znA];exact this
    ·rw [znB] at hb;obtain⟨kv,hkv,rfl⟩:=znD.1 hb;have e1:(kvs.map (·.1))[i]?=some kv.1:=by rw [znB,hkv];rfl
     rw [hks,znB,show (zaP [] ((tr m most.toNat s00).map zcT))[i]?=some q from hq] at e1;have e1:zbT q=kv.1:=zol e1
     have:=(D5.ks kv (znF hkv)).2
     rw [← e1] at this;exact S6 _ _ (zc4.1 this)
  ·exact h.elim
theorem zeU:zar ["machine","most","counts","row","place","sign"] ["machine","most"] (zaf zb6):=by walk_at "s"
def zeo (ks:Mk2) (p:Int):Mk2:=zd9 ks p ((zbj ks p).getD 0+1)
def zk3 (m:Ma) (N:Nat):Mk2:=((tr m N s00).map (·.2.1)).foldl zeo []
theorem zmB:∀ (l:List Int) (ks:Mk2),(ks.map (·.1)).Nodup->((l.foldl zeo ks).map (·.1)).Nodup
 | [],ks,h=>h
 | p::l,ks,h=>zmB l _ (zdk h)
theorem zep:∀ (l:List Int) (ks:Mk2),(l.foldl zeo ks).length<=ks.length+l.length
 | [],ks=>znQ _
 | p::l,ks=>by
  have:=zep l (zeo ks p)
  have h2:=zhZ ks p ((zbj ks p).getD 0+1);rw [List.foldl_cons,zob];unfold zeo at this ⊢;omega
def zdp:Sp:=fun vs H Q _=>match vs with
 | [.ref t,.int most]=>∃ m:Ma,zc2 H t m/\isM m=true/\0<=most/\most<=1000/\∀ (l:Addr) (js:Mk2) (H':Hp),Sub H H'->H l=none->zdr H' l js->js.Perm (zk3 m most.toNat)->Srt js->Q (.ref l) H'
 | _=>False
theorem zhM (T:Tx K mg a):zbu P w K mg base CX0 7 a.visits a.visits_d ["machine","most"] (zdp):=by
 have G_looks:=zcU (P:=P) (w:=w) (base:=base) T;refine T.f_visits.ok zeU (fun vs H Q E h=>?_) (fun cdv A outer s H vs Q E hr h=>?_)
 ·unfold zdp at h;split at h
  ·rfl
  ·exact h.elim
 ·unfold zdp at h;split at h
  ·have nd:=zeU.nd;have hu:=za5 hr;rename_i t most;obtain⟨m,hm,hM,hm0,hm1,h⟩:=h;have M:=OkM.of hM;refine⟨_,(zab (zao (i:=2) nd rfl (by walk_at "o") ziY)
  (zab (zb8 PassesOwn.never rfl (za8 (K:=K) rfl (zah G_looks (hr.mono (by decide)) rfl T.g_looks T.f_looks.kp T.b_looks .nil zan (zaa (qv 0) (zaa (qv 1) zac)))) (za6 (K:=K) (n:=3) rfl rfl (zal (zak (i:=3) nd rfl (by walk_at "o")) (zal (zak (i:=4) nd rfl (by walk_at "o")) (zal (zak (i:=5) nd rfl (by walk_at "o")) za7)))) (zag (zhW hu (qv 2) (qv 4) (zav zbx (zf0 hu (qv 2) (qv 4) zad ⟨rfl,rfl,rfl,rfl⟩) zad) rfl)))
  (zag (zat (zaq (zjJ rfl) rfl T.z_sorted zey (zaa (zjF PySem.F.plainAttrs_dict PySem.F.slot_dict_items PySem.F.type_dict_items zh1 (qv 2)) zac)))))),?_⟩
   walk_at "w";intro d nd1;have S1:Sub H (upd H d (.dK [])):=Sub.new nd1;have hd1:(upd H d (.dK [])) d=some (.dK (dcI (iv []))):=zae;generalize upd H d (.dK [])=H1 at S1 hd1;refine⟨m,hm.stay (.sub S1),hM,hm0,hm1,fun f ts H2 S2 hf hA nf=>?_⟩;refine⟨⟨_,SqL.of hf⟩,?_⟩;have nfd:f≠d:=by rintro rfl;rw [hd1] at nf;cases nf
   have hXl:(tr m most.toNat s00).length<=most.toNat+1:=zdN m most.toNat (0,0,[]);refine zfP (K:=K) (a:=f) (xs:=ts.map V.ref) (fun i σ H5=>∃ (v3 v4 v5:Option V),σ=[some (.ref t),some (.int most),some (.ref d),v3,v4,v5]/\(∀ c u,H2 c=some u->c≠d->H5 c=some u)/\H5 d=some (.dK (dcI (iv ((((tr m most.toNat s00).take i).map (·.2.1)).foldl zeo []))))) ?_ ?_ ?_ ?_
   ·exact⟨none,none,none,rfl,fun c u e _=>e,S2 _ _ hd1⟩
   ·rintro i σ H5 _ ⟨v3,v4,v5,rfl,k5,_⟩;exact SqL.of (k5 _ _ hf nfd)
   ·rintro i x σ H5 hi ⟨v3,v4,v5,rfl,k5,hd5⟩;rw [znB] at hi;obtain⟨c,hc,rfl⟩:=znD.1 hi;obtain⟨z,hz,hL⟩:=hA.at hc;have hz:(tr m most.toNat s00)[i]?=some z:=hz;have hil:i<(tr m most.toNat s00).length:=(znE.1 hz).1;have hc5:H5 c=some (.tup [.int z.1,.int z.2.1,.int ((zbj z.2.2 z.2.1).getD 0)]):=k5 _ _ hL (by rintro rfl;rw [zis,S2 _ _ hd1] at hL;cases hL);have hvl:=zep (((tr m most.toNat s00).take i).map (·.2.1)) []
    rw [znA,znY] at hvl;have hst:(((tr m most.toNat s00).take (i+1)).map (·.2.1)).foldl zeo []=zeo ((((tr m most.toNat s00).take i).map (·.2.1)).foldl zeo []) z.2.1:=by
     rw [znW,hz,znI,List.foldl_append];rfl
    generalize (((tr m most.toNat s00).take i).map (·.2.1)).foldl zeo []=ks at hd5 hvl hst
    refine⟨_,SqT.of hc5,rfl,?_⟩;refine⟨_,rfl,.inl ⟨_,.inl hd5⟩,?_⟩;refine⟨_,zk5.k (k:=.inl z.2.1) hd5,?_⟩;rw [ziq,show ((zbj ks z.2.1).map V.int).getD (V.int 0)=V.int ((zbj ks z.2.1).getD 0) by cases zbj ks z.2.1 <;> rfl];refine⟨_,_,rfl,zk6.k (k:=.inl z.2.1) hd5 ?_,?_⟩
    ·rw [znA,znA];exact znO (show ks.length<=1001 by simp at hvl;omega) (by decide)
    rw [zjR];refine⟨_,_,_,rfl,fun c u e ne=>by rw [zam ne];exact k5 c u e ne,?_⟩;rw [zae,hst]
    rfl
   ·rintro σ H5 ⟨v3,v4,v5,rfl,k5,hd5⟩;have hall:ts.length=(tr m most.toNat s00).length:=hA.1;rw [znA,hall,znV] at hd5;have hvl:=zep ((tr m most.toNat s00).map (·.2.1)) []
    rw [znA] at hvl;have S05:Sub H H5:=fun c u e=>k5 _ _ (S2 _ _ (S1 _ _ e)) (by rintro rfl;rw [nd1] at e;cases e)
    refine⟨.inr (.inr (.inl ⟨rfl,.inl ⟨_,hd5⟩⟩)),?_⟩;refine⟨⟨_,hd5⟩,?_⟩;intro v nv;have S6:Sub H5 (upd H5 v (ze3 v d)):=Sub.new nv;have hv6:(upd H5 v (ze3 v d)) v=some (ze3 v d):=zae;generalize upd H5 v (ze3 v d)=H6 at S6 hv6;refine⟨d,_,hv6,S6 _ _ hd5,?_,fun ps bs l H7 S7 hp hs hA7 hl nl nb=>?_⟩
    ·rw [znA];simp at hvl;show (zk3 m most.toNat).length<65536;unfold zk3;omega
    ·obtain⟨js,rfl,pj,sj⟩:=zht hp hs;exact h l js H7 ((S05.trans S6).trans S7) ((S05.trans S6).free nl) ⟨bs,hl,hA7⟩ pj sj
  ·exact h.elim
theorem zdI:zar ["machine","most","told","low","high","moment","row","place","sign"] ["machine","most"] (zaf zbE):=by walk_at "s"
def zfv:Int->Int->Int->List Int->List (Int × Int)
 | _,_,_,[]=>[]
 | i,lo,hi,p::r=>if lo<=p/\p<=hi then zfv (i+1) lo hi r else (i,p)::zfv (i+1) (min lo p) (max hi p) r
def ze4 (m:Ma) (N:Nat):List (Int × Int):=(0,0)::zfv 0 0 0 ((tr m N s00).map (·.2.1))
theorem zed:∀ (l:List Int) (i lo hi:Int),(zfv i lo hi l).length<=l.length
 | [],_,_,_=>znQ _
 | p::l,i,lo,hi=>by
  rw [zfv];split
  ·have:=zed l (i+1) lo hi;rw [zob];omega
  ·have:=zed l (i+1) (min lo p) (max hi p);rw [zob,zob];omega
def zgR (H:Hp) (f:Addr) (qs:List (Int × Int)):Prop:=∃ as:List Addr,H f=some (.lst (as.map V.ref))/\zaY (fun a q=>H a=some (.tup [.int q.1,.int q.2])) as qs
def zcC:Sp:=fun vs H Q _=>match vs with
 | [.ref t,.int most]=>∃ m:Ma,zc2 H t m/\isM m=true/\0<=most/\most<=1000/\∀ (f:Addr) (H':Hp),Sub H H'->H f=none->zgR H' f (ze4 m most.toNat)->Q (.ref f) H'
 | _=>False
theorem zgD (T:Tx K mg a):zbu P w K mg base CX0 7 a.records a.records_d ["machine","most"] (zcC):=by
 have G_looks:=zcU (P:=P) (w:=w) (base:=base) T;refine T.f_records.ok zdI (fun vs H Q E h=>?_) (fun cdv A outer s H vs Q E hr h=>?_)
 ·unfold zcC at h;split at h
  ·rfl
  ·exact h.elim
 ·unfold zcC at h;split at h
  ·have nd:=zdI.nd;have hu:=za5 hr;rename_i t most;obtain⟨m,hm,hM,hm0,hm1,h⟩:=h;have M:=OkM.of hM;refine⟨_,(zab (zao (i:=2) nd rfl (by walk_at "o") (zaZ (zaa (zay (zaa zad (zaa zad zac))) zac)))
  (zab (zkH zad (zak (i:=3) nd rfl (by walk_at "o")) (zak (i:=4) nd rfl (by walk_at "o")))
  (zab (zb8 PassesOwn.never rfl (zkE rfl T.z_enumerate (zaa (zah G_looks (hr.mono (by decide)) rfl T.g_looks T.f_looks.kp T.b_looks .nil zan (zaa (qv 0) (zaa (qv 1) zac))) zac)) (za6 (K:=K) (n:=2) rfl rfl (zal (zak (i:=5) nd rfl (by walk_at "o")) (zal (za6 (K:=K) (n:=3) rfl rfl (zal (zak (i:=6) nd rfl (by walk_at "o")) (zal (zak (i:=7) nd rfl (by walk_at "o")) (zal (zak (i:=8) nd rfl (by walk_at "o")) za7)))) za7))) (zag (zcP (zl7 (zdF (zkI zi7 zi7 (qv 3) (qv 7) (qv 4)))) (zab (zbr (zfn PySem.F.plainAttrs_list PySem.F.slot_list_append PySem.F.type_list_append zfr (qv 2) (zaa (zay (zaa (qv 5) (zaa (qv 7) zac))) zac))) (zab (zao (i:=3) nd rfl (by walk_at "o") (zaq (zmg rfl) rfl T.z_min zfH (zaa (qv 3) (zaa (qv 7) zac)))) (zag (zao (i:=4) nd rfl (by walk_at "o") (zaq (zme rfl) rfl T.z_max zgZ (zaa (qv 4) (zaa (qv 7) zac))))))) zaz)))
  (zag (zat (qv 2)))))),?_⟩
   refine⟨by show 2<=sizeLine;decide,?_⟩;intro p1 n1;generalize U':upd _ p1 _=H1;obtain ⟨S1,e1⟩:=zai n1 U';clear U';refine⟨by show 1<=sizeLine;decide,?_⟩;intro p2 n2;generalize U':upd _ p2 _=H2;obtain ⟨S2,e2⟩:=zai n2 U';clear U';have S02:=S1.trans S2;refine⟨m,hm.stay (.sub S02),hM,hm0,hm1,fun f ts H3 S3 hf hA nf=>?_⟩;refine⟨⟨_,SqL.of hf⟩,?_⟩;have hp3:H3 p2=some (.lst ([p1].map V.ref)):=S3 _ _ e2;have hq3:H3 p1=some (.tup [.int 0,.int 0]):=S3 _ _ (S2 _ _ e1);have nfp:f≠p2:=by rintro rfl;rw [e2] at nf;cases nf
   have np2:H p2=none:=S1.free n2;have hXl:(tr m most.toNat s00).length<=most.toNat+1:=zdN m most.toNat (0,0,[]);generalize hP:(tr m most.toNat s00).map (·.2.1)=Pl at *
   have hPl:Pl.length=(tr m most.toNat s00).length:=by rw [← hP,znA]
   refine ziC (K:=K) (a:=f) (xs:=ts.map V.ref) (fun i σ H5=>∃ (v5 v6 v7 v8:Option V) (lo hi:Int) (as:List Addr) (dn:List (Int × Int)),σ=[some (.ref t),some (.int most),some (.ref p2),some (.int lo),some (.int hi),v5,v6,v7,v8]/\(∀ c u,H3 c=some u->c≠p2->H5 c=some u)/\H5 p2=some (.lst (as.map V.ref))/\zaY (fun a q=>H5 a=some (.tup [.int q.1,.int q.2])) as ((0,0)::dn)/\dn++zfv i lo hi (Pl.drop i)=zfv 0 0 0 Pl/\dn.length<=i) ?_ ?_ ?_ ?_
   ·exact⟨none,none,none,none,0,0,[p1],[],rfl,fun c u e _=>e,hp3,zaY.app .nil hq3,rfl,znQ _⟩
   ·rintro i σ H5 _ ⟨v5,v6,v7,v8,lo,hi,as,dn,rfl,k5,_⟩;exact SqL.of (k5 _ _ hf nfp)
   ·rintro i x σ H5 q hi ⟨v5,v6,v7,v8,lo,hi',as,dn,rfl,k5,hp5,hA5,hrec,hdl⟩ nq;rw [znB] at hi;obtain⟨c,hc,rfl⟩:=znD.1 hi;obtain⟨z,hz,hL⟩:=hA.at hc;have hz:(tr m most.toNat s00)[i]?=some z:=hz;have hil:i<(tr m most.toNat s00).length:=(znE.1 hz).1;have hdr:Pl.drop i=z.2.1::Pl.drop (i+1):=by
     have:Pl[i]?=some z.2.1:=by rw [← hP,znB,hz];rfl
     rw [zom (by omega),(znE.1 this).2]
    rw [hdr,zfv] at hrec;have hc5:H5 c=some (.tup [.int z.1,.int z.2.1,.int ((zbj z.2.2 z.2.1).getD 0)]):=k5 _ _ hL (by rintro rfl;rw [zis,hp3] at hL;cases hL);generalize U':upd H5 q _=H6;obtain⟨S6,e6⟩:=zai nq U';clear U';refine⟨_,SqT.of e6,rfl,?_⟩;refine⟨_,SqT.of (S6 _ _ hc5),rfl,?_⟩;have hp6:=S6 _ _ hp5;have hA6:zaY (fun a q=>H6 a=some (.tup [.int q.1,.int q.2])) as ((0,0)::dn):=hA5.mono fun _ _ _ e=>S6 _ _ e
    have k6:∀ c u,H3 c=some u->c≠p2->H6 c=some u:=fun c u e ne=>S6 _ _ (k5 c u e ne)
    have more:¬ (lo<=z.2.1/\z.2.1<=hi')->∀ (pt:Addr) (H7:Hp),Sub H6 H7->H7 pt=some (.tup [.int i,.int z.2.1])->∀ H8:Hp,H8=upd H7 p2 (.lst (as.map V.ref++[V.ref pt])) ->
      (∀ c u,H3 c=some u->c≠p2->H8 c=some u)/\H8 p2=some (.lst ((as++[pt]).map V.ref))/\zaY (fun a q=>H8 a=some (.tup [.int q.1,.int q.2])) (as++[pt]) ((0,0)::(dn++[((i:Int),z.2.1)]))/\(dn++[((i:Int),z.2.1)])++zfv ((i+1:Nat):Int) (min lo z.2.1) (max hi' z.2.1) (Pl.drop (i+1))=zfv 0 0 0 Pl/\(dn++[((i:Int),z.2.1)]).length<=i+1:=fun hc pt H7 S7 ept H8 hH8=>by
     rw [zoc hc] at hrec;have kt:∀ a xs,H7 a=some (.tup xs)->H8 a=some (.tup xs):=fun a xs e=>by rw [hH8,zam (by rintro rfl;rw [S7 _ _ hp6] at e;cases e)];exact e
     refine⟨fun c u e ne=>by rw [hH8,zam ne];exact S7 _ _ (k6 c u e ne),by rw [hH8,zae,znI];rfl,?_,?_,by rw [znK];show dn.length+1<=i+1;omega⟩
     ·rw [← List.cons_append];exact (hA6.mono fun _ _ _ e=>kt _ _ (S7 _ _ e)).app (kt _ _ ept)
     ·rw [znU];exact hrec
    have stay:(lo<=z.2.1/\z.2.1<=hi')->dn++zfv ((i+1:Nat):Int) lo hi' (Pl.drop (i+1))=zfv 0 0 0 Pl:=fun hc=>by rw [zod hc] at hrec;exact hrec
    have hasl:(as.map V.ref).length<sizeLine:=by rw [znA,hA5.1,zob];exact znO (show dn.length+1<=1003 by omega) (by decide)
    refine⟨fun b Hx=>Hx=H6/\b=!decide (lo<=z.2.1/\z.2.1<=hi'),?_,?_⟩
    ·walk_at "w";refine ifB.dec (fun z1=>?_) (fun z1=>?_)
     ·walk_at "w";refine⟨rfl,?_⟩;by_cases z2:z.2.1<=hi'
      ·rw [znG z2,znG (show lo<=z.2.1/\z.2.1<=hi' from ⟨z1,z2⟩)]
      ·rw [znH z2,znH (show ¬ (lo<=z.2.1/\z.2.1<=hi') from fun q=>z2 q.2)]
     ·walk_at "w";exact⟨rfl,by rw [znH (show ¬ (lo<=z.2.1/\z.2.1<=hi') from fun q=>z1 q.1)]⟩
    rintro b Hx ⟨rfl,rfl⟩;walk_at "w";by_cases hc:lo<=z.2.1/\z.2.1<=hi'
    ·refine ifB.no (by rw [znG hc];rfl) ?_;exact⟨_,_,_,_,lo,hi',as,dn,rfl,k6,hp6,hA6,stay hc,by omega⟩
    ·refine ifB.yes (by rw [znH hc];rfl) ?_;refine⟨.inl ⟨rfl,_,SqL.of hp6⟩,?_⟩;refine⟨by show 2<=sizeLine;decide,?_⟩;intro p7 n7;generalize U':upd _ p7 _=H7;obtain ⟨S7,e7⟩:=zai n7 U';clear U';refine⟨_,S7 _ _ hp6,hasl,?_⟩;obtain⟨m1,m2,m3,m4,m5⟩:=more hc p7 H7 S7 e7 _ rfl;walk_at "w";intro mn hmn;walk_at "w";intro mx hmx;have hmn:mn=min lo z.2.1:=by rw [hmn];split <;> omega
     have hmx:mx=max hi' z.2.1:=by rw [hmx];split <;> omega
     subst hmn hmx;exact⟨_,_,_,_,min lo z.2.1,max hi' z.2.1,as++[p7],dn++[((i:Int),z.2.1)],rfl,m1,m2,m3,m4,m5⟩
   ·rintro σ H5 ⟨v5,v6,v7,v8,lo,hi',as,dn,rfl,k5,hp5,hA5,hrec,hdl⟩;have hall:ts.length=(tr m most.toNat s00).length:=hA.1;rw [znA,hall,← hPl,List.drop_length,zfv,znM] at hrec;refine h p2 H5 (fun c u e=>k5 _ _ (S3 _ _ (S02 _ _ e)) (zaj e np2)) np2 ⟨as,hp5,?_⟩;unfold ze4;rw [hP,← hrec];exact hA5
  ·exact h.elim
theorem zco:zar ["one","other","most","walk","partner","moment"] ["one","other","most"] (zaf za3):=by walk_at "s"
def optV:Option Int->V
 | none=>.non
 | some i=>.int i
def zbI:Sp:=fun vs H Q _=>match vs with
 | [.ref t,.ref t',.int most]=>∃ m m':Ma,zc2 H t m/\isM m=true/\zc2 H t' m'/\isM m'=true/\0<=most/\most<=1000/\∀ H',Sub H H'->Q (optV (pf m m' most.toNat 1 (0,0,[]))) H'
 | _=>False
theorem zhS {m m':Ma} {k:Nat} {i:Int} {x y:St3} (h:en3 m x=en3 m' x) (hs:stN m x=some y):pf m m' (k+1) i x=pf m m' k (i+1) y:=by
 rw [pf,zod h,hs]
theorem zd6 (T:Tx K mg a):zbu P w K mg base CX0 6 a.parts_from a.parts_from_d ["one","other","most"] (zbI):=by
 have G_begun:=zd4 (P:=P) (w:=w) (base:=base) T;have G_Walk_step:=zbR (P:=P) (w:=w) (base:=base) T;have G_Walk_entry:=zbG (P:=P) (w:=w) (base:=base) T;refine T.f_parts_from.ok zco (fun vs H Q E h=>?_) (fun cdv A outer s H vs Q E hr h=>?_)
 ·unfold zbI at h;split at h
  ·rfl
  ·exact h.elim
 ·unfold zbI at h;split at h
  ·have nd:=zco.nd;have hu:=za5 hr;rename_i t t' most;obtain⟨m,m',hm,hM,hm',hM',hm0,hm1,h⟩:=h;have M:=OkM.of hM;have M':=OkM.of hM';refine⟨_,(zab (zao (i:=3) nd rfl (by walk_at "o") (zah G_begun (hr.mono (by decide)) rfl T.g_begun T.f_begun.kp T.b_begun .nil zan (zaa (qv 0) zac)))
  (zab (zao (i:=4) nd rfl (by walk_at "o") (zah G_begun (hr.mono (by decide)) rfl T.g_begun T.f_begun.kp T.b_begun .nil zan (zaa (qv 1) zac)))
  (zab (zb8 PassesOwn.never rfl (zh4 rfl T.z_range (zaa zad (zaa (zav zbx (qv 2) zad) zac))) (zak (i:=5) nd rfl (by walk_at "o")) (zab (zcP (zcv (zeI hr) (zaX (qv 3) T.k_Walk T.m_Walk_entry G_Walk_entry (hr.mono (by decide)) T.b_Walk_entry .nil zan) (zaX (qv 4) T.k_Walk T.m_Walk_entry G_Walk_entry (hr.mono (by decide)) T.b_Walk_entry .nil zan)) (zag (zat (qv 5))) zaz)
    (zab (zcP (zdF (zl8 (zaX (qv 3) T.k_Walk T.m_Walk_step G_Walk_step (hr.mono (by decide)) T.b_Walk_step .nil zan))) (zag (zat zf1)) zaz)
    (zag (zbr (zaX (qv 4) T.k_Walk T.m_Walk_step G_Walk_step (hr.mono (by decide)) T.b_Walk_step .nil zan))))))
  (zag (zat zf1))))),?_⟩
   refine⟨m,hm,hM,fun o d H1 S1 W1 no nd=>?_⟩;refine⟨m',hm'.stay (.sub S1),hM',fun o' d' H2 S2 W2 no' nd'=>?_⟩;walk_at "w";have S02:=S1.trans S2;obtain⟨⟨dx1,ho1⟩,hd1⟩:=id W1;have q1:o'≠o:=fun e=>by rw [e,ho1] at no';cases no'
   have q2:o'≠d:=fun e=>by rw [e,hd1] at no';cases no'
   have q3:d'≠o:=fun e=>by rw [e,ho1] at nd';cases nd'
   have q4:d'≠d:=fun e=>by rw [e,hd1] at nd';cases nd'
   have ok0:∀ {m},OkM m->OkS m 0 []:=fun M=>⟨by decide,by have:=M.n1;omega,by simp,by simp⟩
   refine⟨⟨by decide,by decide,by omega,by omega⟩,?_⟩;rw [show (most+1-1).toNat=most.toNat by omega];refine zbo (lo:=1) (n:=most.toNat) (fun i σ H5=>∃ (v5:Option V) (x:St3),σ=[some (.ref t),some (.ref t'),some (.int most),some (.ref o),some (.ref o'),v5]/\Sub H H5/\WK a.Walk H5 o t d x.1 x.2.1 x.2.2/\WK a.Walk H5 o' t' d' x.1 x.2.1 x.2.2/\OkS m x.1 x.2.2/\OkS m' x.1 x.2.2/\x.2.2.length<=i/\pf m m' most.toNat 1 (0,0,[])=pf m m' (most.toNat-i) (1+i) x) ?_ ?_ ?_
   ·exact⟨none,(0,0,[]),rfl,S02,W1.sub S2,W2,ok0 M,ok0 M',znQ _,rfl⟩
   ·rintro i σ H5 hi ⟨v5,x,rfl,S5,W5,W5',k5,k5',hl5,hp⟩;obtain⟨⟨dx5,ho5⟩,hd5⟩:=id W5;obtain⟨⟨dx5',ho5'⟩,hd5'⟩:=id W5';have hpi:pf m m' (most.toNat-i) (1+i) x=pf m m' (most.toNat-(i+1)+1) (1+i) x:=by rw [show most.toNat-i=most.toNat-(i+1)+1 by omega]
    refine⟨_,_,_,rfl,ho5,rfl,?_⟩;refine⟨t,d,x.1,x.2.1,x.2.2,m,W5,hm.stay (.sub S5),M,k5,fun b e H6 S6 he hE hb=>?_⟩;refine⟨_,_,_,rfl,S6 _ _ ho5',rfl,?_⟩;refine⟨t',d',x.1,x.2.1,x.2.2,m',W5'.sub S6,hm'.stay (.sub (S5.trans S6)),M',k5',fun b' e' H7 S7 he' hE' hb'=>?_⟩;have S57:=S6.trans S7;have S07:=S5.trans S57;refine⟨_,_,(Ent.den (e:=e) (S7 _ _ hb)),(Ent.den (e:=e') hb'),zc5 _,?_⟩;rw [zhf];walk_at "w";refine ifB.ndec (fun z=>?_) (fun z=>?_)
    ·subst z;have hee:en3 m x=en3 m' x:=he.trans he'.symm;have W7:=W5.sub S57;have W7':=W5'.sub S57;obtain⟨⟨dx7,ho7⟩,hd7⟩:=id W7;obtain⟨⟨dx7',ho7'⟩,hd7'⟩:=id W7';refine⟨_,_,_,rfl,ho7,rfl,?_⟩;refine⟨t,d,x.1,x.2.1,x.2.2,m,W7,hm.stay (.sub S07),M,k5,by omega,fun hz H8 S8=>?_,fun s' w' r' H8 hz hE8 W8 k8=>?_⟩
     ·walk_at "w";refine ifB.yes rfl ?_;rw [hp,hpi,pf,zod hee,zeX hz] at h;exact h H8 (S07.trans S8)
     ·obtain⟨s2,w2,r2,e2,a0,a1,a2,a3,a4⟩:=zaC hE8 (by simp);cases e2;have hz':ent m' x.1 x.2.1 x.2.2=some [s',w',r']:=hee.symm.trans hz;rw [he'] at hz';cases hz';obtain⟨s3,w3,r3,e3,b0,b1,b2,b3,b4⟩:=zaC hE' (by simp);cases e3;have W8':WK a.Walk H8 o' t' d' x.1 x.2.1 x.2.2:=⟨⟨dx7',k8 _ _ ho7' q1 q2⟩,k8 _ _ hd7' q3 q4⟩;obtain⟨⟨dx8',ho8'⟩,hd8'⟩:=id W8';have S08:Sub H H8:=fun c u e=>k8 c u (S07 _ _ e) (zaj e no) (zaj e nd)
      walk_at "w";refine ifB.no rfl ?_;refine⟨_,_,_,rfl,ho8',rfl,?_⟩;refine⟨t',d',x.1,x.2.1,x.2.2,m',W8',hm'.stay (.sub S08),M',k5',by omega,fun hz9 H9 S9=>?_,fun s9 w9 r9 H9 hz9 hE9 W9 k9=>?_⟩
      ·rw [he'] at hz9;cases hz9
      ·rw [he'] at hz9;cases hz9;obtain⟨⟨dx8,ho8⟩,hd8⟩:=id W8;have hnl:=zfj x.2.2 x.2.1 s';refine⟨_,(r',x.2.1+w',nxt x.2.2 x.2.1 s'),rfl,fun c u e=>k9 c u (S08 _ _ e) (zaj e (S1.free no')) (zaj e (S1.free nd')),⟨⟨dx8,k9 _ _ ho8 q1.symm q3.symm⟩,k9 _ _ hd8 q2.symm q4.symm⟩,W9,k5.nxt a0 a1 a3 a4,k5'.nxt b0 b1 b3 b4,by show (nxt x.2.2 x.2.1 s').length<=i+1;omega,?_⟩;rw [hp,hpi,zhS hee (zie hz),show (1:Int)+(i:Int)+1=1+((i+1:Nat):Int) by omega]
    ·have hne:¬ en3 m x=en3 m' x:=fun q=>z (zol (he.symm.trans (q.trans he')))
     walk_at "w";rw [hp,hpi,pf,zoc hne] at h;exact h H7 S07
   ·rintro σ H5 ⟨v5,x,rfl,S5,W5,W5',k5,k5',hl5,hp⟩;rw [hp,show most.toNat-most.toNat=0 by omega] at h;exact h H5 S5
  ·exact h.elim
theorem zcM:zar ["_law_purse_here","_law_rows","_law_signs","_law_kind","_law_found","_law_k","_law_row","_law_j","_law_entry"] ["_law_purse_here"] (zaf zbg):=by walk_at "s"
theorem zaR {j:Int} (h0:0<j) (h1:j<=1000):0<j/\j.natAbs.log2<9000:=by
 refine⟨h0,?_⟩
 have:j.natAbs.log2<10:=(Nat.log2_lt (by omega)).2 (by show _<1024;omega)
 omega
def zcB:Sp:=fun vs H Q _=>match vs with
 | [.ref pp]=>∃ n k:Int,H pp=some (.lst [.int n,.int k])/\∀ (q:Addr) (m:Ma) (H':Hp),Pu pp k H H'->H q=none->zc2 H' q m->isM m=true->Q (.ref q) H'
 | _=>False
theorem zda {m:Ma} {rows signs:Int} (h1:(m.length:Int)=rows) (h2:1<=rows) (h3:rows<=4) (h4:2<=signs) (h5:signs<=4)
  (h:∀ r∈m,(r.length:Int)=signs/\∀ e∈r,zax rows signs e=true):isM m=true:=by
 cases m with
 | nil=>simp at h1;omega
 | cons r0 m' =>
  have h0:=(h r0 (by simp)).1;refine zjC (by omega) (by omega) (by omega) fun r hr=>⟨by have:=(h r hr).1;omega,?_⟩
  unfold ziU;rw [h1,h0];exact znZ.2 (h r hr).2
theorem zeG (T:Tx K mg a):zbu P w K mg base CX0 2 a.l_machine a.l_machine_d ["_law_purse_here"] (zcB):=by
 have G_l_draw:=zbS (P:=P) (w:=w) (base:=base) T;refine T.f_l_machine.ok zcM (fun vs H Q E h=>?_) (fun cdv A outer s H vs Q E hr h=>?_)
 ·unfold zcB at h;split at h
  ·rfl
  ·exact h.elim
 ·unfold zcB at h;split at h
  ·have nd:=zcM.nd;have hu:=za5 hr;rename_i pp;obtain⟨n,k,hp,h⟩:=h;have P0:Pu pp k H H:=Pu.refl ⟨n,hp⟩;have e0:=hp;refine⟨_,(zab (zao (i:=1) nd rfl (by walk_at "o") (zav zbx zad (zah G_l_draw (hr.mono (by decide)) rfl T.g_l_draw T.f_l_draw.kp T.b_l_draw .nil zan (zaa (qv 0) (zaa zad zac)))))
  (zab (zao (i:=2) nd rfl (by walk_at "o") (zav zbx zad (zah G_l_draw (hr.mono (by decide)) rfl T.g_l_draw T.f_l_draw.kp T.b_l_draw .nil zan (zaa (qv 0) (zaa zad zac)))))
  (zab (zao (i:=3) nd rfl (by walk_at "o") (zah G_l_draw (hr.mono (by decide)) rfl T.g_l_draw T.f_l_draw.kp T.b_l_draw .nil zan (zaa (qv 0) (zaa zad zac))))
  (zab (zao (i:=4) nd rfl (by walk_at "o") (zaZ zac))
  (zab (zb8 PassesOwn.never rfl (zbs rfl T.z_range (zaa (qv 1) zac)) (zak (i:=5) nd rfl (by walk_at "o")) (zab (zao (i:=6) nd rfl (by walk_at "o") (zaZ zac))
    (zab (zb8 PassesOwn.never rfl (zbs rfl T.z_range (zaa (qv 2) zac)) (zak (i:=7) nd rfl (by walk_at "o")) (zab (zao (i:=8) nd rfl (by walk_at "o") (zay (zaa (zah G_l_draw (hr.mono (by decide)) rfl T.g_l_draw T.f_l_draw.kp T.b_l_draw .nil zan (zaa (qv 0) (zaa (qv 2) zac))) (zaa (zav zeb (zav zcw zad (zah G_l_draw (hr.mono (by decide)) rfl T.g_l_draw T.f_l_draw.kp T.b_l_draw .nil zan (zaa (qv 0) (zaa zad zac)))) zad) (zaa (zah G_l_draw (hr.mono (by decide)) rfl T.g_l_draw T.f_l_draw.kp T.b_l_draw .nil zan (zaa (qv 0) (zaa (qv 1) zac))) zac)))))
      (zab (zcP (PW.pt (zfq (zcv q_gt (qv 3) zad) (zfu (zcv zgQ (zah G_l_draw (hr.mono (by decide)) rfl T.g_l_draw T.f_l_draw.kp T.b_l_draw .nil zan (zaa (qv 0) (zaa (zav zbx zad (zav zcw zad (qv 3))) zac))) zad)))) (zag (zao (i:=8) nd rfl (by walk_at "o") (zay zac))) zaz)
      (zag (zbr (zfn PySem.F.plainAttrs_list PySem.F.slot_list_append PySem.F.type_list_append zfr (qv 6) (zaa (qv 8) zac)))))))
    (zag (zbr (zfn PySem.F.plainAttrs_list PySem.F.slot_list_append PySem.F.type_list_append zfr (qv 4) (zaa (qv 6) zac)))))))
  (zab (zcP (zcv zgQ (qv 3) zad) (zag (zbL (zay zac) (zcG (zaQ (zaN (K:=K) rfl) (qv 4) (zah G_l_draw (hr.mono (by decide)) rfl T.g_l_draw T.f_l_draw.kp T.b_l_draw .nil zan (zaa (qv 0) (zaa (qv 1) zac))) (fun _ _=>rfl)) (zah G_l_draw (hr.mono (by decide)) rfl T.g_l_draw T.f_l_draw.kp T.b_l_draw .nil zan (zaa (qv 0) (zaa (qv 2) zac))) zcH))) zaz)
  (zag (zat (qv 4))))))))),?_⟩
   walk_at "w";refine⟨by decide,_,_,e0,fun d1 n1 d10 d11=>?_⟩;have P1:=P0.draw n1;have Q1:=Pu.of_draw n1 e0;generalize hg1:upd _ pp _=H1 at P1 Q1 ⊢;have e1:H1 pp=some (.lst [.int n1,.int k]):=by rw [← hg1];exact zae
   clear hg1;walk_at "w";refine⟨by decide,_,_,e1,fun d2 n2 d20 d21=>?_⟩;have P2:=P1.draw n2;have Q2:=Pu.of_draw n2 e1;generalize hg2:upd _ pp _=H2 at P2 Q2 ⊢;have e2:H2 pp=some (.lst [.int n2,.int k]):=by rw [← hg2];exact zae
   clear hg2;walk_at "w";refine⟨by decide,_,_,e2,fun d3 n3 d30 d31=>?_⟩;have P3:=P2.draw n3;have Q3:=Pu.of_draw n3 e2;generalize hg3:upd _ pp _=H3 at P3 Q3 ⊢;have e3:H3 pp=some (.lst [.int n3,.int k]):=by rw [← hg3];exact zae
   clear hg3;walk_at "w";refine⟨by decide,?_⟩;intro p4 n4;generalize U':upd _ p4 _=H4;obtain ⟨S4,e4⟩:=zai n4 U';clear U';have P4:=P3.sub S4;have nf:H p4=none:=P3.free n4;refine⟨⟨by omega,by omega⟩,?_⟩;refine zbo (lo:=0) (n:=(1+d1).toNat) (fun i σ H5=>∃ (v5 v6 v7 v8:Option V) (rs:List Addr) (m:Ma),σ=[some (.ref pp),some (.int (1+d1)),some (.int (2+d2)),some (.int d3),some (.ref p4),v5,v6,v7,v8]/\Pu pp k H H5/\MaR H5 p4 rs m/\m.length=i/\(∀ r∈rs,H r=none)/\∀ r∈m,(r.length:Int)=2+d2/\∀ e∈r,zax (1+d1) (2+d2) e=true) ?_ ?_ ?_
   ·exact⟨none,none,none,none,[],[],rfl,P4,⟨e4,by simp,.nil⟩,rfl,by simp,by simp⟩
   ·rintro i σ H5 hi ⟨v5,v6,v7,v8,rs,m,rfl,P5,hm,hml,hrs,hme⟩;refine⟨by decide,?_⟩;intro p6 n6;generalize U':upd _ p6 _=H6;obtain ⟨S6,e6⟩:=zai n6 U';clear U';have P6:=P5.sub S6;have hm6:=hm.stay (.sub S6);have nr:H p6=none:=P5.free n6;have nrs:p6 ∉ rs:=fun z=>by
     obtain⟨j,hj,e⟩:=List.getElem_of_mem z;obtain⟨es,_,as,h1,_⟩:=hm.2.2.at (znE.2 ⟨hj,e⟩);rw [n6] at h1;cases h1
    have npf:p6≠p4:=fun z=>by
     have:=hm.1
     rw [← z,n6] at this;cases this
    refine⟨⟨by omega,by omega⟩,?_⟩;refine zbo (lo:=0) (n:=(2+d2).toNat) (fun j σ H7=>∃ (v7 v8:Option V) (as:List Addr) (es:List En),σ=[some (.ref pp),some (.int (1+d1)),some (.int (2+d2)),some (.int d3),some (.ref p4),some (.int (0+i)),some (.ref p6),v7,v8]/\Pu pp k H H7/\MaR H7 p4 rs m/\zdq H7 p6 as es/\es.length=j/\∀ e∈es,zax (1+d1) (2+d2) e=true) ?_ ?_ ?_
    ·exact⟨v7,v8,[],[],rfl,P6,hm6,⟨e6,.nil⟩,rfl,by simp⟩
    ·rintro j σ H7 hj ⟨v7,v8,as,es,rfl,P7,hm7,hr7,hel,hes⟩;obtain⟨n7,e7⟩:=P7.has;walk_at "w";refine⟨zaR (by omega) (by omega),_,_,e7,fun d8 n8 d80 d81=>?_⟩;have P8:=P7.draw n8;have Q8:=Pu.of_draw n8 e7;generalize hg8:upd _ pp _=H8 at P8 Q8 ⊢;have e8:H8 pp=some (.lst [.int n8,.int k]):=by rw [← hg8];exact zae
     clear hg8;walk_at "w";refine⟨by decide,_,_,e8,fun d9 n9 d90 d91=>?_⟩;have P9:=P8.draw n9;have Q9:=Pu.of_draw n9 e8;generalize hg9:upd _ pp _=H9 at P9 Q9 ⊢;have e9:H9 pp=some (.lst [.int n9,.int k]):=by rw [← hg9];exact zae
     clear hg9;walk_at "w";refine⟨.inl ⟨by omega,by omega⟩,fun m9 hm9 _=>?_⟩;have hm9:m9=2*d9:=hm9;walk_at "w";refine⟨zaR (by omega) (by omega),_,_,e9,fun d10 n10 d100 d101=>?_⟩;have P10:=P9.draw n10;have Q10:=Pu.of_draw n10 e9;generalize hg10:upd _ pp _=H10 at P10 Q10 ⊢;have e10:H10 pp=some (.lst [.int n10,.int k]):=by rw [← hg10];exact zae
     clear hg10;walk_at "w";refine⟨by show 3<=sizeLine;decide,?_⟩;intro p11 n11;generalize U':upd _ p11 _=H11;obtain ⟨S11,e11⟩:=zai n11 U';clear U';have P11:=P10.sub S11;have E11:Ent H11 p11 [d8,m9-1,d10]:=e11;have st11:zdO H7 H11:=⟨fun a xs z=>S11 _ _ (((Q8.trans Q9).trans Q10).stay.tup a xs z),fun a xs z=>S11 _ _ (((Q8.trans Q9).trans Q10).stay.refs a xs z)⟩;have hr11:=hr7.stay st11;have hm11:=hm7.stay st11;have ok11:zax (1+d1) (2+d2) [d8,m9-1,d10]=true:=by
      show ((decide (0<=d8) && decide (d8<2+d2)) && (decide (m9-1=-1) || decide (m9-1=1)) && (decide (0<=d10) && decide (d10<1+d1)))=true
      have:m9-1=-1\/m9-1=1:=by omega
      simp [d80,d81,d100,d101,this]
     walk_at "w";refine ifB.dec (fun hk=>?_) (fun hk=>?_)
     ·walk_at "w";refine⟨.inl ⟨by omega,by omega⟩,fun m12 hm12 _=>?_⟩;have hm12:m12=2*d3:=hm12;obtain⟨n11,f11⟩:=P11.has;have e11:=f11;walk_at "w";refine⟨zaR (by omega) (by omega),_,_,e11,fun d13 n13 d130 d131=>?_⟩;have P13:=P11.draw n13;have Q13:=Pu.of_draw n13 e11;generalize hg13:upd _ pp _=H13 at P13 Q13 ⊢;have e13:H13 pp=some (.lst [.int n13,.int k]):=by rw [← hg13];exact zae
      clear hg13;walk_at "w";have st13:zdO H11 H13:=(Q13:Pu pp k H11 H13).stay;have hr13:=hr11.stay st13;have hm13:=hm11.stay st13;have E13:=E11.stay st13;refine ifB.mk (fun hz=>?_) (fun hz=>?_)
      ·walk_at "w";refine⟨by show 0<=sizeLine;decide,?_⟩;intro p14 n14;generalize U':upd _ p14 _=H14;obtain ⟨S14,e14⟩:=zai n14 U';clear U';have P14:=P13.sub S14;have hr14:=hr13.stay (.sub S14);have hm14:=hm13.stay (.sub S14);have E14:Ent H14 p14 []:=e14;refine⟨.inl ⟨rfl,_,SqL.of hr14.1⟩,?_⟩;refine⟨_,hr14.1,?_,_,_,as++[p14],es++[[]],rfl,P14.set nr,hm14.other hr14.1 npf nrs,hr14.app' E14,by simp [hel],?_⟩
       ·rw [znA,hr14.2.1,hel];exact Nat.lt_trans hj (znO (show (2+d2).toNat<=4 by omega) (by decide))
       ·intro y hy;rcases znL.1 hy with hy | hy
        ·exact hes y hy
        ·rw [znJ.1 hy]
         rfl
      ·skip
       refine⟨.inl ⟨rfl,_,SqL.of hr13.1⟩,?_⟩;refine⟨_,hr13.1,?_,_,_,as++[p11],es++[[d8,m9-1,d10]],rfl,P13.set nr,hm13.other hr13.1 npf nrs,hr13.app' E13,by simp [hel],?_⟩
       ·rw [znA,hr13.2.1,hel];exact Nat.lt_trans hj (znO (show (2+d2).toNat<=4 by omega) (by decide))
       ·intro y hy;rcases znL.1 hy with hy | hy
        ·exact hes y hy
        ·rw [znJ.1 hy];exact ok11
     ·walk_at "w";refine ifB.no rfl ?_;refine⟨.inl ⟨rfl,_,SqL.of hr11.1⟩,?_⟩;refine⟨_,hr11.1,?_,_,_,as++[p11],es++[[d8,m9-1,d10]],rfl,P11.set nr,hm11.other hr11.1 npf nrs,hr11.app' E11,by simp [hel],?_⟩
      ·rw [znA,hr11.2.1,hel];exact Nat.lt_trans hj (znO (show (2+d2).toNat<=4 by omega) (by decide))
      ·intro y hy;rcases znL.1 hy with hy | hy
       ·exact hes y hy
       ·rw [znJ.1 hy];exact ok11
    ·rintro σ H7 ⟨v7,v8,as,es,rfl,P7,hm7,hr7,hel,hes⟩;refine⟨.inl ⟨rfl,_,SqL.of hm7.1⟩,?_⟩;refine⟨_,hm7.1,?_,_,_,_,_,rs++[p6],m++[es],rfl,P7.set nf,hm7.app' ⟨as,hr7⟩ nrs npf,by simp [hml],?_,?_⟩
     ·rw [znA,hm7.2.2.1,hml];exact Nat.lt_trans hi (znO (show (1+d1).toNat<=4 by omega) (by decide))
     ·intro r hr;rcases znL.1 hr with hr | hr
      ·exact hrs r hr
      ·rw [znJ.1 hr];exact nr
     ·intro r hr;rcases znL.1 hr with hr | hr
      ·exact hme r hr
      ·rw [znJ.1 hr];exact⟨by omega,hes⟩
   ·rintro σ H5 ⟨v5,v6,v7,v8,rs,m,rfl,P5,hm,hml,hrs,hme⟩;walk_at "w";refine ifB.mk (fun _=>?_) (fun _=>?_)
    ·walk_at "w";refine⟨by show 0<=sizeLine;decide,?_⟩;intro p6 n6;generalize U':upd _ p6 _=H6;obtain ⟨S6,e6⟩:=zai n6 U';clear U';have P6:=P5.sub S6;obtain⟨n6',e6'⟩:=P6.has;have E6:Ent H6 p6 []:=e6;have e6:=e6';have hm6:=hm.stay (.sub S6);walk_at "w";refine⟨zaR (by omega) (by omega),_,_,e6,fun d7 n7 d70 d71=>?_⟩;have P7:=P6.draw n7;have Q7:=Pu.of_draw n7 e6;generalize hg7:upd _ pp _=H7 at P7 Q7 ⊢;have e7:H7 pp=some (.lst [.int n7,.int k]):=by rw [← hg7];exact zae
     clear hg7;walk_at "w";have hm7:=hm6.stay (Q7:Pu pp k H6 H7).stay;have E7:=E6.stay Q7.stay;have hlt:d7.toNat<rs.length:=by rw [hm7.2.2.1,hml];omega
     have hrd:rs[d7.toNat]?=some rs[d7.toNat]:=znC hlt;refine⟨_,_,SqL.of hm7.1,zbh (v:=V.ref rs[d7.toNat]) d70 (by rw [znB,hrd];rfl),?_⟩;walk_at "w";refine⟨zaR (by omega) (by omega),_,_,e7,fun d8 n8 d80 d81=>?_⟩;have P8:=P7.draw n8;have Q8:=Pu.of_draw n8 e7;generalize hg8:upd _ pp _=H8 at P8 Q8 ⊢;have e8:H8 pp=some (.lst [.int n8,.int k]):=by rw [← hg8];exact zae
     clear hg8;walk_at "w";have hm8:=hm7.stay (Q8:Pu pp k H7 H8).stay;have E8:=E7.stay Q8.stay;obtain⟨es,hes,as,hra⟩:=hm8.2.2.at hrd;have hel:=(hme es (znF hes)).1;refine⟨_,d8.toNat,hra.1,?_,?_⟩
     ·exact zbA d80 (by rw [znA,hra.2.1];omega)
     ·refine h p4 (m.set d7.toNat (es.set d8.toNat [])) _ (P8.set (hrs _ (znF hrd))) nf ⟨rs,hm8.rowSet hrd hra E8⟩ ?_;refine zda (rows:=1+d1) (signs:=2+d2) (by rw [znX];omega) (by omega) (by omega) (by omega) (by omega) fun r hr=>?_
      rcases List.mem_or_eq_of_mem_set hr with hr | rfl
      ·exact hme r hr
      ·refine⟨by rw [znX];exact hel,fun e he=>?_⟩;rcases List.mem_or_eq_of_mem_set he with he | rfl
       ·exact (hme es (znF hes)).2 e he
       ·rfl
    ·exact h p4 m H5 P5 nf ⟨rs,hm⟩ (zda (rows:=1+d1) (signs:=2+d2) (by omega) (by omega) (by omega) (by omega) (by omega) hme)
  ·exact h.elim
theorem zgf:zar ["_law_purse_here","_law_signs","_law_way","_law_long","_law_rows","_law_found","_law_k","_law_row"] ["_law_purse_here"] (zaf zcz):=by walk_at "s"
def zib:Sp:=fun vs H Q _=>match vs with
 | [.ref pp]=>∃ n k:Int,H pp=some (.lst [.int n,.int k])/\∀ (q:Addr) (m:Ma) (H':Hp),Pu pp k H H'->H q=none->zc2 H' q m->isM m=true->Q (.ref q) H'
 | _=>False
theorem ok3 {rows signs s w r:Int} (h0:0<=s) (h1:s<signs) (h2:w=-1\/w=1) (h3:0<=r) (h4:r<rows):zax rows signs [s,w,r]=true:=by
 show ((decide (0<=s) && decide (s<signs)) && (decide (w=-1) || decide (w=1)) && (decide (0<=r) && decide (r<rows)))=true;simp [h0,h1,h2,h3,h4]
theorem zjb {H:Hp} {r a:Addr} {as:List Addr} {es:List En} {e:En} {j:Nat} (h:zdq H r as es) (he:Ent H a e):zdq (upd H r (.lst ((as.map V.ref).set j (V.ref a)))) r (as.set j a) (es.set j e):=by
 rw [zdh];exact⟨zae,(h.2.mono fun _ _ _ z=>z.upd h.1).set (he.upd h.1)⟩
theorem ziW (T:Tx K mg a):zbu P w K mg base CX0 2 a.l_led a.l_led_d ["_law_purse_here"] (zib):=by
 have G_l_draw:=zbS (P:=P) (w:=w) (base:=base) T;refine T.f_l_led.ok zgf (fun vs H Q E h=>?_) (fun cdv A outer s H vs Q E hr h=>?_)
 ·unfold zib at h;split at h
  ·rfl
  ·exact h.elim
 ·unfold zib at h;split at h
  ·have nd:=zgf.nd;have hu:=za5 hr;rename_i pp;obtain⟨n,k,hp,h⟩:=h;have P0:Pu pp k H H:=Pu.refl ⟨n,hp⟩;have e0:=hp;refine⟨_,(zab (zao (i:=1) nd rfl (by walk_at "o") (zav zbx zad (zah G_l_draw (hr.mono (by decide)) rfl T.g_l_draw T.f_l_draw.kp T.b_l_draw .nil zan (zaa (qv 0) (zaa zad zac)))))
  (zab (zao (i:=2) nd rfl (by walk_at "o") (zav zeb (zav zcw zad (zah G_l_draw (hr.mono (by decide)) rfl T.g_l_draw T.f_l_draw.kp T.b_l_draw .nil zan (zaa (qv 0) (zaa zad zac)))) zad))
  (zab (zao (i:=3) nd rfl (by walk_at "o") (zav zbx zad (zah G_l_draw (hr.mono (by decide)) rfl T.g_l_draw T.f_l_draw.kp T.b_l_draw .nil zan (zaa (qv 0) (zaa zad zac)))))
  (zab (zao (i:=4) nd rfl (by walk_at "o") zad)
  (zab (zao (i:=5) nd rfl (by walk_at "o") (zaZ zac))
  (zab (zb8 PassesOwn.never rfl (zbs rfl T.z_range (zaa (qv 4) zac)) (zak (i:=6) nd rfl (by walk_at "o")) (zab (zi5 (j:=7) rfl nd rfl (by walk_at "o") (own:=["_law_j"]) (fr:=[0,1,4]) (by walk_at "comp_ok") (zbs rfl T.z_range (zaa (qv 1) zac)) (fun _ _ _ _=>(zak (i:=0) (show List.Nodup (α:=Str) ["_law_j","_law_purse_here","_law_signs","_law_rows"] from by decide +kernel) rfl (by walk_at "o"))) (fun _ _ _ _=>zbw) (fun _ _ _ _=>(zay (zaa (zah G_l_draw (hr.mono (by decide)) rfl T.g_l_draw T.f_l_draw.kp T.b_l_draw .nil zan (zaa (qv 1) (zaa (qv 2) zac))) (zaa (zav zeb (zav zcw zad (zah G_l_draw (hr.mono (by decide)) rfl T.g_l_draw T.f_l_draw.kp T.b_l_draw .nil zan (zaa (qv 1) (zaa zad zac)))) zad) (zaa (zah G_l_draw (hr.mono (by decide)) rfl T.g_l_draw T.f_l_draw.kp T.b_l_draw .nil zan (zaa (qv 1) (zaa (qv 3) zac))) zac))))))
    (zab (zbL (zay (zaa (zah G_l_draw (hr.mono (by decide)) rfl T.g_l_draw T.f_l_draw.kp T.b_l_draw .nil zan (zaa (qv 0) (zaa (qv 1) zac))) (zaa (qv 2) (zaa (zav zgF (zav zbx (qv 6) zad) (zav zbx (qv 3) zad)) zac)))) (zcG (qv 7) zad zcH))
    (zag (zbr (zfn PySem.F.plainAttrs_list PySem.F.slot_list_append PySem.F.type_list_append zfr (qv 5) (zaa (qv 7) zac)))))))
  (zab (zcP (zcv zgQ (zah G_l_draw (hr.mono (by decide)) rfl T.g_l_draw T.f_l_draw.kp T.b_l_draw .nil zan (zaa (qv 0) (zaa zad zac))) zad) (zab (zbL (zay (zaa (zav zbx zad (zah G_l_draw (hr.mono (by decide)) rfl T.g_l_draw T.f_l_draw.kp T.b_l_draw .nil zan (zaa (qv 0) (zaa (zav zeb (qv 1) zad) zac)))) (zaa (qv 2) (zaa zad zac)))) (zcG (zaQ (zaN (K:=K) rfl) (qv 5) zad (fun _ _=>rfl)) zad zcH))
    (zag (zbL (zay (zaa (zah G_l_draw (hr.mono (by decide)) rfl T.g_l_draw T.f_l_draw.kp T.b_l_draw .nil zan (zaa (qv 0) (zaa (qv 1) zac))) (zaa (zav zeb zad (qv 2)) (zaa (zah G_l_draw (hr.mono (by decide)) rfl T.g_l_draw T.f_l_draw.kp T.b_l_draw .nil zan (zaa (qv 0) (zaa zad zac))) zac)))) (zcG (zaQ (zaN (K:=K) rfl) (qv 5) zad (fun _ _=>rfl)) zad zcH)))) zaz)
  (zag (zat (qv 5)))))))))),?_⟩
   walk_at "w";refine⟨by decide,_,_,e0,fun d1 n1 d10 d11=>?_⟩;have P1:=P0.draw n1;have Q1:=Pu.of_draw n1 e0;generalize hg1:upd _ pp _=H1 at P1 Q1 ⊢;have e1:H1 pp=some (.lst [.int n1,.int k]):=by rw [← hg1];exact zae
   clear hg1;walk_at "w";refine⟨by decide,_,_,e1,fun d2 n2 d20 d21=>?_⟩;have P2:=P1.draw n2;have Q2:=Pu.of_draw n2 e1;generalize hg2:upd _ pp _=H2 at P2 Q2 ⊢;have e2:H2 pp=some (.lst [.int n2,.int k]):=by rw [← hg2];exact zae
   clear hg2;walk_at "w";refine⟨.inl ⟨by omega,by omega⟩,fun m2 hm2 _=>?_⟩;have hm2:m2=2*d2:=hm2;walk_at "w";refine⟨by decide,_,_,e2,fun d3 n3 d30 d31=>?_⟩;have P3:=P2.draw n3;have Q3:=Pu.of_draw n3 e2;generalize hg3:upd _ pp _=H3 at P3 Q3 ⊢;have e3:H3 pp=some (.lst [.int n3,.int k]):=by rw [← hg3];exact zae
   clear hg3;walk_at "w";refine⟨by decide,?_⟩;intro p4 n4;generalize U':upd _ p4 _=H4;obtain ⟨S4,e4⟩:=zai n4 U';clear U';have P4:=P3.sub S4;have nf:H p4=none:=P3.free n4;refine⟨⟨by decide,by decide⟩,?_⟩;refine zbo (lo:=0) (n:=4) (fun i σ H5=>∃ (v6 v7:Option V) (rs:List Addr) (m:Ma),σ=[some (.ref pp),some (.int (2+d1)),some (.int (m2-1)),some (.int (1+d3)),some (.int 4),some (.ref p4),v6,v7]/\Pu pp k H H5/\MaR H5 p4 rs m/\m.length=i/\(∀ r∈rs,H r=none)/\∀ r∈m,(r.length:Int)=2+d1/\∀ e∈r,zax 4 (2+d1) e=true) ?_ ?_ ?_
   ·exact⟨none,none,[],[],rfl,P4,⟨e4,by simp,.nil⟩,rfl,by simp,by simp⟩
   ·rintro i σ H5 hi ⟨v6,v7,rs,m,rfl,P5,hm,hml,hrs,hme⟩;refine⟨⟨by omega,by omega⟩,?_⟩;intro pr npr;have nr:H pr=none:=P5.free npr;have S6:Sub H5 (upd H5 pr (.lst [])):=Sub.new npr;have nrs:=hm.out npr;have npf:=hm.outp npr;refine zgn (lo:=0) (n:=(2+d1).toNat) (fun j σ H7=>∃ (v:Option V) (as:List Addr) (es:List En),σ=[v,some (.ref pp),some (.int (2+d1)),some (.int 4)]/\Pu pp k H H7/\MaR H7 p4 rs m/\zdq H7 pr as es/\es.length=j/\∀ e∈es,zax 4 (2+d1) e=true) ?_ ?_ ?_
    ·exact⟨none,[],[],rfl,P5.sub S6,hm.stay (.sub S6),⟨zae,.nil⟩,rfl,by simp⟩
    ·rintro j σ H7 hj ⟨v,as,es,rfl,P7,hm7,hr7,hel,hes⟩;obtain⟨n7,e7⟩:=P7.has;walk_at "w";refine⟨zaR (by omega) (by omega),_,_,e7,fun d8 n8 d80 d81=>?_⟩;have P8:=P7.draw n8;have Q8:=Pu.of_draw n8 e7;generalize hg8:upd _ pp _=H8 at P8 Q8 ⊢;have e8:H8 pp=some (.lst [.int n8,.int k]):=by rw [← hg8];exact zae
     clear hg8;walk_at "w";refine⟨by decide,_,_,e8,fun d9 n9 d90 d91=>?_⟩;have P9:=P8.draw n9;have Q9:=Pu.of_draw n9 e8;generalize hg9:upd _ pp _=H9 at P9 Q9 ⊢;have e9:H9 pp=some (.lst [.int n9,.int k]):=by rw [← hg9];exact zae
     clear hg9;walk_at "w";refine⟨.inl ⟨by omega,by omega⟩,fun m9 hm9 _=>?_⟩;have hm9:m9=2*d9:=hm9;walk_at "w";refine⟨zaR (by omega) (by omega),_,_,e9,fun d10 n10 d100 d101=>?_⟩;have P10:=P9.draw n10;have Q10:=Pu.of_draw n10 e9;generalize hg10:upd _ pp _=H10 at P10 Q10 ⊢;have e10:H10 pp=some (.lst [.int n10,.int k]):=by rw [← hg10];exact zae
     clear hg10;walk_at "w";refine⟨by show 3<=sizeLine;decide,?_⟩;intro p11 n11;generalize U':upd _ p11 _=H11;obtain ⟨S11,e11⟩:=zai n11 U';clear U';have P11:=P10.sub S11;have E11:Ent H11 p11 [d8,m9-1,d10]:=e11;have st11:zdO H7 H11:=⟨fun a xs z=>S11 _ _ (((Q8.trans Q9).trans Q10).stay.tup a xs z),fun a xs z=>S11 _ _ (((Q8.trans Q9).trans Q10).stay.refs a xs z)⟩;have hr11:=hr7.stay st11;have hm11:=hm7.stay st11;have ok11:zax 4 (2+d1) [d8,m9-1,d10]=true:=ok3 d80 d81 (by omega) d100 d101;refine⟨_,hr11.1,?_,_,as++[p11],es++[[d8,m9-1,d10]],rfl,P11.set nr,hm11.other hr11.1 npf nrs,hr11.app' E11,by simp [hel],?_⟩
     ·rw [znA,hr11.2.1,hel];exact Nat.lt_trans hj (znO (show (2+d1).toNat<=4 by omega) (by decide))
     ·intro y hy;rcases znL.1 hy with hy | hy
      ·exact hes y hy
      ·rw [znJ.1 hy];exact ok11
    ·rintro σ H7 ⟨v,as,es,rfl,P7,hm7,hr7,hel,hes⟩;obtain⟨n7,e7⟩:=P7.has;walk_at "w";refine⟨zaR (by omega) (by omega),_,_,e7,fun d8 n8 d80 d81=>?_⟩;have P8:=P7.draw n8;have Q8:=Pu.of_draw n8 e7;generalize hg8:upd _ pp _=H8 at P8 Q8 ⊢;have e8:H8 pp=some (.lst [.int n8,.int k]):=by rw [← hg8];exact zae
     clear hg8;walk_at "w";have hm8:=hm7.stay Q8.stay;have hr8:=hr7.stay Q8.stay;refine⟨by omega,fun dm _ ⟨dm0,dm1⟩=>?_⟩;refine⟨by show 3<=sizeLine;decide,?_⟩;intro p9 n9;generalize U':upd _ p9 _=H9;obtain ⟨S9,e9⟩:=zai n9 U';clear U';have E9:Ent H9 p9 [d8,m2-1,dm]:=e9;have P9:=P8.sub S9;have hm9:=hm8.stay (.sub S9);have hr9:=hr8.stay (.sub S9);refine⟨_,0,hr9.1,?_,?_⟩
     ·exact zbA (i:=0) (by decide) (by rw [znA,hr9.2.1,hel];omega)
     have hr10:=zjb (j:=0) hr9 E9;have hm10:MaR (upd H9 pr (.lst ((as.map V.ref).set 0 (V.ref p9)))) p4 rs m:=hm9.other hr9.1 npf nrs;have P10:Pu pp k H (upd H9 pr (.lst ((as.map V.ref).set 0 (V.ref p9)))):=P9.set nr;generalize upd H9 pr (.lst ((as.map V.ref).set 0 (V.ref p9)))=H10 at hr10 hm10 P10 ⊢;refine⟨.inl ⟨rfl,_,SqL.of hm10.1⟩,?_⟩;refine⟨_,hm10.1,?_,_,_,rs++[pr],m++[es.set 0 [d8,m2-1,dm]],rfl,P10.set nf,hm10.app' ⟨_,hr10⟩ nrs npf,by simp [hml],?_,?_⟩
     ·rw [znA,hm10.2.2.1,hml];exact Nat.lt_trans hi (by decide)
     ·intro r hr;rcases znL.1 hr with hr | hr
      ·exact hrs r hr
      ·rw [znJ.1 hr];exact nr
     ·intro r hr;rcases znL.1 hr with hr | hr
      ·exact hme r hr
      ·rw [znJ.1 hr];refine⟨by rw [znX];omega,fun e he=>?_⟩;rcases List.mem_or_eq_of_mem_set he with he | rfl
       ·exact hes e he
       ·exact ok3 d80 d81 (by omega) dm0 (by have:=dm1;omega)
   ·rintro σ H5 ⟨v6,v7,rs,m,rfl,P5,hm,hml,hrs,hme⟩;obtain⟨n5,e5⟩:=P5.has;walk_at "w";refine⟨by decide,_,_,e5,fun d6 n6 d60 d61=>?_⟩;have P6:=P5.draw n6;have Q6:=Pu.of_draw n6 e5;generalize hg6:upd _ pp _=H6 at P6 Q6 ⊢;have e6:H6 pp=some (.lst [.int n6,.int k]):=by rw [← hg6];exact zae
    clear hg6;walk_at "w";have hm6:=hm.stay Q6.stay;refine ifB.mk (fun _=>?_) (fun _=>?_)
    ·walk_at "w";refine⟨zaR (by omega) (by omega),_,_,e6,fun d7 n7 d70 d71=>?_⟩;have P7:=P6.draw n7;have Q7:=Pu.of_draw n7 e6;generalize hg7:upd _ pp _=H7 at P7 Q7 ⊢;have e7:H7 pp=some (.lst [.int n7,.int k]):=by rw [← hg7];exact zae
     clear hg7;walk_at "w";have hm7:=hm6.stay Q7.stay;refine⟨by show 3<=sizeLine;decide,?_⟩;intro p8 n8;generalize U':upd _ p8 _=H8;obtain ⟨S8,e8⟩:=zai n8 U';clear U';have E8:Ent H8 p8 [1+d7,m2-1,1]:=e8;have P8:=P7.sub S8;have hm8:=hm7.stay (.sub S8);walk_at "w";have hl0:0<rs.length:=by rw [hm8.2.2.1,hml];decide
     have hrd:rs[0]?=some rs[0]:=znC hl0;refine⟨_,_,SqL.of hm8.1,zcq (j:=0) (v:=V.ref rs[0]) (by rw [znB,hrd];rfl),?_⟩;obtain⟨es,hes,as,hra⟩:=hm8.2.2.at hrd;have hel:=(hme es (znF hes)).1;refine⟨_,0,hra.1,?_,?_⟩
     ·exact zbA (i:=0) (by decide) (by rw [znA,hra.2.1];omega)
     have hm9:MaR (upd H8 rs[0] (.lst ((as.map V.ref).set 0 (V.ref p8)))) p4 rs (m.set 0 (es.set 0 [1+d7,m2-1,1])):=hm8.rowSet hrd hra E8;have P9:Pu pp k H (upd H8 rs[0] (.lst ((as.map V.ref).set 0 (V.ref p8)))):=P8.set (hrs _ (znF hrd));generalize upd H8 rs[0] (.lst ((as.map V.ref).set 0 (V.ref p8)))=H9 at hm9 P9 ⊢;have hme9:∀ r∈m.set 0 (es.set 0 [1+d7,m2-1,1]),(r.length:Int)=2+d1/\∀ e∈r,zax 4 (2+d1) e=true:=by
      intro r hr;rcases List.mem_or_eq_of_mem_set hr with hr | rfl
      ·exact hme r hr
      ·refine⟨by rw [znX];exact hel,fun e he=>?_⟩;rcases List.mem_or_eq_of_mem_set he with he | rfl
       ·exact (hme es (znF hes)).2 e he
       ·exact ok3 (by omega) (by omega) (by omega) (by decide) (by decide)
     have hml9:(m.set 0 (es.set 0 [1+d7,m2-1,1])).length=4:=by rw [znX];exact hml
     generalize m.set 0 (es.set 0 [1+d7,m2-1,1])=m9 at hm9 hme9 hml9;clear hel hra hes hrd es as;obtain⟨n9,e9⟩:=P9.has;walk_at "w";refine⟨zaR (by omega) (by omega),_,_,e9,fun d10 n10 d100 d101=>?_⟩;have P10:=P9.draw n10;have Q10:=Pu.of_draw n10 e9;generalize hg10:upd _ pp _=H10 at P10 Q10 ⊢;have e10:H10 pp=some (.lst [.int n10,.int k]):=by rw [← hg10];exact zae
     clear hg10;walk_at "w";refine⟨by decide,_,_,e10,fun d11 n11 d110 d111=>?_⟩;have P11:=P10.draw n11;have Q11:=Pu.of_draw n11 e10;generalize hg11:upd _ pp _=H11 at P11 Q11 ⊢;have e11:H11 pp=some (.lst [.int n11,.int k]):=by rw [← hg11];exact zae
     clear hg11;walk_at "w";have hm11:=hm9.stay (Q10.trans Q11).stay;refine⟨by show 3<=sizeLine;decide,?_⟩;intro p12 n12;generalize U':upd _ p12 _=H12;obtain ⟨S12,e12⟩:=zai n12 U';clear U';have E12:Ent H12 p12 [d10,0-(m2-1),d11]:=e12;have P12:=P11.sub S12;have hm12:=hm11.stay (.sub S12);walk_at "w";have hl1:1<rs.length:=by rw [hm12.2.2.1,hml9];decide
     have hrd:rs[1]?=some rs[1]:=znC hl1;refine⟨_,_,SqL.of hm12.1,zcq (j:=1) (v:=V.ref rs[1]) (by rw [znB,hrd];rfl),?_⟩;obtain⟨es,hes,as,hra⟩:=hm12.2.2.at hrd;have hel:=(hme9 es (znF hes)).1;refine⟨_,0,hra.1,?_,?_⟩
     ·exact zbA (i:=0) (by decide) (by rw [znA,hra.2.1];omega)
     refine h p4 (m9.set 1 (es.set 0 [d10,0-(m2-1),d11])) _ (P12.set (hrs _ (znF hrd))) nf ⟨rs,hm12.rowSet hrd hra E12⟩ ?_;refine zda (rows:=4) (signs:=2+d1) (by rw [znX];omega) (by decide) (by decide) (by omega) (by omega) fun r hr=>?_
     rcases List.mem_or_eq_of_mem_set hr with hr | rfl
     ·exact hme9 r hr
     ·refine⟨by rw [znX];exact hel,fun e he=>?_⟩;rcases List.mem_or_eq_of_mem_set he with he | rfl
      ·exact (hme9 es (znF hes)).2 e he
      ·exact ok3 d100 d101 (by omega) d110 (by omega)
    ·exact h p4 m H6 P6 nf ⟨rs,hm6⟩ (zda (rows:=4) (signs:=2+d1) (by omega) (by decide) (by decide) (by omega) (by omega) hme)
  ·exact h.elim
theorem zeT:zar ["_law_purse_here","_law_found","_law_kind"] ["_law_purse_here"] (zaf zb5):=by walk_at "s"
def zfA:Sp:=fun vs H Q _=>match vs with
 | [.ref pp]=>∃ n k:Int,H pp=some (.lst [.int n,.int k])/\∀ (q:Addr) (m:Ma) (H':Hp),Pu pp k H H'->H q=none->zc2 H' q m->isM m=true->Q (.ref q) H'
 | _=>False
def ziM:Ma:=[[[1,1,1],[1,-1,1]],[[1,-1,0],[0,-1,2]],[[],[1,-1,3]],[[1,1,3],[0,1,0]]]
theorem zb0:∀ r∈ziM,r.length=2/\∀ e∈r,zax 4 2 e=true:=by decide
theorem zgs {rows signs signs':Int} {e:En} (h:zax rows signs e=true) (hs:signs<=signs'):zax rows signs' e=true:=by
 by_cases z:e=[]
 ·subst z;rfl
 ·obtain⟨s,w,r,rfl,a0,a1,a2,a3,a4⟩:=zaC h z;exact ok3 a0 (by omega) a2 a3 a4
theorem zhL (T:Tx K mg a):zbu P w K mg base CX0 2 a.l_late a.l_late_d ["_law_purse_here"] (zfA):=by
 have G_l_draw:=zbS (P:=P) (w:=w) (base:=base) T;refine T.f_l_late.ok zeT (fun vs H Q E h=>?_) (fun cdv A outer s H vs Q E hr h=>?_)
 ·unfold zfA at h;split at h
  ·rfl
  ·exact h.elim
 ·unfold zfA at h;split at h
  ·have nd:=zeT.nd;have hu:=za5 hr;rename_i pp;obtain⟨n,k,hp,h⟩:=h;have P0:Pu pp k H H:=Pu.refl ⟨n,hp⟩;refine⟨_,(zab (zao (i:=1) nd rfl (by walk_at "o") (@zaZ _ _ _ _ (@zaa _ _ _ _ _ (@zaZ _ _ _ _ (@zaa _ _ _ _ _ (@zay _ _ _ _ _ (@zaa _ _ _ _ _ zad (@zaa _ _ _ _ _ zad (@zaa _ _ _ _ _ zad zac (by rfl)) (by rfl)) (by rfl))) (@zaa _ _ _ _ _ (@zay _ _ _ _ _ (@zaa _ _ _ _ _ zad (@zaa _ _ _ _ _ (zhR zh3 zad) (@zaa _ _ _ _ _ zad zac (by rfl)) (by rfl)) (by rfl))) zac (by rfl)) (by rfl))) (@zaa _ _ _ _ _ (@zaZ _ _ _ _ (@zaa _ _ _ _ _ (@zay _ _ _ _ _ (@zaa _ _ _ _ _ zad (@zaa _ _ _ _ _ (zhR zh3 zad) (@zaa _ _ _ _ _ zad zac (by rfl)) (by rfl)) (by rfl))) (@zaa _ _ _ _ _ (@zay _ _ _ _ _ (@zaa _ _ _ _ _ zad (@zaa _ _ _ _ _ (zhR zh3 zad) (@zaa _ _ _ _ _ zad zac (by rfl)) (by rfl)) (by rfl))) zac (by rfl)) (by rfl))) (@zaa _ _ _ _ _ (@zaZ _ _ _ _ (@zaa _ _ _ _ _ (@zay _ _ _ _ _ zac) (@zaa _ _ _ _ _ (@zay _ _ _ _ _ (@zaa _ _ _ _ _ zad (@zaa _ _ _ _ _ (zhR zh3 zad) (@zaa _ _ _ _ _ zad zac (by rfl)) (by rfl)) (by rfl))) zac (by rfl)) (by rfl))) (@zaa _ _ _ _ _ (@zaZ _ _ _ _ (@zaa _ _ _ _ _ (@zay _ _ _ _ _ (@zaa _ _ _ _ _ zad (@zaa _ _ _ _ _ zad (@zaa _ _ _ _ _ zad zac (by rfl)) (by rfl)) (by rfl))) (@zaa _ _ _ _ _ (@zay _ _ _ _ _ (@zaa _ _ _ _ _ zad (@zaa _ _ _ _ _ zad (@zaa _ _ _ _ _ zad zac (by rfl)) (by rfl)) (by rfl))) zac (by rfl)) (by rfl))) zac (by rfl)) (by rfl)) (by rfl)) (by rfl))))
  (zab (zao (i:=2) nd rfl (by walk_at "o") (zah G_l_draw (hr.mono (by decide)) rfl T.g_l_draw T.f_l_draw.kp T.b_l_draw .nil zan (zaa (qv 0) (zaa zad zac))))
  (zab (zcP (zcv zgQ (qv 2) zad) (zag (zat (qv 1))) zaz)
  (zab (zcP (zcv zk8 (qv 2) zad) (zab (zi5 (j:=1) rfl nd rfl (by walk_at "o") (own:=["_law_row"]) (fr:=[0]) (by walk_at "comp_ok") (za8 (K:=K) rfl (qv 1)) (fun _ _ _ _=>(zak (i:=0) (show List.Nodup (α:=Str) ["_law_row","_law_purse_here"] from by decide +kernel) rfl (by walk_at "o"))) (fun _ _ _ _=>zbw) (fun _ _ _ _=>(zav zkM (qv 0) (zaZ (zaa (zay (zaa (zah G_l_draw (hr.mono (by decide)) rfl T.g_l_draw T.f_l_draw.kp T.b_l_draw .nil zan (zaa (qv 1) (zaa zad zac))) (zaa (zav zeb (zav zcw zad (zah G_l_draw (hr.mono (by decide)) rfl T.g_l_draw T.f_l_draw.kp T.b_l_draw .nil zan (zaa (qv 1) (zaa zad zac)))) zad) (zaa (zah G_l_draw (hr.mono (by decide)) rfl T.g_l_draw T.f_l_draw.kp T.b_l_draw .nil zan (zaa (qv 1) (zaa zad zac))) zac)))) zac)))))
    (zab (zbL (zay (zaa zad (zaa (zav zeb (zav zcw zad (zah G_l_draw (hr.mono (by decide)) rfl T.g_l_draw T.f_l_draw.kp T.b_l_draw .nil zan (zaa (qv 0) (zaa zad zac)))) zad) (zaa zad zac)))) (zcG (zaQ (zaN (K:=K) rfl) (qv 1) zad (fun _ _=>rfl)) zad zcH))
    (zag (zat (qv 1))))) zaz)
  (zab (zbL (zay (zaa (zah G_l_draw (hr.mono (by decide)) rfl T.g_l_draw T.f_l_draw.kp T.b_l_draw .nil zan (zaa (qv 0) (zaa zad zac))) (zaa (zav zeb (zav zcw zad (zah G_l_draw (hr.mono (by decide)) rfl T.g_l_draw T.f_l_draw.kp T.b_l_draw .nil zan (zaa (qv 0) (zaa zad zac)))) zad) (zaa (zah G_l_draw (hr.mono (by decide)) rfl T.g_l_draw T.f_l_draw.kp T.b_l_draw .nil zan (zaa (qv 0) (zaa zad zac))) zac)))) (zcG (zaQ (zaN (K:=K) rfl) (qv 1) zad (fun _ _=>rfl)) zad zcH))
  (zag (zat (qv 1)))))))),?_⟩
   refine⟨by show 3<=sizeLine;decide,?_⟩;intro p1 n1;generalize U':upd _ p1 _=H1;obtain ⟨S1,e1⟩:=zai n1 U';clear U';refine⟨by show 3<=sizeLine;decide,?_⟩;intro p2 n2;generalize U':upd _ p2 _=H2;obtain ⟨S2,e2⟩:=zai n2 U';clear U';refine⟨by show 2<=sizeLine;decide,?_⟩;intro p3 n3;generalize U':upd _ p3 _=H3;obtain ⟨S3,e3⟩:=zai n3 U';clear U';refine⟨by show 3<=sizeLine;decide,?_⟩;intro p4 n4;generalize U':upd _ p4 _=H4;obtain ⟨S4,e4⟩:=zai n4 U';clear U';refine⟨by show 3<=sizeLine;decide,?_⟩;intro p5 n5;generalize U':upd _ p5 _=H5;obtain ⟨S5,e5⟩:=zai n5 U';clear U';refine⟨by show 2<=sizeLine;decide,?_⟩;intro p6 n6;generalize U':upd _ p6 _=H6;obtain ⟨S6,e6⟩:=zai n6 U';clear U';refine⟨by show 0<=sizeLine;decide,?_⟩;intro p7 n7;generalize U':upd _ p7 _=H7;obtain ⟨S7,e7⟩:=zai n7 U';clear U';refine⟨by show 3<=sizeLine;decide,?_⟩;intro p8 n8;generalize U':upd _ p8 _=H8;obtain ⟨S8,e8⟩:=zai n8 U';clear U';refine⟨by show 2<=sizeLine;decide,?_⟩;intro p9 n9;generalize U':upd _ p9 _=H9;obtain ⟨S9,e9⟩:=zai n9 U';clear U';refine⟨by show 3<=sizeLine;decide,?_⟩;intro p10 n10;generalize U':upd _ p10 _=H10;obtain ⟨S10,e10⟩:=zai n10 U';clear U';refine⟨by show 3<=sizeLine;decide,?_⟩;intro p11 n11;generalize U':upd _ p11 _=H11;obtain ⟨S11,e11⟩:=zai n11 U';clear U';refine⟨by show 2<=sizeLine;decide,?_⟩;intro p12 n12;generalize U':upd _ p12 _=H12;obtain ⟨S12,e12⟩:=zai n12 U';clear U';refine⟨by show 4<=sizeLine;decide,?_⟩;intro p13 n13;generalize U':upd _ p13 _=H13;obtain ⟨S13,e13⟩:=zai n13 U';clear U';have U12:=S13;have U11:=S12.trans U12;have U10:=S11.trans U11;have U9:=S10.trans U10;have U8:=S9.trans U9;have U7:=S8.trans U8;have U6:=S7.trans U7;have U5:=S6.trans U6;have U4:=S5.trans U5;have U3:=S4.trans U4;have U2:=S3.trans U3;have U1:=S2.trans U2;have U0:=S1.trans U1;have F0:∀ q,H q=none->True:=fun _ _=>trivial
   have V1:=S1;have V2:=V1.trans S2;have V3:=V2.trans S3;have V4:=V3.trans S4;have V5:=V4.trans S5;have V6:=V5.trans S6;have V7:=V6.trans S7;have V8:=V7.trans S8;have V9:=V8.trans S9;have V10:=V9.trans S10;have V11:=V10.trans S11;have V12:=V11.trans S12;have g3:H p3=none:=V2.free n3;have g6:H p6=none:=V5.free n6;have g9:H p9=none:=V8.free n9;have g12:H p12=none:=V11.free n12;have g13:H p13=none:=V12.free n13;have E1:Ent H13 p1 [1,1,1]:=U1 _ _ e1;have E2:Ent H13 p2 [1,-1,1]:=U2 _ _ e2;have E4:Ent H13 p4 [1,-1,0]:=U4 _ _ e4;have E5:Ent H13 p5 [0,-1,2]:=U5 _ _ e5;have E7:Ent H13 p7 []:=U7 _ _ e7;have E8:Ent H13 p8 [1,-1,3]:=U8 _ _ e8;have E10:Ent H13 p10 [1,1,3]:=U10 _ _ e10;have E11:Ent H13 p11 [0,1,0]:=U11 _ _ e11;have R3:Row H13 p3 [[1,1,1],[1,-1,1]]:=⟨[p1,p2],U3 _ _ e3,(zaY.app (zaY.app .nil E1) E2)⟩;have R6:Row H13 p6 [[1,-1,0],[0,-1,2]]:=⟨[p4,p5],U6 _ _ e6,(zaY.app (zaY.app .nil E4) E5)⟩;have R9:Row H13 p9 [[],[1,-1,3]]:=⟨[p7,p8],U9 _ _ e9,(zaY.app (zaY.app .nil E7) E8)⟩;have R12:Row H13 p12 [[1,1,3],[0,1,0]]:=⟨[p10,p11],U12 _ _ e12,(zaY.app (zaY.app .nil E10) E11)⟩;have x3_6:p3≠p6:=zaj ((S4.trans S5) _ _ e3) n6;have x3_9:p3≠p9:=zaj (((((S4.trans S5).trans S6).trans S7).trans S8) _ _ e3) n9;have x3_12:p3≠p12:=zaj ((((((((S4.trans S5).trans S6).trans S7).trans S8).trans S9).trans S10).trans S11) _ _ e3) n12;have x6_9:p6≠p9:=zaj ((S7.trans S8) _ _ e6) n9;have x6_12:p6≠p12:=zaj (((((S7.trans S8).trans S9).trans S10).trans S11) _ _ e6) n12;have x9_12:p9≠p12:=zaj ((S10.trans S11) _ _ e9) n12;have M13:MaR H13 p13 [p3,p6,p9,p12] ziM:=⟨e13,by simp [x3_6,x3_9,x3_12,x6_9,x6_12,x9_12],zaY.app (zaY.app (zaY.app (zaY.app .nil R3) R6) R9) R12⟩;have frs:∀ r∈[p3,p6,p9,p12],H r=none:=by
    intro r hr;simp only [zoh,List.not_mem_nil,or_false] at hr;rcases hr with rfl | rfl | rfl | rfl
    ·exact g3
    ·exact g6
    ·exact g9
    ·exact g12
   have P13:=P0.sub U0;have f13:=U0 _ _ hp;have g13':=g13;generalize [p3,p6,p9,p12]=rs at M13 frs;generalize hq:p13=q at M13 g13 ⊢;have e13:=f13;clear V1 V2 V3 V4 V5 V6 V7 V8 V9 V10 V11 V12;walk_at "w";refine⟨by decide,_,_,e13,fun d14 n14 d140 d141=>?_⟩;have P14:=P13.draw n14;have Q14:=Pu.of_draw n14 e13;generalize hg14:upd _ pp _=H14 at P14 Q14 ⊢;have e14:H14 pp=some (.lst [.int n14,.int k]):=by rw [← hg14];exact zae
   clear hg14;walk_at "w";have M14:=M13.stay Q14.stay;refine ifB.mk (fun _=>?_) (fun _=>?_)
   ·exact h q ziM H14 P14 g13 ⟨rs,M14⟩ (zda (rows:=4) (signs:=2) (by decide) (by decide) (by decide) (by decide) (by decide) fun r hr=>⟨by rw [(zb0 r hr).1];rfl,(zb0 r hr).2⟩)
   ·walk_at "w";refine ifB.mk (fun _=>?_) (fun _=>?_)
    ·walk_at "w";refine⟨⟨_,SqL.of M14.1⟩,?_⟩;intro pc npc;have S15:Sub H14 (upd H14 pc (.lst [])):=Sub.new npc;have gpc:H pc=none:=P14.free npc;obtain⟨hm14,hnd14,hrw14⟩:=M14;have hlr:rs.length=4:=hrw14.1;refine za4 (K:=K) (a:=q) (xs:=rs.map V.ref) (fun i σ H7=>∃ (v:Option V) (rs':List Addr) (m:Ma),σ=[v,some (.ref pp)]/\Pu pp k H14 H7/\MaR H7 pc rs' m/\m.length=i/\(∀ r∈rs',H14 r=none)/\∀ r∈m,(r.length:Int)=3/\∀ e∈r,zax 4 3 e=true) ?_ ?_ ?_ ?_
     ·exact⟨none,[],[],rfl,(Pu.refl ⟨_,e14⟩).sub S15,⟨zae,by simp,.nil⟩,rfl,by simp,by simp⟩
     ·rintro i σ H7 _ ⟨v,rs',m,rfl,P7,_⟩;exact SqL.of (P7.stay.refs _ _ hm14)
     ·rintro i x σ H7 hi ⟨v,rs',m,rfl,P7,M7,hml,hfr,hme⟩;rw [znB] at hi;obtain⟨c,hc,rfl⟩:=znD.1 hi;obtain⟨es,he,as,hE,hA⟩:=hrw14.at hc;have hi4:i<4:=by rw [← hlr];exact (znE.1 hc).1
      obtain⟨l1,l2⟩:=zb0 es (znF he);have R7:zdq H7 c as es:=zdq.stay P7.stay ⟨hE,hA⟩;obtain⟨n7,e7⟩:=P7.has;walk_at "w";refine⟨by decide,_,_,e7,fun d8 n8 d80 d81=>?_⟩;have P8:=P7.draw n8;have Q8:=Pu.of_draw n8 e7;generalize hg8:upd _ pp _=H8 at P8 Q8 ⊢;have e8:H8 pp=some (.lst [.int n8,.int k]):=by rw [← hg8];exact zae
      clear hg8;walk_at "w";refine⟨by decide,_,_,e8,fun d9 n9 d90 d91=>?_⟩;have P9:=P8.draw n9;have Q9:=Pu.of_draw n9 e8;generalize hg9:upd _ pp _=H9 at P9 Q9 ⊢;have e9:H9 pp=some (.lst [.int n9,.int k]):=by rw [← hg9];exact zae
      clear hg9;walk_at "w";refine⟨.inl ⟨by omega,by omega⟩,fun m9 hm9 _=>?_⟩;have hm9:m9=2*d9:=hm9;walk_at "w";refine⟨by decide,_,_,e9,fun d10 n10 d100 d101=>?_⟩;have P10:=P9.draw n10;have Q10:=Pu.of_draw n10 e9;generalize hg10:upd _ pp _=H10 at P10 Q10 ⊢;have e10:H10 pp=some (.lst [.int n10,.int k]):=by rw [← hg10];exact zae
      clear hg10;walk_at "w";refine⟨by show 3<=sizeLine;decide,?_⟩;intro p11 n11;generalize U':upd _ p11 _=H11;obtain ⟨S11,e11⟩:=zai n11 U';clear U';refine⟨by show 1<=sizeLine;decide,?_⟩;intro p12 n12;generalize U':upd _ p12 _=H12;obtain ⟨S12,e12⟩:=zai n12 U';clear U';have E12:Ent H12 p11 [d8,m9-1,d10]:=S12 _ _ e11;have st12:zdO H7 H12:=((Q8.trans Q9).trans Q10).stay.trans (.sub (S11.trans S12));have R12:=R7.stay st12;have M12:=M7.stay st12;refine⟨_,_,R12.1,e12,?_,?_⟩
      ·rw [znA,R12.2.1,l1];show 2+1<=sizeLine;decide
      intro p13 n13;generalize U':upd _ p13 _=H13;obtain ⟨S13,e13⟩:=zai n13 U';clear U';have R13:Row H13 p13 (es++[[d8,m9-1,d10]]):=⟨as++[p11],by rw [e13,znI];rfl,(R12.2.mono fun _ _ _ z=>S13 _ _ z).app (S13 _ _ E12)⟩;have M13:=M12.stay (.sub S13);have P13:=P10.sub ((S11.trans S12).trans S13);refine⟨_,M13.1,?_,_,rs'++[p13],m++[es++[[d8,m9-1,d10]]],rfl,P13.set npc,M13.app' R13 (M12.out n13) (M12.outp n13),by simp [hml],?_,?_⟩
      ·rw [znA,M13.2.2.1,hml];exact Nat.lt_trans hi4 (by decide)
      ·intro r hr;rcases znL.1 hr with hr | hr
       ·exact hfr r hr
       ·rw [znJ.1 hr];exact P10.free (S11.free (S12.free n13))
      ·intro r hr;rcases znL.1 hr with hr | hr
       ·exact hme r hr
       ·rw [znJ.1 hr];refine⟨by rw [znK,l1];rfl,fun e he=>?_⟩;rcases znL.1 he with he | he
        ·exact zgs (l2 e he) (by decide)
        ·rw [znJ.1 he];exact ok3 d80 d81 (by omega) d100 d101
     ·rintro σ H7 ⟨v,rs',m,rfl,P7,M7,hml,hfr,hme⟩;rw [znA,hlr] at hml;obtain⟨n7,e7⟩:=P7.has;walk_at "w";refine⟨by decide,_,_,e7,fun d8 n8 d80 d81=>?_⟩;have P8:=P7.draw n8;have Q8:=Pu.of_draw n8 e7;generalize hg8:upd _ pp _=H8 at P8 Q8 ⊢;have e8:H8 pp=some (.lst [.int n8,.int k]):=by rw [← hg8];exact zae
      clear hg8;walk_at "w";refine⟨.inl ⟨by omega,by omega⟩,fun m9 hm9 _=>?_⟩;have hm9:m9=2*d8:=hm9;refine⟨by show 3<=sizeLine;decide,?_⟩;intro p9 n9;generalize U':upd _ p9 _=H9;obtain ⟨S9,e9⟩:=zai n9 U';clear U';have E9:Ent H9 p9 [2,m9-1,2]:=e9;have P9:=P8.sub S9;have M9:=(M7.stay Q8.stay).stay (.sub S9);walk_at "w";have hl2:2<rs'.length:=by rw [M9.2.2.1,hml];decide
      have hrd:rs'[2]?=some rs'[2]:=znC hl2;refine⟨_,_,SqL.of M9.1,zcq (j:=2) (v:=V.ref rs'[2]) (by rw [znB,hrd];rfl),?_⟩;obtain⟨es,hes,as,hra⟩:=M9.2.2.at hrd;have hel:=(hme es (znF hes)).1;refine⟨_,0,hra.1,?_,?_⟩
      ·exact zbA (i:=0) (by decide) (by rw [znA,hra.2.1];omega)
      refine h pc (m.set 2 (es.set 0 [2,m9-1,2])) _ ((P14.trans P9).set (P14.free (hfr _ (znF hrd)))) gpc ⟨rs',M9.rowSet hrd hra E9⟩ ?_;refine zda (rows:=4) (signs:=3) (by rw [znX];omega) (by decide) (by decide) (by omega) (by omega) fun r hr=>?_
      rcases List.mem_or_eq_of_mem_set hr with hr | rfl
      ·exact hme r hr
      ·refine⟨by rw [znX];exact hel,fun e he=>?_⟩;rcases List.mem_or_eq_of_mem_set he with he | rfl
       ·exact (hme es (znF hes)).2 e he
       ·exact ok3 (by decide) (by decide) (by omega) (by decide) (by decide)
    ·walk_at "w";refine⟨by decide,_,_,e14,fun d15 n15 d150 d151=>?_⟩;have P15:=P14.draw n15;have Q15:=Pu.of_draw n15 e14;generalize hg15:upd _ pp _=H15 at P15 Q15 ⊢;have e15:H15 pp=some (.lst [.int n15,.int k]):=by rw [← hg15];exact zae
     clear hg15;walk_at "w";refine⟨by decide,_,_,e15,fun d16 n16 d160 d161=>?_⟩;have P16:=P15.draw n16;have Q16:=Pu.of_draw n16 e15;generalize hg16:upd _ pp _=H16 at P16 Q16 ⊢;have e16:H16 pp=some (.lst [.int n16,.int k]):=by rw [← hg16];exact zae
     clear hg16;walk_at "w";refine⟨.inl ⟨by omega,by omega⟩,fun m9 hm9 _=>?_⟩;have hm9:m9=2*d16:=hm9;walk_at "w";refine⟨by decide,_,_,e16,fun d17 n17 d170 d171=>?_⟩;have P17:=P16.draw n17;have Q17:=Pu.of_draw n17 e16;generalize hg17:upd _ pp _=H17 at P17 Q17 ⊢;have e17:H17 pp=some (.lst [.int n17,.int k]):=by rw [← hg17];exact zae
     clear hg17;walk_at "w";refine⟨by show 3<=sizeLine;decide,?_⟩;intro p18 n18;generalize U':upd _ p18 _=H18;obtain ⟨S18,e18⟩:=zai n18 U';clear U';have E18:Ent H18 p18 [d15,m9-1,d17]:=e18;have P18:=P17.sub S18;have M18:=(M14.stay ((Q15.trans Q16).trans Q17).stay).stay (.sub S18);walk_at "w";have hl2:2<rs.length:=by rw [M18.2.2.1];decide
     have hrd:rs[2]?=some rs[2]:=znC hl2;refine⟨_,_,SqL.of M18.1,zcq (j:=2) (v:=V.ref rs[2]) (by rw [znB,hrd];rfl),?_⟩;obtain⟨es,hes,as,hra⟩:=M18.2.2.at hrd;obtain⟨l1,l2⟩:=zb0 es (znF hes);refine⟨_,0,hra.1,?_,?_⟩
     ·exact zbA (i:=0) (by decide) (by rw [znA,hra.2.1,l1];decide)
     refine h q (ziM.set 2 (es.set 0 [d15,m9-1,d17])) _ (P18.set (frs _ (znF hrd))) g13 ⟨rs,M18.rowSet hrd hra E18⟩ ?_;refine zda (rows:=4) (signs:=2) (by rw [znX];decide) (by decide) (by decide) (by decide) (by decide) fun r hr=>?_
     rcases List.mem_or_eq_of_mem_set hr with hr | rfl
     ·exact⟨by rw [(zb0 r hr).1];rfl,(zb0 r hr).2⟩
     ·refine⟨by rw [znX,l1];rfl,fun e he=>?_⟩;rcases List.mem_or_eq_of_mem_set he with he | rfl
      ·exact l2 e he
      ·exact ok3 d150 d151 (by omega) d170 d171
  ·exact h.elim
theorem zge:zar ["_law_purse_here"] ["_law_purse_here"] (zaf zcy):=by walk_at "s"
def zia:Sp:=fun vs H Q _=>match vs with
 | [.ref pp]=>∃ n k:Int,H pp=some (.lst [.int n,.int k])/\∀ (q:Addr) (m:Ma) (H':Hp),Pu pp k H H'->H q=none->zc2 H' q m->isM m=true->Q (.ref q) H'
 | _=>False
theorem ziV (T:Tx K mg a):zbu P w K mg base CX0 3 a.l_any a.l_any_d ["_law_purse_here"] (zia):=by
 have G_l_draw:=zbS (P:=P) (w:=w) (base:=base) T;have G_l_late:=zhL (P:=P) (w:=w) (base:=base) T;have G_l_led:=ziW (P:=P) (w:=w) (base:=base) T;have G_l_machine:=zeG (P:=P) (w:=w) (base:=base) T;refine T.f_l_any.ok zge (fun vs H Q E h=>?_) (fun cdv A outer s H vs Q E hr h=>?_)
 ·unfold zia at h;split at h
  ·rfl
  ·exact h.elim
 ·unfold zia at h;split at h
  ·have nd:=zge.nd;have hu:=za5 hr;rename_i pp;obtain⟨n,k,hp,h⟩:=h;have P0:Pu pp k H H:=Pu.refl ⟨n,hp⟩;have e0:=hp;refine⟨_,(zab (zcP (zcv zgQ (zah G_l_draw (hr.mono (by decide)) rfl T.g_l_draw T.f_l_draw.kp T.b_l_draw .nil zan (zaa (qv 0) (zaa zad zac))) zad) (zag (zat (zah G_l_late (hr.mono (by decide)) rfl T.g_l_late T.f_l_late.kp T.b_l_late .nil zan (zaa (qv 0) zac)))) zaz)
  (zab (zcP (zcv zgQ (zah G_l_draw (hr.mono (by decide)) rfl T.g_l_draw T.f_l_draw.kp T.b_l_draw .nil zan (zaa (qv 0) (zaa zad zac))) zad) (zag (zat (zah G_l_led (hr.mono (by decide)) rfl T.g_l_led T.f_l_led.kp T.b_l_led .nil zan (zaa (qv 0) zac)))) zaz)
  (zag (zat (zah G_l_machine (hr.mono (by decide)) rfl T.g_l_machine T.f_l_machine.kp T.b_l_machine .nil zan (zaa (qv 0) zac)))))),?_⟩
   walk_at "w";refine⟨by decide,_,_,e0,fun d1 n1 d10 d11=>?_⟩;have P1:=P0.draw n1;have Q1:=Pu.of_draw n1 e0;generalize hg1:upd _ pp _=H1 at P1 Q1 ⊢;have e1:H1 pp=some (.lst [.int n1,.int k]):=by rw [← hg1];exact zae
   clear hg1;walk_at "w";refine ifB.mk (fun _=>?_) (fun _=>?_)
   ·walk_at "w";exact⟨n1,k,e1,fun q m H' P' nq hm hM=>h q m H' (P1.trans P') (P1.free nq) hm hM⟩
   ·walk_at "w";refine⟨by decide,_,_,e1,fun d2 n2 d20 d21=>?_⟩;have P2:=P1.draw n2;have Q2:=Pu.of_draw n2 e1;generalize hg2:upd _ pp _=H2 at P2 Q2 ⊢;have e2:H2 pp=some (.lst [.int n2,.int k]):=by rw [← hg2];exact zae
    clear hg2;walk_at "w";refine ifB.mk (fun _=>?_) (fun _=>?_)
    ·walk_at "w";exact⟨n2,k,e2,fun q m H' P' nq hm hM=>h q m H' (P2.trans P') (P2.free nq) hm hM⟩
    ·walk_at "w";exact⟨n2,k,e2,fun q m H' P' nq hm hM=>h q m H' (P2.trans P') (P2.free nq) hm hM⟩
  ·exact h.elim
theorem zeS:zar ["_law_machine_here","_law_entries","_law_found","_law_k","_law_row","_law_j"] ["_law_machine_here","_law_entries"] (zaf zb4):=by walk_at "s"
def zci (qs:List (Int × Int)) (k:Nat) (row:List En):List En:=(List.range row.length).map fun (j:Nat)=>if ((k:Int),(j:Int))∈qs then row.getD j [] else []
def zaS (qs:List (Int × Int)) (m:Ma):Ma:=(List.range m.length).map fun (k:Nat)=>zci qs k (m.getD k [])
def zle (H:Hp) (f:Addr) (qs:List (Int × Int)):Prop:=∃ as:List Addr,H f=some (.lst (as.map V.ref))/\zaY (fun a q=>H a=some (.tup [.int q.1,.int q.2])) as qs
def dPr (q:Int × Int):DD:=.tup [.int q.1,.int q.2]
theorem zj4 {x y:Int × Int} (h:dPr x=dPr y):x=y:=by
 unfold dPr at h;injection h with h
 injection h with h1 h
 injection h with h2 _
 injection h1 with h1
 injection h2 with h2
 exact Prod.ext h1 h2
theorem zm0 {q:Int × Int} {l:List (Int × Int)}:dPr q∈l.map dPr↔q∈l :=
 ⟨fun h=>by obtain⟨y,hy,e⟩:=znS.1 h;rw [← zj4 e];exact hy,fun h=>znS.2 ⟨q,h,rfl⟩⟩
theorem zg6 {H:Hp} {a:Addr} {q:Int × Int} (h:H a=some (.tup [.int q.1,.int q.2])):Den H (.ref a) (dPr q):=by
 rw [dPr,Den];refine⟨_,_,rfl,h,?_⟩;rw [zbl];refine⟨_,_,rfl,by rw [Den],?_⟩;rw [zbl];exact⟨_,_,rfl,by rw [Den],by rw [zbl]⟩
theorem zj7 (q:Int × Int):dep (dPr q)<=10:=by
 rw [dPr,dep]
 have:depL [DD.int q.1,.int q.2]<=0:=zbk fun d hd=>by
  simp only [zoh,List.not_mem_nil,or_false] at hd;rcases hd with rfl | rfl
  ·exact znQ 0
  ·exact znQ 0
 omega
theorem zjX (qs:List (Int × Int)) (q:Int × Int):((qs.map dPr).any fun e=>eqD e (dPr q))=decide (q∈qs):=by
 have e1:∀ a b:Int × Int,eqD (dPr a) (dPr b)=decide (a=b):=fun a b=>by
  have:=zhf (e:=[a.1,a.2]) (e':=[b.1,b.2])
  rw [show eqD (dPr a) (dPr b)=eqD (dE [a.1,a.2]) (dE [b.1,b.2]) from rfl,this];by_cases c:a=b
  ·subst c;simp
  ·rw [znH c,znH fun z=>c (by injection z with z1 z2;injection z2 with z2 _;exact Prod.ext z1 z2)]
 by_cases c:q∈qs
 ·rw [znG c,List.any_eq_true];exact⟨dPr q,znS.2 ⟨q,c,rfl⟩,by rw [e1];simp⟩
 ·rw [znH c,List.any_eq_false];intro d hd;obtain⟨x,hx,rfl⟩:=znS.1 hd;rw [e1];simp only [decide_eq_true_eq];rintro rfl;exact c hx
theorem zka {H:Hp} {fs:List Addr} {qs:List (Int × Int)} (h:zaY (fun a q=>H a=some (.tup [.int q.1,.int q.2])) fs qs):DnL H fs (qs.map dPr):=by
 refine⟨by rw [znA];exact h.1,fun i a d ha hd=>?_⟩;rw [znB] at hd;obtain⟨q,hq,rfl⟩:=znD.1 hd;exact zg6 (h.2 i a q ha hq)
def zdo:Sp:=fun vs H Q _=>match vs with
 | [.ref t,.ref f]=>∃ (m:Ma) (qs:List (Int × Int)),zc2 H t m/\isM m=true/\zle H f qs/\∀ (q:Addr) (H':Hp),Sub H H'->zc2 H' q (zaS qs m)->Q (.ref q) H'
 | _=>False
theorem zhK (T:Tx K mg a):zbu P w K mg base CX0 1 a.l_kept a.l_kept_d ["_law_machine_here","_law_entries"] (zdo):=by
 refine T.f_l_kept.ok zeS (fun vs H Q E h=>?_) (fun cdv A outer s H vs Q E hr h=>?_)
 ·unfold zdo at h;split at h
  ·rfl
  ·exact h.elim
 ·unfold zdo at h;split at h
  ·have nd:=zeS.nd;have hu:=za5 hr;rename_i t f;obtain⟨m,qs,hm,hM,⟨fs,hf,hfs⟩,h⟩:=h;have M:=OkM.of hM;obtain⟨ws,hm0,hnd,hrw⟩:=id hm;refine⟨_,(@zab _ _ _ _ _ (@zao _ _ 2 _ _ _ _ nd rfl (by walk_at "o") (@zaZ _ _ _ _ zac) (by rfl) (by first | exact .inl rfl | exact .inr rfl | assumption)) (@zab _ _ _ _ _ (@zb8 _ _ _ _ _ _ _ _ PassesOwn.never rfl (@zbs _ _ _ _ _ _ rfl T.z_range (@zaa _ _ _ _ _ (@zaq _ _ _ _ _ _ _ _ _ (@zbM _ K rfl) rfl T.z_len zby (@zaa _ _ _ _ _ (qv 0) zac (by rfl)) (by decide) (by decide) (by rfl) (by rfl)) zac (by rfl)) (by rfl)) (@zak _ _ 3 _ nd rfl (by walk_at "o") (by first | exact .inl rfl | exact .inr rfl | assumption)) (@zab _ _ _ _ _ (@zao _ _ 4 _ _ _ _ nd rfl (by walk_at "o") (@zaZ _ _ _ _ zac) (by rfl) (by first | exact .inl rfl | exact .inr rfl | assumption)) (@zab _ _ _ _ _ (@zb8 _ _ _ _ _ _ _ _ PassesOwn.never rfl (@zbs _ _ _ _ _ _ rfl T.z_range (@zaa _ _ _ _ _ (@zaq _ _ _ _ _ _ _ _ _ (@zbM _ K rfl) rfl T.z_len zby (@zaa _ _ _ _ _ (@zaQ _ _ _ _ _ _ _ (@zaN _ K rfl) (qv 0) (qv 3) (fun _ _=>rfl)) zac (by rfl)) (by decide) (by decide) (by rfl) (by rfl)) zac (by rfl)) (by rfl)) (@zak _ _ 5 _ nd rfl (by walk_at "o") (by first | exact .inl rfl | exact .inr rfl | assumption)) (@zag _ _ _ (@zbr _ _ _ _ (@zfn _ _ _ _ _ _ _ _ _ _ _ _ PySem.F.plainAttrs_list PySem.F.slot_list_append PySem.F.type_list_append zfr (qv 4) (@zaa _ _ _ _ _ (@zaQ _ _ _ _ _ _ _ (@zaN _ K rfl) (@zaZ _ _ _ _ (@zaa _ _ _ _ _ (@zay _ _ _ _ _ zac) (@zaa _ _ _ _ _ (@zaQ _ _ _ _ _ _ _ (@zaN _ K rfl) (@zaQ _ _ _ _ _ _ _ (@zaN _ K rfl) (qv 0) (qv 3) (fun _ _=>rfl)) (qv 5) (fun _ _=>rfl)) zac (by rfl)) (by rfl))) (@zck _ _ _ _ _ _ _ _ _ zjI rfl T.z_int zjr (@zaa _ _ _ _ _ (@zbU _ _ _ _ _ _ _ _ (@zlU _ _ hr) (@zay _ _ _ _ _ (@zaa _ _ _ _ _ (qv 3) (@zaa _ _ _ _ _ (qv 5) zac (by rfl)) (by rfl))) (qv 1) (by first | exact zbb _ | rfl)) zac (by rfl)) (by decide) (by decide) (by rfl) (by rfl)) (fun _ _=>rfl)) zac (by rfl)) (by rfl) (by rfl) (by rfl) (by rfl) (by rfl)) (by rfl))) (by intro _ ;rfl)) (@zag _ _ _ (@zbr _ _ _ _ (@zfn _ _ _ _ _ _ _ _ _ _ _ _ PySem.F.plainAttrs_list PySem.F.slot_list_append PySem.F.type_list_append zfr (qv 2) (@zaa _ _ _ _ _ (qv 4) zac (by rfl)) (by rfl) (by rfl) (by rfl) (by rfl) (by rfl)) (by rfl))))) (by intro _ ;rfl)) (@zag _ _ _ (@zat _ _ _ _ (qv 2))))),?_⟩;refine⟨by show 0<=sizeLine;decide,?_⟩;intro p1 n1;generalize U':upd _ p1 _=H1;obtain ⟨S1,e1⟩:=zai n1 U';clear U';refine⟨_,.inl (SqL.of (S1 _ _ hm0)),?_⟩;rw [znA,hrw.1];refine⟨⟨by omega,by have:=M.n4;omega⟩,?_⟩;refine zbo (lo:=0) (n:=m.length) (fun i σ H2=>∃ (v3 v4 v5:Option V) (rs:List Addr),σ=[some (.ref t),some (.ref f),some (.ref p1),v3,v4,v5]/\Sub H H2/\MaR H2 p1 rs ((List.range i).map fun k=>zci qs k (m.getD k []))) ?_ ?_ ?_
   ·exact⟨_,_,_,[],rfl,S1,⟨e1,by simp,.nil⟩⟩
   ·rintro i σ H2 hi ⟨v3,v4,v5,rs,rfl,S2,M2⟩;have ew:ws[i]?=some (ws[i]'(by rw [hrw.1];exact hi)):=znC _;generalize ws[i]'(by rw [hrw.1];exact hi)=wi at ew;obtain⟨es,he,as,hE,hA⟩:=hrw.at ew;refine⟨by show 0<=sizeLine;decide,?_⟩;intro p3 n3;generalize U':upd _ p3 _=H3;obtain ⟨S3,e3⟩:=zai n3 U';clear U';have S03:=S2.trans S3;have M3:=M2.stay (.sub S3);walk_at "w";have hes:=M.len es (znF he);have ai:atI (ws.map V.ref) (0+(i:Int))=some (.ref wi):=zbh (by omega) (by rw [show (0+(i:Int)).toNat=i by omega,znB,ew];rfl);have eg:m.getD i []=es:=by rw [zog,he];rfl
    refine⟨_,_,SqL.of (S03 _ _ hm0),ai,?_⟩;refine⟨_,.inl (SqL.of (S03 _ _ hE)),?_⟩;rw [znA,hA.1];refine⟨⟨by omega,by have:=M.s4;omega⟩,?_⟩;refine zbo (lo:=0) (n:=es.length) (fun j σ H4=>∃ (v5:Option V) (cs:List Addr),σ=[some (.ref t),some (.ref f),some (.ref p1),some (.int (0+i)),some (.ref p3),v5]/\Sub H H4/\MaR H4 p1 rs ((List.range i).map fun k=>zci qs k (m.getD k []))/\zdq H4 p3 cs ((List.range j).map fun (j:Nat)=>if ((i:Int),(j:Int))∈qs then es.getD j [] else [])) ?_ ?_ ?_
    ·exact⟨_,[],rfl,S03,M3,⟨e3,.nil⟩⟩
    ·rintro j σ H4 hj ⟨v5,cs,rfl,S4,M4,R4⟩;have ea:as[j]?=some (as[j]'(by rw [hA.1];exact hj)):=znC _;generalize as[j]'(by rw [hA.1];exact hj)=aj at ea;obtain⟨en,hen,hE2⟩:=hA.at ea;have aj':atI (as.map V.ref) (0+(j:Int))=some (.ref aj):=zbh (by omega) (by rw [show (0+(j:Int)).toNat=j by omega,znB,ea];rfl);have eg2:es.getD j []=en:=by rw [zog,hen];rfl
     refine⟨.inl ⟨rfl,_,SqL.of R4.1⟩,?_⟩;refine⟨by show 0<=sizeLine;decide,?_⟩;intro p5 n5;generalize U':upd _ p5 _=H5;obtain ⟨S5,e5⟩:=zai n5 U';clear U';have S05:=S4.trans S5;refine⟨_,_,SqL.of (S05 _ _ hm0),ai,?_⟩;refine⟨_,_,SqL.of (S05 _ _ hE),aj',?_⟩;refine⟨by show 2<=sizeLine;decide,?_⟩;intro p6 n6;generalize U':upd _ p6 _=H6;obtain ⟨S6,e6⟩:=zai n6 U';clear U';refine⟨by show 2<=sizeLine;decide,?_⟩;intro p7 n7;generalize U':upd _ p7 _=H7;obtain ⟨S7,e7⟩:=zai n7 U';clear U';have S67:=S6.trans S7;have S07:=S05.trans S67;refine⟨fs,qs.map dPr,dPr ((i:Int),(j:Int)),S07 _ _ hf,?_,zg6 (by rw [e7,Int.zero_add,Int.zero_add]),fun e he=>?_,?_⟩
     ·exact zka (hfs.mono fun _ _ _ z=>S07 _ _ z)
     ·obtain⟨q,_,rfl⟩:=znS.1 he;exact znP (zj7 q) (by decide)
     rw [zoc zok,zjX];walk_at "w";obtain⟨x,hx,ex⟩:∃ x,atI [V.ref p5,V.ref aj] (if decide (((i:Int),(j:Int))∈qs)=true then 1 else 0)=some (.ref x)/\Ent H7 x (if ((i:Int),(j:Int))∈qs then es.getD j [] else []):=by
      by_cases c:((i:Int),(j:Int))∈qs
      ·rw [zod (znG c),zod c,eg2];exact⟨aj,rfl,S07 _ _ hE2⟩
      ·rw [zoc (by rw [znH c];exact zok),zoc c];exact⟨p5,rfl,S67 _ _ e5⟩
     refine⟨_,_,SqL.of (S7 _ _ e6),hx,?_⟩;have R7:=R4.stay (.sub (S5.trans S67));have M7:=M4.stay (.sub (S5.trans S67));refine⟨_,R7.1,?_,_,cs++[x],rfl,S07.upd (S2.free n3),M7.other R7.1 (M2.outp n3) (M2.out n3),?_⟩
     ·rw [znA,R7.2.1,znA,List.length_range];exact znO (show j<=4 by have:=M.s4;omega) (by decide)
     ·rw [List.range_succ,znI];exact R7.app' ex
    ·rintro σ H4 ⟨v5,cs,rfl,S4,M4,R4⟩;refine⟨.inl ⟨rfl,_,SqL.of M4.1⟩,?_⟩;refine⟨_,M4.1,?_,_,_,_,rs++[p3],rfl,S4.upd n1,?_⟩
     ·rw [znA,M4.2.2.1,znA,List.length_range];exact znO (show i<=4 by have:=M.n4;omega) (by decide)
     ·rw [List.range_succ,znI];refine M4.app' (es:=zci qs i (m.getD i [])) ⟨cs,?_⟩ (M2.out n3) (M2.outp n3);rw [eg];exact R4
   ·rintro σ H2 ⟨v3,v4,v5,rs,rfl,S2,M2⟩;walk_at "w";exact h p1 H2 S2 ⟨rs,M2⟩
  ·exact h.elim
theorem zdm:zar ["_law_machine_here","_law_most","_law_far","_law_counts","_law_some","_law_ends","_law_places_here"] ["_law_machine_here","_law_most","_law_far"] (zaf zbn):=by walk_at "s"
def Adj:Int->List Int->Prop
 | _,[]=>True
 | p,y::r=>(p-1<=y/\y<=p+1)/\Adj y r
theorem zjO {m:Ma} (M:OkM m):∀ (k:Nat) (x:St3),OkS m x.1 x.2.2->∀ p:Int,p-1<=x.2.1->x.2.1<=p+1->Adj p ((tr m k x).map (·.2.1))
 | 0,x,_,p,h1,h2=>⟨⟨h1,h2⟩,trivial⟩
 | k+1,x,o,p,h1,h2=>by
  cases hs:stN m x with
  | none=>rw [zbX hs];exact⟨⟨h1,h2⟩,trivial⟩
  | some y =>
   rw [zbJ hs];refine⟨⟨h1,h2⟩,zjO M k y (o.next M hs) _ ?_ ?_⟩
   all_goals
    obtain⟨es,e,_,_,h3,h4,_⟩:=o.at M x.2.1;unfold L2.stN at hs;rw [h3] at hs;by_cases z:e=[]
    ·subst z;cases hs
    ·obtain⟨s',w',r',rfl,_,_,hw,_,_⟩:=zaC h4 z;cases hs;show _<=_;dsimp only;omega
theorem zgT:∀ (r:List Int) (p y z:Int),Adj p r->y∈p::r->((p<=z/\z<=y)\/(y<=z/\z<=p))->z∈p::r
 | [],p,y,z,_,hy,hz=>by
  have:y=p:=by simpa using hy
  have:z=p:=by omega
  simp [this]
 | q::r,p,y,z,h,hy,hz=>by
  by_cases c:z=p
  ·subst c;exact zn8 ..
  ·refine znT _ ?_;rcases zoh.1 hy with rfl | hy
   ·omega
   ·obtain⟨⟨h1,h2⟩,h3⟩:=h;exact zgT r q y z h3 hy (by omega)
theorem zgk:∀ (l:List Int) (ks:Mk2) (z:Int),z∈(l.foldl zeo ks).map (·.1)↔z∈ks.map (·.1)\/z∈l
 | [],ks,z=>by simp
 | p::l,ks,z=>by
  rw [List.foldl_cons,zgk l (zeo ks p) z];have e:z∈(zeo ks p).map (·.1)↔z∈ks.map (·.1)\/z=p:=by
   unfold zeo;obtain⟨h1,h2⟩:=zea ks p ((zbj ks p).getD 0+1);cases c:ks.any fun q=>decide (q.1=p) with
   | true =>
    rw [h1 c];refine⟨.inl,fun h=>h.elim id fun e=>?_⟩;obtain⟨q,hq,e2⟩:=List.any_eq_true.1 c;rw [e,← zoj e2];exact znS.2 ⟨q,hq,rfl⟩
   | false=>rw [h2 c];simp
  rw [e,zoh]
  constructor
  ·rintro ((h | h) | h)
   ·exact .inl h
   ·exact .inr (.inl h)
   ·exact .inr (.inr h)
  ·rintro (h | h | h)
   ·exact .inl (.inl h)
   ·exact .inl (.inr h)
   ·exact .inr h
theorem zkK:∀ (ks:Mk2) (p:Int),(ks.map (·.1)).Nodup->((zd9 ks p ((zbj ks p).getD 0+1)).map (·.2)).sum=(ks.map (·.2)).sum+1:=by
 intro ks p nd;cases c:ks.any fun q=>decide (q.1=p) with
 | false =>
  have hv:zbj ks p=none:=by
   unfold zbj;rw [Option.map_eq_none_iff,List.find?_eq_none];intro q hq e;exact List.any_eq_false.1 c q hq e
  unfold zd9;rw [c,zoc zok,hv,znI,List.sum_append]
  rfl
 | true =>
  obtain⟨q,hq,e2⟩:=List.any_eq_true.1 c;have e2:=zoj e2;have hv:zbj ks p=some q.2:=(zk2 nd).2 (by rw [← e2];exact hq);unfold zd9;rw [c,zod rfl,hv];show ((ks.map fun x=>if x.1=p then (x.1,q.2+1) else x).map (·.2)).sum=_
  clear c hv
  induction ks with
  | nil=>cases hq
  | cons x ks ih =>
   obtain⟨hx,nd'⟩:=List.nodup_cons.1 nd;rw [zn2,zn2,zn2,List.sum_cons,List.sum_cons];rcases zoh.1 hq with rfl | hq
   ·rw [zod e2]
    have:(ks.map fun x=>if x.1=p then (x.1,q.2+1) else x)=ks:=by
     conv=>rhs;rw [← List.map_id ks]
     refine zon fun y hy=>?_
     rw [zoc fun z=>hx (by show q.1∈_;rw [e2,← z];exact znS.2 ⟨y,hy,rfl⟩)]
     rfl
    rw [this];show q.2+1+_=_;omega
   ·have:=ih nd' hq
    rw [this,zoc fun z=>hx (znS.2 ⟨q,hq,by show q.1=x.1;rw [e2,z]⟩)];omega
theorem zim:∀ (l:List Int) (ks:Mk2),(ks.map (·.1)).Nodup->((l.foldl zeo ks).map (·.2)).sum=(ks.map (·.2)).sum+l.length
 | [],ks,_=>by simp
 | p::l,ks,nd=>by
  rw [List.foldl_cons,zim l (zeo ks p) (zdk nd),zob]
  have:=zkK ks p nd
  unfold zeo;omega
theorem zil:∀ (l:List Int) (ks:Mk2),(∀ q∈ks,1<=q.2)->∀ q∈l.foldl zeo ks,1<=q.2
 | [],ks,h=>h
 | p::l,ks,h=>zil l (zeo ks p) fun q hq=>by
  rcases zh0 hq with e | hq
  ·rw [e];show 1<=(zbj ks p).getD 0+1;unfold zbj;cases c:ks.find? fun q=>decide (q.1=p) with
   | none=>exact Int.le_refl 1
   | some y=>have:=h y (List.mem_of_find?_eq_some c);show 1<=y.2+1;omega
  ·exact h q hq
theorem zi2 {a b:List Int} (h:a.Perm b):a.sum=b.sum:=by
 induction h with
 | nil=>rfl
 | cons x _ ih=>rw [List.sum_cons,List.sum_cons,ih]
 | swap x y l=>rw [List.sum_cons,List.sum_cons,List.sum_cons,List.sum_cons];omega
 | trans _ _ h1 h2=>exact h1.trans h2
theorem zgU:∀ {a b:List Int},a.Pairwise (·<·)->b.Pairwise (·<·)->(∀ z,z∈a↔z∈b)->a=b
 | [],[],_,_,_=>rfl
 | [],y::b,_,_,h=>by have:=(h y).2 (zn8 ..);cases this
 | x::a,[],_,_,h=>by have:=(h x).1 (zn8 ..);cases this
 | x::a,y::b,ha,hb,h=>by
  obtain⟨a1,a2⟩:=List.pairwise_cons.1 ha;obtain⟨b1,b2⟩:=List.pairwise_cons.1 hb;have e:x=y:=by
   rcases zoh.1 ((h x).1 (zn8 ..)) with e | hx
   ·exact e
   ·rcases zoh.1 ((h y).2 (zn8 ..)) with e | hy
    ·exact e.symm
    ·have:=b1 x hx;have:=a1 y hy;omega
  subst e;rw [zgU a2 b2 fun z=>⟨fun hz=>?_,fun hz=>?_⟩]
  ·rcases zoh.1 ((h z).1 (znT _ hz)) with e | q
   ·have:=a1 z hz;omega
   ·exact q
  ·rcases zoh.1 ((h z).2 (znT _ hz)) with e | q
   ·have:=b1 z hz;omega
   ·exact q
theorem zkS (a:Int) (n:Nat):(rgL a n).Pairwise (·<·):=by
 unfold rgL;rw [List.pairwise_map];exact List.pairwise_lt_range.imp fun h=>by omega
theorem zkT {a z:Int} {n:Nat}:z∈rgL a n↔a<=z/\z<a+n:=by
 unfold rgL;rw [znS]
 constructor
 ·rintro ⟨i,hi,rfl⟩
  have:=List.mem_range.1 hi
  omega
 ·intro h;exact⟨(z-a).toNat,List.mem_range.2 (by omega),by omega⟩
structure zmM (r:List Int) (rc:List (Int × Int)) (lo hi lo' hi':Int):Prop where
 lb:lo'<=lo
 hb:hi<=hi'
 all:∀ y∈r,lo'<=y/\y<=hi'
 inl:lo'=lo\/lo'∈r
 inh:hi'=hi\/hi'∈r
 len:(rc.length:Int)=hi'-lo'-(hi-lo)
 bd:∀ q∈rc,lo'<=q.2/\q.2<=hi'
 rl:lo'=lo\/∃ q∈rc,q.2=lo'
 rh:hi'=hi\/∃ q∈rc,q.2=hi'
theorem zfw:∀ (r:List Int) (p i lo hi:Int),Adj p r->lo<=p->p<=hi->∃ lo' hi',zmM r (zfv i lo hi r) lo hi lo' hi'
 | [],p,i,lo,hi,_,h1,h2=>⟨lo,hi,Int.le_refl _,Int.le_refl _,fun y hy=>(by cases hy),.inl rfl,.inl rfl,(by show (0:Int)=_;omega),fun q hq=>(by cases hq),.inl rfl,.inl rfl⟩
 | y::r,p,i,lo,hi,⟨⟨a1,a2⟩,a3⟩,h1,h2=>by
  rw [zfv];by_cases c:lo<=y/\y<=hi
  ·rw [zod c];obtain⟨lo',hi',G⟩:=zfw r y (i+1) lo hi a3 c.1 c.2;have g1:=G.lb;have g2:=G.hb;refine⟨lo',hi',g1,g2,fun z hz=>?_,G.inl.imp id (znT _),G.inh.imp id (znT _),G.len,G.bd,G.rl,G.rh⟩;rcases zoh.1 hz with rfl | hz
   ·omega
   ·exact G.all z hz
  ·rw [zoc c];obtain⟨lo',hi',G⟩:=zfw r y (i+1) (min lo y) (max hi y) a3 (by omega) (by omega);have g1:=G.lb;have g2:=G.hb;refine⟨lo',hi',by omega,by omega,fun z hz=>?_,?_,?_,?_,fun q hq=>?_,?_,?_⟩
   ·rcases zoh.1 hz with rfl | hz
    ·omega
    ·exact G.all z hz
   ·rcases G.inl with e | g
    ·by_cases d:y<lo
     ·exact .inr (by rw [show lo'=y by omega];exact zn8 ..)
     ·exact .inl (by omega)
    ·exact .inr (znT _ g)
   ·rcases G.inh with e | g
    ·by_cases d:hi<y
     ·exact .inr (by rw [show hi'=y by omega];exact zn8 ..)
     ·exact .inl (by omega)
    ·exact .inr (znT _ g)
   ·rw [zob]
    push_cast
    rw [G.len];omega
   ·rcases zoh.1 hq with rfl | hq
    ·show lo'<=y/\y<=hi';omega
    ·exact G.bd q hq
   ·rcases G.rl with e | ⟨q,hq,e⟩
    ·by_cases d:y<lo
     ·exact .inr ⟨(i,y),zn8 ..,by show y=lo';omega⟩
     ·exact .inl (by omega)
    ·exact .inr ⟨q,znT _ hq,e⟩
   ·rcases G.rh with e | ⟨q,hq,e⟩
    ·by_cases d:hi<y
     ·exact .inr ⟨(i,y),zn8 ..,by show y=hi';omega⟩
     ·exact .inl (by omega)
    ·exact .inr ⟨q,znT _ hq,e⟩
structure Plc (m:Ma) (N:Nat) (lo hi:Int) (js:Mk2):Prop where
 keys:js.map (·.1)=rgL lo (hi+1-lo).toNat
 sum:(js.map (·.2)).sum=(tr m N s00).length
 pos:∀ q∈js,1<=q.2
 ilo:zjU lo ((ze4 m N).map (·.2))
 ihi:zjT hi ((ze4 m N).map (·.2))
 len:((ze4 m N).length:Int)=hi-lo+1
 le:lo<=hi
 z0:lo<=0/\0<=hi
theorem zl5 {m:Ma} (M:OkM m) {N:Nat} {lo hi:Int} {js:Mk2} (hlo:zjU lo ((tr m N s00).map (·.2.1))) (hhi:zjT hi ((tr m N s00).map (·.2.1))) (hp:js.Perm (zk3 m N)) (hs:Srt js):Plc m N lo hi js:=by
 have ad:Adj 0 ((tr m N s00).map (·.2.1)):=zjO M N s00 M.start 0 (by decide) (by decide)
 obtain⟨l0,h0⟩:=zfG m N s00;have z0:(0:Int)∈(tr m N s00).map (·.2.1):=by rw [h0];exact zn8 ..
 have zz:∀ z,z∈(0:Int)::(tr m N s00).map (·.2.1)↔z∈(tr m N s00).map (·.2.1):=fun z=>⟨fun h=>by
  rcases zoh.1 h with rfl | h
  ·exact z0
  ·exact h,znT _⟩
 have mem:∀ z,z∈(tr m N s00).map (·.2.1)↔lo<=z/\z<=hi:=fun z=>⟨fun h=>⟨hlo.2 z h,hhi.2 z h⟩,fun h=>by
  rcases Int.le_total z 0 with c | c
  ·exact (zz z).1 (zgT _ 0 lo z ad ((zz lo).2 hlo.1) (.inr ⟨h.1,c⟩))
  ·exact (zz z).1 (zgT _ 0 hi z ad ((zz hi).2 hhi.1) (.inl ⟨c,h.2⟩))⟩
 have le:lo<=hi:=hlo.2 hi hhi.1;have hz:=(mem 0).1 z0;obtain⟨lo',hi',G⟩:=zfw _ 0 0 0 0 ad (Int.le_refl _) (Int.le_refl _);have g3:=G.all;have g4:=G.inl;have g5:=G.inh;have g7:=G.bd;have g6:=G.len;have elo:lo'=lo:=by
  have h1:=(g3 lo hlo.1).1;rcases g4 with e | e
  ·omega
  ·have:=hlo.2 lo' e;omega
 have ehi:hi'=hi:=by
  have h1:=(g3 hi hhi.1).2;rcases g5 with e | e
  ·omega
  ·have:=hhi.2 hi' e;omega
 subst elo ehi;refine⟨?_,?_,fun q hq=>zil _ [] (fun q hq=>by cases hq) q (hp.mem_iff.1 hq),⟨?_,?_⟩,⟨?_,?_⟩,?_,le,hz⟩
 ·refine zgU hs (zkS _ _) fun z=>?_
  rw [zkT,(hp.map (·.1)).mem_iff]
  unfold zk3;rw [zgk,mem z];simp only [zn3,List.not_mem_nil,false_or];omega
 ·rw [zi2 (hp.map (·.2))]
  unfold zk3;rw [zim _ [] (by simp)];simp
 ·unfold ze4;rcases G.rl with e | ⟨q,hq,e⟩
  ·rw [e];exact zn8 ..
  ·exact znT _ (znS.2 ⟨q,hq,e⟩)
 ·intro n hn;unfold ze4 at hn;rw [zn2] at hn;rcases zoh.1 hn with rfl | hn
  ·exact hz.1
  ·obtain⟨q,hq,rfl⟩:=znS.1 hn;exact (g7 q hq).1
 ·unfold ze4;rcases G.rh with e | ⟨q,hq,e⟩
  ·rw [e];exact zn8 ..
  ·exact znT _ (znS.2 ⟨q,hq,e⟩)
 ·intro n hn;unfold ze4 at hn;rw [zn2] at hn;rcases zoh.1 hn with rfl | hn
  ·exact hz.2
  ·obtain⟨q,hq,rfl⟩:=znS.1 hn;exact (g7 q hq).2
 ·unfold ze4;rw [zob]
  push_cast
  rw [g6];omega
theorem zjy {H:Hp} {p:Addr} {xs:List Int} (h:H p=some (.lst (xs.map V.int))):Den H (.ref p) (.lst (xs.map DD.int)):=by
 rw [Den];exact⟨_,_,rfl,h,zbl.ints⟩
theorem zlz (xs:List Int):dep (.lst (xs.map DD.int))<=60:=by
 rw [dep]
 have:depL (xs.map DD.int)<=0:=zbk fun d hd=>by
  obtain⟨x,_,rfl⟩:=znS.1 hd;exact znQ 0
 omega
theorem zlx {H:Hp} {p:Addr} {x y:Int} (h:H p=some (.tup [.int x,.int y])):Den H (.ref p) (.tup [.int x,.int y]):=by
 rw [Den];refine⟨_,_,rfl,h,?_⟩;exact zbl.ints (ns:=[x,y])
theorem zm2 (x y:Int):dep (.tup [.int x,.int y])<=60:=by
 rw [dep]
 have:depL [DD.int x,.int y]<=0:=zbk fun d hd=>by
  simp only [zoh,List.not_mem_nil,or_false] at hd;rcases hd with rfl | rfl
  ·exact znQ 0
  ·exact znQ 0
 omega
theorem zbq {H:Hp} {f:Addr} {qs:List (Int × Int)} (h:zgR H f qs):zdr H f qs:=by
 obtain⟨as,h1,h2⟩:=h;refine⟨as,h1,⟨by rw [znA];exact h2.1,fun i a q ha hq=>?_⟩⟩;rw [znB] at hq;obtain⟨q0,hq0,rfl⟩:=znD.1 hq;exact h2.2 i a q0 ha hq0
def zcg:Sp:=fun vs H Q _=>match vs with
 | [.ref t,.int most,.int far]=>∃ m:Ma,zc2 H t m/\isM m=true/\0<=most/\most<=1000/\far=(tr m most.toNat s00).length-1/\∀ H',Sub H H'->Q (.bl true) H'
 | _=>False
theorem zfl (T:Tx K mg a):zbu P w K mg base CX0 8 a.l_places a.l_places_d ["_law_machine_here","_law_most","_law_far"] (zcg):=by
 have G_visits:=zhM (P:=P) (w:=w) (base:=base) T;have G_records:=zgD (P:=P) (w:=w) (base:=base) T;have G_touched:=zgE (P:=P) (w:=w) (base:=base) T;refine T.f_l_places.ok zdm (fun vs H Q E h=>?_) (fun cdv A outer s H vs Q E hr h=>?_)
 ·unfold zcg at h;split at h
  ·rfl
  ·exact h.elim
 ·unfold zcg at h;split at h
  ·have nd:=zdm.nd;have hu:=za5 hr;rename_i t most far;obtain⟨m,hm,hM,hmo0,hmo1,hfar,h⟩:=h;have M:=OkM.of hM;refine⟨_,(@zab _ _ _ _ _ (@zao _ _ 3 _ _ _ _ nd rfl (by walk_at "o") (@zah _ _ _ _ _ _ _ _ _ _ _ _ _ _ _ _ G_visits (hr.mono (by decide)) rfl T.g_visits T.f_visits.kp T.b_visits .nil zan (@zaa _ _ _ _ _ (qv 0) (@zaa _ _ _ _ _ (qv 1) zac (by rfl)) (by rfl)) (by decide) (by rfl) (by rfl)) (by rfl) (by first | exact .inl rfl | exact .inr rfl | assumption)) (@zab _ _ _ _ _ (@zao _ _ 4 _ _ _ _ nd rfl (by walk_at "o") (@zah _ _ _ _ _ _ _ _ _ _ _ _ _ _ _ _ G_records (hr.mono (by decide)) rfl T.g_records T.f_records.kp T.b_records .nil zan (@zaa _ _ _ _ _ (qv 0) (@zaa _ _ _ _ _ (qv 1) zac (by rfl)) (by rfl)) (by decide) (by rfl) (by rfl)) (by rfl) (by first | exact .inl rfl | exact .inr rfl | assumption)) (@zab _ _ _ _ _ (@zao _ _ 5 _ _ _ _ nd rfl (by walk_at "o") (@zah _ _ _ _ _ _ _ _ _ _ _ _ _ _ _ _ G_touched (hr.mono (by decide)) rfl T.g_touched T.f_touched.kp T.b_touched .nil zan (@zaa _ _ _ _ _ (qv 0) (@zaa _ _ _ _ _ (qv 1) zac (by rfl)) (by rfl)) (by decide) (by rfl) (by rfl)) (by rfl) (by first | exact .inl rfl | exact .inr rfl | assumption)) (@zab _ _ _ _ _ (@zcP _ _ _ _ _ _ _ _ (@zcv _ _ _ _ _ _ _ _ (@zeI _ _ hr) (@zhP _ _ (["_law_place","_law_count"]) [] _ _ _ _ _ _ _ _ _ rfl (by walk_at "comp_ok") (@za8 _ K _ _ _ rfl (qv 3)) (fun _ _ _ _=>(@za6 _ K _ _ _ _ 2 rfl rfl (@zal _ _ _ _ _ (@zak _ _ 0 _ (show List.Nodup (α:=Str) ["_law_place","_law_count"] from by decide +kernel) rfl (by walk_at "o") (by first | exact .inl rfl | exact .inr rfl | assumption)) (@zal _ _ _ _ _ (@zak _ _ 1 _ (show List.Nodup (α:=Str) ["_law_place","_law_count"] from by decide +kernel) rfl (by walk_at "o") (by first | exact .inl rfl | exact .inr rfl | assumption)) za7 (by rfl)) (by rfl)) (by rfl) (by rfl))) (fun _ _ _ _=>zbw) (fun _ _ _ _=>(qv 0)) (by intro _ ;rfl)) (@zhQ _ _ _ _ _ _ _ _ rfl rfl T.z_list rfl T.z_range (@zaa _ _ _ _ _ (@zaQ _ _ _ _ _ _ _ (@zca _ K rfl) (qv 5) zad (fun _ _=>rfl)) (@zaa _ _ _ _ _ (@zav _ _ _ _ _ _ _ _ zbx (@zaQ _ _ _ _ _ _ _ (@zca _ K rfl) (qv 5) zad (fun _ _=>rfl)) zad) zac (by rfl)) (by rfl)) (by rfl) (by rfl) (by rfl)) (by first | exact zbb _ | rfl)) (@zag _ _ _ (@zat _ _ _ _ zcu)) zaz) (@zab _ _ _ _ _ (@zcP _ _ _ _ _ _ _ _ (PW.pt (@zf7 _ _ _ _ _ _ _ (@zcv _ _ _ _ _ _ _ _ znk (@zaq _ _ _ _ _ _ _ _ _ (@zkO _ K rfl rfl) rfl T.z_sum zll (@zaa _ _ _ _ _ (@zhP _ _ (["_law_place","_law_count"]) [] _ _ _ _ _ _ _ _ _ rfl (by walk_at "comp_ok") (@za8 _ K _ _ _ rfl (qv 3)) (fun _ _ _ _=>(@za6 _ K _ _ _ _ 2 rfl rfl (@zal _ _ _ _ _ (@zak _ _ 0 _ (show List.Nodup (α:=Str) ["_law_place","_law_count"] from by decide +kernel) rfl (by walk_at "o") (by first | exact .inl rfl | exact .inr rfl | assumption)) (@zal _ _ _ _ _ (@zak _ _ 1 _ (show List.Nodup (α:=Str) ["_law_place","_law_count"] from by decide +kernel) rfl (by walk_at "o") (by first | exact .inl rfl | exact .inr rfl | assumption)) za7 (by rfl)) (by rfl)) (by rfl) (by rfl))) (fun _ _ _ _=>zbw) (fun _ _ _ _=>(qv 1)) (by intro _ ;rfl)) zac (by rfl)) (by decide) (by decide) (by rfl) (by rfl)) (@zav _ _ _ _ _ _ _ _ zbx (qv 2) zad) (by first | exact zbb _ | rfl)) (@zga _ _ _ _ (@zcv _ _ _ _ _ _ _ _ zk8 (@zaq _ _ _ _ _ _ _ _ _ (@zfs _ K rfl rfl) rfl T.z_min zfH (@zaa _ _ _ _ _ (@zhP _ _ (["_law_place","_law_count"]) [] _ _ _ _ _ _ _ _ _ rfl (by walk_at "comp_ok") (@za8 _ K _ _ _ rfl (qv 3)) (fun _ _ _ _=>(@za6 _ K _ _ _ _ 2 rfl rfl (@zal _ _ _ _ _ (@zak _ _ 0 _ (show List.Nodup (α:=Str) ["_law_place","_law_count"] from by decide +kernel) rfl (by walk_at "o") (by first | exact .inl rfl | exact .inr rfl | assumption)) (@zal _ _ _ _ _ (@zak _ _ 1 _ (show List.Nodup (α:=Str) ["_law_place","_law_count"] from by decide +kernel) rfl (by walk_at "o") (by first | exact .inl rfl | exact .inr rfl | assumption)) za7 (by rfl)) (by rfl)) (by rfl) (by rfl))) (fun _ _ _ _=>zbw) (fun _ _ _ _=>(qv 1)) (by intro _ ;rfl)) zac (by rfl)) (by decide) (by decide) (by rfl) (by rfl)) zad (by first | exact zbb _ | rfl))))) (@zag _ _ _ (@zat _ _ _ _ zcu)) zaz) (@zab _ _ _ _ _ (@zi5 _ _ (["_law_moment","_law_place"]) [] _ _ _ _ _ _ _ _ _ 6 _ _ _ rfl nd rfl (by walk_at "o") (by walk_at "comp_ok") (@za8 _ K _ _ _ rfl (qv 4)) (fun _ _ _ _=>(@za6 _ K _ _ _ _ 2 rfl rfl (@zal _ _ _ _ _ (@zak _ _ 0 _ (show List.Nodup (α:=Str) ["_law_moment","_law_place"] from by decide +kernel) rfl (by walk_at "o") (by first | exact .inl rfl | exact .inr rfl | assumption)) (@zal _ _ _ _ _ (@zak _ _ 1 _ (show List.Nodup (α:=Str) ["_law_moment","_law_place"] from by decide +kernel) rfl (by walk_at "o") (by first | exact .inl rfl | exact .inr rfl | assumption)) za7 (by rfl)) (by rfl)) (by rfl) (by rfl))) (fun _ _ _ _=>zbw) (fun _ _ _ _=>(qv 1)) (by rfl) (by first | exact .inl rfl | exact .inr rfl | assumption) (by intro _ ;rfl)) (@zag _ _ _ (@zat _ _ _ _ (@zd7 _ _ _ _ _ _ _ (@zbU _ _ _ _ _ _ _ _ (@zeH _ _ hr) (@zay _ _ _ _ _ (@zaa _ _ _ _ _ (@zaq _ _ _ _ _ _ _ _ _ (@zfs _ K rfl rfl) rfl T.z_min zfH (@zaa _ _ _ _ _ (qv 6) zac (by rfl)) (by decide) (by decide) (by rfl) (by rfl)) (@zaa _ _ _ _ _ (@zaq _ _ _ _ _ _ _ _ _ (@zh2 _ K rfl rfl) rfl T.z_max zgZ (@zaa _ _ _ _ _ (qv 6) zac (by rfl)) (by decide) (by decide) (by rfl) (by rfl)) zac (by rfl)) (by rfl))) (qv 5) (by first | exact zbb _ | rfl)) (@zf2 _ _ _ _ _ (@zbU _ _ _ _ _ _ _ _ zgQ (@zaq _ _ _ _ _ _ _ _ _ (@zbM _ K rfl) rfl T.z_len zby (@zaa _ _ _ _ _ (qv 6) zac (by rfl)) (by decide) (by decide) (by rfl) (by rfl)) (@zav _ _ _ _ _ _ _ _ zbx (@zav _ _ _ _ _ _ _ _ zeb (@zaQ _ _ _ _ _ _ _ (@zca _ K rfl) (qv 5) zad (fun _ _=>rfl)) (@zaQ _ _ _ _ _ _ _ (@zca _ K rfl) (qv 5) zad (fun _ _=>rfl))) zad) (by first | exact zbb _ | rfl)))))))))))),?_⟩;refine⟨m,hm,hM,hmo0,hmo1,fun l js H1 S1 n1 st1 pj sj=>?_⟩;refine⟨m,hm.stay (.sub S1),hM,hmo0,hmo1,fun fr H2 S2 n2 hr2=>?_⟩;refine⟨m,(hm.stay (.sub S1)).stay (.sub S2),hM,hmo0,hmo1,fun q0 lo hi H3 S3 hq3 ilo ihi=>?_⟩;have PL:=zl5 M ilo ihi pj sj;have ple:=PL.le;have htl:=zdN m most.toNat s00;have hjl:js.length<=1001:=by
    rw [pj.length_eq];unfold zk3
    have:=zep ((tr m most.toNat s00).map (·.2.1)) []
    rw [znA] at this;simp at this
    omega
   obtain⟨js_,hls,js_A⟩:=(st1.sub S2).sub S3;obtain⟨rs_,hrs,rs_A⟩:=(zbq hr2).sub S3;have hrl:(ze4 m most.toNat).length<=1002:=by
    unfold ze4;rw [zob]
    have:=zed ((tr m most.toNat s00).map (·.2.1)) 0 0 0
    rw [znA] at this;omega
   refine⟨⟨_,SqL.of (hls)⟩,?_⟩;intro pc npc;refine za4 (K:=K) (a:=l) (xs:=js_.map V.ref) (fun i σ H4=>∃ (v w:Option V),σ=[v,w]/\Sub H3 H4/\H4 pc=some (.lst (((js.take i).map (·.1)).map V.int))) ?_ ?_ ?_ ?_
   ·exact⟨none,none,rfl,Sub.new npc,zae⟩
   ·rintro i σ H4 _ ⟨v,w,rfl,S4,_⟩;exact SqL.of (S4 _ _ (hls))
   ·rintro i x σ H4 hi ⟨v,w,rfl,S4,g4⟩;rw [znB] at hi;obtain⟨c,hc,rfl⟩:=znD.1 hi;obtain⟨q,hq,hcq⟩:=js_A.at hc;rw [znB] at hq;obtain⟨k,hk,rfl⟩:=znD.1 hq;refine⟨_,SqT.of (S4 _ _ (hcq)),rfl,?_⟩;refine⟨_,g4,?_,_,_,rfl,S4.upd npc,?_⟩
    ·rw [znA,znA,znY];exact znO (znP (Nat.min_le_right _ _) (show js.length<=5000 by omega)) (by decide)
    ·rw [zae,znW,hk,znI,znI];rfl
   rintro σ H4 ⟨v,w,rfl,S4,g4⟩;rw [znA,js_A.1,znA,znV,PL.keys] at g4;have q4:=S4 _ _ hq3;have plen:=PL.len;have pz:=PL.z0;refine⟨_,_,SqT.of q4,rfl,?_⟩;refine⟨_,_,SqT.of q4,rfl,?_⟩;refine⟨⟨by omega,by omega,by omega,by omega,by omega⟩,fun pr npr=>?_⟩;have npc4:pr≠pc:=by rintro rfl;rw [npr] at g4;cases g4
   have S5:=Sub.new (o:=.lst ((rgL lo (hi+1-lo).toNat).map V.int)) npr;generalize hG5:upd H4 pr _=H5 at S5 ⊢;have e5:H5 pr=some (.lst ((rgL lo (hi+1-lo).toNat).map V.int)):=by rw [← hG5];exact zae
   clear hG5;refine⟨_,_,zjy (S5 _ _ g4),zjy e5,zlz _,?_⟩;rw [zaW];refine ifB.no rfl ?_;refine⟨⟨_,SqL.of ((S4.trans S5) _ _ hls)⟩,?_⟩;intro pd npd;refine za4 (K:=K) (a:=l) (xs:=js_.map V.ref) (fun i σ H'=>∃ (v w:Option V),σ=[v,w]/\Sub H5 H'/\H' pd=some (.lst (((js.take i).map (·.2)).map V.int))) ?_ ?_ ?_ ?_
   ·exact⟨none,none,rfl,Sub.new npd,zae⟩
   ·rintro i σ H' _ ⟨v,w,rfl,S',_⟩;exact SqL.of (S' _ _ ((S4.trans S5) _ _ hls))
   ·rintro i x σ H' hi' ⟨v,w,rfl,S',g'⟩;rw [znB] at hi';obtain⟨c,hc,rfl⟩:=znD.1 hi';obtain⟨q,hq,hcq⟩:=js_A.at hc;rw [znB] at hq;obtain⟨k,hk,rfl⟩:=znD.1 hq;refine⟨_,SqT.of (S' _ _ ((S4.trans S5) _ _ hcq)),rfl,?_⟩;refine⟨_,g',?_,_,_,rfl,S'.upd npd,?_⟩
    ·rw [znA,znA,znY];exact znO (znP (Nat.min_le_right _ _) (show (js).length<=5000 by omega)) (by decide)
    ·rw [zae,znW,hk,znI,znI];rfl
   rintro σ H6 ⟨v6,w6,rfl,S6,g6⟩;rw [znA,js_A.1,znA,znV] at g6;refine⟨_,SqL.of g6,?_⟩;walk_at "w";rw [PL.sum];refine ifB.no (by rw [zod rfl,znG (by omega)];rfl) ?_;refine⟨⟨_,SqL.of (((S4.trans S5).trans S6) _ _ hls)⟩,?_⟩;intro pe npe;refine za4 (K:=K) (a:=l) (xs:=js_.map V.ref) (fun i σ H'=>∃ (v w:Option V),σ=[v,w]/\Sub H6 H'/\H' pe=some (.lst (((js.take i).map (·.2)).map V.int))) ?_ ?_ ?_ ?_
   ·exact⟨none,none,rfl,Sub.new npe,zae⟩
   ·rintro i σ H' _ ⟨v,w,rfl,S',_⟩;exact SqL.of (S' _ _ (((S4.trans S5).trans S6) _ _ hls))
   ·rintro i x σ H' hi' ⟨v,w,rfl,S',g'⟩;rw [znB] at hi';obtain⟨c,hc,rfl⟩:=znD.1 hi';obtain⟨q,hq,hcq⟩:=js_A.at hc;rw [znB] at hq;obtain⟨k,hk,rfl⟩:=znD.1 hq;refine⟨_,SqT.of (S' _ _ (((S4.trans S5).trans S6) _ _ hcq)),rfl,?_⟩;refine⟨_,g',?_,_,_,rfl,S'.upd npe,?_⟩
    ·rw [znA,znA,znY];exact znO (znP (Nat.min_le_right _ _) (show (js).length<=5000 by omega)) (by decide)
    ·rw [zae,znW,hk,znI,znI];rfl
   rintro σ H7 ⟨v7,w7,rfl,S7,g7⟩;rw [znA,js_A.1,znA,znV] at g7;walk_at "w";have jne:js.map (·.2)≠[]:=fun z=>by
    have h1:=PL.sum;rw [z] at h1;have h2:(tr m most.toNat s00).length≠0:=fun z=>zmw m _ _ (List.length_eq_zero_iff.1 z)
    have h1:(0:Int)=((tr m most.toNat s00).length:Int):=h1;omega
   refine⟨_,SqL.of g7,jne,fun mn hmn _=>?_⟩;obtain⟨qm,hqm,rfl⟩:=znS.1 hmn;have hpos:=PL.pos qm hqm;walk_at "w";refine ifB.no (znH (by omega)) ?_;refine⟨⟨_,SqL.of ((((S4.trans S5).trans S6).trans S7) _ _ hrs)⟩,?_⟩;intro pg npg;refine za4 (K:=K) (a:=fr) (xs:=rs_.map V.ref) (fun i σ H'=>∃ (v w:Option V),σ=[v,w]/\Sub H7 H'/\H' pg=some (.lst ((((ze4 m most.toNat).take i).map (·.2)).map V.int))) ?_ ?_ ?_ ?_
   ·exact⟨none,none,rfl,Sub.new npg,zae⟩
   ·rintro i σ H' _ ⟨v,w,rfl,S',_⟩;exact SqL.of (S' _ _ ((((S4.trans S5).trans S6).trans S7) _ _ hrs))
   ·rintro i x σ H' hi' ⟨v,w,rfl,S',g'⟩;rw [znB] at hi';obtain⟨c,hc,rfl⟩:=znD.1 hi';obtain⟨q,hq,hcq⟩:=rs_A.at hc;rw [znB] at hq;obtain⟨k,hk,rfl⟩:=znD.1 hq;refine⟨_,SqT.of (S' _ _ ((((S4.trans S5).trans S6).trans S7) _ _ hcq)),rfl,?_⟩;refine⟨_,g',?_,_,_,rfl,S'.upd npg,?_⟩
    ·rw [znA,znA,znY];exact znO (znP (Nat.min_le_right _ _) (show ((ze4 m most.toNat)).length<=5000 by omega)) (by decide)
    ·rw [zae,znW,hk,znI,znI];rfl
   rintro σ H8 ⟨v8,w8,rfl,S8,g8⟩;rw [znA,rs_A.1,znA,znV] at g8;have rne:(ze4 m most.toNat).map (·.2)≠[]:=by unfold ze4;simp
   refine⟨_,SqL.of g8,rne,fun mn hmn hmn2=>?_⟩;obtain rfl:mn=lo:=zjU.one ⟨hmn,hmn2⟩ PL.ilo;refine⟨_,SqL.of g8,rne,fun mx hmx hmx2=>?_⟩;obtain rfl:mx=hi:=zjT.one ⟨hmx,hmx2⟩ PL.ihi;refine⟨by show 2<=sizeLine;decide,?_⟩;intro p9 n9;generalize U':upd _ p9 _=H9;obtain ⟨S9,e9⟩:=zai n9 U';clear U';have q9:=S9 _ _ (S8 _ _ (S7 _ _ (S6 _ _ (S5 _ _ q4))));refine⟨_,_,zlx e9,zlx q9,zm2 _ _,?_⟩;rw [zaW];refine ifB.yes rfl ?_;refine⟨_,.inl (SqL.of (S9 _ _ g8)),?_⟩;rw [znA,znA];refine⟨_,_,SqT.of q9,rfl,?_⟩;refine⟨_,_,SqT.of q9,rfl,?_⟩;walk_at "w";rw [zoc zok,znG (by omega)];exact h _ (S1.trans (S2.trans (S3.trans (S4.trans (S5.trans (S6.trans (S7.trans (S8.trans S9))))))))
  ·exact h.elim
theorem zjM:zar ["_law_script","_law_purse_here","_law_machine_here","_law_most","_law_entries","_law_found","_law_less_one","_law_at","_law_without","_law_told","_law_same"] ["_law_script"] (zaf zgJ):=by walk_at "s"
theorem zhv (qs:List (Int × Int)) (m:Ma):(zaS qs m).length=m.length:=by unfold zaS;rw [znA,List.length_range]
theorem zdY {qs:List (Int × Int)} {m:Ma} {k:Nat} {es:List En} (h:m[k]?=some es):(zaS qs m)[k]?=some (zci qs k es):=by
 have hl:=(znE.1 h).1;unfold zaS;rw [znB,List.getElem?_range hl];show some (zci qs k (m.getD k []))=_;rw [zog,h];rfl
theorem zfS {qs:List (Int × Int)} {k j:Nat} {es:List En} {e:En} (h:es[j]?=some e):(zci qs k es)[j]?=some (if ((k:Int),(j:Int))∈qs then e else []):=by
 have hl:=(znE.1 h).1;unfold zci;rw [znB,List.getElem?_range hl];show some (if ((k:Int),(j:Int))∈qs then es.getD j [] else [])=_;rw [zog,h];rfl
theorem zhw {qs:List (Int × Int)} {m:Ma} (M:OkM m):sgn (zaS qs m)=sgn m:=by
 cases m with
 | nil=>have:=M.n1;simp at this
 | cons r0 m' =>
  have h:=zdY (qs:=qs) (m:=r0::m') (k:=0) (es:=r0) rfl;cases e:zaS qs (r0::m') with
  | nil=>rw [e] at h;cases h
  | cons a b =>
   rw [e] at h;cases h;show (zci qs 0 r0).length=r0.length;unfold zci;rw [znA,List.length_range]
theorem zfR {qs:List (Int × Int)} {m:Ma} (M:OkM m):OkM (zaS qs m):=by
 have hs:=zhw (qs:=qs) M;have hl:=zhv qs m;have mem:∀ r∈zaS qs m,∃ k es,m[k]?=some es/\r=zci qs k es:=fun r hr=>by
  obtain⟨k,hk,e⟩:=List.getElem_of_mem hr;rw [hl] at hk;have h1:=znC hk;have h2:=zdY (qs:=qs) h1;exact⟨k,_,h1,zol ((znE.2 ⟨by rw [hl];exact hk,e⟩).symm.trans h2)⟩
 refine⟨by rw [hl];exact M.n1,by rw [hl];exact M.n4,by rw [hs];exact M.s2,by rw [hs];exact M.s4,fun r hr=>?_,fun r hr e he=>?_⟩
 ·obtain⟨k,es,h1,rfl⟩:=mem r hr;rw [hs];unfold zci;rw [znA,List.length_range];exact M.len es (znF h1)
 ·obtain⟨k,es,h1,rfl⟩:=mem r hr;rw [hs,hl];obtain⟨j,hj,e1⟩:=List.getElem_of_mem he;have hj':j<es.length:=by unfold zci at hj;rwa [znA,List.length_range] at hj
  have h2:=zfS (qs:=qs) (k:=k) (znC hj');have h3:=zol ((znE.2 ⟨hj,e1⟩).symm.trans h2);rw [h3];split
  ·exact M.ent es (znF h1) _ (List.getElem_mem hj')
  ·rfl
theorem zcS {qs:List (Int × Int)} {m:Ma} (M:OkM m) {x:St3} (o:OkS m x.1 x.2.2):en3 (zaS qs m) x=if zcT x∈qs then en3 m x else some []:=by
 obtain⟨es,e,h1,h2,h3,_⟩:=o.at M x.2.1;have hv:=(o.val M x.2.1).1;have hr:=o.r0;have h4:en3 (zaS qs m) x=some (if zcT x∈qs then e else []):=by
  show ((zaS qs m)[x.1.toNat]?).bind _=_;rw [zdY h1];show (zci qs x.1.toNat es)[((zbj x.2.2 x.2.1).getD 0).toNat]?=_;rw [zfS h2,Int.toNat_of_nonneg hr,Int.toNat_of_nonneg hv]
  rfl
 rw [h4,show en3 m x=some e from h3];split <;> rfl
theorem zeE {qs:List (Int × Int)} {m:Ma} (M:OkM m):∀ (k:Nat) (x:St3),OkS m x.1 x.2.2->(∀ y∈tr m k x,zcT y∈qs)->tr (zaS qs m) k x=tr m k x/\∀ i,pf m (zaS qs m) k i x=none
 | 0,x,o,h=>⟨rfl,fun _=>rfl⟩
 | k+1,x,o,h=>by
  have he:en3 m x=en3 (zaS qs m) x:=by
   rw [zcS M o,zod (h x (by show x∈x::_;exact zn8 ..))]
  have hsc:=zgh he;cases hs:L2.stN m x with
  | none=>rw [zbX hs,zbX (hsc ▸ hs)];exact⟨rfl,fun i=>by rw [pf,zod he,hs]⟩
  | some y =>
   rw [zbJ hs] at h;obtain⟨h1,h2⟩:=zeE M k y (o.next M hs) fun z hz=>h z (znT _ hz)
   rw [zbJ hs,zbJ (hsc ▸ hs),h1];exact⟨rfl,fun i=>by rw [zhS he hs];exact h2 _⟩
theorem zfT {qs:List (Int × Int)} {m:Ma} (M:OkM m):∀ (i k:Nat) (x y:St3) (c:Int),OkS m x.1 x.2.2->(tr m k x)[i]?=some y->zcT y ∉ qs->(∀ j z,j<i->(tr m k x)[j]?=some z->zcT z∈qs) ->
  tr (zaS qs m) k x=(tr m k x).take (i+1)/\en3 (zaS qs m) y=some []/\pf m (zaS qs m) k c x=if en3 m y=some []\/i=k then none else some (c+i)
 | 0,k,x,y,c,o,hy,hn,_=>by
  obtain⟨l,hl⟩:=zfG m k x;have e:y=x:=by rw [hl] at hy;exact (zol hy).symm
  subst e;have he:en3 (zaS qs m) y=some []:=by rw [zcS M o,zoc hn]
  refine⟨by rw [zbX (zeX he),hl];rfl,he,?_⟩;cases k with
  | zero=>rw [zod (.inr rfl)];rfl
  | succ k =>
   rw [pf,he];by_cases z:en3 m y=some []
   ·rw [zod z,zod (.inl z),zeX z]
   ·rw [zoc z,zoc (fun q=>q.elim z fun q=>by cases q)];simp
 | i+1,0,x,y,c,o,hy,hn,hb=>by
  have:(tr m 0 x)=[x]:=rfl
  rw [this] at hy;cases hy
 | i+1,k+1,x,y,c,o,hy,hn,hb=>by
  have he:en3 m x=en3 (zaS qs m) x:=by
   rw [zcS M o,zod (hb 0 x (Nat.succ_pos _) (zk0 m (k+1) x))]
  have hsc:=zgh he;cases hs:L2.stN m x with
  | none=>rw [zbX hs] at hy;cases hy
  | some z =>
   rw [zbJ hs] at hy hb ⊢;obtain⟨h1,h2,h3⟩:=zfT M i k z y (c+1) (o.next M hs) hy hn fun j u hj hu=>hb (j+1) u (by omega) hu
   refine⟨by rw [zbJ (hsc ▸ hs),h1];rfl,h2,?_⟩;rw [zhS he hs,h3];by_cases z:en3 m y=some []\/i=k
   ·rw [zod z,zod (z.imp id (by omega))]
   ·rw [zoc z,zoc (fun q=>z (q.imp id (by omega)))]
    congr 1
    push_cast
    omega
theorem zef {α:Type} {P:List α->Prop} (h0:P []) (h1:∀ l x,P l->P (l++[x])) (l:List α):P l:=by
 rw [← List.reverse_reverse l]
 induction l.reverse with
 | nil=>exact h0
 | cons x r ih=>rw [List.reverse_cons];exact h1 _ _ ih
theorem zcV {α:Type} [DecidableEq α] (l:List α) (z:α):z∈zaP [] l↔z∈l:=by
 refine zef (P:=fun l=>z∈zaP [] l↔z∈l) (by simp [zaP]) (fun l x ih=>?_) l;rw [zbB];split
 ·rename_i c;rw [ih,znL,znJ];refine⟨.inl,fun h=>h.elim id fun e=>?_⟩;subst e;exact ih.1 c
 ·rw [znL,znL,ih]
theorem zfm {α:Type} [DecidableEq α] (l:List α):(zaP [] l).Nodup:=by
 refine zef (P:=fun l=>(zaP [] l).Nodup) (by simp [zaP]) (fun l x ih=>?_) l;rw [zbB];split
 ·exact ih
 ·rename_i c;exact List.nodup_append.2 ⟨ih,by simp,fun a ha b hb e=>c (by rw [← znJ.1 hb,← e];exact ha)⟩
theorem zkr {α:Type} [DecidableEq α] (l:List α):∀ a,a<(zaP [] l).length->∃ i,i<l.length/\l[i]?=(zaP [] l)[a]?/\zaP [] (l.take (i+1))=(zaP [] l).take (a+1)/\∀ j z,j<i->l[j]?=some z->z∈(zaP [] l).take a:=by
 refine zef (P:=fun l=>∀ a,a<(zaP [] l).length->∃ i,i<l.length/\l[i]?=(zaP [] l)[a]?/\zaP [] (l.take (i+1))=(zaP [] l).take (a+1)/\∀ j z,j<i->l[j]?=some z->z∈(zaP [] l).take a) (fun a h=>by simp [zaP] at h) (fun l x ih a ha=>?_) l;rw [zbB] at ha ⊢;have old:a<(zaP [] l).length->∃ i,i<(l++[x]).length/\(l++[x])[i]?=(zaP [] l)[a]?/\zaP [] ((l++[x]).take (i+1))=(zaP [] l).take (a+1)/\∀ j z,j<i->(l++[x])[j]?=some z->z∈(zaP [] l).take a:=fun h=>by
  obtain⟨i,h1,h2,h3,h4⟩:=ih a h;refine⟨i,by rw [znK];omega,by rw [zn4 h1];exact h2,by rw [List.take_append_of_le_length (by omega)];exact h3,fun j z hj hz=>?_⟩;rw [zn4 (by omega)] at hz;exact h4 j z hj hz
 split
 ·rename_i c;rw [zod c] at ha;exact old ha
 ·rename_i c;rw [zoc c,znK] at ha;by_cases d:a<(zaP [] l).length
  ·obtain⟨i,h1,h2,h3,h4⟩:=old d;refine⟨i,h1,by rw [h2,zn4 d],by rw [h3,List.take_append_of_le_length (by omega)],fun j z hj hz=>?_⟩;rw [List.take_append_of_le_length (by omega)];exact h4 j z hj hz
  ·have ea:a=(zaP [] l).length:=by have:[x].length=1:=rfl;omega
   subst ea;refine⟨l.length,by rw [znK];simp,by simp,?_,fun j z hj hz=>?_⟩
   ·rw [List.take_of_length_le (by simp),zbB,zoc c,List.take_of_length_le (by simp)]
   ·rw [zn4 hj] at hz;rw [List.take_left' rfl];exact (zcV l z).2 (znF hz)
theorem zhF {m:Ma} (M:OkM m) {N:Nat} {q:Int × Int} (h:q∈zba m N):0<=q.1/\q.1<4/\0<=q.2/\q.2<4:=by
 unfold zba at h;rw [zcV] at h;obtain⟨x,hx,rfl⟩:=znS.1 h;have o:=zjh M N s00 M.start x hx;have hv:=o.val M x.2.1
 have:=M.n4;have:=M.s4;have:=o.r0;have:=o.r1
 refine⟨o.r0,by show x.1<4;omega,hv.1,by show (zbj x.2.2 x.2.1).getD 0<4;omega⟩
theorem zko {m:Ma} (M:OkM m) (N:Nat):(zba m N).length<=16:=by
 have nd:((zba m N).map fun q=>(q.1*4+q.2).toNat).Nodup:=by
  rw [List.Nodup,List.pairwise_map];refine (zfm _:(zba m N).Nodup).imp_of_mem fun {a b} ha hb hne e=>hne ?_
  have h1:=zhF M ha;have h2:=zhF M hb;exact Prod.ext (by omega) (by omega)
 have:=zfE nd (l':=List.range 16) fun x hx=>by
  obtain⟨q,hq,rfl⟩:=znS.1 hx;have h1:=zhF M hq;exact List.mem_range.2 (by omega)
 rw [znA,List.length_range] at this;exact this
theorem zlP (m:Ma) (N:Nat):0<(zba m N).length:=by
 obtain⟨l,hl⟩:=zfG m N s00;refine List.length_pos_of_mem (a:=zcT s00) ?_;unfold zba;rw [zcV,hl];exact zn8 ..
theorem ziS {m:Ma} (M:OkM m) (N:Nat):tr (zaS (zba m N) m) N s00=tr m N s00/\pf m (zaS (zba m N) m) N 1 s00=none/\zba (zaS (zba m N) m) N=zba m N/\∀ x∈tr m N s00,wd (zaS (zba m N) m) x=wd m x:=by
 have hin:∀ y∈tr m N s00,zcT y∈zba m N:=fun y hy=>by unfold zba;rw [zcV];exact znS.2 ⟨y,hy,rfl⟩
 obtain⟨h1,h2⟩:=zeE M N s00 M.start hin;refine⟨h1,h2 1,?_,fun x hx=>?_⟩
 ·unfold zba at h1 ⊢;rw [h1]
 ·have he:=zcS (qs:=zba m N) M (zjh M N s00 M.start x hx);rw [zod (hin x hx)] at he;unfold wd;rw [show ent (zaS (zba m N) m) x.1 x.2.1 x.2.2=ent m x.1 x.2.1 x.2.2 from he]
theorem ziR {m:Ma} (M:OkM m) {N a:Nat} (ha:a<(zba m N).length):∃ (i:Nat) (y:St3) (e:Int × Int),(tr m N s00)[i]?=some y/\zcT y=e/\(zba m N)[a]?=some e /\
  tr (zaS ((zba m N).take a++(zba m N).drop (a+1)) m) N s00=(tr m N s00).take (i+1)/\wd (zaS ((zba m N).take a++(zba m N).drop (a+1)) m) y="ends"/\zba (zaS ((zba m N).take a++(zba m N).drop (a+1)) m) N=(zba m N).take (a+1) /\
  pf m (zaS ((zba m N).take a++(zba m N).drop (a+1)) m) N 1 s00=if en3 m y=some []\/i=N then none else some (1+(i:Int)):=by
 have hL:zba m N=zaP [] ((tr m N s00).map zcT):=rfl;obtain⟨i,h1,h2,h3,h4⟩:=zkr ((tr m N s00).map zcT) a (by rw [← hL];exact ha);rw [← hL] at h2 h3 h4;rw [znA] at h1;have hy:=znC h1;generalize (tr m N s00)[i]=y at hy;rw [znB,hy] at h2;have nd:(zba m N).Nodup:=zfm _;have hnot:zcT y ∉ (zba m N).take a++(zba m N).drop (a+1):=fun hm=>by
  have h2:(zba m N)[a]?=some (zcT y):=h2.symm;obtain⟨ha',ea⟩:=znE.1 h2;rcases znL.1 hm with hm | hm
  ·obtain⟨j,hj,e⟩:=List.mem_take_iff_getElem.1 hm
   have:=(List.getElem_inj nd).1 (e.trans ea.symm)
   omega
  ·obtain⟨j,hj,e⟩:=List.mem_drop_iff_getElem.1 hm
   have:=(List.getElem_inj nd).1 (e.trans ea.symm)
   omega
 obtain⟨g1,g2,g3⟩:=zfT (qs:=(zba m N).take a++(zba m N).drop (a+1)) M i N s00 y 1 M.start hy hnot fun j z hj hz=>zn6 _ (h4 j (zcT z) hj (by rw [znB,hz];rfl))
 refine⟨i,y,zcT y,hy,rfl,h2.symm,g1,?_,?_,g3⟩
 ·unfold wd;rw [zod g2]
 ·have e2:zba (zaS ((zba m N).take a++(zba m N).drop (a+1)) m) N=zaP [] ((tr (zaS ((zba m N).take a++(zba m N).drop (a+1)) m) N s00).map zcT):=rfl;rw [e2,g1,List.map_take,h3]
def zdL (K:PySem.W.Frag):Sp:=fun vs H Q _=>match vs with
 | [.ref b]=>∃ ns:List Int,SqL K H b (ns.map V.int)/\ns.length<=63/\∀ H',Q (.bl true) H'
 | _=>False
theorem zlQ (T:Tx K mg a):zbu P w K mg base CX0 9 a.law a.law_d ["_law_script"] (zdL K):=by
 have G_l_purse:=zgC (P:=P) (w:=w) (base:=base) T;have G_l_any:=ziV (P:=P) (w:=w) (base:=base) T;have G_l_draw:=zbS (P:=P) (w:=w) (base:=base) T;have G_l_kept:=zhK (P:=P) (w:=w) (base:=base) T;have G_l_places:=zfl (P:=P) (w:=w) (base:=base) T;have G_met_entries:=zdu (P:=P) (w:=w) (base:=base) T;have G_run:=zlR (P:=P) (w:=w) (base:=base) T;have G_parts_from:=zd6 (P:=P) (w:=w) (base:=base) T;refine T.f_law.ok zjM (fun vs H Q E h=>?_) (fun cdv A outer s H vs Q E hr h=>?_)
 ·unfold zdL at h;split at h
  ·rfl
  ·exact h.elim
 ·unfold zdL at h;split at h
  ·have nd:=zjM.nd;have hu:=za5 hr;rename_i b;obtain⟨ns,hb,hl,h⟩:=h;refine⟨_,(@zab _ _ _ _ _ (@zao _ _ 1 _ _ _ _ nd rfl (by walk_at "o") (@zah _ _ _ _ _ _ _ _ _ _ _ _ _ _ _ _ G_l_purse (hr.mono (by decide)) rfl T.g_l_purse T.f_l_purse.kp T.b_l_purse .nil zan (@zaa _ _ _ _ _ (qv 0) zac (by rfl)) (by decide) (by rfl) (by rfl)) (by rfl) (by first | exact .inl rfl | exact .inr rfl | assumption)) (@zab _ _ _ _ _ (@zao _ _ 2 _ _ _ _ nd rfl (by walk_at "o") (@zah _ _ _ _ _ _ _ _ _ _ _ _ _ _ _ _ G_l_any (hr.mono (by decide)) rfl T.g_l_any T.f_l_any.kp T.b_l_any .nil zan (@zaa _ _ _ _ _ (qv 1) zac (by rfl)) (by decide) (by rfl) (by rfl)) (by rfl) (by first | exact .inl rfl | exact .inr rfl | assumption)) (@zab _ _ _ _ _ (@zao _ _ 3 _ _ _ _ nd rfl (by walk_at "o") (@zah _ _ _ _ _ _ _ _ _ _ _ _ _ _ _ _ G_l_draw (hr.mono (by decide)) rfl T.g_l_draw T.f_l_draw.kp T.b_l_draw .nil zan (@zaa _ _ _ _ _ (qv 1) (@zaa _ _ _ _ _ (@zaQ _ _ _ _ _ _ _ (@zaN _ K rfl) (@zaZ _ _ _ _ (@zaa _ _ _ _ _ zad (@zaa _ _ _ _ _ zad (@zaa _ _ _ _ _ zad (@zaa _ _ _ _ _ zad zac (by rfl)) (by rfl)) (by rfl)) (by rfl))) (@zah _ _ _ _ _ _ _ _ _ _ _ _ _ _ _ _ G_l_draw (hr.mono (by decide)) rfl T.g_l_draw T.f_l_draw.kp T.b_l_draw .nil zan (@zaa _ _ _ _ _ (qv 1) (@zaa _ _ _ _ _ zad zac (by rfl)) (by rfl)) (by decide) (by rfl) (by rfl)) (fun _ _=>rfl)) zac (by rfl)) (by rfl)) (by decide) (by rfl) (by rfl)) (by rfl) (by first | exact .inl rfl | exact .inr rfl | assumption)) (@zab _ _ _ _ _ (@zao _ _ 4 _ _ _ _ nd rfl (by walk_at "o") (@zah _ _ _ _ _ _ _ _ _ _ _ _ _ _ _ _ G_met_entries (hr.mono (by decide)) rfl T.g_met_entries T.f_met_entries.kp T.b_met_entries .nil zan (@zaa _ _ _ _ _ (qv 2) (@zaa _ _ _ _ _ (qv 3) zac (by rfl)) (by rfl)) (by decide) (by rfl) (by rfl)) (by rfl) (by first | exact .inl rfl | exact .inr rfl | assumption)) (@zab _ _ _ _ _ (@zao _ _ 5 _ _ _ _ nd rfl (by walk_at "o") (@zah _ _ _ _ _ _ _ _ _ _ _ _ _ _ _ _ G_run (hr.mono (by decide)) rfl T.g_run T.f_run.kp T.b_run .nil zan (@zaa _ _ _ _ _ (qv 2) (@zaa _ _ _ _ _ (qv 3) zac (by rfl)) (by rfl)) (by decide) (by rfl) (by rfl)) (by rfl) (by first | exact .inl rfl | exact .inr rfl | assumption)) (@zab _ _ _ _ _ (@zcP _ _ _ _ _ _ _ _ (PW.pt (@zf7 _ _ _ _ _ _ _ (@zdF _ _ _ _ (@zl8 _ _ _ (@zah _ _ _ _ _ _ _ _ _ _ _ _ _ _ _ _ G_l_places (hr.mono (by decide)) rfl T.g_l_places T.f_l_places.kp T.b_l_places .nil zan (@zaa _ _ _ _ _ (qv 2) (@zaa _ _ _ _ _ (qv 3) (@zaa _ _ _ _ _ (@zaQ _ _ _ _ _ _ _ (@zca _ K rfl) (qv 5) zad (fun _ _=>rfl)) zac (by rfl)) (by rfl)) (by rfl)) (by decide) (by rfl) (by rfl)) (by intro _ ;rfl))) (@zga _ _ _ _ (@zcv _ _ _ _ _ _ _ _ zk8 (@zaq _ _ _ _ _ _ _ _ _ zmd rfl T.z_len zby (@zaa _ _ _ _ _ (@zck _ _ _ _ _ _ _ _ _ (@zmj _ _ hr rfl) rfl T.z_set zlk (@zaa _ _ _ _ _ (qv 4) zac (by rfl)) (by decide) (by decide) (by rfl) (by rfl)) zac (by rfl)) (by decide) (by decide) (by rfl) (by rfl)) (@zaq _ _ _ _ _ _ _ _ _ (@zbM _ K rfl) rfl T.z_len zby (@zaa _ _ _ _ _ (qv 4) zac (by rfl)) (by decide) (by decide) (by rfl) (by rfl)) (by first | exact zbb _ | rfl))))) (@zag _ _ _ (@zat _ _ _ _ zcu)) zaz) (@zab _ _ _ _ _ (@zao _ _ 6 _ _ _ _ nd rfl (by walk_at "o") (@zah _ _ _ _ _ _ _ _ _ _ _ _ _ _ _ _ G_l_kept (hr.mono (by decide)) rfl T.g_l_kept T.f_l_kept.kp T.b_l_kept .nil zan (@zaa _ _ _ _ _ (qv 2) (@zaa _ _ _ _ _ (qv 4) zac (by rfl)) (by rfl)) (by decide) (by rfl) (by rfl)) (by rfl) (by first | exact .inl rfl | exact .inr rfl | assumption)) (@zab _ _ _ _ _ (@zcP _ _ _ _ _ _ _ _ (PW.pt (@zf7 _ _ _ _ _ _ _ (@zcv _ _ _ _ _ _ _ _ (@zeI _ _ hr) (@zah _ _ _ _ _ _ _ _ _ _ _ _ _ _ _ _ G_run (hr.mono (by decide)) rfl T.g_run T.f_run.kp T.b_run .nil zan (@zaa _ _ _ _ _ (qv 6) (@zaa _ _ _ _ _ (qv 3) zac (by rfl)) (by rfl)) (by decide) (by rfl) (by rfl)) (qv 5) (by first | exact zbb _ | rfl)) (@zga _ _ _ _ (@zcv _ _ _ _ _ _ _ _ zks (@zah _ _ _ _ _ _ _ _ _ _ _ _ _ _ _ _ G_parts_from (hr.mono (by decide)) rfl T.g_parts_from T.f_parts_from.kp T.b_parts_from .nil zan (@zaa _ _ _ _ _ (qv 2) (@zaa _ _ _ _ _ (qv 6) (@zaa _ _ _ _ _ (qv 3) zac (by rfl)) (by rfl)) (by rfl)) (by decide) (by rfl) (by rfl)) zf1 (by first | exact zbb _ | rfl))))) (@zag _ _ _ (@zat _ _ _ _ zcu)) zaz) (@zab _ _ _ _ _ (@zcP _ _ _ _ _ _ _ _ (@zcv _ _ _ _ _ _ _ _ (@zeI _ _ hr) (@zah _ _ _ _ _ _ _ _ _ _ _ _ _ _ _ _ G_met_entries (hr.mono (by decide)) rfl T.g_met_entries T.f_met_entries.kp T.b_met_entries .nil zan (@zaa _ _ _ _ _ (qv 6) (@zaa _ _ _ _ _ (qv 3) zac (by rfl)) (by rfl)) (by decide) (by rfl) (by rfl)) (qv 4) (by first | exact zbb _ | rfl)) (@zag _ _ _ (@zat _ _ _ _ zcu)) zaz) (@zab _ _ _ _ _ (@zao _ _ 7 _ _ _ _ nd rfl (by walk_at "o") (@zah _ _ _ _ _ _ _ _ _ _ _ _ _ _ _ _ G_l_draw (hr.mono (by decide)) rfl T.g_l_draw T.f_l_draw.kp T.b_l_draw .nil zan (@zaa _ _ _ _ _ (qv 1) (@zaa _ _ _ _ _ (@zaq _ _ _ _ _ _ _ _ _ (@zbM _ K rfl) rfl T.z_len zby (@zaa _ _ _ _ _ (qv 4) zac (by rfl)) (by decide) (by decide) (by rfl) (by rfl)) zac (by rfl)) (by rfl)) (by decide) (by rfl) (by rfl)) (by rfl) (by first | exact .inl rfl | exact .inr rfl | assumption)) (@zab _ _ _ _ _ (@zao _ _ 8 _ _ _ _ nd rfl (by walk_at "o") (@zah _ _ _ _ _ _ _ _ _ _ _ _ _ _ _ _ G_l_kept (hr.mono (by decide)) rfl T.g_l_kept T.f_l_kept.kp T.b_l_kept .nil zan (@zaa _ _ _ _ _ (qv 2) (@zaa _ _ _ _ _ (@zav _ _ _ _ _ _ _ _ zkM (@zcW _ _ _ _ _ _ _ _ _ _ (@zf9 _ K rfl) (qv 4) zd8 (@zec _ _ _ (qv 7))) (@zcW _ _ _ _ _ _ _ _ _ _ (@zf9 _ K rfl) (qv 4) (@zec _ _ _ (@zav _ _ _ _ _ _ _ _ zbx (qv 7) zad)) zd8)) zac (by rfl)) (by rfl)) (by decide) (by rfl) (by rfl)) (by rfl) (by first | exact .inl rfl | exact .inr rfl | assumption)) (@zab _ _ _ _ _ (@zao _ _ 9 _ _ _ _ nd rfl (by walk_at "o") (@zah _ _ _ _ _ _ _ _ _ _ _ _ _ _ _ _ G_run (hr.mono (by decide)) rfl T.g_run T.f_run.kp T.b_run .nil zan (@zaa _ _ _ _ _ (qv 8) (@zaa _ _ _ _ _ (qv 3) zac (by rfl)) (by rfl)) (by decide) (by rfl) (by rfl)) (by rfl) (by first | exact .inl rfl | exact .inr rfl | assumption)) (@zab _ _ _ _ _ (@zcP _ _ _ _ _ _ _ _ (PW.pt (@zf7 _ _ _ _ _ _ _ (@zcv _ _ _ _ _ _ _ _ znk (@zaQ _ _ _ _ _ _ _ (@zca _ K rfl) (qv 9) zad (fun _ _=>rfl)) zf3 (by first | exact zbb _ | rfl)) (@zga _ _ _ _ (@zcv _ _ _ _ _ _ _ _ (@zeI _ _ hr) (@zah _ _ _ _ _ _ _ _ _ _ _ _ _ _ _ _ G_met_entries (hr.mono (by decide)) rfl T.g_met_entries T.f_met_entries.kp T.b_met_entries .nil zan (@zaa _ _ _ _ _ (qv 8) (@zaa _ _ _ _ _ (qv 3) zac (by rfl)) (by rfl)) (by decide) (by rfl) (by rfl)) (@zcW _ _ _ _ _ _ _ _ _ _ (@zf9 _ K rfl) (qv 4) zd8 (@zec _ _ _ (@zav _ _ _ _ _ _ _ _ zbx (qv 7) zad))) (by first | exact zbb _ | rfl))))) (@zag _ _ _ (@zat _ _ _ _ zcu)) zaz) (@zab _ _ _ _ _ (@zao _ _ 10 _ _ _ _ nd rfl (by walk_at "o") (@zl2 _ _ _ _ _ _ _ (@zbU _ _ _ _ _ _ _ _ (@zeH _ _ hr) (@zaQ _ _ _ _ _ _ _ (@zaN _ K rfl) (@zaQ _ _ _ _ _ _ _ (@zaN _ K rfl) (qv 2) (@zaQ _ _ _ _ _ _ _ (@zca _ K rfl) (@zaQ _ _ _ _ _ _ _ (@zaN _ K rfl) (qv 4) (qv 7) (fun _ _=>rfl)) zad (fun _ _=>rfl)) (fun _ _=>rfl)) (@zaQ _ _ _ _ _ _ _ (@zca _ K rfl) (@zaQ _ _ _ _ _ _ _ (@zaN _ K rfl) (qv 4) (qv 7) (fun _ _=>rfl)) zad (fun _ _=>rfl)) (fun _ _=>rfl)) (@zay _ _ _ _ _ zac) (by first | exact zbb _ | rfl)) (@zf2 _ _ _ _ _ (@zbU _ _ _ _ _ _ _ _ zgQ (@zaQ _ _ _ _ _ _ _ (@zca _ K rfl) (qv 9) zad (fun _ _=>rfl)) (qv 3) (by first | exact zbb _ | rfl)))) (by rfl) (by first | exact .inl rfl | exact .inr rfl | assumption)) (@zag _ _ _ (@zat _ _ _ _ (@zbU _ _ _ _ _ _ _ _ (@zeH _ _ hr) (@zah _ _ _ _ _ _ _ _ _ _ _ _ _ _ _ _ G_parts_from (hr.mono (by decide)) rfl T.g_parts_from T.f_parts_from.kp T.b_parts_from .nil zan (@zaa _ _ _ _ _ (qv 2) (@zaa _ _ _ _ _ (qv 8) (@zaa _ _ _ _ _ (qv 3) zac (by rfl)) (by rfl)) (by rfl)) (by decide) (by rfl) (by rfl)) (@zaQ _ _ _ _ _ _ _ (@zaN _ K rfl) (@zaZ _ _ _ _ (@zaa _ _ _ _ _ (@zav _ _ _ _ _ _ _ _ zbx (@zaQ _ _ _ _ _ _ _ (@zca _ K rfl) (qv 9) zad (fun _ _=>rfl)) zad) (@zaa _ _ _ _ _ zf1 zac (by rfl)) (by rfl))) (@zck _ _ _ _ _ _ _ _ _ zjI rfl T.z_int zjr (@zaa _ _ _ _ _ (qv 10) zac (by rfl)) (by decide) (by decide) (by rfl) (by rfl)) (fun _ _=>rfl)) (by first | exact zbb _ | rfl)))))))))))))))))),?_⟩;refine⟨ns,hb,hl,fun pp H1 n k S1 n1 e1=>?_⟩;refine⟨n,k,e1,fun p m H2 P2 n2 hm hM=>?_⟩;have M:=OkM.of hM;obtain⟨n2',e2⟩:=P2.has;refine⟨by show 4<=sizeLine;decide,?_⟩;intro p3 n3;generalize U':upd _ p3 _=H3;obtain ⟨S3,e3⟩:=zai n3 U';clear U';have P3:=P2.sub S3;have L3:H3 p3=some (.lst [V.int 61,V.int 401,V.int 61,V.int 1001]):=e3;have npp:p3≠pp:=by rintro rfl;rw [e2] at n3;cases n3
   obtain⟨n3',e3⟩:=P3.has;walk_at "w";refine⟨by decide,_,_,e3,fun d4 n4 d40 d41=>?_⟩;have P4:=P3.draw n4;have Q4:=Pu.of_draw n4 e3;generalize hg4:upd _ pp _=H4 at P4 Q4 ⊢;have e4:H4 pp=some (.lst [.int n4,.int k]):=by rw [← hg4];exact zae
   clear hg4;walk_at "w";have L4:=Q4.keep _ _ npp L3;obtain⟨y4,hy4,y40,y41⟩:∃ y:Int,atI [V.int 61,V.int 401,V.int 61,V.int 1001] d4=some (.int y)/\0<y/\y<=1001:=by
    rcases (show d4=0\/d4=1\/d4=2\/d4=3 by omega) with e | e | e | e
    ·rw [e];exact⟨61,rfl,by decide,by decide⟩
    ·rw [e];exact⟨401,rfl,by decide,by decide⟩
    ·rw [e];exact⟨61,rfl,by decide,by decide⟩
    ·rw [e];exact⟨1001,rfl,by decide,by decide⟩
   refine⟨_,_,SqL.of L4,hy4,?_⟩;refine⟨⟨y40,znR ((Nat.log2_lt (by omega)).2 (show y4.natAbs<2 ^ 10 by omega)) (by decide)⟩,_,_,e4,fun mo n5 mo0 mo1=>?_⟩;have P5:=P4.draw n5;have Q5:=Pu.of_draw n5 e4;generalize hg5:upd _ pp _=H5 at P5 Q5 ⊢;clear hg5;have mo2:mo<=1000:=by omega
   have hm5:=((hm.stay (.sub S3)).stay Q4.stay).stay Q5.stay;refine⟨m,hm5,hM,mo0,mo2,fun f as H6 S6 n6 hf hA=>?_⟩;have hm6:=hm5.stay (.sub S6);refine⟨m,hm6,hM,mo0,mo2,fun q l x js H7 S7 hx hru pj sj nl=>?_⟩;have hm7:=hm6.stay (.sub S7);obtain⟨sx,hru1,hru2⟩:=id hru;refine⟨_,_,SqT.of hru1,rfl,?_⟩;refine⟨m,hm7,hM,mo0,mo2,rfl,fun H8 S8=>?_⟩;refine ifB.no rfl ?_;have S68:=S7.trans S8;have hf8:=S68 _ _ hf;have few:=zko M mo.toNat;have nz:=zlP m mo.toNat;have mnd:(zba m mo.toNat).Nodup:=zfm _;refine⟨as,(zba m mo.toNat).map zbT,hf8,?_,?_,by rw [znA];omega,fun ds nds=>?_⟩
   ·refine⟨by rw [znA];exact hA.1,fun i a k ha hk=>?_⟩;rw [znB] at hk;obtain⟨q',hq',rfl⟩:=znD.1 hk;exact⟨zeJ _,zc4.2 (S68 _ _ (hA.2 i a q' ha hq'))⟩
   ·rw [List.Nodup,List.pairwise_map];exact mnd.imp fun hne e=>hne (zeK e)
   have S9:=Sub.new (o:=.ext (zjm ds ((zba m mo.toNat).map zbT).length)) nds;generalize hG9:upd H8 ds _=H9 at S9 ⊢;have e9:H9 ds=some (.ext (zjm ds ((zba m mo.toNat).map zbT).length)):=by rw [← hG9];exact zae
   clear hG9;rw [znA] at e9;refine⟨_,e9,by omega,?_⟩;refine⟨_,.inl (SqL.of (S9 _ _ hf8)),?_⟩;rw [znA,hA.1];refine ifB.no (znH (by omega)) ?_;have S79:=S8.trans S9;have S69:=S7.trans S79;have hm9:=hm7.stay (.sub S79);obtain⟨t1,t2,t3,t4⟩:=ziS M mo.toNat;refine⟨m,zba m mo.toNat,hm9,hM,⟨as,S69 _ _ hf,hA.mono fun _ _ _ z=>S69 _ _ z⟩,fun pk H10 S10 hk10=>?_⟩;have hMk:isM (zaS (zba m mo.toNat) m)=true:=(zfR M).isM;refine⟨_,hk10,hMk,mo0,mo2,fun q' l' x' js' H11 S11 hx' hru' pj' sj' nl'=>?_⟩;rw [t1,hx] at hx';obtain rfl:=zol hx';have xm:x∈tr m mo.toNat s00:=List.mem_of_getLast? hx;have ejs:js'=js:=zkX (pj'.trans pj.symm) sj' sj;subst ejs;rw [t4 x xm,t1] at hru';refine⟨_,_,hru'.den,(((hru.sub S79).sub S10).sub S11).den,zj8,?_⟩;rw [zaW];refine ifB.no rfl ?_;have hm11:=(hm9.stay (.sub S10)).stay (.sub S11);have hk11:=hk10.stay (.sub S11);refine⟨m,_,hm11,hM,hk11,hMk,mo0,mo2,fun H12 S12=>?_⟩;rw [t2];refine⟨rfl,?_⟩;refine ifB.no (by rw [znG (show optV none=V.non from rfl)];rfl) ?_;refine⟨_,hk11.stay (.sub S12),hMk,mo0,mo2,fun f' as' H13 S13 n13 hf' hA'=>?_⟩;rw [t3] at hA';have S613:=S69.trans (S10.trans (S11.trans (S12.trans S13)));have hf13:=S613 _ _ hf;have A13:=hA.mono fun _ _ _ z=>S613 _ _ z
   refine⟨_,_,(zbq ⟨as',hf',hA'⟩).den,(zbq ⟨as,hf13,A13⟩).den,zg9 _,?_⟩;rw [zaW];refine ifB.no rfl ?_;have P13:=P5.sub (S6.trans S613);obtain⟨n13',e13⟩:=P13.has;refine⟨_,.inl (SqL.of hf13),?_⟩;rw [znA,hA.1];refine⟨zaR (by omega) (by omega),_,_,e13,fun av n14 av0 av1=>?_⟩;have P14:=P13.draw n14;have Q14:=Pu.of_draw n14 e13;generalize hg14:upd _ pp _=H14 at P14 Q14 ⊢;clear hg14;obtain⟨a,rfl⟩:∃ a:Nat,av=a:=⟨av.toNat,by omega⟩;have ha:a<(zba m mo.toNat).length:=by omega
   have hf14:=Q14.stay.refs _ _ hf13;have A14:=A13.mono fun _ _ _ z=>Q14.stay.tup _ _ z
   have hm14:=(((hm11.stay (.sub S12)).stay (.sub S13)).stay Q14.stay);have hal:as.length=(zba m mo.toNat).length:=hA.1;refine⟨_,SqL.of hf14,?_⟩;intro p15 n15;generalize U':upd _ p15 _=H15;obtain ⟨S15,e15⟩:=zai n15 U';clear U';rw [zlu (by omega) (by omega)] at e15;refine⟨_,SqL.of (S15 _ _ hf14),?_⟩;intro p16 n16;generalize U':upd _ p16 _=H16;obtain ⟨S16,e16⟩:=zai n16 U';clear U';rw [zix (by omega) (by omega)] at e16;rw [Int.toNat_natCast] at e15 e16;refine⟨_,_,S16 _ _ e15,e16,?_,?_⟩
   ·rw [znA,znA,znY,List.length_drop];exact znP (show _<=16 by omega) (by decide)
   intro p17 n17;generalize U':upd _ p17 _=H17;obtain ⟨S17,e17⟩:=zai n17 U';clear U';rw [← znI] at e17;have S147:=(S15.trans S16).trans S17;have A17:zaY (fun a q=>H17 a=some (.tup [.int q.1,.int q.2])) (as.take a++as.drop (a+1)) ((zba m mo.toNat).take a++(zba m mo.toNat).drop (a+1)) :=
    ((A14.mono fun _ _ _ z=>S147 _ _ z).take a).append ((A14.mono fun _ _ _ z=>S147 _ _ z).drop (a+1))
   obtain⟨i,y,ev,u1,u2,u3,u4,u5,u6,u7⟩:=ziR M ha;have hm17:=hm14.stay (.sub S147);refine⟨m,_,hm17,hM,⟨_,e17,A17⟩,fun pw H18 S18 hw18=>?_⟩;have hMw:isM (zaS ((zba m mo.toNat).take a++(zba m mo.toNat).drop (a+1)) m)=true:=(zfR M).isM;generalize zaS ((zba m mo.toNat).take a++(zba m mo.toNat).drop (a+1)) m=mw at u4 u5 u6 u7 hw18 hMw;refine⟨_,hw18,hMw,mo0,mo2,fun q2 l2 x2 js2 H19 S19 hx2 hru2 pj2 sj2 nl2=>?_⟩;have hil:=(znE.1 u1).1;have ex2:x2=y:=by
    rw [u4,List.getLast?_eq_getElem?,znY,List.getElem?_take] at hx2;rw [zod (by omega),show min (i+1) (tr m mo.toNat s00).length-1=i by omega,u1] at hx2;exact (zol hx2).symm
   subst ex2;have elen:(((tr mw mo.toNat s00).length:Int)-1)=i:=by rw [u4,znY];omega
   obtain⟨sx2,hru3,hru4⟩:=id hru2;rw [u5] at hru3;generalize hend:(Str.ofString "ends")=wds at hru3;rw [show (((tr mw mo.toNat (0,0,[])).length:Int)-1)=i from elen] at hru3;refine⟨_,_,SqT.of hru3,rfl,?_⟩;walk_at "w";refine ifB.no (by rw [zod rfl,znG rfl];rfl) ?_;refine⟨_,hw18.stay (.sub S19),hMw,mo0,mo2,fun f3 as3 H20 S20 n20 hf3 hA3=>?_⟩;rw [u6] at hA3;have S1420:=(S147.trans (S18.trans S19)).trans S20;have hf20:=S1420 _ _ hf14;refine⟨_,SqL.of hf20,?_⟩;intro p21 n21;generalize U':upd _ p21 _=H21;obtain ⟨S21,e21⟩:=zai n21 U';clear U';rw [show ((a:Int)+1)=((a+1:Nat):Int) by omega,ziy (by rw [znA];omega),← List.map_take] at e21;have S1421:=S1420.trans S21;have A21:=A14.mono fun _ _ _ z=>S1421 _ _ z
   refine⟨_,_,(zbq ⟨as3,S21 _ _ hf3,hA3.mono fun _ _ _ z=>S21 _ _ z⟩).den,(zbq ⟨_,e21,A21.take (a+1)⟩).den,zg9 _,?_⟩;rw [zaW];refine ifB.no rfl ?_;have o2:=zjh M mo.toNat s00 M.start x2 (znF u1);obtain⟨es,en,w1,w2,w3,_,_⟩:=o2.at M x2.2.1;have hv2:=(o2.val M x2.2.1).1;have hr2:=o2.r0;obtain⟨ws,hw0,_,hrw⟩:=hm14.stay (.sub S1421);have ewi:ws[x2.1.toNat]?=some (ws[x2.1.toNat]'(by rw [hrw.1];exact (znE.1 w1).1)):=znC _;generalize ws[x2.1.toNat]'(by rw [hrw.1];exact (znE.1 w1).1)=wi at ewi;obtain⟨es',he',cs,hE,hAe⟩:=hrw.at ewi;rw [w1] at he';obtain rfl:=zol he';have eci:cs[((zbj x2.2.2 x2.2.1).getD 0).toNat]?=some (cs[((zbj x2.2.2 x2.2.1).getD 0).toNat]'(by rw [hAe.1];exact (znE.1 w2).1)):=znC _;generalize cs[((zbj x2.2.2 x2.2.1).getD 0).toNat]'(by rw [hAe.1];exact (znE.1 w2).1)=ci at eci;obtain⟨en',hen',hEn⟩:=hAe.at eci;rw [w2] at hen';obtain rfl:=zol hen';have eaa:as[a]?=some (as[a]'(by omega)):=znC _;generalize as[a]'(by omega)=aa at eaa;obtain⟨ev',hev,haa⟩:=A21.at eaa;rw [u3] at hev;obtain rfl:=zol hev;subst u2;have ata:atI (as.map V.ref) (a:Int)=some (.ref aa):=zbh (by omega) (by rw [Int.toNat_natCast,znB,eaa];rfl);have atw:atI (ws.map V.ref) x2.1=some (.ref wi):=zbh hr2 (by rw [znB,ewi];rfl);have atc:atI (cs.map V.ref) ((zbj x2.2.2 x2.2.1).getD 0)=some (.ref ci):=zbh hv2 (by rw [znB,eci];rfl);have haa:H21 aa=some (.tup [.int x2.1,.int ((zbj x2.2.2 x2.2.1).getD 0)]):=haa;have hf21:=S21 _ _ hf20;refine⟨_,_,SqL.of hf21,ata,?_⟩;refine⟨_,_,SqT.of haa,rfl,?_⟩;refine⟨_,_,SqL.of hw0,atw,?_⟩;refine⟨_,_,SqL.of hf21,ata,?_⟩;refine⟨_,_,SqT.of haa,rfl,?_⟩;refine⟨_,_,SqL.of hE,atc,?_⟩;refine⟨by show 0<=sizeLine;decide,?_⟩;intro p22 n22;generalize U':upd _ p22 _=H22;obtain ⟨S22,e22⟩:=zai n22 U';clear U';have hm22:=(hm14.stay (.sub S1421)).stay (.sub S22);have hw22:=(((hw18.stay (.sub S19)).stay (.sub S20)).stay (.sub S21)).stay (.sub S22);have hru22:=S22 _ _ (S21 _ _ (S20 _ _ hru3));refine⟨_,_,(hEn.stay (.sub S22)).den,Ent.den (e:=[]) e22,zc5 _,?_⟩;rw [zhf];have w3:en3 m x2=some en:=w3;refine ifB.dec (fun z=>?_) (fun z=>?_)
   ·subst z;refine⟨m,mw,hm22,hM,hw22,hMw,mo0,mo2,fun H23 S23=>?_⟩;rw [u7,zod (.inl w3)];refine⟨_,_,SqT.of (S23 _ _ hru22),rfl,?_⟩;refine⟨by show 2<=sizeLine;decide,?_⟩;intro p24 n24;generalize U':upd _ p24 _=H24;obtain ⟨S24,e24⟩:=zai n24 U';clear U';refine⟨_,_,SqL.of e24,rfl,?_⟩;refine⟨.non,.non,by rw [Den];rfl,by rw [Den],Nat.zero_le 60,?_⟩;rw [zaW];exact h _
   ·walk_at "w";refine⟨_,_,SqT.of hru22,rfl,?_⟩;walk_at "w";rw [zoc zok];by_cases c:(i:Int)=mo
    ·rw [znG c];refine⟨m,mw,hm22,hM,hw22,hMw,mo0,mo2,fun H23 S23=>?_⟩;rw [u7,zod (.inr (by omega))];refine⟨_,_,SqT.of (S23 _ _ hru22),rfl,?_⟩;refine⟨by show 2<=sizeLine;decide,?_⟩;intro p24 n24;generalize U':upd _ p24 _=H24;obtain ⟨S24,e24⟩:=zai n24 U';clear U';refine⟨_,_,SqL.of e24,rfl,?_⟩;refine⟨.non,.non,by rw [Den];rfl,by rw [Den],Nat.zero_le 60,?_⟩;rw [zaW];exact h _
    ·rw [znH c];refine⟨m,mw,hm22,hM,hw22,hMw,mo0,mo2,fun H23 S23=>?_⟩;rw [u7,zoc (fun zz=>zz.elim (fun zz=>z (by rw [w3] at zz;exact zol zz)) fun zz=>c (by omega))];refine⟨_,_,SqT.of (S23 _ _ hru22),rfl,?_⟩;refine⟨by show 2<=sizeLine;decide,?_⟩;intro p24 n24;generalize U':upd _ p24 _=H24;obtain ⟨S24,e24⟩:=zai n24 U';clear U';refine⟨_,_,SqL.of e24,rfl,?_⟩;refine⟨.int (1+(i:Int)),.int ((i:Int)+1),by rw [Den];rfl,by rw [Den],Nat.zero_le 60,?_⟩;rw [Int.add_comm,zaW];exact h _
  ·exact h.elim
end
open PySem.W in
theorem all_mk {l:OpenLaw} {w:World} {K:Frag} {h:Heap} {mg:Str->Option Value} {fa:Addr} {tk_MOST_ROWS tk_LEAST_SIGNS tk_MOST_SIGNS:Tok} {xZ0 xZ1 xZ2 xZ3 xZ4 xZ5 xZ6 xZ7 xZ8 xZ9 xZ10 xZ11 xZ12 xZ13 xZ14 xZ15 xZ16 xZ17 xZ18 xZ19 xZ20 xZ21 xZ22 xZ23 xZ24 xZ25 xZ26 xZ27 xZ28 x_MillError x_NoMachine x_Walk:Addr} (X:K.In h) (G:h.Ns mainGlobals mg) (hfa:mg "law"=some (.ref fa))
  {odZ0 anZ0 odZ1 anZ1 odZ2 anZ2 odZ3 anZ3 odZ4 anZ4 odZ5 anZ5 odZ6 anZ6 odZ7 anZ7 odZ8 anZ8 odZ9 anZ9 odZ10 anZ10 odZ11 anZ11 odZ12 anZ12 odZ13 anZ13 odZ14 anZ14 odZ15 anZ15 odZ16 anZ16 odZ17 anZ17 odZ18 anZ18 odZ19 anZ19 odZ20 anZ20 odZ21 anZ21 odZ22 anZ22 odZ23 anZ23 odZ24 anZ24 odZ25 anZ25 odZ26 anZ26 odZ27 anZ27 odZ28 anZ28:Option Addr} {slZ0 slZ1 slZ2 slZ3 slZ4 slZ5 slZ6 slZ7 slZ8 slZ9 slZ10 slZ11 slZ12 slZ13 slZ14 slZ15 slZ16 slZ17 slZ18 slZ19 slZ20 slZ21 slZ22 slZ23 slZ24 slZ25 slZ26 slZ27 slZ28:Array (Option Value)} {ocZ0 kVZ0 dcZ0 pmZ0 cdZ0 ctZ0 ocZ1 kVZ1 dcZ1 pmZ1 cdZ1 ctZ1 ocZ2 kVZ2 dcZ2 pmZ2 cdZ2 ctZ2 ocZ3 kVZ3 dcZ3 pmZ3 cdZ3 ctZ3 ocZ4 kVZ4 dcZ4 pmZ4 cdZ4 ctZ4 ocZ5 kVZ5 dcZ5 pmZ5 cdZ5 ctZ5 ocZ6 kVZ6 dcZ6 pmZ6 cdZ6 ctZ6 ocZ7 kVZ7 dcZ7 pmZ7 cdZ7 ctZ7 ocZ8 kVZ8 dcZ8 pmZ8 cdZ8 ctZ8 ocZ9 kVZ9 dcZ9 pmZ9 cdZ9 ctZ9 ocZ10 kVZ10 dcZ10 pmZ10 cdZ10 ctZ10 ocZ11 kVZ11 dcZ11 pmZ11 cdZ11 ctZ11 ocZ12 kVZ12 dcZ12 pmZ12 cdZ12 ctZ12 ocZ13 kVZ13 dcZ13 pmZ13 cdZ13 ctZ13 ocZ14 kVZ14 dcZ14 pmZ14 cdZ14 ctZ14 ocZ15 kVZ15 dcZ15 pmZ15 cdZ15 ctZ15 ocZ16 kVZ16 dcZ16 pmZ16 cdZ16 ctZ16 ocZ17 kVZ17 dcZ17 pmZ17 cdZ17 ctZ17 ocZ18 kVZ18 dcZ18 pmZ18 cdZ18 ctZ18 ocZ19 kVZ19 dcZ19 pmZ19 cdZ19 ctZ19 ocZ20 kVZ20 dcZ20 pmZ20 cdZ20 ctZ20 ocZ21 kVZ21 dcZ21 pmZ21 cdZ21 ctZ21 ocZ22 kVZ22 dcZ22 pmZ22 cdZ22 ctZ22 ocZ23 kVZ23 dcZ23 pmZ23 cdZ23 ctZ23 ocZ24 kVZ24 dcZ24 pmZ24 cdZ24 ctZ24 ocZ25 kVZ25 dcZ25 pmZ25 cdZ25 ctZ25 ocZ26 kVZ26 dcZ26 pmZ26 cdZ26 ctZ26 ocZ27 kVZ27 dcZ27 pmZ27 cdZ27 ctZ27 ocZ28 kVZ28 dcZ28 pmZ28 cdZ28 ctZ28:Value}
  {cx_MillError cx_NoMachine:ClassData}
  (a_Walk:nsIn K mainGlobals "Walk"=some (some (.ref x_Walk)))
  (pg_Walk:plainGet K x_Walk Str.empty=true)
  (hd_Walk:hasDictIn K x_Walk=true)
  (po_Walk:plainOver K x_Walk=true)
  (sa_Walk:findIn K (.ref x_Walk) "__setattr__"=some (some (.builtin "object.__setattr__")))
  (mk_Walk:makesIn K x_Walk=true)
  (kc_Walk:keepIn K (.ref x_Walk)=true)
  (n_Walk_table:findIn K (.ref x_Walk) "table"=some none)
  (n_Walk_row:findIn K (.ref x_Walk) "row"=some none)
  (n_Walk_place:findIn K (.ref x_Walk) "place"=some none)
  (n_Walk_marks:findIn K (.ref x_Walk) "marks"=some none)
  (aZ0:nsIn K mainGlobals "_law_mixed"=some (some (.ref xZ0)))
  (lZ0:K.lookup xZ0=some ⟨ocZ0,odZ0,.func (fnOf "_law_mixed" "_law_mixed" (zas zbC) (zap zbC) (zaf zbC) .none kVZ0 dcZ0 pmZ0 anZ0 cdZ0 ctZ0),slZ0⟩)
  (cZ0:codeIn K cdZ0 "_law_mixed"=true)
  (kZ0:keepIn K (.ref xZ0)=true)
  (aZ1:nsIn K mainGlobals "_law_draw"=some (some (.ref xZ1)))
  (lZ1:K.lookup xZ1=some ⟨ocZ1,odZ1,.func (fnOf "_law_draw" "_law_draw" (zas zb3) (zap zb3) (zaf zb3) .none kVZ1 dcZ1 pmZ1 anZ1 cdZ1 ctZ1),slZ1⟩)
  (cZ1:codeIn K cdZ1 "_law_draw"=true)
  (kZ1:keepIn K (.ref xZ1)=true)
  (aZ2:nsIn K mainGlobals "_law_purse"=some (some (.ref xZ2)))
  (lZ2:K.lookup xZ2=some ⟨ocZ2,odZ2,.func (fnOf "_law_purse" "_law_purse" (zas zbD) (zap zbD) (zaf zbD) .none kVZ2 dcZ2 pmZ2 anZ2 cdZ2 ctZ2),slZ2⟩)
  (cZ2:codeIn K cdZ2 "_law_purse"=true)
  (kZ2:keepIn K (.ref xZ2)=true)
  (aZ3:nsIn K mainGlobals "is_entry"=some (some (.ref xZ3)))
  (lZ3:K.lookup xZ3=some ⟨ocZ3,odZ3,.func (fnOf "is_entry" "is_entry" (zas zbm) (zap zbm) (zaf zbm) .none kVZ3 dcZ3 pmZ3 anZ3 cdZ3 ctZ3),slZ3⟩)
  (cZ3:codeIn K cdZ3 "is_entry"=true)
  (kZ3:keepIn K (.ref xZ3)=true)
  (aZ4:nsIn K mainGlobals "is_row"=some (some (.ref xZ4)))
  (lZ4:K.lookup xZ4=some ⟨ocZ4,odZ4,.func (fnOf "is_row" "is_row" (zas zb2) (zap zb2) (zaf zb2) .none kVZ4 dcZ4 pmZ4 anZ4 cdZ4 ctZ4),slZ4⟩)
  (cZ4:codeIn K cdZ4 "is_row"=true)
  (kZ4:keepIn K (.ref xZ4)=true)
  (aZ5:nsIn K mainGlobals "is_machine"=some (some (.ref xZ5)))
  (lZ5:K.lookup xZ5=some ⟨ocZ5,odZ5,.func (fnOf "is_machine" "is_machine" (zas za2) (zap za2) (zaf za2) .none kVZ5 dcZ5 pmZ5 anZ5 cdZ5 ctZ5),slZ5⟩)
  (cZ5:codeIn K cdZ5 "is_machine"=true)
  (kZ5:keepIn K (.ref xZ5)=true)
  (aZ6:nsIn K mainGlobals "must_machine"=some (some (.ref xZ6)))
  (lZ6:K.lookup xZ6=some ⟨ocZ6,odZ6,.func (fnOf "must_machine" "must_machine" (zas zaO) (zap zaO) (zaf zaO) .none kVZ6 dcZ6 pmZ6 anZ6 cdZ6 ctZ6),slZ6⟩)
  (cZ6:codeIn K cdZ6 "must_machine"=true)
  (kZ6:keepIn K (.ref xZ6)=true)
  (aZ7:findIn K (.ref x_Walk) "__init__"=some (some (.ref xZ7)))
  (iZ7:isFn K (.ref xZ7)=true)
  (lZ7:K.lookup xZ7=some ⟨ocZ7,odZ7,.func (fnOf "__init__" "Walk.__init__" (zas zaJ) (zap zaJ) (zaf zaJ) .none kVZ7 dcZ7 pmZ7 anZ7 cdZ7 ctZ7),slZ7⟩)
  (cZ7:codeIn K cdZ7 "Walk.__init__"=true)
  (kZ7:keepIn K (.ref xZ7)=true)
  (aZ8:findIn K (.ref x_Walk) "look"=some (some (.ref xZ8)))
  (iZ8:isFn K (.ref xZ8)=true)
  (lZ8:K.lookup xZ8=some ⟨ocZ8,odZ8,.func (fnOf "look" "Walk.look" (zas zbd) (zap zbd) (zaf zbd) .none kVZ8 dcZ8 pmZ8 anZ8 cdZ8 ctZ8),slZ8⟩)
  (cZ8:codeIn K cdZ8 "Walk.look"=true)
  (kZ8:keepIn K (.ref xZ8)=true)
  (aZ9:findIn K (.ref x_Walk) "entry"=some (some (.ref xZ9)))
  (iZ9:isFn K (.ref xZ9)=true)
  (lZ9:K.lookup xZ9=some ⟨ocZ9,odZ9,.func (fnOf "entry" "Walk.entry" (zas za0) (zap za0) (zaf za0) .none kVZ9 dcZ9 pmZ9 anZ9 cdZ9 ctZ9),slZ9⟩)
  (cZ9:codeIn K cdZ9 "Walk.entry"=true)
  (kZ9:keepIn K (.ref xZ9)=true)
  (aZ10:findIn K (.ref x_Walk) "mark"=some (some (.ref xZ10)))
  (iZ10:isFn K (.ref xZ10)=true)
  (lZ10:K.lookup xZ10=some ⟨ocZ10,odZ10,.func (fnOf "mark" "Walk.mark" (zas zbe) (zap zbe) (zaf zbe) .none kVZ10 dcZ10 pmZ10 anZ10 cdZ10 ctZ10),slZ10⟩)
  (cZ10:codeIn K cdZ10 "Walk.mark"=true)
  (kZ10:keepIn K (.ref xZ10)=true)
  (aZ11:findIn K (.ref x_Walk) "step"=some (some (.ref xZ11)))
  (iZ11:isFn K (.ref xZ11)=true)
  (lZ11:K.lookup xZ11=some ⟨ocZ11,odZ11,.func (fnOf "step" "Walk.step" (zas zbf) (zap zbf) (zaf zbf) .none kVZ11 dcZ11 pmZ11 anZ11 cdZ11 ctZ11),slZ11⟩)
  (cZ11:codeIn K cdZ11 "Walk.step"=true)
  (kZ11:keepIn K (.ref xZ11)=true)
  (aZ12:findIn K (.ref x_Walk) "setup"=some (some (.ref xZ12)))
  (iZ12:isFn K (.ref xZ12)=true)
  (lZ12:K.lookup xZ12=some ⟨ocZ12,odZ12,.func (fnOf "setup" "Walk.setup" (zas za1) (zap za1) (zaf za1) .none kVZ12 dcZ12 pmZ12 anZ12 cdZ12 ctZ12),slZ12⟩)
  (cZ12:codeIn K cdZ12 "Walk.setup"=true)
  (kZ12:keepIn K (.ref xZ12)=true)
  (aZ13:nsIn K mainGlobals "first_setup"=some (some (.ref xZ13)))
  (lZ13:K.lookup xZ13=some ⟨ocZ13,odZ13,.func (fnOf "first_setup" "first_setup" (zas zaT) (zap zaT) (zaf zaT) .none kVZ13 dcZ13 pmZ13 anZ13 cdZ13 ctZ13),slZ13⟩)
  (cZ13:codeIn K cdZ13 "first_setup"=true)
  (kZ13:keepIn K (.ref xZ13)=true)
  (aZ14:nsIn K mainGlobals "begun"=some (some (.ref xZ14)))
  (lZ14:K.lookup xZ14=some ⟨ocZ14,odZ14,.func (fnOf "begun" "begun" (zas zcx) (zap zcx) (zaf zcx) .none kVZ14 dcZ14 pmZ14 anZ14 cdZ14 ctZ14),slZ14⟩)
  (cZ14:codeIn K cdZ14 "begun"=true)
  (kZ14:keepIn K (.ref xZ14)=true)
  (aZ15:nsIn K mainGlobals "run"=some (some (.ref xZ15)))
  (lZ15:K.lookup xZ15=some ⟨ocZ15,odZ15,.func (fnOf "run" "run" (zas zgK) (zap zgK) (zaf zgK) .none kVZ15 dcZ15 pmZ15 anZ15 cdZ15 ctZ15),slZ15⟩)
  (cZ15:codeIn K cdZ15 "run"=true)
  (kZ15:keepIn K (.ref xZ15)=true)
  (aZ16:nsIn K mainGlobals "looks"=some (some (.ref xZ16)))
  (lZ16:K.lookup xZ16=some ⟨ocZ16,odZ16,.func (fnOf "looks" "looks" (zas zcA) (zap zcA) (zaf zcA) .none kVZ16 dcZ16 pmZ16 anZ16 cdZ16 ctZ16),slZ16⟩)
  (cZ16:codeIn K cdZ16 "looks"=true)
  (kZ16:keepIn K (.ref xZ16)=true)
  (aZ17:nsIn K mainGlobals "touched"=some (some (.ref xZ17)))
  (lZ17:K.lookup xZ17=some ⟨ocZ17,odZ17,.func (fnOf "touched" "touched" (zas zbF) (zap zbF) (zaf zbF) .none kVZ17 dcZ17 pmZ17 anZ17 cdZ17 ctZ17),slZ17⟩)
  (cZ17:codeIn K cdZ17 "touched"=true)
  (kZ17:keepIn K (.ref xZ17)=true)
  (aZ18:nsIn K mainGlobals "met_entries"=some (some (.ref xZ18)))
  (lZ18:K.lookup xZ18=some ⟨ocZ18,odZ18,.func (fnOf "met_entries" "met_entries" (zas zaU) (zap zaU) (zaf zaU) .none kVZ18 dcZ18 pmZ18 anZ18 cdZ18 ctZ18),slZ18⟩)
  (cZ18:codeIn K cdZ18 "met_entries"=true)
  (kZ18:keepIn K (.ref xZ18)=true)
  (aZ19:nsIn K mainGlobals "visits"=some (some (.ref xZ19)))
  (lZ19:K.lookup xZ19=some ⟨ocZ19,odZ19,.func (fnOf "visits" "visits" (zas zb6) (zap zb6) (zaf zb6) .none kVZ19 dcZ19 pmZ19 anZ19 cdZ19 ctZ19),slZ19⟩)
  (cZ19:codeIn K cdZ19 "visits"=true)
  (kZ19:keepIn K (.ref xZ19)=true)
  (aZ20:nsIn K mainGlobals "records"=some (some (.ref xZ20)))
  (lZ20:K.lookup xZ20=some ⟨ocZ20,odZ20,.func (fnOf "records" "records" (zas zbE) (zap zbE) (zaf zbE) .none kVZ20 dcZ20 pmZ20 anZ20 cdZ20 ctZ20),slZ20⟩)
  (cZ20:codeIn K cdZ20 "records"=true)
  (kZ20:keepIn K (.ref xZ20)=true)
  (aZ21:nsIn K mainGlobals "parts_from"=some (some (.ref xZ21)))
  (lZ21:K.lookup xZ21=some ⟨ocZ21,odZ21,.func (fnOf "parts_from" "parts_from" (zas za3) (zap za3) (zaf za3) .none kVZ21 dcZ21 pmZ21 anZ21 cdZ21 ctZ21),slZ21⟩)
  (cZ21:codeIn K cdZ21 "parts_from"=true)
  (kZ21:keepIn K (.ref xZ21)=true)
  (aZ22:nsIn K mainGlobals "_law_machine"=some (some (.ref xZ22)))
  (lZ22:K.lookup xZ22=some ⟨ocZ22,odZ22,.func (fnOf "_law_machine" "_law_machine" (zas zbg) (zap zbg) (zaf zbg) .none kVZ22 dcZ22 pmZ22 anZ22 cdZ22 ctZ22),slZ22⟩)
  (cZ22:codeIn K cdZ22 "_law_machine"=true)
  (kZ22:keepIn K (.ref xZ22)=true)
  (aZ23:nsIn K mainGlobals "_law_led"=some (some (.ref xZ23)))
  (lZ23:K.lookup xZ23=some ⟨ocZ23,odZ23,.func (fnOf "_law_led" "_law_led" (zas zcz) (zap zcz) (zaf zcz) .none kVZ23 dcZ23 pmZ23 anZ23 cdZ23 ctZ23),slZ23⟩)
  (cZ23:codeIn K cdZ23 "_law_led"=true)
  (kZ23:keepIn K (.ref xZ23)=true)
  (aZ24:nsIn K mainGlobals "_law_late"=some (some (.ref xZ24)))
  (lZ24:K.lookup xZ24=some ⟨ocZ24,odZ24,.func (fnOf "_law_late" "_law_late" (zas zb5) (zap zb5) (zaf zb5) .none kVZ24 dcZ24 pmZ24 anZ24 cdZ24 ctZ24),slZ24⟩)
  (cZ24:codeIn K cdZ24 "_law_late"=true)
  (kZ24:keepIn K (.ref xZ24)=true)
  (aZ25:nsIn K mainGlobals "_law_any"=some (some (.ref xZ25)))
  (lZ25:K.lookup xZ25=some ⟨ocZ25,odZ25,.func (fnOf "_law_any" "_law_any" (zas zcy) (zap zcy) (zaf zcy) .none kVZ25 dcZ25 pmZ25 anZ25 cdZ25 ctZ25),slZ25⟩)
  (cZ25:codeIn K cdZ25 "_law_any"=true)
  (kZ25:keepIn K (.ref xZ25)=true)
  (aZ26:nsIn K mainGlobals "_law_kept"=some (some (.ref xZ26)))
  (lZ26:K.lookup xZ26=some ⟨ocZ26,odZ26,.func (fnOf "_law_kept" "_law_kept" (zas zb4) (zap zb4) (zaf zb4) .none kVZ26 dcZ26 pmZ26 anZ26 cdZ26 ctZ26),slZ26⟩)
  (cZ26:codeIn K cdZ26 "_law_kept"=true)
  (kZ26:keepIn K (.ref xZ26)=true)
  (aZ27:nsIn K mainGlobals "_law_places"=some (some (.ref xZ27)))
  (lZ27:K.lookup xZ27=some ⟨ocZ27,odZ27,.func (fnOf "_law_places" "_law_places" (zas zbn) (zap zbn) (zaf zbn) .none kVZ27 dcZ27 pmZ27 anZ27 cdZ27 ctZ27),slZ27⟩)
  (cZ27:codeIn K cdZ27 "_law_places"=true)
  (kZ27:keepIn K (.ref xZ27)=true)
  (aZ28:nsIn K mainGlobals "law"=some (some (.ref xZ28)))
  (lZ28:K.lookup xZ28=some ⟨ocZ28,odZ28,.func (fnOf "law" "law" (zas zgJ) (zap zgJ) (zaf zgJ) .none kVZ28 dcZ28 pmZ28 anZ28 cdZ28 ctZ28),slZ28⟩)
  (cZ28:codeIn K cdZ28 "law"=true)
  (kZ28:keepIn K (.ref xZ28)=true)
  (gt:specialIn K (.builtin "object.__class__") "__get__"=some (some (.builtin "getset_descriptor.__get__")))
  (tk:takesIn K (.builtin "object.__class__")=some true)
  (a_MillError:nsIn K mainGlobals "MillError"=some (some (.ref x_MillError)))
  (i_MillError:excIn K x_MillError zgO "ValueError.__new__"=true)
  (k_MillError:keepIn K (.ref x_MillError)=true)
  (ga_MillError:findIn K (.ref x_MillError) "__getattribute__"=some (some (.builtin "BaseException.__getattribute__")))
  (na_MillError:findIn K (.ref x_MillError) "__getattr__"=some none)
  (cl_MillError:findIn K (.ref x_MillError) "__class__"=some (some (.builtin "object.__class__")))
  (mo_MillError:mroIn K x_MillError (.type "object")=some true)
  (mb_MillError:mroIn K x_MillError (.type "BaseException")=some true)
  (ci_MillError:clsIn K x_MillError=some cx_MillError)
  (mr_MillError:cx_MillError.mro=[.ref x_MillError]++zgO)
  (ty_MillError:typeIn K (.ref x_MillError)=some (.type "type"))
  (a_NoMachine:nsIn K mainGlobals "NoMachine"=some (some (.ref x_NoMachine)))
  (i_NoMachine:excIn K x_NoMachine zgO "ValueError.__new__"=true)
  (k_NoMachine:keepIn K (.ref x_NoMachine)=true)
  (ga_NoMachine:findIn K (.ref x_NoMachine) "__getattribute__"=some (some (.builtin "BaseException.__getattribute__")))
  (na_NoMachine:findIn K (.ref x_NoMachine) "__getattr__"=some none)
  (cl_NoMachine:findIn K (.ref x_NoMachine) "__class__"=some (some (.builtin "object.__class__")))
  (mo_NoMachine:mroIn K x_NoMachine (.type "object")=some true)
  (mb_NoMachine:mroIn K x_NoMachine (.type "BaseException")=some true)
  (ci_NoMachine:clsIn K x_NoMachine=some cx_NoMachine)
  (mr_NoMachine:cx_NoMachine.mro=[.ref x_NoMachine,.ref x_MillError]++zgO)
  (ty_NoMachine:typeIn K (.ref x_NoMachine)=some (.type "type"))
  (z_abs:nsIn K mainGlobals "abs"=some none)
  (z_all:nsIn K mainGlobals "all"=some none)
  (z_dict:nsIn K mainGlobals "dict"=some none)
  (z_enumerate:nsIn K mainGlobals "enumerate"=some none)
  (z_int:nsIn K mainGlobals "int"=some none)
  (z_isinstance:nsIn K mainGlobals "isinstance"=some none)
  (z_len:nsIn K mainGlobals "len"=some none)
  (z_list:nsIn K mainGlobals "list"=some none)
  (z_max:nsIn K mainGlobals "max"=some none)
  (z_min:nsIn K mainGlobals "min"=some none)
  (z_range:nsIn K mainGlobals "range"=some none)
  (z_set:nsIn K mainGlobals "set"=some none)
  (z_sorted:nsIn K mainGlobals "sorted"=some none)
  (z_sum:nsIn K mainGlobals "sum"=some none)
  (z_tuple:nsIn K mainGlobals "tuple"=some none)
  (nd:[x_MillError,x_NoMachine].Nodup)
  (q_MOST_ROWS:nsIn K mainGlobals "MOST_ROWS"=some (some (.int 4 tk_MOST_ROWS)))
  (q_LEAST_SIGNS:nsIn K mainGlobals "LEAST_SIGNS"=some (some (.int 2 tk_LEAST_SIGNS)))
  (q_MOST_SIGNS:nsIn K mainGlobals "MOST_SIGNS"=some (some (.int 4 tk_MOST_SIGNS)))
  : ∃ fd:FuncData,(∀ (s:Shared) (v:Value),BindsTo s fd ⟨[v],[]⟩ [("_law_script",v)])/\∀ base:Heap,K.In base->base.Ns mainGlobals mg->zbu l.prog w K mg base CX0 9 fa fd ["_law_script"] (zdL K):=by
 have e:=hfa.symm.trans (mg_of X G aZ28);have e':xZ28=fa:=by cases e;rfl
 subst e';have FZ0:=zaD (st:=zbC) lZ0 cZ0 kZ0;have bZ0:=FZ0.binds (ps:=["_law_cell","_law_k"]) fun _ _ _ _ _ _=>us2 (fun _ _=>rfl)
 have FZ1:=zaD (st:=zb3) lZ1 cZ1 kZ1;have bZ1:=FZ1.binds (ps:=["_law_purse_here","_law_out_of"]) fun _ _ _ _ _ _=>us2 (fun _ _=>rfl)
 have FZ2:=zaD (st:=zbD) lZ2 cZ2 kZ2;have bZ2:=FZ2.binds (ps:=["_law_script"]) fun _ _ _ _ _ _=>us1 (fun _=>rfl)
 have FZ3:=zaD (st:=zbm) lZ3 cZ3 kZ3;have bZ3:=FZ3.binds (ps:=["entry","rows","signs"]) fun _ _ _ _ _ _=>us3 (fun _ _ _=>rfl)
 have FZ4:=zaD (st:=zb2) lZ4 cZ4 kZ4;have bZ4:=FZ4.binds (ps:=["row","rows","signs"]) fun _ _ _ _ _ _=>us3 (fun _ _ _=>rfl)
 have FZ5:=zaD (st:=za2) lZ5 cZ5 kZ5;have bZ5:=FZ5.binds (ps:=["machine"]) fun _ _ _ _ _ _=>us1 (fun _=>rfl)
 have FZ6:=zaD (st:=zaO) lZ6 cZ6 kZ6;have bZ6:=FZ6.binds (ps:=["machine"]) fun _ _ _ _ _ _=>us1 (fun _=>rfl)
 have FZ7:=zaD (st:=zaJ) lZ7 cZ7 kZ7;have bZ7:=FZ7.binds (ps:=["self","table","begin"]) fun _ _ _ _ _ _=>us3 (fun _ _ _=>rfl)
 have FZ8:=zaD (st:=zbd) lZ8 cZ8 kZ8;have bZ8:=FZ8.binds (ps:=["self"]) fun _ _ _ _ _ _=>us1 (fun _=>rfl)
 have FZ9:=zaD (st:=za0) lZ9 cZ9 kZ9;have bZ9:=FZ9.binds (ps:=["self"]) fun _ _ _ _ _ _=>us1 (fun _=>rfl)
 have FZ10:=zaD (st:=zbe) lZ10 cZ10 kZ10;have bZ10:=FZ10.binds (ps:=["self","sign"]) fun _ _ _ _ _ _=>us2 (fun _ _=>rfl)
 have FZ11:=zaD (st:=zbf) lZ11 cZ11 kZ11;have bZ11:=FZ11.binds (ps:=["self"]) fun _ _ _ _ _ _=>us1 (fun _=>rfl)
 have FZ12:=zaD (st:=za1) lZ12 cZ12 kZ12;have bZ12:=FZ12.binds (ps:=["self"]) fun _ _ _ _ _ _=>us1 (fun _=>rfl)
 have FZ13:=zaD (st:=zaT) lZ13 cZ13 kZ13;have bZ13:=FZ13.binds (ps:=[]) fun _ _ _ _ _ _=>us0 (fun _=>rfl)
 have FZ14:=zaD (st:=zcx) lZ14 cZ14 kZ14;have bZ14:=FZ14.binds (ps:=["machine"]) fun _ _ _ _ _ _=>us1 (fun _=>rfl)
 have FZ15:=zaD (st:=zgK) lZ15 cZ15 kZ15;have bZ15:=FZ15.binds (ps:=["machine","most"]) fun _ _ _ _ _ _=>us2 (fun _ _=>rfl)
 have FZ16:=zaD (st:=zcA) lZ16 cZ16 kZ16;have bZ16:=FZ16.binds (ps:=["machine","most"]) fun _ _ _ _ _ _=>us2 (fun _ _=>rfl)
 have FZ17:=zaD (st:=zbF) lZ17 cZ17 kZ17;have bZ17:=FZ17.binds (ps:=["machine","most"]) fun _ _ _ _ _ _=>us2 (fun _ _=>rfl)
 have FZ18:=zaD (st:=zaU) lZ18 cZ18 kZ18;have bZ18:=FZ18.binds (ps:=["machine","most"]) fun _ _ _ _ _ _=>us2 (fun _ _=>rfl)
 have FZ19:=zaD (st:=zb6) lZ19 cZ19 kZ19;have bZ19:=FZ19.binds (ps:=["machine","most"]) fun _ _ _ _ _ _=>us2 (fun _ _=>rfl)
 have FZ20:=zaD (st:=zbE) lZ20 cZ20 kZ20;have bZ20:=FZ20.binds (ps:=["machine","most"]) fun _ _ _ _ _ _=>us2 (fun _ _=>rfl)
 have FZ21:=zaD (st:=za3) lZ21 cZ21 kZ21;have bZ21:=FZ21.binds (ps:=["one","other","most"]) fun _ _ _ _ _ _=>us3 (fun _ _ _=>rfl)
 have FZ22:=zaD (st:=zbg) lZ22 cZ22 kZ22;have bZ22:=FZ22.binds (ps:=["_law_purse_here"]) fun _ _ _ _ _ _=>us1 (fun _=>rfl)
 have FZ23:=zaD (st:=zcz) lZ23 cZ23 kZ23;have bZ23:=FZ23.binds (ps:=["_law_purse_here"]) fun _ _ _ _ _ _=>us1 (fun _=>rfl)
 have FZ24:=zaD (st:=zb5) lZ24 cZ24 kZ24;have bZ24:=FZ24.binds (ps:=["_law_purse_here"]) fun _ _ _ _ _ _=>us1 (fun _=>rfl)
 have FZ25:=zaD (st:=zcy) lZ25 cZ25 kZ25;have bZ25:=FZ25.binds (ps:=["_law_purse_here"]) fun _ _ _ _ _ _=>us1 (fun _=>rfl)
 have FZ26:=zaD (st:=zb4) lZ26 cZ26 kZ26;have bZ26:=FZ26.binds (ps:=["_law_machine_here","_law_entries"]) fun _ _ _ _ _ _=>us2 (fun _ _=>rfl)
 have FZ27:=zaD (st:=zbn) lZ27 cZ27 kZ27;have bZ27:=FZ27.binds (ps:=["_law_machine_here","_law_most","_law_far"]) fun _ _ _ _ _ _=>us3 (fun _ _ _=>rfl)
 have FZ28:=zaD (st:=zgJ) lZ28 cZ28 kZ28;have bZ28:=FZ28.binds (ps:=["_law_script"]) fun _ _ _ _ _ _=>us1 (fun _=>rfl)
 have T:Tx K mg ⟨xZ0,_,xZ1,_,xZ2,_,xZ3,_,xZ4,_,xZ5,_,xZ6,_,xZ7,_,xZ8,_,xZ9,_,xZ10,_,xZ11,_,xZ12,_,xZ13,_,xZ14,_,xZ15,_,xZ16,_,xZ17,_,xZ18,_,xZ19,_,xZ20,_,xZ21,_,xZ22,_,xZ23,_,xZ24,_,xZ25,_,xZ26,_,xZ27,_,xZ28,_,x_MillError,x_NoMachine,x_Walk⟩:=⟨FZ0,bZ0,mg_of X G aZ0,FZ1,bZ1,mg_of X G aZ1,FZ2,bZ2,mg_of X G aZ2,FZ3,bZ3,mg_of X G aZ3,FZ4,bZ4,mg_of X G aZ4,FZ5,bZ5,mg_of X G aZ5,FZ6,bZ6,mg_of X G aZ6,FZ7,bZ7,⟨mk_Walk,aZ7,iZ7,kc_Walk⟩,FZ8,bZ8,⟨aZ8,iZ8,kZ8⟩,FZ9,bZ9,⟨aZ9,iZ9,kZ9⟩,FZ10,bZ10,⟨aZ10,iZ10,kZ10⟩,FZ11,bZ11,⟨aZ11,iZ11,kZ11⟩,FZ12,bZ12,⟨aZ12,iZ12,kZ12⟩,FZ13,bZ13,mg_of X G aZ13,FZ14,bZ14,mg_of X G aZ14,FZ15,bZ15,mg_of X G aZ15,FZ16,bZ16,mg_of X G aZ16,FZ17,bZ17,mg_of X G aZ17,FZ18,bZ18,mg_of X G aZ18,FZ19,bZ19,mg_of X G aZ19,FZ20,bZ20,mg_of X G aZ20,FZ21,bZ21,mg_of X G aZ21,FZ22,bZ22,mg_of X G aZ22,FZ23,bZ23,mg_of X G aZ23,FZ24,bZ24,mg_of X G aZ24,FZ25,bZ25,mg_of X G aZ25,FZ26,bZ26,mg_of X G aZ26,FZ27,bZ27,mg_of X G aZ27,FZ28,bZ28,mg_of X G aZ28,⟨i_MillError,k_MillError⟩,⟨ga_MillError,na_MillError,cl_MillError,gt,tk,mo_MillError,mb_MillError,by rw [ci_MillError];rfl⟩,mg_of X G a_MillError,⟨⟨_,ci_MillError,mr_MillError⟩,ty_MillError⟩,⟨i_NoMachine,k_NoMachine⟩,⟨ga_NoMachine,na_NoMachine,cl_NoMachine,gt,tk,mo_NoMachine,mb_NoMachine,by rw [ci_NoMachine];rfl⟩,mg_of X G a_NoMachine,⟨⟨_,ci_NoMachine,mr_NoMachine⟩,ty_NoMachine⟩,⟨pg_Walk,hd_Walk,po_Walk,sa_Walk⟩,mg_of X G a_Walk,n_Walk_table,n_Walk_row,n_Walk_place,n_Walk_marks,⟨_,mg_of X G q_MOST_ROWS,⟨_,rfl⟩⟩,⟨_,mg_of X G q_LEAST_SIGNS,⟨_,rfl⟩⟩,⟨_,mg_of X G q_MOST_SIGNS,⟨_,rfl⟩⟩,mg_none_of X G z_abs,mg_none_of X G z_all,mg_none_of X G z_dict,mg_none_of X G z_enumerate,mg_none_of X G z_int,mg_none_of X G z_isinstance,mg_none_of X G z_len,mg_none_of X G z_list,mg_none_of X G z_max,mg_none_of X G z_min,mg_none_of X G z_range,mg_none_of X G z_set,mg_none_of X G z_sorted,mg_none_of X G z_sum,mg_none_of X G z_tuple,nd⟩;exact⟨_,fun s v=>.of_eq rfl,fun base _ _=>zlQ T⟩
theorem walk {l:PySem.W.OpenLaw} {q:Program} {loose:List Str} {XP:(Str->Option Value)->Heap->Prop} {YP:World->Heap->Prop} {d:DefRec} {K:Params->PySem.W.Frag} (hn:l.most=some 63) (hdf:d.params.defaults=[])
  (hY:∀ (w:World) (h:Heap),YP w h->(K w.params).In h)
  (F:∀ (w:World) (mg:Str->Option Value) (fa:Addr) (h:Heap),(K w.params).In h->h.Ns mainGlobals mg->mg d.name=some (.ref fa) ->
   ∃ fd:FuncData,(∀ (s:Shared) (u:Value),BindsTo s fd ⟨[u],[]⟩ [("_law_script",u)])/\∀ base:Heap,(K w.params).In base->base.Ns mainGlobals mg->zbu l.prog w (K w.params) mg base CX0 9 fa fd ["_law_script"] (zdL (K w.params))) :
  PySem.W.WalkO q loose XP YP l.row.toRowW d [] (fun f vs=>PySem.call f vs) :=
 L2.walk_of (n:=63) (k:=9) (x:="_law_script") (CX:=fun _=>CX0) (sp:=fun w=>zdL (K w.params)) hn (by decide) hdf ⟨rfl,by decide,by decide⟩ hY F (fun _ _ a ns hl _ hS=>⟨ns,hS,hl,fun _=>rfl⟩) fun _ _ _ _ _ z=>z
end Law
namespace PySem.W.Fast
def tw12575853050397662454:=()
def tw7949049675115056353:=()
def tw580041710170936260:=()
def tw17734955100263247003:=()
def tw11881769266938375443:=()
def tw4466344611565595847:=()
def tw8719033823881677582:=()
def tw14225721525270344975:=()
def tw4732403384406844912:=()
def tw10499041890625046560:=()
def tw832394607440752493:=()
def tw16193780965574033147:=()
def tw10752231598949579771:=()
def tw14145673476626878614:=()
def tw13768286847617102246:=()
def tw16225945546899031621:=()
def tw616193494717188215:=()
def tw8880150948940145220:=()
def tw1010099348960386109:=()
def tw8542795135948135944:=()
def tw5910807719602033761:=()
def tw2240950292565223408:=()
def tw6341642038214627875:=()
def tw7903133745606921228:=()
def tw2306026654982446072:=()
def tw15170326662476513955:=()
def tw8121649209412103720:=()
def tw6928551032176195436:=()
def tw10625538454681428456:=()
def tw8475227228945856763:=()
def tw5111464185523560028:=()
def tw9762182370612647017:=()
def tw4137214803742723899:=()
def tw5846265051942246180:=()
def tw10204125029631174706:=()
def tw10762436262666029889:=()
def tw4053111050884723396:=()
def tw16374634207262092845:=()
def tw4740699925517644997:=()
def tw18135382948567110500:=()
def tw9108799667364891958:=()
def tw3238254728086705834:=()
def tw1330466261032630688:=()
def tw8565199390907404568:=()
def tw7625977069768454030:=()
def tw13122493407535480943:=()
def tw413518379047224545:=()
def tw8825198513951627466:=()
def tw6195643840564892244:=()
def tw17084424889211441778:=()
def tw14877791021568750203:=()
def tw12114857006833644511:=()
def tw15694140481487157252:=()
def tw10385798913690209652:=()
def tw4753493259527350719:=()
def tw762067464396218550:=()
def tw16012018536148400167:=()
def tw2343292904504466190:=()
def tw1048473465946405271:=()
def tw7555878597188388737:=()
def tw15748762564535951393:=()
def tw6724888611107499147:=()
def tw18144772095813463496:=()
def tw7644740107944508077:=()
def tw16374136433046037430:=()
def tw11115974469569223240:=()
def tw14103221169350452631:=()
def tw28240528899251475:=()
def tw7957512842925125306:=()
def tw6242089592921909202:=()
def tw2530183484193812923:=()
def tw16719990301801108450:=()
def tw4303026022326939615:=()
def tw9860953108868034916:=()
def tw2257428266683939206:=()
def tw5569938230088057294:=()
def tw17316043370568271139:=()
def tw12072261138409678728:=()
def tw12323734077222581842:=()
def tw18006825407713612886:=()
def tw18021440036954739402:=()
def tw15665048642652923025:=()
def tw6735027012378116822:=()
def tw7716703575414745845:=()
def tw13862135535601648539:=()
def tw2065226651248523173:=()
def tw7983319474413576575:=()
def tw13957002550472532516:=()
def tw17266523435673269808:=()
def tw11143935280619874248:=()
def tw6819140719705702000:=()
def tw10639126947164907414:=()
def tw3779505778178812575:=()
def tw14593156486720772897:=()
def tw10517565374651605531:=()
def tw7230498625884982220:=()
def tw17887151436659341731:=()
def tw15225650209211107237:=()
def tw11206720395457242236:=()
def tw17714034265858201053:=()
def tw12056694601058246063:=()
def tw3234344459142654207:=()
def tw6411872326539998090:=()
def tw7069665796814010013:=()
def tw8746096059197561932:=()
def tw15166854640139942480:=()
def tw8827101493350439851:=()
def tw13042481662417334160:=()
def tw15641780396487882122:=()
def tw8509056655300422130:=()
def tw8568425735901510033:=()
def tw1411404608617832748:=()
def tw10983574587725867712:=()
def tw9489995001294941982:=()
def tw8401869401884850608:=()
def tw1175656957566535514:=()
def tw6882246437786592389:=()
def tw5922946908685994895:=()
def tw14304907497351432427:=()
def tw15779938600003933217:=()
def tw4132563937208335999:=()
def tw11592047232512858877:=()
def tw10262189711899531719:=()
def tw13850025852024260647:=()
def tw12061566633363368661:=()
def tw8848699586076676379:=()
def tw3744160102002074486:=()
def tw17925254515594696154:=()
def tw6630657093347302234:=()
def tw9028816177490169654:=()
def tw10066506007904061221:=()
def tw5690643543866433723:=()
def tw16705843039995307454:=()
def tw2420544868112464715:=()
def tw1304582393237720045:=()
end PySem.W.Fast
open PySem PySem.W PyProof.Rows
set_option maxRecDepth 100000 in
set_option maxHeartbeats 0 in
theorem PySem.Challenge.cw_endnever_k29_whole_meetings_and_runs_holds : PySem.Challenge.rw_endnever_k29_whole_meetings_and_runs.Holds := by
 w_on;o_law;k_head;(case hw=>w_witness2)
 k_fill
 refine Law.walk (l:=PySem.Challenge.rw_endnever_k29_whole_meetings_and_runs) rfl rfl (fun w h Y=>PySem.W.kIn_of Y) ?F
 case F =>
  intro w mg fa h KX G hmg
  refine' Law.all_mk KX G hmg ?a_Walk ?pg_Walk ?hd_Walk ?po_Walk ?sa_Walk ?mk_Walk ?kc_Walk ?n_Walk_table ?n_Walk_row ?n_Walk_place ?n_Walk_marks ?aZ0 ?lZ0 ?cZ0 ?kZ0 ?aZ1 ?lZ1 ?cZ1 ?kZ1 ?aZ2 ?lZ2 ?cZ2 ?kZ2 ?aZ3 ?lZ3 ?cZ3 ?kZ3 ?aZ4 ?lZ4 ?cZ4 ?kZ4 ?aZ5 ?lZ5 ?cZ5 ?kZ5 ?aZ6 ?lZ6 ?cZ6 ?kZ6 ?aZ7 ?iZ7 ?lZ7 ?cZ7 ?kZ7 ?aZ8 ?iZ8 ?lZ8 ?cZ8 ?kZ8 ?aZ9 ?iZ9 ?lZ9 ?cZ9 ?kZ9 ?aZ10 ?iZ10 ?lZ10 ?cZ10 ?kZ10 ?aZ11 ?iZ11 ?lZ11 ?cZ11 ?kZ11 ?aZ12 ?iZ12 ?lZ12 ?cZ12 ?kZ12 ?aZ13 ?lZ13 ?cZ13 ?kZ13 ?aZ14 ?lZ14 ?cZ14 ?kZ14 ?aZ15 ?lZ15 ?cZ15 ?kZ15 ?aZ16 ?lZ16 ?cZ16 ?kZ16 ?aZ17 ?lZ17 ?cZ17 ?kZ17 ?aZ18 ?lZ18 ?cZ18 ?kZ18 ?aZ19 ?lZ19 ?cZ19 ?kZ19 ?aZ20 ?lZ20 ?cZ20 ?kZ20 ?aZ21 ?lZ21 ?cZ21 ?kZ21 ?aZ22 ?lZ22 ?cZ22 ?kZ22 ?aZ23 ?lZ23 ?cZ23 ?kZ23 ?aZ24 ?lZ24 ?cZ24 ?kZ24 ?aZ25 ?lZ25 ?cZ25 ?kZ25 ?aZ26 ?lZ26 ?cZ26 ?kZ26 ?aZ27 ?lZ27 ?cZ27 ?kZ27 ?aZ28 ?lZ28 ?cZ28 ?kZ28 ?gt ?tk ?a_MillError ?i_MillError ?k_MillError ?ga_MillError ?na_MillError ?cl_MillError ?mo_MillError ?mb_MillError ?ci_MillError ?mr_MillError ?ty_MillError ?a_NoMachine ?i_NoMachine ?k_NoMachine ?ga_NoMachine ?na_NoMachine ?cl_NoMachine ?mo_NoMachine ?mb_NoMachine ?ci_NoMachine ?mr_NoMachine ?ty_NoMachine ?z_abs ?z_all ?z_dict ?z_enumerate ?z_int ?z_isinstance ?z_len ?z_list ?z_max ?z_min ?z_range ?z_set ?z_sorted ?z_sum ?z_tuple ?nd ?q_MOST_ROWS ?q_LEAST_SIGNS ?q_MOST_SIGNS
  (case a_Walk=>k_is)
  (case pg_Walk=>k_is)
  (case hd_Walk=>k_is)
  (case po_Walk=>k_is)
  (case sa_Walk=>k_is)
  (case mk_Walk=>k_is)
  (case kc_Walk=>k_is)
  (case n_Walk_table=>k_is)
  (case n_Walk_row=>k_is)
  (case n_Walk_place=>k_is)
  (case n_Walk_marks=>k_is)
  (case aZ0=>k_is)
  (case lZ0=>k_is)
  (case cZ0=>k_is)
  (case kZ0=>k_is)
  (case aZ1=>k_is)
  (case lZ1=>k_is)
  (case cZ1=>k_is)
  (case kZ1=>k_is)
  (case aZ2=>k_is)
  (case lZ2=>k_is)
  (case cZ2=>k_is)
  (case kZ2=>k_is)
  (case aZ3=>k_is)
  (case lZ3=>k_is)
  (case cZ3=>k_is)
  (case kZ3=>k_is)
  (case aZ4=>k_is)
  (case lZ4=>k_is)
  (case cZ4=>k_is)
  (case kZ4=>k_is)
  (case aZ5=>k_is)
  (case lZ5=>k_is)
  (case cZ5=>k_is)
  (case kZ5=>k_is)
  (case aZ6=>k_is)
  (case lZ6=>k_is)
  (case cZ6=>k_is)
  (case kZ6=>k_is)
  (case aZ7=>k_is)
  (case iZ7=>k_is)
  (case lZ7=>k_is)
  (case cZ7=>k_is)
  (case kZ7=>k_is)
  (case aZ8=>k_is)
  (case iZ8=>k_is)
  (case lZ8=>k_is)
  (case cZ8=>k_is)
  (case kZ8=>k_is)
  (case aZ9=>k_is)
  (case iZ9=>k_is)
  (case lZ9=>k_is)
  (case cZ9=>k_is)
  (case kZ9=>k_is)
  (case aZ10=>k_is)
  (case iZ10=>k_is)
  (case lZ10=>k_is)
  (case cZ10=>k_is)
  (case kZ10=>k_is)
  (case aZ11=>k_is)
  (case iZ11=>k_is)
  (case lZ11=>k_is)
  (case cZ11=>k_is)
  (case kZ11=>k_is)
  (case aZ12=>k_is)
  (case iZ12=>k_is)
  (case lZ12=>k_is)
  (case cZ12=>k_is)
  (case kZ12=>k_is)
  (case aZ13=>k_is)
  (case lZ13=>k_is)
  (case cZ13=>k_is)
  (case kZ13=>k_is)
  (case aZ14=>k_is)
  (case lZ14=>k_is)
  (case cZ14=>k_is)
  (case kZ14=>k_is)
  (case aZ15=>k_is)
  (case lZ15=>k_is)
  (case cZ15=>k_is)
  (case kZ15=>k_is)
  (case aZ16=>k_is)
  (case lZ16=>k_is)
  (case cZ16=>k_is)
  (case kZ16=>k_is)
  (case aZ17=>k_is)
  (case lZ17=>k_is)
  (case cZ17=>k_is)
  (case kZ17=>k_is)
  (case aZ18=>k_is)
  (case lZ18=>k_is)
  (case cZ18=>k_is)
  (case kZ18=>k_is)
  (case aZ19=>k_is)
  (case lZ19=>k_is)
  (case cZ19=>k_is)
  (case kZ19=>k_is)
  (case aZ20=>k_is)
  (case lZ20=>k_is)
  (case cZ20=>k_is)
  (case kZ20=>k_is)
  (case aZ21=>k_is)
  (case lZ21=>k_is)
  (case cZ21=>k_is)
  (case kZ21=>k_is)
  (case aZ22=>k_is)
  (case lZ22=>k_is)
  (case cZ22=>k_is)
  (case kZ22=>k_is)
  (case aZ23=>k_is)
  (case lZ23=>k_is)
  (case cZ23=>k_is)
  (case kZ23=>k_is)
  (case aZ24=>k_is)
  (case lZ24=>k_is)
  (case cZ24=>k_is)
  (case kZ24=>k_is)
  (case aZ25=>k_is)
  (case lZ25=>k_is)
  (case cZ25=>k_is)
  (case kZ25=>k_is)
  (case aZ26=>k_is)
  (case lZ26=>k_is)
  (case cZ26=>k_is)
  (case kZ26=>k_is)
  (case aZ27=>k_is)
  (case lZ27=>k_is)
  (case cZ27=>k_is)
  (case kZ27=>k_is)
  (case aZ28=>k_is)
  (case lZ28=>k_is)
  (case cZ28=>k_is)
  (case kZ28=>k_is)
  (case gt=>k_is)
  (case tk=>k_is)
  (case a_MillError=>k_is)
  (case i_MillError=>k_exc)
  (case k_MillError=>k_is)
  (case ga_MillError=>k_is)
  (case na_MillError=>k_is)
  (case cl_MillError=>k_is)
  (case mo_MillError=>k_is)
  (case mb_MillError=>k_is)
  (case ci_MillError=>k_is)
  (case mr_MillError=>rfl)
  (case ty_MillError=>k_is)
  (case a_NoMachine=>k_is)
  (case i_NoMachine=>k_exc)
  (case k_NoMachine=>k_is)
  (case ga_NoMachine=>k_is)
  (case na_NoMachine=>k_is)
  (case cl_NoMachine=>k_is)
  (case mo_NoMachine=>k_is)
  (case mb_NoMachine=>k_is)
  (case ci_NoMachine=>k_is)
  (case mr_NoMachine=>rfl)
  (case ty_NoMachine=>k_is)
  (case z_abs=>k_is)
  (case z_all=>k_is)
  (case z_dict=>k_is)
  (case z_enumerate=>k_is)
  (case z_int=>k_is)
  (case z_isinstance=>k_is)
  (case z_len=>k_is)
  (case z_list=>k_is)
  (case z_max=>k_is)
  (case z_min=>k_is)
  (case z_range=>k_is)
  (case z_set=>k_is)
  (case z_sorted=>k_is)
  (case z_sum=>k_is)
  (case z_tuple=>k_is)
  (case nd=>decide)
  (case q_MOST_ROWS=>k_is)
  (case q_LEAST_SIGNS=>k_is)
  (case q_MOST_SIGNS=>k_is)
