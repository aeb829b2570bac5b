import PyProof.Rows.All
import Wide.All
import OpenK.AllK
import Wide.FinOn
import PyProof.EqAt
import PyProof.EqKinds
import PyProof.NeKinds
import PyProof.TupleCall
import PyProof.ExcArgsOwn
import PyProof.EnumFor
import PyProof.EnumStmt
import PyProof.EnumMake
import Lean
import KE.KDictList
import KE.KDictOf
import KE.KDictSum
import KE.KEqDict
import KE.KItemsList
import KE.KPairComp
import KE.KRevIter
import KE.KSortTup
import KE.KTupSum
import PyProof.AttrMiss
import PyProof.DictWalks
import PyProof.EnumFor
import PyProof.EnumMake
import PyProof.IsiH_list
import PyProof.Rows.ZipForRows
import PyProof.TupleIter
import PyProof.ListMulRoad
import PyProof.Rows.CallKwBuiltin
import PyProof.IsiH_tuple
import PyProof.ListRange
import PyProof.Rows.SeqMore2
import PyProof.Rows.SumAny
import KE.KUnpack
import PySem.Challenge.RW_endnever_k60_greatest_and_fullest
local macro_rules | `(tactic| omega) => `(tactic| first | with_reducible assumption | with_reducible exact Nat.le_of_lt (by assumption) | with_reducible exact Nat.lt_of_lt_of_le (by assumption) (by assumption) | with_reducible exact Nat.lt_of_le_of_lt (by assumption) (by assumption) | with_reducible exact Nat.le_trans (by assumption) (by assumption) | with_reducible exact Nat.zero_le _ | lia | omega (config := {}))
set_option genSizeOf false
set_option Elab.async false
set_option linter.all false
def zoX:=@List.length_map
def zoY:=@List.getElem?_map
def zoZ:=@List.getElem?_eq_getElem
def zo0:=@Option.map_eq_some_iff
def zo1:=@List.getElem?_eq_some_iff
def zo2:=@List.mem_of_getElem?
def zo3:=@decide_eq_true
def zo4:=@decide_eq_false
def zo5:=@List.map_append
def zo6:=@List.mem_singleton
def zo7:=@List.length_append
def zo8:=@List.mem_append
def zo9:=@List.append_nil
def zpa:=@PySem.Heap.get?_push_of_some
def zpb:=@Nat.lt_of_le_of_lt
def zpc:=@Nat.le_trans
def zpd:=@Nat.le_refl
def zpe:=@Nat.lt_of_lt_of_le
def zpf:=@List.mem_map
def zpg:=@List.mem_cons_of_mem
def zph:=@List.mem_filter
def zpi:=@List.append_assoc
def zpj:=@List.take_length
def zpk:=@List.take_add_one
def zpl:=@List.length_set
def zpm:=@List.length_take
def zpn:=@List.all_eq_true
def zpo:=@PySem.Heap.lt_size
def zpp:=@List.map_map
def zpq:=@List.map_cons
def zpr:=@List.map_nil
def zps:=@List.getElem?_append_left
def zpt:=@List.getElem?_append_right
def zpu:=@List.mem_append_left
def zpv:=@List.mem_append_right
def zpw:=@List.mem_cons_self
def zpx:=@List.filter_append
def zpy:=@PySem.Heap.get?_push_size
def zpz:=@List.size_toArray
def zpA:=@List.length_cons
def zpB:=@if_neg
def zpC:=@if_pos
def zpD:=@Array.length_toList
def zpE:=@Array.getElem?_toList
def zpF:=@List.getD_eq_getElem?_getD
def zpG:=@List.mem_cons
def zpH:=@Nat.ne_of_lt
def zpI:=@of_decide_eq_true
def zpJ:=@Bool.false_ne_true
def zpK:=@Option.some.inj
def zpL:=@List.drop_eq_getElem_cons
def zpM:=@List.map_congr_left
set_option maxRecDepth 100000
set_option maxHeartbeats 4000000
section
namespace L2
open PySem PySem.Spec PyProof.Rows
abbrev Key:=Sum Int Str
def zgh:Key->Value->Bool
 | .inl k,v=>Value.isInt k v
 | .inr x,v=>Value.isStrOf x v
def keyH (w:World):Key->Int
 | .inl k=>hashInt k
 | .inr x=>hashStr w x
theorem zaJ:∀ {k:Key} {v:Value},zgh k v=true->(∃ i t,k=Sum.inl i/\v=Value.int i t)\/(∃ x t,k=Sum.inr x/\v=Value.str x t)
 | .inl i,v,h=>by
  obtain⟨t,e⟩:=Value.isInt_shape (k:=i) (v:=v) h;exact .inl ⟨i,t,rfl,e⟩
 | .inr x,v,h=>by
  obtain⟨t,e⟩:=Value.isStrOf_shape (x:=x) (v:=v) h;exact .inr ⟨x,t,rfl,e⟩
theorem zjl (i:Int) (t:Tok):zgh (.inl i) (.int i t)=true:=by simp [zgh,Value.isInt]
theorem zjm (x:Str) (t:Tok):zgh (.inr x) (.str x t)=true:=by simp [zgh,Value.isStrOf]
theorem zm4 (a b:Int):decide ((Sum.inl a:Key)=Sum.inl b)=(a == b):=by
 by_cases e:a=b
 ·subst e;simp
 ·have h:¬ (Sum.inl a:Key)=Sum.inl b:=fun q=>e (Sum.inl.inj q)
  rw [zo4 h];exact (beq_eq_false_iff_ne.mpr e).symm
theorem zm7 (a b:Str):decide ((Sum.inr a:Key)=Sum.inr b)=decide (a=b):=by
 by_cases e:a=b
 ·subst e;simp
 ·have h:¬ (Sum.inr a:Key)=Sum.inr b:=fun q=>e (Sum.inr.inj q)
  rw [zo4 h,zo4 e]
theorem zm5 (a:Int) (b:Str):decide ((Sum.inl a:Key)=Sum.inr b)=false:=zo4 (fun q=>nomatch q)
theorem zm6 (a:Str) (b:Int):decide ((Sum.inr a:Key)=Sum.inl b)=false:=zo4 (fun q=>nomatch q)
def zaK (prog:Program) (w:World):PySem.KeyKind prog w Key where
 is:=zgh
 hash:=keyH w
 inj:=fun v a b ha hb=>by
  rcases zaJ ha with ⟨i,t,rfl,rfl⟩ | ⟨x,t,rfl,rfl⟩
  ·rcases zaJ hb with ⟨j,u,rfl,e⟩ | ⟨y,u,rfl,e⟩
   ·injection e with e1 _;rw [e1]
   ·exact nomatch e
  ·rcases zaJ hb with ⟨j,u,rfl,e⟩ | ⟨y,u,rfl,e⟩
   ·exact nomatch e
   ·injection e with e1 _;rw [e1]
 byValue:=fun k v h=>by
  rcases zaJ h with ⟨i,t,rfl,rfl⟩ | ⟨x,t,rfl,rfl⟩ <;> rfl
 pyHash:=fun hv h=>by
  rcases zaJ hv with ⟨i,t,rfl,rfl⟩ | ⟨x,t,rfl,rfl⟩
  ·exact wpAny_pyHash_int h
  ·exact wpAny_pyHash_str h
 eqBool:=fun hu hv h=>by
  rcases zaJ hu with ⟨i,t,rfl,rfl⟩ | ⟨x,t,rfl,rfl⟩
  ·rcases zaJ hv with ⟨j,u,rfl,rfl⟩ | ⟨y,u,rfl,rfl⟩
   ·rw [zm4] at h;exact wpAny_eqBool_int h
   ·rw [zm5] at h;exact SeqAt.EqAt.int_str i t y u _ _ _ _ h
  ·rcases zaJ hv with ⟨j,u,rfl,rfl⟩ | ⟨y,u,rfl,rfl⟩
   ·rw [zm6] at h;exact SeqAt.EqAt.str_int x t j u _ _ _ _ h
   ·rw [zm7] at h;exact wpAny_eqBool_str h
 «strs»:=fun k x t v h=>by
  rcases zaJ h with ⟨i,u,rfl,e⟩ | ⟨y,u,rfl,e⟩
  ·exact nomatch e
  ·injection e with e1 _
   subst e1;cases v <;> rfl
theorem zgY (prog:Program) (w:World) (i:Int) (t:Tok):(zaK prog w).is (.inl i) (.int i t)=true:=zjl i t
theorem zgZ (prog:Program) (w:World) (x:Str) (t:Tok):(zaK prog w).is (.inr x) (.str x t)=true:=zjm x t
inductive V where
 | non | bl (b:Bool) | int (i:Int) | str (x:Str) | byt (b:Array UInt8) | flt (b:UInt64) | ref (a:Addr) | ty (n:String)
 deriving DecidableEq
def zaW:V->Value->Prop
 | .non,u=>u=Value.none
 | .bl b,u=>u=Value.bool b
 | .int i,u=>∃ t,u=Value.int i t
 | .str x,u=>∃ t,u=Value.str x t
 | .byt b,u=>∃ t,u=Value.bytes b t
 | .flt b,u=>∃ t,u=Value.float b t
 | .ref a,u=>u=Value.ref a
 | .ty n,u=>u=Value.type n
abbrev zaT:List V->List Value->Prop:=Paired zaW
theorem zaT.length {xs:List V} {us:List Value} (r:zaT xs us):xs.length=us.length:=Paired.length r
theorem zaT.get:∀ {xs:List V} {us:List Value} {i:Nat} {x:V},zaT xs us->xs[i]?=some x->∃ u,us[i]?=some u/\zaW x u
 | _,_,_,_,.nil,e=>by simp at e
 | _,_,0,_,.cons r _,e=>by simp at e;subst e;exact⟨_,rfl,r⟩
 | _,_,i+1,x,.cons _ t,e=>by
  obtain⟨u,h1,h2⟩:=zaT.get (i:=i) (x:=x) t (by simpa using e);exact⟨u,by simpa using h1,h2⟩
theorem zaT.set {x:V} {u:Value} (r:zaW x u):∀ {xs:List V} {us:List Value} (i:Nat),zaT xs us->zaT (xs.set i x) (us.set i u)
 | _,_,_,.nil=>.nil
 | _,_,0,.cons _ t=>.cons r t
 | _,_,i+1,.cons q t=>.cons q (zaT.set r i t)
theorem zaT.append:∀ {xs ys:List V} {us ws:List Value},zaT xs us->zaT ys ws->zaT (xs++ys) (us++ws)
 | _,_,_,_,.nil,s=>s
 | _,_,_,_,.cons r t,s=>.cons r (zaT.append t s)
theorem zaT.take:∀ {xs:List V} {us:List Value} (n:Nat),zaT xs us->zaT (xs.take n) (us.take n)
 | _,_,0,_=>.nil
 | _,_,_+1,.nil=>.nil
 | _,_,n+1,.cons r t=>.cons r (zaT.take n t)
theorem zaT.drop:∀ {xs:List V} {us:List Value} (n:Nat),zaT xs us->zaT (xs.drop n) (us.drop n)
 | _,_,0,r=>r
 | _,_,_+1,.nil=>.nil
 | _,_,n+1,.cons _ t=>zaT.drop n t
def zeN:Option V->Option Value->Prop
 | some v,some u=>zaW v u
 | none,none=>True
 | _,_=>False
def KV {κ:Type}:List (κ × V)->List (κ × Value)->Prop:=Paired fun (p:κ × V) (q:κ × Value)=>p.1=q.1/\zaW p.2 q.2
def kV:Key->V
 | .inl i=>.int i
 | .inr x=>.str x
inductive HO where
 | lst (xs:List V)
 | tup (xs:List V)
 | dK (kvs:List (Key × V)) | dT (kvs:List (List Key × V))
 | set (S:Int->Bool) (n:Nat)
 | ins (C dx:Addr) (fs:List (Str × V))
 | own (x:Addr)
 | xd (fs:List (Str × V))
 | met (f x:Addr)
 | rng (lo hi:Int)
 | frz (o:Obj) (u:HO)
 | tbl (ps:Array Value)
 | ext (φ:Heap->Prop)
abbrev Hp:=Addr->Option HO
def upd (H:Hp) (a:Addr) (o:HO):Hp:=fun b=>if b=a then some o else H b
theorem zad {H:Hp} {a:Addr} {o:HO}:upd H a o a=some o:=by unfold upd;rw [zpC rfl]
theorem zal {H:Hp} {a b:Addr} {o:HO} (h:b≠a):upd H a o b=H b:=by unfold upd;rw [zpB h]
theorem zmr {H:Hp} {a:Addr} {o u:HO}:upd (upd H a o) a u=upd H a u:=by
 funext b;unfold upd;split <;> rfl
theorem zor {H:Hp} {a b:Addr} {o u:HO} (h:H a=some o) (h':H b=some u) (d:o≠u):a≠b:=by
 intro e;subst e;rw [h] at h';exact d (zpK h')
theorem zay {H:Hp} {a b:Addr} {o:HO} (h:H a=some o) (h':H b=none):a≠b:=by
 intro e;subst e;rw [h] at h';cases h'
def zd1 (h:Heap) (a:Addr) (items:Array Value):Prop:=∃ o,h.get? a=some o/\o.cls=.type "tuple"/\∃ n,o.data=.seq items n/\o={ cls:=.type "tuple",data:=.seq items n }
theorem zd1.tup {h:Heap} {a:Addr} {items:Array Value} (x:zd1 h a items):IsTup h a items:=let ⟨o,e,c,n,d,_⟩:=x;⟨o,e,c,n,d⟩
theorem zd1.lt {h:Heap} {a:Addr} {items:Array Value} (x:zd1 h a items):a<h.objs.size:=x.tup.lt
theorem zd1.of {h:Heap} {a:Addr} {items:Array Value} {n:Nat} (x:h.get? a=some { cls:=.type "tuple",data:=.seq items n }):zd1 h a items:=⟨_,x,rfl,n,rfl,rfl⟩
section
variable (P:Program) (w:World)
def za0 (H:Hp) (h:Heap) (a:Addr):HO->Prop
 | .lst xs=>xs.length<=sizeLine/\∃ (its:List Value) (n:Nat),zaT xs its/\h.get? a=some { cls:=.type "list",data:=.seq its.toArray n }
 | .tup xs=>xs.length<=sizeLine/\∃ its:List Value,zaT xs its/\zd1 h a its.toArray
 | .dK kvs=>kvs.length<=sizeLine/\(a == sysModules)=false/\∃ vs,KV kvs vs/\h.DictOf (zaK P w) a vs
 | .dT kvs=>kvs.length<=sizeLine/\(a == sysModules)=false/\∃ xs:List (List Key × Addr × Value),
   Paired (fun (p:List Key × V) (q:List Key × Addr × Value)=>p.1=q.1/\H q.2.1=some (.tup (p.1.map kV))/\zaW p.2 q.2.2) kvs xs /\
   ∃ o es ep,h.get? a=some o/\o.ExactDict/\o.data=.dict es ep/\es.toList=xs.map (entryOfKey (tupleKind (zaK P w)))/\(xs.map (·.1)).Nodup
 | .set S n=>h.SetOf (intKind P w) a S n
 | .ins C dx fs=>H dx=some (.own a)/\fs.length<=1000/\dx≠a/\h.get? a=some (PySem.W.instObj C dx) /\
   ∃ mA,h.Ns1 dx mA/\(∀ f,zeN (fs.lookup f) (mA f))/\PySem.Within mA (fs.map (·.1))
 | .own _=>∃ o,h.get? a=some o
 | .xd fs=>∃ mA,h.Ns1 a mA/\∀ f,zeN (fs.lookup f) (mA f)
 | .rng lo hi=>∃ t u v,h.get? a=some { cls:=.type "range",data:=.fields #[.int lo t,.int hi u,.int 1 v] }
 | .frz o u=>h.get? a=some o/\za0 H h a u
 | .tbl ps=>h.get? a=some { cls:=.none,data:=.fields ps }
 | .met f x=>h.get? a=some (PySem.W.methodObj (.ref f) (.ref x))
 | .ext φ=>φ h/\(∃ o,h.get? a=some o)/\∀ h1 h2:Heap,φ h1->(∀ o,h1.get? a=some o->h2.get? a=some o)->φ h2
def HOk (H:Hp) (h:Heap):Prop:=∀ a o,H a=some o->za0 P w H h a o
end
section
variable {P:Program} {w:World} {H H':Hp} {h h':Heap} {a:Addr} {o:HO}
theorem za0.lt (x:za0 P w H h a o):a<h.objs.size:=by
 cases o with
 | lst xs=>obtain⟨_,_,_,_,e⟩:=x;exact zpo e
 | tup xs=>obtain⟨_,_,_,p⟩:=x;exact p.lt
 | dK kvs=>obtain⟨_,_,_,_,o,_,_,e,_⟩:=x;exact zpo e
 | dT kvs=>obtain⟨_,_,_,_,o,_,_,e,_⟩:=x;exact zpo e
 | set S n=>obtain⟨o,_,_,_,e,_⟩:=x;exact zpo e
 | ins C dx fs=>obtain⟨_,_,_,e,_⟩:=x;exact zpo e
 | own y=>obtain⟨_,e⟩:=x;exact zpo e
 | xd fs=>obtain⟨_,⟨_,_,_,e,_⟩,_⟩:=x;exact zpo e
 | rng lo hi=>obtain⟨_,_,_,e⟩:=x;exact zpo e
 | frz ob u=>obtain⟨e,_⟩:=x;exact zpo e
 | tbl ps=>exact zpo (show h.get? a=some _ from x)
 | met f y=>exact zpo (show h.get? a=some _ from x)
 | ext φ=>obtain⟨_,⟨_,e⟩,_⟩:=x;exact zpo e
theorem Paired.mapP {α β:Type} {F G:α->β->Prop}:∀ {l₁:List α} {l₂:List β},Paired F l₁ l₂->(∀ a b,F a b->G a b)->Paired G l₁ l₂
 | _,_,.nil,_=>.nil
 | _,_,.cons r t,f=>.cons (f _ _ r) (Paired.mapP t f)
theorem za0.stay (x:za0 P w H h a o) (k:∀ b u,(b=a\/H b=some (.own a))->h.get? b=some u->h'.get? b=some u)
  (ho:∀ b,H b=some (.own a)->H' b=some (.own a)) (ht:∀ b xs,H b=some (.tup xs)->H' b=some (.tup xs)):za0 P w H' h' a o:=by
 induction o with
 | lst xs=>obtain⟨z,its,n,r,e⟩:=x;exact⟨z,its,n,r,k _ _ (.inl rfl) e⟩
 | tup xs=>obtain⟨z,its,r,ob,e,c⟩:=x;exact⟨z,its,r,ob,k _ _ (.inl rfl) e,c⟩
 | dK kvs=>obtain⟨z,y,vs,r,ob,es,ep,e,c⟩:=x;exact⟨z,y,vs,r,ob,es,ep,k _ _ (.inl rfl) e,c⟩
 | dT kvs =>
  obtain⟨z,y,xs,r,ob,es,ep,e,c⟩:=x;exact⟨z,y,xs,Paired.mapP r fun p q z=>⟨z.1,ht _ _ z.2.1,z.2.2⟩,ob,es,ep,k _ _ (.inl rfl) e,c⟩
 | set S n=>obtain⟨ob,es,ep,t,e,c⟩:=x;exact⟨ob,es,ep,t,k _ _ (.inl rfl) e,c⟩
 | ins C dx fs =>
  obtain⟨d,z,ne,e,mA,⟨od,es,ep,e2,c⟩,r⟩:=x;exact⟨ho _ d,z,ne,k _ _ (.inl rfl) e,mA,⟨od,es,ep,k _ _ (.inr d) e2,c⟩,r⟩
 | own y=>obtain⟨ob,e⟩:=x;exact⟨ob,k _ _ (.inl rfl) e⟩
 | xd fs=>obtain⟨mA,⟨od,es,ep,e,c⟩,r⟩:=x;exact⟨mA,⟨od,es,ep,k _ _ (.inl rfl) e,c⟩,r⟩
 | rng lo hi=>obtain⟨t,u,v,e⟩:=x;exact⟨t,u,v,k _ _ (.inl rfl) e⟩
 | frz ob u ih=>obtain⟨e,q⟩:=x;exact⟨k _ _ (.inl rfl) e,ih q⟩
 | tbl ps =>
  have e:h.get? a=some { cls:=.none,data:=.fields ps }:=x;show h'.get? a=some { cls:=.none,data:=.fields ps };exact k a _ (.inl rfl) e
 | met f y =>
  have e:h.get? a=some (PySem.W.methodObj (.ref f) (.ref y)):=x;show h'.get? a=some (PySem.W.methodObj (.ref f) (.ref y));exact k a _ (.inl rfl) e
 | ext φ=>obtain⟨p,⟨o,e⟩,st⟩:=x;exact⟨st _ _ p fun o q=>k _ _ (.inl rfl) q,⟨o,k _ _ (.inl rfl) e⟩,st⟩
theorem HOk.lt (x:HOk P w H h) (e:H a=some o):a<h.objs.size:=(x a o e).lt
theorem HOk.fresh (x:HOk P w H h) (e:h.objs.size<=a):H a=none:=by
 cases q:H a with
 | none=>rfl
 | some u=>exact absurd (zpe (x.lt q) e) (Nat.lt_irrefl _)
theorem HOk.kept (x:HOk P w H h) (k:∀ b u,h.get? b=some u->h'.get? b=some u):HOk P w H h':=fun a o e =>
 (x a o e).stay (fun b u _ q=>k b u q) (fun _ q=>q) fun _ _ q=>q
theorem HOk.laid (x:HOk P w H h) (k:∀ b u,h.get? b=some u->h'.get? b=some u) (hp:h.objs.size<=a) (new:za0 P w (upd H a o) h' a o):HOk P w (upd H a o) h':=fun b u e=>by
 have hn:=x.fresh hp;by_cases hb:b=a
 ·subst hb;rw [zad] at e;cases e;exact new
 ·rw [zal hb] at e;exact (x b u e).stay (fun c v _ q=>k c v q) (fun c q=>by rw [zal (zay q hn)];exact q) fun c xs q=>by rw [zal (zay q hn)];exact q
end
def Rd (H:Hp) (a:Addr) (u:HO):Prop:=H a=some u\/∃ o,H a=some (.frz o u)
theorem Rd.ok {P:Program} {w:World} {H:Hp} {h:Heap} {a:Addr} {u:HO} (r:Rd H a u) (x:HOk P w H h):za0 P w H h a u:=by
 rcases r with r | ⟨o,r⟩
 ·exact x a u r
 ·obtain⟨_,q⟩:=x a _ r;exact q
def Mut:Option HO->Prop
 | some (.lst _)=>True
 | some (.dK _)=>True
 | some (.dT _)=>True
 | some (.set _ _)=>True
 | some (.ins _ _ _)=>True
 | some (.ext _)=>True
 | _=>False
section
variable {P:Program} {w:World} {H:Hp} {h h':Heap} {x e:Addr} {o':HO}
theorem HOk.write (ok:HOk P w H h) (mu:Mut (H x)) (he:e=x\/H e=some (.own x)) (k:∀ b u,b≠e->h.get? b=some u->h'.get? b=some u) (heo:∃ u,h'.get? e=some u)
  (new:za0 P w (upd H x o') h' x o'):HOk P w (upd H x o') h':=fun b u q=>by
 have nown:∀ c y,H c=some (.own y)->c≠x:=fun c y r z=>by subst z;rw [r] at mu;exact mu
 have ntup:∀ c xs,H c=some (.tup xs)->c≠x:=fun c xs r z=>by subst z;rw [r] at mu;exact mu
 by_cases hb:b=x
 ·subst hb;rw [zad] at q;cases q;exact new
 ·rw [zal hb] at q;by_cases hbe:b=e
  ·have q':H b=some (.own x):=by
    rcases he with z | z
    ·exact absurd (hbe.trans z) hb
    ·rw [hbe];exact z
   rw [q] at q';cases q';obtain⟨v,hv⟩:=heo;exact⟨v,by rw [hbe];exact hv⟩
  ·refine (ok b u q).stay (fun c v hc r=>k c v ?_ r) (fun c r=>by rw [zal (nown c b r)];exact r) fun c xs r=>by rw [zal (ntup c xs r)];exact r
   rcases hc with rfl | hc
   ·exact hbe
   ·rintro rfl;rcases he with z | z
    ·exact nown c b hc z
    ·rw [hc] at z;cases z;exact hb rfl
end
structure Un (fs ex:List Addr) (H H':Hp) (h h':Heap):Prop where
 keep:∀ b o,h.get? b=some o->H b=none->b ∉ fs->b ∉ ex->h'.get? b=some o
 slot:∀ b o,h.get? b=some o->H b=none->b∈fs->b ∉ ex->∃ sl,h'.get? b=some { o with slots:=sl }
 free:∀ b o,h.get? b=some o->H b=none->b ∉ ex->H' b=none
 there:∀ b o,h.get? b=some o->b ∉ ex->∃ o',h'.get? b=some o'
 tups:∀ b xs,H b=some (.tup xs)->H' b=some (.tup xs)
 frzs:∀ b o u,H b=some (.frz o u)->H' b=some (.frz o u)
 tbls:∀ b ps,H b=some (.tbl ps)->∃ more,H' b=some (.tbl (ps++more))
section
variable {fs fs' ex ex':List Addr} {H H1 H2:Hp} {h h1 h2 h':Heap} {a x e:Addr} {o:HO}
theorem Un.any (u:Un fs ex H H1 h h1) {b:Addr} {ob:Obj} (q:h.get? b=some ob) (n:H b=none) (hx:b ∉ ex):∃ sl,h1.get? b=some { ob with slots:=sl }:=by
 by_cases hb:b∈fs
 ·exact u.slot b ob q n hb hx
 ·exact⟨ob.slots,u.keep b ob q n hb hx⟩
theorem Un.trans (a:Un fs ex H H1 h h1) (b:Un fs ex H1 H2 h1 h2):Un fs ex H H2 h h2 where
 keep:=fun c ob q n hc hx=>b.keep c ob (a.keep c ob q n hc hx) (a.free c ob q n hx) hc hx
 slot:=fun c ob q n hc hx=>by
  obtain⟨sl,e1⟩:=a.slot c ob q n hc hx;obtain⟨sl',e2⟩:=b.slot c _ e1 (a.free c ob q n hx) hc hx;exact⟨sl',e2⟩
 free:=fun c ob q n hx=>by
  obtain⟨o',e1⟩:=a.there c ob q hx;exact b.free c o' e1 (a.free c ob q n hx) hx
 there:=fun c ob q hx=>by
  obtain⟨o',e1⟩:=a.there c ob q hx;exact b.there c o' e1 hx
 tups:=fun c xs q=>b.tups c xs (a.tups c xs q)
 frzs:=fun c ob xs q=>b.frzs c ob xs (a.frzs c ob xs q)
 tbls:=fun c ps q=>by
  obtain⟨m1,e1⟩:=a.tbls c ps q;obtain⟨m2,e2⟩:=b.tbls c _ e1;exact⟨m1++m2,by rw [e2,Array.append_assoc]⟩
theorem Un.kept (k:∀ b u,h.get? b=some u->h'.get? b=some u):Un fs ex H H h h' :=
 ⟨fun b ob q _ _ _=>k b ob q,fun b ob q _ _ _=>⟨ob.slots,k b ob q⟩,fun _ _ _ n _=>n,fun b ob q _=>⟨ob,k b ob q⟩,fun _ _ q=>q,fun _ _ _ q=>q,fun _ ps q=>⟨#[],by rw [q];simp⟩⟩
theorem Un.refl:Un fs ex H H h h:=Un.kept fun _ _ q=>q
theorem Un.laid (k:∀ b u,h.get? b=some u->h'.get? b=some u) (hp:h.objs.size<=a) (hn:H a=none):Un fs ex H (upd H a o) h h' where
 keep:=fun b u q _ _ _=>k b u q
 slot:=fun b u q _ _ _=>⟨u.slots,k b u q⟩
 free:=fun b u q n _=>by rw [zal (zpH (zpe (zpo q) hp))];exact n
 there:=fun b u q _=>⟨u,k b u q⟩
 tups:=fun b xs q=>by rw [zal (zay q hn)];exact q
 frzs:=fun b u xs q=>by rw [zal (zay q hn)];exact q
 tbls:=fun b ps q=>⟨#[],by rw [zal (zay q hn),q];simp⟩
theorem Un.write (mu:Mut (H x)) (he:e=x\/H e=some (.own x)) (k:∀ b u,b≠e->h.get? b=some u->h'.get? b=some u) (heo:∃ u,h'.get? e=some u):Un fs ex H (upd H x o) h h':=by
 have hx:∀ b,H b=none->b≠x:=fun b n z=>by subst z;rw [n] at mu;exact mu
 have hb:∀ b,H b=none->b≠e:=fun b n z=>by
  subst z;rcases he with r | r
  ·exact hx b n r
  ·rw [n] at r;cases r
 have hm:∀ b u,H b=some u->¬ Mut (some u)->b≠x:=fun b u q nm z=>by subst z;rw [q] at mu;exact nm mu
 refine⟨fun b u q n _ _=>k b u (hb b n) q,fun b u q n _ _=>⟨u.slots,k b u (hb b n) q⟩,fun b u q n _=>by rw [zal (hx b n)];exact n,fun b u q _=>?_,
  fun b xs q=>by rw [zal (hm b _ q fun z=>z)];exact q,fun b u xs q=>by rw [zal (hm b _ q fun z=>z)];exact q,fun b ps q=>⟨#[],by rw [zal (hm b _ q fun z=>z),q];simp⟩⟩
 by_cases hbe:b=e
 ·subst hbe;exact heo
 ·exact⟨u,k b u hbe q⟩
end
def trk (h:Heap) (H:Hp):List Addr:=(List.range h.objs.size).filter fun a=>(H a).isSome
def zkh (h:Heap) (H:Hp):Heap:=PySem.W.hideAll h (trk h H)
theorem zjd (h:Heap) (H:Hp):(zkh h H).objs.size=h.objs.size:=PySem.W.hideAll_size _ _
theorem zki {h:Heap} {H:Hp} {b:Addr} {o:Obj} (e:h.get? b=some o) (n:H b=none):(zkh h H).get? b=some o :=
 PySem.W.hideAll_get _ e fun hm=>by
  have q:(H b).isSome=true:=(zph.mp hm).2;rw [n] at q;simp at q
theorem zlU {h:Heap} {H:Hp} {b:Addr} {o:Obj} (e:(zkh h H).get? b=some o):h.get? b=some o/\H b=none:=by
 have e':h.get? b=some o:=PySem.W.of_hideAll (trk h H) e;refine⟨e',?_⟩;cases q:H b with
 | none=>rfl
 | some x =>
  have hm:b∈trk h H:=zph.mpr ⟨List.mem_range.mpr (zpo e'),by simp [q]⟩;have z:(zkh h H).get? b=none:=PySem.W.hideAll_none (trk h H) hm;rw [z] at e;cases e
structure Mod (K:PySem.W.Frag) (mg:Str->Option Value) (base:Heap):Prop where
 kin:K.In base
 glob:base.Ns mainGlobals mg
 blt:∃ mb,base.Ns builtinsNs mb/\∀ x:Str,x≠"__name__"->mb x=bootBuiltins x
 nolimit:base.NoLimit
structure Cx where
 prog:Program
 w:World
 K:PySem.W.Frag
 mg:Str->Option Value
 base:Heap
 A:Around
 N:List Str
 s₀:Shared
 H₀:Hp
 env:Env
 outer:List Env
 stack:List Env
 ex:List Addr
 fn:Str->Bool
 calm:Bool
 pn:List (Addr × Obj)
 xe:Value->Shared->Prop
def frs (l:List Env):List Addr:=l.filterMap (·.frame)
abbrev Cx.fs (X:Cx):List Addr:=frs X.outer
def Vis (sc:Scope) (x:Str):Prop:=sc.names.lookup x=some .local\/sc.names.lookup x=some .cell\/sc.names.lookup x=some .free
def Loc (sc:Scope) (x:Str):Prop:=sc.names.lookup x=some .local\/sc.names.lookup x=some .cell
def Look (env:Env) (h:Heap) (m:Str->Option Value) (x:Str) (u:Value):Prop :=
 (env.kindOf x=some .local/\m x=some u)\/((env.kindOf x=some .cell\/env.kindOf x=some .free)/\∃ c,env.cells.lookup x=some c/\h.IsCell c (some u))
structure Cx.Ok (X:Cx):Prop where
 mod:Mod X.K X.mg X.base
 kind:X.env.scope.kind=.function
 glob:X.env.globals=mainGlobals
 blt:X.env.builtins=builtinsNs
 above:X.s₀.heap.objs.size<=X.env.locals
 inj:∀ x y c,X.env.cells.lookup x=some c->X.env.cells.lookup y=some c->x=y
 has:∀ x,(X.env.kindOf x=some .cell\/X.env.kindOf x=some .free)->∃ c,X.env.cells.lookup x=some c
 cab:∀ x c,X.fn x=true->X.env.cells.lookup x=some c->X.s₀.heap.objs.size<=c
 hd:X.calm=true->X.A.handled=none
 frames:X.A.frames=some X.stack
 stk:X.stack=X.outer\/(X.stack=X.env::X.outer/\X.env.frame=some X.env.locals)
 exf:∀ b∈X.ex,b≠X.env.locals/\∀ x c,X.env.cells.lookup x=some c->c≠b
 bs:∀ b o,X.base.get? b=some o->X.s₀.heap.get? b=some o/\X.H₀ b=none
 bsz:X.base.objs.size<=X.s₀.heap.objs.size
 noex:∀ b o,X.base.get? b=some o->b ∉ X.ex
 exfs:∀ b∈X.ex,b ∉ X.fs
 funs:X.s₀.heap.FunFrames X.base X.outer
 frf:∀ b∈X.fs,X.H₀ b=none
structure Inv (X:Cx) (pins:List (Addr × Obj)) (σ:List (Option V)) (H:Hp) (s:Shared):Prop where
 ok:X.Ok
 os:s.os=X.s₀.os
 bare:AllBare s.gens
 base:Un X.fs X.ex X.H₀ H X.s₀.heap s.heap
 loc:∃ m,s.heap.Ns X.env.locals m/\∀ (i:Nat) (x:Str) (v:V),X.N[i]?=some x->σ[i]?=some (some v)->Vis X.env.scope x->∃ u,zaW v u/\Look X.env s.heap m x u
 cell:∀ x c,X.env.cells.lookup x=some c->∃ v,s.heap.IsCell c v
 free:H X.env.locals=none
 freeC:∀ x c,X.env.cells.lookup x=some c->H c=none
 pin:∀ p∈X.pn++pins,s.heap.get? p.1=some p.2/\H p.1=none/\p.1≠X.env.locals/\p.1 ∉ X.fs/\∀ v,p.2.data≠.cell v
 hok:HOk X.prog X.w H s.heap
 len:σ.length=X.N.length
section
variable {X:Cx} {pins:List (Addr × Obj)} {σ:List (Option V)} {H H':Hp} {s:Shared} {h':Heap}
theorem Cx.Ok.nofr (ok:X.Ok) {b:Addr} {o:Obj} (e:X.base.get? b=some o):b ∉ X.fs:=fun hb=>by
 have:=(ok.funs.mem hb).1
 rw [e] at this;cases this
theorem Inv.bs (I:Inv X pins σ H s):∀ b o,X.base.get? b=some o->s.heap.get? b=some o/\H b=none:=fun b o e =>
 ⟨I.base.keep b o (I.ok.bs b o e).1 (I.ok.bs b o e).2 (I.ok.nofr e) (I.ok.noex b o e),I.base.free b o (I.ok.bs b o e).1 (I.ok.bs b o e).2 (I.ok.noex b o e)⟩
theorem Inv.bk (I:Inv X pins σ H s):∀ b o,X.base.get? b=some o->s.heap.get? b=some o:=fun b o e=>(I.bs b o e).1
theorem Inv.mod (I:Inv X pins σ H s):Mod X.K X.mg X.base:=I.ok.mod
theorem Inv.kIn (I:Inv X pins σ H s):X.K.In s.heap:=I.ok.mod.kin.keeps I.bk
theorem Inv.lt (I:Inv X pins σ H s):X.env.locals<s.heap.objs.size:=let ⟨_,hn,_⟩:=I.loc;hn.lt
theorem Inv.sz (I:Inv X pins σ H s):X.s₀.heap.objs.size<=s.heap.objs.size:=zpc I.ok.above (Nat.le_of_lt I.lt)
theorem Inv.nofs (I:Inv X pins σ H s) {a:Addr} (h:s.heap.objs.size<=a):a ∉ X.fs:=fun hb=>by
 obtain⟨_,o,ho,_⟩:=I.ok.funs.mem hb;exact absurd (zpe (zpo ho) (zpc I.sz h)) (Nat.lt_irrefl _)
theorem Inv.cne (I:Inv X pins σ H s):∀ x c,X.env.cells.lookup x=some c->c≠X.env.locals:=fun x c e z=>by
 obtain⟨v,o,ho,hd⟩:=I.cell x c e;obtain⟨m,⟨o',es,ep,ho',hd',_⟩,_⟩:=I.loc;rw [z,ho'] at ho;cases ho;rw [hd'] at hd;cases hd
theorem Inv.funs (I:Inv X pins σ H s):s.heap.FunFrames X.base X.outer:=by
 have all:∀ (l:List Env),(∀ b∈frs l,b∈X.fs)->X.s₀.heap.FunFrames X.base l->s.heap.FunFrames X.base l:=by
  intro l
  induction l with
  | nil=>intro _ _;trivial
  | cons env r ih =>
   intro hs hl;obtain⟨hk,⟨L,o,hf,hn,ho,hd⟩,hr⟩:=hl;have hL:L∈X.fs:=hs L (by unfold frs;rw [List.filterMap_cons,hf];exact zpw);obtain⟨sl,e⟩:=I.base.slot L o ho (I.ok.frf L hL) hL fun z=>I.ok.exfs L z hL
   exact⟨hk,⟨L,_,hf,hn,e,hd⟩,ih (fun b hb=>hs b (by unfold frs;rw [List.filterMap_cons,hf];exact zpg _ hb)) hr⟩
 exact all X.outer (fun _ hb=>hb) I.ok.funs
theorem Inv.stack (I:Inv X pins σ H s):s.heap.FunFrames X.base X.stack:=by
 rcases I.ok.stk with e | ⟨e,hf⟩
 ·rw [e];exact I.funs
 ·rw [e];obtain⟨m,hn,_⟩:=I.loc;refine .cons (by rw [I.ok.kind];decide) hf hn ?_ I.funs;exact Heap.get?_none_of_le (zpc I.ok.bsz I.ok.above)
theorem Inv.stkSub (I:Inv X pins σ H s):∀ b∈frs X.stack,b∈X.env.locals::X.fs:=fun b hb=>by
 rcases I.ok.stk with e | ⟨e,hf⟩
 ·rw [e] at hb;exact zpg _ hb
 ·rw [e] at hb;unfold frs at hb;rw [List.filterMap_cons,hf] at hb;exact hb
theorem Inv.stkFree (I:Inv X pins σ H s):∀ b∈frs X.stack,H b=none:=fun b hb=>by
 rcases zpG.mp (I.stkSub b hb) with e | hb
 ·rw [e];exact I.free
 ·obtain⟨_,o,ho,_⟩:=I.ok.funs.mem hb;exact I.base.free b o ho (I.ok.frf b hb) fun z=>I.ok.exfs b z hb
theorem Inv.step {g':Array GenState} {t':Nat} {d':Drawn} {ch:List Addr} (I:Inv X pins σ H s)
  (hch:∀ b∈ch,(b∈X.ex\/X.s₀.heap.objs.size<=b)/\b≠X.env.locals/\(∀ x c,X.env.cells.lookup x=some c->c≠b)/\∀ p∈X.pn++pins,p.1≠b)
  (keep:∀ b o,b≠X.env.locals->b ∉ X.fs->b ∉ ch->s.heap.get? b=some o->H b=none->h'.get? b=some o)
  (slot:∀ b o,b≠X.env.locals->b∈X.fs->b ∉ ch->s.heap.get? b=some o->H b=none->∃ sl,h'.get? b=some { o with slots:=sl }) (free:∀ b o,b ∉ ch->s.heap.get? b=some o->H b=none->H' b=none)
  (there:∀ b o,b ∉ ch->s.heap.get? b=some o->∃ o',h'.get? b=some o')
  (tups:∀ b xs,H b=some (.tup xs)->H' b=some (.tup xs)) (frzs:∀ b o u,H b=some (.frz o u)->H' b=some (.frz o u)) (tbls:∀ b ps,H b=some (.tbl ps)->∃ more,H' b=some (.tbl (ps++more)))
  (ns:∀ m,s.heap.Ns X.env.locals m->h'.Ns X.env.locals m) (hok:HOk X.prog X.w H' h') (hg:AllBare g') :
  Inv X pins σ H' { s with heap:=h',gens:=g',drawn:=d',toks:=t' }:=by
 have neL:∀ b o,X.s₀.heap.get? b=some o->b≠X.env.locals:=fun b o e=>zpH (zpe (zpo e) I.ok.above)
 have neC:∀ b o,X.s₀.heap.get? b=some o->b ∉ X.ex->b ∉ ch:=fun b o e hx hb=>by
  rcases (hch b hb).1 with z | z
  ·exact hx z
  ·exact absurd (zpe (zpo e) z) (Nat.lt_irrefl _)
 have cellK:∀ x c,X.env.cells.lookup x=some c->∀ v,s.heap.IsCell c v->h'.IsCell c v:=fun x c e v ⟨o,ho,hd⟩=>by
  have nch:c ∉ ch:=fun z=>(hch c z).2.2.1 x c e rfl
  by_cases hc:c∈X.fs
  ·obtain⟨sl,q⟩:=slot c o (I.cne x c e) hc nch ho (I.freeC x c e);exact⟨_,q,hd⟩
  ·exact⟨o,keep c o (I.cne x c e) hc nch ho (I.freeC x c e),hd⟩
 refine⟨I.ok,I.os,hg,⟨fun b o e n hb hx=>?_,fun b o e n hb hx=>?_,fun b o e n hx=>?_,fun b o e hx=>?_,fun b xs e=>tups b xs (I.base.tups b xs e),fun b o xs e=>frzs b o xs (I.base.frzs b o xs e),fun b ps e=>?_⟩,?_,fun x c e=>?_,?_,fun x c e=>?_,fun p hp=>?_,hok,I.len⟩
 ·exact keep b o (neL b o e) hb (neC b o e hx) (I.base.keep b o e n hb hx) (I.base.free b o e n hx)
 ·obtain⟨sl,e1⟩:=I.base.slot b o e n hb hx;obtain⟨sl',e2⟩:=slot b _ (neL b o e) hb (neC b o e hx) e1 (I.base.free b o e n hx);exact⟨sl',e2⟩
 ·obtain⟨o',e1⟩:=I.base.there b o e hx;exact free b o' (neC b o e hx) e1 (I.base.free b o e n hx)
 ·obtain⟨o',e1⟩:=I.base.there b o e hx;exact there b o' (neC b o e hx) e1
 ·obtain⟨m1,e1⟩:=I.base.tbls b ps e;obtain⟨m2,e2⟩:=tbls b _ e1;exact⟨m1++m2,by rw [e2,Array.append_assoc]⟩
 ·obtain⟨m,hn,hl⟩:=I.loc;refine⟨m,ns m hn,fun i x v e1 e2 e3=>?_⟩;obtain⟨u,r,l⟩:=hl i x v e1 e2 e3;refine⟨u,r,?_⟩;rcases l with l | ⟨k,c,e,z⟩
  ·exact .inl l
  ·exact .inr ⟨k,c,e,cellK x c e _ z⟩
 ·obtain⟨v,z⟩:=I.cell x c e;exact⟨v,cellK x c e v z⟩
 ·obtain⟨m,⟨o,_,_,ho,_⟩,_⟩:=I.loc;exact free _ o (fun z=>(hch _ z).2.1 rfl) ho I.free
 ·obtain⟨v,o,ho,hd⟩:=I.cell x c e;exact free c o (fun z=>(hch c z).2.2.1 x c e rfl) ho (I.freeC x c e)
 ·obtain⟨e,n,ne,nf,d⟩:=I.pin p hp;have nch:p.1 ∉ ch:=fun z=>(hch p.1 z).2.2.2 p hp rfl
  exact⟨keep p.1 p.2 ne nf nch e n,free p.1 p.2 nch e n,ne,nf,d⟩
theorem Inv.un {t':Nat} (I:Inv X pins σ H s) (u:Un X.fs [] H H' s.heap h') (hok:HOk X.prog X.w H' h'):Inv X pins σ H' { s with heap:=h',toks:=t' }:=by
 obtain⟨m,⟨o,es,ep,ho,r⟩,_⟩:=id I.loc;obtain⟨sl,hL⟩:=u.any ho I.free (by simp);exact I.step (g':=s.gens) (d':=s.drawn) (ch:=[]) (fun _ z=>nomatch z) (fun b o _ hb _ e n=>u.keep b o e n hb (by simp)) (fun b o _ hb _ e n=>u.slot b o e n hb (by simp)) (fun b o _ e n=>u.free b o e n (by simp)) (fun b o _ e=>u.there b o e (by simp)) u.tups u.frzs u.tbls (fun m' hm=>by
  obtain⟨o',es',ep',ho',r'⟩:=hm;rw [ho] at ho';cases ho';exact⟨_,es',ep',hL,r'⟩) hok I.bare
theorem Inv.call {g':Array GenState} {t':Nat} {d':Drawn} {ch:List Addr} (I:Inv X pins σ H s) (u:Un (frs X.stack) ch H H' s.heap h') (hok:HOk X.prog X.w H' h') (hg:AllBare g')
  (hch:∀ b∈ch,(b∈X.ex\/X.s₀.heap.objs.size<=b)/\b≠X.env.locals/\(∀ x c,X.env.cells.lookup x=some c->c≠b)/\∀ p∈X.pn++pins,p.1≠b) :
  Inv X pins σ H' { s with heap:=h',gens:=g',drawn:=d',toks:=t' }:=by
 obtain⟨m,⟨o,es,ep,ho,r⟩,_⟩:=id I.loc;obtain⟨sl,hL⟩:=u.any ho I.free fun z=>(hch _ z).2.1 rfl
 exact I.step (ch:=ch) hch (fun b o hL hb hc e n=>u.keep b o e n (fun z=>(zpG.mp (I.stkSub b z)).elim hL hb) hc) (fun b o _ _ hc e n=>u.any e n hc) (fun b o hc e n=>u.free b o e n hc) (fun b o hc e=>u.there b o e hc) u.tups u.frzs u.tbls (fun m' hm=>by
  obtain⟨o',es',ep',ho',r'⟩:=hm;rw [ho] at ho';cases ho';exact⟨_,es',ep',hL,r'⟩) hok hg
theorem Inv.turned {t':Nat} {it:Addr} (I:Inv X pins σ H s) (k:∀ b o,b≠it->s.heap.get? b=some o->h'.get? b=some o) (hn:H it=none) (hL:it≠X.env.locals)
  (h1:it∈X.ex\/X.s₀.heap.objs.size<=it) (h2:∀ x c,X.env.cells.lookup x=some c->c≠it) (h3:∀ p∈X.pn++pins,p.1≠it):Inv X pins σ H { s with heap:=h',toks:=t' }:=by
 have nit:∀ b u,H b=some u->b≠it:=fun b u e z=>by rw [z,hn] at e;cases e
 refine I.step (g':=s.gens) (d':=s.drawn) (ch:=[it]) (fun b hb=>?_) (fun b o _ _ hc e _=>k b o (fun z=>hc (by simp [z])) e) (fun b o _ _ hc e _=>⟨o.slots,k b o (fun z=>hc (by simp [z])) e⟩) (fun _ _ _ _ n=>n)
  (fun b o hc e=>⟨o,k b o (fun z=>hc (by simp [z])) e⟩) (fun _ _ e=>e) (fun _ _ _ e=>e) (fun b ps e=>⟨#[],by rw [e];simp⟩) (fun m hm=>?_) (fun b u e=>?_) I.bare
 ·have e:b=it:=by simpa using hb
  subst e;exact⟨h1,hL,h2,h3⟩
 ·obtain⟨o,es,ep,ho,r⟩:=hm;exact⟨o,es,ep,k _ o (Ne.symm hL) ho,r⟩
 ·refine (I.hok b u e).stay (fun c v hc q=>k c v ?_ q) (fun _ q=>q) fun _ _ q=>q
  rcases hc with z | z
  ·rw [z];exact nit b u e
  ·exact nit c _ z
theorem Inv.tok (I:Inv X pins σ H s) (t:Nat):Inv X pins σ H { s with toks:=t }:=I.un (h':=s.heap) (t':=t) Un.refl I.hok
theorem Inv.kept {t':Nat} (I:Inv X pins σ H s) (k:∀ b u,s.heap.get? b=some u->h'.get? b=some u):Inv X pins σ H { s with heap:=h',toks:=t' }:=I.un (Un.kept k) (I.hok.kept k)
theorem Inv.laid {a:Addr} {o:HO} {t':Nat} (I:Inv X pins σ H s) (k:∀ b u,s.heap.get? b=some u->h'.get? b=some u) (hp:s.heap.objs.size<=a) (new:za0 X.prog X.w (upd H a o) h' a o) :
  Inv X pins σ (upd H a o) { s with heap:=h',toks:=t' }:=I.un (Un.laid k hp (I.hok.fresh hp)) (I.hok.laid k hp new)
theorem Inv.write {x e:Addr} {o:HO} {t':Nat} (I:Inv X pins σ H s) (mu:Mut (H x)) (he:e=x\/H e=some (.own x)) (k:∀ b u,b≠e->s.heap.get? b=some u->h'.get? b=some u) (heo:∃ u,h'.get? e=some u)
  (new:za0 X.prog X.w (upd H x o) h' x o):Inv X pins σ (upd H x o) { s with heap:=h',toks:=t' }:=I.un (Un.write mu he k heo) (I.hok.write mu he k heo new)
theorem Inv.weak {σ':List (Option V)} (I:Inv X pins σ H s) (hl:σ'.length=σ.length) (w:∀ (i:Nat) v,σ'[i]?=some (some v)->σ[i]?=some (some v)):Inv X pins σ' H s :=
 ⟨I.ok,I.os,I.bare,I.base,let ⟨m,hn,hl'⟩:=I.loc;⟨m,hn,fun i x v e1 e2 e3=>hl' i x v e1 (w i v e2) e3⟩,I.cell,I.free,I.freeC,I.pin,I.hok,hl.trans I.len⟩
theorem Inv.pins_of {pins':List (Addr × Obj)} (I:Inv X pins σ H s) (h:∀ p∈pins',s.heap.get? p.1=some p.2/\H p.1=none/\p.1≠X.env.locals/\p.1 ∉ X.fs/\∀ v,p.2.data≠.cell v):Inv X pins' σ H s :=
 ⟨I.ok,I.os,I.bare,I.base,I.loc,I.cell,I.free,I.freeC,fun p hp=>(zo8.mp hp).elim (fun z=>I.pin p (zpu _ z)) (h p),I.hok,I.len⟩
theorem zhH {N:List Str} (hN:N.Nodup) {i j:Nat} {x:Str} (a:N[i]?=some x) (b:N[j]?=some x):i=j:=by
 obtain⟨h1,e1⟩:=zo1.mp a;obtain⟨h2,e2⟩:=zo1.mp b;exact (List.getElem_inj hN).mp (e1.trans e2.symm)
theorem zgz {M:Model} {A:Around} {E:Value->Shared->Prop} {i:Nat} {x:Str} {v:V} {u:Value} {Q:Unit->Shared->Prop} (I:Inv X pins σ H s) (hN:X.N.Nodup) (hi:X.N[i]?=some x) (hx:Loc X.env.scope x) (r:zaW v u)
  (h:∀ s',Inv X pins (σ.set i (some v)) H s'->(∃ a,Heap.SameBut a s.heap s'.heap/\(a=X.env.locals\/X.env.cells.lookup x=some a))->Q () s') (hf:X.fn x=true\/X.env.scope.names.lookup x=some .local:=by first | exact .inl rfl | exact .inr rfl | assumption):wpAny M A (storeName X.env x u) Q E s:=by
 obtain⟨m,hn,hl⟩:=id I.loc;have hcls:(X.env.scope.kind == .class || (X.env.scope.kind == .module && X.env.locals != X.env.globals))=false:=by rw [I.ok.kind];rfl
 have hiσ:i<σ.length:=by rw [I.len];exact (zo1.mp hi).1
 have cne:=I.cne;have tracked:∀ {a:Addr} {h':Heap},(∃ o,s.heap.get? a=some o/\H a=none)->Heap.SameBut a s.heap h'->HOk X.prog X.w H h':=fun {a h'} ha hs b ob e=>by
  obtain⟨_,_,hfree⟩:=ha;refine (I.hok b ob e).stay (fun c w' hc q=>(hs.2 c ?_).trans q) (fun _ q=>q) fun _ _ q=>q
  rintro rfl;rcases hc with rfl | hc
  ·rw [hfree] at e;cases e
  ·rw [hfree] at hc;cases hc
 rcases hx with hk | hk
 ·refine wpAny_storeName_local hk hn (fun h' hn' hs=>?_) hcls;obtain⟨oL,_,_,hoL,_⟩:=id hn;refine h _ ⟨I.ok,I.os,I.bare,⟨fun b o e n hb hx=>?_,fun b o e n hb hx=>?_,I.base.free,fun b o e hx=>?_,I.base.tups,I.base.frzs,I.base.tbls⟩,⟨_,hn',fun j y v' e1 e2 e3=>?_⟩,fun y c e=>?_,I.free,I.freeC,fun p hp=>?_,tracked ⟨oL,hoL,I.free⟩ hs,by simpa using I.len⟩ ⟨_,hs,.inl rfl⟩
  ·exact (hs.2 b (zpH (zpe (zpo e) I.ok.above))).trans (I.base.keep b o e n hb hx)
  ·obtain⟨sl,e1⟩:=I.base.slot b o e n hb hx;exact⟨sl,(hs.2 b (zpH (zpe (zpo e) I.ok.above))).trans e1⟩
  ·obtain⟨o',e1⟩:=I.base.there b o e hx;exact⟨o',(hs.2 b (zpH (zpe (zpo e) I.ok.above))).trans e1⟩
  ·by_cases hj:j=i
   ·subst hj;rw [hi] at e1;cases e1;rw [List.getElem?_set_self hiσ] at e2;cases e2;exact⟨u,r,.inl ⟨hk,by simp⟩⟩
   ·rw [List.getElem?_set_ne (Ne.symm hj)] at e2;obtain⟨u',r',q⟩:=hl j y v' e1 e2 e3;refine⟨u',r',?_⟩;rcases q with ⟨k,e⟩ | ⟨k,c,e,z⟩
    ·refine .inl ⟨k,?_⟩
     have:y≠x:=fun e=>hj (zhH hN e1 (e ▸ hi))
     simp [this,e]
    ·exact .inr ⟨k,c,e,z.sameBut hs (cne y c e)⟩
  ·obtain⟨w',z⟩:=I.cell y c e;exact⟨w',z.sameBut hs (cne y c e)⟩
  ·obtain⟨e,n,ne,nf,d⟩:=I.pin p hp;exact⟨(hs.2 p.1 ne).trans e,n,ne,nf,d⟩
 ·have hfn:X.fn x=true:=by
   rcases hf with z | z
   ·exact z
   ·rw [z] at hk;cases hk
  obtain⟨c,hc⟩:=I.ok.has x (.inl hk);obtain⟨w',z⟩:=I.cell x c hc;refine wpAny_storeName_cell I.ok.kind hk hc z (fun h' hc' hs=>?_);obtain⟨oc,hoc,hocd⟩:=id z;refine h { s with heap:=h' } ⟨I.ok,I.os,I.bare,⟨fun b o e n hb hx=>?_,fun b o e n hb hx=>?_,I.base.free,fun b o e hx=>?_,I.base.tups,I.base.frzs,I.base.tbls⟩,⟨m,hn.sameBut hs (Ne.symm (cne x c hc)),fun j y v' e1 e2 e3=>?_⟩,fun y c' e=>?_,I.free,I.freeC,fun p hp=>?_,tracked ⟨oc,hoc,I.freeC x c hc⟩ hs,by simpa using I.len⟩ ⟨c,hs,.inr hc⟩
  ·exact (hs.2 b (zpH (zpe (zpo e) (I.ok.cab x c hfn hc)))).trans (I.base.keep b o e n hb hx)
  ·obtain⟨sl,e1⟩:=I.base.slot b o e n hb hx;exact⟨sl,(hs.2 b (zpH (zpe (zpo e) (I.ok.cab x c hfn hc)))).trans e1⟩
  ·obtain⟨o',e1⟩:=I.base.there b o e hx;exact⟨o',(hs.2 b (zpH (zpe (zpo e) (I.ok.cab x c hfn hc)))).trans e1⟩
  ·by_cases hj:j=i
   ·subst hj;rw [hi] at e1;cases e1;rw [List.getElem?_set_self hiσ] at e2;cases e2;exact⟨u,r,.inr ⟨.inl hk,c,hc,hc'⟩⟩
   ·rw [List.getElem?_set_ne (Ne.symm hj)] at e2;obtain⟨u',r',q⟩:=hl j y v' e1 e2 e3;refine⟨u',r',?_⟩;rcases q with q | ⟨k,c',e,z'⟩
    ·exact .inl q
    ·refine .inr ⟨k,c',e,z'.sameBut hs ?_⟩;rintro rfl;exact hj (zhH hN e1 (I.ok.inj _ _ _ e hc ▸ hi))
  ·by_cases hcc:c'=c
   ·subst hcc;exact⟨_,hc'⟩
   ·obtain⟨w2,z2⟩:=I.cell y c' e;exact⟨w2,z2.sameBut hs hcc⟩
  ·obtain⟨e,n,ne,nf,d⟩:=I.pin p hp;refine⟨(hs.2 p.1 ?_).trans e,n,ne,nf,d⟩;intro q;rw [q,hoc] at e;have q':oc=p.2:=zpK e;exact d w' (by rw [← q'];exact hocd)
theorem zfZ {M:Model} {A:Around} {E:Value->Shared->Prop} {i:Nat} {x:Str} {v:V} {u:Value} {Q:Unit->Shared->Prop} (I:Inv X pins σ H s) (hN:X.N.Nodup) (hi:X.N[i]?=some x) (hx:Loc X.env.scope x) (r:zaW v u)
  (h:∀ s',Inv X pins (σ.set i (some v)) H s'->Q () s') (hf:X.fn x=true\/X.env.scope.names.lookup x=some .local:=by first | exact .inl rfl | exact .inr rfl | assumption):wpAny M A (storeName X.env x u) Q E s :=
 zgz I hN hi hx r (fun s' I' _=>h s' I') hf
theorem Inv.call' {s':Shared} {ch:List Addr} (I:Inv X pins σ H s) (ho:s'.os=s.os) (u:Un (frs X.stack) ch H H' s.heap s'.heap) (hok:HOk X.prog X.w H' s'.heap) (hg:AllBare s'.gens)
  (hch:∀ b∈ch,(b∈X.ex\/X.s₀.heap.objs.size<=b)/\b≠X.env.locals/\(∀ x c,X.env.cells.lookup x=some c->c≠b)/\∀ p∈X.pn++pins,p.1≠b):Inv X pins σ H' s':=by
 obtain⟨h',g',d',t',o'⟩:=s';have e:o'=s.os:=ho;subst e;exact I.call (g':=g') (t':=t') (d':=d') u hok hg hch
end
abbrev XK:=Value->Option Addr->Hp->Prop
abbrev St:=List (Option V)
abbrev VK:=V->Hp->Prop
abbrev TE:=St->Hp->VK->Prop
abbrev TT:=St->Hp->(Bool->Hp->Prop)->Prop
abbrev TA:=St->Hp->(List V->Hp->Prop)->Prop
structure zj4 where
 nx:St->Hp->Prop
 rt:VK
 bk:St->Hp->Prop:=fun _ _=>False
 ct:St->Hp->Prop:=fun _ _=>False
abbrev TS:=zj4->St->Hp->Prop
def EP (X:Cx) (pins:List (Addr × Obj)) (σ:St) (Q:VK) (u:Value) (s':Shared):Prop:=∃ v H',Inv X pins σ H' s'/\zaW v u/\Q v H'
def TP (X:Cx) (pins:List (Addr × Obj)) (σ:St) (Q:Bool->Hp->Prop) (b:Bool) (s':Shared):Prop:=∃ H',Inv X pins σ H' s'/\Q b H'
def AP (X:Cx) (pins:List (Addr × Obj)) (σ:St) (Q:List V->Hp->Prop) (us:List Value) (s':Shared):Prop:=∃ vs H',Inv X pins σ H' s'/\zaT vs us/\Q vs H'
def SP (X:Cx) (pins:List (Addr × Obj)) (D:zj4) (f:Flow) (s':Shared):Prop :=
 match f with
 | .next=>∃ σ' H',Inv X pins σ' H' s'/\D.nx σ' H'
 | .brk=>∃ σ' H',Inv X pins σ' H' s'/\D.bk σ' H'
 | .cont=>∃ σ' H',Inv X pins σ' H' s'/\D.ct σ' H'
 | .ret u=>∃ v σ' H',Inv X pins σ' H' s'/\zaW v u/\D.rt v H'
def PE (X:Cx) (e:Expr) (t:TE):Prop :=
 ∀ (pins:List (Addr × Obj)) (s:Shared) (σ:St) (H:Hp) (Q:VK),Inv X pins σ H s->t σ H Q->wpAny (model X.prog X.w) X.A (eval e X.env) (EP X pins σ Q) X.xe s
def PT (X:Cx) (e:Expr) (t:TT):Prop :=
 ∀ (pins:List (Addr × Obj)) (s:Shared) (σ:St) (H:Hp) (Q:Bool->Hp->Prop),Inv X pins σ H s->t σ H Q->wpAny (model X.prog X.w) X.A (isTrue e X.env (eval e X.env)) (TP X pins σ Q) X.xe s
def PW (X:Cx) (e:Expr) (t:TT):Prop :=
 ∀ (whole:Sem Value) (pins:List (Addr × Obj)) (s:Shared) (σ:St) (H:Hp) (Q:Bool->Hp->Prop),Inv X pins σ H s->t σ H Q->wpAny (model X.prog X.w) X.A (isTrue e X.env whole) (TP X pins σ Q) X.xe s
theorem PW.pt {X:Cx} {e:Expr} {t:TT} (h:PW X e t):PT X e t:=h _
def PA (X:Cx) (es:List Expr) (t:TA):Prop :=
 ∀ (pos:Pos) (pins:List (Addr × Obj)) (s:Shared) (σ:St) (H:Hp) (Q:List V->Hp->Prop),Inv X pins σ H s->t σ H Q->wpAny (model X.prog X.w) X.A (spliced (backTo pos (starEach es X.env))) (AP X pins σ Q) X.xe s
def PS (X:Cx) (st:Stmt) (t:TS):Prop :=
 ∀ (pins:List (Addr × Obj)) (s:Shared) (σ:St) (H:Hp) (D:zj4),Inv X pins σ H s->t D σ H->wpAny (model X.prog X.w) X.A (exec st X.env) (SP X pins D) X.xe s
def PSs (X:Cx) (st:List Stmt) (t:TS):Prop :=
 ∀ (pins:List (Addr × Obj)) (s:Shared) (σ:St) (H:Hp) (D:zj4),Inv X pins σ H s->t D σ H->wpAny (model X.prog X.w) X.A (execs st X.env) (SP X pins D) X.xe s
theorem thn {α:Type} {t:Sem α} {Q Q':α->Shared->Prop} {M:Model} {A:Around} {E:Value->Shared->Prop} {s:Shared} (h:wpAny M A t Q E s) (hQ:∀ a s,Q a s->Q' a s):wpAny M A t Q' E s:=wpAny_mono h hQ fun _ _ x=>x
section
variable {X:Cx}
def tVar (i:Nat):TE:=fun σ H Q=>∃ v,σ[i]?=some (some v)/\Q v H
def tC (v:V):TE:=fun _ H Q=>Q v H
theorem znp {i:Nat} {x:Str} {pos:Pos} (hN:X.N[i]?=some x) (hv:Vis X.env.scope x) (hd:(x == ("__debug__":Str))=false:=by decide) (hcd:(x == ("__classdict__":Str))=false:=by decide):PE X (.Name x pos) (tVar i):=by
 intro pins s σ H Q I h;obtain⟨v,e,h⟩:=h;obtain⟨m,hn,hl⟩:=I.loc;obtain⟨u,r,l⟩:=hl i x v hN e hv;have fin:EP X pins σ Q u s:=⟨v,H,I,r,h⟩;rcases l with ⟨hk,hm⟩ | ⟨hk,c,hc,hcell⟩
 ·exact wpAny_Name (wpAny_loadName_local I.ok.kind hk hn hm fin) hd
 ·rcases hk with hk | hk
  ·exact wpAny_Name (wpAny_loadName_cell I.ok.kind hk hc hcell fin) hd
  ·exact wpAny_Name (wpAny_loadName_free I.ok.kind hk hc hcell fin hcd) hd
theorem zai {i j pos}:PE X (.Constant (.int i) j pos) (tC (.int i)):=fun _ _ _ H _ I h=>wpAny_Constant_int ⟨.int i,H,I.tok _,⟨_,rfl⟩,h⟩
theorem zbZ {b j pos}:PE X (.Constant (.bool b) j pos) (tC (.bl b)):=fun _ _ _ H _ I h=>Constant_bool ⟨.bl b,H,I,rfl,h⟩
theorem zbk {j pos}:PE X (.Constant .none j pos) (tC .non):=fun _ _ _ H _ I h=>Constant_none ⟨.non,H,I,rfl,h⟩
theorem zhL {x j pos}:PE X (.Constant (.str x) j pos) (tC (.str x)):=fun _ _ _ H _ I h=>Calls.Constant_str ⟨.str x,H,I.tok _,⟨_,rfl⟩,h⟩
def Gl (X:Cx) (x:Str):Prop:=X.env.kindOf x=some .globalImplicit
theorem zec {E:Value->Shared->Prop} {pins:List (Addr × Obj)} {s:Shared} {σ:St} {H:Hp} {x:Str} {u:Value} {pos:Pos} {Q:Value->Shared->Prop} (I:Inv X pins σ H s) (hg:Gl X x) (hm:X.mg x=some u) (h:Q u s)
  (hd:(x == ("__debug__":Str))=false:=by decide):wpAny (model X.prog X.w) X.A (eval (.Name x pos) X.env) Q E s :=
 Calls.Name_function_global I.ok.kind hg (Calls.loadGlobal_global (by rw [I.ok.glob];exact I.mod.glob.keeps I.bk) hm h) hd
theorem zeY {E:Value->Shared->Prop} {pins:List (Addr × Obj)} {s:Shared} {σ:St} {H:Hp} {x:Str} {u:Value} {pos:Pos} {Q:Value->Shared->Prop} (I:Inv X pins σ H s) (hg:Gl X x) (hm:X.mg x=none) (hv:bootBuiltins x=some u) (h:Q u s)
  (hn:x≠"__name__":=by decide) (hd:(x == ("__debug__":Str))=false:=by decide):wpAny (model X.prog X.w) X.A (eval (.Name x pos) X.env) Q E s:=by
 obtain⟨mb,h1,h2⟩:=I.mod.blt;exact Calls.Name_function_global I.ok.kind hg (Calls.loadGlobal_builtin (by rw [I.ok.glob];exact I.mod.glob.keeps I.bk) hm (by rw [I.ok.blt];exact h1.keeps I.bk) ((h2 x hn).trans hv) h) hd
theorem zl0 {x:Str} {v:V} {u:Value} {pos:Pos} (hg:Gl X x) (hm:X.mg x=some u) (r:zaW v u) (hd:(x == ("__debug__":Str))=false:=by decide):PE X (.Name x pos) (tC v) :=
 fun _ _ _ H _ I h=>zec I hg hm ⟨v,H,I,r,h⟩ hd
theorem zau {x:Str} {v:V} {u:Value} {pos:Pos} (hg:Gl X x) (hm:X.mg x=none) (hv:bootBuiltins x=some u) (r:zaW v u) (hn:x≠"__name__":=by decide) (hd:(x == ("__debug__":Str))=false:=by decide):PE X (.Name x pos) (tC v) :=
 fun _ _ _ H _ I h=>zeY I hg hm hv ⟨v,H,I,r,h⟩ hn hd
variable {a b:Expr} {ta tb:TE} {pos:Pos}
variable {tA tB':TT} {rest:List Expr}
def tAnd (t u:TT):TT:=fun σ H Q=>t σ H fun c H1=>if c=true then u σ H1 Q else Q false H1
def tOr (t u:TT):TT:=fun σ H Q=>t σ H fun c H1=>if c=true then Q true H1 else u σ H1 Q
def tNot (t:TT):TT:=fun σ H Q=>t σ H fun c H1=>Q (!c) H1
theorem zl9 (ha:PT X a tA):PW X (.BoolOp .And [a] pos) tA:=by
 intro wh pins s σ H Q I h;refine isTrue_and (thn (ha pins s σ H Q I h) fun c s1 e=>?_);cases c with
 | true=>exact isTrue_and_nil e
 | false=>exact e
theorem znt (ha:PT X a tA):PW X (.BoolOp .Or [a] pos) tA:=by
 intro wh pins s σ H Q I h;refine isTrue_or (thn (ha pins s σ H Q I h) fun c s1 e=>?_);cases c with
 | false=>exact isTrue_or_nil e
 | true=>exact e
theorem zns (ha:PT X a tA) (hb:PW X (.BoolOp .And (b::rest) pos) tB'):PW X (.BoolOp .And (a::b::rest) pos) (tAnd tA tB'):=by
 intro wh pins s σ H Q I h;refine isTrue_and (thn (ha pins s σ H _ I h) fun c s1 ⟨H1,I1,q1⟩=>?_);cases c with
 | true=>exact hb wh pins s1 σ H1 Q I1 q1
 | false=>exact⟨H1,I1,q1⟩
theorem zoz (ha:PT X a tA) (hb:PW X (.BoolOp .Or (b::rest) pos) tB'):PW X (.BoolOp .Or (a::b::rest) pos) (tOr tA tB'):=by
 intro wh pins s σ H Q I h;refine isTrue_or (thn (ha pins s σ H _ I h) fun c s1 ⟨H1,I1,q1⟩=>?_);cases c with
 | true=>exact⟨H1,I1,q1⟩
 | false=>exact hb wh pins s1 σ H1 Q I1 q1
theorem zbT (ha:PT X a tA):PT X (.UnaryOp .Not a pos) (tNot tA):=by
 intro pins s σ H Q I h;exact isTrue_not (ha pins s σ H (fun c H1=>Q (!c) H1) I h)
theorem zdj {op} {t:TE} (h:PE X a t):PE X (.BoolOp op [a] pos) t:=fun pins s σ H Q I hw=>BoolOp_one (h pins s σ H Q I hw)
def tIf (t:TT) (ta tb:TE):TE:=fun σ H Q=>t σ H fun c H1=>if c=true then ta σ H1 Q else tb σ H1 Q
theorem zkE {c:Expr} (hc:PT X c tA) (ha:PE X a ta) (hb:PE X b tb):PE X (.IfExp c a b pos) (tIf tA ta tb):=by
 intro pins s σ H Q I h;refine wpAny_IfExp (thn (hc pins s σ H _ I h) fun d s1 ⟨H1,I1,q1⟩=>?_);cases d with
 | true=>exact ha pins s1 σ H1 Q I1 q1
 | false=>exact hb pins s1 σ H1 Q I1 q1
end
def SqL (K:PySem.W.Frag) (H:Hp) (a:Addr) (xs:List V):Prop :=
 Rd H a (.lst xs) \/
  ∃ (o:Obj) (its:Array Value) (n:Nat),K.lookup a=some o/\o.cls=.type "list"/\o.dict=none/\o.data=.seq its n/\its.size<=sizeLine/\zaT xs its.toList
def SqT (K:PySem.W.Frag) (H:Hp) (a:Addr) (xs:List V):Prop :=
 Rd H a (.tup xs) \/
  ∃ (o:Obj) (its:Array Value) (n:Nat),K.lookup a=some o/\o.cls=.type "tuple"/\o.data=.seq its n/\its.size<=sizeLine/\zaT xs its.toList
def absV:Value->Option V
 | .none=>some .non
 | .bool b=>some (.bl b)
 | .int i _=>some (.int i)
 | .str x _=>some (.str x)
 | .bytes b _=>some (.byt b)
 | .float b _=>some (.flt b)
 | .ref a=>some (.ref a)
 | .type n=>some (.ty n)
 | _=>none
theorem zaW.abs {x:V} {u:Value} (r:zaW x u):absV u=some x:=by
 cases x with
 | non=>cases r;rfl
 | bl _=>cases r;rfl
 | int _=>obtain⟨t,rfl⟩:=r;rfl
 | str _=>obtain⟨t,rfl⟩:=r;rfl
 | byt _=>obtain⟨t,rfl⟩:=r;rfl
 | flt _=>obtain⟨t,rfl⟩:=r;rfl
 | ref _=>cases r;rfl
 | ty _=>cases r;rfl
theorem zaW.inj {x y:V} {u:Value} (r:zaW x u) (q:zaW y u):x=y:=zpK (r.abs.symm.trans q.abs)
theorem zaT.inj:∀ {xs ys:List V} {us:List Value},zaT xs us->zaT ys us->xs=ys
 | _,_,_,.nil,.nil=>rfl
 | _,_,_,.cons r t,.cons r' t'=>by rw [r.inj r',zaT.inj t t']
section
variable {X:Cx} {pins:List (Addr × Obj)} {σ:St} {H:Hp} {s:Shared} {a:Addr} {xs ys:List V}
theorem SqL.of {K:PySem.W.Frag} (h:H a=some (.lst xs)):SqL K H a xs:=.inl (.inl h)
theorem SqT.of {K:PySem.W.Frag} (h:H a=some (.tup xs)):SqT K H a xs:=.inl (.inl h)
theorem Inv.list (I:Inv X pins σ H s) (h:SqL X.K H a xs):∃ its:List Value,zaT xs its/\PlainL s.heap a its.toArray/\xs.length<=sizeLine:=by
 rcases h with h | ⟨o,its,n,hk,hc,hd,hs,hz,r⟩
 ·obtain⟨z,its,n,r,e⟩:=h.ok I.hok;exact⟨its,r,⟨_,n,e,rfl,rfl,rfl⟩,z⟩
 ·refine⟨its.toList,r,⟨o,n,I.kIn a o hk,hc,hd,by simpa using hs⟩,?_⟩;have e:=r.length;simp only [zpD] at e;omega
theorem Inv.tuple (I:Inv X pins σ H s) (h:SqT X.K H a xs):∃ its:List Value,zaT xs its/\IsTup s.heap a its.toArray/\xs.length<=sizeLine:=by
 rcases h with h | ⟨o,its,n,hk,hc,hs,hz,r⟩
 ·obtain⟨z,its,r,p⟩:=h.ok I.hok;exact⟨its,r,p.tup,z⟩
 ·refine⟨its.toList,r,⟨o,I.kIn a o hk,hc,n,by simpa using hs⟩,?_⟩;have e:=r.length;simp only [zpD] at e;omega
theorem Inv.list_inj (I:Inv X pins σ H s) (h:SqL X.K H a xs) (h':SqL X.K H a ys):xs=ys:=by
 obtain⟨its,r,⟨o,n,e,_,_,d⟩,_⟩:=I.list h;obtain⟨its',r',⟨o',n',e',_,_,d'⟩,_⟩:=I.list h';rw [e] at e';cases e';rw [d] at d';injection d' with d1 _
 have:its=its':=by simpa using congrArg Array.toList d1
 subst this;exact r.inj r'
theorem Inv.tuple_inj (I:Inv X pins σ H s) (h:SqT X.K H a xs) (h':SqT X.K H a ys):xs=ys:=by
 obtain⟨its,r,⟨o,e,_,n,d⟩,_⟩:=I.tuple h;obtain⟨its',r',⟨o',e',_,n',d'⟩,_⟩:=I.tuple h';rw [e] at e';cases e';rw [d] at d';injection d' with d1 _
 have:its=its':=by simpa using congrArg Array.toList d1
 subst this;exact r.inj r'
end
abbrev Cx.wish (X:Cx) (E:Value->Shared->Prop):Cx:={ X with xe:=E }
abbrev Cx.nox (X:Cx):Cx:=X.wish fun _ _=>False
theorem Cx.Ok.wish {X:Cx} (ok:X.Ok) (E:Value->Shared->Prop):(X.wish E).Ok :=
 ⟨ok.mod,ok.kind,ok.glob,ok.blt,ok.above,ok.inj,ok.has,ok.cab,ok.hd,ok.frames,ok.stk,ok.exf,ok.bs,ok.bsz,ok.noex,ok.exfs,ok.funs,ok.frf⟩
theorem Cx.Ok.unwish {X:Cx} {E:Value->Shared->Prop} (ok:(X.wish E).Ok):X.Ok :=
 ⟨ok.mod,ok.kind,ok.glob,ok.blt,ok.above,ok.inj,ok.has,ok.cab,ok.hd,ok.frames,ok.stk,ok.exf,ok.bs,ok.bsz,ok.noex,ok.exfs,ok.funs,ok.frf⟩
section
variable {X:Cx} {pins:List (Addr × Obj)} {σ:St} {H:Hp} {s:Shared} {E:Value->Shared->Prop}
theorem Inv.wish (I:Inv X pins σ H s) (E:Value->Shared->Prop):Inv (X.wish E) pins σ H s:=⟨I.ok.wish E,I.os,I.bare,I.base,I.loc,I.cell,I.free,I.freeC,I.pin,I.hok,I.len⟩
theorem Inv.unwish (I:Inv (X.wish E) pins σ H s):Inv X pins σ H s:=⟨I.ok.unwish,I.os,I.bare,I.base,I.loc,I.cell,I.free,I.freeC,I.pin,I.hok,I.len⟩
theorem SP.unwish {D:zj4} {f:Flow} {s':Shared} (h:SP (X.wish E) pins D f s'):SP X pins D f s':=by
 cases f with
 | next=>obtain⟨σ',H',I,q⟩:=h;exact⟨σ',H',I.unwish,q⟩
 | brk=>obtain⟨σ',H',I,q⟩:=h;exact⟨σ',H',I.unwish,q⟩
 | cont=>obtain⟨σ',H',I,q⟩:=h;exact⟨σ',H',I.unwish,q⟩
 | ret u=>obtain⟨v,σ',H',I,r,q⟩:=h;exact⟨v,σ',H',I.unwish,r,q⟩
theorem PSs.nox {st:List Stmt} {t:TS} (h:PSs X.nox st t):PSs X st t:=fun pins s σ H D I hw =>
 wpAny_mono (h pins s σ H D (I.wish _) hw) (fun _ _ q=>q.unwish) fun _ _ z=>False.elim z
end
section
variable {X:Cx} {st:Stmt} {rest:List Stmt} {t u:TS} {e:Expr} {te:TE} {pos:Pos}
def zoR:TS:=fun D σ H=>D.nx σ H
def tSeq (t u:TS):TS:=fun D σ H=>t { D with nx:=u D } σ H
theorem zas:PSs X [] zoR:=fun _ _ σ H _ I h=>wpAny_execs_nil ⟨σ,H,I,h⟩
theorem zac (h1:PS X st t) (h2:PSs X rest u):PSs X (st::rest) (tSeq t u):=by
 intro pins s σ H D I h;refine wpAny_execs_cons (thn (h1 pins s σ H { D with nx:=u D } I h) fun f s1 q=>?_);cases f with
 | next =>
  obtain⟨σ',H',I',q⟩:=q;exact h2 pins s1 σ' H' D I' q
 | ret v=>exact q
 | brk=>exact q
 | cont=>exact q
theorem zae (h1:PS X st t):PSs X [st] t:=by
 intro pins s σ H D I h;refine wpAny_execs_cons (thn (h1 pins s σ H D I h) fun f s1 q=>?_);cases f with
 | next=>exact wpAny_execs_nil q
 | ret v=>exact q
 | brk=>exact q
 | cont=>exact q
theorem Inv.quiet {pins:List (Addr × Obj)} {σ:St} {H:Hp} {s:Shared} (I:Inv X pins σ H s):interactive X.env=false:=by simp [interactive,I.ok.kind]
def zoO (te:TE):TS:=fun D σ H=>te σ H fun _ H1=>D.nx σ H1
theorem zbB (he:PE X e te) (hs:swapsWith e none pos.line X.env=pure false:=by rfl):PS X (.Expr e pos) (zoO te):=by
 intro pins s σ H D I h;exact wpAny_Expr_any (thn (he pins s σ H _ I h) fun v s1 ⟨x,H1,I1,r1,q1⟩=>⟨σ,H1,I1,q1⟩) I.quiet hs
def tRet (te:TE):TS:=fun D σ H=>te σ H D.rt
theorem zap (he:PE X e te):PS X (.Return (some e) pos) (tRet te):=by
 intro pins s σ H D I h;exact wpAny_Return_some (thn (he pins s σ H _ I h) fun v s1 ⟨x,H1,I1,r1,q1⟩=>⟨x,σ,H1,I1,r1,q1⟩)
def znJ:TS:=fun _ _ _=>False
theorem zdl {sts:List Stmt}:PSs X sts znJ:=fun _ _ _ _ _ _ h=>h.elim
end
abbrev TG:=V->St->Hp->(St->Hp->Prop)->Prop
abbrev TGs:=List V->St->Hp->(St->Hp->Prop)->Prop
def PG (X:Cx) (target:Expr) (t:TG):Prop :=
 ∀ (pins:List (Addr × Obj)) (s:Shared) (σ:St) (H:Hp) (v:V) (u:Value) (Q:St->Hp->Prop),Inv X pins σ H s->zaW v u->t v σ H Q ->
  wpAny (model X.prog X.w) X.A (assign target X.env u) (fun _ s'=>∃ σ' H',Inv X pins σ' H' s'/\Q σ' H') X.xe s
def PGs (X:Cx) (ts:List Expr) (t:TGs):Prop :=
 ∀ (pins:List (Addr × Obj)) (s:Shared) (σ:St) (H:Hp) (vs:List V) (us:List Value) (Q:St->Hp->Prop),Inv X pins σ H s->zaT vs us->t vs σ H Q ->
  wpAny (model X.prog X.w) X.A (assignInOrder ((assignEach ts X.env).map (·.2)) us) (fun _ s'=>∃ σ' H',Inv X pins σ' H' s'/\Q σ' H') X.xe s
abbrev zmC:=V->V->V->Hp->(Hp->Prop)->Prop
def zmv (X:Cx) (t:zmC):Prop :=
 ∀ (pins:List (Addr × Obj)) (s:Shared) (σ:St) (H:Hp) (o i v:V) (ov iv u:Value) (Q:Hp->Prop),Inv X pins σ H s->zaW o ov->zaW i iv->zaW v u->t o i v H Q ->
  wpAny (model X.prog X.w) X.A (setItem ov iv u) (fun _ s'=>∃ H',Inv X pins σ H' s'/\Q H') X.xe s
abbrev TIp:=V->V->Hp->VK->Prop
def PIp (X:Cx) (op:Operator) (t:TIp):Prop :=
 ∀ (pins:List (Addr × Obj)) (s:Shared) (σ:St) (H:Hp) (x y:V) (v u:Value) (Q:VK),Inv X pins σ H s->zaW x v->zaW y u->t x y H Q ->
  wpAny (model X.prog X.w) X.A (inplaceOp op v u) (EP X pins σ Q) X.xe s
section
variable {X:Cx} {pos:Pos}
def zlG (i:Nat):TG:=fun v σ H Q=>Q (σ.set i (some v)) H
theorem zag {i:Nat} {x:Str} (hN:X.N.Nodup) (hi:X.N[i]?=some x) (hx:Loc X.env.scope x) (hf:X.fn x=true\/X.env.scope.names.lookup x=some .local:=by first | exact .inl rfl | exact .inr rfl | assumption):PG X (.Name x pos) (zlG i):=by
 intro pins s σ H v u Q I r h;exact wpAny_assign_Name (zfZ I hN hi hx r (fun s' I'=>⟨_,H,I',h⟩) hf)
def gNil:TGs:=fun vs σ H Q=>vs=[]/\Q σ H
def zon (t:TG) (u:TGs):TGs:=fun vs σ H Q=>∃ v r,vs=v::r/\t v σ H fun σ' H'=>u r σ' H' Q
theorem zl4:PGs X [] gNil:=by
 intro pins s σ H vs us Q I r h;obtain⟨e,h⟩:=h;subst e;cases r;exact assignInOrder_nil ⟨σ,H,I,h⟩
theorem zkG {e:Expr} {es:List Expr} {t:TG} {u:TGs} (h1:PG X e t) (h2:PGs X es u)
  (hs:(assignEach (e::es) X.env).map (·.2)=assign e X.env::(assignEach es X.env).map (·.2):=by rfl):PGs X (e::es) (zon t u):=by
 intro pins s σ H vs us Q I r h;obtain⟨v,vr,e1,h⟩:=h;subst e1;cases r with
 | cons r rr =>
  rw [hs];refine assignInOrder_cons (thn (h1 pins s σ H _ _ _ I r h) fun _ s1 ⟨σ1,H1,I1,q1⟩=>?_);exact h2 pins s1 σ1 H1 _ _ Q I1 rr q1
def gTup (K:PySem.W.Frag) (n:Nat) (t:TGs):TG:=fun v σ H Q=>∃ a xs,v=.ref a/\SqT K H a xs/\xs.length=n/\t xs σ H Q
theorem znq {es:List Expr} {k:Nat} {t:TGs} {n:Nat} (hc:X.calm=true) (h:PGs X es t)
  (hn:(assignEach es X.env).length=n:=by rfl) (hst:(assignEach es X.env).findIdx? (·.1)=none:=by rfl):PG X (.Tuple es k pos) (gTup X.K n t):=by
 intro pins s σ H v u Q I r hw;obtain⟨a,xs,e1,hq,hl,hw⟩:=hw;subst e1;cases r;obtain⟨its,rv,ht,hz⟩:=I.tuple hq;refine assign_Tuple_tuple (I.ok.hd hc) ht (by simp [hn,← hl,rv.length]) hst fun h' hx=>?_
 have I1:Inv X pins σ H { s with heap:=h' }:=I.kept (t':=s.toks) fun b o e=>hx b o (zpH (zpo e)) e
 exact h pins _ σ H xs _ Q I1 (by simpa using rv) hw
def gSub (to ti:TE) (t:zmC):TG:=fun v σ H Q=>to σ H fun o H1=>ti σ H1 fun i H2=>t o i v H2 fun H3=>Q σ H3
theorem zhM {o i:Expr} {to ti:TE} {t:zmC} (ho:PE X o to) (hi:PE X i ti) (hs:zmv X t)
  (ha:∀ v,assign (.Subscript o i pos) X.env v=(do
   let ov ← holding [v] (eval o X.env)
   let iv ← holding [v,ov] (eval i X.env)
   standAt pos
   holding [v,ov,iv] (setItem ov iv v)
   release [v,ov,iv] []):=by intro _;rfl):PG X (.Subscript o i pos) (gSub to ti t):=by
 intro pins s σ H v u Q I r h;rw [ha];refine wpAny_bind (wpAny_holding (thn (ho pins s σ H _ I h) fun ov s1 ⟨x,H1,I1,r1,q1⟩=>?_));refine wpAny_bind (wpAny_holding (thn (hi pins s1 σ H1 _ I1 q1) fun iv s2 ⟨y,H2,I2,r2,q2⟩=>?_));refine wpAny_bind (wpAny_standAt (wpAny_bind (wpAny_holding (thn (hs pins s2 σ H2 x y v ov iv u _ I2 r1 r2 r q2) fun _ s3 ⟨H3,I3,q3⟩=>?_))));exact wpAny_release ⟨σ,H3,I3,q3⟩
def zoL (te:TE) (g:TG):TS:=fun D σ H=>te σ H fun x H1=>g x σ H1 D.nx
theorem zck {tg e:Expr} {te:TE} {g:TG} (he:PE X e te) (hg:PG X tg g) (hs:swapsWithSole [tg] e pos.line X.env=pure false:=by rfl) (hw:swappedStores [tg] e X.env=pure none:=by rfl)
  (h1:(assignEach [tg] X.env).map (·.2)=[assign tg X.env]:=by rfl):PS X (.Assign [tg] e pos) (zoL te g):=by
 intro pins s σ H D I h;refine wpAny_Assign_stores (thn (he pins s σ H _ I h) fun v s1 ⟨x,H1,I1,r1,q1⟩=>?_) hs hw;rw [h1];exact thn (hg pins s1 σ H1 x v _ I1 r1 q1) fun _ s2 q=>q
theorem zar {i:Nat} {x:Str} {e:Expr} {te:TE} {pos':Pos} (hN:X.N.Nodup) (hi:X.N[i]?=some x) (hx:Loc X.env.scope x) (he:PE X e te) (hs:swapsWith e (some (.Name x pos')) pos.line X.env=pure false:=by rfl) (hf:X.fn x=true\/X.env.scope.names.lookup x=some .local:=by first | exact .inl rfl | exact .inr rfl | assumption) :
  PS X (.Assign [.Name x pos'] e pos) (zoL te (zlG i)):=by
 intro pins s σ H D I h;refine wpAny_Assign_Name (thn (he pins s σ H _ I h) fun v s1 ⟨y,H1,I1,r1,q1⟩=>?_) hs;exact zfZ I1 hN hi hx r1 (fun s2 I2=>⟨_,H1,I2,q1⟩) hf
def tAug (i:Nat) (te:TE) (ti:TIp):TS:=fun D σ H=>∃ x,σ[i]?=some (some x)/\te σ H fun y H1=>ti x y H1 fun z H2=>D.nx (σ.set i (some z)) H2
theorem zgn {i:Nat} {x:Str} {e:Expr} {te:TE} {op:Operator} {ti:TIp} {pos':Pos} (hN:X.N.Nodup) (hi:X.N[i]?=some x) (hx:Loc X.env.scope x) (he:PE X e te) (ho:PIp X op ti) (hf:X.fn x=true\/X.env.scope.names.lookup x=some .local:=by first | exact .inl rfl | exact .inr rfl | assumption) :
  PS X (.AugAssign (.Name x pos') op e pos) (tAug i te ti):=by
 intro pins s σ H D I h;obtain⟨v,e1,h⟩:=h;obtain⟨m,hn,hl⟩:=I.loc;have vis:Vis X.env.scope x:=by rcases hx with k | k;exact .inl k;exact .inr (.inl k)
 obtain⟨u,r,l⟩:=hl i x v hi e1 vis;refine wpAny_AugAssign_Name ?_;have go:wpAny (model X.prog X.w) X.A (eval e X.env) (fun w s₂=>wpAny (model X.prog X.w) X.A (inplaceOp op u w) (fun r s₃=>wpAny (model X.prog X.w) X.A (storeName X.env x r) (fun _=>SP X pins D .next) X.xe s₃) X.xe s₂) X.xe s:=by
  refine thn (he pins s σ H _ I h) fun w s1 ⟨y,H1,I1,r1,q1⟩=>?_
  refine thn (ho pins s1 σ H1 v y u w _ I1 r r1 q1) fun z s2 ⟨zv,H2,I2,r2,q2⟩=>?_
  exact zfZ I2 hN hi hx r2 (fun s3 I3=>⟨_,H2,I3,q2⟩) hf
 rcases l with ⟨hk,hm⟩ | ⟨hk,c,hc,hcell⟩
 ·exact wpAny_loadName_local I.ok.kind hk hn hm go
 ·rcases hk with hk | hk
  ·exact wpAny_loadName_cell I.ok.kind hk hc hcell go
  ·rcases hx with k | k
   ·have:X.env.scope.names.lookup x=some .free:=hk
    rw [k] at this;cases this
   ·have:X.env.scope.names.lookup x=some .free:=hk
    rw [k] at this;cases this
def ipI (f:Int->Int->Int):TIp:=fun x y H Q=>∃ i j,x=.int i/\y=.int j/\Q (.int (f i j)) H
theorem zmZ:PIp X .Add (ipI fun i j=>i+j):=by
 intro pins s σ H x y v u Q I r1 r2 h;obtain⟨i,j,e1,e2,q⟩:=h;subst e1;subst e2;obtain⟨t,rfl⟩:=r1;obtain⟨t',rfl⟩:=r2;exact iadd_int ⟨.int _,H,I.tok _,⟨_,rfl⟩,q⟩
end
section
variable {X:Cx} {pos:Pos}
def znN (c:TT) (tb:TS):TS:=fun D σ H=>∃ W:Nat->St->Hp->Prop,(∃ m,W m σ H)/\∀ m σ H,W m σ H ->
 c σ H fun b H1=>if b=true then ∃ N:St->Hp->Prop,(∀ σ' H',N σ' H'->∃ m',m'<m/\W m' σ' H')/\tb { D with nx:=N,ct:=N,bk:=D.nx } σ H1 else D.nx σ H1
theorem zfK {c:Expr} {body:List Stmt} {tc:TT} {tb:TS} (hp:PassesOwn (model X.prog X.w) X.A X.env X.xe) (hc:PT X c tc) (hb:PSs X body tb):PS X (.While c body [] pos) (znN tc tb):=by
 intro pins s σ H D I h;obtain⟨W,⟨m0,w0⟩,turn⟩:=h;refine wpAny_While (codeAny_whileLoop (fun n s'=>∃ σ' H',Inv X pins σ' H' s'/\W n σ' H') ?_ m0 ⟨σ,H,I,w0⟩);rintro n s1 ⟨σ1,H1,I1,w1⟩;refine wpAny_passesOwn hp (thn (hc pins s1 σ1 H1 _ I1 (turn n σ1 H1 w1)) fun b s2 ⟨H2,I2,q2⟩=>?_);cases b with
 | true =>
  obtain⟨N,hN,q2⟩:=q2;rw [zpC rfl];refine wpAny_passesOwn hp (thn (hb pins s2 σ1 H2 _ I2 q2) fun f s3 q3=>?_);cases f with
  | next =>
   obtain⟨σ3,H3,I3,n3⟩:=q3;obtain⟨m',hm,w3⟩:=hN σ3 H3 n3;exact⟨m',hm,σ3,H3,I3,w3⟩
  | cont =>
   obtain⟨σ3,H3,I3,n3⟩:=q3;obtain⟨m',hm,w3⟩:=hN σ3 H3 n3;exact⟨m',hm,σ3,H3,I3,w3⟩
  | brk=>exact q3
  | ret v=>exact q3
 | false =>
  rw [zpB zpJ];exact wpAny_execs_nil ⟨σ1,H2,I2,q2⟩
end
structure It where
 go:Nat->Hp->Prop
 yld:Nat->Hp->V->Hp->Prop
 stop:Nat->Hp->Prop
def ziz (X:Cx) (pins:List (Addr × Obj)) (H:Hp) (b:Addr):Prop :=
 H b=none/\b≠X.env.locals/\b ∉ X.fs/\(b∈X.ex\/X.s₀.heap.objs.size<=b)/\(∀ x c,X.env.cells.lookup x=some c->c≠b)/\∀ p∈X.pn++pins,p.1≠b
theorem Inv.fpOk {X:Cx} {pins:List (Addr × Obj)} {σ:St} {H H':Hp} {s:Shared} {b:Addr} (I:Inv X pins σ H s) (hb:s.heap.objs.size<=b) (hn:H' b=none):ziz X pins H' b:=by
 refine⟨hn,Nat.ne_of_gt (zpe I.lt hb),I.nofs hb,.inr (zpc I.sz hb),fun x c e z=>?_,fun p hp z=>?_⟩
 ·obtain⟨v,q⟩:=I.cell x c e;exact absurd (zpe q.lt (by rw [z];exact hb)) (Nat.lt_irrefl _)
 ·exact absurd (zpe (zpo (I.pin p hp).1) (by rw [z];exact hb)) (Nat.lt_irrefl _)
structure zk0 (P:Program) (w:World) (K:PySem.W.Frag) (tg:Expr) (J:It) (fp:List Addr) (it:Addr) (tn:Nat->Heap->Prop):Prop where
 mem:it∈fp
 obj:∀ i h,tn i h->∀ b∈fp,∃ o,h.get? b=some o/\∀ v,o.data≠.cell v
 keep:∀ i h h',tn i h->(∀ b∈fp,∀ o,h.get? b=some o->h'.get? b=some o)->tn i h'
 item:∀ (X:Cx),X.prog=P->X.w=w->X.K=K->X.calm=true->∀ (i:Nat) (pins:List (Addr × Obj)) (s:Shared) (σ:St) (H:Hp) (E:Value->Shared->Prop),Inv X pins σ H s->(∀ b∈fp,ziz X pins H b)->tn i s.heap->J.go i H ->
  wpAny (model P w) X.A (pyNext (.ref it)) (fun r s1=>∃ u,r=some u /\
   wpAny (model P w) X.A (letOwnedTupleGo tg (.ref it) u) (fun _ s2=>∃ x H',Inv X pins σ H' s2/\zaW x u/\J.yld i H x H'/\tn (i+1) s2.heap/\∀ b∈fp,H' b=none) E s1) E s
 done:∀ (X:Cx),X.prog=P->X.w=w->X.K=K->X.calm=true->∀ (i:Nat) (pins:List (Addr × Obj)) (s:Shared) (σ:St) (H:Hp) (E:Value->Shared->Prop),Inv X pins σ H s->(∀ b∈fp,ziz X pins H b)->tn i s.heap->J.stop i H ->
  wpAny (model P w) X.A (pyNext (.ref it)) (fun r s1=>r=none/\Inv X pins σ H s1) E s
 self:∀ (A:Around) (i:Nat) (s:Shared) (Q:Value->Shared->Prop) (E:Value->Shared->Prop),tn i s.heap->Q (.ref it) s->wpAny (model P w) A (pyIter (.ref it)) Q E s
abbrev TI:=St->Hp->(It->Hp->Prop)->Prop
def PIE (X:Cx) (pins:List (Addr × Obj)) (σ:St) (tg:Expr) (R:It->Hp->Prop) (itv:Value) (s2:Shared):Prop :=
 ∃ (it:Addr) (fp:List Addr) (tn:Nat->Heap->Prop) (J:It) (H':Hp),itv=.ref it/\Inv X pins σ H' s2/\zk0 X.prog X.w X.K tg J fp it tn/\tn 0 s2.heap/\(∀ b∈fp,ziz X pins H' b)/\R J H'
def PI (X:Cx) (tg iter:Expr) (wi:TI):Prop :=
 ∀ (pins:List (Addr × Obj)) (s:Shared) (σ:St) (H:Hp) (R:It->Hp->Prop),Inv X pins σ H s->wi σ H R ->
  wpAny (model X.prog X.w) X.A (eval iter X.env) (fun v s1=>wpAny (model X.prog X.w) X.A (pyIter v) (PIE X pins σ tg R) X.xe s1) X.xe s
theorem zkg {M:Model} {A:Around} {E:Value->Shared->Prop} {s:Shared} {tg:Expr} {it:Addr} {u:Value} {o:Obj} {n:String} {vs:Array Value} {Q:Unit->Shared->Prop} (ho:s.heap.get? it=some o) (hc:o.cls=.type n) (hd:o.data=.fields vs)
  (hn:["enumerate","zip","dict_itemiterator","dict_reverseitemiterator","odict_iterator","itertools.zip_longest","itertools.pairwise"].contains n=false) (hQ:Q () s):wpAny M A (letOwnedTupleGo tg (.ref it) u) Q E s:=by
 unfold letOwnedTupleGo;cases tg <;> first
  | exact wpAny_pure hQ
  | (cases u <;> first
    | exact wpAny_pure hQ
    | (refine wpAny_bind (wpAny_load ho ?_);rw [hc,hd];show wpAny M A (if (["enumerate","zip","dict_itemiterator","dict_reverseitemiterator","odict_iterator","itertools.zip_longest","itertools.pairwise"].contains n && vs[0]? == some (rawInt _))=true then _ else _) Q E s;rw [zpB (by intro h;rw [hn,Bool.false_and] at h;cases h)];exact wpAny_pure hQ))
def Itl (K:PySem.W.Frag) (a:Addr):It :=
 ⟨fun i H=>∃ xs x,SqL K H a xs/\xs[i]?=some x,fun i H x H'=>H'=H/\∀ xs,SqL K H a xs->xs[i]?=some x,fun i H=>∃ xs,SqL K H a xs/\xs.length<=i⟩
def Itt (K:PySem.W.Frag) (a:Addr):It :=
 ⟨fun i H=>∃ xs x,SqT K H a xs/\xs[i]?=some x,fun i H x H'=>H'=H/\∀ xs,SqT K H a xs->xs[i]?=some x,fun i H=>∃ xs,SqT K H a xs/\xs.length<=i⟩
def Itr (lo:Int) (n:Nat):It:=⟨fun i _=>i<n,fun i H x H'=>H'=H/\x=.int (lo+i),fun i _=>n<=i⟩
theorem zgA {P:Program} {w:World} {K:PySem.W.Frag} {tg:Expr} (a it:Addr):zk0 P w K tg (Itl K a) [it] it (fun i h=>h.IsListIter it a i) where
 mem:=by simp
 obj:=fun i h st b hb=>by
  have e:b=it:=by simpa using hb
  subst e;obtain⟨o,e,c,d⟩:=st;exact⟨o,e,fun v z=>by rw [d] at z;cases z⟩
 keep:=fun i h h' st k=>st.at fun o e=>k it (by simp) o e
 item:=by
  intro X hP hw hK hc i pins s σ H E I hf st hg;subst hP hw hK;obtain⟨xs,x,hq,hx⟩:=hg;obtain⟨its,rv,p,hz⟩:=I.list hq;obtain⟨u,hu,ru⟩:=rv.get hx;obtain⟨f0,f1,f2,f3,f4,f5⟩:=hf it (by simp);refine wpAny_pyNext_list_item st p.isList (x:=u) (by simpa using hu) fun h' st' sb=>?_
  have I1:Inv X pins σ H { s with heap:=h' }:=I.turned (t':=s.toks) (fun b o hb e=>(sb.2 b hb).trans e) f0 f1 f3 f4 f5;obtain⟨o,e,c,d⟩:=id st';exact⟨u,rfl,zkg (s:={ s with heap:=h' }) e c d (by decide) ⟨x,H,I1,ru,⟨rfl,fun ys hy=>by rw [I.list_inj hy hq];exact hx⟩,st',fun b hb=>(hf b hb).1⟩⟩
 done:=by
  intro X hP hw hK hc i pins s σ H E I hf st hg;subst hP hw hK;obtain⟨xs,hq,hx⟩:=hg;obtain⟨its,rv,p,hz⟩:=I.list hq;obtain⟨f0,f1,f2,f3,f4,f5⟩:=hf it (by simp);have hl:=rv.length;exact wpAny_pyNext_list_end (I.ok.hd hc) st p.isList (by simp;omega) fun h' eb=>⟨rfl,I.turned (t':=s.toks) (fun b o hb e=>eb b o hb e) f0 f1 f3 f4 f5⟩
 self:=fun _ _ _ _ _ st h=>wpAny_pyIter_listiter st h
theorem zfi {P:Program} {w:World} {K:PySem.W.Frag} {tg:Expr} (a it:Addr):zk0 P w K tg (Itt K a) [it] it (fun i h=>h.IsTupleIter it a i) where
 mem:=by simp
 obj:=fun i h st b hb=>by
  have e:b=it:=by simpa using hb
  subst e;obtain⟨o,e,c,d⟩:=st;exact⟨o,e,fun v z=>by rw [d] at z;cases z⟩
 keep:=fun i h h' st k=>st.at fun o e=>k it (by simp) o e
 item:=by
  intro X hP hw hK hc i pins s σ H E I hf st hg;subst hP hw hK;obtain⟨xs,x,hq,hx⟩:=hg;obtain⟨its,rv,p,hz⟩:=I.tuple hq;obtain⟨u,hu,ru⟩:=rv.get hx;obtain⟨f0,f1,f2,f3,f4,f5⟩:=hf it (by simp);refine wpAny_pyNext_tuple_item st (show s.heap.IsTuple a its.toArray from p) (x:=u) (by simpa using hu) fun h' st' sb=>?_
  have I1:Inv X pins σ H { s with heap:=h' }:=I.turned (t':=s.toks) (fun b o hb e=>(sb.2 b hb).trans e) f0 f1 f3 f4 f5;obtain⟨o,e,c,d⟩:=id st';exact⟨u,rfl,zkg (s:={ s with heap:=h' }) e c d (by decide) ⟨x,H,I1,ru,⟨rfl,fun ys hy=>by rw [I.tuple_inj hy hq];exact hx⟩,st',fun b hb=>(hf b hb).1⟩⟩
 done:=by
  intro X hP hw hK hc i pins s σ H E I hf st hg;subst hP hw hK;obtain⟨xs,hq,hx⟩:=hg;obtain⟨its,rv,p,hz⟩:=I.tuple hq;obtain⟨f0,f1,f2,f3,f4,f5⟩:=hf it (by simp);have hl:=rv.length;exact wpAny_pyNext_tuple_end (I.ok.hd hc) st (show s.heap.IsTuple a its.toArray from p) (by simp;omega) fun h' eb=>⟨rfl,I.turned (t':=s.toks) (fun b o hb e=>eb b o hb e) f0 f1 f3 f4 f5⟩
 self:=fun _ _ _ _ _ st h=>wpAny_pyIter_tupleiter st h
theorem zix {P:Program} {w:World} {K:PySem.W.Frag} {tg:Expr} (it:Addr) (lo:Int) (n:Nat):zk0 P w K tg (Itr lo n) [it] it (fun i h=>IsRangeIter h it (lo+(i:Nat)*1) ((n:Int)-(i:Nat)) 1) where
 mem:=by simp
 obj:=fun i h st b hb=>by
  have e:b=it:=by simpa using hb
  subst e;exact⟨_,st,fun v z=>by
   have z':Data.fields _=Data.cell v:=z;cases z'⟩
 keep:=fun i h h' st k=>k it (by simp) _ st
 item:=by
  intro X hP hw hK hc i pins s σ H E I hf st hg;subst hP hw hK;obtain⟨f0,f1,f2,f3,f4,f5⟩:=hf it (by simp);have W:=Walks.range (prog:=X.prog) (w:=X.w) (I.ok.hd hc) it lo 1 n;refine W.item i s _ _ hg st fun v h' tk hv st' kk=>?_
  obtain⟨t,rfl⟩:=hv;have I1:Inv X pins σ H { s with heap:=h',toks:=tk }:=I.turned (fun b o hb e=>kk b o (by simpa using hb) e) f0 f1 f3 f4 f5;refine⟨_,rfl,zkg (s:={ s with heap:=h',toks:=tk }) (n:="range_iterator") st' rfl rfl (by decide) ⟨.int (lo+i),H,I1,⟨t,?_⟩,⟨rfl,rfl⟩,st',fun b hb=>(hf b hb).1⟩⟩;rw [Int.mul_one]
 done:=by
  intro X hP hw hK hc i pins s σ H E I hf st hg;subst hP hw hK;obtain⟨f0,f1,f2,f3,f4,f5⟩:=hf it (by simp);exact wpAny_pyNext_range_end (I.ok.hd hc) st (by have:n<=i:=hg;omega) fun h' eb=>⟨rfl,I.turned (t':=s.toks) (fun b o hb e=>eb b o hb e) f0 f1 f3 f4 f5⟩
 self:=fun _ _ _ _ _ st h=>wpAny_pyIter_rangeiter st h
section
variable {X:Cx} {tg:Expr}
theorem zkM {pins:List (Addr × Obj)} {σ:St} {H:Hp} {s:Shared} {R:It->Hp->Prop} {E:Value->Shared->Prop} {lo hi:Int} {t u v:Tok} {tk:Nat} (I:Inv X pins σ H s) (h1:-(2 ^ 62)<=lo) (h2:lo<2 ^ 62) (h3:-(2 ^ 62)<=hi) (h4:hi<2 ^ 62)
  (q:R (Itr lo (hi-lo).toNat) H):wpAny (model X.prog X.w) X.A (pyIter (.ref s.heap.objs.size)) (PIE X pins σ tg R) E { s with heap:=s.heap.push { cls:=.type "range",data:=.fields #[.int lo t,.int hi u,.int 1 v] },toks:=tk }:=by
 refine wpAny_pyIter_range (IsRange.new ..) (small_one h1 h2 h3 h4) ?_;have I1:Inv X pins σ H { s with heap:=s.heap.push { cls:=.type "range",data:=.fields #[.int lo t,.int hi u,.int 1 v] },toks:=tk }:=I.kept fun b o e=>zpa _ e
 refine⟨(s.heap.push { cls:=.type "range",data:=.fields #[.int lo t,.int hi u,.int 1 v] }).objs.size,[(s.heap.push { cls:=.type "range",data:=.fields #[.int lo t,.int hi u,.int 1 v] }).objs.size],_,_,H,rfl,
  I1.kept (t':=tk) fun b o e=>zpa _ e,zix _ lo (hi-lo).toNat,?_,fun b hb=>?_,q⟩
 ·have e1:lo+((0:Nat):Int)*1=lo:=by simp
  have e2:(((hi-lo).toNat:Nat):Int)-((0:Nat):Int)=Builtin.Range.rangeSize lo hi 1:=by rw [rangeSize_one];split <;> omega
  show IsRangeIter _ _ (lo+((0:Nat):Int)*1) ((((hi-lo).toNat:Nat):Int)-((0:Nat):Int)) 1;rw [e1,e2];exact zpy _ rfl
 ·have e:b=(s.heap.push { cls:=.type "range",data:=.fields #[.int lo t,.int hi u,.int 1 v] }).objs.size:=by simpa using hb
  subst e;exact I1.fpOk (zpd _) (I1.hok.fresh (zpd _))
def tFor (wi:TI) (g:TG) (tb:TS):TS:=fun D σ H=>wi σ H fun J H1=>∃ W:Nat->Nat->St->Hp->Prop,(∃ m,W 0 m σ H1)/\∀ i m σ H,W i m σ H ->
 (J.stop i H/\D.nx σ H)\/(J.go i H/\∃ N:St->Hp->Prop,(∀ σ' H',N σ' H'->∃ m',m'<m/\W (i+1) m' σ' H')/\∀ x H',J.yld i H x H'->g x σ H' fun σ2 H2=>tb { D with nx:=N,ct:=N,bk:=D.nx } σ2 H2)
def ze2 (fp:List Addr) (h:Heap):List (Addr × Obj):=fp.filterMap fun b=>(h.get? b).map fun o=>(b,o)
theorem zby {fp:List Addr} {h:Heap} {b:Addr} {o:Obj} (hb:b∈fp) (e:h.get? b=some o):(b,o)∈ze2 fp h:=List.mem_filterMap.mpr ⟨b,hb,by rw [e];rfl⟩
theorem zjw {fp:List Addr} {h:Heap} {p:Addr × Obj} (hp:p∈ze2 fp h):p.1∈fp/\h.get? p.1=some p.2:=by
 obtain⟨b,hb,e⟩:=List.mem_filterMap.mp hp;cases q:h.get? b with
 | none=>rw [q] at e;cases e
 | some o =>
  rw [q] at e;have e':(b,o)=p:=zpK e;subst e';exact⟨hb,q⟩
theorem Inv.pinned {pins:List (Addr × Obj)} {σ:St} {H:Hp} {s:Shared} {fp:List Addr} (I:Inv X pins σ H s) (hf:∀ b∈fp,ziz X pins H b) (ho:∀ b∈fp,∃ o,s.heap.get? b=some o/\∀ v,o.data≠.cell v):Inv X (pins++ze2 fp s.heap) σ H s :=
 I.pins_of fun p hp=>(zo8.mp hp).elim (fun z=>I.pin p (zpv _ z)) fun z=>by
  obtain⟨hb,e⟩:=zjw z;obtain⟨f0,f1,f2,_⟩:=hf p.1 hb;obtain⟨o,e',d⟩:=ho p.1 hb;rw [e] at e';cases e';exact⟨e,f0,f1,f2,d⟩
theorem Inv.unpinned {pins pl:List (Addr × Obj)} {σ:St} {H:Hp} {s:Shared} (I:Inv X (pins++pl) σ H s):Inv X pins σ H s:=I.pins_of fun p hp=>I.pin p (zpv _ (zpu _ hp))
theorem zbp {iter:Expr} {body:List Stmt} {wi:TI} {g:TG} {tb:TS} {pos:Pos} (hp:PassesOwn (model X.prog X.w) X.A X.env X.xe) (hc:X.calm=true) (hi:PI X tg iter wi) (hg:PG X tg g) (hb:PSs X body tb)
  (hs:∀ x,foldedSetIterable iter X.env x=pure x:=by intro _;rfl):PS X (.For tg iter body [] pos) (tFor wi g tb):=by
 intro pins s σ H D I h;refine wpAny_For (thn (hi pins s σ H _ I h) fun v s1 h1=>thn h1 fun itv s2 h2=>?_) hs;obtain⟨it,fp,tn,J,H2,e,I2,T,st2,f2,W,⟨m0,w0⟩,turn⟩:=h2;subst e;have stat:∀ {H':Hp},(∀ b∈fp,H' b=none)->∀ b∈fp,ziz X pins H' b:=fun hn b hb=>⟨hn b hb,(f2 b hb).2⟩
 refine codeAny_forLoop_any (fun n s'=>∃ i σ' H',Inv X pins σ' H' s'/\tn i s'.heap/\(∀ b∈fp,H' b=none)/\W i n σ' H') ?_ m0 ⟨0,σ,H2,I2,st2,fun b hb=>(f2 b hb).1,w0⟩;rintro n s3 ⟨i,σ3,H3,I3,st3,fr3,w3⟩;rcases turn i n σ3 H3 w3 with ⟨stop,qn⟩ | ⟨go,N,hN,step⟩
 ·refine wpAny_passesOwn hp (thn (T.done X rfl rfl rfl hc i pins s3 σ3 H3 X.xe I3 (stat fr3) st3 stop) fun r s4 ⟨hr,I4⟩=>?_);subst hr;exact wpAny_execs_nil ⟨σ3,H3,I4,qn⟩
 ·refine wpAny_passesOwn hp (thn (T.item X rfl rfl rfl hc i pins s3 σ3 H3 X.xe I3 (stat fr3) st3 go) fun r s4 ⟨u,hr,h4⟩=>?_);subst hr;refine wpAny_passesOwn hp (thn h4 fun _ s5 ⟨x,H5,I5,r5,y5,st5,fr5⟩=>?_);have I5':=I5.pinned (stat fr5) (T.obj _ _ st5);refine wpAny_passesOwn hp (thn (hg _ s5 σ3 H5 x u _ I5' r5 (step x H5 y5)) fun _ s6 ⟨σ6,H6,I6,q6⟩=>?_);refine wpAny_passesOwn hp (thn (hb _ s6 σ6 H6 _ I6 q6) fun f s7 q7=>?_);have again:∀ {σ7:St} {H7:Hp},Inv X (pins++ze2 fp s5.heap) σ7 H7 s7->N σ7 H7->∃ m,m<n/\∃ i σ' H',Inv X pins σ' H' s7/\tn i s7.heap/\(∀ b∈fp,H' b=none)/\W i m σ' H':=fun {σ7 H7} I7 n7=>by
   obtain⟨m',hm,w7⟩:=hN σ7 H7 n7;refine⟨m',hm,i+1,σ7,H7,I7.unpinned,T.keep _ _ _ st5 fun b hb o e=>(I7.pin (b,o) (zpv _ (zpv _ (zby hb e)))).1,fun b hb=>?_,w7⟩;obtain⟨o,e,d⟩:=T.obj _ _ st5 b hb;exact (I7.pin (b,o) (zpv _ (zpv _ (zby hb e)))).2.1
  cases f with
  | next=>obtain⟨σ7,H7,I7,n7⟩:=q7;exact again I7 n7
  | cont=>obtain⟨σ7,H7,I7,n7⟩:=q7;exact again I7 n7
  | brk=>obtain⟨σ7,H7,I7,q7⟩:=q7;exact⟨σ7,H7,I7.unpinned,q7⟩
  | ret v=>obtain⟨x7,σ7,H7,I7,r7,q7⟩:=q7;exact⟨x7,σ7,H7,I7.unpinned,r7,q7⟩
end
theorem zbv {K:PySem.W.Frag} {a:Addr} {xs:List V} {g:TG} {tb:TS} {D:zj4} {σ:St} {H:Hp} (Pv:Nat->St->Hp->Prop) (h0:Pv 0 σ H) (hl:∀ i σ H,i<=xs.length->Pv i σ H->SqL K H a xs)
  (hs:∀ i x σ H,xs[i]?=some x->Pv i σ H->g x σ H fun σ2 H2=>tb { D with nx:=Pv (i+1),ct:=Pv (i+1),bk:=D.nx } σ2 H2) (hd:∀ σ H,Pv xs.length σ H->D.nx σ H) :
  ∃ W:Nat->Nat->St->Hp->Prop,(∃ m,W 0 m σ H)/\∀ i m σ H,W i m σ H ->
   ((Itl K a).stop i H/\D.nx σ H)\/((Itl K a).go i H/\∃ N:St->Hp->Prop,(∀ σ' H',N σ' H'->∃ m',m'<m/\W (i+1) m' σ' H')/\∀ x H',(Itl K a).yld i H x H'->g x σ H' fun σ2 H2=>tb { D with nx:=N,ct:=N,bk:=D.nx } σ2 H2):=by
 refine⟨fun i m σ H=>m=xs.length-i/\i<=xs.length/\Pv i σ H,⟨xs.length,by simp,Nat.zero_le _,h0⟩,?_⟩;rintro i m σ H ⟨rfl,hi,p⟩;have q:=hl i σ H hi p;by_cases hlt:i<xs.length
 ·refine .inr ⟨⟨xs,xs[i],q,by simp [hlt]⟩,Pv (i+1),fun σ' H' p'=>⟨xs.length-(i+1),by omega,rfl,hlt,p'⟩,fun x H' y=>?_⟩;obtain⟨e,y⟩:=y;subst e;exact hs i x σ _ (y xs q) p
 ·have e:i=xs.length:=by omega
  subst e;exact .inl ⟨⟨xs,q,zpd _⟩,hd σ H p⟩
theorem zdd {lo:Int} {n:Nat} {g:TG} {tb:TS} {D:zj4} {σ:St} {H:Hp} (Pv:Nat->St->Hp->Prop) (h0:Pv 0 σ H)
  (hs:∀ i σ H,i<n->Pv i σ H->g (.int (lo+i)) σ H fun σ2 H2=>tb { D with nx:=Pv (i+1),ct:=Pv (i+1),bk:=D.nx } σ2 H2) (hd:∀ σ H,Pv n σ H->D.nx σ H) :
  ∃ W:Nat->Nat->St->Hp->Prop,(∃ m,W 0 m σ H)/\∀ i m σ H,W i m σ H ->
   ((Itr lo n).stop i H/\D.nx σ H)\/((Itr lo n).go i H/\∃ N:St->Hp->Prop,(∀ σ' H',N σ' H'->∃ m',m'<m/\W (i+1) m' σ' H')/\∀ x H',(Itr lo n).yld i H x H'->g x σ H' fun σ2 H2=>tb { D with nx:=N,ct:=N,bk:=D.nx } σ2 H2):=by
 refine⟨fun i m σ H=>m=n-i/\i<=n/\Pv i σ H,⟨n,by simp,Nat.zero_le _,h0⟩,?_⟩;rintro i m σ H ⟨rfl,hi,p⟩;by_cases hlt:i<n
 ·refine .inr ⟨hlt,Pv (i+1),fun σ' H' p'=>⟨n-(i+1),by omega,rfl,hlt,p'⟩,fun x H' y=>?_⟩;obtain⟨e,y⟩:=y;subst e y;exact hs i σ _ hlt p
 ·have e:i=n:=by omega
  subst e;exact .inl ⟨zpd _,hd σ H p⟩
abbrev R2:=V->V->Hp->VK->Prop
def OpR (X:Cx) (f:Value->Value->Sem Value) (r:R2):Prop :=
 ∀ (pins:List (Addr × Obj)) (s:Shared) (σ:St) (H:Hp) (x y:V) (v u:Value) (Q:VK),Inv X pins σ H s->zaW x v->zaW y u->r x y H Q ->
  wpAny (model X.prog X.w) X.A (f v u) (EP X pins σ Q) X.xe s
def UnR (X:Cx) (f:Value->Sem Value) (r:V->Hp->VK->Prop):Prop :=
 ∀ (pins:List (Addr × Obj)) (s:Shared) (σ:St) (H:Hp) (x:V) (v:Value) (Q:VK),Inv X pins σ H s->zaW x v->r x H Q ->
  wpAny (model X.prog X.w) X.A (f v) (EP X pins σ Q) X.xe s
def zbm (X:Cx) (f:Value) (r:List V->Hp->VK->Prop):Prop :=
 ∀ (pins:List (Addr × Obj)) (s:Shared) (σ:St) (H:Hp) (xs:List V) (us:List Value) (Q:VK),Inv X pins σ H s->zaT xs us->r xs H Q ->
  wpAny (model X.prog X.w) X.A (call f us) (EP X pins σ Q) X.xe s
def tOp (r:R2) (ta tb:TE):TE:=fun σ H Q=>ta σ H fun x H1=>tb σ H1 fun y H2=>r x y H2 Q
def tUn (r:V->Hp->VK->Prop) (ta:TE):TE:=fun σ H Q=>ta σ H fun x H1=>r x H1 Q
def rI (C:Int->Int->Prop) (g:Int->Int->V):R2:=fun x y H Q=>∃ i j,x=.int i/\y=.int j/\C i j/\Q (g i j) H
def rI0 (g:Int->Int->V):R2:=fun x y H Q=>∃ i j,x=.int i/\y=.int j/\Q (g i j) H
def rU (g:Int->V):V->Hp->VK->Prop:=fun x H Q=>∃ i,x=.int i/\Q (g i) H
section
variable {X:Cx} {a b c:Expr} {ta tb tc:TE} {pos:Pos}
theorem zn4 (ha:PE X a ta) (hb:PE X b tb) {pins:List (Addr × Obj)} {s:Shared} {σ:St} {H:Hp} {R:V->V->Hp->Prop} (I:Inv X pins σ H s)
  (h:ta σ H fun x H1=>tb σ H1 fun y H2=>R x y H2) {Q:Value->Shared->Prop} {f:Value->Value->Sem Value}
  (hf:∀ v u s2 x y H2,Inv X pins σ H2 s2->zaW x v->zaW y u->R x y H2->wpAny (model X.prog X.w) X.A (f v u) Q X.xe s2) :
  wpAny (model X.prog X.w) X.A (eval a X.env) (fun v s₁=>wpAny (model X.prog X.w) X.A (eval b X.env) (fun u s₂=>wpAny (model X.prog X.w) X.A (f v u) Q X.xe s₂) X.xe s₁) X.xe s:=by
 refine thn (ha pins s σ H _ I h) fun v s1 ⟨x,H1,I1,r1,q1⟩=>?_
 refine thn (hb pins s1 σ H1 _ I1 q1) fun u s2 ⟨y,H2,I2,r2,q2⟩=>?_
 exact hf v u s2 x y H2 I2 r1 r2 q2
theorem zaP {op:Operator} {r:R2} (ho:OpR X (binaryOp op) r) (ha:PE X a ta) (hb:PE X b tb):PE X (.BinOp a op b pos) (tOp r ta tb):=by
 intro pins s σ H Q I h;exact wpAny_BinOp (zn4 ha hb I h fun v u s2 x y H2 I2 rx ry q=>ho pins s2 σ H2 x y v u Q I2 rx ry q)
theorem ziq {op:UnaryOp} {r:V->Hp->VK->Prop} (ho:UnR X (unaryOp op) r) (ha:PE X a ta):PE X (.UnaryOp op a pos) (tUn r ta):=by
 intro pins s σ H Q I h;exact UnaryOp_ (thn (ha pins s σ H _ I h) fun v s1 ⟨x,H1,I1,r1,q1⟩=>ho pins s1 σ H1 x v Q I1 r1 q1)
theorem opI {f:Value->Value->Sem Value} {C:Int->Int->Prop} {g:Int->Int->Int}
  (rule:∀ (i j:Int) (t u:Tok) (s:Shared) (Q:Value->Shared->Prop) (E:Value->Shared->Prop),C i j->Q (.int (g i j) s.toks) { s with toks:=s.toks+1 }->wpAny (model X.prog X.w) X.A (f (.int i t) (.int j u)) Q E s) :
  OpR X f (rI C fun i j=>.int (g i j)):=by
 intro pins s σ H x y v u Q I rx ry h;obtain⟨i,j,rfl,rfl,hc,q⟩:=h;obtain⟨t,rfl⟩:=rx;obtain⟨t',rfl⟩:=ry;exact rule i j t t' s _ _ hc ⟨.int (g i j),H,I.tok _,⟨_,rfl⟩,q⟩
theorem opI0 {f:Value->Value->Sem Value} {g:Int->Int->Int}
  (rule:∀ (i j:Int) (t u:Tok) (s:Shared) (Q:Value->Shared->Prop) (E:Value->Shared->Prop),Q (.int (g i j) s.toks) { s with toks:=s.toks+1 }->wpAny (model X.prog X.w) X.A (f (.int i t) (.int j u)) Q E s) :
  OpR X f (rI0 fun i j=>.int (g i j)):=by
 intro pins s σ H x y v u Q I rx ry h;obtain⟨i,j,rfl,rfl,q⟩:=h;obtain⟨t,rfl⟩:=rx;obtain⟨t',rfl⟩:=ry;exact rule i j t t' s _ _ ⟨.int (g i j),H,I.tok _,⟨_,rfl⟩,q⟩
theorem znY {f:Value->Value->Sem Value} {g:Int->Int->Bool}
  (rule:∀ (i j:Int) (t u:Tok) (s:Shared) (Q:Value->Shared->Prop) (E:Value->Shared->Prop),Q (.bool (g i j)) s->wpAny (model X.prog X.w) X.A (f (.int i t) (.int j u)) Q E s) :
  OpR X f (rI0 fun i j=>.bl (g i j)):=by
 intro pins s σ H x y v u Q I rx ry h;obtain⟨i,j,rfl,rfl,q⟩:=h;obtain⟨t,rfl⟩:=rx;obtain⟨t',rfl⟩:=ry;exact rule i j t t' s _ _ ⟨.bl (g i j),H,I,rfl,q⟩
def znZ (i j:Int):Prop:=0<=j/\j<=1000000/\i.natAbs<2 ^ 64
def znV (i j:Int):Prop:=(-(2 ^ 64)<i/\i<2 ^ 64)\/(-(2 ^ 64)<j/\j<2 ^ 64)
theorem znV.ok {i j:Int} (h:znV i j):IntMulOk i j:=by
 rcases h with ⟨h1,h2⟩ | ⟨h1,h2⟩
 ·exact .of_left (intBits_le_64 h1 h2)
 ·exact .of_right (intBits_le_64 h1 h2)
theorem znf:OpR X (binaryOp .Add) (rI0 fun i j=>.int (i+j)):=opI0 fun _ _ _ _ _ _ _ q=>add_int q
theorem zni:OpR X (binaryOp .Mult) (rI znV fun i j=>.int (i*j)):=opI fun _ _ _ _ _ _ _ hc q=>mul_int q hc.ok
theorem znh:OpR X (binaryOp .Mod) (rI (fun _ j=>0<j) fun i j=>.int (i % j)):=opI fun i j _ _ _ _ _ hc q=>by
 have h1:(0:Int)<j:=hc;exact mod_int' (by omega) (by rw [Int.fmod_eq_emod_of_nonneg i (by omega)];exact q)
theorem znj:OpR X (binaryOp .Pow) (rI znZ fun i j=>.int (i ^ j.toNat)):=opI fun _ _ _ _ _ _ _ hc q=>pow_int_small hc.1 hc.2.1 hc.2.2 q
theorem unI {f:Value->Sem Value} {g:Int->Int}
  (rule:∀ (i:Int) (t:Tok) (s:Shared) (Q:Value->Shared->Prop) (E:Value->Shared->Prop),Q (.int (g i) s.toks) { s with toks:=s.toks+1 }->wpAny (model X.prog X.w) X.A (f (.int i t)) Q E s) :
  UnR X f (rU fun i=>.int (g i)):=by
 intro pins s σ H x v Q I rx h;obtain⟨i,rfl,q⟩:=h;obtain⟨t,rfl⟩:=rx;exact rule i t s _ _ ⟨.int (g i),H,I.tok _,⟨_,rfl⟩,q⟩
theorem znR:UnR X (unaryOp .USub) (rU fun i=>.int (-i)):=unI fun _ _ _ _ _ q=>neg_int q
end
section
variable {X:Cx} {a b c:Expr} {ta tb tc:TE} {pos:Pos}
theorem zdI {pins:List (Addr × Obj)} {σ:St} {H:Hp} {s:Shared} {Q:VK} {k k':Bool} (I:Inv X pins σ H s) (q:Q (.bl k) H) (e:k=k'):EP X pins σ Q (.bool k') s:=by
 subst e;exact⟨.bl k,H,I,rfl,q⟩
theorem zox:OpR X (compareOp .Lt) (rI0 fun i j=>.bl (decide (i<j))):=znY fun _ _ _ _ _ _ _ q=>lt_int q
theorem zow:OpR X (compareOp .LtE) (rI0 fun i j=>.bl (decide (i<=j))):=znY fun _ _ _ _ _ _ _ q=>le_int q
theorem zov:OpR X (compareOp .Gt) (rI0 fun i j=>.bl (decide (j<i))):=znY fun _ _ _ _ _ _ _ q=>gt_int q
theorem zou:OpR X (compareOp .GtE) (rI0 fun i j=>.bl (decide (j<=i))):=znY fun _ _ _ _ _ _ _ q=>ge_int q
theorem zek:OpR X (compareOp .Is) (fun x y H Q=>y=.non/\Q (.bl (decide (x=.non))) H):=by
 intro pins s σ H x y v u Q I rx ry h;obtain⟨rfl,q⟩:=h;cases ry;refine is_none_gen (zdI I q ?_);cases x <;> first
  | (cases rx;rfl)
  | (obtain⟨t,rfl⟩:=rx;rfl)
theorem zcZ:OpR X (compareOp .IsNot) (fun x y H Q=>y=.non/\Q (.bl (!decide (x=.non))) H):=by
 intro pins s σ H x y v u Q I rx ry h;obtain⟨rfl,q⟩:=h;cases ry;refine isnot_none_gen (zdI I q ?_);cases x <;> first
  | (cases rx;rfl)
  | (obtain⟨t,rfl⟩:=rx;rfl)
theorem zaF (b:Expr) {op:CmpOp} (h:op≠.In:=by decide) (h2:op≠.NotIn:=by decide):behindInMarks op b=false:=by
 have e1:(op == CmpOp.In)=false:=by cases op <;> first | rfl | exact absurd rfl h
 have e2:(op == CmpOp.NotIn)=false:=by cases op <;> first | rfl | exact absurd rfl h2
 cases b <;> simp [behindInMarks,e1,e2]
theorem zb0 {op:CmpOp} {r:R2} (ho:OpR X (compareOp op) r) (ha:PE X a ta) (hb:PE X b tb) (hm:behindInMarks op b=false):PE X (.Compare a [op] [b] pos) (tOp r ta tb):=by
 intro pins s σ H Q I h;exact wpAny_Compare1 (zn4 ha hb I h fun v u s2 x y H2 I2 rx ry q=>ho pins s2 σ H2 x y v u Q I2 rx ry q) hm
theorem zhF:(sizeLine:Nat)<2 ^ 63:=by rw [sizeLine_eq];decide
theorem zjY {x:V} {us:List Value} (r:zaT [x] us):∃ u,us=[u]/\zaW x u:=by
 cases r with
 | cons r1 r2=>cases r2;exact⟨_,rfl,r1⟩
theorem zoU {x y:V} {us:List Value} (r:zaT [x,y] us):∃ u w',us=[u,w']/\zaW x u/\zaW y w':=by
 cases r with
 | cons r1 r2 =>
  cases r2 with
  | cons r3 r4=>cases r4;exact⟨_,_,rfl,r1,r3⟩
theorem ziK (hc:X.calm=true):zbm X (.builtin "min") (fun xs H Q=>∃ i j,xs=[.int i,.int j]/\Q (.int (if j<i then j else i)) H):=by
 intro pins s σ H xs us Q I r h;obtain⟨i,j,rfl,q⟩:=h;obtain⟨u,w',rfl,⟨t,rfl⟩,⟨t',rfl⟩⟩:=zoU r;refine min_two_ints (I.ok.hd hc) fun h' tk k=>⟨_,H,I.kept k,?_,q⟩
 by_cases hj:j<i
 ·rw [zpC hj,zpC hj];exact⟨_,rfl⟩
 ·rw [zpB hj,zpB hj];exact⟨_,rfl⟩
theorem ziI:zbm X (.type "int") (fun xs H Q=>(∃ i,xs=[.int i]/\Q (.int i) H)\/∃ k,xs=[.bl k]/\Q (.int (if k then 1 else 0)) H):=by
 intro pins s σ H xs us Q I r h;rcases h with ⟨i,rfl,q⟩ | ⟨k,rfl,q⟩
 ·obtain⟨u,rfl,t,rfl⟩:=zjY r;exact call_int_int ⟨.int i,H,I,⟨_,rfl⟩,q⟩
 ·obtain⟨u,rfl,r1⟩:=zjY r;cases r1;exact call_int_bool ⟨.int (if k then 1 else 0),H,I.tok _,⟨_,rfl⟩,q⟩
end
structure zlr (h:Heap) (x dx C:Addr) (mA:Str->Option Value):Prop where
 obj:h.get? x=some (PySem.W.instObj C dx)
 ns:h.Ns1 dx mA
 ne:dx≠x
theorem zjp {h:Heap} {dx:Addr} {mA:Str->Option Value} (n:h.Ns1 dx mA):∃ od,h.get? dx=some od/\∀ name,PySem.W.lookIn name od=some (mA name):=by
 obtain⟨o,es,ep,ho,hd,hk,_,hm⟩:=n;refine⟨o,ho,fun name=>?_⟩;have e:=hm name;unfold nsFind findBy at e;rw [← Array.find?_toList] at e;unfold PySem.W.lookIn;rw [hd];dsimp only;split
 ·rename_i y q;rw [q] at e;exact congrArg some e
 ·rename_i q;rw [q] at e;have a:es.toList.any (·.refKey)=false:=by
   rw [List.any_eq_false];intro y hy;obtain⟨z,t,hkey⟩:=hk y (Array.mem_toList_iff.mp hy);simp [DictEntry.refKey,hkey]
  have a':¬ es.toList.any (·.refKey)=true:=by rw [a];exact zpJ
  rw [zpB a'];exact congrArg some e
theorem zlr.look {h:Heap} {x dx C:Addr} {mA:Str->Option Value} (I:zlr h x dx C mA):∃ od,PySem.W.InstAt h x (PySem.W.instObj C dx) C (some od)/\∀ name,PySem.W.lookIn name od=some (mA name) :=
 let ⟨od,ho,hl⟩:=zjp I.ns
 ⟨od,⟨I.obj,rfl,rfl,ho⟩,hl⟩
section
variable {prog:Program} {w:World} {A:Around} {E:Value->Shared->Prop} {s:Shared} {K:PySem.W.Frag} {x dx C f:Addr} {mA:Str->Option Value} {name:Str} {v:Value}
theorem zlI {expr:Bool} {Q:Value->Shared->Prop} (X:K.In s.heap) (I:zlr s.heap x dx C mA) (hg:PySem.W.plainGet K C name=true) (hh:PySem.W.hasDictIn K C=true)
  (ha:PySem.W.findIn K (.ref C) name=some none) (hv:mA name=some v) (hv':PySem.W.handedIn v=true) (h:Q v { s with toks:=s.toks+1 }) :
  wpAny (model prog w) A (getAttr (.ref x) name expr) Q E s:=by
 obtain⟨od,J,hl⟩:=I.look;exact PySem.W.get_value X J (PySem.W.plainGet_of hg).1 (PySem.W.findObj_own hh ha rfl (by rw [hl,hv])) hv' h
theorem zkf {pl:Sem Bool} {Q:Value × List Value->Shared->Prop} (X:K.In s.heap) (I:zlr s.heap x dx C mA) (hg:PySem.W.plainGet K C name=true)
  (hf:PySem.W.findIn K (.ref C) name=some (some (.ref f))) (ht:PySem.W.isFn K (.ref f)=true) (hv:mA name=none) (h:Q (.ref f,[.ref x]) s) :
  wpAny (model prog w) A (getMethod (.ref x) name pl) Q E s:=by
 obtain⟨od,J,hl⟩:=I.look;exact PySem.W.method_fn X J (PySem.W.plainGet_of hg).1 (PySem.W.plainGet_of hg).2 hf (beq_iff_eq.mp ht) (by show (PySem.W.lookIn name od).map (·.isSome)=some false;rw [hl,hv];rfl) h
theorem zml {ns:List Str} {Q:Unit->Shared->Prop} (X:K.In s.heap) (I:zlr s.heap x dx C mA)
  (hs:PySem.W.findIn K (.ref C) "__setattr__"=some (some (.builtin "object.__setattr__"))) (hp:PySem.W.plainOver K C=true) (ht:PySem.W.takerIn K C name=some none) (hh:PySem.W.hasDictIn K C=true)
  (hw:PySem.Within mA ns) (hsz:ns.length<=sizeLine)
  (h:∀ h',zlr h' x dx C (fun y=>if y=name then some v else mA y)->Heap.SameBut dx s.heap h'->Q () { s with heap:=h',toks:=s.toks+2 }) :
  wpAny (model prog w) A (setAttr (.ref x) name v) Q E s:=by
 obtain⟨od,J,hl⟩:=I.look;refine PySem.W.set_plain X J hs (PySem.W.osa_open (s:={ s with toks:=s.toks+1 }) (r:=none) X J hp ht fun b=>?_);obtain⟨cd,hc,hd'⟩:=PySem.W.any_some hh;have hx:s.heap.get? x=some ⟨.ref C,some dx,.plain,#[]⟩:=I.obj;refine wpAny_bind (wpAny_pure (wpAny_bind (wpAny_bind (wpAny_loadPart hx (wpAny_bind (PySem.W.Looks.here (s:={ s with toks:=s.toks+1 }) (PySem.W.looks_clsIn X hc) ?_))))));rw [hd'];refine wpAny_pure (a:=some dx) (wpAny_bind (wpAny_pure (wpAny_bind ?_)));refine wpAny_nsSet1 (s:={ s with toks:=s.toks+1 }) I.ns fun h' hn2 hs2=>?_
 obtain⟨oD,esD,epD,hoD,hdD,hcD⟩:=hn2.count (PySem.Within.cons name v hw);refine wpAny_bind (wpAny_lookBehind hoD (by rw [hdD];exact pastItsLine_dict (zpc hcD (by rw [zpA];omega))) ?_);exact wpAny_pure (h _ ⟨(hs2.2 _ (Ne.symm I.ne)).trans I.obj,hn2,I.ne⟩ hs2)
theorem zkt {R:Result->Shared->Prop} {vs:List Value} {kw:List (Str × Value)} (X:K.In s.heap) (hm:PySem.W.makesIn K C=true)
  (hi:PySem.W.findIn K (.ref C) "__init__"=some (some (.ref f))) (hf:PySem.W.typeIn K (.ref f)=some (.type "function"))
  (h:codeAny (model prog w) (A.under (.builtin "type.__call__" ⟨.ref C::vs,kw⟩)) (.call (.ref f) ⟨.ref (s.heap.objs.size+1)::vs,kw⟩) (PySem.W.InitBack (s.heap.objs.size+1) R)
   { s with heap:=(s.heap.push PySem.W.emptyDict).push (PySem.W.instObj C s.heap.objs.size) }) :
  codeAny (model prog w) A (.call (.ref C) ⟨vs,kw⟩) R s:=by
 obtain⟨hh,g,d,t,os⟩:=s;exact PySem.W.make_core (PySem.W.makes_of X hm) (PySem.W.looks_findIn X hi) (fun self=>PySem.W.bind_fn X self hf) (.inl rfl) h
end
def zcJ (f:Str) (v:V):List (Str × V)->List (Str × V)
 | []=>[(f,v)]
 | (g,x)::r=>if g=f then (g,v)::r else (g,x)::zcJ f v r
theorem zee (f g:Str) (v:V):∀ fs:List (Str × V),(zcJ f v fs).lookup g=if g=f then some v else fs.lookup g
 | []=>by
  show List.lookup g [(f,v)]=_;by_cases h:g=f
  ·have hb:(g == f)=true:=beq_iff_eq.mpr h;simp only [List.lookup,hb,zpC h]
  ·have hb:(g == f)=false:=beq_eq_false_iff_ne.mpr h;simp only [List.lookup,hb,zpB h]
 | (k,x)::r=>by
  have ih:=zee f g v r;rw [show zcJ f v ((k,x)::r)=(if k=f then (k,v)::r else (k,x)::zcJ f v r) from rfl];by_cases hk:k=f
  ·rw [zpC hk];by_cases h:g=k
   ·have hb:(g == k)=true:=beq_iff_eq.mpr h;simp only [List.lookup,hb,zpC (h.trans hk)]
   ·have hb:(g == k)=false:=beq_eq_false_iff_ne.mpr h;simp only [List.lookup,hb,zpB (fun e:g=f=>h (e.trans hk.symm))]
  ·rw [zpB hk];by_cases h:g=k
   ·have hb:(g == k)=true:=beq_iff_eq.mpr h;simp only [List.lookup,hb,zpB (fun e:g=f=>hk (h.symm.trans e))]
   ·have hb:(g == k)=false:=beq_eq_false_iff_ne.mpr h;simp only [List.lookup,hb];exact ih
theorem zeb (f:Str) (v:V):∀ fs:List (Str × V),f∈(zcJ f v fs).map (·.1)/\∀ g,g∈fs.map (·.1)->g∈(zcJ f v fs).map (·.1)
 | []=>⟨by simp [zcJ],fun g h=>by simp at h⟩
 | (k,x)::r=>by
  obtain⟨i1,i2⟩:=zeb f v r;rw [show zcJ f v ((k,x)::r)=(if k=f then (k,v)::r else (k,x)::zcJ f v r) from rfl];by_cases hk:k=f
  ·rw [zpC hk];subst hk;exact⟨by simp,fun g h=>by simpa using h⟩
  ·rw [zpB hk];refine⟨?_,fun g h=>?_⟩
   ·rw [zpq];exact zpg _ i1
   ·rw [zpq] at h ⊢;rcases zpG.mp h with e | e
    ·exact zpG.mpr (.inl e)
    ·exact zpg _ (i2 g e)
theorem zed (f:Str) (v:V):∀ fs:List (Str × V),(zcJ f v fs).length<=fs.length+1
 | []=>by simp [zcJ]
 | (k,x)::r=>by
  have ih:=zed f v r;rw [show zcJ f v ((k,x)::r)=(if k=f then (k,v)::r else (k,x)::zcJ f v r) from rfl];by_cases hk:k=f
  ·rw [zpC hk,zpA,zpA];omega
  ·rw [zpB hk,zpA,zpA];omega
theorem zeN.some_of {v:V} {o:Option Value} (r:zeN (some v) o):∃ u,o=some u/\zaW v u:=by
 cases o with
 | none=>exact (show False from r).elim
 | some u=>exact⟨u,rfl,r⟩
theorem zeN.none_of {o:Option Value} (r:zeN none o):o=none:=by
 cases o with
 | none=>rfl
 | some u=>exact (show False from r).elim
theorem zjc {v:V} {u:Value} (r:zaW v u):PySem.W.handedIn u=true:=by
 cases v with
 | non=>cases (show u=Value.none from r);rfl
 | bl b=>cases (show u=Value.bool b from r);rfl
 | int i=>obtain⟨t,e⟩:=(show ∃ t,u=Value.int i t from r);cases e;rfl
 | str x=>obtain⟨t,e⟩:=(show ∃ t,u=Value.str x t from r);cases e;rfl
 | byt b=>obtain⟨t,e⟩:=(show ∃ t,u=Value.bytes b t from r);cases e;rfl
 | flt b=>obtain⟨t,e⟩:=(show ∃ t,u=Value.float b t from r);cases e;rfl
 | ref a=>cases (show u=Value.ref a from r);rfl
 | ty n=>cases (show u=Value.type n from r);rfl
section
variable {P:Program} {w:World} {H H':Hp} {h h':Heap} {a C dx:Addr} {fs fs':List (Str × V)}
theorem zfu (hok:HOk P w H h) (e:H a=some (.ins C dx fs)):∃ mA,zlr h a dx C mA/\(∀ f,zeN (fs.lookup f) (mA f))/\PySem.Within mA (fs.map (·.1))/\fs.length<=1000/\H dx=some (.own a):=by
 obtain⟨d,z,ne,ob,mA,n,r,q⟩:=(show za0 P w H h a (.ins C dx fs) from hok a _ e);exact⟨mA,⟨ob,n,ne⟩,r,q,z,d⟩
end
structure Cls (K:PySem.W.Frag) (C:Addr):Prop where
 pg:PySem.W.plainGet K C Str.empty=true
 hd:PySem.W.hasDictIn K C=true
 po:PySem.W.plainOver K C=true
 sa:PySem.W.findIn K (.ref C) "__setattr__"=some (some (.builtin "object.__setattr__"))
theorem Cls.get {K:PySem.W.Frag} {C:Addr} (c:Cls K C) (f:Str):PySem.W.plainGet K C f=true:=c.pg
def zcd (K:PySem.W.Frag) (C:Addr) (f:Str):Prop:=PySem.W.findIn K (.ref C) f=some none
theorem zcd.taker {K:PySem.W.Frag} {C:Addr} {f:Str} (n:zcd K C f):PySem.W.takerIn K C f=some none:=by
 unfold PySem.W.takerIn;rw [show PySem.W.findIn K (.ref C) f=some none from n]
 rfl
structure zkZ (K:PySem.W.Frag) (C:Addr) (m:Str) (f:Addr):Prop where
 at_:PySem.W.findIn K (.ref C) m=some (some (.ref f))
 fn:PySem.W.isFn K (.ref f)=true
 kp:PySem.W.keepIn K (.ref f)=true
section
variable {X:Cx} {pins:List (Addr × Obj)} {σ:St} {H:Hp} {s:Shared} {a C dx:Addr} {fs:List (Str × V)} {f:Str} {v:V} {A:Around} {E:Value->Shared->Prop}
theorem zeU {b:Bool} {Q:Value->Shared->Prop} (I:Inv X pins σ H s) (e:H a=some (.ins C dx fs)) (c:Cls X.K C) (n:zcd X.K C f) (l:fs.lookup f=some v)
  (h:∀ u s',Inv X pins σ H s'->zaW v u->Q u s'):wpAny (model X.prog X.w) A (getAttr (.ref a) f b) Q E s:=by
 obtain⟨mA,O,r,_,_,_⟩:=zfu I.hok e;obtain⟨u,hu,ru⟩:=zeN.some_of (v:=v) (o:=mA f) (by rw [← l];exact r f);exact zlI I.kIn O (c.get f) c.hd n hu (zjc ru) (h u _ (I.tok _) ru)
theorem zeV {m:Str} {g:Addr} {pl:Sem Bool} {Q:Value × List Value->Shared->Prop} (I:Inv X pins σ H s) (e:H a=some (.ins C dx fs)) (c:Cls X.K C) (k:zkZ X.K C m g) (l:fs.lookup m=none)
  (h:Q (.ref g,[.ref a]) s):wpAny (model X.prog X.w) A (getMethod (.ref a) m pl) Q E s:=by
 obtain⟨mA,O,r,_,_,_⟩:=zfu I.hok e;have hn:mA m=none:=zeN.none_of (by rw [← l];exact r m);exact zkf I.kIn O (c.get m) k.at_ k.fn hn h
theorem zfe {y:V} {u:Value} {Q:Unit->Shared->Prop} (I:Inv X pins σ H s) (e:H a=some (.ins C dx fs)) (c:Cls X.K C) (n:zcd X.K C f) (hl:fs.length<1000) (ry:zaW y u)
  (h:∀ s',Inv X pins σ (upd H a (.ins C dx (zcJ f y fs))) s'->Q () s'):wpAny (model X.prog X.w) A (setAttr (.ref a) f u) Q E s:=by
 obtain⟨mA,O,r,wi,_,ho⟩:=zfu I.hok e;have hz:(fs.map (·.1)).length<=sizeLine:=by rw [zoX,sizeLine_eq];omega
 refine zml I.kIn O c.sa c.po n.taker c.hd wi hz fun h' O' sb=>h _ ?_
 have hd:∃ o,h'.get? dx=some o:=let ⟨o,_,_,e',_⟩:=O'.ns;⟨o,e'⟩;refine I.write (x:=a) (e:=dx) (by rw [e];exact True.intro) (.inr ho) (fun b q hb z=>(sb.2 b hb).trans z) hd ?_;refine⟨by rw [zal O.ne];exact ho,?_,O.ne,O'.obj,_,O'.ns,fun g=>?_,fun g hg=>?_⟩
 ·have:=zed f y fs;omega
 ·show zeN ((zcJ f y fs).lookup g) (if g=f then some u else mA g);rw [zee];by_cases q:g=f
  ·rw [zpC q,zpC q];exact ry
  ·rw [zpB q,zpB q];exact r g
 ·by_cases q:g=f
  ·rw [q];exact (zeb f y fs).1
  ·refine (zeb f y fs).2 g (wi g fun z=>hg ?_);show (if g=f then some u else mA g)=none;rw [zpB q];exact z
theorem Inv.made (I:Inv X pins σ H s):Inv X pins σ (upd (upd H s.heap.objs.size (.own (s.heap.objs.size+1))) (s.heap.objs.size+1) (.ins C s.heap.objs.size []))
  { s with heap:=(s.heap.push PySem.W.emptyDict).push (PySem.W.instObj C s.heap.objs.size) }:=by
 have e1:(s.heap.push PySem.W.emptyDict).get? s.heap.objs.size=some PySem.W.emptyDict:=zpy s.heap rfl;have e2:((s.heap.push PySem.W.emptyDict).push (PySem.W.instObj C s.heap.objs.size)).get? (s.heap.objs.size+1)=some (PySem.W.instObj C s.heap.objs.size):=by
  have:=zpy (s.heap.push PySem.W.emptyDict) (o:=PySem.W.instObj C s.heap.objs.size) rfl
  rwa [Heap.size_push] at this
 have e3:(s.heap.push PySem.W.emptyDict).Ns s.heap.objs.size (fun _=>none):=⟨PySem.W.emptyDict,#[],_,e1,rfl,(fun e he=>absurd he (by simp)),fun _=>rfl⟩;have I1:=I.laid (a:=s.heap.objs.size) (o:=.own (s.heap.objs.size+1)) (h':=s.heap.push PySem.W.emptyDict) (t':=s.toks) (fun b u q=>zpa _ q) (zpd _) ⟨_,e1⟩;refine I1.laid (a:=s.heap.objs.size+1) (o:=.ins C s.heap.objs.size []) (t':=s.toks) (fun b u q=>zpa _ q) (Nat.le_of_eq (Heap.size_push _ _)) ?_;have ne:s.heap.objs.size≠s.heap.objs.size+1:=zpH (Nat.lt_succ_self _);refine⟨by rw [zal ne,zad],Nat.zero_le _,ne,e2,fun _=>none,(Heap.Ns1.of_empty e3).at fun o q=>zpa _ q,fun _=>True.intro,fun y hy=>absurd rfl hy⟩
theorem zlu {prog:Program} {w:World} {env:Env} {e:Expr} {f:Str} {pos:Pos} {s:Shared} {Q:Value->Shared->Prop} (hb:attributeBase e f env (eval e env)=eval e env)
  (h:wpAny (model prog w) A (eval e env) (fun o s₁=>wpAny (model prog w) A (getAttr o f true) Q E s₁) E s):wpAny (model prog w) A (eval (.Attribute e f pos) env) Q E s :=
 Attribute_any_ h (by rw [arm_eval_Attribute,hb])
end
def tFld (K:PySem.W.Frag) (ta:TE) (f:Str):TE:=fun σ H Q=>ta σ H fun x H1=>∃ a C dx fs v,x=.ref a/\H1 a=some (.ins C dx fs)/\Cls K C/\zcd K C f/\fs.lookup f=some v/\Q v H1
def sFld (K:PySem.W.Frag) (ta tv:TE) (f:Str):TS:=fun D σ H=>tv σ H fun y H1=>ta σ H1 fun x H2=>∃ a C dx fs,x=.ref a/\H2 a=some (.ins C dx fs)/\Cls K C/\zcd K C f/\fs.length<1000 /\
 D.nx σ (upd H2 a (.ins C dx (zcJ f y fs)))
def InOp (X:Cx) (op:Operator) (rd:V->V->Hp->VK->Prop):Prop :=
 ∀ (pins:List (Addr × Obj)) (s:Shared) (σ:St) (H:Hp) (x y:V) (u v:Value) (Q:VK),Inv X pins σ H s->zaW x u->zaW y v->rd x y H Q->wpAny (model X.prog X.w) X.A (inplaceOp op u v) (EP X pins σ Q) X.xe s
def zmi (K:PySem.W.Frag) (ta tv:TE) (rd:V->V->Hp->VK->Prop) (f:Str):TS:=fun D σ H=>ta σ H fun x H1=>∃ a C dx fs v,x=.ref a/\H1 a=some (.ins C dx fs)/\Cls K C/\zcd K C f/\fs.lookup f=some v /\
 tv σ H1 fun y H2=>rd v y H2 fun z H3=>∃ dx' fs',H3 a=some (.ins C dx' fs')/\fs'.length<1000/\D.nx σ (upd H3 a (.ins C dx' (zcJ f z fs')))
section
variable {X:Cx} {o e value:Expr} {f:Str} {pos pos' tpos:Pos} {ta tv:TE}
theorem zca (he:PE X e ta) (hb:attributeBase e f X.env (eval e X.env)=eval e X.env):PE X (.Attribute e f pos) (tFld X.K ta f):=by
 intro pins s σ H Q I h;refine zlu hb (thn (he pins s σ H _ I h) fun u s1 ⟨x,H1,I1,rx,a,C,dx,fs,v,ex,ea,c,n,l,q⟩=>?_);subst ex;obtain rfl:u=Value.ref a:=rx;exact zeU I1 ea c n l fun u' s2 I2 ru=>⟨v,H1,I2,ru,q⟩
theorem zgo (ha:PE X o ta) (hv:PE X value tv) (hs:swapsWith value (some (.Attribute o f pos')) pos.line X.env=pure false):PS X (.Assign [.Attribute o f pos'] value pos) (sFld X.K ta tv f):=by
 intro pins s σ H D I h;refine plainObj_wpAny_Assign_Attribute (thn (hv pins s σ H _ I h) fun u s1 ⟨y,H1,I1,ry,q⟩=>thn (ha pins s1 σ H1 _ I1 q) fun ov s2 ⟨x,H2,I2,rx,a,C,dx,fs,ex,ea,c,n,l,q2⟩=>?_) hs;subst ex;obtain rfl:ov=Value.ref a:=rx;exact zfe I2 ea c n l ry fun s3 I3=>⟨σ,_,I3,q2⟩
theorem zjJ {op:Operator} {rd:V->V->Hp->VK->Prop} (ha:PE X o ta) (hv:PE X value tv) (hop:InOp X op rd):PS X (.AugAssign (.Attribute o f tpos) op value pos) (zmi X.K ta tv rd f):=by
 intro pins s σ H D I h;refine wpAny_AugAssign_AttributeAny (thn (ha pins s σ H _ I h) fun ov s1 ⟨x,H1,I1,rx,a,C,dx,fs,v,ex,ea,c,n,l,q⟩=>?_);subst ex;obtain rfl:ov=Value.ref a:=rx;refine zeU I1 ea c n l fun u s2 I2 ru=>thn (hv pins s2 σ H1 _ I2 q) fun w3 s3 ⟨y,H2,I3,ry,q3⟩=>thn (hop pins s3 σ H2 v y u w3 _ I3 ru ry q3) fun w4 s4 ⟨z,H3,I4,rz,dx',fs',ea',l',q4⟩=>?_
 exact zfe I4 ea' c n l' rz fun s5 I5=>⟨σ,_,I5,q4⟩
def rAdd:V->V->Hp->VK->Prop:=fun x y H Q=>∃ i j,x=.int i/\y=.int j/\Q (.int (i+j)) H
theorem zmY:InOp X .Add rAdd:=by
 rintro pins s σ H x y u v Q I rx ry ⟨i,j,rfl,rfl,q⟩;obtain⟨t,rfl⟩:=(show ∃ t,u=Value.int i t from rx);obtain⟨t',rfl⟩:=(show ∃ t',v=Value.int j t' from ry);exact PyProof.Rows.iadd_int ⟨.int (i+j),H,I.tok _,⟨_,rfl⟩,q⟩
end
section
variable {X:Cx} {pins:List (Addr × Obj)} {σ:St} {H:Hp} {s:Shared} {A:Around} {E:Value->Shared->Prop} {Q:Value->Shared->Prop} {c:Value} {b:Bool}
inductive zh0 (K:PySem.W.Frag) (H:Hp):V->Value->Prop where
 | non:zh0 K H .non (.type "NoneType")
 | bl (x:Bool):zh0 K H (.bl x) (.type "bool")
 | int (i:Int):zh0 K H (.int i) (.type "int")
 | str (x:Str):zh0 K H (.str x) (.type "str")
 | flt (x:UInt64):zh0 K H (.flt x) (.type "float")
 | lst {a:Addr} {xs:List V} (e:H a=some (.lst xs)):zh0 K H (.ref a) (.type "list")
 | frz {a:Addr} {o:Obj} {xs:List V} (e:H a=some (.frz o (.lst xs))):zh0 K H (.ref a) (.type "list")
 | tup {a:Addr} {xs:List V} (e:H a=some (.tup xs)):zh0 K H (.ref a) (.type "tuple")
 | dK {a:Addr} {kvs:List (Key × V)} (e:H a=some (.dK kvs)):zh0 K H (.ref a) (.type "dict")
 | dT {a:Addr} {kvs:List (List Key × V)} (e:H a=some (.dT kvs)):zh0 K H (.ref a) (.type "dict")
 | ins {a C dx:Addr} {fs:List (Str × V)} (e:H a=some (.ins C dx fs)) (cl:Cls K C) (ha:PySem.W.findIn K (.ref C) "__class__"=some (some (.builtin "object.__class__")))
   (hn:PySem.W.specialIn K (.builtin "object.__class__") "__get__"=some (some (.builtin "getset_descriptor.__get__"))) (htk:PySem.W.takesIn K (.builtin "object.__class__")=some true)
   (hm:PySem.W.mroIn K C (.type "object")=some true):zh0 K H (.ref a) (.ref C)
theorem zjg {x:V} {u t:Value} (I:Inv X pins σ H s) (rx:zaW x u) (ty:zh0 X.K H x t) (e:PySem.W.kitOne X.K t c=some b) (h:∀ tk,Q (.bool b) { s with toks:=tk }) :
  wpAny (model X.prog X.w) A (call (.builtin "isinstance") [u,c]) Q E s:=by
 cases ty with
 | non=>cases (show u=Value.none from rx);exact PySem.W.kia_one PySem.W.kitx_none I.kIn True.intro e (fun z=>nomatch z) h
 | bl y=>cases (show u=Value.bool y from rx);exact PySem.W.kia_one PySem.W.kitx_bool I.kIn True.intro e (fun z=>nomatch z) h
 | int i=>obtain⟨t,q⟩:=(show ∃ t,u=Value.int i t from rx);cases q;exact PySem.W.kia_one PySem.W.kitx_int I.kIn True.intro e (fun z=>nomatch z) h
 | str y=>obtain⟨t,q⟩:=(show ∃ t,u=Value.str y t from rx);cases q;exact PySem.W.kia_one PySem.W.kitx_str I.kIn True.intro e (fun z=>nomatch z) h
 | flt y=>obtain⟨t,q⟩:=(show ∃ t,u=Value.float y t from rx);cases q;exact PySem.W.kia_one PySem.W.kitx_float I.kIn True.intro e (fun z=>nomatch z) h
 | @lst a xs ea =>
  cases (show u=Value.ref a from rx);obtain⟨_,_,n,_,h1⟩:=(show za0 X.prog X.w H s.heap a (.lst xs) from I.hok a _ ea);exact PySem.W.kia_one PySem.W.kitx_list I.kIn ⟨_,h1,rfl⟩ e (fun z=>nomatch z) h
 | @frz a ob xs ea =>
  cases (show u=Value.ref a from rx);obtain⟨_,_,_,n,_,h1⟩:=(show za0 X.prog X.w H s.heap a (.frz ob (.lst xs)) from I.hok a _ ea);exact PySem.W.kia_one PySem.W.kitx_list I.kIn ⟨_,h1,rfl⟩ e (fun z=>nomatch z) h
 | @tup a xs ea =>
  cases (show u=Value.ref a from rx);obtain⟨_,_,_,p⟩:=(show za0 X.prog X.w H s.heap a (.tup xs) from I.hok a _ ea);obtain⟨o,h1,h2,_⟩:=p;exact PySem.W.kia_one PySem.W.kitx_tuple I.kIn ⟨o,h1,h2⟩ e (fun z=>nomatch z) h
 | @dK a kvs ea =>
  cases (show u=Value.ref a from rx);obtain⟨_,_,vs,_,p⟩:=(show za0 X.prog X.w H s.heap a (.dK kvs) from I.hok a _ ea);obtain⟨o,es,ep,h1,h2,_⟩:=p;exact PySem.W.kia_one PySem.W.kitx_dict I.kIn ⟨o,h1,h2.1⟩ e (fun z=>nomatch z) h
 | @dT a kvs ea =>
  cases (show u=Value.ref a from rx);obtain⟨_,_,xs,_,o,es,ep,h1,h2,_⟩:=(show za0 X.prog X.w H s.heap a (.dT kvs) from I.hok a _ ea);exact PySem.W.kia_one PySem.W.kitx_dict I.kIn ⟨o,h1,h2.1⟩ e (fun z=>nomatch z) h
 | @ins a C dx fs ea cl ha hn htk hm =>
  cases (show u=Value.ref a from rx);obtain⟨mA,O,_⟩:=zfu I.hok ea;obtain⟨od,J,_⟩:=O.look;exact PySem.W.kia_one (PySem.W.kitx_own (cl.get _) cl.hd ha hn htk hm) I.kIn J e (fun z=>nomatch z) h
end
structure zcW (k:Nat) (A:Around):Prop where
 hd:A.handled=none
 dp:A.depth+3*k+5<recursionLimit
 un:A.units+16*k+200<cLine
theorem zcW.mono {j k:Nat} {A:Around} (r:zcW k A) (h:j<=k):zcW j A:=⟨r.hd,by have:=r.dp;omega,by have:=r.un;omega⟩
theorem zcW.deeper {k:Nat} {A:Around} (r:zcW (k+1) A) (env:Env):zcW k (A.deeper env) :=
 ⟨r.hd,by have:=r.dp;show A.depth+1+3*k+5<_;omega,by have:=r.un;show A.units+3+16*k+200<_;omega⟩
theorem zh8 {A:Around} {C:Addr} {us:List Value} {kw:List (Str × Value)}:(A.under (.builtin "type.__call__" ⟨.ref C::us,kw⟩)).depth=A.depth+1:=by
 first | rfl | simp [Around.under,Code.weight,Code.isCreation,Code.isGuard,Code.isCaller,Code.frames,Code.isFrame,guardIds]
theorem zh9 {A:Around} {C:Addr} {us:List Value} {kw:List (Str × Value)}:(A.under (.builtin "type.__call__" ⟨.ref C::us,kw⟩)).units=A.units+1:=by
 first | rfl | simp [Around.under,Code.cUnits,Code.frames,Code.isFrame]
theorem zcW.make {k:Nat} {A:Around} (r:zcW (k+1) A) (C:Addr) (us:List Value) (kw:List (Str × Value)):zcW k (A.under (.builtin "type.__call__" ⟨.ref C::us,kw⟩)) :=
 ⟨r.hd,by have:=r.dp;rw [zh8];omega,by have:=r.un;rw [zh9];omega⟩
theorem zcW.depth {k:Nat} {A:Around} (r:zcW k A):A.depth<recursionLimit:=by have:=r.dp;omega
theorem zcW.units {k:Nat} {A:Around} (r:zcW k A):A.units+64<cLine:=by have:=r.un;omega
def zoS:TA:=fun _ H Q=>Q [] H
def zoM (ta:TE) (tr:TA):TA:=fun σ H Q=>ta σ H fun x H1=>tr σ H1 fun xs H2=>Q (x::xs) H2
section
variable {X:Cx} {e:Expr} {es:List Expr} {te:TE} {t:TA} {pos:Pos}
theorem zab:PA X [] zoS:=fun _ _ _ _ H Q I h=>Calls.spliced_nil ⟨[],H,I,.nil,h⟩
theorem zaa (ha:PE X e te) (hr:PA X es t) (hs:starEach (e::es) X.env=(false,eval e X.env)::starEach es X.env:=by rfl):PA X (e::es) (zoM te t):=by
 intro pos pins s σ H Q I h;rw [hs];show wpAny _ _ (spliced ((false,eval e X.env)::backTo pos (starEach es X.env))) _ _ s;refine Calls.spliced_cons (thn (ha pins s σ H _ I h) fun u s1 ⟨x,H1,I1,r1,q1⟩=>?_);exact thn (hr pos pins s1 σ H1 _ I1 q1) fun us s2 ⟨xs,H2,I2,r2,q2⟩=>⟨x::xs,H2,I2,.cons r1 r2,q2⟩
def tTup (t:TA):TE:=fun σ H Q=>t σ H fun xs H1=>xs.length<=sizeLine/\∀ p,H1 p=none->Q (.ref p) (upd H1 p (.tup xs))
def tLst (t:TA):TE:=fun σ H Q=>t σ H fun xs H1=>xs.length<=sizeLine/\∀ p,H1 p=none->Q (.ref p) (upd H1 p (.lst xs))
theorem zaG {x1} (h:PA X es t):PE X (.Tuple es x1 pos) (tTup t):=by
 intro pins s σ H Q I hq;refine wpAny_Tuple_spliced (thn (h pos pins s σ H _ I hq) fun us s1 ⟨xs,H1,I1,r,z,q⟩=>⟨by rw [← r.length];exact z,?_⟩);have hf:H1 s1.heap.objs.size=none:=I1.hok.fresh (zpd _);refine⟨.ref s1.heap.objs.size,upd H1 s1.heap.objs.size (.tup xs),I1.laid (t':=s1.toks) (fun b u e=>zpa _ e) (zpd _) ?_,rfl,q _ hf⟩;exact⟨z,us,r,.of (zpy _ rfl)⟩
theorem zaR (h:PA X es t):PE X (.List es pos) (tLst t):=by
 intro pins s σ H Q I hq;refine wpAny_List_spliced (thn (h pos pins s σ H _ I hq) fun us s1 ⟨xs,H1,I1,r,z,q⟩=>⟨by rw [← r.length];exact z,?_⟩);have hf:H1 s1.heap.objs.size=none:=I1.hok.fresh (zpd _);refine⟨.ref s1.heap.objs.size,upd H1 s1.heap.objs.size (.lst xs),I1.laid (t':=s1.toks) (fun b u e=>zpa _ e) (zpd _) ?_,rfl,q _ hf⟩;exact⟨z,us,0,r,zpy _ rfl⟩
end
abbrev Sp:=List V->Hp->VK->XK->Prop
abbrev CXT:=List Env->Hp->Shared->XK->Value->Shared->Prop
structure zlp (P:Program) (w:World) (K:PySem.W.Frag) (mg:Str->Option Value) (base:Heap) (A:Around) (outer:List Env) (s:Shared) (H:Hp):Prop where
 frames:A.frames=some outer
 mod:Mod K mg base
 bs:∀ b o,base.get? b=some o->s.heap.get? b=some o/\H b=none
 bsz:base.objs.size<=s.heap.objs.size
 funs:s.heap.FunFrames base outer
 frf:∀ b∈frs outer,H b=none
 hok:HOk P w H s.heap
 bare:AllBare s.gens
def CE (outer:List Env) (P:Program) (w:World) (H:Hp) (s:Shared) (Q:VK) (u:Value) (s':Shared):Prop :=
 ∃ v H',s'.os=s.os/\AllBare s'.gens/\Un (frs outer) [] H H' s.heap s'.heap/\HOk P w H' s'.heap/\zaW v u/\Q v H'
def CR (CX:CXT) (outer:List Env) (P:Program) (w:World) (H:Hp) (s:Shared) (Q:VK) (E:XK) (r:Result) (s':Shared):Prop :=
 match r with
 | .ok (.ret u)=>CE outer P w H s Q u s'
 | .ok _=>False
 | .error e=>CX outer H s E e s'
structure za3 (P:Program) (w:World) (K:PySem.W.Frag) (mg:Str->Option Value) (base:Heap) (CX:CXT) (k:Nat) (f:Addr) (fd:FuncData) (ps:List Str) (sp:Sp):Prop where
 len:∀ vs H Q E,sp vs H Q E->vs.length=ps.length
 run:∀ (A:Around) (outer:List Env) (s:Shared) (H:Hp) (args:Args) (us:List Value) (vs:List V) (Q:VK) (E:XK),zcW k A->zlp P w K mg base A outer s H->BindsTo s fd args (ps.zip us)->zaT vs us->sp vs H Q E ->
  codeAny (model P w) A (.call (.ref f) args) (CR CX outer P w H s Q E) s
theorem zlp.make {P:Program} {w:World} {K:PySem.W.Frag} {mg:Str->Option Value} {base:Heap} {A:Around} {outer:List Env} {s:Shared} {H:Hp} (e:zlp P w K mg base A outer s H) (C:Addr) (us:List Value) (kw:List (Str × Value)) :
  zlp P w K mg base (A.under (.builtin "type.__call__" ⟨.ref C::us,kw⟩)) outer s H:=⟨by first | exact e.frames | (simpa [Around.under,Code.envs,Code.isFrame,pushEnvs] using e.frames),e.mod,e.bs,e.bsz,e.funs,e.frf,e.hok,e.bare⟩
section
variable {X:Cx} {pins:List (Addr × Obj)} {σ:St} {H:Hp} {s s':Shared}
theorem Inv.env0 (I:Inv X pins σ H s):zlp X.prog X.w X.K X.mg X.base X.A X.stack s H :=
 ⟨I.ok.frames,I.ok.mod,I.bs,zpc I.ok.bsz I.sz,I.stack,I.stkFree,I.hok,I.bare⟩
theorem Inv.after {Q:VK} {u:Value} (I:Inv X pins σ H s) (h:CE X.stack X.prog X.w H s Q u s'):EP X pins σ Q u s':=by
 obtain⟨v,H',os,bare,un,hok,r,q⟩:=h;obtain⟨hh,g,d,t,os'⟩:=s';obtain rfl:os'=s.os:=os;exact⟨v,H',I.call (h':=hh) (g':=g) (d':=d) (t':=t) (ch:=[]) un hok bare (fun b z=>absurd z (by simp)),r,q⟩
end
def znE (sp:Sp) (dvs:List V) (E:XK) (t:TA):TE:=fun σ H Q=>t σ H fun vs H1=>sp (vs++dvs) H1 Q E
def znI (C:Addr) (m:Str) (sp:Sp) (dvs:List V) (E:XK) (ta:TE) (t:TA):TE:=fun σ H Q=>ta σ H fun x H1=>∃ a dx fs,x=.ref a/\H1 a=some (.ins C dx fs)/\fs.lookup m=none /\
 t σ H1 fun vs H2=>sp (x::(vs++dvs)) H2 Q E
def zoP (C:Addr) (sp:Sp) (dvs:List V) (E:XK) (t:TA):TE:=fun σ H Q=>t σ H fun vs H1=>∀ x dx,H1 x=none->H1 dx=none->dx≠x ->
 sp (.ref x::(vs++dvs)) (upd (upd H1 dx (.own x)) x (.ins C dx [])) (fun v H2=>v=.non/\Q (.ref x) H2) E
def Binds (K:PySem.W.Frag) (fd:FuncData) (ps:List Str) (ds:List Value):Prop :=
 ∀ (s:Shared) (us:List Value),K.In s.heap->(us++ds).length=ps.length->BindsTo s fd ⟨us,[]⟩ (ps.zip (us++ds))
theorem Binds.all {K:PySem.W.Frag} {fd:FuncData} {ps:List Str} (h:∀ us:List Value,us.length=ps.length->bindArgs fd ⟨us,[]⟩=pure (ps.zip us)):Binds K fd ps []:=fun s us _ hl=>by
 rw [zo9] at hl ⊢;exact .of_eq (h us hl)
def zdH (CX:CXT) (X:Cx) (E:XK):Prop:=∀ (pins:List (Addr × Obj)) (σ:St) (H:Hp) (s:Shared) (e:Value) (s':Shared),Inv X pins σ H s->CX X.stack H s E e s'->X.xe e s'
section
variable {X:Cx} {CX:CXT} {k:Nat} {f C:Addr} {fd:FuncData} {ps:List Str} {sp:Sp} {dvs:List V} {ds:List Value} {E:XK} {x m:Str} {p pos apos:Pos} {e o:Expr} {es:List Expr} {ta:TE} {t:TA}
theorem zhR {pins:List (Addr × Obj)} {σ:St} {H:Hp} {s:Shared} {Q:VK} {us:List Value} {vs:List V} (F:za3 X.prog X.w X.K X.mg X.base CX k f fd ps sp) (hr:zcW k X.A) (hb:Binds X.K fd ps ds) (hd:zaT dvs ds) (hx:zdH CX X E)
  (I:Inv X pins σ H s) (r:zaT vs us) (h:sp (vs++dvs) H Q E):wpAny (model X.prog X.w) X.A (call (.ref f) us) (EP X pins σ Q) X.xe s:=by
 have r2:zaT (vs++dvs) (us++ds):=r.append hd;have hl:(us++ds).length=ps.length:=by rw [← r2.length];exact F.len _ _ _ _ h
 refine wpAny_call (codeAny_mono (F.run X.A X.stack s H ⟨us,[]⟩ (us++ds) (vs++dvs) Q E hr I.env0 (hb s us I.kIn hl) r2 h) fun r s' hq=>?_);cases r with
 | error e=>exact hx pins σ H s e s' I hq
 | ok fl =>
  cases fl with
  | ret u=>exact I.after hq
  | next=>exact False.elim hq
  | brk=>exact False.elim hq
  | cont=>exact False.elim hq
theorem zan (F:za3 X.prog X.w X.K X.mg X.base CX k f fd ps sp) (hr:zcW k X.A) (hg:Gl X x) (hm:X.mg x=some (.ref f)) (hk:PySem.W.keepIn X.K (.ref f)=true) (hb:Binds X.K fd ps ds) (hd:zaT dvs ds) (hx:zdH CX X E)
  (ha:PA X (e::es) t) (hdb:(x == ("__debug__":Str))=false:=by decide) (he:starEach (e::es) X.env=(false,eval e X.env)::starEach es X.env:=by rfl) (hpl:(backTo pos (starEach es X.env)).any (·.1)=false:=by rfl) :
  PE X (.Call (.Name x p) (e::es) [] pos) (znE sp dvs E t):=by
 intro pins s σ H Q I h;refine wpAny_Call_Name_kw (zec I hg hm ?_ hdb);refine PySem.W.callWith_K (h₀:=X.base) I.ok.mod.kin hk (thn (ha pos pins s σ H _ I h) fun us s1 ⟨vs,H1,I1,r,q⟩=>⟨I1.kIn,?_⟩) he hpl;exact zhR F hr hb hd hx I1 r q
theorem zkB (F:za3 X.prog X.w X.K X.mg X.base CX k f fd ps sp) (hr:zcW k X.A) (hg:Gl X x) (hm:X.mg x=some (.ref f)) (hk:PySem.W.keepIn X.K (.ref f)=true) (hb:Binds X.K fd ps ds) (hd:zaT dvs ds) (hx:zdH CX X E)
  (hdb:(x == ("__debug__":Str))=false:=by decide):PE X (.Call (.Name x p) [] [] pos) (znE sp dvs E zoS):=by
 intro pins s σ H Q I h;refine wpAny_Call_Name_kw (zec I hg hm ?_ hdb);exact PySem.W.callWith_K0 I.kIn hk (zhR (us:=[]) F hr hb hd hx I .nil h)
theorem zl2 {pl:Sem Bool} (he:PE X o ta) (c:Cls X.K C) (hm:zkZ X.K C m f) (F:za3 X.prog X.w X.K X.mg X.base CX k f fd ps sp) (hr:zcW k X.A) (hb:Binds X.K fd ps ds) (hd:zaT dvs ds) (hx:zdH CX X E) (ha:PA X (e::es) t)
  (hst:starEach (e::es) X.env=(false,eval e X.env)::starEach es X.env:=by rfl) (hpl:(backTo pos (starEach es X.env)).any (·.1)=false:=by rfl)
  (ht:eval (.Call (.Attribute o m apos) (e::es) [] pos) X.env=(do
   let ov ← eval o X.env
   standAt apos.atName
   let (f,first) ← holding [ov] (getMethod ov m pl)
   callWith pos f first (backTo pos (starEach (e::es) X.env)) (backToKw pos (keywordEach [] X.env))):=by rfl) :
  PE X (.Call (.Attribute o m apos) (e::es) [] pos) (znI C m sp dvs E ta t):=by
 intro pins s σ H Q I h;refine PySem.W.methodCall_KW (pl:=pl) (thn (he pins s σ H _ I h) fun u s1 ⟨x,H1,I1,rx,a,dx,fs,ex,ea,l,q⟩=>?_) ht;subst ex;obtain rfl:u=Value.ref a:=rx;refine zeV I1 ea c hm l ?_;refine PySem.W.callWith_K (first:=[.ref a]) (h₀:=X.base) I.ok.mod.kin hm.kp (thn (ha pos pins s1 σ H1 _ I1 q) fun us s2 ⟨vs,H2,I2,r,q2⟩=>⟨I2.kIn,?_⟩) hst hpl;exact zhR (us:=.ref a::us) (vs:=.ref a::vs) F hr hb hd hx I2 (.cons rfl r) q2
theorem zbH {pl:Sem Bool} (he:PE X o ta) (c:Cls X.K C) (hm:zkZ X.K C m f) (F:za3 X.prog X.w X.K X.mg X.base CX k f fd ps sp) (hr:zcW k X.A) (hb:Binds X.K fd ps ds) (hd:zaT dvs ds) (hx:zdH CX X E)
  (ht:eval (.Call (.Attribute o m apos) [] [] pos) X.env=(do
   let ov ← eval o X.env
   standAt apos.atName
   let (f,first) ← holding [ov] (getMethod ov m pl)
   callWith pos f first (backTo pos (starEach [] X.env)) (backToKw pos (keywordEach [] X.env))):=by rfl) :
  PE X (.Call (.Attribute o m apos) [] [] pos) (znI C m sp dvs E ta zoS):=by
 intro pins s σ H Q I h;refine PySem.W.methodCall_KW (pl:=pl) (thn (he pins s σ H _ I h) fun u s1 ⟨x,H1,I1,rx,a,dx,fs,ex,ea,l,q⟩=>?_) ht;subst ex;obtain rfl:u=Value.ref a:=rx;refine zeV I1 ea c hm l ?_;exact PySem.W.callWith_K0 (first:=[.ref a]) I1.kIn hm.kp (zhR (us:=[.ref a]) (vs:=[.ref a]) F hr hb hd hx I1 (.cons rfl .nil) q)
structure Mk (K:PySem.W.Frag) (C f:Addr):Prop where
 makes:PySem.W.makesIn K C=true
 init:PySem.W.findIn K (.ref C) "__init__"=some (some (.ref f))
 fn:PySem.W.isFn K (.ref f)=true
 kp:PySem.W.keepIn K (.ref C)=true
theorem zkN {pins:List (Addr × Obj)} {σ:St} {H:Hp} {s:Shared} {Q:VK} {us:List Value} {vs:List V} (M:Mk X.K C f) (F:za3 X.prog X.w X.K X.mg X.base CX k f fd ps sp) (hr:zcW (k+1) X.A) (hb:Binds X.K fd ps ds) (hd:zaT dvs ds)
  (hx:zdH CX X E) (I:Inv X pins σ H s) (r:zaT vs us)
  (h:∀ x dx,H x=none->H dx=none->dx≠x->sp (.ref x::(vs++dvs)) (upd (upd H dx (.own x)) x (.ins C dx [])) (fun v H2=>v=.non/\Q (.ref x) H2) E) :
  wpAny (model X.prog X.w) X.A (call (.ref C) us) (EP X pins σ Q) X.xe s:=by
 have hq:=h (s.heap.objs.size+1) s.heap.objs.size (I.hok.fresh (Nat.le_succ _)) (I.hok.fresh (zpd _)) (zpH (Nat.lt_succ_self _));have I2:=Inv.made (C:=C) I;have r2:zaT (V.ref (s.heap.objs.size+1)::(vs++dvs)) (Value.ref (s.heap.objs.size+1)::(us++ds)):=.cons rfl (r.append hd);have hl:(Value.ref (s.heap.objs.size+1)::us++ds).length=ps.length:=by
  have e:=r2.length;rw [F.len _ _ _ _ hq] at e;exact e.symm
 refine wpAny_call (zkt (f:=f) I.kIn M.makes M.init (beq_iff_eq.mp M.fn) (codeAny_mono (F.run _ X.stack _ _ ⟨Value.ref (s.heap.objs.size+1)::us,[]⟩ (Value.ref (s.heap.objs.size+1)::(us++ds)) _ _ E (hr.make C us [])
  (I2.env0.make C us []) (hb _ (Value.ref (s.heap.objs.size+1)::us) I2.kIn hl) r2 hq) fun r s' hq'=>?_))
 cases r with
 | error e=>exact hx pins σ _ _ e s' I2 hq'
 | ok fl =>
  cases fl with
  | ret u =>
   obtain⟨v,H',I3,rv,ev,q3⟩:=I2.after hq';subst ev;exact⟨rv,⟨V.ref (s.heap.objs.size+1),H',I3,rfl,q3⟩⟩
  | next=>exact False.elim hq'
  | brk=>exact False.elim hq'
  | cont=>exact False.elim hq'
theorem zl1 (M:Mk X.K C f) (F:za3 X.prog X.w X.K X.mg X.base CX k f fd ps sp) (hr:zcW (k+1) X.A) (hg:Gl X x) (hm:X.mg x=some (.ref C)) (hb:Binds X.K fd ps ds) (hd:zaT dvs ds) (hx:zdH CX X E)
  (ha:PA X (e::es) t) (hdb:(x == ("__debug__":Str))=false:=by decide) (he:starEach (e::es) X.env=(false,eval e X.env)::starEach es X.env:=by rfl) (hpl:(backTo pos (starEach es X.env)).any (·.1)=false:=by rfl) :
  PE X (.Call (.Name x p) (e::es) [] pos) (zoP C sp dvs E t):=by
 intro pins s σ H Q I h;refine wpAny_Call_Name_kw (zec I hg hm ?_ hdb);refine PySem.W.callWith_K (h₀:=X.base) I.ok.mod.kin M.kp (thn (ha pos pins s σ H _ I h) fun us s1 ⟨vs,H1,I1,r,q⟩=>⟨I1.kIn,?_⟩) he hpl;exact zkN M F hr hb hd hx I1 r q
end
section
variable {X:Cx} {CX:CXT} {k:Nat} {f C:Addr} {fd:FuncData} {ps ks:List Str} {sp:Sp} {E:XK} {x m:Str} {p pos apos kpos:Pos} {e o:Expr} {es:List Expr} {kws:List Keyword} {te ta:TE} {t tk:TA} {nm:Option Str}
variable {g:List Value->List Value->List Value} {gV:List V->List V->List V}
end
structure zao (N P:List Str) (sc:Scope):Prop where
 kind:sc.kind=.function
 co:sc.isCoroutine=false
 gen:sc.isGenerator=false
 nd:N.Nodup
 pre:N.take P.length=P
 par:∀ x∈P,sc.names.lookup x=some .local\/sc.names.lookup x=some .cell
 nofree:∀ y∈sc.names,y.2≠.free
theorem zf6 {kindOf:Str->Option NameKind} {x:Str}:∀ {binds:List (Str × Value)} {m:Str->Option Value},(∀ v,(x,v) ∉ binds)->bindL kindOf binds m x=m x
 | [],_,_=>rfl
 | (n,v)::r,m,h=>by
  unfold bindL;rw [zf6 fun w hw=>h w (zpg _ hw)];split
  ·have:x≠n:=by rintro rfl;exact h v zpw
   simp [this]
  ·rfl
theorem zf4 {kindOf:Str->Option NameKind} {x:Str}:∀ {binds:List (Str × Value)} {m:Str->Option Value},(∀ v,(x,v) ∉ binds)->bindC kindOf binds m x=m x
 | [],_,_=>rfl
 | (n,v)::r,m,h=>by
  unfold bindC;rw [zf4 fun w hw=>h w (zpg _ hw)];split
  ·rfl
  ·have:x≠n:=by rintro rfl;exact h v zpw
   simp [this]
theorem zf5 {kindOf:Str->Option NameKind} {x:Str} {v:Value}:∀ {P:List Str} {vs:List Value} {i:Nat} {m:Str->Option Value},P.Nodup->P[i]?=some x->vs[i]?=some v->kindOf x=some .local ->
  bindL kindOf (P.zip vs) m x=some v
 | [],_,_,_,_,h,_,_=>by simp at h
 | _::_,[],_,_,_,_,h,_=>by simp at h
 | p::P,w::vs,0,m,nd,h1,h2,hk=>by
  simp at h1 h2;subst h1;subst h2
  show bindL kindOf ((p,w)::P.zip vs) m p=_;unfold bindL;rw [zf6 fun v hv=>(List.nodup_cons.mp nd).1 (List.of_mem_zip hv).1,zpC hk];simp
 | p::P,w::vs,i+1,m,nd,h1,h2,hk=>by
  show bindL kindOf ((p,w)::P.zip vs) m x=_;unfold bindL;exact zf5 (i:=i) (List.nodup_cons.mp nd).2 (by simpa using h1) (by simpa using h2) hk
theorem zf3 {kindOf:Str->Option NameKind} {x:Str} {v:Value}:∀ {P:List Str} {vs:List Value} {i:Nat} {m:Str->Option Value},P.Nodup->P[i]?=some x->vs[i]?=some v->kindOf x≠some .local ->
  bindC kindOf (P.zip vs) m x=some v
 | [],_,_,_,_,h,_,_=>by simp at h
 | _::_,[],_,_,_,_,h,_=>by simp at h
 | p::P,w::vs,0,m,nd,h1,h2,hk=>by
  simp at h1 h2;subst h1;subst h2
  show bindC kindOf ((p,w)::P.zip vs) m p=_;unfold bindC;rw [zf4 fun v hv=>(List.nodup_cons.mp nd).1 (List.of_mem_zip hv).1,zpB hk];simp
 | p::P,w::vs,i+1,m,nd,h1,h2,hk=>by
  show bindC kindOf ((p,w)::P.zip vs) m x=_;unfold bindC;exact zf3 (i:=i) (List.nodup_cons.mp nd).2 (by simpa using h1) (by simpa using h2) hk
def start (N:List Str) (vs:List V):St:=vs.map some++List.replicate (N.length-vs.length) none
def ziQ (CX:CXT) (P:Program) (w:World) (K:PySem.W.Frag) (mg:Str->Option Value) (base:Heap) (N:List Str) (qual:Str) (scope:Scope) (f:Addr) (cd:Value) (A:Around) (outer:List Env) (s:Shared) (H:Hp) (E:XK):Cx where
 prog:=P
 w:=w
 K:=K
 mg:=mg
 base:=base
 A:=A.deeper (envOfC qual scope s.heap.objs.size f cd)
 N:=N
 s₀:=s
 H₀:=H
 env:=envOfC qual scope s.heap.objs.size f cd
 outer:=outer
 stack:=envOfC qual scope s.heap.objs.size f cd::outer
 ex:=[]
 calm:=true
 fn:=fun _=>true
 pn:=[]
 xe:=fun e s'=>wpAny (model P w) (A.deeper (envOfC qual scope s.heap.objs.size f cd)) (leaving (envOfC qual scope s.heap.objs.size f cd) e) (fun _ s''=>CX outer H s E e s'') (fun e' s''=>CX outer H s E e' s'') s'
theorem zhr {sc:Scope} {n:Nat} {x:Str} (h:sc.names.lookup x=some .cell):∃ c,(cellsFrom n sc.names []).lookup x=some c:=by
 have q:=PySem.W.cellsFrom_some sc.names n [] (.inl h);exact Option.isSome_iff_exists.mp q
theorem zje {CX:CXT} {P:Program} {w:World} {K:PySem.W.Frag} {mg:Str->Option Value} {base:Heap} {N ps:List Str} {qual:Str} {scope:Scope} {f:Addr} {cd:Value} {A:Around} {outer:List Env} {s s1:Shared} {H:Hp} {E:XK} {us:List Value} {vs:List V}
  (S:zao N ps scope) (hd:A.handled=none) (e0:zlp P w K mg base A outer s H) (hl:vs.length=ps.length) (r:zaT vs us)
  (x:InCallC s s.heap.objs.size (bindL (envOfC qual scope s.heap.objs.size f cd).kindOf (ps.zip us) fun _=>none) (cellsFrom (s.heap.objs.size+1) scope.names []) (bindC (envOfC qual scope s.heap.objs.size f cd).kindOf (ps.zip us) fun _=>none) s1) :
  Inv (ziQ CX P w K mg base N qual scope f cd A outer s H E) [] (start N vs) H s1:=by
 have hpl:ps.length<=N.length:=by have:=congrArg List.length S.pre;rw [zpm] at this;omega
 obtain⟨h1,tk,rfl,hk⟩:=x.done;have noA:∀ b:Addr,b ∉ (ziQ CX P w K mg base N qual scope f cd A outer s H E).ex:=fun b z=>absurd (show b∈([]:List Addr) from z) (by simp)
 refine⟨⟨e0.mod,S.kind,rfl,rfl,zpd _,fun y z c h1 h2=>?_,fun y hy=>?_,fun y c _ h=>?_,fun _=>hd,Around.frames_deeper e0.frames,.inr ⟨rfl,rfl⟩,fun b z=>absurd z (noA b),e0.bs,e0.bsz,fun b _ _=>noA b,fun b z=>absurd z (noA b),e0.funs,e0.frf⟩,
  rfl,e0.bare,Un.kept hk,⟨_,x.toInCall.ns,fun i y v h1 h2 h3=>?_⟩,fun y c h=>⟨_,x.cell y c h⟩,e0.hok.fresh (zpd _),fun y c h=>?_,fun p hp=>absurd (show p∈([]:List (Addr × Obj)) from hp) (by simp),e0.hok.kept hk,?_⟩
 ·exact name_of_addr x.apart (PySem.mem_of_lookup h1) (PySem.mem_of_lookup h2)
 ·have hy:scope.names.lookup y=some .cell\/scope.names.lookup y=some .free:=hy;rcases hy with hy | hy
  ·exact zhr hy
  ·exact absurd rfl (S.nofree _ (PySem.mem_of_lookup hy))
 ·exact Nat.le_of_lt (x.above y c (PySem.mem_of_lookup h))
 ·have hi:i<vs.length:=by
   unfold start at h2;by_cases hi:i<vs.length
   ·exact hi
   ·rw [zpt (by simpa using hi)] at h2;rw [List.getElem?_replicate] at h2;split at h2 <;> cases h2
  have ha:vs[i]?=some v:=by
   unfold start at h2;rw [zps (by simpa using hi),zoY] at h2;cases e:vs[i]? with
   | none=>rw [e] at h2;cases h2
   | some a=>rw [e] at h2;cases h2;rfl
  obtain⟨u,hu,rv⟩:=r.get ha;have hp:ps[i]?=some y:=by
   rw [← S.pre,List.getElem?_take_of_lt (by omega)];exact h1
  have ndP:ps.Nodup:=by rw [← S.pre];exact S.nd.sublist (List.take_sublist _ _)
  refine⟨u,rv,?_⟩;rcases S.par y (zo2 hp) with k | k
  ·exact .inl ⟨k,zf5 ndP hp hu k⟩
  ·obtain⟨c,e⟩:=zhr (n:=s.heap.objs.size+1) k;refine .inr ⟨.inl k,c,e,?_⟩;have q:=x.cell y c e;rw [zf3 ndP hp hu (by show scope.names.lookup y≠_;rw [k];decide)] at q;exact q
 ·exact e0.hok.fresh (Nat.le_of_lt (x.above y c (PySem.mem_of_lookup h)))
 ·unfold start;show _=N.length;rw [zo7,zoX,List.length_replicate];omega
theorem zmS {CX:CXT} {P:Program} {w:World} {K:PySem.W.Frag} {mg:Str->Option Value} {base:Heap} {k:Nat} {f:Addr} {name qual:Str} {params:Arguments} {body:List Stmt} {scope:Scope} {dV kV doc pm cdv ct oc:Value} {an od:Option Addr}
  {osl:Array (Option Value)} {N ps:List Str} {sp:Sp} (lk:K.lookup f=some ⟨oc,od,.func (PySem.W.fnOf name qual params body scope dV kV doc pm an cdv ct),osl⟩) (hcd:PySem.W.codeIn K cdv qual=true) (S:zao N ps scope)
  (len:∀ vs H Q E,sp vs H Q E->vs.length=ps.length)
  (hbody:∀ (A:Around) (outer:List Env) (s:Shared) (H:Hp) (vs:List V) (Q:VK) (E:XK),zcW k (A.deeper (envOfC qual scope s.heap.objs.size f cdv))->sp vs H Q E ->
   ∃ t,PSs (ziQ CX P w K mg base N qual scope f cdv A outer s H E) body t/\t { nx:=fun _ H'=>Q .non H',rt:=Q } (start N vs) H) :
  za3 P w K mg base CX (k+1) f (PySem.W.fnOf name qual params body scope dV kV doc pm an cdv ct) ps sp:=by
 refine⟨len,fun A outer s H args us vs Q E hr e0 hb r hsp=>?_⟩;have hl:=len _ _ _ _ hsp;have KX:K.In s.heap:=e0.mod.kin.keeps fun b o e=>(e0.bs b o e).1
 have lim:s.heap.NoLimit:=e0.mod.nolimit.keeps fun b o e=>(e0.bs b o e).1
 have hkind:∀ y∈ps.zip us,scope.names.lookup y.1=some .local\/(scope.names.lookup y.1=some .cell/\((cellsFrom (s.heap.objs.size+1) scope.names []).lookup y.1).isSome=true):=fun ⟨n,v⟩ hy=>by
  rcases S.par n (List.of_mem_zip hy).1 with q | q
  ·exact .inl q
  ·exact .inr ⟨q,PySem.W.cellsFrom_some _ _ _ (.inl q)⟩
 refine codeAny_call_function hr.depth (KX _ _ lk) rfl S.co S.gen rfl (PySem.W.codeRec_of KX hcd) (hb _ _ _ _ ?_);refine wpAny_newFunctionEnv_cells S.kind hkind fun env he s1 x=>?_
 subst he;refine⟨lim.keeps x.toInCall.keep,codeAny_func ?_⟩;obtain⟨t,ht,hq⟩:=hbody A outer s H vs Q E (hr.deeper _) hsp;have I:Inv (ziQ CX P w K mg base N qual scope f cdv A outer s H E) [] (start N vs) H s1:=zje S hr.hd e0 hl r x;refine wpAny_mono (ht [] s1 (start N vs) H _ I hq) (fun fl s' hs=>?_) fun e s' hs=>hs
 have fin:∀ {σ':St} {H':Hp} {v:V} {u:Value},Inv (ziQ CX P w K mg base N qual scope f cdv A outer s H E) [] σ' H' s'->zaW v u->Q v H'->CE outer P w H s Q u s' :=
  fun {σ' H' v u} J rv q=>⟨v,H',J.os,J.bare,J.base,J.hok,rv,q⟩
 cases fl with
 | ret u =>
  obtain⟨v,σ',H',J,rv,q⟩:=hs;exact fin J rv q
 | next =>
  obtain⟨σ',H',J,q⟩:=hs;exact fin (v:=V.non) (u:=Value.none) J rfl q
 | brk =>
  obtain⟨_,_,_,q⟩:=hs;exact False.elim q
 | cont =>
  obtain⟨_,_,_,q⟩:=hs;exact False.elim q
section
variable {X:Cx} {x:Str} {p pos:Pos} {e:Expr} {es:List Expr} {t:TA} {id T:String} {r:List V->Hp->VK->Prop}
def tCB (r:List V->Hp->VK->Prop) (t:TA):TE:=fun σ H Q=>t σ H fun vs H1=>r vs H1 Q
theorem zah (hc:zbm X (.builtin id) r) (hg:Gl X x) (hm:X.mg x=none) (hv:bootBuiltins x=some (.builtin id)) (ha:PA X (e::es) t) (hn:x≠"__name__":=by decide) (hdb:(x == ("__debug__":Str))=false:=by decide)
  (he:starEach (e::es) X.env=(false,eval e X.env)::starEach es X.env:=by rfl) (hpl:(backTo pos (starEach es X.env)).any (·.1)=false:=by rfl):PE X (.Call (.Name x p) (e::es) [] pos) (tCB r t):=by
 intro pins s σ H Q I h;refine wpAny_Call_Name_kw (zeY I hg hm hv ?_ hn hdb);exact PyProof.Rows.callWith_builtin1 (thn (ha pos pins s σ H _ I h) fun us s1 ⟨vs,H1,I1,r1,q1⟩=>hc pins s1 σ H1 vs us Q I1 r1 q1) he hpl
theorem zdi (hc:zbm X (.type T) r) (hg:Gl X x) (hm:X.mg x=none) (hv:bootBuiltins x=some (.type T)) (ha:PA X (e::es) t) (hn:x≠"__name__":=by decide) (hdb:(x == ("__debug__":Str))=false:=by decide)
  (he:starEach (e::es) X.env=(false,eval e X.env)::starEach es X.env:=by rfl) (hpl:(backTo pos (starEach es X.env)).any (·.1)=false:=by rfl):PE X (.Call (.Name x p) (e::es) [] pos) (tCB r t):=by
 intro pins s σ H Q I h;refine wpAny_Call_Name_kw (zeY I hg hm hv ?_ hn hdb);exact PyProof.Rows.callWith_type1 (thn (ha pos pins s σ H _ I h) fun us s1 ⟨vs,H1,I1,r1,q1⟩=>hc pins s1 σ H1 vs us Q I1 r1 q1) he hpl
end
end L2
namespace HT
open PySem PyProof.Rows
section
open PySem.SeqAt
open PySem.AutoSeq1 (wpAny_loadPart')
open PySem.MeetsSeq PySem.MeetsSeq2 PySem.MeetsSeq3
end
section
variable {prog:Program} {w:World} {A:Around} {E:Value->Shared->Prop} {s:Shared}
def sIx (n d:Nat):Option Int->Nat
 | none=>d
 | some v=>if v<0 then (v+(n:Int)).toNat else min v.toNat n
theorem sIx_nat (n d k:Nat):sIx n d (some (k:Int))=min k n:=by
 show (if (k:Int)<0 then ((k:Int)+(n:Int)).toNat else min (k:Int).toNat n)=min k n;rw [zpB (by omega),Int.toNat_natCast]
end
end HT
namespace L2
open PySem PySem.Spec PyProof.Rows
abbrev TO:=St->Hp->(Option Int->Hp->Prop)->Prop
def PO (X:Cx) (e:Option Expr) (t:TO):Prop :=
 ∀ (pins:List (Addr × Obj)) (s:Shared) (σ:St) (H:Hp) (Q:Option Int->Hp->Prop),Inv X pins σ H s->t σ H Q ->
  wpAny (model X.prog X.w) X.A (evalPart e X.env) (fun u s'=>∃ o H',Inv X pins σ H' s'/\IsPart u o/\Q o H') X.xe s
def zmp:TO:=fun _ H Q=>Q none H
theorem zdA {ns:List Int}:∀ {us:List Value},zaT (ns.map V.int) us->IntsAre us ns:=by
 induction ns with
 | nil=>intro us r;rw [zpr] at r;cases r;exact .nil
 | cons n ns ih =>
  intro us r;rw [zpq] at r;cases r with
  | cons r1 r2 =>
   obtain⟨t,e⟩:=r1;subst e;exact .cons n t (ih r2)
section
variable {X:Cx} {e:Expr} {te:TE} {lo hi:Option Expr} {tl th:TO} {pos p2:Pos}
theorem zjG:PO X none zmp:=by
 intro pins s σ H Q I h;rw [evalPart_none];exact wpAny_pure ⟨none,H,I,.none,h⟩
def SlR (X:Cx) (r:V->Option Int->Option Int->Hp->VK->Prop):Prop :=
 ∀ (pins:List (Addr × Obj)) (s:Shared) (σ:St) (H:Hp) (x:V) (v vl vu:Value) (lo hi:Option Int) (sl:Addr) (Q:VK),Inv X pins σ H s->zaW x v->s.heap.IsSliceOf sl vl vu .none->IsPart vl lo->IsPart vu hi->r x lo hi H Q ->
  ∃ T id,typeLookup (.type T) "__getitem__"=pure (some (.builtin id))/\s.TypeIs v T/\wpAny (model X.prog X.w) X.A (getItem v (.ref sl)) (EP X pins σ Q) X.xe s
def tSl (r:V->Option Int->Option Int->Hp->VK->Prop) (te:TE) (tl th:TO):TE:=fun σ H Q=>te σ H fun x H1=>tl σ H1 fun l H2=>th σ H2 fun u H3=>r x l u H3 Q
theorem zhK {r:V->Option Int->Option Int->Hp->VK->Prop} (hr:SlR X r) (he:PE X e te) (hl:PO X lo tl) (hu:PO X hi th):PE X (.Subscript e (.Slice lo hi none p2) pos) (tSl r te tl th):=by
 intro pins s σ H Q I h;refine Subscript_ (thn (he pins s σ H _ I h) fun v s1 ⟨x,H1,I1,r1,q1⟩=>?_);refine wpAny_Slice (thn (hl pins s1 σ H1 _ I1 q1) fun vl s2 ⟨l,H2,I2,pl,q2⟩=>thn (hu pins s2 σ H2 _ I2 q2) fun vu s3 ⟨u,H3,I3,pu,q3⟩=>?_);rw [evalPart_none];refine wpAny_pure ?_;have I4:Inv X pins σ H3 { s3 with heap:=s3.heap.push { cls:=.type "slice",data:=.fields #[vl,vu,.none] } }:=I3.kept (t':=s3.toks) fun b ob q=>zpa _ q
 obtain⟨T,id,hT,ht,hg⟩:=hr pins { s3 with heap:=s3.heap.push { cls:=.type "slice",data:=.fields #[vl,vu,.none] } } σ H3 x v vl vu l u s3.heap.objs.size Q I4 r1 (Heap.IsSliceOf.new ..) pl pu q3;show wpAny (model X.prog X.w) X.A (subscriptTail e (.Slice lo hi none p2) v (.ref s3.heap.objs.size)) (EP X pins σ Q) X.xe { s3 with heap:=s3.heap.push { cls:=.type "slice",data:=.fields #[vl,vu,.none] } };exact tail_any (ops:=[.ref s3.heap.objs.size,v]) ht hT hg (by with_unfolding_all rfl)
def zj1 (xs:List V) (lo hi:Option Int):List V:=(xs.drop (HT.sIx xs.length 0 lo)).take (HT.sIx xs.length xs.length hi-HT.sIx xs.length 0 lo)
theorem zgM (xs:List V) (lo hi:Option Int):(zj1 xs lo hi).length<=xs.length:=by
 unfold zj1;rw [zpm,List.length_drop];omega
end
def ixN (n:Nat) (i:Int):Option Nat:=if 0<=i then (if i<n then some i.toNat else none) else if -(n:Int)<=i then some (i+n).toNat else none
def atI {α:Type} (xs:List α) (i:Int):Option α:=(ixN xs.length i).bind fun j=>xs[j]?
theorem zjj {n:Nat} {i:Int} {j:Nat} (h:ixN n i=some j):seqIndex? i n=some j/\j<n/\-(n:Int)<=i/\i<n:=by
 unfold ixN at h;by_cases h0:0<=i
 ·rw [zpC h0] at h;by_cases h1:i<n
  ·rw [zpC h1] at h;have e:i.toNat=j:=zpK h;exact⟨by rw [seqIndex_of h0 h1,e],by omega,by omega,h1⟩
  ·rw [zpB h1] at h;cases h
 ·rw [zpB h0] at h;by_cases h1:-(n:Int)<=i
  ·rw [zpC h1] at h;have e:(i+n).toNat=j:=zpK h;exact⟨by rw [seqIndex_neg (by omega) h1,e],by omega,h1,by omega⟩
  ·rw [zpB h1] at h;cases h
theorem ziC {α:Type} {xs:List α} {i:Int} {v:α} (h:atI xs i=some v):∃ j,seqIndex? i xs.length=some j/\xs[j]?=some v/\j<xs.length/\-(xs.length:Int)<=i/\i<xs.length:=by
 unfold atI at h;cases e:ixN xs.length i with
 | none=>rw [e] at h;cases h
 | some j =>
  rw [e] at h;obtain⟨h1,h2,h3,h4⟩:=zjj e;exact⟨j,h1,h,h2,h3,h4⟩
theorem zaE {α:Type} {xs:List α} {j:Nat} {v:α} (h:xs[j]?=some v):atI xs (j:Int)=some v:=by
 have hj:j<xs.length:=(zo1.mp h).1;have e:ixN xs.length (j:Int)=some j:=by
  unfold ixN;rw [zpC (by omega),zpC (by omega)];simp
 unfold atI;rw [e];exact h
def zls (b:Expr):Prop:=∀ o i,subscripted b false o i=operate [o,i] (getItem o i)
def IxR (X:Cx) (r:R2):Prop :=
 ∀ (value slice:Expr) (pins:List (Addr × Obj)) (s:Shared) (σ:St) (H:Hp) (x y:V) (v u:Value) (Q:VK),Inv X pins σ H s->zaW x v->zaW y u->r x y H Q ->
  subscripted slice false v u=operate [v,u] (getItem v u)->wpAny (model X.prog X.w) X.A (subscriptTail value slice v u) (EP X pins σ Q) X.xe s
def MtR (X:Cx) (id:String) (r:V->List V->Hp->VK->Prop):Prop :=
 ∀ (pins:List (Addr × Obj)) (s:Shared) (σ:St) (H:Hp) (x:V) (xs:List V) (v:Value) (us:List Value) (Q:VK),Inv X pins σ H s->zaW x v->zaT xs us->r x xs H Q ->
  wpAny (model X.prog X.w) X.A (call (.builtin id) (v::us)) (EP X pins σ Q) X.xe s
section
variable {X:Cx} {a b:Expr} {ta tb:TE} {pos:Pos}
theorem za1 {r:R2} (hr:IxR X r) (ha:PE X a ta) (hb:PE X b tb) (hs:zls b):PE X (.Subscript a b pos) (tOp r ta tb):=by
 intro pins s σ H Q I h;exact Subscript_ (zn4 ha hb I h fun v u s2 x y H2 I2 rx ry q=>hr a b pins s2 σ H2 x y v u Q I2 rx ry q (hs _ _))
def rIxL (K:PySem.W.Frag):R2:=fun x y H Q=>∃ p xs i v,x=.ref p/\y=.int i/\SqL K H p xs/\atI xs i=some v/\Q v H
def rIxT (K:PySem.W.Frag):R2:=fun x y H Q=>∃ p xs i v,x=.ref p/\y=.int i/\SqT K H p xs/\atI xs i=some v/\Q v H
theorem zlN:IxR X (rIxL X.K):=by
 intro value slice pins s σ H x y v u Q I rx ry h hs;obtain⟨p,xs,i,z,rfl,rfl,hq,he,q⟩:=h;cases rx;obtain⟨t,rfl⟩:=ry;obtain⟨its,r,pl,hz⟩:=I.list hq;obtain⟨j,h1,h2,h3,h4,h5⟩:=ziC he;obtain⟨w,ew,rw'⟩:=r.get h2;have hl:=r.length;have hn:=zhF;have fin:EP X pins σ Q w s:=⟨z,H,I,rw',q⟩;by_cases h0:0<=i
 ·have hj:i.toNat=j:=by
   rw [seqIndex_of h0 h5] at h1;exact zpK h1
  exact item_listR pl.isList h0 (by omega) (by rw [hj];simpa using ew) fin hs
 ·have hj:(i+(its.toArray.size:Int)).toNat=j:=by
   rw [seqIndex_neg (by omega) h4] at h1;rw [zpz,← hl];exact zpK h1
  exact subscriptTail_builtinR (x:=w) pl.isList.typeIs slot_list_getitem.lookup
   (wpAny_getItem_list_neg (Q:=fun r s'=>r=w/\EP X pins σ Q r s') pl.isList (by omega) (by rw [zpz] <;> omega) (by omega) (by rw [hj];simpa using ew) ⟨rfl,fin⟩) hs
theorem zm2:IxR X (rIxT X.K):=by
 intro value slice pins s σ H x y v u Q I rx ry h hs;obtain⟨p,xs,i,z,rfl,rfl,hq,he,q⟩:=h;cases rx;obtain⟨t,rfl⟩:=ry;obtain⟨its,r,pl,hz⟩:=I.tuple hq;obtain⟨j,h1,h2,h3,h4,h5⟩:=ziC he;obtain⟨w,ew,rw'⟩:=r.get h2;have hl:=r.length;have hn:=zhF;have fin:EP X pins σ Q w s:=⟨z,H,I,rw',q⟩;exact subscriptTail_builtinR (x:=w) pl.typeIs slot_tuple_getitem.lookup
  (getItem_tuple (j:=j) (Q:=fun r s'=>r=w/\EP X pins σ Q r s') pl (by omega) (by omega) (by rw [zpz,← hl];exact h1) (by simpa using ew) ⟨rfl,fin⟩) hs
theorem zia (its:List Value) (n j:Nat) (u:Value):Obj.mapSeq (·.setIfInBounds j u) { cls:=.type "list",data:=.seq its.toArray n }={ cls:=.type "list",data:=.seq (its.set j u).toArray n }:=by
 simp [Obj.mapSeq]
theorem Inv.lst {pins:List (Addr × Obj)} {σ:St} {H:Hp} {s:Shared} {p:Addr} {xs:List V} (I:Inv X pins σ H s) (h:H p=some (.lst xs)) :
  ∃ (its:List Value) (n:Nat),zaT xs its/\s.heap.get? p=some { cls:=.type "list",data:=.seq its.toArray n }/\xs.length<=sizeLine:=by
 obtain⟨z,its,n,r,e⟩:=I.hok p _ h;exact⟨its,n,r,e,z⟩
theorem Inv.lstUpd {pins:List (Addr × Obj)} {σ:St} {H:Hp} {s:Shared} {p:Addr} {xs ys:List V} {its its':List Value} {n n':Nat} {f:Obj->Obj} (I:Inv X pins σ H s) (h:H p=some (.lst xs))
  (ho:s.heap.get? p=some { cls:=.type "list",data:=.seq its.toArray n }) (hf:f { cls:=.type "list",data:=.seq its.toArray n }={ cls:=.type "list",data:=.seq its'.toArray n' }) (r:zaT ys its') (hz:ys.length<=sizeLine) (t:Nat) :
  Inv X pins σ (upd H p (.lst ys)) { s with heap:=s.heap.update p f,toks:=t }:=by
 have e:(s.heap.update p f).get? p=some { cls:=.type "list",data:=.seq its'.toArray n' }:=by
  rw [Heap.get?_update_self f ho (by rw [hf] <;> rfl),hf]
 refine I.write (x:=p) (e:=p) (by rw [h];trivial) (.inl rfl) (fun b u hb q=>(Heap.get?_update_other _ _ (Ne.symm hb)).trans q) ⟨_,e⟩ ?_;exact⟨hz,its',n',r,e⟩
def zoJ:V->V->V->Hp->(Hp->Prop)->Prop:=fun o i v H Q=>∃ p xs k j,o=.ref p/\i=.int k/\H p=some (.lst xs)/\ixN xs.length k=some j/\Q (upd H p (.lst (xs.set j v)))
theorem zkP:zmv X zoJ:=by
 intro pins s σ H o i v ov iv u Q I ro ri rv h;obtain⟨p,xs,k,j,rfl,rfl,hp,hj,q⟩:=h;cases ro;obtain⟨t,rfl⟩:=ri;obtain⟨its,n,r,ho,hz⟩:=I.lst hp;obtain⟨h1,h2,h3,h4⟩:=zjj hj;have hl:=r.length;have hn:=zhF;have I':Inv X pins σ (upd H p (.lst (xs.set j v))) { s with heap:=s.heap.update p (Obj.mapSeq (·.setIfInBounds j u)) } :=
  I.lstUpd hp ho (zia its n j u) (r.set rv j) (by rw [zpl];exact hz) s.toks
 by_cases h0:0<=k
 ·have hk:k.toNat=j:=by
   rw [seqIndex_of h0 h4] at h1;exact zpK h1
  exact PySem.W.ki_setAt ho h0 (by omega) (by rw [zpz,← hl];exact h4) (by rw [hk];exact⟨_,I',q⟩)
 ·have hk:(k+(its.toArray.size:Int)).toNat=j:=by
   rw [seqIndex_neg (by omega) h3] at h1;rw [zpz,← hl];exact zpK h1
  exact PySem.W.ki_setBack ho (by omega) (by rw [zpz,← hl];exact h3) (by omega) (by rw [hk];exact⟨_,I',q⟩)
theorem zgy (lo hi:Option Int) (n:Nat):(sliceBounds lo hi none n).1=((HT.sIx n 0 lo:Nat):Int)/\(sliceBounds lo hi none n).2.1=((HT.sIx n n hi:Nat):Int)/\(sliceBounds lo hi none n).2.2=1:=by
 refine⟨?_,?_,rfl⟩
 ·cases lo with
  | none=>simp [sliceBounds,HT.sIx]
  | some i =>
   simp only [sliceBounds,HT.sIx,Option.getD_none,show (1:Int) > 0 by decide,if_true];by_cases h:i<0
   ·simp only [h,if_true] <;> omega
   ·simp only [h,if_false] <;> omega
 ·cases hi with
  | none=>simp [sliceBounds,HT.sIx]
  | some i =>
   simp only [sliceBounds,HT.sIx,Option.getD_none,show (1:Int) > 0 by decide,if_true];by_cases h:i<0
   ·simp only [h,if_true] <;> omega
   ·simp only [h,if_false] <;> omega
theorem zfP (its:List Value) (lo hi:Option Int):slicePick its.toArray lo hi none=((its.drop (HT.sIx its.length 0 lo)).take (HT.sIx its.length its.length hi-HT.sIx its.length 0 lo)).toArray:=by
 obtain⟨h1,h2,h3⟩:=zgy lo hi its.toArray.size;unfold slicePick;rw [h1,h2,h3];simp only [sliceRange_one,pick_run,zpz] <;> rfl
def rSlL (K:PySem.W.Frag):V->Option Int->Option Int->Hp->VK->Prop:=fun x lo hi H Q=>∃ a xs,x=.ref a/\SqL K H a xs/\∀ p,H p=none->Q (.ref p) (upd H p (.lst (zj1 xs lo hi)))
theorem zmm:SlR X (rSlL X.K):=by
 intro pins s σ H x v vl vu lo hi sl Q I rx hs pl pu h;obtain⟨a,xs,rfl,hx,q⟩:=h;cases rx;obtain⟨its,r,ht,hz⟩:=I.list hx;have hlen:=r.length;refine⟨"list",_,slot_list_getitem.lookup,ht.isList.typeIs,?_⟩;refine wpAny_getItem_list_slice ht.isList hs pl pu .none (by simp) ?_ (by rw [zpz] <;> omega);rw [zfP,← hlen];refine⟨.ref s.heap.objs.size,_,I.laid (t':=s.toks) (o:=.lst (zj1 xs lo hi)) (fun b ob q=>zpa _ q) (zpd _) ?_,rfl,q _ (I.hok.fresh (zpd _))⟩;exact⟨zpc (zgM xs lo hi) hz,_,0,(r.drop (HT.sIx xs.length 0 lo)).take (HT.sIx xs.length xs.length hi-HT.sIx xs.length 0 lo),zpy _ rfl⟩
def zeA:V->Bool
 | .non=>true
 | .bl _=>true
 | .int _=>true
 | .str _=>true
 | _=>false
def eqV:V->V->Bool
 | .non,.non=>true
 | .bl a,.bl b=>a == b
 | .bl a,.int b=>(if a then 1 else 0) == b
 | .int a,.bl b=>a == (if b then 1 else 0)
 | .int a,.int b=>a == b
 | .str a,.str b=>a == b
 | _,_=>false
theorem zmR {A:Around} {s:Shared} {y x:V} {u v:Value} (ry:zaW y u) (rx:zaW x v) (fy:zeA y=true) (fx:zeA x=true):SeqAt.EqAt A s u v (eqV y x):=by
 cases y with
 | non =>
  cases ry;cases x with
  | non=>cases rx;exact SeqAt.EqAt.same _
  | bl b=>cases rx;exact SeqAt.EqAt.none_bool b
  | int b=>obtain⟨t,rfl⟩:=rx;exact SeqAt.EqAt.none_int b t
  | str b=>obtain⟨t,rfl⟩:=rx;exact SeqAt.EqAt.none_str b t
  | _=>exact absurd (show false=true from fx) zpJ
 | bl a =>
  cases ry;cases x with
  | non=>cases rx;exact SeqAt.EqAt.bool_none a
  | bl b=>cases rx;exact SeqAt.EqAt.bool_bool a b
  | int b=>obtain⟨t,rfl⟩:=rx;exact SeqAt.EqAt.bool_int a b t
  | str b=>obtain⟨t,rfl⟩:=rx;exact SeqAt.EqAt.bool_str a b t
  | _=>exact absurd (show false=true from fx) zpJ
 | int a =>
  obtain⟨t',rfl⟩:=ry;cases x with
  | non=>cases rx;exact SeqAt.EqAt.int_none a t'
  | bl b=>cases rx;exact SeqAt.EqAt.int_bool a t' b
  | int b=>obtain⟨t,rfl⟩:=rx;exact SeqAt.EqAt.int_int a t' b t
  | str b=>obtain⟨t,rfl⟩:=rx;exact SeqAt.EqAt.int_str a t' b t
  | _=>exact absurd (show false=true from fx) zpJ
 | str a =>
  obtain⟨t',rfl⟩:=ry;cases x with
  | non=>cases rx;exact SeqAt.EqAt.str_none a t'
  | bl b=>cases rx;exact SeqAt.EqAt.str_bool a t' b
  | int b=>obtain⟨t,rfl⟩:=rx;exact SeqAt.EqAt.str_int a t' b t
  | str b=>obtain⟨t,rfl⟩:=rx;exact SeqAt.EqAt.str_str a t' b t
  | _=>exact absurd (show false=true from fx) zpJ
 | _=>exact absurd (show false=true from fy) zpJ
def eqU (x:V) (u:Value):Bool:=match u with
 | .none=>eqV .non x
 | .bool b=>eqV (.bl b) x
 | .int i _=>eqV (.int i) x
 | .str z _=>eqV (.str z) x
 | _=>false
theorem zk9 {x y:V} {u:Value} (r:zaW y u) (f:zeA y=true):eqU x u=eqV y x:=by
 cases y with
 | non=>cases r;rfl
 | bl b=>cases r;rfl
 | int i=>obtain⟨t,rfl⟩:=r;rfl
 | str z=>obtain⟨t,rfl⟩:=r;rfl
 | _=>exact absurd (show false=true from f) zpJ
theorem zgH {x:V}:∀ {xs:List V} {us:List Value},zaT xs us->xs.all zeA=true->us.any (eqU x)=xs.any fun y=>eqV y x
 | _,_,.nil,_=>rfl
 | y::xs,u::us,.cons r t,f=>by
  rw [List.all_cons,Bool.and_eq_true] at f;rw [List.any_cons,List.any_cons,zk9 r f.1,zgH t f.2]
theorem zfz {A:Around} {s:Shared} {x:V} {v:Value} (rx:zaW x v) (fx:zeA x=true):∀ {xs:List V} {us:List Value},zaT xs us->xs.all zeA=true->∀ u∈us,SeqAt.EqAt A s u v (eqU x u)
 | _,_,.nil,_=>fun u hu=>by cases hu
 | y::xs,u::us,.cons r t,f=>fun u' hu=>by
  rw [List.all_cons,Bool.and_eq_true] at f;rcases zpG.mp hu with rfl | hu
  ·rw [zk9 r f.1];exact zmR r rx f.1 fx
  ·exact zfz rx fx t f.2 u' hu
def inV (x:V) (xs:List V):Bool:=xs.any fun y=>eqV y x
def rIn (K:PySem.W.Frag) (neg:Bool):R2:=fun x y H Q=>∃ p xs,y=.ref p/\(SqL K H p xs\/SqT K H p xs)/\zeA x=true/\xs.all zeA=true/\Q (.bl (if neg then !inV x xs else inV x xs)) H
theorem zjA:OpR X (compareOp .In) (rIn X.K false):=by
 intro pins s σ H x y v u Q I rx ry h;obtain⟨p,xs,rfl,hq,fx,fs,q⟩:=h;cases ry;rcases hq with hq | hq
 ·obtain⟨its,r,pl,hz⟩:=I.list hq;refine SeqAt.in_listAt (eqU x) pl.isList (fun w hw=>zfz rx fx r fs w (by simpa using hw)) ⟨.bl _,H,I,rfl,?_⟩;rw [show its.toArray.any (eqU x)=its.any (eqU x) by simp,zgH r fs];exact q
 ·obtain⟨its,r,pl,hz⟩:=I.tuple hq;refine SeqAt.in_tupleAt (eqU x) pl (fun w hw=>zfz rx fx r fs w (by simpa using hw)) ⟨.bl _,H,I,rfl,?_⟩;rw [show its.toArray.any (eqU x)=its.any (eqU x) by simp,zgH r fs];exact q
theorem zf8:zbm X (.builtin "len") (fun xs H Q=>∃ p ys,xs=[.ref p]/\(SqL X.K H p ys\/SqT X.K H p ys)/\Q (.int ys.length) H):=by
 intro pins s σ H xs us Q I r h;obtain⟨p,ys,rfl,hq,q⟩:=h;obtain⟨u,rfl,rx⟩:=zjY r;cases rx;have hn:=zhF;rcases hq with hq | hq
 ·obtain⟨its,r',pl,hz⟩:=I.list hq;have hlen:=r'.length;exact Calls.call_len_list pl.isList (by simp only [zpz] <;> omega) ⟨.int ys.length,H,I.tok _,⟨s.toks+1,by rw [zpz,hlen]⟩,q⟩
 ·obtain⟨its,r',pl,hz⟩:=I.tuple hq;have hlen:=r'.length;exact len_tuple pl (by simp only [zpz] <;> omega) ⟨.int ys.length,H,I.tok _,⟨s.toks+1,by rw [zpz,hlen]⟩,q⟩
theorem zf9:zbm X (.type "list") (fun xs H Q=>∃ p ys,xs=[.ref p]/\(SqL X.K H p ys\/SqT X.K H p ys)/\∀ l,H l=none->Q (.ref l) (upd H l (.lst ys))):=by
 intro pins s σ H xs us Q I r h;obtain⟨p,ys,rfl,hq,q⟩:=h;obtain⟨u,rfl,rx⟩:=zjY r;cases rx;have fin:∀ (its:List Value),zaT ys its->ys.length<=sizeLine->∀ (h':Heap) (c':Nat),(∀ b o',s.heap.get? b=some o'->h'.get? b=some o') ->
   h'.get? s.heap.objs.size=some { cls:=.type "list",dict:=none,data:=.seq its.toArray c',slots:=#[] }->EP X pins σ Q (.ref s.heap.objs.size) { s with heap:=h' }:=fun its r' hz h' c' kp e =>
  ⟨.ref s.heap.objs.size,_,I.laid (t':=s.toks) kp (zpd _) (show za0 X.prog X.w _ h' _ (.lst ys) from ⟨hz,its,c',r',e⟩),rfl,q _ (I.hok.fresh (zpd _))⟩
 rcases hq with hq | hq
 ·obtain⟨its,r',pl,hz⟩:=I.list hq;have hlen:=r'.length;obtain⟨o,ho,hc,n,hd⟩:=pl.isList;exact call_list_seq p (.inl rfl) ho hc hd (fun h' c' kp e=>fin its r' hz h' c' kp e) (by simp only [zpz] <;> omega)
 ·obtain⟨its,r',pl,hz⟩:=I.tuple hq;have hlen:=r'.length;obtain⟨o,ho,hc,n,hd⟩:=pl;exact call_list_seq p (.inr rfl) ho hc hd (fun h' c' kp e=>fin its r' hz h' c' kp e) (by simp only [zpz] <;> omega)
def tyV (K:PySem.W.Frag) (T:String) (x:V) (H:Hp):Prop:=match x with
 | .str _=>T="str"
 | .int _=>T="int"
 | .ref p=>(T="list"/\∃ xs,SqL K H p xs)\/(T="tuple"/\∃ o,K.lookup p=some o/\o.cls=.type "tuple"/\o.dict=none) \/
   (T="dict"/\((∃ kvs,H p=some (.dK kvs))\/∃ kvs,H p=some (.dT kvs)))\/(T="set"/\∃ S n,H p=some (.set S n))
 | _=>False
theorem zlm {pins:List (Addr × Obj)} {σ:St} {H:Hp} {s:Shared} {T:String} {x:V} {v:Value} (I:Inv X pins σ H s) (r:zaW x v) (ty:tyV X.K T x H) :
  s.TypeIs v T/\∀ a,v=.ref a->∃ ob,s.heap.get? a=some ob/\ob.dict=none:=by
 cases x with
 | str z =>
  obtain⟨t,rfl⟩:=r;cases (show T="str" from ty);exact⟨typeIs_str s z t,fun _ e=>nomatch e⟩
 | int i =>
  obtain⟨t,rfl⟩:=r;cases (show T="int" from ty);exact⟨typeIs_int s i t,fun _ e=>nomatch e⟩
 | ref p =>
  cases r;rcases ty with ⟨rfl,xs,hq⟩ | ⟨rfl,o,hk,hc,hd⟩ | ⟨rfl,hk⟩ | ⟨rfl,S,n,hk⟩
  ·obtain⟨its,_,pl,_⟩:=I.list hq;refine⟨pl.isList.typeIs,fun a e=>?_⟩;cases e;obtain⟨o,n,e,c,hd,_⟩:=pl;exact⟨o,e,hd⟩
  ·refine⟨⟨o,I.kIn p o hk,hc⟩,fun a e=>?_⟩;cases e;exact⟨o,I.kIn _ o hk,hd⟩
  ·have z:∃ o,s.heap.get? p=some o/\o.ExactDict:=by
    rcases hk with ⟨kvs,hk⟩ | ⟨kvs,hk⟩
    ·obtain⟨_,_,_,_,o,_,_,e,ex,_⟩:=I.hok p _ hk;exact⟨o,e,ex⟩
    ·obtain⟨_,_,_,_,o,_,_,e,ex,_⟩:=I.hok p _ hk;exact⟨o,e,ex⟩
   obtain⟨o,e,ex⟩:=z;refine⟨⟨o,e,ex.1⟩,fun a e2=>?_⟩;cases e2;exact⟨o,e,ex.2.1⟩
  ·obtain⟨o,_,_,_,e,ex,_⟩:=I.hok p _ hk;refine⟨⟨o,e,ex.1⟩,fun a e2=>?_⟩;cases e2;exact⟨o,e,ex.2.1⟩
 | _=>exact False.elim ty
def tBM0 (K:PySem.W.Frag) (T:String) (r:V->List V->Hp->VK->Prop) (to:TE):TE:=fun σ H Q=>to σ H fun x H1=>tyV K T x H1/\r x [] H1 Q
def tBM (K:PySem.W.Frag) (T:String) (r:V->List V->Hp->VK->Prop) (to:TE) (t:TA):TE:=fun σ H Q=>to σ H fun x H1=>tyV K T x H1/\t σ H1 fun xs H2=>r x xs H2 Q
variable {o e:Expr} {es:List Expr} {to:TE} {t:TA} {name:Str} {apos cpos:Pos} {T id:String} {r:V->List V->Hp->VK->Prop}
theorem zle (pa:PlainAttrs T) (slot:Slot T name id) (hty:typeOf (.builtin id)=pure (.type "method_descriptor")) (hm:MtR X id r) (ho:PE X o to)
  (hbase:attributeBase o name X.env (eval o X.env)=eval o X.env:=by rfl) (hline:(apos.endLine == cpos.line)=true:=by rfl):PE X (.Call (.Attribute o name apos) [] [] cpos) (tBM0 X.K T r to):=by
 intro pins s σ H Q I h;refine wpAny_Call_method0_late hbase hline (thn (ho pins s σ H _ I h) fun v s1 ⟨x,H1,I1,r1,ty,q1⟩=>?_);obtain⟨h1,h2⟩:=zlm I1 r1 ty;exact⟨T,id,pa,slot,hty,h1,h2,Calls.callWith_builtin rfl (PySem.evalArgs_none (hm pins s1 σ H1 x [] v [] Q I1 r1 .nil q1))⟩
theorem zg3 (pa:PlainAttrs T) (slot:Slot T name id) (hty:typeOf (.builtin id)=pure (.type "method_descriptor")) (hm:MtR X id r) (ho:PE X o to) (ha:PA X (e::es) t)
  (hbase:attributeBase o name X.env (eval o X.env)=eval o X.env:=by rfl)
  (hfew:((backTo cpos (starEach (e::es) X.env)).all (fun x=>!x.1) && (backToKw cpos (keywordEach [] X.env)).all (fun x=>x.1.isSome)
   && decide ((e::es).length+([]:List Keyword).length+(if ([]:List Keyword).isEmpty then 0 else 1)<30))=true:=by rfl)
  (hline:(apos.endLine == cpos.line)=true:=by rfl) (hs:starEach (e::es) X.env=(false,eval e X.env)::starEach es X.env:=by rfl) (hplain:(backTo cpos (starEach es X.env)).any (·.1)=false:=by rfl) :
  PE X (.Call (.Attribute o name apos) (e::es) [] cpos) (tBM X.K T r to t):=by
 intro pins s σ H Q I h;refine wpAny_Call_method_late hbase hfew hline rfl (thn (ho pins s σ H _ I h) fun v s1 ⟨x,H1,I1,r1,ty,q1⟩=>?_);obtain⟨h1,h2⟩:=zlm I1 r1 ty;refine⟨T,id,pa,slot,hty,h1,h2,?_⟩;have hA:=ha cpos pins s1 σ H1 _ I1 q1;rw [hs] at hA ⊢;refine Calls.callWith_builtin (by show (false || (backTo cpos (starEach es X.env)).any (·.1))=false;rw [hplain] <;> rfl) (Calls.evalArgs_plain ?_)
 exact thn hA fun us s2 ⟨vs,H2,I2,r2,q2⟩=>hm pins s2 σ H2 x vs v us Q I2 r1 r2 q2
end
def MtM (X:Cx) (id:String) (r:V->List V->Hp->VK->Prop):Prop :=
 ∀ (pins:List (Addr × Obj)) (s:Shared) (σ:St) (H:Hp) (x:V) (xs:List V) (v:Value) (us:List Value) (Q:VK),Inv X pins σ H s->zaW x v->zaT xs us->r x xs H Q ->
  wpAny (model X.prog X.w) X.A (call (.builtin id) (v::us)) (EP X pins σ Q) X.xe s
theorem zaT.one:∀ {x:V} {us:List Value},zaT [x] us->∃ u,us=[u]/\zaW x u
 | _,_,.cons r .nil=>⟨_,rfl,r⟩
theorem zaT.zero:∀ {us:List Value},zaT [] us->us=[]
 | _,.nil=>rfl
theorem zaT.dropLast {xs:List V} {us:List Value} (h:zaT xs us):zaT xs.dropLast us.dropLast:=by
 induction h with
 | nil=>exact .nil
 | cons r t ih =>
  cases t with
  | nil=>exact .nil
  | cons q t'=>exact .cons r ih
theorem zaT.reverse {xs:List V} {us:List Value} (h:zaT xs us):zaT xs.reverse us.reverse:=by
 induction h with
 | nil=>exact .nil
 | cons r t ih=>rw [List.reverse_cons,List.reverse_cons];exact zaT.append ih (.cons r .nil)
theorem zaT.rep {xs:List V} {us:List Value} (h:zaT xs us):∀ k:Nat,zaT (List.replicate k xs).flatten (List.replicate k us).flatten
 | 0=>.nil
 | k+1=>by
  rw [List.replicate_succ,List.replicate_succ,List.flatten_cons,List.flatten_cons];exact zaT.append h (zaT.rep h k)
theorem zh5 {α:Type} (l:List α):l.eraseIdx (l.length-1)=l.dropLast:=by
 induction l with
 | nil=>rfl
 | cons a r ih =>
  cases r with
  | nil=>rfl
  | cons b r =>
   have e:(a::b::r).length-1=((b::r).length-1)+1:=by
    have h1:(a::b::r).length=r.length+2:=rfl;have h2:(b::r).length=r.length+1:=rfl;omega
   rw [e,List.eraseIdx_cons_succ,ih]
   all_goals rfl
theorem zgd (its:List Value):∀ (k:Nat) (acc:List Value),
  List.foldl (fun x1 x2=>x1++x2) acc.toArray (List.replicate k its.toArray)=(acc++(List.replicate k its).flatten).toArray
 | 0,acc=>by simp
 | k+1,acc=>by
  have e:acc.toArray++its.toArray=(acc++its).toArray:=by simp
  have e2:(acc++its)++(List.replicate k its).flatten=acc++(List.replicate (k+1) its).flatten:=by
   rw [List.replicate_succ,List.flatten_cons,zpi]
  rw [← e2,← zgd its k (acc++its),← e,List.replicate_succ,List.foldl_cons]
section
variable {X:Cx} {pins:List (Addr × Obj)} {σ:St} {H:Hp} {s:Shared} {l b:Addr} {xs ys zs:List V}
theorem Inv.lset {its its':List Value} {n:Nat} {f:Array Value->Array Value} {t':Nat} (I:Inv X pins σ H s) (hH:H l=some (.lst xs))
  (e:s.heap.get? l=some { cls:=.type "list",data:=.seq its.toArray n }) (hf:f its.toArray=its'.toArray) (hv:zaT ys its') (hz:ys.length<=sizeLine) :
  Inv X pins σ (upd H l (.lst ys)) { s with heap:=s.heap.update l (Obj.mapSeq f),toks:=t' }:=by
 have q:=PySem.IsL.update e f;rw [hf] at q;refine I.write (x:=l) (e:=l) (by rw [hH];exact trivial) (.inl rfl) (fun b' u hb hu=>(Heap.get?_update_other s.heap (Obj.mapSeq f) (Ne.symm hb)).trans hu) ⟨_,q⟩ ?_;exact⟨hz,its',_,hv,q⟩
theorem Inv.lnew {its:List Value} {t':Nat} (I:Inv X pins σ H s) (hv:zaT ys its) (hz:ys.length<=sizeLine) :
  Inv X pins σ (upd H s.heap.objs.size (.lst ys)) { s with heap:=s.heap.push { cls:=.type "list",data:=.seq its.toArray },toks:=t' } :=
 I.laid (fun _ _ q=>zpa _ q) (zpd _) ⟨hz,its,0,hv,zpy _ rfl⟩
theorem Inv.fresh (I:Inv X pins σ H s):H s.heap.objs.size=none:=I.hok.fresh (zpd _)
theorem Inv.lstM (I:Inv X pins σ H s) (hH:H l=some (.lst xs)):xs.length<=sizeLine/\∃ (its:List Value) (n:Nat),zaT xs its/\xs.length=its.length/\s.heap.get? l=some { cls:=.type "list",data:=.seq its.toArray n }:=by
 obtain⟨z,its,n,r,e⟩:=I.hok l _ hH;exact⟨z,its,n,r,r.length,e⟩
theorem zhI {n:Nat} (h:n<=sizeLine):Builtin.List.listTooLong n=false:=by
 unfold Builtin.List.listTooLong;exact zo4 (by omega)
end
section
variable {X:Cx}
def zjQ:V->List V->Hp->VK->Prop:=fun x vs H Q=>∃ l xs y,x=.ref l/\vs=[y]/\H l=some (.lst xs)/\xs.length<sizeLine/\Q .non (upd H l (.lst (xs++[y])))
theorem zjs:MtM X "list.append" zjQ:=by
 intro pins s σ H x vs v us Q I rx rv h;obtain⟨l,xs,y,rfl,rfl,hH,hz,q⟩:=h;cases rx;obtain⟨u,rfl,ru⟩:=rv.one;obtain⟨z,its,n,r,hl,e⟩:=I.lstM hH;refine call_meets F.slot_list_append ⟨_,e,rfl⟩ F.entry_list_append (F.args_list_append_2 _ _) (PySem.list_append l its.toArray n u (by rw [zpz];omega)) ⟨e,?_⟩;refine⟨.non,_,I.lset (its':=its++[u]) hH e (by simp) (r.append (.cons ru .nil)) ?_,rfl,q⟩;rw [zo7,List.length_singleton];omega
def rPop:V->List V->Hp->VK->Prop:=fun x vs H Q=>∃ l xs y,x=.ref l/\vs=[]/\H l=some (.lst xs)/\xs[xs.length-1]?=some y/\Q y (upd H l (.lst xs.dropLast))
theorem zna:MtM X "list.pop" rPop:=by
 intro pins s σ H x vs v us Q I rx rv h;obtain⟨l,xs,y,rfl,rfl,hH,hy,q⟩:=h;cases rx;have hus:=rv.zero;subst hus;obtain⟨z,its,n,r,hl,e⟩:=I.lstM hH;obtain⟨u,hu,ru⟩:=r.get hy;have hy':its.toArray[its.toArray.size-1]?=some u:=by
  show its.toArray[its.length-1]?=some u;rw [← zpE,← hl];exact hu
 refine call_meets F.slot_list_pop ⟨_,e,rfl⟩ F.entry_list_pop (F.args_list_pop_1 _) (MeetsSeq.list_pop_last l its.toArray n u hy' (by rw [zpz];omega)) ⟨e,?_⟩;refine⟨y,_,I.lset (its':=its.dropLast) hH e ?_ r.dropLast ?_,ru,q⟩
 ·show its.toArray.eraseIdxIfInBounds (its.toArray.size-1)=its.dropLast.toArray;rw [zpz,List.eraseIdxIfInBounds_toArray,zh5]
 ·rw [List.length_dropLast];omega
def rCat:R2:=fun x y H Q=>∃ l b xs zs,x=.ref l/\y=.ref b/\H l=some (.lst xs)/\H b=some (.lst zs)/\xs.length+zs.length<=sizeLine/\∀ p,H p=none->Q (.ref p) (upd H p (.lst (xs++zs)))
theorem zng:OpR X (binaryOp .Add) rCat:=by
 intro pins s σ H x y v u Q I rx ry h;obtain⟨l,b,xs,zs,rfl,rfl,hH,hB,hz,q⟩:=h;cases rx;cases ry;obtain⟨z,its,n,r,hl,e⟩:=I.lstM hH;obtain⟨z2,its2,n2,r2,hl2,e2⟩:=I.lstM hB;refine PySem.P.add_list e e2 ?_ (by rw [zpz,zpz];omega);have ea:its.toArray++its2.toArray=(its++its2).toArray:=by simp
 rw [ea];exact⟨.ref _,_,I.lnew (t':=s.toks) (r.append r2) (by rw [zo7];omega),rfl,q _ I.fresh⟩
def rRep:R2:=fun x y H Q=>∃ l k xs,x=.ref l/\y=.int k/\H l=some (.lst xs)/\-(2 ^ 63)<=k/\k<2 ^ 63/\xs.length*k.toNat<=sizeLine /\
 ∀ p,H p=none->Q (.ref p) (upd H p (.lst (List.replicate k.toNat xs).flatten))
theorem zlP {α:Type} (xs:List α) (k:Nat):(List.replicate k xs).flatten.length=k*xs.length:=by
 induction k with
 | zero=>simp
 | succ k ih=>rw [List.replicate_succ,List.flatten_cons,zo7,ih,Nat.succ_mul,Nat.add_comm]
theorem znk:OpR X (binaryOp .Mult) rRep:=by
 intro pins s σ H x y v u Q I rx ry h;obtain⟨l,k,xs,rfl,rfl,hH,h1,h2,hz,q⟩:=h;cases rx;obtain⟨t,rfl⟩:=ry;obtain⟨z,its,n,r,hl,e⟩:=I.lstM hH;have hlen:its.toArray.size*k.toNat<=sizeLine:=by rw [zpz,← hl];exact hz
 have hcap:¬ its.toArray.size*k.toNat > (2 ^ 63-1) / 8:=by
  have:(sizeLine:Nat)<=(2 ^ 63-1) / 8:=by decide
  omega
 have hfit:¬ (!Builtin.List.listFitsIndex k)=true:=by
  rw [fitsIndex_both h1 h2];exact zpJ
 have hlong:¬ Builtin.List.listTooLong (its.toArray.size*k.toNat)=true:=by
  rw [zhI hlen];exact zpJ
 have hnew:List.foldl (fun x1 x2=>x1++x2) #[] (List.replicate (if its.toArray.isEmpty=true then 0 else k.toNat) its.toArray)=(List.replicate k.toNat its).flatten.toArray:=by
  have f0:∀ m:Nat,List.foldl (fun x1 x2=>x1++x2) #[] (List.replicate m its.toArray)=(List.replicate m its).flatten.toArray:=fun m=>by
   have:=zgd its m []
   rw [List.nil_append] at this;exact this
  rw [f0];cases its with
  | nil=>simp
  | cons a r'=>rw [zpB (by simp)]
 refine wpAny_binaryOp_repeat_ref (T:="list") (U:="int") (by decide) ⟨_,e,rfl⟩ (fun s'=>typeIs_int s' k t) noFill_list_mul F.fills_int_mul F.slot_int_rmul repeat_list F.slot_int_index.lookup
  (call_meets F.slot_int_rmul (typeIs_int s k t) F.entry_int_rmul (F.args_int_rmul_2 _ _) (int___rmul___int_list k t l its.toArray n)
   ⟨e,rfl,⟨_,e,rfl⟩,call_meets F.slot_list_mul ⟨_,e,rfl⟩ F.entry_list_mul (F.args_list_mul_2 _ _) (AutoListH.list___mul___list_int_3 l its.toArray n k t hfit hcap hlong) ⟨e,?_⟩⟩)
 rw [hnew];exact⟨.ref _,_,I.lnew (t':=s.toks) (r.rep k.toNat) (by rw [zlP,Nat.mul_comm];exact hz),rfl,q _ I.fresh⟩
end
section
variable {prog:Program} {w:World} {A:Around} {E:Value->Shared->Prop} {s:Shared}
end
section
variable {X:Cx}
end
section
variable {κ:Type} [DecidableEq κ]
def zdR (kvs:List (κ × V)) (k:κ):Option V:=(kvs.find? fun kv=>decide (kv.1=k)).map (·.2)
def zgp (kvs:List (κ × V)) (k:κ) (v:V):List (κ × V) :=
 if (kvs.any fun kv=>decide (kv.1=k))=true then kvs.map (fun kv=>if kv.1=k then (kv.1,v) else kv) else kvs++[(k,v)]
def zgQ (kvs:List (κ × V)) (k:κ):List (κ × V):=kvs.filter fun kv=>decide (kv.1≠k)
theorem za8 {p:κ × V} {r:List (κ × V)} {k:κ} (e:p.1=k):zdR (p::r) k=some p.2:=by simp [zdR,List.find?_cons,e]
theorem za7 {p:κ × V} {r:List (κ × V)} {k:κ} (e:¬ p.1=k):zdR (p::r) k=zdR r k:=by simp [zdR,List.find?_cons,e]
theorem zdZ (k:κ):∀ kvs:List (κ × V),(kvs.any fun kv=>decide (kv.1=k))=(zdR kvs k).isSome
 | []=>rfl
 | p::r=>by
  rw [List.any_cons];by_cases e:p.1=k
  ·simp only [za8 e,zo3 e,Bool.true_or,Option.isSome_some]
  ·rw [za7 e,zo4 e,Bool.false_or];exact zdZ k r
theorem zhW (k j:κ) (y:V):∀ kvs:List (κ × V),zdR (kvs.map fun kv=>if kv.1=k then (kv.1,y) else kv) j=(zdR kvs j).map fun x=>if j=k then y else x
 | []=>rfl
 | p::r=>by
  have ih:=zhW k j y r;rw [zpq];by_cases h:p.1=k
  ·rw [zpC h];by_cases e:p.1=j
   ·rw [za8 (p:=(p.1,y)) e,za8 e,Option.map_some,zpC (e.symm.trans h)]
   ·rw [za7 (p:=(p.1,y)) e,za7 e,ih]
  ·rw [zpB h];by_cases e:p.1=j
   ·rw [za8 (p:=p) e,za8 e,Option.map_some,zpB (fun z=>h (e.trans z))]
   ·rw [za7 (p:=p) e,za7 e,ih]
theorem zgB (k j:κ) (y:V):∀ kvs:List (κ × V),zdR kvs k=none->zdR (kvs++[(k,y)]) j=if j=k then some y else zdR kvs j
 | [],_=>by
  by_cases e:k=j
  ·rw [zpC e.symm];exact za8 (p:=(k,y)) e
  ·rw [zpB (fun z=>e z.symm)];exact za7 (p:=(k,y)) e
 | p::r,hn=>by
  rw [List.cons_append];have hk:¬ p.1=k:=fun z=>by rw [za8 z] at hn;cases hn
  rw [za7 hk] at hn;have ih:=zgB k j y r hn;by_cases e:p.1=j
  ·rw [za8 e,za8 e,zpB (fun z=>hk (e.trans z))]
  ·rw [za7 e,za7 e,ih]
theorem zkR (kvs:List (κ × V)) (k j:κ) (y:V):zdR (zgp kvs k y) j=if j=k then some y else zdR kvs j:=by
 unfold zgp;by_cases a:(kvs.any fun kv=>decide (kv.1=k))=true
 ·rw [zpC a,zhW];rw [zdZ] at a;by_cases e:j=k
  ·obtain⟨x,hx⟩:=Option.isSome_iff_exists.mp a;rw [zpC e,e,hx,Option.map_some,zpC rfl]
  ·rw [zpB e];cases zdR kvs j with
   | none=>rfl
   | some x=>rw [Option.map_some,zpB e]
 ·rw [zpB a];refine zgB k j y kvs ?_;rw [zdZ] at a;cases q:zdR kvs k with
  | none=>rfl
  | some x=>rw [q] at a;exact (a rfl).elim
theorem zcY (kvs:List (κ × V)) (k:κ) (v:V):(zgp kvs k v).length<=kvs.length+1:=by
 unfold zgp;split
 ·rw [zoX];omega
 ·rw [zo7,zpA,List.length_nil];omega
theorem zeN.isSome_eq {o:Option V} {u:Option Value} (r:zeN o u):o.isSome=u.isSome:=by
 cases o with
 | none=>cases u with
  | none=>rfl
  | some _=>exact (show False from r).elim
 | some _=>cases u with
  | none=>exact (show False from r).elim
  | some _=>rfl
theorem zeN.getD {o:Option V} {u:Option Value} {d:V} {d':Value} (r:zeN o u) (rd:zaW d d'):zaW (o.getD d) (u.getD d'):=by
 cases o with
 | none=>cases u with
  | none=>exact rd
  | some _=>exact (show False from r).elim
 | some _=>cases u with
  | none=>exact (show False from r).elim
  | some _=>exact r
theorem KV.val {kvs:List (κ × V)} {vs:List (κ × Value)} (r:KV kvs vs) (k:κ):zeN (zdR kvs k) (valueAt vs k):=by
 unfold KV at r
 induction r with
 | nil=>exact True.intro
 | @cons p q ps qs h t ih =>
  obtain⟨h1,h2⟩:=h;by_cases e:p.1=k
  ·have e':q.1=k:=h1.symm.trans e;have b:valueAt (q::qs) k=some q.2:=by simp [valueAt,List.find?_cons,e']
   rw [za8 e,b];exact h2
  ·have e':¬ q.1=k:=fun z=>e (h1.trans z)
   have b:valueAt (q::qs) k=valueAt qs k:=by simp [valueAt,List.find?_cons,e']
   rw [za7 e,b];exact ih
theorem KV.any {kvs:List (κ × V)} {vs:List (κ × Value)} (r:KV kvs vs) (k:κ):(kvs.any fun kv=>decide (kv.1=k))=vs.any fun kv=>decide (kv.1=k):=by
 unfold KV at r
 induction r with
 | nil=>rfl
 | cons h t ih=>rw [List.any_cons,List.any_cons,ih,h.1]
theorem KV.repl {kvs:List (κ × V)} {vs:List (κ × Value)} (r:KV kvs vs) (k:κ) {y:V} {u:Value} (ry:zaW y u) :
  KV (kvs.map fun kv=>if kv.1=k then (kv.1,y) else kv) (vs.map fun kv=>if kv.1=k then (kv.1,u) else kv):=by
 unfold KV at r ⊢
 induction r with
 | nil=>exact .nil
 | @cons p q ps qs h t ih =>
  rw [zpq,zpq];refine .cons ?_ ih;obtain⟨h1,h2⟩:=h;by_cases e:p.1=k
  ·rw [zpC e,zpC (h1.symm.trans e)];exact⟨h1,ry⟩
  ·rw [zpB e,zpB (fun z=>e (h1.trans z))];exact⟨h1,h2⟩
theorem KV.put {kvs:List (κ × V)} {vs:List (κ × Value)} (r:KV kvs vs) (k:κ) {y:V} {u:Value} (ry:zaW y u):KV (zgp kvs k y) (stored vs k u):=by
 unfold zgp stored;rw [r.any k];by_cases e:(vs.any fun kv=>decide (kv.1=k))=true
 ·rw [zpC e,zpC e];exact r.repl k ry
 ·rw [zpB e,zpB e];exact Paired.snoc r ⟨rfl,ry⟩
theorem KV.drop {kvs:List (κ × V)} {vs:List (κ × Value)} (r:KV kvs vs) (k:κ):KV (zgQ kvs k) (without vs k):=by
 unfold KV at r ⊢;unfold zgQ without
 induction r with
 | nil=>exact .nil
 | @cons p q ps qs h t ih =>
  obtain⟨h1,h2⟩:=h;rw [List.filter_cons,List.filter_cons];by_cases e:p.1=k
  ·have a:¬ decide (p.1≠k)=true:=by simp [e]
   have b:¬ decide (q.1≠k)=true:=by simp [h1.symm.trans e]
   rw [zpB a,zpB b];exact ih
  ·have e':¬ q.1=k:=fun z=>e (h1.trans z)
   have a:decide (p.1≠k)=true:=by simp [e]
   have b:decide (q.1≠k)=true:=by simp [e']
   rw [zpC a,zpC b];exact .cons ⟨h1,h2⟩ ih
theorem KV.length {kvs:List (κ × V)} {vs:List (κ × Value)} (r:KV kvs vs):kvs.length=vs.length:=Paired.length r
theorem zkb (kvs:List (κ × V)) (k:κ):(zgQ kvs k).length<=kvs.length:=List.length_filter_le _ _
end
theorem zgW {P:Program} {w:World} {k:Key} {u:Value} (r:zaW (kV k) u):(zaK P w).is k u=true:=by
 cases k with
 | inl i=>obtain⟨t,e⟩:=(show ∃ t,u=Value.int i t from r);subst e;exact zgY P w i t
 | inr x=>obtain⟨t,e⟩:=(show ∃ t,u=Value.str x t from r);subst e;exact zgZ P w x t
theorem zgg {P:Program} {w:World}:∀ {ks:List Key} {us:List Value},zaT (ks.map kV) us->ItemsAre (zaK P w) ks us
 | [],_,r=>by rw [zpr] at r;cases r;exact .nil
 | k::ks,_,r=>by
  rw [zpq] at r;cases r with
  | cons h t=>exact .cons (zgW h) (zgg t)
abbrev KT (H:Hp):List (List Key × V)->List (List Key × Addr × Value)->Prop:=Paired fun p q=>p.1=q.1/\H q.2.1=some (.tup (p.1.map kV))/\zaW p.2 q.2.2
theorem KT.val {H:Hp} {kvs:List (List Key × V)} {xs:List (List Key × Addr × Value)} (r:KT H kvs xs) (k:List Key):zeN (zdR kvs k) ((atKey xs k).map (·.2)):=by
 induction r with
 | nil=>exact True.intro
 | @cons p q ps qs h t ih =>
  obtain⟨h1,_,h2⟩:=h;by_cases e:p.1=k
  ·have e':q.1=k:=h1.symm.trans e;have b:atKey (q::qs) k=some q.2:=by simp [atKey,List.find?_cons,e']
   rw [za8 e,b];exact h2
  ·have e':¬ q.1=k:=fun z=>e (h1.trans z)
   have b:atKey (q::qs) k=atKey qs k:=by simp [atKey,List.find?_cons,e']
   rw [za7 e,b];exact ih
theorem KT.repl {H:Hp} {kvs:List (List Key × V)} {xs:List (List Key × Addr × Value)} (r:KT H kvs xs) (k:List Key) {y:V} {u:Value} (ry:zaW y u) :
  KT H (kvs.map fun kv=>if kv.1=k then (kv.1,y) else kv) (xs.map (putAt k u)):=by
 induction r with
 | nil=>exact .nil
 | @cons p q ps qs h t ih =>
  rw [zpq,zpq];refine .cons ?_ ih;obtain⟨h1,h2,h3⟩:=h;unfold putAt;by_cases e:p.1=k
  ·rw [zpC e,zpC (h1.symm.trans e)];exact⟨h1,h2,ry⟩
  ·rw [zpB e,zpB (fun z=>e (h1.trans z))];exact⟨h1,h2,h3⟩
theorem KT.put {H:Hp} {kvs:List (List Key × V)} {xs:List (List Key × Addr × Value)} (r:KT H kvs xs) (k:List Key) {b:Addr} {y:V} {u:Value} (hb:H b=some (.tup (k.map kV))) (ry:zaW y u) :
  KT H (zgp kvs k y) (storedH xs k b u):=by
 have e:(kvs.any fun kv=>decide (kv.1=k))=(atKey xs k).isSome:=by
  rw [zdZ,(r.val k).isSome_eq,Option.isSome_map]
 unfold zgp storedH;rw [e];by_cases q:(atKey xs k).isSome=true
 ·rw [zpC q,zpC q];exact r.repl k ry
 ·rw [zpB q,zpB q];exact Paired.snoc r ⟨rfl,hb,ry⟩
theorem KT.keeps {H H':Hp} {kvs:List (List Key × V)} {xs:List (List Key × Addr × Value)} (r:KT H kvs xs) (ht:∀ b ys,H b=some (.tup ys)->H' b=some (.tup ys)):KT H' kvs xs :=
 Paired.mapP r fun _ _ z=>⟨z.1,ht _ _ z.2.1,z.2.2⟩
section
variable {P:Program} {w:World} {H:Hp} {h:Heap} {a:Addr}
theorem znC {u:HO} (ok:HOk P w H h) (e:Rd H a u):za0 P w H h a u:=e.ok ok
theorem ziV {kvs:List (Key × V)} (ok:HOk P w H h) (e:Rd H a (.dK kvs)):kvs.length<=sizeLine/\(a == sysModules)=false/\∃ vs,KV kvs vs/\h.DictOf (zaK P w) a vs :=
 show za0 P w H h a (.dK kvs) from znC ok e
theorem zgP {kvs:List (Key × V)} (ok:HOk P w H h) (e:H a=some (.dK kvs)):kvs.length<=sizeLine/\(a == sysModules)=false/\∃ vs,KV kvs vs/\h.DictOf (zaK P w) a vs:=ziV ok (.inl e)
theorem zhE {ks:List Key} (ok:HOk P w H h) (e:H a=some (.tup (ks.map kV))):(tupleKind (zaK P w)).is h ks a:=by
 obtain⟨_,its,r,o,h1,h2,n,h3,_⟩:=(show za0 P w H h a (.tup (ks.map kV)) from ok a _ e);exact⟨o,its.toArray,n,h1,h2,h3,by simpa using zgg r⟩
theorem ziX {kvs:List (List Key × V)} (ok:HOk P w H h) (e:Rd H a (.dT kvs)):kvs.length<=sizeLine/\(a == sysModules)=false /\
  ∃ xs,KT H kvs xs/\h.DictOfH (tupleKind (zaK P w)) a xs:=by
 obtain⟨z,y,xs,r,o,es,ep,h1,h2,h3,h4,h5⟩:=(show za0 P w H h a (.dT kvs) from znC ok e);refine⟨z,y,xs,r,o,es,ep,h1,h2,h3,h4,fun x hx=>?_,h5⟩;have all:∀ {l:List (List Key × V)} {m:List (List Key × Addr × Value)},KT H l m->∀ x∈m,(tupleKind (zaK P w)).is h x.1 x.2.1:=by
  intro l m q
  induction q with
  | nil=>intro x hx;exact nomatch hx
  | @cons p q ps qs hq t ih =>
   intro x hx;rcases zpG.mp hx with e | hx
   ·subst e;exact zhE ok (by rw [← hq.1];exact hq.2.1)
   ·exact ih x hx
 exact all r x hx
theorem zom {kvs:List (List Key × V)} (ok:HOk P w H h) (e:H a=some (.dT kvs)):kvs.length<=sizeLine/\(a == sysModules)=false /\
  ∃ xs,KT H kvs xs/\h.DictOfH (tupleKind (zaK P w)) a xs:=ziX ok (.inl e)
end
def zkW (H:Hp) (a:Addr) (y:V) (r:Option V):Prop :=
 (∃ kvs k,Rd H a (.dK kvs)/\y=kV k/\r=zdR kvs k)\/∃ kvs k b,Rd H a (.dT kvs)/\y=.ref b/\H b=some (.tup (k.map kV))/\r=zdR kvs k
def zmu (H:Hp) (a:Addr) (y v:V) (H':Hp):Prop :=
 (∃ kvs k,H a=some (.dK kvs)/\y=kV k/\kvs.length<sizeLine/\H'=upd H a (.dK (zgp kvs k v))) \/
 ∃ kvs k b,H a=some (.dT kvs)/\y=.ref b/\H b=some (.tup (k.map kV))/\kvs.length<sizeLine/\H'=upd H a (.dT (zgp kvs k v))
theorem zkW.k {H:Hp} {a:Addr} {kvs:List (Key × V)} {k:Key} (e:H a=some (.dK kvs)):zkW H a (kV k) (zdR kvs k):=.inl ⟨kvs,k,.inl e,rfl,rfl⟩
theorem zmu.k {H:Hp} {a:Addr} {kvs:List (Key × V)} {k:Key} {v:V} (e:H a=some (.dK kvs)) (hl:kvs.length<sizeLine):zmu H a (kV k) v (upd H a (.dK (zgp kvs k v))):=.inl ⟨kvs,k,e,rfl,hl,rfl⟩
section
variable {X:Cx} {pins:List (Addr × Obj)} {σ:St} {H:Hp} {s:Shared} {a:Addr} {y v:V} {u r:Value} {o:Option V} {A:Around} {E:Value->Shared->Prop}
theorem Inv.big (I:Inv X pins σ H s):sysModules<s.heap.objs.size:=by
 have h:mainGlobals<s.heap.objs.size:=(I.mod.glob.keeps I.bk).lt;exact Nat.lt_trans (by decide) h
theorem ziR {Q:Value->Shared->Prop} (hu:A.units+1<cLine) (I:Inv X pins σ H s) (g:zkW H a y (some v)) (ry:zaW y u) (h:∀ w' s',Inv X pins σ H s'->zaW v w'->Q w' s') :
  wpAny (model X.prog X.w) A (getItem (.ref a) u) Q E s:=by
 rcases g with ⟨kvs,k,e,ey,l⟩ | ⟨kvs,k,b,e,ey,eb,l⟩
 ·subst ey;obtain⟨z,hd,vs,rel,dd⟩:=ziV I.hok e;obtain⟨w',hw,rw'⟩:=zeN.some_of (v:=v) (o:=valueAt vs k) (by rw [l];exact rel.val k);exact wpAny_getItem_of (zgW ry) dd.mapOf hw (h w' _ (I.tok _) rw')
 ·subst ey;cases (show u=Value.ref b from ry);obtain⟨z,hd,xs,rel,dd⟩:=ziX I.hok e;obtain⟨w',hw,rw'⟩:=zeN.some_of (v:=v) (o:=(atKey xs k).map (·.2)) (by rw [l];exact rel.val k)
  obtain⟨p,hp,hp2⟩:=zo0.mp hw;refine wpAny_getItem_heap (tupleKind_room_in1 hu) (zhE I.hok eb) dd hp ?_;rw [hp2];exact h w' _ (I.tok _) rw'
theorem zfn {h':Heap} {t':Nat} {ob:HO} (I:Inv X pins σ H s) (mu:Mut (H a)) (hs:Heap.SameBut a s.heap h') (he:∃ q,h'.get? a=some q) (new:za0 X.prog X.w (upd H a ob) h' a ob) :
  Inv X pins σ (upd H a ob) { s with heap:=h',toks:=t' } :=
 I.write (x:=a) (e:=a) mu (.inl rfl) (fun b q hb z=>(hs.2 b hb).trans z) he new
theorem ziU {P:Program} {w:World} {H':Hp} {h':Heap} {kvs:List (Key × V)} {vs:List (Key × Value)} (z:kvs.length<=sizeLine) (hd:(a == sysModules)=false) (rel:KV kvs vs) (dd:h'.DictOf (zaK P w) a vs) :
  za0 P w H' h' a (.dK kvs):=⟨z,hd,vs,rel,dd⟩
theorem ziS {H':Hp} {Q:Unit->Shared->Prop} (hu:A.units+1<cLine) (I:Inv X pins σ H s) (g:zmu H a y v H') (ry:zaW y u) (rv:zaW v r) (h:∀ s',Inv X pins σ H' s'->Q () s') :
  wpAny (model X.prog X.w) A (setItem (.ref a) u r) Q E s:=by
 rcases g with ⟨kvs,k,e,ey,l,eH⟩ | ⟨kvs,k,b,e,ey,eb,l,eH⟩
 ·subst ey eH;obtain⟨z,hd,vs,rel,dd⟩:=zgP I.hok e;have hz:vs.length<=sizeLine:=by rw [← rel.length];exact z
  have hl:(zgp kvs k v).length<=sizeLine:=by have:=zcY kvs k v;omega
  refine wpAny_setItem_pairs (hsz:=hz) (zgW ry) dd fun h' dd' hs=>h _ ?_
  have he:∃ q,h'.get? a=some q:=let ⟨q,_,_,hq,_⟩:=dd';⟨q,hq⟩;exact zfn I (by rw [e];exact True.intro) hs he (ziU hl hd (rel.put k rv) dd')
 ·subst ey eH;cases (show u=Value.ref b from ry);obtain⟨z,hd,xs,rel,dd⟩:=zom I.hok e;have hz:xs.length<=sizeLine:=by rw [← Paired.length rel];exact z
  have hl:(zgp kvs k v).length<=sizeLine:=by have:=zcY kvs k v;omega
  refine wpAny_setItem_heap (hsz:=hz) (tupleKind_room_in1 hu) (zhE I.hok eb) dd fun h' dd' hs=>h _ ?_
  obtain⟨q,es,ep,hq,h2,h3,h4,_,h5⟩:=dd';refine zfn I (by rw [e];exact True.intro) hs ⟨q,hq⟩ ⟨hl,hd,_,(rel.put k eb rv).keeps fun c ys ec=>?_,q,es,ep,hq,h2,h3,h4,h5⟩;rw [zal (zor ec e (fun z=>nomatch z))];exact ec
end
section
variable {X:Cx} {pins:List (Addr × Obj)} {σ:St} {H:Hp} {s:Shared} {a:Addr} {kvs:List (Key × V)} {k:Key} {u:Value} {A:Around} {E:Value->Shared->Prop}
theorem zol {v:V} {more:List Value} {Q:Value->Shared->Prop} (I:Inv X pins σ H s) (e:H a=some (.dK kvs)) (ry:zaW (kV k) u) (l:zdR kvs k=some v) (hm:more=[]\/∃ x,more=[x])
  (h:∀ w' s',Inv X pins σ (upd H a (.dK (zgQ kvs k))) s'->zaW v w'->Q w' s'):wpAny (model X.prog X.w) A (call (.builtin "dict.pop") (.ref a::u::more)) Q E s:=by
 obtain⟨z,hd,vs,rel,dd⟩:=zgP I.hok e;obtain⟨w',hw,rw'⟩:=zeN.some_of (v:=v) (o:=valueAt vs k) (by rw [← l];exact rel.val k);have hp:(keyPart u).isSome=true:=by
  cases k with
  | inl i=>obtain⟨t,q⟩:=(show ∃ t,u=Value.int i t from ry);subst q;rfl
  | inr x=>obtain⟨t,q⟩:=(show ∃ t,u=Value.str x t from ry);subst q;rfl
 have ha:argsOk "dict.pop" ⟨.ref a::u::more,[]⟩:=by
  rcases hm with q | ⟨x,q⟩
  ·subst q;exact PySem.F.args_dict_pop_2 _ _
  ·subst q;exact PySem.F.args_dict_pop_3 _ _ _
 refine call_meetsIn PySem.F.slot_dict_pop dd.typeIs PySem.F.entry_dict_pop ha (meets_dict_pop_there (zaK X.prog X.w) a (zgW ry) more hm hp)
  ⟨vs,w',dd,by rw [← rel.length];exact z,hw,fun h' dd' hs=>h w' _ ?_ rw'⟩
 have he:∃ q,h'.get? a=some q:=let ⟨q,_,_,hq,_⟩:=dd';⟨q,hq⟩;exact zfn I (by rw [e];exact True.intro) hs he (ziU (zpc (zkb kvs k) z) hd (rel.drop k) dd')
theorem zmP {r:Value} {Q:Value->Shared->Prop} (I:Inv X pins σ H s) (e:H a=some (.dK kvs)) (ry:zaW (kV k) u) (l:zdR kvs k=none) (h:∀ s',Inv X pins σ H s'->Q r s') :
  wpAny (model X.prog X.w) A (call (.builtin "dict.pop") [.ref a,u,r]) Q E s:=by
 obtain⟨z,hd,vs,rel,dd⟩:=zgP I.hok e;have hn:valueAt vs k=none:=zeN.none_of (by rw [← l];exact rel.val k);have hp:(keyPart u).isSome=true:=by
  cases k with
  | inl i=>obtain⟨t,q⟩:=(show ∃ t,u=Value.int i t from ry);subst q;rfl
  | inr x=>obtain⟨t,q⟩:=(show ∃ t,u=Value.str x t from ry);subst q;rfl
 exact call_meetsIn PySem.F.slot_dict_pop dd.typeIs PySem.F.entry_dict_pop (PySem.F.args_dict_pop_3 _ _ _) (meets_dict_pop_default (zaK X.prog X.w) a (zgW ry) hd hp r) ⟨vs,dd,hn,h _ (I.tok _)⟩
end
def NoSl (i:Expr):Prop:=∀ ov iv,subscripted i false ov iv=operate [ov,iv] (getItem ov iv)
theorem zmn {prog:Program} {w:World} {A:Around} {E:Value->Shared->Prop} {s:Shared} {env:Env} {value slice:Expr} {pos:Pos} {T id:String} {Q:Value->Shared->Prop}
  (hl:typeLookup (.type T) "__getitem__"=pure (some (.builtin id))) (hs:NoSl slice)
  (h:wpAny (model prog w) A (eval value env) (fun o s₁=>wpAny (model prog w) A (eval slice env) (fun i s₂=>s₂.TypeIs o T/\wpAny (model prog w) A (getItem o i) Q E s₂) E s₁) E s) :
  wpAny (model prog w) A (eval (.Subscript value slice pos) env) Q E s:=by
 refine Subscript_ (wpAny_mono h (fun o s₁ h₁=>wpAny_mono h₁ (fun i s₂ h₂=>?_) fun _ _ x=>x) fun _ _ x=>x);obtain⟨hT,h₂⟩:=h₂;unfold subscriptTail;refine wpAny_bind ?_;rw [getitemInPython_of_ne hT.not_modules];refine wpAny_bind (wpAny_specialOf hT hl ?_);have fin:wpAny (model prog w) A (subscripted slice false o i) (fun r s₃=>wpAny (model prog w) A (letTemporaryGo value o r >>= fun _=>pure r) Q E s₃) E s₂:=by
  rw [hs o i];exact wpAny_operating (wpAny_mono h₂ (fun r s₃ h₃=>wpAny_bind (wpAny_letTemporaryGo (wpAny_pure h₃))) fun _ _ x=>x)
 first
  | exact wpAny_pure (wpAny_bind fin)
  | exact wpAny_bind (wpAny_pure (wpAny_bind fin))
  | exact wpAny_bind fin
theorem zgO {X:Cx} {pins:List (Addr × Obj)} {σ:St} {H:Hp} {s:Shared} {a:Addr} {y:V} {o:Option V} (I:Inv X pins σ H s) (g:zkW H a y o):s.TypeIs (.ref a) "dict":=by
 rcases g with ⟨kvs,k,e,_,_⟩ | ⟨kvs,k,b,e,_,_,_⟩
 ·obtain⟨_,_,vs,_,dd⟩:=ziV I.hok e;exact dd.typeIs
 ·obtain⟨_,_,xs,_,dd⟩:=ziX I.hok e;exact dd.typeIs
def zoN (td ty:TE):TE:=fun σ H Q=>td σ H fun x H1=>ty σ H1 fun y H2=>∃ a v,x=.ref a/\zkW H2 a y (some v)/\Q v H2
def zoK (td ty tv:TE):TS:=fun D σ H=>tv σ H fun v H1=>td σ H1 fun x H2=>ty σ H2 fun y H3=>∃ a H4,x=.ref a/\zmu H3 a y v H4/\D.nx σ H4
section
variable {X:Cx} {o i e value:Expr} {pos pos' tpos:Pos} {td ty tv:TE}
theorem zlZ (hu:X.A.units+1<cLine) (ho:PE X o td) (hi:PE X i ty) (hs:NoSl i):PE X (.Subscript o i pos) (zoN td ty):=by
 intro pins s σ H Q I h;refine zmn PySem.F.slot_dict_getitem.lookup hs (thn (ho pins s σ H _ I h) fun u s1 ⟨x,H1,I1,rx,q1⟩=>thn (hi pins s1 σ H1 _ I1 q1) fun iv s2 ⟨y,H2,I2,ry,a,v,ex,g,q2⟩=>?_);subst ex;obtain rfl:u=Value.ref a:=rx;exact⟨zgO I2 g,ziR hu I2 g ry fun w' s3 I3 rw'=>⟨v,H2,I3,rw',q2⟩⟩
theorem zjI (hu:X.A.units+1<cLine) (ho:PE X o td) (hi:PE X i ty) (hv:PE X value tv) (hs:swapsWith value (some (.Subscript o i pos')) pos.line X.env=pure false) :
  PS X (.Assign [.Subscript o i pos'] value pos) (zoK td ty tv):=by
 intro pins s σ H D I h;refine wpAny_Assign_Subscript (thn (hv pins s σ H _ I h) fun r s1 ⟨v,H1,I1,rv,q1⟩=>thn (ho pins s1 σ H1 _ I1 q1) fun u s2 ⟨x,H2,I2,rx,q2⟩=>thn (hi pins s2 σ H2 _ I2 q2) fun iv s3 ⟨y,H3,I3,ry,a,H4,ex,g,q3⟩=>?_) hs;subst ex;obtain rfl:u=Value.ref a:=rx;exact ziS hu I3 g ry rv fun s4 I4=>⟨σ,H4,I4,q3⟩
end
theorem zhx {P:Program} {w:World} {H:Hp} (h:Heap) (hb:sysModules<h.objs.size):za0 P w H (h.push { cls:=.type "dict",data:=.dict #[] }) h.objs.size (.dK []) :=
 ⟨Nat.zero_le _,beq_eq_false_iff_ne.mpr (Ne.symm (zpH hb)),[],.nil,Heap.DictOf.new h⟩
def znG:TE:=fun _ H Q=>∀ p,H p=none->Q (.ref p) (upd H p (.dK []))
section
variable {X:Cx} {pos:Pos}
theorem zkC:PE X (.Dict [] [] pos) znG:=fun pins s σ H Q I h =>
 wpAny_Dict_empty ⟨.ref s.heap.objs.size,_,I.laid (a:=s.heap.objs.size) (o:=.dK []) (t':=s.toks) (fun _ _ q=>zpa _ q) (zpd _) (zhx s.heap I.big),rfl,h _ (I.hok.fresh (zpd _))⟩
end
structure M2 (X:Cx) (o:Expr) (m:Str) (apos:Pos) (e f:Expr) (cpos:Pos):Prop where
 base:attributeBase o m X.env (eval o X.env)=eval o X.env
 few:((backTo cpos (starEach [e,f] X.env)).all (fun x=>!x.1) && (backToKw cpos (keywordEach [] X.env)).all (fun x=>x.1.isSome)
  && decide (([e,f]:List Expr).length+([]:List Keyword).length+(if ([]:List Keyword).isEmpty then 0 else 1)<30))=true
 line:(apos.endLine == cpos.line)=true
 trees:backTo cpos (starEach [e,f] X.env)=[(false,eval e X.env),(false,eval f X.env)]
def IsD (H:Hp) (a:Addr):Prop:=(∃ kvs,Rd H a (.dK kvs))\/∃ kvs,Rd H a (.dT kvs)
theorem zlc {X:Cx} {pins:List (Addr × Obj)} {σ:St} {H:Hp} {s:Shared} {a:Addr} (I:Inv X pins σ H s) (d:IsD H a) :
  s.TypeIs (.ref a) "dict"/\(∀ b,Value.ref a=.ref b->∃ ob,s.heap.get? b=some ob/\ob.dict=none)/\(a == sysModules)=false:=by
 rcases d with ⟨kvs,e⟩ | ⟨kvs,e⟩
 ·obtain⟨_,hd,vs,_,dd⟩:=ziV I.hok e;refine⟨dd.typeIs,fun b q=>?_,hd⟩;cases q;obtain⟨ob,_,_,h1,h2,_⟩:=dd;exact⟨ob,h1,h2.2.1⟩
 ·obtain⟨_,hd,xs,_,dd⟩:=ziX I.hok e;refine⟨dd.typeIs,fun b q=>?_,hd⟩;cases q;obtain⟨ob,_,_,h1,h2,_⟩:=dd;exact⟨ob,h1,h2.2.1⟩
section
variable {X:Cx} {pins:List (Addr × Obj)} {σ:St} {H:Hp} {s:Shared} {a:Addr} {y d:V} {u r:Value} {o:Option V} {A:Around} {E:Value->Shared->Prop}
theorem zmO {Q:Value->Shared->Prop} (hu:A.units+1<cLine) (I:Inv X pins σ H s) (g:zkW H a y o) (ry:zaW y u) (rd:zaW d r) (h:∀ w' s',Inv X pins σ H s'->zaW (o.getD d) w'->Q w' s') :
  wpAny (model X.prog X.w) A (call (.builtin "dict.get") [.ref a,u,r]) Q E s:=by
 rcases g with ⟨kvs,k,e,ey,l⟩ | ⟨kvs,k,b,e,ey,eb,l⟩
 ·subst ey;obtain⟨z,hd,vs,rel,dd⟩:=ziV I.hok e;refine call_meetsIn PySem.F.slot_dict_get dd.typeIs PySem.F.entry_dict_get (PySem.F.args_dict_get_3 _ _ _) (meets_dict_get_default (zaK X.prog X.w) a (zgW ry) hd r) ⟨_,dd.mapOf,h _ _ (I.tok _) ?_⟩;rw [l];exact (rel.val k).getD rd
 ·subst ey;cases (show u=Value.ref b from ry);obtain⟨z,hd,xs,rel,dd⟩:=ziX I.hok e;refine call_meetsIn PySem.F.slot_dict_get dd.typeIs PySem.F.entry_dict_get (PySem.F.args_dict_get_3 _ _ _) (meetsH_dict_get_default (tupleKind (zaK X.prog X.w)) a b hd r) ⟨tupleKind_room_in1 hu,k,xs,zhE I.hok eb,dd,h _ _ (I.tok _) ?_⟩;rw [l];exact (rel.val k).getD rd
end
def znF (td ty tx:TE):TE:=fun σ H Q=>td σ H fun x H1=>∃ a,x=.ref a/\IsD H1 a/\ty σ H1 fun y H2=>tx σ H2 fun z H3=>∃ o,zkW H3 a y o/\Q (o.getD z) H3
def znH (td ty tx:TE):TE:=fun σ H Q=>td σ H fun x H1=>∃ a,x=.ref a/\IsD H1 a/\ty σ H1 fun y H2=>tx σ H2 fun z H3=>∃ kvs k,H3 a=some (.dK kvs)/\y=kV k /\
 (∀ v,zdR kvs k=some v->Q v (upd H3 a (.dK (zgQ kvs k))))/\(zdR kvs k=none->Q z H3)
section
variable {X:Cx} {o e f:Expr} {apos cpos:Pos} {td ty tx:TE}
theorem zfI (hu:X.A.units+1<cLine) (ho:PE X o td) (he:PE X e ty) (hf:PE X f tx) (m:M2 X o "get" apos e f cpos):PE X (.Call (.Attribute o "get" apos) [e,f] [] cpos) (znF td ty tx):=by
 intro pins s σ H Q I h;refine wpAny_Call_method m.base m.few m.line PySem.F.plainAttrs_dict PySem.F.slot_dict_get PySem.F.type_dict_get (thn (ho pins s σ H _ I h) fun u s1 ⟨x,H1,I1,rx,a,ex,d,q1⟩=>?_);subst ex;obtain rfl:u=Value.ref a:=rx;obtain⟨t1,t2,_⟩:=zlc I1 d;refine⟨t1,t2,?_⟩;rw [m.trees];refine Calls.callWith_builtin rfl (Calls.evalArgs_plain (Calls.spliced_cons (thn (he pins s1 σ H1 _ I1 q1) fun iv s2 ⟨y,H2,I2,ry,q2⟩ =>
  Calls.spliced_cons (thn (hf pins s2 σ H2 _ I2 q2) fun fv s3 ⟨z,H3,I3,rz,ov,g,q3⟩=>Calls.spliced_nil ?_))))
 exact zmO hu I3 g ry rz fun w' s4 I4 rw'=>⟨_,H3,I4,rw',q3⟩
theorem zkD (ho:PE X o td) (he:PE X e ty) (hf:PE X f tx) (m:M2 X o "pop" apos e f cpos):PE X (.Call (.Attribute o "pop" apos) [e,f] [] cpos) (znH td ty tx):=by
 intro pins s σ H Q I h;refine wpAny_Call_method m.base m.few m.line PySem.F.plainAttrs_dict PySem.F.slot_dict_pop PySem.F.type_dict_pop (thn (ho pins s σ H _ I h) fun u s1 ⟨x,H1,I1,rx,a,ex,d,q1⟩=>?_);subst ex;obtain rfl:u=Value.ref a:=rx;obtain⟨t1,t2,_⟩:=zlc I1 d;refine⟨t1,t2,?_⟩;rw [m.trees];refine Calls.callWith_builtin rfl (Calls.evalArgs_plain (Calls.spliced_cons (thn (he pins s1 σ H1 _ I1 q1) fun iv s2 ⟨y,H2,I2,ry,q2⟩ =>
  Calls.spliced_cons (thn (hf pins s2 σ H2 _ I2 q2) fun fv s3 ⟨z,H3,I3,rz,kvs,k,ea,ey,q3,q4⟩=>Calls.spliced_nil ?_))))
 subst ey;cases l:zdR kvs k with
 | some v=>exact zol I3 ea ry l (.inr ⟨fv,rfl⟩) fun w' s4 I4 rw'=>⟨v,_,I4,rw',q3 v l⟩
 | none=>exact zmP I3 ea ry l fun s4 I4=>⟨z,H3,I4,rz,q4 l⟩
end
section
variable {X:Cx} {pins:List (Addr × Obj)} {σ:St} {H:Hp} {s:Shared} {a:Addr} {kvs:List (Key × V)} {A:Around} {E:Value->Shared->Prop}
end
section
variable {X:Cx} {pins:List (Addr × Obj)} {σ:St} {H:Hp} {s:Shared} {a:Addr} {y:V} {u:Value} {A:Around} {E:Value->Shared->Prop}
end
end L2
namespace Att
open PySem PySem.W PySem.Calls PyProof.Rows
theorem zea {P:Params} {h:Heap}:∀ (ns:List Int) (vs:List Value),WellAll P h vs (ns.map WData.int)->IntsAre vs ns:=by
 intro ns
 induction ns with
 | nil =>
  intro vs w;rw [zpr] at w;cases w;exact .nil
 | cons n ns ih =>
  intro vs w;rw [zpq] at w;cases w with
  | cons a b =>
   cases a;exact .cons _ _ (ih _ b)
theorem zjS {l:OpenLaw} {n:Nat} (hn:l.most=some n) {P:Params} {h:Heap} {args:List WData} {vals:List Value}
  (hpre:l.row.toRowW.claim.pre args=true) (hwl:WellAll P h vals args) :
  ∃ a vs ns,vals=[Value.ref a]/\args=[WData.list (ns.map WData.int)]/\h.get? a=some { cls:=.type "list",data:=.seq vs.toArray }/\IntsAre vs ns/\ns.length<=n:=by
 have hsh:WShape.hasAll [] args [.list .int]=true:=(pre_splitW hpre).1;have hc:l.pre.holds [] { args:=args }=true:=(pre_splitW hpre).2;obtain⟨d,r,rfl,h1,h2⟩:=hasAllW_cons hsh;obtain rfl:=hasAllW_nil h2;obtain⟨xs,rfl,h3⟩:=hasW_list h1;obtain⟨ns,rfl⟩:=items_int h3;have hlen:ns.length<=n:=by
  unfold OpenLaw.pre at hc;have h4:(WTm.not (.lt (.lit (.int (n:Int))) (.len (.arg 0)))).holds [] { args:=[.list (ns.map .int)] }=true:=by
   have h4:=(holds_andW hc).1;rw [hn] at h4;exact h4
  have h5:=condW_of h4 (w_not (w_lt w_lit (w_len_list (w_arg rfl))));rw [zoX] at h5;refine Nat.le_of_not_lt fun q=>?_
  have q':(n:Int)<((ns.length:Nat):Int):=by omega
  first
   | (rw [zo3 q'] at h5;exact absurd h5 (by decide))
   | (simp at h5;omega)
 cases hwl with
 | cons w1 w2 =>
  cases w2;cases w1 with
  | list ho hall=>exact⟨_,_,ns,rfl,rfl,ho,zea ns _ hall,hlen⟩
theorem zjH (l:OpenLaw) (args:List WData):l.row.toRowW.claim.post args (.bool true) args=true :=
 postW_of (r:=l.row.toRowW) (X:=(true == true))
  (show WShape.has [] (.bool true) .bool=true by first | rfl | decide | simp [WShape.has,WShape.arms,WShape.armsAll])
  (show (WTm.eq .res (.lit (.bool true))).value [] { args:=args,res:=some (.bool true),after:=args }=some (.bool (true == true)) from w_eq_bool (w_res rfl) w_lit) rfl
theorem attach_call {l:OpenLaw} {n:Nat} {q:Program} {loose:List Str} {XP:(Str->Option Value)->Heap->Prop} {YP:World->Heap->Prop} {d:DefRec}
  (hn:l.most=some n) (hdf:d.params.defaults=[])
  (call:∀ (w:World) (s₀ s₁:Shared) (mg mb:Str->Option Value) (fa:Addr) (o:Obj) (pm cd doc:Value) (a:Addr) (vs:List Value) (ns:List Int),
   Ground q loose [] XP w s₀ mg mb s₁.heap->YP w s₁.heap ->
   s₁.heap.get? fa=some o->o.data=.func (docDef d.name d.params d.body d.scope pm cd doc)->s₁.heap.CodeRec cd d.name->mg d.name=some (.ref fa) ->
   s₁.heap.get? a=some { cls:=.type "list",data:=.seq vs.toArray }->IntsAre vs ns->ns.length<=n->s₁.gens=#[] ->
   codeAny (model l.prog w) callerA (.call (.ref fa) ⟨[.ref a],[]⟩) (fun r s'=>r=.ok (.ret (.bool true))/\OldK s₁.heap s'.heap/\s'.os=s₁.os/\AllBare s'.gens) s₁) :
  WalkO q loose XP YP l.row.toRowW d [] (fun f vs=>PySem.call f vs):=by
 intro w s₀ s₁ mg mb G Y fa o pm cd doc dV kV ho hd hcd hD hmg hg args vals as hpre hlay hrd hwl hlo;obtain rfl:dV=.none:=Dflts.none hD hdf;obtain rfl:kV=.none:=Dflts.noKw hD;obtain⟨a,vs,ns,rfl,rfl,hobj,hints,hlen⟩:=zjS hn hpre hwl;refine enter_call (codeAny_mono (call w s₀ s₁ mg mb fa o pm cd doc a vs ns G Y ho (fd_plain hd) hcd hmg hobj hints hlen hg) fun r s' hq=>?_);obtain⟨rfl,h2,h3,h4⟩:=hq;exact⟨.inl ⟨.bool true,.bool true,[],rfl,fun _=>rfl,.bool true,zjH l _,fun _=>⟨List.Pairwise.nil,fun _ hm=>(nomatch hm)⟩⟩,h2,h3,h4⟩
section
variable {prog:Program} {w:World} {A:Around} {E:Value->Shared->Prop} {s:Shared} {K:Frag}
end
end Att
namespace L2
open PySem PySem.Spec PyProof.Rows
theorem zgC:∀ {vs:List Value} {ns:List Int},IntsAre vs ns->zaT (ns.map V.int) vs
 | _,_,.nil=>.nil
 | _,_,.cons n t h=>.cons ⟨t,rfl⟩ (zgC h)
def zn2 (H:Hp):Prop:=∀ b,H b=none\/∃ o xs,H b=some (.frz o (.lst xs))
theorem zkr {P:Program} {w:World} {K:PySem.W.Frag} {mg mb:Str->Option Value} {CX:CXT} {k:Nat} {fa a:Addr} {fd:FuncData} {x:Str} {sp:Sp} {s₁:Shared} {vs:List Value} {ns:List Int}
  (KX:K.In s₁.heap) (hns:s₁.heap.Ns mainGlobals mg) (hb:s₁.heap.Ns builtinsNs mb) (hbb:∀ x:Str,x≠"__name__"->mb x=bootBuiltins x) (hlim:s₁.heap.NoLimit) (hg:s₁.gens=#[])
  (ha:s₁.heap.get? a=some { cls:=.type "list",data:=.seq vs.toArray }) (hi:IntsAre vs ns) (hl:ns.length<=sizeLine) (hr:zcW k callerA)
  (F:∀ base:Heap,K.In base->base.Ns mainGlobals mg->za3 P w K mg base CX k fa fd [x] sp) (hbind:∀ (s:Shared) (u:Value),BindsTo s fd ⟨[u],[]⟩ [(x,u)])
  (hsp:∀ H:Hp,zn2 H->SqL K H a (ns.map V.int)->sp [.ref a] H (fun v _=>v=.bl true) fun _ _ _=>False)
  (hCX:∀ H e s',CX [] H s₁ (fun _ _ _=>False) e s'->False) :
  codeAny (model P w) callerA (.call (.ref fa) ⟨[.ref a],[]⟩) (fun r s'=>r=.ok (.ret (.bool true))/\OldK s₁.heap s'.heap/\s'.os=s₁.os/\AllBare s'.gens) s₁:=by
 have rv:=zgC hi;have lenV:=hi.length;have core:∀ H:Hp,zn2 H->SqL K H a (ns.map V.int)->HOk P w H s₁.heap->(∀ b,H b≠none->b=a)->(H a≠none->K.lookup a=none) ->
   codeAny (model P w) callerA (.call (.ref fa) ⟨[.ref a],[]⟩) (fun r s'=>r=.ok (.ret (.bool true))/\OldK s₁.heap s'.heap/\s'.os=s₁.os/\AllBare s'.gens) s₁:=by
  intro H hO hS hok hA hK;have base_of:∀ {b:Addr} {o:Obj},s₁.heap.get? b=some o->H b=none->(zkh s₁.heap H).get? b=some o:=fun e n=>zki e n
  have noA:∀ {b:Addr} {o:Obj} {es:Array DictEntry} {ep:Nat},s₁.heap.get? b=some o->o.data=.dict es ep->H b=none:=fun {b o es ep} e d=>by
   cases q:H b with
   | none=>rfl
   | some u =>
    have e':b=a:=hA b (by rw [q];simp);subst e';rw [ha] at e;cases e;have d':Data.seq vs.toArray _=Data.dict es ep:=d;cases d'
  have nsK:∀ {b:Addr} {m:Str->Option Value},s₁.heap.Ns b m->(zkh s₁.heap H).Ns b m:=fun {b m} ⟨o,es,ep,e,d,r⟩=>⟨o,es,ep,base_of e (noA e d),d,r⟩
  have hKb:K.In (zkh s₁.heap H):=fun b o e=>base_of (KX b o e) (by
   cases q:H b with
   | none=>rfl
   | some u =>
    have e':b=a:=hA b (by rw [q];simp);subst e';rw [hK (by rw [q];simp)] at e;cases e)
  have hM:Mod K mg (zkh s₁.heap H):=⟨hKb,nsK hns,⟨mb,nsK hb,hbb⟩,let ⟨mc,h1,h2⟩:=hlim;⟨mc,nsK h1,h2⟩⟩;have e0:zlp P w K mg (zkh s₁.heap H) callerA [] s₁ H:=⟨rfl,hM,fun b o e=>zlU e,Nat.le_of_eq (zjd _ _),trivial,fun b hb=>absurd (show b∈([]:List Addr) from hb) (by simp),hok,.of_eq hg⟩;refine codeAny_mono ((F _ hKb (nsK hns)).run callerA [] s₁ H ⟨[.ref a],[]⟩ [.ref a] [.ref a] _ _ hr e0 (hbind s₁ (.ref a)) (.cons rfl .nil) (hsp H hO hS)) fun r s' h=>?_
  cases r with
  | error e=>exact (hCX H e s' h).elim
  | ok fl =>
   cases fl with
   | next=>exact False.elim h
   | brk=>exact False.elim h
   | cont=>exact False.elim h
   | ret u =>
    obtain⟨v,H',os,bare,un,hok',r',q⟩:=h;have q':v=.bl true:=q;subst q';obtain rfl:u=Value.bool true:=r';refine⟨rfl,OldK.of_keep fun b o e=>?_,os,bare⟩;cases q:H b with
    | none=>exact un.keep b o e q (by intro z;exact absurd (show b∈([]:List Addr) from z) (by simp)) (by simp)
    | some u =>
     rcases hO b with z | ⟨ob,xs,z⟩
     ·rw [q] at z;cases z
     ·have z2:=un.frzs b ob _ z;obtain⟨e1,_⟩:=hok b _ z;obtain⟨e2,_⟩:=hok' b _ z2;rw [e] at e1;cases e1;exact e2
 cases hk:K.lookup a with
 | some o =>
  have e:=KX a o hk;rw [ha] at e;cases e;refine core (fun _=>none) (fun _=>.inl rfl) (.inr ⟨_,vs.toArray,_,hk,rfl,rfl,rfl,by rw [zpz,lenV];exact hl,by simpa using rv⟩) (fun b u z=>by have z':(none:Option HO)=some u:=z;cases z') (fun b z=>absurd rfl z) fun z=>absurd rfl z
 | none =>
  refine core (fun b=>if b=a then some (.frz { cls:=.type "list",data:=.seq vs.toArray } (.lst (ns.map V.int))) else none) (fun b=>?_) (.inl (.inr ⟨{ cls:=.type "list",data:=.seq vs.toArray },zpC rfl⟩)) (fun b u z=>?_) (fun b z=>?_) fun _=>hk
  ·by_cases hb:b=a
   ·exact .inr ⟨_,_,zpC hb⟩
   ·exact .inl (zpB hb)
  ·by_cases hb:b=a
   ·have z':=(zpC hb).symm.trans z;cases z';subst hb;exact⟨ha,by rw [zoX];exact hl,vs,_,rv,ha⟩
   ·have z':=(zpB hb).symm.trans z;cases z'
  ·by_cases hb:b=a
   ·exact hb
   ·exact absurd (zpB hb) z
theorem walk_of {l:PySem.W.OpenLaw} {n k:Nat} {q:Program} {loose:List Str} {XP:(Str->Option Value)->Heap->Prop} {YP:World->Heap->Prop} {d:DefRec} {K:Params->PySem.W.Frag} {CX:World->CXT} {sp:World->Sp} {x:Str}
  (hn:l.most=some n) (hn2:n<=sizeLine) (hdf:d.params.defaults=[]) (hr:zcW k callerA)
  (hY:∀ (w:World) (h:Heap),YP w h->(K w.params).In h)
  (F:∀ (w:World) (mg:Str->Option Value) (fa:Addr) (h:Heap),(K w.params).In h->h.Ns mainGlobals mg->mg d.name=some (.ref fa) ->
   ∃ fd:FuncData,(∀ (s:Shared) (u:Value),BindsTo s fd ⟨[u],[]⟩ [(x,u)]) /\
    ∀ base:Heap,(K w.params).In base->base.Ns mainGlobals mg->za3 l.prog w (K w.params) mg base (CX w) k fa fd [x] (sp w))
  (hsp:∀ (w:World) (H:Hp) (a:Addr) (ns:List Int),ns.length<=n->zn2 H->SqL (K w.params) H a (ns.map V.int)->sp w [.ref a] H (fun v _=>v=.bl true) fun _ _ _=>False)
  (hCX:∀ (w:World) (H:Hp) (s:Shared) (e:Value) (s':Shared),CX w [] H s (fun _ _ _=>False) e s'->False) :
  PySem.W.WalkO q loose XP YP l.row.toRowW d [] (fun f vs=>PySem.call f vs):=by
 refine Att.attach_call hn hdf fun w s₀ s₁ mg mb fa o pm cd doc a vs ns G Y ho hd hcd hmg hobj hints hlen hg=>?_
 have KX:=hY w _ Y;obtain⟨fd,hb,hF⟩:=F w mg fa _ KX G.T.g hmg;exact zkr KX G.T.g G.T.b G.T.builtins G.T.nolimit hg hobj hints (zpc hlen hn2) hr hF hb (fun H hO hS=>hsp w H a ns hlen hO hS) fun H e s'=>hCX w H s₁ e s'
def zdz (s:Stmt) (j:Nat):Stmt:=match s with
 | .ClassDef _ _ _ body _ _ _ _ _ _ _=>body.getD j (.Pass ⟨0,0,0,0⟩)
 | _=>.Pass ⟨0,0,0,0⟩
def zgN (s:Stmt):Arguments:=match s with
 | .FunctionDef _ a _ _ _ _ _ _ _ _=>a
 | _=>{ posonlyargs:=[],args:=[],vararg:=none,kwonlyargs:=[],kw_defaults:=[],kwarg:=none,defaults:=[] }
def zd3 (s:Stmt):List Stmt:=match s with
 | .FunctionDef _ _ b _ _ _ _ _ _ _=>b
 | _=>[]
def zaj (s:Stmt):Scope:=match s with
 | .FunctionDef _ _ _ _ _ _ sc _ _ _=>sc
 | _=>{ kind:=.function,names:=[],isGenerator:=false,isCoroutine:=false }
abbrev CX0:CXT:=fun _ _ _ _ _ _=>False
abbrev E0:XK:=fun _ _ _=>False
theorem zaw {X:Cx}:zdH CX0 X E0:=fun _ _ _ _ _ _ _ h=>h.elim
structure Fun (K:PySem.W.Frag) (x qual:Str) (st:Stmt) (f:Addr) (fd:FuncData):Prop where
 ex:∃ (oc:Value) (od:Option Addr) (kV doc pm:Value) (an:Option Addr) (cdv ct:Value) (osl:Array (Option Value)),
  fd=PySem.W.fnOf x qual (zgN st) (zd3 st) (zaj st) .none kV doc pm an cdv ct/\K.lookup f=some ⟨oc,od,.func fd,osl⟩/\PySem.W.codeIn K cdv qual=true
 kp:PySem.W.keepIn K (.ref f)=true
section
variable {P:Program} {w:World} {K:PySem.W.Frag} {mg:Str->Option Value} {base:Heap}
theorem Fun.ok {x qual:Str} {st:Stmt} {f:Addr} {fd:FuncData} {N ps:List Str} {k:Nat} {sp:Sp} (F:Fun K x qual st f fd) (S:zao N ps (zaj st)) (len:∀ vs H Q E,sp vs H Q E->vs.length=ps.length)
  (hbody:∀ (cdv:Value) (A:Around) (outer:List Env) (s:Shared) (H:Hp) (vs:List V) (Q:VK) (E:XK),zcW k (A.deeper (envOfC qual (zaj st) s.heap.objs.size f cdv))->sp vs H Q E ->
   ∃ t,PSs (ziQ CX0 P w K mg base N qual (zaj st) f cdv A outer s H E).nox (zd3 st) t/\t { nx:=fun _ H'=>Q .non H',rt:=Q } (start N vs) H):za3 P w K mg base CX0 (k+1) f fd ps sp:=by
 obtain⟨oc,od,kV,doc,pm,an,cdv,ct,osl,rfl,lk,hcd⟩:=F.ex;refine zmS lk hcd S len fun A outer s H vs Q E hr hsp=>?_
 obtain⟨t,h,q⟩:=hbody cdv A outer s H vs Q E hr hsp;exact⟨t,h.nox,q⟩
theorem fun_mk {x qual:Str} {st:Stmt} {f:Addr} {oc:Value} {od an:Option Addr} {osl:Array (Option Value)} {kV doc pm cdv ct:Value} (l:K.lookup f=some ⟨oc,od,.func (PySem.W.fnOf x qual (zgN st) (zd3 st) (zaj st) .none kV doc pm an cdv ct),osl⟩)
  (c:PySem.W.codeIn K cdv qual=true) (k:PySem.W.keepIn K (.ref f)=true):Fun K x qual st f (PySem.W.fnOf x qual (zgN st) (zd3 st) (zaj st) .none kV doc pm an cdv ct):=⟨⟨oc,od,kV,doc,pm,an,cdv,ct,osl,rfl,l,c⟩,k⟩
end
theorem zaD {A:Around} {k:Nat} (hr:zcW k A):A.units+1<cLine:=zpb (Nat.add_le_add_left (by decide:1<=64) _) hr.units
section
variable {X:Cx}
end
section
variable {κ:Type} [DecidableEq κ]
end
end L2
end
section
namespace L2
open PySem PySem.Spec PyProof.Rows
def zbj (sc:Scope):List Str:=(sc.names.filter fun x=>x.2 == .free).map (·.1)
def zcf (sc:Scope) (env:Env):List (Str × Addr):=((zbj sc).reverse).map fun n=>(n,(env.cells.lookup n).getD 0)
theorem zfl {sc:Scope} {env:Env} (h:∀ n∈zbj sc,∃ c,env.cells.lookup n=some c):closureFor sc env=pure (zcf sc env):=by
 have key:∀ (l:List (Str × NameKind)) (cs:List (Str × Addr)),(∀ x∈l,x.2=.free->∃ c,env.cells.lookup x.1=some c) ->
   (forIn l cs fun (x:Str × NameKind) (r:List (Str × Addr))=>(if (x.2 == NameKind.free)=true then (do let a ← cellOf env x.1;pure (ForInStep.yield ((x.1,a)::r))) else pure (ForInStep.yield r):Sem (ForInStep (List (Str × Addr)))))
   =pure ((((l.filter fun x=>x.2 == .free).map (·.1)).reverse).map (fun n=>(n,(env.cells.lookup n).getD 0))++cs):=by
  intro l
  induction l with
  | nil=>intro cs _;rfl
  | cons x r ih =>
   intro cs hx;rw [List.forIn_cons];by_cases hk:x.2=.free
   ·obtain⟨c,hc⟩:=hx x zpw hk;have e1:(x.2 == NameKind.free)=true:=by rw [hk];rfl
    have e2:cellOf env x.1=pure c:=by unfold cellOf;rw [hc]
    rw [zpC e1,e2];show (forIn r ((x.1,c)::cs) _:Sem _)=_;rw [ih _ fun y hy=>hx y (zpg _ hy)];rw [List.filter_cons,zpC e1,zpq,List.reverse_cons,zo5,zpi];simp [hc]
   ·have e1:(x.2 == NameKind.free)=false:=by simpa using hk
    rw [zpB (by rw [e1];decide)];show (forIn r cs _:Sem _)=_;rw [ih _ fun y hy=>hx y (zpg _ hy)];rw [List.filter_cons,zpB (by rw [e1];decide)]
 unfold closureFor zcf zbj
 have:=key sc.names [] fun x hx hf=>h x.1 (by
  unfold zbj;exact zpf.mpr ⟨x,zph.mpr ⟨hx,by rw [hf];rfl⟩,rfl⟩)
 rw [zo9] at this;show (forIn sc.names [] _ >>= pure:Sem _)=_;refine Eq.trans (congrArg (· >>= pure) (Eq.trans (congrArg (fun f=>(forIn sc.names [] f:Sem (List (Str × Addr)))) (funext fun x=>funext fun r=>?_)) this)) rfl
 obtain⟨n,k⟩:=x
 rfl
theorem zeZ {f:Str->Addr} {x:Str}:∀ {l:List Str} {c:Addr},(l.map fun n=>(n,f n)).lookup x=some c->x∈l/\c=f x
 | [],_,h=>by simp at h
 | n::r,c,h=>by
  simp only [zpq,List.lookup_cons] at h;cases hx:x == n with
  | true =>
   rw [hx] at h;have e:x=n:=by simpa using hx
   subst e;exact⟨zpw,(zpK h).symm⟩
  | false =>
   rw [hx] at h;obtain⟨a,b⟩:=zeZ h;exact⟨zpg _ a,b⟩
theorem zfh {f:Str->Addr} {x:Str}:∀ {l:List Str},x∈l->(l.map fun n=>(n,f n)).lookup x=some (f x)
 | n::r,h=>by
  simp only [zpq,List.lookup_cons];cases hx:x == n with
  | true =>
   have e:x=n:=by simpa using hx
   subst e
   rfl
  | false =>
   rcases zpG.mp h with e | e
   ·subst e;simp at hx
   ·exact zfh e
theorem zbz {env:Env}:∀ {names:List (Str × NameKind)} {x:Str},names.lookup x=some .free ->
  (names.map fun (n,k)=>if (k == NameKind.free && env.scope.kind == .function && env.kindOf n == some .cell) then (n,NameKind.cell) else (n,k)).lookup x=some .cell \/
  (names.map fun (n,k)=>if (k == NameKind.free && env.scope.kind == .function && env.kindOf n == some .cell) then (n,NameKind.cell) else (n,k)).lookup x=some .free
 | [],_,h=>by simp at h
 | (n,k)::r,x,h=>by
  have ih:=@zbz env r x;show List.lookup x ((if (k == NameKind.free && env.scope.kind == .function && env.kindOf n == some .cell)=true then (n,NameKind.cell) else (n,k))::_)=_ \/
   List.lookup x ((if (k == NameKind.free && env.scope.kind == .function && env.kindOf n == some .cell)=true then (n,NameKind.cell) else (n,k))::_)=_
  cases hx:x == n with
  | true =>
   simp only [List.lookup_cons,hx] at h;by_cases hc:(k == NameKind.free && env.scope.kind == .function && env.kindOf n == some .cell)=true
   ·rw [zpC hc];simp only [List.lookup_cons,hx];exact .inl trivial
   ·rw [zpB hc];simp only [List.lookup_cons,hx];exact .inr h
  | false =>
   simp only [List.lookup_cons,hx] at h;by_cases hc:(k == NameKind.free && env.scope.kind == .function && env.kindOf n == some .cell)=true
   ·rw [zpC hc];simp only [List.lookup_cons,hx];exact ih h
   ·rw [zpB hc];simp only [List.lookup_cons,hx];exact ih h
theorem zdL {env:Env}:∀ {names:List (Str × NameKind)} {x:Str},(∀ y∈names,y.2≠.cell) ->
  ((names.map fun (n,k)=>if (k == NameKind.free && env.scope.kind == .function && env.kindOf n == some .cell) then (n,NameKind.cell) else (n,k)).lookup x=some .cell \/
  (names.map fun (n,k)=>if (k == NameKind.free && env.scope.kind == .function && env.kindOf n == some .cell) then (n,NameKind.cell) else (n,k)).lookup x=some .free)->(x,NameKind.free)∈names
 | [],_,_,h=>by simp at h
 | (n,k)::r,x,nc,h=>by
  have ih:=@zdL env r x fun y hy=>nc y (zpg _ hy)
  change (List.lookup x ((if (k == NameKind.free && env.scope.kind == .function && env.kindOf n == some .cell)=true then (n,NameKind.cell) else (n,k))::_)=_ \/
   List.lookup x ((if (k == NameKind.free && env.scope.kind == .function && env.kindOf n == some .cell)=true then (n,NameKind.cell) else (n,k))::_)=_) at h
  cases hx:x == n with
  | true =>
   have e:x=n:=by simpa using hx
   subst e;by_cases hc:(k == NameKind.free && env.scope.kind == .function && env.kindOf x == some .cell)=true
   ·have:k=.free:=by
     have:=(Bool.and_eq_true_iff.mp (Bool.and_eq_true_iff.mp hc).1).1
     simpa using this
    rw [this];exact zpw
   ·rw [zpB hc] at h;simp only [List.lookup_cons,hx] at h;rcases h with h | h
    ·exact absurd (zpK h) (nc (x,k) zpw)
    ·rw [zpK h];exact zpw
  | false =>
   refine zpg _ (ih ?_);by_cases hc:(k == NameKind.free && env.scope.kind == .function && env.kindOf n == some .cell)=true
   ·rw [zpC hc] at h;simpa only [List.lookup_cons,hx] using h
   ·rw [zpB hc] at h;simpa only [List.lookup_cons,hx] using h
def zoi (X:Cx) (own:List Str) (fr:List Nat):List Str:=own++fr.map fun k=>X.N.getD k Str.empty
def zk6 (n:Nat) (fr:List Nat) (σ:St):St:=List.replicate n none++fr.map fun k=>(σ[k]?).join
def zav (X:Cx) (sc:Scope) (own:List Str) (fr:List Nat) (C:Addr) (s₀:Shared) (H₀:Hp) (ex:List Addr):Cx where
 prog:=X.prog
 w:=X.w
 K:=X.K
 mg:=X.mg
 base:=X.base
 A:=X.A
 N:=zoi X own fr
 s₀:=s₀
 H₀:=H₀
 env:=compEnvC sc (zcf sc X.env) C X.env
 outer:=X.stack
 stack:=X.stack
 ex:=ex
 fn:=fun _=>false
 calm:=X.calm
 pn:=[]
 xe:=fun _ _=>False
def zmy (X:Cx) (sc:Scope):List Nat->Prop
 | []=>True
 | k::r=>(sc.names.lookup (X.N.getD k Str.empty)=some .free/\(X.env.scope.names.lookup (X.N.getD k Str.empty)=some .cell\/X.env.scope.names.lookup (X.N.getD k Str.empty)=some .free))/\zmy X sc r
theorem zmy.mem {X:Cx} {sc:Scope}:∀ {fr:List Nat},zmy X sc fr->∀ k∈fr,sc.names.lookup (X.N.getD k Str.empty)=some .free/\(X.env.scope.names.lookup (X.N.getD k Str.empty)=some .cell\/X.env.scope.names.lookup (X.N.getD k Str.empty)=some .free)
 | _::_,h,k,hk=>by
  rcases zpG.mp hk with e | e
  ·subst e;exact h.1
  ·exact zmy.mem h.2 k e
def zd0 (X:Cx):List Str->Prop
 | []=>True
 | n::r=>(X.env.scope.names.lookup n=some .cell\/X.env.scope.names.lookup n=some .free)/\zd0 X r
theorem zd0.mem {X:Cx}:∀ {l:List Str},zd0 X l->∀ n∈l,X.env.scope.names.lookup n=some .cell\/X.env.scope.names.lookup n=some .free
 | _::_,h,n,hn=>by
  rcases zpG.mp hn with e | e
  ·subst e;exact h.1
  ·exact zd0.mem h.2 n e
structure zaI (X:Cx) (sc:Scope) (fr:List Nat):Prop where
 kind:sc.kind=.function
 nocell:∀ y∈sc.names,y.2≠.cell
 names:∀ y∈sc.names,y.2=.local->sc.names.lookup y.1=some .local
 frees:zd0 X (zbj sc)
 fr:zmy X sc fr
section
variable {X:Cx} {sc:Scope} {own:List Str} {fr:List Nat} {pins:List (Addr × Obj)} {σ:St} {H:Hp} {s:Shared}
theorem zaI.cells (S:zaI X sc fr) (I:Inv X pins σ H s):∀ n∈zbj sc,∃ c,X.env.cells.lookup n=some c:=fun n hn=>I.ok.has n (S.frees.mem n hn)
theorem zaI.look (S:zaI X sc fr) (I:Inv X pins σ H s) {x:Str} {c:Addr} (h:(zcf sc X.env).lookup x=some c):X.env.cells.lookup x=some c:=by
 obtain⟨a,b⟩:=zeZ h;obtain⟨d,e⟩:=S.cells I x (List.mem_reverse.mp a);rw [e] at b;rw [e,b]
 rfl
theorem zdf {x:Str} (h:(x,NameKind.free)∈sc.names):x∈zbj sc:=zpf.mpr ⟨_,zph.mpr ⟨h,rfl⟩,rfl⟩
theorem zaI.back (S:zaI X sc fr) (I:Inv X pins σ H s) {x:Str} (hx:x∈zbj sc):∃ c,(zcf sc X.env).lookup x=some c/\X.env.cells.lookup x=some c:=by
 obtain⟨c,e⟩:=S.cells I x hx;refine⟨c,?_,e⟩;unfold zcf;rw [zfh (List.mem_reverse.mpr hx),e]
 rfl
theorem zkl (S:zaI X sc fr) {fp:List Addr} (I:Inv X pins σ H s) (hf:∀ b∈fp,ziz X pins H b) (ho:∀ b∈fp,∃ o,s.heap.get? b=some o) {h₁:Heap} {t:Nat}
  (hns:h₁.Ns s.heap.objs.size (fun _=>none)) (hk:∀ b o,s.heap.get? b=some o->h₁.get? b=some o) :
  Inv (zav X sc own fr s.heap.objs.size s H fp) [] (zk6 own.length fr σ) H { s with heap:=h₁,toks:=t }:=by
 have ltC:∀ b o,s.heap.get? b=some o->b≠s.heap.objs.size:=fun b o e=>zpH (zpo e)
 have cellOld:∀ x c,(zcf sc X.env).lookup x=some c->∃ v,s.heap.IsCell c v:=fun x c e=>I.cell x c (S.look I e)
 refine⟨⟨I.ok.mod,S.kind,I.ok.glob,I.ok.blt,zpd _,fun x y c h1 h2=>I.ok.inj x y c (S.look I h1) (S.look I h2),fun x hx=>?_,fun x c z=>absurd z (by simp [zav]),I.ok.hd,I.ok.frames,.inl rfl,fun b hb=>?_,I.bs,zpc I.ok.bsz I.sz,fun b o e hb=>?_,fun b hb=>?_,I.stack,I.stkFree⟩,
  rfl,I.bare,Un.kept hk,⟨_,hns,fun i x v e1 e2 e3=>?_⟩,fun x c e=>?_,I.hok.fresh (zpd _),fun x c e=>I.freeC x c (S.look I e),fun p hp=>absurd (show p∈([]:List (Addr × Obj)) from hp) (by simp),I.hok.kept hk,?_⟩
 ·have:=zdL (env:=X.env) S.nocell hx
  obtain⟨c,e,_⟩:=S.back I (zdf this);exact⟨c,e⟩
 ·obtain⟨o,e⟩:=ho b hb;obtain⟨_,_,_,_,f4,_⟩:=hf b hb;exact⟨ltC b o e,fun x c e'=>f4 x c (S.look I e')⟩
 ·obtain⟨_,_,_,f3,_⟩:=hf b hb;rcases f3 with z | z
  ·exact I.ok.noex b o e z
  ·exact absurd (zpe (zpo e) (zpc I.ok.bsz z)) (Nat.lt_irrefl _)
 ·obtain⟨_,f1,f2,_⟩:=hf b hb;intro z;rcases zpG.mp (I.stkSub b z) with q | q
  ·exact f1 q
  ·exact f2 q
 ·
  have hi:own.length<=i:=by
   rcases Nat.lt_or_ge i own.length with z | z
   ·exfalso
    change (List.replicate own.length none++fr.map fun k=>(σ[k]?).join)[i]?=some (some v) at e2
    rw [zps (by simpa using z),List.getElem?_replicate,zpC z] at e2;cases e2
   ·exact z
  change (List.replicate own.length none++fr.map fun k=>(σ[k]?).join)[i]?=some (some v) at e2
  rw [zpt (by simpa using hi),List.length_replicate,zoY] at e2
  change (own++fr.map fun k=>X.N.getD k Str.empty)[i]?=some x at e1
  rw [zpt hi,zoY] at e1;cases e:fr[i-own.length]? with
  | none=>rw [e] at e1;cases e1
  | some k =>
   rw [e] at e1 e2;have e1:X.N.getD k Str.empty=x:=zpK e1;have e2:(σ[k]?).join=some v:=zpK e2;have e2':σ[k]?=some (some v):=by
    cases q:σ[k]? with
    | none=>rw [q] at e2;cases e2
    | some z=>rw [q] at e2;cases z with
     | none=>cases e2
     | some z=>rw [show z=v from zpK e2]
   have hkl:k<X.N.length:=by
    have:=(zo1.mp e2').1
    rw [I.len] at this;exact this
   have e1':X.N[k]?=some x:=by
    rw [zoZ hkl,← e1];simp [List.getD,hkl]
   obtain⟨q1,q2⟩:=S.fr.mem k (zo2 e);rw [e1] at q1 q2;have hvis:Vis X.env.scope x:=by
    rcases q2 with z | z
    ·exact .inr (.inl z)
    ·exact .inr (.inr z)
   obtain⟨m,hn,hl⟩:=I.loc;obtain⟨u,r,l⟩:=hl k x v e1' e2' hvis;refine⟨u,r,.inr ⟨?_,?_⟩⟩
   ·exact zbz (env:=X.env) q1
   ·rcases l with ⟨z,_⟩ | ⟨_,c,hc,z⟩
    ·exfalso
     have z:X.env.scope.names.lookup x=some .local:=z;rcases q2 with y | y
     ·rw [z] at y;cases y
     ·rw [z] at y;cases y
    ·obtain⟨c',h1,h2⟩:=S.back I (zdf (PySem.mem_of_lookup q1));rw [hc] at h2;cases h2;obtain⟨o,ho',hd⟩:=z;exact⟨c,h1,o,hk c o ho',hd⟩
 ·obtain⟨v,o,ho',hd⟩:=cellOld x c e;exact⟨v,o,hk c o ho',hd⟩
 ·show (List.replicate own.length none++fr.map fun k=>(σ[k]?).join).length=(own++fr.map fun k=>X.N.getD k Str.empty).length;simp
end
def PTs (X:Cx) (ifs:List Expr) (t:TT):Prop :=
 ∀ (pins:List (Addr × Obj)) (s:Shared) (σ:St) (H:Hp) (Q:Bool->Hp->Prop),Inv X pins σ H s->t σ H Q ->
  wpAny (model X.prog X.w) X.A (forIn ifs true fun c r=>if r=true then do let ok ← isTrue c X.env (eval c X.env);pure (ForInStep.yield ok) else pure (ForInStep.yield r)) (TP X pins σ Q) X.xe s
def tYes:TT:=fun _ H Q=>Q true H
theorem zaQ {X:Cx}:PTs X [] tYes:=fun pins s σ H Q I h=>wpAny_tests_nil ⟨H,I,h⟩
theorem zbC {X:Cx} {c:Expr} {t:TT} (hc:PT X c t):PTs X [c] t:=fun pins s σ H Q I h=>wpAny_tests_one (hc pins s σ H Q I h)
abbrev TM:=Addr->St->Hp->(Hp->Prop)->Prop
def PM (X:Cx) (emit:Env->Addr->Sem Unit) (t:TM):Prop :=
 ∀ (pins:List (Addr × Obj)) (s:Shared) (σ:St) (H:Hp) (D:Addr) (Q:Hp->Prop),Inv X pins σ H s->t D σ H Q ->
  wpAny (model X.prog X.w) X.A (emit X.env D) (fun _ s'=>∃ H',Inv X pins σ H' s'/\Q H') X.xe s
def zfg (acc:HO) (wi:TI) (n:Nat) (fr:List Nat) (g:TG) (tc:TT) (tm:TM):St->Hp->(Addr->Hp->Prop)->Prop:=fun σ H Q =>
 wi σ H fun J H1=>∀ p,H1 p=none->∃ W:Nat->Nat->St->Hp->Prop,(∃ m,W 0 m (zk6 n fr σ) (upd H1 p acc)) /\
  ∀ i m σ' H',W i m σ' H'->(J.stop i H'/\Q p H')\/(J.go i H'/\∃ N:St->Hp->Prop,(∀ σ2 H2,N σ2 H2->∃ m',m'<m/\W (i+1) m' σ2 H2)/\∀ x H2,J.yld i H' x H2->g x σ' H2 fun σ3 H3=>tc σ3 H3 fun b H4 =>
   if b=true then tm p σ3 H4 (N σ3) else N σ3 H4)
structure zbW (e:Expr) (tg iter:Expr) (ifs:List Expr) (emit:Env->Addr->Sem Unit):Prop where
 cl:∃ gs,clausesOf e=⟨tg,iter,ifs,0⟩::gs
 under:∀ (A:Around) it acc env,A.under (.compLoop e 0 it acc env)=A
 den:∀ (prog:Program) (w:World) it acc env,(model prog w).den (.compLoop e 0 it acc env)=((compTurn e 0 it acc env).onRaise (fun x=>do noteFrame x env;theTreesLotGoes x))
 turn:∀ it D env,compTurn e 0 it (.ref D) env=(do
   standAt iter.pos
   match ← pyNext it with
   | none=>pure (.done .next)
   | some v =>
    letOwnedTupleGo tg it v
    assign tg env v
    let mut ok:=true
    for c in ifs do
     if ok then ok ← isTrue c env (eval c env)
    if ok then
     emit env D
    again (.compLoop e 0 it (.ref D) env))
 start:∀ (prog:Program) (w:World) (A:Around) (R:Result->Shared->Prop) (s:Shared) it acc env,codeAny (model prog w) A (.compLoop e 0 it acc env) R s ->
  wpAny (model prog w) A (pyIter it) (fun it' s'=>codeAny (model prog w) A (.compLoop e 0 it' acc env) R s') (notedBy (model prog w) A env fun x s'=>R (.error x) s') s ->
  codeAny (model prog w) A (.compStart e 0 it acc env) R s
section
variable {X:Cx} {sc:Scope} {own:List Str} {fr:List Nat} {e tg iter:Expr} {ifs:List Expr} {emit:Env->Addr->Sem Unit} {wi:TI} {g:TG} {tc:TT} {tm:TM} {acc:HO}
theorem ziO (F:zbW e tg iter ifs emit) (hc:X.calm=true) {C:Addr} {s₀:Shared} {H₀:Hp} {fp:List Addr} {it D:Addr} {tn:Nat->Heap->Prop} {J:It} {R:Result->Shared->Prop} {s:Shared}
  (hg:PG (zav X sc own fr C s₀ H₀ fp) tg g) (ht:PTs (zav X sc own fr C s₀ H₀ fp) ifs tc) (hm:PM (zav X sc own fr C s₀ H₀ fp) emit tm)
  (T:zk0 X.prog X.w X.K tg J fp it tn) (hfp:∀ b∈fp,b≠C/\b ∉ frs X.stack/\∀ x c,(zcf sc X.env).lookup x=some c->c≠b)
  (W:Nat->Nat->St->Hp->Prop) {Q:Hp->Prop} (turn:∀ i m σ' H',W i m σ' H'->(J.stop i H'/\Q H')\/(J.go i H'/\∃ N:St->Hp->Prop,(∀ σ2 H2,N σ2 H2->∃ m',m'<m/\W (i+1) m' σ2 H2)/\∀ x H2,J.yld i H' x H2->g x σ' H2 fun σ3 H3=>tc σ3 H3 fun b H4 =>
   if b=true then tm D σ3 H4 (N σ3) else N σ3 H4))
  (hR:∀ σ' H' s',Inv (zav X sc own fr C s₀ H₀ fp) [] σ' H' s'->Q H'->R (.ok .next) s')
  {m0:Nat} {σ0:St} {H0:Hp} (I0:Inv (zav X sc own fr C s₀ H₀ fp) [] σ0 H0 s) (st0:tn 0 s.heap) (fr0:∀ b∈fp,H0 b=none) (w0:W 0 m0 σ0 H0) :
  codeAny (model X.prog X.w) X.A (.compLoop e 0 (.ref it) (.ref D) (compEnvC sc (zcf sc X.env) C X.env)) R s:=by
 have stat:∀ {H':Hp},(∀ b∈fp,H' b=none)->∀ b∈fp,ziz (zav X sc own fr C s₀ H₀ fp) [] H' b:=fun hn b hb =>
  ⟨hn b hb,(hfp b hb).1,(hfp b hb).2.1,.inl hb,(hfp b hb).2.2,fun p hp=>absurd (show p∈([]:List (Addr × Obj)) from hp) (by simp)⟩
 refine codeAny_loop rfl (fun n s'=>∃ i σ' H',Inv (zav X sc own fr C s₀ H₀ fp) [] σ' H' s'/\tn i s'.heap/\(∀ b∈fp,H' b=none)/\W i n σ' H') (fun n s hI=>?_) m0 ⟨0,σ0,H0,I0,st0,fr0,w0⟩;rw [F.under,F.den];refine wpAny_noted ?_;rw [F.turn];obtain⟨i,σ3,H3,I3,st3,fr3,w3⟩:=hI;have lift:∀ {α:Type} {t:Sem α} {Q':α->Shared->Prop} {E:Value->Shared->Prop} {s:Shared},wpAny (model X.prog X.w) X.A t Q' (fun _ _=>False) s->wpAny (model X.prog X.w) X.A t Q' E s:=fun h=>wpAny_mono h (fun _ _ q=>q) fun _ _ z=>z.elim
 refine wpAny_bind (wpAny_standAt (wpAny_bind ?_));rcases turn i n σ3 H3 w3 with ⟨stop,qn⟩ | ⟨go,N,hN,step⟩
 ·refine lift (thn (T.done (zav X sc own fr C s₀ H₀ fp) rfl rfl rfl hc i [] s σ3 H3 (fun _ _=>False) I3 (stat fr3) st3 stop) fun r s4 ⟨hr,I4⟩=>?_);subst hr;exact wpAny_pure (hR σ3 H3 s4 I4 qn)
 ·refine lift (thn (T.item (zav X sc own fr C s₀ H₀ fp) rfl rfl rfl hc i [] s σ3 H3 (fun _ _=>False) I3 (stat fr3) st3 go) fun r s4 ⟨u,hr,h4⟩=>?_);subst hr;refine wpAny_bind (lift (thn h4 fun _ s5 ⟨x,H5,I5,r5,y5,st5,fr5⟩=>?_));have I5':=I5.pinned (stat fr5) (T.obj _ _ st5);refine wpAny_bind (lift (thn (hg _ s5 σ3 H5 x u _ I5' r5 (step x H5 y5)) fun _ s6 ⟨σ6,H6,I6,q6⟩=>?_));refine wpAny_bind (lift (thn (ht _ s6 σ6 H6 _ I6 q6) fun ok s7 ⟨H7,I7,q7⟩=>?_));have again:∀ {σ8:St} {H8:Hp} {s8:Shared},Inv (zav X sc own fr C s₀ H₀ fp) ([]++ze2 fp s5.heap) σ8 H8 s8->(∃ m',m'<n/\W (i+1) m' σ8 H8)->∃ m,m<n/\∃ i σ' H',Inv (zav X sc own fr C s₀ H₀ fp) [] σ' H' s8/\tn i s8.heap/\(∀ b∈fp,H' b=none)/\W i m σ' H':=fun {σ8 H8 s8} I8 ⟨m',hm',w8⟩=>by
   refine⟨m',hm',i+1,σ8,H8,I8.unpinned,T.keep _ _ _ st5 fun b hb o e=>(I8.pin (b,o) (zpv _ (zpv _ (zby hb e)))).1,fun b hb=>?_,w8⟩;obtain⟨o,e,d⟩:=T.obj _ _ st5 b hb;exact (I8.pin (b,o) (zpv _ (zpv _ (zby hb e)))).2.1
  cases ok with
  | false=>exact wpAny_pure ⟨rfl,again I7 (hN _ _ q7)⟩
  | true =>
   refine wpAny_bind (lift (thn (hm _ s7 σ6 H7 D _ I7 q7) fun _ s8 ⟨H8,I8,q8⟩=>?_));exact wpAny_pure ⟨rfl,again I8 (hN _ _ q8)⟩
end
def zmB (X:Cx) (newAcc:Sem Value) (acc:HO):Prop :=
 ∀ (pins:List (Addr × Obj)) (s:Shared) (σ:St) (H:Hp) (E:Value->Shared->Prop) (Q:Value->Shared->Prop),Inv X pins σ H s ->
  (∀ p s',H p=none->p=s.heap.objs.size->(∀ b o,s.heap.get? b=some o->s'.heap.get? b=some o)->s'.os=s.os->Inv X pins σ (upd H p acc) s'->Q (.ref p) s')->wpAny (model X.prog X.w) X.A newAcc Q E s
theorem zdk {X:Cx}:zmB X (newList []) (.lst []):=by
 intro pins s σ H E Q I h;refine wpAny_newObj_type ?_;exact h _ _ (I.hok.fresh (zpd _)) rfl (fun b o e=>zpa _ e) rfl (I.lnew (its:=[]) (t':=s.toks) .nil (Nat.zero_le _))
theorem zjF {X:Cx}:zmB X newDict (.dK []):=by
 intro pins s σ H E Q I h;refine wpAny_newObj_type ?_;exact h _ _ (I.hok.fresh (zpd _)) rfl (fun b o e=>zpa _ e) rfl (I.laid (a:=s.heap.objs.size) (o:=.dK []) (t':=s.toks) (fun _ _ q=>zpa _ q) (zpd _) (zhx s.heap I.big))
section
variable {X:Cx} {sc:Scope} {own:List Str} {fr:List Nat} {e tg iter:Expr} {ifs:List Expr} {emit:Env->Addr->Sem Unit} {wi:TI} {g:TG} {tc:TT} {tm:TM} {acc:HO} {newAcc:Sem Value} {pos:Pos}
theorem zhs (F:zbW e tg iter ifs emit) (hc:X.calm=true) (S:zaI X sc fr) (hi:PI X tg iter wi) (hnew:zmB X newAcc acc)
  (hg:∀ C s₀ H₀ fp,PG (zav X sc own fr C s₀ H₀ fp) tg g) (ht:∀ C s₀ H₀ fp,PTs (zav X sc own fr C s₀ H₀ fp) ifs tc) (hm:∀ C s₀ H₀ fp,PM (zav X sc own fr C s₀ H₀ fp) emit tm)
  (hs:∀ x,foldedSetIterable iter X.env x=pure x) {use:Option (Value->Sem Unit)} {pins:List (Addr × Obj)} {s:Shared} {σ:St} {H:Hp} {Q:Addr->Hp->Prop} {Q':Value->Shared->Prop} (I:Inv X pins σ H s)
  (h:zfg acc wi own.length fr g tc tm σ H Q)
  (hq:∀ (p C:Addr) (H':Hp) (s':Shared) (m:Str->Option Value),Inv X pins σ H' s'->Q p H'->s'.heap.Ns C m->H' C=none->C≠X.env.locals->X.s₀.heap.objs.size<=C->(∀ x c,X.env.cells.lookup x=some c->c≠C)->(∀ q∈X.pn++pins,q.1≠C) ->
   compPost (model X.prog X.w) X.A X.xe use Q' (.ref p) C (.ok .next) s') :
  wpAny (model X.prog X.w) X.A (comprehension e sc X.env pos newAcc false (eval iter X.env) use) Q' X.xe s:=by
 obtain⟨gs,hcl⟩:=F.cl;refine wpAny_comprehension_free hcl hs (zfl (S.cells I)) S.kind S.names (thn (hi pins s σ H _ I h) fun v s1 h1=>thn h1 fun itv s2 h2=>?_);obtain⟨it,fp,tn,J,H2,e2,I2,T,st2,f2,q2⟩:=h2;subst e2;refine hnew pins s2 σ H2 _ _ I2 fun p s3 np hp k3 os3 I3=>?_
 obtain⟨W,⟨m0,w0⟩,turn⟩:=q2 p np;refine wpAny_newFunctionEnv S.nocell (by intro x hx;simp at hx) (fun h₁ hns hsb=>?_) S.kind;have hk:∀ b o,s3.heap.get? b=some o->h₁.get? b=some o:=fun b o eb=>hsb.extBut b o (zpH (zpo eb)) (zpa _ eb)
 have ob2:∀ b∈fp,∃ o,s2.heap.get? b=some o:=fun b hb=>let ⟨o,eo,_⟩:=T.obj _ _ st2 b hb;⟨o,eo⟩
 have fpn:∀ b∈fp,b≠p:=fun b hb z=>by
  obtain⟨o,eo⟩:=ob2 b hb;rw [z,hp] at eo;exact absurd (zpo eo) (Nat.lt_irrefl _)
 have f3:∀ b∈fp,ziz X pins (upd H2 p acc) b:=fun b hb=>by
  obtain⟨a1,a2⟩:=f2 b hb;exact⟨by rw [zal (fpn b hb)];exact a1,a2⟩
 have ob3:∀ b∈fp,∃ o,s3.heap.get? b=some o:=fun b hb=>let ⟨o,eo⟩:=ob2 b hb;⟨o,k3 b o eo⟩
 have I4:=zkl (own:=own) (t:=s3.toks+([]:List (Str × Value)).length) S I3 f3 ob3 (h₁:=h₁) hns hk;have st4:tn 0 h₁:=T.keep _ _ _ st2 fun b hb o eo=>hk b o (k3 b o eo)
 have hfp:∀ b∈fp,b≠s3.heap.objs.size/\b ∉ frs X.stack/\∀ x c,(zcf sc X.env).lookup x=some c->c≠b:=fun b hb=>by
  obtain⟨_,f1,f2',_,f4,_⟩:=f3 b hb;obtain⟨o,eo⟩:=ob3 b hb;refine⟨zpH (zpo eo),fun z=>?_,fun x c ec=>f4 x c (S.look I3 ec)⟩;rcases zpG.mp (I3.stkSub b z) with q | q
  ·exact f1 q
  ·exact f2' q
 have loop:codeAny (model X.prog X.w) X.A (.compLoop e 0 (.ref it) (.ref p) (compEnvC sc (zcf sc X.env) s3.heap.objs.size X.env)) (compPost (model X.prog X.w) X.A X.xe use Q' (.ref p) s3.heap.objs.size) { s3 with heap:=h₁,toks:=s3.toks+([]:List (Str × Value)).length }:=by
  refine ziO (s₀:=s3) (H₀:=upd H2 p acc) (own:=own) (fr:=fr) (Q:=fun H'=>Q p H') F hc (hg _ _ _ _) (ht _ _ _ _) (hm _ _ _ _) T hfp W turn (fun σ' H' s' J' qq=>?_) I4 st4 (fun b hb=>(f3 b hb).1) w0;obtain⟨m,hn,_⟩:=J'.loc;have un:Un (frs X.stack) fp H2 H' s2.heap s'.heap:=(Un.laid (o:=acc) k3 (by rw [hp];exact zpd _) np).trans J'.base;have IX:Inv X pins σ H' s':=I2.call' (ch:=fp) (J'.os.trans os3) un J'.hok J'.bare fun b hb=>by
   obtain⟨_,f1,_,f3',f4,f5⟩:=f2 b hb;exact⟨f3',f1,f4,f5⟩
  refine hq p s3.heap.objs.size H' s' m IX qq hn J'.free (Ne.symm (zpH I3.lt)) I3.sz (fun x c ec=>?_) fun q hq'=>?_
  ·obtain⟨v,o,eo,_⟩:=I3.cell x c ec;exact zpH (zpo eo)
  ·exact zpH (zpo (I3.pin q hq').1)
 exact F.start _ _ _ _ _ _ _ _ loop (T.self _ _ _ _ _ st4 loop)
theorem zcC (F:zbW e tg iter ifs emit) (hc:X.calm=true) (S:zaI X sc fr) (hi:PI X tg iter wi) (hnew:zmB X newAcc acc)
  (hg:∀ C s₀ H₀ fp,PG (zav X sc own fr C s₀ H₀ fp) tg g) (ht:∀ C s₀ H₀ fp,PTs (zav X sc own fr C s₀ H₀ fp) ifs tc) (hm:∀ C s₀ H₀ fp,PM (zav X sc own fr C s₀ H₀ fp) emit tm)
  (hs:∀ x,foldedSetIterable iter X.env x=pure x) {pins:List (Addr × Obj)} {s:Shared} {σ:St} {H:Hp} {Q:VK} (I:Inv X pins σ H s)
  (h:zfg acc wi own.length fr g tc tm σ H fun p H'=>Q (.ref p) H') :
  wpAny (model X.prog X.w) X.A (comprehension e sc X.env pos newAcc false (eval iter X.env) none) (EP X pins σ Q) X.xe s:=by
 refine zhs F hc S hi hnew hg ht hm hs I h fun p C H' s' m I' q hn h1 h2 h3 h4 h5=>⟨m,hn,fun h' hb=>?_⟩
 exact⟨.ref p,H',I'.turned (t':=s'.toks) (fun b o hne eo=>hb.extBut b o hne eo) h1 h2 (.inr h3) h4 h5,rfl,q⟩
theorem zh1 (F:zbW e tg iter ifs emit) (hc:X.calm=true) (S:zaI X sc fr) (hi:PI X tg iter wi) (hnew:zmB X newAcc acc)
  (hg:∀ C s₀ H₀ fp,PG (zav X sc own fr C s₀ H₀ fp) tg g) (ht:∀ C s₀ H₀ fp,PTs (zav X sc own fr C s₀ H₀ fp) ifs tc) (hm:∀ C s₀ H₀ fp,PM (zav X sc own fr C s₀ H₀ fp) emit tm)
  (hs:∀ x,foldedSetIterable iter X.env x=pure x) {pins:List (Addr × Obj)} {s:Shared} {σ:St} {H:Hp} {D:zj4} {j:Nat} {y:Str} {py:Pos} (hN:X.N.Nodup) (hj:X.N[j]?=some y) (hy:Loc X.env.scope y)
  (hf:X.fn y=true\/X.env.scope.names.lookup y=some .local) (I:Inv X pins σ H s)
  (h:zfg acc wi own.length fr g tc tm σ H fun p H'=>D.nx (σ.set j (some (.ref p))) H') :
  wpAny (model X.prog X.w) X.A (comprehension e sc X.env pos newAcc false (eval iter X.env) (some (assign (.Name y py) X.env))) (fun _ s'=>SP X pins D .next s') X.xe s:=by
 refine zhs F hc S hi hnew hg ht hm hs I h fun p C H' s' m I' q hn h1 h2 h3 h4 h5=>?_
 show wpAny _ _ (assign (.Name y py) X.env (.ref p)) _ _ s';refine wpAny_assign_Name (zgz I' hN hj hy (show zaW (V.ref p) (Value.ref p) from rfl) (fun s2 I2 ⟨a,sb,ha⟩=>?_) hf);have hCa:C≠a:=by
  rcases ha with z | z
  ·rw [z];exact h2
  ·exact fun w=>h4 y a z w.symm
 refine⟨m,hn.sameBut sb hCa,fun h' hb=>?_⟩;exact⟨_,H',I2.turned (t':=s2.toks) (fun b o hne eo=>hb.extBut b o hne eo) h1 h2 (.inr h3) h4 h5,q⟩
end
def zkd (elt:Expr):Env->Addr->Sem Unit:=fun env D=>do let _ ← call (.builtin "list.append") [.ref D,← eval elt env]
theorem zge {elt tg iter:Expr} {ifs:List Expr} {sc:Scope} {pos:Pos}:zbW (.ListComp elt [⟨tg,iter,ifs,0⟩] sc pos) tg iter ifs (zkd elt) :=
 ⟨⟨_,rfl⟩,fun _ _ _ _=>rfl,fun _ _ _ _ _=>rfl,fun _ _ _=>rfl,fun _ _ _ _ _ _ _ _ h0 h=>codeAny_compStart_list h0 h⟩
def znW (te:TE):TM:=fun p σ H Q=>te σ H fun y H1=>∃ ys,H1 p=some (.lst ys)/\ys.length<sizeLine/\Q (upd H1 p (.lst (ys++[y])))
theorem zfJ {X:Cx} {elt:Expr} {te:TE} (h:PE X elt te):PM X (zkd elt) (znW te):=by
 intro pins s σ H D Q I hw;unfold zkd;refine wpAny_bind (thn (h pins s σ H _ I hw) fun u s1 ⟨y,H1,I1,r1,ys,e1,l1,q1⟩=>wpAny_bind ?_);obtain⟨z,its,n,r,hl,e⟩:=I1.lstM e1;refine call_meets F.slot_list_append ⟨_,e,rfl⟩ F.entry_list_append (F.args_list_append_2 _ _) (PySem.list_append D its.toArray n u (by rw [zpz];omega)) ⟨e,?_⟩;refine wpAny_pure ⟨_,I1.lset (its':=its++[u]) e1 e (by simp) (r.append (.cons r1 .nil)) ?_,q1⟩;rw [zo7,List.length_singleton];omega
def tLC (wi:TI) (n:Nat) (fr:List Nat) (g:TG) (tc:TT) (te:TE):TE:=fun σ H Q=>zfg (.lst []) wi n fr g tc (znW te) σ H fun p H'=>Q (.ref p) H'
section
variable {X:Cx} {sc:Scope} {own:List Str} {fr:List Nat} {elt tg iter:Expr} {ifs:List Expr} {wi:TI} {g:TG} {tc:TT} {te:TE} {pos:Pos}
theorem zbx (hc:X.calm=true) (S:zaI X sc fr) (hi:PI X tg iter wi)
  (hg:∀ C s₀ H₀ fp,PG (zav X sc own fr C s₀ H₀ fp) tg g) (ht:∀ C s₀ H₀ fp,PTs (zav X sc own fr C s₀ H₀ fp) ifs tc) (he:∀ C s₀ H₀ fp,PE (zav X sc own fr C s₀ H₀ fp) elt te)
  (hs:∀ x,foldedSetIterable iter X.env x=pure x:=by intro _;rfl):PE X (.ListComp elt [⟨tg,iter,ifs,0⟩] sc pos) (tLC wi own.length fr g tc te):=by
 intro pins s σ H Q I h;rw [eval_ListComp];exact zcC zge hc S hi zdk hg ht (fun _ _ _ _=>zfJ (he _ _ _ _)) hs I h
theorem znr {j:Nat} {y:Str} {py spos:Pos} (hc:X.calm=true) (hN:X.N.Nodup) (hj:X.N[j]?=some y) (hy:Loc X.env.scope y) (S:zaI X sc fr) (hi:PI X tg iter wi)
  (hg:∀ C s₀ H₀ fp,PG (zav X sc own fr C s₀ H₀ fp) tg g) (ht:∀ C s₀ H₀ fp,PTs (zav X sc own fr C s₀ H₀ fp) ifs tc) (he:∀ C s₀ H₀ fp,PE (zav X sc own fr C s₀ H₀ fp) elt te)
  (hsw:swapsWith (.ListComp elt [⟨tg,iter,ifs,0⟩] sc pos) (some (.Name y py)) spos.line X.env=pure true:=by rfl)
  (hf:X.fn y=true\/X.env.scope.names.lookup y=some .local:=by first | exact .inl rfl | exact .inr rfl | assumption)
  (hs:∀ x,foldedSetIterable iter X.env x=pure x:=by intro _;rfl):PS X (.Assign [.Name y py] (.ListComp elt [⟨tg,iter,ifs,0⟩] sc pos) spos) (zoL (tLC wi own.length fr g tc te) (zlG j)):=by
 intro pins s σ H D I h;rw [exec_Assign_Name_used _ _ _ _ hsw];refine wpAny_bind (wpAny_standAt (wpAny_bind ?_));show wpAny _ _ (do let _ ← comprehension (.ListComp elt [⟨tg,iter,ifs,0⟩] sc pos) sc X.env _ (newList []) false (eval iter X.env) (some (assign (.Name y py) X.env))) _ _ s;refine wpAny_bind (thn (zh1 zge hc S hi zdk hg ht (fun _ _ _ _=>zfJ (he _ _ _ _)) hs hN hj hy hf I h) fun _ s' q=>wpAny_pure (wpAny_pure q))
end
def zlB (kx vx:Expr):Env->Addr->Sem Unit:=fun env D=>do
 let kv ← eval kx env
 let vv ← holding [kv] (eval vx env)
 standAt { kx.pos with endLine:=vx.pos.endLine,endCol:=vx.pos.endCol }
 holding [kv,vv] (dictSet D kv vv)
theorem zja {kx vx tg iter:Expr} {ifs:List Expr} {sc:Scope} {pos:Pos}:zbW (.DictComp kx vx [⟨tg,iter,ifs,0⟩] sc pos) tg iter ifs (zlB kx vx) :=
 ⟨⟨_,rfl⟩,fun _ _ _ _=>rfl,fun _ _ _ _ _=>rfl,fun _ _ _=>rfl,fun _ _ _ _ _ _ _ _ h0 h=>codeAny_compStart_dict h0 h⟩
def mPut (tk tv:TE):TM:=fun p σ H Q=>tk σ H fun k H1=>tv σ H1 fun v H2=>∃ kvs key,H2 p=some (.dK kvs)/\k=kV key/\kvs.length<sizeLine/\Q (upd H2 p (.dK (zgp kvs key v)))
theorem zl6 {X:Cx} {kx vx:Expr} {tk tv:TE} (hk:PE X kx tk) (hv:PE X vx tv):PM X (zlB kx vx) (mPut tk tv):=by
 intro pins s σ H D Q I hw;unfold zlB;refine wpAny_bind (thn (hk pins s σ H _ I hw) fun u s1 ⟨k,H1,I1,r1,q1⟩=>wpAny_bind (wpAny_holding (thn (hv pins s1 σ H1 _ I1 q1) fun w s2 ⟨v,H2,I2,r2,kvs,key,e,ey,l,q2⟩=>?_)));refine wpAny_bind (wpAny_standAt (wpAny_holding ?_));subst ey;obtain⟨z,hd,vs,rel,dd⟩:=zgP I2.hok e;have hz:vs.length<=sizeLine:=by rw [← rel.length];exact z
 have hl:(zgp kvs key v).length<=sizeLine:=by have:=zcY kvs key v;omega
 refine wpAny_dictSet_pairs (hsz:=hz) (zgW r1) dd fun h' dd' hs=>⟨_,?_,q2⟩
 have he:∃ q,h'.get? D=some q:=let ⟨q,_,_,hq,_⟩:=dd';⟨q,hq⟩;exact zfn I2 (by rw [e];exact True.intro) hs he (ziU hl hd (rel.put key r2) dd')
def tDC (wi:TI) (n:Nat) (fr:List Nat) (g:TG) (tc:TT) (tk tv:TE):TE:=fun σ H Q=>zfg (.dK []) wi n fr g tc (mPut tk tv) σ H fun p H'=>Q (.ref p) H'
section
variable {X:Cx} {sc:Scope} {own:List Str} {fr:List Nat} {kx vx tg iter:Expr} {ifs:List Expr} {wi:TI} {g:TG} {tc:TT} {tk tv:TE} {pos:Pos}
theorem zoy (hc:X.calm=true) (S:zaI X sc fr) (hi:PI X tg iter wi)
  (hg:∀ C s₀ H₀ fp,PG (zav X sc own fr C s₀ H₀ fp) tg g) (ht:∀ C s₀ H₀ fp,PTs (zav X sc own fr C s₀ H₀ fp) ifs tc) (hk:∀ C s₀ H₀ fp,PE (zav X sc own fr C s₀ H₀ fp) kx tk) (hv:∀ C s₀ H₀ fp,PE (zav X sc own fr C s₀ H₀ fp) vx tv)
  (hs:∀ x,foldedSetIterable iter X.env x=pure x:=by intro _;rfl):PE X (.DictComp kx vx [⟨tg,iter,ifs,0⟩] sc pos) (tDC wi own.length fr g tc tk tv):=by
 intro pins s σ H Q I h;show wpAny _ _ (comprehension (.DictComp kx vx [⟨tg,iter,ifs,0⟩] sc pos) sc X.env _ newDict false (eval iter X.env)) _ _ s;exact zcC zja hc S hi zjF hg ht (fun _ _ _ _=>zl6 (hk _ _ _ _) (hv _ _ _ _)) hs I h
end
theorem zat {K:PySem.W.Frag} {a:Addr} {xs:List V} {g:TG} {tc:TT} {tm:TM} {σ:St} {H:Hp} {p:Addr} {Q:Hp->Prop} (Pv:Nat->St->Hp->Prop) (h0:Pv 0 σ H)
  (hl:∀ i σ H,i<=xs.length->Pv i σ H->SqL K H a xs)
  (hs:∀ i x σ H,xs[i]?=some x->Pv i σ H->g x σ H fun σ3 H3=>tc σ3 H3 fun b H4=>if b=true then tm p σ3 H4 (Pv (i+1) σ3) else Pv (i+1) σ3 H4) (hd:∀ σ H,Pv xs.length σ H->Q H) :
  ∃ W:Nat->Nat->St->Hp->Prop,(∃ m,W 0 m σ H) /\
  ∀ i m σ' H',W i m σ' H'->((Itl K a).stop i H'/\Q H')\/((Itl K a).go i H'/\∃ N:St->Hp->Prop,(∀ σ2 H2,N σ2 H2->∃ m',m'<m/\W (i+1) m' σ2 H2)/\∀ x H2,(Itl K a).yld i H' x H2->g x σ' H2 fun σ3 H3=>tc σ3 H3 fun b H4 =>
   if b=true then tm p σ3 H4 (N σ3) else N σ3 H4):=by
 refine⟨fun i m σ H=>m=xs.length-i/\i<=xs.length/\Pv i σ H,⟨xs.length,by simp,Nat.zero_le _,h0⟩,?_⟩;rintro i m σ H ⟨rfl,hi,pv⟩;have q:=hl i σ H hi pv;by_cases hlt:i<xs.length
 ·refine .inr ⟨⟨xs,xs[i],q,by simp [hlt]⟩,Pv (i+1),fun σ' H' p'=>⟨xs.length-(i+1),by omega,rfl,hlt,p'⟩,fun x H' y=>?_⟩;obtain⟨e,y⟩:=y;subst e;exact hs i x σ _ (y xs q) pv
 ·have e:i=xs.length:=by omega
  subst e;exact .inl ⟨⟨xs,q,zpd _⟩,hd σ H pv⟩
theorem zcB {K:PySem.W.Frag} {a:Addr} {xs:List V} {g:TG} {tc:TT} {tm:TM} {σ:St} {H:Hp} {p:Addr} {Q:Hp->Prop} (Pv:Nat->St->Hp->Prop) (h0:Pv 0 σ H)
  (hl:∀ i σ H,i<=xs.length->Pv i σ H->SqT K H a xs)
  (hs:∀ i x σ H,xs[i]?=some x->Pv i σ H->g x σ H fun σ3 H3=>tc σ3 H3 fun b H4=>if b=true then tm p σ3 H4 (Pv (i+1) σ3) else Pv (i+1) σ3 H4) (hd:∀ σ H,Pv xs.length σ H->Q H) :
  ∃ W:Nat->Nat->St->Hp->Prop,(∃ m,W 0 m σ H) /\
  ∀ i m σ' H',W i m σ' H'->((Itt K a).stop i H'/\Q H')\/((Itt K a).go i H'/\∃ N:St->Hp->Prop,(∀ σ2 H2,N σ2 H2->∃ m',m'<m/\W (i+1) m' σ2 H2)/\∀ x H2,(Itt K a).yld i H' x H2->g x σ' H2 fun σ3 H3=>tc σ3 H3 fun b H4 =>
   if b=true then tm p σ3 H4 (N σ3) else N σ3 H4):=by
 refine⟨fun i m σ H=>m=xs.length-i/\i<=xs.length/\Pv i σ H,⟨xs.length,by simp,Nat.zero_le _,h0⟩,?_⟩;rintro i m σ H ⟨rfl,hi,pv⟩;have q:=hl i σ H hi pv;by_cases hlt:i<xs.length
 ·refine .inr ⟨⟨xs,xs[i],q,by simp [hlt]⟩,Pv (i+1),fun σ' H' p'=>⟨xs.length-(i+1),by omega,rfl,hlt,p'⟩,fun x H' y=>?_⟩;obtain⟨e,y⟩:=y;subst e;exact hs i x σ _ (y xs q) pv
 ·have e:i=xs.length:=by omega
  subst e;exact .inl ⟨⟨xs,q,zpd _⟩,hd σ H pv⟩
theorem zbQ {lo:Int} {n:Nat} {g:TG} {tc:TT} {tm:TM} {σ:St} {H:Hp} {p:Addr} {Q:Hp->Prop} (Pv:Nat->St->Hp->Prop) (h0:Pv 0 σ H)
  (hs:∀ i σ H,i<n->Pv i σ H->g (.int (lo+i)) σ H fun σ3 H3=>tc σ3 H3 fun b H4=>if b=true then tm p σ3 H4 (Pv (i+1) σ3) else Pv (i+1) σ3 H4) (hd:∀ σ H,Pv n σ H->Q H) :
  ∃ W:Nat->Nat->St->Hp->Prop,(∃ m,W 0 m σ H) /\
  ∀ i m σ' H',W i m σ' H'->((Itr lo n).stop i H'/\Q H')\/((Itr lo n).go i H'/\∃ N:St->Hp->Prop,(∀ σ2 H2,N σ2 H2->∃ m',m'<m/\W (i+1) m' σ2 H2)/\∀ x H2,(Itr lo n).yld i H' x H2->g x σ' H2 fun σ3 H3=>tc σ3 H3 fun b H4 =>
   if b=true then tm p σ3 H4 (N σ3) else N σ3 H4):=by
 refine⟨fun i m σ H=>m=n-i/\i<=n/\Pv i σ H,⟨n,by simp,Nat.zero_le _,h0⟩,?_⟩;rintro i m σ H ⟨rfl,hi,pv⟩;by_cases hlt:i<n
 ·refine .inr ⟨hlt,Pv (i+1),fun σ' H' p'=>⟨n-(i+1),by omega,rfl,hlt,p'⟩,fun x H' y=>?_⟩;obtain⟨e,y⟩:=y;subst e y;exact hs i σ _ hlt pv
 ·have e:i=n:=by omega
  subst e;exact .inl ⟨zpd _,hd σ H pv⟩
end L2
end
section
namespace L2
open PySem PySem.Spec PyProof.Rows
inductive DD where
 | non | bl (b:Bool) | int (i:Int) | str (x:Str) | lst (ds:List DD) | tup (ds:List DD)
mutual
def dep:DD->Nat
 | .lst ds=>zgE ds+1
 | .tup ds=>zgE ds+1
 | _=>0
def zgE:List DD->Nat
 | []=>0
 | d::ds=>max (dep d) (zgE ds)
end
mutual
def eqD:DD->DD->Bool
 | .non,.non=>true
 | .bl a,.bl b=>a == b
 | .bl a,.int b=>(if a then 1 else 0) == b
 | .int a,.bl b=>a == (if b then 1 else 0)
 | .int a,.int b=>a == b
 | .str a,.str b=>a == b
 | .lst as,.lst bs=>zhA as bs
 | .tup as,.tup bs=>zhA as bs
 | _,_=>false
def zhA:List DD->List DD->Bool
 | [],[]=>true
 | a::as,b::bs=>eqD a b && zhA as bs
 | _,_=>false
end
mutual
def Den (H:Hp) (v:V):DD->Prop
 | .non=>v=.non
 | .bl b=>v=.bl b
 | .int i=>v=.int i
 | .str x=>v=.str x
 | .lst ds=>∃ a xs,v=.ref a/\H a=some (.lst xs)/\zcA H xs ds
 | .tup ds=>∃ a xs,v=.ref a/\H a=some (.tup xs)/\zcA H xs ds
def zcA (H:Hp) (xs:List V):List DD->Prop
 | []=>xs=[]
 | d::ds=>∃ x r,xs=x::r/\Den H x d/\zcA H r ds
end
theorem zfo:∀ {ds:List DD} {d:DD},d∈ds->dep d<=zgE ds
 | d::ds,e,h=>by
  rw [zgE];rcases zpG.mp h with rfl | h
  ·omega
  ·have:=zfo h
   omega
theorem zcA.length:∀ {H:Hp} {xs:List V} {ds:List DD},zcA H xs ds->xs.length=ds.length
 | _,_,[],h=>by rw [zcA] at h;subst h;rfl
 | _,_,d::ds,h=>by
  rw [zcA] at h;obtain⟨x,r,rfl,_,h⟩:=h;simp [zcA.length h]
theorem zcA.get {H:Hp}:∀ {xs:List V} {ds:List DD} {i:Nat} {d:DD},zcA H xs ds->ds[i]?=some d->∃ x,xs[i]?=some x/\Den H x d
 | _,[],_,_,_,e=>by simp at e
 | _,d::ds,i,c,h,e=>by
  rw [zcA] at h;obtain⟨x,r,rfl,h1,h⟩:=h;cases i with
  | zero=>simp at e;subst e;exact⟨x,rfl,h1⟩
  | succ i =>
   obtain⟨y,e1,e2⟩:=zcA.get (i:=i) h (by simpa using e);exact⟨y,by simpa using e1,e2⟩
theorem zcA.get' {H:Hp} {xs:List V} {ds:List DD} {i:Nat} {x:V} (h:zcA H xs ds) (e:xs[i]?=some x):∃ d,ds[i]?=some d/\Den H x d:=by
 have hi:i<ds.length:=by rw [← h.length];exact (zo1.mp e).1
 obtain⟨y,e1,e2⟩:=h.get (zoZ hi);rw [e] at e1;cases e1;exact⟨_,zoZ hi,e2⟩
def Sub (G H:Hp):Prop:=∀ a o,G a=some o->H a=some o
theorem Sub.refl {H:Hp}:Sub H H:=fun _ _ h=>h
theorem Sub.trans {A B C:Hp} (h:Sub A B) (h':Sub B C):Sub A C:=fun a o e=>h' a o (h a o e)
theorem Sub.upd {G H:Hp} {p:Addr} {o:HO} (h:Sub G H) (n:G p=none):Sub G (upd H p o):=fun a u e=>by
 rw [zal (zay e n)];exact h a u e
theorem Sub.new {H:Hp} {p:Addr} {o:HO} (n:H p=none):Sub H (L2.upd H p o):=Sub.upd Sub.refl n
theorem Sub.free {G H:Hp} {p:Addr} (h:Sub G H) (n:H p=none):G p=none:=by
 cases e:G p with
 | none=>rfl
 | some o=>rw [h p o e] at n;cases n
mutual
theorem Den.inj {H:Hp}:∀ {v:V} (d e:DD),Den H v d->Den H v e->d=e
 | v,.non,e,h,h'=>by
  rw [Den] at h;subst h;cases e <;> rw [Den] at h' <;> first | rfl | (cases h';done) | (obtain⟨_,_,z,_⟩:=h';cases z)
 | v,.bl b,e,h,h'=>by
  rw [Den] at h;subst h;cases e <;> rw [Den] at h' <;> first | (cases h';rfl) | (cases h';done) | (obtain⟨_,_,z,_⟩:=h';cases z)
 | v,.int b,e,h,h'=>by
  rw [Den] at h;subst h;cases e <;> rw [Den] at h' <;> first | (cases h';rfl) | (cases h';done) | (obtain⟨_,_,z,_⟩:=h';cases z)
 | v,.str b,e,h,h'=>by
  rw [Den] at h;subst h;cases e <;> rw [Den] at h' <;> first | (cases h';rfl) | (cases h';done) | (obtain⟨_,_,z,_⟩:=h';cases z)
 | v,.lst ds,e,h,h'=>by
  rw [Den] at h;obtain⟨a,xs,rfl,h1,h2⟩:=h;cases e <;> rw [Den] at h' <;> first | (cases h';done) | (obtain⟨b,ys,z,h3,h4⟩:=h';cases z;rw [h1] at h3;cases h3;done) | (obtain⟨b,ys,z,h3,h4⟩:=h';cases z;rw [h1] at h3;cases h3;rw [zcA.inj ds _ h2 h4])
 | v,.tup ds,e,h,h'=>by
  rw [Den] at h;obtain⟨a,xs,rfl,h1,h2⟩:=h;cases e <;> rw [Den] at h' <;> first | (cases h';done) | (obtain⟨b,ys,z,h3,h4⟩:=h';cases z;rw [h1] at h3;cases h3;done) | (obtain⟨b,ys,z,h3,h4⟩:=h';cases z;rw [h1] at h3;cases h3;rw [zcA.inj ds _ h2 h4])
theorem zcA.inj {H:Hp}:∀ {xs:List V} (ds es:List DD),zcA H xs ds->zcA H xs es->ds=es
 | _,[],es,h,h'=>by
  rw [zcA] at h;subst h;cases es with
  | nil=>rfl
  | cons e es=>obtain⟨_,_,z,_⟩:=h';cases z
 | _,d::ds,es,h,h'=>by
  rw [zcA] at h;obtain⟨x,r,rfl,h1,h2⟩:=h;cases es with
  | nil=>cases h'
  | cons e es =>
   obtain⟨y,q,z,h3,h4⟩:=h';cases z;rw [Den.inj d e h1 h3,zcA.inj ds es h2 h4]
end
mutual
theorem zbu:∀ d:DD,eqD d d=true
 | .non=>by simp [eqD]
 | .bl b=>by simp [eqD]
 | .int b=>by simp [eqD]
 | .str b=>by simp [eqD]
 | .lst ds=>by rw [eqD];exact zd7 ds
 | .tup ds=>by rw [eqD];exact zd7 ds
theorem zd7:∀ ds:List DD,zhA ds ds=true
 | []=>by simp [zhA]
 | d::ds=>by rw [zhA,zbu d,zd7 ds];rfl
end
theorem zfp:∀ as bs:List DD,zhA as bs=((List.range (min as.length bs.length)).all (fun j=>eqD (as.getD j .non) (bs.getD j .non)) && as.length == bs.length)
 | [],[]=>by simp [zhA]
 | [],b::bs=>by simp [zhA]
 | a::as,[]=>by simp [zhA]
 | a::as,b::bs=>by
  rw [zhA,zfp as bs];rw [show min (a::as).length (b::bs).length=min as.length bs.length+1 by simp only [zpA];omega];rw [List.range_succ_eq_map,List.all_cons,List.all_map];simp only [List.getD_cons_zero,zpA,Bool.and_assoc]
  congr 1
  congr 1
  have:∀ (m n:Nat),(m+1 == n+1)=(m == n):=fun m n=>by
   by_cases h:m=n
   ·subst h;simp
   ·rw [beq_eq_false_iff_ne.mpr h,beq_eq_false_iff_ne.mpr (by omega)]
  rw [this]
section
variable {X:Cx} {pins:List (Addr × Obj)} {σ:St} {H:Hp} {s:Shared}
open PySem.SeqAt
def zn1 (A:Around) (s:Shared) (u v:Value) (b:Bool):Prop:=EqAt A s u v b/\RcAt A s u v b/\RcNeAt A s u v (!b)
theorem zdt {H:Hp} {xs:List V} {ds:List DD} {us:List Value} (h:zcA H xs ds) (r:zaT xs us) {j:Nat} (hj:j<us.toArray.size):∃ x d,Den H x d/\zaW x (us.toArray[j])/\ds.getD j .non=d/\d∈ds:=by
 rw [zpz] at hj;have hj':j<xs.length:=by rw [r.length];exact hj
 obtain⟨u,e1,e2⟩:=r.get (zoZ hj');obtain⟨d,e3,e4⟩:=h.get' (zoZ hj');refine⟨_,d,e4,?_,?_,zo2 e3⟩
 ·rw [zoZ hj] at e1;cases e1;simpa using e2
 ·rw [zpF,e3];rfl
theorem zi1 (I:Inv X pins σ H s):∀ (n:Nat) (d e:DD) (A:Around) (x y:V) (u v:Value),dep d<=n->Den H x d->Den H y e->zaW x u->zaW y v->A.units+n<cLine->zn1 A s u v (eqD d e):=by
 intro n
 induction n with
 | zero =>
  intro d e A x y u v hd hx hy rx ry hu;cases d with
  | lst ds=>simp [dep] at hd
  | tup ds=>simp [dep] at hd
  | non =>
   rw [Den] at hx;subst hx;cases rx;cases e with
   | non=>rw [Den] at hy;subst hy;cases ry;exact⟨EqAt.same _,RcAt.none_none,RcNeAt.none_none⟩
   | bl b=>rw [Den] at hy;subst hy;cases ry;exact⟨EqAt.none_bool b,RcAt.none_bool b,RcNeAt.none_bool b⟩
   | int b=>rw [Den] at hy;subst hy;obtain⟨t,rfl⟩:=ry;exact⟨EqAt.none_int b t,RcAt.none_int b t,RcNeAt.none_int b t⟩
   | str b=>rw [Den] at hy;subst hy;obtain⟨t,rfl⟩:=ry;exact⟨EqAt.none_str b t,RcAt.none_str b t,RcNeAt.none_str b t⟩
   | lst es=>rw [Den] at hy;obtain⟨a,xs,rfl,h1,h2⟩:=hy;cases ry;obtain⟨its,_,p,_⟩:=I.list (SqL.of h1);exact⟨EqAt.none_list p.isList hu,RcAt.none_list p.isList hu,RcNeAt.none_list p.isList hu⟩
   | tup es=>rw [Den] at hy;obtain⟨a,xs,rfl,h1,h2⟩:=hy;cases ry;obtain⟨its,_,p,_⟩:=I.tuple (SqT.of h1);exact⟨EqAt.none_tuple p hu,RcAt.none_tuple p hu,RcNeAt.none_tuple p hu⟩
  | bl a =>
   rw [Den] at hx;subst hx;cases rx;cases e with
   | non=>rw [Den] at hy;subst hy;cases ry;exact⟨EqAt.bool_none a,RcAt.bool_none a,RcNeAt.bool_none a⟩
   | bl b=>rw [Den] at hy;subst hy;cases ry;exact⟨EqAt.bool_bool a b,RcAt.bool_bool a b,RcNeAt.bool_bool a b⟩
   | int b=>rw [Den] at hy;subst hy;obtain⟨t,rfl⟩:=ry;exact⟨EqAt.bool_int a b t,RcAt.bool_int a b t,RcNeAt.bool_int a b t⟩
   | str b=>rw [Den] at hy;subst hy;obtain⟨t,rfl⟩:=ry;exact⟨EqAt.bool_str a b t,RcAt.bool_str a b t,RcNeAt.bool_str a b t⟩
   | lst es=>rw [Den] at hy;obtain⟨b,xs,rfl,h1,h2⟩:=hy;cases ry;obtain⟨its,_,p,_⟩:=I.list (SqL.of h1);exact⟨EqAt.bool_list a p.isList hu,RcAt.bool_list a p.isList hu,RcNeAt.bool_list a p.isList hu⟩
   | tup es=>rw [Den] at hy;obtain⟨b,xs,rfl,h1,h2⟩:=hy;cases ry;obtain⟨its,_,p,_⟩:=I.tuple (SqT.of h1);exact⟨EqAt.bool_tuple a p hu,RcAt.bool_tuple a p hu,RcNeAt.bool_tuple a p hu⟩
  | int a =>
   rw [Den] at hx;subst hx;obtain⟨t',rfl⟩:=rx;cases e with
   | non=>rw [Den] at hy;subst hy;cases ry;exact⟨EqAt.int_none a t',RcAt.int_none a t',RcNeAt.int_none a t'⟩
   | bl b=>rw [Den] at hy;subst hy;cases ry;exact⟨EqAt.int_bool a t' b,RcAt.int_bool a t' b,RcNeAt.int_bool a t' b⟩
   | int b=>rw [Den] at hy;subst hy;obtain⟨t,rfl⟩:=ry;exact⟨EqAt.int_int a t' b t,RcAt.int_int a t' b t,RcNeAt.int_int a t' b t⟩
   | str b=>rw [Den] at hy;subst hy;obtain⟨t,rfl⟩:=ry;exact⟨EqAt.int_str a t' b t,RcAt.int_str a t' b t,RcNeAt.int_str a t' b t⟩
   | lst es=>rw [Den] at hy;obtain⟨b,xs,rfl,h1,h2⟩:=hy;cases ry;obtain⟨its,_,p,_⟩:=I.list (SqL.of h1);exact⟨EqAt.int_list a t' p.isList hu,RcAt.int_list a t' p.isList hu,RcNeAt.int_list a t' p.isList hu⟩
   | tup es=>rw [Den] at hy;obtain⟨b,xs,rfl,h1,h2⟩:=hy;cases ry;obtain⟨its,_,p,_⟩:=I.tuple (SqT.of h1);exact⟨EqAt.int_tuple a t' p hu,RcAt.int_tuple a t' p hu,RcNeAt.int_tuple a t' p hu⟩
  | str a =>
   rw [Den] at hx;subst hx;obtain⟨t',rfl⟩:=rx;cases e with
   | non=>rw [Den] at hy;subst hy;cases ry;exact⟨EqAt.str_none a t',RcAt.str_none a t',RcNeAt.str_none a t'⟩
   | bl b=>rw [Den] at hy;subst hy;cases ry;exact⟨EqAt.str_bool a t' b,RcAt.str_bool a t' b,RcNeAt.str_bool a t' b⟩
   | int b=>rw [Den] at hy;subst hy;obtain⟨t,rfl⟩:=ry;exact⟨EqAt.str_int a t' b t,RcAt.str_int a t' b t,RcNeAt.str_int a t' b t⟩
   | str b=>rw [Den] at hy;subst hy;obtain⟨t,rfl⟩:=ry;exact⟨EqAt.str_str a t' b t,RcAt.str_str a t' b t,RcNeAt.str_str a t' b t⟩
   | lst es=>rw [Den] at hy;obtain⟨b,xs,rfl,h1,h2⟩:=hy;cases ry;obtain⟨its,_,p,_⟩:=I.list (SqL.of h1);exact⟨EqAt.str_list a t' p.isList hu,RcAt.str_list a t' p.isList hu,RcNeAt.str_list a t' p.isList hu⟩
   | tup es=>rw [Den] at hy;obtain⟨b,xs,rfl,h1,h2⟩:=hy;cases ry;obtain⟨its,_,p,_⟩:=I.tuple (SqT.of h1);exact⟨EqAt.str_tuple a t' p hu,RcAt.str_tuple a t' p hu,RcNeAt.str_tuple a t' p hu⟩
 | succ n ih =>
  intro d e A x y u v hd hx hy rx ry hu;have hu0:A.units<cLine:=by omega
  cases d with
  | lst ds =>
   have hdl:∀ c∈ds,dep c<=n:=fun c hc=>by have:=zfo hc;rw [dep] at hd;omega
   have hxd:=hx;rw [Den] at hx;obtain⟨a,xs,rfl,h1,h2⟩:=hx;cases rx;obtain⟨its,r,p,_⟩:=I.list (SqL.of h1);cases e with
   | non=>rw [Den] at hy;subst hy;cases ry;exact⟨EqAt.list_none p.isList hu0,RcAt.list_none p.isList hu0,RcNeAt.list_none p.isList hu0⟩
   | bl b=>rw [Den] at hy;subst hy;cases ry;exact⟨EqAt.list_bool b p.isList hu0,RcAt.list_bool b p.isList hu0,RcNeAt.list_bool b p.isList hu0⟩
   | int b=>rw [Den] at hy;subst hy;obtain⟨t,rfl⟩:=ry;exact⟨EqAt.list_int b t p.isList hu0,RcAt.list_int b t p.isList hu0,RcNeAt.list_int b t p.isList hu0⟩
   | str b=>rw [Den] at hy;subst hy;obtain⟨t,rfl⟩:=ry;exact⟨EqAt.list_str b t p.isList hu0,RcAt.list_str b t p.isList hu0,RcNeAt.list_str b t p.isList hu0⟩
   | tup es=>rw [Den] at hy;obtain⟨b,ys,rfl,h3,h4⟩:=hy;cases ry;obtain⟨its',_,p',_⟩:=I.tuple (SqT.of h3);exact⟨EqAt.list_tuple p.isList p' hu0,RcAt.list_tuple p.isList p' hu0,RcNeAt.list_tuple p.isList p' hu0⟩
   | lst es =>
    have hyd:=hy;rw [Den] at hy;obtain⟨b,ys,rfl,h3,h4⟩:=hy;cases ry;obtain⟨its',r',p',_⟩:=I.list (SqL.of h3);have l1:=h2.length;have l2:=h4.length;have l3:=r.length;have l4:=r'.length;have ch:∀ j (g1:j<its.toArray.size) (g2:j<its'.toArray.size),EqAt A.in1 s its.toArray[j] its'.toArray[j] (eqD (ds.getD j .non) (es.getD j .non)):=fun j g1 g2=>by
     obtain⟨x1,d1,a1,a2,a3,a4⟩:=zdt h2 r g1;obtain⟨x2,d2,b1,b2,b3,b4⟩:=zdt h4 r' g2;rw [a3,b3];exact (ih d1 d2 A.in1 x1 x2 _ _ (hdl d1 a4) a1 b1 a2 b2 (by show A.units+1+n<_;omega)).1
    have main:RcAt A s (.ref a) (.ref b) (eqD (.lst ds) (.lst es))/\RcNeAt A s (.ref a) (.ref b) (!eqD (.lst ds) (.lst es)):=by
     rw [eqD,zfp];by_cases hl:ds.length=es.length
     ·have hs:its.toArray.size=its'.toArray.size:=by simp;omega
      have e1:min ds.length es.length=its.toArray.size:=by simp;omega
      have e2:(ds.length == es.length)=true:=by simpa using hl
      rw [e1,e2,Bool.and_true];exact⟨RcAt.lists p.isList p'.isList hs hu0 ch,RcNeAt.lists p.isList p'.isList hs hu0 ch⟩
     ·have hs:(its.toArray.size != its'.toArray.size)=true:=by simp;omega
      have e2:(ds.length == es.length)=false:=by simpa using hl
      rw [e2,Bool.and_false];exact⟨RcAt.lists_lengths p.isList p'.isList hs hu0,RcNeAt.lists_lengths p.isList p'.isList hs hu0⟩
    refine⟨?_,main⟩;by_cases hab:a=b
    ·subst hab
     have:=Den.inj _ _ hxd hyd
     rw [this,zbu];exact EqAt.same _
    ·exact EqAt.of_refs hab main.1
  | tup ds =>
   have hdl:∀ c∈ds,dep c<=n:=fun c hc=>by have:=zfo hc;rw [dep] at hd;omega
   have hxd:=hx;rw [Den] at hx;obtain⟨a,xs,rfl,h1,h2⟩:=hx;cases rx;obtain⟨its,r,p,_⟩:=I.tuple (SqT.of h1);cases e with
   | non=>rw [Den] at hy;subst hy;cases ry;exact⟨EqAt.tuple_none p hu0,RcAt.tuple_none p hu0,RcNeAt.tuple_none p hu0⟩
   | bl b=>rw [Den] at hy;subst hy;cases ry;exact⟨EqAt.tuple_bool b p hu0,RcAt.tuple_bool b p hu0,RcNeAt.tuple_bool b p hu0⟩
   | int b=>rw [Den] at hy;subst hy;obtain⟨t,rfl⟩:=ry;exact⟨EqAt.tuple_int b t p hu0,RcAt.tuple_int b t p hu0,RcNeAt.tuple_int b t p hu0⟩
   | str b=>rw [Den] at hy;subst hy;obtain⟨t,rfl⟩:=ry;exact⟨EqAt.tuple_str b t p hu0,RcAt.tuple_str b t p hu0,RcNeAt.tuple_str b t p hu0⟩
   | lst es=>rw [Den] at hy;obtain⟨b,ys,rfl,h3,h4⟩:=hy;cases ry;obtain⟨its',_,p',_⟩:=I.list (SqL.of h3);exact⟨EqAt.tuple_list p p'.isList hu0,RcAt.tuple_list p p'.isList hu0,RcNeAt.tuple_list p p'.isList hu0⟩
   | tup es =>
    have hyd:=hy;rw [Den] at hy;obtain⟨b,ys,rfl,h3,h4⟩:=hy;cases ry;obtain⟨its',r',p',_⟩:=I.tuple (SqT.of h3);have l1:=h2.length;have l2:=h4.length;have l3:=r.length;have l4:=r'.length;have ch:∀ j (g1:j<its.toArray.size) (g2:j<its'.toArray.size),EqAt A.in1 s its.toArray[j] its'.toArray[j] (eqD (ds.getD j .non) (es.getD j .non)):=fun j g1 g2=>by
     obtain⟨x1,d1,a1,a2,a3,a4⟩:=zdt h2 r g1;obtain⟨x2,d2,b1,b2,b3,b4⟩:=zdt h4 r' g2;rw [a3,b3];exact (ih d1 d2 A.in1 x1 x2 _ _ (hdl d1 a4) a1 b1 a2 b2 (by show A.units+1+n<_;omega)).1
    have main:RcAt A s (.ref a) (.ref b) (eqD (.tup ds) (.tup es))/\RcNeAt A s (.ref a) (.ref b) (!eqD (.tup ds) (.tup es)):=by
     rw [eqD,zfp];have e1:min ds.length es.length=min its.toArray.size its'.toArray.size:=by simp;omega
     have e2:(ds.length == es.length)=(its.toArray.size == its'.toArray.size):=by
      rw [zpz,zpz,← l1,← l2,l3,l4]
     rw [e1,e2];exact⟨RcAt.tuples p p' hu0 ch,RcNeAt.tuples p p' hu0 ch⟩
    refine⟨?_,main⟩;by_cases hab:a=b
    ·subst hab
     have:=Den.inj _ _ hxd hyd
     rw [this,zbu];exact EqAt.same _
    ·exact EqAt.of_refs hab main.1
  | non=>exact ih .non e A x y u v (by simp [dep]) hx hy rx ry (by omega)
  | bl b=>exact ih (.bl b) e A x y u v (by simp [dep]) hx hy rx ry (by omega)
  | int b=>exact ih (.int b) e A x y u v (by simp [dep]) hx hy rx ry (by omega)
  | str b=>exact ih (.str b) e A x y u v (by simp [dep]) hx hy rx ry (by omega)
def rEqD:R2:=fun x y H Q=>∃ d e,Den H x d/\Den H y e/\dep d<=60/\Q (.bl (eqD d e)) H
def rNeD:R2:=fun x y H Q=>∃ d e,Den H x d/\Den H y e/\dep d<=60/\Q (.bl (!eqD d e)) H
theorem zgl {k:Nat} (hr:zcW k X.A):OpR X (compareOp .Eq) rEqD:=by
 intro pins s σ H x y v u Q I rx ry h;obtain⟨d,e,h1,h2,h3,q⟩:=h;have hu:=hr.units;exact (zi1 I 60 d e X.A x y _ _ h3 h1 h2 rx ry (by omega)).2.1 _ _ _ _ ⟨.bl _,H,I,rfl,q⟩
theorem zgm {k:Nat} (hr:zcW k X.A):OpR X (compareOp .NotEq) rNeD:=by
 intro pins s σ H x y v u Q I rx ry h;obtain⟨d,e,h1,h2,h3,q⟩:=h;have hu:=hr.units;exact (zi1 I 60 d e X.A x y _ _ h3 h1 h2 rx ry (by omega)).2.2 _ _ _ _ ⟨.bl _,H,I,rfl,q⟩
end
end L2
end
section
namespace L2
open PySem PySem.Spec PyProof.Rows
structure ExC (K:PySem.W.Frag) (C:Addr):Prop where
 ga:PySem.W.findIn K (.ref C) "__getattribute__"=some (some (.builtin "BaseException.__getattribute__"))
 na:PySem.W.findIn K (.ref C) "__getattr__"=some none
 cl:PySem.W.findIn K (.ref C) "__class__"=some (some (.builtin "object.__class__"))
 gt:PySem.W.specialIn K (.builtin "object.__class__") "__get__"=some (some (.builtin "getset_descriptor.__get__"))
 tk:PySem.W.takesIn K (.builtin "object.__class__")=some true
 mo:PySem.W.mroIn K C (.type "object")=some true
 mb:PySem.W.mroIn K C (.type "BaseException")=some true
 ci:(PySem.W.clsIn K C).isSome=true
def zf1 (x C:Addr) (h:Heap):Prop:=∃ o,h.get? x=some o/\o.cls=.ref C
theorem zf1.type {x C:Addr} {h:Heap} {M:Model} (e:zf1 x C h):PySem.W.Looks M h (typeOf (.ref x)) (.ref C):=by
 obtain⟨o,h1,h2⟩:=e;exact h2 ▸ (PySem.W.Looks.ld h1).andThen .now
section
variable {prog:Program} {w:World} {A:Around} {E:Value->Shared->Prop} {s:Shared} {K:PySem.W.Frag} {x C:Addr}
open PySem.W PySem.Builtin PySem.Builtin.ObjectAttr PySem.Builtin.Getset_descriptor
theorem zi2 {nameV:Value} {Q:Unit->Shared->Prop} {M:Model} (T:ExC K C) (X:K.In s.heap) (I:zf1 x C s.heap) (hq:Q () s):wpAny M A (checkBuiltinCall "BaseException.__getattribute__" ⟨[.ref x,nameV],[]⟩) Q E s:=by
 have hk:builtinKind "BaseException.__getattribute__"=some .slot:=by decide +kernel
 have hsplit:splitId "BaseException.__getattribute__"=some ("BaseException","__getattribute__"):=by decide +kernel
 have ha:=PySem.F.args_bexc_ga (.ref x) nameV;obtain⟨hh,g,d,t,os⟩:=s;have L0:=I.type (M:=M);have L1:=looks_mroIn (M:=M) X T.mb;simp only [checkBuiltinCall,hk,hsplit];refine wpAny_bind ?_;unfold isInstance;refine wpAny_bind (L0.at (L1.at ?_))
 repeat (first | wp_step)
 exact hq
theorem zlE {R:Result->Shared->Prop} {tp:Value} (X:K.In s.heap) (I:zf1 x C s.heap) (hm:mroIn K C (.type "object")=some true)
  (h:R (.ok (.ret (.ref C))) s):codeAny (model prog w) A (.call (.builtin "getset_descriptor.__get__") ⟨[.builtin "object.__class__",.ref x,tp],[]⟩) R s:=by
 obtain⟨hh,g,dr,t,os⟩:=s;have L0:=I.type (M:=model prog w);have L1:=looks_mroIn (M:=model prog w) X hm;refine codeAny_call_builtin KF.slot_gs.plain KF.entry_gs (KF.slot_gs.check _ _ _ _ _ _ _ _ KF.type_class (KF.args_gs _ _ _) ?_);unfold Builtin.«getset_descriptor.__get__» descrGet;rw [dga_obj];refine wpAny_bind (wpAny_pure ?_);unfold descrGetter descrCheckInstance descrNameAndClass isInstance;simp only [KF.owner_class]
 repeat lk
 refine⟨Code.quiet_builtin _ (by decide +kernel),codeAny_builtin KF.entry_class ?_⟩;unfold Builtin.«object.__class__» shownTypeOf
 repeat lk
 exact h
theorem zi4 {tk:Tok} {Q:Fin->Shared->Prop} (T:ExC K C) (X:K.In s.heap) (I:zf1 x C s.heap) (hq:Q (.done (.ret (.ref C))) s) :
  wpAny (model prog w) A (Builtin.«object.__getattribute__» ⟨[.ref x,.str "__class__" tk],[]⟩) Q E s:=by
 obtain⟨hh,g,d,t,os⟩:=s;have L0:=I.type (M:=model prog w);have L1:Looks (model prog w) hh (Builtin.ObjectAttr.find (.ref x) (.ref C) "__class__") (.bind (.builtin "getset_descriptor.__get__") (.builtin "object.__class__")):=by
  refine (looks_findIn (M:=model prog w) X T.cl).andThen (Looks.andThen (looks_specialIn (M:=model prog w) X T.gt) ?_);have L3:=looks_takesIn (M:=model prog w) X T.tk;exact (show Looks (model prog w) hh (Builtin.ObjectAttr.dataDescriptor? (some (.builtin "object.__class__")) (some (.builtin "getset_descriptor.__get__"))) (some (.builtin "getset_descriptor.__get__",.builtin "object.__class__")) from L3.andThen .now).andThen (Looks.tag .now)
 unfold Builtin.«object.__getattribute__»;refine wpAny_bind (wpAny_pure (wpAny_bind (wpAny_pure (wpAny_bind (L0.at (wpAny_bind (L1.at ?_)))))));show wpAny _ _ (Builtin.ObjectAttr.bindTo _ _ _ _) _ _ _;refine wpAny_bind (m:=holding [Value.builtin "object.__class__"] (call (.builtin "getset_descriptor.__get__") [.builtin "object.__class__",.ref x,.ref C])) (wpAny_holding (wpAny_call (zlE X I T.mo ?_)));exact wpAny_pure hq
theorem zi3 {Q:Option Value->Shared->Prop} (T:ExC K C) (X:K.In s.heap) (I:zf1 x C s.heap) (h:Q (some (.ref C)) { s with toks:=s.toks+1 }):wpAny (model prog w) A (getAttr? (.ref x) "__class__") Q E s:=by
 obtain⟨hh,g,d,t,os⟩:=s;have L0:=I.type (M:=model prog w);have L1:=looks_findIn (M:=model prog w) X T.ga;have L2:=looks_findIn (M:=model prog w) X T.na;have f3:=PySem.F.excAttr_ValueError.ga.bind (.ref x);unfold getAttr? getAttrBy? getAttrBy;refine wpAny_bind (wpAny_mkText (wpAny_bind (wpAny_attempt (wpAny_holding (wpAny_bind (L0.at (wpAny_bind (L1.at ?_))))))));show wpAny _ _ (getAttrByItsOwn _ _ _ _ _ _) _ _ _;unfold getAttrByItsOwn;refine wpAny_bind (L2.at ?_);refine wpAny_bind (wpAny_attempt (wpAny_holding ?_));show wpAny _ _ (boundAndCalled _ _ _) _ _ _;unfold boundAndCalled;refine wpAny_bind (wpAny_of_eq f3 ?_);refine wpAny_call (codeAny_call_builtin PySem.F.excAttr_ValueError.ga.plain PySem.F.entry_bexc_ga (zi2 T X I (zi4 T X I ?_)))
 repeat (any_goals (first | assumption | wp_step))
theorem zkp (T:ExC K C):KitX K (.ref x) (.ref C) (zf1 x C) where
 ty:=fun M h X I=>I.type
 it:=fun _ _ X _=>by
  obtain⟨cd,hcD⟩:=Option.isSome_iff_exists.mp T.ci;unfold clsIn at hcD;split at hcD
  ·rename_i c' d' cd' sl' ho;intro A' Q' E' s' k q;unfold isType loadHead;exact wpAny_bind (wpAny_loadPart (k _ _ (X _ _ ho)) (wpAny_pure q))
  ·cases hcD
 ne:=fun h tp dd its n sl X htp=>by
  obtain⟨cd,hcD⟩:=Option.isSome_iff_exists.mp T.ci;refine Bool.eq_false_iff.mpr fun q=>?_
  have e:C=tp:=Value.ref.inj (beq_iff_eq.mp q);subst e;unfold clsIn at hcD;split at hcD
  ·rename_i c' d' cd' sl' ho;have z:=(X _ _ ho).symm.trans htp;cases z
  ·cases hcD
 ca:=fun X I k=>zi3 T X I k
end
abbrev HO.exc (x C:Addr):HO:=.ext (zf1 x C)
inductive TyX (K:PySem.W.Frag) (H:Hp):V->Value->Prop where
 | of {x:V} {t:Value} (h:zh0 K H x t):TyX K H x t
 | exc {a C:Addr} (e:H a=some (HO.exc a C)) (T:ExC K C):TyX K H (.ref a) (.ref C)
def zoh:V->Value
 | .ref a=>.ref a
 | .ty n=>.type n
 | _=>.none
def zjf:V->Bool
 | .ref _=>true
 | .ty _=>true
 | _=>false
theorem zlz {v:V} {u:Value} (r:zaW v u) (h:zjf v=true):u=zoh v:=by
 cases v with
 | ref a=>exact r
 | ty n=>exact r
 | _=>cases h
section
variable {X:Cx} {pins:List (Addr × Obj)} {σ:St} {H:Hp} {s:Shared} {A:Around} {E:Value->Shared->Prop} {Q:Value->Shared->Prop} {c:Value} {b:Bool}
theorem zlK {x:V} {u t:Value} (I:Inv X pins σ H s) (rx:zaW x u) (ty:TyX X.K H x t) (e:PySem.W.kitOne X.K t c=some b) (h:∀ tk,Q (.bool b) { s with toks:=tk }) :
  wpAny (model X.prog X.w) A (call (.builtin "isinstance") [u,c]) Q E s:=by
 cases ty with
 | of ty=>exact zjg I rx ty e h
 | @exc a C ea T =>
  cases (show u=Value.ref a from rx);obtain⟨p,_⟩:=(show za0 X.prog X.w H s.heap a (HO.exc a C) from I.hok a _ ea);exact PySem.W.kia_one (zkp T) I.kIn p e (fun z=>nomatch z) h
def rIsi (K:PySem.W.Frag):List V->Hp->VK->Prop:=fun xs H Q=>∃ x c t b,xs=[x,c]/\TyX K H x t/\zjf c=true/\PySem.W.kitOne K t (zoh c)=some b/\Q (.bl b) H
theorem zka:zbm X (.builtin "isinstance") (rIsi X.K):=by
 intro pins s σ H xs us Q I r h;obtain⟨x,c,t,b,rfl,ty,hc,e,q⟩:=h;cases r with
 | cons r1 r =>
  cases r with
  | cons r2 r =>
   cases r;rw [zlz r2 hc];exact zlK I r1 ty e fun tk=>⟨.bl b,H,I.tok _,rfl,q⟩
end
end L2
end
section
namespace L2
open PySem PySem.Spec PyProof.Rows
def CXE (P:Program) (w:World):CXT:=fun outer H s E e s'=>∃ (x C:Addr) (B hr:Heap) (a0:Value) (H':Hp),e=.ref x/\s'.os=s.os/\AllBare s'.gens/\Un (frs outer) [] H H' s.heap hr/\HOk P w H' hr /\
 Heap.FlyingW B outer x (.ref C) a0 s'.heap/\hr.UpToSlots s'.heap/\hr.get? x=none/\(∀ b o,hr.get? b=some o->b ∉ frs outer->B.get? b=none->s.heap.objs.size<=b/\H' b=none) /\
 (∀ b o,hr.get? b=some o->B.get? b=none\/B.get? b=some o)/\E (.ref C) none H'
section
variable {X:Cx} {pins:List (Addr × Obj)} {σ:St} {H:Hp} {s:Shared}
theorem Inv.track {x:Addr} {o:HO} (I:Inv X pins σ H s) (h0:X.s₀.heap.get? x=none) (hx:H x=none) (hL:x≠X.env.locals) (hc:∀ y c,X.env.cells.lookup y=some c->c≠x) (hp:∀ p∈X.pn++pins,p.1≠x)
  (new:za0 X.prog X.w (upd H x o) s.heap x o):Inv X pins σ (upd H x o) s:=by
 have h0':∀ b ob,X.s₀.heap.get? b=some ob->b≠x:=fun b ob e z=>by rw [z,h0] at e;cases e
 refine⟨I.ok,I.os,I.bare,⟨I.base.keep,I.base.slot,fun b ob e n hb=>?_,I.base.there,fun b xs e=>?_,fun b ob u e=>?_,fun b ps e=>?_⟩,I.loc,I.cell,?_,fun y c e=>?_,fun p hq=>?_,fun b u e=>?_,I.len⟩
 ·rw [zal (h0' b ob e)];exact I.base.free b ob e n hb
 ·have q:=I.base.tups b xs e;rw [zal (zay q hx)];exact q
 ·have q:=I.base.frzs b ob u e;rw [zal (zay q hx)];exact q
 ·obtain⟨m,q⟩:=I.base.tbls b ps e;exact⟨m,by rw [zal (zay q hx)];exact q⟩
 ·rw [zal (Ne.symm hL)];exact I.free
 ·rw [zal (hc y c e)];exact I.freeC y c e
 ·obtain⟨a1,a2,a3⟩:=I.pin p hq;exact⟨a1,by rw [zal (hp p hq)];exact a2,a3⟩
 ·by_cases hb:b=x
  ·subst hb;rw [zad] at e;cases e;exact new
  ·rw [zal hb] at e;exact (I.hok b u e).stay (fun _ _ _ q=>q) (fun c q=>by rw [zal (zay q hx)];exact q) fun c xs q=>by rw [zal (zay q hx)];exact q
theorem zlY {K:PySem.W.Frag} {h₀:Heap} {C:Addr} {bmB:List Value} {newId:String} (X:K.In h₀) (q:PySem.W.excIn K C bmB newId=true) :
  ∃ bm N nm q bs hdct sn sub ab col dd k0 k1 k2 k3 k5 mN,h₀.get? C=some (excClassObj nm q C N bs bm hdct sn sub ab col dd k0 k1 k2 k3 k5 newId)/\h₀.Ns N mN/\mN "__init__"=none/\OwnTail h₀ bmB bm:=by
 open PySem.W in
 unfold excIn at q;split at q
 ·rename_i dd cd sl ho;split at q
  ·rename_i C' bm k0 k1 k2 k3 n k5 hm hs;simp only [Bool.and_eq_true,beq_iff_eq,Bool.not_eq_true'] at q;obtain⟨⟨⟨⟨⟨rfl,rfl⟩,hdel⟩,ht⟩,hok⟩,hni⟩:=q;obtain⟨nm,bs,mro,ns,qn,hd,sn,sub,ab,col,del⟩:=cd;dsimp only at hm hdel hok hni;subst hm hdel;have hsl:sl=#[k0,k1,k2,k3,some (.builtin n),k5]:=by
    obtain⟨l⟩:=sl;simp only at hs;rw [hs]
   subst hsl;exact⟨bm,ns,nm,qn,bs,hd,sn,sub,ab,col,dd,k0,k1,k2,k3,k5,_,X _ _ ho,.of_isNs (PySem.W.isNs_of_in X hok),PySem.W.nsMap_none_of_in X hok hni,PySem.W.tail_of_in X ht⟩
  ·cases q
 ·cases q
abbrev zgD:List Value:=[.type "ValueError",.type "Exception",.type "BaseException",.type "object"]
structure ExK (K:PySem.W.Frag) (C:Addr):Prop where
 inn:PySem.W.excIn K C zgD "ValueError.__new__"=true
 kp:PySem.W.keepIn K (.ref C)=true
section
variable {C:Addr} {y:Str} {p pos:Pos} {e:Expr} {es:List Expr} {t:TA}
end
def zmD (X:Cx) (E:St->Addr->Hp->Prop):Prop:=∀ (pins:List (Addr × Obj)) (σ:St) (H:Hp) (s:Shared) (h':Heap) (x C:Addr) (vs:List Value),Inv X pins σ H s->Heap.MadeExcOf s.heap h' x (.ref C) vs->E σ C H->X.xe (.ref x) { s with heap:=h' }
def znK (C:Addr) (E:St->Addr->Hp->Prop) (t:TA):TS:=fun _ σ H=>t σ H fun vs H1=>vs.length<=sizeLine/\E σ C H1
section
variable {C:Addr} {y:Str} {np cpos pos:Pos} {e:Expr} {es:List Expr} {t:TA} {E:St->Addr->Hp->Prop}
theorem zkI (hc:X.calm=true) (M:ExK X.K C) (hg:Gl X y) (hm:X.mg y=some (.ref C)) (hw:zmD X E) (ha:PA X (e::es) t) (hdb:(y == ("__debug__":Str))=false:=by decide)
  (he:starEach (e::es) X.env=(false,eval e X.env)::starEach es X.env:=by rfl) (hpl:(backTo cpos (starEach es X.env)).any (·.1)=false:=by rfl):PS X (.Raise (some (.Call (.Name y np) (e::es) [] cpos)) none pos) (znK C E t):=by
 intro pins s σ H D I h;obtain⟨bm,N,nm,q,bs,hdct,sn,sub,ab,col,dd,k0,k1,k2,k3,k5,mN,hC,hN,hni,T⟩:=zlY I.ok.mod.kin M.inn;refine wpAny_Raise_call_subT (C:=C) (nm:=nm) (q:=q) (N:=N) (bs:=bs) (bm:=bm) (hdct:=hdct) (sn:=sn) (sub:=sub) (ab:=ab) (col:=col) (dd:=dd) (k0:=k0) (k1:=k1) (k2:=k2) (k3:=k3) (k5:=k5)
  PySem.F.excBase_ValueError (mN:=mN) (T.hasType PySem.F.excBase_ValueError.hasBase) (I.ok.hd hc) (by rw [he];show (false || (backTo cpos (starEach es X.env)).any (·.1))=false;rw [hpl];rfl) hni (zec I hg hm ⟨rfl,?_⟩ hdb)
 have ha':=ha cpos pins s σ H _ I h;rw [he] at ha' ⊢;refine Calls.evalArgs_plain (thn ha' fun us s1 ⟨vs,H1,I1,r,z,hE⟩=>⟨rfl,by rw [← r.length];exact z,I1.bk _ _ hC,hN.keeps I1.bk,T.keeps I1.bk,fun h' x m=>?_⟩);exact hw pins σ H1 s1 h' x C _ I1 m hE
end
section
variable {P:Program} {w:World} {K:PySem.W.Frag} {mg:Str->Option Value} {base:Heap} {N:List Str} {qual:Str} {scope:Scope} {f:Addr} {cd:Value} {A:Around} {outer:List Env} {s:Shared} {H:Hp} {E:XK}
theorem zlJ {h:Heap} {as:List Addr} {b:Addr} {o:Obj} (e:h.get? b=some o):(PySem.W.hideAll h as).get? b=none\/(PySem.W.hideAll h as).get? b=some o:=by
 by_cases hb:b∈as
 ·exact .inl (PySem.W.hideAll_none as hb)
 ·exact .inr (PySem.W.hideAll_get _ e hb)
theorem ziw {h:Heap} {as:List Addr}:(PySem.W.hideAll h as).StaysIn h:=fun b o e=>PySem.W.of_hideAll as e
theorem Inv.hidden {X:Cx} {pins:List (Addr × Obj)} {σ:St} {H:Hp} {s:Shared} (I:Inv X pins σ H s):s.heap.FunFrames (PySem.W.hideAll s.heap (frs X.stack)) X.stack :=
 PySem.W.funFrames_hide I.stack fun env he b hb=>List.mem_filterMap.mpr ⟨env,he,hb⟩
theorem zkT:zmD (ziQ (CXE P w) P w K mg base N qual scope f cd A outer s H E) (fun _ C H'=>E (.ref C) none H'):=by
 intro pins σ H1 s1 h' x C vs I m hE;show wpAny (model P w) _ (leaving (envOfC qual scope s.heap.objs.size f cd) (.ref x)) _ _ _;have hst:frs (ziQ (CXE P w) P w K mg base N qual scope f cd A outer s H E).stack=s.heap.objs.size::frs outer:=rfl;refine wpAny_leaves_madeW (base:=PySem.W.hideAll s1.heap (frs (ziQ (CXE P w) P w K mg base N qual scope f cd A outer s H E).stack)) (h:=s1.heap) (env:=envOfC qual scope s.heap.objs.size f cd) (outer:=outer) I.ok.frames rfl ziw I.hidden m fun h2 t fl _ _ up=>?_
 refine⟨x,C,_,s1.heap,_,H1,rfl,I.os,I.bare,I.base,I.hok,fl,(Heap.UpToSlots.of_keeps m.keeps).trans up,m.new,fun b o e hb n=>?_,fun b o e=>zlJ e,hE⟩;by_cases hs:b∈frs (ziQ (CXE P w) P w K mg base N qual scope f cd A outer s H E).stack
 ·rw [hst] at hs;rcases zpG.mp hs with z | z
  ·subst z;exact⟨zpd _,I.free⟩
  ·exact absurd z hb
 ·rw [PySem.W.hideAll_get _ e hs] at n;cases n
theorem Fun.okE {x qual:Str} {st:Stmt} {f:Addr} {fd:FuncData} {N ps:List Str} {k:Nat} {sp:Sp} (F:Fun K x qual st f fd) (S:zao N ps (zaj st)) (len:∀ vs H Q E,sp vs H Q E->vs.length=ps.length)
  (hbody:∀ (cdv:Value) (A:Around) (outer:List Env) (s:Shared) (H:Hp) (vs:List V) (Q:VK) (E:XK),zcW k (A.deeper (envOfC qual (zaj st) s.heap.objs.size f cdv))->sp vs H Q E ->
   ∃ t,PSs (ziQ (CXE P w) P w K mg base N qual (zaj st) f cdv A outer s H E) (zd3 st) t/\t { nx:=fun _ H'=>Q .non H',rt:=Q } (start N vs) H):za3 P w K mg base (CXE P w) (k+1) f fd ps sp:=by
 obtain⟨oc,od,kV,doc,pm,an,cdv,ct,osl,rfl,lk,hcd⟩:=F.ex;exact zmS lk hcd S len fun A outer s H vs Q E hr hsp=>hbody cdv A outer s H vs Q E hr hsp
end
section
variable {X:Cx} {pins:List (Addr × Obj)} {σ:St} {H:Hp} {s:Shared} {T:St->Addr->Hp->Prop} {pn:List (Addr × Obj)} {x:Addr}
end
end
end L2
end
section
namespace L2
open PySem PySem.Spec PyProof.Rows
theorem PE.imp {X:Cx} {e:Expr} {t t':TE} (h:PE X e t) (i:∀ σ H Q,t' σ H Q->t σ H Q):PE X e t':=fun pins s σ H Q I q=>h pins s σ H Q I (i σ H Q q)
theorem OpR.imp {X:Cx} {f:Value->Value->Sem Value} {r r':R2} (h:OpR X f r) (i:∀ x y H Q,r' x y H Q->r x y H Q):OpR X f r':=fun pins s σ H x y v u Q I rx ry q=>h pins s σ H x y v u Q I rx ry (i x y H Q q)
theorem zbm.imp {X:Cx} {f:Value} {r r':List V->Hp->VK->Prop} (h:zbm X f r) (i:∀ xs H Q,r' xs H Q->r xs H Q):zbm X f r':=fun pins s σ H xs us Q I rx q=>h pins s σ H xs us Q I rx (i xs H Q q)
@[irreducible] def ifB (b:Bool) (p q:Prop):Prop:=if b=true then p else q
theorem zeX (b:Bool) (p q:Prop):ifB b p q=(if b=true then p else q):=by unfold ifB;rfl
theorem ifB.mk {b:Bool} {p q:Prop} (h1:b=true->p) (h2:b=false->q):ifB b p q:=by
 rw [zeX];cases b with
 | true=>rw [zpC rfl];exact h1 rfl
 | false=>rw [zpB zpJ];exact h2 rfl
theorem ifB.yes {b:Bool} {p q:Prop} (e:b=true) (h:p):ifB b p q:=ifB.mk (fun _=>h) fun z=>by rw [e] at z;cases z
theorem ifB.no {b:Bool} {p q:Prop} (e:b=false) (h:q):ifB b p q:=ifB.mk (fun z=>by rw [e] at z;cases z) fun _=>h
theorem ifB.dec {c:Prop} [Decidable c] {p q:Prop} (h1:c->p) (h2:¬ c->q):ifB (decide c) p q:=ifB.mk (fun z=>h1 (zpI z)) fun z=>h2 (of_decide_eq_false z)
def tV (i:Nat):TE:=fun σ H Q=>match σ[i]? with | some (some v)=>Q v H | _=>False
def bV (x:V) (Q:Bool->Prop):Prop:=match x with | .bl k=>Q k | _=>False
def cT (t:TE):TT:=fun σ H Q=>t σ H fun x H'=>bV x fun k=>Q k H'
def cI (f:Int->Int->V):R2:=fun x y H Q=>match x,y with | .int i,.int j=>Q (f i j) H | _,_=>False
def cL (C:Int->Int->Prop) (f:Int->Int->Int) (F:Int->Int->Int->Prop):R2:=fun x y H Q=>match x,y with | .int i,.int j=>C i j/\∀ m,m=f i j->F i j m->Q (.int m) H | _,_=>False
abbrev CMod (_ j:Int):Prop:=0<j
theorem zoj {i j:Int} (h:(decide (0<=j) && decide (j<=1000000) && decide (i.natAbs<2 ^ 64))=true):znZ i j:=by
 simp only [Bool.and_eq_true,decide_eq_true_eq] at h;exact⟨h.1.1,h.1.2,h.2⟩
abbrev zmw (_ j:Int):Prop:=0<j/\j.natAbs.log2<9000
def zj8 (neg:Bool):R2:=fun x y H Q=>match x,y with
 | .int i,.int j=>Q (.bl (if neg then !decide (i=j) else decide (i=j))) H
 | .str i,.str j=>Q (.bl (if neg then !decide (i=j) else decide (i=j))) H
 | .bl i,.bl j=>Q (.bl (if neg then !decide (i=j) else decide (i=j))) H
 | _,_=>False
section
variable {X:Cx} {a b:Expr} {ta tb:TE} {pos:Pos}
theorem znM {i:Nat} {σ:St} {H:Hp} {Q:VK} (h:tV i σ H Q):tVar i σ H Q:=by
 unfold tV at h;split at h
 ·rename_i v e;exact⟨v,e,h⟩
 ·exact h.elim
theorem qv (i:Nat) {x:Str} {pos:Pos} (hN:X.N[i]?=some x:=by rfl) (hv:Vis X.env.scope x:=by first | exact Or.inl rfl | exact Or.inr (Or.inl rfl) | exact Or.inr (Or.inr rfl)) (hd:(x == ("__debug__":Str))=false:=by decide)
  (hcd:(x == ("__classdict__":Str))=false:=by decide):PE X (.Name x pos) (tV i):=(znp hN hv hd hcd).imp fun _ _ _ h=>znM h
theorem ziH {f:Int->Int->V} {x y:V} {H:Hp} {Q:VK} (h:cI f x y H Q):rI0 f x y H Q:=by
 unfold cI at h;split at h
 ·exact⟨_,_,rfl,rfl,h⟩
 ·exact h.elim
theorem zcl:OpR X (binaryOp .Add) (cI fun i j=>.int (i+j)):=znf.imp fun _ _ _ _=>ziH
theorem zj9 {C:Int->Int->Prop} {f:Int->Int->Int} {F:Int->Int->Int->Prop} (hF:∀ i j,C i j->F i j (f i j)) {x y:V} {H:Hp} {Q:VK} (h:cL C f F x y H Q):rI C (fun i j=>.int (f i j)) x y H Q:=by
 unfold cL at h;split at h
 ·exact⟨_,_,rfl,rfl,h.1,h.2 _ rfl (hF _ _ h.1)⟩
 ·exact h.elim
theorem zeL:OpR X (binaryOp .Mult) (cL znV (fun i j=>i*j) fun _ _ _=>True):=zni.imp fun _ _ _ _=>zj9 fun _ _ _=>trivial
theorem zir:OpR X (binaryOp .Mod) (cL CMod (fun i j=>i % j) fun _ j m=>0<=m/\m<j):=znh.imp fun _ _ _ _ h=>zj9 (fun i j hj=>⟨Int.emod_nonneg _ (by have:0<j:=hj;omega),Int.emod_lt_of_pos _ hj⟩) h
theorem zlh:OpR X (binaryOp .FloorDiv) (cL zmw (fun i j=>i / j) fun _ _ _=>True):=by
 intro pins s σ H x y v u Q I rx ry h;obtain⟨i,j,rfl,rfl,⟨h0,h1⟩,q⟩:=zj9 (fun _ _ _=>trivial) h;obtain⟨t,rfl⟩:=rx;obtain⟨t',rfl⟩:=ry;refine floordiv_int (by omega) ?_ (.inl (PyProof.noPylong_of_log2 h1));rw [Int.fdiv_eq_ediv_of_nonneg _ (by omega)];exact⟨.int _,H,I.tok _,⟨_,rfl⟩,q⟩
theorem zmc:OpR X (binaryOp .Pow) (cL znZ (fun i j=>i ^ j.toNat) fun _ _ _=>True):=znj.imp fun _ _ _ _=>zj9 fun _ _ _=>trivial
theorem zoH:OpR X (compareOp .Lt) (cI fun i j=>.bl (decide (i<j))):=zox.imp fun _ _ _ _=>ziH
theorem zjN:OpR X (compareOp .LtE) (cI fun i j=>.bl (decide (i<=j))):=zow.imp fun _ _ _ _=>ziH
theorem zoB:OpR X (compareOp .Gt) (cI fun i j=>.bl (decide (j<i))):=zov.imp fun _ _ _ _=>ziH
theorem q_ge:OpR X (compareOp .GtE) (cI fun i j=>.bl (decide (j<=i))):=zou.imp fun _ _ _ _=>ziH
theorem dI {i j:Int}:decide (i=j)=(i == j):=by rw [Bool.eq_iff_iff];simp
theorem dB {i j:Bool}:decide (i=j)=(i == j):=by rw [Bool.eq_iff_iff];simp
theorem dS {i j:Str}:decide (i=j)=(i == j):=by rw [Bool.eq_iff_iff];simp
theorem zkk {p q:Prop} (h:ifB true p q):p:=by rw [zeX,zpC rfl] at h;exact h
theorem zkj {p q:Prop} (h:ifB false p q):q:=by rw [zeX,zpB zpJ] at h;exact h
theorem zhO:OpR X (compareOp .Eq) (zj8 false):=by
 intro pins s σ H x y v u Q I rx ry h;unfold zj8 at h;split at h
 ·obtain⟨t,rfl⟩:=rx;obtain⟨t',rfl⟩:=ry;exact SeqAt.RcAt.int_int _ t _ t' _ _ _ _ (zdI I h (by rw [zpB (by decide)];exact dI))
 ·obtain⟨t,rfl⟩:=rx;obtain⟨t',rfl⟩:=ry;exact SeqAt.RcAt.str_str _ t _ t' _ _ _ _ (zdI I h (by rw [zpB (by decide)];exact dS))
 ·cases rx;cases ry;exact SeqAt.RcAt.bool_bool _ _ _ _ _ _ (zdI I h (by rw [zpB (by decide)];exact dB))
 ·exact h.elim
theorem q_ne:OpR X (compareOp .NotEq) (zj8 true):=by
 intro pins s σ H x y v u Q I rx ry h;unfold zj8 at h;split at h
 ·obtain⟨t,rfl⟩:=rx;obtain⟨t',rfl⟩:=ry;exact SeqAt.RcNeAt.int_int _ t _ t' _ _ _ _ (zdI I h (by rw [zpC rfl,dI]))
 ·obtain⟨t,rfl⟩:=rx;obtain⟨t',rfl⟩:=ry;exact SeqAt.RcNeAt.str_str _ t _ t' _ _ _ _ (zdI I h (by rw [zpC rfl,dS]))
 ·cases rx;cases ry;exact SeqAt.RcNeAt.bool_bool _ _ _ _ _ _ (zdI I h (by rw [zpC rfl,dB]))
 ·exact h.elim
def cNeg:V->Hp->VK->Prop:=fun x H Q=>match x with | .int i=>Q (.int (-i)) H | _=>False
theorem zis:UnR X (unaryOp .USub) cNeg:=by
 intro pins s σ H x v Q I rx h;refine znR pins s σ H x v Q I rx ?_;unfold cNeg at h;split at h
 ·exact⟨_,rfl,h⟩
 ·exact h.elim
theorem zgJ {x:V} {Q:Bool->Prop} (h:bV x Q):∃ k,x=.bl k/\Q k:=by
 cases x with
 | bl k=>exact⟨k,rfl,h⟩
 | _=>exact False.elim h
theorem zcG {e:Expr} {t:TE} (h:PE X e t) (he:∀ whole,isTrue e X.env whole=(do let v ← whole;standAt e.pos;holding [v] (truthy v)):=by intro _;rfl):PT X e (cT t):=by
 intro pins s σ H Q I hw;rw [he];refine wpAny_bind (thn (h pins s σ H _ I hw) fun v s1 ⟨x,H1,I1,r1,q1⟩=>wpAny_bind (wpAny_standAt (wpAny_holding ?_)));obtain⟨k,rfl,q⟩:=zgJ q1;cases r1;exact wpAny_truthy_bool ⟨H1,I1,q⟩
theorem zb1 {op:CmpOp} {r:R2} (ho:OpR X (compareOp op) r) (ha:PE X a ta) (hb:PE X b tb) (hm:behindInMarks op b=false:=by first | exact zaF _ | rfl):PT X (.Compare a [op] [b] pos) (cT (tOp r ta tb)):=by
 intro pins s σ H Q I hw;refine wpAny_isTrue_Compare1 (thn (ha pins s σ H _ I hw) fun v s1 ⟨x,H1,I1,r1,q1⟩=>thn (hb pins s1 σ H1 _ I1 q1) fun u s2 ⟨y,H2,I2,r2,q2⟩ =>
  thn (ho pins s2 σ H2 x y v u _ I2 r1 r2 q2) fun c s3 ⟨z,H3,I3,r3,q3⟩=>?_) hm
 obtain⟨k,rfl,q⟩:=zgJ q3;cases r3;exact wpAny_truthy_bool ⟨H3,I3,q⟩
def zk3 (r r':R2) (ta tb tc:TE):TE:=fun σ H Q=>ta σ H fun x H1=>tb σ H1 fun y H2=>r x y H2 fun z H3=>bV z fun k=>ifB k (tc σ H3 fun u H4=>r' y u H4 Q) (Q (.bl false) H3)
theorem znl {op op':CmpOp} {r r':R2} {c:Expr} {tc:TE} (ho:OpR X (compareOp op) r) (ho':OpR X (compareOp op') r') (ha:PE X a ta) (hb:PE X b tb) (hc:PE X c tc)
  (hm:lastMarks [op,op'] [b,c]=false:=by with_unfolding_all rfl):PE X (.Compare a [op,op'] [b,c] pos) (zk3 r r' ta tb tc):=by
 intro pins s σ H Q I h;refine Compare_chain (thn (ha pins s σ H _ I h) fun v s1 ⟨x,H1,I1,r1,q1⟩=>chain_link (thn (hb pins s1 σ H1 _ I1 q1) fun u s2 ⟨y,H2,I2,r2,q2⟩ =>
  thn (ho pins s2 σ H2 x y v u _ I2 r1 r2 q2) fun d s3 ⟨z,H3,I3,r3,q3⟩=>?_)) hm
 obtain⟨k,rfl,q⟩:=zgJ q3;cases r3;refine wpAny_truthy_bool ?_;cases k with
 | false=>exact ite_ff ⟨.bl false,H3,I3,rfl,zkj q⟩
 | true=>exact ite_tt (chain_last (thn (hc pins s3 σ H3 _ I3 (zkk q)) fun w' s4 ⟨z',H4,I4,r4,q4⟩=>ho' pins s4 σ H4 y z' u w' Q I4 r2 r4 q4))
theorem zkJ {op op':CmpOp} {r r':R2} {c:Expr} {tc:TE} (ho:OpR X (compareOp op) r) (ho':OpR X (compareOp op') r') (ha:PE X a ta) (hb:PE X b tb) (hc:PE X c tc)
  (hm:lastMarks [op,op'] [b,c]=false:=by with_unfolding_all rfl):PT X (.Compare a [op,op'] [b,c] pos) (cT (zk3 r r' ta tb tc)):=by
 intro pins s σ H Q I h;refine isTrue_chain (thn (ha pins s σ H _ I h) fun v s1 ⟨x,H1,I1,r1,q1⟩=>test_link (thn (hb pins s1 σ H1 _ I1 q1) fun u s2 ⟨y,H2,I2,r2,q2⟩ =>
  thn (ho pins s2 σ H2 x y v u _ I2 r1 r2 q2) fun d s3 ⟨z,H3,I3,r3,q3⟩=>?_)) hm
 obtain⟨k,rfl,q⟩:=zgJ q3;cases r3;refine wpAny_truthy_bool ?_;cases k with
 | false=>exact ite_ff ⟨H3,I3,zkj q⟩
 | true =>
  refine ite_tt (test_last (thn (hc pins s3 σ H3 _ I3 (zkk q)) fun w' s4 ⟨z',H4,I4,r4,q4⟩=>thn (ho' pins s4 σ H4 y z' u w' _ I4 r2 r4 q4) fun d' s5 ⟨z2,H5,I5,r5,q5⟩=>?_));obtain⟨k2,rfl,q6⟩:=zgJ q5;cases r5;exact wpAny_truthy_bool ⟨H5,I5,q6⟩
def cIf (c:TT) (t u:TS):TS:=fun D σ H=>c σ H fun b H1=>ifB b (t D σ H1) (u D σ H1)
theorem zbV {c:Expr} {a b:List Stmt} {tc:TT} {t u:TS} {pos:Pos} (hc:PT X c tc) (ha:PSs X a t) (hb:PSs X b u):PS X (.If c a b pos) (cIf tc t u):=by
 intro pins s σ H D I h;refine wpAny_If (thn (hc pins s σ H _ I h) fun d s1 ⟨H1,I1,q1⟩=>?_);cases d with
 | true=>exact ha pins s1 σ H1 D I1 (zkk q1)
 | false=>exact hb pins s1 σ H1 D I1 (zkj q1)
def cAnd (t u:TT):TT:=fun σ H Q=>t σ H fun c H1=>ifB c (u σ H1 Q) (Q false H1)
def cOr (t u:TT):TT:=fun σ H Q=>t σ H fun c H1=>ifB c (Q true H1) (u σ H1 Q)
section
variable {rest:List Expr} {tA tB:TT}
theorem zjP (ha:PT X a tA):PW X (.BoolOp .And [a] pos) tA:=zl9 ha
theorem zbq (ha:PT X a tA):PW X (.BoolOp .Or [a] pos) tA:=znt ha
theorem zjM (ha:PT X a tA) (hb:PW X (.BoolOp .And (b::rest) pos) tB):PW X (.BoolOp .And (a::b::rest) pos) (cAnd tA tB):=by
 intro whole pins s σ H Q I h;exact zns (X:=X) (tA:=fun σ H Q=>tA σ H fun c H1=>Q c H1) (tB':=tB) ha hb whole pins s σ H Q I (by
  have e:(fun (c:Bool) (H1:Hp)=>if c=true then tB σ H1 Q else Q false H1)=fun c H1=>ifB c (tB σ H1 Q) (Q false H1):=by funext c H1;rw [zeX]
  show tA σ H (fun (c:Bool) (H1:Hp)=>if c=true then tB σ H1 Q else Q false H1);rw [e];exact h)
theorem zbl (ha:PT X a tA) (hb:PW X (.BoolOp .Or (b::rest) pos) tB):PW X (.BoolOp .Or (a::b::rest) pos) (cOr tA tB):=by
 intro whole pins s σ H Q I h;exact zoz (X:=X) (tA:=fun σ H Q=>tA σ H fun c H1=>Q c H1) (tB':=tB) ha hb whole pins s σ H Q I (by
  have e:(fun (c:Bool) (H1:Hp)=>if c=true then Q true H1 else tB σ H1 Q)=fun c H1=>ifB c (Q true H1) (tB σ H1 Q):=by funext c H1;rw [zeX]
  show tA σ H (fun (c:Bool) (H1:Hp)=>if c=true then Q true H1 else tB σ H1 Q);rw [e];exact h)
def zn6 (ta tb:TE):TE:=fun σ H Q=>ta σ H fun x H1=>bV x fun c=>ifB c (tb σ H1 Q) (Q (.bl false) H1)
def zoc (ta:TE):TE:=fun σ H Q=>ta σ H fun x H1=>bV x fun c=>Q (.bl (!c)) H1
theorem zbK (ha:PE X a ta) (hb:PE X (.BoolOp .And (b::rest) pos) tb):PE X (.BoolOp .And (a::b::rest) pos) (zn6 ta tb):=by
 intro pins s σ H Q I h;refine BoolOp_and (thn (ha pins s σ H _ I h) fun v s1 ⟨x,H1,I1,r1,q1⟩=>?_);obtain⟨c,rfl,q1⟩:=zgJ q1;cases r1;refine wpAny_truthy_bool ?_;cases c with
 | true=>exact hb pins s1 σ H1 Q I1 (zkk q1)
 | false=>exact⟨.bl false,H1,I1,rfl,zkj q1⟩
theorem zc0 (ha:PE X a ta):PE X (.UnaryOp .Not a pos) (zoc ta):=by
 intro pins s σ H Q I h;refine UnaryOp_ (thn (ha pins s σ H _ I h) fun v s1 ⟨x,H1,I1,r1,q1⟩=>?_);obtain⟨c,rfl,q1⟩:=zgJ q1;cases r1;exact not_of (wpAny_truthy_bool ⟨.bl (!c),H1,I1,rfl,q1⟩)
end
def cIfE (t:TT) (ta tb:TE):TE:=fun σ H Q=>t σ H fun c H1=>ifB c (ta σ H1 Q) (tb σ H1 Q)
theorem zjC {c:Expr} {tc:TT} (hc:PT X c tc) (ha:PE X a ta) (hb:PE X b tb):PE X (.IfExp c a b pos) (cIfE tc ta tb):=by
 intro pins s σ H Q I h;refine zkE hc ha hb pins s σ H Q I ?_;have e:(fun (c:Bool) (H1:Hp)=>if c=true then ta σ H1 Q else tb σ H1 Q)=fun c H1=>ifB c (ta σ H1 Q) (tb σ H1 Q):=by funext c H1;rw [zeX]
 show tc σ H (fun (c:Bool) (H1:Hp)=>if c=true then ta σ H1 Q else tb σ H1 Q);rw [e];exact h
end
end L2
end
section
namespace L2
open PySem PySem.Spec PyProof.Rows
theorem za4:bootBuiltins "len"=some (.builtin "len"):=by decide +kernel
theorem zaf:bootBuiltins "isinstance"=some (.builtin "isinstance"):=by decide +kernel
theorem zk2:bootBuiltins "all"=some (.builtin "all"):=by decide +kernel
theorem zmG:bootBuiltins "sum"=some (.builtin "sum"):=by decide +kernel
theorem zhq:bootBuiltins "min"=some (.builtin "min"):=by decide +kernel
theorem ziF:bootBuiltins "max"=some (.builtin "max"):=by decide +kernel
theorem ziG:bootBuiltins "sorted"=some (.builtin "sorted"):=by decide +kernel
theorem zbX:bootBuiltins "list"=some (.type "list"):=by decide +kernel
theorem zbG:bootBuiltins "tuple"=some (.type "tuple"):=by decide +kernel
theorem zc9:bootBuiltins "int"=some (.type "int"):=by decide +kernel
theorem zcX:bootBuiltins "bool"=some (.type "bool"):=by decide +kernel
theorem zd2:bootBuiltins "str"=some (.type "str"):=by decide +kernel
theorem zf7:bootBuiltins "enumerate"=some (.type "enumerate"):=by decide +kernel
theorem zm3 {H:Hp} {a p:Addr} {o u:HO} (h:H a=some o) (n:H p=none):upd H p u a=some o:=by rw [zal (zay h n)];exact h
section
variable {X:Cx} {pins:List (Addr × Obj)} {σ:St} {H:Hp} {s:Shared}
theorem Inv.turnedL {h':Heap} {t':Nat} {fp:List Addr} (I:Inv X pins σ H s) (k:∀ b o,b ∉ fp->s.heap.get? b=some o->h'.get? b=some o) (hf:∀ b∈fp,ziz X pins H b):Inv X pins σ H { s with heap:=h',toks:=t' }:=by
 have nit:∀ b u,H b=some u->b ∉ fp:=fun b u e z=>by rw [(hf b z).1] at e;cases e
 refine I.step (g':=s.gens) (d':=s.drawn) (ch:=fp) (fun b hb=>?_) (fun b o _ _ hc e _=>k b o hc e) (fun b o _ _ hc e _=>⟨o.slots,k b o hc e⟩) (fun _ _ _ _ n=>n)
  (fun b o hc e=>⟨o,k b o hc e⟩) (fun _ _ e=>e) (fun _ _ _ e=>e) (fun b ps e=>⟨#[],by rw [e];simp⟩) (fun m hm=>?_) (fun b u e=>?_) I.bare
 ·obtain⟨f0,f1,f2,f3,f4,f5⟩:=hf b hb;exact⟨f3,f1,f4,f5⟩
 ·obtain⟨o,es,ep,ho,r⟩:=hm;exact⟨o,es,ep,k _ o (fun z=>(hf _ z).2.1 rfl) ho,r⟩
 ·refine (I.hok b u e).stay (fun c v hc q=>k c v ?_ q) (fun _ q=>q) fun _ _ q=>q
  rcases hc with z | z
  ·rw [z];exact nit b u e
  ·exact nit c _ z
theorem Inv.trackNew {s':Shared} {p:Addr} {o:HO} (I:Inv X pins σ H s) (I':Inv X pins σ H s') (hp:s.heap.objs.size<=p) (new:za0 X.prog X.w (upd H p o) s'.heap p o):H p=none/\Inv X pins σ (upd H p o) s':=by
 have hn:=I.hok.fresh hp;refine⟨hn,I'.track (Heap.get?_none_of_le (zpc I.sz hp)) hn (Ne.symm (zpH (zpe I.lt hp))) (fun y c e z=>?_) (fun q hq z=>?_) new⟩
 ·obtain⟨v,o,ho,_⟩:=I.cell y c e;exact absurd (zpe (zpo ho) (by rw [z];exact hp)) (Nat.lt_irrefl _)
 ·exact absurd (zpe (zpo (I.pin q hq).1) (by rw [z];exact hp)) (Nat.lt_irrefl _)
end
def Ite (K:PySem.W.Frag) (a:Addr):It where
 go:=fun i H=>∃ xs x,SqL K H a xs/\xs[i]?=some x
 yld:=fun i H v H'=>∃ p x,H p=none/\v=.ref p/\H'=upd H p (.tup [.int i,x])/\∀ ys,SqL K H a ys->ys[i]?=some x
 stop:=fun i H=>∃ xs,SqL K H a xs/\xs.length<=i
theorem zjW {P:Program} {w:World} {K:PySem.W.Frag} {elts:List Expr} {x1:Nat} {tp:Pos} (a e it:Addr) (hei:e≠it):zk0 P w K (.Tuple elts x1 tp) (Ite K a) [e,it] e (fun i h=>(∃ old,IsEnum h e it i old)/\h.IsListIter it a i) where
 mem:=by simp
 obj:=fun i h st b hb=>by
  obtain⟨⟨old,he⟩,o,ho,hc,hd⟩:=st;rcases zpG.mp hb with z | z
  ·subst z;exact⟨_,he,fun v z=>by
    have z':Data.fields _=Data.cell v:=z;cases z'⟩
  ·have z:b=it:=by simpa using z
   subst z;exact⟨o,ho,fun v z=>by rw [hd] at z;cases z⟩
 keep:=fun i h h' st k=>⟨let ⟨old,he⟩:=st.1;⟨old,k e (by simp) _ he⟩,st.2.at fun o q=>k it (by simp) o q⟩
 item:=by
  intro X hP hw hK hc i pins s σ H E I hf st hg;subst hP hw hK;obtain⟨xs,x,hq,hx⟩:=hg;obtain⟨its,rv,p,hz⟩:=I.list hq;obtain⟨u,hu,ru⟩:=rv.get hx;obtain⟨⟨old,he⟩,hit⟩:=st;refine wpAny_pyNext_enum_item he hit p.isList (x:=u) (by simpa using hu) hei fun h1 he1 hit1 ht1 hz1 hk1=>⟨_,rfl,?_⟩
  refine wpAny_letOwnedTupleGo_enum he1 fun h2 he2 hs2=>?_
  have hs2:Heap.SameBut e h1 h2:=hs2;have hlt:e<s.heap.objs.size:=zpo he;have hk2:∀ b o,b ∉ [e,it]->s.heap.get? b=some o->h2.get? b=some o:=fun b o hb q=>by
   simp only [zpG,List.not_mem_nil,or_false,not_or] at hb;exact hs2.extBut b o hb.1 (hk1 b o hb.1 hb.2 q)
  have I2:Inv X pins σ H { s with heap:=h2,toks:=s.toks+1 }:=I.turnedL hk2 hf;have ht2:h2.get? s.heap.objs.size=some { cls:=.type "tuple",data:=.seq #[.int i s.toks,u] }:=hs2.extBut _ _ (Nat.ne_of_gt hlt) ht1;obtain⟨hn,I3⟩:=I.trackNew (o:=.tup [.int i,x]) I2 (zpd _) ⟨by show 2<=sizeLine;decide,[.int i s.toks,u],.cons ⟨_,rfl⟩ (.cons ru .nil),⟨_,ht2,rfl,_,rfl,rfl⟩⟩;refine⟨.ref s.heap.objs.size,_,I3,rfl,⟨_,x,hn,rfl,rfl,fun ys hy=>by rw [I.list_inj hy hq];exact hx⟩,⟨⟨u,?_⟩,?_⟩,fun b hb=>?_⟩
  ·have:((i+1:Nat):Int)=(i:Int)+1:=by push_cast;rfl
   rw [this];exact he2
  ·exact hit1.extBut hs2.extBut (Ne.symm hei)
  ·obtain⟨o,ho,_⟩:=id hit;have hb':b<s.heap.objs.size:=by
    rcases zpG.mp hb with z | z
    ·rw [z];exact hlt
    ·have z:b=it:=by simpa using z
     obtain⟨oi,hoi,_⟩:=id hit;rw [z];exact zpo hoi
   rw [zal (zpH hb')];exact (hf b hb).1
 done:=by
  intro X hP hw hK hc i pins s σ H E I hf st hg;subst hP hw hK;obtain⟨xs,hq,hx⟩:=hg;obtain⟨its,rv,p,hz⟩:=I.list hq;obtain⟨⟨old,he⟩,hit⟩:=st;have hl:=rv.length;refine wpAny_pyNext_enum_end (I.ok.hd hc) he hit p.isList (by simp;omega) fun h' eb=>⟨rfl,I.turnedL (t':=s.toks) (fun b o hb q=>eb b o (fun z=>hb (by simp [z])) q) hf⟩
 self:=fun _ _ _ _ _ st h=>by obtain⟨⟨old,he⟩,_⟩:=st;exact wpAny_pyIter_enum he h
section
variable {X:Cx}
def zmW (K:PySem.W.Frag) (ta:TA):TI:=fun σ H R=>ta σ H fun vs H1=>match vs with | [.ref a]=>(∃ xs,SqL K H1 a xs)/\R (Ite K a) H1 | _=>False
theorem zel {a:Expr} {ta:TA} {p pos:Pos} {elts:List Expr} {x1:Nat} {tp:Pos} (hg:Gl X "enumerate") (hm:X.mg "enumerate"=none) (ha:PA X [a] ta) (hs:starEach [a] X.env=[(false,eval a X.env)]:=by rfl):PI X (.Tuple elts x1 tp) (.Call (.Name "enumerate" p) [a] [] pos) (zmW X.K ta):=by
 intro pins s σ H R I h;refine Call_ (zeY I hg hm zf7 (PyProof.Rows.callWith_type1 (thn (ha pos pins s σ H _ I h) fun us s1 ⟨vs,H1,I1,r1,q1⟩=>?_) hs rfl));obtain⟨l,rfl,hq,q⟩:∃ l,vs=[.ref l]/\(∃ xs,SqL X.K H1 l xs)/\R (Ite X.K l) H1:=by
  dsimp only at q1;split at q1
  ·exact⟨_,rfl,q1⟩
  ·exact q1.elim
 obtain⟨xs,hq⟩:=hq;cases r1 with
 | cons r rr =>
  cases rr;cases r;obtain⟨its,rv,pl,hz⟩:=I1.list hq;refine call_enumerate_list pl.isList fun h' he hit hsz hk=>?_
  refine wpAny_pyIter_enum he ?_;have I2:Inv X pins σ H1 { s1 with heap:=h' }:=I1.kept (t':=s1.toks) hk;refine⟨s1.heap.objs.size+1,[s1.heap.objs.size+1,s1.heap.objs.size],_,_,H1,rfl,I2,zjW l _ _ (Nat.succ_ne_self _),⟨⟨_,he⟩,hit⟩,fun b hb=>?_,q⟩;rcases zpG.mp hb with z | z
  ·subst z;exact I1.fpOk (Nat.le_succ _) (I1.hok.fresh (Nat.le_succ _))
  ·have z:b=s1.heap.objs.size:=by simpa using z
   subst z;exact I1.fpOk (zpd _) (I1.hok.fresh (zpd _))
end
theorem zcD {K:PySem.W.Frag} {a:Addr} {xs:List V} {g:TG} {tb:TS} {D:zj4} {σ:St} {H:Hp} (Pv:Nat->St->Hp->Prop) (h0:Pv 0 σ H) (hl:∀ i σ H,i<=xs.length->Pv i σ H->SqL K H a xs)
  (hs:∀ i x σ H p,xs[i]?=some x->Pv i σ H->H p=none->g (.ref p) σ (upd H p (.tup [.int i,x])) fun σ2 H2=>tb { D with nx:=Pv (i+1),ct:=Pv (i+1),bk:=D.nx } σ2 H2) (hd:∀ σ H,Pv xs.length σ H->D.nx σ H) :
  ∃ W:Nat->Nat->St->Hp->Prop,(∃ m,W 0 m σ H)/\∀ i m σ H,W i m σ H ->
   ((Ite K a).stop i H/\D.nx σ H)\/((Ite K a).go i H/\∃ N:St->Hp->Prop,(∀ σ' H',N σ' H'->∃ m',m'<m/\W (i+1) m' σ' H')/\∀ x H',(Ite K a).yld i H x H'->g x σ H' fun σ2 H2=>tb { D with nx:=N,ct:=N,bk:=D.nx } σ2 H2):=by
 refine⟨fun i m σ H=>m=xs.length-i/\i<=xs.length/\Pv i σ H,⟨xs.length,by simp,Nat.zero_le _,h0⟩,?_⟩;rintro i m σ H ⟨rfl,hi,p⟩;have q:=hl i σ H hi p;by_cases hlt:i<xs.length
 ·refine .inr ⟨⟨xs,xs[i],q,by simp [hlt]⟩,Pv (i+1),fun σ' H' p'=>⟨xs.length-(i+1),by omega,rfl,hlt,p'⟩,fun x H' y=>?_⟩;obtain⟨pp,z,hn,rfl,rfl,hy⟩:=y;exact hs i z σ H pp (hy xs q) p hn
 ·have e:i=xs.length:=by omega
  subst e;exact .inl ⟨⟨xs,q,zpd _⟩,hd σ H p⟩
section
variable {X:Cx}
end
end L2
end
section
namespace L2
open PySem PySem.Spec PyProof.Rows
theorem IxR.imp {X:Cx} {r r':R2} (h:IxR X r) (i:∀ x y H Q,r' x y H Q->r x y H Q):IxR X r':=fun a b pins s σ H x y v u Q I rx ry q e=>h a b pins s σ H x y v u Q I rx ry (i x y H Q q) e
theorem MtR.imp {X:Cx} {id:String} {r r':V->List V->Hp->VK->Prop} (h:MtR X id r) (i:∀ x xs H Q,r' x xs H Q->r x xs H Q):MtR X id r':=fun pins s σ H x xs v us Q I rx rv q=>h pins s σ H x xs v us Q I rx rv (i x xs H Q q)
theorem zmv.imp {X:Cx} {t t':zmC} (h:zmv X t) (i:∀ o j v H Q,t' o j v H Q->t o j v H Q):zmv X t':=fun pins s σ H o j v ov iv u Q I ro ri rv q=>h pins s σ H o j v ov iv u Q I ro ri rv (i o j v H Q q)
theorem SlR.imp {X:Cx} {r r':V->Option Int->Option Int->Hp->VK->Prop} (h:SlR X r) (i:∀ x l u H Q,r' x l u H Q->r x l u H Q):SlR X r':=fun pins s σ H x v vl vu lo hi sl Q I rx hs pl pu q=>h pins s σ H x v vl vu lo hi sl Q I rx hs pl pu (i _ _ _ _ _ q)
theorem zak {H H':Hp} {p:Addr} {o:HO} (n:H p=none) (e:upd H p o=H'):Sub H H'/\H' p=some o:=by subst e;exact⟨Sub.new n,zad⟩
def CV (mg:Str->Option Value) (x:Str) (v:V):Prop:=∃ u,mg x=some u/\zaW v u
section
variable {X:Cx} {a b:Expr} {ta tb:TE} {pos:Pos}
theorem zfH {x:Str} {v:V} {pos:Pos} (hg:Gl X x) (h:CV X.mg x v) (hd:(x == ("__debug__":Str))=false:=by decide):PE X (.Name x pos) (tC v):=by
 obtain⟨u,h1,h2⟩:=h;exact zl0 hg h1 h2 hd
def zn8 (K:PySem.W.Frag):R2:=fun x y H Q=>match x,y with | .ref p,.int i=>∃ xs v,SqL K H p xs/\atI xs i=some v/\Q v H | _,_=>False
def zn9 (K:PySem.W.Frag):R2:=fun x y H Q=>match x,y with | .ref p,.int i=>∃ xs v,SqT K H p xs/\atI xs i=some v/\Q v H | _,_=>False
theorem zoE:IxR X (zn8 X.K):=zlN.imp fun x y H Q h=>by
 unfold zn8 at h;split at h
 ·obtain⟨xs,v,h1,h2,h3⟩:=h;exact⟨_,xs,_,v,rfl,rfl,h1,h2,h3⟩
 ·exact h.elim
theorem zoF:IxR X (zn9 X.K):=zm2.imp fun x y H Q h=>by
 unfold zn9 at h;split at h
 ·obtain⟨xs,v,h1,h2,h3⟩:=h;exact⟨_,xs,_,v,rfl,rfl,h1,h2,h3⟩
 ·exact h.elim
def zlw:zmC:=fun o i v H Q=>match o,i with | .ref p,.int k=>∃ xs j,H p=some (.lst xs)/\ixN xs.length k=some j/\Q (upd H p (.lst (xs.set j v))) | _,_=>False
theorem zhQ:zmv X zlw:=zkP.imp fun o i v H Q h=>by
 unfold zlw at h;split at h
 ·obtain⟨xs,j,h1,h2,h3⟩:=h;exact⟨_,xs,_,j,rfl,rfl,h1,h2,h3⟩
 ·exact h.elim
def cCat:R2:=fun x y H Q=>match x,y with | .ref l,.ref b=>∃ xs zs,H l=some (.lst xs)/\H b=some (.lst zs)/\xs.length+zs.length<=sizeLine/\∀ p,H p=none->Q (.ref p) (upd H p (.lst (xs++zs))) | _,_=>False
theorem zma:OpR X (binaryOp .Add) cCat:=zng.imp fun x y H Q h=>by
 unfold cCat at h;split at h
 ·obtain⟨xs,zs,h⟩:=h;exact⟨_,_,xs,zs,rfl,rfl,h⟩
 ·exact h.elim
def cRep:R2:=fun x y H Q=>match x,y with | .ref l,.int k=>∃ xs,H l=some (.lst xs)/\-(2 ^ 63)<=k/\k<2 ^ 63/\xs.length*k.toNat<=sizeLine/\∀ p,H p=none->Q (.ref p) (upd H p (.lst (List.replicate k.toNat xs).flatten)) | _,_=>False
theorem znw:OpR X (binaryOp .Mult) cRep:=znk.imp fun x y H Q h=>by
 unfold cRep at h;split at h
 ·obtain⟨xs,h⟩:=h;exact⟨_,_,xs,rfl,rfl,h⟩
 ·exact h.elim
def zog (K:PySem.W.Frag):V->Option Int->Option Int->Hp->VK->Prop:=fun x lo hi H Q=>match x with | .ref a=>∃ xs,SqL K H a xs/\∀ p,H p=none->Q (.ref p) (upd H p (.lst (zj1 xs lo hi))) | _=>False
theorem zoI:SlR X (zog X.K):=zmm.imp fun x lo hi H Q h=>by
 unfold zog at h;split at h
 ·obtain⟨xs,h⟩:=h;exact⟨_,xs,rfl,h⟩
 ·exact h.elim
def zob (K:PySem.W.Frag):List V->Hp->VK->Prop:=fun xs H Q=>match xs with | [.ref p]=>∃ ys,(SqL K H p ys\/SqT K H p ys)/\Q (.int ys.length) H | _=>False
theorem zoG:zbm X (.builtin "len") (zob X.K):=zf8.imp fun xs H Q h=>by
 unfold zob at h;split at h
 ·obtain⟨ys,h⟩:=h;exact⟨_,ys,rfl,h⟩
 ·exact h.elim
def cApp:V->List V->Hp->VK->Prop:=fun x vs H Q=>match x,vs with | .ref l,[y]=>∃ xs,H l=some (.lst xs)/\xs.length<sizeLine/\Q .non (upd H l (.lst (xs++[y]))) | _,_=>False
theorem zg6:MtR X "list.append" cApp:=MtR.imp (r:=zjQ) zjs fun x vs H Q h=>by
 unfold cApp at h;split at h
 ·obtain⟨xs,h⟩:=h;exact⟨_,xs,_,rfl,rfl,h⟩
 ·exact h.elim
def zn7 (K:PySem.W.Frag):List V->Hp->VK->Prop:=fun xs H Q=>match xs with | [x,c]=>∃ t b,TyX K H x t/\zjf c=true/\PySem.W.kitOne K t (zoh c)=some b/\Q (.bl b) H | _=>False
theorem zoD:zbm X (.builtin "isinstance") (zn7 X.K):=zka.imp fun xs H Q h=>by
 unfold zn7 at h;split at h
 ·obtain⟨t,b,h⟩:=h;exact⟨_,_,t,b,rfl,h⟩
 ·exact h.elim
def cIn (K:PySem.W.Frag) (neg:Bool):R2:=fun x y H Q=>match y with | .ref p=>∃ xs,(SqL K H p xs\/SqT K H p xs)/\zeA x=true/\xs.all zeA=true/\Q (.bl (if neg then !inV x xs else inV x xs)) H | _=>False
theorem q_in:OpR X (compareOp .In) (cIn X.K false):=zjA.imp fun x y H Q h=>by
 unfold cIn at h;split at h
 ·obtain⟨xs,h⟩:=h;exact⟨_,xs,rfl,h⟩
 ·exact h.elim
def zmI (K:PySem.W.Frag) (tl:TE):TI:=fun σ H R=>tl σ H fun x H1=>match x with | .ref a=>(∃ xs,SqL K H1 a xs)/\R (Itl K a) H1 | _=>False
theorem zmf {tg l:Expr} {tl:TE} (hl:PE X l tl):PI X tg l (zmI X.K tl):=by
 intro pins s σ H R I h;refine thn (hl pins s σ H _ I h) fun v s1 ⟨x,H1,I1,r1,q1⟩=>?_
 obtain⟨a,rfl,⟨xs,hq⟩,q⟩:∃ a,x=.ref a/\(∃ xs,SqL X.K H1 a xs)/\R (Itl X.K a) H1:=by
  dsimp only at q1;split at q1
  ·exact⟨_,rfl,q1⟩
  ·exact q1.elim
 cases r1;obtain⟨its,rv,p,hz⟩:=I1.list hq;refine wpAny_pyIter_list p.isList ?_;refine⟨s1.heap.objs.size,[s1.heap.objs.size],_,_,H1,rfl,I1.kept (t':=s1.toks) fun b o e=>zpa _ e,zgA a _,⟨_,zpy _ rfl,rfl,rfl⟩,fun b hb=>?_,q⟩;have e:b=s1.heap.objs.size:=by simpa using hb
 subst e;exact I1.fpOk (zpd _) (I1.hok.fresh (zpd _))
def zmM (K:PySem.W.Frag) (tl:TE):TI:=fun σ H R=>tl σ H fun x H1=>match x with | .ref a=>(∃ xs,SqT K H1 a xs)/\R (Itt K a) H1 | _=>False
theorem znB {tg l:Expr} {tl:TE} (hl:PE X l tl):PI X tg l (zmM X.K tl):=by
 intro pins s σ H R I h;refine thn (hl pins s σ H _ I h) fun v s1 ⟨x,H1,I1,r1,q1⟩=>?_
 obtain⟨a,rfl,⟨xs,hq⟩,q⟩:∃ a,x=.ref a/\(∃ xs,SqT X.K H1 a xs)/\R (Itt X.K a) H1:=by
  dsimp only at q1;split at q1
  ·exact⟨_,rfl,q1⟩
  ·exact q1.elim
 cases r1;obtain⟨its,rv,p,hz⟩:=I1.tuple hq;refine wpAny_pyIter_tuple (show s1.heap.IsTuple a its.toArray from p) ?_;refine⟨s1.heap.objs.size,[s1.heap.objs.size],_,_,H1,rfl,I1.kept (t':=s1.toks) fun b o e=>zpa _ e,zfi a _,⟨_,zpy _ rfl,rfl,rfl⟩,fun b hb=>?_,q⟩;have e:b=s1.heap.objs.size:=by simpa using hb
 subst e;exact I1.fpOk (zpd _) (I1.hok.fresh (zpd _))
def zof (ta:TA):TI:=fun σ H R=>ta σ H fun vs H1=>match vs with | [.int j]=>(-(2 ^ 62)<=j/\j<2 ^ 62)/\R (Itr 0 j.toNat) H1 | _=>False
theorem zbd {tg a:Expr} {ta:TA} {p pos:Pos} (hg:Gl X "range") (hm:X.mg "range"=none) (ha:PA X [a] ta) (hs:starEach [a] X.env=[(false,eval a X.env)]:=by rfl):PI X tg (.Call (.Name "range" p) [a] [] pos) (zof ta):=by
 intro pins s σ H R I h;refine Call_ (zeY I hg hm boot_range (PyProof.Rows.callWith_type1 (thn (ha pos pins s σ H _ I h) fun us s1 ⟨vs,H1,I1,r1,q1⟩=>?_) hs rfl));obtain⟨j,rfl,⟨q1,q2⟩,q⟩:∃ j,vs=[.int j]/\(-(2 ^ 62)<=j/\j<2 ^ 62)/\R (Itr 0 j.toNat) H1:=by
  dsimp only at q1;split at q1
  ·exact⟨_,rfl,q1⟩
  ·exact q1.elim
 cases r1 with
 | cons r rr =>
  cases rr;obtain⟨t,rfl⟩:=r;exact call_range_1 (zkM I1 (by omega) (by omega) q1 q2 (by simpa using q))
end
section
variable {X:Cx}
def zmN:TGs:=fun vs σ H Q=>match vs with | []=>Q σ H | _=>False
def zk5 (t:TG) (u:TGs):TGs:=fun vs σ H Q=>match vs with | v::r=>t v σ H fun σ' H'=>u r σ' H' Q | []=>False
theorem zaN:PGs X [] zmN:=fun pins s σ H vs us Q I r h=>zl4 pins s σ H vs us Q I r (by
 unfold zmN at h;split at h
 ·exact⟨rfl,h⟩
 ·exact h.elim)
theorem zam {e:Expr} {es:List Expr} {t:TG} {u:TGs} (h1:PG X e t) (h2:PGs X es u)
  (hs:(assignEach (e::es) X.env).map (·.2)=assign e X.env::(assignEach es X.env).map (·.2):=by rfl):PGs X (e::es) (zk5 t u):=fun pins s σ H vs us Q I r h=>zkG h1 h2 hs pins s σ H vs us Q I r (by
 unfold zk5 at h;split at h
 ·exact⟨_,_,rfl,h⟩
 ·exact h.elim)
def zly (K:PySem.W.Frag) (n:Nat) (t:TGs):TG:=fun v σ H Q=>match v with | .ref a=>∃ xs,SqT K H a xs/\xs.length=n/\t xs σ H Q | _=>False
theorem znz {es:List Expr} {k:Nat} {t:TGs} {n:Nat} {pos:Pos} (hc:X.calm=true) (h:PGs X es t)
  (hn:(assignEach es X.env).length=n:=by rfl) (hst:(assignEach es X.env).findIdx? (·.1)=none:=by rfl):PG X (.Tuple es k pos) (zly X.K n t):=fun pins s σ H v u Q I r hw=>znq hc h hn hst pins s σ H v u Q I r (by
 unfold zly at hw;split at hw
 ·obtain⟨xs,h⟩:=hw;exact⟨_,xs,rfl,h⟩
 ·exact hw.elim)
def zod (t:TE):TO:=fun σ H Q=>t σ H fun x H1=>match x with | .int i=>Q (some i) H1 | _=>False
theorem zg7 {e:Expr} {te:TE} (h:PE X e te):PO X (some e) (zod te):=by
 intro pins s σ H Q I hw;rw [evalPart_some];refine thn (h pins s σ H _ I hw) fun u s1 ⟨x,H1,I1,r1,q1⟩=>?_
 obtain⟨i,rfl,q⟩:∃ i,x=.int i/\Q (some i) H1:=by
  dsimp only at q1;split at q1
  ·exact⟨_,rfl,q1⟩
  ·exact q1.elim
 obtain⟨t,rfl⟩:=r1;exact⟨some i,H1,I1,.int i t,q⟩
end
structure ExM (K:PySem.W.Frag) (C:Addr) (pre:List Value):Prop where
 mro:∃ cd,PySem.W.clsIn K C=some cd/\cd.mro=pre++zgD
 ty:PySem.W.typeIn K (.ref C)=some (.type "type")
section
open PySem.W
variable {K:PySem.W.Frag} {C D:Addr} {pre pre':List Value}
end
end L2
end
section
namespace L2
open PySem PySem.Spec PyProof.Rows
theorem ifB.ndec {c:Prop} [Decidable c] {p q:Prop} (h1:c->q) (h2:¬ c->p):ifB (!decide c) p q:=ifB.mk (fun z=>h2 (by simpa using z)) fun z=>h1 (by simpa using z)
section
variable {X:Cx}
theorem zlO {s:Shared} {h':Heap} {o:Obj} (hk:∀ b x,b ∉ [s.heap.objs.size]->(s.heap.push o).get? b=some x->h'.get? b=some x):∀ b x,s.heap.get? b=some x->h'.get? b=some x :=
 fun b x e=>hk b x (fun hm=>by rw [zo6.mp hm] at e;exact Nat.lt_irrefl _ (zpo e)) (zpa _ e)
theorem zjZ:∀ {bs:List Bool} {us:List Value},zaT (bs.map V.bl) us->us=bs.map Value.bool
 | [],us,r=>by cases r;rfl
 | b::bs,us,r=>by
  rw [zpq] at r;cases r with
  | cons r1 r2=>cases r1;rw [zjZ r2];rfl
theorem zit (bs:List Bool):((List.range bs.length).all fun i=>(bs[i]?).getD true)=bs.all id:=by
 rw [Bool.eq_iff_iff,zpn,zpn]
 constructor
 ·intro h b hb;obtain⟨i,hi,e⟩:=List.getElem_of_mem hb
  have:=h i (List.mem_range.mpr hi)
  simp only [zoZ hi,Option.getD_some,e] at this;exact this
 ·intro h i hi;have hi':=List.mem_range.mp hi;simp only [zoZ hi',Option.getD_some];exact h _ (List.getElem_mem hi')
def zn5 (K:PySem.W.Frag):List V->Hp->VK->Prop:=fun xs H Q=>match xs with | [.ref p]=>∃ bs:List Bool,SqL K H p (bs.map V.bl)/\Q (.bl (bs.all id)) H | _=>False
theorem zoA (hc:X.calm=true):zbm X (.builtin "all") (zn5 X.K):=by
 intro pins s σ H xs us Q I r h;unfold zn5 at h;split at h
 ·rename_i p;obtain⟨bs,hq,q⟩:=h;cases r with
  | cons r rr =>
   cases rr;cases r;obtain⟨its,rv,pl,hz⟩:=I.list hq;have e:=zjZ rv;subst e;have hl:=pl.isList;have hlt:p<s.heap.objs.size:=by obtain⟨_,e,_⟩:=hl;exact zpo e
   refine call_all_walk (wpAny_pyIter_list hl ?_);refine⟨s.heap.objs.size,[s.heap.objs.size,p],[s.heap.objs.size],(bs.map Value.bool).toArray.size,_,_,fun i=>(bs[i]?).getD true,rfl,Walks.list (A:=X.A.in1) (I.ok.hd hc) _ p (zpH hlt) (bs.map Value.bool).toArray,
    ⟨⟨_,zpy _ rfl,rfl,rfl⟩,hl.push _⟩,fun i v s' Q' E' hP hQ=>?_,fun h' tk hk=>?_⟩
   ·have hP:(bs.map Value.bool)[i]?=some v:=by simpa using hP
    rw [zoY] at hP;obtain⟨b,e,rfl⟩:=zo0.1 hP;simp only [e,Option.getD_some] at hQ;exact wpAny_truthy_bool hQ
   ·have e:((List.range (bs.map Value.bool).toArray.size).all fun i=>(bs[i]?).getD true)=bs.all id:=by
     rw [zpz,zoX];exact zit bs
    rw [e];exact⟨.bl _,H,I.kept (t':=tk) (zlO hk),rfl,q⟩
 ·exact h.elim
def zlv (K:PySem.W.Frag):List V->Hp->VK->Prop:=fun xs H Q=>match xs with | [.ref p]=>∃ ns:List Int,SqL K H p (ns.map V.int)/\ns≠[]/\∀ m,m∈ns->(∀ n∈ns,n<=m)->Q (.int m) H | _=>False
theorem znu (hc:X.calm=true):zbm X (.builtin "max") (zlv X.K):=by
 intro pins s σ H xs us Q I r h;unfold zlv at h;split at h
 ·rename_i p;obtain⟨ns,hq,hne,q⟩:=h;cases r with
  | cons r rr =>
   cases rr;cases r;obtain⟨its,rv,pl,hz⟩:=I.list hq;have hi:IntsAre its ns:=zdA rv;have hl:=pl.isList;obtain⟨xs,e⟩:=hi.allInts.items;have hns:ns=xs.toList.map (·.1):=by
    rw [← nums_intItems,← e];exact (show numsOf its.toArray.toList=ns from hi.numsOf).symm
   have hsz:0<xs.size:=by
    have h3:=List.length_pos_iff.mpr hne;rw [hns,zoX,zpD] at h3;exact h3
   rw [e] at hl;refine max_intList (I.ok.hd hc) hl hsz fun v h' tk hv hk=>?_
   obtain⟨t,rfl⟩:=intItems_at hv;obtain⟨h1,h2⟩:=argBest_gt (numAt xs) (xs.size-1);refine⟨.int _,H,I.kept (t':=tk) hk,⟨t,rfl⟩,q _ ?_ fun a ha=>?_⟩
   ·rw [hns,numAt_eq];exact getD_mem (by rw [zoX,zpD];omega)
   ·rw [hns] at ha;obtain⟨j,hj,rfl⟩:=mem_getD ha;rw [zoX,zpD] at hj;rw [← numAt_eq];exact h2 j (by omega)
 ·exact h.elim
def zgK (K:PySem.W.Frag):List V->Hp->VK->Prop:=fun xs H Q=>match xs with | [.ref p]=>∃ ys,(SqL K H p ys\/SqT K H p ys)/\∀ l,H l=none->Q (.ref l) (upd H l (.lst ys)) | _=>False
theorem zkL:zbm X (.type "list") (zgK X.K):=zf9.imp fun xs H Q h=>by
 unfold zgK at h;split at h
 ·obtain⟨ys,h⟩:=h;exact⟨_,ys,rfl,h⟩
 ·exact h.elim
end
theorem ze3 {α:Type}:∀ l:List α,(List.range l.length).filterMap (fun k=>l[k]?)=l
 | []=>rfl
 | x::l=>by
  rw [zpA,List.range_succ_eq_map,List.filterMap_cons,List.filterMap_map];show x::_=_
  congr 1
  exact ze3 l
theorem zcH {α β:Type} {f g:α->Option β}:∀ {l:List α},(∀ a∈l,f a=g a)->l.filterMap f=l.filterMap g
 | [],_=>rfl
 | a::l,h=>by
  rw [List.filterMap_cons,List.filterMap_cons,h a (by simp),zcH fun b hb=>h b (by simp [hb])]
section
variable {prog:Program} {w:World} {A:Around} {E:Value->Shared->Prop} {s:Shared}
end
section
variable {X:Cx} {e st:Expr} {te:TE} {ts:TO} {pos p2:Pos}
end
section
variable {X:Cx} {K:PySem.W.Frag} {tg l e st:Expr} {tl te:TE} {ts:TO} {pos p2:Pos}
theorem za2 (hK:X.K=K):IxR X (zn8 K):=hK ▸ zoE
theorem zbI (hK:X.K=K):IxR X (zn9 K):=hK ▸ zoF
theorem zlj (hK:X.K=K):SlR X (zog K):=hK ▸ zoI
theorem za6 (hK:X.K=K):zbm X (.builtin "len") (zob K):=hK ▸ zoG
theorem zaA (hK:X.K=K):zbm X (.builtin "isinstance") (zn7 K):=hK ▸ zoD
theorem zoC (hK:X.K=K):OpR X (compareOp .In) (cIn K false):=hK ▸ q_in
theorem zlg (hK:X.K=K) (hc:X.calm=true):zbm X (.builtin "all") (zn5 K):=hK ▸ zoA hc
theorem zjO (hK:X.K=K) (hc:X.calm=true):zbm X (.builtin "max") (zlv K):=hK ▸ znu hc
theorem zgs (hK:X.K=K):zbm X (.type "list") (zgK K):=hK ▸ zkL
theorem zax (hK:X.K=K) (hl:PE X l tl):PI X tg l (zmI K tl):=hK ▸ zmf hl
theorem zmg (hK:X.K=K) (hl:PE X l tl):PI X tg l (zmM K tl):=hK ▸ znB hl
theorem zaM {es:List Expr} {k:Nat} {t:TGs} {n:Nat} (hK:X.K=K) (hc:X.calm=true) (h:PGs X es t)
  (hn:(assignEach es X.env).length=n:=by rfl) (hst:(assignEach es X.env).findIdx? (·.1)=none:=by rfl):PG X (.Tuple es k pos) (zly K n t):=hK ▸ znz hc h hn hst
end
end L2
end
section
namespace L2
open PySem PySem.Spec PyProof.Rows
abbrev En:=List Int
abbrev Ma:=List (List En)
def za9 (rows signs:Int):En->Bool
 | []=>true
 | [s,w,r]=>(decide (0<=s) && decide (s<signs)) && (decide (w=-1) || decide (w=1)) && (decide (0<=r) && decide (r<rows))
 | _=>false
def zeM (rows signs:Int) (es:List En):Bool:=decide ((es.length:Int)=signs) && es.all (za9 rows signs)
def isM (m:Ma):Bool:=match m with
 | []=>false
 | r0::_=>decide (m.length<=4) && decide (2<=r0.length) && decide (r0.length<=4) && m.all (zeM m.length r0.length)
theorem zce {α:Type} {xs:List α} {i:Int} {v:α} (h0:0<=i) (h:xs[i.toNat]?=some v):atI xs i=some v:=by
 obtain⟨j,rfl⟩:=Int.eq_ofNat_of_zero_le h0;exact zaE h
theorem zjk {n:Nat} {i:Int} (h0:0<=i) (h1:i<n):ixN n i=some i.toNat:=by
 unfold ixN;rw [zpC h0,zpC h1]
def zba {α:Type} (R:Addr->α->Prop) (as:List Addr) (xs:List α):Prop:=as.length=xs.length/\∀ (i:Nat) (a:Addr) (x:α),as[i]?=some a->xs[i]?=some x->R a x
section
variable {α:Type} {R S:Addr->α->Prop} {as:List Addr} {xs:List α}
theorem zba.nil:zba R [] []:=⟨rfl,fun i a x h=>by simp at h⟩
theorem zba.mono (h:zba R as xs) (i:∀ a x,a∈as->R a x->S a x):zba S as xs:=⟨h.1,fun k a x ha hx=>i a x (zo2 ha) (h.2 k a x ha hx)⟩
theorem zba.app (h:zba R as xs) {a:Addr} {x:α} (r:R a x):zba R (as++[a]) (xs++[x]):=by
 refine⟨by simp [h.1],fun i b y hb hy=>?_⟩;by_cases hi:i<as.length
 ·rw [zps hi] at hb;rw [zps (h.1 ▸ hi)] at hy;exact h.2 i b y hb hy
 ·have e:i=as.length:=by
   have:=(zo1.1 hb).1
   simp at this;omega
  subst e;rw [zpt (zpd _),Nat.sub_self] at hb;rw [h.1,zpt (zpd _),Nat.sub_self] at hy;cases hb;cases hy;exact r
theorem zba.at (h:zba R as xs) {i:Nat} {a:Addr} (ha:as[i]?=some a):∃ x,xs[i]?=some x/\R a x:=by
 have hi:=(zo1.1 ha).1;have hi':i<xs.length:=h.1 ▸ hi;exact⟨xs[i],zoZ hi',h.2 i a _ ha (zoZ hi')⟩
theorem zba.set (h:zba R as xs) {i:Nat} {a:Addr} {x:α} (r:R a x):zba R (as.set i a) (xs.set i x):=by
 refine⟨by simp [h.1],fun k b y hb hy=>?_⟩;rw [List.getElem?_set] at hb hy;by_cases e:i=k
 ·subst e;rw [zpC rfl] at hb hy;split at hb
  ·split at hy
   ·cases hb;cases hy;exact r
   ·cases hy
  ·cases hb
 ·rw [zpB e] at hb hy;exact h.2 k b y hb hy
theorem zba.setA (h:zba R as xs) {i:Nat} {a:Addr} {x:α} (ha:as[i]?=some a) (o:∀ b y,b∈as->b≠a->R b y->S b y) (nd:as.Nodup) (s:S a x):zba S as (xs.set i x):=by
 refine⟨by simp [h.1],fun k b y hb hy=>?_⟩;rw [List.getElem?_set] at hy;by_cases e:i=k
 ·subst e;rw [zpC rfl] at hy;rw [ha] at hb;cases hb;split at hy
  ·cases hy;exact s
  ·cases hy
 ·rw [zpB e] at hy;refine o b y (zo2 hb) ?_ (h.2 k b y hb hy);rintro rfl;obtain⟨h1,h2⟩:=zo1.1 ha;obtain⟨h3,h4⟩:=zo1.1 hb;exact e ((List.getElem_inj nd).1 (h2.trans h4.symm))
end
def Ent (H:Hp) (a:Addr) (e:En):Prop:=H a=some (.tup (e.map V.int))
def zj6 (H:Hp) (r:Addr) (as:List Addr) (es:List En):Prop:=H r=some (.lst (as.map V.ref))/\zba (Ent H) as es
def Row (H:Hp) (r:Addr) (es:List En):Prop:=∃ as,zj6 H r as es
def MaR (H:Hp) (p:Addr) (rs:List Addr) (m:Ma):Prop:=H p=some (.lst (rs.map V.ref))/\rs.Nodup/\zba (Row H) rs m
def zdw (H:Hp) (p:Addr) (m:Ma):Prop:=∃ rs,MaR H p rs m
theorem zg8 {as bs:List Addr} (h:as.map V.ref=bs.map V.ref):as=bs:=by
 induction as generalizing bs with
 | nil=>cases bs with
  | nil=>rfl
  | cons b bs=>cases h
 | cons a as ih=>cases bs with
  | nil=>cases h
  | cons b bs =>
   rw [zpq,zpq] at h;injection h with h1 h2
   injection h1 with h1
   rw [h1,ih h2]
section
variable {H H':Hp} {p r a:Addr} {rs as:List Addr} {m:Ma} {es:List En} {e:En}
structure ziB (H H':Hp):Prop where
 tup:∀ a xs,H a=some (.tup xs)->H' a=some (.tup xs)
 refs:∀ a (as:List Addr),H a=some (.lst (as.map V.ref))->H' a=some (.lst (as.map V.ref))
theorem ziB.sub (S:Sub H H'):ziB H H':=⟨fun _ _ h=>S _ _ h,fun _ _ h=>S _ _ h⟩
theorem Ent.stay (S:ziB H H') (h:Ent H a e):Ent H' a e:=S.tup _ _ h
theorem zj6.stay (S:ziB H H') (h:zj6 H r as es):zj6 H' r as es:=⟨S.refs _ _ h.1,h.2.mono fun _ _ _ z=>z.stay S⟩
theorem Row.stay (S:ziB H H'):Row H r es->Row H' r es:=fun ⟨as,h⟩=>⟨as,h.stay S⟩
theorem MaR.stay (S:ziB H H') (h:MaR H p rs m):MaR H' p rs m:=⟨S.refs _ _ h.1,h.2.1,h.2.2.mono fun _ _ _ z=>z.stay S⟩
theorem zdw.stay (S:ziB H H'):zdw H p m->zdw H' p m:=fun ⟨rs,h⟩=>⟨rs,h.stay S⟩
theorem MaR.ne (h:MaR H p rs m) (hr:r∈rs):r≠p:=by
 rintro rfl;obtain⟨i,hi,e⟩:=List.getElem_of_mem hr;obtain⟨es,_,as,h1,h2⟩:=h.2.2.at (zo1.2 ⟨hi,e⟩);rw [h.1] at h1;injection h1 with h1
 injection h1 with h1
 have:=zg8 h1
 subst this;obtain⟨e,_,h3⟩:=h2.at (zo1.2 ⟨hi,e⟩);have h3:H r=some (.tup _):=h3;rw [h.1] at h3;cases h3
theorem Ent.upd {l:Addr} {vs us:List V} (h:Ent H a e) (hl:H l=some (.lst vs)):Ent (L2.upd H l (.lst us)) a e:=by
 show L2.upd H l (.lst us) a=_;rw [zal]
 ·exact h
 ·rintro rfl;have h:H a=some (.tup _):=h;rw [hl] at h;cases h
theorem zj6.upd {l:Addr} {vs us:List V} (h:zj6 H r as es) (hl:H l=some (.lst vs)) (ne:r≠l):zj6 (L2.upd H l (.lst us)) r as es :=
 ⟨by rw [zal ne];exact h.1,h.2.mono fun _ _ _ z=>z.upd hl⟩
theorem Row.upd {l:Addr} {vs us:List V} (h:Row H r es) (hl:H l=some (.lst vs)) (ne:r≠l):Row (L2.upd H l (.lst us)) r es:=h.elim fun as h=>⟨as,h.upd hl ne⟩
theorem MaR.row {i:Nat} {as':List Addr} (h:MaR H p rs m) (hi:rs[i]?=some r) (he:zba (Ent H) as' es):MaR (L2.upd H r (.lst (as'.map V.ref))) p rs (m.set i es):=by
 have hr:r∈rs:=zo2 hi;obtain⟨es0,_,as,h1,h2⟩:=h.2.2.at hi;refine⟨by rw [zal (h.ne hr).symm];exact h.1,h.2.1,h.2.2.setA hi (fun b y _ hb z=>z.upd h1 hb) h.2.1 ⟨as',zad,he.mono fun _ _ _ z=>z.upd h1⟩⟩
theorem MaR.app (h:MaR H p rs m) (hr:Row H r es) (hn:r ∉ rs) (hp:r≠p):MaR (L2.upd H p (.lst ((rs++[r]).map V.ref))) p (rs++[r]) (m++[es]):=by
 refine⟨zad,?_,(h.2.2.mono fun b y hb z=>z.upd h.1 (h.ne hb)).app (hr.upd h.1 hp)⟩;rw [List.nodup_append];exact⟨h.2.1,by simp,fun a ha b hb=>by rw [zo6.1 hb];rintro rfl;exact hn ha⟩
theorem MaR.app' (h:MaR H p rs m) (hr:Row H r es) (hn:r ∉ rs) (hp:r≠p):MaR (L2.upd H p (.lst (rs.map V.ref++[V.ref r]))) p (rs++[r]) (m++[es]):=by
 have:=h.app hr hn hp
 rw [zo5] at this;exact this
theorem MaR.other {l:Addr} {vs us:List V} (h:MaR H p rs m) (hl:H l=some (.lst vs)) (np:l≠p) (nr:l ∉ rs):MaR (L2.upd H l (.lst us)) p rs m :=
 ⟨by rw [zal np.symm];exact h.1,h.2.1,h.2.2.mono fun b y hb z=>z.upd hl (by rintro rfl;exact nr hb)⟩
theorem zgX (as:List Addr) (i:Nat) (a:Addr):(as.map V.ref).set i (V.ref a)=(as.set i a).map V.ref:=(List.map_set).symm
theorem MaR.rowSet {i j:Nat} {a:Addr} (h:MaR H p rs m) (hi:rs[i]?=some r) (hr:zj6 H r as es) (he:Ent H a e):MaR (L2.upd H r (.lst ((as.map V.ref).set j (V.ref a)))) p rs (m.set i (es.set j e)):=by
 rw [zgX];exact h.row hi (hr.2.set he)
theorem zhu:∀ ns:List Int,zcA H (ns.map V.int) (ns.map DD.int)
 | []=>by rw [zpr,zpr,zcA]
 | n::ns=>by rw [zpq,zpq,zcA];exact⟨_,_,rfl,by rw [Den],zhu ns⟩
abbrev dE (e:En):DD:=.tup (e.map DD.int)
abbrev dR (es:List En):DD:=.lst (es.map dE)
abbrev dM (m:Ma):DD:=.lst (m.map dR)
theorem Ent.den (h:Ent H a e):Den H (.ref a) (dE e):=by rw [dE,Den];exact⟨_,_,rfl,h,zhu e⟩
theorem zd4 {α:Type} {f:α->DD} {R:Addr->α->Prop} (hR:∀ a x,R a x->Den H (.ref a) (f x)):∀ {as:List Addr} {xs:List α},zba R as xs->zcA H (as.map V.ref) (xs.map f)
 | [],[],_=>by rw [zpr,zpr,zcA]
 | a::as,x::xs,h=>by
  rw [zpq,zpq,zcA];exact⟨_,_,rfl,hR a x (h.2 0 a x rfl rfl),zd4 hR ⟨by have:=h.1;simpa using this,fun i b y hb hy=>h.2 (i+1) b y hb hy⟩⟩
 | [],_::_,h=>by have:=h.1;simp at this
 | _::_,[],h=>by have:=h.1;simp at this
theorem Row.den:Row H r es->Den H (.ref r) (dR es):=fun ⟨as,h1,h2⟩=>by rw [dR,Den];exact⟨_,_,rfl,h1,zd4 (fun _ _ z=>z.den) h2⟩
theorem zdw.den:zdw H p m->Den H (.ref p) (dM m):=fun ⟨rs,h1,_,h2⟩=>by rw [dM,Den];exact⟨_,_,rfl,h1,zd4 (fun _ _ z=>z.den) h2⟩
theorem zbt {k:Nat}:∀ {ds:List DD},(∀ d∈ds,dep d<=k)->zgE ds<=k
 | [],_=>by rw [zgE];omega
 | d::ds,h=>by rw [zgE];exact Nat.max_le.2 ⟨h d (by simp),zbt fun x hx=>h x (by simp [hx])⟩
theorem zhw:dep (dE e)<=1:=by
 rw [dE,dep]
 have:zgE (e.map DD.int)<=0:=zbt fun d hd=>by
  obtain⟨i,_,rfl⟩:=zpf.1 hd;exact zpd 0
 omega
theorem zmQ:dep (dR es)<=2:=by
 rw [dR,dep]
 have:zgE (es.map dE)<=1:=zbt fun d hd=>by
  obtain⟨i,_,rfl⟩:=zpf.1 hd;exact zhw
 omega
end
theorem MaR.out {H:Hp} {p q:Addr} {rs:List Addr} {m:Ma} (h:MaR H p rs m) (n:H q=none):q ∉ rs:=fun z=>by
 obtain⟨j,hj,e⟩:=List.getElem_of_mem z;obtain⟨es,_,as,h1,_⟩:=h.2.2.at (zo1.2 ⟨hj,e⟩);rw [n] at h1;cases h1
theorem MaR.outp {H:Hp} {p q:Addr} {rs:List Addr} {m:Ma} (h:MaR H p rs m) (n:H q=none):q≠p:=fun z=>by
 have:=h.1
 rw [← z,n] at this;cases this
section
variable {pp:Addr} {k:Int} {A B C:Hp}
end
end L2
end
section
namespace L2
open PySem PySem.Spec PyProof.Rows PySem.W
def zlH:Bool->Keyed->Array Keyed->Nat->Nat->Nat->StateT SortSt Sem (Option Nat):=sortPriv% PySem.Builtin.gallop
def zkv:Array Keyed->Array Keyed->StateT SortSt Sem (Array Keyed):=sortPriv% PySem.Builtin.mergeLo
def zku:Array Keyed->Array Keyed->StateT SortSt Sem (Array Keyed):=sortPriv% PySem.Builtin.mergeHi
section
variable {M:Model} {A:Around} {E:Value->Shared->Prop} {s:Shared} {kf:Keyed->Int} {G:Keyed->Prop} {κ:SortKind}
def Cmp (M:Model) (A:Around) (E:Value->Shared->Prop) (s:Shared) (kf:Keyed->Int) (G:Keyed->Prop) (κ:SortKind):Prop :=
 ∀ (x y:Keyed) (st:SortSt) (Q:Option Bool->SortSt->Prop),G x->G y->kf x≠kf y->kindOf st=κ->Q (some (decide (kf x<kf y))) st->wpS M A E s (lt' x y) Q st
theorem zbR (C:Cmp M A E s kf G κ) {left:Bool} {key:Keyed} {arr:Array Keyed} {base n hint K:Nat} {st:SortSt} {Q:Option Nat->SortSt->Prop} (hk:kindOf st=κ) (gk:G key)
  (hG:∀ i,i<n->∃ x,arr[base+i]?=some x/\G x/\kf x≠kf key/\(kf x<kf key↔i<K)) (hh:hint<n) (hK:K<=n) (h:Q (some K) st):wpS M A E s (zlH left key arr base n hint) Q st:=by
 have beyond:∀ (i:Nat) (R:Option Bool->SortSt->Prop),i<n->R (some (decide (i<K))) st->wpS M A E s (do let x ← elem' arr (base+i);if left=true then lt' x key else do let r ← lt' key x;pure (r.map (!·))) R st:=by
  intro i R hi hR;obtain⟨x,e,gx,ne,hx⟩:=hG i hi;rw [elem'_eq,e];refine wpS_bind (wpS_pure ?_);cases left with
  | true =>
   rw [zpC rfl];refine C x key st R gx gk ne hk ?_;rw [show decide (kf x<kf key)=decide (i<K) from decide_eq_decide.2 hx];exact hR
  | false =>
   rw [zpB (by simp)];refine wpS_bind (C key x st _ gk gx (Ne.symm ne) hk (wpS_pure ?_))
   have:(some (decide (kf key<kf x))).map (!·)=some (decide (i<K)):=by
    show some (!decide (kf key<kf x))=_
    congr 1
    rw [show decide (i<K)=decide (kf x<kf key) from decide_eq_decide.2 hx.symm];by_cases q:kf x<kf key
    ·rw [zo3 q,zo4 (by omega)];rfl
    ·rw [zo4 q,zo3 (by omega)];rfl
   rw [this];exact hR
 refine wpS_bind (beyond hint _ hh ?_);by_cases hr:hint<K
 ·rw [zo3 hr];refine wpS_bind (wpS_mono (wpS_forRange (I:=fun i c st'=>st'=st/\∃ l o,c=(none,l,o)/\hint+l<K/\i+1<=o) (Q:=fun c st'=>st'=st/\∃ l o,c=(none,l,o)/\hint+l<K/\(n-hint<=o\/K<=hint+o)) ?_ ?_ ⟨rfl,0,1,rfl,by omega,by omega⟩) ?_)
  ·rintro i c st' _ hi ⟨rfl,l,o,rfl,h1,h2⟩;dsimp only;by_cases ho:o ≥ n-hint
   ·rw [zpC ho];exact wpS_pure ⟨rfl,l,o,rfl,h1,.inl ho⟩
   ·rw [zpB ho];refine wpS_bind (beyond (hint+o) _ (by omega) ?_);by_cases hm:hint+o<K
    ·rw [zo3 hm];exact wpS_pure ⟨rfl,o,2*o+1,rfl,hm,by omega⟩
    ·rw [zo4 hm];exact wpS_pure ⟨rfl,l,o,rfl,h1,.inr (by omega)⟩
  ·rintro c st' ⟨rfl,l,o,rfl,h1,h2⟩;exact⟨rfl,l,o,rfl,h1,.inl (by omega)⟩
  ·rintro c st' ⟨rfl,l,o,rfl,h1,h2⟩;dsimp only;have b1:hint+l+1<=K:=by omega
   have b2:K<=hint+min o (n-hint):=by omega
   have b3:hint+min o (n-hint)<=n:=by omega
   generalize hint+l+1=lo at b1 ⊢;generalize hint+min o (n-hint)=hi at b2 b3 ⊢;refine wpS_bind (wpS_mono (wpS_forRange (I:=fun i c st''=>st''=st'/\∃ a b,c=(none,a,b)/\a<=K/\K<=b/\b<=n/\b-a<=n-i) (Q:=fun c st''=>st''=st'/\∃ a,c=(none,a,K)) ?_ ?_ ⟨rfl,lo,hi,rfl,b1,b2,b3,by omega⟩) ?_)
   ·rintro i c st'' _ hi ⟨rfl,a,b,rfl,h1,h2,h3,h4⟩;dsimp only;by_cases ho:a ≥ b
    ·rw [zpC ho]
     have:b=K:=by omega
     exact wpS_pure ⟨rfl,a,by rw [this]⟩
    ·rw [zpB ho];refine wpS_bind (beyond (a+(b-a) / 2) _ (by omega) ?_);by_cases hm:a+(b-a) / 2<K
     ·rw [zo3 hm];exact wpS_pure ⟨rfl,_,_,rfl,by omega,h2,h3,by omega⟩
     ·rw [zo4 hm];exact wpS_pure ⟨rfl,_,_,rfl,h1,by omega,by omega,by omega⟩
   ·rintro c st'' ⟨rfl,a,b,rfl,h1,h2,h3,h4⟩
    have:b=K:=by omega
    exact⟨rfl,a,by rw [this]⟩
   ·rintro c st'' ⟨rfl,a,rfl⟩;exact wpS_pure h
 ·rw [zo4 hr];refine wpS_bind (wpS_mono (wpS_forRange (I:=fun i c st'=>st'=st/\∃ l o,c=(none,l,o)/\K+l<=hint/\i+1<=o) (Q:=fun c st'=>st'=st/\∃ l o,c=(none,l,o)/\K+l<=hint/\(hint+1<=o\/hint<K+o)) ?_ ?_ ⟨rfl,0,1,rfl,by omega,by omega⟩) ?_)
  ·rintro i c st' _ hi ⟨rfl,l,o,rfl,h1,h2⟩;dsimp only;by_cases ho:o ≥ hint+1
   ·rw [zpC ho];exact wpS_pure ⟨rfl,l,o,rfl,h1,.inl ho⟩
   ·rw [zpB ho];refine wpS_bind (beyond (hint-o) _ (by omega) ?_);by_cases hm:hint-o<K
    ·rw [zo3 hm];exact wpS_pure ⟨rfl,l,o,rfl,h1,.inr (by omega)⟩
    ·rw [zo4 hm];exact wpS_pure ⟨rfl,o,2*o+1,rfl,by omega,by omega⟩
  ·rintro c st' ⟨rfl,l,o,rfl,h1,h2⟩;exact⟨rfl,l,o,rfl,h1,.inl (by omega)⟩
  ·rintro c st' ⟨rfl,l,o,rfl,h1,h2⟩;dsimp only;have b1:hint+1-min o (hint+1)<=K:=by omega
   have b2:K<=hint-l:=by omega
   have b3:hint-l<=n:=by omega
   generalize hint+1-min o (hint+1)=lo at b1 ⊢;generalize hint-l=hi at b2 b3 ⊢;refine wpS_bind (wpS_mono (wpS_forRange (I:=fun i c st''=>st''=st'/\∃ a b,c=(none,a,b)/\a<=K/\K<=b/\b<=n/\b-a<=n-i) (Q:=fun c st''=>st''=st'/\∃ a,c=(none,a,K)) ?_ ?_ ⟨rfl,lo,hi,rfl,b1,b2,b3,by omega⟩) ?_)
   ·rintro i c st'' _ hi ⟨rfl,a,b,rfl,h1,h2,h3,h4⟩;dsimp only;by_cases ho:a ≥ b
    ·rw [zpC ho]
     have:b=K:=by omega
     exact wpS_pure ⟨rfl,a,by rw [this]⟩
    ·rw [zpB ho];refine wpS_bind (beyond (a+(b-a) / 2) _ (by omega) ?_);by_cases hm:a+(b-a) / 2<K
     ·rw [zo3 hm];exact wpS_pure ⟨rfl,_,_,rfl,by omega,h2,h3,by omega⟩
     ·rw [zo4 hm];exact wpS_pure ⟨rfl,_,_,rfl,h1,by omega,by omega,by omega⟩
   ·rintro c st'' ⟨rfl,a,b,rfl,h1,h2,h3,h4⟩
    have:b=K:=by omega
    exact⟨rfl,a,by rw [this]⟩
   ·rintro c st'' ⟨rfl,a,rfl⟩;exact wpS_pure h
end
section
variable {kf:Keyed->Int} {G:Keyed->Prop}
def Ord (kf:Keyed->Int) (l:List Keyed):Prop:=l.Pairwise fun x y=>kf x<kf y
def Res (kf:Keyed->Int) (base o:List Keyed):Prop:=Ord kf o/\o.Perm base
structure MI (kf:Keyed->Int) (base o ra rb:List Keyed):Prop where
 so:Ord kf o
 sa:Ord kf ra
 sb:Ord kf rb
 oa:∀ x∈o,∀ y∈ra,kf x<kf y
 ob:∀ x∈o,∀ y∈rb,kf x<kf y
 pm:(o++(ra++rb)).Perm base
variable {base o ra rb xs:List Keyed}
theorem MI.swap (h:MI kf base o ra rb):MI kf base o rb ra:=⟨h.so,h.sb,h.sa,h.ob,h.oa,(List.Perm.append_left _ List.perm_append_comm).trans h.pm⟩
theorem MI.stepA (h:MI kf base o (xs++ra) rb) (hx:∀ x∈xs,∀ y∈rb,kf x<kf y):MI kf base (o++xs) ra rb:=by
 obtain⟨s1,s2,s3⟩:=List.pairwise_append.1 h.sa;refine⟨List.pairwise_append.2 ⟨h.so,s1,fun x hx y hy=>h.oa x hx y (zpu _ hy)⟩,s2,h.sb,fun x hx' y hy=>?_,fun x hx' y hy=>?_,?_⟩
 ·rcases zo8.1 hx' with q | q
  ·exact h.oa x q y (zpv _ hy)
  ·exact s3 x q y hy
 ·rcases zo8.1 hx' with q | q
  ·exact h.ob x q y hy
  ·exact hx x q y hy
 ·have:=h.pm
  rw [zpi] at this;rw [zpi];exact this
theorem MI.stepB (h:MI kf base o ra (xs++rb)) (hx:∀ x∈xs,∀ y∈ra,kf x<kf y):MI kf base (o++xs) ra rb:=(h.swap.stepA hx).swap
theorem MI.endA (h:MI kf base o ra []):Res kf base (o++ra):=⟨List.pairwise_append.2 ⟨h.so,h.sa,h.oa⟩,by have:=h.pm;rw [zo9] at this;exact this⟩
theorem MI.endAB (h:MI kf base o ra rb) (hx:∀ x∈ra,∀ y∈rb,kf x<kf y):Res kf base (o++ra++rb):=by
 have:=h
 rw [← zo9 ra] at this;exact (this.stepA hx).swap.endA
theorem MI.endBA (h:MI kf base o ra rb) (hx:∀ x∈ra,∀ y∈rb,kf y<kf x):Res kf base (o++rb++ra):=h.swap.endAB fun y hy x hx'=>hx x hx' y hy
theorem zk7 (k:Int):∀ (l:List Keyed),Ord kf l->(∀ x∈l,kf x≠k)->∃ K,K<=l.length/\∀ i (h:i<l.length),(kf l[i]<k↔i<K)
 | [],_,_=>⟨0,zpd _,fun i h=>absurd h (by simp)⟩
 | x::l,hs,hn=>by
  obtain⟨s1,s2⟩:=List.pairwise_cons.1 hs;obtain⟨K,h1,h2⟩:=zk7 k l s2 fun y hy=>hn y (zpg _ hy)
  by_cases hx:kf x<k
  ·refine⟨K+1,by simp;omega,fun i hi=>?_⟩;cases i with
   | zero=>simp [hx]
   | succ i=>rw [List.getElem_cons_succ,h2 i (by simp at hi;omega)];omega
  ·refine⟨0,Nat.zero_le _,fun i hi=>?_⟩;have hk:k<kf x:=by have:=hn x (zpw ..);omega
   cases i with
   | zero=>simp;omega
   | succ i =>
    rw [List.getElem_cons_succ];have hi':i<l.length:=by simp at hi;omega
    have:=s1 l[i] (List.getElem_mem _)
    omega
structure AI (kf:Keyed->Int) (a b out:Array Keyed) (ia ib:Nat):Prop where
 m:MI kf (a.toList++b.toList) out.toList (a.toList.drop ia) (b.toList.drop ib)
variable {a b out:Array Keyed} {ia ib k:Nat} {x y:Keyed}
theorem zci (h:a[ia]?=some x):a.toList.drop ia=x::a.toList.drop (ia+1):=by
 rw [← zpE] at h;obtain⟨h1,h2⟩:=zo1.1 h;rw [zpL h1,h2]
theorem zdW:(a.extract ia (ia+k)).toList++a.toList.drop (ia+k)=a.toList.drop ia:=by
 rw [Array.toList_extract,List.extract_eq_take_drop,show ia+k-ia=k by omega,← List.drop_drop];exact List.take_append_drop _ _
theorem zfq:(a.extract ia a.size).toList=a.toList.drop ia:=by
 rw [Array.toList_extract,List.extract_eq_take_drop,List.take_of_length_le];rw [List.length_drop,zpD];exact zpd _
theorem AI.pushA (h:AI kf a b out ia ib) (hx:a[ia]?=some x) (hl:∀ y∈b.toList.drop ib,kf x<kf y):AI kf a b (out.push x) (ia+1) ib:=by
 have:=h.m
 rw [zci hx] at this;refine⟨?_⟩;rw [Array.toList_push];exact this.stepA (xs:=[x]) fun z hz=>by rw [zo6.1 hz];exact hl
theorem AI.pushB (h:AI kf a b out ia ib) (hx:b[ib]?=some x) (hl:∀ y∈a.toList.drop ia,kf x<kf y):AI kf a b (out.push x) ia (ib+1):=by
 have:=h.m
 rw [zci hx] at this;refine⟨?_⟩;rw [Array.toList_push];exact this.stepB (xs:=[x]) fun z hz=>by rw [zo6.1 hz];exact hl
theorem AI.extA (h:AI kf a b out ia ib) (hl:∀ x∈(a.extract ia (ia+k)).toList,∀ y∈b.toList.drop ib,kf x<kf y):AI kf a b (out++a.extract ia (ia+k)) (ia+k) ib:=by
 have:=h.m
 rw [← zdW (k:=k)] at this;refine⟨?_⟩;rw [Array.toList_append];exact this.stepA hl
theorem AI.extB (h:AI kf a b out ia ib) (hl:∀ x∈(b.extract ib (ib+k)).toList,∀ y∈a.toList.drop ia,kf x<kf y):AI kf a b (out++b.extract ib (ib+k)) ia (ib+k):=by
 have:=h.m
 rw [← zdW (a:=b) (k:=k)] at this;refine⟨?_⟩;rw [Array.toList_append];exact this.stepB hl
def zf2 (kf:Keyed->Int) (a b out:Array Keyed):Prop:=Res kf (a.toList++b.toList) out.toList
theorem AI.done (h:AI kf a b out ia ib) (he:a.size<=ia\/b.size<=ib):zf2 kf a b (out++a.extract ia a.size++b.extract ib b.size):=by
 unfold zf2;rw [Array.toList_append,Array.toList_append,zfq,zfq];refine h.m.endAB fun x hx y hy=>?_
 rcases he with he | he
 ·rw [List.drop_eq_nil_of_le (by rw [zpD];exact he)] at hx;cases hx
 ·rw [List.drop_eq_nil_of_le (by rw [zpD];exact he)] at hy;cases hy
theorem AI.lastA (h:AI kf a b out ia ib) (he:ia+1=a.size) (hl:∀ x,a[a.size-1]?=some x->∀ y∈b.toList,kf y<kf x):zf2 kf a b (out++b.extract ib b.size++a.extract ia a.size):=by
 unfold zf2;rw [Array.toList_append,Array.toList_append,zfq,zfq];refine h.m.endBA fun x hx y hy=>?_
 have hia:ia<a.size:=by omega
 rw [zci (Array.getElem?_eq_getElem hia),List.drop_eq_nil_of_le (by rw [zpD];omega)] at hx;rw [zo6.1 hx];exact hl _ (by rw [show a.size-1=ia by omega];exact Array.getElem?_eq_getElem hia) y (List.mem_of_mem_drop hy)
theorem Ord.head (h:Ord kf (x::ra)):∀ y∈x::ra,kf x<=kf y:=fun y hy=>by
 rcases zpG.1 hy with rfl | q
 ·exact Int.le_refl _
 ·exact Int.le_of_lt ((List.pairwise_cons.1 h).1 y q)
structure Two (kf:Keyed->Int) (G:Keyed->Prop) (a b:Array Keyed):Prop where
 ga:∀ x∈a.toList,G x
 gb:∀ x∈b.toList,G x
 ne:∀ x∈a.toList,∀ y∈b.toList,kf x≠kf y
 sa:Ord kf a.toList
 sb:Ord kf b.toList
 na:0<a.size
 nb:0<b.size
 hd:∀ y,b[0]?=some y->∀ x∈a.toList,kf y<kf x
 lst:∀ x,a[a.size-1]?=some x->∀ y∈b.toList,kf y<kf x
theorem zaU (h:a[ia]?=some x):x∈a.toList:=Array.mem_toList_iff.2 (Array.mem_of_getElem? h)
theorem zaC (h:ia<a.size):∃ x,a[ia]?=some x:=⟨_,Array.getElem?_eq_getElem h⟩
theorem AI.start (T:Two kf G a b) (h:b[0]?=some x):AI kf a b #[x] 0 1:=by
 refine⟨?_⟩;have e:=zci h;rw [List.drop_zero] at e;have s:=T.sb;rw [e] at s;have s':=List.pairwise_cons.1 s;refine⟨List.pairwise_singleton _ _,T.sa,s'.2,fun z hz y hy=>?_,fun z hz y hy=>?_,?_⟩
 ·rw [zo6.1 hz];exact T.hd x h y hy
 ·rw [zo6.1 hz];exact s'.1 y hy
 ·rw [List.drop_zero]
  conv=>rhs;rw [e]
  show (x::(a.toList++List.drop 1 b.toList)).Perm _;exact (List.perm_middle).symm
theorem AI.ltB (h:AI kf a b out ia ib) (hx:a[ia]?=some x) (hy:b[ib]?=some y) (l:kf x<kf y):∀ z∈b.toList.drop ib,kf x<kf z:=fun z hz=>by
 have s:=h.m.sb;rw [zci hy] at s hz;exact Int.lt_of_lt_of_le l (s.head z hz)
theorem AI.ltA (h:AI kf a b out ia ib) (hx:a[ia]?=some x) (hy:b[ib]?=some y) (l:kf y<kf x):∀ z∈a.toList.drop ia,kf y<kf z:=fun z hz=>by
 have s:=h.m.sa;rw [zci hx] at s hz;exact Int.lt_of_lt_of_le l (s.head z hz)
theorem zbg {i j:Nat} (h:x∈(a.extract i j).toList):∃ k,i<=k/\k<j/\a[k]?=some x:=by
 rw [Array.toList_extract,List.extract_eq_take_drop] at h;obtain⟨n,hn⟩:=List.mem_iff_getElem?.1 h;rw [List.getElem?_take] at hn;split at hn
 ·rw [List.getElem?_drop] at hn;refine⟨i+n,by omega,by omega,?_⟩;rw [← zpE];exact hn
 ·cases hn
theorem zjr {i:Nat} (h:x∈a.toList.drop i):∃ k,i<=k/\a[k]?=some x:=by
 obtain⟨n,hn⟩:=List.mem_iff_getElem?.1 h;rw [List.getElem?_drop] at hn;exact⟨i+n,by omega,by rw [← zpE];exact hn⟩
theorem zfm {arr:Array Keyed} {bs n:Nat} {kk:Int} (hn:bs+n<=arr.size) (hs:∀ i j x y,i<j->j<n->arr[bs+i]?=some x->arr[bs+j]?=some y->kf x<kf y)
  (hg:∀ i x,i<n->arr[bs+i]?=some x->G x/\kf x≠kk):∃ K,K<=n/\∀ i,i<n->∃ x,arr[bs+i]?=some x/\G x/\kf x≠kk/\(kf x<kk↔i<K):=by
 have g:∀ i (h:i<((arr.toList.drop bs).take n).length),i<n/\arr[bs+i]?=some ((arr.toList.drop bs).take n)[i]:=fun i h=>by
  have e:=zoZ h
  have:i<n:=by rw [zpm] at h;omega
  rw [List.getElem?_take,zpC this,List.getElem?_drop,zpE] at e;exact⟨this,e⟩
 have hl:((arr.toList.drop bs).take n).length=n:=by rw [zpm,List.length_drop,zpD];omega
 obtain⟨K,h1,h2⟩:=zk7 (kf:=kf) kk ((arr.toList.drop bs).take n) (List.pairwise_iff_getElem.2 fun i j hi hj hij=>hs i j _ _ hij (g j hj).1 (g i hi).2 (g j hj).2) fun x hx=>by
  obtain⟨i,hi,rfl⟩:=List.mem_iff_getElem.1 hx;exact (hg i _ (g i hi).1 (g i hi).2).2
 refine⟨K,by omega,fun i hi=>?_⟩;have hi':i<((arr.toList.drop bs).take n).length:=by omega
 obtain⟨q1,q2⟩:=hg i _ hi (g i hi').2;exact⟨_,(g i hi').2,q1,q2,h2 i hi'⟩
theorem Ord.arr (h:Ord kf a.toList) {i j:Nat} {x y:Keyed} (hij:i<j) (hx:a[i]?=some x) (hy:a[j]?=some y):kf x<kf y:=by
 rw [← zpE] at hx hy;obtain⟨h1,rfl⟩:=zo1.1 hx;obtain⟨h2,rfl⟩:=zo1.1 hy;exact List.pairwise_iff_getElem.1 h i j h1 h2 hij
theorem Ord.ofArr (h:∀ (i j:Nat) (x y:Keyed),i<j->a[i]?=some x->a[j]?=some y->kf x<kf y):Ord kf a.toList :=
 List.pairwise_iff_getElem.2 fun i j hi hj hij=>h i j _ _ hij (by rw [← zpE];exact zoZ hi) (by rw [← zpE];exact zoZ hj)
theorem Two.cutA (T:Two kf G a b) (hy:y∈b.toList) {bs n:Nat} (hn:bs+n<=a.size):∃ K,K<=n/\∀ i,i<n->∃ x,a[bs+i]?=some x/\G x/\kf x≠kf y/\(kf x<kf y↔i<K) :=
 zfm hn (fun i j x z hij _ hx hz=>T.sa.arr (by omega) hx hz) fun i x _ hx=>⟨T.ga x (zaU hx),T.ne x (zaU hx) y hy⟩
theorem Two.cutB (T:Two kf G a b) (hx:x∈a.toList) {bs n:Nat} (hn:bs+n<=b.size):∃ K,K<=n/\∀ i,i<n->∃ y,b[bs+i]?=some y/\G y/\kf y≠kf x/\(kf y<kf x↔i<K) :=
 zfm hn (fun i j x z hij _ hx hz=>T.sb.arr (by omega) hx hz) fun i y _ hy=>⟨T.gb y (zaU hy),Ne.symm (T.ne x hx y (zaU hy))⟩
theorem AI.galA {K:Nat} (T:Two kf G a b) (S:AI kf a b out ia ib) (hy:b[ib]?=some y) (l1:ia+1<a.size) (hK:K<=a.size-ia)
  (cut:∀ i,i<a.size-ia->∃ x,a[ia+i]?=some x/\G x/\kf x≠kf y/\(kf x<kf y↔i<K)) :
  AI kf a b (out++a.extract ia (ia+K)) (ia+K) ib/\(∀ x∈a.toList.drop (ia+K),kf y<kf x)/\ia+K+1<=a.size:=by
 have at_:∀ k x,ia<=k->a[k]?=some x->kf x≠kf y/\(kf x<kf y↔k<ia+K):=fun k x k1 k3=>by
  have hk3:=(Array.getElem?_eq_some_iff.1 k3).1;obtain⟨d,rfl⟩:=Nat.exists_eq_add_of_le k1;obtain⟨x',e,_,ne,z⟩:=cut d (by omega);rw [k3] at e;cases e;exact⟨ne,z.trans Nat.add_lt_add_iff_left.symm⟩
 refine⟨S.extA (k:=K) fun x hx z hz=>?_,fun x hx=>?_,?_⟩
 ·obtain⟨k,k1,k2,k3⟩:=zbg hx;have s:=S.m.sb;rw [zci hy] at s hz;exact Int.lt_of_lt_of_le ((at_ k x k1 k3).2.2 k2) (s.head z hz)
 ·obtain⟨k,k1,k3⟩:=zjr hx;obtain⟨ne,z⟩:=at_ k x (zpc (Nat.le_add_right _ _) k1) k3;exact (Int.lt_or_lt_of_ne ne).resolve_left fun q=>absurd (z.1 q) (Nat.not_lt.2 k1)
 ·obtain⟨xl,hxl⟩:=zaC (a:=a) (ia:=a.size-1) (by omega);obtain⟨ne,z⟩:=at_ _ xl (by omega) hxl;have q:=T.lst _ hxl y (zaU hy)
  have:=mt z.2 (Int.not_lt.2 (Int.le_of_lt q))
  omega
theorem AI.galB {L:Nat} (S:AI kf a b out ia ib) (hx:a[ia]?=some x) (cut:∀ i,i<b.size-ib->∃ y,b[ib+i]?=some y/\G y/\kf y≠kf x/\(kf y<kf x↔i<L)) :
  AI kf a b (out++b.extract ib (ib+L)) ia (ib+L)/\∀ z∈b.toList.drop (ib+L),kf x<kf z:=by
 have at_:∀ k y,ib<=k->b[k]?=some y->kf y≠kf x/\(kf y<kf x↔k<ib+L):=fun k y k1 k3=>by
  have hk3:=(Array.getElem?_eq_some_iff.1 k3).1;obtain⟨d,rfl⟩:=Nat.exists_eq_add_of_le k1;obtain⟨x',e,_,ne,z⟩:=cut d (by omega);rw [k3] at e;cases e;exact⟨ne,z.trans Nat.add_lt_add_iff_left.symm⟩
 refine⟨S.extB (k:=L) fun z hz u hu=>?_,fun z hz=>?_⟩
 ·obtain⟨k,k1,k2,k3⟩:=zbg hz;have s:=S.m.sa;rw [zci hx] at s hu;exact Int.lt_of_lt_of_le ((at_ k z k1 k3).2.2 k2) (s.head u hu)
 ·obtain⟨k,k1,k3⟩:=zjr hz;obtain⟨ne,w⟩:=at_ k z (zpc (Nat.le_add_right _ _) k1) k3;exact (Int.lt_or_lt_of_ne ne).resolve_left fun q=>absurd (w.1 q) (Nat.not_lt.2 k1)
end
section
variable {M:Model} {A:Around} {E:Value->Shared->Prop} {s:Shared} {kf:Keyed->Int} {G:Keyed->Prop} {κ:SortKind}
abbrev zbJ (st:SortSt) (g:Nat):SortSt:=SortSt.mk' (kindOf st) (arrOf st) (pendingOf st) g (failedOf st)
theorem zaL {a:Array Keyed} {i:Nat} {x:Keyed} {st:SortSt} {R:Keyed->SortSt->Prop} (hx:a[i]?=some x) (h:R x st):wpS M A E s (elem' a i) R st:=by rw [elem'_eq,hx];exact wpS_pure h
theorem zaz {σ α:Type} {c:Prop} [Decidable c] {m1 m2:StateT σ Sem α} {Q:α->σ->Prop} {st:σ} (h1:c->wpS M A E s m1 Q st) (h2:¬ c->wpS M A E s m2 Q st):wpS M A E s (if c then m1 else m2) Q st:=by
 by_cases h:c
 ·rw [zpC h];exact h1 h
 ·rw [zpB h];exact h2 h
theorem zhY {σ α:Type} {k f:Nat->StateT σ Sem α} {Q:α->σ->Prop} {st:σ} (hk:∀ n,k n=f (n-1)) (h:∀ n,wpS M A E s (f n) Q st):∀ mg:Nat,wpS M A E s (if mg > 1 then k mg else f mg) Q st:=fun mg=>zaz (fun _=>by rw [hk];exact h _) fun _=>h _
set_option hygiene false in
local macro_rules | `(tactic| walk_at "loEnd") => `(tactic| (
 refine wpS_bind (zaL hx ?_);have S4:=S3.pushA hx hi2;refine zaz (fun e=>?_) fun e=>?_
 ·exact wpS_pure ⟨_,rfl,.inl ⟨_,rfl,S4.lastA (by simpa using e) T.lst⟩⟩
 have e2:I+1+1≠a.size:=by simpa using e
 refine zaz (fun _=>?_) fun _=>?_
 ·exact wpS_pure ⟨_,rfl,.inr ⟨_,_,_,_,_,_,rfl,S4,by omega,by omega,by omega⟩⟩
 ·exact wpS_pure ⟨_,rfl,_,_,_,_,_,_,rfl,S4,by omega,by omega,by omega⟩))
set_option hygiene false in
local macro_rules | `(tactic| walk_at "loTail") => `(tactic| (
 refine wpS_bind (zaL hy ?_);have S2:=S1.pushB hy hi;refine zaz (fun e=>?_) fun e=>?_
 ·have e0:ib+1=b.size:=by simpa using e
  exact wpS_pure ⟨_,rfl,.inl ⟨_,rfl,S2.done (.inr (by omega))⟩⟩
 have e1:ib+1≠b.size:=by simpa using e
 obtain⟨x,hx⟩:=zaC (a:=a) (ia:=I) (by omega);refine wpS_bind (zaL hx ?_);obtain⟨L,hL,cutb⟩:=T.cutB (zaU hx) (bs:=ib+1) (n:=b.size-(ib+1)) (by omega);refine wpS_bind (zbR C (K:=L) hk (T.ga x (zaU hx)) cutb (by omega) hL ?_);dsimp only;obtain⟨S3,hi2⟩:=AI.galB S2 hx cutb;refine zaz (fun _=>?_) fun eL=>?_
 ·refine zaz (fun e=>?_) fun e=>?_
  ·have e0:ib+1+L=b.size:=by simpa using e
   exact wpS_pure ⟨_,rfl,.inl ⟨_,rfl,S3.done (.inr (by omega))⟩⟩
  have e3:ib+1+L≠b.size:=by simpa using e
  walk_at "loEnd"
 ·obtain rfl:L=0:=by omega
  have S3:=S2;walk_at "loEnd"))
theorem zid (C:Cmp M A E s kf G κ) {a b:Array Keyed} {st:SortSt} {Q:Array Keyed->SortSt->Prop} (hk:kindOf st=κ) (T:Two kf G a b) (h:∀ o g,zf2 kf a b o->Q o (zbJ st g)):wpS M A E s (zkv a b) Q st:=by
 obtain⟨x0,hx0⟩:=zaC T.nb;refine wpS_bind (wpS_lift (wpAny_rule ⟨rfl,?_⟩));refine wpS_bind (zaL hx0 ?_);have S:=AI.start T hx0;by_cases h1:1=b.size
 ·rw [zpC (by simpa using h1)];exact wpS_pure (h _ (gallopOf st) (S.done (.inr (by omega))))
 by_cases h2:1=a.size
 ·rw [zpB (by simpa using h1),zpC (by simpa using h2)];exact wpS_pure (h _ (gallopOf st) (S.lastA (by omega) T.lst))
 rw [zpB (by simpa using h1),zpB (by simpa using h2)];refine wpS_bind (wpS_get ?_);have na:=T.na;have nb:=T.nb;refine wpS_bind (wpS_mono (wpS_forRange (I:=fun i c st'=>∃ g,st'=zbJ st g/\∃ out ia ib mg,c=(none,out,ia,ib,mg)/\AI kf a b out ia ib/\ia+1<a.size/\ib<b.size/\i+1<=ia+ib)
  (Q:=fun c st'=>∃ g,st'=zbJ st g/\∃ o,c.1=some o/\zf2 kf a b o) ?_ ?_ ⟨gallopOf st,rfl,_,0,1,_,rfl,S,by omega,by omega,by omega⟩) ?_)
 ·rintro i c st' _ hi ⟨g,rfl,out,ia,ib,mg,rfl,S,l1,l2,l3⟩;dsimp only;refine wpS_bind (wpS_mono (wpS_forRange (I:=fun j c st'=>st'=zbJ st g/\∃ out ia ib ac bc,c=(none,out,ia,ib,ac,bc)/\AI kf a b out ia ib/\ia+1<a.size/\ib<b.size/\i+1+j<=ia+ib)
   (Q:=fun c st'=>st'=zbJ st g/\((∃ o,c.1=some o/\zf2 kf a b o)\/∃ out ia ib ac bc,c=(none,out,ia,ib,ac,bc)/\AI kf a b out ia ib/\ia+1<a.size/\ib<b.size/\i+2<=ia+ib)) ?_ ?_ ⟨rfl,out,ia,ib,0,0,rfl,S,l1,l2,by omega⟩) ?_)
  ·rintro j c st' _ hj ⟨rfl,out,ia,ib,ac,bc,rfl,S,l1,l2,l3⟩;dsimp only;obtain⟨x,hx⟩:=zaC (a:=a) (ia:=ia) (by omega);obtain⟨y,hy⟩:=zaC (a:=b) (ia:=ib) l2;refine wpS_bind (zaL hy ?_);refine wpS_bind (zaL hx ?_);refine wpS_bind (C y x _ _ (T.gb y (zaU hy)) (T.ga x (zaU hx)) (Ne.symm (T.ne x (zaU hx) y (zaU hy))) hk ?_);have hn:=T.ne x (zaU hx) y (zaU hy);by_cases q:kf y<kf x
   ·rw [zo3 q];dsimp only;rw [zpC rfl];refine wpS_bind (zaL hy ?_);have S':=S.pushB hy (S.ltA hx hy q);by_cases e1:ib+1=b.size
    ·rw [zpC (by simpa using e1)];exact wpS_pure ⟨rfl,.inl ⟨_,rfl,S'.done (.inr (by omega))⟩⟩
    rw [zpB (by simpa using e1)];split
    ·exact wpS_pure ⟨rfl,.inr ⟨_,_,_,_,_,rfl,S',l1,by omega,by omega⟩⟩
    ·exact wpS_pure ⟨rfl,_,_,_,_,_,rfl,S',l1,by omega,by omega⟩
   ·rw [zo4 q];dsimp only;rw [zpB (by simp)];refine wpS_bind (zaL hx ?_);have S':=S.pushA hx (S.ltB hx hy (by omega));by_cases e1:ia+1+1=a.size
    ·rw [zpC (by simpa using e1)];exact wpS_pure ⟨rfl,.inl ⟨_,rfl,S'.lastA e1 T.lst⟩⟩
    rw [zpB (by simpa using e1)];split
    ·exact wpS_pure ⟨rfl,.inr ⟨_,_,_,_,_,rfl,S',by omega,by omega,by omega⟩⟩
    ·exact wpS_pure ⟨rfl,_,_,_,_,_,rfl,S',by omega,by omega,by omega⟩
  ·rintro c st' ⟨rfl,out,ia,ib,ac,bc,rfl,S,l1,l2,l3⟩;exact⟨rfl,.inr ⟨_,_,_,_,_,rfl,S,l1,l2,by omega⟩⟩
  ·rintro c st' ⟨rfl,⟨o,e,ho⟩ | ⟨out,ia,ib,ac,bc,rfl,S,l1,l2,l3⟩⟩
   ·obtain⟨c1,c2⟩:=c;dsimp only at e ⊢;subst e;exact wpS_pure ⟨g,rfl,o,rfl,ho⟩
   dsimp only;refine wpS_bind (wpS_lift (wpAny_rule ⟨rfl,?_⟩));refine wpS_bind (wpS_mono (wpS_forRange (I:=fun j c st'=>∃ g,st'=zbJ st g/\∃ out ia ib mg ac bc,c=(none,out,ia,ib,mg,ac,bc)/\AI kf a b out ia ib/\ia+1<a.size/\ib<b.size/\i+2<=ia+ib)
    (Q:=fun c st'=>∃ g,st'=zbJ st g/\((∃ o,c.1=some o/\zf2 kf a b o)\/∃ out ia ib mg ac bc,c=(none,out,ia,ib,mg,ac,bc)/\AI kf a b out ia ib/\ia+1<a.size/\ib<b.size/\i+2<=ia+ib)) ?_ ?_ ⟨g,rfl,out,ia,ib,_,_,_,rfl,S,l1,l2,by omega⟩) ?_)
   ·rintro j c st' _ hj ⟨g,rfl,out,ia,ib,mg,ac,bc,rfl,S,l1,l2,l3⟩;dsimp only
    revert mg
    refine zhY (fun _=>rfl) (fun mg=>?_);refine wpS_bind (wpS_modify ?_);obtain⟨y,hy⟩:=zaC (a:=b) (ia:=ib) l2;refine wpS_bind (zaL hy ?_);obtain⟨K,hK,cut⟩:=T.cutA (zaU hy) (bs:=ia) (n:=a.size-ia) (by omega);refine wpS_bind (zbR C (K:=K) hk (T.gb y (zaU hy)) cut (by omega) hK ?_);dsimp only;obtain⟨S1,hi,hKl⟩:=AI.galA T S hy l1 hK cut;refine zaz (fun _=>?_) fun eK=>?_
    ·refine zaz (fun e=>?_) fun e=>?_
     ·exact wpS_pure ⟨_,rfl,.inl ⟨_,rfl,S1.lastA (by simpa using e) T.lst⟩⟩
     have e4:ia+K+1≠a.size:=by simpa using e
     rw [zpB (by simp;omega)];generalize hI:ia+K=I at *;walk_at "loTail"
    ·obtain rfl:K=0:=by omega
     clear S1;have S1:=S;rw [Nat.add_zero] at hi;generalize ia=I at *;walk_at "loTail"
   ·rintro c st' ⟨g,rfl,out,ia,ib,mg,ac,bc,rfl,S,l1,l2,l3⟩;exact⟨g,rfl,.inr ⟨_,_,_,_,_,_,rfl,S,l1,l2,by omega⟩⟩
   ·rintro c st' ⟨g,rfl,⟨o,e,ho⟩ | ⟨out,ia,ib,mg,ac,bc,rfl,S,l1,l2,l3⟩⟩
    ·obtain⟨c1,c2⟩:=c;dsimp only at e ⊢;subst e;exact wpS_pure ⟨g,rfl,o,rfl,ho⟩
    dsimp only;exact wpS_bind (wpS_modify (wpS_pure ⟨_,rfl,_,_,_,_,rfl,S,l1,l2,by omega⟩))
 ·rintro c st' ⟨g,rfl,out,ia,ib,mg,rfl,S,l1,l2,l3⟩;omega
 ·rintro ⟨c1,c2⟩ st' ⟨g,rfl,o,rfl,ho⟩;exact wpS_pure (h o g ho)
end
section
variable {kf:Keyed->Int} {G:Keyed->Prop}
structure HI (kf:Keyed->Int) (a b out:Array Keyed) (na nb:Nat):Prop where
 m:MI (fun x=>- kf x) (a.toList++b.toList) out.toList (a.toList.take na).reverse (b.toList.take nb).reverse
variable {a b out:Array Keyed} {na nb k:Nat} {x y:Keyed}
theorem zhl (h:a[na]?=some x):(a.toList.take (na+1)).reverse=x::(a.toList.take na).reverse:=by
 rw [← zpE] at h;obtain⟨h1,h2⟩:=zo1.1 h;rw [List.take_succ_eq_append_getElem h1,h2,List.reverse_append]
 rfl
theorem zhC (h:k<=na):(a.extract k na).reverse.toList++(a.toList.take k).reverse=(a.toList.take na).reverse:=by
 rw [Array.toList_reverse,← List.reverse_append,Array.toList_extract,List.extract_eq_take_drop]
 congr 1
 conv=>rhs;rw [show na=k+(na-k) by omega,List.take_add]
theorem zd8:(a.extract 0 na).toList=a.toList.take na:=by
 rw [Array.toList_extract,List.extract_eq_take_drop,List.drop_zero]
 rfl
theorem HI.pushA (h:HI kf a b out (na+1) nb) (hx:a[na]?=some x) (hl:∀ y∈b.toList.take nb,kf y<kf x):HI kf a b (out.push x) na nb:=by
 have:=h.m
 rw [zhl hx] at this;refine⟨?_⟩;rw [Array.toList_push];exact this.stepA (xs:=[x]) fun z hz y hy=>by rw [zo6.1 hz];have:=hl y (List.mem_reverse.1 hy);omega
theorem HI.pushB (h:HI kf a b out na (nb+1)) (hx:b[nb]?=some x) (hl:∀ y∈a.toList.take na,kf y<kf x):HI kf a b (out.push x) na nb:=by
 have:=h.m
 rw [zhl hx] at this;refine⟨?_⟩;rw [Array.toList_push];exact this.stepB (xs:=[x]) fun z hz y hy=>by rw [zo6.1 hz];have:=hl y (List.mem_reverse.1 hy);omega
theorem HI.extA (h:HI kf a b out na nb) (hk:k<=na) (hl:∀ x∈(a.extract k na).toList,∀ y∈b.toList.take nb,kf y<kf x):HI kf a b (out++(a.extract k na).reverse) k nb:=by
 have:=h.m
 rw [← zhC hk] at this;refine⟨?_⟩;rw [Array.toList_append];exact this.stepA fun x hx y hy=>by rw [Array.toList_reverse,List.mem_reverse] at hx;have:=hl x hx y (List.mem_reverse.1 hy);omega
theorem HI.extB (h:HI kf a b out na nb) (hk:k<=nb) (hl:∀ x∈(b.extract k nb).toList,∀ y∈a.toList.take na,kf y<kf x):HI kf a b (out++(b.extract k nb).reverse) na k:=by
 have:=h.m
 rw [← zhC hk] at this;refine⟨?_⟩;rw [Array.toList_append];exact this.stepB fun x hx y hy=>by rw [Array.toList_reverse,List.mem_reverse] at hx;have:=hl x hx y (List.mem_reverse.1 hy);omega
theorem Res.back {base o:List Keyed} (h:Res (fun x=>- kf x) base o):Res kf base o.reverse:=by
 refine⟨?_,(List.reverse_perm _).trans h.2⟩;unfold Ord;rw [List.pairwise_reverse];exact h.1.imp fun q=>by dsimp only at q;omega
theorem HI.done (h:HI kf a b out na nb) (he:na=0\/nb=0):zf2 kf a b (a.extract 0 na++b.extract 0 nb++out.reverse):=by
 unfold zf2
 have:=(h.m.endBA fun x hx y hy=>by
  rcases he with rfl | rfl
  ·cases hx
  ·cases hy).back
 rw [List.reverse_append,List.reverse_append,List.reverse_reverse,List.reverse_reverse] at this;rw [Array.toList_append,Array.toList_append,zd8,zd8,Array.toList_reverse,zpi];exact this
theorem HI.firstB (h:HI kf a b out na nb) (he:nb=1) (hl:∀ y,b[0]?=some y->∀ x∈a.toList,kf y<kf x):zf2 kf a b (b.extract 0 nb++a.extract 0 na++out.reverse):=by
 unfold zf2
 have:=(h.m.endAB fun x hx y hy=>by
  subst he;rw [List.mem_reverse] at hx hy
  have:b[0]?=some y:=by
   rw [← zpE]
   revert hy
   cases b.toList with
   | nil=>intro hy;cases hy
   | cons z r=>intro hy;simp at hy;subst hy;rfl
  have:=hl y this x (List.mem_of_mem_take hx)
  omega).back
 rw [List.reverse_append,List.reverse_append,List.reverse_reverse,List.reverse_reverse] at this;rw [Array.toList_append,Array.toList_append,zd8,zd8,Array.toList_reverse,zpi];exact this
theorem zfA {i:Nat} (h:x∈a.toList.take i):∃ k,k<i/\a[k]?=some x:=by
 rw [← zd8] at h;obtain⟨k,_,k2,k3⟩:=zbg h;exact⟨k,k2,k3⟩
theorem HI.start (T:Two kf G a b) (h:a[a.size-1]?=some x):HI kf a b #[x] (a.size-1) b.size:=by
 refine⟨?_⟩;have na:=T.na;have e:=zhl h;rw [show a.size-1+1=a.size by omega,show a.toList.take a.size=a.toList by rw [← zpD];exact zpj] at e;have eb:b.toList.take b.size=b.toList:=by rw [← zpD];exact zpj
 rw [eb];have rv:∀ {l:List Keyed},Ord kf l->Ord (fun x=>- kf x) l.reverse:=fun hl=>by unfold Ord;rw [List.pairwise_reverse];exact hl.imp fun q=>by dsimp only;omega
 have s:=rv T.sa;rw [e] at s;have s':=List.pairwise_cons.1 s;refine⟨List.pairwise_singleton _ _,s'.2,rv T.sb,fun z hz y hy=>?_,fun z hz y hy=>?_,?_⟩
 ·rw [zo6.1 hz];exact s'.1 y hy
 ·rw [zo6.1 hz];have:=T.lst x h y (List.mem_reverse.1 hy);omega
 ·show (x::((a.toList.take (a.size-1)).reverse++b.toList.reverse)).Perm _;rw [← List.cons_append,← e];exact List.Perm.append (List.reverse_perm _) (List.reverse_perm _)
theorem HI.ltA (T:Two kf G a b) (hx:a[na]?=some x) (l:kf x<kf y):∀ z∈a.toList.take (na+1),kf z<kf y:=fun z hz=>by
 obtain⟨k,h1,h2⟩:=zfA hz;by_cases q:k=na
 ·subst q;rw [hx] at h2;cases h2;exact l
 ·exact Int.lt_trans (T.sa.arr (by omega) h2 hx) l
theorem HI.ltB (T:Two kf G a b) (hy:b[nb]?=some y) (l:kf y<kf x):∀ z∈b.toList.take (nb+1),kf z<kf x:=fun z hz=>by
 obtain⟨k,h1,h2⟩:=zfA hz;by_cases q:k=nb
 ·subst q;rw [hy] at h2;cases h2;exact l
 ·exact Int.lt_trans (T.sb.arr (by omega) h2 hy) l
theorem HI.galB {L:Nat} (T:Two kf G a b) (S:HI kf a b out na nb) (hna:0<na) (hx:a[na-1]?=some x) (hnb:0<nb) (hL:L<=nb)
  (cut:∀ i,i<nb->∃ y,b[0+i]?=some y/\G y/\kf y≠kf x/\(kf y<kf x↔i<L)) :
  HI kf a b (out++(b.extract L nb).reverse) na L/\(∀ z∈b.toList.take L,kf z<kf x)/\1<=L:=by
 have at_:∀ k y,k<nb->b[k]?=some y->kf y≠kf x/\(kf y<kf x↔k<L):=fun k y k1 k3=>by
  obtain⟨x',e,_,ne,z⟩:=cut k k1;rw [Nat.zero_add,k3] at e;cases e;exact⟨ne,z⟩
 refine⟨S.extB (k:=L) hL fun z hz u hu=>?_,fun z hz=>?_,?_⟩
 ·obtain⟨k,k1,k2,k3⟩:=zbg hz;obtain⟨ne,w⟩:=at_ k z k2 k3;refine HI.ltA (na:=na-1) T hx ((Int.lt_or_lt_of_ne ne).resolve_left fun q=>absurd (w.1 q) (Nat.not_lt.2 k1)) u ?_;rw [Nat.sub_add_cancel hna];exact hu
 ·obtain⟨k,k1,k3⟩:=zfA hz;exact (at_ k z (zpe k1 hL) k3).2.2 k1
 ·obtain⟨y0,e⟩:=zaC (a:=b) (ia:=0) T.nb;exact (at_ 0 y0 hnb e).2.1 (T.hd y0 e x (zaU hx))
theorem HI.galA {K:Nat} (T:Two kf G a b) (S:HI kf a b out na nb) (hnb:0<nb) (hy:b[nb-1]?=some y) (hK:K<=na)
  (cut:∀ i,i<na->∃ x,a[0+i]?=some x/\G x/\kf x≠kf y/\(kf x<kf y↔i<K)) :
  HI kf a b (out++(a.extract K na).reverse) K nb/\∀ z∈a.toList.take K,kf z<kf y:=by
 have at_:∀ k x,k<na->a[k]?=some x->kf x≠kf y/\(kf x<kf y↔k<K):=fun k x k1 k3=>by
  obtain⟨x',e,_,ne,z⟩:=cut k k1;rw [Nat.zero_add,k3] at e;cases e;exact⟨ne,z⟩
 refine⟨S.extA (k:=K) hK fun z hz u hu=>?_,fun z hz=>?_⟩
 ·obtain⟨k,k1,k2,k3⟩:=zbg hz;obtain⟨ne,w⟩:=at_ k z k2 k3;refine HI.ltB (nb:=nb-1) T hy ((Int.lt_or_lt_of_ne ne).resolve_left fun q=>absurd (w.1 q) (Nat.not_lt.2 k1)) u ?_;rw [Nat.sub_add_cancel hnb];exact hu
 ·obtain⟨k,k1,k3⟩:=zfA hz;exact (at_ k z (zpe k1 hK) k3).2.2 k1
theorem HI.pushA' (h:HI kf a b out na nb) (hn:0<na) (hx:a[na-1]?=some x) (hl:∀ y∈b.toList.take nb,kf y<kf x):HI kf a b (out.push x) (na-1) nb :=
 HI.pushA (by rw [Nat.sub_add_cancel hn];exact h) hx hl
theorem HI.pushB' (h:HI kf a b out na nb) (hn:0<nb) (hx:b[nb-1]?=some x) (hl:∀ y∈a.toList.take na,kf y<kf x):HI kf a b (out.push x) na (nb-1) :=
 HI.pushB (by rw [Nat.sub_add_cancel hn];exact h) hx hl
end
section
variable {M:Model} {A:Around} {E:Value->Shared->Prop} {s:Shared} {kf:Keyed->Int} {G:Keyed->Prop} {κ:SortKind}
set_option hygiene false in
local macro_rules | `(tactic| walk_at "hiEnd") => `(tactic| (
 refine wpS_bind (zaL hx ?_);have S4:=S3.pushA' (by omega) hx hi2;refine zaz (fun e=>?_) fun e=>?_
 ·have e0:I-1=0:=by simpa using e
  exact wpS_pure ⟨_,rfl,.inl ⟨_,rfl,S4.done (.inl e0)⟩⟩
 have e2:I-1≠0:=by simpa using e
 refine zaz (fun _=>?_) fun _=>?_
 ·exact wpS_pure ⟨_,rfl,.inr ⟨_,_,_,_,_,_,rfl,S4,by omega,by omega,by omega,by omega,by omega⟩⟩
 ·exact wpS_pure ⟨_,rfl,_,_,_,_,_,_,rfl,S4,by omega,by omega,by omega,by omega,by omega⟩))
set_option hygiene false in
local macro_rules | `(tactic| walk_at "hiTail") => `(tactic| (
 refine wpS_bind (zaL hy ?_);have S2:=S1.pushB' (by omega) hy hi;refine zaz (fun e=>?_) fun e=>?_
 ·have e0:nb-1=1:=by simpa using e
  exact wpS_pure ⟨_,rfl,.inl ⟨_,rfl,S2.firstB e0 T.hd⟩⟩
 have e1:nb-1≠1:=by simpa using e
 obtain⟨x,hx⟩:=zaC (a:=a) (ia:=I-1) (by omega);refine wpS_bind (zaL hx ?_);obtain⟨L,hL,cutb⟩:=T.cutB (zaU hx) (bs:=0) (n:=nb-1) (by omega);refine wpS_bind (zbR C (K:=L) hk (T.ga x (zaU hx)) cutb (by omega) hL ?_);dsimp only;obtain⟨S3,hi2,hL1⟩:=HI.galB T S2 (by omega) hx (by omega) hL cutb;refine zaz (fun _=>?_) fun eL=>?_
 ·refine zaz (fun e=>?_) fun e=>?_
  ·have e0:L=1:=by simpa using e
   exact wpS_pure ⟨_,rfl,.inl ⟨_,rfl,S3.firstB e0 T.hd⟩⟩
  have e3:L≠1:=by simpa using e
  rw [zpB (by simp;omega)];walk_at "hiEnd"
 ·obtain rfl:L=nb-1:=by omega
  clear S3;have S3:=S2;walk_at "hiEnd"))
theorem zic (C:Cmp M A E s kf G κ) {a b:Array Keyed} {st:SortSt} {Q:Array Keyed->SortSt->Prop} (hk:kindOf st=κ) (T:Two kf G a b) (h:∀ o g,zf2 kf a b o->Q o (zbJ st g)):wpS M A E s (zku a b) Q st:=by
 have ta:=T.na;have tb:=T.nb;obtain⟨x0,hx0⟩:=zaC (a:=a) (ia:=a.size-1) (by omega);refine wpS_bind (wpS_lift (wpAny_rule ⟨rfl,?_⟩));refine wpS_bind (zaL hx0 ?_);have S:=HI.start T hx0;by_cases h1:a.size-1=0
 ·rw [zpC (by simpa using h1)];exact wpS_pure (h _ (gallopOf st) (S.done (.inl h1)))
 by_cases h2:b.size=1
 ·rw [zpB (by simpa using h1),zpC (by simpa using h2)];exact wpS_pure (h _ (gallopOf st) (S.firstB h2 T.hd))
 rw [zpB (by simpa using h1),zpB (by simpa using h2)];refine wpS_bind (wpS_get ?_);refine wpS_bind (wpS_mono (wpS_forRange (I:=fun i c st'=>∃ g,st'=zbJ st g/\∃ out na nb mg,c=(none,na,nb,out,mg)/\HI kf a b out na nb/\0<na/\1<nb/\na<a.size/\nb<=b.size/\na+nb+i+1<=a.size+b.size)
  (Q:=fun c st'=>∃ g,st'=zbJ st g/\∃ o,c.1=some o/\zf2 kf a b o) ?_ ?_ ⟨gallopOf st,rfl,_,_,_,_,rfl,S,by omega,by omega,by omega,by omega,by omega⟩) ?_)
 ·rintro i c st' _ hi ⟨g,rfl,out,na,nb,mg,rfl,S,l1,l2,l3,l4,l5⟩;dsimp only;refine wpS_bind (wpS_mono (wpS_forRange (I:=fun j c st'=>st'=zbJ st g/\∃ out na nb ac bc,c=(none,na,nb,out,ac,bc)/\HI kf a b out na nb/\0<na/\1<nb/\na<a.size/\nb<=b.size/\na+nb+i+1+j<=a.size+b.size)
   (Q:=fun c st'=>st'=zbJ st g/\((∃ o,c.1=some o/\zf2 kf a b o)\/∃ out na nb ac bc,c=(none,na,nb,out,ac,bc)/\HI kf a b out na nb/\0<na/\1<nb/\na<a.size/\nb<=b.size/\na+nb+i+2<=a.size+b.size)) ?_ ?_ ⟨rfl,out,na,nb,0,0,rfl,S,l1,l2,l3,l4,by omega⟩) ?_)
  ·rintro j c st' _ hj ⟨rfl,out,na,nb,ac,bc,rfl,S,l1,l2,l3,l4,l5⟩;dsimp only;obtain⟨x,hx⟩:=zaC (a:=a) (ia:=na-1) (by omega);obtain⟨y,hy⟩:=zaC (a:=b) (ia:=nb-1) (by omega);refine wpS_bind (zaL hy ?_);refine wpS_bind (zaL hx ?_);refine wpS_bind (C y x _ _ (T.gb y (zaU hy)) (T.ga x (zaU hx)) (Ne.symm (T.ne x (zaU hx) y (zaU hy))) hk ?_);have hn:=T.ne x (zaU hx) y (zaU hy);by_cases q:kf y<kf x
   ·rw [zo3 q];dsimp only;rw [zpC rfl];refine wpS_bind (zaL hx ?_);have S':=HI.pushA (na:=na-1) (by rw [show na-1+1=na by omega];exact S) hx fun z hz=>HI.ltB (nb:=nb-1) T hy q z (by rw [show nb-1+1=nb by omega];exact hz)
    refine zaz (fun e=>?_) fun e=>?_
    ·have e0:na-1=0:=by simpa using e
     exact wpS_pure ⟨rfl,.inl ⟨_,rfl,S'.done (.inl e0)⟩⟩
    have e0:na-1≠0:=by simpa using e
    refine zaz (fun e=>?_) fun e=>?_
    ·exact wpS_pure ⟨rfl,.inr ⟨_,_,_,_,_,rfl,S',by omega,by omega,by omega,by omega,by omega⟩⟩
    ·exact wpS_pure ⟨rfl,_,_,_,_,_,rfl,S',by omega,by omega,by omega,by omega,by omega⟩
   ·rw [zo4 q];dsimp only;rw [zpB (by simp)];refine wpS_bind (zaL hy ?_);have S':=HI.pushB (nb:=nb-1) (by rw [show nb-1+1=nb by omega];exact S) hy fun z hz=>HI.ltA (na:=na-1) T hx (by omega) z (by rw [show na-1+1=na by omega];exact hz)
    refine zaz (fun e=>?_) fun e=>?_
    ·have e0:nb-1=1:=by simpa using e
     exact wpS_pure ⟨rfl,.inl ⟨_,rfl,S'.firstB e0 T.hd⟩⟩
    have e0:nb-1≠1:=by simpa using e
    refine zaz (fun e=>?_) fun e=>?_
    ·exact wpS_pure ⟨rfl,.inr ⟨_,_,_,_,_,rfl,S',by omega,by omega,by omega,by omega,by omega⟩⟩
    ·exact wpS_pure ⟨rfl,_,_,_,_,_,rfl,S',by omega,by omega,by omega,by omega,by omega⟩
  ·rintro c st' ⟨rfl,out,na,nb,ac,bc,rfl,S,l1,l2,l3,l4,l5⟩;exact⟨rfl,.inr ⟨_,_,_,_,_,rfl,S,l1,l2,l3,l4,by omega⟩⟩
  ·rintro c st' ⟨rfl,⟨o,e,ho⟩ | ⟨out,na,nb,ac,bc,rfl,S,l1,l2,l3,l4,l5⟩⟩
   ·obtain⟨c1,c2⟩:=c;dsimp only at e ⊢;subst e;exact wpS_pure ⟨g,rfl,o,rfl,ho⟩
   dsimp only;refine wpS_bind (wpS_lift (wpAny_rule ⟨rfl,?_⟩));refine wpS_bind (wpS_mono (wpS_forRange (I:=fun j c st'=>∃ g,st'=zbJ st g/\∃ out na nb mg ac bc,c=(none,na,nb,out,mg,ac,bc)/\HI kf a b out na nb/\0<na/\1<nb/\na<a.size/\nb<=b.size/\na+nb+i+2<=a.size+b.size)
    (Q:=fun c st'=>∃ g,st'=zbJ st g/\((∃ o,c.1=some o/\zf2 kf a b o)\/∃ out na nb mg ac bc,c=(none,na,nb,out,mg,ac,bc)/\HI kf a b out na nb/\0<na/\1<nb/\na<a.size/\nb<=b.size/\na+nb+i+2<=a.size+b.size)) ?_ ?_ ⟨g,rfl,out,na,nb,_,_,_,rfl,S,l1,l2,l3,l4,by omega⟩) ?_)
   ·rintro j c st' _ hj ⟨g,rfl,out,na,nb,mg,ac,bc,rfl,S,l1,l2,l3,l4,l5⟩;dsimp only
    revert mg
    refine zhY (fun _=>rfl) (fun mg=>?_);refine wpS_bind (wpS_modify ?_);obtain⟨y,hy⟩:=zaC (a:=b) (ia:=nb-1) (by omega);refine wpS_bind (zaL hy ?_);obtain⟨K,hK,cut⟩:=T.cutA (zaU hy) (bs:=0) (n:=na) (by omega);refine wpS_bind (zbR C (K:=K) hk (T.gb y (zaU hy)) cut (by omega) hK ?_);dsimp only;obtain⟨S1,hi⟩:=HI.galA T S (by omega) hy hK cut;refine zaz (fun _=>?_) fun eK=>?_
    ·refine zaz (fun e=>?_) fun e=>?_
     ·have e0:K=0:=by simpa using e
      exact wpS_pure ⟨_,rfl,.inl ⟨_,rfl,S1.done (.inl e0)⟩⟩
     have e4:K≠0:=by simpa using e
     generalize hI:K=I at *;walk_at "hiTail"
    ·obtain rfl:K=na:=by omega
     clear S1;have S1:=S;generalize K=I at *;walk_at "hiTail"
   ·rintro c st' ⟨g,rfl,out,na,nb,mg,ac,bc,rfl,S,l1,l2,l3,l4,l5⟩;exact⟨g,rfl,.inr ⟨_,_,_,_,_,_,rfl,S,l1,l2,l3,l4,by omega⟩⟩
   ·rintro c st' ⟨g,rfl,⟨o,e,ho⟩ | ⟨out,na,nb,mg,ac,bc,rfl,S,l1,l2,l3,l4,l5⟩⟩
    ·obtain⟨c1,c2⟩:=c;dsimp only at e ⊢;subst e;exact wpS_pure ⟨g,rfl,o,rfl,ho⟩
    dsimp only;exact wpS_bind (wpS_modify (wpS_pure ⟨_,rfl,_,_,_,_,rfl,S,l1,l2,l3,l4,by omega⟩))
 ·rintro c st' ⟨g,rfl,out,ia,ib,mg,rfl,S,l1,l2,l3,l4,l5⟩;omega
 ·rintro ⟨c1,c2⟩ st' ⟨g,rfl,o,rfl,ho⟩;exact wpS_pure (h o g ho)
end
section
variable {M:Model} {A:Around} {E:Value->Shared->Prop} {s:Shared} {kf:Keyed->Int} {G:Keyed->Prop} {κ:SortKind}
structure Gd (kf:Keyed->Int) (G:Keyed->Prop) (xs:Array Keyed):Prop where
 g:∀ x∈xs.toList,G x
 nd:(xs.toList.map kf).Nodup
theorem Gd.perm {xs ys:Array Keyed} (h:Gd kf G xs) (p:ys.Perm xs):Gd kf G ys:=by
 have p:=Array.perm_iff_toList_perm.1 p;exact⟨fun x hx=>h.g x (p.mem_iff.1 hx),(p.map kf).nodup_iff.2 h.nd⟩
theorem Gd.ne {xs:Array Keyed} (h:Gd kf G xs) {i j:Nat} {x y:Keyed} (hij:i≠j) (hx:xs[i]?=some x) (hy:xs[j]?=some y):kf x≠kf y:=fun e=>by
 rw [← zpE] at hx hy;have h1:(xs.toList.map kf)[i]?=some (kf x):=by rw [zoY,hx];rfl
 have h2:(xs.toList.map kf)[j]?=some (kf x):=by rw [zoY,hy,e];rfl
 obtain⟨a1,a2⟩:=zo1.1 h1;obtain⟨b1,b2⟩:=zo1.1 h2;exact hij ((List.getElem_inj h.nd).1 (a2.trans b2.symm))
theorem Gd.at {xs:Array Keyed} (h:Gd kf G xs) {i:Nat} {x:Keyed} (hx:xs[i]?=some x):G x:=h.g x (zaU hx)
def Seg (kf:Keyed->Int) (xs:Array Keyed) (lo hi:Nat):Prop:=∀ i j x y,lo<=i->i<j->j<hi->xs[i]?=some x->xs[j]?=some y->kf x<kf y
def Des (kf:Keyed->Int) (xs:Array Keyed) (lo hi:Nat):Prop:=∀ i j x y,lo<=i->i<j->j<hi->xs[i]?=some x->xs[j]?=some y->kf y<kf x
theorem Seg.one {xs:Array Keyed} {lo:Nat}:Seg kf xs lo (lo+1):=fun i j x y h1 h2 h3=>by omega
theorem Seg.more {xs:Array Keyed} {lo n:Nat} {x y:Keyed} (h:Seg kf xs lo n) (hn:lo<n) (hx:xs[n-1]?=some x) (hy:xs[n]?=some y) (l:kf x<kf y):Seg kf xs lo (n+1):=fun i j u v h1 h2 h3 hu hv=>by
 by_cases hj:j<n
 ·exact h i j u v h1 h2 hj hu hv
 ·obtain rfl:j=n:=by omega
  rw [hy] at hv;cases hv;by_cases hi:i=j-1
  ·subst hi;rw [hx] at hu;cases hu;exact l
  ·exact Int.lt_trans (h i (j-1) u x h1 (by omega) (by omega) hu hx) l
theorem Des.more {xs:Array Keyed} {lo n:Nat} {x y:Keyed} (h:Des kf xs lo n) (hn:lo<n) (hx:xs[n-1]?=some x) (hy:xs[n]?=some y) (l:kf y<kf x):Des kf xs lo (n+1):=fun i j u v h1 h2 h3 hu hv=>by
 by_cases hj:j<n
 ·exact h i j u v h1 h2 hj hu hv
 ·obtain rfl:j=n:=by omega
  rw [hy] at hv;cases hv;by_cases hi:i=j-1
  ·subst hi;rw [hx] at hu;cases hu;exact l
  ·exact Int.lt_trans l (h i (j-1) u x h1 (by omega) (by omega) hu hx)
theorem Seg.congr {xs ys:Array Keyed} {lo hi:Nat} (h:Seg kf xs lo hi) (e:∀ k,lo<=k->k<hi->ys[k]?=xs[k]?):Seg kf ys lo hi:=fun i j x y h1 h2 h3 hx hy =>
 h i j x y h1 h2 h3 (by rw [← e i h1 (by omega)];exact hx) (by rw [← e j (by omega) h3];exact hy)
theorem zdB (C:Cmp M A E s kf G κ) {st:SortSt} {i j:Nat} {x y:Keyed} {Q:Option Bool->SortSt->Prop} (hk:kindOf st=κ) (hg:Gd kf G (arrOf st)) (hx:(arrOf st)[i]?=some x) (hy:(arrOf st)[j]?=some y) (ne:i≠j)
  (h:Q (some (decide (kf x<kf y))) st):wpS M A E s (ltAt' i j) Q st:=by
 rw [ltAt'_eq];refine wpS_bind (wpS_get ?_);refine wpS_bind (zaL hx (wpS_bind (zaL hy ?_)));exact C x y st Q (hg.at hx) (hg.at hy) (hg.ne ne hx hy) hk h
theorem zgL (C:Cmp M A E s kf G κ) {st:SortSt} {lo nrem:Nat} {Q:Option Nat->SortSt->Prop} (hk:kindOf st=κ) (hg:Gd kf G (arrOf st)) (hn:1<=nrem) (hz:lo+nrem<=(arrOf st).size)
  (h:∀ xs n,1<=n->n<=nrem->xs.Perm (arrOf st)->(∀ k,k<lo->xs[k]?=(arrOf st)[k]?)->Seg kf xs lo (lo+n)->Q (some n) (setArr st xs)):wpS M A E s (countRun' lo nrem) Q st:=by
 refine wpS_bind (wpS_mono (wpS_forRange (I:=fun i c st'=>st'=st/\c=(none,i)/\Seg kf (arrOf st) lo (lo+i))
  (Q:=fun c st'=>st'=st/\∃ n,c=(none,n)/\1<=n/\n<=nrem/\Seg kf (arrOf st) lo (lo+n)/\(n<nrem->∀ x y,(arrOf st)[lo+n-1]?=some x->(arrOf st)[lo+n]?=some y->kf y<kf x)) ?_ ?_ ⟨rfl,rfl,Seg.one⟩) ?_)
 ·rintro i c st' h1 h2 ⟨rfl,rfl,S⟩;dsimp only;obtain⟨x,hx⟩:=zaC (a:=arrOf st') (ia:=lo+i-1) (by omega);obtain⟨y,hy⟩:=zaC (a:=arrOf st') (ia:=lo+i) (by omega);refine wpS_bind (zdB C hk hg hy hx (by omega) ?_);have ne:=hg.ne (by omega) hx hy;by_cases q:kf y<kf x
  ·rw [zo3 q];dsimp only;rw [zpC rfl];refine wpS_pure ⟨rfl,i,rfl,h1,by omega,S,fun _ x' y' hx' hy'=>?_⟩;rw [hx] at hx';rw [hy] at hy';cases hx';cases hy';exact q
  ·rw [zo4 q];dsimp only;rw [zpB (by simp)];exact wpS_pure ⟨rfl,rfl,S.more (by omega) hx hy (by omega)⟩
 ·rintro c st' ⟨rfl,rfl,S⟩;rw [show max 1 nrem=nrem by omega] at S ⊢;exact⟨rfl,_,rfl,hn,zpd _,S,fun z=>by omega⟩
 ·rintro c st' ⟨rfl,n,rfl,n1,n2,S,D⟩;dsimp only;refine zaz (fun e=>wpS_pure (h (arrOf st') n n1 n2 (Array.Perm.refl _) (fun _ _=>rfl) S)) fun e=>?_
  have hlt:n<nrem:=by
   have:n≠nrem:=by simpa using e
   omega
  refine zaz (fun e=>?_) fun e=>?_
  ·obtain⟨x,hx⟩:=zaC (a:=arrOf st') (ia:=lo) (by omega);obtain⟨y,hy⟩:=zaC (a:=arrOf st') (ia:=lo+n-1) (by omega);refine wpS_bind (zdB C hk hg hx hy (by omega) ?_);rw [zo3 (S lo (lo+n-1) x y (zpd _) (by omega) (by omega) hx hy)];dsimp only;rw [zpC rfl];exact wpS_pure (h (arrOf st') n n1 n2 (Array.Perm.refl _) (fun _ _=>rfl) S)
  obtain rfl:n=1:=by omega
  have D:=D hlt;refine wpS_bind (wpS_lift (wpAny_rule ⟨rfl,?_⟩));refine wpS_bind (wpS_mono (wpS_forRange (I:=fun i c st''=>st''=st'/\c=(none,i,0)/\Des kf (arrOf st') lo (lo+i))
   (Q:=fun c st''=>st''=st'/\∃ n,c=(none,n,0)/\2<=n/\n<=nrem/\Des kf (arrOf st') lo (lo+n)) ?_ ?_ ⟨rfl,rfl,fun i j x y h1 h2 h3 hx hy=>?_⟩) ?_)
  ·rintro i c st'' h1 h2 ⟨rfl,rfl,S⟩;dsimp only;obtain⟨x,hx⟩:=zaC (a:=arrOf st'') (ia:=lo+i-1) (by omega);obtain⟨y,hy⟩:=zaC (a:=arrOf st'') (ia:=lo+i) (by omega);refine wpS_bind (zdB C hk hg hy hx (by omega) ?_);have ne:=hg.ne (by omega) hx hy;by_cases q:kf y<kf x
   ·rw [zo3 q];dsimp only;rw [zpC rfl,zpB (by omega)];exact wpS_pure ⟨rfl,rfl,S.more (by omega) hx hy q⟩
   ·rw [zo4 q];dsimp only;rw [zpB (by simp)];refine wpS_bind (zdB C hk hg hx hy (by omega) ?_);rw [zo3 (show kf x<kf y by omega)];dsimp only;rw [zpC rfl];exact wpS_pure ⟨rfl,i,rfl,by omega,by omega,S⟩
  ·rintro c st'' ⟨rfl,rfl,S⟩;rw [show max (1+1) nrem=nrem by omega] at S ⊢;exact⟨rfl,_,rfl,by omega,zpd _,S⟩
  ·obtain rfl:i=lo:=by omega
   obtain rfl:j=i+1:=by omega
   exact D x y hx hy
  ·rintro c st'' ⟨rfl,n,rfl,m1,m2,DS⟩;dsimp only;rw [zpB (by omega)];refine wpS_bind (wpS_modify ?_);show wpS M A E s _ Q (setArr st'' (mirror (arrOf st'') lo (lo+n) ((lo+n-lo) / 2)));have mp:=mirror_perm (arrOf st'') lo (lo+n) ((lo+n-lo) / 2);have me:=getElem?_mirror_all (xs:=arrOf st'') (i:=lo) (j:=lo+n) (by omega);generalize mirror (arrOf st'') lo (lo+n) ((lo+n-lo) / 2)=xs at mp me;have gx:=hg.perm mp;have sz:=mp.size_eq;have keep:∀ k,k<lo->xs[k]?=(arrOf st'')[k]?:=fun k hk=>by rw [me,zpB (by omega)]
   have up:Seg kf xs lo (lo+n):=fun i j x y h1 h2 h3 hx hy=>by
    rw [me,zpC (by omega)] at hx hy;exact DS _ _ _ _ (by omega) (by omega) (by omega) hy hx
   refine wpS_bind (wpS_mono (wpS_forRange (I:=fun i c st'=>st'=setArr st'' xs/\c=(none,i)/\Seg kf xs lo (lo+i))
    (Q:=fun c st'=>st'=setArr st'' xs/\∃ n,c=(none,n)/\1<=n/\n<=nrem/\Seg kf xs lo (lo+n)) ?_ ?_ ⟨rfl,rfl,up⟩) ?_)
   ·rintro i c st' h1 h2 ⟨rfl,rfl,S⟩;dsimp only;obtain⟨x,hx⟩:=zaC (a:=xs) (ia:=lo+i-1) (by omega);obtain⟨y,hy⟩:=zaC (a:=xs) (ia:=lo+i) (by omega);refine wpS_bind (zdB C hk gx hy hx (by omega) ?_);have ne:=gx.ne (by omega) hx hy;by_cases q:kf y<kf x
    ·rw [zo3 q];dsimp only;rw [zpC rfl];exact wpS_pure ⟨rfl,i,rfl,by omega,by omega,S⟩
    ·rw [zo4 q];dsimp only;rw [zpB (by simp)];exact wpS_pure ⟨rfl,rfl,S.more (by omega) hx hy (by omega)⟩
   ·rintro c st' ⟨rfl,rfl,S⟩;rw [show max n nrem=nrem by omega] at S ⊢;exact⟨rfl,_,rfl,hn,zpd _,S⟩
   ·rintro c st' ⟨rfl,n,rfl,n1,n2,S⟩;exact wpS_pure (h xs n n1 n2 mp keep S)
theorem zfk (C:Cmp M A E s kf G κ) {st:SortSt} {lo n ok:Nat} {Q:Bool->SortSt->Prop} (hk:kindOf st=κ) (hg:Gd kf G (arrOf st)) (hok:1<=ok) (hon:ok<=n) (hz:lo+n<=(arrOf st).size) (hs:Seg kf (arrOf st) lo (lo+ok))
  (h:∀ xs,xs.Perm (arrOf st)->(∀ k,k<lo->xs[k]?=(arrOf st)[k]?)->Seg kf xs lo (lo+n)->Q true (setArr st xs)):wpS M A E s (binarySort' lo n ok) Q st:=by
 refine wpS_bind (wpS_mono (wpS_forRange (I:=fun k c st'=>∃ xs,st'=setArr st xs/\c=(none,())/\xs.Perm (arrOf st)/\(∀ k,k<lo->xs[k]?=(arrOf st)[k]?)/\Seg kf xs lo (lo+k))
  (Q:=fun c st'=>∃ xs,st'=setArr st xs/\c=(none,())/\xs.Perm (arrOf st)/\(∀ k,k<lo->xs[k]?=(arrOf st)[k]?)/\Seg kf xs lo (lo+n)) ?_ ?_ ⟨arrOf st,rfl,rfl,Array.Perm.refl _,fun _ _=>rfl,by rw [show max ok 1=ok by omega];exact hs⟩) ?_)
 ·rintro k c st' h1 h2 ⟨xs,rfl,rfl,pm,keep,S⟩;have gx:=hg.perm pm;have sz:=pm.size_eq;obtain⟨y,hy⟩:=zaC (a:=xs) (ia:=lo+k) (by omega);refine wpS_bind (wpS_mono (wpS_forRange (I:=fun i c st'=>st'=setArr st xs/\∃ l r,c=(none,l,r)/\l<=r/\r<=k/\r-l<=k-i/\(∀ i x,i<l->xs[lo+i]?=some x->kf x<kf y)/\(∀ i x,r<=i->i<k->xs[lo+i]?=some x->kf y<kf x))
   (Q:=fun c st'=>st'=setArr st xs/\∃ l r,c=(none,l,r)/\l<=k/\(∀ i x,i<l->xs[lo+i]?=some x->kf x<kf y)/\(∀ i x,l<=i->i<k->xs[lo+i]?=some x->kf y<kf x)) ?_ ?_ ⟨rfl,0,k,rfl,by omega,by omega,by omega,fun i x hi=>by omega,fun i x h1 h2=>by omega⟩) ?_)
  ·rintro i c st' g1 g2 ⟨rfl,l,r,rfl,a1,a2,a3,a4,a5⟩;dsimp only;refine zaz (fun e=>?_) fun e=>?_
   ·obtain rfl:l=r:=by omega
    exact wpS_pure ⟨rfl,l,l,rfl,a2,a4,a5⟩
   obtain⟨x,hx⟩:=zaC (a:=xs) (ia:=lo+(l+r) / 2) (by omega);refine wpS_bind (zdB C hk gx hy hx (by omega) ?_);have ne:=gx.ne (by omega) hx hy;by_cases q:kf y<kf x
   ·rw [zo3 q];dsimp only;rw [zpC rfl];refine wpS_pure ⟨rfl,l,(l+r) / 2,rfl,by omega,by omega,by omega,a4,fun i z z1 z2 hz=>?_⟩;by_cases w:i=(l+r) / 2
    ·subst w;rw [hx] at hz;cases hz;exact q
    ·exact Int.lt_trans q (S _ _ x z (by omega) (show lo+(l+r) / 2<lo+i by omega) (by omega) hx hz)
   ·rw [zo4 q];dsimp only;rw [zpB (by simp)];refine wpS_pure ⟨rfl,(l+r) / 2+1,r,rfl,by omega,by omega,by omega,fun i z z1 hz=>?_,a5⟩;by_cases w:i=(l+r) / 2
    ·subst w;rw [hx] at hz;cases hz;omega
    ·have:=S _ _ z x (by omega) (show lo+i<lo+(l+r) / 2 by omega) (by omega) hz hx
     omega
  ·rintro c st' ⟨rfl,l,r,rfl,a1,a2,a3,a4,a5⟩;obtain rfl:l=r:=by omega
   exact⟨rfl,l,l,rfl,a2,a4,a5⟩
  ·rintro c st' ⟨rfl,l,r,rfl,a2,a4,a5⟩;dsimp only;refine wpS_bind (wpS_modify ?_);show wpS M A E s _ _ (setArr st (bubble xs (lo+k) (lo+k-(lo+l))));have bp:=bubble_perm xs (lo+k) (lo+k-(lo+l));have be:=getElem?_bubble (xs:=xs) (src:=lo+k) (by omega) (lo+k-(lo+l)) (by omega);generalize bubble xs (lo+k) (lo+k-(lo+l))=ys at bp be;rw [show lo+k-(lo+k-(lo+l))=lo+l by omega] at be;refine wpS_pure ⟨ys,rfl,rfl,bp.trans pm,fun k' hk'=>?_,fun i j u v i1 i2 i3 hu hv=>?_⟩
   ·rw [be,zpB (by omega),zpB (by omega)];exact keep k' hk'
   ·rw [be] at hu hv;have lw:∀ i x,lo<=i->i<lo+l->xs[i]?=some x->kf x<kf y:=fun i x z1 z2 hx=>a4 (i-lo) x (by omega) (by rw [show lo+(i-lo)=i by omega];exact hx)
    have hw:∀ i x,lo+l<=i->i<lo+k->xs[i]?=some x->kf y<kf x:=fun i x z1 z2 hx=>a5 (i-lo) x (by omega) (by omega) (by rw [show lo+(i-lo)=i by omega];exact hx)
    split at hu <;> split at hv
    ·omega
    ·rw [hy] at hu;cases hu;split at hv
     ·exact hw _ _ (by omega) (by omega) hv
     ·omega
    ·rw [hy] at hv;cases hv;split at hu
     ·omega
     ·exact lw _ _ (by omega) (by omega) hu
    ·split at hu <;> split at hv
     all_goals first
      | (exfalso;omega)
      | exact S _ _ _ _ (by omega) (by omega) (by omega) hu hv
 ·rintro c st' ⟨xs,rfl,rfl,pm,keep,S⟩;rw [show max (max ok 1) n=n by omega] at S;exact⟨xs,rfl,rfl,pm,keep,S⟩
 ·rintro c st' ⟨xs,rfl,rfl,pm,keep,S⟩;exact wpS_pure (h xs pm keep S)
end
section
variable {M:Model} {A:Around} {E:Value->Shared->Prop} {s:Shared} {kf:Keyed->Int} {G:Keyed->Prop} {κ:SortKind}
theorem zfs (b:Nat):∀ (l:List Keyed) (n:Nat) (xs:Array Keyed) (k:Nat),b+n+l.length<=xs.size ->
  ((l.zipIdx n).foldl (fun a p=>a.setIfInBounds (b+p.2) p.1) xs)[k]?=if b+n<=k/\k<b+n+l.length then l[k-(b+n)]? else xs[k]?
 | [],n,xs,k,h=>by rw [zpB (by simp)];rfl
 | x::l,n,xs,k,h=>by
  rw [zpA] at h;rw [List.zipIdx_cons,List.foldl_cons,zfs b l (n+1) _ k (by rw [Array.size_setIfInBounds];omega)];rw [zpA];by_cases h1:b+(n+1)<=k/\k<b+(n+1)+l.length
  ·rw [zpC h1,zpC (by omega),show k-(b+n)=k-(b+(n+1))+1 by omega,List.getElem?_cons_succ]
  ·rw [zpB h1];by_cases h2:k=b+n
   ·subst h2;rw [zpC (by omega),Array.getElem?_setIfInBounds_self_of_lt (by omega),Nat.sub_self,List.getElem?_cons_zero]
   ·rw [zpB (by omega),Array.getElem?_setIfInBounds_ne (by omega)]
theorem zft {b:Nat} {l:List Keyed} {xs:Array Keyed} (h:b+l.length<=xs.size):((l.zipIdx 0).foldl (fun a p=>a.setIfInBounds (b+p.2) p.1) xs).toList=xs.toList.take b++(l++xs.toList.drop (b+l.length)):=by
 have hx:xs.toList.length=xs.size:=zpD
 apply List.ext_getElem?
 intro k;rw [zpE,zfs b l 0 xs k (by omega),List.getElem?_append,zpm,hx,Nat.min_eq_left (by omega),List.getElem?_append,List.getElem?_take,List.getElem?_drop];by_cases h1:k<b
 ·rw [zpB (by omega),zpC h1,zpC h1,zpE]
 ·rw [zpB h1];by_cases h2:k<b+l.length
  ·rw [zpC (by omega),zpC (by omega)];rfl
  ·rw [zpB (by omega),zpB (by omega),zpE]
   congr 1
   omega
theorem zmt {σ:Type} {st st':σ} {Q:PUnit->σ->Prop} (h:Q ⟨⟩ st'):wpS M A E s (set st':StateT σ Sem PUnit) Q st:=by
 unfold wpS;rw [StateT.run_set];exact wpAny_pure ⟨rfl,h⟩
theorem zi5 {X:Array Keyed} {i j k:Nat} (hj:j<=X.size) (hk:i+k<j):(X.extract i j)[k]?=X[i+k]?:=by
 rw [Array.getElem?_extract,zpC (by omega)]
theorem zeQ {X:Array Keyed} {i j:Nat} (hj:j<=X.size):(X.extract i j).size=j-i:=by rw [Array.size_extract];omega
theorem Seg.ext {X:Array Keyed} {i j:Nat} (h:Seg kf X i j) (hj:j<=X.size):Ord kf (X.extract i j).toList:=Ord.ofArr fun u v x y huv hx hy=>by
 have h1:=(Array.getElem?_eq_some_iff.1 hx).1;have h2:=(Array.getElem?_eq_some_iff.1 hy).1;rw [zeQ hj] at h1 h2;rw [zi5 hj (by omega)] at hx hy;exact h _ _ x y (by omega) (show i+u<i+v by omega) (by omega) hx hy
theorem Seg.sub {X:Array Keyed} {i j i' j':Nat} (h:Seg kf X i j) (h1:i<=i') (h2:j'<=j):Seg kf X i' j':=fun u v x y a b c=>h u v x y (by omega) b (by omega)
theorem Seg.merge {X o:Array Keyed} {sa sb nb K L:Nat} (s1:Seg kf X sa sb) (s2:Seg kf X sb (sb+nb)) (hK:sa+K<sb) (hL:L<=nb) (hL1:1<=L) (hz:sb+nb<=X.size)
  (ca:∀ i x y,sa<=i->i<sa+K->X[i]?=some x->X[sb]?=some y->kf x<kf y) (cb:∀ j x y,sb+L<=j->j<sb+nb->X[sb-1]?=some x->X[j]?=some y->kf x<kf y)
  (R:zf2 kf (X.extract (sa+K) sb) (X.extract sb (sb+L)) o):((o.toList.zipIdx 0).foldl (fun a p=>a.setIfInBounds (sa+K+p.2) p.1) X).Perm X /\
  (∀ k,k<sa\/sb+nb<=k->((o.toList.zipIdx 0).foldl (fun a p=>a.setIfInBounds (sa+K+p.2) p.1) X)[k]?=X[k]?)/\Seg kf ((o.toList.zipIdx 0).foldl (fun a p=>a.setIfInBounds (sa+K+p.2) p.1) X) sa (sb+nb):=by
 have hl:o.toList.length=sb-(sa+K)+L:=by
  have:=R.2.length_eq
  rw [zo7,zpD (xs:=X.extract _ _),zpD (xs:=X.extract _ _),zeQ (by omega),zeQ (by omega)] at this;omega
 have hlt:=zft (b:=sa+K) (l:=o.toList) (xs:=X) (by omega);have hat:=fun k=>zfs (sa+K) o.toList 0 X k (by omega)
 rw [hl] at hlt hat;generalize (o.toList.zipIdx 0).foldl (fun a p=>a.setIfInBounds (sa+K+p.2) p.1) X=Y at hlt hat;refine⟨?_,fun k hk=>?_,?_⟩
 ·rw [Array.perm_iff_toList_perm,hlt];have e1:=zdW (a:=X) (ia:=sa+K) (k:=sb-(sa+K));have e2:=zdW (a:=X) (ia:=sb) (k:=L);rw [show sa+K+(sb-(sa+K))=sb by omega] at e1
  conv=>rhs;rw [← List.take_append_drop (sa+K) X.toList,← e1,← e2,← zpi (as:=(X.extract (sa+K) sb).toList)]
  rw [show sa+K+(sb-(sa+K)+L)=sb+L by omega];exact List.Perm.append_left _ (List.Perm.append_right _ R.2)
 ·rw [hat,zpB (by omega)]
 ·have mo:∀ k x,k<sb-(sa+K)+L->o.toList[k]?=some x->(∃ i,sa+K<=i/\i<sb/\X[i]?=some x)\/(∃ i,sb<=i/\i<sb+L/\X[i]?=some x):=fun k x _ hx=>by
   have:=R.2.mem_iff.1 (zo2 hx)
   rcases zo8.1 this with q | q
   ·exact .inl (zbg q)
   ·exact .inr (zbg q)
  obtain⟨y0,hy0⟩:=zaC (a:=X) (ia:=sb) (by omega);obtain⟨xl,hxl⟩:=zaC (a:=X) (ia:=sb-1) (by omega);have lo1:∀ i x,sb<=i->i<sb+nb->X[i]?=some x->kf y0<=kf x:=fun i x a b hx=>by
   by_cases q:i=sb
   ·subst q;rw [hy0] at hx;cases hx;exact Int.le_refl _
   ·exact Int.le_of_lt (s2 sb i y0 x (zpd _) (by omega) b hy0 hx)
  have hi1:∀ i x,sa<=i->i<sb->X[i]?=some x->kf x<=kf xl:=fun i x a b hx=>by
   by_cases q:i=sb-1
   ·subst q;rw [hxl] at hx;cases hx;exact Int.le_refl _
   ·exact Int.le_of_lt (s1 i (sb-1) x xl a (by omega) (by omega) hx hxl)
  intro i j x y a b c hx hy;rw [hat] at hx hy;split at hx <;> split at hy
  ·rw [Nat.add_zero] at hx hy;exact R.1.arr (a:=o) (i:=i-(sa+K)) (j:=j-(sa+K)) (by omega) (by rw [← zpE];exact hx) (by rw [← zpE];exact hy)
  ·rcases mo _ x (by omega) hx with ⟨u,u1,u2,u3⟩ | ⟨u,u1,u2,u3⟩
   ·exact Int.lt_of_le_of_lt (hi1 u x (by omega) u2 u3) (cb j xl y (by omega) c hxl hy)
   ·exact s2 u j x y u1 (by omega) c u3 hy
  ·rcases mo _ y (by omega) hy with ⟨u,u1,u2,u3⟩ | ⟨u,u1,u2,u3⟩
   ·exact s1 i u x y a (by omega) u2 hx u3
   ·exact Int.lt_of_lt_of_le (ca i x y0 a (by omega) hx hy0) (lo1 u y u1 (by omega) u3)
  ·by_cases q1:i<sa+K
   ·by_cases q2:j<sa+K
    ·exact s1 i j x y a b (by omega) hx hy
    ·exact Int.lt_of_lt_of_le (ca i x y0 a q1 hx hy0) (lo1 j y (by omega) c hy)
   ·exact s2 i j x y (by omega) b c hx hy
theorem zib (C:Cmp M A E s kf G κ) {st:SortSt} {i sa na p sb nb p':Nat} {Q:Bool->SortSt->Prop} (hk:kindOf st=κ) (hf:failedOf st=none) (hg:Gd kf G (arrOf st)) (h1:(pendingOf st)[i]?=some (sa,na,p)) (h2:(pendingOf st)[i+1]?=some (sb,nb,p'))
  (hb:sb=sa+na) (n1:1<=na) (n2:1<=nb) (hz:sb+nb<=(arrOf st).size) (s1:Seg kf (arrOf st) sa sb) (s2:Seg kf (arrOf st) sb (sb+nb))
  (h:∀ xs g,xs.Perm (arrOf st)->(∀ k,k<sa\/sb+nb<=k->xs[k]?=(arrOf st)[k]?)->Seg kf xs sa (sb+nb)->Q true (SortSt.mk' κ xs (((pendingOf st).setIfInBounds i (sa,na+nb,p)).eraseIdxIfInBounds (i+1)) g none)):wpS M A E s (mergeAt' i) Q st:=by
 refine wpS_bind (wpS_get ?_);rw [h1,h2];dsimp only;refine wpS_bind (zmt ?_);obtain⟨y0,hy0⟩:=zaC (a:=arrOf st) (ia:=sb) (by omega);refine wpS_bind (zaL hy0 ?_);obtain⟨K,hK,cut⟩:=zfm (G:=G) (kf:=kf) (arr:=arrOf st) (bs:=sa) (n:=na) (kk:=kf y0) (by omega) (fun u v x y huv hv hx hy=>s1 _ _ x y (by omega) (show sa+u<sa+v by omega) (by omega) hx hy) fun u x hu hx=>⟨hg.at hx,hg.ne (by omega) hx hy0⟩
 refine wpS_bind (zbR C (K:=K) hk (hg.at hy0) cut (by omega) hK ?_);dsimp only;have ca:∀ i x y,sa<=i->i<sa+K->(arrOf st)[i]?=some x->(arrOf st)[sb]?=some y->kf x<kf y:=fun i x y a b hx hy=>by
  rw [hy0] at hy;cases hy;obtain⟨x',e,_,_,z⟩:=cut (i-sa) (by omega);rw [show sa+(i-sa)=i by omega,hx] at e;cases e;exact z.2 (by omega)
 have cA:∀ i x,sa+K<=i->i<sb->(arrOf st)[i]?=some x->kf y0<kf x:=fun i x a b hx=>by
  obtain⟨x',e,_,ne,z⟩:=cut (i-sa) (by omega);rw [show sa+(i-sa)=i by omega,hx] at e;cases e
  have:=z.1
  omega
 refine zaz (fun e=>?_) fun e=>?_
 ·have e0:na-K=0:=by simpa using e
  have:=h (arrOf st) (gallopOf st) (Array.Perm.refl _) (fun _ _=>rfl) fun i j x y a b c hx hy=>by
   have lo1:∀ i x,sb<=i->i<sb+nb->(arrOf st)[i]?=some x->kf y0<=kf x:=fun i x a b hx=>by
    by_cases q:i=sb
    ·subst q;rw [hy0] at hx;cases hx;exact Int.le_refl _
    ·exact Int.le_of_lt (s2 sb i y0 x (zpd _) (by omega) b hy0 hx)
   by_cases q1:i<sb
   ·by_cases q2:j<sb
    ·exact s1 i j x y a b q2 hx hy
    ·exact Int.lt_of_lt_of_le (ca i x y0 a (by omega) hx hy0) (lo1 j y (by omega) c hy)
   ·exact s2 i j x y (by omega) b c hx hy
  rw [← hk,← hf] at this;exact wpS_pure this
 have e0:na-K≠0:=by simpa using e
 obtain⟨xl,hxl⟩:=zaC (a:=arrOf st) (ia:=sa+K+(na-K)-1) (by omega);refine wpS_bind (zaL hxl ?_);have ex:sa+K+(na-K)-1=sb-1:=by omega
 rw [ex] at hxl;obtain⟨L,hL,cut2⟩:=zfm (G:=G) (kf:=kf) (arr:=arrOf st) (bs:=sb) (n:=nb) (kk:=kf xl) (by omega) (fun u v x y huv hv hx hy=>s2 _ _ x y (by omega) (show sb+u<sb+v by omega) (by omega) hx hy) fun u x hu hx=>⟨hg.at hx,hg.ne (by omega) hx hxl⟩
 refine wpS_bind (zbR C (K:=L) hk (hg.at hxl) cut2 (by omega) hL ?_);dsimp only;have cb:∀ j x y,sb+L<=j->j<sb+nb->(arrOf st)[sb-1]?=some x->(arrOf st)[j]?=some y->kf x<kf y:=fun j x y a b hx hy=>by
  rw [hxl] at hx;cases hx;obtain⟨x',e,_,ne,z⟩:=cut2 (j-sb) (by omega);rw [show sb+(j-sb)=j by omega,hy] at e;cases e
  have:=z.1
  omega
 have cB:∀ j y,sb<=j->j<sb+L->(arrOf st)[j]?=some y->kf y<kf xl:=fun j y a b hy=>by
  obtain⟨x',e,_,ne,z⟩:=cut2 (j-sb) (by omega);rw [show sb+(j-sb)=j by omega,hy] at e;cases e;exact z.2 (by omega)
 have hL1:1<=L:=by
  obtain⟨x',e,_,ne,z⟩:=cut2 0 (by omega);rw [Nat.add_zero,hy0] at e;cases e
  have:=z.1 (cA (sb-1) xl (by omega) (by omega) hxl)
  omega
 rw [zpB (by simp;omega)];have T:Two kf G ((arrOf st).extract (sa+K) sb) ((arrOf st).extract sb (sb+L)):=by
  refine⟨fun x hx=>?_,fun x hx=>?_,fun x hx y hy=>?_,(s1.sub (by omega) (zpd _)).ext (by omega),(s2.sub (zpd _) (by omega)).ext (by omega),by rw [zeQ (by omega)];omega,by rw [zeQ (by omega)];omega,fun y hy x hx=>?_,fun x hx y hy=>?_⟩
  ·obtain⟨k,_,_,k3⟩:=zbg hx;exact hg.at k3
  ·obtain⟨k,_,_,k3⟩:=zbg hx;exact hg.at k3
  ·obtain⟨k,k1,k2,k3⟩:=zbg hx;obtain⟨l,l1,l2,l3⟩:=zbg hy;exact hg.ne (by omega) k3 l3
  ·rw [zi5 (by omega) (by omega),Nat.add_zero,hy0] at hy;cases hy;obtain⟨k,k1,k2,k3⟩:=zbg hx;exact cA k x k1 k2 k3
  ·rw [zeQ (by omega),zi5 (by omega) (by omega),show sa+K+(sb-(sa+K)-1)=sb-1 by omega,hxl] at hx;cases hx;obtain⟨k,k1,k2,k3⟩:=zbg hy;exact cB k y k1 k2 k3
 refine zaz (fun _=>?_) fun _=>?_
 ·refine wpS_bind (zid C hk T fun o g R=>?_);obtain⟨r1,r2,r3⟩:=Seg.merge s1 s2 (by omega) hL hL1 hz ca cb R;refine wpS_bind (wpS_modify (wpS_bind (wpS_get (wpS_pure ?_))))
  have:=h _ g r1 r2 r3
  rw [← hk] at this;show Q (Option.isNone (failedOf st)) (SortSt.mk' (kindOf st) _ _ g (failedOf st));rw [hf];exact this
 ·refine wpS_bind (zic C hk T fun o g R=>?_);obtain⟨r1,r2,r3⟩:=Seg.merge s1 s2 (by omega) hL hL1 hz ca cb R;refine wpS_bind (wpS_modify (wpS_bind (wpS_get (wpS_pure ?_))))
  have:=h _ g r1 r2 r3
  rw [← hk] at this;show Q (Option.isNone (failedOf st)) (SortSt.mk' (kindOf st) _ _ g (failedOf st));rw [hf];exact this
end
section
variable {M:Model} {A:Around} {E:Value->Shared->Prop} {s:Shared} {kf:Keyed->Int} {G:Keyed->Prop} {κ:SortKind}
def zaS (kf:Keyed->Int) (xs:Array Keyed):Nat->List (Nat × Nat × Nat)->Nat->Prop
 | a,[],e=>a=e
 | a,t::r,e=>t.1=a/\1<=t.2.1/\Seg kf xs a (a+t.2.1)/\zaS kf xs (a+t.2.1) r e
theorem zaS.le {xs:Array Keyed}:∀ {l:List (Nat × Nat × Nat)} {a e:Nat},zaS kf xs a l e->a+l.length<=e
 | [],a,e,h=>by cases h;exact zpd _
 | t::r,a,e,h=>by have:=zaS.le h.2.2.2;have:=h.2.1;rw [zpA];omega
theorem zaS.app {xs:Array Keyed}:∀ {l l':List (Nat × Nat × Nat)} {a e:Nat},zaS kf xs a (l++l') e↔∃ m,zaS kf xs a l m/\zaS kf xs m l' e
 | [],l',a,e=>⟨fun h=>⟨a,rfl,h⟩,fun ⟨m,h1,h2⟩=>by cases h1;exact h2⟩
 | t::r,l',a,e=>by
  constructor
  ·rintro ⟨h1,h2,h3,h4⟩;obtain⟨m,m1,m2⟩:=zaS.app.1 h4;exact⟨m,⟨h1,h2,h3,m1⟩,m2⟩
  ·rintro ⟨m,⟨h1,h2,h3,m1⟩,m2⟩;exact⟨h1,h2,h3,zaS.app.2 ⟨m,m1,m2⟩⟩
theorem zaS.congr {xs ys:Array Keyed}:∀ {l:List (Nat × Nat × Nat)} {a e:Nat},zaS kf xs a l e->(∀ k,a<=k->k<e->ys[k]?=xs[k]?)->zaS kf ys a l e
 | [],a,e,h,_=>h
 | t::r,a,e,⟨h1,h2,h3,h4⟩,q=>by
  have:=zaS.le h4
  exact⟨h1,h2,h3.congr fun k k1 k2=>q k k1 (by omega),zaS.congr h4 fun k k1 k2=>q k (by omega) k2⟩
theorem zaS.pow {xs:Array Keyed} {f:Nat × Nat × Nat->Nat × Nat × Nat} (hf:∀ t,(f t).1=t.1/\(f t).2.1=t.2.1):∀ {l:List (Nat × Nat × Nat)} {a e:Nat} (i:Nat),zaS kf xs a l e->zaS kf xs a (l.modify i f) e
 | [],a,e,i,h=>by cases i <;> exact h
 | t::r,a,e,0,⟨h1,h2,h3,h4⟩=>by
  obtain⟨f1,f2⟩:=hf t;show zaS kf xs a (f t::r) e;exact⟨f1.trans h1,by rw [f2];exact h2,by rw [f2];exact h3,by rw [f2];exact h4⟩
 | t::r,a,e,i+1,⟨h1,h2,h3,h4⟩=>⟨h1,h2,h3,zaS.pow hf i h4⟩
theorem znQ {P:Array (Nat × Nat × Nat)} {i:Nat} (hi:i+1<P.size):∃ l t u r,P.toList=l++t::u::r/\l.length=i/\P[i]?=some t/\P[i+1]?=some u:=by
 have h1:i<P.toList.length:=by rw [zpD];omega
 have h2:i+1<P.toList.length:=by rw [zpD];omega
 refine⟨P.toList.take i,P.toList[i],P.toList[i+1],P.toList.drop (i+2),?_,by rw [zpm];omega,?_,?_⟩
 ·rw [← zpL h2,← zpL h1,List.take_append_drop]
 ·rw [← zpE];exact zoZ h1
 ·rw [← zpE];exact zoZ h2
theorem zhB {P:Array (Nat × Nat × Nat)} {l r:List (Nat × Nat × Nat)} {t u v:Nat × Nat × Nat} {i:Nat} (h:P.toList=l++t::u::r) (hl:l.length=i):((P.setIfInBounds i v).eraseIdxIfInBounds (i+1)).toList=l++v::r:=by
 subst hl;have hs:l.length+1<(P.setIfInBounds l.length v).size:=by
  rw [Array.size_setIfInBounds,← zpD,h];simp
 rw [Array.eraseIdxIfInBounds,dif_pos hs,Array.toList_eraseIdx,Array.toList_setIfInBounds,h];simp [List.set_append,List.eraseIdx_append]
 omega
theorem ze0 (C:Cmp M A E s kf G κ) {xs:Array Keyed} {P:Array (Nat × Nat × Nat)} {g i e:Nat} {Q:Bool->SortSt->Prop} (hg:Gd kf G xs) (hc:zaS kf xs 0 P.toList e) (he:e<=xs.size) (hi:i+1<P.size)
  (h:∀ ys P' g',ys.Perm xs->(∀ k,e<=k->ys[k]?=xs[k]?)->zaS kf ys 0 P'.toList e->P'.size+1=P.size->Q true (SortSt.mk' κ ys P' g' none)):wpS M A E s (mergeAt' i) Q (SortSt.mk' κ xs P g none):=by
 obtain⟨l,⟨sa,na,p⟩,⟨sb,nb,p'⟩,r,hP,hl,e1,e2⟩:=znQ hi;rw [hP] at hc;obtain⟨m,c1,c2⟩:=zaS.app.1 hc;obtain⟨d1,d2,d3,d4,d5,d6,d7⟩:=c2;dsimp only at d1 d2 d3 d4 d5 d6 d7;subst d1;have hle:=zaS.le c1;have hle2:=zaS.le d7;rw [← d4] at d6;refine zib C (st:=SortSt.mk' κ xs P g none) rfl rfl hg e1 e2 d4 d2 d5 (by show sb+nb<=xs.size;omega) (by rw [d4];exact d3) d6 fun ys g' pm keep sg=>?_
 refine h ys _ g' pm (fun k hk=>keep k (.inr (by omega))) ?_ ?_
 ·show zaS kf ys 0 ((P.setIfInBounds i (sa,na+nb,p)).eraseIdxIfInBounds (i+1)).toList e;rw [zhB hP hl];refine zaS.app.2 ⟨sa,c1.congr fun k _ hk=>keep k (.inl hk),rfl,by show 1<=na+nb;omega,?_,?_⟩
  ·show Seg kf ys sa (sa+(na+nb));rw [show sa+(na+nb)=sb+nb by omega];exact sg
  ·show zaS kf ys (sa+(na+nb)) r e;rw [show sa+(na+nb)=sb+nb by omega];rw [← d4] at d7;exact d7.congr fun k hk _=>keep k (.inr hk)
 ·show ((P.setIfInBounds i (sa,na+nb,p)).eraseIdxIfInBounds (i+1)).size+1=P.size
  have:=congrArg List.length (zhB (v:=(sa,na+nb,p)) hP hl)
  rw [zpD] at this;rw [this,← zpD,hP];simp
  omega
theorem zl5 {c:Prop} [Decidable c] {n:Nat} (h:1<n):(if c then n-2-1 else n-2)+1<n:=by split <;> omega
set_option hygiene false in
local macro_rules | `(tactic| walk_at "runTail") => `(tactic| (
 refine wpS_bind (wpS_get ?_);have push:∀ (us:Array Keyed) (P':Array (Nat × Nat × Nat)) (g':Nat),us.Perm xs->zaS kf us 0 P'.toList lo->Seg kf us lo (lo+nn)->∃ ys P g,SortSt.mk' κ us (P'.push (lo,nn,0)) g' none=SortSt.mk' κ ys P g none/\ys.Perm xs/\∃ lo',((none:Option Unit),lo+nn)=(none,lo')/\i+1<=lo'/\lo'<=xs.size/\zaS kf ys 0 P.toList lo' :=
  fun us P' g' pm ch sg=>⟨us,_,g',rfl,pm,lo+nn,rfl,by omega,by omega,by rw [Array.toList_push];exact zaS.app.2 ⟨lo,ch,rfl,nn1,sg,rfl⟩⟩
 obtain hb | ⟨⟨s1,n1',pw'⟩,hb⟩:P.back?=none\/∃ t,P.back?=some t:=by cases P.back? <;> simp
 ·have hb':(pendingOf (SortSt.mk' κ zs P g none)).back?=none:=hb;rw [hb'];exact wpS_bind (wpS_modify (wpS_pure (push zs P g pmz chz sgz)))
 ·have hb':(pendingOf (SortSt.mk' κ zs P g none)).back?=some (s1,n1',pw'):=hb;rw [hb'];dsimp only;refine wpS_bind (wpS_mono (wpS_forRange (I:=fun _ c st'=>c=(none,())/\∃ us P' g',st'=SortSt.mk' κ us P' g' none/\us.Perm xs/\zaS kf us 0 P'.toList lo/\Seg kf us lo (lo+nn))
   (Q:=fun c st'=>c=(none,())/\∃ us P' g',st'=SortSt.mk' κ us P' g' none/\us.Perm xs/\zaS kf us 0 P'.toList lo/\Seg kf us lo (lo+nn)) ?_ (fun _ _ h=>h) ⟨rfl,zs,P,g,rfl,pmz,chz,sgz⟩) ?_)
  ·rintro j c st' _ _ ⟨rfl,us,P',g',rfl,pm',ch',sg'⟩;refine wpS_bind (wpS_get ?_);by_cases hs:1<P'.size
   ·have hs':(pendingOf (SortSt.mk' κ us P' g' none)).size > 1:=hs;rw [zpC hs'];obtain⟨⟨q1,q2,q3⟩,hq⟩:∃ t,P'[P'.size-2]?=some t:=⟨_,Array.getElem?_eq_getElem (by omega)⟩;have hq':(pendingOf (SortSt.mk' κ us P' g' none))[(pendingOf (SortSt.mk' κ us P' g' none)).size-2]?=some (q1,q2,q3):=hq;rw [hq'];dsimp only;refine zaz (fun _=>wpS_pure ⟨rfl,us,P',g',rfl,pm',ch',sg'⟩) fun _=>?_
    have szu:=pm'.size_eq;refine wpS_bind (ze0 C (hg.perm pm') ch' (by omega) (i:=P'.size-2) (by omega) fun vs P'' g'' pv kv cv _=>?_);rw [zpB (by simp)];exact wpS_pure ⟨rfl,vs,P'',g'',rfl,pv.trans pm',cv,sg'.congr fun k k1 _=>kv k k1⟩
   ·have hs':¬ (pendingOf (SortSt.mk' κ us P' g' none)).size > 1:=hs;rw [zpB hs'];exact wpS_pure ⟨rfl,us,P',g',rfl,pm',ch',sg'⟩
  ·rintro c st' ⟨rfl,us,P',g',rfl,pm',ch',sg'⟩;dsimp only;refine wpS_bind (wpS_modify (wpS_bind (wpS_modify (wpS_pure (push us _ g' pm' ?_ sg')))));rw [Array.toList_modify];refine zaS.pow ?_ _ ch';exact fun t=>⟨rfl,rfl⟩))
theorem zhc (C:Cmp M A E s kf G κ) {xs:Array Keyed} {g:Nat} {Q:Unit->SortSt->Prop} (hg:Gd kf G xs) (h:∀ ys P g',ys.Perm xs->Seg kf ys 0 ys.size->Q () (SortSt.mk' κ ys P g' none)) :
  wpS M A E s sortRuns' Q (SortSt.mk' κ xs #[] g none):=by
 refine wpS_bind (wpS_get ?_);refine wpS_bind (wpS_mono (wpS_forRange (I:=fun i c st'=>∃ ys P g,st'=SortSt.mk' κ ys P g none/\ys.Perm xs/\∃ lo,c=(none,lo)/\i<=lo/\lo<=xs.size/\zaS kf ys 0 P.toList lo)
  (Q:=fun c st'=>∃ ys P g,st'=SortSt.mk' κ ys P g none/\ys.Perm xs/\∃ lo,c=(none,lo)/\lo=xs.size/\zaS kf ys 0 P.toList lo) ?_ ?_ ⟨xs,#[],g,rfl,Array.Perm.refl _,0,rfl,by omega,by omega,rfl⟩) ?_)
 ·rintro i c st' _ hi ⟨ys,P,g,rfl,pm,lo,rfl,h1,h2,ch⟩;have gy:=hg.perm pm;have sz:=pm.size_eq;dsimp only;refine zaz (fun e=>?_) fun e=>?_
  ·exact wpS_pure ⟨ys,P,g,rfl,pm,lo,rfl,by have:xs.size<=lo:=e;omega,ch⟩
  have e:lo<xs.size:=Nat.not_le.1 e;refine wpS_bind (zgL C (st:=SortSt.mk' κ ys P g none) rfl gy (by show 1<=xs.size-lo;omega) (by show lo+(xs.size-lo)<=ys.size;omega) fun zs n n1 n2 pm2 kp sg=>?_);dsimp only;have pmz:zs.Perm xs:=Array.Perm.trans pm2 pm;have chz:zaS kf zs 0 P.toList lo:=ch.congr fun k _ hk=>kp k hk
  have gz:=hg.perm pmz;have szz:=pmz.size_eq;refine zaz (fun e'=>?_) fun e'=>?_
  ·refine wpS_bind (wpS_lift (wpAny_rule ⟨rfl,?_⟩));refine wpS_bind (zfk C (st:=SortSt.mk' κ zs P g none) rfl gz n1 (by omega) (by show lo+_<=zs.size;omega) sg fun zs pw kw sgz=>?_);rw [zpB (by simp)];have pmz:zs.Perm xs:=Array.Perm.trans pw pmz;have chz:zaS kf zs 0 P.toList lo:=chz.congr fun k _ hk=>kw k hk
   show wpS M A E s _ _ (SortSt.mk' κ zs P g none);have nn1:1<=min (xs.size-lo) (minRun' xs.size xs.size 0):=by
    have:n<minRun' xs.size xs.size 0:=e'
    omega
   obtain⟨nn,hnn⟩:∃ nn,nn=min (xs.size-lo) (minRun' xs.size xs.size 0):=⟨_,rfl⟩;have hnn2:lo+nn<=xs.size:=by omega
   rw [← hnn] at nn1;have sgz:Seg kf zs lo (lo+nn):=by rw [hnn];exact sgz
   unfold minRun' at hnn;rw [← hnn];walk_at "runTail"
  ·show wpS M A E s _ _ (SortSt.mk' κ zs P g none);obtain⟨nn,hnn⟩:∃ nn,nn=n:=⟨_,rfl⟩;subst hnn;have nn1:=n1;have sgz:=sg;walk_at "runTail"
 ·rintro c st' ⟨ys,P,g,rfl,pm,lo,rfl,h1,h2,ch⟩;refine⟨ys,P,g,rfl,pm,lo,rfl,?_,ch⟩
  have:max 0 xs.size<=lo:=h1
  omega
 ·rintro c st' ⟨ys,P,g,rfl,pm,lo,rfl,rfl,ch⟩;dsimp only;have hP:P.size<=xs.size:=by have:=zaS.le ch;rw [zpD] at this;omega
  refine wpS_bind (wpS_mono (wpS_forRange (I:=fun j c st'=>c=(none,())/\∃ us P' g',st'=SortSt.mk' κ us P' g' none/\us.Perm xs/\zaS kf us 0 P'.toList xs.size/\P'.size+j<=xs.size)
   (Q:=fun c st'=>c=(none,())/\∃ us P' g',st'=SortSt.mk' κ us P' g' none/\us.Perm xs/\zaS kf us 0 P'.toList xs.size/\P'.size<=1) ?_ ?_ ⟨rfl,ys,P,g,rfl,pm,ch,by omega⟩) ?_)
  ·rintro j c st' _ hj ⟨rfl,us,P',g',rfl,pm',ch',hs⟩;refine wpS_bind (wpS_get ?_);refine zaz (fun e=>wpS_pure ⟨rfl,us,P',g',rfl,pm',ch',e⟩) fun e=>?_
   have e:1<P'.size:=Nat.not_le.1 e;have szu:=pm'.size_eq;refine wpS_bind (ze0 C (hg.perm pm') ch' (by omega) ?_ fun vs P'' g'' pv kv cv hs'=>?_)
   ·exact zl5 e
   rw [zpB (by simp)];exact wpS_pure ⟨rfl,vs,P'',g'',rfl,pv.trans pm',cv,by omega⟩
  ·rintro c st' ⟨rfl,us,P',g',rfl,pm',ch',hs⟩;refine⟨rfl,us,P',g',rfl,pm',ch',?_⟩
   have:P'.size+max 0 xs.size<=xs.size:=hs
   omega
  ·rintro c st' ⟨rfl,us,P',g',rfl,pm',ch',hs⟩;refine wpS_pure (h us P' g' pm' ?_);have szu:=pm'.size_eq;rw [szu];rw [← zpD] at hs
   revert ch' hs
   cases P'.toList with
   | nil =>
    intro ch' _
    have:0=xs.size:=ch'
    exact fun i j x y _ _ _=>by omega
   | cons t r =>
    intro ch' hs;cases r with
    | nil =>
     obtain⟨_,_,c3,c4⟩:=ch';have c4:0+t.2.1=xs.size:=c4;rw [← c4];exact c3
    | cons u r=>simp at hs
end
end L2
end
section
namespace L2
open PySem PySem.Spec PyProof.Rows PySem.W
theorem zg4 {α:Type} (d:α):∀ {l' l:List α},l'.Perm l->∃ p:List Nat,p.Perm (List.range l.length)/\l'=p.map fun i=>l.getD i d:=fun h=>by
 induction h with
 | nil=>exact⟨[],List.Perm.refl _,rfl⟩
 | @cons x l1 l2 _ ih =>
  obtain⟨p,p1,p2⟩:=ih;refine⟨0::p.map Nat.succ,?_,?_⟩
  ·rw [zpA,List.range_succ_eq_map];exact (p1.map _).cons _
  ·rw [p2,zpq,zpp]
   rfl
 | swap x y l =>
  refine⟨1::0::(List.range l.length).map (·+2),?_,?_⟩
  ·rw [zpA,zpA,List.range_succ_eq_map,List.range_succ_eq_map,zpq,zpp];exact List.Perm.swap _ _ _
  ·rw [zpq,zpq,zpp];show y::x::l=y::x::(List.range l.length).map (fun i=>l.getD i d)
   congr 2
   apply List.ext_getElem?
   intro i;by_cases hi:i<l.length
   ·simp [hi]
   ·simp [Nat.le_of_not_lt hi]
 | @trans l1 l2 l3 _ _ ih1 ih2 =>
  obtain⟨p1,a1,b1⟩:=ih1;obtain⟨p2,a2,b2⟩:=ih2;have hl:l2.length=p2.length:=by rw [b2,zoX]
  refine⟨p1.map fun i=>p2.getD i 0,?_,?_⟩
  ·refine (a1.map _).trans ?_
   have:(List.range l2.length).map (fun i=>p2.getD i 0)=p2:=by
    apply List.ext_getElem?
    intro i;by_cases hi:i<p2.length
    ·simp [hi,hl]
    ·simp [Nat.le_of_not_lt hi,hl]
   rw [this];exact a2
  ·rw [b1,zpp];refine zpM fun i hi=>?_
   have hi:i<p2.length:=by rw [← hl];exact List.mem_range.1 (a1.mem_iff.1 hi)
   show l2.getD i d=l3.getD (p2.getD i 0) d;rw [b2];simp [hi]
section
variable {prog:Program} {w:World} {A:Around} {E:Value->Shared->Prop} {s:Shared}
def zeO (h:Heap) (a:Addr) (vs:List Value) (ky:Nat->Int):Prop:=∀ i v,vs[i]?=some v->∃ b o xs c t,v=.ref b/\b≠a/\h.get? b=some o/\o.cls=.type "tuple"/\o.data=.seq xs c/\xs[0]?=some (.int (ky i) t)
theorem zeO.kat {h:Heap} {a:Addr}:∀ {vs:List Value} {ky:Nat->Int},zeO h a vs ky->∃ fs,KatTups h vs fs/\fs.length=vs.length/\∀ v∈fs,∃ i t,v=Value.int i t
 | [],_,_=>⟨[],KatTups.nil,rfl,by simp⟩
 | v::vs,ky,H=>by
  obtain⟨b,o,xs,c,t,rfl,_,h1,h2,h3,h4⟩:=H 0 v rfl;obtain⟨fs,k,l,q⟩:=zeO.kat (vs:=vs) (ky:=fun i=>ky (i+1)) fun i u hu=>H (i+1) u hu
  refine⟨_::fs,KatTups.cons h1 h2 h3 h4 k,by simp [l],fun v hv=>?_⟩;rcases zpG.1 hv with rfl | hv
  ·exact⟨_,_,rfl⟩
  ·exact q v hv
def zko (h:Heap) (x:Keyed):Int :=
 match x.1 with
 | .ref b=>match h.get? b with
  | some o=>match o.data with
   | .seq xs _=>match (xs:Array Value)[0]? with
    | some (Value.int k _)=>k
    | _=>0
   | _=>0
  | none=>0
 | _=>0
def zmz (h:Heap) (x:Keyed):Prop:=∃ b o xs c k t,x.1=.ref b/\h.get? b=some o/\o.data=.seq xs c/\xs[0]?=some (.int k t)
theorem zfx {h:Heap} {x:Keyed} {b:Addr} {o:Obj} {xs:Array Value} {c:Nat} {k:Int} {t:Tok} (h1:x.1=.ref b) (h2:h.get? b=some o) (h3:o.data=.seq xs c) (h4:xs[0]?=some (.int k t)):zko h x=k:=by
 unfold zko;rw [h1];dsimp only;rw [h2];dsimp only;rw [h3];dsimp only;rw [h4]
theorem zh6:Cmp (model prog w) A E s (zko s.heap) (zmz s.heap) (tuples' true):=fun x y st Q hx hy ne hk hQ=>by
 obtain⟨b,o,xs,c,k,t,e1,h1,h3,h4⟩:=hx;obtain⟨b',o',xs',c',k',t',e1',h1',h3',h4'⟩:=hy;rw [zfx e1 h1 h3 h4,zfx e1' h1' h3' h4'] at hQ ne;rw [lt'_eq];refine wpS_bind (wpS_get (wpS_bind (wpS_lift (wpAny_attempt ?_))));rw [hk,e1,e1'];refine kat_lt h1 h3 h1' h3' ?_;obtain⟨xr,hx⟩:∃ xr,xs.toList=.int k t::xr:=by
  have:xs.toList[0]?=some (.int k t):=by rw [zpE];exact h4
  cases hz:xs.toList with
  | nil=>rw [hz] at this;cases this
  | cons x r=>rw [hz] at this;cases this;exact⟨r,rfl⟩
 obtain⟨yr,hy⟩:∃ yr,xs'.toList=.int k' t'::yr:=by
  have:xs'.toList[0]?=some (.int k' t'):=by rw [zpE];exact h4'
  cases hz:xs'.toList with
  | nil=>rw [hz] at this;cases this
  | cons x r=>rw [hz] at this;cases this;exact⟨r,rfl⟩
 rw [hx,hy,List.zip_cons_cons];refine kat_cons (wpAny_eqBool_int ?_);rw [beq_eq_false_iff_ne.2 ne];exact kat_no (oneLt_int ⟨rfl,wpS_pure hQ⟩)
theorem zoq {a:Addr} {vs:List Value} {n:Nat} {ky:Nat->Int} {κ:SortKind} {kf:Heap->Keyed->Int} {G:Heap->Keyed->Prop} {P:PySem.Fin->Shared->Prop} (ho:s.heap.get? a=some (seqObj "list" vs.toArray n)) (h64:vs.length<65536)
  (hkind:∀ h6:Heap,(∀ b o,b≠a->s.heap.get? b=some o->h6.get? b=some o)->2<=vs.length->∀ Q:SortKind->Shared->Prop,Q κ { s with heap:=h6 }->wpAny (model prog w) A (keyKind' vs.toArray) Q E { s with heap:=h6 })
  (hcmp:∀ h6:Heap,(∀ b o,b≠a->s.heap.get? b=some o->h6.get? b=some o)->Cmp (model prog w) A E { s with heap:=h6 } (kf h6) (G h6) κ)
  (hkey:∀ h6:Heap,(∀ b o,b≠a->s.heap.get? b=some o->h6.get? b=some o)->∀ i v,vs[i]?=some v->G h6 (v,v)/\kf h6 (v,v)=ky i)
  (hd:∀ i j,i<vs.length->j<vs.length->i≠j->ky i≠ky j)
  (h:∀ (p:List Nat) (h':Heap) (c:Nat),p.Perm (List.range vs.length)->(∀ i j,i<j->j<vs.length->ky (p.getD i 0)<ky (p.getD j 0))->(∀ b o,b≠a->s.heap.get? b=some o->h'.get? b=some o) ->
   h'.get? a=some (seqObj "list" (p.map fun i=>vs.getD i Value.none).toArray c)->P (.done (.ret .none)) { s with heap:=h' }) :
  wpAny (model prog w) A (Builtin.«list.sort» ⟨[.ref a],[]⟩) P E s:=by
 have ha:a<s.heap.objs.size:=zpo ho;have s1:=Heap.SameBut.update s.heap a (Obj.mapSeq fun _=>(#[]:Array Value));obtain⟨e1,ho1⟩:∃ e1,(s.heap.update a (Obj.mapSeq fun _=>(#[]:Array Value))).get? a=some (seqObj "list" #[] e1):=⟨_,get?_update_seq ho fun _=>#[]⟩;have ho6:(((s.heap.update a (Obj.mapSeq fun _=>(#[]:Array Value))).push (seqObj "tuple" vs.toArray 0)).push (seqObj "list" #[] 0)).get? a=some (seqObj "list" #[] e1):=zpa _ (zpa _ ho1);have keep:∀ b o,b≠a->s.heap.get? b=some o->(((s.heap.update a (Obj.mapSeq fun _=>(#[]:Array Value))).push (seqObj "tuple" vs.toArray 0)).push (seqObj "list" #[] 0)).get? b=some o:=fun b o hb e =>
  zpa _ (zpa _ ((s1.2 b hb).trans e))
 rw [list_sort_plain];refine wpAny_bind (listItems_at ho rfl ?_);refine wpAny_bind (listUpdate_at ho rfl ?_ (by rw [zpz,sizeLine_eq];omega) (Nat.zero_le _));refine wpAny_bind (seqEpoch_at ho1 rfl ?_);refine wpAny_bind (wpAny_newTuple ?_ (by show vs.length<=_;rw [sizeLine_eq];omega));refine wpAny_bind (wpAny_newList ?_ (Nat.zero_le _));refine wpAny_holding ?_;show wpAny (model prog w) A _ P E { s with heap:=((s.heap.update a (Obj.mapSeq fun _=>(#[]:Array Value))).push (seqObj "tuple" vs.toArray 0)).push (seqObj "list" #[] 0) };generalize ((s.heap.update a (Obj.mapSeq fun _=>(#[]:Array Value))).push (seqObj "tuple" vs.toArray 0)).push (seqObj "list" #[] 0)=h6 at ho6 keep ⊢;dsimp only;by_cases h2:vs.toArray.size<2
 ·rw [zpC h2,zpC h2];refine wpAny_bind (wpAny_pure ?_);rw [StateT.run_pure];refine wpAny_bind (wpAny_pure ?_);dsimp only;refine wpAny_bind (seqEpoch_at ho6 rfl ?_);have eo:(vs.toArray.zip vs.toArray).map (·.2)=((List.range vs.length).map fun i=>vs.getD i Value.none).toArray:=by
   apply Array.toList_inj.mp
   rw [Array.toList_map,Array.toList_zip]
   apply List.ext_getElem?
   intro i;by_cases hi:i<vs.length
   ·simp [hi]
   ·simp [Nat.le_of_not_lt hi]
  refine wpAny_bind (listUpdate_at ho6 rfl ?_ (Nat.zero_le _) (by rw [Array.size_map];show (vs.toArray.zip vs.toArray).size<=_;simp;rw [sizeLine_eq];omega));simp only [bne_self_eq_false,Bool.false_eq_true,if_false];refine wpAny_pure ?_;have s2:=Heap.SameBut.update h6 a (Obj.mapSeq fun _=>(vs.toArray.zip vs.toArray).map (·.2))
  obtain⟨c2,hc2⟩:∃ c2,(h6.update a (Obj.mapSeq fun _=>(vs.toArray.zip vs.toArray).map (·.2))).get? a=some (seqObj "list" ((vs.toArray.zip vs.toArray).map (·.2)) c2):=⟨_,get?_update_seq ho6 fun _=>(vs.toArray.zip vs.toArray).map (·.2)⟩
  refine h (List.range vs.length) _ c2 (List.Perm.refl _) (fun i j hij hj=>?_) (fun b o hb e=>(s2.2 b hb).trans (keep b o hb e)) (by rw [← eo];exact hc2);rw [zpz] at h2;omega
 ·rw [zpB h2,zpB h2];rw [zpz] at h2;refine wpAny_bind (hkind h6 keep (by omega) _ ?_);have hz:(vs.toArray.zip vs.toArray).toList=vs.map fun v=>(v,v):=by
   rw [Array.toList_zip]
   apply List.ext_getElem?
   intro i;by_cases hi:i<vs.length
   ·simp [hi]
   ·simp [Nat.le_of_not_lt hi]
  have key:=hkey h6 keep;have gd:Gd (kf h6) (G h6) (vs.toArray.zip vs.toArray):=by
   constructor
   ·intro x hx;rw [hz] at hx;obtain⟨v,hv,rfl⟩:=zpf.1 hx;obtain⟨i,hi⟩:=List.getElem?_of_mem hv;exact (key i v hi).1
   ·rw [hz,zpp];rw [List.Nodup,List.pairwise_iff_getElem];intro i j hi hj hij;rw [zoX] at hi hj;rw [List.getElem_map,List.getElem_map];show kf h6 (vs[i],vs[i])≠kf h6 (vs[j],vs[j]);rw [(key i _ (zoZ hi)).2,(key j _ (zoZ hj)).2];exact hd i j hi hj (by omega)
  refine wpAny_bind (wpAny_mono (zhc (s:={ s with heap:=h6 }) (hcmp h6 keep) (g:=7) (Q:=fun _ st'=>∃ ys P g,st'=SortSt.mk' (κ) ys P g none/\ys.Perm (vs.toArray.zip vs.toArray)/\Seg (kf h6) ys 0 ys.size) gd fun ys P g a1 a2=>⟨ys,P,g,rfl,a1,a2⟩) ?_ fun _ _ e=>e);rintro ⟨⟨⟩,st'⟩ s' ⟨rfl,ys,P',g,rfl,pm,sg⟩;dsimp only;have pm':=Array.perm_iff_toList_perm.1 pm;rw [hz] at pm';obtain⟨p,hp,hm⟩:=zg4 ((Value.none,Value.none):Keyed) pm';rw [zoX] at hp;have hpl:p.length=vs.length:=by have:=hp.length_eq;rw [List.length_range] at this;exact this
  have plt:∀ i,i<p.length->p.getD i 0<vs.length:=fun i hi=>by
   rw [zpF,zoZ hi];exact List.mem_range.1 (hp.mem_iff.1 (List.getElem_mem hi))
  have hm':ys.toList=p.map fun i=>(vs.getD i Value.none,vs.getD i Value.none):=by
   rw [hm];refine zpM fun i hi=>?_
   have hi:i<vs.length:=List.mem_range.1 (hp.mem_iff.1 hi);simp [hi]
  have hout:(arrOf (SortSt.mk' (κ) ys P' g none)).map (·.2)=(p.map fun i=>vs.getD i Value.none).toArray:=by
   show ys.map (·.2)=_
   apply Array.toList_inj.mp
   rw [Array.toList_map,hm',zpp]
   rfl
  rw [hout];have hsz:(List.toArray (p.map fun i=>vs.getD i Value.none)).size=vs.length:=by rw [zpz,zoX,hpl]
  have s2:=Heap.SameBut.update h6 a (Obj.mapSeq fun _=>List.toArray (p.map fun i=>vs.getD i Value.none));obtain⟨c2,hc2⟩:∃ c2,(h6.update a (Obj.mapSeq fun _=>List.toArray (p.map fun i=>vs.getD i Value.none))).get? a=some (seqObj "list" (List.toArray (p.map fun i=>vs.getD i Value.none)) c2):=⟨_,get?_update_seq ho6 fun _=>List.toArray (p.map fun i=>vs.getD i Value.none)⟩;refine wpAny_bind (seqEpoch_at ho6 rfl ?_);refine wpAny_bind (listUpdate_at ho6 rfl ?_ (Nat.zero_le _) (zpc (Nat.le_of_eq hsz) (by rw [sizeLine_eq];omega)));simp only [bne_self_eq_false,Bool.false_eq_true,if_false];refine wpAny_pure (h p _ c2 hp (fun i j hij hj=>?_) (fun b o hb e=>(s2.2 b hb).trans (keep b o hb e)) hc2);have yat:∀ i,i<vs.length->∃ x,ys[i]?=some x/\kf h6 x=ky (p.getD i 0):=fun i hi=>by
   have hi':i<p.length:=by omega
   refine⟨_,by rw [← zpE,hm',zoY,zoZ hi'];rfl,?_⟩
   have:=plt i hi'
   rw [show p.getD i 0=p[i] by rw [zpF,zoZ hi'];rfl] at this ⊢;dsimp only;rw [show vs.getD p[i] Value.none=vs[p[i]] by rw [zpF,zoZ this];rfl];exact (key _ _ (zoZ this)).2
  obtain⟨x,x1,x2⟩:=yat i (by omega);obtain⟨y,y1,y2⟩:=yat j hj;rw [← x2,← y2];exact sg i j x y (Nat.zero_le _) hij (by have:=(Array.getElem?_eq_some_iff.1 y1).1;exact this) x1 y1
theorem zoT {a:Addr} {vs:List Value} {n:Nat} {ky:Nat->Int} {P:PySem.Fin->Shared->Prop} (ho:s.heap.get? a=some (seqObj "list" vs.toArray n)) (h64:vs.length<65536) (H:zeO s.heap a vs ky)
  (hd:∀ i j,i<vs.length->j<vs.length->i≠j->ky i≠ky j)
  (h:∀ (p:List Nat) (h':Heap) (c:Nat),p.Perm (List.range vs.length)->(∀ i j,i<j->j<vs.length->ky (p.getD i 0)<ky (p.getD j 0))->(∀ b o,b≠a->s.heap.get? b=some o->h'.get? b=some o) ->
   h'.get? a=some (seqObj "list" (p.map fun i=>vs.getD i Value.none).toArray c)->P (.done (.ret .none)) { s with heap:=h' }) :
  wpAny (model prog w) A (Builtin.«list.sort» ⟨[.ref a],[]⟩) P E s:=by
 have up:∀ h6:Heap,(∀ b o,b≠a->s.heap.get? b=some o->h6.get? b=some o)->zeO h6 a vs ky:=fun h6 keep i v hv=>by
  obtain⟨b,o,xs,c,t,r0,r1,r2,r3⟩:=H i v hv;exact⟨b,o,xs,c,t,r0,r1,keep b o r1 r2,r3⟩
 refine zoq (κ:=tuples' true) (kf:=zko) (G:=zmz) (ky:=ky) ho h64 (fun h6 keep h2 Q q=>?_) (fun h6 _=>zh6) (fun h6 keep i v hv=>?_) hd h
 ·obtain⟨fs,kt,fl,fi⟩:=(up h6 keep).kat;refine kat_kind (s:={ s with heap:=h6 }) (T:=.type "int") kt (by omega) (fun v hv=>?_) rfl q;obtain⟨i,t,rfl⟩:=fi v hv;exact .now
 ·obtain⟨b,o,xs,c,t,r0,r1,r2,_,r4,r5⟩:=up h6 keep i v hv;exact⟨⟨b,o,xs,c,_,t,r0,r2,r4,r5⟩,zfx r0 r2 r4 r5⟩
end
end L2
end
section
namespace L2
open PySem PySem.Spec PyProof.Rows PySem.W
section
variable {X:Cx} {pins:List (Addr × Obj)} {σ:St} {H H':Hp} {s:Shared} {h':Heap}
theorem za0.there {P:Program} {w:World} {H:Hp} {h:Heap} {a:Addr} {o:HO} (x:za0 P w H h a o):∃ u,h.get? a=some u:=by
 cases o with
 | lst xs=>obtain⟨_,_,_,_,e⟩:=x;exact⟨_,e⟩
 | tup xs=>obtain⟨_,_,_,o,e,_⟩:=x;exact⟨_,e⟩
 | dK kvs=>obtain⟨_,_,_,_,o,_,_,e,_⟩:=x;exact⟨_,e⟩
 | dT kvs=>obtain⟨_,_,_,_,o,_,_,e,_⟩:=x;exact⟨_,e⟩
 | set S n=>obtain⟨o,_,_,_,e,_⟩:=x;exact⟨_,e⟩
 | ins C dx fs=>obtain⟨_,_,_,e,_⟩:=x;exact⟨_,e⟩
 | own y=>exact x
 | xd fs=>obtain⟨_,⟨_,_,_,e,_⟩,_⟩:=x;exact⟨_,e⟩
 | rng lo hi=>obtain⟨_,_,_,e⟩:=x;exact⟨_,e⟩
 | frz ob u=>obtain⟨e,_⟩:=x;exact⟨_,e⟩
 | tbl ps=>exact⟨_,(show h.get? a=some _ from x)⟩
 | met f y=>exact⟨_,(show h.get? a=some _ from x)⟩
 | ext φ=>obtain⟨_,e,_⟩:=x;exact e
theorem Inv.noneAt {a:Addr} (I:Inv X pins σ H s) (n:s.heap.get? a=none):H a=none:=by
 cases q:H a with
 | none=>rfl
 | some o =>
  obtain⟨u,e⟩:=za0.there (I.hok a o q);rw [n] at e;cases e
theorem Inv.more {t':Nat} (I:Inv X pins σ H s) (k:∀ b u,s.heap.get? b=some u->h'.get? b=some u) (S:Sub H H') (new:∀ a o,H' a=some o->H a=none->s.heap.get? a=none/\za0 X.prog X.w H' h' a o) :
  Inv X pins σ H' { s with heap:=h',toks:=t' }:=by
 refine I.un ⟨fun b o e _ _ _=>k b o e,fun b o e _ _ _=>⟨o.slots,k b o e⟩,fun b o e n _=>?_,fun b o e _=>⟨o,k b o e⟩,fun b xs e=>S _ _ e,fun b o u e=>S _ _ e,fun b ps e=>⟨#[],by rw [S _ _ e];simp⟩⟩ fun a o e=>?_
 ·cases q:H' b with
  | none=>rfl
  | some u=>have:=(new b u q n).1;rw [e] at this;cases this
 ·cases q:H a with
  | none=>exact (new a o e q).2
  | some u =>
   have:=S a u q
   rw [e] at this;cases this;exact (I.hok a o q).stay (fun b u _ z=>k b u z) (fun b z=>S _ _ z) fun b xs z=>S _ _ z
end
def ovr (H:Hp) (l:List (Addr × HO)):Hp:=fun a=>match l.lookup a with | some o=>some o | none=>H a
theorem zlX {H:Hp} {l:List (Addr × HO)} (h:∀ p∈l,H p.1=none):Sub H (ovr H l):=fun a o e=>by
 unfold ovr;cases q:l.lookup a with
 | none=>exact e
 | some u =>
  have:(a,u)∈l:=by
   rw [List.lookup_eq_some_iff] at q;obtain⟨l1,l2,rfl,_⟩:=q;simp
  have:=h _ this
  rw [e] at this;cases this
theorem zlW {H:Hp} {l:List (Addr × HO)} {a:Addr} {o:HO} (h:ovr H l a=some o) (n:H a=none):(a,o)∈l:=by
 unfold ovr at h;cases q:l.lookup a with
 | none=>rw [q] at h;rw [n] at h;cases h
 | some u =>
  rw [q] at h;cases h;rw [List.lookup_eq_some_iff] at q;obtain⟨l1,l2,rfl,_⟩:=q;simp
theorem zld {H:Hp}:∀ {l:List (Addr × HO)} {a:Addr} {o:HO},(l.map (·.1)).Nodup->(a,o)∈l->ovr H l a=some o:=by
 intro l a o nd m
 have:l.lookup a=some o:=by
  induction l with
  | nil=>cases m
  | cons p l ih =>
   rw [zpq,List.nodup_cons] at nd;rcases zpG.1 m with rfl | m
   ·simp [List.lookup]
   ·have ne:¬ a=p.1:=fun e=>nd.1 (zpf.2 ⟨(a,o),m,e⟩)
    have hb:(a == p.1)=false:=beq_eq_false_iff_ne.2 ne;rw [List.lookup_cons,hb];exact ih nd.2 m
 unfold ovr;rw [this]
abbrev dcI (kvs:List (Int × V)):List (Key × V):=kvs.map fun q=>(Sum.inl q.1,q.2)
abbrev tI (q:Int × V):HO:=.tup [.int q.1,q.2]
theorem zm8 {kvs:List (Int × V)} {vs:List (Key × Value)} (r:KV (dcI kvs) vs) {i:Nat} {k:Key} {x:Value} (h:vs[i]?=some (k,x)):∃ q,kvs[i]?=some q/\k=.inl q.1/\zaW q.2 x:=by
 have:∀ {l:List (Key × V)} {m:List (Key × Value)} {i:Nat},KV l m->m[i]?=some (k,x)->∃ p,l[i]?=some p/\p.1=k/\zaW p.2 x:=by
  intro l m i r
  induction r generalizing i with
  | nil=>intro h;simp at h
  | @cons p q ps qs hp t ih =>
   intro h;cases i with
   | zero=>cases h;exact⟨p,rfl,hp.1,hp.2⟩
   | succ i=>exact ih h
 obtain⟨p,h1,h2,h3⟩:=this r h;rw [zoY] at h1;obtain⟨q,hq,rfl⟩:=zo0.1 h1;exact⟨q,hq,h2.symm,h3⟩
theorem ziT {P:Program} {w:World} {h:Heap} {a:Addr} {vs:List (Key × Value)} (d:h.DictOf (zaK P w) a vs):∃ ep,h.DictAt (zaK P w) a vs ep:=by
 obtain⟨o,es,ep,r⟩:=d;exact⟨ep,o,es,r⟩
theorem zkq {kvs:List (Int × V)} {vs:List (Key × Value)} (r:KV (dcI kvs) vs) (nd:(vs.map (·.1)).Nodup):(kvs.map (·.1)).Nodup:=by
 have e:vs.map (·.1)=kvs.map fun q=>(Sum.inl q.1:Key):=by
  have:∀ {l:List (Key × V)} {m:List (Key × Value)},KV l m->m.map (·.1)=l.map (·.1):=by
   intro l m r
   induction r with
   | nil=>rfl
   | @cons p q ps qs hp t ih=>rw [zpq,zpq,ih,hp.1]
  rw [this r,zpp]
  rfl
 rw [e,show (kvs.map fun q=>(Sum.inl q.1:Key))=(kvs.map (·.1)).map Sum.inl by rw [zpp];rfl] at nd
 exact (List.pairwise_map.1 nd).imp fun h e=>h (by rw [e])
theorem zjn {κ:Type} {l:List (κ × V)} {m:List (κ × Value)} (r:KV l m):l.length=m.length:=Paired.length r
theorem ziu {α:Type} (l:List α) (d:α):(List.range l.length).map (fun i=>l.getD i d)=l:=by
 apply List.ext_getElem?
 intro i;rw [zoY];by_cases h:i<l.length
 ·rw [List.getElem?_range h];simp [h]
 ·rw [List.getElem?_eq_none (by rw [List.length_range];omega),List.getElem?_eq_none (by omega)];rfl
theorem zhX:∀ bs:List Addr,zaT (bs.map V.ref) (bs.map Value.ref)
 | []=>.nil
 | _::bs=>.cons rfl (zhX bs)
theorem zdQ {as:List Addr} {kvs:List (Int × V)} {p:List Nat} {ky:Nat->Int} {R:Addr->Int × V->Prop} (hp:p.Perm (List.range kvs.length)) (hA:zba R as kvs) (hky:∀ i,ky i=(kvs.getD i (0,.non)).1)
  (hs:∀ i j,i<j->j<kvs.length->ky (p.getD i 0)<ky (p.getD j 0)) :
  (p.map fun i=>kvs.getD i (0,.non)).Perm kvs/\((p.map fun i=>kvs.getD i (0,.non)).map (·.1)).Pairwise (·<·)/\zba R (p.map fun i=>as.getD i 0) (p.map fun i=>kvs.getD i (0,.non)) /\
   (p.map fun i=>(as.map Value.ref).getD i Value.none)=(p.map fun i=>as.getD i 0).map Value.ref:=by
 have hlen:p.length=kvs.length:=by rw [hp.length_eq,List.length_range]
 have hlt:∀ i∈p,i<kvs.length:=fun i hi=>List.mem_range.1 (hp.mem_iff.1 hi)
 refine⟨?_,?_,⟨by rw [zoX,zoX],fun i a q ha hq=>?_⟩,?_⟩
 ·have:=hp.map fun i=>kvs.getD i (0,V.non)
  rwa [ziu] at this
 ·rw [zpp];refine List.pairwise_iff_getElem.2 fun i j hi hj hij=>?_
  rw [zoX] at hi hj
  have:=hs i j hij (by omega)
  rw [hky,hky] at this;simpa [hi,hj] using this
 ·rw [zoY] at ha hq;obtain⟨j,hj,rfl⟩:=zo0.1 ha;rw [hj] at hq;cases hq;have hjl:=hlt j (zo2 hj);have hja:j<as.length:=by rw [hA.1];exact hjl
  refine hA.2 j _ _ ?_ ?_
  ·simp [hja]
  ·simp [hjl]
 ·rw [zpp];refine zpM fun i hi=>?_
  have hja:i<as.length:=by rw [hA.1];exact hlt i hi
  simp [hja]
def zkS (v d:Addr):HO:=.ext fun h=>h.IsItemsView v d
theorem zm9 {kvs:List (Int × V)} (nd:(kvs.map (·.1)).Nodup) {i j:Nat} (hi:i<kvs.length) (hj:j<kvs.length) (ne:i≠j):(kvs.getD i (0,.non)).1≠(kvs.getD j (0,.non)).1:=fun e=>by
 apply ne
 refine (List.getElem_inj (i:=i) (j:=j) (h₀:=by rw [zoX];exact hi) (h₁:=by rw [zoX];exact hj) nd).1 ?_;simpa [hi,hj] using e
section
variable {X:Cx}
def zk4:V->List V->Hp->VK->Prop:=fun x vs H Q=>match x,vs with | .ref d,[]=>(∃ kvs,H d=some (.dK kvs))/\∀ v,H v=none->Q (.ref v) (upd H v (zkS v d)) | _,_=>False
theorem zmb:MtR X "dict.items" zk4:=by
 intro pins s σ H x vs v us Q I rx rv h;unfold zk4 at h;split at h
 ·rename_i d;obtain⟨⟨kvs,hd⟩,q⟩:=h;cases rx;cases rv;obtain⟨z,hsys,ws,rel,dd⟩:=zgP I.hok hd;refine call_meetsIn PySem.F.slot_dict_items dd.typeIs PySem.F.entry_dict_items (PySem.F.args_dict_items_1 _) (meets_dict_items (zaK X.prog X.w) d hsys) ⟨⟨ws,dd⟩,?_⟩;refine⟨.ref s.heap.objs.size,_,I.laid (a:=s.heap.objs.size) (o:=zkS s.heap.objs.size d) (t':=s.toks) (fun b u e=>zpa _ e) (zpd _) ?_,rfl,q _ (I.hok.fresh (zpd _))⟩;have e:(s.heap.push { cls:=.type "dict_items",data:=.fields #[.ref d] }).get? s.heap.objs.size=some { cls:=.type "dict_items",data:=.fields #[.ref d] }:=zpy _ rfl;refine⟨⟨_,e,rfl,rfl⟩,⟨_,e⟩,fun h1 h2 ⟨o,a1,a2⟩ k=>⟨o,k o a1,a2⟩⟩
 ·exact h.elim
def zmL:List V->Hp->VK->Prop:=fun xs H Q=>match xs with
 | [.ref v]=>∃ d kvs,H v=some (zkS v d)/\H d=some (.dK (dcI kvs))/\kvs.length<65536/\∀ (ps:List (Int × V)) (bs:List Addr) (l:Addr) (H':Hp),Sub H H'->ps.Perm kvs->(ps.map (·.1)).Pairwise (·<·) ->
   zba (fun b q=>H' b=some (tI q)) bs ps->H' l=some (.lst (bs.map V.ref))->H l=none->(∀ b∈bs,H b=none)->Q (.ref l) H'
 | _=>False
theorem znx (hc:X.calm=true):zbm X (.builtin "sorted") zmL:=by
 intro pins s σ H xs us Q I r h;unfold zmL at h;split at h
 ·rename_i v;obtain⟨d,kvs,hv,hd,h64,q⟩:=h;cases r with
  | cons r rr =>
  cases rr;cases r;obtain⟨z,hsys,ws,rel,dd⟩:=zgP I.hok hd;obtain⟨ep,hat⟩:=ziT dd;obtain⟨hview,_,_⟩:=(show za0 X.prog X.w H s.heap v (zkS v d) from I.hok v _ hv);have hwl:kvs.length=ws.length:=by rw [← zjn rel,zoX]
  refine Calls.call_function_entry kind_sorted plain_sorted entry_sorted (args_sorted1 _) ?_;unfold Builtin.«sorted»;refine wpAny_bind (m:=checkCount "sorted" 1 1 _) (wpAny_pure ?_);refine wpAny_bind (kdx_collect (A:=X.A.in1) (knd:=zaK X.prog X.w) (kvs:=ws) (ep:=ep) (I.ok.hd hc) hview hat (by rw [← hwl,sizeLine_eq];omega) fun h' tk as hk hl hG=>?_);have hal:as.length=kvs.length:=by rw [hl,hwl]
  refine wpAny_bind (wpAny_newList ?_ (by rw [zoX,hal,sizeLine_eq];omega));have hB:(h'.push { cls:=.type "list",data:=.seq (as.map Value.ref).toArray }).get? h'.objs.size=some (seqObj "list" (as.map Value.ref).toArray 0):=zpy _ rfl;have hasB:∀ a∈as,a≠h'.objs.size:=fun a ha=>zpH (hG.there ha)
  have tup:∀ i a,as[i]?=some a->∃ (qv:Int × V) (t:Tok) (x:Value),kvs[i]?=some qv/\zaW qv.2 x/\h'.get? a=some { cls:=.type "tuple",data:=.seq #[.int qv.1 t,x] }:=fun i a ha=>by
   obtain⟨key,k,x,e1,e2,e3⟩:=hG.pairs i a ha;obtain⟨qv,f1,rfl,f3⟩:=zm8 rel e1;rcases zaJ (show zgh (.inl qv.1) key=true from e2) with ⟨i',t,g1,rfl⟩ | ⟨x',t,g1,rfl⟩
   ·cases g1;exact⟨qv,t,x,f1,f3,e3⟩
   ·cases g1
  have hT:zeO (h'.push { cls:=.type "list",data:=.seq (as.map Value.ref).toArray }) h'.objs.size (as.map Value.ref) (fun i=>(kvs.getD i (0,.non)).1):=fun i u hu=>by
   rw [zoY] at hu;obtain⟨a,ha,rfl⟩:=zo0.1 hu;obtain⟨qv,t,x,e1,e2,e3⟩:=tup i a ha;refine⟨a,_,_,_,t,rfl,hasB a (zo2 ha),zpa _ e3,rfl,rfl,?_⟩
   have:kvs.getD i (0,.non)=qv:=by rw [zpF,e1];rfl
   show some (Value.int qv.1 t)=some (Value.int (kvs.getD i (0,V.non)).1 t);rw [this]
  have nd:=zkq rel (let ⟨_,_,_,_,_,_,_,_,z⟩:=dd;z);refine wpAny_bind (wpAny_holding (wpAny_call_entry slot_list_sort ⟨_,hB,rfl⟩ entry_list_sort (zoT (s:={ s with heap:=h'.push { cls:=.type "list",data:=.seq (as.map Value.ref).toArray },toks:=tk }) hB (by rw [zoX,hal];exact h64) hT
   (fun i j hi hj ne=>zm9 nd (by rw [zoX,hal] at hi;exact hi) (by rw [zoX,hal] at hj;exact hj) ne) fun p h2 c hp hs hkeep hB2=>⟨_,rfl,?_⟩) (args_list_sort _)))
  rw [zoX,hal] at hp hs;refine wpAny_pure ⟨_,rfl,?_⟩;have hA0:zba (fun (_:Addr) (_:Int × V)=>True) as kvs:=⟨hal,fun _ _ _ _ _=>trivial⟩;have keep2:∀ b o,b≠h'.objs.size->h'.get? b=some o->h2.get? b=some o:=fun b o hb e=>hkeep b o hb (zpa _ e)
  have noneB:s.heap.get? h'.objs.size=none:=by
   cases e:s.heap.get? h'.objs.size with
   | none=>rfl
   | some o=>exact absurd (zpo (hk _ _ e)) (Nat.lt_irrefl _)
  have noneA:∀ a∈as,s.heap.get? a=none:=fun a ha=>Heap.get?_none_of_le (Nat.le_of_lt (hG.above a ha))
  generalize hbs:(p.map fun i=>as.getD i 0)=bs;obtain⟨s1,s2,_,s4⟩:=zdQ hp hA0 (fun i=>rfl) hs;rw [s4,hbs] at hB2;generalize hL:((h'.objs.size,HO.lst (bs.map V.ref))::as.zip (kvs.map tI))=L;have zkeys:(as.zip (kvs.map tI)).map (·.1)=as:=by
   rw [← List.unzip_fst,List.unzip_zip (by rw [zoX,hal])]
  have Lnone:∀ p∈L,s.heap.get? p.1=none:=fun p hpL=>by
   rw [← hL] at hpL;rcases zpG.1 hpL with rfl | hpL
   ·exact noneB
   ·exact noneA _ (by rw [← zkeys];exact zpf.2 ⟨p,hpL,rfl⟩)
  have Lnd:(L.map (·.1)).Nodup:=by
   rw [← hL,zpq,zkeys,List.nodup_cons];exact⟨fun z=>hasB _ z rfl,hG.rise.imp fun h=>zpH h⟩
  have S:Sub H (ovr H L):=zlX fun p hpL=>I.noneAt (Lnone p hpL)
  have atA:∀ i a qv,as[i]?=some a->kvs[i]?=some qv->ovr H L a=some (tI qv):=fun i a qv ha hq=>by
   refine zld Lnd ?_;rw [← hL];refine zpg _ ?_;refine zo2 (i:=i) ?_;rw [List.getElem?_zip_eq_some];exact⟨ha,by rw [zoY,hq];rfl⟩
  have hA1:zba (fun b qv=>ovr H L b=some (tI qv)) as kvs:=⟨hal,fun i a qv ha hq=>atA i a qv ha hq⟩;obtain⟨_,_,s3,_⟩:=zdQ hp hA1 (fun i=>rfl) hs;rw [hbs] at s3;have bsl:bs.length=kvs.length:=by rw [← hbs,zoX,hp.length_eq,List.length_range]
  have bsin:∀ b∈bs,b∈as:=fun b hb=>by
   rw [← hbs] at hb;obtain⟨i,hi,rfl⟩:=zpf.1 hb;have hja:i<as.length:=by rw [hal];exact List.mem_range.1 (hp.mem_iff.1 hi)
   rw [show as.getD i 0=as[i] by simp [hja]];exact List.getElem_mem hja
  refine⟨.ref h'.objs.size,ovr H L,I.more (fun b u e=>keep2 b u (fun z=>by rw [z,noneB] at e;cases e) (hk b u e)) S (fun a o ho hn=>?_),rfl,q _ bs _ _ S s1 s2 s3 ?_ (I.noneAt noneB) fun b hb=>I.noneAt (noneA b (bsin b hb))⟩
  ·have hm:=zlW ho hn;refine⟨Lnone _ hm,?_⟩;rw [← hL] at hm;rcases zpG.1 hm with e | hm
   ·cases e;exact⟨by rw [zoX,bsl,sizeLine_eq];omega,bs.map Value.ref,c,zhX bs,hB2⟩
   ·obtain⟨i,hi⟩:=List.mem_iff_getElem?.1 hm;rw [List.getElem?_zip_eq_some] at hi;obtain⟨ha,hq⟩:=hi;rw [zoY] at hq;obtain⟨qv,hqv,rfl⟩:=zo0.1 hq;obtain⟨qv',t,x,e1,e2,e3⟩:=tup i a ha;rw [hqv] at e1;cases e1;exact⟨by show 2<=sizeLine;decide,[.int qv.1 t,x],.cons ⟨t,rfl⟩ (.cons e2 .nil),⟨_,keep2 a _ (hasB a (zo2 ha)) e3,rfl,_,rfl,rfl⟩⟩
  ·refine zld Lnd ?_;rw [← hL];exact zpw
 ·exact h.elim
theorem zj0 {as:List Addr} {us:List Value} (r:zaT (as.map V.ref) us):us=as.map Value.ref:=by
 induction as generalizing us with
 | nil=>cases r;rfl
 | cons a as ih =>
  cases r with
  | cons h t=>cases h;rw [ih t];rfl
end
end L2
end
section
namespace L2
open PySem PySem.Spec PyProof.Rows PySem.W
section
variable {X:Cx} {pins:List (Addr × Obj)} {σ:St} {H:Hp} {s:Shared}
theorem Inv.freeze {d:Addr} {o:Obj} {kvs:List (Key × V)} (I:Inv X pins σ H s) (hd:H d=some (.dK kvs)) (ho:s.heap.get? d=some o):Inv X pins σ (upd H d (.frz o (.dK kvs))) s:=by
 have nt:∀ b xs,H b=some (.tup xs)->b≠d:=fun b xs e z=>by rw [z,hd] at e;cases e
 have no:∀ b y,H b=some (.own y)->b≠d:=fun b y e z=>by rw [z,hd] at e;cases e
 have:=I.un (t':=s.toks) (h':=s.heap) (H':=upd H d (.frz o (.dK kvs))) ⟨fun b o e _ _ _=>e,fun b o e _ _ _=>⟨o.slots,e⟩,fun b u e n _=>?_,fun b o e _=>⟨o,e⟩,fun b xs e=>?_,fun b u v e=>?_,fun b ps e=>?_⟩ fun a u e=>?_
 ·exact this
 ·rw [zal (fun z=>by rw [z,hd] at n;cases n)];exact n
 ·rw [zal (nt b xs e)];exact e
 ·rw [zal (fun z=>by rw [z,hd] at e;cases e)];exact e
 ·exact⟨#[],by rw [zal (fun z=>by rw [z,hd] at e;cases e),e];simp⟩
 ·have st:∀ a u,za0 X.prog X.w H s.heap a u->za0 X.prog X.w (upd H d (.frz o (.dK kvs))) s.heap a u:=fun a u x =>
   x.stay (fun b v _ z=>z) (fun b z=>by rw [zal (no b _ z)];exact z) fun b xs z=>by rw [zal (nt b xs z)];exact z
  by_cases q:a=d
  ·subst q;rw [zad] at e;cases e;exact⟨ho,st _ _ (I.hok _ _ hd)⟩
  ·rw [zal q] at e;exact st _ _ (I.hok a u e)
end
theorem zla {P:Program} {w:World} {H:Hp} {h:Heap} {d:Addr} {o:Obj} {kvs:List (Int × V)} {es:Array DictEntry} {ep:Nat} (hok:HOk P w H h) (hd:H d=some (.frz o (.dK (dcI kvs)))) (ho:o.data=.dict es ep) :
  ∃ ws,KV (dcI kvs) ws/\h.DictAt (zaK P w) d ws ep/\kvs.length=ws.length:=by
 obtain⟨e,z,sys,ws,rel,o',es',ep',e1,e2,e3,e4⟩:=(show za0 P w H h d (.frz o (.dK (dcI kvs))) from hok d _ hd);rw [e] at e1;cases e1;rw [ho] at e3;cases e3;exact⟨ws,rel,⟨o,es,e,e2,ho,e4⟩,by rw [← zjn rel,zoX]⟩
section
variable {X:Cx}
end
end L2
end
section
namespace PySem
open Sem (wp)
section
variable {prog:Program} {w:World} {A:Around} {E:Value->Shared->Prop} {h:Heap} {g:Array GenState} {d:Drawn} {t:Nat} {os:OsState} {a:Addr} {o:Obj} {its:Array Value} {n:Nat}
end
end PySem
end
section
namespace L2
open PySem PySem.Spec PyProof.Rows PySem.W
section
variable {prog:Program} {w:World} {K:Type} [DecidableEq K] {knd:PySem.KeyKind prog w K} {A:Around} {s:Shared} {R:Result->Shared->Prop}
end
section
variable {X:Cx}
end
end L2
end
section
namespace PySem
end PySem
namespace L2
open PySem PySem.Spec PyProof.Rows PySem.W HT
section
variable {prog:Program} {w:World} {A:Around} {E:Value->Shared->Prop} {s:Shared}
end
section
variable {X:Cx} {K:PySem.W.Frag}
end
theorem za3.noE {P:Program} {w:World} {K:PySem.W.Frag} {mg:Str->Option Value} {base:Heap} {k:Nat} {f:Addr} {fd:FuncData} {ps:List Str} {sp:Sp} (F:za3 P w K mg base (CXE P w) k f fd ps sp) :
  za3 P w K mg base CX0 k f fd ps (fun vs H Q _=>sp vs H Q fun _ _ _=>False) :=
 ⟨fun vs H Q _ h=>F.len vs H Q _ h,fun A outer s H args us vs Q E hr he hb hv hs=>codeAny_mono (F.run A outer s H args us vs Q (fun _ _ _=>False) hr he hb hv hs) fun r s' hq=>by
  cases r with
  | ok fl=>cases fl <;> exact hq
  | error e =>
   obtain⟨x,C,B,hr,a0,H',_,_,_,_,_,_,_,_,_,_,z⟩:=hq;exact z.elim⟩
end L2
end
section
namespace L2
open PySem PySem.Spec PyProof.Rows PySem.W
abbrev Mk2:=List (Int × Int)
abbrev iv (ks:Mk2):List (Int × V):=ks.map fun q=>(q.1,V.int q.2)
def zbh (ks:Mk2) (k:Int):Option Int:=(ks.find? fun q=>decide (q.1=k)).map (·.2)
def zdv (ks:Mk2) (k s:Int):Mk2:=if (ks.any fun q=>decide (q.1=k))=true then ks.map (fun q=>if q.1=k then (q.1,s) else q) else ks++[(k,s)]
def zd5 (ks:Mk2) (k:Int):Mk2:=ks.filter fun q=>decide (q.1≠k)
def nxt (ks:Mk2) (p s:Int):Mk2:=if s=0 then zd5 ks p else zdv ks p s
theorem zgF (k:Int):∀ ks:Mk2,zdR (dcI (iv ks)) (.inl k)=(zbh ks k).map V.int
 | []=>rfl
 | q::ks=>by
  by_cases e:q.1=k
  ·rw [show dcI (iv (q::ks))=((.inl q.1:Key),V.int q.2)::dcI (iv ks) from rfl,za8 (by rw [e])];simp [zbh,List.find?_cons,e]
  ·rw [show dcI (iv (q::ks))=((.inl q.1:Key),V.int q.2)::dcI (iv ks) from rfl,za7 (by intro z;exact e (Sum.inl.inj z)),zgF k ks];simp [zbh,List.find?_cons,e]
theorem zn0 (k:Int) (ks:Mk2):((dcI (iv ks)).any fun kv=>decide (kv.1=(.inl k:Key)))=ks.any fun q=>decide (q.1=k):=by
 rw [List.any_map,List.any_map]
 congr 1
 funext q
 simp [Function.comp]
theorem zj3 (k s:Int) (ks:Mk2):zgp (dcI (iv ks)) (.inl k) (.int s)=dcI (iv (zdv ks k s)):=by
 unfold zgp zdv;rw [zn0];by_cases h:(ks.any fun q=>decide (q.1=k))=true
 ·rw [zpC h,zpC h];show _=List.map _ (List.map _ (List.map _ ks));rw [zpp,zpp,zpp,zpp];refine zpM fun q _=>?_
  by_cases e:q.1=k <;> simp [e]
 ·rw [zpB h,zpB h];show _=List.map _ (List.map _ (ks++[(k,s)]));rw [zo5,zo5]
  rfl
theorem zmx (k:Int) (ks:Mk2):zgQ (dcI (iv ks)) (.inl k)=dcI (iv (zd5 ks k)):=by
 unfold zgQ zd5;rw [List.filter_map,List.filter_map,zpp];show _=List.map _ (List.map _ (ks.filter _));rw [zpp]
 congr 1
 refine List.filter_congr fun q _=>?_
 simp [Function.comp]
theorem ziW {ks:Mk2} {k:Int} (h:zbh ks k=none):zd5 ks k=ks:=by
 unfold zd5;refine List.filter_eq_self.2 fun q hq=>?_
 unfold zbh at h;rw [Option.map_eq_none_iff,List.find?_eq_none] at h;simpa using h q hq
theorem zjK {ks:Mk2} {k s:Int} {q:Int × Int} (h:q∈zdv ks k s):q=(k,s)\/q∈ks:=by
 unfold zdv at h;split at h
 ·obtain⟨r,hr,rfl⟩:=zpf.1 h;by_cases e:r.1=k
  ·rw [zpC e,e];exact .inl rfl
  ·rw [zpB e];exact .inr hr
 ·rcases zo8.1 h with h | h
  ·exact .inr h
  ·exact .inl (zo6.1 h)
theorem zhy {ks:Mk2} {k:Int} {q:Int × Int} (h:q∈zd5 ks k):q∈ks:=(zph.1 h).1
theorem zhN (ks:Mk2) (k s:Int):((ks.any fun q=>decide (q.1=k))=true->(zdv ks k s).map (·.1)=ks.map (·.1))/\((ks.any fun q=>decide (q.1=k))=false->(zdv ks k s).map (·.1)=ks.map (·.1)++[k]):=by
 refine⟨fun h=>?_,fun h=>?_⟩
 ·unfold zdv;rw [zpC h,zpp];refine zpM fun q _=>?_
  by_cases e:q.1=k <;> simp [e]
 ·unfold zdv;rw [zpB (by rw [h];simp),zo5]
  rfl
theorem zgq {ks:Mk2} {k s:Int} (nd:(ks.map (·.1)).Nodup):((zdv ks k s).map (·.1)).Nodup:=by
 cases h:ks.any fun q=>decide (q.1=k) with
 | true=>rw [(zhN ks k s).1 h];exact nd
 | false =>
  rw [(zhN ks k s).2 h,List.nodup_append];refine⟨nd,by simp,fun a ha b hb=>?_⟩;rw [zo6.1 hb];rintro rfl;obtain⟨q,hq,e⟩:=zpf.1 ha;rw [List.any_eq_false] at h;exact h q hq (zo3 e)
theorem zh2 {ks:Mk2} {k:Int} (nd:(ks.map (·.1)).Nodup):((zd5 ks k).map (·.1)).Nodup:=nd.sublist (List.filter_sublist.map _)
theorem zjv {ks:Mk2} {k s:Int} (nd:(ks.map (·.1)).Nodup):((nxt ks k s).map (·.1)).Nodup:=by
 unfold nxt;split
 ·exact zh2 nd
 ·exact zgq nd
theorem zl7 (ks:Mk2) (k s:Int):(zdv ks k s).length<=ks.length+1:=by
 unfold zdv;split
 ·rw [zoX];omega
 ·rw [zo7];exact zpd _
theorem zju (ks:Mk2) (k s:Int):(nxt ks k s).length<=ks.length+1:=by
 unfold nxt;split
 ·exact zpc (List.length_filter_le _ _) (Nat.le_succ _)
 ·exact zl7 ks k s
abbrev Srt (ks:Mk2):Prop:=(ks.map (·.1)).Pairwise (·<·)
theorem zlL {ps:List (Int × V)} {ks:Mk2} (p:ps.Perm (iv ks)) (h:(ps.map (·.1)).Pairwise (·<·)):∃ js:Mk2,ps=iv js/\js.Perm ks/\Srt js:=by
 let g:Int × V->Int × Int:=fun q=>(q.1,match q.2 with | .int i=>i | _=>0)
 have e:ps=iv (ps.map g):=by
  show ps=List.map _ (List.map g ps);rw [zpp]
  conv=>lhs;rw [← List.map_id ps]
  refine zpM fun q hq=>?_
  obtain⟨r,_,rfl⟩:=zpf.1 (p.mem_iff.1 hq)
  rfl
 refine⟨ps.map g,e,?_,?_⟩
 ·have:=p.map g
  rw [zpp] at this;have e2:ks.map (g ∘ fun q=>(q.1,V.int q.2))=ks:=by
   conv=>rhs;rw [← List.map_id ks]
   exact zpM fun q _=>rfl
  rw [e2] at this;exact this
 ·show ((ps.map g).map (·.1)).Pairwise _
  rw [zpp];exact h
section
variable {H H':Hp} {l t:Addr} {ks:Mk2} {r p:Int}
def zhZ (H:Hp) (l:Addr) (ks:Mk2):Prop:=∃ as:List Addr,H l=some (.lst (as.map V.ref))/\zba (fun b q=>H b=some (tI q)) as (iv ks)
def SU (H:Hp) (t:Addr) (r p:Int) (ks:Mk2):Prop:=∃ l,H t=some (.tup [.int r,.int p,.ref l])/\zhZ H l ks
theorem zhZ.sub (S:Sub H H'):zhZ H l ks->zhZ H' l ks:=fun ⟨as,h1,h2⟩=>⟨as,S _ _ h1,h2.mono fun _ _ _ z=>S _ _ z⟩
theorem SU.sub (S:Sub H H'):SU H t r p ks->SU H' t r p ks:=fun ⟨l,h1,h2⟩=>⟨l,S _ _ h1,h2.sub S⟩
end
def zky (m:Ma) (s:Nat) (r:List En):Bool:=r.all (za9 m.length s)
theorem zkm {r0:List En} {m':Ma} (h:isM (r0::m')=true):(r0::m').length<=4/\2<=r0.length/\r0.length<=4/\∀ r∈r0::m',r.length=r0.length/\zky (r0::m') r0.length r=true:=by
 have hd:isM (r0::m')=(decide ((r0::m').length<=4) && decide (2<=r0.length) && decide (r0.length<=4) && (r0::m').all (zeM (r0::m').length r0.length)):=rfl;rw [hd,Bool.and_eq_true,Bool.and_eq_true,Bool.and_eq_true] at h;obtain⟨⟨⟨h1,h2⟩,h3⟩,h4⟩:=h;refine⟨zpI h1,zpI h2,zpI h3,fun r hr=>?_⟩
 have:=zpn.1 h4 r hr
 unfold zeM at this;rw [Bool.and_eq_true] at this;exact⟨by have:=zpI this.1;omega,this.2⟩
theorem zm0 {r0:List En} {m':Ma} (h1:(r0::m').length<=4) (h2:2<=r0.length) (h3:r0.length<=4) (h4:∀ r∈r0::m',r.length=r0.length/\zky (r0::m') r0.length r=true):isM (r0::m')=true:=by
 have hd:isM (r0::m')=(decide ((r0::m').length<=4) && decide (2<=r0.length) && decide (r0.length<=4) && (r0::m').all (zeM (r0::m').length r0.length)):=rfl;rw [hd,zo3 h1,zo3 h2,zo3 h3];refine zpn.2 fun r hr=>?_
 unfold zeM;rw [(h4 r hr).1]
 have:=(h4 r hr).2
 unfold zky at this;rw [this];simp
def sgn (m:Ma):Nat:=(m.headD []).length
structure OkM (m:Ma):Prop where
 n1:1<=m.length
 n4:m.length<=4
 s2:2<=sgn m
 s4:sgn m<=4
 len:∀ r∈m,r.length=sgn m
 ent:∀ r∈m,∀ e∈r,za9 m.length (sgn m) e=true
theorem OkM.of {m:Ma} (h:isM m=true):OkM m:=by
 cases m with
 | nil=>cases h
 | cons r0 m' =>
  obtain⟨h1,h2,h3,h4⟩:=zkm h;exact⟨by simp,h1,h2,h3,fun r hr=>(h4 r hr).1,fun r hr e he=>zpn.1 (h4 r hr).2 e he⟩
theorem zaX {rows signs:Int} {e:En} (h:za9 rows signs e=true) (ne:e≠[]):∃ s w r,e=[s,w,r]/\0<=s/\s<signs/\(w=-1\/w=1)/\0<=r/\r<rows:=by
 match e,h with
 | [],_=>exact (ne rfl).elim
 | [s,w,r],h =>
  have h:((decide (0<=s) && decide (s<signs)) && (decide (w=-1) || decide (w=1)) && (decide (0<=r) && decide (r<rows)))=true:=h;simp only [Bool.and_eq_true,Bool.or_eq_true,decide_eq_true_eq] at h;obtain⟨⟨⟨a,b⟩,c⟩,d,e⟩:=h;exact⟨s,w,r,rfl,a,b,c,d,e⟩
 | [_],h=>cases h
 | [_,_],h=>cases h
 | _::_::_::_::_,h=>cases h
def ent (m:Ma) (r p:Int) (ks:Mk2):Option En:=(m[r.toNat]?).bind fun es=>es[((zbh ks p).getD 0).toNat]?
structure OkS (m:Ma) (r:Int) (ks:Mk2):Prop where
 r0:0<=r
 r1:r<m.length
 sg:∀ q∈ks,0<=q.2/\q.2<sgn m
 nd:(ks.map (·.1)).Nodup
theorem znS {ks:Mk2} {k s:Int} (h:zbh ks k=some s):∃ q∈ks,q.2=s:=by
 unfold zbh at h;obtain⟨q,hq,rfl⟩:=zo0.1 h;exact⟨q,List.mem_of_find?_eq_some hq,rfl⟩
theorem OkS.val {m:Ma} {r:Int} {ks:Mk2} (M:OkM m) (h:OkS m r ks) (p:Int):0<=(zbh ks p).getD 0/\(zbh ks p).getD 0<sgn m:=by
 cases e:zbh ks p with
 | none=>have:=M.s2;simp;omega
 | some s =>
  obtain⟨q,hq,rfl⟩:=znS e;exact h.sg q hq
theorem OkS.at {m:Ma} {r:Int} {ks:Mk2} (M:OkM m) (h:OkS m r ks) (p:Int):∃ es e,m[r.toNat]?=some es/\es[((zbh ks p).getD 0).toNat]?=some e/\ent m r p ks=some e/\za9 m.length (sgn m) e=true/\es.length=sgn m:=by
 have hr:r.toNat<m.length:=by have:=h.r0;have:=h.r1;omega
 have he:m[r.toNat]?=some m[r.toNat]:=zoZ hr;have hm:m[r.toNat]∈m:=List.getElem_mem hr;have hl:=M.len _ hm;have hv:=h.val M p;have hs:((zbh ks p).getD 0).toNat<m[r.toNat].length:=by rw [hl];omega
 refine⟨_,_,he,zoZ hs,?_,M.ent _ hm _ (List.getElem_mem hs),hl⟩;unfold ent;rw [he,Option.bind_some,zoZ hs]
theorem OkS.nxt {m:Ma} {r r' p s:Int} {ks:Mk2} (h:OkS m r ks) (h0:0<=s) (h1:s<sgn m) (h2:0<=r') (h3:r'<m.length):OkS m r' (nxt ks p s) :=
 ⟨h2,h3,fun q hq=>by
  unfold L2.nxt at hq;split at hq
  ·exact h.sg q (zhy hq)
  ·rcases zjK hq with rfl | hq
   ·exact⟨h0,h1⟩
   ·exact h.sg q hq,zjv h.nd⟩
def wf (t:Addr) (r p:Int) (d:Addr):List (Str × V):=[("table",.ref t),("row",.int r),("place",.int p),("marks",.ref d)]
theorem zoW (t:Addr) (r p:Int) (d:Addr):zcJ "marks" (.ref d) (zcJ "place" (.int p) (zcJ "row" (.int r) (zcJ "table" (.ref t) [])))=wf t r p d:=by
 have a1:¬ (("table":Str)="row"):=by decide +kernel
 have a2:¬ (("table":Str)="place"):=by decide +kernel
 have a3:¬ (("table":Str)="marks"):=by decide +kernel
 have a4:¬ (("row":Str)="place"):=by decide +kernel
 have a5:¬ (("row":Str)="marks"):=by decide +kernel
 have a6:¬ (("place":Str)="marks"):=by decide +kernel
 simp only [zcJ,a1,a2,a3,a4,a5,a6,if_false,wf]
theorem znU (t:Addr) (r p y:Int) (d:Addr):zcJ "row" (.int y) (wf t r p d)=wf t y p d:=by
 have a1:¬ (("table":Str)="row"):=by decide +kernel
 simp only [wf,zcJ,a1,if_false,if_true]
theorem zkV (t:Addr) (r p y:Int) (d:Addr):zcJ "place" (.int y) (wf t r p d)=wf t r y d:=by
 have a2:¬ (("table":Str)="place"):=by decide +kernel
 have a4:¬ (("row":Str)="place"):=by decide +kernel
 simp only [wf,zcJ,a2,a4,if_false,if_true]
theorem zoV (t:Addr) (r p:Int) (d:Addr):(wf t r p d).lookup ("table":Str)=some (.ref t):=rfl
theorem znT (t:Addr) (r p:Int) (d:Addr):(wf t r p d).lookup ("row":Str)=some (.int r):=rfl
theorem ziy (t:Addr) (r p:Int) (d:Addr):(wf t r p d).lookup ("place":Str)=some (.int p):=rfl
theorem zkU (t:Addr) (r p:Int) (d:Addr):(wf t r p d).lookup ("marks":Str)=some (.ref d):=rfl
theorem zln (t:Addr) (r p:Int) (d:Addr):(wf t r p d).length<1000:=by show 4<1000;decide
structure WK (C:Addr) (H:Hp) (o t d:Addr) (r p:Int) (ks:Mk2):Prop where
 ob:∃ dx,H o=some (.ins C dx (wf t r p d))
 dc:H d=some (.dK (dcI (iv ks)))
theorem WK.sub {C:Addr} {H H':Hp} {o t d:Addr} {r p:Int} {ks:Mk2} (S:Sub H H') (h:WK C H o t d r p ks):WK C H' o t d r p ks:=⟨h.ob.imp fun _ z=>S _ _ z,S _ _ h.dc⟩
theorem zl8 {ks:Mk2} {k s:Int} (h:k ∉ ks.map (·.1)):zdv ks k s=ks++[(k,s)]:=by
 unfold zdv;rw [zpB];rw [List.any_eq_true];rintro ⟨q,hq,e⟩;exact h (zpf.2 ⟨q,hq,zpI e⟩)
theorem zkQ {ks:Mk2} (nd:(ks.map (·.1)).Nodup) {i:Nat} {q:Int × Int} (h:ks[i]?=some q):zdv (ks.take i) q.1 q.2=ks.take (i+1):=by
 rw [zl8,zpk,h]
 ·rfl
 ·intro hm;rw [List.map_take] at hm;obtain⟨j,hj⟩:=List.mem_iff_getElem?.1 hm;rw [List.getElem?_take] at hj;split at hj
  ·rename_i hji;have e2:(ks.map (·.1))[i]?=some q.1:=by rw [zoY,h];rfl
   obtain⟨a1,a2⟩:=zo1.1 hj;obtain⟨b1,b2⟩:=zo1.1 e2
   have:=(List.getElem_inj nd).1 (a2.trans b2.symm)
   omega
  ·cases hj
theorem zch (e:En):dep (dE e)<=60:=zpc zhw (by decide)
theorem zi0 {e:En}:eqD (dE e) (dE [])=decide (e=[]):=by
 cases e with
 | nil=>rw [zbu];simp
 | cons x e=>show eqD (.tup (.int x::e.map DD.int)) (.tup [])=_;rw [eqD];simp [zhA]
abbrev St3:=Int × Int × Mk2
theorem zfw {c:Prop} [Decidable c] {p q:Prop} (hc:¬ c) (h:p):if (!decide c)=true then p else q:=by rw [zpC (by simpa using hc)];exact h
theorem zgV {c:Prop} [Decidable c] {p q:Prop} (hc:c) (h:q):if (!decide c)=true then p else q:=by rw [zpB (by simpa using hc)];exact h
end L2
end
section
namespace L2
open PySem PySem.Spec PyProof.Rows PySem.W
section
variable {X:Cx} {pos:Pos}
def zmJ:List V->Hp->VK->Prop:=fun xs H Q=>match xs with | [.int i,.int j]=>∀ m,m=(if j<i then j else i)->Q (.int m) H | _=>False
theorem zhP (hc:X.calm=true):zbm X (.builtin "min") zmJ:=(ziK hc).imp fun xs H Q h=>by
 unfold zmJ at h;split at h
 ·exact⟨_,_,rfl,h _ rfl⟩
 ·exact h.elim
end
def stN (m:Ma) (x:St3):Option St3:=match ent m x.1 x.2.1 x.2.2 with
 | some [s,w,r]=>some (r,x.2.1+w,nxt x.2.2 x.2.1 s)
 | _=>none
def tr (m:Ma):Nat->St3->List St3
 | 0,x=>[x]
 | k+1,x=>x::(match stN m x with | some y=>tr m k y | none=>[])
theorem zhm {m:Ma} {k:Nat} {x y:St3} (h:stN m x=some y):tr m (k+1) x=x::tr m k y:=by show x::_=_;rw [h]
theorem zf0 {m:Ma} {k:Nat} {x:St3} (h:stN m x=none):tr m k x=[x]:=by
 cases k with
 | zero=>rfl
 | succ k=>show x::_=_;rw [h]
theorem zmq (m:Ma) (k:Nat) (x:St3):tr m k x≠[]:=by
 cases k with
 | zero=>simp [tr]
 | succ k=>simp [tr]
structure At (m:Ma) (N:Nat) (x0:St3) (sts:List St3) (x:St3):Prop where
 pre:∃ l,sts=l++[x]/\l.length<=N/\tr m N x0=l++tr m (N-l.length) x
theorem At.start {m:Ma} {N:Nat} {x0:St3}:At m N x0 [x0] x0:=⟨[],rfl,Nat.zero_le _,rfl⟩
theorem At.step {m:Ma} {N:Nat} {x0 x y:St3} {sts:List St3} (h:At m N x0 sts x) (hs:stN m x=some y) (hl:sts.length<=N):At m N x0 (sts++[y]) y:=by
 obtain⟨l,rfl,h1,h2⟩:=h.pre;rw [zo7] at hl;have hl:l.length+1<=N:=hl;refine⟨l++[x],rfl,by rw [zo7];exact hl,?_⟩;rw [h2,show N-l.length=(N-(l.length+1))+1 by omega,zhm hs,zo7];simp
theorem At.done {m:Ma} {N:Nat} {x0 x:St3} {sts:List St3} (h:At m N x0 sts x) (hs:stN m x=none\/N<sts.length):sts=tr m N x0:=by
 obtain⟨l,rfl,h1,h2⟩:=h.pre;rcases hs with hs | hs
 ·rw [h2,zf0 hs]
 ·rw [zo7] at hs;have hs:N<l.length+1:=hs;rw [h2,show N-l.length=0 by omega]
  rfl
theorem At.len {m:Ma} {N:Nat} {x0 x:St3} {sts:List St3} (h:At m N x0 sts x):sts.length<=N+1/\1<=sts.length:=by
 obtain⟨l,rfl,h1,h2⟩:=h.pre;rw [zo7];exact⟨Nat.succ_le_succ h1,by simp⟩
theorem zjV {m:Ma} {x:St3} {s w r:Int} (h:ent m x.1 x.2.1 x.2.2=some [s,w,r]):stN m x=some (r,x.2.1+w,nxt x.2.2 x.2.1 s):=by unfold stN;rw [h]
theorem zhV {m:Ma} {x:St3} (h:ent m x.1 x.2.1 x.2.2=some []):stN m x=none:=by unfold stN;rw [h]
theorem zjL (ks:Mk2) (p s:Int):zbh (zdv ks p s) p=some s:=by
 have h:=zkR (dcI (iv ks)) (.inl p) (.inl p) (.int s);rw [zj3,zgF,zpC rfl] at h;cases e:zbh (zdv ks p s) p with
 | none=>rw [e] at h;cases h
 | some z=>rw [e] at h;cases h;rfl
def SZ (H:Hp) (q:Addr) (z:Addr × St3):Prop:=H q=some (.tup [.int z.2.1,.int z.2.2.1,.ref z.1])/\zhZ H z.1 z.2.2.2
def zj5 (hi:Int) (ns:List Int):Prop:=hi∈ns/\∀ n∈ns,n<=hi
theorem zj5.one {a b:Int} {ns:List Int} (h:zj5 a ns) (h':zj5 b ns):a=b:=by have:=h.2 b h'.1;have:=h'.2 a h.1;omega
theorem ziB.two {C:Addr} {H H':Hp} {o t d:Addr} {r p:Int} {ks:Mk2} (W:WK C H o t d r p ks) (k:∀ c u,H c=some u->c≠o->c≠d->H' c=some u):ziB H H':=by
 obtain⟨⟨dx,ho⟩,hd⟩:=W;exact⟨fun a xs e=>k a _ e (fun z=>by rw [z,ho] at e;cases e) (fun z=>by rw [z,hd] at e;cases e),fun a as e=>k a _ e (fun z=>by rw [z,ho] at e;cases e) (fun z=>by rw [z,hd] at e;cases e)⟩
theorem At.last {m:Ma} {N:Nat} {x0 x:St3} {sts:List St3} (h:At m N x0 sts x):sts.getLast?=some x:=by
 obtain⟨l,rfl,_⟩:=h.pre;simp
def wd (m:Ma) (x:St3):Str:=if ent m x.1 x.2.1 x.2.2=some [] then "ends" else "on"
def RU (H:Hp) (q:Addr) (w:Str) (n:Int) (z:Addr × St3):Prop:=∃ s,H q=some (.tup [.str w,.int n,.ref s])/\SZ H s z
theorem zlM {n:Nat} (h:1<=n):ixN n (-1)=some (n-1):=by
 unfold ixN;rw [zpB (by decide),zpC (by omega)]
 congr 1
 omega
theorem zlt {α:Type} {xs:List α} {v:α} (h:xs[xs.length-1]?=some v):atI xs (-1)=some v:=by
 have hl:=(zo1.1 h).1;unfold atI;rw [zlM (by omega)];exact h
end L2
end
section
namespace L2
open PySem PySem.Spec PyProof.Rows PySem.W
section
variable {X:Cx}
end
end L2
end
section
namespace L2
open PySem PySem.Spec PyProof.Rows PySem.W
theorem zhn {ks:Mk2} (nd:(ks.map (·.1)).Nodup) {k s:Int}:zbh ks k=some s↔(k,s)∈ks:=by
 induction ks with
 | nil=>simp [zbh]
 | cons q ks ih =>
  rw [zpq,List.nodup_cons] at nd;have ih:=ih nd.2;unfold zbh at ih ⊢;by_cases e:q.1=k
  ·rw [List.find?_cons_of_pos (by simpa using e),Option.map_some,zpG]
   constructor
   ·intro h;cases h;exact .inl (Prod.ext e.symm rfl)
   ·rintro (h | h)
    ·rw [← h]
    ·exact (nd.1 (zpf.2 ⟨_,h,e.symm⟩)).elim
  ·rw [List.find?_cons_of_neg (by simpa using e),ih,zpG]
   constructor
   ·exact .inr
   ·rintro (h | h)
    ·rw [← h] at e;exact (e rfl).elim
    ·exact h
theorem OkS.next {m:Ma} {x y:St3} (M:OkM m) (h:OkS m x.1 x.2.2) (hs:stN m x=some y):OkS m y.1 y.2.2:=by
 obtain⟨es,e,_,_,h3,h4,_⟩:=h.at M x.2.1;unfold stN at hs;rw [h3] at hs;by_cases z:e=[]
 ·subst z;cases hs
 ·obtain⟨s',w',r',rfl,a0,a1,a2,a3,a4⟩:=zaX h4 z;cases hs;exact h.nxt a0 a1 a3 a4
theorem znP {m:Ma} (M:OkM m):∀ (k:Nat) (x:St3),OkS m x.1 x.2.2->∀ y∈tr m k x,OkS m y.1 y.2.2
 | 0,x,h,y,hy=>by rw [zo6.1 hy];exact h
 | k+1,x,h,y,hy=>by
  cases hs:stN m x with
  | none=>rw [zf0 hs] at hy;rw [zo6.1 hy];exact h
  | some z =>
   rw [zhm hs] at hy;rcases zpG.1 hy with rfl | hy
   ·exact h
   ·exact znP M k z (h.next M hs) y hy
theorem OkM.start {m:Ma} (M:OkM m):OkS m 0 []:=⟨by decide,by have:=M.n1;omega,by simp,by simp⟩
section
variable {X:Cx} {K:PySem.W.Frag}
end
end L2
end
section
namespace L2
open PySem PySem.Spec PyProof.Rows PySem.W
section
variable {X:Cx}
end
section
variable {X:Cx} {pins:List (Addr × Obj)} {σ:St} {H:Hp} {s:Shared}
open PySem.SeqAt
end
theorem zgc:∀ e e':List Int,zhA (e.map DD.int) (e'.map DD.int)=decide (e=e')
 | [],[]=>rfl
 | [],_::_=>rfl
 | _::_,[]=>rfl
 | i::e,j::e'=>by
  show (i == j && zhA (e.map DD.int) (e'.map DD.int))=_;rw [zgc e e'];by_cases c:i=j
  ·subst c;by_cases d:e=e' <;> simp [d]
  ·simp [c]
theorem zeP {e e':En}:eqD (dE e) (dE e')=decide (e=e'):=zgc e e'
theorem zkc (ks:Mk2) (p:Int):zbh (zd5 ks p) p=none:=by
 unfold zbh zd5;rw [Option.map_eq_none_iff,List.find?_eq_none];intro q hq
 have:=(zph.1 hq).2
 simpa using this
abbrev en3 (m:Ma) (x:St3):Option En:=ent m x.1 x.2.1 x.2.2
end L2
end
section
namespace L2
open PySem PySem.Spec PyProof.Rows PySem.W
section
variable {X:Cx}
end
section
variable {X:Cx}
def zmH:List V->Hp->VK->Prop:=fun xs H Q=>match xs with | [.bl k]=>Q (.int (if k then 1 else 0)) H | [.int i]=>Q (.int i) H | _=>False
theorem zli:zbm X (.type "int") zmH:=ziI.imp fun xs H Q h=>by
 unfold zmH at h;split at h
 ·exact .inr ⟨_,rfl,h⟩
 ·exact .inl ⟨_,rfl,h⟩
 ·exact h.elim
end
section
variable {X:Cx} {K:PySem.W.Frag} {o e:Expr} {es:List Expr} {to:TE} {t:TA} {name:Str} {apos cpos:Pos} {T id:String} {r:V->List V->Hp->VK->Prop}
end
section
variable {X:Cx} {e e1 e2 e3:Expr} {te t1 t2 t3:TE} {pos:Pos}
variable {K:PySem.W.Frag} {o i:Expr} {td ty:TE}
end
section
variable {X:Cx}
end
end L2
end
section
namespace L2
open PySem PySem.Spec PyProof.Rows PySem.W
section
variable {X:Cx}
end
def Itk (d:Addr) (o:Obj) (kvs:List (Int × V)):It where
 go:=fun i H=>H d=some (.frz o (.dK (dcI kvs)))/\i<kvs.length
 yld:=fun i H v H'=>H'=H/\∃ q,v=.int q.1/\kvs[i]?=some q
 stop:=fun i H=>H d=some (.frz o (.dK (dcI kvs)))/\kvs.length<=i
theorem zjX {P:Program} {w:World} {K:PySem.W.Frag} {tg:Expr} {d it:Addr} {o:Obj} {kvs:List (Int × V)} {es:Array DictEntry} {ep:Nat} (ho:o.data=.dict es ep) :
  zk0 P w K tg (Itk d o kvs) [it] it (fun i h=>h.IsKeyIter it d i kvs.length ep) where
 mem:=by simp
 obj:=fun i h st b hb=>by
  have z:b=it:=by simpa using hb
  subst z;obtain⟨ob,e,c,dd⟩:=st;exact⟨ob,e,fun v z=>by rw [dd] at z;cases z⟩
 keep:=fun i h h' st k=>st.at fun o e=>k it (by simp) o e
 item:=by
  intro X hP hw hK hc i pins s σ H E I hf st hg;subst hP hw hK;obtain⟨hd,hlt⟩:=hg;obtain⟨ws,rel,hat,hl⟩:=zla I.hok hd ho;rw [hl] at st;obtain⟨⟨k,x⟩,hx⟩:∃ p,ws[i]?=some p:=⟨ws[i]'(by omega),zoZ (by omega)⟩;obtain⟨q,hq,rfl,rx⟩:=zm8 rel hx;obtain⟨f0,f1,f2,f3,f4,f5⟩:=hf it (by simp);refine wpAny_pyNext_dict_item st hat hx fun key h' hkey st' sb=>?_
  have I1:Inv X pins σ H { s with heap:=h' }:=I.turned (t':=s.toks) (fun b o hb e=>(sb.2 b hb).trans e) f0 f1 f3 f4 f5;obtain⟨ob,e,c,dd⟩:=id st';rcases zaJ (show zgh (.inl q.1) key=true from hkey) with ⟨i',t,g1,rfl⟩ | ⟨x',t,g1,rfl⟩
  ·cases g1;exact⟨_,rfl,zkg (s:={ s with heap:=h' }) e c dd (by decide) ⟨.int q.1,H,I1,⟨_,rfl⟩,⟨rfl,q,rfl,hq⟩,by rw [hl];exact st',fun b hb=>(hf b hb).1⟩⟩
  ·cases g1
 done:=by
  intro X hP hw hK hc i pins s σ H E I hf st hg;subst hP hw hK;obtain⟨hd,hle⟩:=hg;obtain⟨ws,rel,hat,hl⟩:=zla I.hok hd ho;rw [hl] at st;obtain⟨f0,f1,f2,f3,f4,f5⟩:=hf it (by simp);exact wpAny_pyNext_dict_end (I.ok.hd hc) st hat (List.getElem?_eq_none (by omega)) fun h' eb=>⟨rfl,I.turned (t':=s.toks) (fun b o hb e=>eb b o hb e) f0 f1 f3 f4 f5⟩
 self:=fun A i s Q E st h=>wpAny_pyIter_keyiter st h
section
variable {X:Cx}
def zoa (te:TE):TI:=fun σ H R=>te σ H fun x H1=>match x with
 | .ref d=>∃ o kvs,H1 d=some (.frz o (.dK (dcI kvs)))/\R (Itk d o kvs) H1
 | _=>False
theorem zme {tg e:Expr} {te:TE} (he:PE X e te):PI X tg e (zoa te):=by
 intro pins s σ H R I h;refine thn (he pins s σ H _ I h) fun u s1 ⟨x,H1,I1,r1,q1⟩=>?_
 obtain⟨d,rfl,o,kvs,hd,q⟩:∃ d,x=.ref d/\∃ o kvs,H1 d=some (.frz o (.dK (dcI kvs)))/\R (Itk d o kvs) H1:=by
  dsimp only at q1;split at q1
  ·exact⟨_,rfl,q1⟩
  ·exact q1.elim
 cases r1;obtain⟨e0,z,hsys,ws,rel,o',es,ep,e1,e2,e3,e4⟩:=(show za0 X.prog X.w H1 s1.heap d (.frz o (.dK (dcI kvs))) from I1.hok d _ hd);rw [e0] at e1;cases e1;have hat:s1.heap.DictAt (zaK X.prog X.w) d ws ep:=⟨o,es,e0,e2,e3,e4⟩;have hl:kvs.length=ws.length:=by rw [← zjn rel,zoX]
 refine wpAny_pyIter_dict hsys hat ?_;have I2:=I1.kept (t':=s1.toks) (h':=s1.heap.push { cls:=.type "dict_keyiterator",data:=.fields #[.ref d,.int 0 0,.int ws.length 0,.int ep 0] }) fun b o e=>zpa _ e
 refine⟨s1.heap.objs.size,[s1.heap.objs.size],_,_,_,rfl,I2,zjX e3,⟨_,zpy _ rfl,rfl,by rw [hl];rfl⟩,fun b hb=>?_,q⟩;have e:b=s1.heap.objs.size:=by simpa using hb
 subst e;exact I1.fpOk (zpd _) (I1.hok.fresh (zpd _))
end
theorem ziN {d:Addr} {o:Obj} {kvs:List (Int × V)} {g:TG} {tc:TT} {tm:TM} {σ:St} {H:Hp} {p:Addr} {Q:Hp->Prop} (Pv:Nat->St->Hp->Prop) (h0:Pv 0 σ H)
  (hl:∀ i σ H,i<=kvs.length->Pv i σ H->H d=some (.frz o (.dK (dcI kvs))))
  (hs:∀ i q σ H,kvs[i]?=some q->Pv i σ H->g (.int q.1) σ H fun σ3 H3=>tc σ3 H3 fun b H4=>if b=true then tm p σ3 H4 (Pv (i+1) σ3) else Pv (i+1) σ3 H4) (hd:∀ σ H,Pv kvs.length σ H->Q H) :
  ∃ W:Nat->Nat->St->Hp->Prop,(∃ m,W 0 m σ H) /\
  ∀ i m σ' H',W i m σ' H'->((Itk d o kvs).stop i H'/\Q H')\/((Itk d o kvs).go i H'/\∃ N:St->Hp->Prop,(∀ σ2 H2,N σ2 H2->∃ m',m'<m/\W (i+1) m' σ2 H2)/\∀ x H2,(Itk d o kvs).yld i H' x H2->g x σ' H2 fun σ3 H3=>tc σ3 H3 fun b H4 =>
   if b=true then tm p σ3 H4 (N σ3) else N σ3 H4):=by
 refine⟨fun i m σ H=>m=kvs.length-i/\i<=kvs.length/\Pv i σ H,⟨kvs.length,by simp,Nat.zero_le _,h0⟩,?_⟩;rintro i m σ H ⟨rfl,hi,pv⟩;have q:=hl i σ H hi pv;by_cases hlt:i<kvs.length
 ·refine .inr ⟨⟨q,hlt⟩,Pv (i+1),fun σ' H' p'=>⟨kvs.length-(i+1),by omega,rfl,hlt,p'⟩,fun x H' y=>?_⟩;obtain⟨rfl,qv,rfl,hq⟩:=y;exact hs i qv σ _ hq pv
 ·have e:i=kvs.length:=by omega
  subst e;exact .inl ⟨⟨q,zpd _⟩,hd σ H pv⟩
section
variable {X:Cx}
end
section
variable {X:Cx} {a b c d:Expr} {ta tb tc td:TE} {pos:Pos}
end
end L2
end
section
namespace L2
open PySem PySem.Spec PyProof.Rows PySem.W
section
variable {X:Cx} {e:Expr} {te:TE}
def tFz (te:TE):TE:=fun σ H Q=>te σ H fun x H1=>∃ d kvs,H1 d=some (.dK kvs)/\∀ o,Q x (upd H1 d (.frz o (.dK kvs)))
theorem znm (he:PE X e te):PE X e (tFz te):=by
 intro pins s σ H Q I h;refine thn (he pins s σ H _ I h) fun u s1 ⟨x,H1,I1,r1,d,kvs,hd,q⟩=>?_
 obtain⟨_,_,ws,rel,o,es,ep,e1,_⟩:=zgP I1.hok hd;exact⟨x,_,I1.freeze hd e1,r1,q o⟩
end
end L2
end
section
namespace L2
open PySem PySem.Spec PyProof.Rows PySem.W
section
variable {X:Cx}
theorem zgI (a d:Value):argsOk "max" ⟨[a],[("default",d)]⟩:=by unfold argsOk;kernel_rfl
end
section
variable {prog:Program} {w:World} {A:Around} {E:Value->Shared->Prop} {s:Shared} {R:Result->Shared->Prop}
theorem zjq {h0:Heap} {S l it:Addr} {its:List Value} {ns:List Int} {d:Value} (hA:A.handled=none) (nSi:S≠it) (nlS:l≠S) (nli:l≠it) (hl:h0.IsList l its.toArray) (hi:IntsAre its ns)
  (hR:∀ h' tk v,(∀ b o,b≠S->b≠it->h0.get? b=some o->h'.get? b=some o)->((ns=[]/\v=d)\/∃ (b:Int) (t:Tok),v=.int b t/\b∈ns/\∀ n∈ns,n<=b)->R (.ok (.ret v)) { s with heap:=h',toks:=tk }) :
  ∀ (k i:Nat) (h:Heap) (tk c:Nat),its.length-i=k->i<=its.length->h.IsListIter it l i ->
   ((i=0/\h.get? S=some { cls:=.type "list",dict:=none,data:=.seq #[] c,slots:=#[] })\/∃ (b:Int) (t:Tok),b∈ns.take i/\(∀ n∈ns.take i,n<=b)/\h.get? S=some { cls:=.type "list",dict:=none,data:=.seq #[.int b t,.int b t] c,slots:=#[] }) ->
   (∀ b o,b≠S->b≠it->h0.get? b=some o->h.get? b=some o)->codeAny (model prog w) A (.builtin "max.loop" ⟨[.ref it,.none,.ref S],[("default",d)]⟩) R { s with heap:=h,toks:=tk }:=by
 have hname:(toString "max"++toString ".loop":String)="max.loop":=by decide
 have hlen:its.length=ns.length:=hi.length;intro k
 induction k with
 | zero =>
  intro i h tk c hk hil hit hb keep;have hL:h.IsList l its.toArray:=let ⟨o,e,r⟩:=hl;⟨o,keep l o nlS nli e,r⟩;refine codeAny_builtin PySem.F.entry_max_loop ?_;rw [Around.under_plainId PySem.F.plain_max_loop _];rcases hb with ⟨hi0,hS⟩ | ⟨b,t,h1,h2,hS⟩
  ·refine (show wpAny _ A.in1 (seqItems? (.ref S) >>= _) _ _ _ from wpAny_bind (wpAny_seqItems (s:={ s with heap:=h,toks:=tk }) hS rfl ?_));refine (show wpAny _ A.in1 (tryCatch (pyNext (.ref it)) _ >>= _) _ _ _ from wpAny_bind (wpAny_tryCatch (wpAny_pyNext_list_end (s:={ s with heap:=h,toks:=tk }) (A:=A.in1) hA hit hL (by simp;omega) fun h' eb=>?_)));refine wpAny_bind (wpAny_rule (wpAny_pure (hR h' tk d (fun b o n1 n2 e=>eb b o n2 (keep b o n1 n2 e)) (.inl ⟨List.length_eq_zero_iff.1 (show ns.length=0 by omega),rfl⟩))))
  ·refine (show wpAny _ A.in1 (seqItems? (.ref S) >>= _) _ _ _ from wpAny_bind (wpAny_seqItems (s:={ s with heap:=h,toks:=tk }) hS rfl ?_));refine (show wpAny _ A.in1 (tryCatch (pyNext (.ref it)) _ >>= _) _ _ _ from wpAny_bind (wpAny_tryCatch (wpAny_pyNext_list_end (s:={ s with heap:=h,toks:=tk }) (A:=A.in1) hA hit hL (by simp;omega) fun h' eb=>?_)));have hS':=eb S _ nSi hS;refine (show wpAny _ A.in1 (updateSeq S (fun _=>#[]) >>= _) _ _ _ from wpAny_bind (wpAny_updateSeq (s:={ s with heap:=h',toks:=tk }) hS' rfl (wpAny_bind (wpAny_letGo (wpAny_pure ?_)))));rw [show i=ns.length by omega,zpj] at h1 h2;exact hR _ _ _ (fun b' o n1 n2 e=>(Heap.get?_update_other _ _ (Ne.symm n1)).trans (eb b' o n2 (keep b' o n1 n2 e))) (.inr ⟨b,t,rfl,h1,h2⟩)
 | succ k ih =>
  intro i h tk c hk hil hit hb keep;have hlt:i<its.length:=by omega
  have hL:h.IsList l its.toArray:=let ⟨o,e,r⟩:=hl;⟨o,keep l o nlS nli e,r⟩;obtain⟨t',et⟩:=PyProof.Rows.IntsAre.int_at hi i its[i] (zoZ hlt);have hni:ns[i]?=some (ns.getD i 0):=by rw [zpF,zoZ (show i<ns.length by omega)];rfl
  generalize ns.getD i 0=x at et hni;refine codeAny_builtin PySem.F.entry_max_loop ?_;rw [Around.under_plainId PySem.F.plain_max_loop _];have tk1:ns.take (i+1)=ns.take i++[x]:=by rw [zpk,hni];rfl
  rcases hb with ⟨hi0,hS⟩ | ⟨b,t,h1,h2,hS⟩
  ·refine (show wpAny _ A.in1 (seqItems? (.ref S) >>= _) _ _ _ from wpAny_bind (wpAny_seqItems (s:={ s with heap:=h,toks:=tk }) hS rfl ?_));refine (show wpAny _ A.in1 (tryCatch (pyNext (.ref it)) _ >>= _) _ _ _ from wpAny_bind (wpAny_tryCatch (wpAny_pyNext_list_item (s:={ s with heap:=h,toks:=tk }) (A:=A.in1) hit hL (x:=.int x t') (by rw [← et];simp [hlt]) fun h' hit' sb=>?_)));have hS':=(sb.2 S nSi).trans hS;refine (show wpAny _ A.in1 (updateSeq S (fun _=>#[.int x t',.int x t']) >>= _) _ _ _ from wpAny_bind (wpAny_updateSeq (s:={ s with heap:=h',toks:=tk }) hS' rfl ?_));rw [hname];refine wpAny_pure ⟨plainId_quiet PySem.F.plain_max_loop _,ih (i+1) _ tk _ (by omega) hlt (hit'.at fun o e=>(Heap.get?_update_other _ _ nSi).trans e) (.inr ⟨x,t',by rw [tk1];simp,by rw [tk1,hi0];simp,Heap.get?_update_self _ hS' rfl⟩) fun b' o n1 n2 e=>(Heap.get?_update_other _ _ (Ne.symm n1)).trans ((sb.2 b' n2).trans (keep b' o n1 n2 e))⟩
  ·refine (show wpAny _ A.in1 (seqItems? (.ref S) >>= _) _ _ _ from wpAny_bind (wpAny_seqItems (s:={ s with heap:=h,toks:=tk }) hS rfl ?_));refine (show wpAny _ A.in1 (tryCatch (pyNext (.ref it)) _ >>= _) _ _ _ from wpAny_bind (wpAny_tryCatch (wpAny_pyNext_list_item (s:={ s with heap:=h,toks:=tk }) (A:=A.in1) hit hL (x:=.int x t') (by rw [← et];simp [hlt]) fun h' hit' sb=>?_)));have hS':=(sb.2 S nSi).trans hS;refine (show wpAny _ A.in1 (tryCatch (holding [.int x t',.int x t'] (richCompare .Gt (.int x t') (.int b t) >>= _)) _ >>= _) _ _ _ from wpAny_bind (wpAny_tryCatch (wpAny_holding (wpAny_bind ?_))));refine richCompare_gives (op:=.Gt) (typeIs_int _ _ t') (typeIs_int _ _ t) F.slot_int_gt F.entry_int_gt (F.args_int_gt_2 _ _) (gives_int_gt _ _ t' t) (fun x=>nomatch x) ?_;refine wpAny_bind (wpAny_holding (wpAny_truthy_bool (wpAny_bind (wpAny_letGo (wpAny_pure ?_)))));by_cases cx:x > b
   ·rw [zo3 cx,zpC rfl];refine wpAny_bind (wpAny_updateSeq (s:={ s with heap:=h',toks:=tk }) hS' rfl (wpAny_bind (wpAny_letGo ?_)));rw [hname];refine wpAny_pure ⟨plainId_quiet PySem.F.plain_max_loop _,ih (i+1) _ tk _ (by omega) hlt (hit'.at fun o e=>(Heap.get?_update_other _ _ nSi).trans e) (.inr ⟨x,t',by rw [tk1];simp,fun n hn=>?_,Heap.get?_update_self _ hS' rfl⟩) fun b' o n1 n2 e=>(Heap.get?_update_other _ _ (Ne.symm n1)).trans ((sb.2 b' n2).trans (keep b' o n1 n2 e))⟩;rw [tk1] at hn;rcases zo8.1 hn with hn | hn
    ·have:=h2 n hn;omega
    ·rw [zo6.1 hn];exact Int.le_refl _
   ·rw [zo4 cx,zpB zpJ];refine wpAny_bind (wpAny_letGo ?_);rw [hname];refine wpAny_pure ⟨plainId_quiet PySem.F.plain_max_loop _,ih (i+1) _ tk _ (by omega) hlt hit' (.inr ⟨b,t,by rw [tk1];exact zpu _ h1,fun n hn=>?_,hS'⟩) fun b' o n1 n2 e=>(sb.2 b' n2).trans (keep b' o n1 n2 e)⟩;rw [tk1] at hn;rcases zo8.1 hn with hn | hn
    ·exact h2 n hn
    ·rw [zo6.1 hn];omega
theorem ziJ {l:Addr} {its:List Value} {ns:List Int} {d:Value} {Q:Value->Shared->Prop} (hA:A.handled=none) (hl:s.heap.IsList l its.toArray) (hi:IntsAre its ns)
  (q:∀ h' tk v,(∀ b o,s.heap.get? b=some o->h'.get? b=some o)->((ns=[]/\v=d)\/∃ (b:Int) (t:Tok),v=.int b t/\b∈ns/\∀ n∈ns,n<=b)->Q v { s with heap:=h',toks:=tk }) :
  wpAny (model prog w) A (call (.builtin "max") [.ref l] [("default",d)]) Q E s:=by
 have hname:(toString "max"++toString ".loop":String)="max.loop":=by decide
 refine wpAny_call (codeAny_call_builtin PySem.F.plain_max PySem.F.entry_max ?_);have ha:=zgI (.ref l) d;simp only [checkBuiltinCall,PySem.F.kind_max];have main:wpAny (model prog w) A.in1 (Builtin.«max» ⟨[.ref l],[("default",d)]⟩) (fun fin s'=>match fin with
   | .done f=>(match (Except.ok f:Result) with | .ok (.ret v)=>Q v s' | .ok _=>False | .error e=>E e s')
   | .again c'=>c'.quiet=true/\codeAny (model prog w) A c' (fun r s'=>match r with | .ok (.ret v)=>Q v s' | .ok _=>False | .error e=>E e s') s') E s:=by
  show wpAny _ A.in1 (Builtin.Builtins.bindParams "max" ["key","default"] 0 ⟨[],[("default",d)]⟩ >>= _) _ _ s;refine wpAny_bind (wpAny_of_eq (show Builtin.Builtins.bindParams "max" ["key","default"] 0 ⟨[],[("default",d)]⟩=pure [none,some d] from rfl) (wpAny_bind (wpAny_pure ?_)));refine wpAny_bind (wpAny_pyIter_list hl (wpAny_bind (wpAny_newObj_type ?_)));rw [hname];obtain⟨ol,hol,hlr⟩:=id hl;have hlt:l<s.heap.objs.size:=zpo hol;refine wpAny_pure ⟨plainId_quiet PySem.F.plain_max_loop _,?_⟩;have kp:∀ b o,s.heap.get? b=some o->((s.heap.push { cls:=.type "list_iterator",data:=.fields #[.ref l,.int 0 0] }).push { cls:=.type "list",data:=.seq #[] }).get? b=some o:=fun b o e=>zpa _ (zpa _ e)
  have hsz:(s.heap.push { cls:=.type "list_iterator",data:=.fields #[.ref l,.int 0 0] }).objs.size=s.heap.objs.size+1:=Heap.size_push ..;refine zjq (A:=A) (s:=s) (h0:=s.heap) (S:=(s.heap.push { cls:=.type "list_iterator",data:=.fields #[.ref l,.int 0 0] }).objs.size) (l:=l) (it:=s.heap.objs.size) (its:=its) (ns:=ns) (d:=d) hA (by rw [hsz];exact Nat.succ_ne_self _) (by rw [hsz];exact zpH (Nat.lt_succ_of_lt hlt)) (zpH hlt) hl hi (fun h' tk v keep hv=>?_) its.length 0 _ s.toks 0 rfl (Nat.zero_le _) ⟨_,zpa _ (zpy _ rfl),rfl,rfl⟩ (.inl ⟨rfl,zpy _ rfl⟩) fun b o _ _ e=>kp b o e
  exact q h' tk v (fun b o e=>keep b o (by rw [hsz];exact zpH (Nat.lt_succ_of_lt (zpo e))) (zpH (zpo e)) e) hv
 cases hsig:Manifest.signature? "max" with
 | none=>exact wpAny_pure main
 | some sig =>
  have ha':Bind.checkArgs "max" sig ⟨[.ref l],[("default",d)]⟩=pure ():=by simpa only [argsOk,hsig] using ha
  simp only [ha'];exact wpAny_pure main
end
section
variable {X:Cx} {K:PySem.W.Frag}
def zoQ (K:PySem.W.Frag) (ta:TA) (z:Int):TE:=fun σ H Q=>ta σ H fun vs H1=>match vs with
 | [.ref p]=>∃ ns:List Int,SqL K H1 p (ns.map V.int)/\(ns=[]->Q (.int z) H1)/\∀ m,m∈ns->(∀ n∈ns,n<=m)->Q (.int m) H1
 | _=>False
theorem zjD {e:Expr} {ta:TA} {z:Int} {p pos cp kp:Pos} {ck:Nat} (hK:X.K=K) (hc:X.calm=true) (gl:Gl X "max") (ml:X.mg "max"=none) (ha:PA X [e] ta) (hs:starEach [e] X.env=[(false,eval e X.env)]:=by rfl) :
  PE X (.Call (.Name "max" p) [e] [⟨some "default",.Constant (.int z) ck cp,kp⟩] pos) (zoQ K ta z):=by
 subst hK;intro pins s σ H Q I h;refine wpAny_Call_Name_kw (zeY I gl ml ziF (callWith_kw (thn (ha pos pins s σ H _ I h) fun us s1 ⟨vs,H1,I1,r1,q1⟩=>?_) (by rw [hs];rfl) (by rw [hs];rfl)));obtain⟨a,l,rfl,rfl,ns,hq,q0,q2⟩:∃ (a:Addr) (l:Addr),vs=[.ref a]/\us=[.ref a]/\∃ ns:List Int,SqL X.K H1 a (ns.map V.int)/\(ns=[]->Q (.int z) H1)/\∀ m,m∈ns->(∀ n∈ns,n<=m)->Q (.int m) H1:=by
  dsimp only at q1;split at q1
  ·rename_i a;obtain⟨u,rfl,ru⟩:=zjY r1;cases ru;exact⟨a,a,rfl,rfl,q1⟩
  ·exact q1.elim
 refine PyProof.Rows.kws_cons (wpAny_Constant_int (PyProof.Rows.kws_nil ?_));obtain⟨its,rv,pl,hz⟩:=I1.list hq;have hi:IntsAre its ns:=zdA rv;show wpAny _ _ (call (.builtin "max") [.ref a] [("default",.int z _)]) _ _ _;refine ziJ (s:={ s1 with toks:=s1.toks+1 }) (I.ok.hd hc) pl.isList hi fun h' tk v hk hv=>?_
 rcases hv with ⟨e0,rfl⟩ | ⟨b,t,rfl,h1,h2⟩
 ·exact⟨.int z,H1,I1.kept (t':=tk) hk,⟨_,rfl⟩,q0 e0⟩
 ·exact⟨.int b,H1,I1.kept (t':=tk) hk,⟨_,rfl⟩,q2 b h1 h2⟩
end
end L2
end
section
namespace L2
open PySem PySem.Spec PyProof.Rows PySem.W
section
variable {prog:Program} {w:World} {A:Around} {E:Value->Shared->Prop} {s:Shared}
end
section
variable {prog:Program} {w:World} {A:Around} {s:Shared} {R:Result->Shared->Prop} {its:Array Value}
end
section
variable {prog:Program} {w:World} {A:Around} {E:Value->Shared->Prop} {s:Shared} {its:Array Value}
end
section
variable {prog:Program} {w:World} {A:Around} {E:Value->Shared->Prop} {s:Shared}
end
section
variable {X:Cx} {K:PySem.W.Frag}
end
end L2
end
section
set_option autoImplicit false
open PySem PySem.Spec PyProof.Rows
namespace L2
structure zj2 (e:Expr) (d:Nat) (tg iter:Expr) (ifs:List Expr) (emit:Env->Addr->Sem Unit):Prop where
 under:∀ (A:Around) it acc env,A.under (.compLoop e d it acc env)=A
 den:∀ (prog:Program) (w:World) it acc env,(model prog w).den (.compLoop e d it acc env)=((compTurn e d it acc env).onRaise (fun x=>do noteFrame x env;theTreesLotGoes x))
 turn:∀ it D env,compTurn e d it (.ref D) env=(do
   standAt iter.pos
   match ← pyNext it with
   | none=>pure (.done .next)
   | some v =>
    letOwnedTupleGo tg it v
    assign tg env v
    let mut ok:=true
    for c in ifs do
     if ok then ok ← isTrue c env (eval c env)
    if ok then
     emit env D
    again (.compLoop e d it (.ref D) env))
 start:∀ (prog:Program) (w:World) (A:Around) (R:Result->Shared->Prop) (s:Shared) it acc env,codeAny (model prog w) A (.compLoop e d it acc env) R s ->
  wpAny (model prog w) A (pyIter it) (fun it' s'=>codeAny (model prog w) A (.compLoop e d it' acc env) R s') (notedBy (model prog w) A env fun x s'=>R (.error x) s') s ->
  codeAny (model prog w) A (.compStart e d it acc env) R s
section
variable {Y:Cx} {e tg iter:Expr} {d:Nat} {ifs:List Expr} {emit:Env->Addr->Sem Unit} {wi:TI} {g:TG} {tc:TT} {tm:TM}
theorem zh7 (F:zj2 e d tg iter ifs emit) (hc:Y.calm=true) (hx:Y.xe=fun _ _=>False) {fp:List Addr} {it D:Addr} {tn:Nat->Heap->Prop} {J:It} {R:Result->Shared->Prop} {s:Shared} {pins:List (Addr × Obj)}
  (hg:PG Y tg g) (ht:PTs Y ifs tc) (hm:PM Y emit tm)
  (T:zk0 Y.prog Y.w Y.K tg J fp it tn) (hfp:∀ b∈fp,∀ H':Hp,H' b=none->ziz Y pins H' b)
  (W:Nat->Nat->St->Hp->Prop) {Q:St->Hp->Prop} (turn:∀ i m σ' H',W i m σ' H'->(J.stop i H'/\Q σ' H')\/(J.go i H'/\∃ N:St->Hp->Prop,(∀ σ2 H2,N σ2 H2->∃ m',m'<m/\W (i+1) m' σ2 H2)/\∀ x H2,J.yld i H' x H2->g x σ' H2 fun σ3 H3=>tc σ3 H3 fun b H4 =>
   if b=true then tm D σ3 H4 (N σ3) else N σ3 H4))
  (hR:∀ σ' H' s',Inv Y pins σ' H' s'->Q σ' H'->R (.ok .next) s')
  {m0:Nat} {σ0:St} {H0:Hp} (I0:Inv Y pins σ0 H0 s) (st0:tn 0 s.heap) (fr0:∀ b∈fp,H0 b=none) (w0:W 0 m0 σ0 H0) :
  codeAny (model Y.prog Y.w) Y.A (.compLoop e d (.ref it) (.ref D) Y.env) R s:=by
 have stat:∀ {H':Hp},(∀ b∈fp,H' b=none)->∀ b∈fp,ziz Y pins H' b:=fun hn b hb=>hfp b hb _ (hn b hb)
 refine codeAny_loop rfl (fun n s'=>∃ i σ' H',Inv Y pins σ' H' s'/\tn i s'.heap/\(∀ b∈fp,H' b=none)/\W i n σ' H') (fun n s hI=>?_) m0 ⟨0,σ0,H0,I0,st0,fr0,w0⟩;rw [F.under,F.den];refine wpAny_noted ?_;rw [F.turn];obtain⟨i,σ3,H3,I3,st3,fr3,w3⟩:=hI;have lift:∀ {α:Type} {t:Sem α} {Q':α->Shared->Prop} {E:Value->Shared->Prop} {s:Shared},wpAny (model Y.prog Y.w) Y.A t Q' Y.xe s->wpAny (model Y.prog Y.w) Y.A t Q' E s:=fun h=>wpAny_mono h (fun _ _ q=>q) fun _ _ z=>by rw [hx] at z;exact z.elim
 refine wpAny_bind (wpAny_standAt (wpAny_bind ?_));rcases turn i n σ3 H3 w3 with ⟨stop,qn⟩ | ⟨go,N,hN,step⟩
 ·refine lift (thn (T.done Y rfl rfl rfl hc i pins s σ3 H3 Y.xe I3 (stat fr3) st3 stop) fun r s4 ⟨hr,I4⟩=>?_);subst hr;exact wpAny_pure (hR σ3 H3 s4 I4 qn)
 ·refine lift (thn (T.item Y rfl rfl rfl hc i pins s σ3 H3 Y.xe I3 (stat fr3) st3 go) fun r s4 ⟨u,hr,h4⟩=>?_);subst hr;refine wpAny_bind (lift (thn h4 fun _ s5 ⟨x,H5,I5,r5,y5,st5,fr5⟩=>?_));have I5':=I5.pinned (stat fr5) (T.obj _ _ st5);refine wpAny_bind (lift (thn (hg _ s5 σ3 H5 x u _ I5' r5 (step x H5 y5)) fun _ s6 ⟨σ6,H6,I6,q6⟩=>?_));refine wpAny_bind (lift (thn (ht _ s6 σ6 H6 _ I6 q6) fun ok s7 ⟨H7,I7,q7⟩=>?_));have again:∀ {σ8:St} {H8:Hp} {s8:Shared},Inv Y (pins++ze2 fp s5.heap) σ8 H8 s8->(∃ m',m'<n/\W (i+1) m' σ8 H8)->∃ m,m<n/\∃ i σ' H',Inv Y pins σ' H' s8/\tn i s8.heap/\(∀ b∈fp,H' b=none)/\W i m σ' H':=fun {σ8 H8 s8} I8 ⟨m',hm',w8⟩=>by
   refine⟨m',hm',i+1,σ8,H8,I8.unpinned,T.keep _ _ _ st5 fun b hb o e=>(I8.pin (b,o) (zpv _ (zpv _ (zby hb e)))).1,fun b hb=>?_,w8⟩;obtain⟨o,e,_⟩:=T.obj _ _ st5 b hb;exact (I8.pin (b,o) (zpv _ (zpv _ (zby hb e)))).2.1
  cases ok with
  | false=>exact wpAny_pure ⟨rfl,again I7 (hN _ _ q7)⟩
  | true =>
   refine wpAny_bind (lift (thn (hm _ s7 σ6 H7 D _ I7 q7) fun _ s8 ⟨H8,I8,q8⟩=>?_));exact wpAny_pure ⟨rfl,again I8 (hN _ _ q8)⟩
def zh4 (e:Expr) (d:Nat) (iter:Expr):Env->Addr->Sem Unit:=fun env D=>do
 let x ← eval iter env
 standAt iter.pos
 let x ← foldedSetIterable iter env x
 let _ ← runOwn (.compStart e d (← holding [x] (pyIter x)) (.ref D) env) env
def Wkn (σ σ':St):Prop:=σ.length=σ'.length/\∀ (i:Nat) v,σ[i]?=some (some v)->σ'[i]?=some (some v)
def zks (wi:TI) (g:TG) (tc:TT) (tm:TM):TM:=fun p σ H Q=>wi σ H fun J H1=>∃ W:Nat->Nat->St->Hp->Prop,(∃ m,W 0 m σ H1) /\
 ∀ i m σ' H',W i m σ' H'->(J.stop i H'/\Wkn σ σ'/\Q H')\/(J.go i H'/\∃ N:St->Hp->Prop,(∀ σ2 H2,N σ2 H2->∃ m',m'<m/\W (i+1) m' σ2 H2)/\∀ x H2,J.yld i H' x H2->g x σ' H2 fun σ3 H3=>tc σ3 H3 fun b H4 =>
   if b=true then tm p σ3 H4 (N σ3) else N σ3 H4)
theorem zg5 (F:zj2 e d tg iter ifs emit) (hc:Y.calm=true) (hx:Y.xe=fun _ _=>False) (hi:PI Y tg iter wi) (hg:PG Y tg g) (ht:PTs Y ifs tc) (hm:PM Y emit tm) (hs:∀ x,foldedSetIterable iter Y.env x=pure x):PM Y (zh4 e d iter) (zks wi g tc tm):=by
 intro pins s σ H D Q I h;unfold zh4;refine wpAny_bind (thn (hi pins s σ H _ I h) fun v s1 h1=>?_);refine wpAny_bind (wpAny_standAt ?_);rw [hs];refine wpAny_bind (wpAny_pure ?_);refine wpAny_bind (wpAny_holding (thn h1 fun itv s2 h2=>?_));obtain⟨it,fp,tn,J,H2,e2,I2,T,st2,f2,W,⟨m0,w0⟩,turn⟩:=h2;subst e2;refine wpAny_bind (wpAny_runOwn ?_);have loop:codeAny (model Y.prog Y.w) Y.A (.compLoop e d (.ref it) (.ref D) Y.env) (fun r s'=>match r with | .ok f=>wpAny (model Y.prog Y.w) Y.A (pure ()) (fun _ s'=>∃ H',Inv Y pins σ H' s'/\Q H') Y.xe s' | .error x=>cameBackBy (model Y.prog Y.w) Y.A Y.env Y.xe x s') s2 :=
  zh7 F hc hx hg ht hm T (fun b hb H' hn=>⟨hn,(f2 b hb).2⟩) W (Q:=fun σ' H'=>Wkn σ σ'/\Q H') turn (fun σ' H' s' I' ⟨wk,q⟩=>wpAny_pure ⟨H',I'.weak wk.1 wk.2,q⟩) I2 st2 (fun b hb=>(f2 b hb).1) w0
 exact F.start _ _ _ _ _ _ _ _ loop (T.self _ _ _ _ _ st2 loop)
end
theorem zcg {prog:Program} {w:World} {A:Around} {R:Result->Shared->Prop} {s:Shared} {elt:Expr} {gs:List Comprehension} {sc:Scope} {pos:Pos} {d:Nat} {it acc:Value} {env:Env} {g0:Comprehension} (hd:gs[d]?=some g0) (ha:g0.is_async=0)
  (h0:codeAny (model prog w) A (.compLoop (.ListComp elt gs sc pos) d it acc env) R s)
  (h:wpAny (model prog w) A (pyIter it) (fun it' s'=>codeAny (model prog w) A (.compLoop (.ListComp elt gs sc pos) d it' acc env) R s') (notedBy (model prog w) A env fun x s'=>R (.error x) s') s) :
  codeAny (model prog w) A (.compStart (.ListComp elt gs sc pos) d it acc env) R s:=by
 refine codeAny_of_tree ?_;show wpAny _ _ ((compStart (.ListComp elt gs sc pos) d it acc env).onRaise (fun x=>do noteFrame x env;standAt theWindowsPlace)) _ _ s;refine wpAny_notedAt ?_;unfold compStart;have hcl:(clausesOf (.ListComp elt gs sc pos))[d]?=some g0:=hd;rw [hcl];have hz:((some g0:Option Comprehension).elim false fun x=>x.is_async != 0)=false:=by
  show (g0.is_async != 0)=false;rw [ha]
  rfl
 rw [hz];simp only [Bool.false_eq_true,if_false];refine wpAny_bind (wpAny_askSetting (wpAny_ite ?_));split
 ·first
   | exact wpAny_pure ⟨rfl,h0⟩
   | exact wpAny_bind (wpAny_pure (wpAny_pure ⟨rfl,h0⟩))
 ·refine wpAny_bind (wpAny_rule ?_);refine wpAny_bind (wpAny_standAt ?_);exact wpAny_bind (wpAny_mono h (fun it' s' q=>wpAny_pure ⟨rfl,q⟩) fun _ _ z=>z)
theorem zeT {elt tg iter tg2 iter2:Expr} {ifs ifs2:List Expr} {more:List Comprehension} {sc:Scope} {pos:Pos} :
  zbW (.ListComp elt (⟨tg,iter,ifs,0⟩::⟨tg2,iter2,ifs2,0⟩::more) sc pos) tg iter ifs (zh4 (.ListComp elt (⟨tg,iter,ifs,0⟩::⟨tg2,iter2,ifs2,0⟩::more) sc pos) 1 iter2) :=
 ⟨⟨_,rfl⟩,fun _ _ _ _=>rfl,fun _ _ _ _ _=>rfl,fun it D env=>by
  unfold compTurn zh4;simp only [List.getElem?_cons_zero,List.getElem?_cons_succ,bind_assoc,pure_bind]
  rfl,fun _ _ _ _ _ _ _ _ h0 h=>zcg rfl rfl h0 h⟩
theorem zeS {elt tg2 iter2:Expr} {ifs2:List Expr} {gs:List Comprehension} {sc:Scope} {pos:Pos} {d:Nat} (hd:gs[d]?=some ⟨tg2,iter2,ifs2,0⟩) (hl:gs[d+1]?=none) :
  zj2 (.ListComp elt gs sc pos) d tg2 iter2 ifs2 (zkd elt) :=
 ⟨fun _ _ _ _=>rfl,fun _ _ _ _ _=>rfl,fun it D env=>by
  unfold compTurn;simp only [hd,hl]
  rfl,fun _ _ _ _ _ _ _ _ h0 h=>zcg hd rfl h0 h⟩
theorem zi9 {elt tg2 iter2 tg3 iter3:Expr} {ifs2 ifs3:List Expr} {gs:List Comprehension} {sc:Scope} {pos:Pos} {d:Nat} (hd:gs[d]?=some ⟨tg2,iter2,ifs2,0⟩) (hl:gs[d+1]?=some ⟨tg3,iter3,ifs3,0⟩) :
  zj2 (.ListComp elt gs sc pos) d tg2 iter2 ifs2 (zh4 (.ListComp elt gs sc pos) (d+1) iter3) :=
 ⟨fun _ _ _ _=>rfl,fun _ _ _ _ _=>rfl,fun it D env=>by
  unfold compTurn zh4;simp only [hd,hl,bind_assoc,pure_bind]
  rfl,fun _ _ _ _ _ _ _ _ h0 h=>zcg hd rfl h0 h⟩
def tLC2 (wi:TI) (n:Nat) (fr:List Nat) (g:TG) (tc:TT) (tm:TM):TE:=fun σ H Q=>zfg (.lst []) wi n fr g tc tm σ H fun p H'=>Q (.ref p) H'
section
variable {X:Cx} {sc:Scope} {own:List Str} {fr:List Nat} {elt tg iter tg2 iter2 tg3 iter3:Expr} {ifs ifs2 ifs3:List Expr} {wi wi2 wi3:TI} {g g2 g3:TG} {tc tc2 tc3:TT} {te:TE} {pos:Pos}
theorem znn (hc:X.calm=true) (S:zaI X sc fr) (hi:PI X tg iter wi)
  (hg:∀ C s₀ H₀ fp,PG (zav X sc own fr C s₀ H₀ fp) tg g) (ht:∀ C s₀ H₀ fp,PTs (zav X sc own fr C s₀ H₀ fp) ifs tc)
  (hi2:∀ C s₀ H₀ fp,PI (zav X sc own fr C s₀ H₀ fp) tg2 iter2 wi2) (hg2:∀ C s₀ H₀ fp,PG (zav X sc own fr C s₀ H₀ fp) tg2 g2) (ht2:∀ C s₀ H₀ fp,PTs (zav X sc own fr C s₀ H₀ fp) ifs2 tc2)
  (he:∀ C s₀ H₀ fp,PE (zav X sc own fr C s₀ H₀ fp) elt te)
  (hs:∀ x,foldedSetIterable iter X.env x=pure x:=by intro _;rfl) (hs2:∀ (env:Env) x,foldedSetIterable iter2 env x=pure x:=by intro _ _;rfl) :
  PE X (.ListComp elt [⟨tg,iter,ifs,0⟩,⟨tg2,iter2,ifs2,0⟩] sc pos) (tLC2 wi own.length fr g tc (zks wi2 g2 tc2 (znW te))):=by
 intro pins s σ H Q I h;rw [eval_ListComp];exact zcC zeT hc S hi zdk hg ht (fun _ _ _ _=>zg5 (zeS rfl rfl) hc rfl (hi2 _ _ _ _) (hg2 _ _ _ _) (ht2 _ _ _ _) (zfJ (he _ _ _ _)) (hs2 _)) hs I h
theorem zno (hc:X.calm=true) (S:zaI X sc fr) (hi:PI X tg iter wi)
  (hg:∀ C s₀ H₀ fp,PG (zav X sc own fr C s₀ H₀ fp) tg g) (ht:∀ C s₀ H₀ fp,PTs (zav X sc own fr C s₀ H₀ fp) ifs tc)
  (hi2:∀ C s₀ H₀ fp,PI (zav X sc own fr C s₀ H₀ fp) tg2 iter2 wi2) (hg2:∀ C s₀ H₀ fp,PG (zav X sc own fr C s₀ H₀ fp) tg2 g2) (ht2:∀ C s₀ H₀ fp,PTs (zav X sc own fr C s₀ H₀ fp) ifs2 tc2)
  (hi3:∀ C s₀ H₀ fp,PI (zav X sc own fr C s₀ H₀ fp) tg3 iter3 wi3) (hg3:∀ C s₀ H₀ fp,PG (zav X sc own fr C s₀ H₀ fp) tg3 g3) (ht3:∀ C s₀ H₀ fp,PTs (zav X sc own fr C s₀ H₀ fp) ifs3 tc3)
  (he:∀ C s₀ H₀ fp,PE (zav X sc own fr C s₀ H₀ fp) elt te)
  (hs:∀ x,foldedSetIterable iter X.env x=pure x:=by intro _;rfl) (hs2:∀ (env:Env) x,foldedSetIterable iter2 env x=pure x:=by intro _ _;rfl) (hs3:∀ (env:Env) x,foldedSetIterable iter3 env x=pure x:=by intro _ _;rfl) :
  PE X (.ListComp elt [⟨tg,iter,ifs,0⟩,⟨tg2,iter2,ifs2,0⟩,⟨tg3,iter3,ifs3,0⟩] sc pos) (tLC2 wi own.length fr g tc (zks wi2 g2 tc2 (zks wi3 g3 tc3 (znW te)))):=by
 intro pins s σ H Q I h;rw [eval_ListComp];exact zcC zeT hc S hi zdk hg ht (fun _ _ _ _=>zg5 (zi9 rfl rfl) hc rfl (hi2 _ _ _ _) (hg2 _ _ _ _) (ht2 _ _ _ _) (zg5 (zeS rfl rfl) hc rfl (hi3 _ _ _ _) (hg3 _ _ _ _) (ht3 _ _ _ _) (zfJ (he _ _ _ _)) (hs3 _)) (hs2 _)) hs I h
end
end L2
end
section
namespace L2
open PySem PySem.Spec PyProof.Rows PySem.W
section
variable {X:Cx}
end
section
variable {prog:Program} {w:World} {A:Around} {E:Value->Shared->Prop} {s:Shared}
end
section
variable {X:Cx} {K:PySem.W.Frag}
theorem zkH {a:Expr} {ta:TA} {p pos:Pos} {elts:List Expr} {x1:Nat} {tp:Pos} (hK:X.K=K) (hg:Gl X "enumerate") (hm:X.mg "enumerate"=none) (ha:PA X [a] ta) (hs:starEach [a] X.env=[(false,eval a X.env)]:=by rfl):PI X (.Tuple elts x1 tp) (.Call (.Name "enumerate" p) [a] [] pos) (zmW K ta):=by
 subst hK;exact zel hg hm ha hs
end
section
variable {K:PySem.W.Frag} {a:Addr} {xs:List V} {g:TG} {tc:TT} {tm:TM} {σ:St} {H:Hp} {p:Addr} {Q:Hp->Prop}
theorem zjt (Pv:Nat->St->Hp->Prop) (h0:Pv 0 σ H) (hl:∀ i σ H,i<=xs.length->Pv i σ H->SqL K H a xs)
  (hs:∀ i x σ H pp,xs[i]?=some x->Pv i σ H->H pp=none->g (.ref pp) σ (upd H pp (.tup [.int i,x])) fun σ3 H3=>tc σ3 H3 fun b H4=>if b=true then tm p σ3 H4 (Pv (i+1) σ3) else Pv (i+1) σ3 H4) (hd:∀ σ' H',Pv xs.length σ' H'->Wkn σ σ'/\Q H') :
  ∃ W:Nat->Nat->St->Hp->Prop,(∃ m,W 0 m σ H) /\
  ∀ i m σ' H',W i m σ' H'->((Ite K a).stop i H'/\Wkn σ σ'/\Q H')\/((Ite K a).go i H'/\∃ N:St->Hp->Prop,(∀ σ2 H2,N σ2 H2->∃ m',m'<m/\W (i+1) m' σ2 H2)/\∀ x H2,(Ite K a).yld i H' x H2->g x σ' H2 fun σ3 H3=>tc σ3 H3 fun b H4 =>
   if b=true then tm p σ3 H4 (N σ3) else N σ3 H4):=by
 refine⟨fun i m σ H=>m=xs.length-i/\i<=xs.length/\Pv i σ H,⟨xs.length,by simp,Nat.zero_le _,h0⟩,?_⟩;rintro i m σ' H' ⟨rfl,hi,pv⟩;have q:=hl i σ' H' hi pv;by_cases hlt:i<xs.length
 ·refine .inr ⟨⟨xs,xs[i],q,by simp [hlt]⟩,Pv (i+1),fun σ2 H2 p'=>⟨xs.length-(i+1),by omega,rfl,hlt,p'⟩,fun x H2 y=>?_⟩;obtain⟨pp,z,hn,rfl,rfl,hy⟩:=y;exact hs i z σ' H' pp (hy xs q) pv hn
 ·have e:i=xs.length:=by omega
  subst e;exact .inl ⟨⟨xs,q,zpd _⟩,hd σ' H' pv⟩
theorem ziM (Pv:Nat->St->Hp->Prop) (h0:Pv 0 σ H) (hl:∀ i σ H,i<=xs.length->Pv i σ H->SqL K H a xs)
  (hs:∀ i x σ H pp,xs[i]?=some x->Pv i σ H->H pp=none->g (.ref pp) σ (upd H pp (.tup [.int i,x])) fun σ3 H3=>tc σ3 H3 fun b H4=>if b=true then tm p σ3 H4 (Pv (i+1) σ3) else Pv (i+1) σ3 H4) (hd:∀ σ' H',Pv xs.length σ' H'->Q H') :
  ∃ W:Nat->Nat->St->Hp->Prop,(∃ m,W 0 m σ H) /\
  ∀ i m σ' H',W i m σ' H'->((Ite K a).stop i H'/\Q H')\/((Ite K a).go i H'/\∃ N:St->Hp->Prop,(∀ σ2 H2,N σ2 H2->∃ m',m'<m/\W (i+1) m' σ2 H2)/\∀ x H2,(Ite K a).yld i H' x H2->g x σ' H2 fun σ3 H3=>tc σ3 H3 fun b H4 =>
   if b=true then tm p σ3 H4 (N σ3) else N σ3 H4):=by
 refine⟨fun i m σ H=>m=xs.length-i/\i<=xs.length/\Pv i σ H,⟨xs.length,by simp,Nat.zero_le _,h0⟩,?_⟩;rintro i m σ' H' ⟨rfl,hi,pv⟩;have q:=hl i σ' H' hi pv;by_cases hlt:i<xs.length
 ·refine .inr ⟨⟨xs,xs[i],q,by simp [hlt]⟩,Pv (i+1),fun σ2 H2 p'=>⟨xs.length-(i+1),by omega,rfl,hlt,p'⟩,fun x H2 y=>?_⟩;obtain⟨pp,z,hn,rfl,rfl,hy⟩:=y;exact hs i z σ' H' pp (hy xs q) pv hn
 ·have e:i=xs.length:=by omega
  subst e;exact .inl ⟨⟨xs,q,zpd _⟩,hd σ' H' pv⟩
theorem zkw (Pv:Nat->St->Hp->Prop) (h0:Pv 0 σ H) (hl:∀ i σ H,i<=xs.length->Pv i σ H->SqT K H a xs)
  (hs:∀ i x σ H,xs[i]?=some x->Pv i σ H->g x σ H fun σ3 H3=>tc σ3 H3 fun b H4=>if b=true then tm p σ3 H4 (Pv (i+1) σ3) else Pv (i+1) σ3 H4) (hd:∀ σ' H',Pv xs.length σ' H'->Wkn σ σ'/\Q H') :
  ∃ W:Nat->Nat->St->Hp->Prop,(∃ m,W 0 m σ H) /\
  ∀ i m σ' H',W i m σ' H'->((Itt K a).stop i H'/\Wkn σ σ'/\Q H')\/((Itt K a).go i H'/\∃ N:St->Hp->Prop,(∀ σ2 H2,N σ2 H2->∃ m',m'<m/\W (i+1) m' σ2 H2)/\∀ x H2,(Itt K a).yld i H' x H2->g x σ' H2 fun σ3 H3=>tc σ3 H3 fun b H4 =>
   if b=true then tm p σ3 H4 (N σ3) else N σ3 H4):=by
 refine⟨fun i m σ H=>m=xs.length-i/\i<=xs.length/\Pv i σ H,⟨xs.length,by simp,Nat.zero_le _,h0⟩,?_⟩;rintro i m σ' H' ⟨rfl,hi,pv⟩;have q:=hl i σ' H' hi pv;by_cases hlt:i<xs.length
 ·refine .inr ⟨⟨xs,xs[i],q,by simp [hlt]⟩,Pv (i+1),fun σ2 H2 p'=>⟨xs.length-(i+1),by omega,rfl,hlt,p'⟩,fun x H2 y=>?_⟩;obtain⟨e,y⟩:=y;subst e;exact hs i x σ' _ (y xs q) pv
 ·have e:i=xs.length:=by omega
  subst e;exact .inl ⟨⟨xs,q,zpd _⟩,hd σ' H' pv⟩
theorem zie {lo:Int} {n:Nat} (Pv:Nat->St->Hp->Prop) (h0:Pv 0 σ H)
  (hs:∀ i σ H,i<n->Pv i σ H->g (.int (lo+i)) σ H fun σ3 H3=>tc σ3 H3 fun b H4=>if b=true then tm p σ3 H4 (Pv (i+1) σ3) else Pv (i+1) σ3 H4) (hd:∀ σ' H',Pv n σ' H'->Wkn σ σ'/\Q H') :
  ∃ W:Nat->Nat->St->Hp->Prop,(∃ m,W 0 m σ H) /\
  ∀ i m σ' H',W i m σ' H'->((Itr lo n).stop i H'/\Wkn σ σ'/\Q H')\/((Itr lo n).go i H'/\∃ N:St->Hp->Prop,(∀ σ2 H2,N σ2 H2->∃ m',m'<m/\W (i+1) m' σ2 H2)/\∀ x H2,(Itr lo n).yld i H' x H2->g x σ' H2 fun σ3 H3=>tc σ3 H3 fun b H4 =>
   if b=true then tm p σ3 H4 (N σ3) else N σ3 H4):=by
 refine⟨fun i m σ H=>m=n-i/\i<=n/\Pv i σ H,⟨n,by simp,Nat.zero_le _,h0⟩,?_⟩;rintro i m σ' H' ⟨rfl,hi,pv⟩;by_cases hlt:i<n
 ·refine .inr ⟨hlt,Pv (i+1),fun σ2 H2 p'=>⟨n-(i+1),by omega,rfl,hlt,p'⟩,fun x H2 y=>?_⟩;obtain⟨e,y⟩:=y;subst e y;exact hs i σ' _ hlt pv
 ·have e:i=n:=by omega
  subst e;exact .inl ⟨zpd _,hd σ' H' pv⟩
end
end L2
end
section
namespace L2
open PySem PySem.Spec PyProof.Rows PySem.W
noncomputable instance:DecidableEq NK:=fun a b=>Classical.propDecidable (a=b)
section
variable {prog:Program} {w:World} {E:Value->Shared->Prop}
end
section
variable {X:Cx} {pos:Pos}
end
end L2
end
section
set_option autoImplicit true
open PySem
namespace L2
theorem zgr {ks:Mk2} {p q s:Int} (h:q≠p):zbh (zdv ks p s) q=zbh ks q:=by
 unfold zdv zbh;split
 ·congr 1
  induction ks with
  | nil=>rfl
  | cons a ks ih =>
   rename_i hx;by_cases c:a.1=p
   ·have c':a.1≠q:=fun e=>h (e.symm.trans c)
    rw [zpq,zpC c,List.find?_cons_of_neg (by simpa using c'),List.find?_cons_of_neg (by simpa using c')];by_cases hk:(ks.any fun q=>decide (q.1=p))=true
    ·exact ih hk
    ·have:ks.map (fun q=>if q.1=p then (q.1,s) else q)=ks:=by
      rw [zpM (g:=id),List.map_id];intro b hb;rw [zpB];· rfl
      intro e;exact hk (List.any_eq_true.2 ⟨b,hb,by simpa using e⟩)
     rw [this]
   ·rw [zpq,zpB c];have hk:(ks.any fun q=>decide (q.1=p))=true:=by simpa [c] using hx
    by_cases c2:a.1=q
    ·rw [List.find?_cons_of_pos (by simpa using c2),List.find?_cons_of_pos (by simpa using c2)]
    ·rw [List.find?_cons_of_neg (by simpa using c2),List.find?_cons_of_neg (by simpa using c2)];exact ih hk
 ·rw [List.find?_append];cases ks.find? fun q'=>decide (q'.1=q) with
  | some v=>rfl
  | none=>rw [Option.none_or,List.find?_cons_of_neg (by simpa using h.symm)];rfl
theorem zh3 {ks:Mk2} {p q:Int} (h:q≠p):zbh (zd5 ks p) q=zbh ks q:=by
 unfold zd5 zbh
 congr 1
 induction ks with
 | nil=>rfl
 | cons a ks ih =>
  by_cases c:a.1=p
  ·have c':a.1≠q:=fun e=>h (e.symm.trans c)
   rw [List.filter_cons_of_neg (by simpa using c),List.find?_cons_of_neg (by simpa using c')];exact ih
  ·rw [List.filter_cons_of_pos (by simpa using c)];by_cases c2:a.1=q
   ·rw [List.find?_cons_of_pos (by simpa using c2),List.find?_cons_of_pos (by simpa using c2)]
   ·rw [List.find?_cons_of_neg (by simpa using c2),List.find?_cons_of_neg (by simpa using c2)];exact ih
theorem zlT (ks:Mk2) (p q s:Int):(zbh (nxt ks p s) q).getD 0=if q=p then s else (zbh ks q).getD 0:=by
 unfold nxt;by_cases c:q=p
 ·subst c;rw [zpC rfl];split
  ·rename_i e;rw [zkc,e];rfl
  ·rw [zjL];rfl
 ·rw [zpB c];split
  ·rw [zh3 c]
  ·rw [zgr c]
end L2
end
section
namespace L2
open PySem PySem.Spec PyProof.Rows PySem.W
section
variable {prog:Program} {w:World} {A:Around} {E:Value->Shared->Prop} {s:Shared} {es:Array DictEntry} {ep:Nat}
end
section
variable {X:Cx} {pos:Pos}
end
end L2
end
section
namespace L2
open PySem PySem.Spec PyProof.Rows PySem.W
section
open PySem.SeqAt
open PySem.AutoSeq1 (wpAny_loadPart')
open PySem.MeetsSeq PySem.MeetsSeq2 PySem.MeetsSeq3
end
section
variable {prog:Program} {w:World} {A:Around} {E:Value->Shared->Prop} {s:Shared}
end
end L2
end
section
namespace PySem
open Sem (wp)
section
variable {prog:Program} {w:World} {A:Around} {E:Value->Shared->Prop} {h:Heap} {g:Array GenState} {d:Drawn} {t:Nat} {os:OsState} {a:Addr} {o:Obj} {its:Array Value} {n:Nat}
end
end PySem
namespace L2
open PySem PySem.Spec PyProof.Rows PySem.W
section
variable {prog:Program} {w:World} {K:Type} [DecidableEq K] {knd:PySem.KeyKind prog w K} {A:Around} {s:Shared} {R:Result->Shared->Prop}
end
section
variable {X:Cx}
end
end L2
end
section
namespace L2
open PySem PySem.Spec PyProof.Rows PySem.W
section
variable {X:Cx}
end
end L2
end
section
namespace PySem
end PySem
namespace L2
open PySem PySem.Spec PyProof.Rows PySem.W HT
section
variable {X:Cx} {K:PySem.W.Frag}
end
end L2
end
section
set_option autoImplicit true
open PySem PySem.Spec PyProof.Rows
namespace L2
section
variable {X:Cx} {pos:Pos}
end
end L2
end
section
namespace L2
open PySem PySem.Spec PyProof.Rows PySem.W
def NZ (ks:Mk2):Prop:=∀ q∈ks,q.2≠0
theorem NZ.nxt {ks:Mk2} {p s:Int} (h:NZ ks):NZ (nxt ks p s):=by
 intro q hq;unfold L2.nxt at hq;split at hq
 ·exact h q (zhy hq)
 ·rename_i z;rcases zjK hq with rfl | hq
  ·exact z
  ·exact h q hq
theorem znD {m:Ma} {x y:St3} (h:stN m x=some y) (hx:NZ x.2.2):NZ y.2.2:=by
 unfold stN at h;split at h
 ·cases h;exact hx.nxt
 ·cases h
theorem znO {m:Ma}:∀ (k:Nat) (x:St3),NZ x.2.2->∀ y∈tr m k x,NZ y.2.2
 | 0,x,h,y,hy=>by
  rw [zo6.1 hy];exact h
 | k+1,x,h,y,hy=>by
  cases e:stN m x with
  | none=>rw [zf0 e] at hy;rw [zo6.1 hy];exact h
  | some u =>
   rw [zhm e] at hy;rcases zpG.1 hy with rfl | hy
   ·exact h
   ·exact znO k u (znD e h) y hy
abbrev s00:St3:=(0,0,[])
section
variable {X:Cx} {pins:List (Addr × Obj)} {σ:St} {H:Hp} {s:Shared}
open PySem.SeqAt
end
end L2
end
section
set_option autoImplicit true
open PySem
namespace L2
end L2
end
section
namespace L2
open PySem PySem.Spec PyProof.Rows PySem.W
theorem zgi:typeLookup (.type "list") (dunderR "add")=pure none:=by rw [typeLookup_type,builtinLookup_eq_fast];kernel_rfl
theorem zfr:fillsNumberSlot (.type "list") "add"=pure false :=
 PySem.fillsNumberSlot_seq (id:="list.__add__") (r:=none) F.slot_list_add.lookup (by decide +kernel) zgi rfl
theorem zgf {M:Model} {A:Around} {E:Value->Shared->Prop} {s:Shared} {a b:Value} {Q:Value->Shared->Prop} (ha:s.TypeIs a "list") (hb:s.TypeIs b "list")
  (hc:wpAny M A (call (.builtin "list.__iadd__") [a,b]) Q E s):wpAny M A (inplaceOp .Add a b) Q E s:=by
 refine wpAny_holding ?_;have hfi:fillsInplaceSlot (.type "list") "add" true=pure false:=by
  show (do let fi ← typeLookup (.type "list") (dunderI "add");pure (fi.isSome && !isSeqSlot fi))=(pure false:Sem Bool);rw [F.slot_list_iadd.lookup]
  have:isSeqSlot (some (.builtin "list.__iadd__"))=true:=by decide +kernel
  show (pure ((some (Value.builtin "list.__iadd__")).isSome && !isSeqSlot (some (.builtin "list.__iadd__"))):Sem Bool)=_;rw [this];rfl
 refine wpAny_bind (wpAny_typeOf ha (wpAny_bind (wpAny_of_eq hfi ?_)));show wpAny M A (if false=true then _ else _) Q E s;rw [zpB zpJ];refine wpAny_bind (wpAny_binaryOp1_none ha hb zfr (wpAny_bind (wpAny_of_eq (PySem.seqSlot_of (T:="list") (name:=dunderI "add") (id:="list.__iadd__") F.slot_list_iadd.lookup (by decide +kernel)) ?_)));exact wpAny_bind (wpAny_rule hc)
section
variable {X:Cx}
def cIpL:TIp:=fun x y H Q=>match x,y with | .ref l,.ref b=>∃ xs zs,H l=some (.lst xs)/\H b=some (.lst zs)/\xs.length+zs.length<=sizeLine/\Q (.ref l) (upd H l (.lst (xs++zs))) | _,_=>False
theorem zhD:PIp X .Add cIpL:=by
 intro pins s σ H x y v u Q I rx ry h;cases x with
 | ref l =>
  cases y with
  | ref b =>
   obtain⟨xs,zs,hH,hB,hz,q⟩:=h;cases rx;cases ry;obtain⟨z,its,n,r,hl,e⟩:=I.lstM hH;obtain⟨z2,its2,n2,r2,hl2,e2⟩:=I.lstM hB;have hsz:its.toArray.size+its2.toArray.size<=sizeLine:=by rw [zpz,zpz];omega
   have hlong:¬ (!its.toArray.isEmpty && Builtin.List.listTooLong (its.toArray.size+its2.toArray.size))=true:=by
    rw [zhI hsz,Bool.and_false];exact zpJ
   refine zgf ⟨_,e,rfl⟩ ⟨_,e2,rfl⟩ ?_;refine call_meets F.slot_list_iadd ⟨_,e,rfl⟩ F.entry_list_iadd (F.args_list_iadd_2 _ _)
    (AutoSeq1.list___iadd___list_list_0 l its.toArray n b its2.toArray n2 hlong (by rw [zpz];omega) (by omega)) ⟨e,e2,?_⟩
   refine⟨.ref l,_,I.lset (its':=its++its2) hH e (by simp) (r.append r2) ?_,rfl,q⟩;rw [zo7];omega
  | _=>exact h.elim
 | _=>exact h.elim
def zoe:V->List V->Hp->VK->Prop:=fun x vs H Q=>match x,vs with | .ref l,[]=>∃ xs y,H l=some (.lst xs)/\xs.getLast?=some y/\Q y (upd H l (.lst xs.dropLast)) | _,_=>False
theorem znv:MtR X "list.pop" zoe:=MtR.imp (r:=rPop) zna fun x vs H Q h=>by
 cases x with
 | ref l =>
  cases vs with
  | nil =>
   obtain⟨xs,y,h1,h2,q⟩:=h;rw [List.getLast?_eq_getElem?] at h2;exact⟨l,xs,y,rfl,rfl,h1,h2,q⟩
  | cons _ _=>exact h.elim
 | _=>exact h.elim
end
section
variable {X:Cx} {K:PySem.W.Frag} {e st:Expr} {te:TE} {ts:TO} {pos p2:Pos}
theorem zjE (its:List Value):slicePick its.toArray none none (some (-1))=its.reverse.toArray:=by
 unfold slicePick;have e:sliceBounds none none (some (-1)) its.toArray.size=((its.length:Int)-1,-1,-1):=rfl;rw [e];have e2:sliceRange ((its.length:Int)-1) (-1) (-1)=(List.range its.length).map fun (k:Nat)=>((its.length:Int)-1+(-1)*(k:Int)).toNat:=by
  unfold sliceRange;have h1:¬ ((-1:Int) > 0):=by omega
  have h2:(- (-1:Int))=1:=rfl;simp only [h1,if_false,h2,Int.ediv_one]
  congr 2
  split <;> omega
 show (List.filterMap (fun x=>its.toArray[x]?) (sliceRange ((its.length:Int)-1) (-1) (-1))).toArray=_;rw [e2,List.filterMap_map]
 congr 1
 have:=ze3 its.reverse
 rw [List.length_reverse] at this;refine Eq.trans (zcH fun m hm=>?_) this;have hm:=List.mem_range.1 hm;rw [List.getElem?_reverse hm];show its.toArray[_]?=_;rw [List.getElem?_toArray]
 congr 1
 show ((its.length:Int)-1+-1*(m:Int)).toNat=_;omega
def znL (K:PySem.W.Frag) (te:TE) (ts:TO):TE:=fun σ H Q=>te σ H fun x H1=>ts σ H1 fun o H2=>o=some (-1)/\match x with
 | .ref a=>∃ xs,SqL K H2 a xs/\∀ p,H2 p=none->Q (.ref p) (upd H2 p (.lst xs.reverse))
 | _=>False
theorem zl3 (he:PE X e te) (hs:PO X (some st) ts):PE X (.Subscript e (.Slice none none (some st) p2) pos) (znL X.K te ts):=by
 intro pins s σ H Q I h;refine Subscript_ (thn (he pins s σ H _ I h) fun v s1 ⟨x,H1,I1,r1,q1⟩=>?_);refine wpAny_Slice ?_;rw [evalPart_none];refine wpAny_pure (wpAny_pure (thn (hs pins s1 σ H1 _ I1 q1) fun vs s3 z=>?_));obtain⟨o,H3,I3,ps,eo,q3⟩:=z;subst eo;cases x with
 | ref a =>
  obtain⟨xs,hx,q⟩:=q3;cases ps with
  | int _ tk =>
  cases r1;have I4:Inv X pins σ H3 { s3 with heap:=s3.heap.push { cls:=.type "slice",data:=.fields #[.none,.none,.int (-1) tk] } }:=I3.kept (t':=s3.toks) fun b ob q=>zpa _ q
  obtain⟨its,r,ht,hz⟩:=I4.list hx;have hlen:=r.length;refine tail_any (ops:=[.ref a,.ref s3.heap.objs.size]) ht.isList.typeIs slot_list_getitem.lookup ?_ (by with_unfolding_all rfl);refine wpAny_getItem_list_slice ht.isList (Heap.IsSliceOf.new ..) .none .none (.int _ _) (by decide) ?_ (by rw [zpz] <;> omega);rw [zjE];refine⟨.ref _,_,I4.laid (t':=s3.toks) (o:=.lst xs.reverse) (fun b ob q=>zpa _ q) (zpd _) ?_,rfl,q _ (I4.hok.fresh (zpd _))⟩;exact⟨by rw [List.length_reverse];exact hz,_,0,r.reverse,zpy _ rfl⟩
 | _=>exact q3.elim
theorem zkF (hK:X.K=K) (he:PE X e te) (hs:PO X (some st) ts):PE X (.Subscript e (.Slice none none (some st) p2) pos) (znL K te ts):=hK ▸ zl3 he hs
end
end L2
end
section
namespace L2
open PySem PySem.Spec PyProof.Rows PySem.W
def ziv (r:Int) (es:List En):List (Int × Int × En):=es.zipIdx.map fun y=>(r,(y.2:Int),y.1)
def zbr (m:Ma):List (List (Int × Int × En)):=m.zipIdx.map fun x=>ziv x.2 x.1
def zga (m:Ma):List (Int × Int × En):=(zbr m).flatten
theorem zjR {r:Int} {es:List En} {j:Nat} {e:En} (h:es[j]?=some e):(ziv r es)[j]?=some (r,(j:Int),e):=by
 unfold ziv;rw [zoY,List.getElem?_zipIdx,h];simp
theorem zcm {m:Ma} {i:Nat} {es:List En} (h:m[i]?=some es):(zbr m)[i]?=some (ziv i es):=by
 unfold zbr;rw [zoY,List.getElem?_zipIdx,h];simp
theorem zcE (r:Int) (es:List En):(ziv r es).length=es.length:=by unfold ziv;rw [zoX,List.length_zipIdx]
theorem zaV (m:Ma):(zbr m).length=m.length:=by unfold zbr;rw [zoX,List.length_zipIdx]
theorem zdc {α:Type} {n:Nat}:∀ {xs:List (List α)},(∀ x∈xs,x.length<=n)->xs.flatten.length<=xs.length*n
 | [],_=>by simp
 | x::xs,h=>by
  have:=zdc (xs:=xs) fun y hy=>h y (zpg _ hy)
  have h1:=h x (zpw ..);rw [List.flatten_cons,zo7,zpA,Nat.succ_mul];omega
def zlo (H:Hp) (p:Addr) (x:Int × Int × En):Prop:=∃ a,H p=some (.tup [.int x.1,.int x.2.1,.ref a])/\Ent H a x.2.2
theorem zlo.keep {H H':Hp} (k:∀ a us,H a=some (.tup us)->H' a=some (.tup us)) {p:Addr} {x:Int × Int × En} (h:zlo H p x):zlo H' p x:=by
 obtain⟨a,h1,h2⟩:=h;exact⟨a,k _ _ h1,k _ _ h2⟩
end L2
end
section
namespace L2
open PySem PySem.Spec PyProof.Rows PySem.W
section
variable {X:Cx}
end
end L2
end
section
set_option autoImplicit true
open PySem PySem.Spec PyProof.Rows
namespace L2
variable {X:Cx}
end L2
end
section
set_option autoImplicit true
open PySem
namespace L2
end L2
end
section
set_option autoImplicit true
open PySem
namespace L2
end L2
end
section
namespace L2
open PySem PySem.Spec PyProof.Rows PySem.W
section
variable {X:Cx} {sc:Scope} {own:List Str} {fr:List Nat} {kx vx tg iter:Expr} {ifs:List Expr} {wi:TI} {g:TG} {tc:TT} {tk tv:TE} {pos:Pos}
end
section
variable {X:Cx} {pos:Pos}
end
section
variable {X:Cx}
end
section
variable {X:Cx} {pos:Pos} {K:PySem.W.Frag} {o i:Expr} {td ty:TE}
end
end L2
end
section
namespace L2
open PySem PySem.Spec PyProof.Rows PySem.W
section
variable {prog:Program} {w:World} {K:Type} [DecidableEq K] {knd:HeapKind prog w K} {A:Around} {E:Value->Shared->Prop} {s:Shared} {d a:Addr} {xs:List (K × Addr × Value)} {k:K} {v:Value} {Q:Unit->Shared->Prop}
end
section
variable {X:Cx} {pos:Pos}
end
section
variable {X:Cx}
end
end L2
end
section
namespace L2
open PySem PySem.Spec PyProof.Rows PySem.W
end L2
end
section
set_option autoImplicit true
open PySem PySem.Spec PyProof.Rows
namespace L2
section
variable {X:Cx} {pos:Pos}
def zmK (K:PySem.W.Frag) (tl:TE):TI:=fun σ H R=>tl σ H fun x H1=>match x with | .ref a=>((∃ xs,SqL K H1 a xs)/\R (Itl K a) H1)\/((∃ xs,SqT K H1 a xs)/\R (Itt K a) H1) | _=>False
theorem znA {tg l:Expr} {tl:TE} (hl:PE X l tl):PI X tg l (zmK X.K tl):=by
 intro pins s σ H R I h;refine thn (hl pins s σ H _ I h) fun v s1 ⟨x,H1,I1,r1,q1⟩=>?_
 obtain⟨a,rfl,q⟩:∃ a,x=.ref a/\(((∃ xs,SqL X.K H1 a xs)/\R (Itl X.K a) H1)\/((∃ xs,SqT X.K H1 a xs)/\R (Itt X.K a) H1)):=by
  dsimp only at q1;split at q1
  ·exact⟨_,rfl,q1⟩
  ·exact q1.elim
 cases r1;rcases q with ⟨⟨xs,hq⟩,q⟩ | ⟨⟨xs,hq⟩,q⟩
 ·obtain⟨its,rv,p,hz⟩:=I1.list hq;refine wpAny_pyIter_list p.isList ?_;refine⟨s1.heap.objs.size,[s1.heap.objs.size],_,_,H1,rfl,I1.kept (t':=s1.toks) fun b o e=>zpa _ e,zgA a _,⟨_,zpy _ rfl,rfl,rfl⟩,fun b hb=>?_,q⟩;have e:b=s1.heap.objs.size:=by simpa using hb
  subst e;exact I1.fpOk (zpd _) (I1.hok.fresh (zpd _))
 ·obtain⟨its,rv,p,hz⟩:=I1.tuple hq;refine wpAny_pyIter_tuple (show s1.heap.IsTuple a its.toArray from p) ?_;refine⟨s1.heap.objs.size,[s1.heap.objs.size],_,_,H1,rfl,I1.kept (t':=s1.toks) fun b o e=>zpa _ e,zfi a _,⟨_,zpy _ rfl,rfl,rfl⟩,fun b hb=>?_,q⟩;have e:b=s1.heap.objs.size:=by simpa using hb
  subst e;exact I1.fpOk (zpd _) (I1.hok.fresh (zpd _))
theorem zdD {K:PySem.W.Frag} {tg l:Expr} {tl:TE} (hK:X.K=K) (hl:PE X l tl):PI X tg l (zmK K tl):=hK ▸ znA hl
end
end L2
end
section
namespace L2
open PySem PySem.Spec PyProof.Rows PySem.W
section
open PySem.SeqAt
open PySem.AutoSeq1 (wpAny_loadPart')
open PySem.MeetsSeq PySem.MeetsSeq2 PySem.MeetsSeq3
end
section
variable {X:Cx}
end
end L2
end
section
set_option autoImplicit true
namespace L2
open PySem PySem.Spec PyProof.Rows PySem.W
section
variable {X:Cx}
end
end L2
end
section
set_option autoImplicit true
namespace L2
open PySem PySem.Spec PyProof.Rows PySem.W
section
variable {X:Cx}
abbrev DnL (H:Hp) (rs:List Addr) (ds:List DD):Prop:=zba (fun a e=>Den H (.ref a) e) rs ds
theorem zmX {r:Nat} (hr:zcW r X.A) {pins:List (Addr × Obj)} {σ:St} {H:Hp} {s:Shared} {x:V} {v:Value} {d:DD} {rs:List Addr} {ds:List DD} (I:Inv X pins σ H s) (rx:zaW x v) (hx:Den H x d) (hA:DnL H rs ds) (hd:∀ e∈ds,dep e<=50) :
  ∃ f:Value->Bool,(∀ y,y∈(rs.map Value.ref).toArray->SeqAt.EqAt X.A.in1 s y v (f y))/\∀ (i:Nat) a e,rs[i]?=some a->ds[i]?=some e->f (.ref a)=eqD e d:=by
 let f:Value->Bool:=fun u=>match u with
  | .ref a=>@decide (∃ e,Den H (.ref a) e/\eqD e d=true) (Classical.propDecidable _)
  | _=>false
 have hf:∀ a e,Den H (.ref a) e->f (.ref a)=eqD e d:=fun a e he=>by
  show @decide (∃ e,Den H (.ref a) e/\eqD e d=true) (Classical.propDecidable _)=_;cases c:eqD e d with
  | true=>exact @zo3 _ (Classical.propDecidable _) ⟨e,he,c⟩
  | false =>
   refine @zo4 _ (Classical.propDecidable _) fun ⟨e',h1,h2⟩=>?_
   rw [Den.inj e' e h1 he,c] at h2;cases h2
 refine⟨f,fun y hy=>?_,fun i a e ha he=>hf a e (hA.2 i a e ha he)⟩;obtain⟨i,hi⟩:=List.getElem?_of_mem (show y∈rs.map Value.ref by simpa using hy);rw [zoY] at hi;obtain⟨a,ha,rfl⟩:=zo0.1 hi;obtain⟨e,he,hde⟩:=hA.at ha;rw [hf a e hde];have hu:=hr.units;exact (zi1 I 50 e d X.A.in1 (.ref a) x _ _ (hd e (zo2 he)) hde hx rfl rx (by show X.A.units+1+50<cLine;omega)).1
theorem zn3 {f:Value->Bool} {rs:List Addr} {ds:List DD} {d:DD} (hl:rs.length=ds.length) (h:∀ (i:Nat) a e,rs[i]?=some a->ds[i]?=some e->f (.ref a)=eqD e d):(rs.map Value.ref).toArray.any f=ds.any fun e=>eqD e d:=by
 rw [List.any_toArray,List.any_map];rw [Bool.eq_iff_iff,List.any_eq_true,List.any_eq_true]
 constructor
 ·rintro ⟨a,ha,h1⟩;obtain⟨i,hi⟩:=List.getElem?_of_mem ha;have hil:=(zo1.1 hi).1;have he:ds[i]?=some (ds[i]'(by omega)):=zoZ _;exact⟨_,zo2 he,by rw [← h i a _ hi he];exact h1⟩
 ·rintro ⟨e,he,h1⟩;obtain⟨i,hi⟩:=List.getElem?_of_mem he;have hil:=(zo1.1 hi).1;have ha:rs[i]?=some (rs[i]'(by omega)):=zoZ _;exact⟨_,zo2 ha,(h i _ e ha hi).trans h1⟩
def cInL (neg:Bool):R2:=fun x y H Q=>match y with
 | .ref p=>∃ (rs:List Addr) (ds:List DD) (d:DD),H p=some (.lst (rs.map V.ref))/\DnL H rs ds/\Den H x d/\(∀ e∈ds,dep e<=50)/\Q (.bl (if neg then !(ds.any fun e=>eqD e d) else ds.any fun e=>eqD e d)) H
 | _=>False
theorem zjB {r:Nat} (hr:zcW r X.A):OpR X (compareOp .NotIn) (cInL true):=by
 intro pins s σ H x y v u Q I rx ry h;unfold cInL at h;split at h
 ·rename_i p;obtain⟨rs,ds,d,hp,hA,hx,hd,q⟩:=h;cases ry;obtain⟨its,rv,pl,hz⟩:=I.list (.inl (.inl hp));cases zj0 rv;obtain⟨f,h1,h2⟩:=zmX hr I rx hx hA hd;refine SeqAt.notIn_listAt f pl.isList h1 ⟨.bl _,H,I,rfl,?_⟩;rw [zn3 hA.1 h2];exact q
 ·exact h.elim
end
end L2
end
section
namespace L2
open PySem PySem.Spec PyProof.Rows PySem.W
section
variable {X:Cx} {K:PySem.W.Frag}
def zlx (K:PySem.W.Frag):List V->Hp->VK->Prop:=fun xs H Q=>match xs with | [.ref a]=>∃ ns:List Int,SqL K H a (ns.map V.int)/\Q (.int ns.sum) H | _=>False
theorem zny (hc:X.calm=true):zbm X (.builtin "sum") (zlx X.K):=by
 intro pins s σ H xs us Q I r h;unfold zlx at h;split at h
 ·rename_i a;obtain⟨ns,hx,q⟩:=h;cases r with
  | cons r rr =>
  cases rr;cases r;obtain⟨its,rv,pl,hz⟩:=I.list hx;have hi:IntsAre its ns:=zdA rv;obtain⟨ys,e⟩:=hi.allInts.items;have hns:ys.toList.map (·.1)=ns:=by
   rw [← nums_intItems,← e];exact (show numsOf its.toArray.toList=ns from hi.numsOf)
  have hl:=pl.isList;rw [e] at hl;refine sum_intListG (I.ok.hd hc) hl fun h' tk t' hk=>?_
  refine⟨.int _,H,I.kept (t':=tk) hk,⟨t',rfl⟩,?_⟩;rw [preSum_eq,List.take_of_length_le (by simp),hns];exact q
 ·exact h.elim
theorem zmd (hK:X.K=K) (hc:X.calm=true):zbm X (.builtin "sum") (zlx K):=hK ▸ zny hc
end
end L2
end
section
set_option autoImplicit true
open PySem PySem.Spec PyProof.Rows
namespace L2
section
variable {X:Cx} {pos:Pos}
end
end L2
end
namespace Law
open PySem PySem.Spec PyProof.Rows L2
local macro_rules | `(tactic| walk_at "o") => `(tactic| first | exact Or.inl rfl | exact Or.inr rfl)
local macro_rules | `(tactic| walk_at "w") => `(tactic| conv => whnf)
local macro_rules | `(tactic| walk_at "hp") => `(tactic| (repeat (first | assumption | exact zad | refine zm3 ?_ (by assumption))))
local macro_rules | `(tactic| walk_at "frees") => `(tactic| (repeat ((conv => whnf); first | exact True.intro | refine ⟨Or.inl rfl, ?_⟩ | refine ⟨Or.inr rfl, ?_⟩ | refine ⟨⟨rfl, Or.inl rfl⟩, ?_⟩ | refine ⟨⟨rfl, Or.inr rfl⟩, ?_⟩)))
local macro_rules | `(tactic| walk_at "s") => `(tactic| exact ⟨rfl, rfl, rfl, by decide +kernel, rfl, by decide +kernel, by decide +kernel⟩)
local macro_rules | `(tactic| walk_at "comp_ok") => `(tactic| exact ⟨rfl, by decide +kernel, by decide +kernel, by walk_at "frees", by walk_at "frees"⟩)
def top (i:Nat):Stmt:=PySem.Challenge.pw_endnever_k60_greatest_and_fullest.main.body.getD i (.Pass ⟨0,0,0,0⟩)
abbrev zeo:Stmt:=top 38
abbrev zfO:Stmt:=top 40
abbrev zeq:Stmt:=top 39
abbrev zdG:Stmt:=top 10
abbrev zfM:Stmt:=top 11
abbrev zcq:Stmt:=top 12
abbrev zbN:Stmt:=top 13
abbrev zbD:Stmt:=zdz (top 8) 0
abbrev zc1:Stmt:=zdz (top 8) 1
abbrev zcn:Stmt:=zdz (top 8) 2
abbrev zc2:Stmt:=zdz (top 8) 4
abbrev zc3:Stmt:=zdz (top 8) 3
abbrev zco:Stmt:=zdz (top 8) 5
abbrev zb3:Stmt:=top 9
abbrev zg9:Stmt:=top 15
abbrev zmk:Stmt:=top 16
abbrev zhb:Stmt:=top 17
abbrev zcp:Stmt:=top 19
abbrev zc5:Stmt:=top 23
abbrev zbE:Stmt:=top 24
abbrev zbL:Stmt:=top 25
abbrev zb5:Stmt:=top 26
abbrev zcs:Stmt:=top 27
abbrev zb4:Stmt:=top 28
abbrev zct:Stmt:=top 29
abbrev zfL:Stmt:=top 30
abbrev zc4:Stmt:=top 31
abbrev zb2:Stmt:=top 33
abbrev zdE:Stmt:=top 34
abbrev zdF:Stmt:=top 35
abbrev zem:Stmt:=top 36
abbrev zbn:Stmt:=top 42
abbrev zha:Stmt:=top 43
abbrev zcr:Stmt:=top 44
abbrev zep:Stmt:=top 45
abbrev zen:Stmt:=top 46
abbrev zfN:Stmt:=top 47
abbrev zaY:Stmt:=top 41
abbrev zbM:Stmt:=top 48
abbrev zmj:Stmt:=top 49
theorem us0 {P:List Value->Prop} (h:Unit->P []):∀ us:List Value,us.length=0->P us
 | [],_=>h ()
theorem us1 {P:List Value->Prop} (h:∀ v0,P [v0]):∀ us:List Value,us.length=1->P us
 | [v0],_=>h v0
theorem us2 {P:List Value->Prop} (h:∀ v0 v1,P [v0,v1]):∀ us:List Value,us.length=2->P us
 | [v0,v1],_=>h v0 v1
theorem us3 {P:List Value->Prop} (h:∀ v0 v1 v2,P [v0,v1,v2]):∀ us:List Value,us.length=3->P us
 | [v0,v1,v2],_=>h v0 v1 v2
structure FQ (K:PySem.W.Frag) (n q:Str) (st:Stmt) (x:Addr) (d:FuncData) (ps:List Str):Prop where
 f:Fun K n q st x d
 b:Binds K d ps []
structure FT (K:PySem.W.Frag) (mg:Str->Option Value) (n:Str) (st:Stmt) (x:Addr) (d:FuncData) (ps:List Str):Prop where
 g:mg n=some (.ref x)
 f:Fun K n n st x d
 b:Binds K d ps []
set_option genInjectivity false in
set_option genSizeOf false in
structure Ad where
 l_mixed:Addr
 l_mixed_d:FuncData
 l_draw:Addr
 l_draw_d:FuncData
 l_purse:Addr
 l_purse_d:FuncData
 is_entry:Addr
 is_entry_d:FuncData
 is_row:Addr
 is_row_d:FuncData
 is_machine:Addr
 is_machine_d:FuncData
 must_machine:Addr
 must_machine_d:FuncData
 Walk___init__:Addr
 Walk___init___d:FuncData
 Walk_look:Addr
 Walk_look_d:FuncData
 Walk_entry:Addr
 Walk_entry_d:FuncData
 Walk_mark:Addr
 Walk_mark_d:FuncData
 Walk_step:Addr
 Walk_step_d:FuncData
 Walk_setup:Addr
 Walk_setup_d:FuncData
 first_setup:Addr
 first_setup_d:FuncData
 begun:Addr
 begun_d:FuncData
 run:Addr
 run_d:FuncData
 looks:Addr
 looks_d:FuncData
 entries_in:Addr
 entries_in_d:FuncData
 must_size:Addr
 must_size_d:FuncData
 first_machine:Addr
 first_machine_d:FuncData
 full_entries:Addr
 full_entries_d:FuncData
 signs_named:Addr
 signs_named_d:FuncData
 rows_named:Addr
 rows_named_d:FuncData
 new_entries:Addr
 new_entries_d:FuncData
 with_entry:Addr
 with_entry_d:FuncData
 end_of:Addr
 end_of_d:FuncData
 grown:Addr
 grown_d:FuncData
 ended_nodes:Addr
 ended_nodes_d:FuncData
 foremost:Addr
 foremost_d:FuncData
 greatest:Addr
 greatest_d:FuncData
 fullest:Addr
 fullest_d:FuncData
 l_named_things:Addr
 l_named_things_d:FuncData
 l_met:Addr
 l_met_d:FuncData
 l_children:Addr
 l_children_d:FuncData
 l_nodes:Addr
 l_nodes_d:FuncData
 l_marks:Addr
 l_marks_d:FuncData
 l_best:Addr
 l_best_d:FuncData
 l_plainly:Addr
 l_plainly_d:FuncData
 l_size_right:Addr
 l_size_right_d:FuncData
 law:Addr
 law_d:FuncData
 MillError:Addr
 NoMachine:Addr
 NoSize:Addr
 Walk:Addr
structure Tx (K:PySem.W.Frag) (mg:Str->Option Value) (a:Ad):Prop where
 q_l_mixed:FT K mg "_law_mixed" zeo a.l_mixed a.l_mixed_d ["_law_cell","_law_k"]
 q_l_draw:FT K mg "_law_draw" zfO a.l_draw a.l_draw_d ["_law_purse_here","_law_out_of"]
 q_l_purse:FT K mg "_law_purse" zeq a.l_purse a.l_purse_d ["_law_script"]
 q_is_entry:FT K mg "is_entry" zdG a.is_entry a.is_entry_d ["entry","rows","signs"]
 q_is_row:FT K mg "is_row" zfM a.is_row a.is_row_d ["row","rows","signs"]
 q_is_machine:FT K mg "is_machine" zcq a.is_machine a.is_machine_d ["machine"]
 q_must_machine:FT K mg "must_machine" zbN a.must_machine a.must_machine_d ["machine"]
 q_Walk___init__:FQ K "__init__" "Walk.__init__" zbD a.Walk___init__ a.Walk___init___d ["self","table","begin"]
 mk_Walk:Mk K a.Walk a.Walk___init__
 q_Walk_look:FQ K "look" "Walk.look" zc1 a.Walk_look a.Walk_look_d ["self"]
 m_Walk_look:zkZ K a.Walk "look" a.Walk_look
 q_Walk_entry:FQ K "entry" "Walk.entry" zcn a.Walk_entry a.Walk_entry_d ["self"]
 m_Walk_entry:zkZ K a.Walk "entry" a.Walk_entry
 q_Walk_mark:FQ K "mark" "Walk.mark" zc2 a.Walk_mark a.Walk_mark_d ["self","sign"]
 m_Walk_mark:zkZ K a.Walk "mark" a.Walk_mark
 q_Walk_step:FQ K "step" "Walk.step" zc3 a.Walk_step a.Walk_step_d ["self"]
 m_Walk_step:zkZ K a.Walk "step" a.Walk_step
 q_Walk_setup:FQ K "setup" "Walk.setup" zco a.Walk_setup a.Walk_setup_d ["self"]
 m_Walk_setup:zkZ K a.Walk "setup" a.Walk_setup
 q_first_setup:FT K mg "first_setup" zb3 a.first_setup a.first_setup_d []
 q_begun:FT K mg "begun" zg9 a.begun a.begun_d ["machine"]
 q_run:FT K mg "run" zmk a.run a.run_d ["machine","most"]
 q_looks:FT K mg "looks" zhb a.looks a.looks_d ["machine","most"]
 q_entries_in:FT K mg "entries_in" zcp a.entries_in a.entries_in_d ["machine"]
 q_must_size:FT K mg "must_size" zc5 a.must_size a.must_size_d ["rows","signs"]
 q_first_machine:FT K mg "first_machine" zbE a.first_machine a.first_machine_d ["rows","signs"]
 q_full_entries:FT K mg "full_entries" zbL a.full_entries a.full_entries_d ["machine"]
 q_signs_named:FT K mg "signs_named" zb5 a.signs_named a.signs_named_d ["machine"]
 q_rows_named:FT K mg "rows_named" zcs a.rows_named a.rows_named_d ["machine"]
 q_new_entries:FT K mg "new_entries" zb4 a.new_entries a.new_entries_d ["machine"]
 q_with_entry:FT K mg "with_entry" zct a.with_entry a.with_entry_d ["machine","end","entry"]
 q_end_of:FT K mg "end_of" zfL a.end_of a.end_of_d ["machine"]
 q_grown:FT K mg "grown" zc4 a.grown a.grown_d ["machine"]
 q_ended_nodes:FT K mg "ended_nodes" zb2 a.ended_nodes a.ended_nodes_d ["rows","signs"]
 q_foremost:FT K mg "foremost" zdE a.foremost a.foremost_d ["scored"]
 q_greatest:FT K mg "greatest" zdF a.greatest a.greatest_d ["rows","signs"]
 q_fullest:FT K mg "fullest" zem a.fullest a.fullest_d ["rows","signs"]
 q_l_named_things:FT K mg "_law_named_things" zbn a.l_named_things a.l_named_things_d ["_law_machine","_law_at"]
 q_l_met:FT K mg "_law_met" zha a.l_met a.l_met_d ["_law_machine","_law_most"]
 q_l_children:FT K mg "_law_children" zcr a.l_children a.l_children_d ["_law_machine","_law_row","_law_sign"]
 q_l_nodes:FT K mg "_law_nodes" zep a.l_nodes a.l_nodes_d ["_law_rows","_law_signs"]
 q_l_marks:FT K mg "_law_marks" zen a.l_marks a.l_marks_d ["_law_strip"]
 q_l_best:FT K mg "_law_best" zfN a.l_best a.l_best_d ["_law_nodes_here","_law_marks_here"]
 q_l_plainly:FT K mg "_law_plainly" zaY a.l_plainly a.l_plainly_d ["_law_found"]
 q_l_size_right:FT K mg "_law_size_right" zbM a.l_size_right a.l_size_right_d ["_law_rows","_law_signs"]
 q_law:FT K mg "law" zmj a.law a.law_d ["_law_script"]
 e_MillError:ExK K a.MillError
 t_MillError:ExC K a.MillError
 g_MillError:mg "MillError"=some (.ref a.MillError)
 m_MillError:ExM K a.MillError ([.ref a.MillError])
 e_NoMachine:ExK K a.NoMachine
 t_NoMachine:ExC K a.NoMachine
 g_NoMachine:mg "NoMachine"=some (.ref a.NoMachine)
 m_NoMachine:ExM K a.NoMachine ([.ref a.NoMachine,.ref a.MillError])
 e_NoSize:ExK K a.NoSize
 t_NoSize:ExC K a.NoSize
 g_NoSize:mg "NoSize"=some (.ref a.NoSize)
 m_NoSize:ExM K a.NoSize ([.ref a.NoSize,.ref a.MillError])
 k_Walk:Cls K a.Walk
 g_Walk:mg "Walk"=some (.ref a.Walk)
 n_Walk_table:zcd K a.Walk "table"
 n_Walk_row:zcd K a.Walk "row"
 n_Walk_place:zcd K a.Walk "place"
 n_Walk_marks:zcd K a.Walk "marks"
 c_MOST_ROWS:CV mg "MOST_ROWS" (.int 4)
 c_LEAST_SIGNS:CV mg "LEAST_SIGNS" (.int 2)
 c_MOST_SIGNS:CV mg "MOST_SIGNS" (.int 4)
 c_MOST_STEPS:CV mg "MOST_STEPS" (.int 200)
 c_MOST_ENTRIES:CV mg "MOST_ENTRIES" (.int 4)
 z_ValueError:mg "ValueError"=none
 z_abs:mg "abs"=none
 z_all:mg "all"=none
 z_bool:mg "bool"=none
 z_dict:mg "dict"=none
 z_enumerate:mg "enumerate"=none
 z_int:mg "int"=none
 z_isinstance:mg "isinstance"=none
 z_len:mg "len"=none
 z_list:mg "list"=none
 z_max:mg "max"=none
 z_min:mg "min"=none
 z_range:mg "range"=none
 z_set:mg "set"=none
 z_sorted:mg "sorted"=none
 z_str:mg "str"=none
 z_sum:mg "sum"=none
 z_tuple:mg "tuple"=none
 z_zip:mg "zip"=none
 ex_nd:[a.MillError,a.NoMachine,a.NoSize].Nodup
section
variable {P:Program} {w:World} {K:PySem.W.Frag} {mg:Str->Option Value} {base:Heap} {a:Ad}
theorem zfb:zao ["_law_cell","_law_k","_law_rest","_law_number"] ["_law_cell","_law_k"] (zaj zeo):=by walk_at "s"
def zfW:Sp:=fun vs H Q _=>match vs with
 | [.int _,.int k]=>(0<=k/\k<=1000)/\∀ (n:Int),0<=n->n<2147483587->Q (.int n) H
 | _=>False
theorem zim (T:Tx K mg a):za3 P w K mg base CX0 1 a.l_mixed a.l_mixed_d ["_law_cell","_law_k"] (zfW):=by
 refine T.q_l_mixed.f.ok zfb (fun vs H Q E h=>?_) (fun cdv A outer s H vs Q E hr h=>?_)
 ·unfold zfW at h;split at h
  ·rfl
  ·exact h.elim
 ·unfold zfW at h;split at h
  ·have nd:=zfb.nd;have hu:=zaD hr;rename_i c k;refine⟨_,(zac (zar (i:=2) nd rfl (by walk_at "o") (zaP zir (qv 0) (zaP zmc zai zai)))
  (zac (zar (i:=3) nd rfl (by walk_at "o") (zaP zir (zaP zeL (zaP zcl (zaP zcl (zaP zcl (zaP zeL (qv 2) (qv 2)) (zaP zeL zai (qv 2))) (zaP zeL zai (qv 1))) zai) zai) zai))
  (zac (zar (i:=3) nd rfl (by walk_at "o") (zaP zir (zaP zcl (zaP zeL (qv 3) (qv 3)) zai) zai))
  (zae (zap (zaP zir (zaP zeL (qv 3) (zaP zcl (qv 3) zai)) zai)))))),?_⟩
   refine⟨zoj (by decide),fun p hp _=>?_⟩;have hp:p=1000000000000000:=by rw [hp];decide
   refine⟨by show (0:Int)<_;omega,fun r _ ⟨r0,r1⟩=>?_⟩;refine⟨.inl ⟨by omega,by omega⟩,fun m1 _ _=>?_⟩;refine⟨.inl ⟨by omega,by omega⟩,fun m2 _ _=>?_⟩;refine⟨.inl ⟨by omega,by omega⟩,fun m3 _ _=>?_⟩;refine⟨.inr ⟨by omega,by omega⟩,fun m4 _ _=>?_⟩;refine⟨by show (0:Int)<_;decide,fun m5 _ ⟨a0,a1⟩=>?_⟩;refine⟨.inl ⟨by omega,by omega⟩,fun m6 _ _=>?_⟩;refine⟨by show (0:Int)<_;decide,fun m7 _ ⟨b0,b1⟩=>?_⟩;refine⟨.inl ⟨by omega,by omega⟩,fun m8 _ _=>?_⟩;refine⟨by show (0:Int)<_;decide,fun m9 _ ⟨c0,c1⟩=>?_⟩;exact h.2 _ c0 (by omega)
  ·exact h.elim
theorem zgx:zao ["_law_purse_here","_law_out_of","_law_drawn"] ["_law_purse_here","_law_out_of"] (zaj zfO):=by walk_at "s"
def zhd:Sp:=fun vs H Q _=>match vs with
 | [.ref b,.int k]=>(0<k/\k.natAbs.log2<9000)/\∃ n m,H b=some (.lst [.int n,.int m])/\∀ d n':Int,0<=d->d<k->Q (.int d) (upd H b (.lst [.int n',.int m]))
 | _=>False
theorem zjz (T:Tx K mg a):za3 P w K mg base CX0 1 a.l_draw a.l_draw_d ["_law_purse_here","_law_out_of"] (zhd):=by
 refine T.q_l_draw.f.ok zgx (fun vs H Q E h=>?_) (fun cdv A outer s H vs Q E hr h=>?_)
 ·unfold zhd at h;split at h
  ·rfl
  ·exact h.elim
 ·unfold zhd at h;split at h
  ·have nd:=zgx.nd;have hu:=zaD hr;rename_i b k;obtain⟨hk,n,m,hb,h⟩:=h;refine⟨_,(zac (zbV (zb1 zhO (za1 (za2 (K:=K) rfl) (qv 0) zai (fun _ _=>rfl)) zai) (zae (zck (za1 (za2 (K:=K) rfl) (qv 0) zai (fun _ _=>rfl)) (zhM (qv 0) zai zhQ))) zas)
  (zac (zar (i:=2) nd rfl (by walk_at "o") (zaP zir (za1 (za2 (K:=K) rfl) (qv 0) zai (fun _ _=>rfl)) (qv 1)))
  (zac (zck (zaP zlh (za1 (za2 (K:=K) rfl) (qv 0) zai (fun _ _=>rfl)) (qv 1)) (zhM (qv 0) zai zhQ))
  (zae (zap (qv 2)))))),?_⟩
   refine⟨_,_,SqL.of hb,rfl,?_⟩;walk_at "w";have fin:∀ (n1:Int) (H1:Hp),H1 b=some (.lst [.int n1,.int m])->(∀ n',upd H1 b (.lst [.int n',.int m])=upd H b (.lst [.int n',.int m])) ->
     ∃ xs v,SqL K H1 b xs/\atI xs 0=some v/\(cL CMod (fun i j=>i % j) fun _ j m=>0<=m/\m<j) v (.int k) H1 fun x H2 =>
      ∃ xs v,SqL K H2 b xs/\atI xs 0=some v/\(cL zmw (fun i j=>i / j) fun _ _ _=>True) v (.int k) H2 fun y H3=>zlw (.ref b) (.int 0) y H3 fun H4=>Q x H4:=by
    intro n1 H1 h1 he;refine⟨_,_,SqL.of h1,rfl,hk.1,fun d _ ⟨d0,d1⟩=>⟨_,_,SqL.of h1,rfl,hk,fun q _ _=>⟨_,0,h1,rfl,?_⟩⟩⟩;show Q (.int d) (upd H1 b (.lst [.int q,.int m]));rw [he];exact h d q d0 d1
   refine ifB.mk (fun _=>?_) (fun _=>?_)
   ·walk_at "w";refine⟨_,_,SqL.of hb,rfl,?_⟩;refine⟨_,0,hb,rfl,?_⟩;exact fin m _ zad fun n'=>zmr
   ·exact fin n H hb fun n'=>rfl
  ·exact h.elim
theorem zfd:zao ["_law_script","_law_cells","_law_number","_law_k"] ["_law_script"] (zaj zeq):=by walk_at "s"
def zfX (K:PySem.W.Frag):Sp:=fun vs H Q _=>match vs with
 | [.ref b]=>∃ ns:List Int,SqL K H b (ns.map V.int)/\ns.length<=63/\∀ (p:Addr) (H':Hp) (n m:Int),Sub H H'->H p=none->H' p=some (.lst [.int n,.int m])->Q (.ref p) H'
 | _=>False
theorem zok (ns:List Int):∃ ms:List Int,zj1 (ns.map V.int) none (some 63)=ms.map V.int/\ms.length<=63:=by
 unfold zj1;rw [zoX];refine⟨(ns.drop (HT.sIx ns.length 0 none)).take (HT.sIx ns.length ns.length (some 63)-HT.sIx ns.length 0 none),?_,?_⟩
 ·rw [List.map_take,List.map_drop]
 ·rw [zpm]
  have:HT.sIx ns.length ns.length (some ((63:Nat):Int))=min 63 ns.length:=HT.sIx_nat _ _ _
  have e:((63:Nat):Int)=(63:Int):=rfl;rw [e] at this;rw [this];omega
theorem ziD {vs:List V} {ns:List Int} (e:vs=ns.map V.int) {i:Int} (h0:0<=i) (h1:i<vs.length):∃ n:Int,atI vs i=some (.int n):=by
 subst e;unfold atI ixN;rw [zpC h0,zpC h1,Option.bind_some];have hl:i.toNat<ns.length:=by rw [zoX] at h1;omega
 exact⟨ns[i.toNat],by rw [zoY,zoZ hl];rfl⟩
theorem zio (T:Tx K mg a):za3 P w K mg base CX0 2 a.l_purse a.l_purse_d ["_law_script"] (zfX K):=by
 have G_l_mixed:=zim (P:=P) (w:=w) (base:=base) T;refine T.q_l_purse.f.ok zfd (fun vs H Q E h=>?_) (fun cdv A outer s H vs Q E hr h=>?_)
 ·unfold zfX at h;split at h
  ·rfl
  ·exact h.elim
 ·unfold zfX at h;split at h
  ·have nd:=zfd.nd;have hu:=zaD hr;rename_i b;obtain⟨ns,hS,hlen,h⟩:=h;obtain⟨ms,hms,hml⟩:=zok ns;refine⟨_,(zac (zar (i:=1) nd rfl (by walk_at "o") (zaP zma (zhK (zlj (K:=K) rfl) (qv 0) zjG (zg7 zai)) (zaR (zaa zai zab))))
  (zac (zar (i:=2) nd rfl (by walk_at "o") zai)
  (zac (zbp PassesOwn.never rfl (zbd rfl T.z_range (zaa zai zab)) (zag (i:=3) nd rfl (by walk_at "o")) (zae (zar (i:=2) nd rfl (by walk_at "o") (zaP zcl (zaP zeL (qv 2) zai) (zan G_l_mixed (hr.mono (by decide)) rfl T.q_l_mixed.g T.q_l_mixed.f.kp T.q_l_mixed.b .nil zaw (zaa (za1 (za2 (K:=K) rfl) (qv 1) (zaP zir (qv 3) (zah (za6 (K:=K) rfl) rfl T.z_len za4 (zaa (qv 1) zab))) (fun _ _=>rfl)) (zaa (qv 3) zab)))))))
  (zac (zbV (zb1 q_ge (za1 (za2 (K:=K) rfl) (qv 1) zai (fun _ _=>rfl)) (zaP zmc zai zai)) (zae (zap (zaR (zaa (zaP zlh (za1 (za2 (K:=K) rfl) (qv 1) zai (fun _ _=>rfl)) (zaP zmc zai zai)) (zaa (qv 2) zab))))) zas)
  (zae (zap (zaR (zaa (qv 2) (zaa (qv 2) zab))))))))),?_⟩
   refine⟨_,hS,fun p1 n1=>?_⟩;rw [hms];refine⟨by show 1<=sizeLine;decide,fun p2 n2=>?_⟩;refine⟨_,_,zm3 zad n2,zad,by rw [zoX];show ms.length+1<=sizeLine;exact zpc (Nat.add_le_add_right hml 1) (by decide),fun p3 n3=>?_⟩;have e3:ms.map V.int++[.int 0]=(ms++[0]).map V.int:=by rw [zo5];rfl
   have el:((ms++[0]).map V.int).length=ms.length+1:=by simp
   rw [e3];have sub3:Sub H (upd (upd (upd H p1 (.lst (ms.map V.int))) p2 (.lst [.int 0])) p3 (.lst ((ms++[0]).map V.int))) :=
    ((Sub.new n1).trans (Sub.new n2)).trans (Sub.new n3)
   have h3:(upd (upd (upd H p1 (.lst (ms.map V.int))) p2 (.lst [.int 0])) p3 (.lst ((ms++[0]).map V.int))) p3=some (.lst ((ms++[0]).map V.int)):=zad;generalize (upd (upd (upd H p1 (.lst (ms.map V.int))) p2 (.lst [.int 0])) p3 (.lst ((ms++[0]).map V.int)))=H3 at sub3 h3 ⊢;refine⟨⟨by decide,by decide⟩,?_⟩;refine zdd (lo:=0) (n:=(150:Int).toNat) (fun _ σ H4=>∃ (n:Int) (v:Option V),σ=[some (.ref b),some (.ref p3),some (.int n),v]/\H4=H3) ⟨1,none,rfl,rfl⟩ ?_ ?_
   ·rintro i σ H4 hi ⟨n,v,rfl,rfl⟩;have hi:i<150:=hi;refine⟨.inr ⟨by decide,by decide⟩,fun m1 _ _=>?_⟩;refine⟨_,.inl (SqL.of h3),?_⟩;walk_at "w";rw [el];refine⟨by show (0:Int)<_;omega,fun r _ ⟨r0,r1⟩=>?_⟩;obtain⟨c,hc⟩:=ziD (i:=r) (rfl:(ms++[0]).map V.int=_) r0 (by rw [el];omega);refine⟨_,_,SqL.of h3,hc,?_⟩;refine⟨⟨by omega,by omega⟩,fun k _ _=>?_⟩;exact⟨_,_,rfl,rfl⟩
   ·rintro σ H4 ⟨n,v,rfl,rfl⟩;obtain⟨c,hc⟩:=ziD (i:=0) (rfl:(ms++[0]).map V.int=_) (by decide) (by rw [el];omega);refine⟨_,_,SqL.of h3,hc,?_⟩;refine⟨zoj (by decide),fun m2 _ _=>?_⟩;walk_at "w";refine ifB.mk (fun _=>?_) (fun _=>?_)
    ·walk_at "w";refine⟨_,_,SqL.of h3,hc,?_⟩;refine⟨zoj (by decide),fun m3 hm3 _=>?_⟩;have hm3:m3=10 ^ 18:=hm3;refine⟨⟨by rw [hm3];decide,by rw [hm3];exact Nat.lt_trans ((Nat.log2_lt (by decide)).2 (show (10 ^ 18:Int).natAbs<2 ^ 60 by decide)) (by decide)⟩,fun m4 _ _=>?_⟩;refine⟨by show 2<=sizeLine;decide,fun p4 n4=>?_⟩;exact h p4 _ _ _ (sub3.trans (Sub.new n4)) (sub3.free n4) zad
    ·walk_at "w";refine⟨by show 2<=sizeLine;decide,fun p4 n4=>?_⟩;exact h p4 _ _ _ (sub3.trans (Sub.new n4)) (sub3.free n4) zad
  ·exact h.elim
theorem zet:zao ["entry","rows","signs","sign","way","row"] ["entry","rows","signs"] (zaj zdG):=by walk_at "s"
def zc7:Sp:=fun vs H Q _=>match vs with
 | [.ref b,.int rows,.int signs]=>∃ e:En,Ent H b e/\∀ H',Sub H H'->Q (.bl (za9 rows signs e)) H'
 | _=>False
theorem ziZ {K:PySem.W.Frag} {H:Hp} {b:Addr} {e:En} (h:Ent H b e):SqT K H b (e.map V.int):=SqT.of h
theorem zlb {y:Int}:(decide (y=-1) || decide (y=1))=inV (.int y) [.int (-1),.int 1]:=by
 unfold inV;simp only [List.any_cons,List.any_nil,eqV,Bool.or_false];by_cases h1:y=-1
 ·subst h1;rfl
 ·by_cases h2:y=1
  ·subst h2;rfl
  ·have h3:¬ (-1=y):=fun e=>h1 e.symm
   have h4:¬ (1=y):=fun e=>h2 e.symm
   simp [h1,h2,h3,h4]
theorem zg2 (T:Tx K mg a):za3 P w K mg base CX0 1 a.is_entry a.is_entry_d ["entry","rows","signs"] (zc7):=by
 refine T.q_is_entry.f.ok zet (fun vs H Q E h=>?_) (fun cdv A outer s H vs Q E hr h=>?_)
 ·unfold zc7 at h;split at h
  ·rfl
  ·exact h.elim
 ·unfold zc7 at h;split at h
  ·have nd:=zet.nd;have hu:=zaD hr;rename_i b rows signs;obtain⟨e,hb,h⟩:=h;refine⟨_,(zac (zbV (zb1 zhO (zah (za6 (K:=K) rfl) rfl T.z_len za4 (zaa (qv 0) zab)) zai) (zae (zap zbZ)) zas)
  (zac (zbV (zb1 q_ne (zah (za6 (K:=K) rfl) rfl T.z_len za4 (zaa (qv 0) zab)) zai) (zae (zap zbZ)) zas)
  (zac (zck (qv 0) (zaM (K:=K) (n:=3) rfl rfl (zam (zag (i:=3) nd rfl (by walk_at "o")) (zam (zag (i:=4) nd rfl (by walk_at "o")) (zam (zag (i:=5) nd rfl (by walk_at "o")) zaN)))))
  (zae (zap (zbK (znl zjN zoH zai (qv 3) (qv 2)) (zbK (zb0 (zoC (K:=K) rfl) (qv 4) (zaG (zaa (ziq zis zai) (zaa zai zab))) (by first | exact zaF _ | rfl)) (zdj (znl zjN zoH zai (qv 5) (qv 1)))))))))),?_⟩
   refine⟨_,.inr (ziZ hb),?_⟩;walk_at "w";refine ifB.dec (fun h0=>?_) (fun h0=>?_)
   ·have e0:e=[]:=by cases e with
     | nil=>rfl
     | cons x r=>simp at h0;omega
    subst e0;exact h H Sub.refl
   ·walk_at "w";refine⟨_,.inr (ziZ hb),?_⟩;walk_at "w";refine ifB.mk (fun h3=>?_) (fun h3=>?_)
    ·have:za9 rows signs e=false:=by
      match e,h0,h3 with
      | [],h0,_=>simp at h0
      | [_],_,_=>rfl
      | [_,_],_,_=>rfl
      | [_,_,_],_,h3=>simp at h3
      | _::_::_::_::_,_,_=>rfl
     have h:=h H Sub.refl;rw [this] at h;exact h
    ·obtain⟨x,y,z,rfl⟩:∃ x y z,e=[x,y,z]:=by
      match e,h3 with
      | [],h3=>simp at h3
      | [_],h3=>simp at h3
      | [_,_],h3=>simp at h3
      | [x,y,z],_=>exact⟨x,y,z,rfl⟩
      | _::_::_::_::_,h3=>simp at h3;omega
     refine⟨_,ziZ hb,rfl,?_⟩;walk_at "w";have fin:∀ (c:Bool) (H':Hp),Sub H H'->za9 rows signs [x,y,z]=c->Q (.bl c) H':=fun c H' S e=>e ▸ h H' S
     have hd:za9 rows signs [x,y,z]=((decide (0<=x) && decide (x<signs)) && (decide (y=-1) || decide (y=1)) && (decide (0<=z) && decide (z<rows))):=rfl;refine ifB.dec (fun h1=>?_) (fun h1=>?_)
     ·walk_at "w";refine ifB.dec (fun h2=>?_) (fun h2=>?_)
      ·walk_at "w";refine⟨by show 2<=sizeLine;decide,?_⟩;intro p1 n1;generalize U':upd _ p1 _=H1;obtain ⟨S1,e1⟩:=zak n1 U';clear U';refine⟨_,.inr (SqT.of e1),rfl,rfl,?_⟩;walk_at "w";refine ifB.mk (fun h3=>?_) (fun h3=>?_)
       ·have h3:(decide (y=-1) || decide (y=1))=true:=by rw [← h3];exact zlb
        walk_at "w";refine ifB.dec (fun h4=>?_) (fun h4=>?_)
        ·exact fin _ _ S1 (by rw [hd,h3];simp [h1,h2,h4])
        ·exact fin _ _ S1 (by rw [hd,h3];simp [h1,h2,h4])
       ·have h3:(decide (y=-1) || decide (y=1))=false:=by rw [← h3];exact zlb
        exact fin _ _ S1 (by rw [hd,h3];simp)
      ·exact fin _ _ Sub.refl (by rw [hd];simp [h2])
     ·walk_at "w";refine ifB.no rfl ?_;exact fin false _ Sub.refl (by rw [hd];simp [h1])
  ·exact h.elim
theorem zgv:zao ["row","rows","signs"] ["row","rows","signs"] (zaj zfM):=by walk_at "s"
def zev:Sp:=fun vs H Q _=>match vs with
 | [.ref b,.int rows,.int signs]=>∃ es:List En,Row H b es/\es.length<=100/\∀ H',Sub H H'->Q (.bl (zeM rows signs es)) H'
 | _=>False
theorem zk1 (f:α->Bool) (l:List α):(l.map f).all id=l.all f:=by rw [List.all_map];rfl
theorem zjx (T:Tx K mg a):za3 P w K mg base CX0 2 a.is_row a.is_row_d ["row","rows","signs"] (zev):=by
 have G_is_entry:=zg2 (P:=P) (w:=w) (base:=base) T;refine T.q_is_row.f.ok zgv (fun vs H Q E h=>?_) (fun cdv A outer s H vs Q E hr h=>?_)
 ·unfold zev at h;split at h
  ·rfl
  ·exact h.elim
 ·unfold zev at h;split at h
  ·have nd:=zgv.nd;have hu:=zaD hr;rename_i b rows signs;obtain⟨es,⟨as,hb,ha⟩,hlen,h⟩:=h;refine⟨_,(zae (zap (zbK (zb0 zhO (zah (za6 (K:=K) rfl) rfl T.z_len za4 (zaa (qv 0) zab)) (qv 2) (by first | exact zaF _ | rfl)) (zdj (zah (zlg (K:=K) rfl rfl) rfl T.z_all zk2 (zaa (zbx (own:=["entry"]) (fr:=[1,2]) rfl (by walk_at "comp_ok") (zax (K:=K) rfl (qv 0)) (fun _ _ _ _=>(zag (i:=0) (show List.Nodup (α:=Str) ["entry","rows","signs"] from by decide +kernel) rfl (by walk_at "o"))) (fun _ _ _ _=>zaQ) (fun _ _ _ _=>(zan G_is_entry (hr.mono (by decide)) rfl T.q_is_entry.g T.q_is_entry.f.kp T.q_is_entry.b .nil zaw (zaa (qv 0) (zaa (qv 1) (zaa (qv 2) zab)))))) zab)))))),?_⟩;refine⟨_,.inl (SqL.of hb),?_⟩;walk_at "w";have el:((as.map V.ref).length:Int)=es.length:=by rw [zoX,ha.1]
   rw [el];refine ifB.dec (fun h1=>?_) (fun h1=>?_)
   ·walk_at "w";refine⟨⟨_,SqL.of hb⟩,?_⟩;intro p1 n1;refine zat (K:=K) (a:=b) (xs:=as.map V.ref) (fun i σ H4=>∃ v:Option V,σ=[v,some (.int rows),some (.int signs)]/\Sub H H4/\H4 p1=some (.lst (((es.take i).map (za9 rows signs)).map V.bl))) ?_ ?_ ?_ ?_
    ·exact⟨none,rfl,Sub.new n1,by rw [zad];rfl⟩
    ·rintro i σ H4 _ ⟨v,rfl,S4,_⟩;exact SqL.of (S4 _ _ hb)
    ·rintro i x σ H4 hi ⟨v,rfl,S4,g4⟩;rw [zoY] at hi;obtain⟨c,hc,rfl⟩:=zo0.1 hi;obtain⟨e,he,hE⟩:=ha.at hc;refine⟨e,S4 _ _ hE,fun H5 S5=>?_⟩;refine⟨_,S5 _ _ g4,?_,_,rfl,(S4.trans S5).upd n1,?_⟩
     ·rw [zoX,zoX,zpm];exact zpb (Nat.min_le_right _ _) (zpb hlen (by decide))
     ·rw [zad,zpk,he,zo5,zo5];rfl
    ·rintro σ H4 ⟨v,rfl,S4,g4⟩;rw [zoX,ha.1,zpj] at g4;refine⟨_,SqL.of g4,?_⟩;rw [zk1];have h:=h H4 S4;unfold zeM at h;rw [zo3 h1,Bool.true_and] at h;exact h
   ·have h:=h H Sub.refl;unfold zeM at h;rw [zo4 h1,Bool.false_and] at h;exact h
  ·exact h.elim
theorem zdp:zao ["machine","rows","signs"] ["machine"] (zaj zcq):=by walk_at "s"
def Bd (k:Nat) (m:Ma):Prop:=m.length<=k/\∀ r∈m,r.length<=k
def zb8:Sp:=fun vs H Q _=>match vs with
 | [.ref b]=>∃ m:Ma,zdw H b m/\Bd 100 m/\∀ H',Sub H H'->Q (.bl (isM m)) H'
 | _=>False
theorem zkn {m:Ma} (h:¬ m.length<=4):isM m=false:=by
 unfold isM;cases m with
 | nil=>rfl
 | cons r m=>simp only;rw [zo4 h];rfl
theorem zfE (T:Tx K mg a):za3 P w K mg base CX0 3 a.is_machine a.is_machine_d ["machine"] (zb8):=by
 have G_is_row:=zjx (P:=P) (w:=w) (base:=base) T;refine T.q_is_machine.f.ok zdp (fun vs H Q E h=>?_) (fun cdv A outer s H vs Q E hr h=>?_)
 ·unfold zb8 at h;split at h
  ·rfl
  ·exact h.elim
 ·unfold zb8 at h;split at h
  ·have nd:=zdp.nd;have hu:=zaD hr;rename_i b;obtain⟨m,⟨rs,hb,hnd,hrw⟩,⟨hl1,hl2⟩,h⟩:=h;refine⟨_,(zac (zar (i:=1) nd rfl (by walk_at "o") (zah (za6 (K:=K) rfl) rfl T.z_len za4 (zaa (qv 0) zab)))
  (zac (zbV (zbT (zkJ zjN zjN zai (qv 1) (zfH rfl T.c_MOST_ROWS))) (zae (zap zbZ)) zas)
  (zac (zar (i:=2) nd rfl (by walk_at "o") (zah (za6 (K:=K) rfl) rfl T.z_len za4 (zaa (za1 (za2 (K:=K) rfl) (qv 0) zai (fun _ _=>rfl)) zab)))
  (zac (zbV (zbT (zkJ zjN zjN (zfH rfl T.c_LEAST_SIGNS) (qv 2) (zfH rfl T.c_MOST_SIGNS))) (zae (zap zbZ)) zas)
  (zae (zap (zah (zlg (K:=K) rfl rfl) rfl T.z_all zk2 (zaa (zbx (own:=["row"]) (fr:=[1,2]) rfl (by walk_at "comp_ok") (zax (K:=K) rfl (qv 0)) (fun _ _ _ _=>(zag (i:=0) (show List.Nodup (α:=Str) ["row","rows","signs"] from by decide +kernel) rfl (by walk_at "o"))) (fun _ _ _ _=>zaQ) (fun _ _ _ _=>(zan G_is_row (hr.mono (by decide)) rfl T.q_is_row.g T.q_is_row.f.kp T.q_is_row.b .nil zaw (zaa (qv 0) (zaa (qv 1) (zaa (qv 2) zab)))))) zab)))))))),?_⟩
   refine⟨_,.inl (SqL.of hb),?_⟩;walk_at "w";have el:((rs.map V.ref).length:Int)=m.length:=by rw [zoX,hrw.1]
   rw [el];have fin:∀ (c:Bool) (H':Hp),Sub H H'->isM m=c->Q (.bl c) H':=fun c H' S e=>e ▸ h H' S
   refine ifB.dec (fun h1=>?_) (fun h1=>?_)
   ·walk_at "w";refine ifB.ndec (fun h2=>?_) (fun h2=>?_)
    ·obtain⟨r0,m',rfl⟩:∃ r0 m',m=r0::m':=by
      cases m with
      | nil=>simp at h1
      | cons r m=>exact⟨r,m,rfl⟩
     obtain⟨q0,rs',rfl⟩:∃ q0 rs',rs=q0::rs':=by
      cases rs with
      | nil=>have:=hrw.1;simp at this
      | cons r rs=>exact⟨r,rs,rfl⟩
     obtain⟨as0,hq0,ha0⟩:=hrw.2 0 q0 r0 rfl rfl;refine⟨_,_,SqL.of hb,zaE (j:=0) rfl,?_⟩;refine⟨_,.inl (SqL.of hq0),?_⟩;walk_at "w";have el0:((as0.map V.ref).length:Int)=r0.length:=by rw [zoX,ha0.1]
     rw [el0];have hd:isM (r0::m')=(decide ((r0::m').length<=4) && decide (2<=r0.length) && decide (r0.length<=4) && (r0::m').all (zeM (r0::m').length r0.length)):=rfl;refine ifB.dec (fun h3=>?_) (fun h3=>?_)
     ·walk_at "w";refine ifB.ndec (fun h4=>?_) (fun h4=>?_)
      ·walk_at "w";refine⟨⟨_,SqL.of hb⟩,?_⟩;intro p1 n1;refine zat (K:=K) (a:=b) (xs:=(q0::rs').map V.ref) (fun i σ H4=>∃ v:Option V,σ=[v,some (.int (r0::m').length),some (.int r0.length)]/\Sub H H4/\H4 p1=some (.lst ((((r0::m').take i).map (zeM (r0::m').length r0.length)).map V.bl))) ?_ ?_ ?_ ?_
       ·exact⟨none,rfl,Sub.new n1,by rw [zad];rfl⟩
       ·rintro i σ H4 _ ⟨v,rfl,S4,_⟩;exact SqL.of (S4 _ _ hb)
       ·rintro i x σ H4 hi ⟨v,rfl,S4,g4⟩;rw [zoY] at hi;obtain⟨c,hc,rfl⟩:=zo0.1 hi;obtain⟨e,he,hE⟩:=hrw.at hc;refine⟨e,hE.stay (.sub S4),hl2 e (zo2 he),fun H5 S5=>?_⟩;refine⟨_,S5 _ _ g4,?_,_,rfl,(S4.trans S5).upd n1,?_⟩
        ·rw [zoX,zoX,zpm];exact zpb (Nat.min_le_right _ _) (zpb hl1 (by decide))
        ·rw [zad,zpk,he,zo5,zo5];rfl
       ·rintro σ H4 ⟨v,rfl,S4,g4⟩;rw [zoX,hrw.1,zpj] at g4;refine⟨_,SqL.of g4,?_⟩;rw [zk1];refine fin _ _ S4 ?_;rw [hd,zo3 (show (r0::m').length<=4 by omega),zo3 (show 2<=r0.length by omega),zo3 (show r0.length<=4 by omega)]
        rfl
      ·exact fin false _ Sub.refl (by rw [hd,zo4 (show ¬ r0.length<=4 by omega)];simp)
     ·walk_at "w";refine ifB.yes rfl ?_;exact fin false _ Sub.refl (by rw [hd,zo4 (show ¬ 2<=r0.length by omega)];simp)
    ·exact fin false _ Sub.refl (zkn (by omega))
   ·walk_at "w";refine ifB.yes rfl ?_;exact fin false _ Sub.refl (by cases m with
     | nil=>rfl
     | cons r m=>simp at h1;omega)
  ·exact h.elim
theorem zcw:zao ["machine"] ["machine"] (zaj zbN):=by walk_at "s"
def zbF (a:Ad):Sp:=fun vs H Q E=>match vs with
 | [.ref b]=>∃ m:Ma,zdw H b m/\Bd 100 m/\(isM m=true->∀ H',Sub H H'->Q .non H')/\(isM m=false->∀ H',Sub H H'->E (.ref a.NoMachine) none H')
 | _=>False
theorem zej (T:Tx K mg a):za3 P w K mg base (CXE P w) 4 a.must_machine a.must_machine_d ["machine"] (zbF a):=by
 have G_is_machine:=zfE (P:=P) (w:=w) (base:=base) T;refine T.q_must_machine.f.okE zcw (fun vs H Q E h=>?_) (fun cdv A outer s H vs Q E hr h=>?_)
 ·unfold zbF at h;split at h
  ·rfl
  ·exact h.elim
 ·unfold zbF at h;split at h
  ·have nd:=zcw.nd;have hu:=zaD hr;rename_i b;obtain⟨m,hm,hb,h1,h2⟩:=h;refine⟨_,(zae (zbV (zbT (zcG (zan G_is_machine (hr.mono (by decide)) rfl T.q_is_machine.g T.q_is_machine.f.kp T.q_is_machine.b .nil zaw (zaa (qv 0) zab)))) (zae (zkI rfl T.e_NoMachine rfl T.g_NoMachine zkT (zaa zhL zab))) zas)),?_⟩;refine⟨m,hm,hb,fun H1 S1=>?_⟩;walk_at "w";refine ifB.mk (fun e=>?_) (fun e=>?_)
   ·have e:isM m=false:=by simpa using e
    walk_at "w";exact⟨by show 1<=sizeLine;decide,h2 e H1 S1⟩
   ·have e:isM m=true:=by simpa using e
    exact h1 e H1 S1
  ·exact h.elim
theorem zcb:zao ["self","table","begin","row","place","strip"] ["self","table","begin"] (zaj zbD):=by walk_at "s"
def zhf (a:Ad):Sp:=fun vs H Q _=>match vs with
 | [.ref o,.ref t,.ref b]=>∃ (dx:Addr) (r p:Int) (ks:Mk2),H o=some (.ins a.Walk dx [])/\SU H b r p ks/\(ks.map (·.1)).Nodup/\ks.length<=10000/\∀ (d:Addr) (H':Hp),H d=none->WK a.Walk H' o t d r p ks->(∀ c u,H c=some u->c≠o->H' c=some u)->Q .non H'
 | _=>False
theorem zdS (T:Tx K mg a):za3 P w K mg base CX0 1 a.Walk___init__ a.Walk___init___d ["self","table","begin"] (zhf a):=by
 refine T.q_Walk___init__.f.ok zcb (fun vs H Q E h=>?_) (fun cdv A outer s H vs Q E hr h=>?_)
 ·unfold zhf at h;split at h
  ·rfl
  ·exact h.elim
 ·unfold zhf at h;split at h
  ·have nd:=zcb.nd;have hu:=zaD hr;rename_i o t b;obtain⟨dx,r,p,ks,ho,⟨l,hb,as,hl,hA⟩,hnd,hlen,h⟩:=h;refine⟨_,(zac (zck (qv 2) (zaM (K:=K) (n:=3) rfl rfl (zam (zag (i:=3) nd rfl (by walk_at "o")) (zam (zag (i:=4) nd rfl (by walk_at "o")) (zam (zag (i:=5) nd rfl (by walk_at "o")) zaN)))))
  (zac (zgo (qv 0) (qv 1) rfl)
  (zac (zgo (qv 0) (qv 3) rfl)
  (zac (zgo (qv 0) (qv 4) rfl)
  (zae (zgo (qv 0) (zoy (own:=["where","sign"]) (fr:=[]) rfl (by walk_at "comp_ok") (zax (K:=K) rfl (qv 5)) (fun _ _ _ _=>(zaM (K:=K) (n:=2) rfl rfl (zam (zag (i:=0) (show List.Nodup (α:=Str) ["where","sign"] from by decide +kernel) rfl (by walk_at "o")) (zam (zag (i:=1) (show List.Nodup (α:=Str) ["where","sign"] from by decide +kernel) rfl (by walk_at "o")) zaN)))) (fun _ _ _ _=>zaQ) (fun _ _ _ _=>(qv 0)) (fun _ _ _ _=>(qv 1))) rfl)))))),?_⟩
   refine⟨_,SqT.of hb,rfl,?_⟩;refine⟨_,_,_,_,rfl,ho,T.k_Walk,T.n_Walk_table,by show 0<1000;decide,?_⟩;generalize U':upd _ o _=H1;have f1:∀ c u,H c=some u->c≠o->H1 c=some u:=fun c u e ne=>by rw [← U',zal ne];exact e
   have ho1:H1 o=some (.ins a.Walk dx (zcJ "table" (.ref t) [])):=by rw [← U'];exact zad
   clear U';refine⟨_,_,_,_,rfl,ho1,T.k_Walk,T.n_Walk_row,by show 1<1000;decide,?_⟩;generalize U':upd _ o _=H2;have f2:∀ c u,H c=some u->c≠o->H2 c=some u:=fun c u e ne=>by rw [← U',zal ne];exact f1 c u e ne
   have ho2:H2 o=some (.ins a.Walk dx (zcJ "row" (.int r) (zcJ "table" (.ref t) []))):=by rw [← U'];exact zad
   clear U';refine⟨_,_,_,_,rfl,ho2,T.k_Walk,T.n_Walk_place,by show 2<1000;decide,?_⟩;generalize U':upd _ o _=H3;have f3:∀ c u,H c=some u->c≠o->H3 c=some u:=fun c u e ne=>by rw [← U',zal ne];exact f2 c u e ne
   have ho3:H3 o=some (.ins a.Walk dx (zcJ "place" (.int p) (zcJ "row" (.int r) (zcJ "table" (.ref t) [])))):=by rw [← U'];exact zad
   clear U';walk_at "w";have nl:l≠o:=fun z=>by rw [z,ho] at hl;cases hl
   refine⟨⟨_,SqL.of (f3 _ _ hl nl)⟩,?_⟩;intro d nd;have nH:H d=none:=by
    cases e:H d with
    | none=>rfl
    | some u =>
     by_cases z:d=o
     ·rw [z,ho3] at nd;cases nd
     ·rw [f3 _ _ e z] at nd;cases nd
   refine zat (K:=K) (a:=l) (xs:=as.map V.ref) (fun i σ H4=>∃ v w:Option V,σ=[v,w]/\Sub H3 H4/\H4 d=some (.dK (dcI (iv (ks.take i))))) ?_ ?_ ?_ ?_
   ·exact⟨none,none,rfl,Sub.new nd,zad⟩
   ·rintro i σ H4 _ ⟨v,w,rfl,S4,_⟩;exact SqL.of (S4 _ _ (f3 _ _ hl nl))
   ·rintro i x σ H4 hi ⟨v,w,rfl,S4,g4⟩;rw [zoY] at hi;obtain⟨c,hc,rfl⟩:=zo0.1 hi;obtain⟨q',hq,hE⟩:=hA.at hc;rw [zoY] at hq;obtain⟨q,hq1,rfl⟩:=zo0.1 hq;have nc:c≠o:=fun z=>by rw [z,ho] at hE;cases hE
    refine⟨_,SqT.of (S4 _ _ (f3 _ _ hE nc)),rfl,?_⟩;refine⟨_,.inl q.1,g4,rfl,?_,_,_,rfl,S4.upd nd,?_⟩
    ·rw [zoX,zoX,zpm];exact zpb (Nat.min_le_right _ _) (zpb hlen (by decide))
    ·rw [zad,zj3,zkQ hnd hq1]
   ·rintro σ H4 ⟨v,w,rfl,S4,g4⟩;rw [zoX,hA.1,zoX,zpj] at g4;refine⟨_,_,_,_,rfl,S4 _ _ ho3,T.k_Walk,T.n_Walk_marks,by show 3<1000;decide,?_⟩;rw [zoW];have ndo:d≠o:=fun z=>by rw [z,ho3] at nd;cases nd
    exact h d _ nH ⟨⟨dx,zad⟩,by rw [zal ndo];exact g4⟩ fun c u e ne=>by rw [zal ne];exact S4 _ _ (f3 c u e ne)
  ·exact h.elim
theorem zdM:zao ["self"] ["self"] (zaj zc1):=by walk_at "s"
def zhh (a:Ad):Sp:=fun vs H Q _=>match vs with
 | [.ref o]=>∃ (t d:Addr) (r p:Int) (ks:Mk2),WK a.Walk H o t d r p ks/\∀ (q:Addr) (H':Hp),Sub H H'->H' q=some (.tup [.int r,.int p,.int ((zbh ks p).getD 0)])->H q=none->Q (.ref q) H'
 | _=>False
theorem zdJ (T:Tx K mg a):za3 P w K mg base CX0 1 a.Walk_look a.Walk_look_d ["self"] (zhh a):=by
 refine T.q_Walk_look.f.ok zdM (fun vs H Q E h=>?_) (fun cdv A outer s H vs Q E hr h=>?_)
 ·unfold zhh at h;split at h
  ·rfl
  ·exact h.elim
 ·unfold zhh at h;split at h
  ·have nd:=zdM.nd;have hu:=zaD hr;rename_i o;obtain⟨t,d,r,p,ks,⟨⟨dx,ho⟩,hd⟩,h⟩:=h;refine⟨_,(zae (zap (zaG (zaa (zca (qv 0) rfl) (zaa (zca (qv 0) rfl) (zaa (zfI hu (zca (qv 0) rfl) (zca (qv 0) rfl) zai ⟨rfl,rfl,rfl,rfl⟩) zab)))))),?_⟩;refine⟨_,_,_,_,_,rfl,ho,T.k_Walk,T.n_Walk_row,znT _ _ _ _,?_⟩;refine⟨_,_,_,_,_,rfl,ho,T.k_Walk,T.n_Walk_place,ziy _ _ _ _,?_⟩;refine⟨_,_,_,_,_,rfl,ho,T.k_Walk,T.n_Walk_marks,zkU _ _ _ _,?_⟩;refine⟨_,rfl,.inl ⟨_,.inl hd⟩,?_⟩;refine⟨_,_,_,_,_,rfl,ho,T.k_Walk,T.n_Walk_place,ziy _ _ _ _,?_⟩;refine⟨_,zkW.k (k:=.inl p) hd,?_⟩;rw [zgF,show ((zbh ks p).map V.int).getD (V.int 0)=V.int ((zbh ks p).getD 0) by cases zbh ks p <;> rfl];refine⟨by show 3<=sizeLine;decide,?_⟩;intro p1 n1;generalize U':upd _ p1 _=H1;obtain ⟨S1,e1⟩:=zak n1 U';clear U';exact h p1 H1 S1 e1 n1
  ·exact h.elim
theorem zdm:zao ["self","row","place","sign"] ["self"] (zaj zcn):=by walk_at "s"
def zfS (a:Ad):Sp:=fun vs H Q _=>match vs with
 | [.ref o]=>∃ (t d:Addr) (r p:Int) (ks:Mk2) (m:Ma),WK a.Walk H o t d r p ks/\zdw H t m/\OkM m/\OkS m r ks/\∀ (b:Addr) (e:En) (H':Hp),Sub H H'->ent m r p ks=some e->za9 m.length (sgn m) e=true->Ent H' b e->Q (.ref b) H'
 | _=>False
theorem zdg (T:Tx K mg a):za3 P w K mg base CX0 2 a.Walk_entry a.Walk_entry_d ["self"] (zfS a):=by
 have G_Walk_look:=zdJ (P:=P) (w:=w) (base:=base) T;refine T.q_Walk_entry.f.ok zdm (fun vs H Q E h=>?_) (fun cdv A outer s H vs Q E hr h=>?_)
 ·unfold zfS at h;split at h
  ·rfl
  ·exact h.elim
 ·unfold zfS at h;split at h
  ·have nd:=zdm.nd;have hu:=zaD hr;rename_i o;obtain⟨t,d,r,p,ks,m,W,hm,M,S,h⟩:=h;refine⟨_,(zac (zck (zbH (qv 0) T.k_Walk T.m_Walk_look G_Walk_look (hr.mono (by decide)) T.q_Walk_look.b .nil zaw) (zaM (K:=K) (n:=3) rfl rfl (zam (zag (i:=1) nd rfl (by walk_at "o")) (zam (zag (i:=2) nd rfl (by walk_at "o")) (zam (zag (i:=3) nd rfl (by walk_at "o")) zaN)))))
  (zae (zap (za1 (za2 (K:=K) rfl) (za1 (za2 (K:=K) rfl) (zca (qv 0) rfl) (qv 1) (fun _ _=>rfl)) (qv 3) (fun _ _=>rfl))))),?_⟩
   obtain⟨⟨dx,ho⟩,hd⟩:=id W;refine⟨_,_,_,rfl,ho,rfl,?_⟩;refine⟨t,d,r,p,ks,W,fun q H1 S1 hq nq=>?_⟩;have hm1:=hm.stay (.sub S1);obtain⟨rs,hm1,hnd,hrw⟩:=hm1;obtain⟨es,e,h1,h2,h3,h4,h5⟩:=S.at M p;have hv:=S.val M p;refine⟨_,SqT.of hq,rfl,?_⟩;refine⟨_,_,_,_,_,rfl,S1 _ _ ho,T.k_Walk,T.n_Walk_table,zoV _ _ _ _,?_⟩;walk_at "w";have hlt:r.toNat<rs.length:=by rw [hrw.1];have:=S.r0;have:=S.r1;omega
   have hrd:rs[r.toNat]?=some rs[r.toNat]:=zoZ hlt;obtain⟨es',he',as,hra⟩:=hrw.at hrd;rw [h1] at he';cases he';refine⟨_,_,SqL.of hm1,zce (v:=V.ref rs[r.toNat]) S.r0 (by rw [zoY,hrd];rfl),?_⟩;walk_at "w";have hlt2:((zbh ks p).getD 0).toNat<as.length:=by rw [hra.2.1,h5];omega
   have had:as[((zbh ks p).getD 0).toNat]?=some as[((zbh ks p).getD 0).toNat]:=zoZ hlt2;obtain⟨e',hee,heb⟩:=hra.2.at had;rw [h2] at hee;cases hee;refine⟨_,_,SqL.of hra.1,zce (v:=V.ref as[((zbh ks p).getD 0).toNat]) hv.1 (by rw [zoY,had];rfl),?_⟩;exact h _ e H1 S1 h3 h4 heb
  ·exact h.elim
theorem zdN:zao ["self","sign"] ["self","sign"] (zaj zc2):=by walk_at "s"
def zhi (a:Ad):Sp:=fun vs H Q _=>match vs with
 | [.ref o,.int s]=>∃ (t d:Addr) (r p:Int) (ks:Mk2),WK a.Walk H o t d r p ks/\ks.length<=10000/\∀ H':Hp,H' d=some (.dK (dcI (iv (nxt ks p s))))->(∀ c u,H c=some u->c≠d->H' c=some u)->Q .non H'
 | _=>False
theorem zgj (T:Tx K mg a):za3 P w K mg base CX0 1 a.Walk_mark a.Walk_mark_d ["self","sign"] (zhi a):=by
 refine T.q_Walk_mark.f.ok zdN (fun vs H Q E h=>?_) (fun cdv A outer s H vs Q E hr h=>?_)
 ·unfold zhi at h;split at h
  ·rfl
  ·exact h.elim
 ·unfold zhi at h;split at h
  ·have nd:=zdN.nd;have hu:=zaD hr;rename_i o s';obtain⟨t,d,r,p,ks,⟨⟨dx,ho⟩,hd⟩,hlen,h⟩:=h;refine⟨_,(zae (zbV (zb1 zhO (qv 1) zai) (zae (zbB (zkD (zca (qv 0) rfl) (zca (qv 0) rfl) zai ⟨rfl,rfl,rfl,rfl⟩))) (zae (zjI hu (zca (qv 0) rfl) (zca (qv 0) rfl) (qv 1) rfl)))),?_⟩;walk_at "w";refine ifB.mk (fun hs=>?_) (fun hs=>?_)
   ·walk_at "w";refine⟨_,_,_,_,_,rfl,ho,T.k_Walk,T.n_Walk_marks,zkU _ _ _ _,?_⟩;refine⟨_,rfl,.inl ⟨_,.inl hd⟩,?_⟩;refine⟨_,_,_,_,_,rfl,ho,T.k_Walk,T.n_Walk_place,ziy _ _ _ _,?_⟩;have hs:s'=0:=zpI hs;refine⟨_,.inl p,hd,rfl,fun v _=>?_,fun hn=>?_⟩
    ·rw [zmx];exact h _ (by rw [zad];unfold nxt;rw [zpC hs]) fun c u e ne=>by rw [zal ne];exact e
    ·rw [zgF] at hn;have hn:zbh ks p=none:=by
      cases e:zbh ks p with
      | none=>rfl
      | some z=>rw [e] at hn;cases hn
     exact h H (by unfold nxt;rw [zpC hs,ziW hn];exact hd) fun c u e ne=>e
   ·walk_at "w";refine⟨_,_,_,_,_,rfl,ho,T.k_Walk,T.n_Walk_marks,zkU _ _ _ _,?_⟩;refine⟨_,_,_,_,_,rfl,ho,T.k_Walk,T.n_Walk_place,ziy _ _ _ _,?_⟩;have hs:¬ s'=0:=of_decide_eq_false hs;refine⟨_,_,rfl,zmu.k (k:=.inl p) hd ?_,?_⟩
    ·rw [zoX,zoX];exact zpb hlen (by decide)
    ·rw [zj3];exact h _ (by rw [zad];unfold nxt;rw [zpB hs]) fun c u e ne=>by rw [zal ne];exact e
  ·exact h.elim
theorem zdO:zao ["self","entry","sign","way","row"] ["self"] (zaj zc3):=by walk_at "s"
def zhj (a:Ad):Sp:=fun vs H Q _=>match vs with
 | [.ref o]=>∃ (t d:Addr) (r p:Int) (ks:Mk2) (m:Ma),WK a.Walk H o t d r p ks/\zdw H t m/\OkM m/\OkS m r ks/\ks.length<=10000 /\
   (ent m r p ks=some []->∀ H',Sub H H'->Q (.bl false) H') /\
   ∀ (s w r':Int) (H':Hp),ent m r p ks=some [s,w,r']->za9 m.length (sgn m) [s,w,r']=true->WK a.Walk H' o t d r' (p+w) (nxt ks p s)->(∀ c u,H c=some u->c≠o->c≠d->H' c=some u)->Q (.bl true) H'
 | _=>False
theorem zdK (T:Tx K mg a):za3 P w K mg base CX0 3 a.Walk_step a.Walk_step_d ["self"] (zhj a):=by
 have G_Walk_entry:=zdg (P:=P) (w:=w) (base:=base) T;have G_Walk_mark:=zgj (P:=P) (w:=w) (base:=base) T;refine T.q_Walk_step.f.ok zdO (fun vs H Q E h=>?_) (fun cdv A outer s H vs Q E hr h=>?_)
 ·unfold zhj at h;split at h
  ·rfl
  ·exact h.elim
 ·unfold zhj at h;split at h
  ·have nd:=zdO.nd;have hu:=zaD hr;rename_i o;obtain⟨t,d,r,p,ks,m,W,hm,M,S,hlen,h0,h1⟩:=h;refine⟨_,(zac (zar (i:=1) nd rfl (by walk_at "o") (zbH (qv 0) T.k_Walk T.m_Walk_entry G_Walk_entry (hr.mono (by decide)) T.q_Walk_entry.b .nil zaw))
  (zac (zbV (zb1 (zgl hr) (qv 1) (zaG zab)) (zae (zap zbZ)) zas)
  (zac (zck (qv 1) (zaM (K:=K) (n:=3) rfl rfl (zam (zag (i:=2) nd rfl (by walk_at "o")) (zam (zag (i:=3) nd rfl (by walk_at "o")) (zam (zag (i:=4) nd rfl (by walk_at "o")) zaN)))))
  (zac (zbB (zl2 (qv 0) T.k_Walk T.m_Walk_mark G_Walk_mark (hr.mono (by decide)) T.q_Walk_mark.b .nil zaw (zaa (qv 2) zab)))
  (zac (zjJ (qv 0) (qv 3) zmY)
  (zac (zgo (qv 0) (qv 4) rfl)
  (zae (zap zbZ)))))))),?_⟩
   obtain⟨⟨dx,ho⟩,hd⟩:=id W;refine⟨_,_,_,rfl,ho,rfl,?_⟩;refine⟨t,d,r,p,ks,m,W,hm,M,S,fun b e H0 S0 he hok hE=>?_⟩;refine⟨by show 0<=sizeLine;decide,?_⟩;intro p1 n1;generalize U':upd _ p1 _=H1;obtain ⟨S1,e1⟩:=zak n1 U';clear U';have W1:=(W.sub S0).sub S1;obtain⟨⟨dx1,ho1⟩,hd1⟩:=id W1;refine⟨_,_,(Ent.den (e:=e) (S1 _ _ hE)),(Ent.den (e:=[]) e1),zch _,?_⟩;rw [zi0];walk_at "w";refine ifB.dec (fun z=>?_) (fun z=>?_)
   ·subst z;exact h0 he H1 (S0.trans S1)
   ·obtain⟨s',w',r',rfl,a0,a1,a2,a3,a4⟩:=zaX hok z;refine⟨_,SqT.of (S1 _ _ hE),rfl,?_⟩;refine⟨_,_,_,rfl,ho1,rfl,?_⟩;refine⟨t,d,r,p,ks,W1,hlen,fun H2 g2 k2=>?_⟩;have nod:o≠d:=fun q=>by rw [q,hd1] at ho1;cases ho1
    have ho2:=k2 _ _ ho1 nod;refine⟨_,_,_,_,_,rfl,ho2,T.k_Walk,T.n_Walk_place,ziy _ _ _ _,?_⟩;refine⟨_,_,rfl,rfl,?_⟩;refine⟨_,_,ho2,zln _ _ _ _,?_⟩;rw [zkV];refine⟨_,_,_,_,rfl,zad,T.k_Walk,T.n_Walk_row,zln _ _ _ _,?_⟩;rw [znU];walk_at "w";refine h1 s' w' r' _ he hok ⟨⟨_,zad⟩,by rw [zal nod.symm,zal nod.symm];exact g2⟩ fun c u e hc1 hc2=>by rw [zal hc1,zal hc1];exact k2 _ _ ((S0.trans S1) _ _ e) hc2
  ·exact h.elim
theorem zdn:zao ["self"] ["self"] (zaj zco):=by walk_at "s"
def zfY (a:Ad):Sp:=fun vs H Q _=>match vs with
 | [.ref o]=>∃ (t d:Addr) (r p:Int) (ks:Mk2),WK a.Walk H o t d r p ks/\ks.length<65536/\∀ (q l:Addr) (js:Mk2) (H':Hp),Sub H H'->js.Perm ks->Srt js->H' q=some (.tup [.int r,.int p,.ref l])->zhZ H' l js->H l=none->Q (.ref q) H'
 | _=>False
theorem zfD (T:Tx K mg a):za3 P w K mg base CX0 1 a.Walk_setup a.Walk_setup_d ["self"] (zfY a):=by
 refine T.q_Walk_setup.f.ok zdn (fun vs H Q E h=>?_) (fun cdv A outer s H vs Q E hr h=>?_)
 ·unfold zfY at h;split at h
  ·rfl
  ·exact h.elim
 ·unfold zfY at h;split at h
  ·have nd:=zdn.nd;have hu:=zaD hr;rename_i o;obtain⟨t,d,r,p,ks,W,h64,h⟩:=h;refine⟨_,(zae (zap (zaG (zaa (zca (qv 0) rfl) (zaa (zca (qv 0) rfl) (zaa (zah (znx rfl) rfl T.z_sorted ziG (zaa (zle PySem.F.plainAttrs_dict PySem.F.slot_dict_items PySem.F.type_dict_items zmb (zca (qv 0) rfl)) zab)) zab)))))),?_⟩;obtain⟨⟨dx,ho⟩,hd⟩:=id W;refine⟨_,_,_,_,_,rfl,ho,T.k_Walk,T.n_Walk_row,znT _ _ _ _,?_⟩;refine⟨_,_,_,_,_,rfl,ho,T.k_Walk,T.n_Walk_place,ziy _ _ _ _,?_⟩;refine⟨_,_,_,_,_,rfl,ho,T.k_Walk,T.n_Walk_marks,zkU _ _ _ _,?_⟩;refine⟨.inr (.inr (.inl ⟨rfl,.inl ⟨_,hd⟩⟩)),?_⟩;refine⟨⟨_,hd⟩,?_⟩;intro p1 n1;generalize U':upd _ p1 _=H1;obtain ⟨S1,e1⟩:=zak n1 U';clear U';refine⟨d,iv ks,e1,S1 _ _ hd,by rw [zoX];exact h64,fun ps bs l H2 S2 hp hs hA hl nl _=>?_⟩;obtain⟨js,rfl,pj,sj⟩:=zlL hp hs;refine⟨by show 3<=sizeLine;decide,?_⟩;intro p3 n3;generalize U':upd _ p3 _=H3;obtain ⟨S3,e3⟩:=zak n3 U';clear U';exact h p3 l js H3 ((S1.trans S2).trans S3) pj sj e3 ⟨bs,S3 _ _ hl,hA.mono fun _ _ _ z=>S3 _ _ z⟩ (S1.free nl)
  ·exact h.elim
theorem zcL:zao [] [] (zaj zb3):=by walk_at "s"
def zfT:Sp:=fun vs H Q _=>match vs with
 | []=>∀ (q:Addr) (H':Hp),Sub H H'->SU H' q 0 0 []->Q (.ref q) H'
 | _=>False
theorem zeC (T:Tx K mg a):za3 P w K mg base CX0 1 a.first_setup a.first_setup_d [] (zfT):=by
 refine T.q_first_setup.f.ok zcL (fun vs H Q E h=>?_) (fun cdv A outer s H vs Q E hr h=>?_)
 ·unfold zfT at h;split at h
  ·rfl
  ·exact h.elim
 ·unfold zfT at h;split at h
  ·have nd:=zcL.nd;have hu:=zaD hr;refine⟨_,(zae (zap (zaG (zaa zai (zaa zai (zaa (zaR zab) zab)))))),?_⟩;refine⟨by decide,?_⟩;intro p1 n1;generalize U':upd _ p1 _=H1;obtain ⟨S1,e1⟩:=zak n1 U';clear U';refine⟨by show 3<=sizeLine;decide,?_⟩;intro p2 n2;generalize U':upd _ p2 _=H2;obtain ⟨S2,e2⟩:=zak n2 U';clear U';exact h p2 H2 (S1.trans S2) ⟨p1,e2,[],S2 _ _ e1,.nil⟩
  ·exact h.elim
theorem zhS:zao ["machine"] ["machine"] (zaj zg9):=by walk_at "s"
def zfQ (a:Ad):Sp:=fun vs H Q _=>match vs with
 | [.ref t]=>∃ m:Ma,zdw H t m/\isM m=true/\∀ (o d:Addr) (H':Hp),Sub H H'->WK a.Walk H' o t d 0 0 []->H o=none->H d=none->Q (.ref o) H'
 | _=>False
theorem zmF {m:Ma} (h:isM m=true):Bd 100 m:=by
 have M:=OkM.of h;exact⟨zpc M.n4 (by decide),fun r hr=>by have:=M.len r hr;have:=M.s4;omega⟩
theorem zhJ (T:Tx K mg a):za3 P w K mg base CX0 5 a.begun a.begun_d ["machine"] (zfQ a):=by
 have G_Walk___init__:=zdS (P:=P) (w:=w) (base:=base) T;have G_first_setup:=zeC (P:=P) (w:=w) (base:=base) T;have G_must_machine:=(zej (P:=P) (w:=w) (base:=base) T).noE;refine T.q_begun.f.ok zhS (fun vs H Q E h=>?_) (fun cdv A outer s H vs Q E hr h=>?_)
 ·unfold zfQ at h;split at h
  ·rfl
  ·exact h.elim
 ·unfold zfQ at h;split at h
  ·have nd:=zhS.nd;have hu:=zaD hr;rename_i t;obtain⟨m,hm,hM,h⟩:=h;refine⟨_,(zac (zbB (zan G_must_machine (hr.mono (by decide)) rfl T.q_must_machine.g T.q_must_machine.f.kp T.q_must_machine.b .nil zaw (zaa (qv 0) zab)))
  (zae (zap (zl1 T.mk_Walk G_Walk___init__ (hr.mono (by decide)) rfl T.g_Walk T.q_Walk___init__.b .nil zaw (zaa (qv 0) (zaa (zkB G_first_setup (hr.mono (by decide)) rfl T.q_first_setup.g T.q_first_setup.f.kp T.q_first_setup.b .nil zaw) zab)))))),?_⟩
   refine⟨m,hm,zmF hM,fun _ H1 S1=>?_,fun z=>by rw [hM] at z;cases z⟩;walk_at "w";intro q H2 S2 hS;walk_at "w";intro o dx n1 n2 ne;have T2:Sub H2 (upd (upd H2 dx (.own o)) o (.ins a.Walk dx [])):=(Sub.new n2).upd n1;refine⟨dx,0,0,[],zad,hS.sub T2,by simp,by simp,fun d H3 nd W3 k3=>⟨rfl,?_⟩⟩;have S23:Sub H2 H3:=fun c u e=>k3 c u (T2 _ _ e) (zay e n1)
   exact h o d H3 ((S1.trans S2).trans S23) W3 (S1.free (S2.free n1)) (S1.free (S2.free (T2.free nd)))
  ·exact h.elim
theorem zll:zao ["machine","most","walk","steps","word"] ["machine","most"] (zaj zmk):=by walk_at "s"
def zjU:Sp:=fun vs H Q _=>match vs with
 | [.ref t,.int most]=>∃ m:Ma,zdw H t m/\isM m=true/\0<=most/\most<=1000/\∀ (q l:Addr) (x:St3) (js:Mk2) (H':Hp),Sub H H'->(tr m most.toNat (0,0,[])).getLast?=some x->RU H' q (wd m x) ((tr m most.toNat (0,0,[])).length-1) (l,(x.1,x.2.1,js))->js.Perm x.2.2->Srt js->H l=none->Q (.ref q) H'
 | _=>False
theorem zne (T:Tx K mg a):za3 P w K mg base CX0 6 a.run a.run_d ["machine","most"] (zjU):=by
 have G_begun:=zhJ (P:=P) (w:=w) (base:=base) T;have G_Walk_step:=zdK (P:=P) (w:=w) (base:=base) T;have G_Walk_entry:=zdg (P:=P) (w:=w) (base:=base) T;have G_Walk_setup:=zfD (P:=P) (w:=w) (base:=base) T;refine T.q_run.f.ok zll (fun vs H Q E h=>?_) (fun cdv A outer s H vs Q E hr h=>?_)
 ·unfold zjU at h;split at h
  ·rfl
  ·exact h.elim
 ·unfold zjU at h;split at h
  ·have nd:=zll.nd;have hu:=zaD hr;rename_i t most;obtain⟨m,hm,hM,hm0,hm60,h⟩:=h;have M:=OkM.of hM;refine⟨_,(zac (zar (i:=2) nd rfl (by walk_at "o") (zan G_begun (hr.mono (by decide)) rfl T.q_begun.g T.q_begun.f.kp T.q_begun.b .nil zaw (zaa (qv 0) zab)))
  (zac (zar (i:=3) nd rfl (by walk_at "o") zai)
  (zac (zfK PassesOwn.never (PW.pt (zjM (zb1 zoH (qv 3) (qv 1)) (zjP (zcG (zbH (qv 2) T.k_Walk T.m_Walk_step G_Walk_step (hr.mono (by decide)) T.q_Walk_step.b .nil zaw))))) (zae (zgn (i:=3) nd rfl (by walk_at "o") zai zmZ)))
  (zac (zar (i:=4) nd rfl (by walk_at "o") (zjC (zb1 (zgl hr) (zbH (qv 2) T.k_Walk T.m_Walk_entry G_Walk_entry (hr.mono (by decide)) T.q_Walk_entry.b .nil zaw) (zaG zab)) zhL zhL))
  (zae (zap (zaG (zaa (qv 4) (zaa (qv 3) (zaa (zbH (qv 2) T.k_Walk T.m_Walk_setup G_Walk_setup (hr.mono (by decide)) T.q_Walk_setup.b .nil zaw) zab)))))))))),?_⟩
   refine⟨m,hm,hM,fun o d H1 S1 W1 no nd=>?_⟩;refine⟨fun k σ H5=>∃ (sts:List St3) (x:St3) (v4:Option V),k=most.toNat+1-sts.length/\σ=[some (.ref t),some (.int most),some (.ref o),some (.int (sts.length-1)),v4]/\Sub H H5/\WK a.Walk H5 o t d x.1 x.2.1 x.2.2/\At m most.toNat (0,0,[]) sts x/\OkS m x.1 x.2.2/\x.2.2.length<=sts.length,
    ⟨_,[(0,0,[])],(0,0,[]),none,rfl,rfl,S1,W1,At.start,⟨by decide,by have:=M.n1;omega,by simp,by simp⟩,by simp⟩,?_⟩
   rintro k σ H5 ⟨sts,x,v4,rfl,rfl,S5,W5,hAt,hok,hxl⟩;have hl5:=hAt.len;obtain⟨⟨dx5,ho5⟩,hd5⟩:=id W5;walk_at "w";refine ifB.dec (fun z=>?_) (fun z=>?_)
   ·have z:(sts.length:Int)-1<most:=z;refine⟨_,_,_,rfl,ho5,rfl,?_⟩;refine⟨t,d,x.1,x.2.1,x.2.2,m,W5,hm.stay (.sub S5),M,hok,by omega,fun he H6 S6=>?_,fun s' w' r' H6 he hE W6 k6=>?_⟩
    ·have hst:=hAt.done (.inl (zhV he));have S06:=S5.trans S6;have W6:=W5.sub S6;obtain⟨⟨dx6,ho6⟩,hd6⟩:=id W6;refine⟨_,_,_,rfl,ho6,rfl,?_⟩;refine⟨t,d,x.1,x.2.1,x.2.2,m,W6,hm.stay (.sub S06),M,hok,fun b e HQ SQ he hoke hE=>?_⟩;refine⟨by show 0<=sizeLine;decide,?_⟩;intro p7 n7;generalize U':upd _ p7 _=H7;obtain ⟨S7,e7⟩:=zak n7 U';clear U';refine⟨_,_,(Ent.den (e:=e) (S7 _ _ hE)),(Ent.den (e:=[]) e7),zch _,?_⟩;rw [zi0];walk_at "w";have W7:=(W6.sub SQ).sub S7;obtain⟨⟨dx7,ho7⟩,hd7⟩:=id W7;have S07:=(S06.trans SQ).trans S7;refine ifB.dec (fun z=>?_) (fun z=>?_)
     ·have hw:wd m x="ends":=by unfold wd;rw [he,z,zpC rfl]
      refine⟨_,_,_,rfl,ho7,rfl,?_⟩;refine⟨t,d,x.1,x.2.1,x.2.2,W7,by omega,fun q l js H8 S8 pj sj hq hl nl=>?_⟩;refine⟨by show 3<=sizeLine;decide,?_⟩;intro p9 n9;generalize U':upd _ p9 _=H9;obtain ⟨S9,e9⟩:=zak n9 U';clear U';rw [hst] at hAt e9;exact h p9 l x js H9 ((S07.trans S8).trans S9) hAt.last ⟨q,by rw [hw];exact e9,S9 _ _ hq,hl.sub S9⟩ pj sj (S07.free nl)
     ·have hw:wd m x="on":=by unfold wd;rw [he,zpB (fun q=>z (zpK q))]
      refine⟨_,_,_,rfl,ho7,rfl,?_⟩;refine⟨t,d,x.1,x.2.1,x.2.2,W7,by omega,fun q l js H8 S8 pj sj hq hl nl=>?_⟩;refine⟨by show 3<=sizeLine;decide,?_⟩;intro p9 n9;generalize U':upd _ p9 _=H9;obtain ⟨S9,e9⟩:=zak n9 U';clear U';rw [hst] at hAt e9;exact h p9 l x js H9 ((S07.trans S8).trans S9) hAt.last ⟨q,by rw [hw];exact e9,S9 _ _ hq,hl.sub S9⟩ pj sj (S07.free nl)
    ·obtain⟨s2,w2,r2,e2,a0,a1,a2,a3,a4⟩:=zaX hE (by simp);cases e2;have S06:Sub H H6:=fun c u e=>k6 c u (S5 _ _ e) (zay e no) (zay e nd)
     have hnl:=zju x.2.2 x.2.1 s';refine⟨_,fun σ' H' z=>z,?_⟩;refine⟨_,rfl,?_⟩;refine⟨_,_,rfl,rfl,?_⟩;refine⟨_,?_,sts++[(r',x.2.1+w',nxt x.2.2 x.2.1 s')],(r',x.2.1+w',nxt x.2.2 x.2.1 s'),v4,rfl,?_,S06,W6,hAt.step (zjV he) (by omega),hok.nxt a0 a1 a3 a4,?_⟩
     ·rw [zo7];show most.toNat+1-(sts.length+1)<_;omega
     ·have:((sts++[(r',x.2.1+w',nxt x.2.2 x.2.1 s')]).length:Int)-1=(sts.length:Int)-1+1:=by rw [zo7];show ((sts.length+1:Nat):Int)-1=_;omega
      rw [this]
      rfl
     ·rw [zo7];show (nxt x.2.2 x.2.1 s').length<=sts.length+1;omega
   ·have hst:=hAt.done (.inr (by omega));have S06:=S5;have W6:=W5;have ho6:=ho5;refine⟨_,_,_,rfl,ho6,rfl,?_⟩;refine⟨t,d,x.1,x.2.1,x.2.2,m,W6,hm.stay (.sub S06),M,hok,fun b e HQ SQ he hoke hE=>?_⟩;refine⟨by show 0<=sizeLine;decide,?_⟩;intro p7 n7;generalize U':upd _ p7 _=H7;obtain ⟨S7,e7⟩:=zak n7 U';clear U';refine⟨_,_,(Ent.den (e:=e) (S7 _ _ hE)),(Ent.den (e:=[]) e7),zch _,?_⟩;rw [zi0];walk_at "w";have W7:=(W6.sub SQ).sub S7;obtain⟨⟨dx7,ho7⟩,hd7⟩:=id W7;have S07:=(S06.trans SQ).trans S7;refine ifB.dec (fun z=>?_) (fun z=>?_)
    ·have hw:wd m x="ends":=by unfold wd;rw [he,z,zpC rfl]
     refine⟨_,_,_,rfl,ho7,rfl,?_⟩;refine⟨t,d,x.1,x.2.1,x.2.2,W7,by omega,fun q l js H8 S8 pj sj hq hl nl=>?_⟩;refine⟨by show 3<=sizeLine;decide,?_⟩;intro p9 n9;generalize U':upd _ p9 _=H9;obtain ⟨S9,e9⟩:=zak n9 U';clear U';rw [hst] at hAt e9;exact h p9 l x js H9 ((S07.trans S8).trans S9) hAt.last ⟨q,by rw [hw];exact e9,S9 _ _ hq,hl.sub S9⟩ pj sj (S07.free nl)
    ·have hw:wd m x="on":=by unfold wd;rw [he,zpB (fun q=>z (zpK q))]
     refine⟨_,_,_,rfl,ho7,rfl,?_⟩;refine⟨t,d,x.1,x.2.1,x.2.2,W7,by omega,fun q l js H8 S8 pj sj hq hl nl=>?_⟩;refine⟨by show 3<=sizeLine;decide,?_⟩;intro p9 n9;generalize U':upd _ p9 _=H9;obtain ⟨S9,e9⟩:=zak n9 U';clear U';rw [hst] at hAt e9;exact h p9 l x js H9 ((S07.trans S8).trans S9) hAt.last ⟨q,by rw [hw];exact e9,S9 _ _ hq,hl.sub S9⟩ pj sj (S07.free nl)
  ·exact h.elim
theorem zhU:zao ["machine","most","walk","told"] ["machine","most"] (zaj zhb):=by walk_at "s"
def zlq (H:Hp) (t:Addr) (x:St3):Prop:=H t=some (.tup [.int x.1,.int x.2.1,.int ((zbh x.2.2 x.2.1).getD 0)])
def zfV:Sp:=fun vs H Q _=>match vs with
 | [.ref t,.int most]=>∃ m:Ma,zdw H t m/\isM m=true/\0<=most/\most<=1000/\∀ (f:Addr) (ts:List Addr) (H':Hp),Sub H H'->H' f=some (.lst (ts.map V.ref))->zba (zlq H') ts (tr m most.toNat (0,0,[]))->H f=none->Q (.ref f) H'
 | _=>False
theorem zkA (T:Tx K mg a):za3 P w K mg base CX0 6 a.looks a.looks_d ["machine","most"] (zfV):=by
 have G_begun:=zhJ (P:=P) (w:=w) (base:=base) T;have G_Walk_look:=zdJ (P:=P) (w:=w) (base:=base) T;have G_Walk_step:=zdK (P:=P) (w:=w) (base:=base) T;refine T.q_looks.f.ok zhU (fun vs H Q E h=>?_) (fun cdv A outer s H vs Q E hr h=>?_)
 ·unfold zfV at h;split at h
  ·rfl
  ·exact h.elim
 ·unfold zfV at h;split at h
  ·have nd:=zhU.nd;have hu:=zaD hr;rename_i t most;obtain⟨m,hm,hM,hm0,hm60,h⟩:=h;have M:=OkM.of hM;refine⟨_,(zac (zar (i:=2) nd rfl (by walk_at "o") (zan G_begun (hr.mono (by decide)) rfl T.q_begun.g T.q_begun.f.kp T.q_begun.b .nil zaw (zaa (qv 0) zab)))
  (zac (zar (i:=3) nd rfl (by walk_at "o") (zaR (zaa (zbH (qv 2) T.k_Walk T.m_Walk_look G_Walk_look (hr.mono (by decide)) T.q_Walk_look.b .nil zaw) zab)))
  (zac (zfK PassesOwn.never (PW.pt (zjM (zb1 zjN (zah (za6 (K:=K) rfl) rfl T.z_len za4 (zaa (qv 3) zab)) (qv 1)) (zjP (zcG (zbH (qv 2) T.k_Walk T.m_Walk_step G_Walk_step (hr.mono (by decide)) T.q_Walk_step.b .nil zaw))))) (zae (zbB (zg3 PySem.F.plainAttrs_list PySem.F.slot_list_append PySem.F.type_list_append zg6 (qv 3) (zaa (zbH (qv 2) T.k_Walk T.m_Walk_look G_Walk_look (hr.mono (by decide)) T.q_Walk_look.b .nil zaw) zab)))))
  (zae (zap (qv 3)))))),?_⟩
   refine⟨m,hm,hM,fun o d H1 S1 W1 no nd=>?_⟩;obtain⟨⟨dx,ho1⟩,hd1⟩:=id W1;refine⟨_,_,_,rfl,ho1,rfl,?_⟩;refine⟨t,d,0,0,[],W1,fun q H2 S2 hq nq=>?_⟩;refine⟨by show 1<=sizeLine;decide,?_⟩;intro p3 n3;generalize U':upd _ p3 _=H3;obtain ⟨S3,e3⟩:=zak n3 U';clear U';have S13:=S2.trans S3;have S03:=S1.trans S13;have nf:H p3=none:=S1.free (S2.free n3);refine⟨fun k σ H5=>∃ (ts:List Addr) (sts:List St3) (x:St3),k=most.toNat+1-sts.length/\σ=[some (.ref t),some (.int most),some (.ref o),some (.ref p3)]/\Sub H H5/\WK a.Walk H5 o t d x.1 x.2.1 x.2.2/\H5 p3=some (.lst (ts.map V.ref))/\zba (zlq H5) ts sts/\At m most.toNat (0,0,[]) sts x/\OkS m x.1 x.2.2/\x.2.2.length<=sts.length,⟨_,[q],[(0,0,[])],(0,0,[]),rfl,rfl,S03,W1.sub S13,e3,zba.app .nil (S3 _ _ hq),At.start,⟨by decide,by have:=M.n1;omega,by simp,by simp⟩,by simp⟩,?_⟩;rintro k σ H5 ⟨ts,sts,x,rfl,rfl,S5,W5,hf5,hA5,hAt,hok,hxl⟩;have hl5:=hAt.len;have hfl:((ts.map V.ref).length:Int)=sts.length:=by rw [zoX,hA5.1]
   obtain⟨⟨dx5,ho5⟩,hd5⟩:=id W5;refine⟨_,.inl (SqL.of hf5),?_⟩;rw [hfl];walk_at "w";refine ifB.dec (fun z=>?_) (fun z=>?_)
   ·have z:(sts.length:Int)<=most:=z;refine⟨_,_,_,rfl,ho5,rfl,?_⟩;refine⟨t,d,x.1,x.2.1,x.2.2,m,W5,hm.stay (.sub S5),M,hok,by omega,fun he H6 S6=>?_,fun s' w' r' H6 he hE W6 k6=>?_⟩
    ·have hst:=hAt.done (.inl (zhV he));rw [hst] at hA5;exact h p3 ts H6 (S5.trans S6) (S6 _ _ hf5) (hA5.mono fun _ _ _ z=>S6 _ _ z) nf
    ·obtain⟨s2,w2,r2,e2,a0,a1,a2,a3,a4⟩:=zaX hE (by simp);cases e2;have S06:Sub H H6:=fun c u e=>k6 c u (S5 _ _ e) (zay e no) (zay e nd)
     have st6:=ziB.two W5 k6;have hf6:=st6.refs _ _ hf5;have hA6:zba (zlq H6) ts sts:=hA5.mono fun _ _ _ z=>st6.tup _ _ z
     obtain⟨⟨dx6,ho6⟩,hd6⟩:=id W6;have hnl:=zju x.2.2 x.2.1 s';refine⟨_,fun σ' H' z=>z,?_⟩;refine⟨.inl ⟨rfl,_,SqL.of hf6⟩,?_⟩;refine⟨_,_,_,rfl,ho6,rfl,?_⟩;refine⟨t,d,r',x.2.1+w',nxt x.2.2 x.2.1 s',W6,fun q7 H7 S7 hq7 nq7=>?_⟩;refine⟨_,S7 _ _ hf6,?_,?_⟩
     ·rw [zoX,hA6.1];exact zpb (show sts.length<=1100 by omega) (by decide)
     have hf7:=S7 _ _ hf6;have lk:∀ (b:Addr) (y:St3),zlq H7 b y->zlq (upd H7 p3 (.lst (ts.map V.ref++[V.ref q7]))) b y:=fun b y z=>by
      show upd H7 p3 _ b=_;rw [zal (fun e=>by rw [zlq,e,hf7] at z;cases z)];exact z
     have nop:o≠p3:=fun e=>by rw [e,hf6] at ho6;cases ho6
     have ndp:d≠p3:=fun e=>by rw [e,hf6] at hd6;cases hd6
     refine⟨_,?_,ts++[q7],sts++[(r',x.2.1+w',nxt x.2.2 x.2.1 s')],(r',x.2.1+w',nxt x.2.2 x.2.1 s'),rfl,rfl,(S06.trans S7).upd nf,⟨⟨dx6,by rw [zal nop];exact S7 _ _ ho6⟩,by rw [zal ndp];exact S7 _ _ hd6⟩,by rw [zad,zo5];rfl,(hA6.mono fun b y _ z=>lk b y (S7 _ _ z)).app (lk _ _ hq7),hAt.step (zjV he) (by omega),hok.nxt a0 a1 a3 a4,?_⟩
     ·rw [zo7];show most.toNat+1-(sts.length+1)<_;omega
     ·rw [zo7];show (nxt x.2.2 x.2.1 s').length<=sts.length+1;omega
   ·have hst:=hAt.done (.inr (by omega));rw [hst] at hA5;exact h p3 ts H5 S5 hf5 hA5 nf
  ·exact h.elim
theorem zdo:zao ["machine"] ["machine"] (zaj zcp):=by walk_at "s"
def zb7:Sp:=fun vs H Q _=>match vs with
 | [.ref t]=>∃ m:Ma,zdw H t m/\isM m=true/\∀ (l:Addr) (as:List Addr) (H':Hp),Sub H H'->H' l=some (.lst (as.map V.ref))->zba (zlo H') as (zga m)->H l=none->Q (.ref l) H'
 | _=>False
theorem zdh (T:Tx K mg a):za3 P w K mg base CX0 1 a.entries_in a.entries_in_d ["machine"] (zb7):=by
 refine T.q_entries_in.f.ok zdo (fun vs H Q E h=>?_) (fun cdv A outer s H vs Q E hr h=>?_)
 ·unfold zb7 at h;split at h
  ·rfl
  ·exact h.elim
 ·unfold zb7 at h;split at h
  ·have nd:=zdo.nd;have hu:=zaD hr;rename_i t;obtain⟨m,⟨rs,hm,hnd,hrw⟩,hM,h⟩:=h;have M:=OkM.of hM;have mn4:=M.n4;have ms4:=M.s4;refine⟨_,(zae (zap (znn (own:=["row","entries","sign","entry"]) (fr:=[]) rfl (by walk_at "comp_ok") (zel rfl T.z_enumerate (zaa (qv 0) zab)) (fun _ _ _ _=>(zaM (K:=K) (n:=2) rfl rfl (zam (zag (i:=0) (show List.Nodup (α:=Str) ["row","entries","sign","entry"] from by decide +kernel) rfl (by walk_at "o")) (zam (zag (i:=1) (show List.Nodup (α:=Str) ["row","entries","sign","entry"] from by decide +kernel) rfl (by walk_at "o")) zaN)))) (fun _ _ _ _=>zaQ) (fun _ _ _ _=>(zkH (K:=K) rfl rfl T.z_enumerate (zaa (qv 1) zab))) (fun _ _ _ _=>(zaM (K:=K) (n:=2) rfl rfl (zam (zag (i:=2) (show List.Nodup (α:=Str) ["row","entries","sign","entry"] from by decide +kernel) rfl (by walk_at "o")) (zam (zag (i:=3) (show List.Nodup (α:=Str) ["row","entries","sign","entry"] from by decide +kernel) rfl (by walk_at "o")) zaN)))) (fun _ _ _ _=>zaQ) (fun _ _ _ _=>(zaG (zaa (qv 0) (zaa (qv 2) (zaa (qv 3) zab)))))))),?_⟩;refine⟨⟨_,SqL.of hm⟩,?_⟩;intro pt npt;refine ziM (K:=K) (a:=t) (xs:=rs.map V.ref) (fun i σ H1=>∃ (v1 v2:Option V) (as:List Addr),σ=[v1,v2,none,none]/\Sub H H1/\H1 pt=some (.lst (as.map V.ref))/\zba (zlo H1) as ((zbr m).take i).flatten) ?_ ?_ ?_ ?_
   ·exact⟨none,none,[],rfl,Sub.new npt,zad,.nil⟩
   ·rintro i σ H1 _ ⟨v1,v2,as,rfl,S1,_⟩;exact SqL.of (S1 _ _ hm)
   ·rintro i x σ H1 pp hi ⟨v1,v2,as,rfl,S1,g1,A1⟩ npp;rw [zoY] at hi;obtain⟨r,hr,rfl⟩:=zo0.1 hi;obtain⟨es,hes,bs,hra,haa⟩:=hrw.at hr;have hil:i<m.length:=(zo1.1 hes).1;have hel:=M.len es (zo2 hes);have S2:Sub H1 (upd H1 pp (.tup [.int i,.ref r])):=Sub.new npp;have e2:(upd H1 pp (.tup [.int i,.ref r])) pp=some (.tup [.int i,.ref r]):=zad;generalize upd H1 pp (.tup [.int i,.ref r])=H2 at S2 e2 ⊢;have S02:=S1.trans S2;refine⟨_,SqT.of e2,rfl,?_⟩;refine⟨⟨_,SqL.of (S02 _ _ hra)⟩,?_⟩;have hbound:∀ k,((zbr m).take k).flatten.length<=4*4:=fun k=>by
     have h1:=zdc (n:=4) (xs:=(zbr m).take k) fun x hx=>by
      obtain⟨y,hy,rfl⟩:=zpf.1 (List.mem_of_mem_take hx);rw [zcE];obtain⟨_,_,hy3⟩:=List.mem_zipIdx hy
      have:=M.len y.1 (by rw [hy3];exact List.getElem_mem _)
      omega
     have h2:((zbr m).take k).length<=4:=by rw [zpm,zaV];omega
     exact zpc h1 (Nat.mul_le_mul_right 4 h2)
    refine zjt (K:=K) (a:=r) (xs:=bs.map V.ref) (fun j σ H3=>∃ (v3 v4:Option V) (cs:List Addr),σ=[some (.int i),some (.ref r),v3,v4]/\Sub H H3/\H3 pt=some (.lst (cs.map V.ref))/\zba (zlo H3) cs (((zbr m).take i).flatten++(ziv i es).take j)) ?_ ?_ ?_ ?_
    ·exact⟨none,none,as,rfl,S02,S2 _ _ g1,by rw [List.take_zero,zo9];exact A1.mono fun _ _ _ z=>z.keep fun _ _ e=>S2 _ _ e⟩
    ·rintro j σ H3 _ ⟨v3,v4,cs,rfl,S3,_⟩;exact SqL.of (S3 _ _ hra)
    ·rintro j x σ H3 pq hj ⟨v3,v4,cs,rfl,S3,g3,A3⟩ npq;rw [zoY] at hj;obtain⟨ea,hea,rfl⟩:=zo0.1 hj;obtain⟨en,hen,hE⟩:=haa.at hea;have S4:Sub H3 (upd H3 pq (.tup [.int j,.ref ea])):=Sub.new npq;have e4:(upd H3 pq (.tup [.int j,.ref ea])) pq=some (.tup [.int j,.ref ea]):=zad;generalize upd H3 pq (.tup [.int j,.ref ea])=H4 at S4 e4 ⊢;refine⟨_,SqT.of e4,rfl,?_⟩;refine⟨by show 3<=sizeLine;decide,?_⟩;intro p5 n5;generalize U':upd _ p5 _=H5;obtain ⟨S5,e5⟩:=zak n5 U';clear U';have S05:=(S3.trans S4).trans S5;have g5:=(S4.trans S5) _ _ g3;have hcl:cs.length<=20:=by
      have h1:=hbound i;have h2:((ziv i es).take j).length<=4:=by rw [zpm,zcE];omega
      rw [A3.1,zo7];omega
     have t6:∀ c us,H5 c=some (.tup us)->(upd H5 pt (.lst (cs.map V.ref++[V.ref p5]))) c=some (.tup us):=fun c us e=>by
      rw [zal (by rintro rfl;rw [g5] at e;cases e)];exact e
     refine⟨_,g5,by rw [zoX];exact zpb hcl (by decide),_,_,cs++[p5],rfl,S05.upd npt,by rw [zad,zo5];rfl,?_⟩
     ·rw [zpk,zjR hen,← zpi];exact (A3.mono fun _ _ _ z=>z.keep fun _ _ e=>t6 _ _ ((S4.trans S5) _ _ e)).app ⟨ea,t6 _ _ e5,t6 _ _ (S05 _ _ hE)⟩
    ·rintro σ H3 ⟨v3,v4,cs,rfl,S3,g3,A3⟩;rw [zoX,haa.1,← zcE (i:Int) es,zpj] at A3;refine⟨⟨rfl,by rintro (_ | _ | _ | _ | i) v hv <;> simp at hv ⊢ <;> exact hv⟩,_,_,cs,rfl,S3,g3,?_⟩;rw [zpk,zcm hes,List.flatten_append];show zba (zlo H3) cs (((zbr m).take i).flatten++[ziv i es].flatten);rw [List.flatten_cons,List.flatten_nil,zo9];exact A3
   rintro σ H1 ⟨v1,v2,as,rfl,S1,g1,A1⟩;rw [zoX,hrw.1,List.take_of_length_le (by rw [zaV];exact zpd _)] at A1;exact h pt as H1 S1 g1 A1 npt
  ·exact h.elim
theorem zdP:zao ["rows","signs"] ["rows","signs"] (zaj zc5):=by walk_at "s"
def zgG (r s:Int):Prop:=(r=2/\s=2)\/(r=1/\(s=2\/s=3\/s=4))
theorem zgG.bd {r s:Int} (h:zgG r s):1<=r/\r<=2/\2<=s/\s<=4/\r*s<=4:=by
 rcases h with ⟨rfl,rfl⟩ | ⟨rfl,rfl | rfl | rfl⟩ <;> decide
def zcy:Sp:=fun vs H Q _=>match vs with
 | [.int r,.int s]=>zgG r s/\∀ H',Sub H H'->Q .non H'
 | _=>False
theorem zgk (T:Tx K mg a):za3 P w K mg base CX0 1 a.must_size a.must_size_d ["rows","signs"] (zcy):=by
 refine T.q_must_size.f.ok zdP (fun vs H Q E h=>?_) (fun cdv A outer s H vs Q E hr h=>?_)
 ·unfold zcy at h;split at h
  ·rfl
  ·exact h.elim
 ·unfold zcy at h;split at h
  ·have nd:=zdP.nd;have hu:=zaD hr;rename_i r s;obtain⟨hs,h⟩:=h;obtain⟨a1,a2,a3,a4,a5⟩:=hs.bd;refine⟨_,(zac (zbV (PW.pt (zbl (zbT (zkJ zjN zjN zai (qv 0) (zfH rfl T.c_MOST_ROWS))) (zbq (zbT (zkJ zjN zjN (zfH rfl T.c_LEAST_SIGNS) (qv 1) (zfH rfl T.c_MOST_SIGNS)))))) zdl zas)
  (zae (zbV (zb1 zoB (zaP zeL (qv 0) (qv 1)) (zfH rfl T.c_MOST_ENTRIES)) zdl zas))),?_⟩
   walk_at "w";refine ifB.yes (zo3 (by omega)) ?_;walk_at "w";refine ifB.no (by rw [zo3 (show r<=4 by omega)];rfl) ?_;walk_at "w";refine ifB.yes (zo3 (by omega)) ?_;walk_at "w";refine ifB.no (by rw [zo3 (show s<=4 by omega)];rfl) ?_;refine⟨.inl ⟨by omega,by omega⟩,fun pr hpr _=>?_⟩;have hpr:pr=r*s:=hpr;walk_at "w";refine ifB.no (zo4 (by omega)) ?_;exact h _ Sub.refl
  ·exact h.elim
theorem zcc:zao ["rows","signs"] ["rows","signs"] (zaj zbE):=by walk_at "s"
def zbi (r s:Int):Ma:=List.replicate r.toNat (List.replicate s.toNat [])
def zmA (H H':Hp) (t:Addr) (rs:List Addr) (m:Ma):Prop:=MaR H' t rs m/\H t=none/\(∀ r∈rs,H r=none)/\(t::rs).Nodup
def zbo:Sp:=fun vs H Q _=>match vs with
 | [.int r,.int s]=>zgG r s/\∀ (t:Addr) (rs:List Addr) (H':Hp),Sub H H'->zmA H H' t rs (zbi r s)->Q (.ref t) H'
 | _=>False
theorem zdT (T:Tx K mg a):za3 P w K mg base CX0 1 a.first_machine a.first_machine_d ["rows","signs"] (zbo):=by
 refine T.q_first_machine.f.ok zcc (fun vs H Q E h=>?_) (fun cdv A outer s H vs Q E hr h=>?_)
 ·unfold zbo at h;split at h
  ·rfl
  ·exact h.elim
 ·unfold zbo at h;split at h
  ·have nd:=zcc.nd;have hu:=zaD hr;rename_i r s;obtain⟨hs,h⟩:=h;obtain⟨a1,a2,a3,a4,a5⟩:=hs.bd;refine⟨_,(@zae _ _ _ (@zap _ _ _ _ (@zbx _ _ ["row"] [1] _ _ _ _ _ _ _ _ _ rfl (by walk_at "comp_ok") (@zbd _ _ _ _ _ _ rfl T.z_range (@zaa _ _ _ _ _ (qv 0) zab (by rfl)) (by rfl)) (fun _ _ _ _=>(@zag _ _ 0 _ (show List.Nodup (α:=Str) ["row","signs"] from by decide +kernel) rfl (by walk_at "o") (by first | exact .inl rfl | exact .inr rfl | assumption))) (fun _ _ _ _=>zaQ) (fun _ _ _ _=>(@zaP _ _ _ _ _ _ _ _ znw (@zaR _ _ _ _ (@zaa _ _ _ _ _ (@zaG _ _ _ _ _ zab) zab (by rfl))) (qv 1))) (by intro _ ;rfl)))),?_⟩;refine⟨⟨by omega,by omega⟩,?_⟩;intro pt npt;refine zbQ (lo:=0) (n:=r.toNat) (fun i σ H1=>∃ (v:Option V) (rs:List Addr),σ=[v,some (.int s)]/\Sub H H1/\MaR H1 pt rs (List.replicate i (List.replicate s.toNat []))/\(∀ x∈rs,H x=none)/\(pt::rs).Nodup) ?_ ?_ ?_
   ·exact⟨none,[],rfl,Sub.new npt,⟨zad,by simp,.nil⟩,by simp,by simp⟩
   ·rintro i σ H1 hi ⟨v,rs,rfl,S1,M1,N1,D1⟩;refine⟨by show 0<=sizeLine;decide,?_⟩;intro p2 n2;generalize U':upd _ p2 _=H2;obtain ⟨S2,e2⟩:=zak n2 U';clear U';refine⟨by show 1<=sizeLine;decide,?_⟩;intro p3 n3;generalize U':upd _ p3 _=H3;obtain ⟨S3,e3⟩:=zak n3 U';clear U';refine⟨_,e3,by omega,by omega,?_,?_⟩
    ·exact zpc (show 1*s.toNat<=4 by omega) (by decide)
    intro p4 n4;generalize U':upd _ p4 _=H4;obtain ⟨S4,e4⟩:=zak n4 U';clear U';have S24:=S2.trans (S3.trans S4);have M4:=M1.stay (.sub S24);have ef:(List.replicate s.toNat [V.ref p2]).flatten=(List.replicate s.toNat p2).map V.ref:=by
     generalize s.toNat=j
     induction j with
     | zero=>rfl
     | succ j ih=>rw [List.replicate_succ,List.replicate_succ,List.flatten_cons,ih];rfl
    rw [ef] at e4;have R4:Row H4 p4 (List.replicate s.toNat []):=⟨_,e4,by rw [List.length_replicate,List.length_replicate],fun j a e ha he=>by
     rw [List.getElem?_replicate] at ha he;split at ha
     ·cases ha;rename_i c;rw [zpC c] at he;cases he;exact S4 _ _ (S3 _ _ e2)
     ·cases ha⟩
    have n4':H p4=none:=S1.free ((S2.trans S3).free n4);have o4:p4 ∉ rs:=M1.out ((S2.trans S3).free n4);have q4:p4≠pt:=M1.outp ((S2.trans S3).free n4);refine⟨_,M4.1,?_,_,rs++[p4],rfl,(S1.trans S24).upd npt,?_,?_,?_⟩
    ·rw [zoX,M4.2.2.1,List.length_replicate];exact zpb (show i<=4 by omega) (by decide)
    ·rw [List.replicate_succ'];exact M4.app' R4 o4 q4
    ·intro x hx;rcases zo8.1 hx with hx | hx
     ·exact N1 x hx
     ·rw [zo6.1 hx];exact n4'
    ·rw [← List.cons_append];exact List.nodup_append.2 ⟨D1,by simp,fun a ha b hb e=>by
      rw [zo6.1 hb] at e;subst e;rcases zpG.1 ha with z | z
      ·exact q4 z
      ·exact o4 z⟩
   ·rintro σ H1 ⟨v,rs,rfl,S1,M1,N1,D1⟩;exact h pt rs H1 S1 ⟨M1,npt,N1,D1⟩
  ·exact h.elim
theorem zcu:zao ["machine"] ["machine"] (zaj zbL):=by walk_at "s"
def zdu (m:Ma):List En:=((zga m).map (·.2.2)).filter fun e=>decide (e≠[])
def zhe:Sp:=fun vs H Q _=>match vs with
 | [.ref t]=>∃ m:Ma,zdw H t m/\isM m=true/\∀ (l:Addr) (as:List Addr) (H':Hp),Sub H H'->H l=none->H' l=some (.lst (as.map V.ref))->zba (Ent H') as (zdu m)->Q (.ref l) H'
 | _=>False
theorem zbA (T:Tx K mg a):za3 P w K mg base CX0 2 a.full_entries a.full_entries_d ["machine"] (zhe):=by
 have G_entries_in:=zdh (P:=P) (w:=w) (base:=base) T;refine T.q_full_entries.f.ok zcu (fun vs H Q E h=>?_) (fun cdv A outer s H vs Q E hr h=>?_)
 ·unfold zhe at h;split at h
  ·rfl
  ·exact h.elim
 ·unfold zhe at h;split at h
  ·have nd:=zcu.nd;have hu:=zaD hr;rename_i t;obtain⟨m,hm,hM,h⟩:=h;have M:=OkM.of hM;refine⟨_,(@zae _ _ _ (@zap _ _ _ _ (@zbx _ _ (["row","sign","entry"]) [] _ _ _ _ _ _ _ _ _ rfl (by walk_at "comp_ok") (@zax _ K _ _ _ rfl (@zan _ _ _ _ _ _ _ _ _ _ _ _ _ _ _ _ G_entries_in (hr.mono (by decide)) rfl T.q_entries_in.g T.q_entries_in.f.kp T.q_entries_in.b .nil zaw (@zaa _ _ _ _ _ (qv 0) zab (by rfl)) (by decide) (by rfl) (by rfl))) (fun _ _ _ _=>(@zaM _ K _ _ _ _ 3 rfl rfl (@zam _ _ _ _ _ (@zag _ _ 0 _ (show List.Nodup (α:=Str) ["row","sign","entry"] from by decide +kernel) rfl (by walk_at "o") (by first | exact .inl rfl | exact .inr rfl | assumption)) (@zam _ _ _ _ _ (@zag _ _ 1 _ (show List.Nodup (α:=Str) ["row","sign","entry"] from by decide +kernel) rfl (by walk_at "o") (by first | exact .inl rfl | exact .inr rfl | assumption)) (@zam _ _ _ _ _ (@zag _ _ 2 _ (show List.Nodup (α:=Str) ["row","sign","entry"] from by decide +kernel) rfl (by walk_at "o") (by first | exact .inl rfl | exact .inr rfl | assumption)) zaN (by rfl)) (by rfl)) (by rfl)) (by rfl) (by rfl))) (fun _ _ _ _=>(@zbC _ _ _ (@zb1 _ _ _ _ _ _ _ _ (@zgm _ _ hr) (qv 2) (@zaG _ _ _ _ _ zab) (by first | exact zaF _ | rfl)))) (fun _ _ _ _=>(qv 2)) (by intro _ ;rfl)))),?_⟩;refine⟨m,hm,hM,fun l as H1 S1 hl hA nl=>?_⟩;refine⟨⟨_,SqL.of hl⟩,?_⟩;intro pc npc;have few:(zga m).length<=16:=by
    have:=zdc (xs:=zbr m) (n:=4) fun x hx=>by
     obtain⟨i,hi,e⟩:=List.getElem_of_mem hx;rw [zaV] at hi;have e1:=zcm (zoZ hi);have e2:=zpK ((zo1.2 ⟨by rw [zaV];exact hi,e⟩).symm.trans e1);rw [e2,zcE,M.len _ (List.getElem_mem hi)];exact M.s4
    rw [zaV] at this;have h4:=M.n4;unfold zga;omega
   refine zat (K:=K) (a:=l) (xs:=as.map V.ref) (fun i σ H2=>∃ (u v w:Option V) (bs:List Addr),σ=[u,v,w]/\Sub H1 H2/\H2 pc=some (.lst (bs.map V.ref))/\zba (Ent H2) bs ((((zga m).take i).map (·.2.2)).filter fun e=>decide (e≠[]))) ?_ ?_ ?_ ?_
   ·exact⟨none,none,none,[],rfl,Sub.new npc,zad,.nil⟩
   ·rintro i σ H2 _ ⟨u,v,w,bs,rfl,S2,_⟩;exact SqL.of (S2 _ _ hl)
   ·rintro i x σ H2 hi ⟨u,v,w,bs,rfl,S2,g2,A2⟩;rw [zoY] at hi;obtain⟨c,hc,rfl⟩:=zo0.1 hi;obtain⟨y,hy,a',ha1,ha2⟩:=hA.at hc;have bl:bs.length<=16:=by
     rw [A2.1];refine zpc (List.length_filter_le _ _) ?_;rw [zoX,zpm];omega
    refine⟨_,SqT.of (S2 _ _ ha1),rfl,?_⟩;refine⟨by show 0<=sizeLine;decide,?_⟩;intro p3 n3;generalize U':upd _ p3 _=H3;obtain ⟨S3,e3⟩:=zak n3 U';clear U';refine⟨_,_,Ent.den (show Ent H3 a' y.2.2 from S3 _ _ (S2 _ _ ha2)),Ent.den (e:=[]) e3,zch _,?_⟩;rw [zeP];by_cases z:y.2.2=[]
    ·refine zgV (c:=y.2.2=[]) z ?_;refine⟨_,_,_,bs,rfl,S2.trans S3,S3 _ _ g2,?_⟩;rw [zpk,hy,zo5,zpx]
     have:([y].map (·.2.2)).filter (fun e=>decide (e≠[]))=[]:=by simp [z]
     rw [show (some y).toList=[y] from rfl,this,zo9];exact A2.mono fun _ _ _ q=>S3 _ _ q
    ·refine zfw (c:=y.2.2=[]) z ?_;have g3:=S3 _ _ g2;have kt:∀ a us,H3 a=some (.tup us)->(upd H3 pc (.lst (bs.map V.ref++[V.ref a']))) a=some (.tup us):=fun a us e=>by
      rw [zal (by rintro rfl;rw [g3] at e;cases e)];exact e
     refine⟨_,g3,?_,_,_,_,bs++[a'],rfl,(S2.trans S3).upd npc,by rw [zad,zo5];rfl,?_⟩
     ·rw [zoX];exact zpb bl (by decide)
     ·rw [zpk,hy,zo5,zpx]
      have:([y].map (·.2.2)).filter (fun e=>decide (e≠[]))=[y.2.2]:=by simp [z]
      rw [show (some y).toList=[y] from rfl,this];exact (A2.mono fun _ _ _ q=>kt _ _ (S3 _ _ q)).app (kt _ _ (S3 _ _ (S2 _ _ ha2)))
   ·rintro σ H2 ⟨u,v,w,bs,rfl,S2,g2,A2⟩;rw [zoX,hA.1,zpj] at A2;exact h pc bs H2 (S1.trans S2) (S1.free npc) g2 A2
  ·exact h.elim
theorem zcU:zao ["machine"] ["machine"] (zaj zb5):=by walk_at "s"
theorem zlD {m:Ma} {x:Int × Int × En} (h:x∈zga m):∃ (i j:Nat) (es:List En),m[i]?=some es/\es[j]?=some x.2.2/\x.1=i/\x.2.1=j:=by
 unfold zga at h;obtain⟨r,hr,hx⟩:=List.mem_flatten.1 h;unfold zbr at hr;obtain⟨p,hp,rfl⟩:=zpf.1 hr;unfold ziv at hx;obtain⟨q,hq,rfl⟩:=zpf.1 hx;exact⟨p.2,q.2,p.1,(List.mem_zipIdx_iff_getElem?.1 hp),(List.mem_zipIdx_iff_getElem?.1 hq),rfl,rfl⟩
theorem zjb {m:Ma} (M:OkM m):(zdu m).length<=16:=by
 unfold zdu;refine zpc (List.length_filter_le _ _) ?_;rw [zoX]
 have:=zdc (xs:=zbr m) (n:=4) fun x hx=>by
  obtain⟨i,hi,e⟩:=List.getElem_of_mem hx;rw [zaV] at hi;have e1:=zcm (zoZ hi);have e2:=zpK ((zo1.2 ⟨by rw [zaV];exact hi,e⟩).symm.trans e1);rw [e2,zcE,M.len _ (List.getElem_mem hi)];exact M.s4
 rw [zaV] at this;have h4:=M.n4;unfold zga;omega
theorem zde {m:Ma} (M:OkM m) {e:En} (h:e∈zdu m):∃ s w r,e=[s,w,r]/\0<=s/\s<sgn m/\(w=-1\/w=1)/\0<=r/\r<m.length:=by
 unfold zdu at h;obtain⟨h1,h2⟩:=zph.1 h;obtain⟨x,hx,rfl⟩:=zpf.1 h1;obtain⟨i,j,es,e1,e2,_⟩:=zlD hx;exact zaX (M.ent es (zo2 e1) _ (zo2 e2)) (zpI h2)
def ziA (k:Nat) (m:Ma) (n:Int):Prop:=(zdu m=[]/\n=1)\/∃ x,n=1+x/\zj5 x ((zdu m).map fun e=>e.getD k 0)
theorem ziA.one {k:Nat} {m:Ma} {a b:Int} (h:ziA k m a) (h':ziA k m b):a=b:=by
 rcases h with ⟨e,rfl⟩ | ⟨x,rfl,hx⟩ <;> rcases h' with ⟨e',rfl⟩ | ⟨y,rfl,hy⟩
 ·rfl
 ·rw [e] at hy;cases hy.1
 ·rw [e'] at hx;cases hx.1
 ·rw [hx.one hy]
def zbP:Sp:=fun vs H Q _=>match vs with
 | [.ref t]=>∃ m:Ma,zdw H t m/\isM m=true/\∀ n H',Sub H H'->ziA 0 m n->Q (.int n) H'
 | _=>False
theorem zeK (T:Tx K mg a):za3 P w K mg base CX0 3 a.signs_named a.signs_named_d ["machine"] (zbP):=by
 have G_full_entries:=zbA (P:=P) (w:=w) (base:=base) T;refine T.q_signs_named.f.ok zcU (fun vs H Q E h=>?_) (fun cdv A outer s H vs Q E hr h=>?_)
 ·unfold zbP at h;split at h
  ·rfl
  ·exact h.elim
 ·unfold zbP at h;split at h
  ·have nd:=zcU.nd;have hu:=zaD hr;rename_i t;obtain⟨m,hm,hM,h⟩:=h;have M:=OkM.of hM;refine⟨_,(@zae _ _ _ (@zap _ _ _ _ (@zaP _ _ _ _ _ _ _ _ zcl zai (@zjD _ K _ _ _ _ _ _ _ _ rfl rfl rfl T.z_max (@zaa _ _ _ _ _ (@zbx _ _ (["put","way","after"]) [] _ _ _ _ _ _ _ _ _ rfl (by walk_at "comp_ok") (@zax _ K _ _ _ rfl (@zan _ _ _ _ _ _ _ _ _ _ _ _ _ _ _ _ G_full_entries (hr.mono (by decide)) rfl T.q_full_entries.g T.q_full_entries.f.kp T.q_full_entries.b .nil zaw (@zaa _ _ _ _ _ (qv 0) zab (by rfl)) (by decide) (by rfl) (by rfl))) (fun _ _ _ _=>(@zaM _ K _ _ _ _ 3 rfl rfl (@zam _ _ _ _ _ (@zag _ _ 0 _ (show List.Nodup (α:=Str) ["put","way","after"] from by decide +kernel) rfl (by walk_at "o") (by first | exact .inl rfl | exact .inr rfl | assumption)) (@zam _ _ _ _ _ (@zag _ _ 1 _ (show List.Nodup (α:=Str) ["put","way","after"] from by decide +kernel) rfl (by walk_at "o") (by first | exact .inl rfl | exact .inr rfl | assumption)) (@zam _ _ _ _ _ (@zag _ _ 2 _ (show List.Nodup (α:=Str) ["put","way","after"] from by decide +kernel) rfl (by walk_at "o") (by first | exact .inl rfl | exact .inr rfl | assumption)) zaN (by rfl)) (by rfl)) (by rfl)) (by rfl) (by rfl))) (fun _ _ _ _=>zaQ) (fun _ _ _ _=>(qv 0)) (by intro _ ;rfl)) zab (by rfl)) (by rfl))))),?_⟩;refine⟨m,hm,hM,fun l as H1 S1 nl hl hA=>?_⟩;refine⟨⟨_,SqL.of hl⟩,?_⟩;intro pc npc;have few:as.length<=16:=by rw [hA.1];exact zjb M
   refine zat (K:=K) (a:=l) (xs:=as.map V.ref) (fun i σ H2=>∃ (u v w:Option V),σ=[u,v,w]/\Sub H1 H2/\H2 pc=some (.lst ((((zdu m).take i).map fun e=>e.getD 0 0).map V.int))) ?_ ?_ ?_ ?_
   ·exact⟨none,none,none,rfl,Sub.new npc,zad⟩
   ·rintro i σ H2 _ ⟨u,v,w,rfl,S2,_⟩;exact SqL.of (S2 _ _ hl)
   ·rintro i x σ H2 hi ⟨u,v,w,rfl,S2,g2⟩;rw [zoY] at hi;obtain⟨c,hc,rfl⟩:=zo0.1 hi;obtain⟨y,hy,ha⟩:=hA.at hc;obtain⟨s',w',r',rfl,_⟩:=zde M (zo2 hy);refine⟨_,SqT.of (S2 _ _ ha),rfl,?_⟩;refine⟨_,g2,?_,_,_,_,rfl,S2.upd npc,?_⟩
    ·rw [zoX,zoX,zpm,← hA.1];exact zpb (show _<=16 by omega) (by decide)
    ·rw [zad,zpk,hy,zo5,zo5];rfl
   rintro σ H2 ⟨u,v,w,rfl,S2,g2⟩;rw [zoX,hA.1,zpj] at g2;refine⟨_,SqL.of g2,fun z=>?_,fun mx h1 h2=>?_⟩
   ·walk_at "w";exact h _ H2 (S1.trans S2) (.inl ⟨List.map_eq_nil_iff.1 z,rfl⟩)
   ·walk_at "w";exact h _ H2 (S1.trans S2) (.inr ⟨mx,rfl,⟨h1,h2⟩⟩)
  ·exact h.elim
theorem zdr:zao ["machine"] ["machine"] (zaj zcs):=by walk_at "s"
def zb9:Sp:=fun vs H Q _=>match vs with
 | [.ref t]=>∃ m:Ma,zdw H t m/\isM m=true/\∀ n H',Sub H H'->ziA 2 m n->Q (.int n) H'
 | _=>False
theorem zfG (T:Tx K mg a):za3 P w K mg base CX0 3 a.rows_named a.rows_named_d ["machine"] (zb9):=by
 have G_full_entries:=zbA (P:=P) (w:=w) (base:=base) T;refine T.q_rows_named.f.ok zdr (fun vs H Q E h=>?_) (fun cdv A outer s H vs Q E hr h=>?_)
 ·unfold zb9 at h;split at h
  ·rfl
  ·exact h.elim
 ·unfold zb9 at h;split at h
  ·have nd:=zdr.nd;have hu:=zaD hr;rename_i t;obtain⟨m,hm,hM,h⟩:=h;have M:=OkM.of hM;refine⟨_,(@zae _ _ _ (@zap _ _ _ _ (@zaP _ _ _ _ _ _ _ _ zcl zai (@zjD _ K _ _ _ _ _ _ _ _ rfl rfl rfl T.z_max (@zaa _ _ _ _ _ (@zbx _ _ (["put","way","after"]) [] _ _ _ _ _ _ _ _ _ rfl (by walk_at "comp_ok") (@zax _ K _ _ _ rfl (@zan _ _ _ _ _ _ _ _ _ _ _ _ _ _ _ _ G_full_entries (hr.mono (by decide)) rfl T.q_full_entries.g T.q_full_entries.f.kp T.q_full_entries.b .nil zaw (@zaa _ _ _ _ _ (qv 0) zab (by rfl)) (by decide) (by rfl) (by rfl))) (fun _ _ _ _=>(@zaM _ K _ _ _ _ 3 rfl rfl (@zam _ _ _ _ _ (@zag _ _ 0 _ (show List.Nodup (α:=Str) ["put","way","after"] from by decide +kernel) rfl (by walk_at "o") (by first | exact .inl rfl | exact .inr rfl | assumption)) (@zam _ _ _ _ _ (@zag _ _ 1 _ (show List.Nodup (α:=Str) ["put","way","after"] from by decide +kernel) rfl (by walk_at "o") (by first | exact .inl rfl | exact .inr rfl | assumption)) (@zam _ _ _ _ _ (@zag _ _ 2 _ (show List.Nodup (α:=Str) ["put","way","after"] from by decide +kernel) rfl (by walk_at "o") (by first | exact .inl rfl | exact .inr rfl | assumption)) zaN (by rfl)) (by rfl)) (by rfl)) (by rfl) (by rfl))) (fun _ _ _ _=>zaQ) (fun _ _ _ _=>(qv 2)) (by intro _ ;rfl)) zab (by rfl)) (by rfl))))),?_⟩;refine⟨m,hm,hM,fun l as H1 S1 nl hl hA=>?_⟩;refine⟨⟨_,SqL.of hl⟩,?_⟩;intro pc npc;have few:as.length<=16:=by rw [hA.1];exact zjb M
   refine zat (K:=K) (a:=l) (xs:=as.map V.ref) (fun i σ H2=>∃ (u v w:Option V),σ=[u,v,w]/\Sub H1 H2/\H2 pc=some (.lst ((((zdu m).take i).map fun e=>e.getD 2 0).map V.int))) ?_ ?_ ?_ ?_
   ·exact⟨none,none,none,rfl,Sub.new npc,zad⟩
   ·rintro i σ H2 _ ⟨u,v,w,rfl,S2,_⟩;exact SqL.of (S2 _ _ hl)
   ·rintro i x σ H2 hi ⟨u,v,w,rfl,S2,g2⟩;rw [zoY] at hi;obtain⟨c,hc,rfl⟩:=zo0.1 hi;obtain⟨y,hy,ha⟩:=hA.at hc;obtain⟨s',w',r',rfl,_⟩:=zde M (zo2 hy);refine⟨_,SqT.of (S2 _ _ ha),rfl,?_⟩;refine⟨_,g2,?_,_,_,_,rfl,S2.upd npc,?_⟩
    ·rw [zoX,zoX,zpm,← hA.1];exact zpb (show _<=16 by omega) (by decide)
    ·rw [zad,zpk,hy,zo5,zo5];rfl
   rintro σ H2 ⟨u,v,w,rfl,S2,g2⟩;rw [zoX,hA.1,zpj] at g2;refine⟨_,SqL.of g2,fun z=>?_,fun mx h1 h2=>?_⟩
   ·walk_at "w";exact h _ H2 (S1.trans S2) (.inl ⟨List.map_eq_nil_iff.1 z,rfl⟩)
   ·walk_at "w";exact h _ H2 (S1.trans S2) (.inr ⟨mx,rfl,⟨h1,h2⟩⟩)
  ·exact h.elim
theorem zcT:zao ["machine","puts","afters","ways"] ["machine"] (zaj zb4):=by walk_at "s"
def zcz (m:Ma):List Int:=if zdu m=[] then [1] else [-1,1]
def zeB (p a:Nat) (ws:List Int):List En:=(List.range p).flatMap fun (i:Nat)=>ws.flatMap fun w=>(List.range a).map fun (j:Nat)=>[(i:Int),w,(j:Int)]
def zcV (m:Ma) (es:List En):Prop:=∃ n k:Int,ziA 0 m n/\ziA 2 m k/\es=zeB (min (n+1) (sgn m)).toNat (min (k+1) m.length).toNat (zcz m)
theorem ze1 {k:Nat} {m:Ma} {n:Int} (M:OkM m) (h:ziA k m n) (hk:k=0\/k=2:=by simp):1<=n:=by
 rcases h with ⟨_,rfl⟩ | ⟨x,rfl,hx⟩
 ·decide
 ·obtain⟨e,he,rfl⟩:=zpf.1 hx.1;obtain⟨s,w,r,rfl,a,_,_,b,_⟩:=zde M he;rcases hk with rfl | rfl
  ·show 1<=1+s;omega
  ·show 1<=1+r;omega
theorem zmh (es:List En):eqD (.lst (es.map dE)) (.lst [])=decide (es=[]):=by
 cases es with
 | nil=>rfl
 | cons e es=>rw [zo4 (by simp)];rfl
theorem zlA (es:List En):dep (.lst (es.map dE))<=60:=by
 rw [dep]
 have:zgE (es.map dE)<=1:=zbt fun d hd=>by
  obtain⟨e,_,rfl⟩:=zpf.1 hd;exact zhw
 omega
theorem zfC {i:Int} {a:Nat}:∀ {ws:List Int},a<=4->ws.length<=2->(ws.flatMap fun w=>(List.range a).map fun (j:Nat)=>[i,w,(j:Int)]).length<=8
 | [],_,_=>Nat.zero_le _
 | [x],h,_=>by simp;omega
 | [x,y],h,_=>by simp;omega
 | x::y::z::r,_,h=>by simp at h
theorem zfB {p a:Nat} {ws:List Int} (hp:p<=4) (ha:a<=4) (hw:ws.length<=2):(zeB p a ws).length<=32:=by
 have:∀ p,(zeB p a ws).length<=8*p:=by
  intro p
  induction p with
  | zero=>exact zpd _
  | succ p ih =>
   have e:zeB (p+1) a ws=zeB p a ws++ws.flatMap fun w=>(List.range a).map fun (j:Nat)=>[(p:Int),w,(j:Int)]:=by
    unfold zeB;rw [List.range_succ,List.flatMap_append,List.flatMap_singleton]
   have:=zfC (i:=(p:Int)) ha hw
   rw [e,zo7];omega
 have:=this p
 omega
def zbO:Sp:=fun vs H Q _=>match vs with
 | [.ref t]=>∃ m:Ma,zdw H t m/\isM m=true/\∀ (l:Addr) (as:List Addr) (es:List En) (H':Hp),Sub H H'->H l=none->H' l=some (.lst (as.map V.ref))->zba (Ent H') as es->zcV m es->Q (.ref l) H'
 | _=>False
theorem za5 (T:Tx K mg a):za3 P w K mg base CX0 4 a.new_entries a.new_entries_d ["machine"] (zbO):=by
 have G_signs_named:=zeK (P:=P) (w:=w) (base:=base) T;have G_rows_named:=zfG (P:=P) (w:=w) (base:=base) T;have G_full_entries:=zbA (P:=P) (w:=w) (base:=base) T;refine T.q_new_entries.f.ok zcT (fun vs H Q E h=>?_) (fun cdv A outer s H vs Q E hr h=>?_)
 ·unfold zbO at h;split at h
  ·rfl
  ·exact h.elim
 ·unfold zbO at h;split at h
  ·have nd:=zcT.nd;have hu:=zaD hr;rename_i t;obtain⟨m,hm,hM,h⟩:=h;have M:=OkM.of hM;refine⟨_,(@zac _ _ _ _ _ (@zar _ _ 1 _ _ _ _ nd rfl (by walk_at "o") (@zah _ _ _ _ _ _ _ _ _ (@zhP _ rfl) rfl T.z_min zhq (@zaa _ _ _ _ _ (@zaP _ _ _ _ _ _ _ _ zcl (@zan _ _ _ _ _ _ _ _ _ _ _ _ _ _ _ _ G_signs_named (hr.mono (by decide)) rfl T.q_signs_named.g T.q_signs_named.f.kp T.q_signs_named.b .nil zaw (@zaa _ _ _ _ _ (qv 0) zab (by rfl)) (by decide) (by rfl) (by rfl)) zai) (@zaa _ _ _ _ _ (@zah _ _ _ _ _ _ _ _ _ (@za6 _ K rfl) rfl T.z_len za4 (@zaa _ _ _ _ _ (@za1 _ _ _ _ _ _ _ (@za2 _ K rfl) (qv 0) zai (fun _ _=>rfl)) zab (by rfl)) (by decide) (by decide) (by rfl) (by rfl)) zab (by rfl)) (by rfl)) (by decide) (by decide) (by rfl) (by rfl)) (by rfl) (by first | exact .inl rfl | exact .inr rfl | assumption)) (@zac _ _ _ _ _ (@zar _ _ 2 _ _ _ _ nd rfl (by walk_at "o") (@zah _ _ _ _ _ _ _ _ _ (@zhP _ rfl) rfl T.z_min zhq (@zaa _ _ _ _ _ (@zaP _ _ _ _ _ _ _ _ zcl (@zan _ _ _ _ _ _ _ _ _ _ _ _ _ _ _ _ G_rows_named (hr.mono (by decide)) rfl T.q_rows_named.g T.q_rows_named.f.kp T.q_rows_named.b .nil zaw (@zaa _ _ _ _ _ (qv 0) zab (by rfl)) (by decide) (by rfl) (by rfl)) zai) (@zaa _ _ _ _ _ (@zah _ _ _ _ _ _ _ _ _ (@za6 _ K rfl) rfl T.z_len za4 (@zaa _ _ _ _ _ (qv 0) zab (by rfl)) (by decide) (by decide) (by rfl) (by rfl)) zab (by rfl)) (by rfl)) (by decide) (by decide) (by rfl) (by rfl)) (by rfl) (by first | exact .inl rfl | exact .inr rfl | assumption)) (@zac _ _ _ _ _ (@zar _ _ 3 _ _ _ _ nd rfl (by walk_at "o") (@zjC _ _ _ _ _ _ _ _ (@zb1 _ _ _ _ _ _ _ _ (@zgl _ _ hr) (@zan _ _ _ _ _ _ _ _ _ _ _ _ _ _ _ _ G_full_entries (hr.mono (by decide)) rfl T.q_full_entries.g T.q_full_entries.f.kp T.q_full_entries.b .nil zaw (@zaa _ _ _ _ _ (qv 0) zab (by rfl)) (by decide) (by rfl) (by rfl)) (@zaR _ _ _ _ zab) (by first | exact zaF _ | rfl)) (@zaG _ _ _ _ _ (@zaa _ _ _ _ _ zai zab (by rfl))) (@zaG _ _ _ _ _ (@zaa _ _ _ _ _ (@ziq _ _ _ _ _ _ zis zai) (@zaa _ _ _ _ _ zai zab (by rfl)) (by rfl)))) (by rfl) (by first | exact .inl rfl | exact .inr rfl | assumption)) (@zae _ _ _ (@zap _ _ _ _ (@zno _ _ (["put","way","after"]) ([3,2]) _ _ _ _ _ _ _ _ _ _ _ _ _ _ _ _ _ _ _ _ _ rfl (by walk_at "comp_ok") (@zbd _ _ _ _ _ _ rfl T.z_range (@zaa _ _ _ _ _ (qv 1) zab (by rfl)) (by rfl)) (fun _ _ _ _=>(@zag _ _ 0 _ (show List.Nodup (α:=Str) ["put","way","after","ways","afters"] from by decide +kernel) rfl (by walk_at "o") (by first | exact .inl rfl | exact .inr rfl | assumption))) (fun _ _ _ _=>zaQ) (fun _ _ _ _=>(@zmg _ K _ _ _ rfl (qv 3))) (fun _ _ _ _=>(@zag _ _ 1 _ (show List.Nodup (α:=Str) ["put","way","after","ways","afters"] from by decide +kernel) rfl (by walk_at "o") (by first | exact .inl rfl | exact .inr rfl | assumption))) (fun _ _ _ _=>zaQ) (fun _ _ _ _=>(@zbd _ _ _ _ _ _ rfl T.z_range (@zaa _ _ _ _ _ (qv 4) zab (by rfl)) (by rfl))) (fun _ _ _ _=>(@zag _ _ 2 _ (show List.Nodup (α:=Str) ["put","way","after","ways","afters"] from by decide +kernel) rfl (by walk_at "o") (by first | exact .inl rfl | exact .inr rfl | assumption))) (fun _ _ _ _=>zaQ) (fun _ _ _ _=>(@zaG _ _ _ _ _ (@zaa _ _ _ _ _ (qv 0) (@zaa _ _ _ _ _ (qv 1) (@zaa _ _ _ _ _ (qv 2) zab (by rfl)) (by rfl)) (by rfl)))) (by intro _ ;rfl) (by intro _ _ ;rfl) (by intro _ _ ;rfl))))))),?_⟩;refine⟨m,hm,hM,fun n H1 S1 hn=>?_⟩;have hm1:=hm.stay (.sub S1);obtain⟨ws,hw0,hnd,hrw⟩:=id hm1;have mn1:=M.n1;have mn4:=M.n4;have ms2:=M.s2;have ms4:=M.s4;have e0:ws[0]?=some (ws[0]'(by rw [hrw.1];omega)):=zoZ _;generalize ws[0]'(by rw [hrw.1];omega)=w0 at e0;obtain⟨es0,he0,as0,hr0,hr1⟩:=hrw.at e0;have hl0:es0.length=sgn m:=M.len es0 (zo2 he0);refine⟨_,_,SqL.of hw0,zaE (j:=0) (by rw [zoY,e0];rfl),?_⟩;refine⟨_,.inl (SqL.of hr0),?_⟩;rw [zoX,hr1.1,hl0];walk_at "w";intro pu hpu;refine⟨m,hm1,hM,fun k H2 S2 hk=>?_⟩;have hm2:=hm1.stay (.sub S2);refine⟨_,.inl (SqL.of (S2 _ _ hw0)),?_⟩;rw [zoX,hrw.1];walk_at "w";intro af haf;refine⟨m,hm2,hM,fun l as H3 S3 nl hl hA=>?_⟩;refine⟨by show 0<=sizeLine;decide,?_⟩;intro p4 n4;generalize U':upd _ p4 _=H4;obtain ⟨S4,e4⟩:=zak n4 U';clear U';have S04:=S1.trans (S2.trans (S3.trans S4));refine⟨_,_,(show Row H4 l (zdu m) from ⟨as,S4 _ _ hl,hA.mono fun _ _ _ z=>S4 _ _ z⟩).den,(by rw [Den];exact⟨_,_,rfl,e4,rfl⟩:Den H4 (.ref p4) (.lst [])),zlA _,?_⟩;rw [zmh];have n1:1<=n:=ze1 M hn;have k1:1<=k:=ze1 M hk;have pu4:0<=pu/\pu<=4:=by rw [hpu];split <;> omega
   have af4:0<=af/\af<=4:=by rw [haf];split <;> omega
   have epu:pu=min (n+1) (sgn m):=by rw [hpu];split <;> omega
   have eaf:af=min (k+1) m.length:=by rw [haf];split <;> omega
   refine ifB.dec (fun z=>?yes1) (fun z=>?nope1)
   case' yes1 =>
    refine⟨by show 1<=sizeLine;decide,?_⟩;intro p5 n5;generalize U':upd _ p5 _=H5;obtain ⟨S5,e5⟩:=zak n5 U';clear U';have W5:H5 p5=some (.tup ((zcz m).map V.int)):=by unfold zcz;rw [zpC z];exact e5
   case' nope1 =>
    refine⟨by show 2<=sizeLine;decide,?_⟩;intro p5 n5;generalize U':upd _ p5 _=H5;obtain ⟨S5,e5⟩:=zak n5 U';clear U';have W5:H5 p5=some (.tup ((zcz m).map V.int)):=by unfold zcz;rw [zpB z];exact e5
   all_goals
    have wl:(zcz m).length<=2:=by unfold zcz;split <;> decide
    refine⟨⟨by omega,by omega⟩,?_⟩;intro pt npt;refine zbQ (lo:=0) (n:=pu.toNat) (fun i σ H6=>∃ (u v w:Option V) (cs:List Addr),σ=[u,none,none,some (.ref p5),some (.int af)]/\Sub H5 H6/\H6 pt=some (.lst (cs.map V.ref))/\zba (Ent H6) cs (zeB i af.toNat (zcz m))) ?_ ?_ ?_
    ·exact⟨none,none,none,[],rfl,Sub.new npt,zad,.nil⟩
    ·rintro i σ H6 hi ⟨u,v,w,cs,rfl,S6,g6,A6⟩;have inner:∀ (a:Nat) (ws:List Int) (i:Nat),zeB (i+1) a ws=zeB i a ws++ws.flatMap fun w=>(List.range a).map fun (j:Nat)=>[(i:Int),w,(j:Int)]:=fun a ws i=>by
      unfold zeB;rw [List.range_succ,List.flatMap_append,List.flatMap_singleton]
     have nlen:∀ i,i<=4->(zeB i af.toNat (zcz m)).length<=32:=fun i hi=>zfB hi (by omega) wl
     refine⟨⟨_,SqT.of (S6 _ _ W5)⟩,?_⟩;refine zkw (K:=K) (a:=p5) (xs:=(zcz m).map V.int) (fun j σ H7=>∃ (v:Option V) (cs:List Addr),σ=[some (.int (0+i)),v,none,some (.ref p5),some (.int af)]/\Sub H5 H7/\H7 pt=some (.lst (cs.map V.ref))/\zba (Ent H7) cs (zeB i af.toNat (zcz m)++((zcz m).take j).flatMap fun w=>(List.range af.toNat).map fun (j:Nat)=>[(i:Int),w,(j:Int)])) ?_ ?_ ?_ ?_
     ·exact⟨none,cs,rfl,S6,g6,by rw [List.take_zero,List.flatMap_nil,zo9];exact A6⟩
     ·rintro j σ H7 _ ⟨v,cs,rfl,S7,_⟩;exact SqT.of (S7 _ _ W5)
     ·rintro j x σ H7 hj ⟨v,cs,rfl,S7,g7,A7⟩;rw [zoY] at hj;obtain⟨w',hw',rfl⟩:=zo0.1 hj;have jl:j<(zcz m).length:=(zo1.1 hw').1;refine⟨⟨by omega,by omega⟩,?_⟩;refine zie (lo:=0) (n:=af.toNat) (fun q σ H8=>∃ (v:Option V) (cs:List Addr),σ=[some (.int (0+i)),some (.int w'),v,some (.ref p5),some (.int af)]/\Sub H5 H8/\H8 pt=some (.lst (cs.map V.ref))/\zba (Ent H8) cs (zeB i af.toNat (zcz m)++(((zcz m).take j).flatMap fun w=>(List.range af.toNat).map fun (j:Nat)=>[(i:Int),w,(j:Int)])++(List.range q).map fun (j:Nat)=>[(i:Int),w',(j:Int)])) ?_ ?_ ?_
      ·exact⟨none,cs,rfl,S7,g7,by rw [List.range_zero,zpr,zo9];exact A7⟩
      ·rintro q σ H8 hq ⟨v,cs,rfl,S8,g8,A8⟩;refine⟨by show 3<=sizeLine;decide,?_⟩;intro p9 n9;generalize U':upd _ p9 _=H9;obtain ⟨S9,e9⟩:=zak n9 U';clear U';have g9:=S9 _ _ g8;have kt:∀ a us,H9 a=some (.tup us)->(upd H9 pt (.lst (cs.map V.ref++[V.ref p9]))) a=some (.tup us):=fun a us e=>by
        rw [zal (by rintro rfl;rw [g9] at e;cases e)];exact e
       refine⟨_,g9,?_,_,cs++[p9],rfl,(S8.trans S9).upd npt,by rw [zad,zo5];rfl,?_⟩
       ·rw [zoX,A8.1];have h1:=nlen i (by omega);have h2:=zfC (i:=(i:Int)) (a:=af.toNat) (ws:=(zcz m).take j) (by omega) (by rw [zpm];omega);rw [zo7,zo7,zoX,List.length_range];exact zpb (show _<=100 by omega) (by decide)
       ·rw [List.range_succ,zo5,← zpi];refine (A8.mono fun _ _ _ z=>kt _ _ (S9 _ _ z)).app (kt _ _ ?_);rw [e9,Int.zero_add,Int.zero_add]
        rfl
      ·rintro σ H8 ⟨v,cs,rfl,S8,g8,A8⟩;refine⟨?_,_,cs,rfl,S8,g8,?_⟩
       ·refine⟨rfl,fun n v h=>?_⟩
        match n,h with
        | 0,h=>exact h
        | 1,h=>exact h
        | 2,h=>cases h
        | 3,h=>exact h
        | 4,h=>exact h
        | n+5,h=>cases h
       ·rw [zpk,hw',List.flatMap_append,← zpi,show (some w').toList=[w'] from rfl,List.flatMap_singleton];exact A8
     ·rintro σ H7 ⟨v,cs,rfl,S7,g7,A7⟩;rw [zoX,zpj] at A7;refine⟨?_,_,none,none,cs,rfl,S7,g7,by rw [inner];exact A7⟩;refine⟨rfl,fun n v h=>?_⟩
      match n,h with
      | 0,h=>exact h
      | 1,h=>cases h
      | 2,h=>cases h
      | 3,h=>exact h
      | 4,h=>exact h
      | n+5,h=>cases h
    ·rintro σ H6 ⟨u,v,w,cs,rfl,S6,g6,A6⟩;refine h pt cs _ H6 ((S04.trans S5).trans S6) ((S04.trans S5).free npt) g6 A6 ⟨n,k,hn,hk,?_⟩;rw [← epu,← eaf]
  ·exact h.elim
theorem zds:zao ["machine","end","entry","told"] ["machine","end","entry"] (zaj zct):=by walk_at "s"
def zb6 (m:Ma) (i j:Nat) (e:En):Ma:=m.set i ((m.getD i []).set j e)
theorem zji {n j:Nat} (h:j<n):ixN n (j:Int)=some j:=by
 have:=zjk (n:=n) (i:=(j:Int)) (by omega) (by omega)
 rwa [Int.toNat_natCast] at this
def zhk:Sp:=fun vs H Q _=>match vs with
 | [.ref t,.ref q,.ref c]=>∃ (m:Ma) (i j:Nat) (e:En),zdw H t m/\isM m=true/\H q=some (.tup [.int i,.int j])/\Ent H c e/\i<m.length/\j<sgn m/\∀ (t':Addr) (rs:List Addr) (H':Hp),Sub H H'->zmA H H' t' rs (zb6 m i j e)->Q (.ref t') H'
 | _=>False
theorem zbc (T:Tx K mg a):za3 P w K mg base CX0 1 a.with_entry a.with_entry_d ["machine","end","entry"] (zhk):=by
 refine T.q_with_entry.f.ok zds (fun vs H Q E h=>?_) (fun cdv A outer s H vs Q E hr h=>?_)
 ·unfold zhk at h;split at h
  ·rfl
  ·exact h.elim
 ·unfold zhk at h;split at h
  ·have nd:=zds.nd;have hu:=zaD hr;rename_i t q c;obtain⟨m,i,j,e,hm,hM,hq,hc,hi,hj,h⟩:=h;have M:=OkM.of hM;obtain⟨ws,hm0,hnd,hrw⟩:=id hm;refine⟨_,(@zac _ _ _ _ _ (@znr _ _ ["row"] [] _ _ _ _ _ _ _ _ _ 3 _ _ _ rfl nd rfl (by walk_at "o") (by walk_at "comp_ok") (@zax _ K _ _ _ rfl (qv 0)) (fun _ _ _ _=>(@zag _ _ 0 _ (show List.Nodup (α:=Str) ["row"] from by decide +kernel) rfl (by walk_at "o") (by first | exact .inl rfl | exact .inr rfl | assumption))) (fun _ _ _ _=>zaQ) (fun _ _ _ _=>(@zdi _ _ _ _ _ _ _ _ _ (@zgs _ K rfl) rfl T.z_list zbX (@zaa _ _ _ _ _ (qv 0) zab (by rfl)) (by decide) (by decide) (by rfl) (by rfl))) (by rfl) (by first | exact .inl rfl | exact .inr rfl | assumption) (by intro _ ;rfl)) (@zac _ _ _ _ _ (@zck _ _ _ _ _ _ (qv 2) (@zhM _ _ _ _ _ _ _ (@za1 _ _ _ _ _ _ _ (@za2 _ K rfl) (qv 3) (@za1 _ _ _ _ _ _ _ (@zbI _ K rfl) (qv 1) zai (fun _ _=>rfl)) (fun _ _=>rfl)) (@za1 _ _ _ _ _ _ _ (@zbI _ K rfl) (qv 1) zai (fun _ _=>rfl)) zhQ (by intro _ ;rfl)) (by rfl) (by rfl) (by rfl)) (@zae _ _ _ (@zap _ _ _ _ (qv 3))))),?_⟩;refine⟨⟨_,SqL.of hm0⟩,?_⟩;intro pt npt;refine zat (K:=K) (a:=t) (xs:=ws.map V.ref) (fun i σ H1=>∃ (v:Option V) (rs:List Addr),σ=[v]/\Sub H H1/\MaR H1 pt rs (m.take i)/\(∀ x∈rs,H x=none)/\(pt::rs).Nodup) ?_ ?_ ?_ ?_
   ·exact⟨none,[],rfl,Sub.new npt,⟨zad,by simp,.nil⟩,by simp,by simp⟩
   ·rintro i σ H1 _ ⟨v,rs,rfl,S1,_⟩;exact SqL.of (S1 _ _ hm0)
   ·rintro i x σ H1 hi' ⟨v,rs,rfl,S1,M1,N1,D1⟩;rw [zoY] at hi';obtain⟨r,hr,rfl⟩:=zo0.1 hi';obtain⟨es,hes,as,hra,haa⟩:=hrw.at hr;have hil:i<m.length:=(zo1.1 hes).1;have m4:=M.n4;refine⟨_,.inl (SqL.of (S1 _ _ hra)),?_⟩;intro p2 n2;generalize U':upd _ p2 _=H2;obtain ⟨S2,e2⟩:=zak n2 U';clear U';have M2:=M1.stay (.sub S2);have o4:p2 ∉ rs:=M1.out n2;have q4:p2≠pt:=M1.outp n2;refine⟨_,M2.1,?_,_,rs++[p2],rfl,(S1.trans S2).upd npt,?_,?_,?_⟩
    ·rw [zoX,M2.2.2.1,zpm];exact zpb (Nat.min_le_left _ _) (zpb (show i<=6 by omega) (by decide))
    ·rw [zpk,hes];exact M2.app' ⟨as,e2,haa.mono fun _ _ _ z=>S2 _ _ (S1 _ _ z)⟩ o4 q4
    ·intro x hx;rcases zo8.1 hx with hx | hx
     ·exact N1 x hx
     ·rw [zo6.1 hx];exact S1.free n2
    ·rw [← List.cons_append];exact List.nodup_append.2 ⟨D1,by simp,fun a ha b hb e=>by
      rw [zo6.1 hb] at e;subst e;rcases zpG.1 ha with z | z
      ·exact q4 z
      ·exact o4 z⟩
   rintro σ H1 ⟨v,rs,rfl,S1,M1,N1,D1⟩;rw [zoX,hrw.1,zpj] at M1;have hq1:=S1 _ _ hq;have hlt:i<rs.length:=by rw [M1.2.2.1];exact hi
   have hrd:rs[i]?=some rs[i]:=zoZ hlt;generalize rs[i]=r at hrd;obtain⟨es,hes,as,hra⟩:=M1.2.2.at hrd;have hesl:es.length=sgn m:=M.len es (zo2 hes);have eg:m.getD i []=es:=by rw [zpF,hes];rfl
   refine⟨_,_,SqT.of hq1,rfl,?_⟩;refine⟨_,_,SqL.of M1.1,zce (by omega) (by rw [Int.toNat_natCast,zoY,hrd];rfl),?_⟩;refine⟨_,_,SqT.of hq1,rfl,?_⟩;refine⟨_,j,hra.1,zji (by rw [zoX,hra.2.1,hesl];exact hj),?_⟩;walk_at "w";refine h pt rs _ (S1.upd (N1 r (zo2 hrd))) ⟨?_,npt,N1,D1⟩;unfold zb6;rw [eg];exact M1.rowSet hrd hra (S1 _ _ hc)
  ·exact h.elim
theorem zgu:zao ["machine","row","place","sign"] ["machine"] (zaj zfL):=by walk_at "s"
def lkS (x:St3):Int × Int:=(x.1,(zbh x.2.2 x.2.1).getD 0)
def zaO (m:Ma):St3:=((tr m 200 s00).getLast?).getD s00
def zbe (m:Ma):Option (Int × Int):=if en3 m (zaO m)=some [] then some (lkS (zaO m)) else none
theorem zdY (m:Ma):(tr m 200 s00).getLast?=some (zaO m):=by
 unfold zaO;cases h:(tr m 200 s00).getLast? with
 | none=>exact (zmq m 200 s00 (List.getLast?_eq_none_iff.1 h)).elim
 | some x=>rfl
theorem zfy {m:Ma} (M:OkM m):OkS m (zaO m).1 (zaO m).2.2:=znP M 200 s00 M.start _ (List.mem_of_getLast? (zdY m))
theorem zlF {m:Ma} (M:OkM m) (h:([]:En) ∉ (zga m).map (·.2.2)):zbe m=none:=by
 unfold zbe;rw [zpB];intro z;obtain⟨es,e,h1,h2,h3,_⟩:=(zfy M).at M (zaO m).2.1
 have:e=[]:=by
  have:en3 m (zaO m)=some e:=h3
  rw [z] at this;exact (zpK this).symm
 subst this;refine h (zpf.2 ⟨((zaO m).1.toNat,(((zbh (zaO m).2.2 (zaO m).2.1).getD 0).toNat:Int),[]),?_,rfl⟩);unfold zga;refine List.mem_flatten.2 ⟨_,zo2 (zcm h1),?_⟩;exact zo2 (zjR h2)
theorem zke {m:Ma} (M:OkM m):(zga m).length<=16:=by
 have:=zdc (xs:=zbr m) (n:=4) fun x hx=>by
  obtain⟨i,hi,e⟩:=List.getElem_of_mem hx;rw [zaV] at hi;have e1:=zcm (zoZ hi);have e2:=zpK ((zo1.2 ⟨by rw [zaV];exact hi,e⟩).symm.trans e1);rw [e2,zcE,M.len _ (List.getElem_mem hi)];exact M.s4
 rw [zaV] at this;have h4:=M.n4;unfold zga;omega
theorem zmE (es:List En) (x:En):((es.map dE).any fun e=>eqD e (dE x))=decide (x∈es):=by
 by_cases c:x∈es
 ·rw [zo3 c,List.any_eq_true];exact⟨dE x,zpf.2 ⟨x,c,rfl⟩,by rw [zbu]⟩
 ·rw [zo4 c,List.any_eq_false];intro d hd;obtain⟨y,hy,rfl⟩:=zpf.1 hd;rw [zeP];simp only [decide_eq_true_eq];rintro rfl;exact c hy
def zeu:Sp:=fun vs H Q _=>match vs with
 | [.ref t]=>∃ m:Ma,zdw H t m/\isM m=true/\(zbe m=none->∀ H',Sub H H'->Q .non H')/\∀ q,zbe m=some q->∀ (p:Addr) (H':Hp),Sub H H'->H' p=some (.tup [.int q.1,.int q.2])->Q (.ref p) H'
 | _=>False
theorem zcj (T:Tx K mg a):za3 P w K mg base CX0 7 a.end_of a.end_of_d ["machine"] (zeu):=by
 have G_entries_in:=zdh (P:=P) (w:=w) (base:=base) T;have G_looks:=zkA (P:=P) (w:=w) (base:=base) T;refine T.q_end_of.f.ok zgu (fun vs H Q E h=>?_) (fun cdv A outer s H vs Q E hr h=>?_)
 ·unfold zeu at h;split at h
  ·rfl
  ·exact h.elim
 ·unfold zeu at h;split at h
  ·have nd:=zgu.nd;have hu:=zaD hr;rename_i t;obtain⟨m,hm,hM,h0,h1⟩:=h;have M:=OkM.of hM;refine⟨_,(@zac _ _ _ _ _ (@zbV _ _ _ _ _ _ _ _ (@zb1 _ _ _ _ _ _ _ _ (@zjB _ _ hr) (@zaG _ _ _ _ _ zab) (@zbx _ _ (["row","sign","entry"]) [] _ _ _ _ _ _ _ _ _ rfl (by walk_at "comp_ok") (@zax _ K _ _ _ rfl (@zan _ _ _ _ _ _ _ _ _ _ _ _ _ _ _ _ G_entries_in (hr.mono (by decide)) rfl T.q_entries_in.g T.q_entries_in.f.kp T.q_entries_in.b .nil zaw (@zaa _ _ _ _ _ (qv 0) zab (by rfl)) (by decide) (by rfl) (by rfl))) (fun _ _ _ _=>(@zaM _ K _ _ _ _ 3 rfl rfl (@zam _ _ _ _ _ (@zag _ _ 0 _ (show List.Nodup (α:=Str) ["row","sign","entry"] from by decide +kernel) rfl (by walk_at "o") (by first | exact .inl rfl | exact .inr rfl | assumption)) (@zam _ _ _ _ _ (@zag _ _ 1 _ (show List.Nodup (α:=Str) ["row","sign","entry"] from by decide +kernel) rfl (by walk_at "o") (by first | exact .inl rfl | exact .inr rfl | assumption)) (@zam _ _ _ _ _ (@zag _ _ 2 _ (show List.Nodup (α:=Str) ["row","sign","entry"] from by decide +kernel) rfl (by walk_at "o") (by first | exact .inl rfl | exact .inr rfl | assumption)) zaN (by rfl)) (by rfl)) (by rfl)) (by rfl) (by rfl))) (fun _ _ _ _=>zaQ) (fun _ _ _ _=>(qv 2)) (by intro _ ;rfl)) (by first | exact zaF _ | rfl)) (@zae _ _ _ (@zap _ _ _ _ zbk)) zas) (@zac _ _ _ _ _ (@zck _ _ _ _ _ _ (@za1 _ _ _ _ _ _ _ (@za2 _ K rfl) (@zan _ _ _ _ _ _ _ _ _ _ _ _ _ _ _ _ G_looks (hr.mono (by decide)) rfl T.q_looks.g T.q_looks.f.kp T.q_looks.b .nil zaw (@zaa _ _ _ _ _ (qv 0) (@zaa _ _ _ _ _ (@zfH _ _ _ _ rfl T.c_MOST_STEPS (by decide)) zab (by rfl)) (by rfl)) (by decide) (by rfl) (by rfl)) (@ziq _ _ _ _ _ _ zis zai) (fun _ _=>rfl)) (@zaM _ K _ _ _ _ 3 rfl rfl (@zam _ _ _ _ _ (@zag _ _ 1 _ nd rfl (by walk_at "o") (by first | exact .inl rfl | exact .inr rfl | assumption)) (@zam _ _ _ _ _ (@zag _ _ 2 _ nd rfl (by walk_at "o") (by first | exact .inl rfl | exact .inr rfl | assumption)) (@zam _ _ _ _ _ (@zag _ _ 3 _ nd rfl (by walk_at "o") (by first | exact .inl rfl | exact .inr rfl | assumption)) zaN (by rfl)) (by rfl)) (by rfl)) (by rfl) (by rfl)) (by rfl) (by rfl) (by rfl)) (@zae _ _ _ (@zap _ _ _ _ (@zjC _ _ _ _ _ _ _ _ (@zb1 _ _ _ _ _ _ _ _ (@zgl _ _ hr) (@za1 _ _ _ _ _ _ _ (@za2 _ K rfl) (@za1 _ _ _ _ _ _ _ (@za2 _ K rfl) (qv 0) (qv 1) (fun _ _=>rfl)) (qv 3) (fun _ _=>rfl)) (@zaG _ _ _ _ _ zab) (by first | exact zaF _ | rfl)) (@zaG _ _ _ _ _ (@zaa _ _ _ _ _ (qv 1) (@zaa _ _ _ _ _ (qv 3) zab (by rfl)) (by rfl))) zbk))))),?_⟩;refine⟨by show 0<=sizeLine;decide,?_⟩;intro p1 n1;generalize U':upd _ p1 _=H1;obtain ⟨S1,e1⟩:=zak n1 U';clear U';refine⟨m,hm.stay (.sub S1),hM,fun l as H2 S2 hl hA nl=>?_⟩;refine⟨⟨_,SqL.of hl⟩,?_⟩;intro pc npc;have few:as.length<=16:=by rw [hA.1];exact zke M
   refine zat (K:=K) (a:=l) (xs:=as.map V.ref) (fun i σ H3=>∃ (u v w:Option V) (bs:List Addr),σ=[u,v,w]/\Sub H2 H3/\H3 pc=some (.lst (bs.map V.ref))/\zba (Ent H3) bs (((zga m).take i).map (·.2.2))) ?_ ?_ ?_ ?_
   ·exact⟨none,none,none,[],rfl,Sub.new npc,zad,.nil⟩
   ·rintro i σ H3 _ ⟨u,v,w,bs,rfl,S3,_⟩;exact SqL.of (S3 _ _ hl)
   ·rintro i x σ H3 hi ⟨u,v,w,bs,rfl,S3,g3,A3⟩;rw [zoY] at hi;obtain⟨c,hc,rfl⟩:=zo0.1 hi;obtain⟨y,hy,a',ha1,ha2⟩:=hA.at hc;refine⟨_,SqT.of (S3 _ _ ha1),rfl,?_⟩;have kt:∀ a us,H3 a=some (.tup us)->(upd H3 pc (.lst (bs.map V.ref++[V.ref a']))) a=some (.tup us):=fun a us e=>by
     rw [zal (by rintro rfl;rw [g3] at e;cases e)];exact e
    refine⟨_,g3,?_,_,_,_,bs++[a'],rfl,S3.upd npc,by rw [zad,zo5];rfl,?_⟩
    ·rw [zoX,A3.1,zoX,zpm,← hA.1];exact zpb (show _<=16 by omega) (by decide)
    ·rw [zpk,hy,zo5];exact (A3.mono fun _ _ _ z=>kt _ _ z).app (kt _ _ (S3 _ _ ha2))
   rintro σ H3 ⟨u,v,w,bs,rfl,S3,g3,A3⟩;rw [zoX,hA.1,zpj] at A3;have S03:=S1.trans (S2.trans S3);have e13:H3 p1=some (.tup []):=S3 _ _ (S2 _ _ e1);refine⟨bs,((zga m).map (·.2.2)).map dE,dE [],g3,?_,Ent.den (e:=[]) e13,fun d hd=>?_,?_⟩
   ·refine⟨by rw [zoX];exact A3.1,fun i a d ha hd=>?_⟩;rw [zoY] at hd;obtain⟨e,he,rfl⟩:=zo0.1 hd;exact Ent.den (A3.2 i a e ha he)
   ·obtain⟨e,_,rfl⟩:=zpf.1 hd;exact zpc zhw (by decide)
   rw [zpC rfl,zmE];walk_at "w";by_cases z:([]:En)∈(zga m).map (·.2.2)
   ·rw [zo3 z];refine ifB.no rfl ?_;have hm3:=hm.stay (.sub S03);refine⟨m,hm3,hM,by decide,by decide,fun f ts H4 S4 hf hT nf=>?_⟩;have hL:=zdY m;have htl:ts.length=(tr m 200 s00).length:=hT.1;have hne:ts.length≠0:=by rw [htl];exact fun z=>zmq m 200 s00 (List.length_eq_zero_iff.1 z)
    have ht:ts[ts.length-1]?=some (ts[ts.length-1]'(by omega)):=zoZ _;generalize ts[ts.length-1]'(by omega)=tt at ht;rw [List.getLast?_eq_getElem?,← htl] at hL;have hlk:zlq H4 tt (zaO m):=hT.2 _ tt _ ht hL;refine⟨_,_,SqL.of hf,zlt (by rw [zoX,zoY,ht];rfl),?_⟩;refine⟨_,SqT.of hlk,rfl,?_⟩;have o2:=zfy M;obtain⟨es,en,w1,w2,w3,_,_⟩:=o2.at M (zaO m).2.1;have w3:en3 m (zaO m)=some en:=w3;have hv2:=(o2.val M (zaO m).2.1).1;have hr2:=o2.r0;have hend:zbe m=if en=[] then some (lkS (zaO m)) else none:=by
     unfold zbe;rw [w3];by_cases c:en=[]
     ·subst c;rw [zpC rfl,zpC rfl]
     ·rw [zpB (fun z=>c (zpK z)),zpB c]
    obtain⟨ws,hw0,_,hrw⟩:=hm3.stay (.sub S4);have ewi:ws[(zaO m).1.toNat]?=some (ws[(zaO m).1.toNat]'(by rw [hrw.1];exact (zo1.1 w1).1)):=zoZ _;generalize ws[(zaO m).1.toNat]'(by rw [hrw.1];exact (zo1.1 w1).1)=wi at ewi;obtain⟨es',he',cs,hE,hAe⟩:=hrw.at ewi;rw [w1] at he';obtain rfl:=zpK he';have eci:cs[((zbh (zaO m).2.2 (zaO m).2.1).getD 0).toNat]?=some (cs[((zbh (zaO m).2.2 (zaO m).2.1).getD 0).toNat]'(by rw [hAe.1];exact (zo1.1 w2).1)):=zoZ _;generalize cs[((zbh (zaO m).2.2 (zaO m).2.1).getD 0).toNat]'(by rw [hAe.1];exact (zo1.1 w2).1)=ci at eci;obtain⟨en',hen',hEn⟩:=hAe.at eci;rw [w2] at hen';obtain rfl:=zpK hen';refine⟨_,_,SqL.of hw0,zce hr2 (by rw [zoY,ewi];rfl),?_⟩;refine⟨_,_,SqL.of hE,zce hv2 (by rw [zoY,eci];rfl),?_⟩;refine⟨by show 0<=sizeLine;decide,?_⟩;intro p5 n5;generalize U':upd _ p5 _=H5;obtain ⟨S5,e5⟩:=zak n5 U';clear U';refine⟨_,_,Ent.den (show Ent H5 ci en from S5 _ _ hEn),Ent.den (e:=[]) e5,zch _,?_⟩;rw [zeP];refine ifB.dec (fun c=>?_) (fun c=>?_)
    ·rw [zpC c] at hend;refine⟨by show 2<=sizeLine;decide,?_⟩;intro p6 n6;generalize U':upd _ p6 _=H6;obtain ⟨S6,e6⟩:=zak n6 U';clear U';exact h1 _ hend p6 H6 (S03.trans (S4.trans (S5.trans S6))) e6
    ·rw [zpB c] at hend;walk_at "w";exact h0 hend _ (S03.trans (S4.trans S5))
   ·rw [zo4 z];refine ifB.yes rfl ?_;walk_at "w";exact h0 (zlF M z) _ S03
  ·exact h.elim
theorem ze5:zao ["machine","told","end","entry"] ["machine"] (zaj zc4):=by walk_at "s"
structure MsR (H:Hp) (ps:List (Addr × List Addr)) (ms:List Ma):Prop where
 len:ps.length=ms.length
 at':∀ (i:Nat) p m,ps[i]?=some p->ms[i]?=some m->MaR H p.1 p.2 m
 nd:(ps.flatMap fun p=>p.1::p.2).Nodup
theorem MsR.stay {H H':Hp} {ps:List (Addr × List Addr)} {ms:List Ma} (h:MsR H ps ms) (S:ziB H H'):MsR H' ps ms:=⟨h.len,fun i p m a b=>(h.at' i p m a b).stay S,h.nd⟩
theorem MsR.other {H:Hp} {ps:List (Addr × List Addr)} {ms:List Ma} {l:Addr} {vs us:List V} (h:MsR H ps ms) (hl:H l=some (.lst vs)) (n:l ∉ ps.flatMap fun p=>p.1::p.2):MsR (upd H l (.lst us)) ps ms :=
 ⟨h.len,fun i p m a b=>(h.at' i p m a b).other hl (fun e=>n (List.mem_flatMap.2 ⟨p,zo2 a,by rw [e];exact zpw ..⟩)) (fun e=>n (List.mem_flatMap.2 ⟨p,zo2 a,zpg _ e⟩)),h.nd⟩
theorem zef {H:Hp} {t:Addr} {rs:List Addr} {m:Ma} (h:MaR H t rs m) (hnd:(t::rs).Nodup):MsR H [(t,rs)] [m]:=by
 refine⟨rfl,fun i p m' a b=>?_,by simpa using hnd⟩
 match i,a,b with
 | 0,a,b=>cases a;cases b;exact h
 | i+1,a,_=>cases a
theorem MsR.append {H:Hp} {ps qs:List (Addr × List Addr)} {ms ns:List Ma} (h:MsR H ps ms) (h':MsR H qs ns) (d:∀ x∈ps.flatMap (fun p=>p.1::p.2),x ∉ qs.flatMap fun p=>p.1::p.2):MsR H (ps++qs) (ms++ns):=by
 refine⟨by rw [zo7,zo7,h.len,h'.len],fun i p m a b=>?_,?_⟩
 ·by_cases c:i<ps.length
  ·rw [zps c] at a;rw [zps (by rw [← h.len];exact c)] at b;exact h.at' i p m a b
  ·rw [zpt (by omega)] at a;rw [zpt (by rw [← h.len];omega),← h.len] at b;exact h'.at' _ p m a b
 ·rw [List.flatMap_append];exact List.nodup_append.2 ⟨h.nd,h'.nd,fun a ha b hb e=>d a ha (by rw [e];exact hb)⟩
def emp (m:Ma):Nat:=(m.map fun r=>r.countP fun e=>decide (e=[])).sum
theorem ziL:∀ (r:List En) (j:Nat) (e:En),r[j]?=some []->e≠[]->(r.set j e).countP (fun e=>decide (e=[]))+1=r.countP fun e=>decide (e=[])
 | [],_,_,h,_=>by cases h
 | x::r,0,e,h,he=>by
  cases h;rw [List.set_cons_zero,List.countP_cons_of_neg (by simpa using he),List.countP_cons_of_pos (by rfl)]
 | x::r,j+1,e,h,he=>by
  have:=ziL r j e h he
  rw [List.set_cons_succ,List.countP_cons,List.countP_cons];omega
theorem zgS:∀ (m:Ma) (i j:Nat) (es:List En) (e:En),m[i]?=some es->es[j]?=some []->e≠[]->emp (m.set i (es.set j e))+1=emp m
 | [],_,_,_,_,h,_,_=>by cases h
 | r::m,0,j,es,e,h,hj,he=>by
  cases h
  have:=ziL r j e hj he
  unfold emp;rw [List.set_cons_zero,zpq,zpq,List.sum_cons,List.sum_cons];omega
 | r::m,i+1,j,es,e,h,hj,he=>by
  have:=zgS m i j es e h hj he
  unfold emp at this ⊢;rw [List.set_cons_succ,zpq,zpq,List.sum_cons,List.sum_cons];omega
theorem zcV.one {m:Ma} {a b:List En} (h:zcV m a) (h':zcV m b):a=b:=by
 obtain⟨n,k,h1,h2,rfl⟩:=h;obtain⟨n',k',g1,g2,rfl⟩:=h';rw [h1.one g1,h2.one g2]
noncomputable def zkx (m:Ma):List En:=@dite _ (∃ es,zcV m es) (Classical.propDecidable _) (fun h=>Classical.choose h) fun _=>[]
theorem zg0 {m:Ma} {es:List En} (h:zcV m es):zkx m=es:=by
 unfold zkx;rw [dif_pos ⟨es,h⟩];exact (Classical.choose_spec (p:=fun es=>zcV m es) ⟨es,h⟩).one h
theorem zlQ {p a:Nat} {ws:List Int} {e:En} (h:e∈zeB p a ws):∃ (i j:Nat) (w:Int),e=[(i:Int),w,(j:Int)]/\i<p/\j<a/\w∈ws:=by
 unfold zeB at h;obtain⟨i,hi,h⟩:=List.mem_flatMap.1 h;obtain⟨w,hw,h⟩:=List.mem_flatMap.1 h;obtain⟨j,hj,rfl⟩:=zpf.1 h;exact⟨i,j,w,rfl,List.mem_range.1 hi,List.mem_range.1 hj,hw⟩
theorem zeg {m:Ma} (M:OkM m) {es:List En} (h:zcV m es):(∀ e∈es,e≠[]/\za9 m.length (sgn m) e=true)/\es.length<=32:=by
 obtain⟨n,k,h1,h2,rfl⟩:=h;have n1:=ze1 M h1;have k1:=ze1 M h2;have mn1:=M.n1;have mn4:=M.n4;have ms2:=M.s2;have ms4:=M.s4;refine⟨fun e he=>?_,zfB (by omega) (by omega) (by unfold zcz;split <;> decide)⟩;obtain⟨i,j,w,rfl,hi,hj,hw⟩:=zlQ he;refine⟨by simp,?_⟩;have hww:w=-1\/w=1:=by
  unfold zcz at hw;split at hw
  ·exact .inr (by simpa using hw)
  ·simpa using hw
 show ((decide (0<=(i:Int)) && decide ((i:Int)<sgn m)) && (decide (w=-1) || decide (w=1)) && (decide (0<=(j:Int)) && decide ((j:Int)<m.length)))=true;have t:(decide (w=-1) || decide (w=1))=true:=by rcases hww with rfl | rfl <;> rfl
 rw [t,zo3 (by omega),zo3 (by omega),zo3 (by omega),zo3 (by omega)]
 rfl
theorem zm1 {m:Ma} {rows signs:Int} (h1:(m.length:Int)=rows) (h2:1<=rows) (h3:rows<=4) (h4:2<=signs) (h5:signs<=4)
  (h:∀ r∈m,(r.length:Int)=signs/\∀ e∈r,za9 rows signs e=true):isM m=true:=by
 cases m with
 | nil=>simp at h1;omega
 | cons r0 m' =>
  have h0:=(h r0 (by simp)).1;refine zm0 (by omega) (by omega) (by omega) fun r hr=>⟨by have:=(h r hr).1;omega,?_⟩
  unfold zky;rw [h1,h0];exact zpn.2 (h r hr).2
theorem zlV {m:Ma} {i j:Nat} {es:List En} {e:En} (M:OkM m) (hi:m[i]?=some es) (he:za9 m.length (sgn m) e=true):isM (m.set i (es.set j e))=true:=by
 refine zm1 (rows:=m.length) (signs:=sgn m) (by rw [zpl]) (by have:=M.n1;omega) (by have:=M.n4;omega) (by have:=M.s2;omega) (by have:=M.s4;omega) fun r hr=>?_
 rcases List.mem_or_eq_of_mem_set hr with hr | rfl
 ·exact⟨by rw [M.len r hr],M.ent r hr⟩
 ·refine⟨by rw [zpl,M.len es (zo2 hi)],fun x hx=>?_⟩;rcases List.mem_or_eq_of_mem_set hx with hx | rfl
  ·exact M.ent es (zo2 hi) x hx
  ·exact he
noncomputable def zaq:Nat->Ma->List Ma
 | 0,m=>[m]
 | k+1,m=>m::match zbe m with
  | none=>[]
  | some q=>(zkx m).flatMap fun e=>zaq k (zb6 m q.1.toNat q.2.toNat e)
theorem zd6 {m:Ma} (M:OkM m) {q:Int × Int} (h:zbe m=some q):∃ (i j:Nat) (es:List En),q=((i:Int),(j:Int))/\m[i]?=some es/\es[j]?=some []/\i<m.length/\j<sgn m:=by
 unfold zbe at h;split at h
 ·rename_i c;cases h;have o:=zfy M;obtain⟨es,e,h1,h2,h3,_⟩:=o.at M (zaO m).2.1
  have:e=[]:=by
   have h3:en3 m (zaO m)=some e:=h3;rw [c] at h3;exact (zpK h3).symm
  subst this;have hv:=o.val M (zaO m).2.1;have hr:=o.r0;have hr1:=o.r1;refine⟨(zaO m).1.toNat,((zbh (zaO m).2.2 (zaO m).2.1).getD 0).toNat,es,?_,h1,h2,by omega,by omega⟩;unfold lkS;rw [Int.toNat_of_nonneg hr,Int.toNat_of_nonneg hv.1]
 ·cases h
theorem zgR {m:Ma} (M:OkM m) {q:Int × Int} (h:zbe m=some q):0<emp m:=by
 obtain⟨i,j,es,_,h1,h2,_⟩:=zd6 M h
 have:=zgS m i j es [0] h1 h2 (by simp)
 omega
theorem MsR.out {H:Hp} {ps:List (Addr × List Addr)} {ms:List Ma} {q:Addr} (h:MsR H ps ms) (n:H q=none):q ∉ ps.flatMap fun p=>p.1::p.2:=fun z=>by
 obtain⟨p,hp,hq⟩:=List.mem_flatMap.1 z;obtain⟨i,hi⟩:=List.getElem?_of_mem hp;have hl:i<ms.length:=by rw [← h.len];exact (zo1.1 hi).1
 have:=h.at' i p _ hi (zoZ hl)
 rcases zpG.1 hq with e | e
 ·exact this.outp n e
 ·exact this.out n e
theorem zbb {k:Nat} {m:Ma} (h:zbe m=none):zaq (k+1) m=[m]:=by
 rw [zaq,h]
theorem zbf {k:Nat} {m:Ma} {q:Int × Int} {es:List En} (h:zbe m=some q) (he:zcV m es):zaq (k+1) m=m::es.flatMap fun e=>zaq k (zb6 m q.1.toNat q.2.toNat e):=by
 rw [zaq,h,zg0 he]
def grB:Nat->Nat
 | 0=>1
 | k+1=>1+32*grB k
theorem zbY {α β:Type} {f:α->List β} {B:Nat}:∀ (l:List α),(∀ x∈l,(f x).length<=B)->(l.flatMap f).length<=l.length*B
 | [],_=>by simp
 | x::l,h=>by
  have a:=h x (by simp);have b:=zbY l fun y hy=>h y (zpg _ hy)
  rw [List.flatMap_cons,zo7,zpA,Nat.add_mul,Nat.one_mul];omega
theorem zjT {m:Ma} {i j:Nat} {es:List En} (e:En) (h:m[i]?=some es):zb6 m i j e=m.set i (es.set j e):=by
 unfold zb6;rw [zpF,h];rfl
theorem zbs {m:Ma} (M:OkM m) {q:Int × Int} (hq:zbe m=some q) {es:List En} (he:zcV m es) {e:En} (h:e∈es):isM (zb6 m q.1.toNat q.2.toNat e)=true/\emp (zb6 m q.1.toNat q.2.toNat e)+1=emp m:=by
 obtain⟨i,j,r,rfl,h1,h2,_⟩:=zd6 M hq;have o:=(zeg M he).1 e h;show isM (zb6 m (i:Int).toNat (j:Int).toNat e)=true/\emp (zb6 m (i:Int).toNat (j:Int).toNat e)+1=emp m;rw [Int.toNat_natCast,Int.toNat_natCast,zjT e h1];exact⟨zlV M h1 o.2,zgS m i j r e h1 h2 o.1⟩
theorem zop:∀ k,1<=grB k
 | 0=>zpd _
 | k+1=>by rw [grB];omega
theorem zaH:∀ (k:Nat) (m:Ma),isM m=true->(zaq k m).length<=grB k
 | 0,m,_=>zpd _
 | k+1,m,hM=>by
  have M:=OkM.of hM;rw [grB,zaq,zpA];split
  ·simp
  ·rename_i q hq;by_cases hn:∃ es,zcV m es
   ·obtain⟨es,hn⟩:=hn;rw [zg0 hn];have a:=zbY (f:=fun e=>zaq k (zb6 m q.1.toNat q.2.toNat e)) (B:=grB k) es fun e he=>zaH k _ (zbs M hq hn he).1
    have b:=Nat.mul_le_mul_right (grB k) (zeg M hn).2;omega
   ·have:zkx m=[]:=by unfold zkx;rw [dif_neg hn]
    rw [this];simp
def zaZ (k:Nat):Sp:=fun vs H Q _=>match vs with
 | [.ref t]=>∃ (m:Ma) (rs:List Addr),MaR H t rs m/\isM m=true/\emp m<=k/\(t::rs).Nodup/\∀ (l:Addr) (ps:List (Addr × List Addr)) (H':Hp),Sub H H'->H l=none->H' l=some (.lst ((((t,rs)::ps).map (·.1)).map V.ref))->MsR H' ((t,rs)::ps) (zaq k m)->(∀ x∈ps.flatMap (fun p=>p.1::p.2),H x=none)->l ∉ ((t,rs)::ps).flatMap (fun p=>p.1::p.2)->Q (.ref l) H'
 | _=>False
theorem zig (T:Tx K mg a):za3 P w K mg base CX0 8 a.grown a.grown_d ["machine"] (zaZ 0):=by
 have G_end_of:=zcj (P:=P) (w:=w) (base:=base) T;have G_new_entries:=za5 (P:=P) (w:=w) (base:=base) T;have G_with_entry:=zbc (P:=P) (w:=w) (base:=base) T;refine T.q_grown.f.ok ze5 (fun vs H Q E h=>?_) (fun cdv A outer s H vs Q E hr h=>?_)
 ·unfold zaZ at h;split at h
  ·rfl
  ·exact h.elim
 ·unfold zaZ at h;split at h
  ·have nd:=ze5.nd;have hu:=zaD hr;rename_i t;obtain⟨m,rs,hm,hM,hk,hnd,h⟩:=h;have M:=OkM.of hM;refine⟨_,(@zac _ _ _ _ _ (@zar _ _ 1 _ _ _ _ nd rfl (by walk_at "o") (@zaR _ _ _ _ (@zaa _ _ _ _ _ (qv 0) zab (by rfl))) (by rfl) (by first | exact .inl rfl | exact .inr rfl | assumption)) (@zac _ _ _ _ _ (@zar _ _ 2 _ _ _ _ nd rfl (by walk_at "o") (@zan _ _ _ _ _ _ _ _ _ _ _ _ _ _ _ _ G_end_of (hr.mono (by decide)) rfl T.q_end_of.g T.q_end_of.f.kp T.q_end_of.b .nil zaw (@zaa _ _ _ _ _ (qv 0) zab (by rfl)) (by decide) (by rfl) (by rfl)) (by rfl) (by first | exact .inl rfl | exact .inr rfl | assumption)) (@zac _ _ _ _ _ (@zbV _ _ _ _ _ _ _ _ (@zb1 _ _ _ _ _ _ _ _ zcZ (qv 2) zbk (by first | exact zaF _ | rfl)) zdl zas) (@zae _ _ _ (@zap _ _ _ _ (qv 1)))))),?_⟩;refine⟨by show 1<=sizeLine;decide,?_⟩;intro p1 n1;generalize U':upd _ p1 _=H1;obtain ⟨S1,e1⟩:=zak n1 U';clear U';have one:∀ {H':Hp},MaR H' t rs m->MsR H' [(t,rs)] [m]:=fun h=>zef h hnd
   have out:p1 ∉ ([(t,rs)]:List (Addr × List Addr)).flatMap (fun p=>p.1::p.2):=fun z=>by
    rw [List.flatMap_singleton] at z;rcases zpG.1 z with z | z
    ·exact hm.outp n1 z
    ·exact hm.out n1 z
   refine⟨m,⟨rs,hm.stay (.sub S1)⟩,hM,fun hN H2 S2=>?_,fun q hq q' H2 S2 hq'=>?_⟩
   ·walk_at "w";refine⟨rfl,?_⟩;refine ifB.no (by rw [zo3 rfl];rfl) ?_;walk_at "w";refine h p1 [] H2 (S1.trans S2) n1 (S2 _ _ e1) ?_ (fun x hx=>by cases hx) out;show MsR H2 [(t,rs)] [m];exact one ((hm.stay (.sub S1)).stay (.sub S2))
   ·have:=zgR M hq
    omega
  ·exact h.elim
theorem ze6:zao ["machine","told","end","entry"] ["machine"] (zaj zc4):=by walk_at "s"
theorem zih (T:Tx K mg a):za3 P w K mg base CX0 9 a.grown a.grown_d ["machine"] (zaZ 1):=by
 have G_end_of:=zcj (P:=P) (w:=w) (base:=base) T;have G_new_entries:=za5 (P:=P) (w:=w) (base:=base) T;have G_with_entry:=zbc (P:=P) (w:=w) (base:=base) T;have G_grown:=zig (P:=P) (w:=w) (base:=base) T;refine T.q_grown.f.ok ze6 (fun vs H Q E h=>?_) (fun cdv A outer s H vs Q E hr h=>?_)
 ·unfold zaZ at h;split at h
  ·rfl
  ·exact h.elim
 ·unfold zaZ at h;split at h
  ·have nd:=ze6.nd;have hu:=zaD hr;rename_i t;obtain⟨m,rs,hm,hM,hk,hnd,h⟩:=h;have M:=OkM.of hM;refine⟨_,(@zac _ _ _ _ _ (@zar _ _ 1 _ _ _ _ nd rfl (by walk_at "o") (@zaR _ _ _ _ (@zaa _ _ _ _ _ (qv 0) zab (by rfl))) (by rfl) (by first | exact .inl rfl | exact .inr rfl | assumption)) (@zac _ _ _ _ _ (@zar _ _ 2 _ _ _ _ nd rfl (by walk_at "o") (@zan _ _ _ _ _ _ _ _ _ _ _ _ _ _ _ _ G_end_of (hr.mono (by decide)) rfl T.q_end_of.g T.q_end_of.f.kp T.q_end_of.b .nil zaw (@zaa _ _ _ _ _ (qv 0) zab (by rfl)) (by decide) (by rfl) (by rfl)) (by rfl) (by first | exact .inl rfl | exact .inr rfl | assumption)) (@zac _ _ _ _ _ (@zbV _ _ _ _ _ _ _ _ (@zb1 _ _ _ _ _ _ _ _ zcZ (qv 2) zbk (by first | exact zaF _ | rfl)) (@zae _ _ _ (@zbp _ _ _ _ _ _ _ _ PassesOwn.never rfl (@zax _ K _ _ _ rfl (@zan _ _ _ _ _ _ _ _ _ _ _ _ _ _ _ _ G_new_entries (hr.mono (by decide)) rfl T.q_new_entries.g T.q_new_entries.f.kp T.q_new_entries.b .nil zaw (@zaa _ _ _ _ _ (qv 0) zab (by rfl)) (by decide) (by rfl) (by rfl))) (@zag _ _ 3 _ nd rfl (by walk_at "o") (by first | exact .inl rfl | exact .inr rfl | assumption)) (@zae _ _ _ (@zgn _ _ 1 _ _ _ _ _ _ nd rfl (by walk_at "o") (@zan _ _ _ _ _ _ _ _ _ _ _ _ _ _ _ _ G_grown (hr.mono (by decide)) rfl T.q_grown.g T.q_grown.f.kp T.q_grown.b .nil zaw (@zaa _ _ _ _ _ (@zan _ _ _ _ _ _ _ _ _ _ _ _ _ _ _ _ G_with_entry (hr.mono (by decide)) rfl T.q_with_entry.g T.q_with_entry.f.kp T.q_with_entry.b .nil zaw (@zaa _ _ _ _ _ (qv 0) (@zaa _ _ _ _ _ (qv 2) (@zaa _ _ _ _ _ (qv 3) zab (by rfl)) (by rfl)) (by rfl)) (by decide) (by rfl) (by rfl)) zab (by rfl)) (by decide) (by rfl) (by rfl)) zhD (by first | exact .inl rfl | exact .inr rfl | assumption))) (by intro _ ;rfl))) zas) (@zae _ _ _ (@zap _ _ _ _ (qv 1)))))),?_⟩;refine⟨by show 1<=sizeLine;decide,?_⟩;intro p1 n1;generalize U':upd _ p1 _=H1;obtain ⟨S1,e1⟩:=zak n1 U';clear U';have one:∀ {H':Hp},MaR H' t rs m->MsR H' [(t,rs)] [m]:=fun h=>zef h hnd
   have out:p1 ∉ ([(t,rs)]:List (Addr × List Addr)).flatMap (fun p=>p.1::p.2):=fun z=>by
    rw [List.flatMap_singleton] at z;rcases zpG.1 z with z | z
    ·exact hm.outp n1 z
    ·exact hm.out n1 z
   refine⟨m,⟨rs,hm.stay (.sub S1)⟩,hM,fun hN H2 S2=>?_,fun q hq q' H2 S2 hq'=>?_⟩
   ·walk_at "w";refine⟨rfl,?_⟩;refine ifB.no (by rw [zo3 rfl];rfl) ?_;walk_at "w";refine h p1 [] H2 (S1.trans S2) n1 (S2 _ _ e1) ?_ (fun x hx=>by cases hx) out;rw [show zaq (0+1) m=[m] from zbb hN];exact one ((hm.stay (.sub S1)).stay (.sub S2))
   ·obtain⟨i,j,es0,rfl,hes0,hj0,hi,hj⟩:=zd6 M hq;refine⟨rfl,?_⟩;refine ifB.yes (by rw [zo4 (fun z=>by cases z)];rfl) ?_;have hm2:=(hm.stay (.sub S1)).stay (.sub S2);refine⟨m,⟨rs,hm2⟩,hM,fun ln as en H3 S3 nln hln hA hne=>?_⟩;have hq1:q'≠p1:=by rintro rfl;rw [S2 _ _ e1] at hq';cases hq'
    have hl1:ln≠p1:=by rintro rfl;rw [S2 _ _ e1] at nln;cases nln
    have h31:=S3 _ _ (S2 _ _ e1);have hc:∀ e∈en,isM (zb6 m i j e)=true/\emp (zb6 m i j e)+1=emp m:=fun e he=>zbs M hq hne he
    have hce:=zeg M hne;refine⟨⟨_,SqL.of hln⟩,?_⟩;refine zbv (K:=K) (a:=ln) (xs:=as.map V.ref) (fun n σ H4=>∃ (v:Option V) (ps:List (Addr × List Addr)),σ=[some (.ref t),some (.ref p1),some (.ref q'),v]/\(∀ a o,a≠p1->H3 a=some o->H4 a=some o)/\H4 p1=some (.lst ((((t,rs)::ps).map (·.1)).map V.ref))/\MsR H4 ((t,rs)::ps) (m::(en.take n).flatMap fun e=>zaq 0 (zb6 m i j e))/\(∀ x∈ps.flatMap (fun p=>p.1::p.2),H x=none)/\p1 ∉ ((t,rs)::ps).flatMap (fun p=>p.1::p.2)) ?_ ?_ ?_ ?_
    ·exact⟨_,[],rfl,fun _ _ _ z=>z,h31,one (hm2.stay (.sub S3)),by simp,out⟩
    ·rintro n σ H4 _ ⟨v,ps,rfl,B4,_⟩;exact SqL.of (B4 _ _ hl1 hln)
    ·rintro n x σ H4 hx ⟨v,ps,rfl,B4,g4,M4,N4,O4⟩;rw [zoY] at hx;obtain⟨x,hx1,rfl⟩:=zo0.1 hx;obtain⟨e,he,hxe⟩:=hA.at hx1;have hin:=zo2 he;have S4:Sub H H4:=fun a o z=>B4 a o (by rintro rfl;rw [n1] at z;cases z) (S3 _ _ (S2 _ _ (S1 _ _ z)))
     have hm4:MaR H4 t rs m:=M4.at' 0 _ _ rfl rfl;refine⟨_,rfl,?_⟩;refine⟨m,i,j,e,⟨rs,hm4⟩,hM,B4 _ _ hq1 (S3 _ _ hq'),B4 _ _ (by rintro rfl;have:=h31.symm.trans hxe;cases this) hxe,hi,hj,fun t5 rs5 H5 S5 N5=>?_⟩;refine⟨_,rs5,N5.1,(hc e hin).1,by have:=(hc e hin).2;omega,N5.2.2.2,fun l6 ps6 H6 S6 n6 e6 M6 F6 O6=>?_⟩;have S46:=S5.trans S6;have c5:∀ x∈((t5,rs5)::ps6).flatMap (fun p=>p.1::p.2),H4 x=none:=fun x hx=>by
      rw [List.flatMap_cons] at hx;rcases zo8.1 hx with hx | hx
      ·rcases zpG.1 hx with rfl | hx
       ·exact N5.2.1
       ·exact N5.2.2.1 x hx
      ·exact S5.free (F6 x hx)
     refine⟨_,_,S46 _ _ g4,e6,?_,?_⟩
     ·rw [zoX,zoX,zoX,zoX,M4.len,M6.len,zpA];have a:=zbY (f:=fun e=>zaq 0 (zb6 m i j e)) (B:=grB 0) (en.take n) fun e he=>zaH 0 _ (hc e (List.mem_of_mem_take he)).1
      have b:=zaH 0 _ (hc e hin).1;have c:(en.take n).length<=32:=by rw [zpm];exact zpc (Nat.min_le_right _ _) hce.2
      have d:=Nat.mul_le_mul_right (grB 0) c;exact zpc (show _<=1+32*grB 0+grB 0 by omega) (by decide)
     ·have k6:=S46 _ _ g4;have M46:=(M4.stay (.sub S46)).other (us:=((((t,rs)::ps).map (·.1)).map V.ref)++((((t5,rs5)::ps6).map (·.1)).map V.ref)) k6 O4
      have o6:p1 ∉ ((t5,rs5)::ps6).flatMap (fun p=>p.1::p.2):=fun z=>by have:=c5 _ z;rw [g4] at this;cases this
      have M66:=M6.other (us:=((((t,rs)::ps).map (·.1)).map V.ref)++((((t5,rs5)::ps6).map (·.1)).map V.ref)) k6 o6
      refine⟨_,ps++(t5,rs5)::ps6,rfl,fun a o na z=>?_,?_,?_,?_,?_⟩
      ·rw [zal na];exact S46 _ _ (B4 a o na z)
      ·rw [zad,← zo5,← zo5,List.cons_append]
      ·rw [zpk,he,List.flatMap_append];show MsR _ (((t,rs)::ps)++(t5,rs5)::ps6) ((m::_)++(zaq 0 (zb6 m i j e)++[]));rw [zo9];exact M46.append M66 fun x hx hy=>M4.out (c5 x hy) hx
      ·intro x hx;rw [List.flatMap_append] at hx;rcases zo8.1 hx with hx | hx
       ·exact N4 x hx
       ·exact S4.free (c5 x hx)
      ·intro z;rw [← List.cons_append,List.flatMap_append] at z;rcases zo8.1 z with z | z
       ·exact O4 z
       ·exact o6 z
    rintro σ H4 ⟨v,ps,rfl,B4,g4,M4,N4,O4⟩;rw [zoX,hA.1,zpj] at M4;have S4:Sub H H4:=fun a o z=>B4 a o (by rintro rfl;rw [n1] at z;cases z) (S3 _ _ (S2 _ _ (S1 _ _ z)))
    walk_at "w";refine h p1 ps H4 S4 n1 g4 ?_ N4 O4;rw [show zaq (0+1) m=_ from zbf hq hne];exact M4
  ·exact h.elim
theorem ze7:zao ["machine","told","end","entry"] ["machine"] (zaj zc4):=by walk_at "s"
theorem zii (T:Tx K mg a):za3 P w K mg base CX0 10 a.grown a.grown_d ["machine"] (zaZ 2):=by
 have G_end_of:=zcj (P:=P) (w:=w) (base:=base) T;have G_new_entries:=za5 (P:=P) (w:=w) (base:=base) T;have G_with_entry:=zbc (P:=P) (w:=w) (base:=base) T;have G_grown:=zih (P:=P) (w:=w) (base:=base) T;refine T.q_grown.f.ok ze7 (fun vs H Q E h=>?_) (fun cdv A outer s H vs Q E hr h=>?_)
 ·unfold zaZ at h;split at h
  ·rfl
  ·exact h.elim
 ·unfold zaZ at h;split at h
  ·have nd:=ze7.nd;have hu:=zaD hr;rename_i t;obtain⟨m,rs,hm,hM,hk,hnd,h⟩:=h;have M:=OkM.of hM;refine⟨_,(@zac _ _ _ _ _ (@zar _ _ 1 _ _ _ _ nd rfl (by walk_at "o") (@zaR _ _ _ _ (@zaa _ _ _ _ _ (qv 0) zab (by rfl))) (by rfl) (by first | exact .inl rfl | exact .inr rfl | assumption)) (@zac _ _ _ _ _ (@zar _ _ 2 _ _ _ _ nd rfl (by walk_at "o") (@zan _ _ _ _ _ _ _ _ _ _ _ _ _ _ _ _ G_end_of (hr.mono (by decide)) rfl T.q_end_of.g T.q_end_of.f.kp T.q_end_of.b .nil zaw (@zaa _ _ _ _ _ (qv 0) zab (by rfl)) (by decide) (by rfl) (by rfl)) (by rfl) (by first | exact .inl rfl | exact .inr rfl | assumption)) (@zac _ _ _ _ _ (@zbV _ _ _ _ _ _ _ _ (@zb1 _ _ _ _ _ _ _ _ zcZ (qv 2) zbk (by first | exact zaF _ | rfl)) (@zae _ _ _ (@zbp _ _ _ _ _ _ _ _ PassesOwn.never rfl (@zax _ K _ _ _ rfl (@zan _ _ _ _ _ _ _ _ _ _ _ _ _ _ _ _ G_new_entries (hr.mono (by decide)) rfl T.q_new_entries.g T.q_new_entries.f.kp T.q_new_entries.b .nil zaw (@zaa _ _ _ _ _ (qv 0) zab (by rfl)) (by decide) (by rfl) (by rfl))) (@zag _ _ 3 _ nd rfl (by walk_at "o") (by first | exact .inl rfl | exact .inr rfl | assumption)) (@zae _ _ _ (@zgn _ _ 1 _ _ _ _ _ _ nd rfl (by walk_at "o") (@zan _ _ _ _ _ _ _ _ _ _ _ _ _ _ _ _ G_grown (hr.mono (by decide)) rfl T.q_grown.g T.q_grown.f.kp T.q_grown.b .nil zaw (@zaa _ _ _ _ _ (@zan _ _ _ _ _ _ _ _ _ _ _ _ _ _ _ _ G_with_entry (hr.mono (by decide)) rfl T.q_with_entry.g T.q_with_entry.f.kp T.q_with_entry.b .nil zaw (@zaa _ _ _ _ _ (qv 0) (@zaa _ _ _ _ _ (qv 2) (@zaa _ _ _ _ _ (qv 3) zab (by rfl)) (by rfl)) (by rfl)) (by decide) (by rfl) (by rfl)) zab (by rfl)) (by decide) (by rfl) (by rfl)) zhD (by first | exact .inl rfl | exact .inr rfl | assumption))) (by intro _ ;rfl))) zas) (@zae _ _ _ (@zap _ _ _ _ (qv 1)))))),?_⟩;refine⟨by show 1<=sizeLine;decide,?_⟩;intro p1 n1;generalize U':upd _ p1 _=H1;obtain ⟨S1,e1⟩:=zak n1 U';clear U';have one:∀ {H':Hp},MaR H' t rs m->MsR H' [(t,rs)] [m]:=fun h=>zef h hnd
   have out:p1 ∉ ([(t,rs)]:List (Addr × List Addr)).flatMap (fun p=>p.1::p.2):=fun z=>by
    rw [List.flatMap_singleton] at z;rcases zpG.1 z with z | z
    ·exact hm.outp n1 z
    ·exact hm.out n1 z
   refine⟨m,⟨rs,hm.stay (.sub S1)⟩,hM,fun hN H2 S2=>?_,fun q hq q' H2 S2 hq'=>?_⟩
   ·walk_at "w";refine⟨rfl,?_⟩;refine ifB.no (by rw [zo3 rfl];rfl) ?_;walk_at "w";refine h p1 [] H2 (S1.trans S2) n1 (S2 _ _ e1) ?_ (fun x hx=>by cases hx) out;rw [show zaq (1+1) m=[m] from zbb hN];exact one ((hm.stay (.sub S1)).stay (.sub S2))
   ·obtain⟨i,j,es0,rfl,hes0,hj0,hi,hj⟩:=zd6 M hq;refine⟨rfl,?_⟩;refine ifB.yes (by rw [zo4 (fun z=>by cases z)];rfl) ?_;have hm2:=(hm.stay (.sub S1)).stay (.sub S2);refine⟨m,⟨rs,hm2⟩,hM,fun ln as en H3 S3 nln hln hA hne=>?_⟩;have hq1:q'≠p1:=by rintro rfl;rw [S2 _ _ e1] at hq';cases hq'
    have hl1:ln≠p1:=by rintro rfl;rw [S2 _ _ e1] at nln;cases nln
    have h31:=S3 _ _ (S2 _ _ e1);have hc:∀ e∈en,isM (zb6 m i j e)=true/\emp (zb6 m i j e)+1=emp m:=fun e he=>zbs M hq hne he
    have hce:=zeg M hne;refine⟨⟨_,SqL.of hln⟩,?_⟩;refine zbv (K:=K) (a:=ln) (xs:=as.map V.ref) (fun n σ H4=>∃ (v:Option V) (ps:List (Addr × List Addr)),σ=[some (.ref t),some (.ref p1),some (.ref q'),v]/\(∀ a o,a≠p1->H3 a=some o->H4 a=some o)/\H4 p1=some (.lst ((((t,rs)::ps).map (·.1)).map V.ref))/\MsR H4 ((t,rs)::ps) (m::(en.take n).flatMap fun e=>zaq 1 (zb6 m i j e))/\(∀ x∈ps.flatMap (fun p=>p.1::p.2),H x=none)/\p1 ∉ ((t,rs)::ps).flatMap (fun p=>p.1::p.2)) ?_ ?_ ?_ ?_
    ·exact⟨_,[],rfl,fun _ _ _ z=>z,h31,one (hm2.stay (.sub S3)),by simp,out⟩
    ·rintro n σ H4 _ ⟨v,ps,rfl,B4,_⟩;exact SqL.of (B4 _ _ hl1 hln)
    ·rintro n x σ H4 hx ⟨v,ps,rfl,B4,g4,M4,N4,O4⟩;rw [zoY] at hx;obtain⟨x,hx1,rfl⟩:=zo0.1 hx;obtain⟨e,he,hxe⟩:=hA.at hx1;have hin:=zo2 he;have S4:Sub H H4:=fun a o z=>B4 a o (by rintro rfl;rw [n1] at z;cases z) (S3 _ _ (S2 _ _ (S1 _ _ z)))
     have hm4:MaR H4 t rs m:=M4.at' 0 _ _ rfl rfl;refine⟨_,rfl,?_⟩;refine⟨m,i,j,e,⟨rs,hm4⟩,hM,B4 _ _ hq1 (S3 _ _ hq'),B4 _ _ (by rintro rfl;have:=h31.symm.trans hxe;cases this) hxe,hi,hj,fun t5 rs5 H5 S5 N5=>?_⟩;refine⟨_,rs5,N5.1,(hc e hin).1,by have:=(hc e hin).2;omega,N5.2.2.2,fun l6 ps6 H6 S6 n6 e6 M6 F6 O6=>?_⟩;have S46:=S5.trans S6;have c5:∀ x∈((t5,rs5)::ps6).flatMap (fun p=>p.1::p.2),H4 x=none:=fun x hx=>by
      rw [List.flatMap_cons] at hx;rcases zo8.1 hx with hx | hx
      ·rcases zpG.1 hx with rfl | hx
       ·exact N5.2.1
       ·exact N5.2.2.1 x hx
      ·exact S5.free (F6 x hx)
     refine⟨_,_,S46 _ _ g4,e6,?_,?_⟩
     ·rw [zoX,zoX,zoX,zoX,M4.len,M6.len,zpA];have a:=zbY (f:=fun e=>zaq 1 (zb6 m i j e)) (B:=grB 1) (en.take n) fun e he=>zaH 1 _ (hc e (List.mem_of_mem_take he)).1
      have b:=zaH 1 _ (hc e hin).1;have c:(en.take n).length<=32:=by rw [zpm];exact zpc (Nat.min_le_right _ _) hce.2
      have d:=Nat.mul_le_mul_right (grB 1) c;exact zpc (show _<=1+32*grB 1+grB 1 by omega) (by decide)
     ·have k6:=S46 _ _ g4;have M46:=(M4.stay (.sub S46)).other (us:=((((t,rs)::ps).map (·.1)).map V.ref)++((((t5,rs5)::ps6).map (·.1)).map V.ref)) k6 O4
      have o6:p1 ∉ ((t5,rs5)::ps6).flatMap (fun p=>p.1::p.2):=fun z=>by have:=c5 _ z;rw [g4] at this;cases this
      have M66:=M6.other (us:=((((t,rs)::ps).map (·.1)).map V.ref)++((((t5,rs5)::ps6).map (·.1)).map V.ref)) k6 o6
      refine⟨_,ps++(t5,rs5)::ps6,rfl,fun a o na z=>?_,?_,?_,?_,?_⟩
      ·rw [zal na];exact S46 _ _ (B4 a o na z)
      ·rw [zad,← zo5,← zo5,List.cons_append]
      ·rw [zpk,he,List.flatMap_append];show MsR _ (((t,rs)::ps)++(t5,rs5)::ps6) ((m::_)++(zaq 1 (zb6 m i j e)++[]));rw [zo9];exact M46.append M66 fun x hx hy=>M4.out (c5 x hy) hx
      ·intro x hx;rw [List.flatMap_append] at hx;rcases zo8.1 hx with hx | hx
       ·exact N4 x hx
       ·exact S4.free (c5 x hx)
      ·intro z;rw [← List.cons_append,List.flatMap_append] at z;rcases zo8.1 z with z | z
       ·exact O4 z
       ·exact o6 z
    rintro σ H4 ⟨v,ps,rfl,B4,g4,M4,N4,O4⟩;rw [zoX,hA.1,zpj] at M4;have S4:Sub H H4:=fun a o z=>B4 a o (by rintro rfl;rw [n1] at z;cases z) (S3 _ _ (S2 _ _ (S1 _ _ z)))
    walk_at "w";refine h p1 ps H4 S4 n1 g4 ?_ N4 O4;rw [show zaq (1+1) m=_ from zbf hq hne];exact M4
  ·exact h.elim
theorem ze8:zao ["machine","told","end","entry"] ["machine"] (zaj zc4):=by walk_at "s"
theorem zij (T:Tx K mg a):za3 P w K mg base CX0 11 a.grown a.grown_d ["machine"] (zaZ 3):=by
 have G_end_of:=zcj (P:=P) (w:=w) (base:=base) T;have G_new_entries:=za5 (P:=P) (w:=w) (base:=base) T;have G_with_entry:=zbc (P:=P) (w:=w) (base:=base) T;have G_grown:=zii (P:=P) (w:=w) (base:=base) T;refine T.q_grown.f.ok ze8 (fun vs H Q E h=>?_) (fun cdv A outer s H vs Q E hr h=>?_)
 ·unfold zaZ at h;split at h
  ·rfl
  ·exact h.elim
 ·unfold zaZ at h;split at h
  ·have nd:=ze8.nd;have hu:=zaD hr;rename_i t;obtain⟨m,rs,hm,hM,hk,hnd,h⟩:=h;have M:=OkM.of hM;refine⟨_,(@zac _ _ _ _ _ (@zar _ _ 1 _ _ _ _ nd rfl (by walk_at "o") (@zaR _ _ _ _ (@zaa _ _ _ _ _ (qv 0) zab (by rfl))) (by rfl) (by first | exact .inl rfl | exact .inr rfl | assumption)) (@zac _ _ _ _ _ (@zar _ _ 2 _ _ _ _ nd rfl (by walk_at "o") (@zan _ _ _ _ _ _ _ _ _ _ _ _ _ _ _ _ G_end_of (hr.mono (by decide)) rfl T.q_end_of.g T.q_end_of.f.kp T.q_end_of.b .nil zaw (@zaa _ _ _ _ _ (qv 0) zab (by rfl)) (by decide) (by rfl) (by rfl)) (by rfl) (by first | exact .inl rfl | exact .inr rfl | assumption)) (@zac _ _ _ _ _ (@zbV _ _ _ _ _ _ _ _ (@zb1 _ _ _ _ _ _ _ _ zcZ (qv 2) zbk (by first | exact zaF _ | rfl)) (@zae _ _ _ (@zbp _ _ _ _ _ _ _ _ PassesOwn.never rfl (@zax _ K _ _ _ rfl (@zan _ _ _ _ _ _ _ _ _ _ _ _ _ _ _ _ G_new_entries (hr.mono (by decide)) rfl T.q_new_entries.g T.q_new_entries.f.kp T.q_new_entries.b .nil zaw (@zaa _ _ _ _ _ (qv 0) zab (by rfl)) (by decide) (by rfl) (by rfl))) (@zag _ _ 3 _ nd rfl (by walk_at "o") (by first | exact .inl rfl | exact .inr rfl | assumption)) (@zae _ _ _ (@zgn _ _ 1 _ _ _ _ _ _ nd rfl (by walk_at "o") (@zan _ _ _ _ _ _ _ _ _ _ _ _ _ _ _ _ G_grown (hr.mono (by decide)) rfl T.q_grown.g T.q_grown.f.kp T.q_grown.b .nil zaw (@zaa _ _ _ _ _ (@zan _ _ _ _ _ _ _ _ _ _ _ _ _ _ _ _ G_with_entry (hr.mono (by decide)) rfl T.q_with_entry.g T.q_with_entry.f.kp T.q_with_entry.b .nil zaw (@zaa _ _ _ _ _ (qv 0) (@zaa _ _ _ _ _ (qv 2) (@zaa _ _ _ _ _ (qv 3) zab (by rfl)) (by rfl)) (by rfl)) (by decide) (by rfl) (by rfl)) zab (by rfl)) (by decide) (by rfl) (by rfl)) zhD (by first | exact .inl rfl | exact .inr rfl | assumption))) (by intro _ ;rfl))) zas) (@zae _ _ _ (@zap _ _ _ _ (qv 1)))))),?_⟩;refine⟨by show 1<=sizeLine;decide,?_⟩;intro p1 n1;generalize U':upd _ p1 _=H1;obtain ⟨S1,e1⟩:=zak n1 U';clear U';have one:∀ {H':Hp},MaR H' t rs m->MsR H' [(t,rs)] [m]:=fun h=>zef h hnd
   have out:p1 ∉ ([(t,rs)]:List (Addr × List Addr)).flatMap (fun p=>p.1::p.2):=fun z=>by
    rw [List.flatMap_singleton] at z;rcases zpG.1 z with z | z
    ·exact hm.outp n1 z
    ·exact hm.out n1 z
   refine⟨m,⟨rs,hm.stay (.sub S1)⟩,hM,fun hN H2 S2=>?_,fun q hq q' H2 S2 hq'=>?_⟩
   ·walk_at "w";refine⟨rfl,?_⟩;refine ifB.no (by rw [zo3 rfl];rfl) ?_;walk_at "w";refine h p1 [] H2 (S1.trans S2) n1 (S2 _ _ e1) ?_ (fun x hx=>by cases hx) out;rw [show zaq (2+1) m=[m] from zbb hN];exact one ((hm.stay (.sub S1)).stay (.sub S2))
   ·obtain⟨i,j,es0,rfl,hes0,hj0,hi,hj⟩:=zd6 M hq;refine⟨rfl,?_⟩;refine ifB.yes (by rw [zo4 (fun z=>by cases z)];rfl) ?_;have hm2:=(hm.stay (.sub S1)).stay (.sub S2);refine⟨m,⟨rs,hm2⟩,hM,fun ln as en H3 S3 nln hln hA hne=>?_⟩;have hq1:q'≠p1:=by rintro rfl;rw [S2 _ _ e1] at hq';cases hq'
    have hl1:ln≠p1:=by rintro rfl;rw [S2 _ _ e1] at nln;cases nln
    have h31:=S3 _ _ (S2 _ _ e1);have hc:∀ e∈en,isM (zb6 m i j e)=true/\emp (zb6 m i j e)+1=emp m:=fun e he=>zbs M hq hne he
    have hce:=zeg M hne;refine⟨⟨_,SqL.of hln⟩,?_⟩;refine zbv (K:=K) (a:=ln) (xs:=as.map V.ref) (fun n σ H4=>∃ (v:Option V) (ps:List (Addr × List Addr)),σ=[some (.ref t),some (.ref p1),some (.ref q'),v]/\(∀ a o,a≠p1->H3 a=some o->H4 a=some o)/\H4 p1=some (.lst ((((t,rs)::ps).map (·.1)).map V.ref))/\MsR H4 ((t,rs)::ps) (m::(en.take n).flatMap fun e=>zaq 2 (zb6 m i j e))/\(∀ x∈ps.flatMap (fun p=>p.1::p.2),H x=none)/\p1 ∉ ((t,rs)::ps).flatMap (fun p=>p.1::p.2)) ?_ ?_ ?_ ?_
    ·exact⟨_,[],rfl,fun _ _ _ z=>z,h31,one (hm2.stay (.sub S3)),by simp,out⟩
    ·rintro n σ H4 _ ⟨v,ps,rfl,B4,_⟩;exact SqL.of (B4 _ _ hl1 hln)
    ·rintro n x σ H4 hx ⟨v,ps,rfl,B4,g4,M4,N4,O4⟩;rw [zoY] at hx;obtain⟨x,hx1,rfl⟩:=zo0.1 hx;obtain⟨e,he,hxe⟩:=hA.at hx1;have hin:=zo2 he;have S4:Sub H H4:=fun a o z=>B4 a o (by rintro rfl;rw [n1] at z;cases z) (S3 _ _ (S2 _ _ (S1 _ _ z)))
     have hm4:MaR H4 t rs m:=M4.at' 0 _ _ rfl rfl;refine⟨_,rfl,?_⟩;refine⟨m,i,j,e,⟨rs,hm4⟩,hM,B4 _ _ hq1 (S3 _ _ hq'),B4 _ _ (by rintro rfl;have:=h31.symm.trans hxe;cases this) hxe,hi,hj,fun t5 rs5 H5 S5 N5=>?_⟩;refine⟨_,rs5,N5.1,(hc e hin).1,by have:=(hc e hin).2;omega,N5.2.2.2,fun l6 ps6 H6 S6 n6 e6 M6 F6 O6=>?_⟩;have S46:=S5.trans S6;have c5:∀ x∈((t5,rs5)::ps6).flatMap (fun p=>p.1::p.2),H4 x=none:=fun x hx=>by
      rw [List.flatMap_cons] at hx;rcases zo8.1 hx with hx | hx
      ·rcases zpG.1 hx with rfl | hx
       ·exact N5.2.1
       ·exact N5.2.2.1 x hx
      ·exact S5.free (F6 x hx)
     refine⟨_,_,S46 _ _ g4,e6,?_,?_⟩
     ·rw [zoX,zoX,zoX,zoX,M4.len,M6.len,zpA];have a:=zbY (f:=fun e=>zaq 2 (zb6 m i j e)) (B:=grB 2) (en.take n) fun e he=>zaH 2 _ (hc e (List.mem_of_mem_take he)).1
      have b:=zaH 2 _ (hc e hin).1;have c:(en.take n).length<=32:=by rw [zpm];exact zpc (Nat.min_le_right _ _) hce.2
      have d:=Nat.mul_le_mul_right (grB 2) c;exact zpc (show _<=1+32*grB 2+grB 2 by omega) (by decide)
     ·have k6:=S46 _ _ g4;have M46:=(M4.stay (.sub S46)).other (us:=((((t,rs)::ps).map (·.1)).map V.ref)++((((t5,rs5)::ps6).map (·.1)).map V.ref)) k6 O4
      have o6:p1 ∉ ((t5,rs5)::ps6).flatMap (fun p=>p.1::p.2):=fun z=>by have:=c5 _ z;rw [g4] at this;cases this
      have M66:=M6.other (us:=((((t,rs)::ps).map (·.1)).map V.ref)++((((t5,rs5)::ps6).map (·.1)).map V.ref)) k6 o6
      refine⟨_,ps++(t5,rs5)::ps6,rfl,fun a o na z=>?_,?_,?_,?_,?_⟩
      ·rw [zal na];exact S46 _ _ (B4 a o na z)
      ·rw [zad,← zo5,← zo5,List.cons_append]
      ·rw [zpk,he,List.flatMap_append];show MsR _ (((t,rs)::ps)++(t5,rs5)::ps6) ((m::_)++(zaq 2 (zb6 m i j e)++[]));rw [zo9];exact M46.append M66 fun x hx hy=>M4.out (c5 x hy) hx
      ·intro x hx;rw [List.flatMap_append] at hx;rcases zo8.1 hx with hx | hx
       ·exact N4 x hx
       ·exact S4.free (c5 x hx)
      ·intro z;rw [← List.cons_append,List.flatMap_append] at z;rcases zo8.1 z with z | z
       ·exact O4 z
       ·exact o6 z
    rintro σ H4 ⟨v,ps,rfl,B4,g4,M4,N4,O4⟩;rw [zoX,hA.1,zpj] at M4;have S4:Sub H H4:=fun a o z=>B4 a o (by rintro rfl;rw [n1] at z;cases z) (S3 _ _ (S2 _ _ (S1 _ _ z)))
    walk_at "w";refine h p1 ps H4 S4 n1 g4 ?_ N4 O4;rw [show zaq (2+1) m=_ from zbf hq hne];exact M4
  ·exact h.elim
theorem ze9:zao ["machine","told","end","entry"] ["machine"] (zaj zc4):=by walk_at "s"
theorem zik (T:Tx K mg a):za3 P w K mg base CX0 12 a.grown a.grown_d ["machine"] (zaZ 4):=by
 have G_end_of:=zcj (P:=P) (w:=w) (base:=base) T;have G_new_entries:=za5 (P:=P) (w:=w) (base:=base) T;have G_with_entry:=zbc (P:=P) (w:=w) (base:=base) T;have G_grown:=zij (P:=P) (w:=w) (base:=base) T;refine T.q_grown.f.ok ze9 (fun vs H Q E h=>?_) (fun cdv A outer s H vs Q E hr h=>?_)
 ·unfold zaZ at h;split at h
  ·rfl
  ·exact h.elim
 ·unfold zaZ at h;split at h
  ·have nd:=ze9.nd;have hu:=zaD hr;rename_i t;obtain⟨m,rs,hm,hM,hk,hnd,h⟩:=h;have M:=OkM.of hM;refine⟨_,(@zac _ _ _ _ _ (@zar _ _ 1 _ _ _ _ nd rfl (by walk_at "o") (@zaR _ _ _ _ (@zaa _ _ _ _ _ (qv 0) zab (by rfl))) (by rfl) (by first | exact .inl rfl | exact .inr rfl | assumption)) (@zac _ _ _ _ _ (@zar _ _ 2 _ _ _ _ nd rfl (by walk_at "o") (@zan _ _ _ _ _ _ _ _ _ _ _ _ _ _ _ _ G_end_of (hr.mono (by decide)) rfl T.q_end_of.g T.q_end_of.f.kp T.q_end_of.b .nil zaw (@zaa _ _ _ _ _ (qv 0) zab (by rfl)) (by decide) (by rfl) (by rfl)) (by rfl) (by first | exact .inl rfl | exact .inr rfl | assumption)) (@zac _ _ _ _ _ (@zbV _ _ _ _ _ _ _ _ (@zb1 _ _ _ _ _ _ _ _ zcZ (qv 2) zbk (by first | exact zaF _ | rfl)) (@zae _ _ _ (@zbp _ _ _ _ _ _ _ _ PassesOwn.never rfl (@zax _ K _ _ _ rfl (@zan _ _ _ _ _ _ _ _ _ _ _ _ _ _ _ _ G_new_entries (hr.mono (by decide)) rfl T.q_new_entries.g T.q_new_entries.f.kp T.q_new_entries.b .nil zaw (@zaa _ _ _ _ _ (qv 0) zab (by rfl)) (by decide) (by rfl) (by rfl))) (@zag _ _ 3 _ nd rfl (by walk_at "o") (by first | exact .inl rfl | exact .inr rfl | assumption)) (@zae _ _ _ (@zgn _ _ 1 _ _ _ _ _ _ nd rfl (by walk_at "o") (@zan _ _ _ _ _ _ _ _ _ _ _ _ _ _ _ _ G_grown (hr.mono (by decide)) rfl T.q_grown.g T.q_grown.f.kp T.q_grown.b .nil zaw (@zaa _ _ _ _ _ (@zan _ _ _ _ _ _ _ _ _ _ _ _ _ _ _ _ G_with_entry (hr.mono (by decide)) rfl T.q_with_entry.g T.q_with_entry.f.kp T.q_with_entry.b .nil zaw (@zaa _ _ _ _ _ (qv 0) (@zaa _ _ _ _ _ (qv 2) (@zaa _ _ _ _ _ (qv 3) zab (by rfl)) (by rfl)) (by rfl)) (by decide) (by rfl) (by rfl)) zab (by rfl)) (by decide) (by rfl) (by rfl)) zhD (by first | exact .inl rfl | exact .inr rfl | assumption))) (by intro _ ;rfl))) zas) (@zae _ _ _ (@zap _ _ _ _ (qv 1)))))),?_⟩;refine⟨by show 1<=sizeLine;decide,?_⟩;intro p1 n1;generalize U':upd _ p1 _=H1;obtain ⟨S1,e1⟩:=zak n1 U';clear U';have one:∀ {H':Hp},MaR H' t rs m->MsR H' [(t,rs)] [m]:=fun h=>zef h hnd
   have out:p1 ∉ ([(t,rs)]:List (Addr × List Addr)).flatMap (fun p=>p.1::p.2):=fun z=>by
    rw [List.flatMap_singleton] at z;rcases zpG.1 z with z | z
    ·exact hm.outp n1 z
    ·exact hm.out n1 z
   refine⟨m,⟨rs,hm.stay (.sub S1)⟩,hM,fun hN H2 S2=>?_,fun q hq q' H2 S2 hq'=>?_⟩
   ·walk_at "w";refine⟨rfl,?_⟩;refine ifB.no (by rw [zo3 rfl];rfl) ?_;walk_at "w";refine h p1 [] H2 (S1.trans S2) n1 (S2 _ _ e1) ?_ (fun x hx=>by cases hx) out;rw [show zaq (3+1) m=[m] from zbb hN];exact one ((hm.stay (.sub S1)).stay (.sub S2))
   ·obtain⟨i,j,es0,rfl,hes0,hj0,hi,hj⟩:=zd6 M hq;refine⟨rfl,?_⟩;refine ifB.yes (by rw [zo4 (fun z=>by cases z)];rfl) ?_;have hm2:=(hm.stay (.sub S1)).stay (.sub S2);refine⟨m,⟨rs,hm2⟩,hM,fun ln as en H3 S3 nln hln hA hne=>?_⟩;have hq1:q'≠p1:=by rintro rfl;rw [S2 _ _ e1] at hq';cases hq'
    have hl1:ln≠p1:=by rintro rfl;rw [S2 _ _ e1] at nln;cases nln
    have h31:=S3 _ _ (S2 _ _ e1);have hc:∀ e∈en,isM (zb6 m i j e)=true/\emp (zb6 m i j e)+1=emp m:=fun e he=>zbs M hq hne he
    have hce:=zeg M hne;refine⟨⟨_,SqL.of hln⟩,?_⟩;refine zbv (K:=K) (a:=ln) (xs:=as.map V.ref) (fun n σ H4=>∃ (v:Option V) (ps:List (Addr × List Addr)),σ=[some (.ref t),some (.ref p1),some (.ref q'),v]/\(∀ a o,a≠p1->H3 a=some o->H4 a=some o)/\H4 p1=some (.lst ((((t,rs)::ps).map (·.1)).map V.ref))/\MsR H4 ((t,rs)::ps) (m::(en.take n).flatMap fun e=>zaq 3 (zb6 m i j e))/\(∀ x∈ps.flatMap (fun p=>p.1::p.2),H x=none)/\p1 ∉ ((t,rs)::ps).flatMap (fun p=>p.1::p.2)) ?_ ?_ ?_ ?_
    ·exact⟨_,[],rfl,fun _ _ _ z=>z,h31,one (hm2.stay (.sub S3)),by simp,out⟩
    ·rintro n σ H4 _ ⟨v,ps,rfl,B4,_⟩;exact SqL.of (B4 _ _ hl1 hln)
    ·rintro n x σ H4 hx ⟨v,ps,rfl,B4,g4,M4,N4,O4⟩;rw [zoY] at hx;obtain⟨x,hx1,rfl⟩:=zo0.1 hx;obtain⟨e,he,hxe⟩:=hA.at hx1;have hin:=zo2 he;have S4:Sub H H4:=fun a o z=>B4 a o (by rintro rfl;rw [n1] at z;cases z) (S3 _ _ (S2 _ _ (S1 _ _ z)))
     have hm4:MaR H4 t rs m:=M4.at' 0 _ _ rfl rfl;refine⟨_,rfl,?_⟩;refine⟨m,i,j,e,⟨rs,hm4⟩,hM,B4 _ _ hq1 (S3 _ _ hq'),B4 _ _ (by rintro rfl;have:=h31.symm.trans hxe;cases this) hxe,hi,hj,fun t5 rs5 H5 S5 N5=>?_⟩;refine⟨_,rs5,N5.1,(hc e hin).1,by have:=(hc e hin).2;omega,N5.2.2.2,fun l6 ps6 H6 S6 n6 e6 M6 F6 O6=>?_⟩;have S46:=S5.trans S6;have c5:∀ x∈((t5,rs5)::ps6).flatMap (fun p=>p.1::p.2),H4 x=none:=fun x hx=>by
      rw [List.flatMap_cons] at hx;rcases zo8.1 hx with hx | hx
      ·rcases zpG.1 hx with rfl | hx
       ·exact N5.2.1
       ·exact N5.2.2.1 x hx
      ·exact S5.free (F6 x hx)
     refine⟨_,_,S46 _ _ g4,e6,?_,?_⟩
     ·rw [zoX,zoX,zoX,zoX,M4.len,M6.len,zpA];have a:=zbY (f:=fun e=>zaq 3 (zb6 m i j e)) (B:=grB 3) (en.take n) fun e he=>zaH 3 _ (hc e (List.mem_of_mem_take he)).1
      have b:=zaH 3 _ (hc e hin).1;have c:(en.take n).length<=32:=by rw [zpm];exact zpc (Nat.min_le_right _ _) hce.2
      have d:=Nat.mul_le_mul_right (grB 3) c;exact zpc (show _<=1+32*grB 3+grB 3 by omega) (by decide)
     ·have k6:=S46 _ _ g4;have M46:=(M4.stay (.sub S46)).other (us:=((((t,rs)::ps).map (·.1)).map V.ref)++((((t5,rs5)::ps6).map (·.1)).map V.ref)) k6 O4
      have o6:p1 ∉ ((t5,rs5)::ps6).flatMap (fun p=>p.1::p.2):=fun z=>by have:=c5 _ z;rw [g4] at this;cases this
      have M66:=M6.other (us:=((((t,rs)::ps).map (·.1)).map V.ref)++((((t5,rs5)::ps6).map (·.1)).map V.ref)) k6 o6
      refine⟨_,ps++(t5,rs5)::ps6,rfl,fun a o na z=>?_,?_,?_,?_,?_⟩
      ·rw [zal na];exact S46 _ _ (B4 a o na z)
      ·rw [zad,← zo5,← zo5,List.cons_append]
      ·rw [zpk,he,List.flatMap_append];show MsR _ (((t,rs)::ps)++(t5,rs5)::ps6) ((m::_)++(zaq 3 (zb6 m i j e)++[]));rw [zo9];exact M46.append M66 fun x hx hy=>M4.out (c5 x hy) hx
      ·intro x hx;rw [List.flatMap_append] at hx;rcases zo8.1 hx with hx | hx
       ·exact N4 x hx
       ·exact S4.free (c5 x hx)
      ·intro z;rw [← List.cons_append,List.flatMap_append] at z;rcases zo8.1 z with z | z
       ·exact O4 z
       ·exact o6 z
    rintro σ H4 ⟨v,ps,rfl,B4,g4,M4,N4,O4⟩;rw [zoX,hA.1,zpj] at M4;have S4:Sub H H4:=fun a o z=>B4 a o (by rintro rfl;rw [n1] at z;cases z) (S3 _ _ (S2 _ _ (S1 _ _ z)))
    walk_at "w";refine h p1 ps H4 S4 n1 g4 ?_ N4 O4;rw [show zaq (3+1) m=_ from zbf hq hne];exact M4
  ·exact h.elim
theorem zcK:zao ["rows","signs","told","machine","word","steps","setup"] ["rows","signs"] (zaj zb2):=by walk_at "s"
def zc8 (m:Ma):Option (Ma × Int × Int):=if wd m (zaO m)="ends" then some (m,((tr m 200 s00).length:Int)-1,((zaO m).2.2.length:Int)) else none
noncomputable def zdb (r s:Int):List (Ma × Int × Int):=(zaq 4 (zbi r s)).filterMap zc8
abbrev NdZ:=Addr × (Addr × List Addr) × (Ma × Int × Int)
abbrev flN (zs:List NdZ):List Addr:=zs.flatMap fun z=>z.2.1.1::z.2.1.2
structure zkX (H:Hp) (zs:List NdZ):Prop where
 ma:∀ z∈zs,MaR H z.2.1.1 z.2.1.2 z.2.2.1
 tu:∀ z∈zs,H z.1=some (.tup [.ref z.2.1.1,.int z.2.2.2.1,.int z.2.2.2.2])
theorem zdX {α β:Type} {f:α->List β} {a b:List α} (h:a.Sublist b):(a.flatMap f).Sublist (b.flatMap f):=by
 induction h with
 | slnil=>exact .slnil
 | cons x _ ih=>rw [List.flatMap_cons];exact ih.trans (List.sublist_append_right _ _)
 | cons_cons x _ ih=>rw [List.flatMap_cons,List.flatMap_cons];exact ih.append_left _
theorem zkX.stay {H H':Hp} {zs:List NdZ} (h:zkX H zs) (S:Sub H H'):zkX H' zs:=⟨fun z hz=>(h.ma z hz).stay (.sub S),fun z hz=>S _ _ (h.tu z hz)⟩
theorem zkX.other {H:Hp} {zs:List NdZ} {l:Addr} {vs us:List V} (h:zkX H zs) (hl:H l=some (.lst vs)) (n:l ∉ flN zs):zkX (upd H l (.lst us)) zs :=
 ⟨fun z hz=>(h.ma z hz).other hl (fun e=>n (List.mem_flatMap.2 ⟨z,hz,by rw [e];exact zpw ..⟩)) (fun e=>n (List.mem_flatMap.2 ⟨z,hz,zpg _ e⟩)),fun z hz=>by rw [zal (fun e=>by have:=h.tu z hz;rw [e,hl] at this;cases this)];exact h.tu z hz⟩
theorem zdy (zs:List NdZ):flN zs=(zs.map (·.2.1)).flatMap fun p=>p.1::p.2:=by
 rw [List.flatMap_map]
theorem zda {r s:Int} (h:zgG r s):emp (zbi r s)<=4:=by
 rcases h with ⟨rfl,rfl⟩ | ⟨rfl,rfl | rfl | rfl⟩ <;> decide
theorem zbw {r s:Int} (h:zgG r s):isM (zbi r s)=true:=by
 rcases h with ⟨rfl,rfl⟩ | ⟨rfl,rfl | rfl | rfl⟩ <;> decide
theorem zd9:∀ (k:Nat) (m:Ma),isM m=true->emp m<=k->∀ m'∈zaq k m,isM m'=true
 | 0,m,hM,_,m',h=>by rw [zaq] at h;rw [zo6.1 h];exact hM
 | k+1,m,hM,he,m',h=>by
  have M:=OkM.of hM;rw [zaq] at h;rcases zpG.1 h with rfl | h
  ·exact hM
  ·split at h
   ·cases h
   ·rename_i q hq;obtain⟨e,h1,h2⟩:=List.mem_flatMap.1 h;by_cases hn:∃ es,zcV m es
    ·obtain⟨es,hn⟩:=hn;rw [zg0 hn] at h1;have c:=zbs M hq hn h1;exact zd9 k _ c.1 (by omega) m' h2
    ·have:zkx m=[]:=by unfold zkx;rw [dif_neg hn]
     rw [this] at h1;cases h1
def zfR:Sp:=fun vs H Q _=>match vs with
 | [.int r,.int s]=>zgG r s/\∀ (l:Addr) (zs:List NdZ) (H':Hp),Sub H H'->H l=none->H' l=some (.lst ((zs.map (·.1)).map V.ref))->zkX H' zs->zs.map (·.2.2)=zdb r s->(flN zs).Nodup->(∀ x∈flN zs,H x=none)->l ∉ flN zs->Q (.ref l) H'
 | _=>False
theorem zcI (T:Tx K mg a):za3 P w K mg base CX0 13 a.ended_nodes a.ended_nodes_d ["rows","signs"] (zfR):=by
 have G_must_size:=zgk (P:=P) (w:=w) (base:=base) T;have G_first_machine:=zdT (P:=P) (w:=w) (base:=base) T;have G_grown:=zik (P:=P) (w:=w) (base:=base) T;have G_run:=zne (P:=P) (w:=w) (base:=base) T;refine T.q_ended_nodes.f.ok zcK (fun vs H Q E h=>?_) (fun cdv A outer s H vs Q E hr h=>?_)
 ·unfold zfR at h;split at h
  ·rfl
  ·exact h.elim
 ·unfold zfR at h;split at h
  ·have nd:=zcK.nd;have hu:=zaD hr;rename_i r s;obtain⟨hs,h⟩:=h;refine⟨_,(@zac _ _ _ _ _ (@zbB _ _ _ _ (@zan _ _ _ _ _ _ _ _ _ _ _ _ _ _ _ _ G_must_size (hr.mono (by decide)) rfl T.q_must_size.g T.q_must_size.f.kp T.q_must_size.b .nil zaw (@zaa _ _ _ _ _ (qv 0) (@zaa _ _ _ _ _ (qv 1) zab (by rfl)) (by rfl)) (by decide) (by rfl) (by rfl)) (by rfl)) (@zac _ _ _ _ _ (@zar _ _ 2 _ _ _ _ nd rfl (by walk_at "o") (@zaR _ _ _ _ zab) (by rfl) (by first | exact .inl rfl | exact .inr rfl | assumption)) (@zac _ _ _ _ _ (@zbp _ _ _ _ _ _ _ _ PassesOwn.never rfl (@zax _ K _ _ _ rfl (@zan _ _ _ _ _ _ _ _ _ _ _ _ _ _ _ _ G_grown (hr.mono (by decide)) rfl T.q_grown.g T.q_grown.f.kp T.q_grown.b .nil zaw (@zaa _ _ _ _ _ (@zan _ _ _ _ _ _ _ _ _ _ _ _ _ _ _ _ G_first_machine (hr.mono (by decide)) rfl T.q_first_machine.g T.q_first_machine.f.kp T.q_first_machine.b .nil zaw (@zaa _ _ _ _ _ (qv 0) (@zaa _ _ _ _ _ (qv 1) zab (by rfl)) (by rfl)) (by decide) (by rfl) (by rfl)) zab (by rfl)) (by decide) (by rfl) (by rfl))) (@zag _ _ 3 _ nd rfl (by walk_at "o") (by first | exact .inl rfl | exact .inr rfl | assumption)) (@zac _ _ _ _ _ (@zck _ _ _ _ _ _ (@zan _ _ _ _ _ _ _ _ _ _ _ _ _ _ _ _ G_run (hr.mono (by decide)) rfl T.q_run.g T.q_run.f.kp T.q_run.b .nil zaw (@zaa _ _ _ _ _ (qv 3) (@zaa _ _ _ _ _ (@zfH _ _ _ _ rfl T.c_MOST_STEPS (by decide)) zab (by rfl)) (by rfl)) (by decide) (by rfl) (by rfl)) (@zaM _ K _ _ _ _ 3 rfl rfl (@zam _ _ _ _ _ (@zag _ _ 4 _ nd rfl (by walk_at "o") (by first | exact .inl rfl | exact .inr rfl | assumption)) (@zam _ _ _ _ _ (@zag _ _ 5 _ nd rfl (by walk_at "o") (by first | exact .inl rfl | exact .inr rfl | assumption)) (@zam _ _ _ _ _ (@zag _ _ 6 _ nd rfl (by walk_at "o") (by first | exact .inl rfl | exact .inr rfl | assumption)) zaN (by rfl)) (by rfl)) (by rfl)) (by rfl) (by rfl)) (by rfl) (by rfl) (by rfl)) (@zae _ _ _ (@zbV _ _ _ _ _ _ _ _ (@zb1 _ _ _ _ _ _ _ _ zhO (qv 4) zhL (by first | exact zaF _ | rfl)) (@zae _ _ _ (@zbB _ _ _ _ (@zg3 _ _ _ _ _ _ _ _ _ _ _ _ PySem.F.plainAttrs_list PySem.F.slot_list_append PySem.F.type_list_append zg6 (qv 2) (@zaa _ _ _ _ _ (@zaG _ _ _ _ _ (@zaa _ _ _ _ _ (qv 3) (@zaa _ _ _ _ _ (qv 5) (@zaa _ _ _ _ _ (@zah _ _ _ _ _ _ _ _ _ (@za6 _ K rfl) rfl T.z_len za4 (@zaa _ _ _ _ _ (@za1 _ _ _ _ _ _ _ (@zbI _ K rfl) (qv 6) zai (fun _ _=>rfl)) zab (by rfl)) (by decide) (by decide) (by rfl) (by rfl)) zab (by rfl)) (by rfl)) (by rfl))) zab (by rfl)) (by rfl) (by rfl) (by rfl) (by rfl) (by rfl)) (by rfl))) zas))) (by intro _ ;rfl)) (@zae _ _ _ (@zap _ _ _ _ (qv 2)))))),?_⟩;refine⟨hs,fun H1 S1=>?_⟩;refine⟨Nat.zero_le _,?_⟩;intro p2 n2;generalize U':upd _ p2 _=H2;obtain ⟨S2,e2⟩:=zak n2 U';clear U';refine⟨hs,fun t rs H3 S3 N3=>?_⟩;refine⟨_,rs,N3.1,zbw hs,zda hs,N3.2.2.2,fun l4 ps H4 S4 n4 e4 M4 F4 O4=>?_⟩;have c4:∀ x∈((t,rs)::ps).flatMap (fun p=>p.1::p.2),H2 x=none:=fun x hx=>by
    rw [List.flatMap_cons] at hx;rcases zo8.1 hx with hx | hx
    ·rcases zpG.1 hx with rfl | hx
     ·exact N3.2.1
     ·exact N3.2.2.1 x hx
    ·exact S3.free (F4 x hx)
   have hms:=zaH 4 _ (zbw hs);have hok:∀ m∈zaq 4 (zbi r s),isM m=true:=zd9 4 _ (zbw hs) (zda hs);generalize (t,rs)::ps=al at e4 M4 O4 c4;have g4:=S4 _ _ (S3 _ _ e2);have o4:p2 ∉ al.flatMap (fun p=>p.1::p.2):=fun z=>by have:=c4 _ z;rw [e2] at this;cases this
   have hl4:l4≠p2:=by rintro rfl;rw [S3 _ _ e2] at n4;cases n4
   have S24:=S3.trans S4;refine⟨⟨_,SqL.of e4⟩,?_⟩;refine zbv (K:=K) (a:=l4) (xs:=(al.map (·.1)).map V.ref) (fun i σ H5=>∃ (v3 v4 v5 v6:Option V) (zs:List NdZ),σ=[some (.int r),some (.int s),some (.ref p2),v3,v4,v5,v6]/\(∀ a o,a≠p2->H4 a=some o->H5 a=some o)/\H5 p2=some (.lst ((zs.map (·.1)).map V.ref))/\MsR H5 al (zaq 4 (zbi r s))/\zkX H5 zs/\zs.map (·.2.2)=((zaq 4 (zbi r s)).take i).filterMap zc8/\(zs.map (·.2.1)).Sublist (al.take i)) ?_ ?_ ?_ ?_
   ·exact⟨none,none,none,none,[],rfl,fun _ _ _ z=>z,g4,M4,⟨by simp,by simp⟩,by simp,by simp⟩
   ·rintro i σ H5 _ ⟨v3,v4,v5,v6,zs,rfl,B5,_⟩;exact SqL.of (B5 _ _ hl4 e4)
   ·rintro i x σ H5 hx ⟨v3,v4,v5,v6,zs,rfl,B5,g5,M5,E5,q5,u5⟩;rw [zoY,zoY] at hx;obtain⟨y,hy,rfl⟩:=zo0.1 hx;obtain⟨p,hp,rfl⟩:=zo0.1 hy;have hil:i<(zaq 4 (zbi r s)).length:=by rw [← M5.len];exact (zo1.1 hp).1
    have hmi:(zaq 4 (zbi r s))[i]?=some (zaq 4 (zbi r s))[i]:=zoZ hil;generalize (zaq 4 (zbi r s))[i]=m at hmi;have hmp:=M5.at' i p m hp hmi;have hM:=hok m (zo2 hmi);have o5:p2 ∉ flN zs:=fun z=>o4 (by
     rw [zdy] at z;exact (zdX (u5.trans (List.take_sublist _ _))).subset z)
    refine⟨m,⟨p.2,hmp⟩,hM,by decide,by decide,fun q l x js H6 S6 hx R6 pm _ nl=>?_⟩;have hx:x=zaO m:=zpK (hx.symm.trans (zdY m));subst hx;obtain⟨sa,h6,h7⟩:=R6;refine⟨_,SqT.of h6,rfl,?_⟩;walk_at "w";by_cases cw:wd m (zaO m)="ends"
    ·refine ifB.yes (by rw [zpB (by decide)];exact zo3 cw) ?_;obtain⟨h8,as,h9,h10⟩:=h7;refine⟨.inl ⟨rfl,_,SqL.of (S6 _ _ g5)⟩,?_⟩;refine⟨_,_,SqT.of h8,rfl,?_⟩;refine⟨_,.inl (SqL.of h9),?_⟩;refine⟨by show 3<=sizeLine;decide,?_⟩;intro p11 n11;generalize U':upd _ p11 _=H11;obtain ⟨S11,e11⟩:=zak n11 U';clear U';have lw:zs.length=(((zaq 4 (zbi r s)).take i).filterMap zc8).length:=by rw [← q5,zoX]
     have k6:=(S6.trans S11) _ _ g5;have S57:=S6.trans S11;have hlen:as.length=(zaO m).2.2.length:=by rw [h10.1];unfold iv;simp [pm.length_eq]
     refine⟨_,k6,?_,_,_,_,_,zs++[(p11,p,(m,((tr m 200 s00).length:Int)-1,((zaO m).2.2.length:Int)))],rfl,fun a o na z=>?_,?_,(M5.stay (.sub S57)).other k6 o4,?_,?_,?_⟩
     ·rw [zoX,zoX,lw];exact zpb (zpc (List.length_filterMap_le _ _) (zpc (List.length_take_le' _ _) hms)) (by decide)
     ·rw [zal na];exact S57 _ _ (B5 a o na z)
     ·rw [zad,zo5,zo5];rfl
     ·have E7:=(E5.stay S57).other (us:=((zs.map (·.1)).map V.ref)++[V.ref p11]) k6 o5
      refine⟨fun z hz=>?_,fun z hz=>?_⟩
      ·rcases zo8.1 hz with hz | hz
       ·exact E7.ma z hz
       ·rw [zo6.1 hz];exact ((M5.stay (.sub S57)).other (us:=((zs.map (·.1)).map V.ref)++[V.ref p11]) k6 o4).at' i p m hp hmi
      ·rcases zo8.1 hz with hz | hz
       ·exact E7.tu z hz
       ·rw [zo6.1 hz];show upd _ _ _ p11=_;rw [zal (by rintro rfl;rw [S6 _ _ g5] at n11;cases n11),e11];show some (HO.tup [_,_,V.int _])=_;rw [zoX,hlen]
        rfl
     ·rw [zpk,hmi,zo5,q5,List.filterMap_append];show _++[_]=_++[m].filterMap zc8;rw [List.filterMap_cons,show zc8 m=some _ from zpC cw]
      rfl
     ·rw [zo5,zpk,hp];exact u5.append (.refl _)
    ·refine ifB.no (by rw [zpB (by decide)];exact zo4 cw) ?_;refine⟨_,_,_,_,zs,rfl,fun a o na z=>S6 _ _ (B5 a o na z),S6 _ _ g5,M5.stay (.sub S6),E5.stay S6,?_,?_⟩
     ·rw [zpk,hmi,q5,List.filterMap_append];show _=_++[m].filterMap zc8;rw [List.filterMap_cons,show zc8 m=none from zpB cw];exact (zo9 _).symm
     ·rw [zpk,hp];exact u5.trans (List.sublist_append_left _ _)
   rintro σ H5 ⟨v3,v4,v5,v6,zs,rfl,B5,g5,M5,E5,q5,u5⟩;rw [zoX,zoX,M5.len,zpj] at q5;have ss:=zdX (f:=fun p:Addr × List Addr=>p.1::p.2) (u5.trans (List.take_sublist _ _));walk_at "w";refine h p2 zs H5 (fun a o z=>B5 a o (by rintro rfl;rw [S1 _ _ z] at n2;cases n2) (S24 _ _ (S2 _ _ (S1 _ _ z)))) (S1.free n2) g5 E5 q5 ?_ ?_ ?_
   ·rw [zdy];exact ss.nodup M4.nd
   ·rw [zdy];exact fun x hx=>(S1.trans S2).free (c4 x (ss.subset hx))
   ·rw [zdy];exact fun z=>o4 (ss.subset z)
  ·exact h.elim
theorem zer:zao ["scored","most"] ["scored"] (zaj zdE):=by walk_at "s"
theorem zfv {b:Bool} {p q:Prop} (h:b=true) (k:p):if b=true then p else q:=by rw [zpC h];exact k
theorem zjh {b:Bool} {p q:Prop} (h:b=false) (k:q):if b=true then p else q:=by rw [zpB (by rw [h];decide)];exact k
def zc6:Sp:=fun vs H Q _=>match vs with
 | [.ref l]=>∃ zs:List (Addr × Addr × Int),H l=some (.lst ((zs.map (·.1)).map V.ref))/\(∀ z∈zs,H z.1=some (.tup [.ref z.2.1,.int z.2.2]))/\zs≠[]/\zs.length<=2000000/\∀ (q l':Addr) (mx:Int) (H':Hp),Sub H H'->H l'=none->zj5 mx (zs.map (·.2.2))->H' q=some (.tup [.int mx,.ref l'])->H' l'=some (.lst (((zs.filter fun z=>decide (z.2.2=mx)).map (·.2.1)).map V.ref))->Q (.ref q) H'
 | _=>False
theorem zeh (T:Tx K mg a):za3 P w K mg base CX0 1 a.foremost a.foremost_d ["scored"] (zc6):=by
 refine T.q_foremost.f.ok zer (fun vs H Q E h=>?_) (fun cdv A outer s H vs Q E hr h=>?_)
 ·unfold zc6 at h;split at h
  ·rfl
  ·exact h.elim
 ·unfold zc6 at h;split at h
  ·have nd:=zer.nd;have hu:=zaD hr;rename_i l;obtain⟨zs,hl,hz,hne,hlen,h⟩:=h;refine⟨_,(@zac _ _ _ _ _ (@zar _ _ 1 _ _ _ _ nd rfl (by walk_at "o") (@zah _ _ _ _ _ _ _ _ _ (@zjO _ K rfl rfl) rfl T.z_max ziF (@zaa _ _ _ _ _ (@zbx _ _ (["machine","number"]) [] _ _ _ _ _ _ _ _ _ rfl (by walk_at "comp_ok") (@zax _ K _ _ _ rfl (qv 0)) (fun _ _ _ _=>(@zaM _ K _ _ _ _ 2 rfl rfl (@zam _ _ _ _ _ (@zag _ _ 0 _ (show List.Nodup (α:=Str) ["machine","number"] from by decide +kernel) rfl (by walk_at "o") (by first | exact .inl rfl | exact .inr rfl | assumption)) (@zam _ _ _ _ _ (@zag _ _ 1 _ (show List.Nodup (α:=Str) ["machine","number"] from by decide +kernel) rfl (by walk_at "o") (by first | exact .inl rfl | exact .inr rfl | assumption)) zaN (by rfl)) (by rfl)) (by rfl) (by rfl))) (fun _ _ _ _=>zaQ) (fun _ _ _ _=>(qv 1)) (by intro _ ;rfl)) zab (by rfl)) (by decide) (by decide) (by rfl) (by rfl)) (by rfl) (by first | exact .inl rfl | exact .inr rfl | assumption)) (@zae _ _ _ (@zap _ _ _ _ (@zaG _ _ _ _ _ (@zaa _ _ _ _ _ (qv 1) (@zaa _ _ _ _ _ (@zbx _ _ (["machine","number"]) [1] _ _ _ _ _ _ _ _ _ rfl (by walk_at "comp_ok") (@zax _ K _ _ _ rfl (qv 0)) (fun _ _ _ _=>(@zaM _ K _ _ _ _ 2 rfl rfl (@zam _ _ _ _ _ (@zag _ _ 0 _ (show List.Nodup (α:=Str) ["machine","number","most"] from by decide +kernel) rfl (by walk_at "o") (by first | exact .inl rfl | exact .inr rfl | assumption)) (@zam _ _ _ _ _ (@zag _ _ 1 _ (show List.Nodup (α:=Str) ["machine","number","most"] from by decide +kernel) rfl (by walk_at "o") (by first | exact .inl rfl | exact .inr rfl | assumption)) zaN (by rfl)) (by rfl)) (by rfl) (by rfl))) (fun _ _ _ _=>(@zbC _ _ _ (@zb1 _ _ _ _ _ _ _ _ zhO (qv 1) (qv 2) (by first | exact zaF _ | rfl)))) (fun _ _ _ _=>(qv 0)) (by intro _ ;rfl)) zab (by rfl)) (by rfl)))))),?_⟩;refine⟨⟨_,SqL.of hl⟩,?_⟩;intro pc npc;refine zat (K:=K) (a:=l) (xs:=(zs.map (·.1)).map V.ref) (fun i σ H1=>∃ (u v:Option V),σ=[u,v]/\Sub H H1/\H1 pc=some (.lst (((zs.take i).map (·.2.2)).map V.int))) ?_ ?_ ?_ ?_
   ·exact⟨none,none,rfl,Sub.new npc,zad⟩
   ·rintro i σ H1 _ ⟨u,v,rfl,S1,_⟩;exact SqL.of (S1 _ _ hl)
   ·rintro i x σ H1 hi ⟨u,v,rfl,S1,g1⟩;rw [zoY,zoY] at hi;obtain⟨y,hy,rfl⟩:=zo0.1 hi;obtain⟨z,hzi,rfl⟩:=zo0.1 hy;refine⟨_,SqT.of (S1 _ _ (hz z (zo2 hzi))),rfl,?_⟩;refine⟨_,g1,?_,_,_,rfl,S1.upd npc,?_⟩
    ·rw [zoX,zoX];exact zpb (zpc (List.length_take_le' _ _) hlen) (by decide)
    ·rw [zad,zpk,hzi,zo5,zo5];rfl
   rintro σ H1 ⟨u,v,rfl,S1,g1⟩;rw [zoX,zoX,zpj] at g1;refine⟨zs.map (·.2.2),SqL.of g1,fun z=>hne (List.map_eq_nil_iff.1 z),fun mx h1 h2=>?_⟩
   refine⟨⟨_,SqL.of (S1 _ _ hl)⟩,?_⟩;intro pd npd;refine zat (K:=K) (a:=l) (xs:=(zs.map (·.1)).map V.ref) (fun i σ H2=>∃ (u v:Option V),σ=[u,v,some (.int mx)]/\Sub H1 H2/\H2 pd=some (.lst ((((zs.take i).filter fun z=>decide (z.2.2=mx)).map (·.2.1)).map V.ref))) ?_ ?_ ?_ ?_
   ·exact⟨none,none,rfl,Sub.new npd,zad⟩
   ·rintro i σ H2 _ ⟨u,v,rfl,S2,_⟩;exact SqL.of (S2 _ _ (S1 _ _ hl))
   ·rintro i x σ H2 hi ⟨u,v,rfl,S2,g2⟩;rw [zoY,zoY] at hi;obtain⟨y,hy,rfl⟩:=zo0.1 hi;obtain⟨z,hzi,rfl⟩:=zo0.1 hy;refine⟨_,SqT.of (S2 _ _ (S1 _ _ (hz z (zo2 hzi)))),rfl,?_⟩;by_cases c:z.2.2=mx
    ·refine zfv (zo3 c) ?_;refine⟨_,g2,?_,_,_,rfl,S2.upd npd,?_⟩
     ·rw [zoX,zoX];exact zpb (zpc (List.length_filter_le _ _) (zpc (List.length_take_le' _ _) hlen)) (by decide)
     ·rw [zad,zpk,hzi,zpx,show (some z).toList.filter (fun z=>decide (z.2.2=mx))=[z] from List.filter_cons_of_pos (zo3 c),zo5,zo5];rfl
    ·refine zjh (zo4 c) ?_;refine⟨_,_,rfl,S2,?_⟩;rw [g2,zpk,hzi,zpx,show (some z).toList.filter (fun z=>decide (z.2.2=mx))=[] from List.filter_cons_of_neg (by rw [zo4 c];decide),zo9]
   rintro σ H2 ⟨u,v,rfl,S2,g2⟩;rw [zoX,zoX,zpj] at g2;refine⟨by show 2<=sizeLine;decide,?_⟩;intro p3 n3;generalize U':upd _ p3 _=H3;obtain ⟨S3,e3⟩:=zak n3 U';clear U';walk_at "w";exact h p3 pd mx H3 ((S1.trans S2).trans S3) (S1.free npd) ⟨h1,h2⟩ e3 (S3 _ _ g2)
  ·exact h.elim
theorem zes:zao ["rows","signs"] ["rows","signs"] (zaj zdF):=by walk_at "s"
def scE (k:Nat) (x:Ma × Int × Int):Int:=if k=0 then x.2.1 else x.2.2
theorem zdV {r s:Int} (h:zgG r s):(zdb r s).length<=2000000 :=
 zpc (List.length_filterMap_le _ _) (zpc (zaH 4 _ (zbw h)) (by decide))
theorem ziE {r s:Int} (h:zgG r s):stN (zbi r s) s00=none/\ent (zbi r s) 0 0 []=some []:=by
 rcases h with ⟨rfl,rfl⟩ | ⟨rfl,rfl | rfl | rfl⟩ <;> exact⟨rfl,rfl⟩
theorem zgU {r s:Int} (h:zgG r s):zdb r s≠[]:=by
 have hb:=ziE h;have hl:zaO (zbi r s)=s00:=by unfold zaO;rw [zf0 hb.1];rfl
 have:zc8 (zbi r s)≠none:=by
  unfold zc8;rw [zpC]
  ·exact fun z=>by cases z
  ·unfold wd;rw [hl];exact zpC hb.2
 unfold zdb;rw [zaq];cases e:zc8 (zbi r s) with
 | none=>exact (this e).elim
 | some y=>rw [List.filterMap_cons,e];exact fun z=>by cases z
theorem zho {α:Type} {R:Addr->α->Prop} {as:List Addr} {xs:List α} {y:Addr × α} (h:zba R as xs) (hy:y∈as.zip xs):R y.1 y.2:=by
 obtain⟨i,hi⟩:=List.getElem?_of_mem hy;obtain⟨a,b⟩:=List.getElem?_zip_eq_some.1 hi;exact h.2 i _ _ a b
def zcF (k:Nat):Sp:=fun vs H Q _=>match vs with
 | [.int r,.int s]=>zgG r s/\∀ (q l:Addr) (mx:Int) (ps:List (Addr × List Addr)) (H':Hp),Sub H H'->H l=none->zj5 mx ((zdb r s).map (scE k))->H' q=some (.tup [.int mx,.ref l])->H' l=some (.lst ((ps.map (·.1)).map V.ref))->MsR H' ps (((zdb r s).filter fun x=>decide (scE k x=mx)).map (·.1))->(∀ x∈ps.flatMap (fun p=>p.1::p.2),H x=none)->l ∉ ps.flatMap (fun p=>p.1::p.2)->Q (.ref q) H'
 | _=>False
theorem zg1 (T:Tx K mg a):za3 P w K mg base CX0 14 a.greatest a.greatest_d ["rows","signs"] (zcF 0):=by
 have G_ended_nodes:=zcI (P:=P) (w:=w) (base:=base) T;have G_foremost:=zeh (P:=P) (w:=w) (base:=base) T;refine T.q_greatest.f.ok zes (fun vs H Q E h=>?_) (fun cdv A outer s H vs Q E hr h=>?_)
 ·unfold zcF at h;split at h
  ·rfl
  ·exact h.elim
 ·unfold zcF at h;split at h
  ·have nd:=zes.nd;have hu:=zaD hr;rename_i r s;obtain⟨hs,h⟩:=h;refine⟨_,(@zae _ _ _ (@zap _ _ _ _ (@zan _ _ _ _ _ _ _ _ _ _ _ _ _ _ _ _ G_foremost (hr.mono (by decide)) rfl T.q_foremost.g T.q_foremost.f.kp T.q_foremost.b .nil zaw (@zaa _ _ _ _ _ (@zbx _ _ (["machine","steps","marks"]) [] _ _ _ _ _ _ _ _ _ rfl (by walk_at "comp_ok") (@zax _ K _ _ _ rfl (@zan _ _ _ _ _ _ _ _ _ _ _ _ _ _ _ _ G_ended_nodes (hr.mono (by decide)) rfl T.q_ended_nodes.g T.q_ended_nodes.f.kp T.q_ended_nodes.b .nil zaw (@zaa _ _ _ _ _ (qv 0) (@zaa _ _ _ _ _ (qv 1) zab (by rfl)) (by rfl)) (by decide) (by rfl) (by rfl))) (fun _ _ _ _=>(@zaM _ K _ _ _ _ 3 rfl rfl (@zam _ _ _ _ _ (@zag _ _ 0 _ (show List.Nodup (α:=Str) ["machine","steps","marks"] from by decide +kernel) rfl (by walk_at "o") (by first | exact .inl rfl | exact .inr rfl | assumption)) (@zam _ _ _ _ _ (@zag _ _ 1 _ (show List.Nodup (α:=Str) ["machine","steps","marks"] from by decide +kernel) rfl (by walk_at "o") (by first | exact .inl rfl | exact .inr rfl | assumption)) (@zam _ _ _ _ _ (@zag _ _ 2 _ (show List.Nodup (α:=Str) ["machine","steps","marks"] from by decide +kernel) rfl (by walk_at "o") (by first | exact .inl rfl | exact .inr rfl | assumption)) zaN (by rfl)) (by rfl)) (by rfl)) (by rfl) (by rfl))) (fun _ _ _ _=>zaQ) (fun _ _ _ _=>(@zaG _ _ _ _ _ (@zaa _ _ _ _ _ (qv 0) (@zaa _ _ _ _ _ (qv 1) zab (by rfl)) (by rfl)))) (by intro _ ;rfl)) zab (by rfl)) (by decide) (by rfl) (by rfl)))),?_⟩;refine⟨hs,fun l1 zs H1 S1 n1 e1 E1 q1 d1 F1 O1=>?_⟩;have few:zs.length<=2000000:=by rw [← zoX (f:=fun z:NdZ=>z.2.2),q1];exact zdV hs
   have hne:zs≠[]:=by rintro rfl;exact zgU hs q1.symm
   refine⟨⟨_,SqL.of e1⟩,?_⟩;intro pc npc;refine zat (K:=K) (a:=l1) (xs:=(zs.map (·.1)).map V.ref) (fun i σ H2=>∃ (u v w:Option V) (as:List Addr),σ=[u,v,w]/\Sub H1 H2/\H2 pc=some (.lst (as.map V.ref))/\zba (fun a z=>H2 a=some (.tup [.ref z.2.1.1,.int (scE 0 z.2.2)])) as (zs.take i)) ?_ ?_ ?_ ?_
   ·exact⟨none,none,none,[],rfl,Sub.new npc,zad,.nil⟩
   ·rintro i σ H2 _ ⟨u,v,w,as,rfl,S2,_⟩;exact SqL.of (S2 _ _ e1)
   ·rintro i x σ H2 hi ⟨u,v,w,as,rfl,S2,g2,A2⟩;rw [zoY,zoY] at hi;obtain⟨y,hy,rfl⟩:=zo0.1 hi;obtain⟨z,hzi,rfl⟩:=zo0.1 hy;refine⟨_,SqT.of (S2 _ _ (E1.tu z (zo2 hzi))),rfl,?_⟩;refine⟨by show 2<=sizeLine;decide,?_⟩;intro p3 n3;generalize U':upd _ p3 _=H3;obtain ⟨S3,e3⟩:=zak n3 U';clear U';refine⟨_,S3 _ _ g2,?_,_,_,_,as++[p3],rfl,(S2.trans S3).upd npc,?_,?_⟩
    ·rw [zoX,A2.1];exact zpb (zpc (List.length_take_le' _ _) few) (by decide)
    ·rw [zad,zo5];rfl
    ·rw [zpk,hzi];have tt:∀ {a:Addr} {vs:List V},H3 a=some (.tup vs)->∀ us,upd H3 pc (.lst us) a=some (.tup vs):=fun {a vs} z us=>by
      rw [zal (by rintro rfl;rw [S3 _ _ g2] at z;cases z)];exact z
     exact (A2.mono fun a z _ q=>tt (S3 _ _ q) _).app (tt e3 _)
   rintro σ H2 ⟨u,v,w,as,rfl,S2,g2,A2⟩;rw [zoX,zoX,zpj] at A2;have e2:(as.zip zs).map (·.1)=as:=List.map_fst_zip (Nat.le_of_eq A2.1)
   have e3:(as.zip zs).map (·.2)=zs:=List.map_snd_zip (Nat.le_of_eq A2.1.symm)
   refine⟨(as.zip zs).map fun z=>(z.1,z.2.2.1.1,scE 0 z.2.2.2),?_,fun z hz=>?_,fun z=>?_,?_,fun q l3 mx H3 S3 n3 hx hq hl=>?_⟩
   ·rw [g2,zpp (f:=fun z:Addr × NdZ=>_)];show _=some (HO.lst (((as.zip zs).map (·.1)).map V.ref))
    rw [e2]
   ·obtain⟨y,hy,rfl⟩:=zpf.1 hz;exact zho A2 hy
   ·rw [List.map_eq_nil_iff] at z;rw [z] at e3;exact hne e3.symm
   ·rw [zoX,List.length_zip];omega
   ·rw [zpp,show ((fun x:Addr × Addr × Int=>x.2.2) ∘ fun z:Addr × NdZ=>(z.1,z.2.2.1.1,scE 0 z.2.2.2))=(fun z:NdZ=>scE 0 z.2.2) ∘ (·.2) from rfl,← zpp,e3,show (fun z:NdZ=>scE 0 z.2.2)=scE 0 ∘ (·.2.2) from rfl,← zpp,q1] at hx
    have el:(((as.zip zs).map fun z=>(z.1,z.2.2.1.1,scE 0 z.2.2.2)).filter fun z=>decide (z.2.2=mx)).map (·.2.1)=((zs.filter fun z=>decide (scE 0 z.2.2=mx)).map (·.2.1)).map (·.1):=by
     rw [List.filter_map,zpp,zpp]
     conv=>rhs;rw [← e3]
     rw [List.filter_map,zpp]
     rfl
    rw [el] at hl;have sb:(zs.filter fun z=>decide (scE 0 z.2.2=mx)).Sublist zs:=List.filter_sublist ..;have ss:=zdX (f:=fun z:NdZ=>z.2.1.1::z.2.1.2) sb;have ef:∀ ys:List NdZ,(ys.map (·.2.1)).flatMap (fun p=>p.1::p.2)=flN ys:=fun ys=>(zdy ys).symm
    walk_at "w";refine h q l3 mx _ H3 ((S1.trans S2).trans S3) ((S1.trans S2).free n3) hx hq hl ⟨?_,fun i p m a b=>?_,?_⟩ ?_ ?_
    ·rw [zoX,zoX,← q1,List.filter_map,zoX];rfl
    ·rw [← q1,List.filter_map,zpp,zoY] at b;rw [zoY] at a;obtain⟨z,hz,rfl⟩:=zo0.1 a;rw [show (zs.filter ((fun x=>decide (scE 0 x=mx)) ∘ fun x=>x.2.2))[i]?=some z from hz] at b;cases b;exact (E1.ma z (sb.subset (zo2 hz))).stay (.sub (S2.trans S3))
    ·rw [ef];exact ss.nodup d1
    ·rw [ef];exact fun x hx=>F1 x (ss.subset hx)
    ·rw [ef];exact fun hx=>by
      obtain⟨z,hz,hq⟩:=List.mem_flatMap.1 hx
      have:=(E1.ma z (sb.subset hz)).stay (.sub S2)
      rcases zpG.1 hq with e | e
      ·exact this.outp n3 e
      ·exact this.out n3 e
  ·exact h.elim
theorem ze4:zao ["rows","signs"] ["rows","signs"] (zaj zem):=by walk_at "s"
theorem zif (T:Tx K mg a):za3 P w K mg base CX0 14 a.fullest a.fullest_d ["rows","signs"] (zcF 1):=by
 have G_ended_nodes:=zcI (P:=P) (w:=w) (base:=base) T;have G_foremost:=zeh (P:=P) (w:=w) (base:=base) T;refine T.q_fullest.f.ok ze4 (fun vs H Q E h=>?_) (fun cdv A outer s H vs Q E hr h=>?_)
 ·unfold zcF at h;split at h
  ·rfl
  ·exact h.elim
 ·unfold zcF at h;split at h
  ·have nd:=ze4.nd;have hu:=zaD hr;rename_i r s;obtain⟨hs,h⟩:=h;refine⟨_,(@zae _ _ _ (@zap _ _ _ _ (@zan _ _ _ _ _ _ _ _ _ _ _ _ _ _ _ _ G_foremost (hr.mono (by decide)) rfl T.q_foremost.g T.q_foremost.f.kp T.q_foremost.b .nil zaw (@zaa _ _ _ _ _ (@zbx _ _ (["machine","steps","marks"]) [] _ _ _ _ _ _ _ _ _ rfl (by walk_at "comp_ok") (@zax _ K _ _ _ rfl (@zan _ _ _ _ _ _ _ _ _ _ _ _ _ _ _ _ G_ended_nodes (hr.mono (by decide)) rfl T.q_ended_nodes.g T.q_ended_nodes.f.kp T.q_ended_nodes.b .nil zaw (@zaa _ _ _ _ _ (qv 0) (@zaa _ _ _ _ _ (qv 1) zab (by rfl)) (by rfl)) (by decide) (by rfl) (by rfl))) (fun _ _ _ _=>(@zaM _ K _ _ _ _ 3 rfl rfl (@zam _ _ _ _ _ (@zag _ _ 0 _ (show List.Nodup (α:=Str) ["machine","steps","marks"] from by decide +kernel) rfl (by walk_at "o") (by first | exact .inl rfl | exact .inr rfl | assumption)) (@zam _ _ _ _ _ (@zag _ _ 1 _ (show List.Nodup (α:=Str) ["machine","steps","marks"] from by decide +kernel) rfl (by walk_at "o") (by first | exact .inl rfl | exact .inr rfl | assumption)) (@zam _ _ _ _ _ (@zag _ _ 2 _ (show List.Nodup (α:=Str) ["machine","steps","marks"] from by decide +kernel) rfl (by walk_at "o") (by first | exact .inl rfl | exact .inr rfl | assumption)) zaN (by rfl)) (by rfl)) (by rfl)) (by rfl) (by rfl))) (fun _ _ _ _=>zaQ) (fun _ _ _ _=>(@zaG _ _ _ _ _ (@zaa _ _ _ _ _ (qv 0) (@zaa _ _ _ _ _ (qv 2) zab (by rfl)) (by rfl)))) (by intro _ ;rfl)) zab (by rfl)) (by decide) (by rfl) (by rfl)))),?_⟩;refine⟨hs,fun l1 zs H1 S1 n1 e1 E1 q1 d1 F1 O1=>?_⟩;have few:zs.length<=2000000:=by rw [← zoX (f:=fun z:NdZ=>z.2.2),q1];exact zdV hs
   have hne:zs≠[]:=by rintro rfl;exact zgU hs q1.symm
   refine⟨⟨_,SqL.of e1⟩,?_⟩;intro pc npc;refine zat (K:=K) (a:=l1) (xs:=(zs.map (·.1)).map V.ref) (fun i σ H2=>∃ (u v w:Option V) (as:List Addr),σ=[u,v,w]/\Sub H1 H2/\H2 pc=some (.lst (as.map V.ref))/\zba (fun a z=>H2 a=some (.tup [.ref z.2.1.1,.int (scE 1 z.2.2)])) as (zs.take i)) ?_ ?_ ?_ ?_
   ·exact⟨none,none,none,[],rfl,Sub.new npc,zad,.nil⟩
   ·rintro i σ H2 _ ⟨u,v,w,as,rfl,S2,_⟩;exact SqL.of (S2 _ _ e1)
   ·rintro i x σ H2 hi ⟨u,v,w,as,rfl,S2,g2,A2⟩;rw [zoY,zoY] at hi;obtain⟨y,hy,rfl⟩:=zo0.1 hi;obtain⟨z,hzi,rfl⟩:=zo0.1 hy;refine⟨_,SqT.of (S2 _ _ (E1.tu z (zo2 hzi))),rfl,?_⟩;refine⟨by show 2<=sizeLine;decide,?_⟩;intro p3 n3;generalize U':upd _ p3 _=H3;obtain ⟨S3,e3⟩:=zak n3 U';clear U';refine⟨_,S3 _ _ g2,?_,_,_,_,as++[p3],rfl,(S2.trans S3).upd npc,?_,?_⟩
    ·rw [zoX,A2.1];exact zpb (zpc (List.length_take_le' _ _) few) (by decide)
    ·rw [zad,zo5];rfl
    ·rw [zpk,hzi];have tt:∀ {a:Addr} {vs:List V},H3 a=some (.tup vs)->∀ us,upd H3 pc (.lst us) a=some (.tup vs):=fun {a vs} z us=>by
      rw [zal (by rintro rfl;rw [S3 _ _ g2] at z;cases z)];exact z
     exact (A2.mono fun a z _ q=>tt (S3 _ _ q) _).app (tt e3 _)
   rintro σ H2 ⟨u,v,w,as,rfl,S2,g2,A2⟩;rw [zoX,zoX,zpj] at A2;have e2:(as.zip zs).map (·.1)=as:=List.map_fst_zip (Nat.le_of_eq A2.1)
   have e3:(as.zip zs).map (·.2)=zs:=List.map_snd_zip (Nat.le_of_eq A2.1.symm)
   refine⟨(as.zip zs).map fun z=>(z.1,z.2.2.1.1,scE 1 z.2.2.2),?_,fun z hz=>?_,fun z=>?_,?_,fun q l3 mx H3 S3 n3 hx hq hl=>?_⟩
   ·rw [g2,zpp (f:=fun z:Addr × NdZ=>_)];show _=some (HO.lst (((as.zip zs).map (·.1)).map V.ref))
    rw [e2]
   ·obtain⟨y,hy,rfl⟩:=zpf.1 hz;exact zho A2 hy
   ·rw [List.map_eq_nil_iff] at z;rw [z] at e3;exact hne e3.symm
   ·rw [zoX,List.length_zip];omega
   ·rw [zpp,show ((fun x:Addr × Addr × Int=>x.2.2) ∘ fun z:Addr × NdZ=>(z.1,z.2.2.1.1,scE 1 z.2.2.2))=(fun z:NdZ=>scE 1 z.2.2) ∘ (·.2) from rfl,← zpp,e3,show (fun z:NdZ=>scE 1 z.2.2)=scE 1 ∘ (·.2.2) from rfl,← zpp,q1] at hx
    have el:(((as.zip zs).map fun z=>(z.1,z.2.2.1.1,scE 1 z.2.2.2)).filter fun z=>decide (z.2.2=mx)).map (·.2.1)=((zs.filter fun z=>decide (scE 1 z.2.2=mx)).map (·.2.1)).map (·.1):=by
     rw [List.filter_map,zpp,zpp]
     conv=>rhs;rw [← e3]
     rw [List.filter_map,zpp]
     rfl
    rw [el] at hl;have sb:(zs.filter fun z=>decide (scE 1 z.2.2=mx)).Sublist zs:=List.filter_sublist ..;have ss:=zdX (f:=fun z:NdZ=>z.2.1.1::z.2.1.2) sb;have ef:∀ ys:List NdZ,(ys.map (·.2.1)).flatMap (fun p=>p.1::p.2)=flN ys:=fun ys=>(zdy ys).symm
    walk_at "w";refine h q l3 mx _ H3 ((S1.trans S2).trans S3) ((S1.trans S2).free n3) hx hq hl ⟨?_,fun i p m a b=>?_,?_⟩ ?_ ?_
    ·rw [zoX,zoX,← q1,List.filter_map,zoX];rfl
    ·rw [← q1,List.filter_map,zpp,zoY] at b;rw [zoY] at a;obtain⟨z,hz,rfl⟩:=zo0.1 a;rw [show (zs.filter ((fun x=>decide (scE 1 x=mx)) ∘ fun x=>x.2.2))[i]?=some z from hz] at b;cases b;exact (E1.ma z (sb.subset (zo2 hz))).stay (.sub (S2.trans S3))
    ·rw [ef];exact ss.nodup d1
    ·rw [ef];exact fun x hx=>F1 x (ss.subset hx)
    ·rw [ef];exact fun hx=>by
      obtain⟨z,hz,hq⟩:=List.mem_flatMap.1 hx
      have:=(E1.ma z (sb.subset hz)).stay (.sub S2)
      rcases zpG.1 hq with e | e
      ·exact this.outp n3 e
      ·exact this.out n3 e
  ·exact h.elim
theorem zbU:zao ["_law_machine","_law_at","_law_found","_law_entries"] ["_law_machine","_law_at"] (zaj zbn):=by walk_at "s"
theorem zgb (m:Ma):(zga m).map (·.2.2)=m.flatten:=by
 unfold zga zbr;rw [List.map_flatten,zpp]
 have:(m.zipIdx.map ((List.map fun x=>x.2.2) ∘ fun x=>ziv x.2 x.1))=m:=by
  refine List.ext_getElem? fun i=>?_
  rw [zoY,List.getElem?_zipIdx];cases m[i]? with
  | none=>rfl
  | some es =>
   show some ((ziv _ es).map _)=some es;unfold ziv;rw [zpp]
   congr 1
   refine List.ext_getElem? fun j=>?_
   rw [zoY,List.getElem?_zipIdx];cases es[j]? <;> rfl
 rw [this]
def zlR (k:Nat) (m:List (List En)):List Int:=m.flatMap fun es=>(es.filter fun e=>decide (e≠[])).map fun e=>e.getD k 0
theorem zlS (k:Nat) (m:Ma):zlR k m=(zdu m).map fun e=>e.getD k 0:=by
 unfold zlR zdu;rw [zgb]
 induction m with
 | nil=>rfl
 | cons es m ih=>rw [List.flatMap_cons,ih,List.flatten_cons,zpx,zo5]
theorem zot {k:Nat} (hk:k=0\/k=2) {m:Ma} (M:OkM m) {mx:Int} (h1:mx∈0::zlR k m) (h2:∀ n∈0::zlR k m,n<=mx):ziA k m (mx+1):=by
 rw [zlS] at h1 h2;have h0:=h2 0 (by simp);rcases zpG.1 h1 with rfl | h1
 ·cases e:zdu m with
  | nil=>exact .inl ⟨e,rfl⟩
  | cons x xs =>
   refine .inr ⟨0,by omega,?_,fun n hn=>h2 n (zpg _ hn)⟩;have hx:x∈zdu m:=by rw [e];exact zpw ..
   have hm:x.getD k 0∈(zdu m).map fun e=>e.getD k 0:=zpf.2 ⟨x,hx,rfl⟩
   have a:=h2 _ (zpg _ hm);obtain⟨s,w,r,rfl,b1,_,_,b2,_⟩:=zde M hx
   have:([s,w,r]:En).getD k 0=0:=by
    rcases hk with rfl | rfl
    ·have a:s<=0:=a;show s=0;omega
    ·have a:r<=0:=a;show r=0;omega
   rw [this] at hm;exact hm
 ·exact .inr ⟨mx,by omega,h1,fun n hn=>h2 n (zpg _ hn)⟩
def zex:Sp:=fun vs H Q _=>match vs with
 | [.ref t,.int k]=>∃ m:Ma,zdw H t m/\isM m=true/\(k=0\/k=2)/\∀ n H',Sub H H'->ziA k.toNat m n->Q (.int n) H'
 | _=>False
theorem zdC (T:Tx K mg a):za3 P w K mg base CX0 1 a.l_named_things a.l_named_things_d ["_law_machine","_law_at"] (zex):=by
 refine T.q_l_named_things.f.ok zbU (fun vs H Q E h=>?_) (fun cdv A outer s H vs Q E hr h=>?_)
 ·unfold zex at h;split at h
  ·rfl
  ·exact h.elim
 ·unfold zex at h;split at h
  ·have nd:=zbU.nd;have hu:=zaD hr;rename_i t k;obtain⟨m,hm,hM,hk,h⟩:=h;have M:=OkM.of hM;obtain⟨ws,hm0,hnd,hrw⟩:=id hm;refine⟨_,(@zac _ _ _ _ _ (@zar _ _ 2 _ _ _ _ nd rfl (by walk_at "o") (@zaR _ _ _ _ (@zaa _ _ _ _ _ zai zab (by rfl))) (by rfl) (by first | exact .inl rfl | exact .inr rfl | assumption)) (@zac _ _ _ _ _ (@zbp _ _ _ _ _ _ _ _ PassesOwn.never rfl (@zax _ K _ _ _ rfl (qv 0)) (@zag _ _ 3 _ nd rfl (by walk_at "o") (by first | exact .inl rfl | exact .inr rfl | assumption)) (@zae _ _ _ (@zar _ _ 2 _ _ _ _ nd rfl (by walk_at "o") (@zaP _ _ _ _ _ _ _ _ zma (qv 2) (@zbx _ _ ["_law_entry"] [1] _ _ _ _ _ _ _ _ _ rfl (by walk_at "comp_ok") (@zax _ K _ _ _ rfl (qv 3)) (fun _ _ _ _=>(@zag _ _ 0 _ (show List.Nodup (α:=Str) ["_law_entry","_law_at"] from by decide +kernel) rfl (by walk_at "o") (by first | exact .inl rfl | exact .inr rfl | assumption))) (fun _ _ _ _=>(@zbC _ _ _ (@zb1 _ _ _ _ _ _ _ _ (@zgm _ _ hr) (qv 0) (@zaG _ _ _ _ _ zab) (by first | exact zaF _ | rfl)))) (fun _ _ _ _=>(@za1 _ _ _ _ _ _ _ (@zbI _ K rfl) (qv 0) (qv 1) (fun _ _=>rfl))) (by intro _ ;rfl))) (by rfl) (by first | exact .inl rfl | exact .inr rfl | assumption))) (by intro _ ;rfl)) (@zae _ _ _ (@zap _ _ _ _ (@zaP _ _ _ _ _ _ _ _ zcl (@zah _ _ _ _ _ _ _ _ _ (@zjO _ K rfl rfl) rfl T.z_max ziF (@zaa _ _ _ _ _ (qv 2) zab (by rfl)) (by decide) (by decide) (by rfl) (by rfl)) zai))))),?_⟩;refine⟨by show 1<=sizeLine;decide,?_⟩;intro p1 n1;generalize U':upd _ p1 _=H1;obtain ⟨S1,e1⟩:=zak n1 U';clear U';refine⟨⟨_,SqL.of (S1 _ _ hm0)⟩,?_⟩;refine zbv (K:=K) (a:=t) (xs:=ws.map V.ref) (fun i σ H2=>∃ (v:Option V) (p:Addr),σ=[some (.ref t),some (.int k),some (.ref p),v]/\Sub H H2/\H2 p=some (.lst ((0::zlR k.toNat (m.take i)).map V.int))) ?_ ?_ ?_ ?_
   ·exact⟨none,p1,rfl,S1,e1⟩
   ·rintro i σ H2 _ ⟨v,p,rfl,S2,_⟩;exact SqL.of (S2 _ _ hm0)
   ·rintro i x σ H2 hi ⟨v,p,rfl,S2,g2⟩;rw [zoY] at hi;obtain⟨r,hr,rfl⟩:=zo0.1 hi;obtain⟨es,hes,as,hra,haa⟩:=hrw.at hr;have hel:=M.len es (zo2 hes);have hil:i<m.length:=(zo1.1 hes).1;have mn4:=M.n4;have ms4:=M.s4;have few:(zlR k.toNat (m.take i)).length<=16:=by
     have:=zbY (f:=fun es:List En=>(es.filter fun e=>decide (e≠[])).map fun e=>e.getD k.toNat 0) (B:=4) (m.take i) fun r hr=>by
      rw [zoX];exact zpc (List.length_filter_le _ _) (by rw [M.len r (List.mem_of_mem_take hr)];omega)
     have h2:(m.take i).length<=4:=zpc (List.length_take_le' _ _) (by omega);have h3:=Nat.mul_le_mul_right 4 h2;exact zpc this h3
    refine⟨⟨_,SqL.of (S2 _ _ hra)⟩,?_⟩;intro pc npc;refine zat (K:=K) (a:=r) (xs:=as.map V.ref) (fun j σ H3=>∃ (v:Option V),σ=[v,some (.int k)]/\Sub H2 H3/\H3 pc=some (.lst ((((es.take j).filter fun e=>decide (e≠[])).map fun e=>e.getD k.toNat 0).map V.int))) ?_ ?_ ?_ ?_
    ·exact⟨none,rfl,Sub.new npc,zad⟩
    ·rintro j σ H3 _ ⟨v,rfl,S3,_⟩;exact SqL.of (S3 _ _ (S2 _ _ hra))
    ·rintro j x σ H3 hj ⟨v,rfl,S3,g3⟩;rw [zoY] at hj;obtain⟨c,hc,rfl⟩:=zo0.1 hj;obtain⟨e,he,hce⟩:=haa.at hc;have hc3:Ent H3 c e:=(S2.trans S3) _ _ hce;refine⟨by show 0<=sizeLine;decide,?_⟩;intro p4 n4;generalize U':upd _ p4 _=H4;obtain ⟨S4,e4⟩:=zak n4 U';clear U';refine⟨_,_,Ent.den (show Ent H4 c e from S4 _ _ hc3),Ent.den (e:=[]) e4,zch _,?_⟩;rw [zeP];by_cases z:e=[]
     ·refine zgV (c:=e=[]) z ?_;refine⟨_,rfl,S3.trans S4,?_⟩;rw [S4 _ _ g3,zpk,he,zpx,show (some e).toList.filter (fun e=>decide (e≠[]))=[] from by simp [z],zo9]
     ·refine zfw (c:=e=[]) z ?_;obtain⟨s',w',r',rfl,_⟩:=zaX (M.ent es (zo2 hes) e (zo2 he)) z;refine⟨_,V.int (([s',w',r']:En).getD k.toNat 0),SqT.of (S4 _ _ hc3),by rcases hk with rfl | rfl <;> rfl,?_⟩;refine⟨_,S4 _ _ g3,?_,_,rfl,(S3.trans S4).upd npc,?_⟩
      ·rw [zoX,zoX];exact zpb (zpc (List.length_filter_le _ _) (zpc (List.length_take_le' _ _) (show es.length<=16 by omega))) (by decide)
      ·rw [zad,zpk,he,zpx,show (some [s',w',r']).toList.filter (fun e=>decide (e≠[]))=[[s',w',r']] from by simp,zo5,zo5]
       rfl
    rintro σ H3 ⟨v,rfl,S3,g3⟩;rw [zoX,haa.1,zpj] at g3;refine⟨_,_,S3 _ _ g2,g3,?_,?_⟩
    ·rw [zoX,zoX,zoX,zpA]
     have:=List.length_filter_le (fun e=>decide (e≠[])) es
     exact zpc (show _<=40 by omega) (by decide)
    intro p5 n5;generalize U':upd _ p5 _=H5;obtain ⟨S5,e5⟩:=zak n5 U';clear U';refine⟨_,p5,rfl,(S2.trans S3).trans S5,?_⟩;rw [e5,zpk,hes,← zo5];unfold zlR;rw [List.flatMap_append,List.cons_append];show some (HO.lst ((0::(_++_)).map V.int))=some (HO.lst ((0::(_++(_++[]))).map V.int));rw [zo9]
   rintro σ H2 ⟨v,p,rfl,S2,g2⟩;rw [zoX,hrw.1,zpj] at g2;refine⟨_,SqL.of g2,(by simp),fun mx h1 h2=>?_⟩;walk_at "w";exact h _ H2 S2 (zot (by rcases hk with rfl | rfl;exact .inl rfl;exact .inr rfl) M h1 h2)
  ·exact h.elim
theorem zhT:zao ["_law_machine","_law_most","_law_row","_law_place","_law_strip","_law_steps","_law_entry"] ["_law_machine","_law_most"] (zaj zha):=by walk_at "s"
def vzF (ks:Mk2):Int->Int:=fun q=>(zbh ks q).getD 0
theorem zkK (ks:Mk2) (p s:Int):(zdv ks p s).length<=ks.length+1:=by
 unfold zdv;split
 ·rw [zoX];omega
 ·rw [zo7];exact zpd _
theorem zms (ks:Mk2) (p s q:Int):vzF (zdv ks p s) q=if q=p then s else vzF ks q:=by
 unfold vzF;by_cases c:q=p
 ·subst c;rw [zjL,zpC rfl];rfl
 ·rw [zgr c,zpB c]
theorem znb {ks:Mk2} (h:(ks.map (·.1)).Nodup):ks.Nodup:=(List.pairwise_map.1 h).imp fun h e=>h (by rw [e])
theorem znc {ks js:Mk2} (h1:(ks.map (·.1)).Nodup) (h2:(js.map (·.1)).Nodup) (h3:∀ q∈js,q.2≠0) (h:∀ p,vzF ks p=vzF js p):(ks.filter fun q=>decide (q.2≠0)).length=js.length:=by
 have nk:ks.Nodup:=znb h1;have nj:js.Nodup:=znb h2;refine ((List.perm_ext_iff_of_nodup (nk.filter _) nj).2 fun q=>?_).length_eq;rw [zph];have a:=zhn h1 (k:=q.1) (s:=q.2);have b:=zhn h2 (k:=q.1) (s:=q.2);have c:=h q.1;unfold vzF at c
 constructor
 ·rintro ⟨z,w⟩;have w:q.2≠0:=zpI w;rw [a.2 z] at c;refine b.1 ?_;cases e:zbh js q.1 with
  | none=>rw [e] at c;exact (w c).elim
  | some y=>rw [e] at c;exact congrArg some c.symm
 ·intro z;have w:=h3 q z;rw [b.2 z] at c;refine⟨a.1 ?_,zo3 w⟩;cases e:zbh ks q.1 with
  | none=>rw [e] at c;exact (w c.symm).elim
  | some y=>rw [e] at c;exact congrArg some c
theorem zhG {H:Hp} {t:Addr} {m:Ma} (h:zdw H t m) {r:Int} (r0:0<=r) (r1:r<m.length):∃ (vs:List V) (p:Addr) (as:List Addr) (es:List En),H t=some (.lst vs)/\atI vs r=some (.ref p)/\H p=some (.lst (as.map V.ref))/\zba (Ent H) as es/\m[r.toNat]?=some es:=by
 obtain⟨rs,h1,_,h2⟩:=h;have hl:r.toNat<rs.length:=by rw [h2.1];omega
 obtain⟨p,hp⟩:∃ p,rs[r.toNat]?=some p:=⟨_,zoZ hl⟩;obtain⟨es,he,as,h3,h4⟩:=h2.at hp;refine⟨_,p,as,es,h1,?_,h3,h4,he⟩
 have:=zaE (xs:=rs.map V.ref) (j:=r.toNat) (v:=.ref p) (by rw [zoY,hp];rfl)
 rwa [show ((r.toNat:Nat):Int)=r by omega] at this
theorem znX {H:Hp} {t:Addr} {m:Ma} (h:zdw H t m) (M:OkM m):∃ (vs us:List V) (p:Addr),H t=some (.lst vs)/\atI vs 0=some (.ref p)/\H p=some (.lst us)/\us.length=sgn m:=by
 obtain⟨vs,p,as,es,h1,h2,h3,h4,h5⟩:=zhG h (Int.le_refl 0) (by have:=M.n1;omega);exact⟨vs,_,p,h1,h2,h3,by rw [zoX,h4.1];exact M.len es (zo2 h5)⟩
theorem zj7 {H:Hp} {as:List Addr} {es:List En} (h:zba (Ent H) as es) {s:Int} (s0:0<=s) (s1:s<es.length):∃ (c:Addr) (e:En),atI (as.map V.ref) s=some (.ref c)/\es[s.toNat]?=some e/\Ent H c e:=by
 have hl:s.toNat<as.length:=by rw [h.1];omega
 obtain⟨p,hp⟩:∃ p,as[s.toNat]?=some p:=⟨_,zoZ hl⟩;obtain⟨e,he,hE⟩:=h.at hp;refine⟨p,e,?_,he,hE⟩
 have:=zaE (xs:=as.map V.ref) (j:=s.toNat) (v:=.ref p) (by rw [zoY,hp];rfl)
 rwa [show ((s.toNat:Nat):Int)=s by omega] at this
theorem zjo {m:Ma} {x:St3} {sts:List St3} (A:At m 200 s00 sts x) (h:stN m x=none\/200<sts.length):zaO m=x:=by
 have:=A.done h
 obtain⟨l,rfl,_⟩:=A.pre;unfold zaO;rw [← this,List.getLast?_append]
 rfl
def zhg:Sp:=fun vs H Q _=>match vs with
 | [.ref t,.int most]=>∃ m:Ma,zdw H t m/\isM m=true/\most=200/\(zc8 m=none->zbe m=none->∀ H',Sub H H'->Q .non H')/\∀ (x:Ma × Int × Int) (y:Int × Int) (q d:Addr) (o:Obj) (ks:Mk2) (H':Hp),zc8 m=some x->zbe m=some y->Sub H H'->H' q=some (.tup [.int x.2.1,.int y.1,.int y.2,.ref d])->H d=none->H' d=some (.frz o (.dK (dcI (iv ks))))->ks.length<=300->(ks.map (·.1)).Nodup->((ks.filter fun q=>decide (q.2≠0)).length:Int)=x.2.2->Q (.ref q) H'
 | _=>False
theorem zkz (T:Tx K mg a):za3 P w K mg base CX0 1 a.l_met a.l_met_d ["_law_machine","_law_most"] (zhg):=by
 refine T.q_l_met.f.ok zhT (fun vs H Q E h=>?_) (fun cdv A outer s H vs Q E hr h=>?_)
 ·unfold zhg at h;split at h
  ·rfl
  ·exact h.elim
 ·unfold zhg at h;split at h
  ·have nd:=zhT.nd;have hu:=zaD hr;rename_i t most;obtain⟨m,hm,hM,rfl,h0,h⟩:=h;have M:=OkM.of hM;refine⟨_,(@zac _ _ _ _ _ (@zar _ _ 2 _ _ _ _ nd rfl (by walk_at "o") zai (by rfl) (by first | exact .inl rfl | exact .inr rfl | assumption)) (@zac _ _ _ _ _ (@zar _ _ 3 _ _ _ _ nd rfl (by walk_at "o") zai (by rfl) (by first | exact .inl rfl | exact .inr rfl | assumption)) (@zac _ _ _ _ _ (@zar _ _ 4 _ _ _ _ nd rfl (by walk_at "o") zkC (by rfl) (by first | exact .inl rfl | exact .inr rfl | assumption)) (@zac _ _ _ _ _ (@zbp _ _ _ _ _ _ _ _ PassesOwn.never rfl (@zbd _ _ _ _ _ _ rfl T.z_range (@zaa _ _ _ _ _ (@zaP _ _ _ _ _ _ _ _ zcl (qv 1) zai) zab (by rfl)) (by rfl)) (@zag _ _ 5 _ nd rfl (by walk_at "o") (by first | exact .inl rfl | exact .inr rfl | assumption)) (@zac _ _ _ _ _ (@zar _ _ 6 _ _ _ _ nd rfl (by walk_at "o") (@za1 _ _ _ _ _ _ _ (@za2 _ K rfl) (@za1 _ _ _ _ _ _ _ (@za2 _ K rfl) (qv 0) (qv 2) (fun _ _=>rfl)) (@zfI _ _ _ _ _ _ _ _ _ hu (qv 4) (qv 3) zai ⟨rfl,rfl,rfl,rfl⟩) (fun _ _=>rfl)) (by rfl) (by first | exact .inl rfl | exact .inr rfl | assumption)) (@zac _ _ _ _ _ (@zbV _ _ _ _ _ _ _ _ (@zb1 _ _ _ _ _ _ _ _ (@zgl _ _ hr) (qv 6) (@zaG _ _ _ _ _ zab) (by first | exact zaF _ | rfl)) (@zae _ _ _ (@zap _ _ _ _ (@znm _ _ _ (@zaG _ _ _ _ _ (@zaa _ _ _ _ _ (qv 5) (@zaa _ _ _ _ _ (qv 2) (@zaa _ _ _ _ _ (@zfI _ _ _ _ _ _ _ _ _ hu (qv 4) (qv 3) zai ⟨rfl,rfl,rfl,rfl⟩) (@zaa _ _ _ _ _ (qv 4) zab (by rfl)) (by rfl)) (by rfl)) (by rfl)))))) zas) (@zac _ _ _ _ _ (@zjI _ _ _ _ _ _ _ _ _ hu (qv 4) (qv 3) (@za1 _ _ _ _ _ _ _ (@zbI _ K rfl) (qv 6) zai (fun _ _=>rfl)) rfl) (@zac _ _ _ _ _ (@zar _ _ 3 _ _ _ _ nd rfl (by walk_at "o") (@zaP _ _ _ _ _ _ _ _ zcl (qv 3) (@za1 _ _ _ _ _ _ _ (@zbI _ K rfl) (qv 6) zai (fun _ _=>rfl))) (by rfl) (by first | exact .inl rfl | exact .inr rfl | assumption)) (@zae _ _ _ (@zar _ _ 2 _ _ _ _ nd rfl (by walk_at "o") (@za1 _ _ _ _ _ _ _ (@zbI _ K rfl) (qv 6) zai (fun _ _=>rfl)) (by rfl) (by first | exact .inl rfl | exact .inr rfl | assumption))))))) (by intro _ ;rfl)) (@zae _ _ _ (@zap _ _ _ _ zbk)))))),?_⟩;walk_at "w";intro d nd;have S1:Sub H (upd H d (.dK [])):=Sub.new nd;have e1:(upd H d (.dK [])) d=some (.dK (dcI (iv []))):=zad;generalize upd H d (.dK [])=H1 at S1 e1 ⊢;refine⟨⟨by omega,by omega⟩,?_⟩;refine zdd (lo:=0) (n:=201) (fun i σ H2=>∃ (v5 v6:Option V) (x:St3) (ks:Mk2) (sts:List St3),σ=[some (.ref t),some (.int 200),some (.int x.1),some (.int x.2.1),some (.ref d),v5,v6]/\Sub H H2/\H2 d=some (.dK (dcI (iv ks)))/\ks.length<=i/\(ks.map (·.1)).Nodup/\(∀ p,vzF ks p=vzF x.2.2 p)/\OkS m x.1 x.2.2/\(if i<=200 then At m 200 s00 sts x/\sts.length=i+1 else zc8 m=none/\zbe m=none)) ?_ ?_ ?_
   ·exact⟨none,none,s00,[],[s00],rfl,S1,e1,zpd _,by simp,fun _=>rfl,M.start,by rw [zpC (by omega)];exact⟨At.start,rfl⟩⟩
   ·rintro i σ H2 hi ⟨v5,v6,x,ks,sts,rfl,S2,e2,hkl,hnd,hv,O,A⟩;rw [zpC (by omega)] at A;obtain⟨A,hsl⟩:=A;obtain⟨vs,pr,as,es,h1,h2,h3,h4,h5⟩:=zhG (hm.stay (.sub S2)) O.r0 O.r1;have hval:=O.val M x.2.1;obtain⟨c,e,h6,h7,h8⟩:=zj7 h4 hval.1 (by rw [M.len es (zo2 h5)];exact hval.2);obtain⟨es',e',g1,g2,g3,g4⟩:=O.at M x.2.1;obtain rfl:=zpK (h5.symm.trans g1);obtain rfl:=zpK (h7.symm.trans g2);refine⟨_,_,SqL.of h1,h2,?_⟩;refine⟨d,rfl,.inl ⟨_,.inl e2⟩,?_⟩;refine⟨_,.inl ⟨_,.inl x.2.1,.inl e2,rfl,rfl⟩,?_⟩;rw [zgF];have ev:((zbh ks x.2.1).map V.int).getD (V.int 0)=V.int ((zbh x.2.2 x.2.1).getD 0):=by
     rw [show (zbh x.2.2 x.2.1).getD 0=vzF x.2.2 x.2.1 from rfl,← hv];unfold vzF;cases zbh ks x.2.1 <;> rfl
    rw [ev];refine⟨_,_,SqL.of h3,h6,?_⟩;refine⟨by show 0<=sizeLine;decide,?_⟩;intro p3 n3;generalize U':upd _ p3 _=H3;obtain ⟨S3,e3⟩:=zak n3 U';clear U';refine⟨_,_,Ent.den (show Ent H3 c e from S3 _ _ h8),Ent.den (e:=[]) e3,zch _,?_⟩;rw [zeP];walk_at "w";by_cases ce:e=[]
    ·subst ce;refine ifB.yes (zo3 rfl) ?_;have hl:=zjo A (.inl (zhV g3));have hE:zc8 m=some (m,((tr m 200 s00).length:Int)-1,((zaO m).2.2.length:Int)):=by
      unfold zc8;rw [zpC (by unfold wd;rw [hl];exact zpC g3)]
     have hO:zbe m=some (lkS x):=by
      unfold zbe;rw [hl];exact zpC g3
     have hts:((tr m 200 s00).length:Int)-1=i:=by
      rw [← A.done (.inl (zhV g3)),hsl];omega
     have hnz:L2.NZ x.2.2:=by rw [← hl];exact znO 200 s00 (fun q hq=>by cases hq) _ (List.mem_of_getLast? (zdY m))
     refine⟨d,rfl,.inl ⟨_,.inl (S3 _ _ e2)⟩,?_⟩;refine⟨_,.inl ⟨_,.inl x.2.1,.inl (S3 _ _ e2),rfl,rfl⟩,?_⟩;rw [zgF,ev];refine⟨by show 4<=sizeLine;decide,?_⟩;intro p4 n4;generalize U':upd _ p4 _=H4;obtain ⟨S4,e4⟩:=zak n4 U';clear U';refine⟨d,_,S4 _ _ (S3 _ _ e2),fun o=>?_⟩;refine h _ _ p4 d o ks _ hE hO (((S2.trans S3).trans S4).upd nd) ?_ nd zad (by omega) hnd ?_
     ·rw [zal (by rintro rfl;rw [S3 _ _ e2] at n4;cases n4),e4];show some (HO.tup [V.int (0+(i:Int)),_,_,_])=some (HO.tup [V.int (((tr m 200 s00).length:Int)-1),_,_,_]);rw [hts,Int.zero_add]
      rfl
     ·rw [znc hnd O.nd hnz hv,hl]
    ·refine ifB.no (zo4 ce) ?_;obtain⟨s',w',r',rfl,b1,b2,b3,b4,b5⟩:=zaX (M.ent es (zo2 h5) e (zo2 h7)) ce;have hs:=zjV g3;refine⟨_,_,SqT.of (S3 _ _ h8),zaE (j:=0) rfl,?_⟩;refine⟨_,_,rfl,zmu.k (k:=.inl x.2.1) (S3 _ _ e2) (by rw [zoX,zoX];exact zpb (show ks.length<=2000 by omega) (by decide)),?_⟩;rw [zj3];have S4:Sub H (upd H3 d (.dK (dcI (iv (zdv ks x.2.1 s'))))):=(S2.trans S3).upd nd;have h84:(upd H3 d (.dK (dcI (iv (zdv ks x.2.1 s'))))) c=some (.tup (([s',w',r']:List Int).map V.int)):=by
      rw [zal (by rintro rfl;have h8:H2 c=_:=h8;rw [e2] at h8;cases h8)];exact S3 _ _ h8
     have e4:(upd H3 d (.dK (dcI (iv (zdv ks x.2.1 s'))))) d=some (.dK (dcI (iv (zdv ks x.2.1 s')))):=zad;generalize upd H3 d (.dK (dcI (iv (zdv ks x.2.1 s'))))=H4 at S4 h84 e4 ⊢;refine⟨_,_,SqT.of h84,zaE (j:=1) rfl,?_⟩;refine⟨_,_,SqT.of h84,zaE (j:=2) rfl,?_⟩;walk_at "w"
     have:=zkK ks x.2.1 s'
     refine⟨_,_,(r',x.2.1+w',nxt x.2.2 x.2.1 s'),zdv ks x.2.1 s',sts++[(r',x.2.1+w',nxt x.2.2 x.2.1 s')],rfl,S4,e4,by omega,zgq hnd,fun p=>?_,O.nxt b1 b2 b4 b5,?_⟩
     ·rw [zms];show _=(zbh (nxt x.2.2 x.2.1 s') p).getD 0;rw [zlT,hv p]
      rfl
     ·by_cases ci:i+1<=200
      ·rw [zpC ci];exact⟨A.step hs (by omega),by rw [zo7,hsl];rfl⟩
      ·rw [zpB ci];have hl:=zjo A (.inr (by omega));have hne:¬ en3 m x=some []:=fun z=>by
        have g3:en3 m x=_:=g3;rw [z] at g3;cases g3
       constructor
       ·unfold zc8 wd;rw [hl,zpB (show ¬ (if ent m x.1 x.2.1 x.2.2=some [] then ("ends":Str) else "on")="ends" by rw [zpB hne];decide)]
       ·unfold zbe;rw [hl,zpB hne]
   ·rintro σ H2 ⟨v5,v6,x,ks,sts,rfl,S2,e2,_,_,_,_,A⟩;rw [zpB (by omega)] at A;walk_at "w";exact h0 A.1 A.2 _ S2
  ·exact h.elim
theorem zdq:zao ["_law_machine","_law_row","_law_sign","_law_first","_law_found","_law_put","_law_way","_law_goes","_law_child"] ["_law_machine","_law_row","_law_sign"] (zaj zcr):=by walk_at "s"
abbrev MZ:=(Addr × List Addr) × Ma
def MzR (H:Hp) (zs:List MZ):Prop:=∀ z∈zs,MaR H z.1.1 z.1.2 z.2
abbrev flZ (zs:List MZ):List Addr:=zs.flatMap fun z=>z.1.1::z.1.2
theorem MzR.stay {H H':Hp} {zs:List MZ} (h:MzR H zs) (S:Sub H H'):MzR H' zs:=fun z hz=>(h z hz).stay (.sub S)
theorem MzR.other {H:Hp} {zs:List MZ} {l:Addr} {vs us:List V} (h:MzR H zs) (hl:H l=some (.lst vs)) (n:l ∉ flZ zs):MzR (upd H l (.lst us)) zs :=
 fun z hz=>(h z hz).other hl (fun e=>n (List.mem_flatMap.2 ⟨z,hz,by rw [e];exact zpw ..⟩)) (fun e=>n (List.mem_flatMap.2 ⟨z,hz,zpg _ e⟩))
theorem MzR.out {H:Hp} {zs:List MZ} {q:Addr} (h:MzR H zs) (n:H q=none):q ∉ flZ zs:=fun x=>by
 obtain⟨z,hz,hq⟩:=List.mem_flatMap.1 x;rcases zpG.1 hq with e | e
 ·exact (h z hz).outp n e
 ·exact (h z hz).out n e
theorem zmo (m:Ma):(m.map fun es=>((es.filter fun e=>decide (e≠[])).length:Int)).sum=((zdu m).length:Int):=by
 unfold zdu;rw [zgb]
 induction m with
 | nil=>rfl
 | cons es m ih=>rw [zpq,List.sum_cons,ih,List.flatten_cons,zpx,zo7];exact (Int.natCast_add _ _).symm
def ChI (H:Hp) (f:Addr) (m:Ma) (i j:Nat) (es:List En) (H4:Hp):Prop:=∃ zs:List MZ,Sub H H4/\H4 f=some (.lst ((zs.map (·.1.1)).map V.ref))/\MzR H4 zs/\zs.map (·.2)=es.map (zb6 m i j)/\(∀ x∈flZ zs,H x=none)/\f ∉ flZ zs
theorem ChI.stay {H H4 H5:Hp} {f:Addr} {m:Ma} {i j:Nat} {es:List En} (h:ChI H f m i j es H4) (S:Sub H4 H5):ChI H f m i j es H5:=by
 obtain⟨zs,a,b,c,d,e,g⟩:=h;exact⟨zs,a.trans S,S _ _ b,c.stay S,d,e,g⟩
theorem zmV:∀ l:List Int,l≠[]->∃ x,zj5 x l
 | [],h=>(h rfl).elim
 | [a],_=>⟨a,by simp,fun n hn=>by rw [zo6.1 hn];exact Int.le_refl _⟩
 | a::b::l,_=>by
  obtain⟨x,h1,h2⟩:=zmV (b::l) (by simp);by_cases c:a<=x
  ·exact⟨x,zpg _ h1,fun n hn=>by rcases zpG.1 hn with rfl | hn;exact c;exact h2 n hn⟩
  ·exact⟨a,zpw ..,fun n hn=>by rcases zpG.1 hn with rfl | hn;exact Int.le_refl _;have:=h2 n hn;omega⟩
theorem zos (k:Nat) (m:Ma):∃ n,ziA k m n:=by
 by_cases c:zdu m=[]
 ·exact⟨1,.inl ⟨c,rfl⟩⟩
 ·obtain⟨x,hx⟩:=zmV ((zdu m).map fun e=>e.getD k 0) (fun z=>c (List.map_eq_nil_iff.1 z));exact⟨_,.inr ⟨x,rfl,hx⟩⟩
def zcx:Sp:=fun vs H Q _=>match vs with
 | [.ref t,.int row,.int sign]=>∃ (m:Ma) (i j:Nat),zdw H t m/\isM m=true/\row=i/\sign=j/\i<m.length/\j<sgn m/\∀ (l:Addr) (zs:List MZ) (es:List En) (H':Hp),Sub H H'->H l=none->zcV m es->H' l=some (.lst ((zs.map (·.1.1)).map V.ref))->MzR H' zs->zs.map (·.2)=es.map (zb6 m i j)->(∀ x∈flZ zs,H x=none)->l ∉ flZ zs->Q (.ref l) H'
 | _=>False
theorem zfF (T:Tx K mg a):za3 P w K mg base CX0 2 a.l_children a.l_children_d ["_law_machine","_law_row","_law_sign"] (zcx):=by
 have G_l_named_things:=zdC (P:=P) (w:=w) (base:=base) T;refine T.q_l_children.f.ok zdq (fun vs H Q E h=>?_) (fun cdv A outer s H vs Q E hr h=>?_)
 ·unfold zcx at h;split at h
  ·rfl
  ·exact h.elim
 ·unfold zcx at h;split at h
  ·have nd:=zdq.nd;have hu:=zaD hr;rename_i t row sign;obtain⟨m,i,j,hm,hM,rfl,rfl,hi,hj,h⟩:=h;have M:=OkM.of hM;obtain⟨ws,hm0,hnd,hrw⟩:=id hm;refine⟨_,(@zac _ _ _ _ _ (@zar _ _ 3 _ _ _ _ nd rfl (by walk_at "o") (@zb0 _ _ _ _ _ _ _ _ zhO (@zah _ _ _ _ _ _ _ _ _ (@zmd _ K rfl rfl) rfl T.z_sum zmG (@zaa _ _ _ _ _ (@zbx _ _ ["_law_entries"] [] _ _ _ _ _ _ _ _ _ rfl (by walk_at "comp_ok") (@zax _ K _ _ _ rfl (qv 0)) (fun _ _ _ _=>(@zag _ _ 0 _ (show List.Nodup (α:=Str) ["_law_entries"] from by decide +kernel) rfl (by walk_at "o") (by first | exact .inl rfl | exact .inr rfl | assumption))) (fun _ _ _ _=>zaQ) (fun _ _ _ _=>(@zah _ _ _ _ _ _ _ _ _ (@za6 _ K rfl) rfl T.z_len za4 (@zaa _ _ _ _ _ (@zbx _ _ ["_law_entry"] [] _ _ _ _ _ _ _ _ _ rfl (by walk_at "comp_ok") (@zax _ K _ _ _ rfl (qv 0)) (fun _ _ _ _=>(@zag _ _ 0 _ (show List.Nodup (α:=Str) ["_law_entry"] from by decide +kernel) rfl (by walk_at "o") (by first | exact .inl rfl | exact .inr rfl | assumption))) (fun _ _ _ _=>(@zbC _ _ _ (@zb1 _ _ _ _ _ _ _ _ (@zgm _ _ hr) (qv 0) (@zaG _ _ _ _ _ zab) (by first | exact zaF _ | rfl)))) (fun _ _ _ _=>(qv 0)) (by intro _ ;rfl)) zab (by rfl)) (by decide) (by decide) (by rfl) (by rfl))) (by intro _ ;rfl)) zab (by rfl)) (by decide) (by decide) (by rfl) (by rfl)) zai (by first | exact zaF _ | rfl)) (by rfl) (by first | exact .inl rfl | exact .inr rfl | assumption)) (@zac _ _ _ _ _ (@zar _ _ 4 _ _ _ _ nd rfl (by walk_at "o") (@zaR _ _ _ _ zab) (by rfl) (by first | exact .inl rfl | exact .inr rfl | assumption)) (@zac _ _ _ _ _ (@zbp _ _ _ _ _ _ _ _ PassesOwn.never rfl (@zbd _ _ _ _ _ _ rfl T.z_range (@zaa _ _ _ _ _ (@zah _ _ _ _ _ _ _ _ _ (@zhP _ rfl) rfl T.z_min zhq (@zaa _ _ _ _ _ (@zah _ _ _ _ _ _ _ _ _ (@za6 _ K rfl) rfl T.z_len za4 (@zaa _ _ _ _ _ (@za1 _ _ _ _ _ _ _ (@za2 _ K rfl) (qv 0) zai (fun _ _=>rfl)) zab (by rfl)) (by decide) (by decide) (by rfl) (by rfl)) (@zaa _ _ _ _ _ (@zaP _ _ _ _ _ _ _ _ zcl (@zan _ _ _ _ _ _ _ _ _ _ _ _ _ _ _ _ G_l_named_things (hr.mono (by decide)) rfl T.q_l_named_things.g T.q_l_named_things.f.kp T.q_l_named_things.b .nil zaw (@zaa _ _ _ _ _ (qv 0) (@zaa _ _ _ _ _ zai zab (by rfl)) (by rfl)) (by decide) (by rfl) (by rfl)) zai) zab (by rfl)) (by rfl)) (by decide) (by decide) (by rfl) (by rfl)) zab (by rfl)) (by rfl)) (@zag _ _ 5 _ nd rfl (by walk_at "o") (by first | exact .inl rfl | exact .inr rfl | assumption)) (@zae _ _ _ (@zbp _ _ _ _ _ _ _ _ PassesOwn.never rfl (@zax _ K _ _ _ rfl (@za1 _ _ _ _ _ _ _ (@za2 _ K rfl) (@zaR _ _ _ _ (@zaa _ _ _ _ _ (@zaR _ _ _ _ (@zaa _ _ _ _ _ (@ziq _ _ _ _ _ _ zis zai) (@zaa _ _ _ _ _ zai zab (by rfl)) (by rfl))) (@zaa _ _ _ _ _ (@zaR _ _ _ _ (@zaa _ _ _ _ _ zai zab (by rfl))) zab (by rfl)) (by rfl))) (@zdi _ _ _ _ _ _ _ _ _ zli rfl T.z_int zc9 (@zaa _ _ _ _ _ (qv 3) zab (by rfl)) (by decide) (by decide) (by rfl) (by rfl)) (fun _ _=>rfl))) (@zag _ _ 6 _ nd rfl (by walk_at "o") (by first | exact .inl rfl | exact .inr rfl | assumption)) (@zae _ _ _ (@zbp _ _ _ _ _ _ _ _ PassesOwn.never rfl (@zbd _ _ _ _ _ _ rfl T.z_range (@zaa _ _ _ _ _ (@zah _ _ _ _ _ _ _ _ _ (@zhP _ rfl) rfl T.z_min zhq (@zaa _ _ _ _ _ (@zah _ _ _ _ _ _ _ _ _ (@za6 _ K rfl) rfl T.z_len za4 (@zaa _ _ _ _ _ (qv 0) zab (by rfl)) (by decide) (by decide) (by rfl) (by rfl)) (@zaa _ _ _ _ _ (@zaP _ _ _ _ _ _ _ _ zcl (@zan _ _ _ _ _ _ _ _ _ _ _ _ _ _ _ _ G_l_named_things (hr.mono (by decide)) rfl T.q_l_named_things.g T.q_l_named_things.f.kp T.q_l_named_things.b .nil zaw (@zaa _ _ _ _ _ (qv 0) (@zaa _ _ _ _ _ zai zab (by rfl)) (by rfl)) (by decide) (by rfl) (by rfl)) zai) zab (by rfl)) (by rfl)) (by decide) (by decide) (by rfl) (by rfl)) zab (by rfl)) (by rfl)) (@zag _ _ 7 _ nd rfl (by walk_at "o") (by first | exact .inl rfl | exact .inr rfl | assumption)) (@zac _ _ _ _ _ (@znr _ _ ["_law_entries"] [] _ _ _ _ _ _ _ _ _ 8 _ _ _ rfl nd rfl (by walk_at "o") (by walk_at "comp_ok") (@zax _ K _ _ _ rfl (qv 0)) (fun _ _ _ _=>(@zag _ _ 0 _ (show List.Nodup (α:=Str) ["_law_entries"] from by decide +kernel) rfl (by walk_at "o") (by first | exact .inl rfl | exact .inr rfl | assumption))) (fun _ _ _ _=>zaQ) (fun _ _ _ _=>(@zdi _ _ _ _ _ _ _ _ _ (@zgs _ K rfl) rfl T.z_list zbX (@zaa _ _ _ _ _ (qv 0) zab (by rfl)) (by decide) (by decide) (by rfl) (by rfl))) (by rfl) (by first | exact .inl rfl | exact .inr rfl | assumption) (by intro _ ;rfl)) (@zac _ _ _ _ _ (@zck _ _ _ _ _ _ (@zaG _ _ _ _ _ (@zaa _ _ _ _ _ (qv 5) (@zaa _ _ _ _ _ (qv 6) (@zaa _ _ _ _ _ (qv 7) zab (by rfl)) (by rfl)) (by rfl))) (@zhM _ _ _ _ _ _ _ (@za1 _ _ _ _ _ _ _ (@za2 _ K rfl) (qv 8) (qv 1) (fun _ _=>rfl)) (qv 2) zhQ (by intro _ ;rfl)) (by rfl) (by rfl) (by rfl)) (@zae _ _ _ (@zbB _ _ _ _ (@zg3 _ _ _ _ _ _ _ _ _ _ _ _ PySem.F.plainAttrs_list PySem.F.slot_list_append PySem.F.type_list_append zg6 (qv 4) (@zaa _ _ _ _ _ (qv 8) zab (by rfl)) (by rfl) (by rfl) (by rfl) (by rfl) (by rfl)) (by rfl))))) (by intro _ ;rfl))) (by intro _ ;rfl))) (by intro _ ;rfl)) (@zae _ _ _ (@zap _ _ _ _ (qv 4)))))),?_⟩;have mn1:=M.n1;have mn4:=M.n4;have ms2:=M.s2;have ms4:=M.s4;obtain⟨k2,hk2⟩:=zos 2 m;have k1:=ze1 M hk2;obtain⟨ap,hap⟩:∃ ap:Nat,ap=(min (k2+1) (m.length:Int)).toNat:=⟨_,rfl⟩;refine⟨⟨_,SqL.of hm0⟩,?_⟩;intro pa npa;refine zat (K:=K) (a:=t) (xs:=ws.map V.ref) (fun n σ H1=>∃ (v:Option V),σ=[v]/\Sub H H1/\H1 pa=some (.lst (((m.take n).map fun es=>((es.filter fun e=>decide (e≠[])).length:Int)).map V.int))) ?_ ?_ ?_ ?_
   ·exact⟨none,rfl,Sub.new npa,zad⟩
   ·rintro n σ H1 _ ⟨v,rfl,S1,_⟩;exact SqL.of (S1 _ _ hm0)
   ·rintro n x σ H1 hn ⟨v,rfl,S1,g1⟩;rw [zoY] at hn;obtain⟨r,hr,rfl⟩:=zo0.1 hn;obtain⟨es,hes,as,hra,haa⟩:=hrw.at hr;have hel:=M.len es (zo2 hes);have hnl:n<m.length:=(zo1.1 hes).1;refine⟨⟨_,SqL.of (S1 _ _ hra)⟩,?_⟩;intro pc npc;refine zat (K:=K) (a:=r) (xs:=as.map V.ref) (fun j σ H3=>∃ (v:Option V) (bs:List V),σ=[v]/\Sub H1 H3/\H3 pc=some (.lst bs)/\bs.length=((es.take j).filter fun e=>decide (e≠[])).length) ?_ ?_ ?_ ?_
    ·exact⟨none,[],rfl,Sub.new npc,zad,rfl⟩
    ·rintro j σ H3 _ ⟨v,bs,rfl,S3,_⟩;exact SqL.of (S3 _ _ (S1 _ _ hra))
    ·rintro j x σ H3 hj ⟨v,bs,rfl,S3,g3,l3⟩;rw [zoY] at hj;obtain⟨c,hc,rfl⟩:=zo0.1 hj;obtain⟨e,he,hce⟩:=haa.at hc;have hc3:Ent H3 c e:=(S1.trans S3) _ _ hce;refine⟨by show 0<=sizeLine;decide,?_⟩;intro p4 n4;generalize U':upd _ p4 _=H4;obtain ⟨S4,e4⟩:=zak n4 U';clear U';refine⟨_,_,Ent.den (show Ent H4 c e from S4 _ _ hc3),Ent.den (e:=[]) e4,zch _,?_⟩;rw [zeP];by_cases z:e=[]
     ·refine zgV (c:=e=[]) z ?_;refine⟨_,bs,rfl,S3.trans S4,S4 _ _ g3,?_⟩;rw [l3,zpk,he,zpx,show (some e).toList.filter (fun e=>decide (e≠[]))=[] from by simp [z],zo9]
     ·refine zfw (c:=e=[]) z ?_;refine⟨_,S4 _ _ g3,?_,_,bs++[V.ref c],rfl,(S3.trans S4).upd npc,zad,?_⟩
      ·rw [l3];exact zpb (zpc (List.length_filter_le _ _) (zpc (List.length_take_le' _ _) (show es.length<=16 by omega))) (by decide)
      ·rw [zpk,he,zpx,show (some e).toList.filter (fun e=>decide (e≠[]))=[e] from by simp [z],zo7,zo7,l3]
       rfl
    rintro σ H3 ⟨v,bs,rfl,S3,g3,l3⟩;rw [zoX,haa.1,zpj] at l3;refine⟨_,.inl (SqL.of g3),?_⟩;refine⟨_,S3 _ _ g1,?_,_,rfl,(S1.trans S3).upd npa,?_⟩
    ·rw [zoX,zoX];exact zpb (zpc (List.length_take_le' _ _) (show m.length<=16 by omega)) (by decide)
    ·rw [zad,zpk,hes,zo5,zo5,l3];rfl
   rintro σ H1 ⟨v,rfl,S1,g1⟩;rw [zoX,hrw.1,zpj] at g1;refine⟨_,SqL.of g1,?_⟩;rw [zmo];refine⟨Nat.zero_le _,?_⟩;intro p2 n2;generalize U':upd _ p2 _=H2;obtain ⟨S2,e2⟩:=zak n2 U';clear U';have hm2:=(hm.stay (.sub S1)).stay (.sub S2);obtain⟨ws2,hw2,_,hrw2⟩:=id hm2;obtain rfl:ws2=ws:=zg8 (HO.lst.inj (zpK (hw2.symm.trans (S2 _ _ (S1 _ _ hm0)))));have e0:ws2[0]?=some (ws2[0]'(by rw [hrw2.1];omega)):=zoZ _;generalize ws2[0]'(by rw [hrw2.1];omega)=w0 at e0;obtain⟨es0,he0,as0,hr0,hr1⟩:=hrw2.at e0;have hl0:es0.length=sgn m:=M.len es0 (zo2 he0);refine⟨_,_,SqL.of hw2,zaE (j:=0) (by rw [zoY,e0];rfl),?_⟩;refine⟨_,.inl (SqL.of hr0),?_⟩;refine⟨m,hm2,hM,.inl rfl,fun n H3 S3 hn=>?_⟩;have n1:=ze1 M hn;walk_at "w";intro mi hmi;rw [zoX,hr1.1,hl0] at hmi;have hp:mi.toNat=(min (n+1) (sgn m)).toNat:=by rw [hmi];split <;> omega
   refine⟨⟨by split at hmi <;> omega,by split at hmi <;> omega⟩,?_⟩;have hff:(if false=true then !decide (((zdu m).length:Int)=0) else decide (((zdu m).length:Int)=0))=decide (zdu m=[]):=by
    rw [zpB (by decide)];exact decide_eq_decide.2 ⟨fun z=>List.length_eq_zero_iff.1 (by omega),fun z=>by rw [z];rfl⟩
   rw [hff];have few:mi.toNat<=4:=by rw [hp];omega
   have nf:H p2=none:=S1.free n2;refine zdd (lo:=0) (n:=mi.toNat) (fun c σ H4=>∃ v5 v6 v7 v8:Option V,σ=[some (.ref t),some (.int i),some (.int j),some (.bl (decide (zdu m=[]))),some (.ref p2),v5,v6,v7,v8]/\ChI H p2 m i j (zeB c ap (zcz m)) H4) ?_ ?_ ?_
   ·exact⟨none,none,none,none,rfl,[],(S1.trans S2).trans S3,S3 _ _ e2,(fun _ h=>by cases h),rfl,(fun _ h=>by cases h),(fun h=>by cases h)⟩
   ·rintro c σ H4 hc ⟨v5,v6,v7,v8,rfl,C4⟩;refine⟨by show 2<=sizeLine;decide,?_⟩;intro p5 n5;generalize U':upd _ p5 _=H5;obtain ⟨S5,e5⟩:=zak n5 U';clear U';refine⟨by show 1<=sizeLine;decide,?_⟩;intro p6 n6;generalize U':upd _ p6 _=H6;obtain ⟨S6,e6⟩:=zak n6 U';clear U';refine⟨by show 2<=sizeLine;decide,?_⟩;intro p7 n7;generalize U':upd _ p7 _=H7;obtain ⟨S7,e7⟩:=zak n7 U';clear U';have S47:=(S5.trans S6).trans S7;obtain⟨pw,hpa,hpw,npw⟩:∃ pw,atI [V.ref p5,V.ref p6] (if decide (zdu m=[])=true then 1 else 0)=some (.ref pw)/\H7 pw=some (.lst ((zcz m).map V.int))/\H4 pw=none:=by
     unfold zcz;by_cases z:zdu m=[]
     ·rw [zpC (zo3 z),zpC z];exact⟨p6,rfl,S7 _ _ e6,S5.free n6⟩
     ·rw [zpB (fun y=>z (zpI y)),zpB z];exact⟨p5,rfl,(S6.trans S7) _ _ e5,n5⟩
    have npw2:pw≠p2:=by
     rintro rfl;obtain⟨zs,_,b,_⟩:=C4;rw [b] at npw;cases npw
    refine⟨_,_,SqL.of e7,hpa,?_⟩;refine⟨⟨_,SqL.of hpw⟩,?_⟩;refine zbv (K:=K) (a:=pw) (xs:=(zcz m).map V.int) (fun d σ H8=>∃ v6 v7 v8:Option V,σ=[some (.ref t),some (.int i),some (.int j),some (.bl (decide (zdu m=[]))),some (.ref p2),some (.int (0+(c:Nat))),v6,v7,v8]/\H8 pw=some (.lst ((zcz m).map V.int))/\ChI H p2 m i j (zeB c ap (zcz m)++((zcz m).take d).flatMap fun w=>(List.range ap).map fun (b:Nat)=>[(c:Int),w,(b:Int)]) H8) ?_ ?_ ?_ ?_
    ·exact⟨_,_,_,rfl,hpw,by rw [List.take_zero,List.flatMap_nil,zo9];exact C4.stay S47⟩
    ·rintro d σ H8 _ ⟨v6,v7,v8,rfl,g8,_⟩;exact SqL.of g8
    ·rintro d x σ H8 hd ⟨v6,v7,v8,rfl,g8,C8⟩;rw [zoY] at hd;obtain⟨wy,hwy,rfl⟩:=zo0.1 hd;have SH8:Sub H H8:=C8.choose_spec.1;refine⟨_,.inl (SqL.of (SH8 _ _ hm0)),?_⟩;refine⟨m,hm.stay (.sub SH8),hM,.inr rfl,fun n' H9 S9 hn'=>?_⟩;obtain rfl:=hk2.one hn';walk_at "w";intro mi2 hmi2;rw [zoX,hrw.1] at hmi2;have hp2:mi2.toNat=ap:=by rw [hap,hmi2];split <;> omega
     refine⟨⟨by split at hmi2 <;> omega,by split at hmi2 <;> omega⟩,?_⟩;refine zdd (lo:=0) (n:=mi2.toNat) (fun b σ H10=>∃ v7 v8:Option V,σ=[some (.ref t),some (.int i),some (.int j),some (.bl (decide (zdu m=[]))),some (.ref p2),some (.int (0+(c:Nat))),some (.int wy),v7,v8]/\H10 pw=some (.lst ((zcz m).map V.int))/\ChI H p2 m i j ((zeB c ap (zcz m)++((zcz m).take d).flatMap fun w=>(List.range ap).map fun (b:Nat)=>[(c:Int),w,(b:Int)])++(List.range b).map fun (b:Nat)=>[(c:Int),wy,(b:Int)]) H10) ?_ ?_ ?_
     ·exact⟨_,_,rfl,S9 _ _ g8,by rw [List.range_zero,zpr,zo9];exact C8.stay S9⟩
     ·rintro y σ H10 hy ⟨v7,v8,rfl,g10,zs,SH,gf,Mz,qz,Fz,Oz⟩;have hm10:=SH _ _ hm0;have hrw10:zba (Row H10) ws2 m:=hrw.mono fun _ _ _ z=>z.stay (.sub SH)
      refine⟨⟨_,SqL.of hm10⟩,?_⟩;intro pt npt;refine zat (K:=K) (a:=t) (xs:=ws2.map V.ref) (fun b σ H11=>∃ (v:Option V) (rs:List Addr),σ=[v]/\Sub H10 H11/\MaR H11 pt rs (m.take b)/\(∀ x∈rs,H10 x=none)/\(pt::rs).Nodup) ?_ ?_ ?_ ?_
      ·exact⟨none,[],rfl,Sub.new npt,⟨zad,by simp,.nil⟩,by simp,by simp⟩
      ·rintro b σ H11 _ ⟨v,rs,rfl,S11,_⟩;exact SqL.of (S11 _ _ hm10)
      ·rintro b x σ H11 hi' ⟨v,rs,rfl,S11,M11,N11,D11⟩;rw [zoY] at hi';obtain⟨r,hr,rfl⟩:=zo0.1 hi';obtain⟨es,hes,as,hra,haa⟩:=hrw10.at hr;have hbl:b<m.length:=(zo1.1 hes).1;have m4:=M.n4;refine⟨_,.inl (SqL.of (S11 _ _ hra)),?_⟩;intro p12 n12;generalize U':upd _ p12 _=H12;obtain ⟨S12,e12⟩:=zak n12 U';clear U';have M12:=M11.stay (.sub S12);have o12:p12 ∉ rs:=M11.out n12;have q12:p12≠pt:=M11.outp n12;refine⟨_,M12.1,?_,_,rs++[p12],rfl,(S11.trans S12).upd npt,?_,?_,?_⟩
       ·rw [zoX,M12.2.2.1,zpm];exact zpb (Nat.min_le_left _ _) (zpb (show b<=6 by omega) (by decide))
       ·rw [zpk,hes];exact M12.app' ⟨as,e12,haa.mono fun _ _ _ z=>S12 _ _ (S11 _ _ z)⟩ o12 q12
       ·intro x hx;rcases zo8.1 hx with hx | hx
        ·exact N11 x hx
        ·rw [zo6.1 hx];exact S11.free n12
       ·rw [← List.cons_append];exact List.nodup_append.2 ⟨D11,by simp,fun a ha b hb e=>by
         rw [zo6.1 hb] at e;subst e;rcases zpG.1 ha with z | z
         ·exact q12 z
         ·exact o12 z⟩
      rintro σ H11 ⟨v,rs,rfl,S11,M11,N11,D11⟩;rw [zoX,hrw10.1,zpj] at M11;have hlt:i<rs.length:=by rw [M11.2.2.1];exact hi
      have hrd:rs[i]?=some rs[i]:=zoZ hlt;generalize rs[i]=r at hrd;obtain⟨es,hes,as,hra⟩:=M11.2.2.at hrd;have hesl:es.length=sgn m:=M.len es (zo2 hes);have eg:m.getD i []=es:=by rw [zpF,hes];rfl
      refine⟨by show 3<=sizeLine;decide,?_⟩;intro p13 n13;generalize U':upd _ p13 _=H13;obtain ⟨S13,e13⟩:=zak n13 U';clear U';have M13:=M11.stay (.sub S13);have hra13:zj6 H13 r as es:=⟨S13 _ _ hra.1,hra.2.mono fun _ _ _ z=>S13 _ _ z⟩;have M14:=M13.rowSet (j:=j) hrd hra13 (show Ent H13 p13 [(c:Int),wy,(y:Int)] by rw [show (c:Int)=0+(c:Nat) by omega,show (y:Int)=0+(y:Nat) by omega];exact e13);have S14:Sub H10 (upd H13 r (.lst ((as.map V.ref).set j (V.ref p13)))):=(S11.trans S13).upd (N11 r (zo2 hrd));refine⟨_,_,SqL.of M13.1,zaE (by rw [zoY,hrd];rfl),?_⟩;refine⟨_,j,hra13.1,zji (by rw [zoX,hra13.2.1,hesl];exact hj),?_⟩;generalize upd H13 r (.lst ((as.map V.ref).set j (V.ref p13)))=H14 at M14 S14 ⊢;have c14:∀ x∈pt::rs,H10 x=none:=fun x hx=>by
       rcases zpG.1 hx with rfl | hx
       ·exact npt
       ·exact N11 x hx
      have o14:p2 ∉ pt::rs:=fun z=>by have:=c14 _ z;rw [gf] at this;cases this
      have k14:=S14 _ _ gf;refine⟨.inl ⟨rfl,_,SqL.of k14⟩,?_⟩;refine⟨_,k14,?_,_,_,rfl,by rw [zal npw2];exact S14 _ _ g10,zs++[((pt,rs),zb6 m i j [(c:Int),wy,(y:Int)])],(SH.trans S14).upd nf,?_,?_,?_,?_,?_⟩
      ·rw [zoX,zoX,← zoX (f:=fun z:MZ=>z.2),qz,zoX,zo7,zo7,zoX,List.length_range];have w2:(zcz m).length<=2:=by unfold zcz;split <;> decide
       have l1:=zfB (p:=c) (a:=ap) (ws:=zcz m) (by omega) (by omega) w2;have l2:=zfC (i:=(c:Int)) (a:=ap) (ws:=(zcz m).take d) (by omega) (zpc (List.length_take_le' _ _) w2);exact zpb (show _<=50 by omega) (by decide)
      ·rw [zad,zo5,zo5];rfl
      ·intro z hz;rcases zo8.1 hz with hz | hz
       ·exact ((Mz.stay S14).other k14 Oz) z hz
       ·rw [zo6.1 hz];show MaR _ pt rs (zb6 m i j _);rw [zjT _ hes];exact M14.other k14 (fun e=>o14 (by rw [e];exact zpw ..)) (fun e=>o14 (zpg _ e))
      ·rw [zo5,qz,List.range_succ,zo5 (l₁:=List.range y),← zpi];simp only [zo5]
       rfl
      ·intro x hx;rw [flZ,List.flatMap_append] at hx;rcases zo8.1 hx with hx | hx
       ·exact Fz x hx
       ·rw [List.flatMap_singleton] at hx;exact SH.free (c14 x hx)
      ·intro z;rw [flZ,List.flatMap_append] at z;rcases zo8.1 z with z | z
       ·exact Oz z
       ·rw [List.flatMap_singleton] at z;exact o14 z
     ·rintro σ H10 ⟨v7,v8,rfl,g10,C10⟩;rw [hp2] at C10;refine⟨_,_,_,rfl,g10,?_⟩;rw [zpk,hwy,List.flatMap_append,← zpi,show (some wy).toList.flatMap (fun w=>(List.range ap).map fun (b:Nat)=>[(c:Int),w,(b:Int)])=(List.range ap).map fun (b:Nat)=>[(c:Int),wy,(b:Int)] from zo9 _];exact C10
    ·rintro σ H8 ⟨v6,v7,v8,rfl,g8,C8⟩;rw [zoX,zpj] at C8;refine⟨_,_,_,_,rfl,?_⟩;rw [show zeB (c+1) ap (zcz m)=zeB c ap (zcz m)++(zcz m).flatMap fun w=>(List.range ap).map fun (b:Nat)=>[(c:Int),w,(b:Int)] from by unfold zeB;rw [List.range_succ,List.flatMap_append,List.flatMap_singleton]];exact C8
   ·rintro σ H4 ⟨v5,v6,v7,v8,rfl,zs,S4,g4,M4,q4,F4,O4⟩;walk_at "w";refine h p2 zs _ H4 S4 nf ⟨n,k2,hn,hk2,rfl⟩ g4 M4 ?_ F4 O4;rw [q4,hp,hap]
  ·exact h.elim
theorem zfc:zao ["_law_rows","_law_signs","_law_waiting","_law_found","_law_machine","_law_met_here"] ["_law_rows","_law_signs"] (zaj zep):=by walk_at "s"
theorem zeR {α β:Type} {f g:α->List β} {l:List α} (h:∀ x∈l,f x=g x):l.flatMap f=l.flatMap g:=by
 induction l with
 | nil=>rfl
 | cons a l ih=>rw [List.flatMap_cons,List.flatMap_cons,h a (by simp),ih fun x hx=>h x (zpg _ hx)]
noncomputable def gT (m:Ma):List Ma:=zaq (emp m) m
theorem zbS:∀ (k l:Nat) (m:Ma),isM m=true->emp m<=k->emp m<=l->zaq k m=zaq l m
 | 0,0,m,_,_,_=>rfl
 | 0,l+1,m,hM,h,_=>by
  have:zbe m=none:=by
   cases e:zbe m with
   | none=>rfl
   | some q=>have:=zgR (OkM.of hM) e;omega
  rw [zbb this];rfl
 | k+1,0,m,hM,_,h=>by
  have:zbe m=none:=by
   cases e:zbe m with
   | none=>rfl
   | some q=>have:=zgR (OkM.of hM) e;omega
  rw [zbb this];rfl
 | k+1,l+1,m,hM,h1,h2=>by
  have M:=OkM.of hM;cases e:zbe m with
  | none=>rw [zbb e,zbb e]
  | some q =>
   by_cases hn:∃ es,zcV m es
   ·obtain⟨es,hn⟩:=hn;rw [zbf e hn,zbf e hn]
    congr 1
    refine zeR fun x hx=>?_
    have c:=zbs M e hn hx;exact zbS k l _ c.1 (by omega) (by omega)
   ·have:zkx m=[]:=by unfold zkx;rw [dif_neg hn]
    rw [zaq,zaq,this];cases zbe m <;> rfl
theorem zoo {m:Ma} (hM:isM m=true) (h:zbe m=none):gT m=[m]:=by
 unfold gT;rw [zbS _ (emp m+1) m hM (zpd _) (by omega),zbb h]
theorem zmU {m:Ma} (hM:isM m=true) {q:Int × Int} {es:List En} (h:zbe m=some q) (he:zcV m es):gT m=m::(es.map (zb6 m q.1.toNat q.2.toNat)).flatMap gT:=by
 unfold gT;rw [zbS _ (emp m+1) m hM (zpd _) (by omega),zbf h he,List.flatMap_map]
 congr 1
 refine zeR fun x hx=>?_
 have c:=zbs (OkM.of hM) h he hx;exact zbS _ _ _ c.1 (by omega) (by omega)
theorem zmT (m:Ma):1<=(gT m).length:=by
 unfold gT;cases emp m with
 | zero=>exact zpd _
 | succ k=>rw [zaq,zpA];omega
theorem zi6 {α β:Type} {f:α->List β} (h:∀ x,1<=(f x).length):∀ l:List α,l.length<=(l.flatMap f).length
 | []=>Nat.zero_le _
 | x::l=>by
  have a:=h x;have b:=zi6 h l;rw [List.flatMap_cons,zo7,zpA];omega
def zkY (H:Hp) (m:Ma) (v:V):Prop:=(zc8 m=none/\v=.non)\/∃ (x:Ma × Int × Int) (q d:Addr) (a b:Int) (o:Obj) (ks:Mk2),zc8 m=some x/\v=.ref q/\H q=some (.tup [.int x.2.1,.int a,.int b,.ref d])/\H d=some (.frz o (.dK (dcI (iv ks))))/\ks.length<=300/\(ks.map (·.1)).Nodup/\((ks.filter fun q=>decide (q.2≠0)).length:Int)=x.2.2
theorem zkY.stay {H H':Hp} {m:Ma} {v:V} (h:zkY H m v) (S:Sub H H'):zkY H' m v:=by
 rcases h with h | ⟨x,q,d,a,b,o,ks,h1,h2,h3,h4,h5⟩
 ·exact .inl h
 ·exact .inr ⟨x,q,d,a,b,o,ks,h1,h2,S _ _ h3,S _ _ h4,h5⟩
theorem zkY.other {H:Hp} {m:Ma} {v:V} {l:Addr} {vs us:List V} (h:zkY H m v) (hl:H l=some (.lst vs)):zkY (upd H l (.lst us)) m v:=by
 rcases h with h | ⟨x,q,d,a,b,o,ks,h1,h2,h3,h4,h5⟩
 ·exact .inl h
 ·exact .inr ⟨x,q,d,a,b,o,ks,h1,h2,by rw [zal (by rintro rfl;rw [hl] at h3;cases h3)];exact h3,by rw [zal (by rintro rfl;rw [hl] at h4;cases h4)];exact h4,h5⟩
abbrev FZ:=Addr × V × MZ
structure FnR (H:Hp) (zs:List FZ):Prop where
 tu:∀ z∈zs,H z.1=some (.tup [.ref z.2.2.1.1,z.2.1])
 me:∀ z∈zs,zkY H z.2.2.2 z.2.1
 ma:MzR H (zs.map (·.2.2))
theorem FnR.stay {H H':Hp} {zs:List FZ} (h:FnR H zs) (S:Sub H H'):FnR H' zs:=⟨fun z hz=>S _ _ (h.tu z hz),fun z hz=>(h.me z hz).stay S,h.ma.stay S⟩
theorem FnR.other {H:Hp} {zs:List FZ} {l:Addr} {vs us:List V} (h:FnR H zs) (hl:H l=some (.lst vs)) (n:l ∉ flZ (zs.map (·.2.2))):FnR (upd H l (.lst us)) zs :=
 ⟨fun z hz=>by rw [zal (fun e=>by have:=h.tu z hz;rw [e,hl] at this;cases this)];exact h.tu z hz,fun z hz=>(h.me z hz).other hl,h.ma.other hl n⟩
def zey:Sp:=fun vs H Q _=>match vs with
 | [.int r,.int s]=>zgG r s/\∀ (l:Addr) (zs:List FZ) (H':Hp),Sub H H'->H l=none->H' l=some (.lst ((zs.map (·.1)).map V.ref))->FnR H' zs->zs.map (·.2.2.2)=zaq 4 (zbi r s)->Q (.ref l) H'
 | _=>False
theorem zin (T:Tx K mg a):za3 P w K mg base CX0 3 a.l_nodes a.l_nodes_d ["_law_rows","_law_signs"] (zey):=by
 have G_l_met:=zkz (P:=P) (w:=w) (base:=base) T;have G_l_children:=zfF (P:=P) (w:=w) (base:=base) T;refine T.q_l_nodes.f.ok zfc (fun vs H Q E h=>?_) (fun cdv A outer s H vs Q E hr h=>?_)
 ·unfold zey at h;split at h
  ·rfl
  ·exact h.elim
 ·unfold zey at h;split at h
  ·have nd:=zfc.nd;have hu:=zaD hr;rename_i r s;obtain⟨hs,h⟩:=h;obtain⟨a1,a2,a3,a4,a5⟩:=hs.bd;refine⟨_,(@zac _ _ _ _ _ (@zar _ _ 2 _ _ _ _ nd rfl (by walk_at "o") (@zaR _ _ _ _ (@zaa _ _ _ _ _ (@zbx _ _ ["_law_row"] [1] _ _ _ _ _ _ _ _ _ rfl (by walk_at "comp_ok") (@zbd _ _ _ _ _ _ rfl T.z_range (@zaa _ _ _ _ _ (qv 0) zab (by rfl)) (by rfl)) (fun _ _ _ _=>(@zag _ _ 0 _ (show List.Nodup (α:=Str) ["_law_row","_law_signs"] from by decide +kernel) rfl (by walk_at "o") (by first | exact .inl rfl | exact .inr rfl | assumption))) (fun _ _ _ _=>zaQ) (fun _ _ _ _=>(@zaP _ _ _ _ _ _ _ _ znw (@zaR _ _ _ _ (@zaa _ _ _ _ _ (@zaG _ _ _ _ _ zab) zab (by rfl))) (qv 1))) (by intro _ ;rfl)) zab (by rfl))) (by rfl) (by first | exact .inl rfl | exact .inr rfl | assumption)) (@zac _ _ _ _ _ (@zar _ _ 3 _ _ _ _ nd rfl (by walk_at "o") (@zaR _ _ _ _ zab) (by rfl) (by first | exact .inl rfl | exact .inr rfl | assumption)) (@zac _ _ _ _ _ (@zfK _ _ _ _ _ _ PassesOwn.never (@zb1 _ _ _ _ _ _ _ _ zoB (@zah _ _ _ _ _ _ _ _ _ (@za6 _ K rfl) rfl T.z_len za4 (@zaa _ _ _ _ _ (qv 2) zab (by rfl)) (by decide) (by decide) (by rfl) (by rfl)) zai (by first | exact zaF _ | rfl)) (@zac _ _ _ _ _ (@zar _ _ 4 _ _ _ _ nd rfl (by walk_at "o") (@zle _ _ _ _ _ _ _ _ _ PySem.F.plainAttrs_list PySem.F.slot_list_pop PySem.F.type_list_pop znv (qv 2) (by rfl) (by rfl)) (by rfl) (by first | exact .inl rfl | exact .inr rfl | assumption)) (@zac _ _ _ _ _ (@zar _ _ 5 _ _ _ _ nd rfl (by walk_at "o") (@zan _ _ _ _ _ _ _ _ _ _ _ _ _ _ _ _ G_l_met (hr.mono (by decide)) rfl T.q_l_met.g T.q_l_met.f.kp T.q_l_met.b .nil zaw (@zaa _ _ _ _ _ (qv 4) (@zaa _ _ _ _ _ zai zab (by rfl)) (by rfl)) (by decide) (by rfl) (by rfl)) (by rfl) (by first | exact .inl rfl | exact .inr rfl | assumption)) (@zac _ _ _ _ _ (@zbB _ _ _ _ (@zg3 _ _ _ _ _ _ _ _ _ _ _ _ PySem.F.plainAttrs_list PySem.F.slot_list_append PySem.F.type_list_append zg6 (qv 3) (@zaa _ _ _ _ _ (@zaG _ _ _ _ _ (@zaa _ _ _ _ _ (qv 4) (@zaa _ _ _ _ _ (qv 5) zab (by rfl)) (by rfl))) zab (by rfl)) (by rfl) (by rfl) (by rfl) (by rfl) (by rfl)) (by rfl)) (@zae _ _ _ (@zbV _ _ _ _ _ _ _ _ (@zb1 _ _ _ _ _ _ _ _ zcZ (qv 5) zbk (by first | exact zaF _ | rfl)) (@zae _ _ _ (@zar _ _ 2 _ _ _ _ nd rfl (by walk_at "o") (@zaP _ _ _ _ _ _ _ _ zma (qv 2) (@zkF _ K _ _ _ _ _ _ rfl (@zan _ _ _ _ _ _ _ _ _ _ _ _ _ _ _ _ G_l_children (hr.mono (by decide)) rfl T.q_l_children.g T.q_l_children.f.kp T.q_l_children.b .nil zaw (@zaa _ _ _ _ _ (qv 4) (@zaa _ _ _ _ _ (@za1 _ _ _ _ _ _ _ (@zbI _ K rfl) (qv 5) zai (fun _ _=>rfl)) (@zaa _ _ _ _ _ (@za1 _ _ _ _ _ _ _ (@zbI _ K rfl) (qv 5) zai (fun _ _=>rfl)) zab (by rfl)) (by rfl)) (by rfl)) (by decide) (by rfl) (by rfl)) (@zg7 _ _ _ (@ziq _ _ _ _ _ _ zis zai)))) (by rfl) (by first | exact .inl rfl | exact .inr rfl | assumption))) zas)))))) (@zae _ _ _ (@zap _ _ _ _ (qv 3)))))),?_⟩;refine⟨⟨by omega,by omega⟩,?_⟩;intro pt npt;refine zbQ (lo:=0) (n:=r.toNat) (fun i σ H1=>∃ (v:Option V) (rs:List Addr),σ=[v,some (.int s)]/\Sub H H1/\MaR H1 pt rs (List.replicate i (List.replicate s.toNat []))/\(∀ x∈rs,H x=none)/\(pt::rs).Nodup) ?_ ?_ ?_
   ·exact⟨none,[],rfl,Sub.new npt,⟨zad,by simp,.nil⟩,by simp,by simp⟩
   ·rintro i σ H1 hi ⟨v,rs,rfl,S1,M1,N1,D1⟩;refine⟨by show 0<=sizeLine;decide,?_⟩;intro p2 n2;generalize U':upd _ p2 _=H2;obtain ⟨S2,e2⟩:=zak n2 U';clear U';refine⟨by show 1<=sizeLine;decide,?_⟩;intro p3 n3;generalize U':upd _ p3 _=H3;obtain ⟨S3,e3⟩:=zak n3 U';clear U';refine⟨_,e3,by omega,by omega,?_,?_⟩
    ·exact zpc (show 1*s.toNat<=4 by omega) (by decide)
    intro p4 n4;generalize U':upd _ p4 _=H4;obtain ⟨S4,e4⟩:=zak n4 U';clear U';have S24:=S2.trans (S3.trans S4);have M4:=M1.stay (.sub S24);have ef:(List.replicate s.toNat [V.ref p2]).flatten=(List.replicate s.toNat p2).map V.ref:=by
     generalize s.toNat=j
     induction j with
     | zero=>rfl
     | succ j ih=>rw [List.replicate_succ,List.replicate_succ,List.flatten_cons,ih];rfl
    rw [ef] at e4;have R4:Row H4 p4 (List.replicate s.toNat []):=⟨_,e4,by rw [List.length_replicate,List.length_replicate],fun j a e ha he=>by
     rw [List.getElem?_replicate] at ha he;split at ha
     ·cases ha;rename_i c;rw [zpC c] at he;cases he;exact S4 _ _ (S3 _ _ e2)
     ·cases ha⟩
    have n4':H p4=none:=S1.free ((S2.trans S3).free n4);have o4:p4 ∉ rs:=M1.out ((S2.trans S3).free n4);have q4:p4≠pt:=M1.outp ((S2.trans S3).free n4);refine⟨_,M4.1,?_,_,rs++[p4],rfl,(S1.trans S24).upd npt,?_,?_,?_⟩
    ·rw [zoX,M4.2.2.1,List.length_replicate];exact zpb (show i<=4 by omega) (by decide)
    ·rw [List.replicate_succ'];exact M4.app' R4 o4 q4
    ·intro x hx;rcases zo8.1 hx with hx | hx
     ·exact N1 x hx
     ·rw [zo6.1 hx];exact n4'
    ·rw [← List.cons_append];exact List.nodup_append.2 ⟨D1,by simp,fun a ha b hb e=>by
      rw [zo6.1 hb] at e;subst e;rcases zpG.1 ha with z | z
      ·exact q4 z
      ·exact o4 z⟩
   ·rintro σ H1 ⟨v,rs,rfl,S1,M1,N1,D1⟩;have M1:MaR H1 pt rs (zbi r s):=M1;refine⟨by show 1<=sizeLine;decide,?_⟩;intro p2 n2;generalize U':upd _ p2 _=H2;obtain ⟨S2,e2⟩:=zak n2 U';clear U';refine⟨Nat.zero_le _,?_⟩;intro p3 n3;generalize U':upd _ p3 _=H3;obtain ⟨S3,e3⟩:=zak n3 U';clear U';have M3:=(M1.stay (.sub S2)).stay (.sub S3);have hT:=zaH 4 _ (zbw hs);refine⟨fun k σ H5=>∃ (w:Addr) (v4 v5:Option V) (zs:List MZ) (fs:List FZ),k=(zaq 4 (zbi r s)).length-fs.length/\σ=[some (.int r),some (.int s),some (.ref w),some (.ref p3),v4,v5]/\Sub H H5/\H w=none/\H5 w=some (.lst ((zs.map (·.1.1)).map V.ref))/\H5 p3=some (.lst ((fs.map (·.1)).map V.ref))/\MzR H5 zs/\FnR H5 fs/\w ∉ flZ zs/\p3 ∉ flZ zs/\w ∉ flZ (fs.map (·.2.2))/\p3 ∉ flZ (fs.map (·.2.2))/\w≠p3/\(∀ z∈zs,isM z.2=true)/\fs.map (·.2.2.2)++(zs.reverse.map (·.2)).flatMap gT=zaq 4 (zbi r s),⟨_,p2,none,none,[((pt,rs),zbi r s)],[],rfl,rfl,(S1.trans S2).trans S3,S1.free n2,S3 _ _ e2,e3,?_,?_,?_,?_,?_,?_,?_,?_,?_⟩,?_⟩
    ·intro z hz;rw [zo6.1 hz];exact M3
    ·exact⟨(fun _ h=>by cases h),(fun _ h=>by cases h),(fun _ h=>by cases h)⟩
    ·exact MzR.out (H:=H1) (fun z hz=>by rw [zo6.1 hz];exact M1) n2
    ·exact MzR.out (H:=H2) (fun z hz=>by rw [zo6.1 hz];exact M1.stay (.sub S2)) n3
    ·exact fun h=>by cases h
    ·exact fun h=>by cases h
    ·rintro rfl;rw [e2] at n3;cases n3
    ·intro z hz;rw [zo6.1 hz];exact zbw hs
    ·show []++(gT (zbi r s)++[])=_;rw [List.nil_append,zo9];exact zbS _ _ _ (zbw hs) (zpd _) (zda hs)
    rintro k σ H5 ⟨w,v4,v5,zs,fs,rfl,rfl,S5,nw,gw,gf,Mz,Fn,o1,o2,o3,o4,nwf,hok,heq⟩;refine⟨_,.inl (SqL.of gw),?_⟩;rcases List.eq_nil_or_concat zs with rfl | ⟨zs,z0,rfl⟩
    ·walk_at "w";refine h p3 fs H5 S5 ((S1.trans S2).free n3) gf Fn ?_;rw [← heq];exact (zo9 _).symm
    rw [List.concat_eq_append] at *;refine zfv (b:=decide ((0:Int)<((((zs++[z0]).map (·.1.1)).map V.ref).length:Int))) (zo3 (by rw [zoX,zoX,zo7];show (0:Int)<((zs.length+1:Nat):Int);omega)) ?_
    have hlf:fs.length+zs.length+1<=(zaq 4 (zbi r s)).length:=by
     have a:=congrArg List.length heq;rw [zo7,zoX] at a;have b:=zi6 (f:=gT) (fun m=>zmT m) ((zs++[z0]).reverse.map (·.2))
     rw [zoX,List.length_reverse,zo7] at b;have b:zs.length+1<=_:=b;omega
    have M0:=Mz z0 (by simp);have hM0:=hok z0 (by simp);have heq':fs.map (·.2.2.2)++(gT z0.2++(zs.reverse.map (·.2)).flatMap gT)=zaq 4 (zbi r s):=by
     rw [← heq,List.reverse_append];rfl
    refine⟨_,fun _ _ h=>h,?_⟩;refine⟨.inl ⟨rfl,_,SqL.of gw⟩,?_⟩;refine⟨_,V.ref z0.1.1,gw,by rw [zo5,zo5,List.getLast?_append];rfl,?_⟩;have Mz6:=Mz.other (us:=(((zs++[z0]).map (·.1.1)).map V.ref).dropLast) gw o1
    have Fn6:=Fn.other (us:=(((zs++[z0]).map (·.1.1)).map V.ref).dropLast) gw o3
    have gw6:upd H5 w (.lst (((zs++[z0]).map (·.1.1)).map V.ref).dropLast) w=some (.lst ((zs.map (·.1.1)).map V.ref)):=by
     rw [zad,zo5,zo5,List.map_singleton,List.map_singleton,List.dropLast_concat]
    have gf6:upd H5 w (.lst (((zs++[z0]).map (·.1.1)).map V.ref).dropLast) p3=some (.lst ((fs.map (·.1)).map V.ref)):=by rw [zal (Ne.symm nwf)];exact gf
    have S6:Sub H (upd H5 w (.lst (((zs++[z0]).map (·.1.1)).map V.ref).dropLast)):=S5.upd nw
    generalize upd H5 w (.lst (((zs++[z0]).map (·.1.1)).map V.ref).dropLast)=H6 at Mz6 Fn6 gw6 gf6 S6 ⊢
    have nf3:H p3=none:=(S1.trans S2).free n3;have sb:∀ x,x ∉ flZ (zs++[z0])->x ∉ flZ zs/\x ∉ flZ [z0]:=fun x hx=>by
     rw [flZ,List.flatMap_append] at hx;exact⟨fun z=>hx (zpu _ z),fun z=>hx (zpv _ z)⟩
    have M06:=Mz6 z0 (by simp);have Mz6':MzR H6 zs:=fun z hz=>Mz6 z (zpu _ hz)
    have fadd:∀ (p7:Addr) (v:V) (H7 H8:Hp),Sub H6 H7->zkY H7 z0.2 v->Sub H7 H8->H8 p7=some (.tup [.ref z0.1.1,v])->FnR (upd H8 p3 (.lst ((fs.map (·.1)).map V.ref++[V.ref p7]))) (fs++[(p7,v,z0)]):=fun p7 v H7 H8 S7 R7 S8 e8=>by
     have k8:=S8 _ _ (S7 _ _ gf6);have F8:=((Fn6.stay S7).stay S8).other (us:=(fs.map (·.1)).map V.ref++[V.ref p7]) k8 o4
     refine⟨fun z hz=>?_,fun z hz=>?_,?_⟩
     ·rcases zo8.1 hz with hz | hz
      ·exact F8.tu z hz
      ·rw [zo6.1 hz,zal (by rintro rfl;rw [k8] at e8;cases e8)];exact e8
     ·rcases zo8.1 hz with hz | hz
      ·exact F8.me z hz
      ·rw [zo6.1 hz];exact (R7.stay S8).other k8
     ·rw [zo5];intro z hz;rcases zo8.1 hz with hz | hz
      ·exact F8.ma z hz
      ·have M8:MzR H8 [z0]:=fun z hz=>by rw [zo6.1 hz];exact (M06.stay (.sub S7)).stay (.sub S8)
       exact (M8.other k8 (sb _ o2).2) z hz
    refine⟨z0.2,⟨z0.1.2,M06⟩,hM0,rfl,fun hE hO H7 S7=>?_,fun x y q d o ks H7 hE hO S7 hq nd hd hks hnk hct=>?_⟩
    ·walk_at "w";refine⟨.inl ⟨rfl,_,SqL.of (S7 _ _ gf6)⟩,?_⟩;refine⟨by show 2<=sizeLine;decide,?_⟩;intro p8 n8;generalize U':upd _ p8 _=H8;obtain ⟨S8,e8⟩:=zak n8 U';clear U';refine⟨_,S8 _ _ (S7 _ _ gf6),?_,?_⟩
     ·rw [zoX,zoX];exact zpb (show fs.length<=grB 4 by omega) (by decide)
     have F9:=fadd p8 .non H7 H8 S7 (.inl ⟨hE,rfl⟩) S8 e8;have S68:=S7.trans S8;have k8:=S68 _ _ gf6;refine⟨rfl,?_⟩;refine ifB.no (by rw [zo3 rfl];rfl) ?_;refine⟨_,?_,w,_,_,zs,fs++[(p8,.non,z0)],rfl,rfl,(S6.trans S68).upd nf3,nw,?_,?_,(Mz6'.stay S68).other k8 (sb _ o2).1,F9,(sb _ o1).1,(sb _ o2).1,?_,?_,nwf,fun z hz=>hok z (zpu _ hz),?_⟩
     ·rw [zo7];show _-(fs.length+1)<_;omega
     ·rw [zal nwf];exact S68 _ _ gw6
     ·rw [zad,zo5,zo5];rfl
     ·rw [zo5,flZ,List.flatMap_append];exact fun z=>(zo8.1 z).elim o3 (sb _ o1).2
     ·rw [zo5,flZ,List.flatMap_append];exact fun z=>(zo8.1 z).elim o4 (sb _ o2).2
     ·rw [← heq',zoo hM0 hO,zo5,zpi]
      rfl
    ·walk_at "w";refine⟨.inl ⟨rfl,_,SqL.of (S7 _ _ gf6)⟩,?_⟩;refine⟨by show 2<=sizeLine;decide,?_⟩;intro p8 n8;generalize U':upd _ p8 _=H8;obtain ⟨S8,e8⟩:=zak n8 U';clear U';refine⟨_,S8 _ _ (S7 _ _ gf6),?_,?_⟩
     ·rw [zoX,zoX];exact zpb (show fs.length<=grB 4 by omega) (by decide)
     have F9:=fadd p8 (.ref q) H7 H8 S7 (.inr ⟨x,q,d,_,_,o,ks,hE,rfl,hq,hd,hks,hnk,hct⟩) S8 e8;have S68:=S7.trans S8;have k8:=S68 _ _ gf6;have Mz9:=(Mz6'.stay S68).other (us:=(fs.map (·.1)).map V.ref++[V.ref p8]) k8 (sb _ o2).1
     have M09:MaR (upd H8 p3 (.lst ((fs.map (·.1)).map V.ref++[V.ref p8]))) z0.1.1 z0.1.2 z0.2:=by
      have M8:MzR H8 [z0]:=fun z hz=>by rw [zo6.1 hz];exact M06.stay (.sub S68)
      exact (M8.other k8 (sb _ o2).2) z0 (by simp)
     have S9:Sub H (upd H8 p3 (.lst ((fs.map (·.1)).map V.ref++[V.ref p8]))):=(S6.trans S68).upd nf3
     have gw9:upd H8 p3 (.lst ((fs.map (·.1)).map V.ref++[V.ref p8])) w=some (.lst ((zs.map (·.1.1)).map V.ref)):=by rw [zal nwf];exact S68 _ _ gw6
     have gf9:upd H8 p3 (.lst ((fs.map (·.1)).map V.ref++[V.ref p8])) p3=some (.lst (((fs++[(p8,V.ref q,z0)]).map (·.1)).map V.ref)):=by rw [zad,zo5,zo5];rfl
     have hq9:upd H8 p3 (.lst ((fs.map (·.1)).map V.ref++[V.ref p8])) q=some (.tup [.int x.2.1,.int y.1,.int y.2,.ref d]):=by rw [zal (by rintro rfl;rw [S7 _ _ gf6] at hq;cases hq)];exact S8 _ _ hq
     generalize upd H8 p3 (.lst ((fs.map (·.1)).map V.ref++[V.ref p8]))=H9 at F9 Mz9 M09 S9 gw9 gf9 hq9 ⊢
     obtain⟨i,j,er,rfl,hi1,hj1,hi,hj⟩:=zd6 (OkM.of hM0) hO;refine⟨rfl,?_⟩;refine ifB.yes (by rw [zo4 (fun z=>by cases z)];rfl) ?_;refine⟨_,_,SqT.of hq9,zaE (j:=1) rfl,?_⟩;refine⟨_,_,SqT.of hq9,zaE (j:=2) rfl,?_⟩;refine⟨z0.2,i,j,⟨z0.1.2,M09⟩,hM0,rfl,rfl,hi,hj,fun l10 cs es H10 S10 n10 hes e10 M10 q10 F10 O10=>?_⟩;refine⟨rfl,_,SqL.of e10,?_⟩;intro p11 n11;generalize U':upd _ p11 _=H11;obtain ⟨S11,e11⟩:=zak n11 U';clear U';have S911:=S10.trans S11;refine⟨_,_,S911 _ _ gw9,e11,?_,?_⟩
     ·have hl:cs.length=es.length:=by rw [← zoX (f:=fun z:MZ=>z.2),q10,zoX]
      have:=(zeg (OkM.of hM0) hes).2
      rw [List.length_reverse,zoX,zoX,zoX,zoX];exact zpc (show _<=grB 4+32 by omega) (by decide)
     intro p12 n12;generalize U':upd _ p12 _=H12;obtain ⟨S12,e12⟩:=zak n12 U';clear U';have S912:=S911.trans S12;have hck:∀ c∈cs,isM c.2=true:=fun c hc=>by
      have:c.2∈es.map (zb6 z0.2 i j):=by rw [← q10];exact zpf.2 ⟨c,hc,rfl⟩
      obtain⟨e,he,ee⟩:=zpf.1 this;rw [← ee];exact (zbs (OkM.of hM0) hO hes he).1
     have fe:flZ (zs++cs.reverse)=flZ zs++flZ cs.reverse:=List.flatMap_append;have fr:∀ x,x∈flZ cs.reverse->x∈flZ cs:=fun x hx=>by
      obtain⟨z,hz,hq⟩:=List.mem_flatMap.1 hx;exact List.mem_flatMap.2 ⟨z,List.mem_reverse.1 hz,hq⟩
     have Mz12:MzR H11 (zs++cs.reverse):=fun z hz=>by
      rcases zo8.1 hz with hz | hz
      ·exact (Mz9 z hz).stay (.sub S911)
      ·exact (M10 z (List.mem_reverse.1 hz)).stay (.sub S11)
     have F11:=F9.stay S911;refine⟨_,?_,p12,_,_,zs++cs.reverse,fs++[(p8,.ref q,z0)],rfl,rfl,S9.trans S912,S9.free (S911.free n12),?_,S912 _ _ gf9,Mz12.stay S12,F11.stay S12,Mz12.out n12,?_,F11.ma.out n12,?_,?_,fun z hz=>?_,?_⟩
     ·rw [zo7];show _-(fs.length+1)<_;omega
     ·rw [e12,zo5,zo5,List.map_reverse,List.map_reverse]
     ·rw [fe];intro z;rcases zo8.1 z with z | z
      ·exact (sb _ o2).1 z
      ·have:=F10 _ (fr _ z);rw [gf9] at this;cases this
     ·rw [zo5,flZ,List.flatMap_append];exact fun z=>(zo8.1 z).elim o4 (sb _ o2).2
     ·rintro rfl;rw [S911 _ _ gf9] at n12;cases n12
     ·rcases zo8.1 hz with hz | hz
      ·exact hok z (zpu _ hz)
      ·exact hck z (List.mem_reverse.1 hz)
     ·rw [← heq',zmU hM0 hO hes,List.reverse_append,List.reverse_reverse,zo5,zo5,List.flatMap_append,q10,zpi]
      rfl
  ·exact h.elim
theorem zfa:zao ["_law_strip"] ["_law_strip"] (zaj zen):=by walk_at "s"
def zew:Sp:=fun vs H Q _=>match vs with
 | [.ref d]=>∃ (o:Obj) (ks:Mk2),H d=some (.frz o (.dK (dcI (iv ks))))/\ks.length<=300/\(ks.map (·.1)).Nodup/\∀ H',Sub H H'->Q (.int ((ks.filter fun q=>decide (q.2≠0)).length:Int)) H'
 | _=>False
theorem zil (T:Tx K mg a):za3 P w K mg base CX0 1 a.l_marks a.l_marks_d ["_law_strip"] (zew):=by
 refine T.q_l_marks.f.ok zfa (fun vs H Q E h=>?_) (fun cdv A outer s H vs Q E hr h=>?_)
 ·unfold zew at h;split at h
  ·rfl
  ·exact h.elim
 ·unfold zew at h;split at h
  ·have nd:=zfa.nd;have hu:=zaD hr;rename_i d;obtain⟨o,ks,hd,hl,hnd,h⟩:=h;refine⟨_,(@zae _ _ _ (@zap _ _ _ _ (@zah _ _ _ _ _ _ _ _ _ (@za6 _ K rfl) rfl T.z_len za4 (@zaa _ _ _ _ _ (@zbx _ _ ["_law_place"] [0] _ _ _ _ _ _ _ _ _ rfl (by walk_at "comp_ok") (@zme _ _ _ _ (qv 0)) (fun _ _ _ _=>(@zag _ _ 0 _ (show List.Nodup (α:=Str) ["_law_place","_law_strip"] from by decide +kernel) rfl (by walk_at "o") (by first | exact .inl rfl | exact .inr rfl | assumption))) (fun _ _ _ _=>(@zbC _ _ _ (@zb1 _ _ _ _ _ _ _ _ q_ne (@zlZ _ _ _ _ _ _ hu (qv 1) (qv 0) (fun _ _=>rfl)) zai (by first | exact zaF _ | rfl)))) (fun _ _ _ _=>(qv 0)) (by intro _ ;rfl)) zab (by rfl)) (by decide) (by decide) (by rfl) (by rfl)))),?_⟩;refine⟨o,_,hd,?_⟩;intro pc npc;refine ziN (d:=d) (o:=o) (kvs:=iv ks) (fun i σ H1=>∃ (v:Option V) (bs:List V),σ=[v,some (.ref d)]/\Sub H H1/\H1 pc=some (.lst bs)/\bs.length=((ks.take i).filter fun q=>decide (q.2≠0)).length) ?_ ?_ ?_ ?_
   ·exact⟨none,[],rfl,Sub.new npc,zad,rfl⟩
   ·rintro i σ H1 _ ⟨v,bs,rfl,S1,_⟩;exact S1 _ _ hd
   ·rintro i q σ H1 hq ⟨v,bs,rfl,S1,g1,l1⟩;rw [zoY] at hq;obtain⟨y,hy,rfl⟩:=zo0.1 hq;have hv:zbh ks y.1=some y.2:=(zhn hnd).2 (zo2 hy);refine⟨d,V.int y.2,rfl,.inl ⟨_,.inl y.1,.inr ⟨o,S1 _ _ hd⟩,rfl,by rw [zgF,hv];rfl⟩,?_⟩;by_cases c:y.2=0
    ·refine zjh (b:=!decide (y.2=0)) (by rw [zo3 c];rfl) ?_;refine⟨_,bs,rfl,S1,g1,?_⟩;rw [l1,zpk,hy,zpx,show (some y).toList.filter (fun q=>decide (q.2≠0))=[] from by simp [c],zo9]
    ·refine zfv (b:=!decide (y.2=0)) (by rw [zo4 c];rfl) ?_;refine⟨_,g1,?_,_,bs++[V.int y.1],rfl,S1.upd npc,zad,?_⟩
     ·rw [l1];exact zpb (zpc (List.length_filter_le _ _) (zpc (List.length_take_le' _ _) hl)) (by decide)
     ·rw [zpk,hy,zpx,show (some y).toList.filter (fun q=>decide (q.2≠0))=[y] from by simp [c],zo7,zo7,l1]
      rfl
   rintro σ H1 ⟨v,bs,rfl,S1,g1,l1⟩;rw [zoX,zpj] at l1;refine⟨_,.inl (SqL.of g1),?_⟩;walk_at "w";rw [l1];exact h H1 S1
  ·exact h.elim
theorem zgw:zao ["_law_nodes_here","_law_marks_here","_law_best_here","_law_found","_law_machine","_law_met_here","_law_number"] ["_law_nodes_here","_law_marks_here"] (zaj zfN):=by walk_at "s"
def zdx (k:Nat):List (Ma × Int × Int)->Int × List Ma->Int × List Ma
 | [],b=>b
 | x::l,b=>zdx k l (if b.1<scE k x then (scE k x,[x.1]) else if scE k x=b.1 then (b.1,b.2++[x.1]) else b)
theorem zhp (k:Nat):∀ (l l':List (Ma × Int × Int)) (b:Int × List Ma),zdx k (l++l') b=zdx k l' (zdx k l b)
 | [],_,_=>rfl
 | x::l,l',b=>by rw [List.cons_append,zdx,zdx,zhp]
theorem zgT {m:Ma} {x:Ma × Int × Int} (h:zc8 m=some x):x.1=m:=by
 unfold zc8 at h;split at h
 ·cases h;rfl
 ·cases h
def zfU:Sp:=fun vs H Q _=>match vs with
 | [.ref l,.bl b]=>∃ zs:List FZ,H l=some (.lst ((zs.map (·.1)).map V.ref))/\FnR H zs/\zs.length<=2000000/\∀ (q g:Addr) (mx:Int) (ys:List MZ) (H':Hp),Sub H H'->H' q=some (.tup [.int mx,.ref g])->H' g=some (.lst ((ys.map (·.1.1)).map V.ref))->MzR H' ys->(mx,ys.map (·.2))=zdx (if b then 1 else 0) ((zs.map (·.2.2.2)).filterMap zc8) (-1,[])->Q (.ref q) H'
 | _=>False
theorem zjy (T:Tx K mg a):za3 P w K mg base CX0 2 a.l_best a.l_best_d ["_law_nodes_here","_law_marks_here"] (zfU):=by
 have G_l_marks:=zil (P:=P) (w:=w) (base:=base) T;refine T.q_l_best.f.ok zgw (fun vs H Q E h=>?_) (fun cdv A outer s H vs Q E hr h=>?_)
 ·unfold zfU at h;split at h
  ·rfl
  ·exact h.elim
 ·unfold zfU at h;split at h
  ·have nd:=zgw.nd;have hu:=zaD hr;rename_i l b;obtain⟨zs,hl,hz,hlen,h⟩:=h;refine⟨_,(@zac _ _ _ _ _ (@zar _ _ 2 _ _ _ _ nd rfl (by walk_at "o") (@ziq _ _ _ _ _ _ zis zai) (by rfl) (by first | exact .inl rfl | exact .inr rfl | assumption)) (@zac _ _ _ _ _ (@zar _ _ 3 _ _ _ _ nd rfl (by walk_at "o") (@zaR _ _ _ _ zab) (by rfl) (by first | exact .inl rfl | exact .inr rfl | assumption)) (@zac _ _ _ _ _ (@zbp _ _ _ _ _ _ _ _ PassesOwn.never rfl (@zax _ K _ _ _ rfl (qv 0)) (@zaM _ K _ _ _ _ 2 rfl rfl (@zam _ _ _ _ _ (@zag _ _ 4 _ nd rfl (by walk_at "o") (by first | exact .inl rfl | exact .inr rfl | assumption)) (@zam _ _ _ _ _ (@zag _ _ 5 _ nd rfl (by walk_at "o") (by first | exact .inl rfl | exact .inr rfl | assumption)) zaN (by rfl)) (by rfl)) (by rfl) (by rfl)) (@zae _ _ _ (@zbV _ _ _ _ _ _ _ _ (@zb1 _ _ _ _ _ _ _ _ zcZ (qv 5) zbk (by first | exact zaF _ | rfl)) (@zac _ _ _ _ _ (@zar _ _ 6 _ _ _ _ nd rfl (by walk_at "o") (@za1 _ _ _ _ _ _ _ (@za2 _ K rfl) (@zaR _ _ _ _ (@zaa _ _ _ _ _ (@za1 _ _ _ _ _ _ _ (@zbI _ K rfl) (qv 5) zai (fun _ _=>rfl)) (@zaa _ _ _ _ _ (@zan _ _ _ _ _ _ _ _ _ _ _ _ _ _ _ _ G_l_marks (hr.mono (by decide)) rfl T.q_l_marks.g T.q_l_marks.f.kp T.q_l_marks.b .nil zaw (@zaa _ _ _ _ _ (@za1 _ _ _ _ _ _ _ (@zbI _ K rfl) (qv 5) zai (fun _ _=>rfl)) zab (by rfl)) (by decide) (by rfl) (by rfl)) zab (by rfl)) (by rfl))) (@zdi _ _ _ _ _ _ _ _ _ zli rfl T.z_int zc9 (@zaa _ _ _ _ _ (qv 1) zab (by rfl)) (by decide) (by decide) (by rfl) (by rfl)) (fun _ _=>rfl)) (by rfl) (by first | exact .inl rfl | exact .inr rfl | assumption)) (@zac _ _ _ _ _ (@zbV _ _ _ _ _ _ _ _ (@zb1 _ _ _ _ _ _ _ _ zoB (qv 6) (qv 2) (by first | exact zaF _ | rfl)) (@zac _ _ _ _ _ (@zar _ _ 2 _ _ _ _ nd rfl (by walk_at "o") (qv 6) (by rfl) (by first | exact .inl rfl | exact .inr rfl | assumption)) (@zae _ _ _ (@zar _ _ 3 _ _ _ _ nd rfl (by walk_at "o") (@zaR _ _ _ _ zab) (by rfl) (by first | exact .inl rfl | exact .inr rfl | assumption)))) zas) (@zae _ _ _ (@zbV _ _ _ _ _ _ _ _ (@zb1 _ _ _ _ _ _ _ _ zhO (qv 6) (qv 2) (by first | exact zaF _ | rfl)) (@zae _ _ _ (@zbB _ _ _ _ (@zg3 _ _ _ _ _ _ _ _ _ _ _ _ PySem.F.plainAttrs_list PySem.F.slot_list_append PySem.F.type_list_append zg6 (qv 3) (@zaa _ _ _ _ _ (qv 4) zab (by rfl)) (by rfl) (by rfl) (by rfl) (by rfl) (by rfl)) (by rfl))) zas)))) zas)) (by intro _ ;rfl)) (@zae _ _ _ (@zap _ _ _ _ (@zaG _ _ _ _ _ (@zaa _ _ _ _ _ (qv 2) (@zaa _ _ _ _ _ (qv 3) zab (by rfl)) (by rfl)))))))),?_⟩;refine⟨Nat.zero_le _,?_⟩;intro p1 n1;generalize U':upd _ p1 _=H1;obtain ⟨S1,e1⟩:=zak n1 U';clear U';refine⟨⟨_,SqL.of (S1 _ _ hl)⟩,?_⟩;refine zbv (K:=K) (a:=l) (xs:=(zs.map (·.1)).map V.ref) (fun i σ H2=>∃ (v4 v5 v6:Option V) (mx:Int) (g:Addr) (ys:List MZ),σ=[some (.ref l),some (.bl b),some (.int mx),some (.ref g),v4,v5,v6]/\Sub H H2/\H g=none/\H2 g=some (.lst ((ys.map (·.1.1)).map V.ref))/\(∀ y∈ys,y∈zs.map (·.2.2))/\ys.length<=i/\zdx (if b then 1 else 0) (((zs.take i).map (·.2.2.2)).filterMap zc8) (-1,[])=(mx,ys.map (·.2))) ?_ ?_ ?_ ?_
   ·exact⟨none,none,none,-1,p1,[],rfl,S1,n1,e1,(fun _ h=>by cases h),zpd _,rfl⟩
   ·rintro i σ H2 _ ⟨v4,v5,v6,mx,g,ys,rfl,S2,_⟩;exact SqL.of (S2 _ _ hl)
   ·rintro i x σ H2 hi ⟨v4,v5,v6,mx,g,ys,rfl,S2,ng,g2,Y2,L2',q2⟩;rw [zoY,zoY] at hi;obtain⟨y,hy,rfl⟩:=zo0.1 hi;obtain⟨z,hzi,rfl⟩:=zo0.1 hy;have hin:=zo2 hzi;have hil:i<zs.length:=(zo1.1 hzi).1;refine⟨_,SqT.of (S2 _ _ (hz.tu z hin)),rfl,?_⟩;refine⟨rfl,?_⟩;rcases hz.me z hin with ⟨hE,hv⟩ | ⟨x,q,d,aa,bb,o,ks,hE,hv,hq,hd,hk,hnk,hct⟩
    ·refine ifB.no (by rw [hv,zo3 rfl];rfl) ?_;refine⟨_,_,_,mx,g,ys,rfl,S2,ng,g2,Y2,by omega,?_⟩;rw [zpk,hzi,zo5,List.filterMap_append,show ((some z).toList.map (·.2.2.2)).filterMap zc8=[] from by show [z.2.2.2].filterMap zc8=[];rw [List.filterMap_cons,hE];rfl,zo9]
     exact q2
    ·rw [hv];refine ifB.yes (by rw [zo4 (fun z=>by cases z)];rfl) ?_;refine⟨_,_,SqT.of (S2 _ _ hq),zaE (j:=0) rfl,?_⟩;refine⟨_,_,SqT.of (S2 _ _ hq),zaE (j:=3) rfl,?_⟩;refine⟨o,ks,S2 _ _ hd,hk,hnk,fun H3 S3=>?_⟩;rw [hct];refine⟨by show 2<=sizeLine;decide,?_⟩;intro p4 n4;generalize U':upd _ p4 _=H4;obtain ⟨S4,e4⟩:=zak n4 U';clear U';refine⟨_,V.int (scE (if b then 1 else 0) x),SqL.of e4,by cases b <;> rfl,?_⟩;generalize hn:scE (if b then 1 else 0) x=n;have S24:=S3.trans S4;have qn:zdx (if b then 1 else 0) (((zs.take (i+1)).map (·.2.2.2)).filterMap zc8) (-1,[])=(if mx<n then (n,[z.2.2.2]) else if n=mx then (mx,ys.map (·.2)++[z.2.2.2]) else (mx,ys.map (·.2))):=by
      rw [zpk,hzi,zo5,List.filterMap_append,zhp,q2,show ((some z).toList.map (·.2.2.2)).filterMap zc8=[x] from by show [z.2.2.2].filterMap zc8=_;rw [List.filterMap_cons,hE];rfl]
      show (if mx<scE _ x then (scE _ x,[x.1]) else if scE _ x=mx then _ else _)=_;rw [hn,zgT hE]
     walk_at "w";by_cases c:mx<n
     ·refine ifB.yes (zo3 c) ?_;refine⟨Nat.zero_le _,?_⟩;intro p5 n5;generalize U':upd _ p5 _=H5;obtain ⟨S5,e5⟩:=zak n5 U';clear U';walk_at "w";refine ifB.yes (by rw [zpB (by decide)];exact zo3 rfl) ?_;refine⟨.inl ⟨rfl,_,SqL.of e5⟩,?_⟩;refine⟨_,e5,by show 0<sizeLine;decide,_,_,_,n,p5,[z.2.2],rfl,((S2.trans S24).trans S5).upd ((S2.trans S24).free n5),(S2.trans S24).free n5,zad,fun y hy=>?_,by show 1<=i+1;omega,?_⟩
      ·rw [zo6.1 hy];exact zpf.2 ⟨z,hin,rfl⟩
      ·rw [qn,zpC c];rfl
     ·refine ifB.no (zo4 c) ?_;walk_at "w";by_cases cn:n=mx
      ·refine ifB.yes (by rw [zpB (by decide)];exact zo3 cn) ?_;refine⟨.inl ⟨rfl,_,SqL.of (S24 _ _ g2)⟩,?_⟩;refine⟨_,S24 _ _ g2,?_,_,_,_,mx,g,ys++[z.2.2],rfl,(S2.trans S24).upd ng,ng,?_,fun y hy=>?_,by rw [zo7];show ys.length+1<=i+1;omega,?_⟩
       ·rw [zoX,zoX];exact zpb (show ys.length<=2000000 by omega) (by decide)
       ·rw [zad,zo5,zo5];rfl
       ·rcases zo8.1 hy with hy | hy
        ·exact Y2 y hy
        ·rw [zo6.1 hy];exact zpf.2 ⟨z,hin,rfl⟩
       ·rw [qn,zpB c,zpC cn,zo5];rfl
      ·refine ifB.no (by rw [zpB (by decide)];exact zo4 cn) ?_;refine⟨_,_,_,mx,g,ys,rfl,S2.trans S24,ng,S24 _ _ g2,Y2,by omega,?_⟩;rw [qn,zpB c,zpB cn]
   rintro σ H2 ⟨v4,v5,v6,mx,g,ys,rfl,S2,ng,g2,Y2,L2',q2⟩;rw [zoX,zoX,zpj] at q2;refine⟨by show 2<=sizeLine;decide,?_⟩;intro p3 n3;generalize U':upd _ p3 _=H3;obtain ⟨S3,e3⟩:=zak n3 U';clear U';walk_at "w";exact h p3 g mx ys H3 (S2.trans S3) e3 (S3 _ _ g2) (fun y hy=>(hz.ma y (Y2 y hy)).stay (.sub (S2.trans S3))) q2.symm
  ·exact h.elim
theorem zcM:zao ["_law_found"] ["_law_found"] (zaj zaY):=by walk_at "s"
def PlB (v:V):Prop:=v=.non\/(∃ s,v=.str s)\/∃ n,v=.int n
def Pln (H:Hp):Nat->V->Prop
 | 0,v=>PlB v
 | k+1,v=>PlB v\/∃ a xs,v=.ref a/\(H a=some (.tup xs)\/H a=some (.lst xs))/\∀ x∈xs,Pln H k x
theorem Pln.sub {H H':Hp} (S:Sub H H'):∀ {k:Nat} {v:V},Pln H k v->Pln H' k v
 | 0,_,h=>h
 | k+1,_,.inl h=>.inl h
 | k+1,_,.inr ⟨a,xs,e,h1,h2⟩=>.inr ⟨a,xs,e,h1.imp (S _ _) (S _ _),fun x hx=>(h2 x hx).sub S⟩
def zaB (k:Nat):Sp:=fun vs H Q _=>match vs with
 | [v]=>Pln H k v/\∀ H',Sub H H'->Q (.bl true) H'
 | _=>False
theorem zeD (T:Tx K mg a):za3 P w K mg base CX0 1 a.l_plainly a.l_plainly_d ["_law_found"] (zaB 0):=by
 refine T.q_l_plainly.f.ok zcM (fun vs H Q E h=>?_) (fun cdv A outer s H vs Q E hr h=>?_)
 ·unfold zaB at h;split at h
  ·rfl
  ·exact h.elim
 ·unfold zaB at h;split at h
  ·have nd:=zcM.nd;have hu:=zaD hr;rename_i v;obtain⟨hp,h⟩:=h;refine⟨_,(zac (zbV (PW.pt (zbl (zcG (zah (zaA (K:=K) rfl) rfl T.z_isinstance zaf (zaa (qv 0) (zaa (zau (v:=V.ty "tuple") rfl T.z_tuple zbG rfl) zab)))) (zbq (zcG (zah (zaA (K:=K) rfl) rfl T.z_isinstance zaf (zaa (qv 0) (zaa (zau (v:=V.ty "list") rfl T.z_list zbX rfl) zab))))))) zdl zas)
  (zac (zbV (PW.pt (zbl (zb1 zek (qv 0) zbk) (zbq (zcG (zah (zaA (K:=K) rfl) rfl T.z_isinstance zaf (zaa (qv 0) (zaa (zau (v:=V.ty "str") rfl T.z_str zd2 rfl) zab))))))) (zae (zap zbZ)) zas)
  (zae (zap (zbK (zah (zaA (K:=K) rfl) rfl T.z_isinstance zaf (zaa (qv 0) (zaa (zau (v:=V.ty "int") rfl T.z_int zc9 rfl) zab))) (zdj (zc0 (zah (zaA (K:=K) rfl) rfl T.z_isinstance zaf (zaa (qv 0) (zaa (zau (v:=V.ty "bool") rfl T.z_bool zcX rfl) zab)))))))))),?_⟩
   have hp:PlB v:=hp;rcases hp with rfl | ⟨s,rfl⟩ | ⟨n,rfl⟩
   ·walk_at "w";refine⟨_,false,.of .non,rfl,rfl,?_⟩;walk_at "w";refine ifB.no rfl ?_;refine⟨_,false,.of .non,rfl,rfl,?_⟩;walk_at "w";refine ifB.no rfl ?_;refine⟨rfl,?_⟩;walk_at "w";refine ifB.yes rfl ?_;walk_at "w";refine ifB.yes rfl ?_;walk_at "w";exact h _ Sub.refl
   ·walk_at "w";refine⟨_,false,.of (.str _),rfl,rfl,?_⟩;walk_at "w";refine ifB.no rfl ?_;refine⟨_,false,.of (.str _),rfl,rfl,?_⟩;walk_at "w";refine ifB.no rfl ?_;refine⟨rfl,?_⟩;walk_at "w";refine ifB.no rfl ?_;refine⟨_,true,.of (.str _),rfl,rfl,?_⟩;walk_at "w";refine ifB.yes rfl ?_;walk_at "w";exact h _ Sub.refl
   ·walk_at "w";refine⟨_,false,.of (.int _),rfl,rfl,?_⟩;walk_at "w";refine ifB.no rfl ?_;refine⟨_,false,.of (.int _),rfl,rfl,?_⟩;walk_at "w";refine ifB.no rfl ?_;refine⟨rfl,?_⟩;walk_at "w";refine ifB.no rfl ?_;refine⟨_,false,.of (.int _),rfl,rfl,?_⟩;walk_at "w";refine ifB.no rfl ?_;refine⟨_,true,.of (.int _),rfl,rfl,?_⟩;walk_at "w";refine ifB.yes rfl ?_;refine⟨_,false,.of (.int _),rfl,rfl,?_⟩;walk_at "w";exact h _ Sub.refl
  ·exact h.elim
theorem zcN:zao ["_law_found"] ["_law_found"] (zaj zaY):=by walk_at "s"
theorem zeE (T:Tx K mg a):za3 P w K mg base CX0 2 a.l_plainly a.l_plainly_d ["_law_found"] (zaB 1):=by
 have G_l_plainly:=zeD (P:=P) (w:=w) (base:=base) T;refine T.q_l_plainly.f.ok zcN (fun vs H Q E h=>?_) (fun cdv A outer s H vs Q E hr h=>?_)
 ·unfold zaB at h;split at h
  ·rfl
  ·exact h.elim
 ·unfold zaB at h;split at h
  ·have nd:=zcN.nd;have hu:=zaD hr;rename_i v;obtain⟨hp,h⟩:=h;refine⟨_,(zac (zbV (PW.pt (zbl (zcG (zah (zaA (K:=K) rfl) rfl T.z_isinstance zaf (zaa (qv 0) (zaa (zau (v:=V.ty "tuple") rfl T.z_tuple zbG rfl) zab)))) (zbq (zcG (zah (zaA (K:=K) rfl) rfl T.z_isinstance zaf (zaa (qv 0) (zaa (zau (v:=V.ty "list") rfl T.z_list zbX rfl) zab))))))) (zae (zap (zb0 zhO (zah (za6 (K:=K) rfl) rfl T.z_len za4 (zaa (zbx (own:=["_law_part"]) (fr:=[]) rfl (by walk_at "comp_ok") (zdD (K:=K) rfl (qv 0)) (fun _ _ _ _=>(zag (i:=0) (show List.Nodup (α:=Str) ["_law_part"] from by decide +kernel) rfl (by walk_at "o"))) (fun _ _ _ _=>(zbC (zbT (zcG (zan G_l_plainly (hr.mono (by decide)) rfl T.q_l_plainly.g T.q_l_plainly.f.kp T.q_l_plainly.b .nil zaw (zaa (qv 0) zab)))))) (fun _ _ _ _=>(qv 0))) zab)) zai (by first | exact zaF _ | rfl)))) zas)
  (zac (zbV (PW.pt (zbl (zb1 zek (qv 0) zbk) (zbq (zcG (zah (zaA (K:=K) rfl) rfl T.z_isinstance zaf (zaa (qv 0) (zaa (zau (v:=V.ty "str") rfl T.z_str zd2 rfl) zab))))))) (zae (zap zbZ)) zas)
  (zae (zap (zbK (zah (zaA (K:=K) rfl) rfl T.z_isinstance zaf (zaa (qv 0) (zaa (zau (v:=V.ty "int") rfl T.z_int zc9 rfl) zab))) (zdj (zc0 (zah (zaA (K:=K) rfl) rfl T.z_isinstance zaf (zaa (qv 0) (zaa (zau (v:=V.ty "bool") rfl T.z_bool zcX rfl) zab)))))))))),?_⟩
   rcases hp with (rfl | ⟨s,rfl⟩ | ⟨n,rfl⟩) | ⟨b,xs,rfl,hb,hall⟩
   ·walk_at "w";refine⟨_,false,.of .non,rfl,rfl,?_⟩;walk_at "w";refine ifB.no rfl ?_;refine⟨_,false,.of .non,rfl,rfl,?_⟩;walk_at "w";refine ifB.no rfl ?_;refine⟨rfl,?_⟩;walk_at "w";refine ifB.yes rfl ?_;walk_at "w";refine ifB.yes rfl ?_;walk_at "w";exact h _ Sub.refl
   ·walk_at "w";refine⟨_,false,.of (.str _),rfl,rfl,?_⟩;walk_at "w";refine ifB.no rfl ?_;refine⟨_,false,.of (.str _),rfl,rfl,?_⟩;walk_at "w";refine ifB.no rfl ?_;refine⟨rfl,?_⟩;walk_at "w";refine ifB.no rfl ?_;refine⟨_,true,.of (.str _),rfl,rfl,?_⟩;walk_at "w";refine ifB.yes rfl ?_;walk_at "w";exact h _ Sub.refl
   ·walk_at "w";refine⟨_,false,.of (.int _),rfl,rfl,?_⟩;walk_at "w";refine ifB.no rfl ?_;refine⟨_,false,.of (.int _),rfl,rfl,?_⟩;walk_at "w";refine ifB.no rfl ?_;refine⟨rfl,?_⟩;walk_at "w";refine ifB.no rfl ?_;refine⟨_,false,.of (.int _),rfl,rfl,?_⟩;walk_at "w";refine ifB.no rfl ?_;refine⟨_,true,.of (.int _),rfl,rfl,?_⟩;walk_at "w";refine ifB.yes rfl ?_;refine⟨_,false,.of (.int _),rfl,rfl,?_⟩;walk_at "w";exact h _ Sub.refl
   rcases hb with hb | hb
   ·walk_at "w";refine⟨_,true,.of (.tup hb),rfl,rfl,?_⟩;walk_at "w";refine ifB.yes rfl ?_;walk_at "w";refine ifB.yes rfl ?_;walk_at "w";refine .inr ⟨⟨_,SqT.of hb⟩,?_⟩;intro pc nc;refine zcB (K:=K) (a:=b) (xs:=xs) (fun i σ H1=>∃ v,σ=[v]/\Sub H H1/\H1 pc=some (.lst [])) ?_ ?_ ?_ ?_
    ·exact⟨none,rfl,Sub.new nc,zad⟩
    ·rintro i σ H1 _ ⟨v,rfl,S1,e1⟩;exact SqT.of (S1 _ _ hb)
    ·rintro i x σ H1 hx ⟨v,rfl,S1,e1⟩;refine⟨(hall x (zo2 hx)).sub S1,fun H2 S2=>?_⟩;exact⟨_,rfl,S1.trans S2,S2 _ _ e1⟩
    rintro σ H1 ⟨v,rfl,S1,e1⟩;refine⟨_,.inl (SqL.of e1),?_⟩;walk_at "w";exact h _ S1
   ·walk_at "w";refine⟨_,false,.of (.lst hb),rfl,rfl,?_⟩;walk_at "w";refine ifB.no rfl ?_;refine⟨_,true,.of (.lst hb),rfl,rfl,?_⟩;walk_at "w";refine ifB.yes rfl ?_;walk_at "w";refine .inl ⟨⟨_,SqL.of hb⟩,?_⟩;intro pc nc;refine zat (K:=K) (a:=b) (xs:=xs) (fun i σ H1=>∃ v,σ=[v]/\Sub H H1/\H1 pc=some (.lst [])) ?_ ?_ ?_ ?_
    ·exact⟨none,rfl,Sub.new nc,zad⟩
    ·rintro i σ H1 _ ⟨v,rfl,S1,e1⟩;exact SqL.of (S1 _ _ hb)
    ·rintro i x σ H1 hx ⟨v,rfl,S1,e1⟩;refine⟨(hall x (zo2 hx)).sub S1,fun H2 S2=>?_⟩;exact⟨_,rfl,S1.trans S2,S2 _ _ e1⟩
    rintro σ H1 ⟨v,rfl,S1,e1⟩;refine⟨_,.inl (SqL.of e1),?_⟩;walk_at "w";exact h _ S1
  ·exact h.elim
theorem zcO:zao ["_law_found"] ["_law_found"] (zaj zaY):=by walk_at "s"
theorem zeF (T:Tx K mg a):za3 P w K mg base CX0 3 a.l_plainly a.l_plainly_d ["_law_found"] (zaB 2):=by
 have G_l_plainly:=zeE (P:=P) (w:=w) (base:=base) T;refine T.q_l_plainly.f.ok zcO (fun vs H Q E h=>?_) (fun cdv A outer s H vs Q E hr h=>?_)
 ·unfold zaB at h;split at h
  ·rfl
  ·exact h.elim
 ·unfold zaB at h;split at h
  ·have nd:=zcO.nd;have hu:=zaD hr;rename_i v;obtain⟨hp,h⟩:=h;refine⟨_,(zac (zbV (PW.pt (zbl (zcG (zah (zaA (K:=K) rfl) rfl T.z_isinstance zaf (zaa (qv 0) (zaa (zau (v:=V.ty "tuple") rfl T.z_tuple zbG rfl) zab)))) (zbq (zcG (zah (zaA (K:=K) rfl) rfl T.z_isinstance zaf (zaa (qv 0) (zaa (zau (v:=V.ty "list") rfl T.z_list zbX rfl) zab))))))) (zae (zap (zb0 zhO (zah (za6 (K:=K) rfl) rfl T.z_len za4 (zaa (zbx (own:=["_law_part"]) (fr:=[]) rfl (by walk_at "comp_ok") (zdD (K:=K) rfl (qv 0)) (fun _ _ _ _=>(zag (i:=0) (show List.Nodup (α:=Str) ["_law_part"] from by decide +kernel) rfl (by walk_at "o"))) (fun _ _ _ _=>(zbC (zbT (zcG (zan G_l_plainly (hr.mono (by decide)) rfl T.q_l_plainly.g T.q_l_plainly.f.kp T.q_l_plainly.b .nil zaw (zaa (qv 0) zab)))))) (fun _ _ _ _=>(qv 0))) zab)) zai (by first | exact zaF _ | rfl)))) zas)
  (zac (zbV (PW.pt (zbl (zb1 zek (qv 0) zbk) (zbq (zcG (zah (zaA (K:=K) rfl) rfl T.z_isinstance zaf (zaa (qv 0) (zaa (zau (v:=V.ty "str") rfl T.z_str zd2 rfl) zab))))))) (zae (zap zbZ)) zas)
  (zae (zap (zbK (zah (zaA (K:=K) rfl) rfl T.z_isinstance zaf (zaa (qv 0) (zaa (zau (v:=V.ty "int") rfl T.z_int zc9 rfl) zab))) (zdj (zc0 (zah (zaA (K:=K) rfl) rfl T.z_isinstance zaf (zaa (qv 0) (zaa (zau (v:=V.ty "bool") rfl T.z_bool zcX rfl) zab)))))))))),?_⟩
   rcases hp with (rfl | ⟨s,rfl⟩ | ⟨n,rfl⟩) | ⟨b,xs,rfl,hb,hall⟩
   ·walk_at "w";refine⟨_,false,.of .non,rfl,rfl,?_⟩;walk_at "w";refine ifB.no rfl ?_;refine⟨_,false,.of .non,rfl,rfl,?_⟩;walk_at "w";refine ifB.no rfl ?_;refine⟨rfl,?_⟩;walk_at "w";refine ifB.yes rfl ?_;walk_at "w";refine ifB.yes rfl ?_;walk_at "w";exact h _ Sub.refl
   ·walk_at "w";refine⟨_,false,.of (.str _),rfl,rfl,?_⟩;walk_at "w";refine ifB.no rfl ?_;refine⟨_,false,.of (.str _),rfl,rfl,?_⟩;walk_at "w";refine ifB.no rfl ?_;refine⟨rfl,?_⟩;walk_at "w";refine ifB.no rfl ?_;refine⟨_,true,.of (.str _),rfl,rfl,?_⟩;walk_at "w";refine ifB.yes rfl ?_;walk_at "w";exact h _ Sub.refl
   ·walk_at "w";refine⟨_,false,.of (.int _),rfl,rfl,?_⟩;walk_at "w";refine ifB.no rfl ?_;refine⟨_,false,.of (.int _),rfl,rfl,?_⟩;walk_at "w";refine ifB.no rfl ?_;refine⟨rfl,?_⟩;walk_at "w";refine ifB.no rfl ?_;refine⟨_,false,.of (.int _),rfl,rfl,?_⟩;walk_at "w";refine ifB.no rfl ?_;refine⟨_,true,.of (.int _),rfl,rfl,?_⟩;walk_at "w";refine ifB.yes rfl ?_;refine⟨_,false,.of (.int _),rfl,rfl,?_⟩;walk_at "w";exact h _ Sub.refl
   rcases hb with hb | hb
   ·walk_at "w";refine⟨_,true,.of (.tup hb),rfl,rfl,?_⟩;walk_at "w";refine ifB.yes rfl ?_;walk_at "w";refine ifB.yes rfl ?_;walk_at "w";refine .inr ⟨⟨_,SqT.of hb⟩,?_⟩;intro pc nc;refine zcB (K:=K) (a:=b) (xs:=xs) (fun i σ H1=>∃ v,σ=[v]/\Sub H H1/\H1 pc=some (.lst [])) ?_ ?_ ?_ ?_
    ·exact⟨none,rfl,Sub.new nc,zad⟩
    ·rintro i σ H1 _ ⟨v,rfl,S1,e1⟩;exact SqT.of (S1 _ _ hb)
    ·rintro i x σ H1 hx ⟨v,rfl,S1,e1⟩;refine⟨(hall x (zo2 hx)).sub S1,fun H2 S2=>?_⟩;exact⟨_,rfl,S1.trans S2,S2 _ _ e1⟩
    rintro σ H1 ⟨v,rfl,S1,e1⟩;refine⟨_,.inl (SqL.of e1),?_⟩;walk_at "w";exact h _ S1
   ·walk_at "w";refine⟨_,false,.of (.lst hb),rfl,rfl,?_⟩;walk_at "w";refine ifB.no rfl ?_;refine⟨_,true,.of (.lst hb),rfl,rfl,?_⟩;walk_at "w";refine ifB.yes rfl ?_;walk_at "w";refine .inl ⟨⟨_,SqL.of hb⟩,?_⟩;intro pc nc;refine zat (K:=K) (a:=b) (xs:=xs) (fun i σ H1=>∃ v,σ=[v]/\Sub H H1/\H1 pc=some (.lst [])) ?_ ?_ ?_ ?_
    ·exact⟨none,rfl,Sub.new nc,zad⟩
    ·rintro i σ H1 _ ⟨v,rfl,S1,e1⟩;exact SqL.of (S1 _ _ hb)
    ·rintro i x σ H1 hx ⟨v,rfl,S1,e1⟩;refine⟨(hall x (zo2 hx)).sub S1,fun H2 S2=>?_⟩;exact⟨_,rfl,S1.trans S2,S2 _ _ e1⟩
    rintro σ H1 ⟨v,rfl,S1,e1⟩;refine⟨_,.inl (SqL.of e1),?_⟩;walk_at "w";exact h _ S1
  ·exact h.elim
theorem zcP:zao ["_law_found"] ["_law_found"] (zaj zaY):=by walk_at "s"
theorem zeG (T:Tx K mg a):za3 P w K mg base CX0 4 a.l_plainly a.l_plainly_d ["_law_found"] (zaB 3):=by
 have G_l_plainly:=zeF (P:=P) (w:=w) (base:=base) T;refine T.q_l_plainly.f.ok zcP (fun vs H Q E h=>?_) (fun cdv A outer s H vs Q E hr h=>?_)
 ·unfold zaB at h;split at h
  ·rfl
  ·exact h.elim
 ·unfold zaB at h;split at h
  ·have nd:=zcP.nd;have hu:=zaD hr;rename_i v;obtain⟨hp,h⟩:=h;refine⟨_,(zac (zbV (PW.pt (zbl (zcG (zah (zaA (K:=K) rfl) rfl T.z_isinstance zaf (zaa (qv 0) (zaa (zau (v:=V.ty "tuple") rfl T.z_tuple zbG rfl) zab)))) (zbq (zcG (zah (zaA (K:=K) rfl) rfl T.z_isinstance zaf (zaa (qv 0) (zaa (zau (v:=V.ty "list") rfl T.z_list zbX rfl) zab))))))) (zae (zap (zb0 zhO (zah (za6 (K:=K) rfl) rfl T.z_len za4 (zaa (zbx (own:=["_law_part"]) (fr:=[]) rfl (by walk_at "comp_ok") (zdD (K:=K) rfl (qv 0)) (fun _ _ _ _=>(zag (i:=0) (show List.Nodup (α:=Str) ["_law_part"] from by decide +kernel) rfl (by walk_at "o"))) (fun _ _ _ _=>(zbC (zbT (zcG (zan G_l_plainly (hr.mono (by decide)) rfl T.q_l_plainly.g T.q_l_plainly.f.kp T.q_l_plainly.b .nil zaw (zaa (qv 0) zab)))))) (fun _ _ _ _=>(qv 0))) zab)) zai (by first | exact zaF _ | rfl)))) zas)
  (zac (zbV (PW.pt (zbl (zb1 zek (qv 0) zbk) (zbq (zcG (zah (zaA (K:=K) rfl) rfl T.z_isinstance zaf (zaa (qv 0) (zaa (zau (v:=V.ty "str") rfl T.z_str zd2 rfl) zab))))))) (zae (zap zbZ)) zas)
  (zae (zap (zbK (zah (zaA (K:=K) rfl) rfl T.z_isinstance zaf (zaa (qv 0) (zaa (zau (v:=V.ty "int") rfl T.z_int zc9 rfl) zab))) (zdj (zc0 (zah (zaA (K:=K) rfl) rfl T.z_isinstance zaf (zaa (qv 0) (zaa (zau (v:=V.ty "bool") rfl T.z_bool zcX rfl) zab)))))))))),?_⟩
   rcases hp with (rfl | ⟨s,rfl⟩ | ⟨n,rfl⟩) | ⟨b,xs,rfl,hb,hall⟩
   ·walk_at "w";refine⟨_,false,.of .non,rfl,rfl,?_⟩;walk_at "w";refine ifB.no rfl ?_;refine⟨_,false,.of .non,rfl,rfl,?_⟩;walk_at "w";refine ifB.no rfl ?_;refine⟨rfl,?_⟩;walk_at "w";refine ifB.yes rfl ?_;walk_at "w";refine ifB.yes rfl ?_;walk_at "w";exact h _ Sub.refl
   ·walk_at "w";refine⟨_,false,.of (.str _),rfl,rfl,?_⟩;walk_at "w";refine ifB.no rfl ?_;refine⟨_,false,.of (.str _),rfl,rfl,?_⟩;walk_at "w";refine ifB.no rfl ?_;refine⟨rfl,?_⟩;walk_at "w";refine ifB.no rfl ?_;refine⟨_,true,.of (.str _),rfl,rfl,?_⟩;walk_at "w";refine ifB.yes rfl ?_;walk_at "w";exact h _ Sub.refl
   ·walk_at "w";refine⟨_,false,.of (.int _),rfl,rfl,?_⟩;walk_at "w";refine ifB.no rfl ?_;refine⟨_,false,.of (.int _),rfl,rfl,?_⟩;walk_at "w";refine ifB.no rfl ?_;refine⟨rfl,?_⟩;walk_at "w";refine ifB.no rfl ?_;refine⟨_,false,.of (.int _),rfl,rfl,?_⟩;walk_at "w";refine ifB.no rfl ?_;refine⟨_,true,.of (.int _),rfl,rfl,?_⟩;walk_at "w";refine ifB.yes rfl ?_;refine⟨_,false,.of (.int _),rfl,rfl,?_⟩;walk_at "w";exact h _ Sub.refl
   rcases hb with hb | hb
   ·walk_at "w";refine⟨_,true,.of (.tup hb),rfl,rfl,?_⟩;walk_at "w";refine ifB.yes rfl ?_;walk_at "w";refine ifB.yes rfl ?_;walk_at "w";refine .inr ⟨⟨_,SqT.of hb⟩,?_⟩;intro pc nc;refine zcB (K:=K) (a:=b) (xs:=xs) (fun i σ H1=>∃ v,σ=[v]/\Sub H H1/\H1 pc=some (.lst [])) ?_ ?_ ?_ ?_
    ·exact⟨none,rfl,Sub.new nc,zad⟩
    ·rintro i σ H1 _ ⟨v,rfl,S1,e1⟩;exact SqT.of (S1 _ _ hb)
    ·rintro i x σ H1 hx ⟨v,rfl,S1,e1⟩;refine⟨(hall x (zo2 hx)).sub S1,fun H2 S2=>?_⟩;exact⟨_,rfl,S1.trans S2,S2 _ _ e1⟩
    rintro σ H1 ⟨v,rfl,S1,e1⟩;refine⟨_,.inl (SqL.of e1),?_⟩;walk_at "w";exact h _ S1
   ·walk_at "w";refine⟨_,false,.of (.lst hb),rfl,rfl,?_⟩;walk_at "w";refine ifB.no rfl ?_;refine⟨_,true,.of (.lst hb),rfl,rfl,?_⟩;walk_at "w";refine ifB.yes rfl ?_;walk_at "w";refine .inl ⟨⟨_,SqL.of hb⟩,?_⟩;intro pc nc;refine zat (K:=K) (a:=b) (xs:=xs) (fun i σ H1=>∃ v,σ=[v]/\Sub H H1/\H1 pc=some (.lst [])) ?_ ?_ ?_ ?_
    ·exact⟨none,rfl,Sub.new nc,zad⟩
    ·rintro i σ H1 _ ⟨v,rfl,S1,e1⟩;exact SqL.of (S1 _ _ hb)
    ·rintro i x σ H1 hx ⟨v,rfl,S1,e1⟩;refine⟨(hall x (zo2 hx)).sub S1,fun H2 S2=>?_⟩;exact⟨_,rfl,S1.trans S2,S2 _ _ e1⟩
    rintro σ H1 ⟨v,rfl,S1,e1⟩;refine⟨_,.inl (SqL.of e1),?_⟩;walk_at "w";exact h _ S1
  ·exact h.elim
theorem zcQ:zao ["_law_found"] ["_law_found"] (zaj zaY):=by walk_at "s"
theorem zeH (T:Tx K mg a):za3 P w K mg base CX0 5 a.l_plainly a.l_plainly_d ["_law_found"] (zaB 4):=by
 have G_l_plainly:=zeG (P:=P) (w:=w) (base:=base) T;refine T.q_l_plainly.f.ok zcQ (fun vs H Q E h=>?_) (fun cdv A outer s H vs Q E hr h=>?_)
 ·unfold zaB at h;split at h
  ·rfl
  ·exact h.elim
 ·unfold zaB at h;split at h
  ·have nd:=zcQ.nd;have hu:=zaD hr;rename_i v;obtain⟨hp,h⟩:=h;refine⟨_,(zac (zbV (PW.pt (zbl (zcG (zah (zaA (K:=K) rfl) rfl T.z_isinstance zaf (zaa (qv 0) (zaa (zau (v:=V.ty "tuple") rfl T.z_tuple zbG rfl) zab)))) (zbq (zcG (zah (zaA (K:=K) rfl) rfl T.z_isinstance zaf (zaa (qv 0) (zaa (zau (v:=V.ty "list") rfl T.z_list zbX rfl) zab))))))) (zae (zap (zb0 zhO (zah (za6 (K:=K) rfl) rfl T.z_len za4 (zaa (zbx (own:=["_law_part"]) (fr:=[]) rfl (by walk_at "comp_ok") (zdD (K:=K) rfl (qv 0)) (fun _ _ _ _=>(zag (i:=0) (show List.Nodup (α:=Str) ["_law_part"] from by decide +kernel) rfl (by walk_at "o"))) (fun _ _ _ _=>(zbC (zbT (zcG (zan G_l_plainly (hr.mono (by decide)) rfl T.q_l_plainly.g T.q_l_plainly.f.kp T.q_l_plainly.b .nil zaw (zaa (qv 0) zab)))))) (fun _ _ _ _=>(qv 0))) zab)) zai (by first | exact zaF _ | rfl)))) zas)
  (zac (zbV (PW.pt (zbl (zb1 zek (qv 0) zbk) (zbq (zcG (zah (zaA (K:=K) rfl) rfl T.z_isinstance zaf (zaa (qv 0) (zaa (zau (v:=V.ty "str") rfl T.z_str zd2 rfl) zab))))))) (zae (zap zbZ)) zas)
  (zae (zap (zbK (zah (zaA (K:=K) rfl) rfl T.z_isinstance zaf (zaa (qv 0) (zaa (zau (v:=V.ty "int") rfl T.z_int zc9 rfl) zab))) (zdj (zc0 (zah (zaA (K:=K) rfl) rfl T.z_isinstance zaf (zaa (qv 0) (zaa (zau (v:=V.ty "bool") rfl T.z_bool zcX rfl) zab)))))))))),?_⟩
   rcases hp with (rfl | ⟨s,rfl⟩ | ⟨n,rfl⟩) | ⟨b,xs,rfl,hb,hall⟩
   ·walk_at "w";refine⟨_,false,.of .non,rfl,rfl,?_⟩;walk_at "w";refine ifB.no rfl ?_;refine⟨_,false,.of .non,rfl,rfl,?_⟩;walk_at "w";refine ifB.no rfl ?_;refine⟨rfl,?_⟩;walk_at "w";refine ifB.yes rfl ?_;walk_at "w";refine ifB.yes rfl ?_;walk_at "w";exact h _ Sub.refl
   ·walk_at "w";refine⟨_,false,.of (.str _),rfl,rfl,?_⟩;walk_at "w";refine ifB.no rfl ?_;refine⟨_,false,.of (.str _),rfl,rfl,?_⟩;walk_at "w";refine ifB.no rfl ?_;refine⟨rfl,?_⟩;walk_at "w";refine ifB.no rfl ?_;refine⟨_,true,.of (.str _),rfl,rfl,?_⟩;walk_at "w";refine ifB.yes rfl ?_;walk_at "w";exact h _ Sub.refl
   ·walk_at "w";refine⟨_,false,.of (.int _),rfl,rfl,?_⟩;walk_at "w";refine ifB.no rfl ?_;refine⟨_,false,.of (.int _),rfl,rfl,?_⟩;walk_at "w";refine ifB.no rfl ?_;refine⟨rfl,?_⟩;walk_at "w";refine ifB.no rfl ?_;refine⟨_,false,.of (.int _),rfl,rfl,?_⟩;walk_at "w";refine ifB.no rfl ?_;refine⟨_,true,.of (.int _),rfl,rfl,?_⟩;walk_at "w";refine ifB.yes rfl ?_;refine⟨_,false,.of (.int _),rfl,rfl,?_⟩;walk_at "w";exact h _ Sub.refl
   rcases hb with hb | hb
   ·walk_at "w";refine⟨_,true,.of (.tup hb),rfl,rfl,?_⟩;walk_at "w";refine ifB.yes rfl ?_;walk_at "w";refine ifB.yes rfl ?_;walk_at "w";refine .inr ⟨⟨_,SqT.of hb⟩,?_⟩;intro pc nc;refine zcB (K:=K) (a:=b) (xs:=xs) (fun i σ H1=>∃ v,σ=[v]/\Sub H H1/\H1 pc=some (.lst [])) ?_ ?_ ?_ ?_
    ·exact⟨none,rfl,Sub.new nc,zad⟩
    ·rintro i σ H1 _ ⟨v,rfl,S1,e1⟩;exact SqT.of (S1 _ _ hb)
    ·rintro i x σ H1 hx ⟨v,rfl,S1,e1⟩;refine⟨(hall x (zo2 hx)).sub S1,fun H2 S2=>?_⟩;exact⟨_,rfl,S1.trans S2,S2 _ _ e1⟩
    rintro σ H1 ⟨v,rfl,S1,e1⟩;refine⟨_,.inl (SqL.of e1),?_⟩;walk_at "w";exact h _ S1
   ·walk_at "w";refine⟨_,false,.of (.lst hb),rfl,rfl,?_⟩;walk_at "w";refine ifB.no rfl ?_;refine⟨_,true,.of (.lst hb),rfl,rfl,?_⟩;walk_at "w";refine ifB.yes rfl ?_;walk_at "w";refine .inl ⟨⟨_,SqL.of hb⟩,?_⟩;intro pc nc;refine zat (K:=K) (a:=b) (xs:=xs) (fun i σ H1=>∃ v,σ=[v]/\Sub H H1/\H1 pc=some (.lst [])) ?_ ?_ ?_ ?_
    ·exact⟨none,rfl,Sub.new nc,zad⟩
    ·rintro i σ H1 _ ⟨v,rfl,S1,e1⟩;exact SqL.of (S1 _ _ hb)
    ·rintro i x σ H1 hx ⟨v,rfl,S1,e1⟩;refine⟨(hall x (zo2 hx)).sub S1,fun H2 S2=>?_⟩;exact⟨_,rfl,S1.trans S2,S2 _ _ e1⟩
    rintro σ H1 ⟨v,rfl,S1,e1⟩;refine⟨_,.inl (SqL.of e1),?_⟩;walk_at "w";exact h _ S1
  ·exact h.elim
theorem zcR:zao ["_law_found"] ["_law_found"] (zaj zaY):=by walk_at "s"
theorem zeI (T:Tx K mg a):za3 P w K mg base CX0 6 a.l_plainly a.l_plainly_d ["_law_found"] (zaB 5):=by
 have G_l_plainly:=zeH (P:=P) (w:=w) (base:=base) T;refine T.q_l_plainly.f.ok zcR (fun vs H Q E h=>?_) (fun cdv A outer s H vs Q E hr h=>?_)
 ·unfold zaB at h;split at h
  ·rfl
  ·exact h.elim
 ·unfold zaB at h;split at h
  ·have nd:=zcR.nd;have hu:=zaD hr;rename_i v;obtain⟨hp,h⟩:=h;refine⟨_,(zac (zbV (PW.pt (zbl (zcG (zah (zaA (K:=K) rfl) rfl T.z_isinstance zaf (zaa (qv 0) (zaa (zau (v:=V.ty "tuple") rfl T.z_tuple zbG rfl) zab)))) (zbq (zcG (zah (zaA (K:=K) rfl) rfl T.z_isinstance zaf (zaa (qv 0) (zaa (zau (v:=V.ty "list") rfl T.z_list zbX rfl) zab))))))) (zae (zap (zb0 zhO (zah (za6 (K:=K) rfl) rfl T.z_len za4 (zaa (zbx (own:=["_law_part"]) (fr:=[]) rfl (by walk_at "comp_ok") (zdD (K:=K) rfl (qv 0)) (fun _ _ _ _=>(zag (i:=0) (show List.Nodup (α:=Str) ["_law_part"] from by decide +kernel) rfl (by walk_at "o"))) (fun _ _ _ _=>(zbC (zbT (zcG (zan G_l_plainly (hr.mono (by decide)) rfl T.q_l_plainly.g T.q_l_plainly.f.kp T.q_l_plainly.b .nil zaw (zaa (qv 0) zab)))))) (fun _ _ _ _=>(qv 0))) zab)) zai (by first | exact zaF _ | rfl)))) zas)
  (zac (zbV (PW.pt (zbl (zb1 zek (qv 0) zbk) (zbq (zcG (zah (zaA (K:=K) rfl) rfl T.z_isinstance zaf (zaa (qv 0) (zaa (zau (v:=V.ty "str") rfl T.z_str zd2 rfl) zab))))))) (zae (zap zbZ)) zas)
  (zae (zap (zbK (zah (zaA (K:=K) rfl) rfl T.z_isinstance zaf (zaa (qv 0) (zaa (zau (v:=V.ty "int") rfl T.z_int zc9 rfl) zab))) (zdj (zc0 (zah (zaA (K:=K) rfl) rfl T.z_isinstance zaf (zaa (qv 0) (zaa (zau (v:=V.ty "bool") rfl T.z_bool zcX rfl) zab)))))))))),?_⟩
   rcases hp with (rfl | ⟨s,rfl⟩ | ⟨n,rfl⟩) | ⟨b,xs,rfl,hb,hall⟩
   ·walk_at "w";refine⟨_,false,.of .non,rfl,rfl,?_⟩;walk_at "w";refine ifB.no rfl ?_;refine⟨_,false,.of .non,rfl,rfl,?_⟩;walk_at "w";refine ifB.no rfl ?_;refine⟨rfl,?_⟩;walk_at "w";refine ifB.yes rfl ?_;walk_at "w";refine ifB.yes rfl ?_;walk_at "w";exact h _ Sub.refl
   ·walk_at "w";refine⟨_,false,.of (.str _),rfl,rfl,?_⟩;walk_at "w";refine ifB.no rfl ?_;refine⟨_,false,.of (.str _),rfl,rfl,?_⟩;walk_at "w";refine ifB.no rfl ?_;refine⟨rfl,?_⟩;walk_at "w";refine ifB.no rfl ?_;refine⟨_,true,.of (.str _),rfl,rfl,?_⟩;walk_at "w";refine ifB.yes rfl ?_;walk_at "w";exact h _ Sub.refl
   ·walk_at "w";refine⟨_,false,.of (.int _),rfl,rfl,?_⟩;walk_at "w";refine ifB.no rfl ?_;refine⟨_,false,.of (.int _),rfl,rfl,?_⟩;walk_at "w";refine ifB.no rfl ?_;refine⟨rfl,?_⟩;walk_at "w";refine ifB.no rfl ?_;refine⟨_,false,.of (.int _),rfl,rfl,?_⟩;walk_at "w";refine ifB.no rfl ?_;refine⟨_,true,.of (.int _),rfl,rfl,?_⟩;walk_at "w";refine ifB.yes rfl ?_;refine⟨_,false,.of (.int _),rfl,rfl,?_⟩;walk_at "w";exact h _ Sub.refl
   rcases hb with hb | hb
   ·walk_at "w";refine⟨_,true,.of (.tup hb),rfl,rfl,?_⟩;walk_at "w";refine ifB.yes rfl ?_;walk_at "w";refine ifB.yes rfl ?_;walk_at "w";refine .inr ⟨⟨_,SqT.of hb⟩,?_⟩;intro pc nc;refine zcB (K:=K) (a:=b) (xs:=xs) (fun i σ H1=>∃ v,σ=[v]/\Sub H H1/\H1 pc=some (.lst [])) ?_ ?_ ?_ ?_
    ·exact⟨none,rfl,Sub.new nc,zad⟩
    ·rintro i σ H1 _ ⟨v,rfl,S1,e1⟩;exact SqT.of (S1 _ _ hb)
    ·rintro i x σ H1 hx ⟨v,rfl,S1,e1⟩;refine⟨(hall x (zo2 hx)).sub S1,fun H2 S2=>?_⟩;exact⟨_,rfl,S1.trans S2,S2 _ _ e1⟩
    rintro σ H1 ⟨v,rfl,S1,e1⟩;refine⟨_,.inl (SqL.of e1),?_⟩;walk_at "w";exact h _ S1
   ·walk_at "w";refine⟨_,false,.of (.lst hb),rfl,rfl,?_⟩;walk_at "w";refine ifB.no rfl ?_;refine⟨_,true,.of (.lst hb),rfl,rfl,?_⟩;walk_at "w";refine ifB.yes rfl ?_;walk_at "w";refine .inl ⟨⟨_,SqL.of hb⟩,?_⟩;intro pc nc;refine zat (K:=K) (a:=b) (xs:=xs) (fun i σ H1=>∃ v,σ=[v]/\Sub H H1/\H1 pc=some (.lst [])) ?_ ?_ ?_ ?_
    ·exact⟨none,rfl,Sub.new nc,zad⟩
    ·rintro i σ H1 _ ⟨v,rfl,S1,e1⟩;exact SqL.of (S1 _ _ hb)
    ·rintro i x σ H1 hx ⟨v,rfl,S1,e1⟩;refine⟨(hall x (zo2 hx)).sub S1,fun H2 S2=>?_⟩;exact⟨_,rfl,S1.trans S2,S2 _ _ e1⟩
    rintro σ H1 ⟨v,rfl,S1,e1⟩;refine⟨_,.inl (SqL.of e1),?_⟩;walk_at "w";exact h _ S1
  ·exact h.elim
theorem zcS:zao ["_law_found"] ["_law_found"] (zaj zaY):=by walk_at "s"
theorem zeJ (T:Tx K mg a):za3 P w K mg base CX0 7 a.l_plainly a.l_plainly_d ["_law_found"] (zaB 6):=by
 have G_l_plainly:=zeI (P:=P) (w:=w) (base:=base) T;refine T.q_l_plainly.f.ok zcS (fun vs H Q E h=>?_) (fun cdv A outer s H vs Q E hr h=>?_)
 ·unfold zaB at h;split at h
  ·rfl
  ·exact h.elim
 ·unfold zaB at h;split at h
  ·have nd:=zcS.nd;have hu:=zaD hr;rename_i v;obtain⟨hp,h⟩:=h;refine⟨_,(zac (zbV (PW.pt (zbl (zcG (zah (zaA (K:=K) rfl) rfl T.z_isinstance zaf (zaa (qv 0) (zaa (zau (v:=V.ty "tuple") rfl T.z_tuple zbG rfl) zab)))) (zbq (zcG (zah (zaA (K:=K) rfl) rfl T.z_isinstance zaf (zaa (qv 0) (zaa (zau (v:=V.ty "list") rfl T.z_list zbX rfl) zab))))))) (zae (zap (zb0 zhO (zah (za6 (K:=K) rfl) rfl T.z_len za4 (zaa (zbx (own:=["_law_part"]) (fr:=[]) rfl (by walk_at "comp_ok") (zdD (K:=K) rfl (qv 0)) (fun _ _ _ _=>(zag (i:=0) (show List.Nodup (α:=Str) ["_law_part"] from by decide +kernel) rfl (by walk_at "o"))) (fun _ _ _ _=>(zbC (zbT (zcG (zan G_l_plainly (hr.mono (by decide)) rfl T.q_l_plainly.g T.q_l_plainly.f.kp T.q_l_plainly.b .nil zaw (zaa (qv 0) zab)))))) (fun _ _ _ _=>(qv 0))) zab)) zai (by first | exact zaF _ | rfl)))) zas)
  (zac (zbV (PW.pt (zbl (zb1 zek (qv 0) zbk) (zbq (zcG (zah (zaA (K:=K) rfl) rfl T.z_isinstance zaf (zaa (qv 0) (zaa (zau (v:=V.ty "str") rfl T.z_str zd2 rfl) zab))))))) (zae (zap zbZ)) zas)
  (zae (zap (zbK (zah (zaA (K:=K) rfl) rfl T.z_isinstance zaf (zaa (qv 0) (zaa (zau (v:=V.ty "int") rfl T.z_int zc9 rfl) zab))) (zdj (zc0 (zah (zaA (K:=K) rfl) rfl T.z_isinstance zaf (zaa (qv 0) (zaa (zau (v:=V.ty "bool") rfl T.z_bool zcX rfl) zab)))))))))),?_⟩
   rcases hp with (rfl | ⟨s,rfl⟩ | ⟨n,rfl⟩) | ⟨b,xs,rfl,hb,hall⟩
   ·walk_at "w";refine⟨_,false,.of .non,rfl,rfl,?_⟩;walk_at "w";refine ifB.no rfl ?_;refine⟨_,false,.of .non,rfl,rfl,?_⟩;walk_at "w";refine ifB.no rfl ?_;refine⟨rfl,?_⟩;walk_at "w";refine ifB.yes rfl ?_;walk_at "w";refine ifB.yes rfl ?_;walk_at "w";exact h _ Sub.refl
   ·walk_at "w";refine⟨_,false,.of (.str _),rfl,rfl,?_⟩;walk_at "w";refine ifB.no rfl ?_;refine⟨_,false,.of (.str _),rfl,rfl,?_⟩;walk_at "w";refine ifB.no rfl ?_;refine⟨rfl,?_⟩;walk_at "w";refine ifB.no rfl ?_;refine⟨_,true,.of (.str _),rfl,rfl,?_⟩;walk_at "w";refine ifB.yes rfl ?_;walk_at "w";exact h _ Sub.refl
   ·walk_at "w";refine⟨_,false,.of (.int _),rfl,rfl,?_⟩;walk_at "w";refine ifB.no rfl ?_;refine⟨_,false,.of (.int _),rfl,rfl,?_⟩;walk_at "w";refine ifB.no rfl ?_;refine⟨rfl,?_⟩;walk_at "w";refine ifB.no rfl ?_;refine⟨_,false,.of (.int _),rfl,rfl,?_⟩;walk_at "w";refine ifB.no rfl ?_;refine⟨_,true,.of (.int _),rfl,rfl,?_⟩;walk_at "w";refine ifB.yes rfl ?_;refine⟨_,false,.of (.int _),rfl,rfl,?_⟩;walk_at "w";exact h _ Sub.refl
   rcases hb with hb | hb
   ·walk_at "w";refine⟨_,true,.of (.tup hb),rfl,rfl,?_⟩;walk_at "w";refine ifB.yes rfl ?_;walk_at "w";refine ifB.yes rfl ?_;walk_at "w";refine .inr ⟨⟨_,SqT.of hb⟩,?_⟩;intro pc nc;refine zcB (K:=K) (a:=b) (xs:=xs) (fun i σ H1=>∃ v,σ=[v]/\Sub H H1/\H1 pc=some (.lst [])) ?_ ?_ ?_ ?_
    ·exact⟨none,rfl,Sub.new nc,zad⟩
    ·rintro i σ H1 _ ⟨v,rfl,S1,e1⟩;exact SqT.of (S1 _ _ hb)
    ·rintro i x σ H1 hx ⟨v,rfl,S1,e1⟩;refine⟨(hall x (zo2 hx)).sub S1,fun H2 S2=>?_⟩;exact⟨_,rfl,S1.trans S2,S2 _ _ e1⟩
    rintro σ H1 ⟨v,rfl,S1,e1⟩;refine⟨_,.inl (SqL.of e1),?_⟩;walk_at "w";exact h _ S1
   ·walk_at "w";refine⟨_,false,.of (.lst hb),rfl,rfl,?_⟩;walk_at "w";refine ifB.no rfl ?_;refine⟨_,true,.of (.lst hb),rfl,rfl,?_⟩;walk_at "w";refine ifB.yes rfl ?_;walk_at "w";refine .inl ⟨⟨_,SqL.of hb⟩,?_⟩;intro pc nc;refine zat (K:=K) (a:=b) (xs:=xs) (fun i σ H1=>∃ v,σ=[v]/\Sub H H1/\H1 pc=some (.lst [])) ?_ ?_ ?_ ?_
    ·exact⟨none,rfl,Sub.new nc,zad⟩
    ·rintro i σ H1 _ ⟨v,rfl,S1,e1⟩;exact SqL.of (S1 _ _ hb)
    ·rintro i x σ H1 hx ⟨v,rfl,S1,e1⟩;refine⟨(hall x (zo2 hx)).sub S1,fun H2 S2=>?_⟩;exact⟨_,rfl,S1.trans S2,S2 _ _ e1⟩
    rintro σ H1 ⟨v,rfl,S1,e1⟩;refine⟨_,.inl (SqL.of e1),?_⟩;walk_at "w";exact h _ S1
  ·exact h.elim
theorem zcv:zao ["_law_rows","_law_signs","_law_nodes_here","_law_marks_here","_law_due","_law_found","_law_k","_law_machine","_law_row","_law_entries"] ["_law_rows","_law_signs"] (zaj zbM):=by walk_at "s"
theorem zfj (k:Nat):∀ (l:List (Ma × Int × Int)) (b:Int) (ms:List Ma),(∀ x∈l,0<=scE k x)->∃ mx,zdx k l (b,ms)=(mx,(if b=mx then ms else [])++(l.filter fun x=>decide (scE k x=mx)).map (·.1))/\b<=mx/\(∀ x∈l,scE k x<=mx)/\(b=mx\/∃ x∈l,scE k x=mx)
 | [],b,ms,_=>⟨b,by rw [zdx,zpC rfl];simp,Int.le_refl _,(fun _ h=>by cases h),.inl rfl⟩
 | x::l,b,ms,h=>by
  have hl:∀ y∈l,0<=scE k y:=fun y hy=>h y (zpg _ hy)
  rw [zdx];dsimp only;by_cases c:b<scE k x
  ·rw [zpC c];obtain⟨mx,h1,h2,h3,h4⟩:=zfj k l (scE k x) [x.1] hl;refine⟨mx,?_,by omega,fun y hy=>?_,?_⟩
   ·rw [h1,zpB (show ¬ b=mx by omega)];by_cases e:scE k x=mx
    ·rw [zpC e,List.filter_cons_of_pos (p:=fun y=>decide (scE k y=mx)) (zo3 e)];rfl
    ·rw [zpB e,List.filter_cons_of_neg (by rw [zo4 e];decide)]
   ·rcases zpG.1 hy with rfl | hy
    ·exact h2
    ·exact h3 y hy
   ·rcases h4 with h4 | ⟨y,hy,h4⟩
    ·exact .inr ⟨x,zpw ..,h4⟩
    ·exact .inr ⟨y,zpg _ hy,h4⟩
  ·rw [zpB c];by_cases e:scE k x=b
   ·rw [zpC e];obtain⟨mx,h1,h2,h3,h4⟩:=zfj k l b (ms++[x.1]) hl;refine⟨mx,?_,h2,fun y hy=>?_,?_⟩
    ·rw [h1];by_cases e2:b=mx
     ·rw [zpC e2,zpC e2,List.filter_cons_of_pos (p:=fun y=>decide (scE k y=mx)) (zo3 (show scE k x=mx by omega)),zpq,zpi];rfl
     ·rw [zpB e2,zpB e2,List.filter_cons_of_neg (by rw [zo4 (show ¬ scE k x=mx by omega)];decide)]
    ·rcases zpG.1 hy with rfl | hy
     ·omega
     ·exact h3 y hy
    ·rcases h4 with h4 | ⟨y,hy,h4⟩
     ·exact .inl h4
     ·exact .inr ⟨y,zpg _ hy,h4⟩
   ·rw [zpB e];obtain⟨mx,h1,h2,h3,h4⟩:=zfj k l b ms hl;refine⟨mx,?_,h2,fun y hy=>?_,?_⟩
    ·rw [h1,List.filter_cons_of_neg (by rw [zo4 (show ¬ scE k x=mx by omega)];decide)]
    ·rcases zpG.1 hy with rfl | hy
     ·omega
     ·exact h3 y hy
    ·rcases h4 with h4 | ⟨y,hy,h4⟩
     ·exact .inl h4
     ·exact .inr ⟨y,zpg _ hy,h4⟩
theorem zlC {m:Ma} {x:Ma × Int × Int} (h:zc8 m=some x) (k:Nat):0<=scE k x:=by
 unfold zc8 at h;split at h
 ·cases h;unfold scE
  have:1<=(tr m 200 s00).length:=by
   have:=zmq m 200 s00
   cases e:tr m 200 s00 with
   | nil=>exact (this e).elim
   | cons a l=>simp
  split
  ·show (0:Int)<=((tr m 200 s00).length:Int)-1;omega
  ·show (0:Int)<=((zaO m).2.2.length:Int);omega
 ·cases h
theorem zgt {r s:Int} (hs:zgG r s) {k:Nat} {mx mx':Int} {ms:List Ma} (h:zj5 mx ((zdb r s).map (scE k))) (hb:(mx',ms)=zdx k (zdb r s) (-1,[])):mx'=mx/\ms=((zdb r s).filter fun x=>decide (scE k x=mx)).map (·.1):=by
 have hp:∀ x∈zdb r s,0<=scE k x:=fun x hx=>by
  obtain⟨m,_,hm⟩:=List.mem_filterMap.1 hx;exact zlC hm k
 obtain⟨u,b1,b2,b3,b4⟩:=zfj k (zdb r s) (-1) [] hp;have hu:u=mx:=by
  refine zj5.one ⟨?_,fun n hn=>?_⟩ h
  ·rcases b4 with rfl | ⟨x,hx,e⟩
   ·obtain⟨x,hx⟩:=List.exists_mem_of_ne_nil _ (zgU hs)
    have:=hp x hx
    have:=b3 x hx
    omega
   ·exact zpf.2 ⟨x,hx,e⟩
  ·obtain⟨x,hx,rfl⟩:=zpf.1 hn;exact b3 x hx
 subst hu;rw [b1] at hb;injection hb with e1 e2
 refine⟨e1,e2.trans ?_⟩;split <;> rfl
theorem MsR.dens {H:Hp} {ps:List (Addr × List Addr)} {ms:List Ma} (h:MsR H ps ms):zba (zdw H) (ps.map (·.1)) ms:=by
 refine⟨by rw [zoX,h.len],fun i a m ha hm=>?_⟩;rw [zoY] at ha;obtain⟨p,hp,rfl⟩:=zo0.1 ha;exact⟨p.2,h.at' i p m hp hm⟩
theorem MzR.dens {H:Hp} {ys:List MZ} (h:MzR H ys):zba (zdw H) (ys.map (·.1.1)) (ys.map (·.2)):=by
 refine⟨by rw [zoX,zoX],fun i a m ha hm=>?_⟩;rw [zoY] at ha hm;obtain⟨p,hp,rfl⟩:=zo0.1 ha;rw [hp] at hm;cases hm;exact⟨p.1.2,h p (zo2 hp)⟩
theorem zdU {H:Hp} {q l:Addr} {mx:Int} {as:List Addr} {ms:List Ma} (hq:H q=some (.tup [.int mx,.ref l])) (hl:H l=some (.lst (as.map V.ref))) (h:zba (zdw H) as ms):Den H (.ref q) (.tup [.int mx,.lst (ms.map dM)]):=by
 have:Den H (.ref l) (.lst (ms.map dM)):=by rw [Den];exact⟨_,_,rfl,hl,zd4 (fun _ _ z=>z.den) h⟩
 rw [Den];refine⟨_,_,rfl,hq,?_⟩;rw [zcA];refine⟨_,_,rfl,by rw [Den],?_⟩;rw [zcA];exact⟨_,_,rfl,this,by rw [zcA]⟩
theorem zhv (mx:Int) (ms:List Ma):dep (.tup [.int mx,.lst (ms.map dM)])<=60:=by
 have h1:∀ m:Ma,dep (dM m)<=3:=fun m=>by
  rw [dM,dep]
  have:zgE (m.map dR)<=2:=zbt fun d hd=>by
   obtain⟨i,_,rfl⟩:=zpf.1 hd;exact zmQ
  omega
 have h2:zgE (ms.map dM)<=3:=zbt fun d hd=>by
  obtain⟨i,_,rfl⟩:=zpf.1 hd;exact h1 i
 have h3:zgE [DD.int mx,.lst (ms.map dM)]<=4:=zbt fun d hd=>by
  rcases zpG.1 hd with rfl | hd
  ·exact Nat.zero_le 4
  ·rw [zo6.1 hd,dep];omega
 rw [dep];omega
theorem ziY {r s:Int} (hs:zgG r s) {p:Ma × Int × Int->Bool} {m:Ma} (h:m∈((zdb r s).filter p).map (·.1)):isM m=true:=by
 obtain⟨x,hx,rfl⟩:=zpf.1 h;obtain⟨m,hm,he⟩:=List.mem_filterMap.1 (zph.1 hx).1;rw [zgT he];exact zd9 4 _ (zbw hs) (zda hs) m hm
theorem zkO (m:Ma) (i j:Nat) (e:En):(zb6 m i j e).map List.length=m.map List.length:=by
 unfold zb6;rw [List.map_set,zpl];refine List.ext_getElem? fun k=>?_
 rw [List.getElem?_set];split
 ·rename_i h;subst h;split
  ·rename_i h;rw [zoX] at h;rw [zoY,zoZ h,zpF,zoZ h];rfl
  ·rename_i h;rw [List.getElem?_eq_none (by omega)]
 ·rfl
theorem zeW:∀ (k:Nat) (m m':Ma),m'∈zaq k m->m'.map List.length=m.map List.length
 | 0,m,m',h=>by rw [zaq] at h;rw [zo6.1 h]
 | k+1,m,m',h=>by
  rw [zaq] at h;rcases zpG.1 h with rfl | h
  ·rfl
  ·split at h
   ·cases h
   ·obtain⟨e,_,h2⟩:=List.mem_flatMap.1 h;rw [zeW k _ m' h2,zkO]
theorem zhz {r s:Int} {p:Ma × Int × Int->Bool} {m:Ma} (h:m∈((zdb r s).filter p).map (·.1)):m.length=r.toNat/\∀ es∈m,es.length=s.toNat:=by
 obtain⟨x,hx,rfl⟩:=zpf.1 h;obtain⟨m,hm,he⟩:=List.mem_filterMap.1 (zph.1 hx).1;rw [zgT he];have e:=zeW 4 _ m hm;have e:m.map List.length=List.replicate r.toNat s.toNat:=by
  rw [e];unfold zbi;rw [List.map_replicate,List.length_replicate]
 have l:=congrArg List.length e;rw [zoX,List.length_replicate] at l;refine⟨l,fun es hes=>?_⟩
 have:es.length∈m.map List.length:=zpf.2 ⟨es,hes,rfl⟩
 rw [e] at this;exact List.eq_of_mem_replicate this
theorem ziP {xs:List V} {y:V} {s:Int} (h0:0<=s) (h:xs.length=s.toNat):zj1 (xs++[y]) (some s) none=[y]:=by
 obtain⟨n,rfl⟩:∃ n:Nat,s=n:=⟨s.toNat,by omega⟩;rw [Int.toNat_natCast] at h
 have:zj1 (xs++[y]) (some (n:Int)) none=(xs++[y]).drop n:=by
  unfold zj1;rw [show HT.sIx (xs++[y]).length (xs++[y]).length none=(xs++[y]).length from rfl,HT.sIx_nat,Nat.min_eq_left (by rw [zo7,h];omega),List.take_of_length_le (by rw [List.length_drop];omega)]
 rw [this,← h,List.drop_left]
abbrev dMk (c n:Nat):DD:=.lst ((List.range n).map fun (j:Nat)=>.lst [.int (10*c+j)])
theorem zht {H:Hp} {l:Addr} {bs:List Addr} {c n:Nat} (hl:H l=some (.lst (bs.map V.ref))) (h:zba (fun a (j:Nat)=>H a=some (.lst [.int (10*c+j)])) bs (List.range n)):Den H (.ref l) (dMk c n):=by
 rw [dMk,Den];refine⟨_,_,rfl,hl,zd4 (fun a j z=>?_) h⟩;rw [Den];refine⟨_,_,rfl,z,?_⟩;rw [zcA];exact⟨_,_,rfl,by rw [Den],by rw [zcA]⟩
theorem zk8 (c n:Nat):dep (dMk c n)<=60:=by
 rw [dMk,dep]
 have:zgE ((List.range n).map fun (j:Nat)=>DD.lst [.int (10*c+j)])<=2:=zbt fun d hd=>by
  obtain⟨i,_,rfl⟩:=zpf.1 hd;rw [dep]
  have:zgE [DD.int (10*c+i)]<=0:=zbt fun d hd=>by rw [zo6.1 hd];exact zpd 0
  omega
 omega
theorem zi7 {ps:List (Addr × List Addr)} (h:(ps.flatMap fun p=>p.1::p.2).Nodup) {k k':Nat} {p p':Addr × List Addr} (hp:ps[k]?=some p) (hp':ps[k']?=some p') {x:Addr} (hx:x∈p.1::p.2) (hx':x∈p'.1::p'.2):k=k':=by
 have h:=(List.pairwise_flatMap.1 h).2;obtain⟨hk,rfl⟩:=zo1.1 hp;obtain⟨hk',rfl⟩:=zo1.1 hp';rcases Nat.lt_trichotomy k k' with c | c | c
 ·exact ((List.pairwise_iff_getElem.1 h k k' hk hk' c) x hx x hx' rfl).elim
 ·exact c
 ·exact ((List.pairwise_iff_getElem.1 h k' k hk' hk c) x hx' x hx rfl).elim
theorem zi8 {ps:List (Addr × List Addr)} (h:(ps.flatMap fun p=>p.1::p.2).Nodup) {k:Nat} {p:Addr × List Addr} (hp:ps[k]?=some p):(p.1::p.2).Nodup:=(List.pairwise_flatMap.1 h).1 p (zo2 hp)
def MkR (H:Hp) (ps:List (Addr × List Addr)) (ms:List Ma) (f:Nat->Nat->Bool):Prop:=∀ (k:Nat) p m,ps[k]?=some p->ms[k]?=some m->H p.1=some (.lst (p.2.map V.ref))/\p.2.length=m.length/\∀ (j:Nat) a es,p.2[j]?=some a->m[j]?=some es->∃ as:List Addr,as.length=es.length/\H a=some (.lst (as.map V.ref++if f k j=true then [.int (10*k+j)] else []))
theorem MkR.stay {H H':Hp} {ps:List (Addr × List Addr)} {ms:List Ma} {f:Nat->Nat->Bool} (h:MkR H ps ms f) (S:Sub H H'):MkR H' ps ms f:=fun k p m a b=>by
 obtain⟨h1,h2,h3⟩:=h k p m a b;exact⟨S _ _ h1,h2,fun j r es c d=>by obtain⟨as,h4,h5⟩:=h3 j r es c d;exact⟨as,h4,S _ _ h5⟩⟩
theorem MkR.congr {H:Hp} {ps:List (Addr × List Addr)} {ms:List Ma} {f g:Nat->Nat->Bool} (h:MkR H ps ms f) (e:∀ k j p,ps[k]?=some p->j<p.2.length->f k j=g k j):MkR H ps ms g:=fun k p m a b=>by
 obtain⟨h1,h2,h3⟩:=h k p m a b;exact⟨h1,h2,fun j r es c d=>by rw [← e k j p a (zo1.1 c).1];exact h3 j r es c d⟩
theorem MkR.of {H:Hp} {ps:List (Addr × List Addr)} {ms:List Ma} (h:MsR H ps ms):MkR H ps ms fun _ _=>false:=fun k p m a b=>by
 obtain⟨h1,_,h2⟩:=h.at' k p m a b;exact⟨h1,h2.1,fun j r es c d=>by
  obtain⟨as,h3,h4⟩:=h2.2 j r es c d;exact⟨as,h4.1,by rw [h3];simp⟩⟩
theorem MkR.mark {H:Hp} {ps:List (Addr × List Addr)} {ms:List Ma} {f:Nat->Nat->Bool} (nd:(ps.flatMap fun p=>p.1::p.2).Nodup) (h:MkR H ps ms f) {k j:Nat} {p:Addr × List Addr} {r:Addr} {as:List Addr} (hp:ps[k]?=some p) (hr:p.2[j]?=some r) (hf:f k j=false) (hl:H r=some (.lst (as.map V.ref))) :
  MkR (upd H r (.lst (as.map V.ref++[.int (10*k+j)]))) ps ms fun k' j'=>f k' j' || (decide (k'=k) && decide (j'=j)):=fun k' p' m' a b=>by
 obtain⟨h1,h2,h3⟩:=h k' p' m' a b;have hrm:r∈p.1::p.2:=zpg _ (zo2 hr);refine⟨?_,h2,fun j' r' es c d=>?_⟩
 ·rw [zal (fun e=>?_)]
  ·exact h1
  ·have hk:k'=k:=zi7 nd a hp (x:=p'.1) (zpw ..) (by rw [e];exact hrm);subst hk;cases a.symm.trans hp
   have:=(List.nodup_cons.1 (zi8 nd hp)).1
   rw [e] at this;exact this (zo2 hr)
 ·obtain⟨as',h4,h5⟩:=h3 j' r' es c d;by_cases q:k'=k/\j'=j
  ·obtain⟨rfl,rfl⟩:=q;cases a.symm.trans hp;cases c.symm.trans hr;rw [hf,hl] at h5;have e:as=as':=zg8 (by simpa using HO.lst.inj (zpK h5));subst e;exact⟨as,h4,by rw [zad];simp⟩
  ·refine⟨as',h4,?_⟩;have ef:(f k' j' || (decide (k'=k) && decide (j'=j)))=f k' j':=by
    by_cases q1:k'=k
    ·rw [zo4 (fun q2=>q ⟨q1,q2⟩),Bool.and_false,Bool.or_false]
    ·rw [zo4 q1,Bool.false_and,Bool.or_false]
   rw [zal (fun e=>?_),h5]
   ·simp only [ef]
   ·subst e;have hk:k'=k:=zi7 nd a hp (zpg _ (zo2 c)) hrm;subst hk;cases a.symm.trans hp;refine q ⟨rfl,?_⟩;have nn:=(List.nodup_cons.1 (zi8 nd hp)).2;obtain⟨i1,e1⟩:=zo1.1 c;obtain⟨i2,e2⟩:=zo1.1 hr;exact (List.getElem_inj nn).1 (e1.trans e2.symm)
theorem zlf {H:Hp} {ps:List (Addr × List Addr)} {ms:List Ma} (M:MsR H ps ms) {q l:Addr} {mx:Int} (hl:H l=some (.lst ((ps.map (·.1)).map V.ref))) (hq:H q=some (.tup [.int mx,.ref l])):Pln H 6 (.ref q):=by
 refine .inr ⟨q,_,rfl,.inl hq,fun x hx=>?_⟩;rcases zpG.1 hx with rfl | hx
 ·exact .inl (.inr (.inr ⟨_,rfl⟩))
 rw [zo6.1 hx];refine .inr ⟨l,_,rfl,.inr hl,fun x hx=>?_⟩;obtain⟨a,ha,rfl⟩:=zpf.1 hx;obtain⟨i,hi⟩:=List.getElem?_of_mem ha;obtain⟨m,hm,rs,h1,_,h2⟩:=M.dens.at hi;refine .inr ⟨a,_,rfl,.inr h1,fun x hx=>?_⟩;obtain⟨r,hr,rfl⟩:=zpf.1 hx;obtain⟨j,hj⟩:=List.getElem?_of_mem hr;obtain⟨es,_,as,h3,h4⟩:=h2.at hj;refine .inr ⟨r,_,rfl,.inr h3,fun x hx=>?_⟩;obtain⟨c,hc,rfl⟩:=zpf.1 hx;obtain⟨n,hn⟩:=List.getElem?_of_mem hc;obtain⟨e,_,h5⟩:=h4.at hn;refine .inr ⟨c,_,rfl,.inl h5,fun x hx=>?_⟩;obtain⟨y,_,rfl⟩:=zpf.1 hx;exact .inl (.inr (.inr ⟨_,rfl⟩))
def zez:Sp:=fun vs H Q _=>match vs with
 | [.int r,.int s]=>zgG r s/\∀ H',Sub H H'->Q (.bl true) H'
 | _=>False
theorem zei (T:Tx K mg a):za3 P w K mg base CX0 15 a.l_size_right a.l_size_right_d ["_law_rows","_law_signs"] (zez):=by
 have G_l_nodes:=zin (P:=P) (w:=w) (base:=base) T;have G_l_best:=zjy (P:=P) (w:=w) (base:=base) T;have G_fullest:=zif (P:=P) (w:=w) (base:=base) T;have G_greatest:=zg1 (P:=P) (w:=w) (base:=base) T;have G_l_plainly:=zeJ (P:=P) (w:=w) (base:=base) T;refine T.q_l_size_right.f.ok zcv (fun vs H Q E h=>?_) (fun cdv A outer s H vs Q E hr h=>?_)
 ·unfold zez at h;split at h
  ·rfl
  ·exact h.elim
 ·unfold zez at h;split at h
  ·have nd:=zcv.nd;have hu:=zaD hr;rename_i r s;obtain⟨hs,h⟩:=h;obtain⟨a1,a2,a3,a4,a5⟩:=hs.bd;refine⟨_,(@zac _ _ _ _ _ (@zar _ _ 2 _ _ _ _ nd rfl (by walk_at "o") (@zan _ _ _ _ _ _ _ _ _ _ _ _ _ _ _ _ G_l_nodes (hr.mono (by decide)) rfl T.q_l_nodes.g T.q_l_nodes.f.kp T.q_l_nodes.b .nil zaw (@zaa _ _ _ _ _ (qv 0) (@zaa _ _ _ _ _ (qv 1) zab (by rfl)) (by rfl)) (by decide) (by rfl) (by rfl)) (by rfl) (by first | exact .inl rfl | exact .inr rfl | assumption)) (@zac _ _ _ _ _ (@zbp _ _ _ _ _ _ _ _ PassesOwn.never rfl (@zax _ K _ _ _ rfl (@zaR _ _ _ _ (@zaa _ _ _ _ _ zbZ (@zaa _ _ _ _ _ zbZ (@zaa _ _ _ _ _ zbZ zab (by rfl)) (by rfl)) (by rfl)))) (@zag _ _ 3 _ nd rfl (by walk_at "o") (by first | exact .inl rfl | exact .inr rfl | assumption)) (@zac _ _ _ _ _ (@zar _ _ 4 _ _ _ _ nd rfl (by walk_at "o") (@zan _ _ _ _ _ _ _ _ _ _ _ _ _ _ _ _ G_l_best (hr.mono (by decide)) rfl T.q_l_best.g T.q_l_best.f.kp T.q_l_best.b .nil zaw (@zaa _ _ _ _ _ (qv 2) (@zaa _ _ _ _ _ (qv 3) zab (by rfl)) (by rfl)) (by decide) (by rfl) (by rfl)) (by rfl) (by first | exact .inl rfl | exact .inr rfl | assumption)) (@zac _ _ _ _ _ (@zbV _ _ _ _ _ _ _ _ (@zcG _ _ _ (qv 3) (by intro _ ;rfl)) (@zae _ _ _ (@zar _ _ 5 _ _ _ _ nd rfl (by walk_at "o") (@zan _ _ _ _ _ _ _ _ _ _ _ _ _ _ _ _ G_fullest (hr.mono (by decide)) rfl T.q_fullest.g T.q_fullest.f.kp T.q_fullest.b .nil zaw (@zaa _ _ _ _ _ (qv 0) (@zaa _ _ _ _ _ (qv 1) zab (by rfl)) (by rfl)) (by decide) (by rfl) (by rfl)) (by rfl) (by first | exact .inl rfl | exact .inr rfl | assumption))) (@zae _ _ _ (@zar _ _ 5 _ _ _ _ nd rfl (by walk_at "o") (@zan _ _ _ _ _ _ _ _ _ _ _ _ _ _ _ _ G_greatest (hr.mono (by decide)) rfl T.q_greatest.g T.q_greatest.f.kp T.q_greatest.b .nil zaw (@zaa _ _ _ _ _ (qv 0) (@zaa _ _ _ _ _ (qv 1) zab (by rfl)) (by rfl)) (by decide) (by rfl) (by rfl)) (by rfl) (by first | exact .inl rfl | exact .inr rfl | assumption)))) (@zac _ _ _ _ _ (@zbV _ _ _ _ _ _ _ _ (PW.pt (@zbl _ _ _ _ _ _ _ (@zbT _ _ _ _ (@zcG _ _ _ (@zah _ _ _ _ _ _ _ _ _ (@zaA _ K rfl) rfl T.z_isinstance zaf (@zaa _ _ _ _ _ (qv 5) (@zaa _ _ _ _ _ (@zau _ _ (V.ty "tuple") _ _ rfl T.z_tuple zbG rfl (by decide) (by decide)) zab (by rfl)) (by rfl)) (by decide) (by decide) (by rfl) (by rfl)) (by intro _ ;rfl))) (@zbl _ _ _ _ _ _ _ (@zbT _ _ _ _ (@zcG _ _ _ (@zan _ _ _ _ _ _ _ _ _ _ _ _ _ _ _ _ G_l_plainly (hr.mono (by decide)) rfl T.q_l_plainly.g T.q_l_plainly.f.kp T.q_l_plainly.b .nil zaw (@zaa _ _ _ _ _ (qv 5) zab (by rfl)) (by decide) (by rfl) (by rfl)) (by intro _ ;rfl))) (@zbq _ _ _ _ (@zb1 _ _ _ _ _ _ _ _ (@zgm _ _ hr) (qv 5) (qv 4) (by first | exact zaF _ | rfl)))))) (@zae _ _ _ (@zap _ _ _ _ zbZ)) zas) (@zac _ _ _ _ _ (@zbp _ _ _ _ _ _ _ _ PassesOwn.never rfl (@zel _ _ _ _ _ _ _ _ rfl T.z_enumerate (@zaa _ _ _ _ _ (@za1 _ _ _ _ _ _ _ (@zbI _ K rfl) (qv 5) zai (fun _ _=>rfl)) zab (by rfl)) (by rfl)) (@zaM _ K _ _ _ _ 2 rfl rfl (@zam _ _ _ _ _ (@zag _ _ 6 _ nd rfl (by walk_at "o") (by first | exact .inl rfl | exact .inr rfl | assumption)) (@zam _ _ _ _ _ (@zag _ _ 7 _ nd rfl (by walk_at "o") (by first | exact .inl rfl | exact .inr rfl | assumption)) zaN (by rfl)) (by rfl)) (by rfl) (by rfl)) (@zae _ _ _ (@zbp _ _ _ _ _ _ _ _ PassesOwn.never rfl (@zel _ _ _ _ _ _ _ _ rfl T.z_enumerate (@zaa _ _ _ _ _ (qv 7) zab (by rfl)) (by rfl)) (@zaM _ K _ _ _ _ 2 rfl rfl (@zam _ _ _ _ _ (@zag _ _ 8 _ nd rfl (by walk_at "o") (by first | exact .inl rfl | exact .inr rfl | assumption)) (@zam _ _ _ _ _ (@zag _ _ 9 _ nd rfl (by walk_at "o") (by first | exact .inl rfl | exact .inr rfl | assumption)) zaN (by rfl)) (by rfl)) (by rfl) (by rfl)) (@zae _ _ _ (@zbB _ _ _ _ (@zg3 _ _ _ _ _ _ _ _ _ _ _ _ PySem.F.plainAttrs_list PySem.F.slot_list_append PySem.F.type_list_append zg6 (qv 9) (@zaa _ _ _ _ _ (@zaP _ _ _ _ _ _ _ _ zcl (@zaP _ _ _ _ _ _ _ _ zeL zai (qv 6)) (qv 8)) zab (by rfl)) (by rfl) (by rfl) (by rfl) (by rfl) (by rfl)) (by rfl))) (by intro _ ;rfl))) (by intro _ ;rfl)) (@zac _ _ _ _ _ (@zbp _ _ _ _ _ _ _ _ PassesOwn.never rfl (@zel _ _ _ _ _ _ _ _ rfl T.z_enumerate (@zaa _ _ _ _ _ (@za1 _ _ _ _ _ _ _ (@zbI _ K rfl) (qv 5) zai (fun _ _=>rfl)) zab (by rfl)) (by rfl)) (@zaM _ K _ _ _ _ 2 rfl rfl (@zam _ _ _ _ _ (@zag _ _ 6 _ nd rfl (by walk_at "o") (by first | exact .inl rfl | exact .inr rfl | assumption)) (@zam _ _ _ _ _ (@zag _ _ 7 _ nd rfl (by walk_at "o") (by first | exact .inl rfl | exact .inr rfl | assumption)) zaN (by rfl)) (by rfl)) (by rfl) (by rfl)) (@zae _ _ _ (@zbV _ _ _ _ _ _ _ _ (@zb1 _ _ _ _ _ _ _ _ (@zgm _ _ hr) (@zbx _ _ ["_law_entries"] [1] _ _ _ _ _ _ _ _ _ rfl (by walk_at "comp_ok") (@zax _ K _ _ _ rfl (qv 7)) (fun _ _ _ _=>(@zag _ _ 0 _ (show List.Nodup (α:=Str) ["_law_entries","_law_signs"] from by decide +kernel) rfl (by walk_at "o") (by first | exact .inl rfl | exact .inr rfl | assumption))) (fun _ _ _ _=>zaQ) (fun _ _ _ _=>(@zhK _ _ _ _ _ _ _ _ _ _ (@zlj _ K rfl) (qv 0) (@zg7 _ _ _ (qv 1)) zjG)) (by intro _ ;rfl)) (@zbx _ _ ["_law_row"] [6] _ _ _ _ _ _ _ _ _ rfl (by walk_at "comp_ok") (@zbd _ _ _ _ _ _ rfl T.z_range (@zaa _ _ _ _ _ (qv 0) zab (by rfl)) (by rfl)) (fun _ _ _ _=>(@zag _ _ 0 _ (show List.Nodup (α:=Str) ["_law_row","_law_k"] from by decide +kernel) rfl (by walk_at "o") (by first | exact .inl rfl | exact .inr rfl | assumption))) (fun _ _ _ _=>zaQ) (fun _ _ _ _=>(@zaR _ _ _ _ (@zaa _ _ _ _ _ (@zaP _ _ _ _ _ _ _ _ zcl (@zaP _ _ _ _ _ _ _ _ zeL zai (qv 1)) (qv 0)) zab (by rfl)))) (by intro _ ;rfl)) (by first | exact zaF _ | rfl)) (@zae _ _ _ (@zap _ _ _ _ zbZ)) zas)) (by intro _ ;rfl)) (@zae _ _ _ (@zbB _ _ _ _ (@zg3 _ _ _ _ _ _ _ _ _ _ _ _ PySem.F.plainAttrs_list PySem.F.slot_list_append PySem.F.type_list_append zg6 (@za1 _ _ _ _ _ _ _ (@zbI _ K rfl) (qv 5) zai (fun _ _=>rfl)) (@zaa _ _ _ _ _ (@zaR _ _ _ _ zab) zab (by rfl)) (by rfl) (by rfl) (by rfl) (by rfl) (by rfl)) (by rfl)))))))) (by intro _ ;rfl)) (@zae _ _ _ (@zap _ _ _ _ zbZ)))),?_⟩;refine⟨hs,fun l1 zs H1 S1 n1 e1 F1 q1=>?_⟩;have fewz:zs.length<=2000000:=by rw [← zoX (f:=fun z:FZ=>z.2.2.2),q1];exact zpc (zaH 4 _ (zbw hs)) (by decide)
   have qe:(zs.map (·.2.2.2)).filterMap zc8=zdb r s:=by rw [q1];rfl
   refine⟨by show 3<=sizeLine;decide,?_⟩;intro p2 n2;generalize U':upd _ p2 _=H2;obtain ⟨S2,e2⟩:=zak n2 U';clear U';refine⟨⟨_,SqL.of e2⟩,?_⟩;refine zbv (K:=K) (a:=p2) (xs:=[.bl false,.bl true,.bl false]) (fun i σ H3=>∃ (v3 v4 v5 v6 v7 v8 v9:Option V),σ=[some (.int r),some (.int s),some (.ref l1),v3,v4,v5,v6,v7,v8,v9]/\Sub H2 H3) ?_ ?_ ?_ ?_
   ·exact⟨none,none,none,none,none,none,none,rfl,Sub.refl⟩
   ·rintro i σ H3 _ ⟨v3,v4,v5,v6,v7,v8,v9,rfl,S3⟩;exact SqL.of (S3 _ _ e2)
   ·rintro i x σ H3 hx ⟨v3,v4,v5,v6,v7,v8,v9,rfl,S3⟩;obtain⟨b,rfl⟩:∃ b,x=.bl b:=by
     have:=zo2 hx
     rcases zpG.1 this with z | this
     ·exact⟨_,z⟩
     rcases zpG.1 this with z | this
     ·exact⟨_,z⟩
     exact⟨_,zo6.1 this⟩
    have S13:=S2.trans S3;refine⟨zs,S13 _ _ e1,F1.stay S13,fewz,fun q4 g4 mx4 ys H4 S4 hq4 hg4 My hb4=>?_⟩;rw [qe] at hb4;have S14:=S3.trans S4;walk_at "w";cases b
    ·refine ifB.no rfl ?_;refine⟨hs,fun q5 l5 mx5 ps H5 S5 n5 hx5 hq5 hl5 M5 F5 O5=>?_⟩;obtain⟨rfl,hys⟩:=zgt hs hx5 hb4;rw [← hys] at M5;refine⟨_,true,.of (.tup hq5),rfl,rfl,?_⟩;walk_at "w";refine ifB.no rfl ?_;refine⟨zlf M5 hl5 hq5,fun H6 S6=>?_⟩;walk_at "w";refine ifB.no rfl ?_;refine⟨_,_,zdU (S6 _ _ hq5) (S6 _ _ hl5) (M5.stay (.sub S6)).dens,zdU ((S5.trans S6) _ _ hq4) ((S5.trans S6) _ _ hg4) (My.stay (S5.trans S6)).dens,zhv _ _,?_⟩;rw [zbu];walk_at "w";refine ifB.no rfl ?_;have S46:=S5.trans S6;have hok:∀ m∈ys.map (·.2),isM m=true:=fun m hm=>by rw [hys] at hm;exact ziY hs hm
     have nd5:=M5.nd;have fewy:ys.length<=2000000:=by
      rw [← zoX (f:=fun z:MZ=>z.2),hys,zoX];exact zpc (List.length_filter_le _ _) (zdV hs)
     have MK6:=MkR.of (M5.stay (.sub S6));have hl6:=S6 _ _ hl5;have hq6:=S6 _ _ hq5;have len5:=M5.len;refine⟨_,_,SqT.of hq6,zaE (j:=1) rfl,?_⟩;refine⟨⟨_,SqL.of hl6⟩,?_⟩;refine zcD (K:=K) (a:=l5) (xs:=(ps.map (·.1)).map V.ref) (fun c σ H7=>∃ (v6 v7 v8 v9:Option V),σ=[some (.int r),some (.int s),some (.ref l1),some (.bl false),some (.ref q4),some (.ref q5),v6,v7,v8,v9]/\Sub H4 H7/\H7 l5=some (.lst ((ps.map (·.1)).map V.ref))/\H7 q5=some (.tup [.int mx4,.ref l5])/\MkR H7 ps (ys.map (·.2)) fun k _=>decide (k<c)) ?_ ?_ ?_ ?_
     ·exact⟨_,_,_,_,rfl,S46,hl6,hq6,MK6.congr fun k j p _ _=>by simp⟩
     ·rintro c σ H7 _ ⟨v6,v7,v8,v9,rfl,S7,g7,_⟩;exact SqL.of g7
     ·rintro c x σ H7 qt hx ⟨v6,v7,v8,v9,rfl,S7,g7,q7,MK7⟩ nq;rw [zoY,zoY] at hx;obtain⟨y,hy,rfl⟩:=zo0.1 hx;obtain⟨p,hp,rfl⟩:=zo0.1 hy;have S8:Sub H7 (upd H7 qt (.tup [.int c,.ref p.1])):=Sub.new nq;have e8:upd H7 qt (.tup [.int c,.ref p.1]) qt=some (.tup [.int c,.ref p.1]):=zad;generalize upd H7 qt (.tup [.int c,.ref p.1])=H8 at S8 e8 ⊢;have hcm:c<(ys.map (·.2)).length:=by rw [← len5];exact (zo1.1 hp).1
      have hmc:(ys.map (·.2))[c]?=some (ys.map (·.2))[c]:=zoZ hcm
      generalize (ys.map (·.2))[c]=mc at hmc
      have MK8:=MK7.stay S8;refine⟨_,SqT.of e8,rfl,?_⟩;refine⟨⟨_,SqL.of (MK8 c p mc hp hmc).1⟩,?_⟩;refine zcD (K:=K) (a:=p.1) (xs:=p.2.map V.ref) (fun d σ H9=>∃ (v8 v9:Option V),σ=[some (.int r),some (.int s),some (.ref l1),some (.bl false),some (.ref q4),some (.ref q5),some (.int c),some (.ref p.1),v8,v9]/\Sub H4 H9/\H9 l5=some (.lst ((ps.map (·.1)).map V.ref))/\H9 q5=some (.tup [.int mx4,.ref l5])/\MkR H9 ps (ys.map (·.2)) fun k j=>decide (k<c) || (decide (k=c) && decide (j<d))) ?_ ?_ ?_ ?_
      ·exact⟨_,_,rfl,S7.trans S8,S8 _ _ g7,S8 _ _ q7,MK8.congr fun k j p _ _=>by simp⟩
      ·rintro d σ H9 _ ⟨v8,v9,rfl,S9,g9,q9,MK9⟩;exact SqL.of (MK9 c p mc hp hmc).1
      ·rintro d x σ H9 qu hx ⟨v8,v9,rfl,S9,g9,q9,MK9⟩ nu;rw [zoY] at hx;obtain⟨ro,hro,rfl⟩:=zo0.1 hx;have S10:Sub H9 (upd H9 qu (.tup [.int d,.ref ro])):=Sub.new nu;have e10:upd H9 qu (.tup [.int d,.ref ro]) qu=some (.tup [.int d,.ref ro]):=zad;generalize upd H9 qu (.tup [.int d,.ref ro])=H10 at S10 e10 ⊢;have MK10:=MK9.stay S10;obtain⟨b1,b2,b3⟩:=MK10 c p mc hp hmc;have hdm:d<mc.length:=by rw [← b2];exact (zo1.1 hro).1
       have hMc:=OkM.of (hok mc (zo2 hmc));obtain⟨as,b4,b5⟩:=b3 d ro _ hro (zoZ hdm);have b6:as.length<=4:=by rw [b4,hMc.len _ (List.getElem_mem hdm)];exact hMc.s4
       have hff:(decide (c<c) || (decide (c=c) && decide (d<d)))=false:=by simp
       have b5:H10 ro=some (.lst (as.map V.ref)):=by
        rw [b5];simp
       have hrof:H4 ro=none:=F5 ro (List.mem_flatMap.2 ⟨p,zo2 hp,zpg _ (zo2 hro)⟩);have hlro:l5≠ro:=fun e=>O5 (List.mem_flatMap.2 ⟨p,zo2 hp,by rw [e];exact zpg _ (zo2 hro)⟩)
       have hqro:q5≠ro:=by rintro rfl;rw [S10 _ _ q9] at b5;cases b5
       refine⟨_,SqT.of e10,rfl,?_⟩;refine⟨.inl ⟨rfl,_,SqL.of b5⟩,?_⟩;refine⟨.inl ⟨by decide,by decide⟩,fun m hm _=>?_⟩;subst hm;refine⟨_,b5,by rw [zoX];exact zpb b6 (by decide),_,_,rfl,(S9.trans S10).upd hrof,by rw [zal hlro];exact S10 _ _ g9,by rw [zal hqro];exact S10 _ _ q9,(MkR.mark nd5 MK10 hp hro hff b5).congr fun k j p' _ _=>?_⟩;by_cases ck:k=c
       ·subst ck;by_cases cj:j=d
        ·subst cj;simp
        ·have:(j<d)=(j<d+1):=propext ⟨fun z=>by omega,fun z=>by omega⟩
         simp [cj,this]
       ·simp [ck]
      ·rintro σ H9 ⟨v8,v9,rfl,S9,g9,q9,MK9⟩;rw [zoX] at MK9;refine⟨_,_,_,_,rfl,S9,g9,q9,MK9.congr fun k j p' hp' hj=>?_⟩;by_cases ck:k=c
       ·subst ck;cases hp.symm.trans hp';simp [hj]
       ·simp [ck];omega
     ·rintro σ H7 ⟨v6,v7,v8,v9,rfl,S7,g7,q7,MK7⟩;rw [zoX,zoX] at MK7;have MT7:MkR H7 ps (ys.map (·.2)) fun _ _=>true:=MK7.congr fun k j p hp _=>by simp [(zo1.1 hp).1]
      refine⟨_,_,SqT.of q7,zaE (j:=1) rfl,?_⟩;refine⟨⟨_,SqL.of g7⟩,?_⟩;refine zcD (K:=K) (a:=l5) (xs:=(ps.map (·.1)).map V.ref) (fun c σ H8=>∃ (v6 v7 v8 v9:Option V),σ=[some (.int r),some (.int s),some (.ref l1),some (.bl false),some (.ref q4),some (.ref q5),v6,v7,v8,v9]/\Sub H7 H8) ?_ ?_ ?_ ?_
      ·exact⟨_,_,_,_,rfl,Sub.refl⟩
      ·rintro c σ H8 _ ⟨v6,v7,v8,v9,rfl,S8⟩;exact SqL.of (S8 _ _ g7)
      ·rintro c x σ H8 qt hx ⟨v6,v7,v8,v9,rfl,S8⟩ nq;rw [zoY,zoY] at hx;obtain⟨y,hy,rfl⟩:=zo0.1 hx;obtain⟨p,hp,rfl⟩:=zo0.1 hy;have S9:Sub H8 (upd H8 qt (.tup [.int c,.ref p.1])):=Sub.new nq;have e9:upd H8 qt (.tup [.int c,.ref p.1]) qt=some (.tup [.int c,.ref p.1]):=zad;generalize upd H8 qt (.tup [.int c,.ref p.1])=H9 at S9 e9 ⊢;have hcm:c<(ys.map (·.2)).length:=by rw [← len5];exact (zo1.1 hp).1
       have hmc:(ys.map (·.2))[c]?=some (ys.map (·.2))[c]:=zoZ hcm
       generalize (ys.map (·.2))[c]=mc at hmc
       obtain⟨b1,b2,b3⟩:=(MT7.stay (S8.trans S9)) c p mc hp hmc;have hdim:mc.length=r.toNat/\∀ es∈mc,es.length=s.toNat:=by have:=zo2 hmc;rw [hys] at this;exact zhz this
       refine⟨_,SqT.of e9,rfl,?_⟩;refine⟨⟨_,SqL.of b1⟩,?_⟩;intro pc npc;refine zat (K:=K) (a:=p.1) (xs:=p.2.map V.ref) (fun d σ H10=>∃ (v:Option V) (bs:List Addr),σ=[v,some (.int s)]/\Sub H9 H10/\H10 pc=some (.lst (bs.map V.ref))/\(∀ a∈bs,a≠pc)/\zba (fun a (j:Nat)=>H10 a=some (.lst [.int (10*c+j)])) bs (List.range d)) ?_ ?_ ?_ ?_
       ·exact⟨none,[],rfl,Sub.new npc,zad,by simp,.nil⟩
       ·rintro d σ H10 _ ⟨v,bs,rfl,S10,_⟩;exact SqL.of (S10 _ _ b1)
       ·rintro d x σ H10 hd ⟨v,bs,rfl,S10,g10,N10,A10⟩;rw [zoY] at hd;obtain⟨ro,hro,rfl⟩:=zo0.1 hd;have hdm:d<mc.length:=by rw [← b2];exact (zo1.1 hro).1
        obtain⟨as,b4,b5⟩:=b3 d ro _ hro (zoZ hdm);have b6:as.length=s.toNat:=by rw [b4];exact hdim.2 _ (List.getElem_mem hdm)
        have b5:H10 ro=some (.lst (as.map V.ref++[.int (10*c+d)])):=by rw [S10 _ _ b5];rfl
        refine⟨_,SqL.of b5,?_⟩;intro p11 n11;generalize U':upd _ p11 _=H11;obtain ⟨S11,e11⟩:=zak n11 U';clear U';rw [ziP (by omega) (by rw [zoX,b6])] at e11;walk_at "w";have hne:p11≠pc:=by rintro rfl;rw [g10] at n11;cases n11
        refine⟨_,S11 _ _ g10,?_,_,bs++[p11],rfl,(S10.trans S11).upd npc,?_,?_,?_⟩
        ·rw [zoX,A10.1,List.length_range];exact zpb (show d<=10 by omega) (by decide)
        ·rw [zad,zo5];rfl
        ·intro a ha;rcases zo8.1 ha with ha | ha
         ·exact N10 a ha
         ·rw [zo6.1 ha];exact hne
        ·rw [List.range_succ];refine zba.app (A10.mono fun a j ha z=>?_) ?_
         ·rw [zal (N10 a ha)];exact S11 _ _ z
         ·rw [zal hne];exact e11
       rintro σ H10 ⟨v,bs,rfl,S10,g10,N10,A10⟩;rw [zoX,b2] at A10;refine⟨⟨by omega,by omega⟩,?_⟩;intro pd npd;refine zbQ (lo:=0) (n:=r.toNat) (fun d σ H11=>∃ (v:Option V) (cs:List Addr),σ=[v,some (.int c)]/\Sub H10 H11/\H11 pd=some (.lst (cs.map V.ref))/\(∀ a∈cs,a≠pd)/\zba (fun a (j:Nat)=>H11 a=some (.lst [.int (10*c+j)])) cs (List.range d)) ?_ ?_ ?_
       ·exact⟨none,[],rfl,Sub.new npd,zad,by simp,.nil⟩
       ·rintro d σ H11 hd ⟨v,cs,rfl,S11,g11,N11,A11⟩;refine⟨.inl ⟨by decide,by decide⟩,fun m hm _=>?_⟩;subst hm;refine⟨by show 1<=sizeLine;decide,?_⟩;intro p12 n12;generalize U':upd _ p12 _=H12;obtain ⟨S12,e12⟩:=zak n12 U';clear U';walk_at "w";have hne:p12≠pd:=by rintro rfl;rw [g11] at n12;cases n12
        refine⟨_,S12 _ _ g11,?_,_,cs++[p12],rfl,(S11.trans S12).upd npd,?_,?_,?_⟩
        ·rw [zoX,A11.1,List.length_range];exact zpb (show d<=10 by omega) (by decide)
        ·rw [zad,zo5];rfl
        ·intro a ha;rcases zo8.1 ha with ha | ha
         ·exact N11 a ha
         ·rw [zo6.1 ha];exact hne
        ·rw [List.range_succ];refine zba.app (A11.mono fun a j ha z=>?_) ?_
         ·rw [zal (N11 a ha)];exact S12 _ _ z
         ·rw [zal hne,e12];show some (HO.lst [V.int (10*(c:Int)+(0+(d:Int)))])=_;rw [Int.zero_add]
       ·rintro σ H11 ⟨v,cs,rfl,S11,g11,N11,A11⟩;rw [hdim.1] at A10;refine⟨_,_,zht (S11 _ _ g10) (A10.mono fun _ _ _ z=>S11 _ _ z),zht g11 A11,zk8 _ _,?_⟩;rw [zbu];walk_at "w";refine ifB.no rfl ?_;walk_at "w";exact⟨_,_,_,_,rfl,((S8.trans S9).trans S10).trans S11⟩
      ·rintro σ H8 ⟨v6,v7,v8,v9,rfl,S8⟩;refine⟨_,_,SqT.of (S8 _ _ q7),zaE (j:=1) rfl,?_⟩;refine⟨.inl ⟨rfl,_,SqL.of (S8 _ _ g7)⟩,?_⟩;refine⟨Nat.zero_le _,?_⟩;intro p9 n9;generalize U':upd _ p9 _=H9;obtain ⟨S9,e9⟩:=zak n9 U';clear U';refine⟨_,S9 _ _ (S8 _ _ g7),?_,_,_,_,_,_,_,_,rfl,S14.trans (((S7.trans S8).trans S9).upd n5)⟩;rw [zoX,zoX,len5,zoX];exact zpb fewy (by decide)
    ·refine ifB.yes rfl ?_;refine⟨hs,fun q5 l5 mx5 ps H5 S5 n5 hx5 hq5 hl5 M5 F5 O5=>?_⟩;obtain⟨rfl,hys⟩:=zgt hs hx5 hb4;rw [← hys] at M5;refine⟨_,true,.of (.tup hq5),rfl,rfl,?_⟩;walk_at "w";refine ifB.no rfl ?_;refine⟨zlf M5 hl5 hq5,fun H6 S6=>?_⟩;walk_at "w";refine ifB.no rfl ?_;refine⟨_,_,zdU (S6 _ _ hq5) (S6 _ _ hl5) (M5.stay (.sub S6)).dens,zdU ((S5.trans S6) _ _ hq4) ((S5.trans S6) _ _ hg4) (My.stay (S5.trans S6)).dens,zhv _ _,?_⟩;rw [zbu];walk_at "w";refine ifB.no rfl ?_;have S46:=S5.trans S6;have hok:∀ m∈ys.map (·.2),isM m=true:=fun m hm=>by rw [hys] at hm;exact ziY hs hm
     have nd5:=M5.nd;have fewy:ys.length<=2000000:=by
      rw [← zoX (f:=fun z:MZ=>z.2),hys,zoX];exact zpc (List.length_filter_le _ _) (zdV hs)
     have MK6:=MkR.of (M5.stay (.sub S6));have hl6:=S6 _ _ hl5;have hq6:=S6 _ _ hq5;have len5:=M5.len;refine⟨_,_,SqT.of hq6,zaE (j:=1) rfl,?_⟩;refine⟨⟨_,SqL.of hl6⟩,?_⟩;refine zcD (K:=K) (a:=l5) (xs:=(ps.map (·.1)).map V.ref) (fun c σ H7=>∃ (v6 v7 v8 v9:Option V),σ=[some (.int r),some (.int s),some (.ref l1),some (.bl true),some (.ref q4),some (.ref q5),v6,v7,v8,v9]/\Sub H4 H7/\H7 l5=some (.lst ((ps.map (·.1)).map V.ref))/\H7 q5=some (.tup [.int mx4,.ref l5])/\MkR H7 ps (ys.map (·.2)) fun k _=>decide (k<c)) ?_ ?_ ?_ ?_
     ·exact⟨_,_,_,_,rfl,S46,hl6,hq6,MK6.congr fun k j p _ _=>by simp⟩
     ·rintro c σ H7 _ ⟨v6,v7,v8,v9,rfl,S7,g7,_⟩;exact SqL.of g7
     ·rintro c x σ H7 qt hx ⟨v6,v7,v8,v9,rfl,S7,g7,q7,MK7⟩ nq;rw [zoY,zoY] at hx;obtain⟨y,hy,rfl⟩:=zo0.1 hx;obtain⟨p,hp,rfl⟩:=zo0.1 hy;have S8:Sub H7 (upd H7 qt (.tup [.int c,.ref p.1])):=Sub.new nq;have e8:upd H7 qt (.tup [.int c,.ref p.1]) qt=some (.tup [.int c,.ref p.1]):=zad;generalize upd H7 qt (.tup [.int c,.ref p.1])=H8 at S8 e8 ⊢;have hcm:c<(ys.map (·.2)).length:=by rw [← len5];exact (zo1.1 hp).1
      have hmc:(ys.map (·.2))[c]?=some (ys.map (·.2))[c]:=zoZ hcm
      generalize (ys.map (·.2))[c]=mc at hmc
      have MK8:=MK7.stay S8;refine⟨_,SqT.of e8,rfl,?_⟩;refine⟨⟨_,SqL.of (MK8 c p mc hp hmc).1⟩,?_⟩;refine zcD (K:=K) (a:=p.1) (xs:=p.2.map V.ref) (fun d σ H9=>∃ (v8 v9:Option V),σ=[some (.int r),some (.int s),some (.ref l1),some (.bl true),some (.ref q4),some (.ref q5),some (.int c),some (.ref p.1),v8,v9]/\Sub H4 H9/\H9 l5=some (.lst ((ps.map (·.1)).map V.ref))/\H9 q5=some (.tup [.int mx4,.ref l5])/\MkR H9 ps (ys.map (·.2)) fun k j=>decide (k<c) || (decide (k=c) && decide (j<d))) ?_ ?_ ?_ ?_
      ·exact⟨_,_,rfl,S7.trans S8,S8 _ _ g7,S8 _ _ q7,MK8.congr fun k j p _ _=>by simp⟩
      ·rintro d σ H9 _ ⟨v8,v9,rfl,S9,g9,q9,MK9⟩;exact SqL.of (MK9 c p mc hp hmc).1
      ·rintro d x σ H9 qu hx ⟨v8,v9,rfl,S9,g9,q9,MK9⟩ nu;rw [zoY] at hx;obtain⟨ro,hro,rfl⟩:=zo0.1 hx;have S10:Sub H9 (upd H9 qu (.tup [.int d,.ref ro])):=Sub.new nu;have e10:upd H9 qu (.tup [.int d,.ref ro]) qu=some (.tup [.int d,.ref ro]):=zad;generalize upd H9 qu (.tup [.int d,.ref ro])=H10 at S10 e10 ⊢;have MK10:=MK9.stay S10;obtain⟨b1,b2,b3⟩:=MK10 c p mc hp hmc;have hdm:d<mc.length:=by rw [← b2];exact (zo1.1 hro).1
       have hMc:=OkM.of (hok mc (zo2 hmc));obtain⟨as,b4,b5⟩:=b3 d ro _ hro (zoZ hdm);have b6:as.length<=4:=by rw [b4,hMc.len _ (List.getElem_mem hdm)];exact hMc.s4
       have hff:(decide (c<c) || (decide (c=c) && decide (d<d)))=false:=by simp
       have b5:H10 ro=some (.lst (as.map V.ref)):=by
        rw [b5];simp
       have hrof:H4 ro=none:=F5 ro (List.mem_flatMap.2 ⟨p,zo2 hp,zpg _ (zo2 hro)⟩);have hlro:l5≠ro:=fun e=>O5 (List.mem_flatMap.2 ⟨p,zo2 hp,by rw [e];exact zpg _ (zo2 hro)⟩)
       have hqro:q5≠ro:=by rintro rfl;rw [S10 _ _ q9] at b5;cases b5
       refine⟨_,SqT.of e10,rfl,?_⟩;refine⟨.inl ⟨rfl,_,SqL.of b5⟩,?_⟩;refine⟨.inl ⟨by decide,by decide⟩,fun m hm _=>?_⟩;subst hm;refine⟨_,b5,by rw [zoX];exact zpb b6 (by decide),_,_,rfl,(S9.trans S10).upd hrof,by rw [zal hlro];exact S10 _ _ g9,by rw [zal hqro];exact S10 _ _ q9,(MkR.mark nd5 MK10 hp hro hff b5).congr fun k j p' _ _=>?_⟩;by_cases ck:k=c
       ·subst ck;by_cases cj:j=d
        ·subst cj;simp
        ·have:(j<d)=(j<d+1):=propext ⟨fun z=>by omega,fun z=>by omega⟩
         simp [cj,this]
       ·simp [ck]
      ·rintro σ H9 ⟨v8,v9,rfl,S9,g9,q9,MK9⟩;rw [zoX] at MK9;refine⟨_,_,_,_,rfl,S9,g9,q9,MK9.congr fun k j p' hp' hj=>?_⟩;by_cases ck:k=c
       ·subst ck;cases hp.symm.trans hp';simp [hj]
       ·simp [ck];omega
     ·rintro σ H7 ⟨v6,v7,v8,v9,rfl,S7,g7,q7,MK7⟩;rw [zoX,zoX] at MK7;have MT7:MkR H7 ps (ys.map (·.2)) fun _ _=>true:=MK7.congr fun k j p hp _=>by simp [(zo1.1 hp).1]
      refine⟨_,_,SqT.of q7,zaE (j:=1) rfl,?_⟩;refine⟨⟨_,SqL.of g7⟩,?_⟩;refine zcD (K:=K) (a:=l5) (xs:=(ps.map (·.1)).map V.ref) (fun c σ H8=>∃ (v6 v7 v8 v9:Option V),σ=[some (.int r),some (.int s),some (.ref l1),some (.bl true),some (.ref q4),some (.ref q5),v6,v7,v8,v9]/\Sub H7 H8) ?_ ?_ ?_ ?_
      ·exact⟨_,_,_,_,rfl,Sub.refl⟩
      ·rintro c σ H8 _ ⟨v6,v7,v8,v9,rfl,S8⟩;exact SqL.of (S8 _ _ g7)
      ·rintro c x σ H8 qt hx ⟨v6,v7,v8,v9,rfl,S8⟩ nq;rw [zoY,zoY] at hx;obtain⟨y,hy,rfl⟩:=zo0.1 hx;obtain⟨p,hp,rfl⟩:=zo0.1 hy;have S9:Sub H8 (upd H8 qt (.tup [.int c,.ref p.1])):=Sub.new nq;have e9:upd H8 qt (.tup [.int c,.ref p.1]) qt=some (.tup [.int c,.ref p.1]):=zad;generalize upd H8 qt (.tup [.int c,.ref p.1])=H9 at S9 e9 ⊢;have hcm:c<(ys.map (·.2)).length:=by rw [← len5];exact (zo1.1 hp).1
       have hmc:(ys.map (·.2))[c]?=some (ys.map (·.2))[c]:=zoZ hcm
       generalize (ys.map (·.2))[c]=mc at hmc
       obtain⟨b1,b2,b3⟩:=(MT7.stay (S8.trans S9)) c p mc hp hmc;have hdim:mc.length=r.toNat/\∀ es∈mc,es.length=s.toNat:=by have:=zo2 hmc;rw [hys] at this;exact zhz this
       refine⟨_,SqT.of e9,rfl,?_⟩;refine⟨⟨_,SqL.of b1⟩,?_⟩;intro pc npc;refine zat (K:=K) (a:=p.1) (xs:=p.2.map V.ref) (fun d σ H10=>∃ (v:Option V) (bs:List Addr),σ=[v,some (.int s)]/\Sub H9 H10/\H10 pc=some (.lst (bs.map V.ref))/\(∀ a∈bs,a≠pc)/\zba (fun a (j:Nat)=>H10 a=some (.lst [.int (10*c+j)])) bs (List.range d)) ?_ ?_ ?_ ?_
       ·exact⟨none,[],rfl,Sub.new npc,zad,by simp,.nil⟩
       ·rintro d σ H10 _ ⟨v,bs,rfl,S10,_⟩;exact SqL.of (S10 _ _ b1)
       ·rintro d x σ H10 hd ⟨v,bs,rfl,S10,g10,N10,A10⟩;rw [zoY] at hd;obtain⟨ro,hro,rfl⟩:=zo0.1 hd;have hdm:d<mc.length:=by rw [← b2];exact (zo1.1 hro).1
        obtain⟨as,b4,b5⟩:=b3 d ro _ hro (zoZ hdm);have b6:as.length=s.toNat:=by rw [b4];exact hdim.2 _ (List.getElem_mem hdm)
        have b5:H10 ro=some (.lst (as.map V.ref++[.int (10*c+d)])):=by rw [S10 _ _ b5];rfl
        refine⟨_,SqL.of b5,?_⟩;intro p11 n11;generalize U':upd _ p11 _=H11;obtain ⟨S11,e11⟩:=zak n11 U';clear U';rw [ziP (by omega) (by rw [zoX,b6])] at e11;walk_at "w";have hne:p11≠pc:=by rintro rfl;rw [g10] at n11;cases n11
        refine⟨_,S11 _ _ g10,?_,_,bs++[p11],rfl,(S10.trans S11).upd npc,?_,?_,?_⟩
        ·rw [zoX,A10.1,List.length_range];exact zpb (show d<=10 by omega) (by decide)
        ·rw [zad,zo5];rfl
        ·intro a ha;rcases zo8.1 ha with ha | ha
         ·exact N10 a ha
         ·rw [zo6.1 ha];exact hne
        ·rw [List.range_succ];refine zba.app (A10.mono fun a j ha z=>?_) ?_
         ·rw [zal (N10 a ha)];exact S11 _ _ z
         ·rw [zal hne];exact e11
       rintro σ H10 ⟨v,bs,rfl,S10,g10,N10,A10⟩;rw [zoX,b2] at A10;refine⟨⟨by omega,by omega⟩,?_⟩;intro pd npd;refine zbQ (lo:=0) (n:=r.toNat) (fun d σ H11=>∃ (v:Option V) (cs:List Addr),σ=[v,some (.int c)]/\Sub H10 H11/\H11 pd=some (.lst (cs.map V.ref))/\(∀ a∈cs,a≠pd)/\zba (fun a (j:Nat)=>H11 a=some (.lst [.int (10*c+j)])) cs (List.range d)) ?_ ?_ ?_
       ·exact⟨none,[],rfl,Sub.new npd,zad,by simp,.nil⟩
       ·rintro d σ H11 hd ⟨v,cs,rfl,S11,g11,N11,A11⟩;refine⟨.inl ⟨by decide,by decide⟩,fun m hm _=>?_⟩;subst hm;refine⟨by show 1<=sizeLine;decide,?_⟩;intro p12 n12;generalize U':upd _ p12 _=H12;obtain ⟨S12,e12⟩:=zak n12 U';clear U';walk_at "w";have hne:p12≠pd:=by rintro rfl;rw [g11] at n12;cases n12
        refine⟨_,S12 _ _ g11,?_,_,cs++[p12],rfl,(S11.trans S12).upd npd,?_,?_,?_⟩
        ·rw [zoX,A11.1,List.length_range];exact zpb (show d<=10 by omega) (by decide)
        ·rw [zad,zo5];rfl
        ·intro a ha;rcases zo8.1 ha with ha | ha
         ·exact N11 a ha
         ·rw [zo6.1 ha];exact hne
        ·rw [List.range_succ];refine zba.app (A11.mono fun a j ha z=>?_) ?_
         ·rw [zal (N11 a ha)];exact S12 _ _ z
         ·rw [zal hne,e12];show some (HO.lst [V.int (10*(c:Int)+(0+(d:Int)))])=_;rw [Int.zero_add]
       ·rintro σ H11 ⟨v,cs,rfl,S11,g11,N11,A11⟩;rw [hdim.1] at A10;refine⟨_,_,zht (S11 _ _ g10) (A10.mono fun _ _ _ z=>S11 _ _ z),zht g11 A11,zk8 _ _,?_⟩;rw [zbu];walk_at "w";refine ifB.no rfl ?_;walk_at "w";exact⟨_,_,_,_,rfl,((S8.trans S9).trans S10).trans S11⟩
      ·rintro σ H8 ⟨v6,v7,v8,v9,rfl,S8⟩;refine⟨_,_,SqT.of (S8 _ _ q7),zaE (j:=1) rfl,?_⟩;refine⟨.inl ⟨rfl,_,SqL.of (S8 _ _ g7)⟩,?_⟩;refine⟨Nat.zero_le _,?_⟩;intro p9 n9;generalize U':upd _ p9 _=H9;obtain ⟨S9,e9⟩:=zak n9 U';clear U';refine⟨_,S9 _ _ (S8 _ _ g7),?_,_,_,_,_,_,_,_,rfl,S14.trans (((S7.trans S8).trans S9).upd n5)⟩;rw [zoX,zoX,len5,zoX];exact zpb fewy (by decide)
   rintro σ H3 ⟨v3,v4,v5,v6,v7,v8,v9,rfl,S3⟩;walk_at "w";exact h H3 ((S1.trans S2).trans S3)
  ·exact h.elim
theorem zlk:zao ["_law_script","_law_rows","_law_signs"] ["_law_script"] (zaj zmj):=by walk_at "s"
def zff (K:PySem.W.Frag):Sp:=fun vs H Q _=>match vs with
 | [.ref b]=>∃ ns:List Int,SqL K H b (ns.map V.int)/\ns.length<=63/\∀ H',Q (.bl true) H'
 | _=>False
theorem znd (T:Tx K mg a):za3 P w K mg base CX0 16 a.law a.law_d ["_law_script"] (zff K):=by
 have G_l_purse:=zio (P:=P) (w:=w) (base:=base) T;have G_l_draw:=zjz (P:=P) (w:=w) (base:=base) T;have G_l_size_right:=zei (P:=P) (w:=w) (base:=base) T;refine T.q_law.f.ok zlk (fun vs H Q E h=>?_) (fun cdv A outer s H vs Q E hr h=>?_)
 ·unfold zff at h;split at h
  ·rfl
  ·exact h.elim
 ·unfold zff at h;split at h
  ·have nd:=zlk.nd;have hu:=zaD hr;rename_i b;obtain⟨ns,hb,hl,h⟩:=h;refine⟨_,(@zac _ _ _ _ _ (@zck _ _ _ _ _ _ (@za1 _ _ _ _ _ _ _ (@za2 _ K rfl) (@zaR _ _ _ _ (@zaa _ _ _ _ _ (@zaG _ _ _ _ _ (@zaa _ _ _ _ _ zai (@zaa _ _ _ _ _ zai zab (by rfl)) (by rfl))) (@zaa _ _ _ _ _ (@zaG _ _ _ _ _ (@zaa _ _ _ _ _ zai (@zaa _ _ _ _ _ zai zab (by rfl)) (by rfl))) (@zaa _ _ _ _ _ (@zaG _ _ _ _ _ (@zaa _ _ _ _ _ zai (@zaa _ _ _ _ _ zai zab (by rfl)) (by rfl))) (@zaa _ _ _ _ _ (@zaG _ _ _ _ _ (@zaa _ _ _ _ _ zai (@zaa _ _ _ _ _ zai zab (by rfl)) (by rfl))) zab (by rfl)) (by rfl)) (by rfl)) (by rfl))) (@zan _ _ _ _ _ _ _ _ _ _ _ _ _ _ _ _ G_l_draw (hr.mono (by decide)) rfl T.q_l_draw.g T.q_l_draw.f.kp T.q_l_draw.b .nil zaw (@zaa _ _ _ _ _ (@zan _ _ _ _ _ _ _ _ _ _ _ _ _ _ _ _ G_l_purse (hr.mono (by decide)) rfl T.q_l_purse.g T.q_l_purse.f.kp T.q_l_purse.b .nil zaw (@zaa _ _ _ _ _ (qv 0) zab (by rfl)) (by decide) (by rfl) (by rfl)) (@zaa _ _ _ _ _ zai zab (by rfl)) (by rfl)) (by decide) (by rfl) (by rfl)) (fun _ _=>rfl)) (@zaM _ K _ _ _ _ 2 rfl rfl (@zam _ _ _ _ _ (@zag _ _ 1 _ nd rfl (by walk_at "o") (by first | exact .inl rfl | exact .inr rfl | assumption)) (@zam _ _ _ _ _ (@zag _ _ 2 _ nd rfl (by walk_at "o") (by first | exact .inl rfl | exact .inr rfl | assumption)) zaN (by rfl)) (by rfl)) (by rfl) (by rfl)) (by rfl) (by rfl) (by rfl)) (@zae _ _ _ (@zap _ _ _ _ (@zan _ _ _ _ _ _ _ _ _ _ _ _ _ _ _ _ G_l_size_right (hr.mono (by decide)) rfl T.q_l_size_right.g T.q_l_size_right.f.kp T.q_l_size_right.b .nil zaw (@zaa _ _ _ _ _ (qv 1) (@zaa _ _ _ _ _ (qv 2) zab (by rfl)) (by rfl)) (by decide) (by rfl) (by rfl))))),?_⟩;refine⟨by show 2<=sizeLine;decide,?_⟩;intro p1 n1;generalize U':upd _ p1 _=H1;obtain ⟨S1,e1⟩:=zak n1 U';clear U';refine⟨by show 2<=sizeLine;decide,?_⟩;intro p2 n2;generalize U':upd _ p2 _=H2;obtain ⟨S2,e2⟩:=zak n2 U';clear U';refine⟨by show 2<=sizeLine;decide,?_⟩;intro p3 n3;generalize U':upd _ p3 _=H3;obtain ⟨S3,e3⟩:=zak n3 U';clear U';refine⟨by show 2<=sizeLine;decide,?_⟩;intro p4 n4;generalize U':upd _ p4 _=H4;obtain ⟨S4,e4⟩:=zak n4 U';clear U';refine⟨by show 4<=sizeLine;decide,?_⟩;intro p5 n5;generalize U':upd _ p5 _=H5;obtain ⟨S5,e5⟩:=zak n5 U';clear U';have S15:=(((S1.trans S2).trans S3).trans S4).trans S5;refine⟨ns,hb.imp (fun z=>z.imp (S15 _ _) fun ⟨o,z⟩=>⟨o,S15 _ _ z⟩) id,hl,fun pp H6 n k S6 n6 e6=>?_⟩;refine⟨by decide,n,k,e6,fun d n7 d0 d1=>?_⟩;have kp:∀ a o,H5 a=some o->upd H6 pp (.lst [.int n7,.int k]) a=some o:=fun a o z=>by
    rw [zal (by rintro rfl;rw [n6] at z;cases z)];exact S6 _ _ z
   generalize upd H6 pp (.lst [.int n7,.int k])=H7 at kp ⊢;have t1:=kp _ _ (S5 _ _ (S4 _ _ (S3 _ _ (S2 _ _ e1))));have t2:=kp _ _ (S5 _ _ (S4 _ _ (S3 _ _ e2)));have t3:=kp _ _ (S5 _ _ (S4 _ _ e3));have t4:=kp _ _ (S5 _ _ e4);have t5:=kp _ _ e5;have hd:d=0\/d=1\/d=2\/d=3:=by omega
   rcases hd with rfl | rfl | rfl | rfl
   ·walk_at "w";refine⟨_,_,SqL.of t5,zaE (j:=0) rfl,?_⟩;refine⟨_,SqT.of t1,rfl,?_⟩;walk_at "w";exact⟨.inl ⟨rfl,rfl⟩,fun H8 _=>h H8⟩
   ·walk_at "w";refine⟨_,_,SqL.of t5,zaE (j:=1) rfl,?_⟩;refine⟨_,SqT.of t2,rfl,?_⟩;walk_at "w";exact⟨.inr ⟨rfl,.inl rfl⟩,fun H8 _=>h H8⟩
   ·walk_at "w";refine⟨_,_,SqL.of t5,zaE (j:=2) rfl,?_⟩;refine⟨_,SqT.of t3,rfl,?_⟩;walk_at "w";exact⟨.inr ⟨rfl,.inr (.inl rfl)⟩,fun H8 _=>h H8⟩
   ·walk_at "w";refine⟨_,_,SqL.of t5,zaE (j:=3) rfl,?_⟩;refine⟨_,SqT.of t4,rfl,?_⟩;walk_at "w";exact⟨.inr ⟨rfl,.inr (.inr rfl)⟩,fun H8 _=>h H8⟩
  ·exact h.elim
end
open PySem.W in
theorem all_mk {l:OpenLaw} {w:World} {K:Frag} {h:Heap} {mg:Str->Option Value} {fa:Addr} {tk_MOST_ROWS tk_LEAST_SIGNS tk_MOST_SIGNS tk_MOST_STEPS tk_MOST_ENTRIES:Tok} {xZ0 xZ1 xZ2 xZ3 xZ4 xZ5 xZ6 xZ7 xZ8 xZ9 xZ10 xZ11 xZ12 xZ13 xZ14 xZ15 xZ16 xZ17 xZ18 xZ19 xZ20 xZ21 xZ22 xZ23 xZ24 xZ25 xZ30 xZ31 xZ32 xZ33 xZ34 xZ35 xZ36 xZ37 xZ38 xZ39 xZ40 xZ47 xZ48 xZ49 x_MillError x_NoMachine x_NoSize x_Walk:Addr} (X:K.In h) (G:h.Ns mainGlobals mg) (hfa:mg "law"=some (.ref fa))
  {d_l_mixed d_l_draw d_l_purse d_is_entry d_is_row d_is_machine d_must_machine d_Walk___init__ d_Walk_look d_Walk_entry d_Walk_mark d_Walk_step d_Walk_setup d_first_setup d_begun d_run d_looks d_entries_in d_must_size d_first_machine d_full_entries d_signs_named d_rows_named d_new_entries d_with_entry d_end_of d_grown d_ended_nodes d_foremost d_greatest d_fullest d_l_named_things d_l_met d_l_children d_l_nodes d_l_marks d_l_best d_l_plainly d_l_size_right d_law:FuncData}
  {cx_MillError cx_NoMachine cx_NoSize:ClassData}
  (a_Walk:nsIn K mainGlobals "Walk"=some (some (.ref x_Walk)))
  (pg_Walk:plainGet K x_Walk Str.empty=true)
  (hd_Walk:hasDictIn K x_Walk=true)
  (po_Walk:plainOver K x_Walk=true)
  (sa_Walk:findIn K (.ref x_Walk) "__setattr__"=some (some (.builtin "object.__setattr__")))
  (mk_Walk:makesIn K x_Walk=true)
  (kc_Walk:keepIn K (.ref x_Walk)=true)
  (n_Walk_table:findIn K (.ref x_Walk) "table"=some none)
  (n_Walk_row:findIn K (.ref x_Walk) "row"=some none)
  (n_Walk_place:findIn K (.ref x_Walk) "place"=some none)
  (n_Walk_marks:findIn K (.ref x_Walk) "marks"=some none)
  (f_l_mixed:FT K mg "_law_mixed" zeo xZ0 d_l_mixed ["_law_cell","_law_k"])
  (f_l_draw:FT K mg "_law_draw" zfO xZ1 d_l_draw ["_law_purse_here","_law_out_of"])
  (f_l_purse:FT K mg "_law_purse" zeq xZ2 d_l_purse ["_law_script"])
  (f_is_entry:FT K mg "is_entry" zdG xZ3 d_is_entry ["entry","rows","signs"])
  (f_is_row:FT K mg "is_row" zfM xZ4 d_is_row ["row","rows","signs"])
  (f_is_machine:FT K mg "is_machine" zcq xZ5 d_is_machine ["machine"])
  (f_must_machine:FT K mg "must_machine" zbN xZ6 d_must_machine ["machine"])
  (aZ7:findIn K (.ref x_Walk) "__init__"=some (some (.ref xZ7)))
  (iZ7:isFn K (.ref xZ7)=true)
  (f_Walk___init__:FQ K "__init__" "Walk.__init__" zbD xZ7 d_Walk___init__ ["self","table","begin"])
  (aZ8:findIn K (.ref x_Walk) "look"=some (some (.ref xZ8)))
  (iZ8:isFn K (.ref xZ8)=true)
  (f_Walk_look:FQ K "look" "Walk.look" zc1 xZ8 d_Walk_look ["self"])
  (aZ9:findIn K (.ref x_Walk) "entry"=some (some (.ref xZ9)))
  (iZ9:isFn K (.ref xZ9)=true)
  (f_Walk_entry:FQ K "entry" "Walk.entry" zcn xZ9 d_Walk_entry ["self"])
  (aZ10:findIn K (.ref x_Walk) "mark"=some (some (.ref xZ10)))
  (iZ10:isFn K (.ref xZ10)=true)
  (f_Walk_mark:FQ K "mark" "Walk.mark" zc2 xZ10 d_Walk_mark ["self","sign"])
  (aZ11:findIn K (.ref x_Walk) "step"=some (some (.ref xZ11)))
  (iZ11:isFn K (.ref xZ11)=true)
  (f_Walk_step:FQ K "step" "Walk.step" zc3 xZ11 d_Walk_step ["self"])
  (aZ12:findIn K (.ref x_Walk) "setup"=some (some (.ref xZ12)))
  (iZ12:isFn K (.ref xZ12)=true)
  (f_Walk_setup:FQ K "setup" "Walk.setup" zco xZ12 d_Walk_setup ["self"])
  (f_first_setup:FT K mg "first_setup" zb3 xZ13 d_first_setup [])
  (f_begun:FT K mg "begun" zg9 xZ14 d_begun ["machine"])
  (f_run:FT K mg "run" zmk xZ15 d_run ["machine","most"])
  (f_looks:FT K mg "looks" zhb xZ16 d_looks ["machine","most"])
  (f_entries_in:FT K mg "entries_in" zcp xZ17 d_entries_in ["machine"])
  (f_must_size:FT K mg "must_size" zc5 xZ18 d_must_size ["rows","signs"])
  (f_first_machine:FT K mg "first_machine" zbE xZ19 d_first_machine ["rows","signs"])
  (f_full_entries:FT K mg "full_entries" zbL xZ20 d_full_entries ["machine"])
  (f_signs_named:FT K mg "signs_named" zb5 xZ21 d_signs_named ["machine"])
  (f_rows_named:FT K mg "rows_named" zcs xZ22 d_rows_named ["machine"])
  (f_new_entries:FT K mg "new_entries" zb4 xZ23 d_new_entries ["machine"])
  (f_with_entry:FT K mg "with_entry" zct xZ24 d_with_entry ["machine","end","entry"])
  (f_end_of:FT K mg "end_of" zfL xZ25 d_end_of ["machine"])
  (f_grown:FT K mg "grown" zc4 xZ30 d_grown ["machine"])
  (f_ended_nodes:FT K mg "ended_nodes" zb2 xZ31 d_ended_nodes ["rows","signs"])
  (f_foremost:FT K mg "foremost" zdE xZ32 d_foremost ["scored"])
  (f_greatest:FT K mg "greatest" zdF xZ33 d_greatest ["rows","signs"])
  (f_fullest:FT K mg "fullest" zem xZ34 d_fullest ["rows","signs"])
  (f_l_named_things:FT K mg "_law_named_things" zbn xZ35 d_l_named_things ["_law_machine","_law_at"])
  (f_l_met:FT K mg "_law_met" zha xZ36 d_l_met ["_law_machine","_law_most"])
  (f_l_children:FT K mg "_law_children" zcr xZ37 d_l_children ["_law_machine","_law_row","_law_sign"])
  (f_l_nodes:FT K mg "_law_nodes" zep xZ38 d_l_nodes ["_law_rows","_law_signs"])
  (f_l_marks:FT K mg "_law_marks" zen xZ39 d_l_marks ["_law_strip"])
  (f_l_best:FT K mg "_law_best" zfN xZ40 d_l_best ["_law_nodes_here","_law_marks_here"])
  (f_l_plainly:FT K mg "_law_plainly" zaY xZ47 d_l_plainly ["_law_found"])
  (f_l_size_right:FT K mg "_law_size_right" zbM xZ48 d_l_size_right ["_law_rows","_law_signs"])
  (f_law:FT K mg "law" zmj xZ49 d_law ["_law_script"])
  (gt:specialIn K (.builtin "object.__class__") "__get__"=some (some (.builtin "getset_descriptor.__get__")))
  (tk:takesIn K (.builtin "object.__class__")=some true)
  (a_MillError:nsIn K mainGlobals "MillError"=some (some (.ref x_MillError)))
  (i_MillError:excIn K x_MillError zgD "ValueError.__new__"=true)
  (k_MillError:keepIn K (.ref x_MillError)=true)
  (ga_MillError:findIn K (.ref x_MillError) "__getattribute__"=some (some (.builtin "BaseException.__getattribute__")))
  (na_MillError:findIn K (.ref x_MillError) "__getattr__"=some none)
  (cl_MillError:findIn K (.ref x_MillError) "__class__"=some (some (.builtin "object.__class__")))
  (mo_MillError:mroIn K x_MillError (.type "object")=some true)
  (mb_MillError:mroIn K x_MillError (.type "BaseException")=some true)
  (ci_MillError:clsIn K x_MillError=some cx_MillError)
  (mr_MillError:cx_MillError.mro=[.ref x_MillError]++zgD)
  (ty_MillError:typeIn K (.ref x_MillError)=some (.type "type"))
  (a_NoMachine:nsIn K mainGlobals "NoMachine"=some (some (.ref x_NoMachine)))
  (i_NoMachine:excIn K x_NoMachine zgD "ValueError.__new__"=true)
  (k_NoMachine:keepIn K (.ref x_NoMachine)=true)
  (ga_NoMachine:findIn K (.ref x_NoMachine) "__getattribute__"=some (some (.builtin "BaseException.__getattribute__")))
  (na_NoMachine:findIn K (.ref x_NoMachine) "__getattr__"=some none)
  (cl_NoMachine:findIn K (.ref x_NoMachine) "__class__"=some (some (.builtin "object.__class__")))
  (mo_NoMachine:mroIn K x_NoMachine (.type "object")=some true)
  (mb_NoMachine:mroIn K x_NoMachine (.type "BaseException")=some true)
  (ci_NoMachine:clsIn K x_NoMachine=some cx_NoMachine)
  (mr_NoMachine:cx_NoMachine.mro=[.ref x_NoMachine,.ref x_MillError]++zgD)
  (ty_NoMachine:typeIn K (.ref x_NoMachine)=some (.type "type"))
  (a_NoSize:nsIn K mainGlobals "NoSize"=some (some (.ref x_NoSize)))
  (i_NoSize:excIn K x_NoSize zgD "ValueError.__new__"=true)
  (k_NoSize:keepIn K (.ref x_NoSize)=true)
  (ga_NoSize:findIn K (.ref x_NoSize) "__getattribute__"=some (some (.builtin "BaseException.__getattribute__")))
  (na_NoSize:findIn K (.ref x_NoSize) "__getattr__"=some none)
  (cl_NoSize:findIn K (.ref x_NoSize) "__class__"=some (some (.builtin "object.__class__")))
  (mo_NoSize:mroIn K x_NoSize (.type "object")=some true)
  (mb_NoSize:mroIn K x_NoSize (.type "BaseException")=some true)
  (ci_NoSize:clsIn K x_NoSize=some cx_NoSize)
  (mr_NoSize:cx_NoSize.mro=[.ref x_NoSize,.ref x_MillError]++zgD)
  (ty_NoSize:typeIn K (.ref x_NoSize)=some (.type "type"))
  (z_ValueError:nsIn K mainGlobals "ValueError"=some none)
  (z_abs:nsIn K mainGlobals "abs"=some none)
  (z_all:nsIn K mainGlobals "all"=some none)
  (z_bool:nsIn K mainGlobals "bool"=some none)
  (z_dict:nsIn K mainGlobals "dict"=some none)
  (z_enumerate:nsIn K mainGlobals "enumerate"=some none)
  (z_int:nsIn K mainGlobals "int"=some none)
  (z_isinstance:nsIn K mainGlobals "isinstance"=some none)
  (z_len:nsIn K mainGlobals "len"=some none)
  (z_list:nsIn K mainGlobals "list"=some none)
  (z_max:nsIn K mainGlobals "max"=some none)
  (z_min:nsIn K mainGlobals "min"=some none)
  (z_range:nsIn K mainGlobals "range"=some none)
  (z_set:nsIn K mainGlobals "set"=some none)
  (z_sorted:nsIn K mainGlobals "sorted"=some none)
  (z_str:nsIn K mainGlobals "str"=some none)
  (z_sum:nsIn K mainGlobals "sum"=some none)
  (z_tuple:nsIn K mainGlobals "tuple"=some none)
  (z_zip:nsIn K mainGlobals "zip"=some none)
  (nd:[x_MillError,x_NoMachine,x_NoSize].Nodup)
  (q_MOST_ROWS:nsIn K mainGlobals "MOST_ROWS"=some (some (.int 4 tk_MOST_ROWS)))
  (q_LEAST_SIGNS:nsIn K mainGlobals "LEAST_SIGNS"=some (some (.int 2 tk_LEAST_SIGNS)))
  (q_MOST_SIGNS:nsIn K mainGlobals "MOST_SIGNS"=some (some (.int 4 tk_MOST_SIGNS)))
  (q_MOST_STEPS:nsIn K mainGlobals "MOST_STEPS"=some (some (.int 200 tk_MOST_STEPS)))
  (q_MOST_ENTRIES:nsIn K mainGlobals "MOST_ENTRIES"=some (some (.int 4 tk_MOST_ENTRIES)))
  : ∃ fd:FuncData,(∀ (s:Shared) (v:Value),BindsTo s fd ⟨[v],[]⟩ [("_law_script",v)])/\∀ base:Heap,K.In base->base.Ns mainGlobals mg->za3 l.prog w K mg base CX0 16 fa fd ["_law_script"] (zff K):=by
 have e:=hfa.symm.trans f_law.g;have e':xZ49=fa:=by cases e;rfl
 subst e';have T:Tx K mg ⟨xZ0,d_l_mixed,xZ1,d_l_draw,xZ2,d_l_purse,xZ3,d_is_entry,xZ4,d_is_row,xZ5,d_is_machine,xZ6,d_must_machine,xZ7,d_Walk___init__,xZ8,d_Walk_look,xZ9,d_Walk_entry,xZ10,d_Walk_mark,xZ11,d_Walk_step,xZ12,d_Walk_setup,xZ13,d_first_setup,xZ14,d_begun,xZ15,d_run,xZ16,d_looks,xZ17,d_entries_in,xZ18,d_must_size,xZ19,d_first_machine,xZ20,d_full_entries,xZ21,d_signs_named,xZ22,d_rows_named,xZ23,d_new_entries,xZ24,d_with_entry,xZ25,d_end_of,xZ30,d_grown,xZ31,d_ended_nodes,xZ32,d_foremost,xZ33,d_greatest,xZ34,d_fullest,xZ35,d_l_named_things,xZ36,d_l_met,xZ37,d_l_children,xZ38,d_l_nodes,xZ39,d_l_marks,xZ40,d_l_best,xZ47,d_l_plainly,xZ48,d_l_size_right,xZ49,d_law,x_MillError,x_NoMachine,x_NoSize,x_Walk⟩:=⟨f_l_mixed,f_l_draw,f_l_purse,f_is_entry,f_is_row,f_is_machine,f_must_machine,f_Walk___init__,⟨mk_Walk,aZ7,iZ7,kc_Walk⟩,f_Walk_look,⟨aZ8,iZ8,f_Walk_look.f.kp⟩,f_Walk_entry,⟨aZ9,iZ9,f_Walk_entry.f.kp⟩,f_Walk_mark,⟨aZ10,iZ10,f_Walk_mark.f.kp⟩,f_Walk_step,⟨aZ11,iZ11,f_Walk_step.f.kp⟩,f_Walk_setup,⟨aZ12,iZ12,f_Walk_setup.f.kp⟩,f_first_setup,f_begun,f_run,f_looks,f_entries_in,f_must_size,f_first_machine,f_full_entries,f_signs_named,f_rows_named,f_new_entries,f_with_entry,f_end_of,f_grown,f_ended_nodes,f_foremost,f_greatest,f_fullest,f_l_named_things,f_l_met,f_l_children,f_l_nodes,f_l_marks,f_l_best,f_l_plainly,f_l_size_right,f_law,⟨i_MillError,k_MillError⟩,⟨ga_MillError,na_MillError,cl_MillError,gt,tk,mo_MillError,mb_MillError,congrArg Option.isSome ci_MillError⟩,mg_of X G a_MillError,⟨⟨_,ci_MillError,mr_MillError⟩,ty_MillError⟩,⟨i_NoMachine,k_NoMachine⟩,⟨ga_NoMachine,na_NoMachine,cl_NoMachine,gt,tk,mo_NoMachine,mb_NoMachine,congrArg Option.isSome ci_NoMachine⟩,mg_of X G a_NoMachine,⟨⟨_,ci_NoMachine,mr_NoMachine⟩,ty_NoMachine⟩,⟨i_NoSize,k_NoSize⟩,⟨ga_NoSize,na_NoSize,cl_NoSize,gt,tk,mo_NoSize,mb_NoSize,congrArg Option.isSome ci_NoSize⟩,mg_of X G a_NoSize,⟨⟨_,ci_NoSize,mr_NoSize⟩,ty_NoSize⟩,⟨pg_Walk,hd_Walk,po_Walk,sa_Walk⟩,mg_of X G a_Walk,n_Walk_table,n_Walk_row,n_Walk_place,n_Walk_marks,⟨_,mg_of X G q_MOST_ROWS,⟨_,rfl⟩⟩,⟨_,mg_of X G q_LEAST_SIGNS,⟨_,rfl⟩⟩,⟨_,mg_of X G q_MOST_SIGNS,⟨_,rfl⟩⟩,⟨_,mg_of X G q_MOST_STEPS,⟨_,rfl⟩⟩,⟨_,mg_of X G q_MOST_ENTRIES,⟨_,rfl⟩⟩,mg_none_of X G z_ValueError,mg_none_of X G z_abs,mg_none_of X G z_all,mg_none_of X G z_bool,mg_none_of X G z_dict,mg_none_of X G z_enumerate,mg_none_of X G z_int,mg_none_of X G z_isinstance,mg_none_of X G z_len,mg_none_of X G z_list,mg_none_of X G z_max,mg_none_of X G z_min,mg_none_of X G z_range,mg_none_of X G z_set,mg_none_of X G z_sorted,mg_none_of X G z_str,mg_none_of X G z_sum,mg_none_of X G z_tuple,mg_none_of X G z_zip,nd⟩;obtain⟨_,_,_,_,_,_,_,_,_,e,_,_⟩:=f_law.f.ex;exact⟨_,fun s v=>by rw [e];exact .of_eq rfl,fun base _ _=>znd T⟩
theorem walk {l:PySem.W.OpenLaw} {q:Program} {loose:List Str} {XP:(Str->Option Value)->Heap->Prop} {YP:World->Heap->Prop} {d:DefRec} {K:Params->PySem.W.Frag} (hn:l.most=some 63) (hdf:d.params.defaults=[])
  (hY:∀ (w:World) (h:Heap),YP w h->(K w.params).In h)
  (F:∀ (w:World) (mg:Str->Option Value) (fa:Addr) (h:Heap),(K w.params).In h->h.Ns mainGlobals mg->mg d.name=some (.ref fa) ->
   ∃ fd:FuncData,(∀ (s:Shared) (u:Value),BindsTo s fd ⟨[u],[]⟩ [("_law_script",u)])/\∀ base:Heap,(K w.params).In base->base.Ns mainGlobals mg->za3 l.prog w (K w.params) mg base CX0 16 fa fd ["_law_script"] (zff (K w.params))) :
  PySem.W.WalkO q loose XP YP l.row.toRowW d [] (fun f vs=>PySem.call f vs) :=
 L2.walk_of (n:=63) (k:=16) (x:="_law_script") (CX:=fun _=>CX0) (sp:=fun w=>zff (K w.params)) hn (by decide) hdf ⟨rfl,by decide,by decide⟩ hY F (fun _ _ a ns hl _ hS=>⟨ns,hS,hl,fun _=>rfl⟩) fun _ _ _ _ _ z=>z
end Law
namespace PySem.W.Fast
def tw11762107609766888522:=()
def tw10446448358674074566:=()
def tw17430070495342901868:=()
def tw13365824607785552307:=()
def tw18304071436342890267:=()
def tw5054223673870334987:=()
def tw6105186255503387116:=()
def tw717708808948322630:=()
def tw6985694864674914524:=()
def tw13635504827368203901:=()
def tw4170652916313520418:=()
def tw6478778942110410309:=()
def tw12515698499480064122:=()
def tw14187620393290006013:=()
def tw9310203587432045702:=()
def tw18313759661691272947:=()
def tw6821443673952975525:=()
def tw15320819642338589320:=()
def tw17077072337903187547:=()
def tw5442544891770545421:=()
def tw14997633119768708667:=()
def tw14025935760530368420:=()
def tw10911097877018738380:=()
def tw4430487486693878375:=()
def tw2087695308761785386:=()
def tw1529135019538626046:=()
def tw16252296770382928621:=()
def tw15640248333842308093:=()
def tw9702972548835611222:=()
def tw13336695386839055268:=()
def tw4904600540905994734:=()
def tw17697563306084127267:=()
def tw92215678517675215:=()
def tw11459158954131253933:=()
def tw10060539886591180137:=()
def tw3245034170295007426:=()
def tw11679552163806713328:=()
def tw3616892302378899400:=()
def tw16219940945490670157:=()
def tw16806699856072316613:=()
def tw341007604410369149:=()
def tw2374440232807375876:=()
def tw14413845688075795402:=()
def tw13305346033913605848:=()
def tw8885229384599812778:=()
def tw5623232594734680781:=()
def tw1984660349793793759:=()
def tw7775183064496619046:=()
def tw2235785925884523791:=()
def tw16671502526323842510:=()
def tw9516194509425438121:=()
def tw7583931075387230234:=()
def tw13355700083923272932:=()
def tw9654456892111135318:=()
def tw7662420599358649560:=()
def tw10444681104999132255:=()
def tw12170255560183987628:=()
def tw9418585530092659253:=()
def tw13983410426407415541:=()
def tw77886491759799260:=()
def tw8302116275277591239:=()
def tw15656087224046308217:=()
def tw17345801582709508658:=()
def tw8501956999265003472:=()
def tw8390892140808606775:=()
def tw7941894128041760138:=()
def tw1875977002681017392:=()
def tw7106135971492203157:=()
def tw12079801655001052191:=()
def tw833825665790364812:=()
def tw1529532002749313594:=()
def tw17358419192063744998:=()
def tw754459329000543380:=()
def tw14631246998776176431:=()
def tw1213836029674651846:=()
def tw4396106837639960687:=()
def tw9736883873081537224:=()
def tw4045809884500734366:=()
def tw719769363684173129:=()
def tw14859134889495870192:=()
def tw3755450614224078661:=()
def tw5681570640980893106:=()
def tw16169834943297663227:=()
def tw2283695971058496989:=()
def tw8684640700288929997:=()
def tw14536994522741777901:=()
def tw8110742824879299540:=()
def tw18183511814518707010:=()
def tw7214626563577997109:=()
def tw12907046281648556272:=()
def tw8720151684219524785:=()
def tw4886797561755965067:=()
def tw1780995619365881918:=()
def tw15264773212438839443:=()
def tw3192219211943084812:=()
def tw3906270127228612086:=()
def tw75177516290237255:=()
def tw14381952410797896590:=()
def tw14109566997931991666:=()
def tw13764115308949103959:=()
def tw10383944948967158390:=()
def tw17250542358142331887:=()
def tw7036086750435353641:=()
def tw8057522107377255277:=()
def tw6687444133392990084:=()
def tw9995035102934230957:=()
def tw2403782391440460010:=()
def tw9077313970624518141:=()
def tw782591832282846858:=()
def tw831702088009853879:=()
def tw2016465077162673060:=()
def tw8278789579162730428:=()
def tw699488385936784357:=()
def tw2447981515659430297:=()
def tw3659333682367433774:=()
def tw4325678499787002952:=()
def tw14363793008932188384:=()
def tw15409267557513290980:=()
def tw11523932469235592172:=()
def tw6970674135961874498:=()
def tw14489660727534901973:=()
def tw2570816754007923680:=()
def tw13165026395857627564:=()
def tw4490032863289626713:=()
def tw1896332691833858245:=()
def tw16628609622841222881:=()
def tw2166981771246621779:=()
def tw5180224714300857403:=()
def tw11773836137526324012:=()
def tw2419597336198054020:=()
def tw12654557091961625495:=()
def tw4506595403522581942:=()
def tw17238598933775974270:=()
def tw2805352912379140867:=()
def tw18401612640105679867:=()
def tw10139813958763297701:=()
def tw14498773858816453401:=()
def tw18136439624845375742:=()
def tw11153782571487804503:=()
def tw15651814518666495216:=()
def tw16751194718945338278:=()
def tw18230961182630802855:=()
def tw7387628780379894365:=()
def tw9496195919055969086:=()
def tw10644276444679340944:=()
def tw496926371249552826:=()
def tw7912327914454611439:=()
def tw3488025538331388976:=()
def tw15593193434797588905:=()
def tw2185880021274787608:=()
def tw1752310501331467504:=()
def tw10581465186616852231:=()
def tw6131116400920982701:=()
def tw2682427332785334474:=()
def tw991738180967645686:=()
def tw14019414300860482288:=()
def tw10805162056437623770:=()
def tw899613026345416189:=()
def tw16606834907228818169:=()
def tw4757316059513333975:=()
def tw12612626264510164426:=()
def tw2104763931172612341:=()
def tw16984705060139765833:=()
def tw16890478387399744368:=()
def tw5545326684305770314:=()
def tw7357397977225175745:=()
def tw671251229190687326:=()
def tw6284488580566736870:=()
def tw18152181538050147685:=()
def tw2378398569102490113:=()
def tw13463194923013672023:=()
def tw6202774841401661602:=()
def tw16012228522464534921:=()
def tw39270015898540016:=()
def tw17599742793823945798:=()
def tw10666513552491722804:=()
end PySem.W.Fast
open PySem PySem.W PyProof.Rows
local macro_rules | `(tactic| walk_at "q") => `(tactic| (refine' Law.FQ.mk ?f ?b; (case f => apply L2.fun_mk; k_is; k_is; k_is); (case b => first | exact L2.Binds.all (Law.us0 fun _ => rfl) | exact L2.Binds.all (Law.us1 fun _ => rfl) | exact L2.Binds.all (Law.us2 fun _ _ => rfl) | exact L2.Binds.all (Law.us3 fun _ _ _ => rfl))))
local macro_rules | `(tactic| walk_at "f") => `(tactic| (refine' Law.FT.mk (PySem.W.mg_of (by assumption) (by assumption) ?g) ?f ?b; (case g => k_is); (case f => apply L2.fun_mk; k_is; k_is; k_is); (case b => first | exact L2.Binds.all (Law.us0 fun _ => rfl) | exact L2.Binds.all (Law.us1 fun _ => rfl) | exact L2.Binds.all (Law.us2 fun _ _ => rfl) | exact L2.Binds.all (Law.us3 fun _ _ _ => rfl))))
set_option maxRecDepth 100000 in
set_option maxHeartbeats 0 in
theorem PySem.Challenge.cw_endnever_k60_greatest_and_fullest_holds : PySem.Challenge.rw_endnever_k60_greatest_and_fullest.Holds := by
 w_on;o_law;k_head;(case hw=>w_witness2)
 k_fill
 refine Law.walk (l:=PySem.Challenge.rw_endnever_k60_greatest_and_fullest) rfl rfl (fun w h Y=>PySem.W.kIn_of Y) ?F
 case F =>
  intro w mg fa h KX G hmg
  refine' Law.all_mk KX G hmg ?a_Walk ?pg_Walk ?hd_Walk ?po_Walk ?sa_Walk ?mk_Walk ?kc_Walk ?n_Walk_table ?n_Walk_row ?n_Walk_place ?n_Walk_marks ?f_l_mixed ?f_l_draw ?f_l_purse ?f_is_entry ?f_is_row ?f_is_machine ?f_must_machine ?aZ7 ?iZ7 ?f_Walk___init__ ?aZ8 ?iZ8 ?f_Walk_look ?aZ9 ?iZ9 ?f_Walk_entry ?aZ10 ?iZ10 ?f_Walk_mark ?aZ11 ?iZ11 ?f_Walk_step ?aZ12 ?iZ12 ?f_Walk_setup ?f_first_setup ?f_begun ?f_run ?f_looks ?f_entries_in ?f_must_size ?f_first_machine ?f_full_entries ?f_signs_named ?f_rows_named ?f_new_entries ?f_with_entry ?f_end_of ?f_grown ?f_ended_nodes ?f_foremost ?f_greatest ?f_fullest ?f_l_named_things ?f_l_met ?f_l_children ?f_l_nodes ?f_l_marks ?f_l_best ?f_l_plainly ?f_l_size_right ?f_law ?gt ?tk ?a_MillError ?i_MillError ?k_MillError ?ga_MillError ?na_MillError ?cl_MillError ?mo_MillError ?mb_MillError ?ci_MillError ?mr_MillError ?ty_MillError ?a_NoMachine ?i_NoMachine ?k_NoMachine ?ga_NoMachine ?na_NoMachine ?cl_NoMachine ?mo_NoMachine ?mb_NoMachine ?ci_NoMachine ?mr_NoMachine ?ty_NoMachine ?a_NoSize ?i_NoSize ?k_NoSize ?ga_NoSize ?na_NoSize ?cl_NoSize ?mo_NoSize ?mb_NoSize ?ci_NoSize ?mr_NoSize ?ty_NoSize ?z_ValueError ?z_abs ?z_all ?z_bool ?z_dict ?z_enumerate ?z_int ?z_isinstance ?z_len ?z_list ?z_max ?z_min ?z_range ?z_set ?z_sorted ?z_str ?z_sum ?z_tuple ?z_zip ?nd ?q_MOST_ROWS ?q_LEAST_SIGNS ?q_MOST_SIGNS ?q_MOST_STEPS ?q_MOST_ENTRIES
  (case a_Walk=>k_is)
  (case pg_Walk=>k_is)
  (case hd_Walk=>k_is)
  (case po_Walk=>k_is)
  (case sa_Walk=>k_is)
  (case mk_Walk=>k_is)
  (case kc_Walk=>k_is)
  (case n_Walk_table=>k_is)
  (case n_Walk_row=>k_is)
  (case n_Walk_place=>k_is)
  (case n_Walk_marks=>k_is)
  (case f_l_mixed=>walk_at "f")
  (case f_l_draw=>walk_at "f")
  (case f_l_purse=>walk_at "f")
  (case f_is_entry=>walk_at "f")
  (case f_is_row=>walk_at "f")
  (case f_is_machine=>walk_at "f")
  (case f_must_machine=>walk_at "f")
  (case aZ7=>k_is)
  (case iZ7=>k_is)
  (case f_Walk___init__=>walk_at "q")
  (case aZ8=>k_is)
  (case iZ8=>k_is)
  (case f_Walk_look=>walk_at "q")
  (case aZ9=>k_is)
  (case iZ9=>k_is)
  (case f_Walk_entry=>walk_at "q")
  (case aZ10=>k_is)
  (case iZ10=>k_is)
  (case f_Walk_mark=>walk_at "q")
  (case aZ11=>k_is)
  (case iZ11=>k_is)
  (case f_Walk_step=>walk_at "q")
  (case aZ12=>k_is)
  (case iZ12=>k_is)
  (case f_Walk_setup=>walk_at "q")
  (case f_first_setup=>walk_at "f")
  (case f_begun=>walk_at "f")
  (case f_run=>walk_at "f")
  (case f_looks=>walk_at "f")
  (case f_entries_in=>walk_at "f")
  (case f_must_size=>walk_at "f")
  (case f_first_machine=>walk_at "f")
  (case f_full_entries=>walk_at "f")
  (case f_signs_named=>walk_at "f")
  (case f_rows_named=>walk_at "f")
  (case f_new_entries=>walk_at "f")
  (case f_with_entry=>walk_at "f")
  (case f_end_of=>walk_at "f")
  (case f_grown=>walk_at "f")
  (case f_ended_nodes=>walk_at "f")
  (case f_foremost=>walk_at "f")
  (case f_greatest=>walk_at "f")
  (case f_fullest=>walk_at "f")
  (case f_l_named_things=>walk_at "f")
  (case f_l_met=>walk_at "f")
  (case f_l_children=>walk_at "f")
  (case f_l_nodes=>walk_at "f")
  (case f_l_marks=>walk_at "f")
  (case f_l_best=>walk_at "f")
  (case f_l_plainly=>walk_at "f")
  (case f_l_size_right=>walk_at "f")
  (case f_law=>walk_at "f")
  (case gt=>k_is)
  (case tk=>k_is)
  (case a_MillError=>k_is)
  (case i_MillError=>k_exc)
  (case k_MillError=>k_is)
  (case ga_MillError=>k_is)
  (case na_MillError=>k_is)
  (case cl_MillError=>k_is)
  (case mo_MillError=>k_is)
  (case mb_MillError=>k_is)
  (case ci_MillError=>k_is)
  (case mr_MillError=>rfl)
  (case ty_MillError=>k_is)
  (case a_NoMachine=>k_is)
  (case i_NoMachine=>k_exc)
  (case k_NoMachine=>k_is)
  (case ga_NoMachine=>k_is)
  (case na_NoMachine=>k_is)
  (case cl_NoMachine=>k_is)
  (case mo_NoMachine=>k_is)
  (case mb_NoMachine=>k_is)
  (case ci_NoMachine=>k_is)
  (case mr_NoMachine=>rfl)
  (case ty_NoMachine=>k_is)
  (case a_NoSize=>k_is)
  (case i_NoSize=>k_exc)
  (case k_NoSize=>k_is)
  (case ga_NoSize=>k_is)
  (case na_NoSize=>k_is)
  (case cl_NoSize=>k_is)
  (case mo_NoSize=>k_is)
  (case mb_NoSize=>k_is)
  (case ci_NoSize=>k_is)
  (case mr_NoSize=>rfl)
  (case ty_NoSize=>k_is)
  (case z_ValueError=>k_is)
  (case z_abs=>k_is)
  (case z_all=>k_is)
  (case z_bool=>k_is)
  (case z_dict=>k_is)
  (case z_enumerate=>k_is)
  (case z_int=>k_is)
  (case z_isinstance=>k_is)
  (case z_len=>k_is)
  (case z_list=>k_is)
  (case z_max=>k_is)
  (case z_min=>k_is)
  (case z_range=>k_is)
  (case z_set=>k_is)
  (case z_sorted=>k_is)
  (case z_str=>k_is)
  (case z_sum=>k_is)
  (case z_tuple=>k_is)
  (case z_zip=>k_is)
  (case nd=>decide)
  (case q_MOST_ROWS=>k_is)
  (case q_LEAST_SIGNS=>k_is)
  (case q_MOST_SIGNS=>k_is)
  (case q_MOST_STEPS=>k_is)
  (case q_MOST_ENTRIES=>k_is)
