import PyProof.Rows.All
import Wide.All
import OpenK.AllK
import Wide.FinOn
import PyProof.EqAt
import PyProof.EqKinds
import PyProof.NeKinds
import PyProof.TupleCall
import PyProof.ExcArgsOwn
import PyProof.EnumFor
import PyProof.EnumStmt
import PyProof.EnumMake
import Lean
import KE.KDictList
import KE.KDictOf
import KE.KDictSum
import KE.KEqDict
import KE.KItemsList
import KE.KPairComp
import KE.KRevIter
import KE.KSortTup
import KE.KTupSum
import PyProof.AttrMiss
import PyProof.EnumFor
import PyProof.EnumMake
import PyProof.IsRules
import PyProof.IsiH_list
import PyProof.IsiH_tuple
import PyProof.Rows.ZipForRows
import PyProof.TupleIter
import PyProof.DictWalks
import PyProof.SetRoads
import PyProof.Rows.SetFrom
import PySem.Challenge.RW_endnever_k25_whole_papers_never_end
local macro_rules | `(tactic| omega) => `(tactic| first | with_reducible assumption | with_reducible exact Nat.le_of_lt (by assumption) | with_reducible exact Nat.lt_of_lt_of_le (by assumption) (by assumption) | with_reducible exact Nat.lt_of_le_of_lt (by assumption) (by assumption) | with_reducible exact Nat.le_trans (by assumption) (by assumption) | with_reducible exact Nat.zero_le _ | lia | omega (config := {}))
set_option genSizeOf false
set_option Elab.async false
set_option linter.all false
def zox:=@List.length_map
def zoy:=@List.getElem?_map
def zoz:=@List.getElem?_eq_getElem
def zoA:=@Option.map_eq_some_iff
def zoB:=@List.getElem?_eq_some_iff
def zoC:=@List.mem_of_getElem?
def zoD:=@decide_eq_true
def zoE:=@decide_eq_false
def zoF:=@List.map_append
def zoG:=@List.mem_singleton
def zoH:=@List.length_append
def zoI:=@List.mem_append
def zoJ:=@List.append_nil
def zoK:=@PySem.Heap.get?_push_of_some
def zoL:=@Nat.lt_of_le_of_lt
def zoM:=@Nat.le_trans
def zoN:=@Nat.le_refl
def zoO:=@Nat.lt_of_lt_of_le
def zoP:=@List.mem_map
def zoQ:=@List.mem_cons_of_mem
def zoR:=@List.mem_filter
def zoS:=@List.append_assoc
def zoT:=@List.take_length
def zoU:=@List.take_add_one
def zoV:=@List.length_set
def zoW:=@List.length_take
def zoX:=@List.all_eq_true
def zoY:=@PySem.Heap.lt_size
def zoZ:=@List.map_map
def zo0:=@List.map_cons
def zo1:=@List.map_nil
def zo2:=@List.getElem?_append_left
def zo3:=@List.getElem?_append_right
def zo4:=@List.mem_append_left
def zo5:=@List.mem_append_right
def zo6:=@List.mem_cons_self
def zo7:=@List.filter_append
def zo8:=@PySem.Heap.get?_push_size
def zo9:=@List.size_toArray
def zpa:=@List.length_cons
def zpb:=@if_neg
def zpc:=@if_pos
def zpd:=@Array.length_toList
def zpe:=@Array.getElem?_toList
def zpf:=@List.getD_eq_getElem?_getD
def zpg:=@List.mem_cons
def zph:=@Nat.ne_of_lt
def zpi:=@of_decide_eq_true
def zpj:=@Bool.false_ne_true
def zpk:=@Option.some.inj
def zpl:=@List.drop_eq_getElem_cons
def zpm:=@List.map_congr_left
set_option maxRecDepth 100000
set_option maxHeartbeats 4000000
section
namespace L2
open PySem PySem.Spec PyProof.Rows
abbrev Key:=Sum Int Str
def zf3:Key->Value->Bool
 | .inl k,v=>Value.isInt k v
 | .inr x,v=>Value.isStrOf x v
def keyH (w:World):Key->Int
 | .inl k=>hashInt k
 | .inr x=>hashStr w x
theorem zaI:∀ {k:Key} {v:Value},zf3 k v=true->(∃ i t,k=Sum.inl i/\v=Value.int i t)\/(∃ x t,k=Sum.inr x/\v=Value.str x t)
 | .inl i,v,h=>by
  obtain⟨t,e⟩:=Value.isInt_shape (k:=i) (v:=v) h;exact .inl ⟨i,t,rfl,e⟩
 | .inr x,v,h=>by
  obtain⟨t,e⟩:=Value.isStrOf_shape (x:=x) (v:=v) h;exact .inr ⟨x,t,rfl,e⟩
theorem zh6 (i:Int) (t:Tok):zf3 (.inl i) (.int i t)=true:=by simp [zf3,Value.isInt]
theorem zh7 (x:Str) (t:Tok):zf3 (.inr x) (.str x t)=true:=by simp [zf3,Value.isStrOf]
theorem zmE (a b:Int):decide ((Sum.inl a:Key)=Sum.inl b)=(a == b):=by
 by_cases e:a=b
 ·subst e;simp
 ·have h:¬ (Sum.inl a:Key)=Sum.inl b:=fun q=>e (Sum.inl.inj q)
  rw [zoE h];exact (beq_eq_false_iff_ne.mpr e).symm
theorem zmH (a b:Str):decide ((Sum.inr a:Key)=Sum.inr b)=decide (a=b):=by
 by_cases e:a=b
 ·subst e;simp
 ·have h:¬ (Sum.inr a:Key)=Sum.inr b:=fun q=>e (Sum.inr.inj q)
  rw [zoE h,zoE e]
theorem zmF (a:Int) (b:Str):decide ((Sum.inl a:Key)=Sum.inr b)=false:=zoE (fun q=>nomatch q)
theorem zmG (a:Str) (b:Int):decide ((Sum.inr a:Key)=Sum.inl b)=false:=zoE (fun q=>nomatch q)
def zaJ (prog:Program) (w:World):PySem.KeyKind prog w Key where
 is:=zf3
 hash:=keyH w
 inj:=fun v a b ha hb=>by
  rcases zaI ha with ⟨i,t,rfl,rfl⟩ | ⟨x,t,rfl,rfl⟩
  ·rcases zaI hb with ⟨j,u,rfl,e⟩ | ⟨y,u,rfl,e⟩
   ·injection e with e1 _;rw [e1]
   ·exact nomatch e
  ·rcases zaI hb with ⟨j,u,rfl,e⟩ | ⟨y,u,rfl,e⟩
   ·exact nomatch e
   ·injection e with e1 _;rw [e1]
 byValue:=fun k v h=>by
  rcases zaI h with ⟨i,t,rfl,rfl⟩ | ⟨x,t,rfl,rfl⟩ <;> rfl
 pyHash:=fun hv h=>by
  rcases zaI hv with ⟨i,t,rfl,rfl⟩ | ⟨x,t,rfl,rfl⟩
  ·exact wpAny_pyHash_int h
  ·exact wpAny_pyHash_str h
 eqBool:=fun hu hv h=>by
  rcases zaI hu with ⟨i,t,rfl,rfl⟩ | ⟨x,t,rfl,rfl⟩
  ·rcases zaI hv with ⟨j,u,rfl,rfl⟩ | ⟨y,u,rfl,rfl⟩
   ·rw [zmE] at h;exact wpAny_eqBool_int h
   ·rw [zmF] at h;exact SeqAt.EqAt.int_str i t y u _ _ _ _ h
  ·rcases zaI hv with ⟨j,u,rfl,rfl⟩ | ⟨y,u,rfl,rfl⟩
   ·rw [zmG] at h;exact SeqAt.EqAt.str_int x t j u _ _ _ _ h
   ·rw [zmH] at h;exact wpAny_eqBool_str h
 «strs»:=fun k x t v h=>by
  rcases zaI h with ⟨i,u,rfl,e⟩ | ⟨y,u,rfl,e⟩
  ·exact nomatch e
  ·injection e with e1 _
   subst e1;cases v <;> rfl
theorem zf5 (prog:Program) (w:World) (i:Int) (t:Tok):(zaJ prog w).is (.inl i) (.int i t)=true:=zh6 i t
theorem zf6 (prog:Program) (w:World) (x:Str) (t:Tok):(zaJ prog w).is (.inr x) (.str x t)=true:=zh7 x t
inductive V where
 | non | bl (b:Bool) | int (i:Int) | str (x:Str) | byt (b:Array UInt8) | flt (b:UInt64) | ref (a:Addr) | ty (n:String)
 deriving DecidableEq
def zaO:V->Value->Prop
 | .non,u=>u=Value.none
 | .bl b,u=>u=Value.bool b
 | .int i,u=>∃ t,u=Value.int i t
 | .str x,u=>∃ t,u=Value.str x t
 | .byt b,u=>∃ t,u=Value.bytes b t
 | .flt b,u=>∃ t,u=Value.float b t
 | .ref a,u=>u=Value.ref a
 | .ty n,u=>u=Value.type n
abbrev zaU:List V->List Value->Prop:=Paired zaO
theorem zaU.length {xs:List V} {us:List Value} (r:zaU xs us):xs.length=us.length:=Paired.length r
theorem zaU.get:∀ {xs:List V} {us:List Value} {i:Nat} {x:V},zaU xs us->xs[i]?=some x->∃ u,us[i]?=some u/\zaO x u
 | _,_,_,_,.nil,e=>by simp at e
 | _,_,0,_,.cons r _,e=>by simp at e;subst e;exact⟨_,rfl,r⟩
 | _,_,i+1,x,.cons _ t,e=>by
  obtain⟨u,h1,h2⟩:=zaU.get (i:=i) (x:=x) t (by simpa using e);exact⟨u,by simpa using h1,h2⟩
theorem zaU.set {x:V} {u:Value} (r:zaO x u):∀ {xs:List V} {us:List Value} (i:Nat),zaU xs us->zaU (xs.set i x) (us.set i u)
 | _,_,_,.nil=>.nil
 | _,_,0,.cons _ t=>.cons r t
 | _,_,i+1,.cons q t=>.cons q (zaU.set r i t)
theorem zaU.append:∀ {xs ys:List V} {us ws:List Value},zaU xs us->zaU ys ws->zaU (xs++ys) (us++ws)
 | _,_,_,_,.nil,s=>s
 | _,_,_,_,.cons r t,s=>.cons r (zaU.append t s)
theorem zaU.take:∀ {xs:List V} {us:List Value} (n:Nat),zaU xs us->zaU (xs.take n) (us.take n)
 | _,_,0,_=>.nil
 | _,_,_+1,.nil=>.nil
 | _,_,n+1,.cons r t=>.cons r (zaU.take n t)
theorem zaU.drop:∀ {xs:List V} {us:List Value} (n:Nat),zaU xs us->zaU (xs.drop n) (us.drop n)
 | _,_,0,r=>r
 | _,_,_+1,.nil=>.nil
 | _,_,n+1,.cons _ t=>zaU.drop n t
def zfb:Option V->Option Value->Prop
 | some v,some u=>zaO v u
 | none,none=>True
 | _,_=>False
def KV {κ:Type}:List (κ × V)->List (κ × Value)->Prop:=Paired fun (p:κ × V) (q:κ × Value)=>p.1=q.1/\zaO p.2 q.2
def kV:Key->V
 | .inl i=>.int i
 | .inr x=>.str x
inductive HO where
 | lst (xs:List V)
 | tup (xs:List V)
 | dK (kvs:List (Key × V)) | dT (kvs:List (List Key × V))
 | set (S:Int->Bool) (n:Nat)
 | ins (C dx:Addr) (fs:List (Str × V))
 | own (x:Addr)
 | xd (fs:List (Str × V))
 | met (f x:Addr)
 | rng (lo hi:Int)
 | frz (o:Obj) (u:HO)
 | tbl (ps:Array Value)
 | ext (φ:Heap->Prop)
abbrev Hp:=Addr->Option HO
def upd (H:Hp) (a:Addr) (o:HO):Hp:=fun b=>if b=a then some o else H b
theorem zaf {H:Hp} {a:Addr} {o:HO}:upd H a o a=some o:=by unfold upd;rw [zpc rfl]
theorem zao {H:Hp} {a b:Addr} {o:HO} (h:b≠a):upd H a o b=H b:=by unfold upd;rw [zpb h]
theorem zl1 {H:Hp} {a:Addr} {o u:HO}:upd (upd H a o) a u=upd H a u:=by
 funext b;unfold upd;split <;> rfl
theorem zn5 {H:Hp} {a b:Addr} {o u:HO} (h:H a=some o) (h':H b=some u) (d:o≠u):a≠b:=by
 intro e;subst e;rw [h] at h';exact d (zpk h')
theorem zak {H:Hp} {a b:Addr} {o:HO} (h:H a=some o) (h':H b=none):a≠b:=by
 intro e;subst e;rw [h] at h';cases h'
def zcs (h:Heap) (a:Addr) (items:Array Value):Prop:=∃ o,h.get? a=some o/\o.cls=.type "tuple"/\∃ n,o.data=.seq items n/\o={ cls:=.type "tuple",data:=.seq items n }
theorem zcs.tup {h:Heap} {a:Addr} {items:Array Value} (x:zcs h a items):IsTup h a items:=let ⟨o,e,c,n,d,_⟩:=x;⟨o,e,c,n,d⟩
theorem zcs.lt {h:Heap} {a:Addr} {items:Array Value} (x:zcs h a items):a<h.objs.size:=x.tup.lt
theorem zcs.of {h:Heap} {a:Addr} {items:Array Value} {n:Nat} (x:h.get? a=some { cls:=.type "tuple",data:=.seq items n }):zcs h a items:=⟨_,x,rfl,n,rfl,rfl⟩
theorem zcs.new (h:Heap) (items:Array Value):zcs (h.push { cls:=.type "tuple",data:=.seq items }) h.objs.size items:=.of (zo8 _ rfl)
section
variable (P:Program) (w:World)
def zaV (H:Hp) (h:Heap) (a:Addr):HO->Prop
 | .lst xs=>xs.length<=sizeLine/\∃ (its:List Value) (n:Nat),zaU xs its/\h.get? a=some { cls:=.type "list",data:=.seq its.toArray n }
 | .tup xs=>xs.length<=sizeLine/\∃ its:List Value,zaU xs its/\zcs h a its.toArray
 | .dK kvs=>kvs.length<=sizeLine/\(a == sysModules)=false/\∃ vs,KV kvs vs/\h.DictOf (zaJ P w) a vs
 | .dT kvs=>kvs.length<=sizeLine/\(a == sysModules)=false/\∃ xs:List (List Key × Addr × Value),
   Paired (fun (p:List Key × V) (q:List Key × Addr × Value)=>p.1=q.1/\H q.2.1=some (.tup (p.1.map kV))/\zaO p.2 q.2.2) kvs xs /\
   ∃ o es ep,h.get? a=some o/\o.ExactDict/\o.data=.dict es ep/\es.toList=xs.map (entryOfKey (tupleKind (zaJ P w)))/\(xs.map (·.1)).Nodup
 | .set S n=>h.SetOf (intKind P w) a S n
 | .ins C dx fs=>H dx=some (.own a)/\fs.length<=1000/\dx≠a/\h.get? a=some (PySem.W.instObj C dx) /\
   ∃ mA,h.Ns1 dx mA/\(∀ f,zfb (fs.lookup f) (mA f))/\PySem.Within mA (fs.map (·.1))
 | .own _=>∃ o,h.get? a=some o
 | .xd fs=>∃ mA,h.Ns1 a mA/\∀ f,zfb (fs.lookup f) (mA f)
 | .rng lo hi=>∃ t u v,h.get? a=some { cls:=.type "range",data:=.fields #[.int lo t,.int hi u,.int 1 v] }
 | .frz o u=>h.get? a=some o/\zaV H h a u
 | .tbl ps=>h.get? a=some { cls:=.none,data:=.fields ps }
 | .met f x=>h.get? a=some (PySem.W.methodObj (.ref f) (.ref x))
 | .ext φ=>φ h/\(∃ o,h.get? a=some o)/\∀ h1 h2:Heap,φ h1->(∀ o,h1.get? a=some o->h2.get? a=some o)->φ h2
def HOk (H:Hp) (h:Heap):Prop:=∀ a o,H a=some o->zaV P w H h a o
end
section
variable {P:Program} {w:World} {H H':Hp} {h h':Heap} {a:Addr} {o:HO}
theorem zaV.lt (x:zaV P w H h a o):a<h.objs.size:=by
 cases o with
 | lst xs=>obtain⟨_,_,_,_,e⟩:=x;exact zoY e
 | tup xs=>obtain⟨_,_,_,p⟩:=x;exact p.lt
 | dK kvs=>obtain⟨_,_,_,_,o,_,_,e,_⟩:=x;exact zoY e
 | dT kvs=>obtain⟨_,_,_,_,o,_,_,e,_⟩:=x;exact zoY e
 | set S n=>obtain⟨o,_,_,_,e,_⟩:=x;exact zoY e
 | ins C dx fs=>obtain⟨_,_,_,e,_⟩:=x;exact zoY e
 | own y=>obtain⟨_,e⟩:=x;exact zoY e
 | xd fs=>obtain⟨_,⟨_,_,_,e,_⟩,_⟩:=x;exact zoY e
 | rng lo hi=>obtain⟨_,_,_,e⟩:=x;exact zoY e
 | frz ob u=>obtain⟨e,_⟩:=x;exact zoY e
 | tbl ps=>exact zoY (show h.get? a=some _ from x)
 | met f y=>exact zoY (show h.get? a=some _ from x)
 | ext φ=>obtain⟨_,⟨_,e⟩,_⟩:=x;exact zoY e
theorem Paired.mapP {α β:Type} {F G:α->β->Prop}:∀ {l₁:List α} {l₂:List β},Paired F l₁ l₂->(∀ a b,F a b->G a b)->Paired G l₁ l₂
 | _,_,.nil,_=>.nil
 | _,_,.cons r t,f=>.cons (f _ _ r) (Paired.mapP t f)
theorem zaV.stay (x:zaV P w H h a o) (k:∀ b u,(b=a\/H b=some (.own a))->h.get? b=some u->h'.get? b=some u)
  (ho:∀ b,H b=some (.own a)->H' b=some (.own a)) (ht:∀ b xs,H b=some (.tup xs)->H' b=some (.tup xs)):zaV P w H' h' a o:=by
 induction o with
 | lst xs=>obtain⟨z,its,n,r,e⟩:=x;exact⟨z,its,n,r,k _ _ (.inl rfl) e⟩
 | tup xs=>obtain⟨z,its,r,ob,e,c⟩:=x;exact⟨z,its,r,ob,k _ _ (.inl rfl) e,c⟩
 | dK kvs=>obtain⟨z,y,vs,r,ob,es,ep,e,c⟩:=x;exact⟨z,y,vs,r,ob,es,ep,k _ _ (.inl rfl) e,c⟩
 | dT kvs =>
  obtain⟨z,y,xs,r,ob,es,ep,e,c⟩:=x;exact⟨z,y,xs,Paired.mapP r fun p q z=>⟨z.1,ht _ _ z.2.1,z.2.2⟩,ob,es,ep,k _ _ (.inl rfl) e,c⟩
 | set S n=>obtain⟨ob,es,ep,t,e,c⟩:=x;exact⟨ob,es,ep,t,k _ _ (.inl rfl) e,c⟩
 | ins C dx fs =>
  obtain⟨d,z,ne,e,mA,⟨od,es,ep,e2,c⟩,r⟩:=x;exact⟨ho _ d,z,ne,k _ _ (.inl rfl) e,mA,⟨od,es,ep,k _ _ (.inr d) e2,c⟩,r⟩
 | own y=>obtain⟨ob,e⟩:=x;exact⟨ob,k _ _ (.inl rfl) e⟩
 | xd fs=>obtain⟨mA,⟨od,es,ep,e,c⟩,r⟩:=x;exact⟨mA,⟨od,es,ep,k _ _ (.inl rfl) e,c⟩,r⟩
 | rng lo hi=>obtain⟨t,u,v,e⟩:=x;exact⟨t,u,v,k _ _ (.inl rfl) e⟩
 | frz ob u ih=>obtain⟨e,q⟩:=x;exact⟨k _ _ (.inl rfl) e,ih q⟩
 | tbl ps =>
  have e:h.get? a=some { cls:=.none,data:=.fields ps }:=x;show h'.get? a=some { cls:=.none,data:=.fields ps };exact k a _ (.inl rfl) e
 | met f y =>
  have e:h.get? a=some (PySem.W.methodObj (.ref f) (.ref y)):=x;show h'.get? a=some (PySem.W.methodObj (.ref f) (.ref y));exact k a _ (.inl rfl) e
 | ext φ=>obtain⟨p,⟨o,e⟩,st⟩:=x;exact⟨st _ _ p fun o q=>k _ _ (.inl rfl) q,⟨o,k _ _ (.inl rfl) e⟩,st⟩
theorem HOk.lt (x:HOk P w H h) (e:H a=some o):a<h.objs.size:=(x a o e).lt
theorem HOk.fresh (x:HOk P w H h) (e:h.objs.size<=a):H a=none:=by
 cases q:H a with
 | none=>rfl
 | some u=>exact absurd (zoO (x.lt q) e) (Nat.lt_irrefl _)
theorem HOk.kept (x:HOk P w H h) (k:∀ b u,h.get? b=some u->h'.get? b=some u):HOk P w H h':=fun a o e =>
 (x a o e).stay (fun b u _ q=>k b u q) (fun _ q=>q) fun _ _ q=>q
theorem HOk.laid (x:HOk P w H h) (k:∀ b u,h.get? b=some u->h'.get? b=some u) (hp:h.objs.size<=a) (new:zaV P w (upd H a o) h' a o):HOk P w (upd H a o) h':=fun b u e=>by
 have hn:=x.fresh hp;by_cases hb:b=a
 ·subst hb;rw [zaf] at e;cases e;exact new
 ·rw [zao hb] at e;exact (x b u e).stay (fun c v _ q=>k c v q) (fun c q=>by rw [zao (zak q hn)];exact q) fun c xs q=>by rw [zao (zak q hn)];exact q
end
def Rd (H:Hp) (a:Addr) (u:HO):Prop:=H a=some u\/∃ o,H a=some (.frz o u)
theorem Rd.ok {P:Program} {w:World} {H:Hp} {h:Heap} {a:Addr} {u:HO} (r:Rd H a u) (x:HOk P w H h):zaV P w H h a u:=by
 rcases r with r | ⟨o,r⟩
 ·exact x a u r
 ·obtain⟨_,q⟩:=x a _ r;exact q
def Mut:Option HO->Prop
 | some (.lst _)=>True
 | some (.dK _)=>True
 | some (.dT _)=>True
 | some (.set _ _)=>True
 | some (.ins _ _ _)=>True
 | some (.ext _)=>True
 | _=>False
section
variable {P:Program} {w:World} {H:Hp} {h h':Heap} {x e:Addr} {o':HO}
theorem HOk.write (ok:HOk P w H h) (mu:Mut (H x)) (he:e=x\/H e=some (.own x)) (k:∀ b u,b≠e->h.get? b=some u->h'.get? b=some u) (heo:∃ u,h'.get? e=some u)
  (new:zaV P w (upd H x o') h' x o'):HOk P w (upd H x o') h':=fun b u q=>by
 have nown:∀ c y,H c=some (.own y)->c≠x:=fun c y r z=>by subst z;rw [r] at mu;exact mu
 have ntup:∀ c xs,H c=some (.tup xs)->c≠x:=fun c xs r z=>by subst z;rw [r] at mu;exact mu
 by_cases hb:b=x
 ·subst hb;rw [zaf] at q;cases q;exact new
 ·rw [zao hb] at q;by_cases hbe:b=e
  ·have q':H b=some (.own x):=by
    rcases he with z | z
    ·exact absurd (hbe.trans z) hb
    ·rw [hbe];exact z
   rw [q] at q';cases q';obtain⟨v,hv⟩:=heo;exact⟨v,by rw [hbe];exact hv⟩
  ·refine (ok b u q).stay (fun c v hc r=>k c v ?_ r) (fun c r=>by rw [zao (nown c b r)];exact r) fun c xs r=>by rw [zao (ntup c xs r)];exact r
   rcases hc with rfl | hc
   ·exact hbe
   ·rintro rfl;rcases he with z | z
    ·exact nown c b hc z
    ·rw [hc] at z;cases z;exact hb rfl
end
structure Un (fs ex:List Addr) (H H':Hp) (h h':Heap):Prop where
 keep:∀ b o,h.get? b=some o->H b=none->b ∉ fs->b ∉ ex->h'.get? b=some o
 slot:∀ b o,h.get? b=some o->H b=none->b∈fs->b ∉ ex->∃ sl,h'.get? b=some { o with slots:=sl }
 free:∀ b o,h.get? b=some o->H b=none->b ∉ ex->H' b=none
 there:∀ b o,h.get? b=some o->b ∉ ex->∃ o',h'.get? b=some o'
 tups:∀ b xs,H b=some (.tup xs)->H' b=some (.tup xs)
 frzs:∀ b o u,H b=some (.frz o u)->H' b=some (.frz o u)
 tbls:∀ b ps,H b=some (.tbl ps)->∃ more,H' b=some (.tbl (ps++more))
section
variable {fs fs' ex ex':List Addr} {H H1 H2:Hp} {h h1 h2 h':Heap} {a x e:Addr} {o:HO}
theorem Un.any (u:Un fs ex H H1 h h1) {b:Addr} {ob:Obj} (q:h.get? b=some ob) (n:H b=none) (hx:b ∉ ex):∃ sl,h1.get? b=some { ob with slots:=sl }:=by
 by_cases hb:b∈fs
 ·exact u.slot b ob q n hb hx
 ·exact⟨ob.slots,u.keep b ob q n hb hx⟩
theorem Un.trans (a:Un fs ex H H1 h h1) (b:Un fs ex H1 H2 h1 h2):Un fs ex H H2 h h2 where
 keep:=fun c ob q n hc hx=>b.keep c ob (a.keep c ob q n hc hx) (a.free c ob q n hx) hc hx
 slot:=fun c ob q n hc hx=>by
  obtain⟨sl,e1⟩:=a.slot c ob q n hc hx;obtain⟨sl',e2⟩:=b.slot c _ e1 (a.free c ob q n hx) hc hx;exact⟨sl',e2⟩
 free:=fun c ob q n hx=>by
  obtain⟨o',e1⟩:=a.there c ob q hx;exact b.free c o' e1 (a.free c ob q n hx) hx
 there:=fun c ob q hx=>by
  obtain⟨o',e1⟩:=a.there c ob q hx;exact b.there c o' e1 hx
 tups:=fun c xs q=>b.tups c xs (a.tups c xs q)
 frzs:=fun c ob xs q=>b.frzs c ob xs (a.frzs c ob xs q)
 tbls:=fun c ps q=>by
  obtain⟨m1,e1⟩:=a.tbls c ps q;obtain⟨m2,e2⟩:=b.tbls c _ e1;exact⟨m1++m2,by rw [e2,Array.append_assoc]⟩
theorem Un.kept (k:∀ b u,h.get? b=some u->h'.get? b=some u):Un fs ex H H h h' :=
 ⟨fun b ob q _ _ _=>k b ob q,fun b ob q _ _ _=>⟨ob.slots,k b ob q⟩,fun _ _ _ n _=>n,fun b ob q _=>⟨ob,k b ob q⟩,fun _ _ q=>q,fun _ _ _ q=>q,fun _ ps q=>⟨#[],by rw [q];simp⟩⟩
theorem Un.refl:Un fs ex H H h h:=Un.kept fun _ _ q=>q
theorem Un.laid (k:∀ b u,h.get? b=some u->h'.get? b=some u) (hp:h.objs.size<=a) (hn:H a=none):Un fs ex H (upd H a o) h h' where
 keep:=fun b u q _ _ _=>k b u q
 slot:=fun b u q _ _ _=>⟨u.slots,k b u q⟩
 free:=fun b u q n _=>by rw [zao (zph (zoO (zoY q) hp))];exact n
 there:=fun b u q _=>⟨u,k b u q⟩
 tups:=fun b xs q=>by rw [zao (zak q hn)];exact q
 frzs:=fun b u xs q=>by rw [zao (zak q hn)];exact q
 tbls:=fun b ps q=>⟨#[],by rw [zao (zak q hn),q];simp⟩
theorem Un.write (mu:Mut (H x)) (he:e=x\/H e=some (.own x)) (k:∀ b u,b≠e->h.get? b=some u->h'.get? b=some u) (heo:∃ u,h'.get? e=some u):Un fs ex H (upd H x o) h h':=by
 have hx:∀ b,H b=none->b≠x:=fun b n z=>by subst z;rw [n] at mu;exact mu
 have hb:∀ b,H b=none->b≠e:=fun b n z=>by
  subst z;rcases he with r | r
  ·exact hx b n r
  ·rw [n] at r;cases r
 have hm:∀ b u,H b=some u->¬ Mut (some u)->b≠x:=fun b u q nm z=>by subst z;rw [q] at mu;exact nm mu
 refine⟨fun b u q n _ _=>k b u (hb b n) q,fun b u q n _ _=>⟨u.slots,k b u (hb b n) q⟩,fun b u q n _=>by rw [zao (hx b n)];exact n,fun b u q _=>?_,
  fun b xs q=>by rw [zao (hm b _ q fun z=>z)];exact q,fun b u xs q=>by rw [zao (hm b _ q fun z=>z)];exact q,fun b ps q=>⟨#[],by rw [zao (hm b _ q fun z=>z),q];simp⟩⟩
 by_cases hbe:b=e
 ·subst hbe;exact heo
 ·exact⟨u,k b u hbe q⟩
end
def trk (h:Heap) (H:Hp):List Addr:=(List.range h.objs.size).filter fun a=>(H a).isSome
def zjk (h:Heap) (H:Hp):Heap:=PySem.W.hideAll h (trk h H)
theorem zh2 (h:Heap) (H:Hp):(zjk h H).objs.size=h.objs.size:=PySem.W.hideAll_size _ _
theorem zjl {h:Heap} {H:Hp} {b:Addr} {o:Obj} (e:h.get? b=some o) (n:H b=none):(zjk h H).get? b=some o :=
 PySem.W.hideAll_get _ e fun hm=>by
  have q:(H b).isSome=true:=(zoR.mp hm).2;rw [n] at q;simp at q
theorem zln {h:Heap} {H:Hp} {b:Addr} {o:Obj} (e:(zjk h H).get? b=some o):h.get? b=some o/\H b=none:=by
 have e':h.get? b=some o:=PySem.W.of_hideAll (trk h H) e;refine⟨e',?_⟩;cases q:H b with
 | none=>rfl
 | some x =>
  have hm:b∈trk h H:=zoR.mpr ⟨List.mem_range.mpr (zoY e'),by simp [q]⟩;have z:(zjk h H).get? b=none:=PySem.W.hideAll_none (trk h H) hm;rw [z] at e;cases e
structure Mod (K:PySem.W.Frag) (mg:Str->Option Value) (base:Heap):Prop where
 kin:K.In base
 glob:base.Ns mainGlobals mg
 blt:∃ mb,base.Ns builtinsNs mb/\∀ x:Str,x≠"__name__"->mb x=bootBuiltins x
 nolimit:base.NoLimit
structure Cx where
 prog:Program
 w:World
 K:PySem.W.Frag
 mg:Str->Option Value
 base:Heap
 A:Around
 N:List Str
 s₀:Shared
 H₀:Hp
 env:Env
 outer:List Env
 stack:List Env
 ex:List Addr
 fn:Str->Bool
 calm:Bool
 pn:List (Addr × Obj)
 xe:Value->Shared->Prop
def frs (l:List Env):List Addr:=l.filterMap (·.frame)
abbrev Cx.fs (X:Cx):List Addr:=frs X.outer
def Vis (sc:Scope) (x:Str):Prop:=sc.names.lookup x=some .local\/sc.names.lookup x=some .cell\/sc.names.lookup x=some .free
def Loc (sc:Scope) (x:Str):Prop:=sc.names.lookup x=some .local\/sc.names.lookup x=some .cell
def Look (env:Env) (h:Heap) (m:Str->Option Value) (x:Str) (u:Value):Prop :=
 (env.kindOf x=some .local/\m x=some u)\/((env.kindOf x=some .cell\/env.kindOf x=some .free)/\∃ c,env.cells.lookup x=some c/\h.IsCell c (some u))
structure Cx.Ok (X:Cx):Prop where
 mod:Mod X.K X.mg X.base
 kind:X.env.scope.kind=.function
 glob:X.env.globals=mainGlobals
 blt:X.env.builtins=builtinsNs
 above:X.s₀.heap.objs.size<=X.env.locals
 inj:∀ x y c,X.env.cells.lookup x=some c->X.env.cells.lookup y=some c->x=y
 has:∀ x,(X.env.kindOf x=some .cell\/X.env.kindOf x=some .free)->∃ c,X.env.cells.lookup x=some c
 cab:∀ x c,X.fn x=true->X.env.cells.lookup x=some c->X.s₀.heap.objs.size<=c
 hd:X.calm=true->X.A.handled=none
 frames:X.A.frames=some X.stack
 stk:X.stack=X.outer\/(X.stack=X.env::X.outer/\X.env.frame=some X.env.locals)
 exf:∀ b∈X.ex,b≠X.env.locals/\∀ x c,X.env.cells.lookup x=some c->c≠b
 bs:∀ b o,X.base.get? b=some o->X.s₀.heap.get? b=some o/\X.H₀ b=none
 bsz:X.base.objs.size<=X.s₀.heap.objs.size
 noex:∀ b o,X.base.get? b=some o->b ∉ X.ex
 exfs:∀ b∈X.ex,b ∉ X.fs
 funs:X.s₀.heap.FunFrames X.base X.outer
 frf:∀ b∈X.fs,X.H₀ b=none
structure Inv (X:Cx) (pins:List (Addr × Obj)) (σ:List (Option V)) (H:Hp) (s:Shared):Prop where
 ok:X.Ok
 os:s.os=X.s₀.os
 bare:AllBare s.gens
 base:Un X.fs X.ex X.H₀ H X.s₀.heap s.heap
 loc:∃ m,s.heap.Ns X.env.locals m/\∀ (i:Nat) (x:Str) (v:V),X.N[i]?=some x->σ[i]?=some (some v)->Vis X.env.scope x->∃ u,zaO v u/\Look X.env s.heap m x u
 cell:∀ x c,X.env.cells.lookup x=some c->∃ v,s.heap.IsCell c v
 free:H X.env.locals=none
 freeC:∀ x c,X.env.cells.lookup x=some c->H c=none
 pin:∀ p∈X.pn++pins,s.heap.get? p.1=some p.2/\H p.1=none/\p.1≠X.env.locals/\p.1 ∉ X.fs/\∀ v,p.2.data≠.cell v
 hok:HOk X.prog X.w H s.heap
 len:σ.length=X.N.length
section
variable {X:Cx} {pins:List (Addr × Obj)} {σ:List (Option V)} {H H':Hp} {s:Shared} {h':Heap}
theorem Cx.Ok.nofr (ok:X.Ok) {b:Addr} {o:Obj} (e:X.base.get? b=some o):b ∉ X.fs:=fun hb=>by
 have:=(ok.funs.mem hb).1
 rw [e] at this;cases this
theorem Inv.bs (I:Inv X pins σ H s):∀ b o,X.base.get? b=some o->s.heap.get? b=some o/\H b=none:=fun b o e =>
 ⟨I.base.keep b o (I.ok.bs b o e).1 (I.ok.bs b o e).2 (I.ok.nofr e) (I.ok.noex b o e),I.base.free b o (I.ok.bs b o e).1 (I.ok.bs b o e).2 (I.ok.noex b o e)⟩
theorem Inv.bk (I:Inv X pins σ H s):∀ b o,X.base.get? b=some o->s.heap.get? b=some o:=fun b o e=>(I.bs b o e).1
theorem Inv.mod (I:Inv X pins σ H s):Mod X.K X.mg X.base:=I.ok.mod
theorem Inv.kIn (I:Inv X pins σ H s):X.K.In s.heap:=I.ok.mod.kin.keeps I.bk
theorem Inv.lt (I:Inv X pins σ H s):X.env.locals<s.heap.objs.size:=let ⟨_,hn,_⟩:=I.loc;hn.lt
theorem Inv.sz (I:Inv X pins σ H s):X.s₀.heap.objs.size<=s.heap.objs.size:=zoM I.ok.above (Nat.le_of_lt I.lt)
theorem Inv.nofs (I:Inv X pins σ H s) {a:Addr} (h:s.heap.objs.size<=a):a ∉ X.fs:=fun hb=>by
 obtain⟨_,o,ho,_⟩:=I.ok.funs.mem hb;exact absurd (zoO (zoY ho) (zoM I.sz h)) (Nat.lt_irrefl _)
theorem Inv.cne (I:Inv X pins σ H s):∀ x c,X.env.cells.lookup x=some c->c≠X.env.locals:=fun x c e z=>by
 obtain⟨v,o,ho,hd⟩:=I.cell x c e;obtain⟨m,⟨o',es,ep,ho',hd',_⟩,_⟩:=I.loc;rw [z,ho'] at ho;cases ho;rw [hd'] at hd;cases hd
theorem Inv.funs (I:Inv X pins σ H s):s.heap.FunFrames X.base X.outer:=by
 have all:∀ (l:List Env),(∀ b∈frs l,b∈X.fs)->X.s₀.heap.FunFrames X.base l->s.heap.FunFrames X.base l:=by
  intro l
  induction l with
  | nil=>intro _ _;trivial
  | cons env r ih =>
   intro hs hl;obtain⟨hk,⟨L,o,hf,hn,ho,hd⟩,hr⟩:=hl;have hL:L∈X.fs:=hs L (by unfold frs;rw [List.filterMap_cons,hf];exact zo6);obtain⟨sl,e⟩:=I.base.slot L o ho (I.ok.frf L hL) hL fun z=>I.ok.exfs L z hL
   exact⟨hk,⟨L,_,hf,hn,e,hd⟩,ih (fun b hb=>hs b (by unfold frs;rw [List.filterMap_cons,hf];exact zoQ _ hb)) hr⟩
 exact all X.outer (fun _ hb=>hb) I.ok.funs
theorem Inv.stack (I:Inv X pins σ H s):s.heap.FunFrames X.base X.stack:=by
 rcases I.ok.stk with e | ⟨e,hf⟩
 ·rw [e];exact I.funs
 ·rw [e];obtain⟨m,hn,_⟩:=I.loc;refine .cons (by rw [I.ok.kind];decide) hf hn ?_ I.funs;exact Heap.get?_none_of_le (zoM I.ok.bsz I.ok.above)
theorem Inv.stkSub (I:Inv X pins σ H s):∀ b∈frs X.stack,b∈X.env.locals::X.fs:=fun b hb=>by
 rcases I.ok.stk with e | ⟨e,hf⟩
 ·rw [e] at hb;exact zoQ _ hb
 ·rw [e] at hb;unfold frs at hb;rw [List.filterMap_cons,hf] at hb;exact hb
theorem Inv.stkFree (I:Inv X pins σ H s):∀ b∈frs X.stack,H b=none:=fun b hb=>by
 rcases zpg.mp (I.stkSub b hb) with e | hb
 ·rw [e];exact I.free
 ·obtain⟨_,o,ho,_⟩:=I.ok.funs.mem hb;exact I.base.free b o ho (I.ok.frf b hb) fun z=>I.ok.exfs b z hb
theorem Inv.step {g':Array GenState} {t':Nat} {d':Drawn} {ch:List Addr} (I:Inv X pins σ H s)
  (hch:∀ b∈ch,(b∈X.ex\/X.s₀.heap.objs.size<=b)/\b≠X.env.locals/\(∀ x c,X.env.cells.lookup x=some c->c≠b)/\∀ p∈X.pn++pins,p.1≠b)
  (keep:∀ b o,b≠X.env.locals->b ∉ X.fs->b ∉ ch->s.heap.get? b=some o->H b=none->h'.get? b=some o)
  (slot:∀ b o,b≠X.env.locals->b∈X.fs->b ∉ ch->s.heap.get? b=some o->H b=none->∃ sl,h'.get? b=some { o with slots:=sl }) (free:∀ b o,b ∉ ch->s.heap.get? b=some o->H b=none->H' b=none)
  (there:∀ b o,b ∉ ch->s.heap.get? b=some o->∃ o',h'.get? b=some o')
  (tups:∀ b xs,H b=some (.tup xs)->H' b=some (.tup xs)) (frzs:∀ b o u,H b=some (.frz o u)->H' b=some (.frz o u)) (tbls:∀ b ps,H b=some (.tbl ps)->∃ more,H' b=some (.tbl (ps++more)))
  (ns:∀ m,s.heap.Ns X.env.locals m->h'.Ns X.env.locals m) (hok:HOk X.prog X.w H' h') (hg:AllBare g') :
  Inv X pins σ H' { s with heap:=h',gens:=g',drawn:=d',toks:=t' }:=by
 have neL:∀ b o,X.s₀.heap.get? b=some o->b≠X.env.locals:=fun b o e=>zph (zoO (zoY e) I.ok.above)
 have neC:∀ b o,X.s₀.heap.get? b=some o->b ∉ X.ex->b ∉ ch:=fun b o e hx hb=>by
  rcases (hch b hb).1 with z | z
  ·exact hx z
  ·exact absurd (zoO (zoY e) z) (Nat.lt_irrefl _)
 have cellK:∀ x c,X.env.cells.lookup x=some c->∀ v,s.heap.IsCell c v->h'.IsCell c v:=fun x c e v ⟨o,ho,hd⟩=>by
  have nch:c ∉ ch:=fun z=>(hch c z).2.2.1 x c e rfl
  by_cases hc:c∈X.fs
  ·obtain⟨sl,q⟩:=slot c o (I.cne x c e) hc nch ho (I.freeC x c e);exact⟨_,q,hd⟩
  ·exact⟨o,keep c o (I.cne x c e) hc nch ho (I.freeC x c e),hd⟩
 refine⟨I.ok,I.os,hg,⟨fun b o e n hb hx=>?_,fun b o e n hb hx=>?_,fun b o e n hx=>?_,fun b o e hx=>?_,fun b xs e=>tups b xs (I.base.tups b xs e),fun b o xs e=>frzs b o xs (I.base.frzs b o xs e),fun b ps e=>?_⟩,?_,fun x c e=>?_,?_,fun x c e=>?_,fun p hp=>?_,hok,I.len⟩
 ·exact keep b o (neL b o e) hb (neC b o e hx) (I.base.keep b o e n hb hx) (I.base.free b o e n hx)
 ·obtain⟨sl,e1⟩:=I.base.slot b o e n hb hx;obtain⟨sl',e2⟩:=slot b _ (neL b o e) hb (neC b o e hx) e1 (I.base.free b o e n hx);exact⟨sl',e2⟩
 ·obtain⟨o',e1⟩:=I.base.there b o e hx;exact free b o' (neC b o e hx) e1 (I.base.free b o e n hx)
 ·obtain⟨o',e1⟩:=I.base.there b o e hx;exact there b o' (neC b o e hx) e1
 ·obtain⟨m1,e1⟩:=I.base.tbls b ps e;obtain⟨m2,e2⟩:=tbls b _ e1;exact⟨m1++m2,by rw [e2,Array.append_assoc]⟩
 ·obtain⟨m,hn,hl⟩:=I.loc;refine⟨m,ns m hn,fun i x v e1 e2 e3=>?_⟩;obtain⟨u,r,l⟩:=hl i x v e1 e2 e3;refine⟨u,r,?_⟩;rcases l with l | ⟨k,c,e,z⟩
  ·exact .inl l
  ·exact .inr ⟨k,c,e,cellK x c e _ z⟩
 ·obtain⟨v,z⟩:=I.cell x c e;exact⟨v,cellK x c e v z⟩
 ·obtain⟨m,⟨o,_,_,ho,_⟩,_⟩:=I.loc;exact free _ o (fun z=>(hch _ z).2.1 rfl) ho I.free
 ·obtain⟨v,o,ho,hd⟩:=I.cell x c e;exact free c o (fun z=>(hch c z).2.2.1 x c e rfl) ho (I.freeC x c e)
 ·obtain⟨e,n,ne,nf,d⟩:=I.pin p hp;have nch:p.1 ∉ ch:=fun z=>(hch p.1 z).2.2.2 p hp rfl
  exact⟨keep p.1 p.2 ne nf nch e n,free p.1 p.2 nch e n,ne,nf,d⟩
theorem Inv.un {t':Nat} (I:Inv X pins σ H s) (u:Un X.fs [] H H' s.heap h') (hok:HOk X.prog X.w H' h'):Inv X pins σ H' { s with heap:=h',toks:=t' }:=by
 obtain⟨m,⟨o,es,ep,ho,r⟩,_⟩:=id I.loc;obtain⟨sl,hL⟩:=u.any ho I.free (by simp);exact I.step (g':=s.gens) (d':=s.drawn) (ch:=[]) (fun _ z=>nomatch z) (fun b o _ hb _ e n=>u.keep b o e n hb (by simp)) (fun b o _ hb _ e n=>u.slot b o e n hb (by simp)) (fun b o _ e n=>u.free b o e n (by simp)) (fun b o _ e=>u.there b o e (by simp)) u.tups u.frzs u.tbls (fun m' hm=>by
  obtain⟨o',es',ep',ho',r'⟩:=hm;rw [ho] at ho';cases ho';exact⟨_,es',ep',hL,r'⟩) hok I.bare
theorem Inv.call {g':Array GenState} {t':Nat} {d':Drawn} {ch:List Addr} (I:Inv X pins σ H s) (u:Un (frs X.stack) ch H H' s.heap h') (hok:HOk X.prog X.w H' h') (hg:AllBare g')
  (hch:∀ b∈ch,(b∈X.ex\/X.s₀.heap.objs.size<=b)/\b≠X.env.locals/\(∀ x c,X.env.cells.lookup x=some c->c≠b)/\∀ p∈X.pn++pins,p.1≠b) :
  Inv X pins σ H' { s with heap:=h',gens:=g',drawn:=d',toks:=t' }:=by
 obtain⟨m,⟨o,es,ep,ho,r⟩,_⟩:=id I.loc;obtain⟨sl,hL⟩:=u.any ho I.free fun z=>(hch _ z).2.1 rfl
 exact I.step (ch:=ch) hch (fun b o hL hb hc e n=>u.keep b o e n (fun z=>(zpg.mp (I.stkSub b z)).elim hL hb) hc) (fun b o _ _ hc e n=>u.any e n hc) (fun b o hc e n=>u.free b o e n hc) (fun b o hc e=>u.there b o e hc) u.tups u.frzs u.tbls (fun m' hm=>by
  obtain⟨o',es',ep',ho',r'⟩:=hm;rw [ho] at ho';cases ho';exact⟨_,es',ep',hL,r'⟩) hok hg
theorem Inv.turned {t':Nat} {it:Addr} (I:Inv X pins σ H s) (k:∀ b o,b≠it->s.heap.get? b=some o->h'.get? b=some o) (hn:H it=none) (hL:it≠X.env.locals)
  (h1:it∈X.ex\/X.s₀.heap.objs.size<=it) (h2:∀ x c,X.env.cells.lookup x=some c->c≠it) (h3:∀ p∈X.pn++pins,p.1≠it):Inv X pins σ H { s with heap:=h',toks:=t' }:=by
 have nit:∀ b u,H b=some u->b≠it:=fun b u e z=>by rw [z,hn] at e;cases e
 refine I.step (g':=s.gens) (d':=s.drawn) (ch:=[it]) (fun b hb=>?_) (fun b o _ _ hc e _=>k b o (fun z=>hc (by simp [z])) e) (fun b o _ _ hc e _=>⟨o.slots,k b o (fun z=>hc (by simp [z])) e⟩) (fun _ _ _ _ n=>n)
  (fun b o hc e=>⟨o,k b o (fun z=>hc (by simp [z])) e⟩) (fun _ _ e=>e) (fun _ _ _ e=>e) (fun b ps e=>⟨#[],by rw [e];simp⟩) (fun m hm=>?_) (fun b u e=>?_) I.bare
 ·have e:b=it:=by simpa using hb
  subst e;exact⟨h1,hL,h2,h3⟩
 ·obtain⟨o,es,ep,ho,r⟩:=hm;exact⟨o,es,ep,k _ o (Ne.symm hL) ho,r⟩
 ·refine (I.hok b u e).stay (fun c v hc q=>k c v ?_ q) (fun _ q=>q) fun _ _ q=>q
  rcases hc with z | z
  ·rw [z];exact nit b u e
  ·exact nit c _ z
theorem Inv.tok (I:Inv X pins σ H s) (t:Nat):Inv X pins σ H { s with toks:=t }:=I.un (h':=s.heap) (t':=t) Un.refl I.hok
theorem Inv.kept {t':Nat} (I:Inv X pins σ H s) (k:∀ b u,s.heap.get? b=some u->h'.get? b=some u):Inv X pins σ H { s with heap:=h',toks:=t' }:=I.un (Un.kept k) (I.hok.kept k)
theorem Inv.laid {a:Addr} {o:HO} {t':Nat} (I:Inv X pins σ H s) (k:∀ b u,s.heap.get? b=some u->h'.get? b=some u) (hp:s.heap.objs.size<=a) (new:zaV X.prog X.w (upd H a o) h' a o) :
  Inv X pins σ (upd H a o) { s with heap:=h',toks:=t' }:=I.un (Un.laid k hp (I.hok.fresh hp)) (I.hok.laid k hp new)
theorem Inv.write {x e:Addr} {o:HO} {t':Nat} (I:Inv X pins σ H s) (mu:Mut (H x)) (he:e=x\/H e=some (.own x)) (k:∀ b u,b≠e->s.heap.get? b=some u->h'.get? b=some u) (heo:∃ u,h'.get? e=some u)
  (new:zaV X.prog X.w (upd H x o) h' x o):Inv X pins σ (upd H x o) { s with heap:=h',toks:=t' }:=I.un (Un.write mu he k heo) (I.hok.write mu he k heo new)
theorem Inv.pins_of {pins':List (Addr × Obj)} (I:Inv X pins σ H s) (h:∀ p∈pins',s.heap.get? p.1=some p.2/\H p.1=none/\p.1≠X.env.locals/\p.1 ∉ X.fs/\∀ v,p.2.data≠.cell v):Inv X pins' σ H s :=
 ⟨I.ok,I.os,I.bare,I.base,I.loc,I.cell,I.free,I.freeC,fun p hp=>(zoI.mp hp).elim (fun z=>I.pin p (zo4 _ z)) (h p),I.hok,I.len⟩
theorem zgH {N:List Str} (hN:N.Nodup) {i j:Nat} {x:Str} (a:N[i]?=some x) (b:N[j]?=some x):i=j:=by
 obtain⟨h1,e1⟩:=zoB.mp a;obtain⟨h2,e2⟩:=zoB.mp b;exact (List.getElem_inj hN).mp (e1.trans e2.symm)
theorem zfM {M:Model} {A:Around} {E:Value->Shared->Prop} {i:Nat} {x:Str} {v:V} {u:Value} {Q:Unit->Shared->Prop} (I:Inv X pins σ H s) (hN:X.N.Nodup) (hi:X.N[i]?=some x) (hx:Loc X.env.scope x) (r:zaO v u)
  (h:∀ s',Inv X pins (σ.set i (some v)) H s'->(∃ a,Heap.SameBut a s.heap s'.heap/\(a=X.env.locals\/X.env.cells.lookup x=some a))->Q () s') (hf:X.fn x=true\/X.env.scope.names.lookup x=some .local:=by first | exact .inl rfl | exact .inr rfl | assumption):wpAny M A (storeName X.env x u) Q E s:=by
 obtain⟨m,hn,hl⟩:=id I.loc;have hcls:(X.env.scope.kind == .class || (X.env.scope.kind == .module && X.env.locals != X.env.globals))=false:=by rw [I.ok.kind];rfl
 have hiσ:i<σ.length:=by rw [I.len];exact (zoB.mp hi).1
 have cne:=I.cne;have tracked:∀ {a:Addr} {h':Heap},(∃ o,s.heap.get? a=some o/\H a=none)->Heap.SameBut a s.heap h'->HOk X.prog X.w H h':=fun {a h'} ha hs b ob e=>by
  obtain⟨_,_,hfree⟩:=ha;refine (I.hok b ob e).stay (fun c w' hc q=>(hs.2 c ?_).trans q) (fun _ q=>q) fun _ _ q=>q
  rintro rfl;rcases hc with rfl | hc
  ·rw [hfree] at e;cases e
  ·rw [hfree] at hc;cases hc
 rcases hx with hk | hk
 ·refine wpAny_storeName_local hk hn (fun h' hn' hs=>?_) hcls;obtain⟨oL,_,_,hoL,_⟩:=id hn;refine h _ ⟨I.ok,I.os,I.bare,⟨fun b o e n hb hx=>?_,fun b o e n hb hx=>?_,I.base.free,fun b o e hx=>?_,I.base.tups,I.base.frzs,I.base.tbls⟩,⟨_,hn',fun j y v' e1 e2 e3=>?_⟩,fun y c e=>?_,I.free,I.freeC,fun p hp=>?_,tracked ⟨oL,hoL,I.free⟩ hs,by simpa using I.len⟩ ⟨_,hs,.inl rfl⟩
  ·exact (hs.2 b (zph (zoO (zoY e) I.ok.above))).trans (I.base.keep b o e n hb hx)
  ·obtain⟨sl,e1⟩:=I.base.slot b o e n hb hx;exact⟨sl,(hs.2 b (zph (zoO (zoY e) I.ok.above))).trans e1⟩
  ·obtain⟨o',e1⟩:=I.base.there b o e hx;exact⟨o',(hs.2 b (zph (zoO (zoY e) I.ok.above))).trans e1⟩
  ·by_cases hj:j=i
   ·subst hj;rw [hi] at e1;cases e1;rw [List.getElem?_set_self hiσ] at e2;cases e2;exact⟨u,r,.inl ⟨hk,by simp⟩⟩
   ·rw [List.getElem?_set_ne (Ne.symm hj)] at e2;obtain⟨u',r',q⟩:=hl j y v' e1 e2 e3;refine⟨u',r',?_⟩;rcases q with ⟨k,e⟩ | ⟨k,c,e,z⟩
    ·refine .inl ⟨k,?_⟩
     have:y≠x:=fun e=>hj (zgH hN e1 (e ▸ hi))
     simp [this,e]
    ·exact .inr ⟨k,c,e,z.sameBut hs (cne y c e)⟩
  ·obtain⟨w',z⟩:=I.cell y c e;exact⟨w',z.sameBut hs (cne y c e)⟩
  ·obtain⟨e,n,ne,nf,d⟩:=I.pin p hp;exact⟨(hs.2 p.1 ne).trans e,n,ne,nf,d⟩
 ·have hfn:X.fn x=true:=by
   rcases hf with z | z
   ·exact z
   ·rw [z] at hk;cases hk
  obtain⟨c,hc⟩:=I.ok.has x (.inl hk);obtain⟨w',z⟩:=I.cell x c hc;refine wpAny_storeName_cell I.ok.kind hk hc z (fun h' hc' hs=>?_);obtain⟨oc,hoc,hocd⟩:=id z;refine h { s with heap:=h' } ⟨I.ok,I.os,I.bare,⟨fun b o e n hb hx=>?_,fun b o e n hb hx=>?_,I.base.free,fun b o e hx=>?_,I.base.tups,I.base.frzs,I.base.tbls⟩,⟨m,hn.sameBut hs (Ne.symm (cne x c hc)),fun j y v' e1 e2 e3=>?_⟩,fun y c' e=>?_,I.free,I.freeC,fun p hp=>?_,tracked ⟨oc,hoc,I.freeC x c hc⟩ hs,by simpa using I.len⟩ ⟨c,hs,.inr hc⟩
  ·exact (hs.2 b (zph (zoO (zoY e) (I.ok.cab x c hfn hc)))).trans (I.base.keep b o e n hb hx)
  ·obtain⟨sl,e1⟩:=I.base.slot b o e n hb hx;exact⟨sl,(hs.2 b (zph (zoO (zoY e) (I.ok.cab x c hfn hc)))).trans e1⟩
  ·obtain⟨o',e1⟩:=I.base.there b o e hx;exact⟨o',(hs.2 b (zph (zoO (zoY e) (I.ok.cab x c hfn hc)))).trans e1⟩
  ·by_cases hj:j=i
   ·subst hj;rw [hi] at e1;cases e1;rw [List.getElem?_set_self hiσ] at e2;cases e2;exact⟨u,r,.inr ⟨.inl hk,c,hc,hc'⟩⟩
   ·rw [List.getElem?_set_ne (Ne.symm hj)] at e2;obtain⟨u',r',q⟩:=hl j y v' e1 e2 e3;refine⟨u',r',?_⟩;rcases q with q | ⟨k,c',e,z'⟩
    ·exact .inl q
    ·refine .inr ⟨k,c',e,z'.sameBut hs ?_⟩;rintro rfl;exact hj (zgH hN e1 (I.ok.inj _ _ _ e hc ▸ hi))
  ·by_cases hcc:c'=c
   ·subst hcc;exact⟨_,hc'⟩
   ·obtain⟨w2,z2⟩:=I.cell y c' e;exact⟨w2,z2.sameBut hs hcc⟩
  ·obtain⟨e,n,ne,nf,d⟩:=I.pin p hp;refine⟨(hs.2 p.1 ?_).trans e,n,ne,nf,d⟩;intro q;rw [q,hoc] at e;have q':oc=p.2:=zpk e;exact d w' (by rw [← q'];exact hocd)
theorem ze8 {M:Model} {A:Around} {E:Value->Shared->Prop} {i:Nat} {x:Str} {v:V} {u:Value} {Q:Unit->Shared->Prop} (I:Inv X pins σ H s) (hN:X.N.Nodup) (hi:X.N[i]?=some x) (hx:Loc X.env.scope x) (r:zaO v u)
  (h:∀ s',Inv X pins (σ.set i (some v)) H s'->Q () s') (hf:X.fn x=true\/X.env.scope.names.lookup x=some .local:=by first | exact .inl rfl | exact .inr rfl | assumption):wpAny M A (storeName X.env x u) Q E s :=
 zfM I hN hi hx r (fun s' I' _=>h s' I') hf
theorem Inv.call' {s':Shared} {ch:List Addr} (I:Inv X pins σ H s) (ho:s'.os=s.os) (u:Un (frs X.stack) ch H H' s.heap s'.heap) (hok:HOk X.prog X.w H' s'.heap) (hg:AllBare s'.gens)
  (hch:∀ b∈ch,(b∈X.ex\/X.s₀.heap.objs.size<=b)/\b≠X.env.locals/\(∀ x c,X.env.cells.lookup x=some c->c≠b)/\∀ p∈X.pn++pins,p.1≠b):Inv X pins σ H' s':=by
 obtain⟨h',g',d',t',o'⟩:=s';have e:o'=s.os:=ho;subst e;exact I.call (g':=g') (t':=t') (d':=d') u hok hg hch
end
abbrev XK:=Value->Option Addr->Hp->Prop
abbrev St:=List (Option V)
abbrev VK:=V->Hp->Prop
abbrev TE:=St->Hp->VK->Prop
abbrev TT:=St->Hp->(Bool->Hp->Prop)->Prop
abbrev TA:=St->Hp->(List V->Hp->Prop)->Prop
structure zi2 where
 nx:St->Hp->Prop
 rt:VK
 bk:St->Hp->Prop:=fun _ _=>False
 ct:St->Hp->Prop:=fun _ _=>False
abbrev TS:=zi2->St->Hp->Prop
def EP (X:Cx) (pins:List (Addr × Obj)) (σ:St) (Q:VK) (u:Value) (s':Shared):Prop:=∃ v H',Inv X pins σ H' s'/\zaO v u/\Q v H'
def TP (X:Cx) (pins:List (Addr × Obj)) (σ:St) (Q:Bool->Hp->Prop) (b:Bool) (s':Shared):Prop:=∃ H',Inv X pins σ H' s'/\Q b H'
def AP (X:Cx) (pins:List (Addr × Obj)) (σ:St) (Q:List V->Hp->Prop) (us:List Value) (s':Shared):Prop:=∃ vs H',Inv X pins σ H' s'/\zaU vs us/\Q vs H'
def SP (X:Cx) (pins:List (Addr × Obj)) (D:zi2) (f:Flow) (s':Shared):Prop :=
 match f with
 | .next=>∃ σ' H',Inv X pins σ' H' s'/\D.nx σ' H'
 | .brk=>∃ σ' H',Inv X pins σ' H' s'/\D.bk σ' H'
 | .cont=>∃ σ' H',Inv X pins σ' H' s'/\D.ct σ' H'
 | .ret u=>∃ v σ' H',Inv X pins σ' H' s'/\zaO v u/\D.rt v H'
def PE (X:Cx) (e:Expr) (t:TE):Prop :=
 ∀ (pins:List (Addr × Obj)) (s:Shared) (σ:St) (H:Hp) (Q:VK),Inv X pins σ H s->t σ H Q->wpAny (model X.prog X.w) X.A (eval e X.env) (EP X pins σ Q) X.xe s
def PT (X:Cx) (e:Expr) (t:TT):Prop :=
 ∀ (pins:List (Addr × Obj)) (s:Shared) (σ:St) (H:Hp) (Q:Bool->Hp->Prop),Inv X pins σ H s->t σ H Q->wpAny (model X.prog X.w) X.A (isTrue e X.env (eval e X.env)) (TP X pins σ Q) X.xe s
def PW (X:Cx) (e:Expr) (t:TT):Prop :=
 ∀ (whole:Sem Value) (pins:List (Addr × Obj)) (s:Shared) (σ:St) (H:Hp) (Q:Bool->Hp->Prop),Inv X pins σ H s->t σ H Q->wpAny (model X.prog X.w) X.A (isTrue e X.env whole) (TP X pins σ Q) X.xe s
theorem PW.pt {X:Cx} {e:Expr} {t:TT} (h:PW X e t):PT X e t:=h _
def PA (X:Cx) (es:List Expr) (t:TA):Prop :=
 ∀ (pos:Pos) (pins:List (Addr × Obj)) (s:Shared) (σ:St) (H:Hp) (Q:List V->Hp->Prop),Inv X pins σ H s->t σ H Q->wpAny (model X.prog X.w) X.A (spliced (backTo pos (starEach es X.env))) (AP X pins σ Q) X.xe s
def PS (X:Cx) (st:Stmt) (t:TS):Prop :=
 ∀ (pins:List (Addr × Obj)) (s:Shared) (σ:St) (H:Hp) (D:zi2),Inv X pins σ H s->t D σ H->wpAny (model X.prog X.w) X.A (exec st X.env) (SP X pins D) X.xe s
def PSs (X:Cx) (st:List Stmt) (t:TS):Prop :=
 ∀ (pins:List (Addr × Obj)) (s:Shared) (σ:St) (H:Hp) (D:zi2),Inv X pins σ H s->t D σ H->wpAny (model X.prog X.w) X.A (execs st X.env) (SP X pins D) X.xe s
theorem thn {α:Type} {t:Sem α} {Q Q':α->Shared->Prop} {M:Model} {A:Around} {E:Value->Shared->Prop} {s:Shared} (h:wpAny M A t Q E s) (hQ:∀ a s,Q a s->Q' a s):wpAny M A t Q' E s:=wpAny_mono h hQ fun _ _ x=>x
section
variable {X:Cx}
def tVar (i:Nat):TE:=fun σ H Q=>∃ v,σ[i]?=some (some v)/\Q v H
def tC (v:V):TE:=fun _ H Q=>Q v H
theorem zm0 {i:Nat} {x:Str} {pos:Pos} (hN:X.N[i]?=some x) (hv:Vis X.env.scope x) (hd:(x == ("__debug__":Str))=false:=by decide) (hcd:(x == ("__classdict__":Str))=false:=by decide):PE X (.Name x pos) (tVar i):=by
 intro pins s σ H Q I h;obtain⟨v,e,h⟩:=h;obtain⟨m,hn,hl⟩:=I.loc;obtain⟨u,r,l⟩:=hl i x v hN e hv;have fin:EP X pins σ Q u s:=⟨v,H,I,r,h⟩;rcases l with ⟨hk,hm⟩ | ⟨hk,c,hc,hcell⟩
 ·exact wpAny_Name (wpAny_loadName_local I.ok.kind hk hn hm fin) hd
 ·rcases hk with hk | hk
  ·exact wpAny_Name (wpAny_loadName_cell I.ok.kind hk hc hcell fin) hd
  ·exact wpAny_Name (wpAny_loadName_free I.ok.kind hk hc hcell fin hcd) hd
theorem zac {i j pos}:PE X (.Constant (.int i) j pos) (tC (.int i)):=fun _ _ _ H _ I h=>wpAny_Constant_int ⟨.int i,H,I.tok _,⟨_,rfl⟩,h⟩
theorem zcJ {b j pos}:PE X (.Constant (.bool b) j pos) (tC (.bl b)):=fun _ _ _ H _ I h=>Constant_bool ⟨.bl b,H,I,rfl,h⟩
theorem zbB {j pos}:PE X (.Constant .none j pos) (tC .non):=fun _ _ _ H _ I h=>Constant_none ⟨.non,H,I,rfl,h⟩
theorem zbE {x j pos}:PE X (.Constant (.str x) j pos) (tC (.str x)):=fun _ _ _ H _ I h=>Calls.Constant_str ⟨.str x,H,I.tok _,⟨_,rfl⟩,h⟩
def Gl (X:Cx) (x:Str):Prop:=X.env.kindOf x=some .globalImplicit
theorem zdH {E:Value->Shared->Prop} {pins:List (Addr × Obj)} {s:Shared} {σ:St} {H:Hp} {x:Str} {u:Value} {pos:Pos} {Q:Value->Shared->Prop} (I:Inv X pins σ H s) (hg:Gl X x) (hm:X.mg x=some u) (h:Q u s)
  (hd:(x == ("__debug__":Str))=false:=by decide):wpAny (model X.prog X.w) X.A (eval (.Name x pos) X.env) Q E s :=
 Calls.Name_function_global I.ok.kind hg (Calls.loadGlobal_global (by rw [I.ok.glob];exact I.mod.glob.keeps I.bk) hm h) hd
theorem zeh {E:Value->Shared->Prop} {pins:List (Addr × Obj)} {s:Shared} {σ:St} {H:Hp} {x:Str} {u:Value} {pos:Pos} {Q:Value->Shared->Prop} (I:Inv X pins σ H s) (hg:Gl X x) (hm:X.mg x=none) (hv:bootBuiltins x=some u) (h:Q u s)
  (hn:x≠"__name__":=by decide) (hd:(x == ("__debug__":Str))=false:=by decide):wpAny (model X.prog X.w) X.A (eval (.Name x pos) X.env) Q E s:=by
 obtain⟨mb,h1,h2⟩:=I.mod.blt;exact Calls.Name_function_global I.ok.kind hg (Calls.loadGlobal_builtin (by rw [I.ok.glob];exact I.mod.glob.keeps I.bk) hm (by rw [I.ok.blt];exact h1.keeps I.bk) ((h2 x hn).trans hv) h) hd
theorem zlv {x:Str} {v:V} {u:Value} {pos:Pos} (hg:Gl X x) (hm:X.mg x=some u) (r:zaO v u) (hd:(x == ("__debug__":Str))=false:=by decide):PE X (.Name x pos) (tC v) :=
 fun _ _ _ H _ I h=>zdH I hg hm ⟨v,H,I,r,h⟩ hd
variable {a b:Expr} {ta tb:TE} {pos:Pos}
variable {tA tB':TT} {rest:List Expr}
def tAnd (t u:TT):TT:=fun σ H Q=>t σ H fun c H1=>if c=true then u σ H1 Q else Q false H1
def tOr (t u:TT):TT:=fun σ H Q=>t σ H fun c H1=>if c=true then Q true H1 else u σ H1 Q
def tNot (t:TT):TT:=fun σ H Q=>t σ H fun c H1=>Q (!c) H1
theorem zlN (ha:PT X a tA):PW X (.BoolOp .And [a] pos) tA:=by
 intro wh pins s σ H Q I h;refine isTrue_and (thn (ha pins s σ H Q I h) fun c s1 e=>?_);cases c with
 | true=>exact isTrue_and_nil e
 | false=>exact e
theorem zm5 (ha:PT X a tA):PW X (.BoolOp .Or [a] pos) tA:=by
 intro wh pins s σ H Q I h;refine isTrue_or (thn (ha pins s σ H Q I h) fun c s1 e=>?_);cases c with
 | false=>exact isTrue_or_nil e
 | true=>exact e
theorem zm4 (ha:PT X a tA) (hb:PW X (.BoolOp .And (b::rest) pos) tB'):PW X (.BoolOp .And (a::b::rest) pos) (tAnd tA tB'):=by
 intro wh pins s σ H Q I h;refine isTrue_and (thn (ha pins s σ H _ I h) fun c s1 ⟨H1,I1,q1⟩=>?_);cases c with
 | true=>exact hb wh pins s1 σ H1 Q I1 q1
 | false=>exact⟨H1,I1,q1⟩
theorem zob (ha:PT X a tA) (hb:PW X (.BoolOp .Or (b::rest) pos) tB'):PW X (.BoolOp .Or (a::b::rest) pos) (tOr tA tB'):=by
 intro wh pins s σ H Q I h;refine isTrue_or (thn (ha pins s σ H _ I h) fun c s1 ⟨H1,I1,q1⟩=>?_);cases c with
 | true=>exact⟨H1,I1,q1⟩
 | false=>exact hb wh pins s1 σ H1 Q I1 q1
theorem zdQ (ha:PT X a tA):PT X (.UnaryOp .Not a pos) (tNot tA):=by
 intro pins s σ H Q I h;exact isTrue_not (ha pins s σ H (fun c H1=>Q (!c) H1) I h)
theorem zel {op} {t:TE} (h:PE X a t):PE X (.BoolOp op [a] pos) t:=fun pins s σ H Q I hw=>BoolOp_one (h pins s σ H Q I hw)
def tIf (t:TT) (ta tb:TE):TE:=fun σ H Q=>t σ H fun c H1=>if c=true then ta σ H1 Q else tb σ H1 Q
theorem zjL {c:Expr} (hc:PT X c tA) (ha:PE X a ta) (hb:PE X b tb):PE X (.IfExp c a b pos) (tIf tA ta tb):=by
 intro pins s σ H Q I h;refine wpAny_IfExp (thn (hc pins s σ H _ I h) fun d s1 ⟨H1,I1,q1⟩=>?_);cases d with
 | true=>exact ha pins s1 σ H1 Q I1 q1
 | false=>exact hb pins s1 σ H1 Q I1 q1
end
def SqL (K:PySem.W.Frag) (H:Hp) (a:Addr) (xs:List V):Prop :=
 Rd H a (.lst xs) \/
  ∃ (o:Obj) (its:Array Value) (n:Nat),K.lookup a=some o/\o.cls=.type "list"/\o.dict=none/\o.data=.seq its n/\its.size<=sizeLine/\zaU xs its.toList
def SqT (K:PySem.W.Frag) (H:Hp) (a:Addr) (xs:List V):Prop :=
 Rd H a (.tup xs) \/
  ∃ (o:Obj) (its:Array Value) (n:Nat),K.lookup a=some o/\o.cls=.type "tuple"/\o.data=.seq its n/\its.size<=sizeLine/\zaU xs its.toList
def absV:Value->Option V
 | .none=>some .non
 | .bool b=>some (.bl b)
 | .int i _=>some (.int i)
 | .str x _=>some (.str x)
 | .bytes b _=>some (.byt b)
 | .float b _=>some (.flt b)
 | .ref a=>some (.ref a)
 | .type n=>some (.ty n)
 | _=>none
theorem zaO.abs {x:V} {u:Value} (r:zaO x u):absV u=some x:=by
 cases x with
 | non=>cases r;rfl
 | bl _=>cases r;rfl
 | int _=>obtain⟨t,rfl⟩:=r;rfl
 | str _=>obtain⟨t,rfl⟩:=r;rfl
 | byt _=>obtain⟨t,rfl⟩:=r;rfl
 | flt _=>obtain⟨t,rfl⟩:=r;rfl
 | ref _=>cases r;rfl
 | ty _=>cases r;rfl
theorem zaO.inj {x y:V} {u:Value} (r:zaO x u) (q:zaO y u):x=y:=zpk (r.abs.symm.trans q.abs)
theorem zaU.inj:∀ {xs ys:List V} {us:List Value},zaU xs us->zaU ys us->xs=ys
 | _,_,_,.nil,.nil=>rfl
 | _,_,_,.cons r t,.cons r' t'=>by rw [r.inj r',zaU.inj t t']
section
variable {X:Cx} {pins:List (Addr × Obj)} {σ:St} {H:Hp} {s:Shared} {a:Addr} {xs ys:List V}
theorem SqL.of {K:PySem.W.Frag} (h:H a=some (.lst xs)):SqL K H a xs:=.inl (.inl h)
theorem SqT.of {K:PySem.W.Frag} (h:H a=some (.tup xs)):SqT K H a xs:=.inl (.inl h)
theorem Inv.list (I:Inv X pins σ H s) (h:SqL X.K H a xs):∃ its:List Value,zaU xs its/\PlainL s.heap a its.toArray/\xs.length<=sizeLine:=by
 rcases h with h | ⟨o,its,n,hk,hc,hd,hs,hz,r⟩
 ·obtain⟨z,its,n,r,e⟩:=h.ok I.hok;exact⟨its,r,⟨_,n,e,rfl,rfl,rfl⟩,z⟩
 ·refine⟨its.toList,r,⟨o,n,I.kIn a o hk,hc,hd,by simpa using hs⟩,?_⟩;have e:=r.length;simp only [zpd] at e;omega
theorem Inv.tuple (I:Inv X pins σ H s) (h:SqT X.K H a xs):∃ its:List Value,zaU xs its/\IsTup s.heap a its.toArray/\xs.length<=sizeLine:=by
 rcases h with h | ⟨o,its,n,hk,hc,hs,hz,r⟩
 ·obtain⟨z,its,r,p⟩:=h.ok I.hok;exact⟨its,r,p.tup,z⟩
 ·refine⟨its.toList,r,⟨o,I.kIn a o hk,hc,n,by simpa using hs⟩,?_⟩;have e:=r.length;simp only [zpd] at e;omega
theorem Inv.list_inj (I:Inv X pins σ H s) (h:SqL X.K H a xs) (h':SqL X.K H a ys):xs=ys:=by
 obtain⟨its,r,⟨o,n,e,_,_,d⟩,_⟩:=I.list h;obtain⟨its',r',⟨o',n',e',_,_,d'⟩,_⟩:=I.list h';rw [e] at e';cases e';rw [d] at d';injection d' with d1 _
 have:its=its':=by simpa using congrArg Array.toList d1
 subst this;exact r.inj r'
end
abbrev Cx.wish (X:Cx) (E:Value->Shared->Prop):Cx:={ X with xe:=E }
abbrev Cx.nox (X:Cx):Cx:=X.wish fun _ _=>False
theorem Cx.Ok.wish {X:Cx} (ok:X.Ok) (E:Value->Shared->Prop):(X.wish E).Ok :=
 ⟨ok.mod,ok.kind,ok.glob,ok.blt,ok.above,ok.inj,ok.has,ok.cab,ok.hd,ok.frames,ok.stk,ok.exf,ok.bs,ok.bsz,ok.noex,ok.exfs,ok.funs,ok.frf⟩
theorem Cx.Ok.unwish {X:Cx} {E:Value->Shared->Prop} (ok:(X.wish E).Ok):X.Ok :=
 ⟨ok.mod,ok.kind,ok.glob,ok.blt,ok.above,ok.inj,ok.has,ok.cab,ok.hd,ok.frames,ok.stk,ok.exf,ok.bs,ok.bsz,ok.noex,ok.exfs,ok.funs,ok.frf⟩
section
variable {X:Cx} {pins:List (Addr × Obj)} {σ:St} {H:Hp} {s:Shared} {E:Value->Shared->Prop}
theorem Inv.wish (I:Inv X pins σ H s) (E:Value->Shared->Prop):Inv (X.wish E) pins σ H s:=⟨I.ok.wish E,I.os,I.bare,I.base,I.loc,I.cell,I.free,I.freeC,I.pin,I.hok,I.len⟩
theorem Inv.unwish (I:Inv (X.wish E) pins σ H s):Inv X pins σ H s:=⟨I.ok.unwish,I.os,I.bare,I.base,I.loc,I.cell,I.free,I.freeC,I.pin,I.hok,I.len⟩
theorem SP.unwish {D:zi2} {f:Flow} {s':Shared} (h:SP (X.wish E) pins D f s'):SP X pins D f s':=by
 cases f with
 | next=>obtain⟨σ',H',I,q⟩:=h;exact⟨σ',H',I.unwish,q⟩
 | brk=>obtain⟨σ',H',I,q⟩:=h;exact⟨σ',H',I.unwish,q⟩
 | cont=>obtain⟨σ',H',I,q⟩:=h;exact⟨σ',H',I.unwish,q⟩
 | ret u=>obtain⟨v,σ',H',I,r,q⟩:=h;exact⟨v,σ',H',I.unwish,r,q⟩
theorem PSs.nox {st:List Stmt} {t:TS} (h:PSs X.nox st t):PSs X st t:=fun pins s σ H D I hw =>
 wpAny_mono (h pins s σ H D (I.wish _) hw) (fun _ _ q=>q.unwish) fun _ _ z=>False.elim z
end
section
variable {X:Cx} {st:Stmt} {rest:List Stmt} {t u:TS} {e:Expr} {te:TE} {pos:Pos}
def zos:TS:=fun D σ H=>D.nx σ H
def tSeq (t u:TS):TS:=fun D σ H=>t { D with nx:=u D } σ H
theorem zat:PSs X [] zos:=fun _ _ σ H _ I h=>wpAny_execs_nil ⟨σ,H,I,h⟩
theorem zab (h1:PS X st t) (h2:PSs X rest u):PSs X (st::rest) (tSeq t u):=by
 intro pins s σ H D I h;refine wpAny_execs_cons (thn (h1 pins s σ H { D with nx:=u D } I h) fun f s1 q=>?_);cases f with
 | next =>
  obtain⟨σ',H',I',q⟩:=q;exact h2 pins s1 σ' H' D I' q
 | ret v=>exact q
 | brk=>exact q
 | cont=>exact q
theorem zag (h1:PS X st t):PSs X [st] t:=by
 intro pins s σ H D I h;refine wpAny_execs_cons (thn (h1 pins s σ H D I h) fun f s1 q=>?_);cases f with
 | next=>exact wpAny_execs_nil q
 | ret v=>exact q
 | brk=>exact q
 | cont=>exact q
theorem Inv.quiet {pins:List (Addr × Obj)} {σ:St} {H:Hp} {s:Shared} (I:Inv X pins σ H s):interactive X.env=false:=by simp [interactive,I.ok.kind]
def zop (te:TE):TS:=fun D σ H=>te σ H fun _ H1=>D.nx σ H1
theorem zb7 (he:PE X e te) (hs:swapsWith e none pos.line X.env=pure false:=by rfl):PS X (.Expr e pos) (zop te):=by
 intro pins s σ H D I h;exact wpAny_Expr_any (thn (he pins s σ H _ I h) fun v s1 ⟨x,H1,I1,r1,q1⟩=>⟨σ,H1,I1,q1⟩) I.quiet hs
def tRet (te:TE):TS:=fun D σ H=>te σ H D.rt
theorem zan (he:PE X e te):PS X (.Return (some e) pos) (tRet te):=by
 intro pins s σ H D I h;exact wpAny_Return_some (thn (he pins s σ H _ I h) fun v s1 ⟨x,H1,I1,r1,q1⟩=>⟨x,σ,H1,I1,r1,q1⟩)
def znq:TS:=fun _ _ _=>False
theorem ziA {sts:List Stmt}:PSs X sts znq:=fun _ _ _ _ _ _ h=>h.elim
end
abbrev TG:=V->St->Hp->(St->Hp->Prop)->Prop
abbrev TGs:=List V->St->Hp->(St->Hp->Prop)->Prop
def PG (X:Cx) (target:Expr) (t:TG):Prop :=
 ∀ (pins:List (Addr × Obj)) (s:Shared) (σ:St) (H:Hp) (v:V) (u:Value) (Q:St->Hp->Prop),Inv X pins σ H s->zaO v u->t v σ H Q ->
  wpAny (model X.prog X.w) X.A (assign target X.env u) (fun _ s'=>∃ σ' H',Inv X pins σ' H' s'/\Q σ' H') X.xe s
def PGs (X:Cx) (ts:List Expr) (t:TGs):Prop :=
 ∀ (pins:List (Addr × Obj)) (s:Shared) (σ:St) (H:Hp) (vs:List V) (us:List Value) (Q:St->Hp->Prop),Inv X pins σ H s->zaU vs us->t vs σ H Q ->
  wpAny (model X.prog X.w) X.A (assignInOrder ((assignEach ts X.env).map (·.2)) us) (fun _ s'=>∃ σ' H',Inv X pins σ' H' s'/\Q σ' H') X.xe s
abbrev zmd:=V->V->V->Hp->(Hp->Prop)->Prop
def zl4 (X:Cx) (t:zmd):Prop :=
 ∀ (pins:List (Addr × Obj)) (s:Shared) (σ:St) (H:Hp) (o i v:V) (ov iv u:Value) (Q:Hp->Prop),Inv X pins σ H s->zaO o ov->zaO i iv->zaO v u->t o i v H Q ->
  wpAny (model X.prog X.w) X.A (setItem ov iv u) (fun _ s'=>∃ H',Inv X pins σ H' s'/\Q H') X.xe s
abbrev TIp:=V->V->Hp->VK->Prop
def PIp (X:Cx) (op:Operator) (t:TIp):Prop :=
 ∀ (pins:List (Addr × Obj)) (s:Shared) (σ:St) (H:Hp) (x y:V) (v u:Value) (Q:VK),Inv X pins σ H s->zaO x v->zaO y u->t x y H Q ->
  wpAny (model X.prog X.w) X.A (inplaceOp op v u) (EP X pins σ Q) X.xe s
section
variable {X:Cx} {pos:Pos}
def zk5 (i:Nat):TG:=fun v σ H Q=>Q (σ.set i (some v)) H
theorem zai {i:Nat} {x:Str} (hN:X.N.Nodup) (hi:X.N[i]?=some x) (hx:Loc X.env.scope x) (hf:X.fn x=true\/X.env.scope.names.lookup x=some .local:=by first | exact .inl rfl | exact .inr rfl | assumption):PG X (.Name x pos) (zk5 i):=by
 intro pins s σ H v u Q I r h;exact wpAny_assign_Name (ze8 I hN hi hx r (fun s' I'=>⟨_,H,I',h⟩) hf)
def gNil:TGs:=fun vs σ H Q=>vs=[]/\Q σ H
def zn1 (t:TG) (u:TGs):TGs:=fun vs σ H Q=>∃ v r,vs=v::r/\t v σ H fun σ' H'=>u r σ' H' Q
theorem zlz:PGs X [] gNil:=by
 intro pins s σ H vs us Q I r h;obtain⟨e,h⟩:=h;subst e;cases r;exact assignInOrder_nil ⟨σ,H,I,h⟩
theorem zjO {e:Expr} {es:List Expr} {t:TG} {u:TGs} (h1:PG X e t) (h2:PGs X es u)
  (hs:(assignEach (e::es) X.env).map (·.2)=assign e X.env::(assignEach es X.env).map (·.2):=by rfl):PGs X (e::es) (zn1 t u):=by
 intro pins s σ H vs us Q I r h;obtain⟨v,vr,e1,h⟩:=h;subst e1;cases r with
 | cons r rr =>
  rw [hs];refine assignInOrder_cons (thn (h1 pins s σ H _ _ _ I r h) fun _ s1 ⟨σ1,H1,I1,q1⟩=>?_);exact h2 pins s1 σ1 H1 _ _ Q I1 rr q1
def gTup (K:PySem.W.Frag) (n:Nat) (t:TGs):TG:=fun v σ H Q=>∃ a xs,v=.ref a/\SqT K H a xs/\xs.length=n/\t xs σ H Q
theorem zm1 {es:List Expr} {k:Nat} {t:TGs} {n:Nat} (hc:X.calm=true) (h:PGs X es t)
  (hn:(assignEach es X.env).length=n:=by rfl) (hst:(assignEach es X.env).findIdx? (·.1)=none:=by rfl):PG X (.Tuple es k pos) (gTup X.K n t):=by
 intro pins s σ H v u Q I r hw;obtain⟨a,xs,e1,hq,hl,hw⟩:=hw;subst e1;cases r;obtain⟨its,rv,ht,hz⟩:=I.tuple hq;refine assign_Tuple_tuple (I.ok.hd hc) ht (by simp [hn,← hl,rv.length]) hst fun h' hx=>?_
 have I1:Inv X pins σ H { s with heap:=h' }:=I.kept (t':=s.toks) fun b o e=>hx b o (zph (zoY e)) e
 exact h pins _ σ H xs _ Q I1 (by simpa using rv) hw
def gSub (to ti:TE) (t:zmd):TG:=fun v σ H Q=>to σ H fun o H1=>ti σ H1 fun i H2=>t o i v H2 fun H3=>Q σ H3
theorem zc8 {o i:Expr} {to ti:TE} {t:zmd} (ho:PE X o to) (hi:PE X i ti) (hs:zl4 X t)
  (ha:∀ v,assign (.Subscript o i pos) X.env v=(do
   let ov ← holding [v] (eval o X.env)
   let iv ← holding [v,ov] (eval i X.env)
   standAt pos
   holding [v,ov,iv] (setItem ov iv v)
   release [v,ov,iv] []):=by intro _;rfl):PG X (.Subscript o i pos) (gSub to ti t):=by
 intro pins s σ H v u Q I r h;rw [ha];refine wpAny_bind (wpAny_holding (thn (ho pins s σ H _ I h) fun ov s1 ⟨x,H1,I1,r1,q1⟩=>?_));refine wpAny_bind (wpAny_holding (thn (hi pins s1 σ H1 _ I1 q1) fun iv s2 ⟨y,H2,I2,r2,q2⟩=>?_));refine wpAny_bind (wpAny_standAt (wpAny_bind (wpAny_holding (thn (hs pins s2 σ H2 x y v ov iv u _ I2 r1 r2 r q2) fun _ s3 ⟨H3,I3,q3⟩=>?_))));exact wpAny_release ⟨σ,H3,I3,q3⟩
def zom (te:TE) (g:TG):TS:=fun D σ H=>te σ H fun x H1=>g x σ H1 D.nx
theorem zbp {tg e:Expr} {te:TE} {g:TG} (he:PE X e te) (hg:PG X tg g) (hs:swapsWithSole [tg] e pos.line X.env=pure false:=by rfl) (hw:swappedStores [tg] e X.env=pure none:=by rfl)
  (h1:(assignEach [tg] X.env).map (·.2)=[assign tg X.env]:=by rfl):PS X (.Assign [tg] e pos) (zom te g):=by
 intro pins s σ H D I h;refine wpAny_Assign_stores (thn (he pins s σ H _ I h) fun v s1 ⟨x,H1,I1,r1,q1⟩=>?_) hs hw;rw [h1];exact thn (hg pins s1 σ H1 x v _ I1 r1 q1) fun _ s2 q=>q
theorem zap {i:Nat} {x:Str} {e:Expr} {te:TE} {pos':Pos} (hN:X.N.Nodup) (hi:X.N[i]?=some x) (hx:Loc X.env.scope x) (he:PE X e te) (hs:swapsWith e (some (.Name x pos')) pos.line X.env=pure false:=by rfl) (hf:X.fn x=true\/X.env.scope.names.lookup x=some .local:=by first | exact .inl rfl | exact .inr rfl | assumption) :
  PS X (.Assign [.Name x pos'] e pos) (zom te (zk5 i)):=by
 intro pins s σ H D I h;refine wpAny_Assign_Name (thn (he pins s σ H _ I h) fun v s1 ⟨y,H1,I1,r1,q1⟩=>?_) hs;exact ze8 I1 hN hi hx r1 (fun s2 I2=>⟨_,H1,I2,q1⟩) hf
def tAug (i:Nat) (te:TE) (ti:TIp):TS:=fun D σ H=>∃ x,σ[i]?=some (some x)/\te σ H fun y H1=>ti x y H1 fun z H2=>D.nx (σ.set i (some z)) H2
theorem zm2 {i:Nat} {x:Str} {e:Expr} {te:TE} {op:Operator} {ti:TIp} {pos':Pos} (hN:X.N.Nodup) (hi:X.N[i]?=some x) (hx:Loc X.env.scope x) (he:PE X e te) (ho:PIp X op ti) (hf:X.fn x=true\/X.env.scope.names.lookup x=some .local:=by first | exact .inl rfl | exact .inr rfl | assumption) :
  PS X (.AugAssign (.Name x pos') op e pos) (tAug i te ti):=by
 intro pins s σ H D I h;obtain⟨v,e1,h⟩:=h;obtain⟨m,hn,hl⟩:=I.loc;have vis:Vis X.env.scope x:=by rcases hx with k | k;exact .inl k;exact .inr (.inl k)
 obtain⟨u,r,l⟩:=hl i x v hi e1 vis;refine wpAny_AugAssign_Name ?_;have go:wpAny (model X.prog X.w) X.A (eval e X.env) (fun w s₂=>wpAny (model X.prog X.w) X.A (inplaceOp op u w) (fun r s₃=>wpAny (model X.prog X.w) X.A (storeName X.env x r) (fun _=>SP X pins D .next) X.xe s₃) X.xe s₂) X.xe s:=by
  refine thn (he pins s σ H _ I h) fun w s1 ⟨y,H1,I1,r1,q1⟩=>?_
  refine thn (ho pins s1 σ H1 v y u w _ I1 r r1 q1) fun z s2 ⟨zv,H2,I2,r2,q2⟩=>?_
  exact ze8 I2 hN hi hx r2 (fun s3 I3=>⟨_,H2,I3,q2⟩) hf
 rcases l with ⟨hk,hm⟩ | ⟨hk,c,hc,hcell⟩
 ·exact wpAny_loadName_local I.ok.kind hk hn hm go
 ·rcases hk with hk | hk
  ·exact wpAny_loadName_cell I.ok.kind hk hc hcell go
  ·rcases hx with k | k
   ·have:X.env.scope.names.lookup x=some .free:=hk
    rw [k] at this;cases this
   ·have:X.env.scope.names.lookup x=some .free:=hk
    rw [k] at this;cases this
def ipI (f:Int->Int->Int):TIp:=fun x y H Q=>∃ i j,x=.int i/\y=.int j/\Q (.int (f i j)) H
theorem zmA:PIp X .Add (ipI fun i j=>i+j):=by
 intro pins s σ H x y v u Q I r1 r2 h;obtain⟨i,j,e1,e2,q⟩:=h;subst e1;subst e2;obtain⟨t,rfl⟩:=r1;obtain⟨t',rfl⟩:=r2;exact iadd_int ⟨.int _,H,I.tok _,⟨_,rfl⟩,q⟩
end
section
variable {X:Cx} {pos:Pos}
def znt (c:TT) (tb:TS):TS:=fun D σ H=>∃ W:Nat->St->Hp->Prop,(∃ m,W m σ H)/\∀ m σ H,W m σ H ->
 c σ H fun b H1=>if b=true then ∃ N:St->Hp->Prop,(∀ σ' H',N σ' H'->∃ m',m'<m/\W m' σ' H')/\tb { D with nx:=N,ct:=N,bk:=D.nx } σ H1 else D.nx σ H1
theorem zgK {c:Expr} {body:List Stmt} {tc:TT} {tb:TS} (hp:PassesOwn (model X.prog X.w) X.A X.env X.xe) (hc:PT X c tc) (hb:PSs X body tb):PS X (.While c body [] pos) (znt tc tb):=by
 intro pins s σ H D I h;obtain⟨W,⟨m0,w0⟩,turn⟩:=h;refine wpAny_While (codeAny_whileLoop (fun n s'=>∃ σ' H',Inv X pins σ' H' s'/\W n σ' H') ?_ m0 ⟨σ,H,I,w0⟩);rintro n s1 ⟨σ1,H1,I1,w1⟩;refine wpAny_passesOwn hp (thn (hc pins s1 σ1 H1 _ I1 (turn n σ1 H1 w1)) fun b s2 ⟨H2,I2,q2⟩=>?_);cases b with
 | true =>
  obtain⟨N,hN,q2⟩:=q2;rw [zpc rfl];refine wpAny_passesOwn hp (thn (hb pins s2 σ1 H2 _ I2 q2) fun f s3 q3=>?_);cases f with
  | next =>
   obtain⟨σ3,H3,I3,n3⟩:=q3;obtain⟨m',hm,w3⟩:=hN σ3 H3 n3;exact⟨m',hm,σ3,H3,I3,w3⟩
  | cont =>
   obtain⟨σ3,H3,I3,n3⟩:=q3;obtain⟨m',hm,w3⟩:=hN σ3 H3 n3;exact⟨m',hm,σ3,H3,I3,w3⟩
  | brk=>exact q3
  | ret v=>exact q3
 | false =>
  rw [zpb zpj];exact wpAny_execs_nil ⟨σ1,H2,I2,q2⟩
end
structure It where
 go:Nat->Hp->Prop
 yld:Nat->Hp->V->Hp->Prop
 stop:Nat->Hp->Prop
def zi3 (X:Cx) (pins:List (Addr × Obj)) (H:Hp) (b:Addr):Prop :=
 H b=none/\b≠X.env.locals/\b ∉ X.fs/\(b∈X.ex\/X.s₀.heap.objs.size<=b)/\(∀ x c,X.env.cells.lookup x=some c->c≠b)/\∀ p∈X.pn++pins,p.1≠b
theorem Inv.fpOk {X:Cx} {pins:List (Addr × Obj)} {σ:St} {H H':Hp} {s:Shared} {b:Addr} (I:Inv X pins σ H s) (hb:s.heap.objs.size<=b) (hn:H' b=none):zi3 X pins H' b:=by
 refine⟨hn,Nat.ne_of_gt (zoO I.lt hb),I.nofs hb,.inr (zoM I.sz hb),fun x c e z=>?_,fun p hp z=>?_⟩
 ·obtain⟨v,q⟩:=I.cell x c e;exact absurd (zoO q.lt (by rw [z];exact hb)) (Nat.lt_irrefl _)
 ·exact absurd (zoO (zoY (I.pin p hp).1) (by rw [z];exact hb)) (Nat.lt_irrefl _)
structure zl5 (P:Program) (w:World) (K:PySem.W.Frag) (tg:Expr) (J:It) (fp:List Addr) (it:Addr) (tn:Nat->Heap->Prop):Prop where
 mem:it∈fp
 obj:∀ i h,tn i h->∀ b∈fp,∃ o,h.get? b=some o/\∀ v,o.data≠.cell v
 keep:∀ i h h',tn i h->(∀ b∈fp,∀ o,h.get? b=some o->h'.get? b=some o)->tn i h'
 item:∀ (X:Cx),X.prog=P->X.w=w->X.K=K->X.calm=true->∀ (i:Nat) (pins:List (Addr × Obj)) (s:Shared) (σ:St) (H:Hp) (E:Value->Shared->Prop),Inv X pins σ H s->(∀ b∈fp,zi3 X pins H b)->tn i s.heap->J.go i H ->
  wpAny (model P w) X.A (pyNext (.ref it)) (fun r s1=>∃ u,r=some u /\
   wpAny (model P w) X.A (letOwnedTupleGo tg (.ref it) u) (fun _ s2=>∃ x H',Inv X pins σ H' s2/\zaO x u/\J.yld i H x H'/\tn (i+1) s2.heap/\∀ b∈fp,H' b=none) E s1) E s
 done:∀ (X:Cx),X.prog=P->X.w=w->X.K=K->X.calm=true->∀ (i:Nat) (pins:List (Addr × Obj)) (s:Shared) (σ:St) (H:Hp) (E:Value->Shared->Prop),Inv X pins σ H s->(∀ b∈fp,zi3 X pins H b)->tn i s.heap->J.stop i H ->
  wpAny (model P w) X.A (pyNext (.ref it)) (fun r s1=>r=none/\Inv X pins σ H s1) E s
 self:∀ (A:Around) (i:Nat) (s:Shared) (Q:Value->Shared->Prop) (E:Value->Shared->Prop),tn i s.heap->Q (.ref it) s->wpAny (model P w) A (pyIter (.ref it)) Q E s
abbrev TI:=St->Hp->(It->Hp->Prop)->Prop
def PIE (X:Cx) (pins:List (Addr × Obj)) (σ:St) (tg:Expr) (R:It->Hp->Prop) (itv:Value) (s2:Shared):Prop :=
 ∃ (it:Addr) (fp:List Addr) (tn:Nat->Heap->Prop) (J:It) (H':Hp),itv=.ref it/\Inv X pins σ H' s2/\zl5 X.prog X.w X.K tg J fp it tn/\tn 0 s2.heap/\(∀ b∈fp,zi3 X pins H' b)/\R J H'
def PI (X:Cx) (tg iter:Expr) (wi:TI):Prop :=
 ∀ (pins:List (Addr × Obj)) (s:Shared) (σ:St) (H:Hp) (R:It->Hp->Prop),Inv X pins σ H s->wi σ H R ->
  wpAny (model X.prog X.w) X.A (eval iter X.env) (fun v s1=>wpAny (model X.prog X.w) X.A (pyIter v) (PIE X pins σ tg R) X.xe s1) X.xe s
theorem zk8 {M:Model} {A:Around} {E:Value->Shared->Prop} {s:Shared} {tg:Expr} {it:Addr} {u:Value} {o:Obj} {n:String} {vs:Array Value} {Q:Unit->Shared->Prop} (ho:s.heap.get? it=some o) (hc:o.cls=.type n) (hd:o.data=.fields vs)
  (hn:["enumerate","zip","dict_itemiterator","dict_reverseitemiterator","odict_iterator","itertools.zip_longest","itertools.pairwise"].contains n=false) (hQ:Q () s):wpAny M A (letOwnedTupleGo tg (.ref it) u) Q E s:=by
 unfold letOwnedTupleGo;cases tg <;> first
  | exact wpAny_pure hQ
  | (cases u <;> first
    | exact wpAny_pure hQ
    | (refine wpAny_bind (wpAny_load ho ?_);rw [hc,hd];show wpAny M A (if (["enumerate","zip","dict_itemiterator","dict_reverseitemiterator","odict_iterator","itertools.zip_longest","itertools.pairwise"].contains n && vs[0]? == some (rawInt _))=true then _ else _) Q E s;rw [zpb (by intro h;rw [hn,Bool.false_and] at h;cases h)];exact wpAny_pure hQ))
def Itl (K:PySem.W.Frag) (a:Addr):It :=
 ⟨fun i H=>∃ xs x,SqL K H a xs/\xs[i]?=some x,fun i H x H'=>H'=H/\∀ xs,SqL K H a xs->xs[i]?=some x,fun i H=>∃ xs,SqL K H a xs/\xs.length<=i⟩
def Itr (lo:Int) (n:Nat):It:=⟨fun i _=>i<n,fun i H x H'=>H'=H/\x=.int (lo+i),fun i _=>n<=i⟩
theorem ziY {P:Program} {w:World} {K:PySem.W.Frag} {tg:Expr} (a it:Addr):zl5 P w K tg (Itl K a) [it] it (fun i h=>h.IsListIter it a i) where
 mem:=by simp
 obj:=fun i h st b hb=>by
  have e:b=it:=by simpa using hb
  subst e;obtain⟨o,e,c,d⟩:=st;exact⟨o,e,fun v z=>by rw [d] at z;cases z⟩
 keep:=fun i h h' st k=>st.at fun o e=>k it (by simp) o e
 item:=by
  intro X hP hw hK hc i pins s σ H E I hf st hg;subst hP hw hK;obtain⟨xs,x,hq,hx⟩:=hg;obtain⟨its,rv,p,hz⟩:=I.list hq;obtain⟨u,hu,ru⟩:=rv.get hx;obtain⟨f0,f1,f2,f3,f4,f5⟩:=hf it (by simp);refine wpAny_pyNext_list_item st p.isList (x:=u) (by simpa using hu) fun h' st' sb=>?_
  have I1:Inv X pins σ H { s with heap:=h' }:=I.turned (t':=s.toks) (fun b o hb e=>(sb.2 b hb).trans e) f0 f1 f3 f4 f5;obtain⟨o,e,c,d⟩:=id st';exact⟨u,rfl,zk8 (s:={ s with heap:=h' }) e c d (by decide) ⟨x,H,I1,ru,⟨rfl,fun ys hy=>by rw [I.list_inj hy hq];exact hx⟩,st',fun b hb=>(hf b hb).1⟩⟩
 done:=by
  intro X hP hw hK hc i pins s σ H E I hf st hg;subst hP hw hK;obtain⟨xs,hq,hx⟩:=hg;obtain⟨its,rv,p,hz⟩:=I.list hq;obtain⟨f0,f1,f2,f3,f4,f5⟩:=hf it (by simp);have hl:=rv.length;exact wpAny_pyNext_list_end (I.ok.hd hc) st p.isList (by simp;omega) fun h' eb=>⟨rfl,I.turned (t':=s.toks) (fun b o hb e=>eb b o hb e) f0 f1 f3 f4 f5⟩
 self:=fun _ _ _ _ _ st h=>wpAny_pyIter_listiter st h
theorem zhB {P:Program} {w:World} {K:PySem.W.Frag} {tg:Expr} (it:Addr) (lo:Int) (n:Nat):zl5 P w K tg (Itr lo n) [it] it (fun i h=>IsRangeIter h it (lo+(i:Nat)*1) ((n:Int)-(i:Nat)) 1) where
 mem:=by simp
 obj:=fun i h st b hb=>by
  have e:b=it:=by simpa using hb
  subst e;exact⟨_,st,fun v z=>by
   have z':Data.fields _=Data.cell v:=z;cases z'⟩
 keep:=fun i h h' st k=>k it (by simp) _ st
 item:=by
  intro X hP hw hK hc i pins s σ H E I hf st hg;subst hP hw hK;obtain⟨f0,f1,f2,f3,f4,f5⟩:=hf it (by simp);have W:=Walks.range (prog:=X.prog) (w:=X.w) (I.ok.hd hc) it lo 1 n;refine W.item i s _ _ hg st fun v h' tk hv st' kk=>?_
  obtain⟨t,rfl⟩:=hv;have I1:Inv X pins σ H { s with heap:=h',toks:=tk }:=I.turned (fun b o hb e=>kk b o (by simpa using hb) e) f0 f1 f3 f4 f5;refine⟨_,rfl,zk8 (s:={ s with heap:=h',toks:=tk }) (n:="range_iterator") st' rfl rfl (by decide) ⟨.int (lo+i),H,I1,⟨t,?_⟩,⟨rfl,rfl⟩,st',fun b hb=>(hf b hb).1⟩⟩;rw [Int.mul_one]
 done:=by
  intro X hP hw hK hc i pins s σ H E I hf st hg;subst hP hw hK;obtain⟨f0,f1,f2,f3,f4,f5⟩:=hf it (by simp);exact wpAny_pyNext_range_end (I.ok.hd hc) st (by have:n<=i:=hg;omega) fun h' eb=>⟨rfl,I.turned (t':=s.toks) (fun b o hb e=>eb b o hb e) f0 f1 f3 f4 f5⟩
 self:=fun _ _ _ _ _ st h=>wpAny_pyIter_rangeiter st h
section
variable {X:Cx} {tg:Expr}
theorem zgP {pins:List (Addr × Obj)} {σ:St} {H:Hp} {s:Shared} {R:It->Hp->Prop} {E:Value->Shared->Prop} {lo hi:Int} {t u v:Tok} {tk:Nat} (I:Inv X pins σ H s) (h1:-(2 ^ 62)<=lo) (h2:lo<2 ^ 62) (h3:-(2 ^ 62)<=hi) (h4:hi<2 ^ 62)
  (q:R (Itr lo (hi-lo).toNat) H):wpAny (model X.prog X.w) X.A (pyIter (.ref s.heap.objs.size)) (PIE X pins σ tg R) E { s with heap:=s.heap.push { cls:=.type "range",data:=.fields #[.int lo t,.int hi u,.int 1 v] },toks:=tk }:=by
 refine wpAny_pyIter_range (IsRange.new ..) (small_one h1 h2 h3 h4) ?_;have I1:Inv X pins σ H { s with heap:=s.heap.push { cls:=.type "range",data:=.fields #[.int lo t,.int hi u,.int 1 v] },toks:=tk }:=I.kept fun b o e=>zoK _ e
 refine⟨(s.heap.push { cls:=.type "range",data:=.fields #[.int lo t,.int hi u,.int 1 v] }).objs.size,[(s.heap.push { cls:=.type "range",data:=.fields #[.int lo t,.int hi u,.int 1 v] }).objs.size],_,_,H,rfl,
  I1.kept (t':=tk) fun b o e=>zoK _ e,zhB _ lo (hi-lo).toNat,?_,fun b hb=>?_,q⟩
 ·have e1:lo+((0:Nat):Int)*1=lo:=by simp
  have e2:(((hi-lo).toNat:Nat):Int)-((0:Nat):Int)=Builtin.Range.rangeSize lo hi 1:=by rw [rangeSize_one];split <;> omega
  show IsRangeIter _ _ (lo+((0:Nat):Int)*1) ((((hi-lo).toNat:Nat):Int)-((0:Nat):Int)) 1;rw [e1,e2];exact zo8 _ rfl
 ·have e:b=(s.heap.push { cls:=.type "range",data:=.fields #[.int lo t,.int hi u,.int 1 v] }).objs.size:=by simpa using hb
  subst e;exact I1.fpOk (zoN _) (I1.hok.fresh (zoN _))
def tFor (wi:TI) (g:TG) (tb:TS):TS:=fun D σ H=>wi σ H fun J H1=>∃ W:Nat->Nat->St->Hp->Prop,(∃ m,W 0 m σ H1)/\∀ i m σ H,W i m σ H ->
 (J.stop i H/\D.nx σ H)\/(J.go i H/\∃ N:St->Hp->Prop,(∀ σ' H',N σ' H'->∃ m',m'<m/\W (i+1) m' σ' H')/\∀ x H',J.yld i H x H'->g x σ H' fun σ2 H2=>tb { D with nx:=N,ct:=N,bk:=D.nx } σ2 H2)
def zfx (fp:List Addr) (h:Heap):List (Addr × Obj):=fp.filterMap fun b=>(h.get? b).map fun o=>(b,o)
theorem zck {fp:List Addr} {h:Heap} {b:Addr} {o:Obj} (hb:b∈fp) (e:h.get? b=some o):(b,o)∈zfx fp h:=List.mem_filterMap.mpr ⟨b,hb,by rw [e];rfl⟩
theorem zij {fp:List Addr} {h:Heap} {p:Addr × Obj} (hp:p∈zfx fp h):p.1∈fp/\h.get? p.1=some p.2:=by
 obtain⟨b,hb,e⟩:=List.mem_filterMap.mp hp;cases q:h.get? b with
 | none=>rw [q] at e;cases e
 | some o =>
  rw [q] at e;have e':(b,o)=p:=zpk e;subst e';exact⟨hb,q⟩
theorem Inv.pinned {pins:List (Addr × Obj)} {σ:St} {H:Hp} {s:Shared} {fp:List Addr} (I:Inv X pins σ H s) (hf:∀ b∈fp,zi3 X pins H b) (ho:∀ b∈fp,∃ o,s.heap.get? b=some o/\∀ v,o.data≠.cell v):Inv X (pins++zfx fp s.heap) σ H s :=
 I.pins_of fun p hp=>(zoI.mp hp).elim (fun z=>I.pin p (zo5 _ z)) fun z=>by
  obtain⟨hb,e⟩:=zij z;obtain⟨f0,f1,f2,_⟩:=hf p.1 hb;obtain⟨o,e',d⟩:=ho p.1 hb;rw [e] at e';cases e';exact⟨e,f0,f1,f2,d⟩
theorem Inv.unpinned {pins pl:List (Addr × Obj)} {σ:St} {H:Hp} {s:Shared} (I:Inv X (pins++pl) σ H s):Inv X pins σ H s:=I.pins_of fun p hp=>I.pin p (zo5 _ (zo4 _ hp))
theorem zcu {iter:Expr} {body:List Stmt} {wi:TI} {g:TG} {tb:TS} {pos:Pos} (hp:PassesOwn (model X.prog X.w) X.A X.env X.xe) (hc:X.calm=true) (hi:PI X tg iter wi) (hg:PG X tg g) (hb:PSs X body tb)
  (hs:∀ x,foldedSetIterable iter X.env x=pure x:=by intro _;rfl):PS X (.For tg iter body [] pos) (tFor wi g tb):=by
 intro pins s σ H D I h;refine wpAny_For (thn (hi pins s σ H _ I h) fun v s1 h1=>thn h1 fun itv s2 h2=>?_) hs;obtain⟨it,fp,tn,J,H2,e,I2,T,st2,f2,W,⟨m0,w0⟩,turn⟩:=h2;subst e;have stat:∀ {H':Hp},(∀ b∈fp,H' b=none)->∀ b∈fp,zi3 X pins H' b:=fun hn b hb=>⟨hn b hb,(f2 b hb).2⟩
 refine codeAny_forLoop_any (fun n s'=>∃ i σ' H',Inv X pins σ' H' s'/\tn i s'.heap/\(∀ b∈fp,H' b=none)/\W i n σ' H') ?_ m0 ⟨0,σ,H2,I2,st2,fun b hb=>(f2 b hb).1,w0⟩;rintro n s3 ⟨i,σ3,H3,I3,st3,fr3,w3⟩;rcases turn i n σ3 H3 w3 with ⟨stop,qn⟩ | ⟨go,N,hN,step⟩
 ·refine wpAny_passesOwn hp (thn (T.done X rfl rfl rfl hc i pins s3 σ3 H3 X.xe I3 (stat fr3) st3 stop) fun r s4 ⟨hr,I4⟩=>?_);subst hr;exact wpAny_execs_nil ⟨σ3,H3,I4,qn⟩
 ·refine wpAny_passesOwn hp (thn (T.item X rfl rfl rfl hc i pins s3 σ3 H3 X.xe I3 (stat fr3) st3 go) fun r s4 ⟨u,hr,h4⟩=>?_);subst hr;refine wpAny_passesOwn hp (thn h4 fun _ s5 ⟨x,H5,I5,r5,y5,st5,fr5⟩=>?_);have I5':=I5.pinned (stat fr5) (T.obj _ _ st5);refine wpAny_passesOwn hp (thn (hg _ s5 σ3 H5 x u _ I5' r5 (step x H5 y5)) fun _ s6 ⟨σ6,H6,I6,q6⟩=>?_);refine wpAny_passesOwn hp (thn (hb _ s6 σ6 H6 _ I6 q6) fun f s7 q7=>?_);have again:∀ {σ7:St} {H7:Hp},Inv X (pins++zfx fp s5.heap) σ7 H7 s7->N σ7 H7->∃ m,m<n/\∃ i σ' H',Inv X pins σ' H' s7/\tn i s7.heap/\(∀ b∈fp,H' b=none)/\W i m σ' H':=fun {σ7 H7} I7 n7=>by
   obtain⟨m',hm,w7⟩:=hN σ7 H7 n7;refine⟨m',hm,i+1,σ7,H7,I7.unpinned,T.keep _ _ _ st5 fun b hb o e=>(I7.pin (b,o) (zo5 _ (zo5 _ (zck hb e)))).1,fun b hb=>?_,w7⟩;obtain⟨o,e,d⟩:=T.obj _ _ st5 b hb;exact (I7.pin (b,o) (zo5 _ (zo5 _ (zck hb e)))).2.1
  cases f with
  | next=>obtain⟨σ7,H7,I7,n7⟩:=q7;exact again I7 n7
  | cont=>obtain⟨σ7,H7,I7,n7⟩:=q7;exact again I7 n7
  | brk=>obtain⟨σ7,H7,I7,q7⟩:=q7;exact⟨σ7,H7,I7.unpinned,q7⟩
  | ret v=>obtain⟨x7,σ7,H7,I7,r7,q7⟩:=q7;exact⟨x7,σ7,H7,I7.unpinned,r7,q7⟩
end
theorem zji {K:PySem.W.Frag} {a:Addr} {xs:List V} {g:TG} {tb:TS} {D:zi2} {σ:St} {H:Hp} (Pv:Nat->St->Hp->Prop) (h0:Pv 0 σ H) (hl:∀ i σ H,i<=xs.length->Pv i σ H->SqL K H a xs)
  (hs:∀ i x σ H,xs[i]?=some x->Pv i σ H->g x σ H fun σ2 H2=>tb { D with nx:=Pv (i+1),ct:=Pv (i+1),bk:=D.nx } σ2 H2) (hd:∀ σ H,Pv xs.length σ H->D.nx σ H) :
  ∃ W:Nat->Nat->St->Hp->Prop,(∃ m,W 0 m σ H)/\∀ i m σ H,W i m σ H ->
   ((Itl K a).stop i H/\D.nx σ H)\/((Itl K a).go i H/\∃ N:St->Hp->Prop,(∀ σ' H',N σ' H'->∃ m',m'<m/\W (i+1) m' σ' H')/\∀ x H',(Itl K a).yld i H x H'->g x σ H' fun σ2 H2=>tb { D with nx:=N,ct:=N,bk:=D.nx } σ2 H2):=by
 refine⟨fun i m σ H=>m=xs.length-i/\i<=xs.length/\Pv i σ H,⟨xs.length,by simp,Nat.zero_le _,h0⟩,?_⟩;rintro i m σ H ⟨rfl,hi,p⟩;have q:=hl i σ H hi p;by_cases hlt:i<xs.length
 ·refine .inr ⟨⟨xs,xs[i],q,by simp [hlt]⟩,Pv (i+1),fun σ' H' p'=>⟨xs.length-(i+1),by omega,rfl,hlt,p'⟩,fun x H' y=>?_⟩;obtain⟨e,y⟩:=y;subst e;exact hs i x σ _ (y xs q) p
 ·have e:i=xs.length:=by omega
  subst e;exact .inl ⟨⟨xs,q,zoN _⟩,hd σ H p⟩
theorem zbw {lo:Int} {n:Nat} {g:TG} {tb:TS} {D:zi2} {σ:St} {H:Hp} (Pv:Nat->St->Hp->Prop) (h0:Pv 0 σ H)
  (hs:∀ i σ H,i<n->Pv i σ H->g (.int (lo+i)) σ H fun σ2 H2=>tb { D with nx:=Pv (i+1),ct:=Pv (i+1),bk:=D.nx } σ2 H2) (hd:∀ σ H,Pv n σ H->D.nx σ H) :
  ∃ W:Nat->Nat->St->Hp->Prop,(∃ m,W 0 m σ H)/\∀ i m σ H,W i m σ H ->
   ((Itr lo n).stop i H/\D.nx σ H)\/((Itr lo n).go i H/\∃ N:St->Hp->Prop,(∀ σ' H',N σ' H'->∃ m',m'<m/\W (i+1) m' σ' H')/\∀ x H',(Itr lo n).yld i H x H'->g x σ H' fun σ2 H2=>tb { D with nx:=N,ct:=N,bk:=D.nx } σ2 H2):=by
 refine⟨fun i m σ H=>m=n-i/\i<=n/\Pv i σ H,⟨n,by simp,Nat.zero_le _,h0⟩,?_⟩;rintro i m σ H ⟨rfl,hi,p⟩;by_cases hlt:i<n
 ·refine .inr ⟨hlt,Pv (i+1),fun σ' H' p'=>⟨n-(i+1),by omega,rfl,hlt,p'⟩,fun x H' y=>?_⟩;obtain⟨e,y⟩:=y;subst e y;exact hs i σ _ hlt p
 ·have e:i=n:=by omega
  subst e;exact .inl ⟨zoN _,hd σ H p⟩
abbrev R2:=V->V->Hp->VK->Prop
def OpR (X:Cx) (f:Value->Value->Sem Value) (r:R2):Prop :=
 ∀ (pins:List (Addr × Obj)) (s:Shared) (σ:St) (H:Hp) (x y:V) (v u:Value) (Q:VK),Inv X pins σ H s->zaO x v->zaO y u->r x y H Q ->
  wpAny (model X.prog X.w) X.A (f v u) (EP X pins σ Q) X.xe s
def UnR (X:Cx) (f:Value->Sem Value) (r:V->Hp->VK->Prop):Prop :=
 ∀ (pins:List (Addr × Obj)) (s:Shared) (σ:St) (H:Hp) (x:V) (v:Value) (Q:VK),Inv X pins σ H s->zaO x v->r x H Q ->
  wpAny (model X.prog X.w) X.A (f v) (EP X pins σ Q) X.xe s
def zbu (X:Cx) (f:Value) (r:List V->Hp->VK->Prop):Prop :=
 ∀ (pins:List (Addr × Obj)) (s:Shared) (σ:St) (H:Hp) (xs:List V) (us:List Value) (Q:VK),Inv X pins σ H s->zaU xs us->r xs H Q ->
  wpAny (model X.prog X.w) X.A (call f us) (EP X pins σ Q) X.xe s
def tOp (r:R2) (ta tb:TE):TE:=fun σ H Q=>ta σ H fun x H1=>tb σ H1 fun y H2=>r x y H2 Q
def tUn (r:V->Hp->VK->Prop) (ta:TE):TE:=fun σ H Q=>ta σ H fun x H1=>r x H1 Q
def rI (C:Int->Int->Prop) (g:Int->Int->V):R2:=fun x y H Q=>∃ i j,x=.int i/\y=.int j/\C i j/\Q (g i j) H
def rI0 (g:Int->Int->V):R2:=fun x y H Q=>∃ i j,x=.int i/\y=.int j/\Q (g i j) H
def rU (g:Int->V):V->Hp->VK->Prop:=fun x H Q=>∃ i,x=.int i/\Q (g i) H
section
variable {X:Cx} {a b c:Expr} {ta tb tc:TE} {pos:Pos}
theorem znK (ha:PE X a ta) (hb:PE X b tb) {pins:List (Addr × Obj)} {s:Shared} {σ:St} {H:Hp} {R:V->V->Hp->Prop} (I:Inv X pins σ H s)
  (h:ta σ H fun x H1=>tb σ H1 fun y H2=>R x y H2) {Q:Value->Shared->Prop} {f:Value->Value->Sem Value}
  (hf:∀ v u s2 x y H2,Inv X pins σ H2 s2->zaO x v->zaO y u->R x y H2->wpAny (model X.prog X.w) X.A (f v u) Q X.xe s2) :
  wpAny (model X.prog X.w) X.A (eval a X.env) (fun v s₁=>wpAny (model X.prog X.w) X.A (eval b X.env) (fun u s₂=>wpAny (model X.prog X.w) X.A (f v u) Q X.xe s₂) X.xe s₁) X.xe s:=by
 refine thn (ha pins s σ H _ I h) fun v s1 ⟨x,H1,I1,r1,q1⟩=>?_
 refine thn (hb pins s1 σ H1 _ I1 q1) fun u s2 ⟨y,H2,I2,r2,q2⟩=>?_
 exact hf v u s2 x y H2 I2 r1 r2 q2
theorem zau {op:Operator} {r:R2} (ho:OpR X (binaryOp op) r) (ha:PE X a ta) (hb:PE X b tb):PE X (.BinOp a op b pos) (tOp r ta tb):=by
 intro pins s σ H Q I h;exact wpAny_BinOp (znK ha hb I h fun v u s2 x y H2 I2 rx ry q=>ho pins s2 σ H2 x y v u Q I2 rx ry q)
theorem zit {op:UnaryOp} {r:V->Hp->VK->Prop} (ho:UnR X (unaryOp op) r) (ha:PE X a ta):PE X (.UnaryOp op a pos) (tUn r ta):=by
 intro pins s σ H Q I h;exact UnaryOp_ (thn (ha pins s σ H _ I h) fun v s1 ⟨x,H1,I1,r1,q1⟩=>ho pins s1 σ H1 x v Q I1 r1 q1)
theorem opI {f:Value->Value->Sem Value} {C:Int->Int->Prop} {g:Int->Int->Int}
  (rule:∀ (i j:Int) (t u:Tok) (s:Shared) (Q:Value->Shared->Prop) (E:Value->Shared->Prop),C i j->Q (.int (g i j) s.toks) { s with toks:=s.toks+1 }->wpAny (model X.prog X.w) X.A (f (.int i t) (.int j u)) Q E s) :
  OpR X f (rI C fun i j=>.int (g i j)):=by
 intro pins s σ H x y v u Q I rx ry h;obtain⟨i,j,rfl,rfl,hc,q⟩:=h;obtain⟨t,rfl⟩:=rx;obtain⟨t',rfl⟩:=ry;exact rule i j t t' s _ _ hc ⟨.int (g i j),H,I.tok _,⟨_,rfl⟩,q⟩
theorem opI0 {f:Value->Value->Sem Value} {g:Int->Int->Int}
  (rule:∀ (i j:Int) (t u:Tok) (s:Shared) (Q:Value->Shared->Prop) (E:Value->Shared->Prop),Q (.int (g i j) s.toks) { s with toks:=s.toks+1 }->wpAny (model X.prog X.w) X.A (f (.int i t) (.int j u)) Q E s) :
  OpR X f (rI0 fun i j=>.int (g i j)):=by
 intro pins s σ H x y v u Q I rx ry h;obtain⟨i,j,rfl,rfl,q⟩:=h;obtain⟨t,rfl⟩:=rx;obtain⟨t',rfl⟩:=ry;exact rule i j t t' s _ _ ⟨.int (g i j),H,I.tok _,⟨_,rfl⟩,q⟩
theorem znC {f:Value->Value->Sem Value} {g:Int->Int->Bool}
  (rule:∀ (i j:Int) (t u:Tok) (s:Shared) (Q:Value->Shared->Prop) (E:Value->Shared->Prop),Q (.bool (g i j)) s->wpAny (model X.prog X.w) X.A (f (.int i t) (.int j u)) Q E s) :
  OpR X f (rI0 fun i j=>.bl (g i j)):=by
 intro pins s σ H x y v u Q I rx ry h;obtain⟨i,j,rfl,rfl,q⟩:=h;obtain⟨t,rfl⟩:=rx;obtain⟨t',rfl⟩:=ry;exact rule i j t t' s _ _ ⟨.bl (g i j),H,I,rfl,q⟩
def znF (i j:Int):Prop:=0<=j/\j<=1000000/\i.natAbs<2 ^ 64
def znB (i j:Int):Prop:=(-(2 ^ 64)<i/\i<2 ^ 64)\/(-(2 ^ 64)<j/\j<2 ^ 64)
theorem znB.ok {i j:Int} (h:znB i j):IntMulOk i j:=by
 rcases h with ⟨h1,h2⟩ | ⟨h1,h2⟩
 ·exact .of_left (intBits_le_64 h1 h2)
 ·exact .of_right (intBits_le_64 h1 h2)
theorem zmO:OpR X (binaryOp .Add) (rI0 fun i j=>.int (i+j)):=opI0 fun _ _ _ _ _ _ _ q=>add_int q
theorem zmV:OpR X (binaryOp .Sub) (rI0 fun i j=>.int (i-j)):=opI0 fun _ _ _ _ _ _ _ q=>sub_int q
theorem zmT:OpR X (binaryOp .Mult) (rI znB fun i j=>.int (i*j)):=opI fun _ _ _ _ _ _ _ hc q=>mul_int q hc.ok
theorem zmS:OpR X (binaryOp .Mod) (rI (fun _ j=>0<j) fun i j=>.int (i % j)):=opI fun i j _ _ _ _ _ hc q=>by
 have h1:(0:Int)<j:=hc;exact mod_int' (by omega) (by rw [Int.fmod_eq_emod_of_nonneg i (by omega)];exact q)
theorem zmU:OpR X (binaryOp .Pow) (rI znF fun i j=>.int (i ^ j.toNat)):=opI fun _ _ _ _ _ _ _ hc q=>pow_int_small hc.1 hc.2.1 hc.2.2 q
theorem unI {f:Value->Sem Value} {g:Int->Int}
  (rule:∀ (i:Int) (t:Tok) (s:Shared) (Q:Value->Shared->Prop) (E:Value->Shared->Prop),Q (.int (g i) s.toks) { s with toks:=s.toks+1 }->wpAny (model X.prog X.w) X.A (f (.int i t)) Q E s) :
  UnR X f (rU fun i=>.int (g i)):=by
 intro pins s σ H x v Q I rx h;obtain⟨i,rfl,q⟩:=h;obtain⟨t,rfl⟩:=rx;exact rule i t s _ _ ⟨.int (g i),H,I.tok _,⟨_,rfl⟩,q⟩
theorem znv:UnR X (unaryOp .USub) (rU fun i=>.int (-i)):=unI fun _ _ _ _ _ q=>neg_int q
end
section
variable {X:Cx} {a b c:Expr} {ta tb tc:TE} {pos:Pos}
theorem zc7 {pins:List (Addr × Obj)} {σ:St} {H:Hp} {s:Shared} {Q:VK} {k k':Bool} (I:Inv X pins σ H s) (q:Q (.bl k) H) (e:k=k'):EP X pins σ Q (.bool k') s:=by
 subst e;exact⟨.bl k,H,I,rfl,q⟩
theorem zn9:OpR X (compareOp .Lt) (rI0 fun i j=>.bl (decide (i<j))):=znC fun _ _ _ _ _ _ _ q=>lt_int q
theorem zn8:OpR X (compareOp .LtE) (rI0 fun i j=>.bl (decide (i<=j))):=znC fun _ _ _ _ _ _ _ q=>le_int q
theorem zn7:OpR X (compareOp .Gt) (rI0 fun i j=>.bl (decide (j<i))):=znC fun _ _ _ _ _ _ _ q=>gt_int q
theorem zn6:OpR X (compareOp .GtE) (rI0 fun i j=>.bl (decide (j<=i))):=znC fun _ _ _ _ _ _ _ q=>ge_int q
theorem ziq:OpR X (compareOp .Is) (fun x y H Q=>y=.non/\Q (.bl (decide (x=.non))) H):=by
 intro pins s σ H x y v u Q I rx ry h;obtain⟨rfl,q⟩:=h;cases ry;refine is_none_gen (zc7 I q ?_);cases x <;> first
  | (cases rx;rfl)
  | (obtain⟨t,rfl⟩:=rx;rfl)
theorem zdP:OpR X (compareOp .IsNot) (fun x y H Q=>y=.non/\Q (.bl (!decide (x=.non))) H):=by
 intro pins s σ H x y v u Q I rx ry h;obtain⟨rfl,q⟩:=h;cases ry;refine isnot_none_gen (zc7 I q ?_);cases x <;> first
  | (cases rx;rfl)
  | (obtain⟨t,rfl⟩:=rx;rfl)
theorem zaP (b:Expr) {op:CmpOp} (h:op≠.In:=by decide) (h2:op≠.NotIn:=by decide):behindInMarks op b=false:=by
 have e1:(op == CmpOp.In)=false:=by cases op <;> first | rfl | exact absurd rfl h
 have e2:(op == CmpOp.NotIn)=false:=by cases op <;> first | rfl | exact absurd rfl h2
 cases b <;> simp [behindInMarks,e1,e2]
theorem zbe {op:CmpOp} {r:R2} (ho:OpR X (compareOp op) r) (ha:PE X a ta) (hb:PE X b tb) (hm:behindInMarks op b=false):PE X (.Compare a [op] [b] pos) (tOp r ta tb):=by
 intro pins s σ H Q I h;exact wpAny_Compare1 (znK ha hb I h fun v u s2 x y H2 I2 rx ry q=>ho pins s2 σ H2 x y v u Q I2 rx ry q) hm
theorem zgD:(sizeLine:Nat)<2 ^ 63:=by rw [sizeLine_eq];decide
theorem zj2 {x:V} {us:List Value} (r:zaU [x] us):∃ u,us=[u]/\zaO x u:=by
 cases r with
 | cons r1 r2=>cases r2;exact⟨_,rfl,r1⟩
theorem znx {x y:V} {us:List Value} (r:zaU [x,y] us):∃ u w',us=[u,w']/\zaO x u/\zaO y w':=by
 cases r with
 | cons r1 r2 =>
  cases r2 with
  | cons r3 r4=>cases r4;exact⟨_,_,rfl,r1,r3⟩
theorem zi9:zbu X (.builtin "abs") (fun xs H Q=>∃ i,xs=[.int i]/\Q (.int (if i<0 then -i else i)) H):=by
 intro pins s σ H xs us Q I r h;obtain⟨i,rfl,q⟩:=h;obtain⟨u,rfl,t,rfl⟩:=zj2 r;exact call_abs_int fun u tk=>⟨.int (if i<0 then -i else i),H,I.tok _,⟨_,rfl⟩,q⟩
theorem zhH (hc:X.calm=true):zbu X (.builtin "max") (fun xs H Q=>∃ i j,xs=[.int i,.int j]/\Q (.int (if j > i then j else i)) H):=by
 intro pins s σ H xs us Q I r h;obtain⟨i,j,rfl,q⟩:=h;obtain⟨u,w',rfl,⟨t,rfl⟩,⟨t',rfl⟩⟩:=znx r;refine max_two_ints (I.ok.hd hc) fun h' tk k=>⟨_,H,I.kept k,?_,q⟩
 by_cases hj:j > i
 ·rw [zpc hj,zpc hj];exact⟨_,rfl⟩
 ·rw [zpb hj,zpb hj];exact⟨_,rfl⟩
theorem zhI (hc:X.calm=true):zbu X (.builtin "min") (fun xs H Q=>∃ i j,xs=[.int i,.int j]/\Q (.int (if j<i then j else i)) H):=by
 intro pins s σ H xs us Q I r h;obtain⟨i,j,rfl,q⟩:=h;obtain⟨u,w',rfl,⟨t,rfl⟩,⟨t',rfl⟩⟩:=znx r;refine min_two_ints (I.ok.hd hc) fun h' tk k=>⟨_,H,I.kept k,?_,q⟩
 by_cases hj:j<i
 ·rw [zpc hj,zpc hj];exact⟨_,rfl⟩
 ·rw [zpb hj,zpb hj];exact⟨_,rfl⟩
end
structure zkM (h:Heap) (x dx C:Addr) (mA:Str->Option Value):Prop where
 obj:h.get? x=some (PySem.W.instObj C dx)
 ns:h.Ns1 dx mA
 ne:dx≠x
theorem zib {h:Heap} {dx:Addr} {mA:Str->Option Value} (n:h.Ns1 dx mA):∃ od,h.get? dx=some od/\∀ name,PySem.W.lookIn name od=some (mA name):=by
 obtain⟨o,es,ep,ho,hd,hk,_,hm⟩:=n;refine⟨o,ho,fun name=>?_⟩;have e:=hm name;unfold nsFind findBy at e;rw [← Array.find?_toList] at e;unfold PySem.W.lookIn;rw [hd];dsimp only;split
 ·rename_i y q;rw [q] at e;exact congrArg some e
 ·rename_i q;rw [q] at e;have a:es.toList.any (·.refKey)=false:=by
   rw [List.any_eq_false];intro y hy;obtain⟨z,t,hkey⟩:=hk y (Array.mem_toList_iff.mp hy);simp [DictEntry.refKey,hkey]
  have a':¬ es.toList.any (·.refKey)=true:=by rw [a];exact zpj
  rw [zpb a'];exact congrArg some e
theorem zkM.look {h:Heap} {x dx C:Addr} {mA:Str->Option Value} (I:zkM h x dx C mA):∃ od,PySem.W.InstAt h x (PySem.W.instObj C dx) C (some od)/\∀ name,PySem.W.lookIn name od=some (mA name) :=
 let ⟨od,ho,hl⟩:=zib I.ns
 ⟨od,⟨I.obj,rfl,rfl,ho⟩,hl⟩
section
variable {prog:Program} {w:World} {A:Around} {E:Value->Shared->Prop} {s:Shared} {K:PySem.W.Frag} {x dx C f:Addr} {mA:Str->Option Value} {name:Str} {v:Value}
theorem zk7 {expr:Bool} {Q:Value->Shared->Prop} (X:K.In s.heap) (I:zkM s.heap x dx C mA) (hg:PySem.W.plainGet K C name=true) (hh:PySem.W.hasDictIn K C=true)
  (ha:PySem.W.findIn K (.ref C) name=some none) (hv:mA name=some v) (hv':PySem.W.handedIn v=true) (h:Q v { s with toks:=s.toks+1 }) :
  wpAny (model prog w) A (getAttr (.ref x) name expr) Q E s:=by
 obtain⟨od,J,hl⟩:=I.look;exact PySem.W.get_value X J (PySem.W.plainGet_of hg).1 (PySem.W.findObj_own hh ha rfl (by rw [hl,hv])) hv' h
theorem zjj {pl:Sem Bool} {Q:Value × List Value->Shared->Prop} (X:K.In s.heap) (I:zkM s.heap x dx C mA) (hg:PySem.W.plainGet K C name=true)
  (hf:PySem.W.findIn K (.ref C) name=some (some (.ref f))) (ht:PySem.W.isFn K (.ref f)=true) (hv:mA name=none) (h:Q (.ref f,[.ref x]) s) :
  wpAny (model prog w) A (getMethod (.ref x) name pl) Q E s:=by
 obtain⟨od,J,hl⟩:=I.look;exact PySem.W.method_fn X J (PySem.W.plainGet_of hg).1 (PySem.W.plainGet_of hg).2 hf (beq_iff_eq.mp ht) (by show (PySem.W.lookIn name od).map (·.isSome)=some false;rw [hl,hv];rfl) h
theorem zlU {ns:List Str} {Q:Unit->Shared->Prop} (X:K.In s.heap) (I:zkM s.heap x dx C mA)
  (hs:PySem.W.findIn K (.ref C) "__setattr__"=some (some (.builtin "object.__setattr__"))) (hp:PySem.W.plainOver K C=true) (ht:PySem.W.takerIn K C name=some none) (hh:PySem.W.hasDictIn K C=true)
  (hw:PySem.Within mA ns) (hsz:ns.length<=sizeLine)
  (h:∀ h',zkM h' x dx C (fun y=>if y=name then some v else mA y)->Heap.SameBut dx s.heap h'->Q () { s with heap:=h',toks:=s.toks+2 }) :
  wpAny (model prog w) A (setAttr (.ref x) name v) Q E s:=by
 obtain⟨od,J,hl⟩:=I.look;refine PySem.W.set_plain X J hs (PySem.W.osa_open (s:={ s with toks:=s.toks+1 }) (r:=none) X J hp ht fun b=>?_);obtain⟨cd,hc,hd'⟩:=PySem.W.any_some hh;have hx:s.heap.get? x=some ⟨.ref C,some dx,.plain,#[]⟩:=I.obj;refine wpAny_bind (wpAny_pure (wpAny_bind (wpAny_bind (wpAny_loadPart hx (wpAny_bind (PySem.W.Looks.here (s:={ s with toks:=s.toks+1 }) (PySem.W.looks_clsIn X hc) ?_))))));rw [hd'];refine wpAny_pure (a:=some dx) (wpAny_bind (wpAny_pure (wpAny_bind ?_)));refine wpAny_nsSet1 (s:={ s with toks:=s.toks+1 }) I.ns fun h' hn2 hs2=>?_
 obtain⟨oD,esD,epD,hoD,hdD,hcD⟩:=hn2.count (PySem.Within.cons name v hw);refine wpAny_bind (wpAny_lookBehind hoD (by rw [hdD];exact pastItsLine_dict (zoM hcD (by rw [zpa];omega))) ?_);exact wpAny_pure (h _ ⟨(hs2.2 _ (Ne.symm I.ne)).trans I.obj,hn2,I.ne⟩ hs2)
theorem zjv {R:Result->Shared->Prop} {vs:List Value} {kw:List (Str × Value)} (X:K.In s.heap) (hm:PySem.W.makesIn K C=true)
  (hi:PySem.W.findIn K (.ref C) "__init__"=some (some (.ref f))) (hf:PySem.W.typeIn K (.ref f)=some (.type "function"))
  (h:codeAny (model prog w) (A.under (.builtin "type.__call__" ⟨.ref C::vs,kw⟩)) (.call (.ref f) ⟨.ref (s.heap.objs.size+1)::vs,kw⟩) (PySem.W.InitBack (s.heap.objs.size+1) R)
   { s with heap:=(s.heap.push PySem.W.emptyDict).push (PySem.W.instObj C s.heap.objs.size) }) :
  codeAny (model prog w) A (.call (.ref C) ⟨vs,kw⟩) R s:=by
 obtain⟨hh,g,d,t,os⟩:=s;exact PySem.W.make_core (PySem.W.makes_of X hm) (PySem.W.looks_findIn X hi) (fun self=>PySem.W.bind_fn X self hf) (.inl rfl) h
end
def zcv (f:Str) (v:V):List (Str × V)->List (Str × V)
 | []=>[(f,v)]
 | (g,x)::r=>if g=f then (g,v)::r else (g,x)::zcv f v r
theorem zdJ (f g:Str) (v:V):∀ fs:List (Str × V),(zcv f v fs).lookup g=if g=f then some v else fs.lookup g
 | []=>by
  show List.lookup g [(f,v)]=_;by_cases h:g=f
  ·have hb:(g == f)=true:=beq_iff_eq.mpr h;simp only [List.lookup,hb,zpc h]
  ·have hb:(g == f)=false:=beq_eq_false_iff_ne.mpr h;simp only [List.lookup,hb,zpb h]
 | (k,x)::r=>by
  have ih:=zdJ f g v r;rw [show zcv f v ((k,x)::r)=(if k=f then (k,v)::r else (k,x)::zcv f v r) from rfl];by_cases hk:k=f
  ·rw [zpc hk];by_cases h:g=k
   ·have hb:(g == k)=true:=beq_iff_eq.mpr h;simp only [List.lookup,hb,zpc (h.trans hk)]
   ·have hb:(g == k)=false:=beq_eq_false_iff_ne.mpr h;simp only [List.lookup,hb,zpb (fun e:g=f=>h (e.trans hk.symm))]
  ·rw [zpb hk];by_cases h:g=k
   ·have hb:(g == k)=true:=beq_iff_eq.mpr h;simp only [List.lookup,hb,zpb (fun e:g=f=>hk (h.symm.trans e))]
   ·have hb:(g == k)=false:=beq_eq_false_iff_ne.mpr h;simp only [List.lookup,hb];exact ih
theorem zdG (f:Str) (v:V):∀ fs:List (Str × V),f∈(zcv f v fs).map (·.1)/\∀ g,g∈fs.map (·.1)->g∈(zcv f v fs).map (·.1)
 | []=>⟨by simp [zcv],fun g h=>by simp at h⟩
 | (k,x)::r=>by
  obtain⟨i1,i2⟩:=zdG f v r;rw [show zcv f v ((k,x)::r)=(if k=f then (k,v)::r else (k,x)::zcv f v r) from rfl];by_cases hk:k=f
  ·rw [zpc hk];subst hk;exact⟨by simp,fun g h=>by simpa using h⟩
  ·rw [zpb hk];refine⟨?_,fun g h=>?_⟩
   ·rw [zo0];exact zoQ _ i1
   ·rw [zo0] at h ⊢;rcases zpg.mp h with e | e
    ·exact zpg.mpr (.inl e)
    ·exact zoQ _ (i2 g e)
theorem zdI (f:Str) (v:V):∀ fs:List (Str × V),(zcv f v fs).length<=fs.length+1
 | []=>by simp [zcv]
 | (k,x)::r=>by
  have ih:=zdI f v r;rw [show zcv f v ((k,x)::r)=(if k=f then (k,v)::r else (k,x)::zcv f v r) from rfl];by_cases hk:k=f
  ·rw [zpc hk,zpa,zpa];omega
  ·rw [zpb hk,zpa,zpa];omega
theorem zfb.some_of {v:V} {o:Option Value} (r:zfb (some v) o):∃ u,o=some u/\zaO v u:=by
 cases o with
 | none=>exact (show False from r).elim
 | some u=>exact⟨u,rfl,r⟩
theorem zfb.none_of {o:Option Value} (r:zfb none o):o=none:=by
 cases o with
 | none=>rfl
 | some u=>exact (show False from r).elim
theorem zh1 {v:V} {u:Value} (r:zaO v u):PySem.W.handedIn u=true:=by
 cases v with
 | non=>cases (show u=Value.none from r);rfl
 | bl b=>cases (show u=Value.bool b from r);rfl
 | int i=>obtain⟨t,e⟩:=(show ∃ t,u=Value.int i t from r);cases e;rfl
 | str x=>obtain⟨t,e⟩:=(show ∃ t,u=Value.str x t from r);cases e;rfl
 | byt b=>obtain⟨t,e⟩:=(show ∃ t,u=Value.bytes b t from r);cases e;rfl
 | flt b=>obtain⟨t,e⟩:=(show ∃ t,u=Value.float b t from r);cases e;rfl
 | ref a=>cases (show u=Value.ref a from r);rfl
 | ty n=>cases (show u=Value.type n from r);rfl
section
variable {P:Program} {w:World} {H H':Hp} {h h':Heap} {a C dx:Addr} {fs fs':List (Str × V)}
theorem zf1 (hok:HOk P w H h) (e:H a=some (.ins C dx fs)):∃ mA,zkM h a dx C mA/\(∀ f,zfb (fs.lookup f) (mA f))/\PySem.Within mA (fs.map (·.1))/\fs.length<=1000/\H dx=some (.own a):=by
 obtain⟨d,z,ne,ob,mA,n,r,q⟩:=(show zaV P w H h a (.ins C dx fs) from hok a _ e);exact⟨mA,⟨ob,n,ne⟩,r,q,z,d⟩
end
structure Cls (K:PySem.W.Frag) (C:Addr):Prop where
 pg:PySem.W.plainGet K C Str.empty=true
 hd:PySem.W.hasDictIn K C=true
 po:PySem.W.plainOver K C=true
 sa:PySem.W.findIn K (.ref C) "__setattr__"=some (some (.builtin "object.__setattr__"))
theorem Cls.get {K:PySem.W.Frag} {C:Addr} (c:Cls K C) (f:Str):PySem.W.plainGet K C f=true:=c.pg
def zbY (K:PySem.W.Frag) (C:Addr) (f:Str):Prop:=PySem.W.findIn K (.ref C) f=some none
theorem zbY.taker {K:PySem.W.Frag} {C:Addr} {f:Str} (n:zbY K C f):PySem.W.takerIn K C f=some none:=by
 unfold PySem.W.takerIn;rw [show PySem.W.findIn K (.ref C) f=some none from n]
 rfl
structure zj7 (K:PySem.W.Frag) (C:Addr) (m:Str) (f:Addr):Prop where
 at_:PySem.W.findIn K (.ref C) m=some (some (.ref f))
 fn:PySem.W.isFn K (.ref f)=true
 kp:PySem.W.keepIn K (.ref f)=true
section
variable {X:Cx} {pins:List (Addr × Obj)} {σ:St} {H:Hp} {s:Shared} {a C dx:Addr} {fs:List (Str × V)} {f:Str} {v:V} {A:Around} {E:Value->Shared->Prop}
theorem zed {b:Bool} {Q:Value->Shared->Prop} (I:Inv X pins σ H s) (e:H a=some (.ins C dx fs)) (c:Cls X.K C) (n:zbY X.K C f) (l:fs.lookup f=some v)
  (h:∀ u s',Inv X pins σ H s'->zaO v u->Q u s'):wpAny (model X.prog X.w) A (getAttr (.ref a) f b) Q E s:=by
 obtain⟨mA,O,r,_,_,_⟩:=zf1 I.hok e;obtain⟨u,hu,ru⟩:=zfb.some_of (v:=v) (o:=mA f) (by rw [← l];exact r f);exact zk7 I.kIn O (c.get f) c.hd n hu (zh1 ru) (h u _ (I.tok _) ru)
theorem zee {m:Str} {g:Addr} {pl:Sem Bool} {Q:Value × List Value->Shared->Prop} (I:Inv X pins σ H s) (e:H a=some (.ins C dx fs)) (c:Cls X.K C) (k:zj7 X.K C m g) (l:fs.lookup m=none)
  (h:Q (.ref g,[.ref a]) s):wpAny (model X.prog X.w) A (getMethod (.ref a) m pl) Q E s:=by
 obtain⟨mA,O,r,_,_,_⟩:=zf1 I.hok e;have hn:mA m=none:=zfb.none_of (by rw [← l];exact r m);exact zjj I.kIn O (c.get m) k.at_ k.fn hn h
theorem zeq {y:V} {u:Value} {Q:Unit->Shared->Prop} (I:Inv X pins σ H s) (e:H a=some (.ins C dx fs)) (c:Cls X.K C) (n:zbY X.K C f) (hl:fs.length<1000) (ry:zaO y u)
  (h:∀ s',Inv X pins σ (upd H a (.ins C dx (zcv f y fs))) s'->Q () s'):wpAny (model X.prog X.w) A (setAttr (.ref a) f u) Q E s:=by
 obtain⟨mA,O,r,wi,_,ho⟩:=zf1 I.hok e;have hz:(fs.map (·.1)).length<=sizeLine:=by rw [zox,sizeLine_eq];omega
 refine zlU I.kIn O c.sa c.po n.taker c.hd wi hz fun h' O' sb=>h _ ?_
 have hd:∃ o,h'.get? dx=some o:=let ⟨o,_,_,e',_⟩:=O'.ns;⟨o,e'⟩;refine I.write (x:=a) (e:=dx) (by rw [e];exact True.intro) (.inr ho) (fun b q hb z=>(sb.2 b hb).trans z) hd ?_;refine⟨by rw [zao O.ne];exact ho,?_,O.ne,O'.obj,_,O'.ns,fun g=>?_,fun g hg=>?_⟩
 ·have:=zdI f y fs;omega
 ·show zfb ((zcv f y fs).lookup g) (if g=f then some u else mA g);rw [zdJ];by_cases q:g=f
  ·rw [zpc q,zpc q];exact ry
  ·rw [zpb q,zpb q];exact r g
 ·by_cases q:g=f
  ·rw [q];exact (zdG f y fs).1
  ·refine (zdG f y fs).2 g (wi g fun z=>hg ?_);show (if g=f then some u else mA g)=none;rw [zpb q];exact z
theorem Inv.made (I:Inv X pins σ H s):Inv X pins σ (upd (upd H s.heap.objs.size (.own (s.heap.objs.size+1))) (s.heap.objs.size+1) (.ins C s.heap.objs.size []))
  { s with heap:=(s.heap.push PySem.W.emptyDict).push (PySem.W.instObj C s.heap.objs.size) }:=by
 have e1:(s.heap.push PySem.W.emptyDict).get? s.heap.objs.size=some PySem.W.emptyDict:=zo8 s.heap rfl;have e2:((s.heap.push PySem.W.emptyDict).push (PySem.W.instObj C s.heap.objs.size)).get? (s.heap.objs.size+1)=some (PySem.W.instObj C s.heap.objs.size):=by
  have:=zo8 (s.heap.push PySem.W.emptyDict) (o:=PySem.W.instObj C s.heap.objs.size) rfl
  rwa [Heap.size_push] at this
 have e3:(s.heap.push PySem.W.emptyDict).Ns s.heap.objs.size (fun _=>none):=⟨PySem.W.emptyDict,#[],_,e1,rfl,(fun e he=>absurd he (by simp)),fun _=>rfl⟩;have I1:=I.laid (a:=s.heap.objs.size) (o:=.own (s.heap.objs.size+1)) (h':=s.heap.push PySem.W.emptyDict) (t':=s.toks) (fun b u q=>zoK _ q) (zoN _) ⟨_,e1⟩;refine I1.laid (a:=s.heap.objs.size+1) (o:=.ins C s.heap.objs.size []) (t':=s.toks) (fun b u q=>zoK _ q) (Nat.le_of_eq (Heap.size_push _ _)) ?_;have ne:s.heap.objs.size≠s.heap.objs.size+1:=zph (Nat.lt_succ_self _);refine⟨by rw [zao ne,zaf],Nat.zero_le _,ne,e2,fun _=>none,(Heap.Ns1.of_empty e3).at fun o q=>zoK _ q,fun _=>True.intro,fun y hy=>absurd rfl hy⟩
theorem zkP {prog:Program} {w:World} {env:Env} {e:Expr} {f:Str} {pos:Pos} {s:Shared} {Q:Value->Shared->Prop} (hb:attributeBase e f env (eval e env)=eval e env)
  (h:wpAny (model prog w) A (eval e env) (fun o s₁=>wpAny (model prog w) A (getAttr o f true) Q E s₁) E s):wpAny (model prog w) A (eval (.Attribute e f pos) env) Q E s :=
 Attribute_any_ h (by rw [arm_eval_Attribute,hb])
end
def tFld (K:PySem.W.Frag) (ta:TE) (f:Str):TE:=fun σ H Q=>ta σ H fun x H1=>∃ a C dx fs v,x=.ref a/\H1 a=some (.ins C dx fs)/\Cls K C/\zbY K C f/\fs.lookup f=some v/\Q v H1
def sFld (K:PySem.W.Frag) (ta tv:TE) (f:Str):TS:=fun D σ H=>tv σ H fun y H1=>ta σ H1 fun x H2=>∃ a C dx fs,x=.ref a/\H2 a=some (.ins C dx fs)/\Cls K C/\zbY K C f/\fs.length<1000 /\
 D.nx σ (upd H2 a (.ins C dx (zcv f y fs)))
def InOp (X:Cx) (op:Operator) (rd:V->V->Hp->VK->Prop):Prop :=
 ∀ (pins:List (Addr × Obj)) (s:Shared) (σ:St) (H:Hp) (x y:V) (u v:Value) (Q:VK),Inv X pins σ H s->zaO x u->zaO y v->rd x y H Q->wpAny (model X.prog X.w) X.A (inplaceOp op u v) (EP X pins σ Q) X.xe s
def zlT (K:PySem.W.Frag) (ta tv:TE) (rd:V->V->Hp->VK->Prop) (f:Str):TS:=fun D σ H=>ta σ H fun x H1=>∃ a C dx fs v,x=.ref a/\H1 a=some (.ins C dx fs)/\Cls K C/\zbY K C f/\fs.lookup f=some v /\
 tv σ H1 fun y H2=>rd v y H2 fun z H3=>∃ dx' fs',H3 a=some (.ins C dx' fs')/\fs'.length<1000/\D.nx σ (upd H3 a (.ins C dx' (zcv f z fs')))
section
variable {X:Cx} {o e value:Expr} {f:Str} {pos pos' tpos:Pos} {ta tv:TE}
theorem zbz (he:PE X e ta) (hb:attributeBase e f X.env (eval e X.env)=eval e X.env):PE X (.Attribute e f pos) (tFld X.K ta f):=by
 intro pins s σ H Q I h;refine zkP hb (thn (he pins s σ H _ I h) fun u s1 ⟨x,H1,I1,rx,a,C,dx,fs,v,ex,ea,c,n,l,q⟩=>?_);subst ex;obtain rfl:u=Value.ref a:=rx;exact zed I1 ea c n l fun u' s2 I2 ru=>⟨v,H1,I2,ru,q⟩
theorem zfz (ha:PE X o ta) (hv:PE X value tv) (hs:swapsWith value (some (.Attribute o f pos')) pos.line X.env=pure false):PS X (.Assign [.Attribute o f pos'] value pos) (sFld X.K ta tv f):=by
 intro pins s σ H D I h;refine plainObj_wpAny_Assign_Attribute (thn (hv pins s σ H _ I h) fun u s1 ⟨y,H1,I1,ry,q⟩=>thn (ha pins s1 σ H1 _ I1 q) fun ov s2 ⟨x,H2,I2,rx,a,C,dx,fs,ex,ea,c,n,l,q2⟩=>?_) hs;subst ex;obtain rfl:ov=Value.ref a:=rx;exact zeq I2 ea c n l ry fun s3 I3=>⟨σ,_,I3,q2⟩
theorem ziy {op:Operator} {rd:V->V->Hp->VK->Prop} (ha:PE X o ta) (hv:PE X value tv) (hop:InOp X op rd):PS X (.AugAssign (.Attribute o f tpos) op value pos) (zlT X.K ta tv rd f):=by
 intro pins s σ H D I h;refine wpAny_AugAssign_AttributeAny (thn (ha pins s σ H _ I h) fun ov s1 ⟨x,H1,I1,rx,a,C,dx,fs,v,ex,ea,c,n,l,q⟩=>?_);subst ex;obtain rfl:ov=Value.ref a:=rx;refine zed I1 ea c n l fun u s2 I2 ru=>thn (hv pins s2 σ H1 _ I2 q) fun w3 s3 ⟨y,H2,I3,ry,q3⟩=>thn (hop pins s3 σ H2 v y u w3 _ I3 ru ry q3) fun w4 s4 ⟨z,H3,I4,rz,dx',fs',ea',l',q4⟩=>?_
 exact zeq I4 ea' c n l' rz fun s5 I5=>⟨σ,_,I5,q4⟩
def rAdd:V->V->Hp->VK->Prop:=fun x y H Q=>∃ i j,x=.int i/\y=.int j/\Q (.int (i+j)) H
theorem zmz:InOp X .Add rAdd:=by
 rintro pins s σ H x y u v Q I rx ry ⟨i,j,rfl,rfl,q⟩;obtain⟨t,rfl⟩:=(show ∃ t,u=Value.int i t from rx);obtain⟨t',rfl⟩:=(show ∃ t',v=Value.int j t' from ry);exact PyProof.Rows.iadd_int ⟨.int (i+j),H,I.tok _,⟨_,rfl⟩,q⟩
end
section
variable {X:Cx} {pins:List (Addr × Obj)} {σ:St} {H:Hp} {s:Shared} {A:Around} {E:Value->Shared->Prop} {Q:Value->Shared->Prop} {c:Value} {b:Bool}
end
structure zcq (k:Nat) (A:Around):Prop where
 hd:A.handled=none
 dp:A.depth+3*k+5<recursionLimit
 un:A.units+16*k+200<cLine
theorem zcq.mono {j k:Nat} {A:Around} (r:zcq k A) (h:j<=k):zcq j A:=⟨r.hd,by have:=r.dp;omega,by have:=r.un;omega⟩
theorem zcq.deeper {k:Nat} {A:Around} (r:zcq (k+1) A) (env:Env):zcq k (A.deeper env) :=
 ⟨r.hd,by have:=r.dp;show A.depth+1+3*k+5<_;omega,by have:=r.un;show A.units+3+16*k+200<_;omega⟩
theorem zhh {A:Around} {C:Addr} {us:List Value} {kw:List (Str × Value)}:(A.under (.builtin "type.__call__" ⟨.ref C::us,kw⟩)).depth=A.depth+1:=by
 first | rfl | simp [Around.under,Code.weight,Code.isCreation,Code.isGuard,Code.isCaller,Code.frames,Code.isFrame,guardIds]
theorem zhi {A:Around} {C:Addr} {us:List Value} {kw:List (Str × Value)}:(A.under (.builtin "type.__call__" ⟨.ref C::us,kw⟩)).units=A.units+1:=by
 first | rfl | simp [Around.under,Code.cUnits,Code.frames,Code.isFrame]
theorem zcq.make {k:Nat} {A:Around} (r:zcq (k+1) A) (C:Addr) (us:List Value) (kw:List (Str × Value)):zcq k (A.under (.builtin "type.__call__" ⟨.ref C::us,kw⟩)) :=
 ⟨r.hd,by have:=r.dp;rw [zhh];omega,by have:=r.un;rw [zhi];omega⟩
theorem zcq.depth {k:Nat} {A:Around} (r:zcq k A):A.depth<recursionLimit:=by have:=r.dp;omega
theorem zcq.units {k:Nat} {A:Around} (r:zcq k A):A.units+64<cLine:=by have:=r.un;omega
def zot:TA:=fun _ H Q=>Q [] H
def zoo (ta:TE) (tr:TA):TA:=fun σ H Q=>ta σ H fun x H1=>tr σ H1 fun xs H2=>Q (x::xs) H2
section
variable {X:Cx} {e:Expr} {es:List Expr} {te:TE} {t:TA} {pos:Pos}
theorem zad:PA X [] zot:=fun _ _ _ _ H Q I h=>Calls.spliced_nil ⟨[],H,I,.nil,h⟩
theorem zaa (ha:PE X e te) (hr:PA X es t) (hs:starEach (e::es) X.env=(false,eval e X.env)::starEach es X.env:=by rfl):PA X (e::es) (zoo te t):=by
 intro pos pins s σ H Q I h;rw [hs];show wpAny _ _ (spliced ((false,eval e X.env)::backTo pos (starEach es X.env))) _ _ s;refine Calls.spliced_cons (thn (ha pins s σ H _ I h) fun u s1 ⟨x,H1,I1,r1,q1⟩=>?_);exact thn (hr pos pins s1 σ H1 _ I1 q1) fun us s2 ⟨xs,H2,I2,r2,q2⟩=>⟨x::xs,H2,I2,.cons r1 r2,q2⟩
def tTup (t:TA):TE:=fun σ H Q=>t σ H fun xs H1=>xs.length<=sizeLine/\∀ p,H1 p=none->Q (.ref p) (upd H1 p (.tup xs))
def tLst (t:TA):TE:=fun σ H Q=>t σ H fun xs H1=>xs.length<=sizeLine/\∀ p,H1 p=none->Q (.ref p) (upd H1 p (.lst xs))
theorem zav {x1} (h:PA X es t):PE X (.Tuple es x1 pos) (tTup t):=by
 intro pins s σ H Q I hq;refine wpAny_Tuple_spliced (thn (h pos pins s σ H _ I hq) fun us s1 ⟨xs,H1,I1,r,z,q⟩=>⟨by rw [← r.length];exact z,?_⟩);have hf:H1 s1.heap.objs.size=none:=I1.hok.fresh (zoN _);refine⟨.ref s1.heap.objs.size,upd H1 s1.heap.objs.size (.tup xs),I1.laid (t':=s1.toks) (fun b u e=>zoK _ e) (zoN _) ?_,rfl,q _ hf⟩;exact⟨z,us,r,.of (zo8 _ rfl)⟩
theorem zbA (h:PA X es t):PE X (.List es pos) (tLst t):=by
 intro pins s σ H Q I hq;refine wpAny_List_spliced (thn (h pos pins s σ H _ I hq) fun us s1 ⟨xs,H1,I1,r,z,q⟩=>⟨by rw [← r.length];exact z,?_⟩);have hf:H1 s1.heap.objs.size=none:=I1.hok.fresh (zoN _);refine⟨.ref s1.heap.objs.size,upd H1 s1.heap.objs.size (.lst xs),I1.laid (t':=s1.toks) (fun b u e=>zoK _ e) (zoN _) ?_,rfl,q _ hf⟩;exact⟨z,us,0,r,zo8 _ rfl⟩
end
abbrev Sp:=List V->Hp->VK->XK->Prop
abbrev CXT:=List Env->Hp->Shared->XK->Value->Shared->Prop
structure zkK (P:Program) (w:World) (K:PySem.W.Frag) (mg:Str->Option Value) (base:Heap) (A:Around) (outer:List Env) (s:Shared) (H:Hp):Prop where
 frames:A.frames=some outer
 mod:Mod K mg base
 bs:∀ b o,base.get? b=some o->s.heap.get? b=some o/\H b=none
 bsz:base.objs.size<=s.heap.objs.size
 funs:s.heap.FunFrames base outer
 frf:∀ b∈frs outer,H b=none
 hok:HOk P w H s.heap
 bare:AllBare s.gens
def CE (outer:List Env) (P:Program) (w:World) (H:Hp) (s:Shared) (Q:VK) (u:Value) (s':Shared):Prop :=
 ∃ v H',s'.os=s.os/\AllBare s'.gens/\Un (frs outer) [] H H' s.heap s'.heap/\HOk P w H' s'.heap/\zaO v u/\Q v H'
def CR (CX:CXT) (outer:List Env) (P:Program) (w:World) (H:Hp) (s:Shared) (Q:VK) (E:XK) (r:Result) (s':Shared):Prop :=
 match r with
 | .ok (.ret u)=>CE outer P w H s Q u s'
 | .ok _=>False
 | .error e=>CX outer H s E e s'
structure zbr (P:Program) (w:World) (K:PySem.W.Frag) (mg:Str->Option Value) (base:Heap) (CX:CXT) (k:Nat) (f:Addr) (fd:FuncData) (ps:List Str) (sp:Sp):Prop where
 len:∀ vs H Q E,sp vs H Q E->vs.length=ps.length
 run:∀ (A:Around) (outer:List Env) (s:Shared) (H:Hp) (args:Args) (us:List Value) (vs:List V) (Q:VK) (E:XK),zcq k A->zkK P w K mg base A outer s H->BindsTo s fd args (ps.zip us)->zaU vs us->sp vs H Q E ->
  codeAny (model P w) A (.call (.ref f) args) (CR CX outer P w H s Q E) s
theorem zkK.make {P:Program} {w:World} {K:PySem.W.Frag} {mg:Str->Option Value} {base:Heap} {A:Around} {outer:List Env} {s:Shared} {H:Hp} (e:zkK P w K mg base A outer s H) (C:Addr) (us:List Value) (kw:List (Str × Value)) :
  zkK P w K mg base (A.under (.builtin "type.__call__" ⟨.ref C::us,kw⟩)) outer s H:=⟨by first | exact e.frames | (simpa [Around.under,Code.envs,Code.isFrame,pushEnvs] using e.frames),e.mod,e.bs,e.bsz,e.funs,e.frf,e.hok,e.bare⟩
section
variable {X:Cx} {pins:List (Addr × Obj)} {σ:St} {H:Hp} {s s':Shared}
theorem Inv.env0 (I:Inv X pins σ H s):zkK X.prog X.w X.K X.mg X.base X.A X.stack s H :=
 ⟨I.ok.frames,I.ok.mod,I.bs,zoM I.ok.bsz I.sz,I.stack,I.stkFree,I.hok,I.bare⟩
theorem Inv.after {Q:VK} {u:Value} (I:Inv X pins σ H s) (h:CE X.stack X.prog X.w H s Q u s'):EP X pins σ Q u s':=by
 obtain⟨v,H',os,bare,un,hok,r,q⟩:=h;obtain⟨hh,g,d,t,os'⟩:=s';obtain rfl:os'=s.os:=os;exact⟨v,H',I.call (h':=hh) (g':=g) (d':=d) (t':=t) (ch:=[]) un hok bare (fun b z=>absurd z (by simp)),r,q⟩
end
def znl (sp:Sp) (dvs:List V) (E:XK) (t:TA):TE:=fun σ H Q=>t σ H fun vs H1=>sp (vs++dvs) H1 Q E
def znp (C:Addr) (m:Str) (sp:Sp) (dvs:List V) (E:XK) (ta:TE) (t:TA):TE:=fun σ H Q=>ta σ H fun x H1=>∃ a dx fs,x=.ref a/\H1 a=some (.ins C dx fs)/\fs.lookup m=none /\
 t σ H1 fun vs H2=>sp (x::(vs++dvs)) H2 Q E
def zor (C:Addr) (sp:Sp) (dvs:List V) (E:XK) (t:TA):TE:=fun σ H Q=>t σ H fun vs H1=>∀ x dx,H1 x=none->H1 dx=none->dx≠x ->
 sp (.ref x::(vs++dvs)) (upd (upd H1 dx (.own x)) x (.ins C dx [])) (fun v H2=>v=.non/\Q (.ref x) H2) E
def zaG (K:PySem.W.Frag) (fd:FuncData) (ps:List Str) (ds:List Value):Prop :=
 ∀ (s:Shared) (us:List Value),K.In s.heap->(us++ds).length=ps.length->BindsTo s fd ⟨us,[]⟩ (ps.zip (us++ds))
theorem zaG.all {K:PySem.W.Frag} {fd:FuncData} {ps:List Str} (h:∀ us:List Value,us.length=ps.length->bindArgs fd ⟨us,[]⟩=pure (ps.zip us)):zaG K fd ps []:=fun s us _ hl=>by
 rw [zoJ] at hl ⊢;exact .of_eq (h us hl)
def zc5 (CX:CXT) (X:Cx) (E:XK):Prop:=∀ (pins:List (Addr × Obj)) (σ:St) (H:Hp) (s:Shared) (e:Value) (s':Shared),Inv X pins σ H s->CX X.stack H s E e s'->X.xe e s'
section
variable {X:Cx} {CX:CXT} {k:Nat} {f C:Addr} {fd:FuncData} {ps:List Str} {sp:Sp} {dvs:List V} {ds:List Value} {E:XK} {x m:Str} {p pos apos:Pos} {e o:Expr} {es:List Expr} {ta:TE} {t:TA}
theorem zgS {pins:List (Addr × Obj)} {σ:St} {H:Hp} {s:Shared} {Q:VK} {us:List Value} {vs:List V} (F:zbr X.prog X.w X.K X.mg X.base CX k f fd ps sp) (hr:zcq k X.A) (hb:zaG X.K fd ps ds) (hd:zaU dvs ds) (hx:zc5 CX X E)
  (I:Inv X pins σ H s) (r:zaU vs us) (h:sp (vs++dvs) H Q E):wpAny (model X.prog X.w) X.A (call (.ref f) us) (EP X pins σ Q) X.xe s:=by
 have r2:zaU (vs++dvs) (us++ds):=r.append hd;have hl:(us++ds).length=ps.length:=by rw [← r2.length];exact F.len _ _ _ _ h
 refine wpAny_call (codeAny_mono (F.run X.A X.stack s H ⟨us,[]⟩ (us++ds) (vs++dvs) Q E hr I.env0 (hb s us I.kIn hl) r2 h) fun r s' hq=>?_);cases r with
 | error e=>exact hx pins σ H s e s' I hq
 | ok fl =>
  cases fl with
  | ret u=>exact I.after hq
  | next=>exact False.elim hq
  | brk=>exact False.elim hq
  | cont=>exact False.elim hq
theorem zah (F:zbr X.prog X.w X.K X.mg X.base CX k f fd ps sp) (hr:zcq k X.A) (hg:Gl X x) (hm:X.mg x=some (.ref f)) (hk:PySem.W.keepIn X.K (.ref f)=true) (hb:zaG X.K fd ps ds) (hd:zaU dvs ds) (hx:zc5 CX X E)
  (ha:PA X (e::es) t) (hdb:(x == ("__debug__":Str))=false:=by decide) (he:starEach (e::es) X.env=(false,eval e X.env)::starEach es X.env:=by rfl) (hpl:(backTo pos (starEach es X.env)).any (·.1)=false:=by rfl) :
  PE X (.Call (.Name x p) (e::es) [] pos) (znl sp dvs E t):=by
 intro pins s σ H Q I h;refine wpAny_Call_Name_kw (zdH I hg hm ?_ hdb);refine PySem.W.callWith_K (h₀:=X.base) I.ok.mod.kin hk (thn (ha pos pins s σ H _ I h) fun us s1 ⟨vs,H1,I1,r,q⟩=>⟨I1.kIn,?_⟩) he hpl;exact zgS F hr hb hd hx I1 r q
theorem zjG (F:zbr X.prog X.w X.K X.mg X.base CX k f fd ps sp) (hr:zcq k X.A) (hg:Gl X x) (hm:X.mg x=some (.ref f)) (hk:PySem.W.keepIn X.K (.ref f)=true) (hb:zaG X.K fd ps ds) (hd:zaU dvs ds) (hx:zc5 CX X E)
  (hdb:(x == ("__debug__":Str))=false:=by decide):PE X (.Call (.Name x p) [] [] pos) (znl sp dvs E zot):=by
 intro pins s σ H Q I h;refine wpAny_Call_Name_kw (zdH I hg hm ?_ hdb);exact PySem.W.callWith_K0 I.kIn hk (zgS (us:=[]) F hr hb hd hx I .nil h)
theorem zlx {pl:Sem Bool} (he:PE X o ta) (c:Cls X.K C) (hm:zj7 X.K C m f) (F:zbr X.prog X.w X.K X.mg X.base CX k f fd ps sp) (hr:zcq k X.A) (hb:zaG X.K fd ps ds) (hd:zaU dvs ds) (hx:zc5 CX X E) (ha:PA X (e::es) t)
  (hst:starEach (e::es) X.env=(false,eval e X.env)::starEach es X.env:=by rfl) (hpl:(backTo pos (starEach es X.env)).any (·.1)=false:=by rfl)
  (ht:eval (.Call (.Attribute o m apos) (e::es) [] pos) X.env=(do
   let ov ← eval o X.env
   standAt apos.atName
   let (f,first) ← holding [ov] (getMethod ov m pl)
   callWith pos f first (backTo pos (starEach (e::es) X.env)) (backToKw pos (keywordEach [] X.env))):=by rfl) :
  PE X (.Call (.Attribute o m apos) (e::es) [] pos) (znp C m sp dvs E ta t):=by
 intro pins s σ H Q I h;refine PySem.W.methodCall_KW (pl:=pl) (thn (he pins s σ H _ I h) fun u s1 ⟨x,H1,I1,rx,a,dx,fs,ex,ea,l,q⟩=>?_) ht;subst ex;obtain rfl:u=Value.ref a:=rx;refine zee I1 ea c hm l ?_;refine PySem.W.callWith_K (first:=[.ref a]) (h₀:=X.base) I.ok.mod.kin hm.kp (thn (ha pos pins s1 σ H1 _ I1 q) fun us s2 ⟨vs,H2,I2,r,q2⟩=>⟨I2.kIn,?_⟩) hst hpl;exact zgS (us:=.ref a::us) (vs:=.ref a::vs) F hr hb hd hx I2 (.cons rfl r) q2
theorem za4 {pl:Sem Bool} (he:PE X o ta) (c:Cls X.K C) (hm:zj7 X.K C m f) (F:zbr X.prog X.w X.K X.mg X.base CX k f fd ps sp) (hr:zcq k X.A) (hb:zaG X.K fd ps ds) (hd:zaU dvs ds) (hx:zc5 CX X E)
  (ht:eval (.Call (.Attribute o m apos) [] [] pos) X.env=(do
   let ov ← eval o X.env
   standAt apos.atName
   let (f,first) ← holding [ov] (getMethod ov m pl)
   callWith pos f first (backTo pos (starEach [] X.env)) (backToKw pos (keywordEach [] X.env))):=by rfl) :
  PE X (.Call (.Attribute o m apos) [] [] pos) (znp C m sp dvs E ta zot):=by
 intro pins s σ H Q I h;refine PySem.W.methodCall_KW (pl:=pl) (thn (he pins s σ H _ I h) fun u s1 ⟨x,H1,I1,rx,a,dx,fs,ex,ea,l,q⟩=>?_) ht;subst ex;obtain rfl:u=Value.ref a:=rx;refine zee I1 ea c hm l ?_;exact PySem.W.callWith_K0 (first:=[.ref a]) I1.kIn hm.kp (zgS (us:=[.ref a]) (vs:=[.ref a]) F hr hb hd hx I1 (.cons rfl .nil) q)
structure Mk (K:PySem.W.Frag) (C f:Addr):Prop where
 makes:PySem.W.makesIn K C=true
 init:PySem.W.findIn K (.ref C) "__init__"=some (some (.ref f))
 fn:PySem.W.isFn K (.ref f)=true
 kp:PySem.W.keepIn K (.ref C)=true
theorem zjV {pins:List (Addr × Obj)} {σ:St} {H:Hp} {s:Shared} {Q:VK} {us:List Value} {vs:List V} (M:Mk X.K C f) (F:zbr X.prog X.w X.K X.mg X.base CX k f fd ps sp) (hr:zcq (k+1) X.A) (hb:zaG X.K fd ps ds) (hd:zaU dvs ds)
  (hx:zc5 CX X E) (I:Inv X pins σ H s) (r:zaU vs us)
  (h:∀ x dx,H x=none->H dx=none->dx≠x->sp (.ref x::(vs++dvs)) (upd (upd H dx (.own x)) x (.ins C dx [])) (fun v H2=>v=.non/\Q (.ref x) H2) E) :
  wpAny (model X.prog X.w) X.A (call (.ref C) us) (EP X pins σ Q) X.xe s:=by
 have hq:=h (s.heap.objs.size+1) s.heap.objs.size (I.hok.fresh (Nat.le_succ _)) (I.hok.fresh (zoN _)) (zph (Nat.lt_succ_self _));have I2:=Inv.made (C:=C) I;have r2:zaU (V.ref (s.heap.objs.size+1)::(vs++dvs)) (Value.ref (s.heap.objs.size+1)::(us++ds)):=.cons rfl (r.append hd);have hl:(Value.ref (s.heap.objs.size+1)::us++ds).length=ps.length:=by
  have e:=r2.length;rw [F.len _ _ _ _ hq] at e;exact e.symm
 refine wpAny_call (zjv (f:=f) I.kIn M.makes M.init (beq_iff_eq.mp M.fn) (codeAny_mono (F.run _ X.stack _ _ ⟨Value.ref (s.heap.objs.size+1)::us,[]⟩ (Value.ref (s.heap.objs.size+1)::(us++ds)) _ _ E (hr.make C us [])
  (I2.env0.make C us []) (hb _ (Value.ref (s.heap.objs.size+1)::us) I2.kIn hl) r2 hq) fun r s' hq'=>?_))
 cases r with
 | error e=>exact hx pins σ _ _ e s' I2 hq'
 | ok fl =>
  cases fl with
  | ret u =>
   obtain⟨v,H',I3,rv,ev,q3⟩:=I2.after hq';subst ev;exact⟨rv,⟨V.ref (s.heap.objs.size+1),H',I3,rfl,q3⟩⟩
  | next=>exact False.elim hq'
  | brk=>exact False.elim hq'
  | cont=>exact False.elim hq'
theorem zlw (M:Mk X.K C f) (F:zbr X.prog X.w X.K X.mg X.base CX k f fd ps sp) (hr:zcq (k+1) X.A) (hg:Gl X x) (hm:X.mg x=some (.ref C)) (hb:zaG X.K fd ps ds) (hd:zaU dvs ds) (hx:zc5 CX X E)
  (ha:PA X (e::es) t) (hdb:(x == ("__debug__":Str))=false:=by decide) (he:starEach (e::es) X.env=(false,eval e X.env)::starEach es X.env:=by rfl) (hpl:(backTo pos (starEach es X.env)).any (·.1)=false:=by rfl) :
  PE X (.Call (.Name x p) (e::es) [] pos) (zor C sp dvs E t):=by
 intro pins s σ H Q I h;refine wpAny_Call_Name_kw (zdH I hg hm ?_ hdb);refine PySem.W.callWith_K (h₀:=X.base) I.ok.mod.kin M.kp (thn (ha pos pins s σ H _ I h) fun us s1 ⟨vs,H1,I1,r,q⟩=>⟨I1.kIn,?_⟩) he hpl;exact zjV M F hr hb hd hx I1 r q
end
section
variable {X:Cx} {CX:CXT} {k:Nat} {f C:Addr} {fd:FuncData} {ps ks:List Str} {sp:Sp} {E:XK} {x m:Str} {p pos apos kpos:Pos} {e o:Expr} {es:List Expr} {kws:List Keyword} {te ta:TE} {t tk:TA} {nm:Option Str}
variable {g:List Value->List Value->List Value} {gV:List V->List V->List V}
end
structure zar (N P:List Str) (sc:Scope):Prop where
 kind:sc.kind=.function
 co:sc.isCoroutine=false
 gen:sc.isGenerator=false
 nd:N.Nodup
 pre:N.take P.length=P
 par:∀ x∈P,sc.names.lookup x=some .local\/sc.names.lookup x=some .cell
 nofree:∀ y∈sc.names,y.2≠.free
theorem zfi {kindOf:Str->Option NameKind} {x:Str}:∀ {binds:List (Str × Value)} {m:Str->Option Value},(∀ v,(x,v) ∉ binds)->bindL kindOf binds m x=m x
 | [],_,_=>rfl
 | (n,v)::r,m,h=>by
  unfold bindL;rw [zfi fun w hw=>h w (zoQ _ hw)];split
  ·have:x≠n:=by rintro rfl;exact h v zo6
   simp [this]
  ·rfl
theorem zfg {kindOf:Str->Option NameKind} {x:Str}:∀ {binds:List (Str × Value)} {m:Str->Option Value},(∀ v,(x,v) ∉ binds)->bindC kindOf binds m x=m x
 | [],_,_=>rfl
 | (n,v)::r,m,h=>by
  unfold bindC;rw [zfg fun w hw=>h w (zoQ _ hw)];split
  ·rfl
  ·have:x≠n:=by rintro rfl;exact h v zo6
   simp [this]
theorem zfh {kindOf:Str->Option NameKind} {x:Str} {v:Value}:∀ {P:List Str} {vs:List Value} {i:Nat} {m:Str->Option Value},P.Nodup->P[i]?=some x->vs[i]?=some v->kindOf x=some .local ->
  bindL kindOf (P.zip vs) m x=some v
 | [],_,_,_,_,h,_,_=>by simp at h
 | _::_,[],_,_,_,_,h,_=>by simp at h
 | p::P,w::vs,0,m,nd,h1,h2,hk=>by
  simp at h1 h2;subst h1;subst h2
  show bindL kindOf ((p,w)::P.zip vs) m p=_;unfold bindL;rw [zfi fun v hv=>(List.nodup_cons.mp nd).1 (List.of_mem_zip hv).1,zpc hk];simp
 | p::P,w::vs,i+1,m,nd,h1,h2,hk=>by
  show bindL kindOf ((p,w)::P.zip vs) m x=_;unfold bindL;exact zfh (i:=i) (List.nodup_cons.mp nd).2 (by simpa using h1) (by simpa using h2) hk
theorem zff {kindOf:Str->Option NameKind} {x:Str} {v:Value}:∀ {P:List Str} {vs:List Value} {i:Nat} {m:Str->Option Value},P.Nodup->P[i]?=some x->vs[i]?=some v->kindOf x≠some .local ->
  bindC kindOf (P.zip vs) m x=some v
 | [],_,_,_,_,h,_,_=>by simp at h
 | _::_,[],_,_,_,_,h,_=>by simp at h
 | p::P,w::vs,0,m,nd,h1,h2,hk=>by
  simp at h1 h2;subst h1;subst h2
  show bindC kindOf ((p,w)::P.zip vs) m p=_;unfold bindC;rw [zfg fun v hv=>(List.nodup_cons.mp nd).1 (List.of_mem_zip hv).1,zpb hk];simp
 | p::P,w::vs,i+1,m,nd,h1,h2,hk=>by
  show bindC kindOf ((p,w)::P.zip vs) m x=_;unfold bindC;exact zff (i:=i) (List.nodup_cons.mp nd).2 (by simpa using h1) (by simpa using h2) hk
def start (N:List Str) (vs:List V):St:=vs.map some++List.replicate (N.length-vs.length) none
def zhK (CX:CXT) (P:Program) (w:World) (K:PySem.W.Frag) (mg:Str->Option Value) (base:Heap) (N:List Str) (qual:Str) (scope:Scope) (f:Addr) (cd:Value) (A:Around) (outer:List Env) (s:Shared) (H:Hp) (E:XK):Cx where
 prog:=P
 w:=w
 K:=K
 mg:=mg
 base:=base
 A:=A.deeper (envOfC qual scope s.heap.objs.size f cd)
 N:=N
 s₀:=s
 H₀:=H
 env:=envOfC qual scope s.heap.objs.size f cd
 outer:=outer
 stack:=envOfC qual scope s.heap.objs.size f cd::outer
 ex:=[]
 calm:=true
 fn:=fun _=>true
 pn:=[]
 xe:=fun e s'=>wpAny (model P w) (A.deeper (envOfC qual scope s.heap.objs.size f cd)) (leaving (envOfC qual scope s.heap.objs.size f cd) e) (fun _ s''=>CX outer H s E e s'') (fun e' s''=>CX outer H s E e' s'') s'
theorem zgp {sc:Scope} {n:Nat} {x:Str} (h:sc.names.lookup x=some .cell):∃ c,(cellsFrom n sc.names []).lookup x=some c:=by
 have q:=PySem.W.cellsFrom_some sc.names n [] (.inl h);exact Option.isSome_iff_exists.mp q
theorem zh3 {CX:CXT} {P:Program} {w:World} {K:PySem.W.Frag} {mg:Str->Option Value} {base:Heap} {N ps:List Str} {qual:Str} {scope:Scope} {f:Addr} {cd:Value} {A:Around} {outer:List Env} {s s1:Shared} {H:Hp} {E:XK} {us:List Value} {vs:List V}
  (S:zar N ps scope) (hd:A.handled=none) (e0:zkK P w K mg base A outer s H) (hl:vs.length=ps.length) (r:zaU vs us)
  (x:InCallC s s.heap.objs.size (bindL (envOfC qual scope s.heap.objs.size f cd).kindOf (ps.zip us) fun _=>none) (cellsFrom (s.heap.objs.size+1) scope.names []) (bindC (envOfC qual scope s.heap.objs.size f cd).kindOf (ps.zip us) fun _=>none) s1) :
  Inv (zhK CX P w K mg base N qual scope f cd A outer s H E) [] (start N vs) H s1:=by
 have hpl:ps.length<=N.length:=by have:=congrArg List.length S.pre;rw [zoW] at this;omega
 obtain⟨h1,tk,rfl,hk⟩:=x.done;have noA:∀ b:Addr,b ∉ (zhK CX P w K mg base N qual scope f cd A outer s H E).ex:=fun b z=>absurd (show b∈([]:List Addr) from z) (by simp)
 refine⟨⟨e0.mod,S.kind,rfl,rfl,zoN _,fun y z c h1 h2=>?_,fun y hy=>?_,fun y c _ h=>?_,fun _=>hd,Around.frames_deeper e0.frames,.inr ⟨rfl,rfl⟩,fun b z=>absurd z (noA b),e0.bs,e0.bsz,fun b _ _=>noA b,fun b z=>absurd z (noA b),e0.funs,e0.frf⟩,
  rfl,e0.bare,Un.kept hk,⟨_,x.toInCall.ns,fun i y v h1 h2 h3=>?_⟩,fun y c h=>⟨_,x.cell y c h⟩,e0.hok.fresh (zoN _),fun y c h=>?_,fun p hp=>absurd (show p∈([]:List (Addr × Obj)) from hp) (by simp),e0.hok.kept hk,?_⟩
 ·exact name_of_addr x.apart (PySem.mem_of_lookup h1) (PySem.mem_of_lookup h2)
 ·have hy:scope.names.lookup y=some .cell\/scope.names.lookup y=some .free:=hy;rcases hy with hy | hy
  ·exact zgp hy
  ·exact absurd rfl (S.nofree _ (PySem.mem_of_lookup hy))
 ·exact Nat.le_of_lt (x.above y c (PySem.mem_of_lookup h))
 ·have hi:i<vs.length:=by
   unfold start at h2;by_cases hi:i<vs.length
   ·exact hi
   ·rw [zo3 (by simpa using hi)] at h2;rw [List.getElem?_replicate] at h2;split at h2 <;> cases h2
  have ha:vs[i]?=some v:=by
   unfold start at h2;rw [zo2 (by simpa using hi),zoy] at h2;cases e:vs[i]? with
   | none=>rw [e] at h2;cases h2
   | some a=>rw [e] at h2;cases h2;rfl
  obtain⟨u,hu,rv⟩:=r.get ha;have hp:ps[i]?=some y:=by
   rw [← S.pre,List.getElem?_take_of_lt (by omega)];exact h1
  have ndP:ps.Nodup:=by rw [← S.pre];exact S.nd.sublist (List.take_sublist _ _)
  refine⟨u,rv,?_⟩;rcases S.par y (zoC hp) with k | k
  ·exact .inl ⟨k,zfh ndP hp hu k⟩
  ·obtain⟨c,e⟩:=zgp (n:=s.heap.objs.size+1) k;refine .inr ⟨.inl k,c,e,?_⟩;have q:=x.cell y c e;rw [zff ndP hp hu (by show scope.names.lookup y≠_;rw [k];decide)] at q;exact q
 ·exact e0.hok.fresh (Nat.le_of_lt (x.above y c (PySem.mem_of_lookup h)))
 ·unfold start;show _=N.length;rw [zoH,zox,List.length_replicate];omega
theorem zmw {CX:CXT} {P:Program} {w:World} {K:PySem.W.Frag} {mg:Str->Option Value} {base:Heap} {k:Nat} {f:Addr} {name qual:Str} {params:Arguments} {body:List Stmt} {scope:Scope} {dV kV doc pm cdv ct oc:Value} {an od:Option Addr}
  {osl:Array (Option Value)} {N ps:List Str} {sp:Sp} (lk:K.lookup f=some ⟨oc,od,.func (PySem.W.fnOf name qual params body scope dV kV doc pm an cdv ct),osl⟩) (hcd:PySem.W.codeIn K cdv qual=true) (S:zar N ps scope)
  (len:∀ vs H Q E,sp vs H Q E->vs.length=ps.length)
  (hbody:∀ (A:Around) (outer:List Env) (s:Shared) (H:Hp) (vs:List V) (Q:VK) (E:XK),zcq k (A.deeper (envOfC qual scope s.heap.objs.size f cdv))->sp vs H Q E ->
   ∃ t,PSs (zhK CX P w K mg base N qual scope f cdv A outer s H E) body t/\t { nx:=fun _ H'=>Q .non H',rt:=Q } (start N vs) H) :
  zbr P w K mg base CX (k+1) f (PySem.W.fnOf name qual params body scope dV kV doc pm an cdv ct) ps sp:=by
 refine⟨len,fun A outer s H args us vs Q E hr e0 hb r hsp=>?_⟩;have hl:=len _ _ _ _ hsp;have KX:K.In s.heap:=e0.mod.kin.keeps fun b o e=>(e0.bs b o e).1
 have lim:s.heap.NoLimit:=e0.mod.nolimit.keeps fun b o e=>(e0.bs b o e).1
 have hkind:∀ y∈ps.zip us,scope.names.lookup y.1=some .local\/(scope.names.lookup y.1=some .cell/\((cellsFrom (s.heap.objs.size+1) scope.names []).lookup y.1).isSome=true):=fun ⟨n,v⟩ hy=>by
  rcases S.par n (List.of_mem_zip hy).1 with q | q
  ·exact .inl q
  ·exact .inr ⟨q,PySem.W.cellsFrom_some _ _ _ (.inl q)⟩
 refine codeAny_call_function hr.depth (KX _ _ lk) rfl S.co S.gen rfl (PySem.W.codeRec_of KX hcd) (hb _ _ _ _ ?_);refine wpAny_newFunctionEnv_cells S.kind hkind fun env he s1 x=>?_
 subst he;refine⟨lim.keeps x.toInCall.keep,codeAny_func ?_⟩;obtain⟨t,ht,hq⟩:=hbody A outer s H vs Q E (hr.deeper _) hsp;have I:Inv (zhK CX P w K mg base N qual scope f cdv A outer s H E) [] (start N vs) H s1:=zh3 S hr.hd e0 hl r x;refine wpAny_mono (ht [] s1 (start N vs) H _ I hq) (fun fl s' hs=>?_) fun e s' hs=>hs
 have fin:∀ {σ':St} {H':Hp} {v:V} {u:Value},Inv (zhK CX P w K mg base N qual scope f cdv A outer s H E) [] σ' H' s'->zaO v u->Q v H'->CE outer P w H s Q u s' :=
  fun {σ' H' v u} J rv q=>⟨v,H',J.os,J.bare,J.base,J.hok,rv,q⟩
 cases fl with
 | ret u =>
  obtain⟨v,σ',H',J,rv,q⟩:=hs;exact fin J rv q
 | next =>
  obtain⟨σ',H',J,q⟩:=hs;exact fin (v:=V.non) (u:=Value.none) J rfl q
 | brk =>
  obtain⟨_,_,_,q⟩:=hs;exact False.elim q
 | cont =>
  obtain⟨_,_,_,q⟩:=hs;exact False.elim q
section
variable {X:Cx} {x:Str} {p pos:Pos} {e:Expr} {es:List Expr} {t:TA} {id T:String} {r:List V->Hp->VK->Prop}
def tCB (r:List V->Hp->VK->Prop) (t:TA):TE:=fun σ H Q=>t σ H fun vs H1=>r vs H1 Q
theorem zaD (hc:zbu X (.builtin id) r) (hg:Gl X x) (hm:X.mg x=none) (hv:bootBuiltins x=some (.builtin id)) (ha:PA X (e::es) t) (hn:x≠"__name__":=by decide) (hdb:(x == ("__debug__":Str))=false:=by decide)
  (he:starEach (e::es) X.env=(false,eval e X.env)::starEach es X.env:=by rfl) (hpl:(backTo pos (starEach es X.env)).any (·.1)=false:=by rfl):PE X (.Call (.Name x p) (e::es) [] pos) (tCB r t):=by
 intro pins s σ H Q I h;refine wpAny_Call_Name_kw (zeh I hg hm hv ?_ hn hdb);exact PyProof.Rows.callWith_builtin1 (thn (ha pos pins s σ H _ I h) fun us s1 ⟨vs,H1,I1,r1,q1⟩=>hc pins s1 σ H1 vs us Q I1 r1 q1) he hpl
theorem zcK (hc:zbu X (.type T) r) (hg:Gl X x) (hm:X.mg x=none) (hv:bootBuiltins x=some (.type T)) (ha:PA X (e::es) t) (hn:x≠"__name__":=by decide) (hdb:(x == ("__debug__":Str))=false:=by decide)
  (he:starEach (e::es) X.env=(false,eval e X.env)::starEach es X.env:=by rfl) (hpl:(backTo pos (starEach es X.env)).any (·.1)=false:=by rfl):PE X (.Call (.Name x p) (e::es) [] pos) (tCB r t):=by
 intro pins s σ H Q I h;refine wpAny_Call_Name_kw (zeh I hg hm hv ?_ hn hdb);exact PyProof.Rows.callWith_type1 (thn (ha pos pins s σ H _ I h) fun us s1 ⟨vs,H1,I1,r1,q1⟩=>hc pins s1 σ H1 vs us Q I1 r1 q1) he hpl
end
end L2
namespace HT
open PySem PyProof.Rows
section
open PySem.SeqAt
open PySem.AutoSeq1 (wpAny_loadPart')
open PySem.MeetsSeq PySem.MeetsSeq2 PySem.MeetsSeq3
end
section
variable {prog:Program} {w:World} {A:Around} {E:Value->Shared->Prop} {s:Shared}
def sIx (n d:Nat):Option Int->Nat
 | none=>d
 | some v=>if v<0 then (v+(n:Int)).toNat else min v.toNat n
theorem sIx_nat (n d k:Nat):sIx n d (some (k:Int))=min k n:=by
 show (if (k:Int)<0 then ((k:Int)+(n:Int)).toNat else min (k:Int).toNat n)=min k n;rw [zpb (by omega),Int.toNat_natCast]
end
end HT
namespace L2
open PySem PySem.Spec PyProof.Rows
abbrev TO:=St->Hp->(Option Int->Hp->Prop)->Prop
def PO (X:Cx) (e:Option Expr) (t:TO):Prop :=
 ∀ (pins:List (Addr × Obj)) (s:Shared) (σ:St) (H:Hp) (Q:Option Int->Hp->Prop),Inv X pins σ H s->t σ H Q ->
  wpAny (model X.prog X.w) X.A (evalPart e X.env) (fun u s'=>∃ o H',Inv X pins σ H' s'/\IsPart u o/\Q o H') X.xe s
def zlZ:TO:=fun _ H Q=>Q none H
section
variable {X:Cx} {e:Expr} {te:TE} {lo hi:Option Expr} {tl th:TO} {pos p2:Pos}
theorem zlE:PO X none zlZ:=by
 intro pins s σ H Q I h;rw [evalPart_none];exact wpAny_pure ⟨none,H,I,.none,h⟩
def SlR (X:Cx) (r:V->Option Int->Option Int->Hp->VK->Prop):Prop :=
 ∀ (pins:List (Addr × Obj)) (s:Shared) (σ:St) (H:Hp) (x:V) (v vl vu:Value) (lo hi:Option Int) (sl:Addr) (Q:VK),Inv X pins σ H s->zaO x v->s.heap.IsSliceOf sl vl vu .none->IsPart vl lo->IsPart vu hi->r x lo hi H Q ->
  ∃ T id,typeLookup (.type T) "__getitem__"=pure (some (.builtin id))/\s.TypeIs v T/\wpAny (model X.prog X.w) X.A (getItem v (.ref sl)) (EP X pins σ Q) X.xe s
def tSl (r:V->Option Int->Option Int->Hp->VK->Prop) (te:TE) (tl th:TO):TE:=fun σ H Q=>te σ H fun x H1=>tl σ H1 fun l H2=>th σ H2 fun u H3=>r x l u H3 Q
theorem zjN {r:V->Option Int->Option Int->Hp->VK->Prop} (hr:SlR X r) (he:PE X e te) (hl:PO X lo tl) (hu:PO X hi th):PE X (.Subscript e (.Slice lo hi none p2) pos) (tSl r te tl th):=by
 intro pins s σ H Q I h;refine Subscript_ (thn (he pins s σ H _ I h) fun v s1 ⟨x,H1,I1,r1,q1⟩=>?_);refine wpAny_Slice (thn (hl pins s1 σ H1 _ I1 q1) fun vl s2 ⟨l,H2,I2,pl,q2⟩=>thn (hu pins s2 σ H2 _ I2 q2) fun vu s3 ⟨u,H3,I3,pu,q3⟩=>?_);rw [evalPart_none];refine wpAny_pure ?_;have I4:Inv X pins σ H3 { s3 with heap:=s3.heap.push { cls:=.type "slice",data:=.fields #[vl,vu,.none] } }:=I3.kept (t':=s3.toks) fun b ob q=>zoK _ q
 obtain⟨T,id,hT,ht,hg⟩:=hr pins { s3 with heap:=s3.heap.push { cls:=.type "slice",data:=.fields #[vl,vu,.none] } } σ H3 x v vl vu l u s3.heap.objs.size Q I4 r1 (Heap.IsSliceOf.new ..) pl pu q3;show wpAny (model X.prog X.w) X.A (subscriptTail e (.Slice lo hi none p2) v (.ref s3.heap.objs.size)) (EP X pins σ Q) X.xe { s3 with heap:=s3.heap.push { cls:=.type "slice",data:=.fields #[vl,vu,.none] } };exact tail_any (ops:=[.ref s3.heap.objs.size,v]) ht hT hg (by with_unfolding_all rfl)
def zkT (xs:List V) (lo hi:Option Int):List V:=(xs.drop (HT.sIx xs.length 0 lo)).take (HT.sIx xs.length xs.length hi-HT.sIx xs.length 0 lo)
theorem zfY (xs:List V) (lo hi:Option Int):(zkT xs lo hi).length<=xs.length:=by
 unfold zkT;rw [zoW,List.length_drop];omega
end
def ixN (n:Nat) (i:Int):Option Nat:=if 0<=i then (if i<n then some i.toNat else none) else if -(n:Int)<=i then some (i+n).toNat else none
def atI {α:Type} (xs:List α) (i:Int):Option α:=(ixN xs.length i).bind fun j=>xs[j]?
theorem zh5 {n:Nat} {i:Int} {j:Nat} (h:ixN n i=some j):seqIndex? i n=some j/\j<n/\-(n:Int)<=i/\i<n:=by
 unfold ixN at h;by_cases h0:0<=i
 ·rw [zpc h0] at h;by_cases h1:i<n
  ·rw [zpc h1] at h;have e:i.toNat=j:=zpk h;exact⟨by rw [seqIndex_of h0 h1,e],by omega,by omega,h1⟩
  ·rw [zpb h1] at h;cases h
 ·rw [zpb h0] at h;by_cases h1:-(n:Int)<=i
  ·rw [zpc h1] at h;have e:(i+n).toNat=j:=zpk h;exact⟨by rw [seqIndex_neg (by omega) h1,e],by omega,h1,by omega⟩
  ·rw [zpb h1] at h;cases h
theorem zhD {α:Type} {xs:List α} {i:Int} {v:α} (h:atI xs i=some v):∃ j,seqIndex? i xs.length=some j/\xs[j]?=some v/\j<xs.length/\-(xs.length:Int)<=i/\i<xs.length:=by
 unfold atI at h;cases e:ixN xs.length i with
 | none=>rw [e] at h;cases h
 | some j =>
  rw [e] at h;obtain⟨h1,h2,h3,h4⟩:=zh5 e;exact⟨j,h1,h,h2,h3,h4⟩
theorem zaC {α:Type} {xs:List α} {j:Nat} {v:α} (h:xs[j]?=some v):atI xs (j:Int)=some v:=by
 have hj:j<xs.length:=(zoB.mp h).1;have e:ixN xs.length (j:Int)=some j:=by
  unfold ixN;rw [zpc (by omega),zpc (by omega)];simp
 unfold atI;rw [e];exact h
def zkN (b:Expr):Prop:=∀ o i,subscripted b false o i=operate [o,i] (getItem o i)
def IxR (X:Cx) (r:R2):Prop :=
 ∀ (value slice:Expr) (pins:List (Addr × Obj)) (s:Shared) (σ:St) (H:Hp) (x y:V) (v u:Value) (Q:VK),Inv X pins σ H s->zaO x v->zaO y u->r x y H Q ->
  subscripted slice false v u=operate [v,u] (getItem v u)->wpAny (model X.prog X.w) X.A (subscriptTail value slice v u) (EP X pins σ Q) X.xe s
def MtR (X:Cx) (id:String) (r:V->List V->Hp->VK->Prop):Prop :=
 ∀ (pins:List (Addr × Obj)) (s:Shared) (σ:St) (H:Hp) (x:V) (xs:List V) (v:Value) (us:List Value) (Q:VK),Inv X pins σ H s->zaO x v->zaU xs us->r x xs H Q ->
  wpAny (model X.prog X.w) X.A (call (.builtin id) (v::us)) (EP X pins σ Q) X.xe s
section
variable {X:Cx} {a b:Expr} {ta tb:TE} {pos:Pos}
theorem zax {r:R2} (hr:IxR X r) (ha:PE X a ta) (hb:PE X b tb) (hs:zkN b):PE X (.Subscript a b pos) (tOp r ta tb):=by
 intro pins s σ H Q I h;exact Subscript_ (znK ha hb I h fun v u s2 x y H2 I2 rx ry q=>hr a b pins s2 σ H2 x y v u Q I2 rx ry q (hs _ _))
def rIxL (K:PySem.W.Frag):R2:=fun x y H Q=>∃ p xs i v,x=.ref p/\y=.int i/\SqL K H p xs/\atI xs i=some v/\Q v H
def rIxT (K:PySem.W.Frag):R2:=fun x y H Q=>∃ p xs i v,x=.ref p/\y=.int i/\SqT K H p xs/\atI xs i=some v/\Q v H
theorem zld:IxR X (rIxL X.K):=by
 intro value slice pins s σ H x y v u Q I rx ry h hs;obtain⟨p,xs,i,z,rfl,rfl,hq,he,q⟩:=h;cases rx;obtain⟨t,rfl⟩:=ry;obtain⟨its,r,pl,hz⟩:=I.list hq;obtain⟨j,h1,h2,h3,h4,h5⟩:=zhD he;obtain⟨w,ew,rw'⟩:=r.get h2;have hl:=r.length;have hn:=zgD;have fin:EP X pins σ Q w s:=⟨z,H,I,rw',q⟩;by_cases h0:0<=i
 ·have hj:i.toNat=j:=by
   rw [seqIndex_of h0 h5] at h1;exact zpk h1
  exact item_listR pl.isList h0 (by omega) (by rw [hj];simpa using ew) fin hs
 ·have hj:(i+(its.toArray.size:Int)).toNat=j:=by
   rw [seqIndex_neg (by omega) h4] at h1;rw [zo9,← hl];exact zpk h1
  exact subscriptTail_builtinR (x:=w) pl.isList.typeIs slot_list_getitem.lookup
   (wpAny_getItem_list_neg (Q:=fun r s'=>r=w/\EP X pins σ Q r s') pl.isList (by omega) (by rw [zo9] <;> omega) (by omega) (by rw [hj];simpa using ew) ⟨rfl,fin⟩) hs
theorem zmC:IxR X (rIxT X.K):=by
 intro value slice pins s σ H x y v u Q I rx ry h hs;obtain⟨p,xs,i,z,rfl,rfl,hq,he,q⟩:=h;cases rx;obtain⟨t,rfl⟩:=ry;obtain⟨its,r,pl,hz⟩:=I.tuple hq;obtain⟨j,h1,h2,h3,h4,h5⟩:=zhD he;obtain⟨w,ew,rw'⟩:=r.get h2;have hl:=r.length;have hn:=zgD;have fin:EP X pins σ Q w s:=⟨z,H,I,rw',q⟩;exact subscriptTail_builtinR (x:=w) pl.typeIs slot_tuple_getitem.lookup
  (getItem_tuple (j:=j) (Q:=fun r s'=>r=w/\EP X pins σ Q r s') pl (by omega) (by omega) (by rw [zo9,← hl];exact h1) (by simpa using ew) ⟨rfl,fin⟩) hs
theorem zhj (its:List Value) (n j:Nat) (u:Value):Obj.mapSeq (·.setIfInBounds j u) { cls:=.type "list",data:=.seq its.toArray n }={ cls:=.type "list",data:=.seq (its.set j u).toArray n }:=by
 simp [Obj.mapSeq]
theorem Inv.lst {pins:List (Addr × Obj)} {σ:St} {H:Hp} {s:Shared} {p:Addr} {xs:List V} (I:Inv X pins σ H s) (h:H p=some (.lst xs)) :
  ∃ (its:List Value) (n:Nat),zaU xs its/\s.heap.get? p=some { cls:=.type "list",data:=.seq its.toArray n }/\xs.length<=sizeLine:=by
 obtain⟨z,its,n,r,e⟩:=I.hok p _ h;exact⟨its,n,r,e,z⟩
theorem Inv.lstUpd {pins:List (Addr × Obj)} {σ:St} {H:Hp} {s:Shared} {p:Addr} {xs ys:List V} {its its':List Value} {n n':Nat} {f:Obj->Obj} (I:Inv X pins σ H s) (h:H p=some (.lst xs))
  (ho:s.heap.get? p=some { cls:=.type "list",data:=.seq its.toArray n }) (hf:f { cls:=.type "list",data:=.seq its.toArray n }={ cls:=.type "list",data:=.seq its'.toArray n' }) (r:zaU ys its') (hz:ys.length<=sizeLine) (t:Nat) :
  Inv X pins σ (upd H p (.lst ys)) { s with heap:=s.heap.update p f,toks:=t }:=by
 have e:(s.heap.update p f).get? p=some { cls:=.type "list",data:=.seq its'.toArray n' }:=by
  rw [Heap.get?_update_self f ho (by rw [hf] <;> rfl),hf]
 refine I.write (x:=p) (e:=p) (by rw [h];trivial) (.inl rfl) (fun b u hb q=>(Heap.get?_update_other _ _ (Ne.symm hb)).trans q) ⟨_,e⟩ ?_;exact⟨hz,its',n',r,e⟩
def zoj:V->V->V->Hp->(Hp->Prop)->Prop:=fun o i v H Q=>∃ p xs k j,o=.ref p/\i=.int k/\H p=some (.lst xs)/\ixN xs.length k=some j/\Q (upd H p (.lst (xs.set j v)))
theorem zjX:zl4 X zoj:=by
 intro pins s σ H o i v ov iv u Q I ro ri rv h;obtain⟨p,xs,k,j,rfl,rfl,hp,hj,q⟩:=h;cases ro;obtain⟨t,rfl⟩:=ri;obtain⟨its,n,r,ho,hz⟩:=I.lst hp;obtain⟨h1,h2,h3,h4⟩:=zh5 hj;have hl:=r.length;have hn:=zgD;have I':Inv X pins σ (upd H p (.lst (xs.set j v))) { s with heap:=s.heap.update p (Obj.mapSeq (·.setIfInBounds j u)) } :=
  I.lstUpd hp ho (zhj its n j u) (r.set rv j) (by rw [zoV];exact hz) s.toks
 by_cases h0:0<=k
 ·have hk:k.toNat=j:=by
   rw [seqIndex_of h0 h4] at h1;exact zpk h1
  exact PySem.W.ki_setAt ho h0 (by omega) (by rw [zo9,← hl];exact h4) (by rw [hk];exact⟨_,I',q⟩)
 ·have hk:(k+(its.toArray.size:Int)).toNat=j:=by
   rw [seqIndex_neg (by omega) h3] at h1;rw [zo9,← hl];exact zpk h1
  exact PySem.W.ki_setBack ho (by omega) (by rw [zo9,← hl];exact h3) (by omega) (by rw [hk];exact⟨_,I',q⟩)
theorem zfK (lo hi:Option Int) (n:Nat):(sliceBounds lo hi none n).1=((HT.sIx n 0 lo:Nat):Int)/\(sliceBounds lo hi none n).2.1=((HT.sIx n n hi:Nat):Int)/\(sliceBounds lo hi none n).2.2=1:=by
 refine⟨?_,?_,rfl⟩
 ·cases lo with
  | none=>simp [sliceBounds,HT.sIx]
  | some i =>
   simp only [sliceBounds,HT.sIx,Option.getD_none,show (1:Int) > 0 by decide,if_true];by_cases h:i<0
   ·simp only [h,if_true] <;> omega
   ·simp only [h,if_false] <;> omega
 ·cases hi with
  | none=>simp [sliceBounds,HT.sIx]
  | some i =>
   simp only [sliceBounds,HT.sIx,Option.getD_none,show (1:Int) > 0 by decide,if_true];by_cases h:i<0
   ·simp only [h,if_true] <;> omega
   ·simp only [h,if_false] <;> omega
theorem zeY (its:List Value) (lo hi:Option Int):slicePick its.toArray lo hi none=((its.drop (HT.sIx its.length 0 lo)).take (HT.sIx its.length its.length hi-HT.sIx its.length 0 lo)).toArray:=by
 obtain⟨h1,h2,h3⟩:=zfK lo hi its.toArray.size;unfold slicePick;rw [h1,h2,h3];simp only [sliceRange_one,pick_run,zo9] <;> rfl
def rSlL (K:PySem.W.Frag):V->Option Int->Option Int->Hp->VK->Prop:=fun x lo hi H Q=>∃ a xs,x=.ref a/\SqL K H a xs/\∀ p,H p=none->Q (.ref p) (upd H p (.lst (zkT xs lo hi)))
theorem zlV:SlR X (rSlL X.K):=by
 intro pins s σ H x v vl vu lo hi sl Q I rx hs pl pu h;obtain⟨a,xs,rfl,hx,q⟩:=h;cases rx;obtain⟨its,r,ht,hz⟩:=I.list hx;have hlen:=r.length;refine⟨"list",_,slot_list_getitem.lookup,ht.isList.typeIs,?_⟩;refine wpAny_getItem_list_slice ht.isList hs pl pu .none (by simp) ?_ (by rw [zo9] <;> omega);rw [zeY,← hlen];refine⟨.ref s.heap.objs.size,_,I.laid (t':=s.toks) (o:=.lst (zkT xs lo hi)) (fun b ob q=>zoK _ q) (zoN _) ?_,rfl,q _ (I.hok.fresh (zoN _))⟩;exact⟨zoM (zfY xs lo hi) hz,_,0,(r.drop (HT.sIx xs.length 0 lo)).take (HT.sIx xs.length xs.length hi-HT.sIx xs.length 0 lo),zo8 _ rfl⟩
def zd1:V->Bool
 | .non=>true
 | .bl _=>true
 | .int _=>true
 | .str _=>true
 | _=>false
def eqV:V->V->Bool
 | .non,.non=>true
 | .bl a,.bl b=>a == b
 | .bl a,.int b=>(if a then 1 else 0) == b
 | .int a,.bl b=>a == (if b then 1 else 0)
 | .int a,.int b=>a == b
 | .str a,.str b=>a == b
 | _,_=>false
theorem zmt {A:Around} {s:Shared} {y x:V} {u v:Value} (ry:zaO y u) (rx:zaO x v) (fy:zd1 y=true) (fx:zd1 x=true):SeqAt.EqAt A s u v (eqV y x):=by
 cases y with
 | non =>
  cases ry;cases x with
  | non=>cases rx;exact SeqAt.EqAt.same _
  | bl b=>cases rx;exact SeqAt.EqAt.none_bool b
  | int b=>obtain⟨t,rfl⟩:=rx;exact SeqAt.EqAt.none_int b t
  | str b=>obtain⟨t,rfl⟩:=rx;exact SeqAt.EqAt.none_str b t
  | _=>exact absurd (show false=true from fx) zpj
 | bl a =>
  cases ry;cases x with
  | non=>cases rx;exact SeqAt.EqAt.bool_none a
  | bl b=>cases rx;exact SeqAt.EqAt.bool_bool a b
  | int b=>obtain⟨t,rfl⟩:=rx;exact SeqAt.EqAt.bool_int a b t
  | str b=>obtain⟨t,rfl⟩:=rx;exact SeqAt.EqAt.bool_str a b t
  | _=>exact absurd (show false=true from fx) zpj
 | int a =>
  obtain⟨t',rfl⟩:=ry;cases x with
  | non=>cases rx;exact SeqAt.EqAt.int_none a t'
  | bl b=>cases rx;exact SeqAt.EqAt.int_bool a t' b
  | int b=>obtain⟨t,rfl⟩:=rx;exact SeqAt.EqAt.int_int a t' b t
  | str b=>obtain⟨t,rfl⟩:=rx;exact SeqAt.EqAt.int_str a t' b t
  | _=>exact absurd (show false=true from fx) zpj
 | str a =>
  obtain⟨t',rfl⟩:=ry;cases x with
  | non=>cases rx;exact SeqAt.EqAt.str_none a t'
  | bl b=>cases rx;exact SeqAt.EqAt.str_bool a t' b
  | int b=>obtain⟨t,rfl⟩:=rx;exact SeqAt.EqAt.str_int a t' b t
  | str b=>obtain⟨t,rfl⟩:=rx;exact SeqAt.EqAt.str_str a t' b t
  | _=>exact absurd (show false=true from fx) zpj
 | _=>exact absurd (show false=true from fy) zpj
def eqU (x:V) (u:Value):Bool:=match u with
 | .none=>eqV .non x
 | .bool b=>eqV (.bl b) x
 | .int i _=>eqV (.int i) x
 | .str z _=>eqV (.str z) x
 | _=>false
theorem zko {x y:V} {u:Value} (r:zaO y u) (f:zd1 y=true):eqU x u=eqV y x:=by
 cases y with
 | non=>cases r;rfl
 | bl b=>cases r;rfl
 | int i=>obtain⟨t,rfl⟩:=r;rfl
 | str z=>obtain⟨t,rfl⟩:=r;rfl
 | _=>exact absurd (show false=true from f) zpj
theorem zfV {x:V}:∀ {xs:List V} {us:List Value},zaU xs us->xs.all zd1=true->us.any (eqU x)=xs.any fun y=>eqV y x
 | _,_,.nil,_=>rfl
 | y::xs,u::us,.cons r t,f=>by
  rw [List.all_cons,Bool.and_eq_true] at f;rw [List.any_cons,List.any_cons,zko r f.1,zfV t f.2]
theorem zeM {A:Around} {s:Shared} {x:V} {v:Value} (rx:zaO x v) (fx:zd1 x=true):∀ {xs:List V} {us:List Value},zaU xs us->xs.all zd1=true->∀ u∈us,SeqAt.EqAt A s u v (eqU x u)
 | _,_,.nil,_=>fun u hu=>by cases hu
 | y::xs,u::us,.cons r t,f=>fun u' hu=>by
  rw [List.all_cons,Bool.and_eq_true] at f;rcases zpg.mp hu with rfl | hu
  ·rw [zko r f.1];exact zmt r rx f.1 fx
  ·exact zeM rx fx t f.2 u' hu
def inV (x:V) (xs:List V):Bool:=xs.any fun y=>eqV y x
def rIn (K:PySem.W.Frag) (neg:Bool):R2:=fun x y H Q=>∃ p xs,y=.ref p/\(SqL K H p xs\/SqT K H p xs)/\zd1 x=true/\xs.all zd1=true/\Q (.bl (if neg then !inV x xs else inV x xs)) H
theorem zio:OpR X (compareOp .In) (rIn X.K false):=by
 intro pins s σ H x y v u Q I rx ry h;obtain⟨p,xs,rfl,hq,fx,fs,q⟩:=h;cases ry;rcases hq with hq | hq
 ·obtain⟨its,r,pl,hz⟩:=I.list hq;refine SeqAt.in_listAt (eqU x) pl.isList (fun w hw=>zeM rx fx r fs w (by simpa using hw)) ⟨.bl _,H,I,rfl,?_⟩;rw [show its.toArray.any (eqU x)=its.any (eqU x) by simp,zfV r fs];exact q
 ·obtain⟨its,r,pl,hz⟩:=I.tuple hq;refine SeqAt.in_tupleAt (eqU x) pl (fun w hw=>zeM rx fx r fs w (by simpa using hw)) ⟨.bl _,H,I,rfl,?_⟩;rw [show its.toArray.any (eqU x)=its.any (eqU x) by simp,zfV r fs];exact q
theorem zfk:zbu X (.builtin "len") (fun xs H Q=>∃ p ys,xs=[.ref p]/\(SqL X.K H p ys\/SqT X.K H p ys)/\Q (.int ys.length) H):=by
 intro pins s σ H xs us Q I r h;obtain⟨p,ys,rfl,hq,q⟩:=h;obtain⟨u,rfl,rx⟩:=zj2 r;cases rx;have hn:=zgD;rcases hq with hq | hq
 ·obtain⟨its,r',pl,hz⟩:=I.list hq;have hlen:=r'.length;exact Calls.call_len_list pl.isList (by simp only [zo9] <;> omega) ⟨.int ys.length,H,I.tok _,⟨s.toks+1,by rw [zo9,hlen]⟩,q⟩
 ·obtain⟨its,r',pl,hz⟩:=I.tuple hq;have hlen:=r'.length;exact len_tuple pl (by simp only [zo9] <;> omega) ⟨.int ys.length,H,I.tok _,⟨s.toks+1,by rw [zo9,hlen]⟩,q⟩
theorem zew:zbu X (.type "tuple") (fun xs H Q=>∃ p ys,xs=[.ref p]/\((SqL X.K H p ys/\∀ l,H l=none->Q (.ref l) (upd H l (.tup ys)))\/(SqT X.K H p ys/\Q (.ref p) H))):=by
 intro pins s σ H xs us Q I r h;obtain⟨p,ys,rfl,h⟩:=h;obtain⟨u,rfl,rx⟩:=zj2 r;cases rx;rcases h with ⟨hq,q⟩ | ⟨hq,q⟩
 ·obtain⟨its,r',pl,hz⟩:=I.list hq;have hlen:=r'.length;refine call_tuple_list pl.isList (fun h' kp=>?_) (by simp only [zo9] <;> omega);have I1:Inv X pins σ H { s with heap:=h' }:=I.kept (t':=s.toks) kp;have I2:Inv X pins σ (upd H h'.objs.size (.tup ys)) { s with heap:=h'.push { cls:=.type "tuple",data:=.seq its.toArray } } :=
   I1.laid (t':=s.toks) (fun b o e=>zoK _ e) (zoN _) (show zaV X.prog X.w _ _ _ (.tup ys) from ⟨hz,its,r',zcs.new _ _⟩)
  exact⟨.ref h'.objs.size,_,I2,rfl,q _ (I1.hok.fresh (zoN _))⟩
 ·obtain⟨its,r',pl,hz⟩:=I.tuple hq;exact call_tuple_same pl ⟨.ref p,H,I,rfl,q⟩
def tyV (K:PySem.W.Frag) (T:String) (x:V) (H:Hp):Prop:=match x with
 | .str _=>T="str"
 | .int _=>T="int"
 | .ref p=>(T="list"/\∃ xs,SqL K H p xs)\/(T="tuple"/\∃ o,K.lookup p=some o/\o.cls=.type "tuple"/\o.dict=none) \/
   (T="dict"/\((∃ kvs,H p=some (.dK kvs))\/∃ kvs,H p=some (.dT kvs)))\/(T="set"/\∃ S n,H p=some (.set S n))
 | _=>False
theorem zkG {pins:List (Addr × Obj)} {σ:St} {H:Hp} {s:Shared} {T:String} {x:V} {v:Value} (I:Inv X pins σ H s) (r:zaO x v) (ty:tyV X.K T x H) :
  s.TypeIs v T/\∀ a,v=.ref a->∃ ob,s.heap.get? a=some ob/\ob.dict=none:=by
 cases x with
 | str z =>
  obtain⟨t,rfl⟩:=r;cases (show T="str" from ty);exact⟨typeIs_str s z t,fun _ e=>nomatch e⟩
 | int i =>
  obtain⟨t,rfl⟩:=r;cases (show T="int" from ty);exact⟨typeIs_int s i t,fun _ e=>nomatch e⟩
 | ref p =>
  cases r;rcases ty with ⟨rfl,xs,hq⟩ | ⟨rfl,o,hk,hc,hd⟩ | ⟨rfl,hk⟩ | ⟨rfl,S,n,hk⟩
  ·obtain⟨its,_,pl,_⟩:=I.list hq;refine⟨pl.isList.typeIs,fun a e=>?_⟩;cases e;obtain⟨o,n,e,c,hd,_⟩:=pl;exact⟨o,e,hd⟩
  ·refine⟨⟨o,I.kIn p o hk,hc⟩,fun a e=>?_⟩;cases e;exact⟨o,I.kIn _ o hk,hd⟩
  ·have z:∃ o,s.heap.get? p=some o/\o.ExactDict:=by
    rcases hk with ⟨kvs,hk⟩ | ⟨kvs,hk⟩
    ·obtain⟨_,_,_,_,o,_,_,e,ex,_⟩:=I.hok p _ hk;exact⟨o,e,ex⟩
    ·obtain⟨_,_,_,_,o,_,_,e,ex,_⟩:=I.hok p _ hk;exact⟨o,e,ex⟩
   obtain⟨o,e,ex⟩:=z;refine⟨⟨o,e,ex.1⟩,fun a e2=>?_⟩;cases e2;exact⟨o,e,ex.2.1⟩
  ·obtain⟨o,_,_,_,e,ex,_⟩:=I.hok p _ hk;refine⟨⟨o,e,ex.1⟩,fun a e2=>?_⟩;cases e2;exact⟨o,e,ex.2.1⟩
 | _=>exact False.elim ty
def tBM0 (K:PySem.W.Frag) (T:String) (r:V->List V->Hp->VK->Prop) (to:TE):TE:=fun σ H Q=>to σ H fun x H1=>tyV K T x H1/\r x [] H1 Q
def tBM (K:PySem.W.Frag) (T:String) (r:V->List V->Hp->VK->Prop) (to:TE) (t:TA):TE:=fun σ H Q=>to σ H fun x H1=>tyV K T x H1/\t σ H1 fun xs H2=>r x xs H2 Q
variable {o e:Expr} {es:List Expr} {to:TE} {t:TA} {name:Str} {apos cpos:Pos} {T id:String} {r:V->List V->Hp->VK->Prop}
theorem zmX (pa:PlainAttrs T) (slot:Slot T name id) (hty:typeOf (.builtin id)=pure (.type "method_descriptor")) (hm:MtR X id r) (ho:PE X o to)
  (hbase:attributeBase o name X.env (eval o X.env)=eval o X.env:=by rfl) (hline:(apos.endLine == cpos.line)=true:=by rfl):PE X (.Call (.Attribute o name apos) [] [] cpos) (tBM0 X.K T r to):=by
 intro pins s σ H Q I h;refine wpAny_Call_method0_late hbase hline (thn (ho pins s σ H _ I h) fun v s1 ⟨x,H1,I1,r1,ty,q1⟩=>?_);obtain⟨h1,h2⟩:=zkG I1 r1 ty;exact⟨T,id,pa,slot,hty,h1,h2,Calls.callWith_builtin rfl (PySem.evalArgs_none (hm pins s1 σ H1 x [] v [] Q I1 r1 .nil q1))⟩
theorem zjF (pa:PlainAttrs T) (slot:Slot T name id) (hty:typeOf (.builtin id)=pure (.type "method_descriptor")) (hm:MtR X id r) (ho:PE X o to) (ha:PA X (e::es) t)
  (hbase:attributeBase o name X.env (eval o X.env)=eval o X.env:=by rfl)
  (hfew:((backTo cpos (starEach (e::es) X.env)).all (fun x=>!x.1) && (backToKw cpos (keywordEach [] X.env)).all (fun x=>x.1.isSome)
   && decide ((e::es).length+([]:List Keyword).length+(if ([]:List Keyword).isEmpty then 0 else 1)<30))=true:=by rfl)
  (hline:(apos.endLine == cpos.line)=true:=by rfl) (hs:starEach (e::es) X.env=(false,eval e X.env)::starEach es X.env:=by rfl) (hplain:(backTo cpos (starEach es X.env)).any (·.1)=false:=by rfl) :
  PE X (.Call (.Attribute o name apos) (e::es) [] cpos) (tBM X.K T r to t):=by
 intro pins s σ H Q I h;refine wpAny_Call_method_late hbase hfew hline rfl (thn (ho pins s σ H _ I h) fun v s1 ⟨x,H1,I1,r1,ty,q1⟩=>?_);obtain⟨h1,h2⟩:=zkG I1 r1 ty;refine⟨T,id,pa,slot,hty,h1,h2,?_⟩;have hA:=ha cpos pins s1 σ H1 _ I1 q1;rw [hs] at hA ⊢;refine Calls.callWith_builtin (by show (false || (backTo cpos (starEach es X.env)).any (·.1))=false;rw [hplain] <;> rfl) (Calls.evalArgs_plain ?_)
 exact thn hA fun us s2 ⟨vs,H2,I2,r2,q2⟩=>hm pins s2 σ H2 x vs v us Q I2 r1 r2 q2
end
def MtM (X:Cx) (id:String) (r:V->List V->Hp->VK->Prop):Prop :=
 ∀ (pins:List (Addr × Obj)) (s:Shared) (σ:St) (H:Hp) (x:V) (xs:List V) (v:Value) (us:List Value) (Q:VK),Inv X pins σ H s->zaO x v->zaU xs us->r x xs H Q ->
  wpAny (model X.prog X.w) X.A (call (.builtin id) (v::us)) (EP X pins σ Q) X.xe s
theorem zaU.one:∀ {x:V} {us:List Value},zaU [x] us->∃ u,us=[u]/\zaO x u
 | _,_,.cons r .nil=>⟨_,rfl,r⟩
section
variable {X:Cx} {pins:List (Addr × Obj)} {σ:St} {H:Hp} {s:Shared} {l b:Addr} {xs ys zs:List V}
theorem Inv.lset {its its':List Value} {n:Nat} {f:Array Value->Array Value} {t':Nat} (I:Inv X pins σ H s) (hH:H l=some (.lst xs))
  (e:s.heap.get? l=some { cls:=.type "list",data:=.seq its.toArray n }) (hf:f its.toArray=its'.toArray) (hv:zaU ys its') (hz:ys.length<=sizeLine) :
  Inv X pins σ (upd H l (.lst ys)) { s with heap:=s.heap.update l (Obj.mapSeq f),toks:=t' }:=by
 have q:=PySem.IsL.update e f;rw [hf] at q;refine I.write (x:=l) (e:=l) (by rw [hH];exact trivial) (.inl rfl) (fun b' u hb hu=>(Heap.get?_update_other s.heap (Obj.mapSeq f) (Ne.symm hb)).trans hu) ⟨_,q⟩ ?_;exact⟨hz,its',_,hv,q⟩
theorem Inv.lnew {its:List Value} {t':Nat} (I:Inv X pins σ H s) (hv:zaU ys its) (hz:ys.length<=sizeLine) :
  Inv X pins σ (upd H s.heap.objs.size (.lst ys)) { s with heap:=s.heap.push { cls:=.type "list",data:=.seq its.toArray },toks:=t' } :=
 I.laid (fun _ _ q=>zoK _ q) (zoN _) ⟨hz,its,0,hv,zo8 _ rfl⟩
theorem Inv.fresh (I:Inv X pins σ H s):H s.heap.objs.size=none:=I.hok.fresh (zoN _)
theorem Inv.lstM (I:Inv X pins σ H s) (hH:H l=some (.lst xs)):xs.length<=sizeLine/\∃ (its:List Value) (n:Nat),zaU xs its/\xs.length=its.length/\s.heap.get? l=some { cls:=.type "list",data:=.seq its.toArray n }:=by
 obtain⟨z,its,n,r,e⟩:=I.hok l _ hH;exact⟨z,its,n,r,r.length,e⟩
end
section
variable {X:Cx}
def ziH:V->List V->Hp->VK->Prop:=fun x vs H Q=>∃ l xs y,x=.ref l/\vs=[y]/\H l=some (.lst xs)/\xs.length<sizeLine/\Q .non (upd H l (.lst (xs++[y])))
theorem zig:MtM X "list.append" ziH:=by
 intro pins s σ H x vs v us Q I rx rv h;obtain⟨l,xs,y,rfl,rfl,hH,hz,q⟩:=h;cases rx;obtain⟨u,rfl,ru⟩:=rv.one;obtain⟨z,its,n,r,hl,e⟩:=I.lstM hH;refine call_meets F.slot_list_append ⟨_,e,rfl⟩ F.entry_list_append (F.args_list_append_2 _ _) (PySem.list_append l its.toArray n u (by rw [zo9];omega)) ⟨e,?_⟩;refine⟨.non,_,I.lset (its':=its++[u]) hH e (by simp) (r.append (.cons ru .nil)) ?_,rfl,q⟩;rw [zoH,List.length_singleton];omega
def rCat:R2:=fun x y H Q=>∃ l b xs zs,x=.ref l/\y=.ref b/\H l=some (.lst xs)/\H b=some (.lst zs)/\xs.length+zs.length<=sizeLine/\∀ p,H p=none->Q (.ref p) (upd H p (.lst (xs++zs)))
theorem zmP:OpR X (binaryOp .Add) rCat:=by
 intro pins s σ H x y v u Q I rx ry h;obtain⟨l,b,xs,zs,rfl,rfl,hH,hB,hz,q⟩:=h;cases rx;cases ry;obtain⟨z,its,n,r,hl,e⟩:=I.lstM hH;obtain⟨z2,its2,n2,r2,hl2,e2⟩:=I.lstM hB;refine PySem.P.add_list e e2 ?_ (by rw [zo9,zo9];omega);have ea:its.toArray++its2.toArray=(its++its2).toArray:=by simp
 rw [ea];exact⟨.ref _,_,I.lnew (t':=s.toks) (r.append r2) (by rw [zoH];omega),rfl,q _ I.fresh⟩
end
section
variable {prog:Program} {w:World} {A:Around} {E:Value->Shared->Prop} {s:Shared}
end
section
variable {X:Cx}
end
section
variable {κ:Type} [DecidableEq κ]
def zdi (kvs:List (κ × V)) (k:κ):Option V:=(kvs.find? fun kv=>decide (kv.1=k)).map (·.2)
def zfA (kvs:List (κ × V)) (k:κ) (v:V):List (κ × V) :=
 if (kvs.any fun kv=>decide (kv.1=k))=true then kvs.map (fun kv=>if kv.1=k then (kv.1,v) else kv) else kvs++[(k,v)]
def zf0 (kvs:List (κ × V)) (k:κ):List (κ × V):=kvs.filter fun kv=>decide (kv.1≠k)
theorem za6 {p:κ × V} {r:List (κ × V)} {k:κ} (e:p.1=k):zdi (p::r) k=some p.2:=by simp [zdi,List.find?_cons,e]
theorem za5 {p:κ × V} {r:List (κ × V)} {k:κ} (e:¬ p.1=k):zdi (p::r) k=zdi r k:=by simp [zdi,List.find?_cons,e]
theorem zdu (k:κ):∀ kvs:List (κ × V),(kvs.any fun kv=>decide (kv.1=k))=(zdi kvs k).isSome
 | []=>rfl
 | p::r=>by
  rw [List.any_cons];by_cases e:p.1=k
  ·simp only [za6 e,zoD e,Bool.true_or,Option.isSome_some]
  ·rw [za5 e,zoE e,Bool.false_or];exact zdu k r
theorem zg2 (k j:κ) (y:V):∀ kvs:List (κ × V),zdi (kvs.map fun kv=>if kv.1=k then (kv.1,y) else kv) j=(zdi kvs j).map fun x=>if j=k then y else x
 | []=>rfl
 | p::r=>by
  have ih:=zg2 k j y r;rw [zo0];by_cases h:p.1=k
  ·rw [zpc h];by_cases e:p.1=j
   ·rw [za6 (p:=(p.1,y)) e,za6 e,Option.map_some,zpc (e.symm.trans h)]
   ·rw [za5 (p:=(p.1,y)) e,za5 e,ih]
  ·rw [zpb h];by_cases e:p.1=j
   ·rw [za6 (p:=p) e,za6 e,Option.map_some,zpb (fun z=>h (e.trans z))]
   ·rw [za5 (p:=p) e,za5 e,ih]
theorem zfQ (k j:κ) (y:V):∀ kvs:List (κ × V),zdi kvs k=none->zdi (kvs++[(k,y)]) j=if j=k then some y else zdi kvs j
 | [],_=>by
  by_cases e:k=j
  ·rw [zpc e.symm];exact za6 (p:=(k,y)) e
  ·rw [zpb (fun z=>e z.symm)];exact za5 (p:=(k,y)) e
 | p::r,hn=>by
  rw [List.cons_append];have hk:¬ p.1=k:=fun z=>by rw [za6 z] at hn;cases hn
  rw [za5 hk] at hn;have ih:=zfQ k j y r hn;by_cases e:p.1=j
  ·rw [za6 e,za6 e,zpb (fun z=>hk (e.trans z))]
  ·rw [za5 e,za5 e,ih]
theorem zj1 (kvs:List (κ × V)) (k j:κ) (y:V):zdi (zfA kvs k y) j=if j=k then some y else zdi kvs j:=by
 unfold zfA;by_cases a:(kvs.any fun kv=>decide (kv.1=k))=true
 ·rw [zpc a,zg2];rw [zdu] at a;by_cases e:j=k
  ·obtain⟨x,hx⟩:=Option.isSome_iff_exists.mp a;rw [zpc e,e,hx,Option.map_some,zpc rfl]
  ·rw [zpb e];cases zdi kvs j with
   | none=>rfl
   | some x=>rw [Option.map_some,zpb e]
 ·rw [zpb a];refine zfQ k j y kvs ?_;rw [zdu] at a;cases q:zdi kvs k with
  | none=>rfl
  | some x=>rw [q] at a;exact (a rfl).elim
theorem zcB (kvs:List (κ × V)) (k:κ) (v:V):(zfA kvs k v).length<=kvs.length+1:=by
 unfold zfA;split
 ·rw [zox];omega
 ·rw [zoH,zpa,List.length_nil];omega
theorem zfb.isSome_eq {o:Option V} {u:Option Value} (r:zfb o u):o.isSome=u.isSome:=by
 cases o with
 | none=>cases u with
  | none=>rfl
  | some _=>exact (show False from r).elim
 | some _=>cases u with
  | none=>exact (show False from r).elim
  | some _=>rfl
theorem zfb.getD {o:Option V} {u:Option Value} {d:V} {d':Value} (r:zfb o u) (rd:zaO d d'):zaO (o.getD d) (u.getD d'):=by
 cases o with
 | none=>cases u with
  | none=>exact rd
  | some _=>exact (show False from r).elim
 | some _=>cases u with
  | none=>exact (show False from r).elim
  | some _=>exact r
theorem KV.val {kvs:List (κ × V)} {vs:List (κ × Value)} (r:KV kvs vs) (k:κ):zfb (zdi kvs k) (valueAt vs k):=by
 unfold KV at r
 induction r with
 | nil=>exact True.intro
 | @cons p q ps qs h t ih =>
  obtain⟨h1,h2⟩:=h;by_cases e:p.1=k
  ·have e':q.1=k:=h1.symm.trans e;have b:valueAt (q::qs) k=some q.2:=by simp [valueAt,List.find?_cons,e']
   rw [za6 e,b];exact h2
  ·have e':¬ q.1=k:=fun z=>e (h1.trans z)
   have b:valueAt (q::qs) k=valueAt qs k:=by simp [valueAt,List.find?_cons,e']
   rw [za5 e,b];exact ih
theorem KV.any {kvs:List (κ × V)} {vs:List (κ × Value)} (r:KV kvs vs) (k:κ):(kvs.any fun kv=>decide (kv.1=k))=vs.any fun kv=>decide (kv.1=k):=by
 unfold KV at r
 induction r with
 | nil=>rfl
 | cons h t ih=>rw [List.any_cons,List.any_cons,ih,h.1]
theorem KV.repl {kvs:List (κ × V)} {vs:List (κ × Value)} (r:KV kvs vs) (k:κ) {y:V} {u:Value} (ry:zaO y u) :
  KV (kvs.map fun kv=>if kv.1=k then (kv.1,y) else kv) (vs.map fun kv=>if kv.1=k then (kv.1,u) else kv):=by
 unfold KV at r ⊢
 induction r with
 | nil=>exact .nil
 | @cons p q ps qs h t ih =>
  rw [zo0,zo0];refine .cons ?_ ih;obtain⟨h1,h2⟩:=h;by_cases e:p.1=k
  ·rw [zpc e,zpc (h1.symm.trans e)];exact⟨h1,ry⟩
  ·rw [zpb e,zpb (fun z=>e (h1.trans z))];exact⟨h1,h2⟩
theorem KV.put {kvs:List (κ × V)} {vs:List (κ × Value)} (r:KV kvs vs) (k:κ) {y:V} {u:Value} (ry:zaO y u):KV (zfA kvs k y) (stored vs k u):=by
 unfold zfA stored;rw [r.any k];by_cases e:(vs.any fun kv=>decide (kv.1=k))=true
 ·rw [zpc e,zpc e];exact r.repl k ry
 ·rw [zpb e,zpb e];exact Paired.snoc r ⟨rfl,ry⟩
theorem KV.drop {kvs:List (κ × V)} {vs:List (κ × Value)} (r:KV kvs vs) (k:κ):KV (zf0 kvs k) (without vs k):=by
 unfold KV at r ⊢;unfold zf0 without
 induction r with
 | nil=>exact .nil
 | @cons p q ps qs h t ih =>
  obtain⟨h1,h2⟩:=h;rw [List.filter_cons,List.filter_cons];by_cases e:p.1=k
  ·have a:¬ decide (p.1≠k)=true:=by simp [e]
   have b:¬ decide (q.1≠k)=true:=by simp [h1.symm.trans e]
   rw [zpb a,zpb b];exact ih
  ·have e':¬ q.1=k:=fun z=>e (h1.trans z)
   have a:decide (p.1≠k)=true:=by simp [e]
   have b:decide (q.1≠k)=true:=by simp [e']
   rw [zpc a,zpc b];exact .cons ⟨h1,h2⟩ ih
theorem KV.length {kvs:List (κ × V)} {vs:List (κ × Value)} (r:KV kvs vs):kvs.length=vs.length:=Paired.length r
theorem zjd (kvs:List (κ × V)) (k:κ):(zf0 kvs k).length<=kvs.length:=List.length_filter_le _ _
end
theorem zhg {P:Program} {w:World} {k:Key} {u:Value} (r:zaO (kV k) u):(zaJ P w).is k u=true:=by
 cases k with
 | inl i=>obtain⟨t,e⟩:=(show ∃ t,u=Value.int i t from r);subst e;exact zf5 P w i t
 | inr x=>obtain⟨t,e⟩:=(show ∃ t,u=Value.str x t from r);subst e;exact zf6 P w x t
theorem zfq {P:Program} {w:World}:∀ {ks:List Key} {us:List Value},zaU (ks.map kV) us->ItemsAre (zaJ P w) ks us
 | [],_,r=>by rw [zo1] at r;cases r;exact .nil
 | k::ks,_,r=>by
  rw [zo0] at r;cases r with
  | cons h t=>exact .cons (zhg h) (zfq t)
abbrev KT (H:Hp):List (List Key × V)->List (List Key × Addr × Value)->Prop:=Paired fun p q=>p.1=q.1/\H q.2.1=some (.tup (p.1.map kV))/\zaO p.2 q.2.2
theorem KT.val {H:Hp} {kvs:List (List Key × V)} {xs:List (List Key × Addr × Value)} (r:KT H kvs xs) (k:List Key):zfb (zdi kvs k) ((atKey xs k).map (·.2)):=by
 induction r with
 | nil=>exact True.intro
 | @cons p q ps qs h t ih =>
  obtain⟨h1,_,h2⟩:=h;by_cases e:p.1=k
  ·have e':q.1=k:=h1.symm.trans e;have b:atKey (q::qs) k=some q.2:=by simp [atKey,List.find?_cons,e']
   rw [za6 e,b];exact h2
  ·have e':¬ q.1=k:=fun z=>e (h1.trans z)
   have b:atKey (q::qs) k=atKey qs k:=by simp [atKey,List.find?_cons,e']
   rw [za5 e,b];exact ih
theorem KT.repl {H:Hp} {kvs:List (List Key × V)} {xs:List (List Key × Addr × Value)} (r:KT H kvs xs) (k:List Key) {y:V} {u:Value} (ry:zaO y u) :
  KT H (kvs.map fun kv=>if kv.1=k then (kv.1,y) else kv) (xs.map (putAt k u)):=by
 induction r with
 | nil=>exact .nil
 | @cons p q ps qs h t ih =>
  rw [zo0,zo0];refine .cons ?_ ih;obtain⟨h1,h2,h3⟩:=h;unfold putAt;by_cases e:p.1=k
  ·rw [zpc e,zpc (h1.symm.trans e)];exact⟨h1,h2,ry⟩
  ·rw [zpb e,zpb (fun z=>e (h1.trans z))];exact⟨h1,h2,h3⟩
theorem KT.put {H:Hp} {kvs:List (List Key × V)} {xs:List (List Key × Addr × Value)} (r:KT H kvs xs) (k:List Key) {b:Addr} {y:V} {u:Value} (hb:H b=some (.tup (k.map kV))) (ry:zaO y u) :
  KT H (zfA kvs k y) (storedH xs k b u):=by
 have e:(kvs.any fun kv=>decide (kv.1=k))=(atKey xs k).isSome:=by
  rw [zdu,(r.val k).isSome_eq,Option.isSome_map]
 unfold zfA storedH;rw [e];by_cases q:(atKey xs k).isSome=true
 ·rw [zpc q,zpc q];exact r.repl k ry
 ·rw [zpb q,zpb q];exact Paired.snoc r ⟨rfl,hb,ry⟩
theorem KT.keeps {H H':Hp} {kvs:List (List Key × V)} {xs:List (List Key × Addr × Value)} (r:KT H kvs xs) (ht:∀ b ys,H b=some (.tup ys)->H' b=some (.tup ys)):KT H' kvs xs :=
 Paired.mapP r fun _ _ z=>⟨z.1,ht _ _ z.2.1,z.2.2⟩
section
variable {P:Program} {w:World} {H:Hp} {h:Heap} {a:Addr}
theorem znj {u:HO} (ok:HOk P w H h) (e:Rd H a u):zaV P w H h a u:=e.ok ok
theorem zkY {kvs:List (Key × V)} (ok:HOk P w H h) (e:Rd H a (.dK kvs)):kvs.length<=sizeLine/\(a == sysModules)=false/\∃ vs,KV kvs vs/\h.DictOf (zaJ P w) a vs :=
 show zaV P w H h a (.dK kvs) from znj ok e
theorem zg9 {kvs:List (Key × V)} (ok:HOk P w H h) (e:H a=some (.dK kvs)):kvs.length<=sizeLine/\(a == sysModules)=false/\∃ vs,KV kvs vs/\h.DictOf (zaJ P w) a vs:=zkY ok (.inl e)
theorem zh8 {ks:List Key} (ok:HOk P w H h) (e:H a=some (.tup (ks.map kV))):(tupleKind (zaJ P w)).is h ks a:=by
 obtain⟨_,its,r,o,h1,h2,n,h3,_⟩:=(show zaV P w H h a (.tup (ks.map kV)) from ok a _ e);exact⟨o,its.toArray,n,h1,h2,h3,by simpa using zfq r⟩
theorem zk1 {kvs:List (List Key × V)} (ok:HOk P w H h) (e:Rd H a (.dT kvs)):kvs.length<=sizeLine/\(a == sysModules)=false /\
  ∃ xs,KT H kvs xs/\h.DictOfH (tupleKind (zaJ P w)) a xs:=by
 obtain⟨z,y,xs,r,o,es,ep,h1,h2,h3,h4,h5⟩:=(show zaV P w H h a (.dT kvs) from znj ok e);refine⟨z,y,xs,r,o,es,ep,h1,h2,h3,h4,fun x hx=>?_,h5⟩;have all:∀ {l:List (List Key × V)} {m:List (List Key × Addr × Value)},KT H l m->∀ x∈m,(tupleKind (zaJ P w)).is h x.1 x.2.1:=by
  intro l m q
  induction q with
  | nil=>intro x hx;exact nomatch hx
  | @cons p q ps qs hq t ih =>
   intro x hx;rcases zpg.mp hx with e | hx
   ·subst e;exact zh8 ok (by rw [← hq.1];exact hq.2.1)
   ·exact ih x hx
 exact all r x hx
theorem zn0 {kvs:List (List Key × V)} (ok:HOk P w H h) (e:H a=some (.dT kvs)):kvs.length<=sizeLine/\(a == sysModules)=false /\
  ∃ xs,KT H kvs xs/\h.DictOfH (tupleKind (zaJ P w)) a xs:=zk1 ok (.inl e)
end
def zl7 (H:Hp) (a:Addr) (y:V) (r:Option V):Prop :=
 (∃ kvs k,Rd H a (.dK kvs)/\y=kV k/\r=zdi kvs k)\/∃ kvs k b,Rd H a (.dT kvs)/\y=.ref b/\H b=some (.tup (k.map kV))/\r=zdi kvs k
def zl8 (H:Hp) (a:Addr) (y v:V) (H':Hp):Prop :=
 (∃ kvs k,H a=some (.dK kvs)/\y=kV k/\kvs.length<sizeLine/\H'=upd H a (.dK (zfA kvs k v))) \/
 ∃ kvs k b,H a=some (.dT kvs)/\y=.ref b/\H b=some (.tup (k.map kV))/\kvs.length<sizeLine/\H'=upd H a (.dT (zfA kvs k v))
theorem zl7.k {H:Hp} {a:Addr} {kvs:List (Key × V)} {k:Key} (e:H a=some (.dK kvs)):zl7 H a (kV k) (zdi kvs k):=.inl ⟨kvs,k,.inl e,rfl,rfl⟩
theorem zl8.k {H:Hp} {a:Addr} {kvs:List (Key × V)} {k:Key} {v:V} (e:H a=some (.dK kvs)) (hl:kvs.length<sizeLine):zl8 H a (kV k) v (upd H a (.dK (zfA kvs k v))):=.inl ⟨kvs,k,e,rfl,hl,rfl⟩
section
variable {X:Cx} {pins:List (Addr × Obj)} {σ:St} {H:Hp} {s:Shared} {a:Addr} {y v:V} {u r:Value} {o:Option V} {A:Around} {E:Value->Shared->Prop}
theorem Inv.big (I:Inv X pins σ H s):sysModules<s.heap.objs.size:=by
 have h:mainGlobals<s.heap.objs.size:=(I.mod.glob.keeps I.bk).lt;exact Nat.lt_trans (by decide) h
theorem zdx {h':Heap} {t':Nat} {ob:HO} (I:Inv X pins σ H s) (mu:Mut (H a)) (hs:Heap.SameBut a s.heap h') (he:∃ q,h'.get? a=some q) (new:zaV X.prog X.w (upd H a ob) h' a ob) :
  Inv X pins σ (upd H a ob) { s with heap:=h',toks:=t' } :=
 I.write (x:=a) (e:=a) mu (.inl rfl) (fun b q hb z=>(hs.2 b hb).trans z) he new
theorem zhP {P:Program} {w:World} {H':Hp} {h':Heap} {kvs:List (Key × V)} {vs:List (Key × Value)} (z:kvs.length<=sizeLine) (hd:(a == sysModules)=false) (rel:KV kvs vs) (dd:h'.DictOf (zaJ P w) a vs) :
  zaV P w H' h' a (.dK kvs):=⟨z,hd,vs,rel,dd⟩
theorem zhL {H':Hp} {Q:Unit->Shared->Prop} (hu:A.units+1<cLine) (I:Inv X pins σ H s) (g:zl8 H a y v H') (ry:zaO y u) (rv:zaO v r) (h:∀ s',Inv X pins σ H' s'->Q () s') :
  wpAny (model X.prog X.w) A (setItem (.ref a) u r) Q E s:=by
 rcases g with ⟨kvs,k,e,ey,l,eH⟩ | ⟨kvs,k,b,e,ey,eb,l,eH⟩
 ·subst ey eH;obtain⟨z,hd,vs,rel,dd⟩:=zg9 I.hok e;have hz:vs.length<=sizeLine:=by rw [← rel.length];exact z
  have hl:(zfA kvs k v).length<=sizeLine:=by have:=zcB kvs k v;omega
  refine wpAny_setItem_pairs (hsz:=hz) (zhg ry) dd fun h' dd' hs=>h _ ?_
  have he:∃ q,h'.get? a=some q:=let ⟨q,_,_,hq,_⟩:=dd';⟨q,hq⟩;exact zdx I (by rw [e];exact True.intro) hs he (zhP hl hd (rel.put k rv) dd')
 ·subst ey eH;cases (show u=Value.ref b from ry);obtain⟨z,hd,xs,rel,dd⟩:=zn0 I.hok e;have hz:xs.length<=sizeLine:=by rw [← Paired.length rel];exact z
  have hl:(zfA kvs k v).length<=sizeLine:=by have:=zcB kvs k v;omega
  refine wpAny_setItem_heap (hsz:=hz) (tupleKind_room_in1 hu) (zh8 I.hok eb) dd fun h' dd' hs=>h _ ?_
  obtain⟨q,es,ep,hq,h2,h3,h4,_,h5⟩:=dd';refine zdx I (by rw [e];exact True.intro) hs ⟨q,hq⟩ ⟨hl,hd,_,(rel.put k eb rv).keeps fun c ys ec=>?_,q,es,ep,hq,h2,h3,h4,h5⟩;rw [zao (zn5 ec e (fun z=>nomatch z))];exact ec
end
section
variable {X:Cx} {pins:List (Addr × Obj)} {σ:St} {H:Hp} {s:Shared} {a:Addr} {kvs:List (Key × V)} {k:Key} {u:Value} {A:Around} {E:Value->Shared->Prop}
theorem znX {v:V} {more:List Value} {Q:Value->Shared->Prop} (I:Inv X pins σ H s) (e:H a=some (.dK kvs)) (ry:zaO (kV k) u) (l:zdi kvs k=some v) (hm:more=[]\/∃ x,more=[x])
  (h:∀ w' s',Inv X pins σ (upd H a (.dK (zf0 kvs k))) s'->zaO v w'->Q w' s'):wpAny (model X.prog X.w) A (call (.builtin "dict.pop") (.ref a::u::more)) Q E s:=by
 obtain⟨z,hd,vs,rel,dd⟩:=zg9 I.hok e;obtain⟨w',hw,rw'⟩:=zfb.some_of (v:=v) (o:=valueAt vs k) (by rw [← l];exact rel.val k);have hp:(keyPart u).isSome=true:=by
  cases k with
  | inl i=>obtain⟨t,q⟩:=(show ∃ t,u=Value.int i t from ry);subst q;rfl
  | inr x=>obtain⟨t,q⟩:=(show ∃ t,u=Value.str x t from ry);subst q;rfl
 have ha:argsOk "dict.pop" ⟨.ref a::u::more,[]⟩:=by
  rcases hm with q | ⟨x,q⟩
  ·subst q;exact PySem.F.args_dict_pop_2 _ _
  ·subst q;exact PySem.F.args_dict_pop_3 _ _ _
 refine call_meetsIn PySem.F.slot_dict_pop dd.typeIs PySem.F.entry_dict_pop ha (meets_dict_pop_there (zaJ X.prog X.w) a (zhg ry) more hm hp)
  ⟨vs,w',dd,by rw [← rel.length];exact z,hw,fun h' dd' hs=>h w' _ ?_ rw'⟩
 have he:∃ q,h'.get? a=some q:=let ⟨q,_,_,hq,_⟩:=dd';⟨q,hq⟩;exact zdx I (by rw [e];exact True.intro) hs he (zhP (zoM (zjd kvs k) z) hd (rel.drop k) dd')
theorem zmr {r:Value} {Q:Value->Shared->Prop} (I:Inv X pins σ H s) (e:H a=some (.dK kvs)) (ry:zaO (kV k) u) (l:zdi kvs k=none) (h:∀ s',Inv X pins σ H s'->Q r s') :
  wpAny (model X.prog X.w) A (call (.builtin "dict.pop") [.ref a,u,r]) Q E s:=by
 obtain⟨z,hd,vs,rel,dd⟩:=zg9 I.hok e;have hn:valueAt vs k=none:=zfb.none_of (by rw [← l];exact rel.val k);have hp:(keyPart u).isSome=true:=by
  cases k with
  | inl i=>obtain⟨t,q⟩:=(show ∃ t,u=Value.int i t from ry);subst q;rfl
  | inr x=>obtain⟨t,q⟩:=(show ∃ t,u=Value.str x t from ry);subst q;rfl
 exact call_meetsIn PySem.F.slot_dict_pop dd.typeIs PySem.F.entry_dict_pop (PySem.F.args_dict_pop_3 _ _ _) (meets_dict_pop_default (zaJ X.prog X.w) a (zhg ry) hd hp r) ⟨vs,dd,hn,h _ (I.tok _)⟩
end
def NoSl (i:Expr):Prop:=∀ ov iv,subscripted i false ov iv=operate [ov,iv] (getItem ov iv)
theorem zlY {prog:Program} {w:World} {A:Around} {E:Value->Shared->Prop} {s:Shared} {env:Env} {value slice:Expr} {pos:Pos} {T id:String} {Q:Value->Shared->Prop}
  (hl:typeLookup (.type T) "__getitem__"=pure (some (.builtin id))) (hs:NoSl slice)
  (h:wpAny (model prog w) A (eval value env) (fun o s₁=>wpAny (model prog w) A (eval slice env) (fun i s₂=>s₂.TypeIs o T/\wpAny (model prog w) A (getItem o i) Q E s₂) E s₁) E s) :
  wpAny (model prog w) A (eval (.Subscript value slice pos) env) Q E s:=by
 refine Subscript_ (wpAny_mono h (fun o s₁ h₁=>wpAny_mono h₁ (fun i s₂ h₂=>?_) fun _ _ x=>x) fun _ _ x=>x);obtain⟨hT,h₂⟩:=h₂;unfold subscriptTail;refine wpAny_bind ?_;rw [getitemInPython_of_ne hT.not_modules];refine wpAny_bind (wpAny_specialOf hT hl ?_);have fin:wpAny (model prog w) A (subscripted slice false o i) (fun r s₃=>wpAny (model prog w) A (letTemporaryGo value o r >>= fun _=>pure r) Q E s₃) E s₂:=by
  rw [hs o i];exact wpAny_operating (wpAny_mono h₂ (fun r s₃ h₃=>wpAny_bind (wpAny_letTemporaryGo (wpAny_pure h₃))) fun _ _ x=>x)
 first
  | exact wpAny_pure (wpAny_bind fin)
  | exact wpAny_bind (wpAny_pure (wpAny_bind fin))
  | exact wpAny_bind fin
def zok (td ty tv:TE):TS:=fun D σ H=>tv σ H fun v H1=>td σ H1 fun x H2=>ty σ H2 fun y H3=>∃ a H4,x=.ref a/\zl8 H3 a y v H4/\D.nx σ H4
section
variable {X:Cx} {o i e value:Expr} {pos pos' tpos:Pos} {td ty tv:TE}
theorem zlH (hu:X.A.units+1<cLine) (ho:PE X o td) (hi:PE X i ty) (hv:PE X value tv) (hs:swapsWith value (some (.Subscript o i pos')) pos.line X.env=pure false) :
  PS X (.Assign [.Subscript o i pos'] value pos) (zok td ty tv):=by
 intro pins s σ H D I h;refine wpAny_Assign_Subscript (thn (hv pins s σ H _ I h) fun r s1 ⟨v,H1,I1,rv,q1⟩=>thn (ho pins s1 σ H1 _ I1 q1) fun u s2 ⟨x,H2,I2,rx,q2⟩=>thn (hi pins s2 σ H2 _ I2 q2) fun iv s3 ⟨y,H3,I3,ry,a,H4,ex,g,q3⟩=>?_) hs;subst ex;obtain rfl:u=Value.ref a:=rx;exact zhL hu I3 g ry rv fun s4 I4=>⟨σ,H4,I4,q3⟩
end
theorem zjc {P:Program} {w:World} {H:Hp} (h:Heap) (hb:sysModules<h.objs.size):zaV P w H (h.push { cls:=.type "dict",data:=.dict #[] }) h.objs.size (.dK []) :=
 ⟨Nat.zero_le _,beq_eq_false_iff_ne.mpr (Ne.symm (zph hb)),[],.nil,Heap.DictOf.new h⟩
section
variable {X:Cx} {pos:Pos}
end
structure M2 (X:Cx) (o:Expr) (m:Str) (apos:Pos) (e f:Expr) (cpos:Pos):Prop where
 base:attributeBase o m X.env (eval o X.env)=eval o X.env
 few:((backTo cpos (starEach [e,f] X.env)).all (fun x=>!x.1) && (backToKw cpos (keywordEach [] X.env)).all (fun x=>x.1.isSome)
  && decide (([e,f]:List Expr).length+([]:List Keyword).length+(if ([]:List Keyword).isEmpty then 0 else 1)<30))=true
 line:(apos.endLine == cpos.line)=true
 trees:backTo cpos (starEach [e,f] X.env)=[(false,eval e X.env),(false,eval f X.env)]
def IsD (H:Hp) (a:Addr):Prop:=(∃ kvs,Rd H a (.dK kvs))\/∃ kvs,Rd H a (.dT kvs)
theorem zkr {X:Cx} {pins:List (Addr × Obj)} {σ:St} {H:Hp} {s:Shared} {a:Addr} (I:Inv X pins σ H s) (d:IsD H a) :
  s.TypeIs (.ref a) "dict"/\(∀ b,Value.ref a=.ref b->∃ ob,s.heap.get? b=some ob/\ob.dict=none)/\(a == sysModules)=false:=by
 rcases d with ⟨kvs,e⟩ | ⟨kvs,e⟩
 ·obtain⟨_,hd,vs,_,dd⟩:=zkY I.hok e;refine⟨dd.typeIs,fun b q=>?_,hd⟩;cases q;obtain⟨ob,_,_,h1,h2,_⟩:=dd;exact⟨ob,h1,h2.2.1⟩
 ·obtain⟨_,hd,xs,_,dd⟩:=zk1 I.hok e;refine⟨dd.typeIs,fun b q=>?_,hd⟩;cases q;obtain⟨ob,_,_,h1,h2,_⟩:=dd;exact⟨ob,h1,h2.2.1⟩
section
variable {X:Cx} {pins:List (Addr × Obj)} {σ:St} {H:Hp} {s:Shared} {a:Addr} {y d:V} {u r:Value} {o:Option V} {A:Around} {E:Value->Shared->Prop}
theorem zmq {Q:Value->Shared->Prop} (hu:A.units+1<cLine) (I:Inv X pins σ H s) (g:zl7 H a y o) (ry:zaO y u) (rd:zaO d r) (h:∀ w' s',Inv X pins σ H s'->zaO (o.getD d) w'->Q w' s') :
  wpAny (model X.prog X.w) A (call (.builtin "dict.get") [.ref a,u,r]) Q E s:=by
 rcases g with ⟨kvs,k,e,ey,l⟩ | ⟨kvs,k,b,e,ey,eb,l⟩
 ·subst ey;obtain⟨z,hd,vs,rel,dd⟩:=zkY I.hok e;refine call_meetsIn PySem.F.slot_dict_get dd.typeIs PySem.F.entry_dict_get (PySem.F.args_dict_get_3 _ _ _) (meets_dict_get_default (zaJ X.prog X.w) a (zhg ry) hd r) ⟨_,dd.mapOf,h _ _ (I.tok _) ?_⟩;rw [l];exact (rel.val k).getD rd
 ·subst ey;cases (show u=Value.ref b from ry);obtain⟨z,hd,xs,rel,dd⟩:=zk1 I.hok e;refine call_meetsIn PySem.F.slot_dict_get dd.typeIs PySem.F.entry_dict_get (PySem.F.args_dict_get_3 _ _ _) (meetsH_dict_get_default (tupleKind (zaJ X.prog X.w)) a b hd r) ⟨tupleKind_room_in1 hu,k,xs,zh8 I.hok eb,dd,h _ _ (I.tok _) ?_⟩;rw [l];exact (rel.val k).getD rd
end
def znm (td ty tx:TE):TE:=fun σ H Q=>td σ H fun x H1=>∃ a,x=.ref a/\IsD H1 a/\ty σ H1 fun y H2=>tx σ H2 fun z H3=>∃ o,zl7 H3 a y o/\Q (o.getD z) H3
def zno (td ty tx:TE):TE:=fun σ H Q=>td σ H fun x H1=>∃ a,x=.ref a/\IsD H1 a/\ty σ H1 fun y H2=>tx σ H2 fun z H3=>∃ kvs k,H3 a=some (.dK kvs)/\y=kV k /\
 (∀ v,zdi kvs k=some v->Q v (upd H3 a (.dK (zf0 kvs k))))/\(zdi kvs k=none->Q z H3)
section
variable {X:Cx} {o e f:Expr} {apos cpos:Pos} {td ty tx:TE}
theorem zjH (hu:X.A.units+1<cLine) (ho:PE X o td) (he:PE X e ty) (hf:PE X f tx) (m:M2 X o "get" apos e f cpos):PE X (.Call (.Attribute o "get" apos) [e,f] [] cpos) (znm td ty tx):=by
 intro pins s σ H Q I h;refine wpAny_Call_method m.base m.few m.line PySem.F.plainAttrs_dict PySem.F.slot_dict_get PySem.F.type_dict_get (thn (ho pins s σ H _ I h) fun u s1 ⟨x,H1,I1,rx,a,ex,d,q1⟩=>?_);subst ex;obtain rfl:u=Value.ref a:=rx;obtain⟨t1,t2,_⟩:=zkr I1 d;refine⟨t1,t2,?_⟩;rw [m.trees];refine Calls.callWith_builtin rfl (Calls.evalArgs_plain (Calls.spliced_cons (thn (he pins s1 σ H1 _ I1 q1) fun iv s2 ⟨y,H2,I2,ry,q2⟩ =>
  Calls.spliced_cons (thn (hf pins s2 σ H2 _ I2 q2) fun fv s3 ⟨z,H3,I3,rz,ov,g,q3⟩=>Calls.spliced_nil ?_))))
 exact zmq hu I3 g ry rz fun w' s4 I4 rw'=>⟨_,H3,I4,rw',q3⟩
theorem zjK (ho:PE X o td) (he:PE X e ty) (hf:PE X f tx) (m:M2 X o "pop" apos e f cpos):PE X (.Call (.Attribute o "pop" apos) [e,f] [] cpos) (zno td ty tx):=by
 intro pins s σ H Q I h;refine wpAny_Call_method m.base m.few m.line PySem.F.plainAttrs_dict PySem.F.slot_dict_pop PySem.F.type_dict_pop (thn (ho pins s σ H _ I h) fun u s1 ⟨x,H1,I1,rx,a,ex,d,q1⟩=>?_);subst ex;obtain rfl:u=Value.ref a:=rx;obtain⟨t1,t2,_⟩:=zkr I1 d;refine⟨t1,t2,?_⟩;rw [m.trees];refine Calls.callWith_builtin rfl (Calls.evalArgs_plain (Calls.spliced_cons (thn (he pins s1 σ H1 _ I1 q1) fun iv s2 ⟨y,H2,I2,ry,q2⟩ =>
  Calls.spliced_cons (thn (hf pins s2 σ H2 _ I2 q2) fun fv s3 ⟨z,H3,I3,rz,kvs,k,ea,ey,q3,q4⟩=>Calls.spliced_nil ?_))))
 subst ey;cases l:zdi kvs k with
 | some v=>exact znX I3 ea ry l (.inr ⟨fv,rfl⟩) fun w' s4 I4 rw'=>⟨v,_,I4,rw',q3 v l⟩
 | none=>exact zmr I3 ea ry l fun s4 I4=>⟨z,H3,I4,rz,q4 l⟩
end
section
variable {X:Cx} {pins:List (Addr × Obj)} {σ:St} {H:Hp} {s:Shared} {a:Addr} {kvs:List (Key × V)} {A:Around} {E:Value->Shared->Prop}
end
section
variable {X:Cx} {pins:List (Addr × Obj)} {σ:St} {H:Hp} {s:Shared} {a:Addr} {y:V} {u:Value} {A:Around} {E:Value->Shared->Prop}
end
end L2
namespace Att
open PySem PySem.W PySem.Calls PyProof.Rows
theorem zdD {P:Params} {h:Heap}:∀ (ns:List Int) (vs:List Value),WellAll P h vs (ns.map WData.int)->IntsAre vs ns:=by
 intro ns
 induction ns with
 | nil =>
  intro vs w;rw [zo1] at w;cases w;exact .nil
 | cons n ns ih =>
  intro vs w;rw [zo0] at w;cases w with
  | cons a b =>
   cases a;exact .cons _ _ (ih _ b)
theorem ziK {l:OpenLaw} {n:Nat} (hn:l.most=some n) {P:Params} {h:Heap} {args:List WData} {vals:List Value}
  (hpre:l.row.toRowW.claim.pre args=true) (hwl:WellAll P h vals args) :
  ∃ a vs ns,vals=[Value.ref a]/\args=[WData.list (ns.map WData.int)]/\h.get? a=some { cls:=.type "list",data:=.seq vs.toArray }/\IntsAre vs ns/\ns.length<=n:=by
 have hsh:WShape.hasAll [] args [.list .int]=true:=(pre_splitW hpre).1;have hc:l.pre.holds [] { args:=args }=true:=(pre_splitW hpre).2;obtain⟨d,r,rfl,h1,h2⟩:=hasAllW_cons hsh;obtain rfl:=hasAllW_nil h2;obtain⟨xs,rfl,h3⟩:=hasW_list h1;obtain⟨ns,rfl⟩:=items_int h3;have hlen:ns.length<=n:=by
  unfold OpenLaw.pre at hc;have h4:(WTm.not (.lt (.lit (.int (n:Int))) (.len (.arg 0)))).holds [] { args:=[.list (ns.map .int)] }=true:=by
   have h4:=(holds_andW hc).1;rw [hn] at h4;exact h4
  have h5:=condW_of h4 (w_not (w_lt w_lit (w_len_list (w_arg rfl))));rw [zox] at h5;refine Nat.le_of_not_lt fun q=>?_
  have q':(n:Int)<((ns.length:Nat):Int):=by omega
  first
   | (rw [zoD q'] at h5;exact absurd h5 (by decide))
   | (simp at h5;omega)
 cases hwl with
 | cons w1 w2 =>
  cases w2;cases w1 with
  | list ho hall=>exact⟨_,_,ns,rfl,rfl,ho,zdD ns _ hall,hlen⟩
theorem ziw (l:OpenLaw) (args:List WData):l.row.toRowW.claim.post args (.bool true) args=true :=
 postW_of (r:=l.row.toRowW) (X:=(true == true))
  (show WShape.has [] (.bool true) .bool=true by first | rfl | decide | simp [WShape.has,WShape.arms,WShape.armsAll])
  (show (WTm.eq .res (.lit (.bool true))).value [] { args:=args,res:=some (.bool true),after:=args }=some (.bool (true == true)) from w_eq_bool (w_res rfl) w_lit) rfl
theorem attach_call {l:OpenLaw} {n:Nat} {q:Program} {loose:List Str} {XP:(Str->Option Value)->Heap->Prop} {YP:World->Heap->Prop} {d:DefRec}
  (hn:l.most=some n) (hdf:d.params.defaults=[])
  (call:∀ (w:World) (s₀ s₁:Shared) (mg mb:Str->Option Value) (fa:Addr) (o:Obj) (pm cd doc:Value) (a:Addr) (vs:List Value) (ns:List Int),
   Ground q loose [] XP w s₀ mg mb s₁.heap->YP w s₁.heap ->
   s₁.heap.get? fa=some o->o.data=.func (docDef d.name d.params d.body d.scope pm cd doc)->s₁.heap.CodeRec cd d.name->mg d.name=some (.ref fa) ->
   s₁.heap.get? a=some { cls:=.type "list",data:=.seq vs.toArray }->IntsAre vs ns->ns.length<=n->s₁.gens=#[] ->
   codeAny (model l.prog w) callerA (.call (.ref fa) ⟨[.ref a],[]⟩) (fun r s'=>r=.ok (.ret (.bool true))/\OldK s₁.heap s'.heap/\s'.os=s₁.os/\AllBare s'.gens) s₁) :
  WalkO q loose XP YP l.row.toRowW d [] (fun f vs=>PySem.call f vs):=by
 intro w s₀ s₁ mg mb G Y fa o pm cd doc dV kV ho hd hcd hD hmg hg args vals as hpre hlay hrd hwl hlo;obtain rfl:dV=.none:=Dflts.none hD hdf;obtain rfl:kV=.none:=Dflts.noKw hD;obtain⟨a,vs,ns,rfl,rfl,hobj,hints,hlen⟩:=ziK hn hpre hwl;refine enter_call (codeAny_mono (call w s₀ s₁ mg mb fa o pm cd doc a vs ns G Y ho (fd_plain hd) hcd hmg hobj hints hlen hg) fun r s' hq=>?_);obtain⟨rfl,h2,h3,h4⟩:=hq;exact⟨.inl ⟨.bool true,.bool true,[],rfl,fun _=>rfl,.bool true,ziw l _,fun _=>⟨List.Pairwise.nil,fun _ hm=>(nomatch hm)⟩⟩,h2,h3,h4⟩
section
variable {prog:Program} {w:World} {A:Around} {E:Value->Shared->Prop} {s:Shared} {K:Frag}
end
end Att
namespace L2
open PySem PySem.Spec PyProof.Rows
theorem zfR:∀ {vs:List Value} {ns:List Int},IntsAre vs ns->zaU (ns.map V.int) vs
 | _,_,.nil=>.nil
 | _,_,.cons n t h=>.cons ⟨t,rfl⟩ (zfR h)
def znJ (H:Hp):Prop:=∀ b,H b=none\/∃ o xs,H b=some (.frz o (.lst xs))
theorem zjt {P:Program} {w:World} {K:PySem.W.Frag} {mg mb:Str->Option Value} {CX:CXT} {k:Nat} {fa a:Addr} {fd:FuncData} {x:Str} {sp:Sp} {s₁:Shared} {vs:List Value} {ns:List Int}
  (KX:K.In s₁.heap) (hns:s₁.heap.Ns mainGlobals mg) (hb:s₁.heap.Ns builtinsNs mb) (hbb:∀ x:Str,x≠"__name__"->mb x=bootBuiltins x) (hlim:s₁.heap.NoLimit) (hg:s₁.gens=#[])
  (ha:s₁.heap.get? a=some { cls:=.type "list",data:=.seq vs.toArray }) (hi:IntsAre vs ns) (hl:ns.length<=sizeLine) (hr:zcq k callerA)
  (F:∀ base:Heap,K.In base->base.Ns mainGlobals mg->zbr P w K mg base CX k fa fd [x] sp) (hbind:∀ (s:Shared) (u:Value),BindsTo s fd ⟨[u],[]⟩ [(x,u)])
  (hsp:∀ H:Hp,znJ H->SqL K H a (ns.map V.int)->sp [.ref a] H (fun v _=>v=.bl true) fun _ _ _=>False)
  (hCX:∀ H e s',CX [] H s₁ (fun _ _ _=>False) e s'->False) :
  codeAny (model P w) callerA (.call (.ref fa) ⟨[.ref a],[]⟩) (fun r s'=>r=.ok (.ret (.bool true))/\OldK s₁.heap s'.heap/\s'.os=s₁.os/\AllBare s'.gens) s₁:=by
 have rv:=zfR hi;have lenV:=hi.length;have core:∀ H:Hp,znJ H->SqL K H a (ns.map V.int)->HOk P w H s₁.heap->(∀ b,H b≠none->b=a)->(H a≠none->K.lookup a=none) ->
   codeAny (model P w) callerA (.call (.ref fa) ⟨[.ref a],[]⟩) (fun r s'=>r=.ok (.ret (.bool true))/\OldK s₁.heap s'.heap/\s'.os=s₁.os/\AllBare s'.gens) s₁:=by
  intro H hO hS hok hA hK;have base_of:∀ {b:Addr} {o:Obj},s₁.heap.get? b=some o->H b=none->(zjk s₁.heap H).get? b=some o:=fun e n=>zjl e n
  have noA:∀ {b:Addr} {o:Obj} {es:Array DictEntry} {ep:Nat},s₁.heap.get? b=some o->o.data=.dict es ep->H b=none:=fun {b o es ep} e d=>by
   cases q:H b with
   | none=>rfl
   | some u =>
    have e':b=a:=hA b (by rw [q];simp);subst e';rw [ha] at e;cases e;have d':Data.seq vs.toArray _=Data.dict es ep:=d;cases d'
  have nsK:∀ {b:Addr} {m:Str->Option Value},s₁.heap.Ns b m->(zjk s₁.heap H).Ns b m:=fun {b m} ⟨o,es,ep,e,d,r⟩=>⟨o,es,ep,base_of e (noA e d),d,r⟩
  have hKb:K.In (zjk s₁.heap H):=fun b o e=>base_of (KX b o e) (by
   cases q:H b with
   | none=>rfl
   | some u =>
    have e':b=a:=hA b (by rw [q];simp);subst e';rw [hK (by rw [q];simp)] at e;cases e)
  have hM:Mod K mg (zjk s₁.heap H):=⟨hKb,nsK hns,⟨mb,nsK hb,hbb⟩,let ⟨mc,h1,h2⟩:=hlim;⟨mc,nsK h1,h2⟩⟩;have e0:zkK P w K mg (zjk s₁.heap H) callerA [] s₁ H:=⟨rfl,hM,fun b o e=>zln e,Nat.le_of_eq (zh2 _ _),trivial,fun b hb=>absurd (show b∈([]:List Addr) from hb) (by simp),hok,.of_eq hg⟩;refine codeAny_mono ((F _ hKb (nsK hns)).run callerA [] s₁ H ⟨[.ref a],[]⟩ [.ref a] [.ref a] _ _ hr e0 (hbind s₁ (.ref a)) (.cons rfl .nil) (hsp H hO hS)) fun r s' h=>?_
  cases r with
  | error e=>exact (hCX H e s' h).elim
  | ok fl =>
   cases fl with
   | next=>exact False.elim h
   | brk=>exact False.elim h
   | cont=>exact False.elim h
   | ret u =>
    obtain⟨v,H',os,bare,un,hok',r',q⟩:=h;have q':v=.bl true:=q;subst q';obtain rfl:u=Value.bool true:=r';refine⟨rfl,OldK.of_keep fun b o e=>?_,os,bare⟩;cases q:H b with
    | none=>exact un.keep b o e q (by intro z;exact absurd (show b∈([]:List Addr) from z) (by simp)) (by simp)
    | some u =>
     rcases hO b with z | ⟨ob,xs,z⟩
     ·rw [q] at z;cases z
     ·have z2:=un.frzs b ob _ z;obtain⟨e1,_⟩:=hok b _ z;obtain⟨e2,_⟩:=hok' b _ z2;rw [e] at e1;cases e1;exact e2
 cases hk:K.lookup a with
 | some o =>
  have e:=KX a o hk;rw [ha] at e;cases e;refine core (fun _=>none) (fun _=>.inl rfl) (.inr ⟨_,vs.toArray,_,hk,rfl,rfl,rfl,by rw [zo9,lenV];exact hl,by simpa using rv⟩) (fun b u z=>by have z':(none:Option HO)=some u:=z;cases z') (fun b z=>absurd rfl z) fun z=>absurd rfl z
 | none =>
  refine core (fun b=>if b=a then some (.frz { cls:=.type "list",data:=.seq vs.toArray } (.lst (ns.map V.int))) else none) (fun b=>?_) (.inl (.inr ⟨{ cls:=.type "list",data:=.seq vs.toArray },zpc rfl⟩)) (fun b u z=>?_) (fun b z=>?_) fun _=>hk
  ·by_cases hb:b=a
   ·exact .inr ⟨_,_,zpc hb⟩
   ·exact .inl (zpb hb)
  ·by_cases hb:b=a
   ·have z':=(zpc hb).symm.trans z;cases z';subst hb;exact⟨ha,by rw [zox];exact hl,vs,_,rv,ha⟩
   ·have z':=(zpb hb).symm.trans z;cases z'
  ·by_cases hb:b=a
   ·exact hb
   ·exact absurd (zpb hb) z
theorem walk_of {l:PySem.W.OpenLaw} {n k:Nat} {q:Program} {loose:List Str} {XP:(Str->Option Value)->Heap->Prop} {YP:World->Heap->Prop} {d:DefRec} {K:Params->PySem.W.Frag} {CX:World->CXT} {sp:World->Sp} {x:Str}
  (hn:l.most=some n) (hn2:n<=sizeLine) (hdf:d.params.defaults=[]) (hr:zcq k callerA)
  (hY:∀ (w:World) (h:Heap),YP w h->(K w.params).In h)
  (F:∀ (w:World) (mg:Str->Option Value) (fa:Addr) (h:Heap),(K w.params).In h->h.Ns mainGlobals mg->mg d.name=some (.ref fa) ->
   ∃ fd:FuncData,(∀ (s:Shared) (u:Value),BindsTo s fd ⟨[u],[]⟩ [(x,u)]) /\
    ∀ base:Heap,(K w.params).In base->base.Ns mainGlobals mg->zbr l.prog w (K w.params) mg base (CX w) k fa fd [x] (sp w))
  (hsp:∀ (w:World) (H:Hp) (a:Addr) (ns:List Int),ns.length<=n->znJ H->SqL (K w.params) H a (ns.map V.int)->sp w [.ref a] H (fun v _=>v=.bl true) fun _ _ _=>False)
  (hCX:∀ (w:World) (H:Hp) (s:Shared) (e:Value) (s':Shared),CX w [] H s (fun _ _ _=>False) e s'->False) :
  PySem.W.WalkO q loose XP YP l.row.toRowW d [] (fun f vs=>PySem.call f vs):=by
 refine Att.attach_call hn hdf fun w s₀ s₁ mg mb fa o pm cd doc a vs ns G Y ho hd hcd hmg hobj hints hlen hg=>?_
 have KX:=hY w _ Y;obtain⟨fd,hb,hF⟩:=F w mg fa _ KX G.T.g hmg;exact zjt KX G.T.g G.T.b G.T.builtins G.T.nolimit hg hobj hints (zoM hlen hn2) hr hF hb (fun H hO hS=>hsp w H a ns hlen hO hS) fun H e s'=>hCX w H s₁ e s'
def zcS (s:Stmt) (j:Nat):Stmt:=match s with
 | .ClassDef _ _ _ body _ _ _ _ _ _ _=>body.getD j (.Pass ⟨0,0,0,0⟩)
 | _=>.Pass ⟨0,0,0,0⟩
def zas (s:Stmt):Arguments:=match s with
 | .FunctionDef _ a _ _ _ _ _ _ _ _=>a
 | _=>{ posonlyargs:=[],args:=[],vararg:=none,kwonlyargs:=[],kw_defaults:=[],kwarg:=none,defaults:=[] }
def zaq (s:Stmt):List Stmt:=match s with
 | .FunctionDef _ _ b _ _ _ _ _ _ _=>b
 | _=>[]
def zae (s:Stmt):Scope:=match s with
 | .FunctionDef _ _ _ _ _ _ sc _ _ _=>sc
 | _=>{ kind:=.function,names:=[],isGenerator:=false,isCoroutine:=false }
abbrev CX0:CXT:=fun _ _ _ _ _ _=>False
abbrev E0:XK:=fun _ _ _=>False
theorem zam {X:Cx}:zc5 CX0 X E0:=fun _ _ _ _ _ _ _ h=>h.elim
structure Fun (K:PySem.W.Frag) (x qual:Str) (st:Stmt) (f:Addr) (fd:FuncData):Prop where
 ex:∃ (oc:Value) (od:Option Addr) (kV doc pm:Value) (an:Option Addr) (cdv ct:Value) (osl:Array (Option Value)),
  fd=PySem.W.fnOf x qual (zas st) (zaq st) (zae st) .none kV doc pm an cdv ct/\K.lookup f=some ⟨oc,od,.func fd,osl⟩/\PySem.W.codeIn K cdv qual=true
 kp:PySem.W.keepIn K (.ref f)=true
section
variable {P:Program} {w:World} {K:PySem.W.Frag} {mg:Str->Option Value} {base:Heap}
theorem Fun.ok {x qual:Str} {st:Stmt} {f:Addr} {fd:FuncData} {N ps:List Str} {k:Nat} {sp:Sp} (F:Fun K x qual st f fd) (S:zar N ps (zae st)) (len:∀ vs H Q E,sp vs H Q E->vs.length=ps.length)
  (hbody:∀ (cdv:Value) (A:Around) (outer:List Env) (s:Shared) (H:Hp) (vs:List V) (Q:VK) (E:XK),zcq k (A.deeper (envOfC qual (zae st) s.heap.objs.size f cdv))->sp vs H Q E ->
   ∃ t,PSs (zhK CX0 P w K mg base N qual (zae st) f cdv A outer s H E).nox (zaq st) t/\t { nx:=fun _ H'=>Q .non H',rt:=Q } (start N vs) H):zbr P w K mg base CX0 (k+1) f fd ps sp:=by
 obtain⟨oc,od,kV,doc,pm,an,cdv,ct,osl,rfl,lk,hcd⟩:=F.ex;refine zmw lk hcd S len fun A outer s H vs Q E hr hsp=>?_
 obtain⟨t,h,q⟩:=hbody cdv A outer s H vs Q E hr hsp;exact⟨t,h.nox,q⟩
theorem Fun.binds {x qual:Str} {st:Stmt} {f:Addr} {fd:FuncData} {ps:List Str} (F:Fun K x qual st f fd)
  (h:∀ (kV doc pm:Value) (an:Option Addr) (cdv ct:Value) (us:List Value),us.length=ps.length->bindArgs (PySem.W.fnOf x qual (zas st) (zaq st) (zae st) .none kV doc pm an cdv ct) ⟨us,[]⟩=pure (ps.zip us)):zaG K fd ps []:=by
 obtain⟨oc,od,kV,doc,pm,an,cdv,ct,osl,rfl,lk,hcd⟩:=F.ex;exact .all (h kV doc pm an cdv ct)
theorem zaB {x qual:Str} {st:Stmt} {f:Addr} {oc:Value} {od an:Option Addr} {osl:Array (Option Value)} {kV doc pm cdv ct:Value} (l:K.lookup f=some ⟨oc,od,.func (PySem.W.fnOf x qual (zas st) (zaq st) (zae st) .none kV doc pm an cdv ct),osl⟩)
  (c:PySem.W.codeIn K cdv qual=true) (k:PySem.W.keepIn K (.ref f)=true):Fun K x qual st f (PySem.W.fnOf x qual (zas st) (zaq st) (zae st) .none kV doc pm an cdv ct):=⟨⟨oc,od,kV,doc,pm,an,cdv,ct,osl,rfl,l,c⟩,k⟩
end
theorem zaY {A:Around} {k:Nat} (hr:zcq k A):A.units+1<cLine:=zoL (Nat.add_le_add_left (by decide:1<=64) _) hr.units
section
variable {X:Cx}
end
section
variable {κ:Type} [DecidableEq κ]
end
end L2
end
section
namespace L2
open PySem PySem.Spec PyProof.Rows
def zbo (sc:Scope):List Str:=(sc.names.filter fun x=>x.2 == .free).map (·.1)
def zb0 (sc:Scope) (env:Env):List (Str × Addr):=((zbo sc).reverse).map fun n=>(n,(env.cells.lookup n).getD 0)
theorem zex {sc:Scope} {env:Env} (h:∀ n∈zbo sc,∃ c,env.cells.lookup n=some c):closureFor sc env=pure (zb0 sc env):=by
 have key:∀ (l:List (Str × NameKind)) (cs:List (Str × Addr)),(∀ x∈l,x.2=.free->∃ c,env.cells.lookup x.1=some c) ->
   (forIn l cs fun (x:Str × NameKind) (r:List (Str × Addr))=>(if (x.2 == NameKind.free)=true then (do let a ← cellOf env x.1;pure (ForInStep.yield ((x.1,a)::r))) else pure (ForInStep.yield r):Sem (ForInStep (List (Str × Addr)))))
   =pure ((((l.filter fun x=>x.2 == .free).map (·.1)).reverse).map (fun n=>(n,(env.cells.lookup n).getD 0))++cs):=by
  intro l
  induction l with
  | nil=>intro cs _;rfl
  | cons x r ih =>
   intro cs hx;rw [List.forIn_cons];by_cases hk:x.2=.free
   ·obtain⟨c,hc⟩:=hx x zo6 hk;have e1:(x.2 == NameKind.free)=true:=by rw [hk];rfl
    have e2:cellOf env x.1=pure c:=by unfold cellOf;rw [hc]
    rw [zpc e1,e2];show (forIn r ((x.1,c)::cs) _:Sem _)=_;rw [ih _ fun y hy=>hx y (zoQ _ hy)];rw [List.filter_cons,zpc e1,zo0,List.reverse_cons,zoF,zoS];simp [hc]
   ·have e1:(x.2 == NameKind.free)=false:=by simpa using hk
    rw [zpb (by rw [e1];decide)];show (forIn r cs _:Sem _)=_;rw [ih _ fun y hy=>hx y (zoQ _ hy)];rw [List.filter_cons,zpb (by rw [e1];decide)]
 unfold closureFor zb0 zbo
 have:=key sc.names [] fun x hx hf=>h x.1 (by
  unfold zbo;exact zoP.mpr ⟨x,zoR.mpr ⟨hx,by rw [hf];rfl⟩,rfl⟩)
 rw [zoJ] at this;show (forIn sc.names [] _ >>= pure:Sem _)=_;refine Eq.trans (congrArg (· >>= pure) (Eq.trans (congrArg (fun f=>(forIn sc.names [] f:Sem (List (Str × Addr)))) (funext fun x=>funext fun r=>?_)) this)) rfl
 obtain⟨n,k⟩:=x
 rfl
theorem zei {f:Str->Addr} {x:Str}:∀ {l:List Str} {c:Addr},(l.map fun n=>(n,f n)).lookup x=some c->x∈l/\c=f x
 | [],_,h=>by simp at h
 | n::r,c,h=>by
  simp only [zo0,List.lookup_cons] at h;cases hx:x == n with
  | true =>
   rw [hx] at h;have e:x=n:=by simpa using hx
   subst e;exact⟨zo6,(zpk h).symm⟩
  | false =>
   rw [hx] at h;obtain⟨a,b⟩:=zei h;exact⟨zoQ _ a,b⟩
theorem zes {f:Str->Addr} {x:Str}:∀ {l:List Str},x∈l->(l.map fun n=>(n,f n)).lookup x=some (f x)
 | n::r,h=>by
  simp only [zo0,List.lookup_cons];cases hx:x == n with
  | true =>
   have e:x=n:=by simpa using hx
   subst e
   rfl
  | false =>
   rcases zpg.mp h with e | e
   ·subst e;simp at hx
   ·exact zes e
theorem zbx {env:Env}:∀ {names:List (Str × NameKind)} {x:Str},names.lookup x=some .free ->
  (names.map fun (n,k)=>if (k == NameKind.free && env.scope.kind == .function && env.kindOf n == some .cell) then (n,NameKind.cell) else (n,k)).lookup x=some .cell \/
  (names.map fun (n,k)=>if (k == NameKind.free && env.scope.kind == .function && env.kindOf n == some .cell) then (n,NameKind.cell) else (n,k)).lookup x=some .free
 | [],_,h=>by simp at h
 | (n,k)::r,x,h=>by
  have ih:=@zbx env r x;show List.lookup x ((if (k == NameKind.free && env.scope.kind == .function && env.kindOf n == some .cell)=true then (n,NameKind.cell) else (n,k))::_)=_ \/
   List.lookup x ((if (k == NameKind.free && env.scope.kind == .function && env.kindOf n == some .cell)=true then (n,NameKind.cell) else (n,k))::_)=_
  cases hx:x == n with
  | true =>
   simp only [List.lookup_cons,hx] at h;by_cases hc:(k == NameKind.free && env.scope.kind == .function && env.kindOf n == some .cell)=true
   ·rw [zpc hc];simp only [List.lookup_cons,hx];exact .inl trivial
   ·rw [zpb hc];simp only [List.lookup_cons,hx];exact .inr h
  | false =>
   simp only [List.lookup_cons,hx] at h;by_cases hc:(k == NameKind.free && env.scope.kind == .function && env.kindOf n == some .cell)=true
   ·rw [zpc hc];simp only [List.lookup_cons,hx];exact ih h
   ·rw [zpb hc];simp only [List.lookup_cons,hx];exact ih h
theorem zda {env:Env}:∀ {names:List (Str × NameKind)} {x:Str},(∀ y∈names,y.2≠.cell) ->
  ((names.map fun (n,k)=>if (k == NameKind.free && env.scope.kind == .function && env.kindOf n == some .cell) then (n,NameKind.cell) else (n,k)).lookup x=some .cell \/
  (names.map fun (n,k)=>if (k == NameKind.free && env.scope.kind == .function && env.kindOf n == some .cell) then (n,NameKind.cell) else (n,k)).lookup x=some .free)->(x,NameKind.free)∈names
 | [],_,_,h=>by simp at h
 | (n,k)::r,x,nc,h=>by
  have ih:=@zda env r x fun y hy=>nc y (zoQ _ hy)
  change (List.lookup x ((if (k == NameKind.free && env.scope.kind == .function && env.kindOf n == some .cell)=true then (n,NameKind.cell) else (n,k))::_)=_ \/
   List.lookup x ((if (k == NameKind.free && env.scope.kind == .function && env.kindOf n == some .cell)=true then (n,NameKind.cell) else (n,k))::_)=_) at h
  cases hx:x == n with
  | true =>
   have e:x=n:=by simpa using hx
   subst e;by_cases hc:(k == NameKind.free && env.scope.kind == .function && env.kindOf x == some .cell)=true
   ·have:k=.free:=by
     have:=(Bool.and_eq_true_iff.mp (Bool.and_eq_true_iff.mp hc).1).1
     simpa using this
    rw [this];exact zo6
   ·rw [zpb hc] at h;simp only [List.lookup_cons,hx] at h;rcases h with h | h
    ·exact absurd (zpk h) (nc (x,k) zo6)
    ·rw [zpk h];exact zo6
  | false =>
   refine zoQ _ (ih ?_);by_cases hc:(k == NameKind.free && env.scope.kind == .function && env.kindOf n == some .cell)=true
   ·rw [zpc hc] at h;simpa only [List.lookup_cons,hx] using h
   ·rw [zpb hc] at h;simpa only [List.lookup_cons,hx] using h
def znV (X:Cx) (own:List Str) (fr:List Nat):List Str:=own++fr.map fun k=>X.N.getD k Str.empty
def zkj (n:Nat) (fr:List Nat) (σ:St):St:=List.replicate n none++fr.map fun k=>(σ[k]?).join
def zaE (X:Cx) (sc:Scope) (own:List Str) (fr:List Nat) (C:Addr) (s₀:Shared) (H₀:Hp) (ex:List Addr):Cx where
 prog:=X.prog
 w:=X.w
 K:=X.K
 mg:=X.mg
 base:=X.base
 A:=X.A
 N:=znV X own fr
 s₀:=s₀
 H₀:=H₀
 env:=compEnvC sc (zb0 sc X.env) C X.env
 outer:=X.stack
 stack:=X.stack
 ex:=ex
 fn:=fun _=>false
 calm:=X.calm
 pn:=[]
 xe:=fun _ _=>False
def zma (X:Cx) (sc:Scope):List Nat->Prop
 | []=>True
 | k::r=>(sc.names.lookup (X.N.getD k Str.empty)=some .free/\(X.env.scope.names.lookup (X.N.getD k Str.empty)=some .cell\/X.env.scope.names.lookup (X.N.getD k Str.empty)=some .free))/\zma X sc r
theorem zma.mem {X:Cx} {sc:Scope}:∀ {fr:List Nat},zma X sc fr->∀ k∈fr,sc.names.lookup (X.N.getD k Str.empty)=some .free/\(X.env.scope.names.lookup (X.N.getD k Str.empty)=some .cell\/X.env.scope.names.lookup (X.N.getD k Str.empty)=some .free)
 | _::_,h,k,hk=>by
  rcases zpg.mp hk with e | e
  ·subst e;exact h.1
  ·exact zma.mem h.2 k e
def zdv (X:Cx):List Str->Prop
 | []=>True
 | n::r=>(X.env.scope.names.lookup n=some .cell\/X.env.scope.names.lookup n=some .free)/\zdv X r
theorem zdv.mem {X:Cx}:∀ {l:List Str},zdv X l->∀ n∈l,X.env.scope.names.lookup n=some .cell\/X.env.scope.names.lookup n=some .free
 | _::_,h,n,hn=>by
  rcases zpg.mp hn with e | e
  ·subst e;exact h.1
  ·exact zdv.mem h.2 n e
structure zaL (X:Cx) (sc:Scope) (fr:List Nat):Prop where
 kind:sc.kind=.function
 nocell:∀ y∈sc.names,y.2≠.cell
 names:∀ y∈sc.names,y.2=.local->sc.names.lookup y.1=some .local
 frees:zdv X (zbo sc)
 fr:zma X sc fr
section
variable {X:Cx} {sc:Scope} {own:List Str} {fr:List Nat} {pins:List (Addr × Obj)} {σ:St} {H:Hp} {s:Shared}
theorem zaL.cells (S:zaL X sc fr) (I:Inv X pins σ H s):∀ n∈zbo sc,∃ c,X.env.cells.lookup n=some c:=fun n hn=>I.ok.has n (S.frees.mem n hn)
theorem zaL.look (S:zaL X sc fr) (I:Inv X pins σ H s) {x:Str} {c:Addr} (h:(zb0 sc X.env).lookup x=some c):X.env.cells.lookup x=some c:=by
 obtain⟨a,b⟩:=zei h;obtain⟨d,e⟩:=S.cells I x (List.mem_reverse.mp a);rw [e] at b;rw [e,b]
 rfl
theorem zcI {x:Str} (h:(x,NameKind.free)∈sc.names):x∈zbo sc:=zoP.mpr ⟨_,zoR.mpr ⟨h,rfl⟩,rfl⟩
theorem zaL.back (S:zaL X sc fr) (I:Inv X pins σ H s) {x:Str} (hx:x∈zbo sc):∃ c,(zb0 sc X.env).lookup x=some c/\X.env.cells.lookup x=some c:=by
 obtain⟨c,e⟩:=S.cells I x hx;refine⟨c,?_,e⟩;unfold zb0;rw [zes (List.mem_reverse.mpr hx),e]
 rfl
theorem zjn (S:zaL X sc fr) {fp:List Addr} (I:Inv X pins σ H s) (hf:∀ b∈fp,zi3 X pins H b) (ho:∀ b∈fp,∃ o,s.heap.get? b=some o) {h₁:Heap} {t:Nat}
  (hns:h₁.Ns s.heap.objs.size (fun _=>none)) (hk:∀ b o,s.heap.get? b=some o->h₁.get? b=some o) :
  Inv (zaE X sc own fr s.heap.objs.size s H fp) [] (zkj own.length fr σ) H { s with heap:=h₁,toks:=t }:=by
 have ltC:∀ b o,s.heap.get? b=some o->b≠s.heap.objs.size:=fun b o e=>zph (zoY e)
 have cellOld:∀ x c,(zb0 sc X.env).lookup x=some c->∃ v,s.heap.IsCell c v:=fun x c e=>I.cell x c (S.look I e)
 refine⟨⟨I.ok.mod,S.kind,I.ok.glob,I.ok.blt,zoN _,fun x y c h1 h2=>I.ok.inj x y c (S.look I h1) (S.look I h2),fun x hx=>?_,fun x c z=>absurd z (by simp [zaE]),I.ok.hd,I.ok.frames,.inl rfl,fun b hb=>?_,I.bs,zoM I.ok.bsz I.sz,fun b o e hb=>?_,fun b hb=>?_,I.stack,I.stkFree⟩,
  rfl,I.bare,Un.kept hk,⟨_,hns,fun i x v e1 e2 e3=>?_⟩,fun x c e=>?_,I.hok.fresh (zoN _),fun x c e=>I.freeC x c (S.look I e),fun p hp=>absurd (show p∈([]:List (Addr × Obj)) from hp) (by simp),I.hok.kept hk,?_⟩
 ·have:=zda (env:=X.env) S.nocell hx
  obtain⟨c,e,_⟩:=S.back I (zcI this);exact⟨c,e⟩
 ·obtain⟨o,e⟩:=ho b hb;obtain⟨_,_,_,_,f4,_⟩:=hf b hb;exact⟨ltC b o e,fun x c e'=>f4 x c (S.look I e')⟩
 ·obtain⟨_,_,_,f3,_⟩:=hf b hb;rcases f3 with z | z
  ·exact I.ok.noex b o e z
  ·exact absurd (zoO (zoY e) (zoM I.ok.bsz z)) (Nat.lt_irrefl _)
 ·obtain⟨_,f1,f2,_⟩:=hf b hb;intro z;rcases zpg.mp (I.stkSub b z) with q | q
  ·exact f1 q
  ·exact f2 q
 ·
  have hi:own.length<=i:=by
   rcases Nat.lt_or_ge i own.length with z | z
   ·exfalso
    change (List.replicate own.length none++fr.map fun k=>(σ[k]?).join)[i]?=some (some v) at e2
    rw [zo2 (by simpa using z),List.getElem?_replicate,zpc z] at e2;cases e2
   ·exact z
  change (List.replicate own.length none++fr.map fun k=>(σ[k]?).join)[i]?=some (some v) at e2
  rw [zo3 (by simpa using hi),List.length_replicate,zoy] at e2
  change (own++fr.map fun k=>X.N.getD k Str.empty)[i]?=some x at e1
  rw [zo3 hi,zoy] at e1;cases e:fr[i-own.length]? with
  | none=>rw [e] at e1;cases e1
  | some k =>
   rw [e] at e1 e2;have e1:X.N.getD k Str.empty=x:=zpk e1;have e2:(σ[k]?).join=some v:=zpk e2;have e2':σ[k]?=some (some v):=by
    cases q:σ[k]? with
    | none=>rw [q] at e2;cases e2
    | some z=>rw [q] at e2;cases z with
     | none=>cases e2
     | some z=>rw [show z=v from zpk e2]
   have hkl:k<X.N.length:=by
    have:=(zoB.mp e2').1
    rw [I.len] at this;exact this
   have e1':X.N[k]?=some x:=by
    rw [zoz hkl,← e1];simp [List.getD,hkl]
   obtain⟨q1,q2⟩:=S.fr.mem k (zoC e);rw [e1] at q1 q2;have hvis:Vis X.env.scope x:=by
    rcases q2 with z | z
    ·exact .inr (.inl z)
    ·exact .inr (.inr z)
   obtain⟨m,hn,hl⟩:=I.loc;obtain⟨u,r,l⟩:=hl k x v e1' e2' hvis;refine⟨u,r,.inr ⟨?_,?_⟩⟩
   ·exact zbx (env:=X.env) q1
   ·rcases l with ⟨z,_⟩ | ⟨_,c,hc,z⟩
    ·exfalso
     have z:X.env.scope.names.lookup x=some .local:=z;rcases q2 with y | y
     ·rw [z] at y;cases y
     ·rw [z] at y;cases y
    ·obtain⟨c',h1,h2⟩:=S.back I (zcI (PySem.mem_of_lookup q1));rw [hc] at h2;cases h2;obtain⟨o,ho',hd⟩:=z;exact⟨c,h1,o,hk c o ho',hd⟩
 ·obtain⟨v,o,ho',hd⟩:=cellOld x c e;exact⟨v,o,hk c o ho',hd⟩
 ·show (List.replicate own.length none++fr.map fun k=>(σ[k]?).join).length=(own++fr.map fun k=>X.N.getD k Str.empty).length;simp
end
def PTs (X:Cx) (ifs:List Expr) (t:TT):Prop :=
 ∀ (pins:List (Addr × Obj)) (s:Shared) (σ:St) (H:Hp) (Q:Bool->Hp->Prop),Inv X pins σ H s->t σ H Q ->
  wpAny (model X.prog X.w) X.A (forIn ifs true fun c r=>if r=true then do let ok ← isTrue c X.env (eval c X.env);pure (ForInStep.yield ok) else pure (ForInStep.yield r)) (TP X pins σ Q) X.xe s
def tYes:TT:=fun _ H Q=>Q true H
theorem zcV {X:Cx}:PTs X [] tYes:=fun pins s σ H Q I h=>wpAny_tests_nil ⟨H,I,h⟩
theorem zeV {X:Cx} {c:Expr} {t:TT} (hc:PT X c t):PTs X [c] t:=fun pins s σ H Q I h=>wpAny_tests_one (hc pins s σ H Q I h)
abbrev TM:=Addr->St->Hp->(Hp->Prop)->Prop
def PM (X:Cx) (emit:Env->Addr->Sem Unit) (t:TM):Prop :=
 ∀ (pins:List (Addr × Obj)) (s:Shared) (σ:St) (H:Hp) (D:Addr) (Q:Hp->Prop),Inv X pins σ H s->t D σ H Q ->
  wpAny (model X.prog X.w) X.A (emit X.env D) (fun _ s'=>∃ H',Inv X pins σ H' s'/\Q H') X.xe s
def zfN (acc:HO) (wi:TI) (n:Nat) (fr:List Nat) (g:TG) (tc:TT) (tm:TM):St->Hp->(Addr->Hp->Prop)->Prop:=fun σ H Q =>
 wi σ H fun J H1=>∀ p,H1 p=none->∃ W:Nat->Nat->St->Hp->Prop,(∃ m,W 0 m (zkj n fr σ) (upd H1 p acc)) /\
  ∀ i m σ' H',W i m σ' H'->(J.stop i H'/\Q p H')\/(J.go i H'/\∃ N:St->Hp->Prop,(∀ σ2 H2,N σ2 H2->∃ m',m'<m/\W (i+1) m' σ2 H2)/\∀ x H2,J.yld i H' x H2->g x σ' H2 fun σ3 H3=>tc σ3 H3 fun b H4 =>
   if b=true then tm p σ3 H4 (N σ3) else N σ3 H4)
structure zch (e:Expr) (tg iter:Expr) (ifs:List Expr) (emit:Env->Addr->Sem Unit):Prop where
 cl:∃ gs,clausesOf e=⟨tg,iter,ifs,0⟩::gs
 under:∀ (A:Around) it acc env,A.under (.compLoop e 0 it acc env)=A
 den:∀ (prog:Program) (w:World) it acc env,(model prog w).den (.compLoop e 0 it acc env)=((compTurn e 0 it acc env).onRaise (fun x=>do noteFrame x env;theTreesLotGoes x))
 turn:∀ it D env,compTurn e 0 it (.ref D) env=(do
   standAt iter.pos
   match ← pyNext it with
   | none=>pure (.done .next)
   | some v =>
    letOwnedTupleGo tg it v
    assign tg env v
    let mut ok:=true
    for c in ifs do
     if ok then ok ← isTrue c env (eval c env)
    if ok then
     emit env D
    again (.compLoop e 0 it (.ref D) env))
 start:∀ (prog:Program) (w:World) (A:Around) (R:Result->Shared->Prop) (s:Shared) it acc env,codeAny (model prog w) A (.compLoop e 0 it acc env) R s ->
  wpAny (model prog w) A (pyIter it) (fun it' s'=>codeAny (model prog w) A (.compLoop e 0 it' acc env) R s') (notedBy (model prog w) A env fun x s'=>R (.error x) s') s ->
  codeAny (model prog w) A (.compStart e 0 it acc env) R s
section
variable {X:Cx} {sc:Scope} {own:List Str} {fr:List Nat} {e tg iter:Expr} {ifs:List Expr} {emit:Env->Addr->Sem Unit} {wi:TI} {g:TG} {tc:TT} {tm:TM} {acc:HO}
theorem zhJ (F:zch e tg iter ifs emit) (hc:X.calm=true) {C:Addr} {s₀:Shared} {H₀:Hp} {fp:List Addr} {it D:Addr} {tn:Nat->Heap->Prop} {J:It} {R:Result->Shared->Prop} {s:Shared}
  (hg:PG (zaE X sc own fr C s₀ H₀ fp) tg g) (ht:PTs (zaE X sc own fr C s₀ H₀ fp) ifs tc) (hm:PM (zaE X sc own fr C s₀ H₀ fp) emit tm)
  (T:zl5 X.prog X.w X.K tg J fp it tn) (hfp:∀ b∈fp,b≠C/\b ∉ frs X.stack/\∀ x c,(zb0 sc X.env).lookup x=some c->c≠b)
  (W:Nat->Nat->St->Hp->Prop) {Q:Hp->Prop} (turn:∀ i m σ' H',W i m σ' H'->(J.stop i H'/\Q H')\/(J.go i H'/\∃ N:St->Hp->Prop,(∀ σ2 H2,N σ2 H2->∃ m',m'<m/\W (i+1) m' σ2 H2)/\∀ x H2,J.yld i H' x H2->g x σ' H2 fun σ3 H3=>tc σ3 H3 fun b H4 =>
   if b=true then tm D σ3 H4 (N σ3) else N σ3 H4))
  (hR:∀ σ' H' s',Inv (zaE X sc own fr C s₀ H₀ fp) [] σ' H' s'->Q H'->R (.ok .next) s')
  {m0:Nat} {σ0:St} {H0:Hp} (I0:Inv (zaE X sc own fr C s₀ H₀ fp) [] σ0 H0 s) (st0:tn 0 s.heap) (fr0:∀ b∈fp,H0 b=none) (w0:W 0 m0 σ0 H0) :
  codeAny (model X.prog X.w) X.A (.compLoop e 0 (.ref it) (.ref D) (compEnvC sc (zb0 sc X.env) C X.env)) R s:=by
 have stat:∀ {H':Hp},(∀ b∈fp,H' b=none)->∀ b∈fp,zi3 (zaE X sc own fr C s₀ H₀ fp) [] H' b:=fun hn b hb =>
  ⟨hn b hb,(hfp b hb).1,(hfp b hb).2.1,.inl hb,(hfp b hb).2.2,fun p hp=>absurd (show p∈([]:List (Addr × Obj)) from hp) (by simp)⟩
 refine codeAny_loop rfl (fun n s'=>∃ i σ' H',Inv (zaE X sc own fr C s₀ H₀ fp) [] σ' H' s'/\tn i s'.heap/\(∀ b∈fp,H' b=none)/\W i n σ' H') (fun n s hI=>?_) m0 ⟨0,σ0,H0,I0,st0,fr0,w0⟩;rw [F.under,F.den];refine wpAny_noted ?_;rw [F.turn];obtain⟨i,σ3,H3,I3,st3,fr3,w3⟩:=hI;have lift:∀ {α:Type} {t:Sem α} {Q':α->Shared->Prop} {E:Value->Shared->Prop} {s:Shared},wpAny (model X.prog X.w) X.A t Q' (fun _ _=>False) s->wpAny (model X.prog X.w) X.A t Q' E s:=fun h=>wpAny_mono h (fun _ _ q=>q) fun _ _ z=>z.elim
 refine wpAny_bind (wpAny_standAt (wpAny_bind ?_));rcases turn i n σ3 H3 w3 with ⟨stop,qn⟩ | ⟨go,N,hN,step⟩
 ·refine lift (thn (T.done (zaE X sc own fr C s₀ H₀ fp) rfl rfl rfl hc i [] s σ3 H3 (fun _ _=>False) I3 (stat fr3) st3 stop) fun r s4 ⟨hr,I4⟩=>?_);subst hr;exact wpAny_pure (hR σ3 H3 s4 I4 qn)
 ·refine lift (thn (T.item (zaE X sc own fr C s₀ H₀ fp) rfl rfl rfl hc i [] s σ3 H3 (fun _ _=>False) I3 (stat fr3) st3 go) fun r s4 ⟨u,hr,h4⟩=>?_);subst hr;refine wpAny_bind (lift (thn h4 fun _ s5 ⟨x,H5,I5,r5,y5,st5,fr5⟩=>?_));have I5':=I5.pinned (stat fr5) (T.obj _ _ st5);refine wpAny_bind (lift (thn (hg _ s5 σ3 H5 x u _ I5' r5 (step x H5 y5)) fun _ s6 ⟨σ6,H6,I6,q6⟩=>?_));refine wpAny_bind (lift (thn (ht _ s6 σ6 H6 _ I6 q6) fun ok s7 ⟨H7,I7,q7⟩=>?_));have again:∀ {σ8:St} {H8:Hp} {s8:Shared},Inv (zaE X sc own fr C s₀ H₀ fp) ([]++zfx fp s5.heap) σ8 H8 s8->(∃ m',m'<n/\W (i+1) m' σ8 H8)->∃ m,m<n/\∃ i σ' H',Inv (zaE X sc own fr C s₀ H₀ fp) [] σ' H' s8/\tn i s8.heap/\(∀ b∈fp,H' b=none)/\W i m σ' H':=fun {σ8 H8 s8} I8 ⟨m',hm',w8⟩=>by
   refine⟨m',hm',i+1,σ8,H8,I8.unpinned,T.keep _ _ _ st5 fun b hb o e=>(I8.pin (b,o) (zo5 _ (zo5 _ (zck hb e)))).1,fun b hb=>?_,w8⟩;obtain⟨o,e,d⟩:=T.obj _ _ st5 b hb;exact (I8.pin (b,o) (zo5 _ (zo5 _ (zck hb e)))).2.1
  cases ok with
  | false=>exact wpAny_pure ⟨rfl,again I7 (hN _ _ q7)⟩
  | true =>
   refine wpAny_bind (lift (thn (hm _ s7 σ6 H7 D _ I7 q7) fun _ s8 ⟨H8,I8,q8⟩=>?_));exact wpAny_pure ⟨rfl,again I8 (hN _ _ q8)⟩
end
def zmc (X:Cx) (newAcc:Sem Value) (acc:HO):Prop :=
 ∀ (pins:List (Addr × Obj)) (s:Shared) (σ:St) (H:Hp) (E:Value->Shared->Prop) (Q:Value->Shared->Prop),Inv X pins σ H s ->
  (∀ p s',H p=none->p=s.heap.objs.size->(∀ b o,s.heap.get? b=some o->s'.heap.get? b=some o)->s'.os=s.os->Inv X pins σ (upd H p acc) s'->Q (.ref p) s')->wpAny (model X.prog X.w) X.A newAcc Q E s
theorem zfy {X:Cx}:zmc X (newList []) (.lst []):=by
 intro pins s σ H E Q I h;refine wpAny_newObj_type ?_;exact h _ _ (I.hok.fresh (zoN _)) rfl (fun b o e=>zoK _ e) rfl (I.lnew (its:=[]) (t':=s.toks) .nil (Nat.zero_le _))
theorem ziv {X:Cx}:zmc X newDict (.dK []):=by
 intro pins s σ H E Q I h;refine wpAny_newObj_type ?_;exact h _ _ (I.hok.fresh (zoN _)) rfl (fun b o e=>zoK _ e) rfl (I.laid (a:=s.heap.objs.size) (o:=.dK []) (t':=s.toks) (fun _ _ q=>zoK _ q) (zoN _) (zjc s.heap I.big))
section
variable {X:Cx} {sc:Scope} {own:List Str} {fr:List Nat} {e tg iter:Expr} {ifs:List Expr} {emit:Env->Addr->Sem Unit} {wi:TI} {g:TG} {tc:TT} {tm:TM} {acc:HO} {newAcc:Sem Value} {pos:Pos}
theorem zgq (F:zch e tg iter ifs emit) (hc:X.calm=true) (S:zaL X sc fr) (hi:PI X tg iter wi) (hnew:zmc X newAcc acc)
  (hg:∀ C s₀ H₀ fp,PG (zaE X sc own fr C s₀ H₀ fp) tg g) (ht:∀ C s₀ H₀ fp,PTs (zaE X sc own fr C s₀ H₀ fp) ifs tc) (hm:∀ C s₀ H₀ fp,PM (zaE X sc own fr C s₀ H₀ fp) emit tm)
  (hs:∀ x,foldedSetIterable iter X.env x=pure x) {use:Option (Value->Sem Unit)} {pins:List (Addr × Obj)} {s:Shared} {σ:St} {H:Hp} {Q:Addr->Hp->Prop} {Q':Value->Shared->Prop} (I:Inv X pins σ H s)
  (h:zfN acc wi own.length fr g tc tm σ H Q)
  (hq:∀ (p C:Addr) (H':Hp) (s':Shared) (m:Str->Option Value),Inv X pins σ H' s'->Q p H'->s'.heap.Ns C m->H' C=none->C≠X.env.locals->X.s₀.heap.objs.size<=C->(∀ x c,X.env.cells.lookup x=some c->c≠C)->(∀ q∈X.pn++pins,q.1≠C) ->
   compPost (model X.prog X.w) X.A X.xe use Q' (.ref p) C (.ok .next) s') :
  wpAny (model X.prog X.w) X.A (comprehension e sc X.env pos newAcc false (eval iter X.env) use) Q' X.xe s:=by
 obtain⟨gs,hcl⟩:=F.cl;refine wpAny_comprehension_free hcl hs (zex (S.cells I)) S.kind S.names (thn (hi pins s σ H _ I h) fun v s1 h1=>thn h1 fun itv s2 h2=>?_);obtain⟨it,fp,tn,J,H2,e2,I2,T,st2,f2,q2⟩:=h2;subst e2;refine hnew pins s2 σ H2 _ _ I2 fun p s3 np hp k3 os3 I3=>?_
 obtain⟨W,⟨m0,w0⟩,turn⟩:=q2 p np;refine wpAny_newFunctionEnv S.nocell (by intro x hx;simp at hx) (fun h₁ hns hsb=>?_) S.kind;have hk:∀ b o,s3.heap.get? b=some o->h₁.get? b=some o:=fun b o eb=>hsb.extBut b o (zph (zoY eb)) (zoK _ eb)
 have ob2:∀ b∈fp,∃ o,s2.heap.get? b=some o:=fun b hb=>let ⟨o,eo,_⟩:=T.obj _ _ st2 b hb;⟨o,eo⟩
 have fpn:∀ b∈fp,b≠p:=fun b hb z=>by
  obtain⟨o,eo⟩:=ob2 b hb;rw [z,hp] at eo;exact absurd (zoY eo) (Nat.lt_irrefl _)
 have f3:∀ b∈fp,zi3 X pins (upd H2 p acc) b:=fun b hb=>by
  obtain⟨a1,a2⟩:=f2 b hb;exact⟨by rw [zao (fpn b hb)];exact a1,a2⟩
 have ob3:∀ b∈fp,∃ o,s3.heap.get? b=some o:=fun b hb=>let ⟨o,eo⟩:=ob2 b hb;⟨o,k3 b o eo⟩
 have I4:=zjn (own:=own) (t:=s3.toks+([]:List (Str × Value)).length) S I3 f3 ob3 (h₁:=h₁) hns hk;have st4:tn 0 h₁:=T.keep _ _ _ st2 fun b hb o eo=>hk b o (k3 b o eo)
 have hfp:∀ b∈fp,b≠s3.heap.objs.size/\b ∉ frs X.stack/\∀ x c,(zb0 sc X.env).lookup x=some c->c≠b:=fun b hb=>by
  obtain⟨_,f1,f2',_,f4,_⟩:=f3 b hb;obtain⟨o,eo⟩:=ob3 b hb;refine⟨zph (zoY eo),fun z=>?_,fun x c ec=>f4 x c (S.look I3 ec)⟩;rcases zpg.mp (I3.stkSub b z) with q | q
  ·exact f1 q
  ·exact f2' q
 have loop:codeAny (model X.prog X.w) X.A (.compLoop e 0 (.ref it) (.ref p) (compEnvC sc (zb0 sc X.env) s3.heap.objs.size X.env)) (compPost (model X.prog X.w) X.A X.xe use Q' (.ref p) s3.heap.objs.size) { s3 with heap:=h₁,toks:=s3.toks+([]:List (Str × Value)).length }:=by
  refine zhJ (s₀:=s3) (H₀:=upd H2 p acc) (own:=own) (fr:=fr) (Q:=fun H'=>Q p H') F hc (hg _ _ _ _) (ht _ _ _ _) (hm _ _ _ _) T hfp W turn (fun σ' H' s' J' qq=>?_) I4 st4 (fun b hb=>(f3 b hb).1) w0;obtain⟨m,hn,_⟩:=J'.loc;have un:Un (frs X.stack) fp H2 H' s2.heap s'.heap:=(Un.laid (o:=acc) k3 (by rw [hp];exact zoN _) np).trans J'.base;have IX:Inv X pins σ H' s':=I2.call' (ch:=fp) (J'.os.trans os3) un J'.hok J'.bare fun b hb=>by
   obtain⟨_,f1,_,f3',f4,f5⟩:=f2 b hb;exact⟨f3',f1,f4,f5⟩
  refine hq p s3.heap.objs.size H' s' m IX qq hn J'.free (Ne.symm (zph I3.lt)) I3.sz (fun x c ec=>?_) fun q hq'=>?_
  ·obtain⟨v,o,eo,_⟩:=I3.cell x c ec;exact zph (zoY eo)
  ·exact zph (zoY (I3.pin q hq').1)
 exact F.start _ _ _ _ _ _ _ _ loop (T.self _ _ _ _ _ st4 loop)
theorem zea (F:zch e tg iter ifs emit) (hc:X.calm=true) (S:zaL X sc fr) (hi:PI X tg iter wi) (hnew:zmc X newAcc acc)
  (hg:∀ C s₀ H₀ fp,PG (zaE X sc own fr C s₀ H₀ fp) tg g) (ht:∀ C s₀ H₀ fp,PTs (zaE X sc own fr C s₀ H₀ fp) ifs tc) (hm:∀ C s₀ H₀ fp,PM (zaE X sc own fr C s₀ H₀ fp) emit tm)
  (hs:∀ x,foldedSetIterable iter X.env x=pure x) {pins:List (Addr × Obj)} {s:Shared} {σ:St} {H:Hp} {Q:VK} (I:Inv X pins σ H s)
  (h:zfN acc wi own.length fr g tc tm σ H fun p H'=>Q (.ref p) H') :
  wpAny (model X.prog X.w) X.A (comprehension e sc X.env pos newAcc false (eval iter X.env) none) (EP X pins σ Q) X.xe s:=by
 refine zgq F hc S hi hnew hg ht hm hs I h fun p C H' s' m I' q hn h1 h2 h3 h4 h5=>⟨m,hn,fun h' hb=>?_⟩
 exact⟨.ref p,H',I'.turned (t':=s'.toks) (fun b o hne eo=>hb.extBut b o hne eo) h1 h2 (.inr h3) h4 h5,rfl,q⟩
theorem zg8 (F:zch e tg iter ifs emit) (hc:X.calm=true) (S:zaL X sc fr) (hi:PI X tg iter wi) (hnew:zmc X newAcc acc)
  (hg:∀ C s₀ H₀ fp,PG (zaE X sc own fr C s₀ H₀ fp) tg g) (ht:∀ C s₀ H₀ fp,PTs (zaE X sc own fr C s₀ H₀ fp) ifs tc) (hm:∀ C s₀ H₀ fp,PM (zaE X sc own fr C s₀ H₀ fp) emit tm)
  (hs:∀ x,foldedSetIterable iter X.env x=pure x) {pins:List (Addr × Obj)} {s:Shared} {σ:St} {H:Hp} {D:zi2} {j:Nat} {y:Str} {py:Pos} (hN:X.N.Nodup) (hj:X.N[j]?=some y) (hy:Loc X.env.scope y)
  (hf:X.fn y=true\/X.env.scope.names.lookup y=some .local) (I:Inv X pins σ H s)
  (h:zfN acc wi own.length fr g tc tm σ H fun p H'=>D.nx (σ.set j (some (.ref p))) H') :
  wpAny (model X.prog X.w) X.A (comprehension e sc X.env pos newAcc false (eval iter X.env) (some (assign (.Name y py) X.env))) (fun _ s'=>SP X pins D .next s') X.xe s:=by
 refine zgq F hc S hi hnew hg ht hm hs I h fun p C H' s' m I' q hn h1 h2 h3 h4 h5=>?_
 show wpAny _ _ (assign (.Name y py) X.env (.ref p)) _ _ s';refine wpAny_assign_Name (zfM I' hN hj hy (show zaO (V.ref p) (Value.ref p) from rfl) (fun s2 I2 ⟨a,sb,ha⟩=>?_) hf);have hCa:C≠a:=by
  rcases ha with z | z
  ·rw [z];exact h2
  ·exact fun w=>h4 y a z w.symm
 refine⟨m,hn.sameBut sb hCa,fun h' hb=>?_⟩;exact⟨_,H',I2.turned (t':=s2.toks) (fun b o hne eo=>hb.extBut b o hne eo) h1 h2 (.inr h3) h4 h5,q⟩
end
def zk3 (elt:Expr):Env->Addr->Sem Unit:=fun env D=>do let _ ← call (.builtin "list.append") [.ref D,← eval elt env]
theorem zfo {elt tg iter:Expr} {ifs:List Expr} {sc:Scope} {pos:Pos}:zch (.ListComp elt [⟨tg,iter,ifs,0⟩] sc pos) tg iter ifs (zk3 elt) :=
 ⟨⟨_,rfl⟩,fun _ _ _ _=>rfl,fun _ _ _ _ _=>rfl,fun _ _ _=>rfl,fun _ _ _ _ _ _ _ _ h0 h=>codeAny_compStart_list h0 h⟩
def mApp (te:TE):TM:=fun p σ H Q=>te σ H fun y H1=>∃ ys,H1 p=some (.lst ys)/\ys.length<sizeLine/\Q (upd H1 p (.lst (ys++[y])))
theorem ziu {X:Cx} {elt:Expr} {te:TE} (h:PE X elt te):PM X (zk3 elt) (mApp te):=by
 intro pins s σ H D Q I hw;unfold zk3;refine wpAny_bind (thn (h pins s σ H _ I hw) fun u s1 ⟨y,H1,I1,r1,ys,e1,l1,q1⟩=>wpAny_bind ?_);obtain⟨z,its,n,r,hl,e⟩:=I1.lstM e1;refine call_meets F.slot_list_append ⟨_,e,rfl⟩ F.entry_list_append (F.args_list_append_2 _ _) (PySem.list_append D its.toArray n u (by rw [zo9];omega)) ⟨e,?_⟩;refine wpAny_pure ⟨_,I1.lset (its':=its++[u]) e1 e (by simp) (r.append (.cons r1 .nil)) ?_,q1⟩;rw [zoH,List.length_singleton];omega
def tLC (wi:TI) (n:Nat) (fr:List Nat) (g:TG) (tc:TT) (te:TE):TE:=fun σ H Q=>zfN (.lst []) wi n fr g tc (mApp te) σ H fun p H'=>Q (.ref p) H'
section
variable {X:Cx} {sc:Scope} {own:List Str} {fr:List Nat} {elt tg iter:Expr} {ifs:List Expr} {wi:TI} {g:TG} {tc:TT} {te:TE} {pos:Pos}
theorem zjM (hc:X.calm=true) (S:zaL X sc fr) (hi:PI X tg iter wi)
  (hg:∀ C s₀ H₀ fp,PG (zaE X sc own fr C s₀ H₀ fp) tg g) (ht:∀ C s₀ H₀ fp,PTs (zaE X sc own fr C s₀ H₀ fp) ifs tc) (he:∀ C s₀ H₀ fp,PE (zaE X sc own fr C s₀ H₀ fp) elt te)
  (hs:∀ x,foldedSetIterable iter X.env x=pure x:=by intro _;rfl):PE X (.ListComp elt [⟨tg,iter,ifs,0⟩] sc pos) (tLC wi own.length fr g tc te):=by
 intro pins s σ H Q I h;rw [eval_ListComp];exact zea zfo hc S hi zfy hg ht (fun _ _ _ _=>ziu (he _ _ _ _)) hs I h
theorem ziz {j:Nat} {y:Str} {py spos:Pos} (hc:X.calm=true) (hN:X.N.Nodup) (hj:X.N[j]?=some y) (hy:Loc X.env.scope y) (S:zaL X sc fr) (hi:PI X tg iter wi)
  (hg:∀ C s₀ H₀ fp,PG (zaE X sc own fr C s₀ H₀ fp) tg g) (ht:∀ C s₀ H₀ fp,PTs (zaE X sc own fr C s₀ H₀ fp) ifs tc) (he:∀ C s₀ H₀ fp,PE (zaE X sc own fr C s₀ H₀ fp) elt te)
  (hsw:swapsWith (.ListComp elt [⟨tg,iter,ifs,0⟩] sc pos) (some (.Name y py)) spos.line X.env=pure true:=by rfl)
  (hf:X.fn y=true\/X.env.scope.names.lookup y=some .local:=by first | exact .inl rfl | exact .inr rfl | assumption)
  (hs:∀ x,foldedSetIterable iter X.env x=pure x:=by intro _;rfl):PS X (.Assign [.Name y py] (.ListComp elt [⟨tg,iter,ifs,0⟩] sc pos) spos) (zom (tLC wi own.length fr g tc te) (zk5 j)):=by
 intro pins s σ H D I h;rw [exec_Assign_Name_used _ _ _ _ hsw];refine wpAny_bind (wpAny_standAt (wpAny_bind ?_));show wpAny _ _ (do let _ ← comprehension (.ListComp elt [⟨tg,iter,ifs,0⟩] sc pos) sc X.env _ (newList []) false (eval iter X.env) (some (assign (.Name y py) X.env))) _ _ s;refine wpAny_bind (thn (zg8 zfo hc S hi zfy hg ht (fun _ _ _ _=>ziu (he _ _ _ _)) hs hN hj hy hf I h) fun _ s' q=>wpAny_pure (wpAny_pure q))
end
def zk2 (kx vx:Expr):Env->Addr->Sem Unit:=fun env D=>do
 let kv ← eval kx env
 let vv ← holding [kv] (eval vx env)
 standAt { kx.pos with endLine:=vx.pos.endLine,endCol:=vx.pos.endCol }
 holding [kv,vv] (dictSet D kv vv)
theorem zhZ {kx vx tg iter:Expr} {ifs:List Expr} {sc:Scope} {pos:Pos}:zch (.DictComp kx vx [⟨tg,iter,ifs,0⟩] sc pos) tg iter ifs (zk2 kx vx) :=
 ⟨⟨_,rfl⟩,fun _ _ _ _=>rfl,fun _ _ _ _ _=>rfl,fun _ _ _=>rfl,fun _ _ _ _ _ _ _ _ h0 h=>codeAny_compStart_dict h0 h⟩
def mPut (tk tv:TE):TM:=fun p σ H Q=>tk σ H fun k H1=>tv σ H1 fun v H2=>∃ kvs key,H2 p=some (.dK kvs)/\k=kV key/\kvs.length<sizeLine/\Q (upd H2 p (.dK (zfA kvs key v)))
theorem zlD {X:Cx} {kx vx:Expr} {tk tv:TE} (hk:PE X kx tk) (hv:PE X vx tv):PM X (zk2 kx vx) (mPut tk tv):=by
 intro pins s σ H D Q I hw;unfold zk2;refine wpAny_bind (thn (hk pins s σ H _ I hw) fun u s1 ⟨k,H1,I1,r1,q1⟩=>wpAny_bind (wpAny_holding (thn (hv pins s1 σ H1 _ I1 q1) fun w s2 ⟨v,H2,I2,r2,kvs,key,e,ey,l,q2⟩=>?_)));refine wpAny_bind (wpAny_standAt (wpAny_holding ?_));subst ey;obtain⟨z,hd,vs,rel,dd⟩:=zg9 I2.hok e;have hz:vs.length<=sizeLine:=by rw [← rel.length];exact z
 have hl:(zfA kvs key v).length<=sizeLine:=by have:=zcB kvs key v;omega
 refine wpAny_dictSet_pairs (hsz:=hz) (zhg r1) dd fun h' dd' hs=>⟨_,?_,q2⟩
 have he:∃ q,h'.get? D=some q:=let ⟨q,_,_,hq,_⟩:=dd';⟨q,hq⟩;exact zdx I2 (by rw [e];exact True.intro) hs he (zhP hl hd (rel.put key r2) dd')
def tDC (wi:TI) (n:Nat) (fr:List Nat) (g:TG) (tc:TT) (tk tv:TE):TE:=fun σ H Q=>zfN (.dK []) wi n fr g tc (mPut tk tv) σ H fun p H'=>Q (.ref p) H'
section
variable {X:Cx} {sc:Scope} {own:List Str} {fr:List Nat} {kx vx tg iter:Expr} {ifs:List Expr} {wi:TI} {g:TG} {tc:TT} {tk tv:TE} {pos:Pos}
theorem zoa (hc:X.calm=true) (S:zaL X sc fr) (hi:PI X tg iter wi)
  (hg:∀ C s₀ H₀ fp,PG (zaE X sc own fr C s₀ H₀ fp) tg g) (ht:∀ C s₀ H₀ fp,PTs (zaE X sc own fr C s₀ H₀ fp) ifs tc) (hk:∀ C s₀ H₀ fp,PE (zaE X sc own fr C s₀ H₀ fp) kx tk) (hv:∀ C s₀ H₀ fp,PE (zaE X sc own fr C s₀ H₀ fp) vx tv)
  (hs:∀ x,foldedSetIterable iter X.env x=pure x:=by intro _;rfl):PE X (.DictComp kx vx [⟨tg,iter,ifs,0⟩] sc pos) (tDC wi own.length fr g tc tk tv):=by
 intro pins s σ H Q I h;show wpAny _ _ (comprehension (.DictComp kx vx [⟨tg,iter,ifs,0⟩] sc pos) sc X.env _ newDict false (eval iter X.env)) _ _ s;exact zea zhZ hc S hi ziv hg ht (fun _ _ _ _=>zlD (hk _ _ _ _) (hv _ _ _ _)) hs I h
end
theorem zbc {K:PySem.W.Frag} {a:Addr} {xs:List V} {g:TG} {tc:TT} {tm:TM} {σ:St} {H:Hp} {p:Addr} {Q:Hp->Prop} (Pv:Nat->St->Hp->Prop) (h0:Pv 0 σ H)
  (hl:∀ i σ H,i<=xs.length->Pv i σ H->SqL K H a xs)
  (hs:∀ i x σ H,xs[i]?=some x->Pv i σ H->g x σ H fun σ3 H3=>tc σ3 H3 fun b H4=>if b=true then tm p σ3 H4 (Pv (i+1) σ3) else Pv (i+1) σ3 H4) (hd:∀ σ H,Pv xs.length σ H->Q H) :
  ∃ W:Nat->Nat->St->Hp->Prop,(∃ m,W 0 m σ H) /\
  ∀ i m σ' H',W i m σ' H'->((Itl K a).stop i H'/\Q H')\/((Itl K a).go i H'/\∃ N:St->Hp->Prop,(∀ σ2 H2,N σ2 H2->∃ m',m'<m/\W (i+1) m' σ2 H2)/\∀ x H2,(Itl K a).yld i H' x H2->g x σ' H2 fun σ3 H3=>tc σ3 H3 fun b H4 =>
   if b=true then tm p σ3 H4 (N σ3) else N σ3 H4):=by
 refine⟨fun i m σ H=>m=xs.length-i/\i<=xs.length/\Pv i σ H,⟨xs.length,by simp,Nat.zero_le _,h0⟩,?_⟩;rintro i m σ H ⟨rfl,hi,pv⟩;have q:=hl i σ H hi pv;by_cases hlt:i<xs.length
 ·refine .inr ⟨⟨xs,xs[i],q,by simp [hlt]⟩,Pv (i+1),fun σ' H' p'=>⟨xs.length-(i+1),by omega,rfl,hlt,p'⟩,fun x H' y=>?_⟩;obtain⟨e,y⟩:=y;subst e;exact hs i x σ _ (y xs q) pv
 ·have e:i=xs.length:=by omega
  subst e;exact .inl ⟨⟨xs,q,zoN _⟩,hd σ H pv⟩
theorem zg7 {lo:Int} {n:Nat} {g:TG} {tc:TT} {tm:TM} {σ:St} {H:Hp} {p:Addr} {Q:Hp->Prop} (Pv:Nat->St->Hp->Prop) (h0:Pv 0 σ H)
  (hs:∀ i σ H,i<n->Pv i σ H->g (.int (lo+i)) σ H fun σ3 H3=>tc σ3 H3 fun b H4=>if b=true then tm p σ3 H4 (Pv (i+1) σ3) else Pv (i+1) σ3 H4) (hd:∀ σ H,Pv n σ H->Q H) :
  ∃ W:Nat->Nat->St->Hp->Prop,(∃ m,W 0 m σ H) /\
  ∀ i m σ' H',W i m σ' H'->((Itr lo n).stop i H'/\Q H')\/((Itr lo n).go i H'/\∃ N:St->Hp->Prop,(∀ σ2 H2,N σ2 H2->∃ m',m'<m/\W (i+1) m' σ2 H2)/\∀ x H2,(Itr lo n).yld i H' x H2->g x σ' H2 fun σ3 H3=>tc σ3 H3 fun b H4 =>
   if b=true then tm p σ3 H4 (N σ3) else N σ3 H4):=by
 refine⟨fun i m σ H=>m=n-i/\i<=n/\Pv i σ H,⟨n,by simp,Nat.zero_le _,h0⟩,?_⟩;rintro i m σ H ⟨rfl,hi,pv⟩;by_cases hlt:i<n
 ·refine .inr ⟨hlt,Pv (i+1),fun σ' H' p'=>⟨n-(i+1),by omega,rfl,hlt,p'⟩,fun x H' y=>?_⟩;obtain⟨e,y⟩:=y;subst e y;exact hs i σ _ hlt pv
 ·have e:i=n:=by omega
  subst e;exact .inl ⟨zoN _,hd σ H pv⟩
end L2
end
section
namespace L2
open PySem PySem.Spec PyProof.Rows
inductive DD where
 | non | bl (b:Bool) | int (i:Int) | str (x:Str) | lst (ds:List DD) | tup (ds:List DD)
mutual
def dep:DD->Nat
 | .lst ds=>depL ds+1
 | .tup ds=>depL ds+1
 | _=>0
def depL:List DD->Nat
 | []=>0
 | d::ds=>max (dep d) (depL ds)
end
mutual
def eqD:DD->DD->Bool
 | .non,.non=>true
 | .bl a,.bl b=>a == b
 | .bl a,.int b=>(if a then 1 else 0) == b
 | .int a,.bl b=>a == (if b then 1 else 0)
 | .int a,.int b=>a == b
 | .str a,.str b=>a == b
 | .lst as,.lst bs=>zeb as bs
 | .tup as,.tup bs=>zeb as bs
 | _,_=>false
def zeb:List DD->List DD->Bool
 | [],[]=>true
 | a::as,b::bs=>eqD a b && zeb as bs
 | _,_=>false
end
mutual
def Den (H:Hp) (v:V):DD->Prop
 | .non=>v=.non
 | .bl b=>v=.bl b
 | .int i=>v=.int i
 | .str x=>v=.str x
 | .lst ds=>∃ a xs,v=.ref a/\H a=some (.lst xs)/\zbQ H xs ds
 | .tup ds=>∃ a xs,v=.ref a/\H a=some (.tup xs)/\zbQ H xs ds
def zbQ (H:Hp) (xs:List V):List DD->Prop
 | []=>xs=[]
 | d::ds=>∃ x r,xs=x::r/\Den H x d/\zbQ H r ds
end
theorem zdp:∀ {ds:List DD} {d:DD},d∈ds->dep d<=depL ds
 | d::ds,e,h=>by
  rw [depL];rcases zpg.mp h with rfl | h
  ·omega
  ·have:=zdp h
   omega
theorem zbQ.length:∀ {H:Hp} {xs:List V} {ds:List DD},zbQ H xs ds->xs.length=ds.length
 | _,_,[],h=>by rw [zbQ] at h;subst h;rfl
 | _,_,d::ds,h=>by
  rw [zbQ] at h;obtain⟨x,r,rfl,_,h⟩:=h;simp [zbQ.length h]
theorem zbQ.get {H:Hp}:∀ {xs:List V} {ds:List DD} {i:Nat} {d:DD},zbQ H xs ds->ds[i]?=some d->∃ x,xs[i]?=some x/\Den H x d
 | _,[],_,_,_,e=>by simp at e
 | _,d::ds,i,c,h,e=>by
  rw [zbQ] at h;obtain⟨x,r,rfl,h1,h⟩:=h;cases i with
  | zero=>simp at e;subst e;exact⟨x,rfl,h1⟩
  | succ i =>
   obtain⟨y,e1,e2⟩:=zbQ.get (i:=i) h (by simpa using e);exact⟨y,by simpa using e1,e2⟩
theorem zbQ.get' {H:Hp} {xs:List V} {ds:List DD} {i:Nat} {x:V} (h:zbQ H xs ds) (e:xs[i]?=some x):∃ d,ds[i]?=some d/\Den H x d:=by
 have hi:i<ds.length:=by rw [← h.length];exact (zoB.mp e).1
 obtain⟨y,e1,e2⟩:=h.get (zoz hi);rw [e] at e1;cases e1;exact⟨_,zoz hi,e2⟩
def Sub (G H:Hp):Prop:=∀ a o,G a=some o->H a=some o
theorem Sub.refl {H:Hp}:Sub H H:=fun _ _ h=>h
theorem Sub.trans {A B C:Hp} (h:Sub A B) (h':Sub B C):Sub A C:=fun a o e=>h' a o (h a o e)
theorem Sub.upd {G H:Hp} {p:Addr} {o:HO} (h:Sub G H) (n:G p=none):Sub G (upd H p o):=fun a u e=>by
 rw [zao (zak e n)];exact h a u e
theorem Sub.new {H:Hp} {p:Addr} {o:HO} (n:H p=none):Sub H (L2.upd H p o):=Sub.upd Sub.refl n
theorem Sub.free {G H:Hp} {p:Addr} (h:Sub G H) (n:H p=none):G p=none:=by
 cases e:G p with
 | none=>rfl
 | some o=>rw [h p o e] at n;cases n
mutual
theorem Den.inj {H:Hp}:∀ {v:V} (d e:DD),Den H v d->Den H v e->d=e
 | v,.non,e,h,h'=>by
  rw [Den] at h;subst h;cases e <;> rw [Den] at h' <;> first | rfl | (cases h';done) | (obtain⟨_,_,z,_⟩:=h';cases z)
 | v,.bl b,e,h,h'=>by
  rw [Den] at h;subst h;cases e <;> rw [Den] at h' <;> first | (cases h';rfl) | (cases h';done) | (obtain⟨_,_,z,_⟩:=h';cases z)
 | v,.int b,e,h,h'=>by
  rw [Den] at h;subst h;cases e <;> rw [Den] at h' <;> first | (cases h';rfl) | (cases h';done) | (obtain⟨_,_,z,_⟩:=h';cases z)
 | v,.str b,e,h,h'=>by
  rw [Den] at h;subst h;cases e <;> rw [Den] at h' <;> first | (cases h';rfl) | (cases h';done) | (obtain⟨_,_,z,_⟩:=h';cases z)
 | v,.lst ds,e,h,h'=>by
  rw [Den] at h;obtain⟨a,xs,rfl,h1,h2⟩:=h;cases e <;> rw [Den] at h' <;> first | (cases h';done) | (obtain⟨b,ys,z,h3,h4⟩:=h';cases z;rw [h1] at h3;cases h3;done) | (obtain⟨b,ys,z,h3,h4⟩:=h';cases z;rw [h1] at h3;cases h3;rw [zbQ.inj ds _ h2 h4])
 | v,.tup ds,e,h,h'=>by
  rw [Den] at h;obtain⟨a,xs,rfl,h1,h2⟩:=h;cases e <;> rw [Den] at h' <;> first | (cases h';done) | (obtain⟨b,ys,z,h3,h4⟩:=h';cases z;rw [h1] at h3;cases h3;done) | (obtain⟨b,ys,z,h3,h4⟩:=h';cases z;rw [h1] at h3;cases h3;rw [zbQ.inj ds _ h2 h4])
theorem zbQ.inj {H:Hp}:∀ {xs:List V} (ds es:List DD),zbQ H xs ds->zbQ H xs es->ds=es
 | _,[],es,h,h'=>by
  rw [zbQ] at h;subst h;cases es with
  | nil=>rfl
  | cons e es=>obtain⟨_,_,z,_⟩:=h';cases z
 | _,d::ds,es,h,h'=>by
  rw [zbQ] at h;obtain⟨x,r,rfl,h1,h2⟩:=h;cases es with
  | nil=>cases h'
  | cons e es =>
   obtain⟨y,q,z,h3,h4⟩:=h';cases z;rw [Den.inj d e h1 h3,zbQ.inj ds es h2 h4]
end
mutual
theorem zbR:∀ d:DD,eqD d d=true
 | .non=>by simp [eqD]
 | .bl b=>by simp [eqD]
 | .int b=>by simp [eqD]
 | .str b=>by simp [eqD]
 | .lst ds=>by rw [eqD];exact zdB ds
 | .tup ds=>by rw [eqD];exact zdB ds
theorem zdB:∀ ds:List DD,zeb ds ds=true
 | []=>by simp [zeb]
 | d::ds=>by rw [zeb,zbR d,zdB ds];rfl
end
theorem zeB:∀ as bs:List DD,zeb as bs=((List.range (min as.length bs.length)).all (fun j=>eqD (as.getD j .non) (bs.getD j .non)) && as.length == bs.length)
 | [],[]=>by simp [zeb]
 | [],b::bs=>by simp [zeb]
 | a::as,[]=>by simp [zeb]
 | a::as,b::bs=>by
  rw [zeb,zeB as bs];rw [show min (a::as).length (b::bs).length=min as.length bs.length+1 by simp only [zpa];omega];rw [List.range_succ_eq_map,List.all_cons,List.all_map];simp only [List.getD_cons_zero,zpa,Bool.and_assoc]
  congr 1
  congr 1
  have:∀ (m n:Nat),(m+1 == n+1)=(m == n):=fun m n=>by
   by_cases h:m=n
   ·subst h;simp
   ·rw [beq_eq_false_iff_ne.mpr h,beq_eq_false_iff_ne.mpr (by omega)]
  rw [this]
section
variable {X:Cx} {pins:List (Addr × Obj)} {σ:St} {H:Hp} {s:Shared}
open PySem.SeqAt
def znH (A:Around) (s:Shared) (u v:Value) (b:Bool):Prop:=EqAt A s u v b/\RcAt A s u v b/\RcNeAt A s u v (!b)
theorem zcR {H:Hp} {xs:List V} {ds:List DD} {us:List Value} (h:zbQ H xs ds) (r:zaU xs us) {j:Nat} (hj:j<us.toArray.size):∃ x d,Den H x d/\zaO x (us.toArray[j])/\ds.getD j .non=d/\d∈ds:=by
 rw [zo9] at hj;have hj':j<xs.length:=by rw [r.length];exact hj
 obtain⟨u,e1,e2⟩:=r.get (zoz hj');obtain⟨d,e3,e4⟩:=h.get' (zoz hj');refine⟨_,d,e4,?_,?_,zoC e3⟩
 ·rw [zoz hj] at e1;cases e1;simpa using e2
 ·rw [zpf,e3];rfl
theorem zkp (I:Inv X pins σ H s):∀ (n:Nat) (d e:DD) (A:Around) (x y:V) (u v:Value),dep d<=n->Den H x d->Den H y e->zaO x u->zaO y v->A.units+n<cLine->znH A s u v (eqD d e):=by
 intro n
 induction n with
 | zero =>
  intro d e A x y u v hd hx hy rx ry hu;cases d with
  | lst ds=>simp [dep] at hd
  | tup ds=>simp [dep] at hd
  | non =>
   rw [Den] at hx;subst hx;cases rx;cases e with
   | non=>rw [Den] at hy;subst hy;cases ry;exact⟨EqAt.same _,RcAt.none_none,RcNeAt.none_none⟩
   | bl b=>rw [Den] at hy;subst hy;cases ry;exact⟨EqAt.none_bool b,RcAt.none_bool b,RcNeAt.none_bool b⟩
   | int b=>rw [Den] at hy;subst hy;obtain⟨t,rfl⟩:=ry;exact⟨EqAt.none_int b t,RcAt.none_int b t,RcNeAt.none_int b t⟩
   | str b=>rw [Den] at hy;subst hy;obtain⟨t,rfl⟩:=ry;exact⟨EqAt.none_str b t,RcAt.none_str b t,RcNeAt.none_str b t⟩
   | lst es=>rw [Den] at hy;obtain⟨a,xs,rfl,h1,h2⟩:=hy;cases ry;obtain⟨its,_,p,_⟩:=I.list (SqL.of h1);exact⟨EqAt.none_list p.isList hu,RcAt.none_list p.isList hu,RcNeAt.none_list p.isList hu⟩
   | tup es=>rw [Den] at hy;obtain⟨a,xs,rfl,h1,h2⟩:=hy;cases ry;obtain⟨its,_,p,_⟩:=I.tuple (SqT.of h1);exact⟨EqAt.none_tuple p hu,RcAt.none_tuple p hu,RcNeAt.none_tuple p hu⟩
  | bl a =>
   rw [Den] at hx;subst hx;cases rx;cases e with
   | non=>rw [Den] at hy;subst hy;cases ry;exact⟨EqAt.bool_none a,RcAt.bool_none a,RcNeAt.bool_none a⟩
   | bl b=>rw [Den] at hy;subst hy;cases ry;exact⟨EqAt.bool_bool a b,RcAt.bool_bool a b,RcNeAt.bool_bool a b⟩
   | int b=>rw [Den] at hy;subst hy;obtain⟨t,rfl⟩:=ry;exact⟨EqAt.bool_int a b t,RcAt.bool_int a b t,RcNeAt.bool_int a b t⟩
   | str b=>rw [Den] at hy;subst hy;obtain⟨t,rfl⟩:=ry;exact⟨EqAt.bool_str a b t,RcAt.bool_str a b t,RcNeAt.bool_str a b t⟩
   | lst es=>rw [Den] at hy;obtain⟨b,xs,rfl,h1,h2⟩:=hy;cases ry;obtain⟨its,_,p,_⟩:=I.list (SqL.of h1);exact⟨EqAt.bool_list a p.isList hu,RcAt.bool_list a p.isList hu,RcNeAt.bool_list a p.isList hu⟩
   | tup es=>rw [Den] at hy;obtain⟨b,xs,rfl,h1,h2⟩:=hy;cases ry;obtain⟨its,_,p,_⟩:=I.tuple (SqT.of h1);exact⟨EqAt.bool_tuple a p hu,RcAt.bool_tuple a p hu,RcNeAt.bool_tuple a p hu⟩
  | int a =>
   rw [Den] at hx;subst hx;obtain⟨t',rfl⟩:=rx;cases e with
   | non=>rw [Den] at hy;subst hy;cases ry;exact⟨EqAt.int_none a t',RcAt.int_none a t',RcNeAt.int_none a t'⟩
   | bl b=>rw [Den] at hy;subst hy;cases ry;exact⟨EqAt.int_bool a t' b,RcAt.int_bool a t' b,RcNeAt.int_bool a t' b⟩
   | int b=>rw [Den] at hy;subst hy;obtain⟨t,rfl⟩:=ry;exact⟨EqAt.int_int a t' b t,RcAt.int_int a t' b t,RcNeAt.int_int a t' b t⟩
   | str b=>rw [Den] at hy;subst hy;obtain⟨t,rfl⟩:=ry;exact⟨EqAt.int_str a t' b t,RcAt.int_str a t' b t,RcNeAt.int_str a t' b t⟩
   | lst es=>rw [Den] at hy;obtain⟨b,xs,rfl,h1,h2⟩:=hy;cases ry;obtain⟨its,_,p,_⟩:=I.list (SqL.of h1);exact⟨EqAt.int_list a t' p.isList hu,RcAt.int_list a t' p.isList hu,RcNeAt.int_list a t' p.isList hu⟩
   | tup es=>rw [Den] at hy;obtain⟨b,xs,rfl,h1,h2⟩:=hy;cases ry;obtain⟨its,_,p,_⟩:=I.tuple (SqT.of h1);exact⟨EqAt.int_tuple a t' p hu,RcAt.int_tuple a t' p hu,RcNeAt.int_tuple a t' p hu⟩
  | str a =>
   rw [Den] at hx;subst hx;obtain⟨t',rfl⟩:=rx;cases e with
   | non=>rw [Den] at hy;subst hy;cases ry;exact⟨EqAt.str_none a t',RcAt.str_none a t',RcNeAt.str_none a t'⟩
   | bl b=>rw [Den] at hy;subst hy;cases ry;exact⟨EqAt.str_bool a t' b,RcAt.str_bool a t' b,RcNeAt.str_bool a t' b⟩
   | int b=>rw [Den] at hy;subst hy;obtain⟨t,rfl⟩:=ry;exact⟨EqAt.str_int a t' b t,RcAt.str_int a t' b t,RcNeAt.str_int a t' b t⟩
   | str b=>rw [Den] at hy;subst hy;obtain⟨t,rfl⟩:=ry;exact⟨EqAt.str_str a t' b t,RcAt.str_str a t' b t,RcNeAt.str_str a t' b t⟩
   | lst es=>rw [Den] at hy;obtain⟨b,xs,rfl,h1,h2⟩:=hy;cases ry;obtain⟨its,_,p,_⟩:=I.list (SqL.of h1);exact⟨EqAt.str_list a t' p.isList hu,RcAt.str_list a t' p.isList hu,RcNeAt.str_list a t' p.isList hu⟩
   | tup es=>rw [Den] at hy;obtain⟨b,xs,rfl,h1,h2⟩:=hy;cases ry;obtain⟨its,_,p,_⟩:=I.tuple (SqT.of h1);exact⟨EqAt.str_tuple a t' p hu,RcAt.str_tuple a t' p hu,RcNeAt.str_tuple a t' p hu⟩
 | succ n ih =>
  intro d e A x y u v hd hx hy rx ry hu;have hu0:A.units<cLine:=by omega
  cases d with
  | lst ds =>
   have hdl:∀ c∈ds,dep c<=n:=fun c hc=>by have:=zdp hc;rw [dep] at hd;omega
   have hxd:=hx;rw [Den] at hx;obtain⟨a,xs,rfl,h1,h2⟩:=hx;cases rx;obtain⟨its,r,p,_⟩:=I.list (SqL.of h1);cases e with
   | non=>rw [Den] at hy;subst hy;cases ry;exact⟨EqAt.list_none p.isList hu0,RcAt.list_none p.isList hu0,RcNeAt.list_none p.isList hu0⟩
   | bl b=>rw [Den] at hy;subst hy;cases ry;exact⟨EqAt.list_bool b p.isList hu0,RcAt.list_bool b p.isList hu0,RcNeAt.list_bool b p.isList hu0⟩
   | int b=>rw [Den] at hy;subst hy;obtain⟨t,rfl⟩:=ry;exact⟨EqAt.list_int b t p.isList hu0,RcAt.list_int b t p.isList hu0,RcNeAt.list_int b t p.isList hu0⟩
   | str b=>rw [Den] at hy;subst hy;obtain⟨t,rfl⟩:=ry;exact⟨EqAt.list_str b t p.isList hu0,RcAt.list_str b t p.isList hu0,RcNeAt.list_str b t p.isList hu0⟩
   | tup es=>rw [Den] at hy;obtain⟨b,ys,rfl,h3,h4⟩:=hy;cases ry;obtain⟨its',_,p',_⟩:=I.tuple (SqT.of h3);exact⟨EqAt.list_tuple p.isList p' hu0,RcAt.list_tuple p.isList p' hu0,RcNeAt.list_tuple p.isList p' hu0⟩
   | lst es =>
    have hyd:=hy;rw [Den] at hy;obtain⟨b,ys,rfl,h3,h4⟩:=hy;cases ry;obtain⟨its',r',p',_⟩:=I.list (SqL.of h3);have l1:=h2.length;have l2:=h4.length;have l3:=r.length;have l4:=r'.length;have ch:∀ j (g1:j<its.toArray.size) (g2:j<its'.toArray.size),EqAt A.in1 s its.toArray[j] its'.toArray[j] (eqD (ds.getD j .non) (es.getD j .non)):=fun j g1 g2=>by
     obtain⟨x1,d1,a1,a2,a3,a4⟩:=zcR h2 r g1;obtain⟨x2,d2,b1,b2,b3,b4⟩:=zcR h4 r' g2;rw [a3,b3];exact (ih d1 d2 A.in1 x1 x2 _ _ (hdl d1 a4) a1 b1 a2 b2 (by show A.units+1+n<_;omega)).1
    have main:RcAt A s (.ref a) (.ref b) (eqD (.lst ds) (.lst es))/\RcNeAt A s (.ref a) (.ref b) (!eqD (.lst ds) (.lst es)):=by
     rw [eqD,zeB];by_cases hl:ds.length=es.length
     ·have hs:its.toArray.size=its'.toArray.size:=by simp;omega
      have e1:min ds.length es.length=its.toArray.size:=by simp;omega
      have e2:(ds.length == es.length)=true:=by simpa using hl
      rw [e1,e2,Bool.and_true];exact⟨RcAt.lists p.isList p'.isList hs hu0 ch,RcNeAt.lists p.isList p'.isList hs hu0 ch⟩
     ·have hs:(its.toArray.size != its'.toArray.size)=true:=by simp;omega
      have e2:(ds.length == es.length)=false:=by simpa using hl
      rw [e2,Bool.and_false];exact⟨RcAt.lists_lengths p.isList p'.isList hs hu0,RcNeAt.lists_lengths p.isList p'.isList hs hu0⟩
    refine⟨?_,main⟩;by_cases hab:a=b
    ·subst hab
     have:=Den.inj _ _ hxd hyd
     rw [this,zbR];exact EqAt.same _
    ·exact EqAt.of_refs hab main.1
  | tup ds =>
   have hdl:∀ c∈ds,dep c<=n:=fun c hc=>by have:=zdp hc;rw [dep] at hd;omega
   have hxd:=hx;rw [Den] at hx;obtain⟨a,xs,rfl,h1,h2⟩:=hx;cases rx;obtain⟨its,r,p,_⟩:=I.tuple (SqT.of h1);cases e with
   | non=>rw [Den] at hy;subst hy;cases ry;exact⟨EqAt.tuple_none p hu0,RcAt.tuple_none p hu0,RcNeAt.tuple_none p hu0⟩
   | bl b=>rw [Den] at hy;subst hy;cases ry;exact⟨EqAt.tuple_bool b p hu0,RcAt.tuple_bool b p hu0,RcNeAt.tuple_bool b p hu0⟩
   | int b=>rw [Den] at hy;subst hy;obtain⟨t,rfl⟩:=ry;exact⟨EqAt.tuple_int b t p hu0,RcAt.tuple_int b t p hu0,RcNeAt.tuple_int b t p hu0⟩
   | str b=>rw [Den] at hy;subst hy;obtain⟨t,rfl⟩:=ry;exact⟨EqAt.tuple_str b t p hu0,RcAt.tuple_str b t p hu0,RcNeAt.tuple_str b t p hu0⟩
   | lst es=>rw [Den] at hy;obtain⟨b,ys,rfl,h3,h4⟩:=hy;cases ry;obtain⟨its',_,p',_⟩:=I.list (SqL.of h3);exact⟨EqAt.tuple_list p p'.isList hu0,RcAt.tuple_list p p'.isList hu0,RcNeAt.tuple_list p p'.isList hu0⟩
   | tup es =>
    have hyd:=hy;rw [Den] at hy;obtain⟨b,ys,rfl,h3,h4⟩:=hy;cases ry;obtain⟨its',r',p',_⟩:=I.tuple (SqT.of h3);have l1:=h2.length;have l2:=h4.length;have l3:=r.length;have l4:=r'.length;have ch:∀ j (g1:j<its.toArray.size) (g2:j<its'.toArray.size),EqAt A.in1 s its.toArray[j] its'.toArray[j] (eqD (ds.getD j .non) (es.getD j .non)):=fun j g1 g2=>by
     obtain⟨x1,d1,a1,a2,a3,a4⟩:=zcR h2 r g1;obtain⟨x2,d2,b1,b2,b3,b4⟩:=zcR h4 r' g2;rw [a3,b3];exact (ih d1 d2 A.in1 x1 x2 _ _ (hdl d1 a4) a1 b1 a2 b2 (by show A.units+1+n<_;omega)).1
    have main:RcAt A s (.ref a) (.ref b) (eqD (.tup ds) (.tup es))/\RcNeAt A s (.ref a) (.ref b) (!eqD (.tup ds) (.tup es)):=by
     rw [eqD,zeB];have e1:min ds.length es.length=min its.toArray.size its'.toArray.size:=by simp;omega
     have e2:(ds.length == es.length)=(its.toArray.size == its'.toArray.size):=by
      rw [zo9,zo9,← l1,← l2,l3,l4]
     rw [e1,e2];exact⟨RcAt.tuples p p' hu0 ch,RcNeAt.tuples p p' hu0 ch⟩
    refine⟨?_,main⟩;by_cases hab:a=b
    ·subst hab
     have:=Den.inj _ _ hxd hyd
     rw [this,zbR];exact EqAt.same _
    ·exact EqAt.of_refs hab main.1
  | non=>exact ih .non e A x y u v (by simp [dep]) hx hy rx ry (by omega)
  | bl b=>exact ih (.bl b) e A x y u v (by simp [dep]) hx hy rx ry (by omega)
  | int b=>exact ih (.int b) e A x y u v (by simp [dep]) hx hy rx ry (by omega)
  | str b=>exact ih (.str b) e A x y u v (by simp [dep]) hx hy rx ry (by omega)
def rEqD:R2:=fun x y H Q=>∃ d e,Den H x d/\Den H y e/\dep d<=60/\Q (.bl (eqD d e)) H
def rNeD:R2:=fun x y H Q=>∃ d e,Den H x d/\Den H y e/\dep d<=60/\Q (.bl (!eqD d e)) H
theorem zdO {k:Nat} (hr:zcq k X.A):OpR X (compareOp .Eq) rEqD:=by
 intro pins s σ H x y v u Q I rx ry h;obtain⟨d,e,h1,h2,h3,q⟩:=h;have hu:=hr.units;exact (zkp I 60 d e X.A x y _ _ h3 h1 h2 rx ry (by omega)).2.1 _ _ _ _ ⟨.bl _,H,I,rfl,q⟩
theorem zkv {k:Nat} (hr:zcq k X.A):OpR X (compareOp .NotEq) rNeD:=by
 intro pins s σ H x y v u Q I rx ry h;obtain⟨d,e,h1,h2,h3,q⟩:=h;have hu:=hr.units;exact (zkp I 60 d e X.A x y _ _ h3 h1 h2 rx ry (by omega)).2.2 _ _ _ _ ⟨.bl _,H,I,rfl,q⟩
end
end L2
end
section
namespace L2
open PySem PySem.Spec PyProof.Rows
structure ExC (K:PySem.W.Frag) (C:Addr):Prop where
 ga:PySem.W.findIn K (.ref C) "__getattribute__"=some (some (.builtin "BaseException.__getattribute__"))
 na:PySem.W.findIn K (.ref C) "__getattr__"=some none
 cl:PySem.W.findIn K (.ref C) "__class__"=some (some (.builtin "object.__class__"))
 gt:PySem.W.specialIn K (.builtin "object.__class__") "__get__"=some (some (.builtin "getset_descriptor.__get__"))
 tk:PySem.W.takesIn K (.builtin "object.__class__")=some true
 mo:PySem.W.mroIn K C (.type "object")=some true
 mb:PySem.W.mroIn K C (.type "BaseException")=some true
 ci:(PySem.W.clsIn K C).isSome=true
section
variable {prog:Program} {w:World} {A:Around} {E:Value->Shared->Prop} {s:Shared} {K:PySem.W.Frag} {x C:Addr}
open PySem.W PySem.Builtin PySem.Builtin.ObjectAttr PySem.Builtin.Getset_descriptor
end
section
variable {X:Cx} {pins:List (Addr × Obj)} {σ:St} {H:Hp} {s:Shared} {A:Around} {E:Value->Shared->Prop} {Q:Value->Shared->Prop} {c:Value} {b:Bool}
end
end L2
end
section
namespace L2
open PySem PySem.Spec PyProof.Rows
def CXE (P:Program) (w:World):CXT:=fun outer H s E e s'=>∃ (x C:Addr) (B hr:Heap) (a0:Value) (H':Hp),e=.ref x/\s'.os=s.os/\AllBare s'.gens/\Un (frs outer) [] H H' s.heap hr/\HOk P w H' hr /\
 Heap.FlyingW B outer x (.ref C) a0 s'.heap/\hr.UpToSlots s'.heap/\hr.get? x=none/\(∀ b o,hr.get? b=some o->b ∉ frs outer->B.get? b=none->s.heap.objs.size<=b/\H' b=none) /\
 (∀ b o,hr.get? b=some o->B.get? b=none\/B.get? b=some o)/\E (.ref C) none H'
section
variable {X:Cx} {pins:List (Addr × Obj)} {σ:St} {H:Hp} {s:Shared}
theorem Inv.track {x:Addr} {o:HO} (I:Inv X pins σ H s) (h0:X.s₀.heap.get? x=none) (hx:H x=none) (hL:x≠X.env.locals) (hc:∀ y c,X.env.cells.lookup y=some c->c≠x) (hp:∀ p∈X.pn++pins,p.1≠x)
  (new:zaV X.prog X.w (upd H x o) s.heap x o):Inv X pins σ (upd H x o) s:=by
 have h0':∀ b ob,X.s₀.heap.get? b=some ob->b≠x:=fun b ob e z=>by rw [z,h0] at e;cases e
 refine⟨I.ok,I.os,I.bare,⟨I.base.keep,I.base.slot,fun b ob e n hb=>?_,I.base.there,fun b xs e=>?_,fun b ob u e=>?_,fun b ps e=>?_⟩,I.loc,I.cell,?_,fun y c e=>?_,fun p hq=>?_,fun b u e=>?_,I.len⟩
 ·rw [zao (h0' b ob e)];exact I.base.free b ob e n hb
 ·have q:=I.base.tups b xs e;rw [zao (zak q hx)];exact q
 ·have q:=I.base.frzs b ob u e;rw [zao (zak q hx)];exact q
 ·obtain⟨m,q⟩:=I.base.tbls b ps e;exact⟨m,by rw [zao (zak q hx)];exact q⟩
 ·rw [zao (Ne.symm hL)];exact I.free
 ·rw [zao (hc y c e)];exact I.freeC y c e
 ·obtain⟨a1,a2,a3⟩:=I.pin p hq;exact⟨a1,by rw [zao (hp p hq)];exact a2,a3⟩
 ·by_cases hb:b=x
  ·subst hb;rw [zaf] at e;cases e;exact new
  ·rw [zao hb] at e;exact (I.hok b u e).stay (fun _ _ _ q=>q) (fun c q=>by rw [zao (zak q hx)];exact q) fun c xs q=>by rw [zao (zak q hx)];exact q
theorem zlu {K:PySem.W.Frag} {h₀:Heap} {C:Addr} {bmB:List Value} {newId:String} (X:K.In h₀) (q:PySem.W.excIn K C bmB newId=true) :
  ∃ bm N nm q bs hdct sn sub ab col dd k0 k1 k2 k3 k5 mN,h₀.get? C=some (excClassObj nm q C N bs bm hdct sn sub ab col dd k0 k1 k2 k3 k5 newId)/\h₀.Ns N mN/\mN "__init__"=none/\OwnTail h₀ bmB bm:=by
 open PySem.W in
 unfold excIn at q;split at q
 ·rename_i dd cd sl ho;split at q
  ·rename_i C' bm k0 k1 k2 k3 n k5 hm hs;simp only [Bool.and_eq_true,beq_iff_eq,Bool.not_eq_true'] at q;obtain⟨⟨⟨⟨⟨rfl,rfl⟩,hdel⟩,ht⟩,hok⟩,hni⟩:=q;obtain⟨nm,bs,mro,ns,qn,hd,sn,sub,ab,col,del⟩:=cd;dsimp only at hm hdel hok hni;subst hm hdel;have hsl:sl=#[k0,k1,k2,k3,some (.builtin n),k5]:=by
    obtain⟨l⟩:=sl;simp only at hs;rw [hs]
   subst hsl;exact⟨bm,ns,nm,qn,bs,hd,sn,sub,ab,col,dd,k0,k1,k2,k3,k5,_,X _ _ ho,.of_isNs (PySem.W.isNs_of_in X hok),PySem.W.nsMap_none_of_in X hok hni,PySem.W.tail_of_in X ht⟩
  ·cases q
 ·cases q
abbrev zhC:List Value:=[.type "ValueError",.type "Exception",.type "BaseException",.type "object"]
structure ExK (K:PySem.W.Frag) (C:Addr):Prop where
 inn:PySem.W.excIn K C zhC "ValueError.__new__"=true
 kp:PySem.W.keepIn K (.ref C)=true
section
variable {C:Addr} {y:Str} {p pos:Pos} {e:Expr} {es:List Expr} {t:TA}
end
def zme (X:Cx) (E:St->Addr->Hp->Prop):Prop:=∀ (pins:List (Addr × Obj)) (σ:St) (H:Hp) (s:Shared) (h':Heap) (x C:Addr) (vs:List Value),Inv X pins σ H s->Heap.MadeExcOf s.heap h' x (.ref C) vs->E σ C H->X.xe (.ref x) { s with heap:=h' }
def znr (C:Addr) (E:St->Addr->Hp->Prop) (t:TA):TS:=fun _ σ H=>t σ H fun vs H1=>vs.length<=sizeLine/\E σ C H1
section
variable {C:Addr} {y:Str} {np cpos pos:Pos} {e:Expr} {es:List Expr} {t:TA} {E:St->Addr->Hp->Prop}
theorem zjR (hc:X.calm=true) (M:ExK X.K C) (hg:Gl X y) (hm:X.mg y=some (.ref C)) (hw:zme X E) (ha:PA X (e::es) t) (hdb:(y == ("__debug__":Str))=false:=by decide)
  (he:starEach (e::es) X.env=(false,eval e X.env)::starEach es X.env:=by rfl) (hpl:(backTo cpos (starEach es X.env)).any (·.1)=false:=by rfl):PS X (.Raise (some (.Call (.Name y np) (e::es) [] cpos)) none pos) (znr C E t):=by
 intro pins s σ H D I h;obtain⟨bm,N,nm,q,bs,hdct,sn,sub,ab,col,dd,k0,k1,k2,k3,k5,mN,hC,hN,hni,T⟩:=zlu I.ok.mod.kin M.inn;refine wpAny_Raise_call_subT (C:=C) (nm:=nm) (q:=q) (N:=N) (bs:=bs) (bm:=bm) (hdct:=hdct) (sn:=sn) (sub:=sub) (ab:=ab) (col:=col) (dd:=dd) (k0:=k0) (k1:=k1) (k2:=k2) (k3:=k3) (k5:=k5)
  PySem.F.excBase_ValueError (mN:=mN) (T.hasType PySem.F.excBase_ValueError.hasBase) (I.ok.hd hc) (by rw [he];show (false || (backTo cpos (starEach es X.env)).any (·.1))=false;rw [hpl];rfl) hni (zdH I hg hm ⟨rfl,?_⟩ hdb)
 have ha':=ha cpos pins s σ H _ I h;rw [he] at ha' ⊢;refine Calls.evalArgs_plain (thn ha' fun us s1 ⟨vs,H1,I1,r,z,hE⟩=>⟨rfl,by rw [← r.length];exact z,I1.bk _ _ hC,hN.keeps I1.bk,T.keeps I1.bk,fun h' x m=>?_⟩);exact hw pins σ H1 s1 h' x C _ I1 m hE
end
section
variable {P:Program} {w:World} {K:PySem.W.Frag} {mg:Str->Option Value} {base:Heap} {N:List Str} {qual:Str} {scope:Scope} {f:Addr} {cd:Value} {A:Around} {outer:List Env} {s:Shared} {H:Hp} {E:XK}
theorem zlb {h:Heap} {as:List Addr} {b:Addr} {o:Obj} (e:h.get? b=some o):(PySem.W.hideAll h as).get? b=none\/(PySem.W.hideAll h as).get? b=some o:=by
 by_cases hb:b∈as
 ·exact .inl (PySem.W.hideAll_none as hb)
 ·exact .inr (PySem.W.hideAll_get _ e hb)
theorem zhz {h:Heap} {as:List Addr}:(PySem.W.hideAll h as).StaysIn h:=fun b o e=>PySem.W.of_hideAll as e
theorem Inv.hidden {X:Cx} {pins:List (Addr × Obj)} {σ:St} {H:Hp} {s:Shared} (I:Inv X pins σ H s):s.heap.FunFrames (PySem.W.hideAll s.heap (frs X.stack)) X.stack :=
 PySem.W.funFrames_hide I.stack fun env he b hb=>List.mem_filterMap.mpr ⟨env,he,hb⟩
theorem zj4:zme (zhK (CXE P w) P w K mg base N qual scope f cd A outer s H E) (fun _ C H'=>E (.ref C) none H'):=by
 intro pins σ H1 s1 h' x C vs I m hE;show wpAny (model P w) _ (leaving (envOfC qual scope s.heap.objs.size f cd) (.ref x)) _ _ _;have hst:frs (zhK (CXE P w) P w K mg base N qual scope f cd A outer s H E).stack=s.heap.objs.size::frs outer:=rfl;refine wpAny_leaves_madeW (base:=PySem.W.hideAll s1.heap (frs (zhK (CXE P w) P w K mg base N qual scope f cd A outer s H E).stack)) (h:=s1.heap) (env:=envOfC qual scope s.heap.objs.size f cd) (outer:=outer) I.ok.frames rfl zhz I.hidden m fun h2 t fl _ _ up=>?_
 refine⟨x,C,_,s1.heap,_,H1,rfl,I.os,I.bare,I.base,I.hok,fl,(Heap.UpToSlots.of_keeps m.keeps).trans up,m.new,fun b o e hb n=>?_,fun b o e=>zlb e,hE⟩;by_cases hs:b∈frs (zhK (CXE P w) P w K mg base N qual scope f cd A outer s H E).stack
 ·rw [hst] at hs;rcases zpg.mp hs with z | z
  ·subst z;exact⟨zoN _,I.free⟩
  ·exact absurd z hb
 ·rw [PySem.W.hideAll_get _ e hs] at n;cases n
theorem Fun.okE {x qual:Str} {st:Stmt} {f:Addr} {fd:FuncData} {N ps:List Str} {k:Nat} {sp:Sp} (F:Fun K x qual st f fd) (S:zar N ps (zae st)) (len:∀ vs H Q E,sp vs H Q E->vs.length=ps.length)
  (hbody:∀ (cdv:Value) (A:Around) (outer:List Env) (s:Shared) (H:Hp) (vs:List V) (Q:VK) (E:XK),zcq k (A.deeper (envOfC qual (zae st) s.heap.objs.size f cdv))->sp vs H Q E ->
   ∃ t,PSs (zhK (CXE P w) P w K mg base N qual (zae st) f cdv A outer s H E) (zaq st) t/\t { nx:=fun _ H'=>Q .non H',rt:=Q } (start N vs) H):zbr P w K mg base (CXE P w) (k+1) f fd ps sp:=by
 obtain⟨oc,od,kV,doc,pm,an,cdv,ct,osl,rfl,lk,hcd⟩:=F.ex;exact zmw lk hcd S len fun A outer s H vs Q E hr hsp=>hbody cdv A outer s H vs Q E hr hsp
end
section
variable {X:Cx} {pins:List (Addr × Obj)} {σ:St} {H:Hp} {s:Shared} {T:St->Addr->Hp->Prop} {pn:List (Addr × Obj)} {x:Addr}
end
end
end L2
end
section
namespace L2
open PySem PySem.Spec PyProof.Rows
theorem PE.imp {X:Cx} {e:Expr} {t t':TE} (h:PE X e t) (i:∀ σ H Q,t' σ H Q->t σ H Q):PE X e t':=fun pins s σ H Q I q=>h pins s σ H Q I (i σ H Q q)
theorem OpR.imp {X:Cx} {f:Value->Value->Sem Value} {r r':R2} (h:OpR X f r) (i:∀ x y H Q,r' x y H Q->r x y H Q):OpR X f r':=fun pins s σ H x y v u Q I rx ry q=>h pins s σ H x y v u Q I rx ry (i x y H Q q)
theorem zbu.imp {X:Cx} {f:Value} {r r':List V->Hp->VK->Prop} (h:zbu X f r) (i:∀ xs H Q,r' xs H Q->r xs H Q):zbu X f r':=fun pins s σ H xs us Q I rx q=>h pins s σ H xs us Q I rx (i xs H Q q)
@[irreducible] def ifB (b:Bool) (p q:Prop):Prop:=if b=true then p else q
theorem zef (b:Bool) (p q:Prop):ifB b p q=(if b=true then p else q):=by unfold ifB;rfl
theorem ifB.mk {b:Bool} {p q:Prop} (h1:b=true->p) (h2:b=false->q):ifB b p q:=by
 rw [zef];cases b with
 | true=>rw [zpc rfl];exact h1 rfl
 | false=>rw [zpb zpj];exact h2 rfl
theorem ifB.yes {b:Bool} {p q:Prop} (e:b=true) (h:p):ifB b p q:=ifB.mk (fun _=>h) fun z=>by rw [e] at z;cases z
theorem ifB.no {b:Bool} {p q:Prop} (e:b=false) (h:q):ifB b p q:=ifB.mk (fun z=>by rw [e] at z;cases z) fun _=>h
theorem ifB.dec {c:Prop} [Decidable c] {p q:Prop} (h1:c->p) (h2:¬ c->q):ifB (decide c) p q:=ifB.mk (fun z=>h1 (zpi z)) fun z=>h2 (of_decide_eq_false z)
def tV (i:Nat):TE:=fun σ H Q=>match σ[i]? with | some (some v)=>Q v H | _=>False
def bV (x:V) (Q:Bool->Prop):Prop:=match x with | .bl k=>Q k | _=>False
def cT (t:TE):TT:=fun σ H Q=>t σ H fun x H'=>bV x fun k=>Q k H'
def cI (f:Int->Int->V):R2:=fun x y H Q=>match x,y with | .int i,.int j=>Q (f i j) H | _,_=>False
def cL (C:Int->Int->Prop) (f:Int->Int->Int) (F:Int->Int->Int->Prop):R2:=fun x y H Q=>match x,y with | .int i,.int j=>C i j/\∀ m,m=f i j->F i j m->Q (.int m) H | _,_=>False
abbrev CMod (_ j:Int):Prop:=0<j
theorem cpow {i j:Int} (h:(decide (0<=j) && decide (j<=1000000) && decide (i.natAbs<2 ^ 64))=true):znF i j:=by
 simp only [Bool.and_eq_true,decide_eq_true_eq] at h;exact⟨h.1.1,h.1.2,h.2⟩
abbrev zl6 (_ j:Int):Prop:=0<j/\j.natAbs.log2<9000
def zi7 (neg:Bool):R2:=fun x y H Q=>match x,y with
 | .int i,.int j=>Q (.bl (if neg then !decide (i=j) else decide (i=j))) H
 | .str i,.str j=>Q (.bl (if neg then !decide (i=j) else decide (i=j))) H
 | .bl i,.bl j=>Q (.bl (if neg then !decide (i=j) else decide (i=j))) H
 | _,_=>False
section
variable {X:Cx} {a b:Expr} {ta tb:TE} {pos:Pos}
theorem zns {i:Nat} {σ:St} {H:Hp} {Q:VK} (h:tV i σ H Q):tVar i σ H Q:=by
 unfold tV at h;split at h
 ·rename_i v e;exact⟨v,e,h⟩
 ·exact h.elim
theorem qv (i:Nat) {x:Str} {pos:Pos} (hN:X.N[i]?=some x:=by rfl) (hv:Vis X.env.scope x:=by first | exact Or.inl rfl | exact Or.inr (Or.inl rfl) | exact Or.inr (Or.inr rfl)) (hd:(x == ("__debug__":Str))=false:=by decide)
  (hcd:(x == ("__classdict__":Str))=false:=by decide):PE X (.Name x pos) (tV i):=(zm0 hN hv hd hcd).imp fun _ _ _ h=>zns h
theorem zg6 {f:Int->Int->V} {x y:V} {H:Hp} {Q:VK} (h:cI f x y H Q):rI0 f x y H Q:=by
 unfold cI at h;split at h
 ·exact⟨_,_,rfl,rfl,h⟩
 ·exact h.elim
theorem zbD:OpR X (binaryOp .Add) (cI fun i j=>.int (i+j)):=zmO.imp fun _ _ _ _=>zg6
theorem zcW:OpR X (binaryOp .Sub) (cI fun i j=>.int (i-j)):=zmV.imp fun _ _ _ _=>zg6
theorem zi8 {C:Int->Int->Prop} {f:Int->Int->Int} {F:Int->Int->Int->Prop} (hF:∀ i j,C i j->F i j (f i j)) {x y:V} {H:Hp} {Q:VK} (h:cL C f F x y H Q):rI C (fun i j=>.int (f i j)) x y H Q:=by
 unfold cL at h;split at h
 ·exact⟨_,_,rfl,rfl,h.1,h.2 _ rfl (hF _ _ h.1)⟩
 ·exact h.elim
theorem zcr:OpR X (binaryOp .Mult) (cL znB (fun i j=>i*j) fun _ _ _=>True):=zmT.imp fun _ _ _ _=>zi8 fun _ _ _=>trivial
theorem zhr:OpR X (binaryOp .Mod) (cL CMod (fun i j=>i % j) fun _ j m=>0<=m/\m<j):=zmS.imp fun _ _ _ _ h=>zi8 (fun i j hj=>⟨Int.emod_nonneg _ (by have:0<j:=hj;omega),Int.emod_lt_of_pos _ hj⟩) h
theorem zm8:OpR X (binaryOp .FloorDiv) (cL zl6 (fun i j=>i / j) fun _ _ _=>True):=by
 intro pins s σ H x y v u Q I rx ry h;obtain⟨i,j,rfl,rfl,⟨h0,h1⟩,q⟩:=zi8 (fun _ _ _=>trivial) h;obtain⟨t,rfl⟩:=rx;obtain⟨t',rfl⟩:=ry;refine floordiv_int (by omega) ?_ (.inl (PyProof.noPylong_of_log2 h1));rw [Int.fdiv_eq_ediv_of_nonneg _ (by omega)];exact⟨.int _,H,I.tok _,⟨_,rfl⟩,q⟩
theorem znc:OpR X (binaryOp .Pow) (cL znF (fun i j=>i ^ j.toNat) fun _ _ _=>True):=zmU.imp fun _ _ _ _=>zi8 fun _ _ _=>trivial
theorem zna:OpR X (compareOp .Lt) (cI fun i j=>.bl (decide (i<j))):=zn9.imp fun _ _ _ _=>zg6
theorem zhq:OpR X (compareOp .LtE) (cI fun i j=>.bl (decide (i<=j))):=zn8.imp fun _ _ _ _=>zg6
theorem q_gt:OpR X (compareOp .Gt) (cI fun i j=>.bl (decide (j<i))):=zn7.imp fun _ _ _ _=>zg6
theorem zod:OpR X (compareOp .GtE) (cI fun i j=>.bl (decide (j<=i))):=zn6.imp fun _ _ _ _=>zg6
theorem dI {i j:Int}:decide (i=j)=(i == j):=by rw [Bool.eq_iff_iff];simp
theorem dB {i j:Bool}:decide (i=j)=(i == j):=by rw [Bool.eq_iff_iff];simp
theorem dS {i j:Str}:decide (i=j)=(i == j):=by rw [Bool.eq_iff_iff];simp
theorem zhf {p q:Prop} (h:ifB true p q):p:=by rw [zef,zpc rfl] at h;exact h
theorem zhe {p q:Prop} (h:ifB false p q):q:=by rw [zef,zpb zpj] at h;exact h
theorem zd5:OpR X (compareOp .Eq) (zi7 false):=by
 intro pins s σ H x y v u Q I rx ry h;unfold zi7 at h;split at h
 ·obtain⟨t,rfl⟩:=rx;obtain⟨t',rfl⟩:=ry;exact SeqAt.RcAt.int_int _ t _ t' _ _ _ _ (zc7 I h (by rw [zpb (by decide)];exact dI))
 ·obtain⟨t,rfl⟩:=rx;obtain⟨t',rfl⟩:=ry;exact SeqAt.RcAt.str_str _ t _ t' _ _ _ _ (zc7 I h (by rw [zpb (by decide)];exact dS))
 ·cases rx;cases ry;exact SeqAt.RcAt.bool_bool _ _ _ _ _ _ (zc7 I h (by rw [zpb (by decide)];exact dB))
 ·exact h.elim
theorem znb:OpR X (compareOp .NotEq) (zi7 true):=by
 intro pins s σ H x y v u Q I rx ry h;unfold zi7 at h;split at h
 ·obtain⟨t,rfl⟩:=rx;obtain⟨t',rfl⟩:=ry;exact SeqAt.RcNeAt.int_int _ t _ t' _ _ _ _ (zc7 I h (by rw [zpc rfl,dI]))
 ·obtain⟨t,rfl⟩:=rx;obtain⟨t',rfl⟩:=ry;exact SeqAt.RcNeAt.str_str _ t _ t' _ _ _ _ (zc7 I h (by rw [zpc rfl,dS]))
 ·cases rx;cases ry;exact SeqAt.RcNeAt.bool_bool _ _ _ _ _ _ (zc7 I h (by rw [zpc rfl,dB]))
 ·exact h.elim
def cNeg:V->Hp->VK->Prop:=fun x H Q=>match x with | .int i=>Q (.int (-i)) H | _=>False
theorem ziF:UnR X (unaryOp .USub) cNeg:=by
 intro pins s σ H x v Q I rx h;refine znv pins s σ H x v Q I rx ?_;unfold cNeg at h;split at h
 ·exact⟨_,rfl,h⟩
 ·exact h.elim
theorem zeu {x:V} {Q:Bool->Prop} (h:bV x Q):∃ k,x=.bl k/\Q k:=by
 cases x with
 | bl k=>exact⟨k,rfl,h⟩
 | _=>exact False.elim h
theorem zlJ {e:Expr} {t:TE} (h:PE X e t) (he:∀ whole,isTrue e X.env whole=(do let v ← whole;standAt e.pos;holding [v] (truthy v)):=by intro _;rfl):PT X e (cT t):=by
 intro pins s σ H Q I hw;rw [he];refine wpAny_bind (thn (h pins s σ H _ I hw) fun v s1 ⟨x,H1,I1,r1,q1⟩=>wpAny_bind (wpAny_standAt (wpAny_holding ?_)));obtain⟨k,rfl,q⟩:=zeu q1;cases r1;exact wpAny_truthy_bool ⟨H1,I1,q⟩
theorem zbJ {op:CmpOp} {r:R2} (ho:OpR X (compareOp op) r) (ha:PE X a ta) (hb:PE X b tb) (hm:behindInMarks op b=false:=by first | exact zaP _ | rfl):PT X (.Compare a [op] [b] pos) (cT (tOp r ta tb)):=by
 intro pins s σ H Q I hw;refine wpAny_isTrue_Compare1 (thn (ha pins s σ H _ I hw) fun v s1 ⟨x,H1,I1,r1,q1⟩=>thn (hb pins s1 σ H1 _ I1 q1) fun u s2 ⟨y,H2,I2,r2,q2⟩ =>
  thn (ho pins s2 σ H2 x y v u _ I2 r1 r2 q2) fun c s3 ⟨z,H3,I3,r3,q3⟩=>?_) hm
 obtain⟨k,rfl,q⟩:=zeu q3;cases r3;exact wpAny_truthy_bool ⟨H3,I3,q⟩
def zkg (r r':R2) (ta tb tc:TE):TE:=fun σ H Q=>ta σ H fun x H1=>tb σ H1 fun y H2=>r x y H2 fun z H3=>bV z fun k=>ifB k (tc σ H3 fun u H4=>r' y u H4 Q) (Q (.bl false) H3)
theorem zmY {op op':CmpOp} {r r':R2} {c:Expr} {tc:TE} (ho:OpR X (compareOp op) r) (ho':OpR X (compareOp op') r') (ha:PE X a ta) (hb:PE X b tb) (hc:PE X c tc)
  (hm:lastMarks [op,op'] [b,c]=false:=by with_unfolding_all rfl):PE X (.Compare a [op,op'] [b,c] pos) (zkg r r' ta tb tc):=by
 intro pins s σ H Q I h;refine Compare_chain (thn (ha pins s σ H _ I h) fun v s1 ⟨x,H1,I1,r1,q1⟩=>chain_link (thn (hb pins s1 σ H1 _ I1 q1) fun u s2 ⟨y,H2,I2,r2,q2⟩ =>
  thn (ho pins s2 σ H2 x y v u _ I2 r1 r2 q2) fun d s3 ⟨z,H3,I3,r3,q3⟩=>?_)) hm
 obtain⟨k,rfl,q⟩:=zeu q3;cases r3;refine wpAny_truthy_bool ?_;cases k with
 | false=>exact ite_ff ⟨.bl false,H3,I3,rfl,zhe q⟩
 | true=>exact ite_tt (chain_last (thn (hc pins s3 σ H3 _ I3 (zhf q)) fun w' s4 ⟨z',H4,I4,r4,q4⟩=>ho' pins s4 σ H4 y z' u w' Q I4 r2 r4 q4))
theorem zlI {op op':CmpOp} {r r':R2} {c:Expr} {tc:TE} (ho:OpR X (compareOp op) r) (ho':OpR X (compareOp op') r') (ha:PE X a ta) (hb:PE X b tb) (hc:PE X c tc)
  (hm:lastMarks [op,op'] [b,c]=false:=by with_unfolding_all rfl):PT X (.Compare a [op,op'] [b,c] pos) (cT (zkg r r' ta tb tc)):=by
 intro pins s σ H Q I h;refine isTrue_chain (thn (ha pins s σ H _ I h) fun v s1 ⟨x,H1,I1,r1,q1⟩=>test_link (thn (hb pins s1 σ H1 _ I1 q1) fun u s2 ⟨y,H2,I2,r2,q2⟩ =>
  thn (ho pins s2 σ H2 x y v u _ I2 r1 r2 q2) fun d s3 ⟨z,H3,I3,r3,q3⟩=>?_)) hm
 obtain⟨k,rfl,q⟩:=zeu q3;cases r3;refine wpAny_truthy_bool ?_;cases k with
 | false=>exact ite_ff ⟨H3,I3,zhe q⟩
 | true =>
  refine ite_tt (test_last (thn (hc pins s3 σ H3 _ I3 (zhf q)) fun w' s4 ⟨z',H4,I4,r4,q4⟩=>thn (ho' pins s4 σ H4 y z' u w' _ I4 r2 r4 q4) fun d' s5 ⟨z2,H5,I5,r5,q5⟩=>?_));obtain⟨k2,rfl,q6⟩:=zeu q5;cases r5;exact wpAny_truthy_bool ⟨H5,I5,q6⟩
def cIf (c:TT) (t u:TS):TS:=fun D σ H=>c σ H fun b H1=>ifB b (t D σ H1) (u D σ H1)
theorem zb6 {c:Expr} {a b:List Stmt} {tc:TT} {t u:TS} {pos:Pos} (hc:PT X c tc) (ha:PSs X a t) (hb:PSs X b u):PS X (.If c a b pos) (cIf tc t u):=by
 intro pins s σ H D I h;refine wpAny_If (thn (hc pins s σ H _ I h) fun d s1 ⟨H1,I1,q1⟩=>?_);cases d with
 | true=>exact ha pins s1 σ H1 D I1 (zhf q1)
 | false=>exact hb pins s1 σ H1 D I1 (zhe q1)
def cAnd (t u:TT):TT:=fun σ H Q=>t σ H fun c H1=>ifB c (u σ H1 Q) (Q false H1)
def cOr (t u:TT):TT:=fun σ H Q=>t σ H fun c H1=>ifB c (Q true H1) (u σ H1 Q)
section
variable {rest:List Expr} {tA tB:TT}
theorem zcE (ha:PT X a tA):PW X (.BoolOp .And [a] pos) tA:=zlN ha
theorem zgO (ha:PT X a tA):PW X (.BoolOp .Or [a] pos) tA:=zm5 ha
theorem zcD (ha:PT X a tA) (hb:PW X (.BoolOp .And (b::rest) pos) tB):PW X (.BoolOp .And (a::b::rest) pos) (cAnd tA tB):=by
 intro whole pins s σ H Q I h;exact zm4 (X:=X) (tA:=fun σ H Q=>tA σ H fun c H1=>Q c H1) (tB':=tB) ha hb whole pins s σ H Q I (by
  have e:(fun (c:Bool) (H1:Hp)=>if c=true then tB σ H1 Q else Q false H1)=fun c H1=>ifB c (tB σ H1 Q) (Q false H1):=by funext c H1;rw [zef]
  show tA σ H (fun (c:Bool) (H1:Hp)=>if c=true then tB σ H1 Q else Q false H1);rw [e];exact h)
theorem zgM (ha:PT X a tA) (hb:PW X (.BoolOp .Or (b::rest) pos) tB):PW X (.BoolOp .Or (a::b::rest) pos) (cOr tA tB):=by
 intro whole pins s σ H Q I h;exact zob (X:=X) (tA:=fun σ H Q=>tA σ H fun c H1=>Q c H1) (tB':=tB) ha hb whole pins s σ H Q I (by
  have e:(fun (c:Bool) (H1:Hp)=>if c=true then Q true H1 else tB σ H1 Q)=fun c H1=>ifB c (Q true H1) (tB σ H1 Q):=by funext c H1;rw [zef]
  show tA σ H (fun (c:Bool) (H1:Hp)=>if c=true then Q true H1 else tB σ H1 Q);rw [e];exact h)
def znM (ta tb:TE):TE:=fun σ H Q=>ta σ H fun x H1=>bV x fun c=>ifB c (tb σ H1 Q) (Q (.bl false) H1)
theorem zcC (ha:PE X a ta) (hb:PE X (.BoolOp .And (b::rest) pos) tb):PE X (.BoolOp .And (a::b::rest) pos) (znM ta tb):=by
 intro pins s σ H Q I h;refine BoolOp_and (thn (ha pins s σ H _ I h) fun v s1 ⟨x,H1,I1,r1,q1⟩=>?_);obtain⟨c,rfl,q1⟩:=zeu q1;cases r1;refine wpAny_truthy_bool ?_;cases c with
 | true=>exact hb pins s1 σ H1 Q I1 (zhf q1)
 | false=>exact⟨.bl false,H1,I1,rfl,zhe q1⟩
end
def cIfE (t:TT) (ta tb:TE):TE:=fun σ H Q=>t σ H fun c H1=>ifB c (ta σ H1 Q) (tb σ H1 Q)
theorem zmZ {c:Expr} {tc:TT} (hc:PT X c tc) (ha:PE X a ta) (hb:PE X b tb):PE X (.IfExp c a b pos) (cIfE tc ta tb):=by
 intro pins s σ H Q I h;refine zjL hc ha hb pins s σ H Q I ?_;have e:(fun (c:Bool) (H1:Hp)=>if c=true then ta σ H1 Q else tb σ H1 Q)=fun c H1=>ifB c (ta σ H1 Q) (tb σ H1 Q):=by funext c H1;rw [zef]
 show tc σ H (fun (c:Bool) (H1:Hp)=>if c=true then ta σ H1 Q else tb σ H1 Q);rw [e];exact h
end
end L2
end
section
namespace L2
open PySem PySem.Spec PyProof.Rows
theorem zct:bootBuiltins "len"=some (.builtin "len"):=by decide +kernel
theorem zkc:bootBuiltins "abs"=some (.builtin "abs"):=by decide +kernel
theorem zkd:bootBuiltins "all"=some (.builtin "all"):=by decide +kernel
theorem zkf:bootBuiltins "min"=some (.builtin "min"):=by decide +kernel
theorem zke:bootBuiltins "max"=some (.builtin "max"):=by decide +kernel
theorem zhG:bootBuiltins "sorted"=some (.builtin "sorted"):=by decide +kernel
theorem zgo:bootBuiltins "tuple"=some (.type "tuple"):=by decide +kernel
theorem zfj:bootBuiltins "enumerate"=some (.type "enumerate"):=by decide +kernel
theorem zmD {H:Hp} {a p:Addr} {o u:HO} (h:H a=some o) (n:H p=none):upd H p u a=some o:=by rw [zao (zak h n)];exact h
section
variable {X:Cx} {pins:List (Addr × Obj)} {σ:St} {H:Hp} {s:Shared}
theorem Inv.turnedL {h':Heap} {t':Nat} {fp:List Addr} (I:Inv X pins σ H s) (k:∀ b o,b ∉ fp->s.heap.get? b=some o->h'.get? b=some o) (hf:∀ b∈fp,zi3 X pins H b):Inv X pins σ H { s with heap:=h',toks:=t' }:=by
 have nit:∀ b u,H b=some u->b ∉ fp:=fun b u e z=>by rw [(hf b z).1] at e;cases e
 refine I.step (g':=s.gens) (d':=s.drawn) (ch:=fp) (fun b hb=>?_) (fun b o _ _ hc e _=>k b o hc e) (fun b o _ _ hc e _=>⟨o.slots,k b o hc e⟩) (fun _ _ _ _ n=>n)
  (fun b o hc e=>⟨o,k b o hc e⟩) (fun _ _ e=>e) (fun _ _ _ e=>e) (fun b ps e=>⟨#[],by rw [e];simp⟩) (fun m hm=>?_) (fun b u e=>?_) I.bare
 ·obtain⟨f0,f1,f2,f3,f4,f5⟩:=hf b hb;exact⟨f3,f1,f4,f5⟩
 ·obtain⟨o,es,ep,ho,r⟩:=hm;exact⟨o,es,ep,k _ o (fun z=>(hf _ z).2.1 rfl) ho,r⟩
 ·refine (I.hok b u e).stay (fun c v hc q=>k c v ?_ q) (fun _ q=>q) fun _ _ q=>q
  rcases hc with z | z
  ·rw [z];exact nit b u e
  ·exact nit c _ z
theorem Inv.trackNew {s':Shared} {p:Addr} {o:HO} (I:Inv X pins σ H s) (I':Inv X pins σ H s') (hp:s.heap.objs.size<=p) (new:zaV X.prog X.w (upd H p o) s'.heap p o):H p=none/\Inv X pins σ (upd H p o) s':=by
 have hn:=I.hok.fresh hp;refine⟨hn,I'.track (Heap.get?_none_of_le (zoM I.sz hp)) hn (Ne.symm (zph (zoO I.lt hp))) (fun y c e z=>?_) (fun q hq z=>?_) new⟩
 ·obtain⟨v,o,ho,_⟩:=I.cell y c e;exact absurd (zoO (zoY ho) (by rw [z];exact hp)) (Nat.lt_irrefl _)
 ·exact absurd (zoO (zoY (I.pin q hq).1) (by rw [z];exact hp)) (Nat.lt_irrefl _)
end
def Ite (K:PySem.W.Frag) (a:Addr):It where
 go:=fun i H=>∃ xs x,SqL K H a xs/\xs[i]?=some x
 yld:=fun i H v H'=>∃ p x,H p=none/\v=.ref p/\H'=upd H p (.tup [.int i,x])/\∀ ys,SqL K H a ys->ys[i]?=some x
 stop:=fun i H=>∃ xs,SqL K H a xs/\xs.length<=i
theorem ziX {P:Program} {w:World} {K:PySem.W.Frag} {elts:List Expr} {x1:Nat} {tp:Pos} (a e it:Addr) (hei:e≠it):zl5 P w K (.Tuple elts x1 tp) (Ite K a) [e,it] e (fun i h=>(∃ old,IsEnum h e it i old)/\h.IsListIter it a i) where
 mem:=by simp
 obj:=fun i h st b hb=>by
  obtain⟨⟨old,he⟩,o,ho,hc,hd⟩:=st;rcases zpg.mp hb with z | z
  ·subst z;exact⟨_,he,fun v z=>by
    have z':Data.fields _=Data.cell v:=z;cases z'⟩
  ·have z:b=it:=by simpa using z
   subst z;exact⟨o,ho,fun v z=>by rw [hd] at z;cases z⟩
 keep:=fun i h h' st k=>⟨let ⟨old,he⟩:=st.1;⟨old,k e (by simp) _ he⟩,st.2.at fun o q=>k it (by simp) o q⟩
 item:=by
  intro X hP hw hK hc i pins s σ H E I hf st hg;subst hP hw hK;obtain⟨xs,x,hq,hx⟩:=hg;obtain⟨its,rv,p,hz⟩:=I.list hq;obtain⟨u,hu,ru⟩:=rv.get hx;obtain⟨⟨old,he⟩,hit⟩:=st;refine wpAny_pyNext_enum_item he hit p.isList (x:=u) (by simpa using hu) hei fun h1 he1 hit1 ht1 hz1 hk1=>⟨_,rfl,?_⟩
  refine wpAny_letOwnedTupleGo_enum he1 fun h2 he2 hs2=>?_
  have hs2:Heap.SameBut e h1 h2:=hs2;have hlt:e<s.heap.objs.size:=zoY he;have hk2:∀ b o,b ∉ [e,it]->s.heap.get? b=some o->h2.get? b=some o:=fun b o hb q=>by
   simp only [zpg,List.not_mem_nil,or_false,not_or] at hb;exact hs2.extBut b o hb.1 (hk1 b o hb.1 hb.2 q)
  have I2:Inv X pins σ H { s with heap:=h2,toks:=s.toks+1 }:=I.turnedL hk2 hf;have ht2:h2.get? s.heap.objs.size=some { cls:=.type "tuple",data:=.seq #[.int i s.toks,u] }:=hs2.extBut _ _ (Nat.ne_of_gt hlt) ht1;obtain⟨hn,I3⟩:=I.trackNew (o:=.tup [.int i,x]) I2 (zoN _) ⟨by show 2<=sizeLine;decide,[.int i s.toks,u],.cons ⟨_,rfl⟩ (.cons ru .nil),⟨_,ht2,rfl,_,rfl,rfl⟩⟩;refine⟨.ref s.heap.objs.size,_,I3,rfl,⟨_,x,hn,rfl,rfl,fun ys hy=>by rw [I.list_inj hy hq];exact hx⟩,⟨⟨u,?_⟩,?_⟩,fun b hb=>?_⟩
  ·have:((i+1:Nat):Int)=(i:Int)+1:=by push_cast;rfl
   rw [this];exact he2
  ·exact hit1.extBut hs2.extBut (Ne.symm hei)
  ·obtain⟨o,ho,_⟩:=id hit;have hb':b<s.heap.objs.size:=by
    rcases zpg.mp hb with z | z
    ·rw [z];exact hlt
    ·have z:b=it:=by simpa using z
     obtain⟨oi,hoi,_⟩:=id hit;rw [z];exact zoY hoi
   rw [zao (zph hb')];exact (hf b hb).1
 done:=by
  intro X hP hw hK hc i pins s σ H E I hf st hg;subst hP hw hK;obtain⟨xs,hq,hx⟩:=hg;obtain⟨its,rv,p,hz⟩:=I.list hq;obtain⟨⟨old,he⟩,hit⟩:=st;have hl:=rv.length;refine wpAny_pyNext_enum_end (I.ok.hd hc) he hit p.isList (by simp;omega) fun h' eb=>⟨rfl,I.turnedL (t':=s.toks) (fun b o hb q=>eb b o (fun z=>hb (by simp [z])) q) hf⟩
 self:=fun _ _ _ _ _ st h=>by obtain⟨⟨old,he⟩,_⟩:=st;exact wpAny_pyIter_enum he h
section
variable {X:Cx}
def zn3 (K:PySem.W.Frag) (ta:TA):TI:=fun σ H R=>ta σ H fun vs H1=>match vs with | [.ref a]=>(∃ xs,SqL K H1 a xs)/\R (Ite K a) H1 | _=>False
theorem zlB {a:Expr} {ta:TA} {p pos:Pos} {elts:List Expr} {x1:Nat} {tp:Pos} (hg:Gl X "enumerate") (hm:X.mg "enumerate"=none) (ha:PA X [a] ta) (hs:starEach [a] X.env=[(false,eval a X.env)]:=by rfl):PI X (.Tuple elts x1 tp) (.Call (.Name "enumerate" p) [a] [] pos) (zn3 X.K ta):=by
 intro pins s σ H R I h;refine Call_ (zeh I hg hm zfj (PyProof.Rows.callWith_type1 (thn (ha pos pins s σ H _ I h) fun us s1 ⟨vs,H1,I1,r1,q1⟩=>?_) hs rfl));obtain⟨l,rfl,hq,q⟩:∃ l,vs=[.ref l]/\(∃ xs,SqL X.K H1 l xs)/\R (Ite X.K l) H1:=by
  dsimp only at q1;split at q1
  ·exact⟨_,rfl,q1⟩
  ·exact q1.elim
 obtain⟨xs,hq⟩:=hq;cases r1 with
 | cons r rr =>
  cases rr;cases r;obtain⟨its,rv,pl,hz⟩:=I1.list hq;refine call_enumerate_list pl.isList fun h' he hit hsz hk=>?_
  refine wpAny_pyIter_enum he ?_;have I2:Inv X pins σ H1 { s1 with heap:=h' }:=I1.kept (t':=s1.toks) hk;refine⟨s1.heap.objs.size+1,[s1.heap.objs.size+1,s1.heap.objs.size],_,_,H1,rfl,I2,ziX l _ _ (Nat.succ_ne_self _),⟨⟨_,he⟩,hit⟩,fun b hb=>?_,q⟩;rcases zpg.mp hb with z | z
  ·subst z;exact I1.fpOk (Nat.le_succ _) (I1.hok.fresh (Nat.le_succ _))
  ·have z:b=s1.heap.objs.size:=by simpa using z
   subst z;exact I1.fpOk (zoN _) (I1.hok.fresh (zoN _))
end
theorem zjh {K:PySem.W.Frag} {a:Addr} {xs:List V} {g:TG} {tb:TS} {D:zi2} {σ:St} {H:Hp} (Pv:Nat->St->Hp->Prop) (h0:Pv 0 σ H) (hl:∀ i σ H,i<=xs.length->Pv i σ H->SqL K H a xs)
  (hs:∀ i x σ H p,xs[i]?=some x->Pv i σ H->H p=none->g (.ref p) σ (upd H p (.tup [.int i,x])) fun σ2 H2=>tb { D with nx:=Pv (i+1),ct:=Pv (i+1),bk:=D.nx } σ2 H2) (hd:∀ σ H,Pv xs.length σ H->D.nx σ H) :
  ∃ W:Nat->Nat->St->Hp->Prop,(∃ m,W 0 m σ H)/\∀ i m σ H,W i m σ H ->
   ((Ite K a).stop i H/\D.nx σ H)\/((Ite K a).go i H/\∃ N:St->Hp->Prop,(∀ σ' H',N σ' H'->∃ m',m'<m/\W (i+1) m' σ' H')/\∀ x H',(Ite K a).yld i H x H'->g x σ H' fun σ2 H2=>tb { D with nx:=N,ct:=N,bk:=D.nx } σ2 H2):=by
 refine⟨fun i m σ H=>m=xs.length-i/\i<=xs.length/\Pv i σ H,⟨xs.length,by simp,Nat.zero_le _,h0⟩,?_⟩;rintro i m σ H ⟨rfl,hi,p⟩;have q:=hl i σ H hi p;by_cases hlt:i<xs.length
 ·refine .inr ⟨⟨xs,xs[i],q,by simp [hlt]⟩,Pv (i+1),fun σ' H' p'=>⟨xs.length-(i+1),by omega,rfl,hlt,p'⟩,fun x H' y=>?_⟩;obtain⟨pp,z,hn,rfl,rfl,hy⟩:=y;exact hs i z σ H pp (hy xs q) p hn
 ·have e:i=xs.length:=by omega
  subst e;exact .inl ⟨⟨xs,q,zoN _⟩,hd σ H p⟩
section
variable {X:Cx}
end
end L2
end
section
namespace L2
open PySem PySem.Spec PyProof.Rows
theorem IxR.imp {X:Cx} {r r':R2} (h:IxR X r) (i:∀ x y H Q,r' x y H Q->r x y H Q):IxR X r':=fun a b pins s σ H x y v u Q I rx ry q e=>h a b pins s σ H x y v u Q I rx ry (i x y H Q q) e
theorem MtR.imp {X:Cx} {id:String} {r r':V->List V->Hp->VK->Prop} (h:MtR X id r) (i:∀ x xs H Q,r' x xs H Q->r x xs H Q):MtR X id r':=fun pins s σ H x xs v us Q I rx rv q=>h pins s σ H x xs v us Q I rx rv (i x xs H Q q)
theorem zl4.imp {X:Cx} {t t':zmd} (h:zl4 X t) (i:∀ o j v H Q,t' o j v H Q->t o j v H Q):zl4 X t':=fun pins s σ H o j v ov iv u Q I ro ri rv q=>h pins s σ H o j v ov iv u Q I ro ri rv (i o j v H Q q)
theorem SlR.imp {X:Cx} {r r':V->Option Int->Option Int->Hp->VK->Prop} (h:SlR X r) (i:∀ x l u H Q,r' x l u H Q->r x l u H Q):SlR X r':=fun pins s σ H x v vl vu lo hi sl Q I rx hs pl pu q=>h pins s σ H x v vl vu lo hi sl Q I rx hs pl pu (i _ _ _ _ _ q)
theorem zaj {H H':Hp} {p:Addr} {o:HO} (n:H p=none) (e:upd H p o=H'):Sub H H'/\H' p=some o:=by subst e;exact⟨Sub.new n,zaf⟩
def CV (mg:Str->Option Value) (x:Str) (v:V):Prop:=∃ u,mg x=some u/\zaO v u
section
variable {X:Cx} {a b:Expr} {ta tb:TE} {pos:Pos}
theorem zis {x:Str} {v:V} {pos:Pos} (hg:Gl X x) (h:CV X.mg x v) (hd:(x == ("__debug__":Str))=false:=by decide):PE X (.Name x pos) (tC v):=by
 obtain⟨u,h1,h2⟩:=h;exact zlv hg h1 h2 hd
def znO (K:PySem.W.Frag):R2:=fun x y H Q=>match x,y with | .ref p,.int i=>∃ xs v,SqL K H p xs/\atI xs i=some v/\Q v H | _,_=>False
def znP (K:PySem.W.Frag):R2:=fun x y H Q=>match x,y with | .ref p,.int i=>∃ xs v,SqT K H p xs/\atI xs i=some v/\Q v H | _,_=>False
theorem zof:IxR X (znO X.K):=zld.imp fun x y H Q h=>by
 unfold znO at h;split at h
 ·obtain⟨xs,v,h1,h2,h3⟩:=h;exact⟨_,xs,_,v,rfl,rfl,h1,h2,h3⟩
 ·exact h.elim
theorem zog:IxR X (znP X.K):=zmC.imp fun x y H Q h=>by
 unfold znP at h;split at h
 ·obtain⟨xs,v,h1,h2,h3⟩:=h;exact⟨_,xs,_,v,rfl,rfl,h1,h2,h3⟩
 ·exact h.elim
def zkQ:zmd:=fun o i v H Q=>match o,i with | .ref p,.int k=>∃ xs j,H p=some (.lst xs)/\ixN xs.length k=some j/\Q (upd H p (.lst (xs.set j v))) | _,_=>False
theorem zc9:zl4 X zkQ:=zjX.imp fun o i v H Q h=>by
 unfold zkQ at h;split at h
 ·obtain⟨xs,j,h1,h2,h3⟩:=h;exact⟨_,xs,_,j,rfl,rfl,h1,h2,h3⟩
 ·exact h.elim
def cCat:R2:=fun x y H Q=>match x,y with | .ref l,.ref b=>∃ xs zs,H l=some (.lst xs)/\H b=some (.lst zs)/\xs.length+zs.length<=sizeLine/\∀ p,H p=none->Q (.ref p) (upd H p (.lst (xs++zs))) | _,_=>False
theorem zm7:OpR X (binaryOp .Add) cCat:=zmP.imp fun x y H Q h=>by
 unfold cCat at h;split at h
 ·obtain⟨xs,zs,h⟩:=h;exact⟨_,_,xs,zs,rfl,rfl,h⟩
 ·exact h.elim
def znU (K:PySem.W.Frag):V->Option Int->Option Int->Hp->VK->Prop:=fun x lo hi H Q=>match x with | .ref a=>∃ xs,SqL K H a xs/\∀ p,H p=none->Q (.ref p) (upd H p (.lst (zkT xs lo hi))) | _=>False
theorem zoi:SlR X (znU X.K):=zlV.imp fun x lo hi H Q h=>by
 unfold znU at h;split at h
 ·obtain⟨xs,h⟩:=h;exact⟨_,xs,rfl,h⟩
 ·exact h.elim
def znQ (K:PySem.W.Frag):List V->Hp->VK->Prop:=fun xs H Q=>match xs with | [.ref p]=>∃ ys,(SqL K H p ys\/SqT K H p ys)/\Q (.int ys.length) H | _=>False
theorem zoh:zbu X (.builtin "len") (znQ X.K):=zfk.imp fun xs H Q h=>by
 unfold znQ at h;split at h
 ·obtain⟨ys,h⟩:=h;exact⟨_,ys,rfl,h⟩
 ·exact h.elim
def cAbs:List V->Hp->VK->Prop:=fun xs H Q=>match xs with | [.int i]=>∀ m,m=(if i<0 then -i else i)->Q (.int m) H | _=>False
theorem zm6:zbu X (.builtin "abs") cAbs:=zi9.imp fun xs H Q h=>by
 unfold cAbs at h;split at h
 ·exact⟨_,rfl,h _ rfl⟩
 ·exact h.elim
def cApp:V->List V->Hp->VK->Prop:=fun x vs H Q=>match x,vs with | .ref l,[y]=>∃ xs,H l=some (.lst xs)/\xs.length<sizeLine/\Q .non (upd H l (.lst (xs++[y]))) | _,_=>False
theorem zjS:MtR X "list.append" cApp:=MtR.imp (r:=ziH) zig fun x vs H Q h=>by
 unfold cApp at h;split at h
 ·obtain⟨xs,h⟩:=h;exact⟨_,xs,_,rfl,rfl,h⟩
 ·exact h.elim
def cIn (K:PySem.W.Frag) (neg:Bool):R2:=fun x y H Q=>match y with | .ref p=>∃ xs,(SqL K H p xs\/SqT K H p xs)/\zd1 x=true/\xs.all zd1=true/\Q (.bl (if neg then !inV x xs else inV x xs)) H | _=>False
theorem q_in:OpR X (compareOp .In) (cIn X.K false):=zio.imp fun x y H Q h=>by
 unfold cIn at h;split at h
 ·obtain⟨xs,h⟩:=h;exact⟨_,xs,rfl,h⟩
 ·exact h.elim
def zmi (K:PySem.W.Frag) (tl:TE):TI:=fun σ H R=>tl σ H fun x H1=>match x with | .ref a=>(∃ xs,SqL K H1 a xs)/\R (Itl K a) H1 | _=>False
theorem zlQ {tg l:Expr} {tl:TE} (hl:PE X l tl):PI X tg l (zmi X.K tl):=by
 intro pins s σ H R I h;refine thn (hl pins s σ H _ I h) fun v s1 ⟨x,H1,I1,r1,q1⟩=>?_
 obtain⟨a,rfl,⟨xs,hq⟩,q⟩:∃ a,x=.ref a/\(∃ xs,SqL X.K H1 a xs)/\R (Itl X.K a) H1:=by
  dsimp only at q1;split at q1
  ·exact⟨_,rfl,q1⟩
  ·exact q1.elim
 cases r1;obtain⟨its,rv,p,hz⟩:=I1.list hq;refine wpAny_pyIter_list p.isList ?_;refine⟨s1.heap.objs.size,[s1.heap.objs.size],_,_,H1,rfl,I1.kept (t':=s1.toks) fun b o e=>zoK _ e,ziY a _,⟨_,zo8 _ rfl,rfl,rfl⟩,fun b hb=>?_,q⟩;have e:b=s1.heap.objs.size:=by simpa using hb
 subst e;exact I1.fpOk (zoN _) (I1.hok.fresh (zoN _))
def znS (ta:TA):TI:=fun σ H R=>ta σ H fun vs H1=>match vs with | [.int j]=>(-(2 ^ 62)<=j/\j<2 ^ 62)/\R (Itr 0 j.toNat) H1 | _=>False
theorem zbM {tg a:Expr} {ta:TA} {p pos:Pos} (hg:Gl X "range") (hm:X.mg "range"=none) (ha:PA X [a] ta) (hs:starEach [a] X.env=[(false,eval a X.env)]:=by rfl):PI X tg (.Call (.Name "range" p) [a] [] pos) (znS ta):=by
 intro pins s σ H R I h;refine Call_ (zeh I hg hm boot_range (PyProof.Rows.callWith_type1 (thn (ha pos pins s σ H _ I h) fun us s1 ⟨vs,H1,I1,r1,q1⟩=>?_) hs rfl));obtain⟨j,rfl,⟨q1,q2⟩,q⟩:∃ j,vs=[.int j]/\(-(2 ^ 62)<=j/\j<2 ^ 62)/\R (Itr 0 j.toNat) H1:=by
  dsimp only at q1;split at q1
  ·exact⟨_,rfl,q1⟩
  ·exact q1.elim
 cases r1 with
 | cons r rr =>
  cases rr;obtain⟨t,rfl⟩:=r;exact call_range_1 (zgP I1 (by omega) (by omega) q1 q2 (by simpa using q))
end
section
variable {X:Cx}
def zmo:TGs:=fun vs σ H Q=>match vs with | []=>Q σ H | _=>False
def zki (t:TG) (u:TGs):TGs:=fun vs σ H Q=>match vs with | v::r=>t v σ H fun σ' H'=>u r σ' H' Q | []=>False
theorem zaX:PGs X [] zmo:=fun pins s σ H vs us Q I r h=>zlz pins s σ H vs us Q I r (by
 unfold zmo at h;split at h
 ·exact⟨rfl,h⟩
 ·exact h.elim)
theorem zal {e:Expr} {es:List Expr} {t:TG} {u:TGs} (h1:PG X e t) (h2:PGs X es u)
  (hs:(assignEach (e::es) X.env).map (·.2)=assign e X.env::(assignEach es X.env).map (·.2):=by rfl):PGs X (e::es) (zki t u):=fun pins s σ H vs us Q I r h=>zjO h1 h2 hs pins s σ H vs us Q I r (by
 unfold zki at h;split at h
 ·exact⟨_,_,rfl,h⟩
 ·exact h.elim)
def zkS (K:PySem.W.Frag) (n:Nat) (t:TGs):TG:=fun v σ H Q=>match v with | .ref a=>∃ xs,SqT K H a xs/\xs.length=n/\t xs σ H Q | _=>False
theorem zni {es:List Expr} {k:Nat} {t:TGs} {n:Nat} {pos:Pos} (hc:X.calm=true) (h:PGs X es t)
  (hn:(assignEach es X.env).length=n:=by rfl) (hst:(assignEach es X.env).findIdx? (·.1)=none:=by rfl):PG X (.Tuple es k pos) (zkS X.K n t):=fun pins s σ H v u Q I r hw=>zm1 hc h hn hst pins s σ H v u Q I r (by
 unfold zkS at hw;split at hw
 ·obtain⟨xs,h⟩:=hw;exact⟨_,xs,rfl,h⟩
 ·exact hw.elim)
def znR (t:TE):TO:=fun σ H Q=>t σ H fun x H1=>match x with | .int i=>Q (some i) H1 | _=>False
theorem zlR {e:Expr} {te:TE} (h:PE X e te):PO X (some e) (znR te):=by
 intro pins s σ H Q I hw;rw [evalPart_some];refine thn (h pins s σ H _ I hw) fun u s1 ⟨x,H1,I1,r1,q1⟩=>?_
 obtain⟨i,rfl,q⟩:∃ i,x=.int i/\Q (some i) H1:=by
  dsimp only at q1;split at q1
  ·exact⟨_,rfl,q1⟩
  ·exact q1.elim
 obtain⟨t,rfl⟩:=r1;exact⟨some i,H1,I1,.int i t,q⟩
end
structure ExM (K:PySem.W.Frag) (C:Addr) (pre:List Value):Prop where
 mro:∃ cd,PySem.W.clsIn K C=some cd/\cd.mro=pre++zhC
 ty:PySem.W.typeIn K (.ref C)=some (.type "type")
section
open PySem.W
variable {K:PySem.W.Frag} {C D:Addr} {pre pre':List Value}
end
end L2
end
section
namespace L2
open PySem PySem.Spec PyProof.Rows
theorem ifB.ndec {c:Prop} [Decidable c] {p q:Prop} (h1:c->q) (h2:¬ c->p):ifB (!decide c) p q:=ifB.mk (fun z=>h2 (by simpa using z)) fun z=>h1 (by simpa using z)
section
variable {X:Cx}
theorem zle {s:Shared} {h':Heap} {o:Obj} (hk:∀ b x,b ∉ [s.heap.objs.size]->(s.heap.push o).get? b=some x->h'.get? b=some x):∀ b x,s.heap.get? b=some x->h'.get? b=some x :=
 fun b x e=>hk b x (fun hm=>by rw [zoG.mp hm] at e;exact Nat.lt_irrefl _ (zoY e)) (zoK _ e)
theorem ziZ:∀ {bs:List Bool} {us:List Value},zaU (bs.map V.bl) us->us=bs.map Value.bool
 | [],us,r=>by cases r;rfl
 | b::bs,us,r=>by
  rw [zo0] at r;cases r with
  | cons r1 r2=>cases r1;rw [ziZ r2];rfl
theorem zhs (bs:List Bool):((List.range bs.length).all fun i=>(bs[i]?).getD true)=bs.all id:=by
 rw [Bool.eq_iff_iff,zoX,zoX]
 constructor
 ·intro h b hb;obtain⟨i,hi,e⟩:=List.getElem_of_mem hb
  have:=h i (List.mem_range.mpr hi)
  simp only [zoz hi,Option.getD_some,e] at this;exact this
 ·intro h i hi;have hi':=List.mem_range.mp hi;simp only [zoz hi',Option.getD_some];exact h _ (List.getElem_mem hi')
def znL (K:PySem.W.Frag):List V->Hp->VK->Prop:=fun xs H Q=>match xs with | [.ref p]=>∃ bs:List Bool,SqL K H p (bs.map V.bl)/\Q (.bl (bs.all id)) H | _=>False
theorem zoc (hc:X.calm=true):zbu X (.builtin "all") (znL X.K):=by
 intro pins s σ H xs us Q I r h;unfold znL at h;split at h
 ·rename_i p;obtain⟨bs,hq,q⟩:=h;cases r with
  | cons r rr =>
   cases rr;cases r;obtain⟨its,rv,pl,hz⟩:=I.list hq;have e:=ziZ rv;subst e;have hl:=pl.isList;have hlt:p<s.heap.objs.size:=by obtain⟨_,e,_⟩:=hl;exact zoY e
   refine call_all_walk (wpAny_pyIter_list hl ?_);refine⟨s.heap.objs.size,[s.heap.objs.size,p],[s.heap.objs.size],(bs.map Value.bool).toArray.size,_,_,fun i=>(bs[i]?).getD true,rfl,Walks.list (A:=X.A.in1) (I.ok.hd hc) _ p (zph hlt) (bs.map Value.bool).toArray,
    ⟨⟨_,zo8 _ rfl,rfl,rfl⟩,hl.push _⟩,fun i v s' Q' E' hP hQ=>?_,fun h' tk hk=>?_⟩
   ·have hP:(bs.map Value.bool)[i]?=some v:=by simpa using hP
    rw [zoy] at hP;obtain⟨b,e,rfl⟩:=zoA.1 hP;simp only [e,Option.getD_some] at hQ;exact wpAny_truthy_bool hQ
   ·have e:((List.range (bs.map Value.bool).toArray.size).all fun i=>(bs[i]?).getD true)=bs.all id:=by
     rw [zo9,zox];exact zhs bs
    rw [e];exact⟨.bl _,H,I.kept (t':=tk) (zle hk),rfl,q⟩
 ·exact h.elim
end
section
variable {prog:Program} {w:World} {A:Around} {E:Value->Shared->Prop} {s:Shared}
end
section
variable {X:Cx} {e st:Expr} {te:TE} {ts:TO} {pos p2:Pos}
end
section
variable {X:Cx} {K:PySem.W.Frag} {tg l e st:Expr} {tl te:TE} {ts:TO} {pos p2:Pos}
theorem za2 (hK:X.K=K):IxR X (znO K):=hK ▸ zof
theorem zaA (hK:X.K=K):IxR X (znP K):=hK ▸ zog
theorem znf (hK:X.K=K):SlR X (znU K):=hK ▸ zoi
theorem zcL (hK:X.K=K):zbu X (.builtin "len") (znQ K):=hK ▸ zoh
theorem zoe (hK:X.K=K):OpR X (compareOp .In) (cIn K false):=hK ▸ q_in
theorem zkz (hK:X.K=K) (hc:X.calm=true):zbu X (.builtin "all") (znL K):=hK ▸ zoc hc
theorem zbn (hK:X.K=K) (hl:PE X l tl):PI X tg l (zmi K tl):=hK ▸ zlQ hl
theorem zaW {es:List Expr} {k:Nat} {t:TGs} {n:Nat} (hK:X.K=K) (hc:X.calm=true) (h:PGs X es t)
  (hn:(assignEach es X.env).length=n:=by rfl) (hst:(assignEach es X.env).findIdx? (·.1)=none:=by rfl):PG X (.Tuple es k pos) (zkS K n t):=hK ▸ zni hc h hn hst
end
end L2
end
section
namespace L2
open PySem PySem.Spec PyProof.Rows
abbrev En:=List Int
abbrev Ma:=List (List En)
def zaz (rows signs:Int):En->Bool
 | []=>true
 | [s,w,r]=>(decide (0<=s) && decide (s<signs)) && (decide (w=-1) || decide (w=1)) && (decide (0<=r) && decide (r<rows))
 | _=>false
def zd6 (rows signs:Int) (es:List En):Bool:=decide ((es.length:Int)=signs) && es.all (zaz rows signs)
def isM (m:Ma):Bool:=match m with
 | []=>false
 | r0::_=>decide (m.length<=4) && decide (2<=r0.length) && decide (r0.length<=4) && m.all (zd6 m.length r0.length)
theorem zbZ {α:Type} {xs:List α} {i:Int} {v:α} (h0:0<=i) (h:xs[i.toNat]?=some v):atI xs i=some v:=by
 obtain⟨j,rfl⟩:=Int.eq_ofNat_of_zero_le h0;exact zaC h
theorem zbL {n:Nat} {i:Int} (h0:0<=i) (h1:i<n):ixN n i=some i.toNat:=by
 unfold ixN;rw [zpc h0,zpc h1]
def zbq {α:Type} (R:Addr->α->Prop) (as:List Addr) (xs:List α):Prop:=as.length=xs.length/\∀ (i:Nat) (a:Addr) (x:α),as[i]?=some a->xs[i]?=some x->R a x
section
variable {α:Type} {R S:Addr->α->Prop} {as:List Addr} {xs:List α}
theorem zbq.nil:zbq R [] []:=⟨rfl,fun i a x h=>by simp at h⟩
theorem zbq.mono (h:zbq R as xs) (i:∀ a x,a∈as->R a x->S a x):zbq S as xs:=⟨h.1,fun k a x ha hx=>i a x (zoC ha) (h.2 k a x ha hx)⟩
theorem zbq.app (h:zbq R as xs) {a:Addr} {x:α} (r:R a x):zbq R (as++[a]) (xs++[x]):=by
 refine⟨by simp [h.1],fun i b y hb hy=>?_⟩;by_cases hi:i<as.length
 ·rw [zo2 hi] at hb;rw [zo2 (h.1 ▸ hi)] at hy;exact h.2 i b y hb hy
 ·have e:i=as.length:=by
   have:=(zoB.1 hb).1
   simp at this;omega
  subst e;rw [zo3 (zoN _),Nat.sub_self] at hb;rw [h.1,zo3 (zoN _),Nat.sub_self] at hy;cases hb;cases hy;exact r
theorem zbq.at (h:zbq R as xs) {i:Nat} {a:Addr} (ha:as[i]?=some a):∃ x,xs[i]?=some x/\R a x:=by
 have hi:=(zoB.1 ha).1;have hi':i<xs.length:=h.1 ▸ hi;exact⟨xs[i],zoz hi',h.2 i a _ ha (zoz hi')⟩
theorem zbq.set (h:zbq R as xs) {i:Nat} {a:Addr} {x:α} (r:R a x):zbq R (as.set i a) (xs.set i x):=by
 refine⟨by simp [h.1],fun k b y hb hy=>?_⟩;rw [List.getElem?_set] at hb hy;by_cases e:i=k
 ·subst e;rw [zpc rfl] at hb hy;split at hb
  ·split at hy
   ·cases hb;cases hy;exact r
   ·cases hy
  ·cases hb
 ·rw [zpb e] at hb hy;exact h.2 k b y hb hy
theorem zbq.setA (h:zbq R as xs) {i:Nat} {a:Addr} {x:α} (ha:as[i]?=some a) (o:∀ b y,b∈as->b≠a->R b y->S b y) (nd:as.Nodup) (s:S a x):zbq S as (xs.set i x):=by
 refine⟨by simp [h.1],fun k b y hb hy=>?_⟩;rw [List.getElem?_set] at hy;by_cases e:i=k
 ·subst e;rw [zpc rfl] at hy;rw [ha] at hb;cases hb;split at hy
  ·cases hy;exact s
  ·cases hy
 ·rw [zpb e] at hy;refine o b y (zoC hb) ?_ (h.2 k b y hb hy);rintro rfl;obtain⟨h1,h2⟩:=zoB.1 ha;obtain⟨h3,h4⟩:=zoB.1 hb;exact e ((List.getElem_inj nd).1 (h2.trans h4.symm))
end
def Ent (H:Hp) (a:Addr) (e:En):Prop:=H a=some (.tup (e.map V.int))
def zdm (H:Hp) (r:Addr) (as:List Addr) (es:List En):Prop:=H r=some (.lst (as.map V.ref))/\zbq (Ent H) as es
def Row (H:Hp) (r:Addr) (es:List En):Prop:=∃ as,zdm H r as es
def MaR (H:Hp) (p:Addr) (rs:List Addr) (m:Ma):Prop:=H p=some (.lst (rs.map V.ref))/\rs.Nodup/\zbq (Row H) rs m
def zdl (H:Hp) (p:Addr) (m:Ma):Prop:=∃ rs,MaR H p rs m
theorem zlS {as bs:List Addr} (h:as.map V.ref=bs.map V.ref):as=bs:=by
 induction as generalizing bs with
 | nil=>cases bs with
  | nil=>rfl
  | cons b bs=>cases h
 | cons a as ih=>cases bs with
  | nil=>cases h
  | cons b bs =>
   rw [zo0,zo0] at h;injection h with h1 h2
   injection h1 with h1
   rw [h1,ih h2]
section
variable {H H':Hp} {p r a:Addr} {rs as:List Addr} {m:Ma} {es:List En} {e:En}
structure zdn (H H':Hp):Prop where
 tup:∀ a xs,H a=some (.tup xs)->H' a=some (.tup xs)
 refs:∀ a (as:List Addr),H a=some (.lst (as.map V.ref))->H' a=some (.lst (as.map V.ref))
theorem zdn.sub (S:Sub H H'):zdn H H':=⟨fun _ _ h=>S _ _ h,fun _ _ h=>S _ _ h⟩
theorem Ent.stay (S:zdn H H') (h:Ent H a e):Ent H' a e:=S.tup _ _ h
theorem zdm.stay (S:zdn H H') (h:zdm H r as es):zdm H' r as es:=⟨S.refs _ _ h.1,h.2.mono fun _ _ _ z=>z.stay S⟩
theorem Row.stay (S:zdn H H'):Row H r es->Row H' r es:=fun ⟨as,h⟩=>⟨as,h.stay S⟩
theorem MaR.stay (S:zdn H H') (h:MaR H p rs m):MaR H' p rs m:=⟨S.refs _ _ h.1,h.2.1,h.2.2.mono fun _ _ _ z=>z.stay S⟩
theorem zdl.stay (S:zdn H H'):zdl H p m->zdl H' p m:=fun ⟨rs,h⟩=>⟨rs,h.stay S⟩
theorem MaR.ne (h:MaR H p rs m) (hr:r∈rs):r≠p:=by
 rintro rfl;obtain⟨i,hi,e⟩:=List.getElem_of_mem hr;obtain⟨es,_,as,h1,h2⟩:=h.2.2.at (zoB.2 ⟨hi,e⟩);rw [h.1] at h1;injection h1 with h1
 injection h1 with h1
 have:=zlS h1
 subst this;obtain⟨e,_,h3⟩:=h2.at (zoB.2 ⟨hi,e⟩);have h3:H r=some (.tup _):=h3;rw [h.1] at h3;cases h3
theorem Ent.upd {l:Addr} {vs us:List V} (h:Ent H a e) (hl:H l=some (.lst vs)):Ent (L2.upd H l (.lst us)) a e:=by
 show L2.upd H l (.lst us) a=_;rw [zao]
 ·exact h
 ·rintro rfl;have h:H a=some (.tup _):=h;rw [hl] at h;cases h
theorem zdm.upd {l:Addr} {vs us:List V} (h:zdm H r as es) (hl:H l=some (.lst vs)) (ne:r≠l):zdm (L2.upd H l (.lst us)) r as es :=
 ⟨by rw [zao ne];exact h.1,h.2.mono fun _ _ _ z=>z.upd hl⟩
theorem Row.upd {l:Addr} {vs us:List V} (h:Row H r es) (hl:H l=some (.lst vs)) (ne:r≠l):Row (L2.upd H l (.lst us)) r es:=h.elim fun as h=>⟨as,h.upd hl ne⟩
theorem MaR.row {i:Nat} {as':List Addr} (h:MaR H p rs m) (hi:rs[i]?=some r) (he:zbq (Ent H) as' es):MaR (L2.upd H r (.lst (as'.map V.ref))) p rs (m.set i es):=by
 have hr:r∈rs:=zoC hi;obtain⟨es0,_,as,h1,h2⟩:=h.2.2.at hi;refine⟨by rw [zao (h.ne hr).symm];exact h.1,h.2.1,h.2.2.setA hi (fun b y _ hb z=>z.upd h1 hb) h.2.1 ⟨as',zaf,he.mono fun _ _ _ z=>z.upd h1⟩⟩
theorem MaR.app (h:MaR H p rs m) (hr:Row H r es) (hn:r ∉ rs) (hp:r≠p):MaR (L2.upd H p (.lst ((rs++[r]).map V.ref))) p (rs++[r]) (m++[es]):=by
 refine⟨zaf,?_,(h.2.2.mono fun b y hb z=>z.upd h.1 (h.ne hb)).app (hr.upd h.1 hp)⟩;rw [List.nodup_append];exact⟨h.2.1,by simp,fun a ha b hb=>by rw [zoG.1 hb];rintro rfl;exact hn ha⟩
theorem zdm.app (h:zdm H r as es) (he:Ent H a e):zdm (L2.upd H r (.lst ((as++[a]).map V.ref))) r (as++[a]) (es++[e]) :=
 ⟨zaf,(h.2.mono fun _ _ _ z=>z.upd h.1).app (he.upd h.1)⟩
theorem zdm.app' (h:zdm H r as es) (he:Ent H a e):zdm (L2.upd H r (.lst (as.map V.ref++[V.ref a]))) r (as++[a]) (es++[e]):=by
 have:=h.app he
 rw [zoF] at this;exact this
theorem MaR.app' (h:MaR H p rs m) (hr:Row H r es) (hn:r ∉ rs) (hp:r≠p):MaR (L2.upd H p (.lst (rs.map V.ref++[V.ref r]))) p (rs++[r]) (m++[es]):=by
 have:=h.app hr hn hp
 rw [zoF] at this;exact this
theorem MaR.other {l:Addr} {vs us:List V} (h:MaR H p rs m) (hl:H l=some (.lst vs)) (np:l≠p) (nr:l ∉ rs):MaR (L2.upd H l (.lst us)) p rs m :=
 ⟨by rw [zao np.symm];exact h.1,h.2.1,h.2.2.mono fun b y hb z=>z.upd hl (by rintro rfl;exact nr hb)⟩
theorem zdK (as:List Addr) (i:Nat) (a:Addr):(as.map V.ref).set i (V.ref a)=(as.set i a).map V.ref:=(List.map_set).symm
theorem MaR.rowSet {i j:Nat} {a:Addr} (h:MaR H p rs m) (hi:rs[i]?=some r) (hr:zdm H r as es) (he:Ent H a e):MaR (L2.upd H r (.lst ((as.map V.ref).set j (V.ref a)))) p rs (m.set i (es.set j e)):=by
 rw [zdK];exact h.row hi (hr.2.set he)
theorem zgr:∀ ns:List Int,zbQ H (ns.map V.int) (ns.map DD.int)
 | []=>by rw [zo1,zo1,zbQ]
 | n::ns=>by rw [zo0,zo0,zbQ];exact⟨_,_,rfl,by rw [Den],zgr ns⟩
abbrev dE (e:En):DD:=.tup (e.map DD.int)
abbrev dR (es:List En):DD:=.lst (es.map dE)
theorem Ent.den (h:Ent H a e):Den H (.ref a) (dE e):=by rw [dE,Den];exact⟨_,_,rfl,h,zgr e⟩
theorem zfZ {α:Type} {f:α->DD} {R:Addr->α->Prop} (hR:∀ a x,R a x->Den H (.ref a) (f x)):∀ {as:List Addr} {xs:List α},zbq R as xs->zbQ H (as.map V.ref) (xs.map f)
 | [],[],_=>by rw [zo1,zo1,zbQ]
 | a::as,x::xs,h=>by
  rw [zo0,zo0,zbQ];exact⟨_,_,rfl,hR a x (h.2 0 a x rfl rfl),zfZ hR ⟨by have:=h.1;simpa using this,fun i b y hb hy=>h.2 (i+1) b y hb hy⟩⟩
 | [],_::_,h=>by have:=h.1;simp at this
 | _::_,[],h=>by have:=h.1;simp at this
theorem Row.den:Row H r es->Den H (.ref r) (dR es):=fun ⟨as,h1,h2⟩=>by rw [dR,Den];exact⟨_,_,rfl,h1,zfZ (fun _ _ z=>z.den) h2⟩
theorem zaT {k:Nat}:∀ {ds:List DD},(∀ d∈ds,dep d<=k)->depL ds<=k
 | [],_=>by rw [depL];omega
 | d::ds,h=>by rw [depL];exact Nat.max_le.2 ⟨h d (by simp),zaT fun x hx=>h x (by simp [hx])⟩
theorem zkl:dep (dE e)<=1:=by
 rw [dE,dep]
 have:depL (e.map DD.int)<=0:=zaT fun d hd=>by
  obtain⟨i,_,rfl⟩:=zoP.1 hd;exact zoN 0
 omega
theorem zkm:dep (dR es)<=2:=by
 rw [dR,dep]
 have:depL (es.map dE)<=1:=zaT fun d hd=>by
  obtain⟨i,_,rfl⟩:=zoP.1 hd;exact zkl
 omega
end
theorem MaR.out {H:Hp} {p q:Addr} {rs:List Addr} {m:Ma} (h:MaR H p rs m) (n:H q=none):q ∉ rs:=fun z=>by
 obtain⟨j,hj,e⟩:=List.getElem_of_mem z;obtain⟨es,_,as,h1,_⟩:=h.2.2.at (zoB.2 ⟨hj,e⟩);rw [n] at h1;cases h1
theorem MaR.outp {H:Hp} {p q:Addr} {rs:List Addr} {m:Ma} (h:MaR H p rs m) (n:H q=none):q≠p:=fun z=>by
 have:=h.1
 rw [← z,n] at this;cases this
structure Pu (pp:Addr) (k:Int) (H H':Hp):Prop where
 had:∃ n:Int,H pp=some (.lst [.int n,.int k])
 has:∃ n:Int,H' pp=some (.lst [.int n,.int k])
 keep:∀ a o,a≠pp->H a=some o->H' a=some o
section
variable {pp:Addr} {k:Int} {A B C:Hp}
theorem Pu.refl (h:∃ n:Int,A pp=some (.lst [.int n,.int k])):Pu pp k A A:=⟨h,h,fun _ _ _ e=>e⟩
theorem Pu.trans (h:Pu pp k A B) (h':Pu pp k B C):Pu pp k A C:=⟨h.had,h'.has,fun a o n e=>h'.keep a o n (h.keep a o n e)⟩
theorem Pu.sub (h:Pu pp k A B) (S:Sub B C):Pu pp k A C:=⟨h.had,h.has.imp fun _ e=>S _ _ e,fun a o n e=>S _ _ (h.keep a o n e)⟩
theorem Pu.draw (h:Pu pp k A B) (n:Int):Pu pp k A (upd B pp (.lst [.int n,.int k])):=⟨h.had,⟨n,zaf⟩,fun a o ne e=>by rw [zao ne];exact h.keep a o ne e⟩
theorem Pu.set {p:Addr} {o:HO} (h:Pu pp k A B) (hp:A p=none):Pu pp k A (upd B p o):=by
 have ne:pp≠p:=by
  rintro rfl;obtain⟨n,e⟩:=h.had;rw [hp] at e;cases e
 refine⟨h.had,?_,fun a u na e=>?_⟩
 ·obtain⟨n,e⟩:=h.has;exact⟨n,by rw [zao ne];exact e⟩
 ·rw [zao]
  ·exact h.keep a u na e
  ·rintro rfl;rw [hp] at e;cases e
theorem Pu.stay (h:Pu pp k A B):zdn A B:=by
 obtain⟨n,e⟩:=h.had;refine⟨fun a xs q=>h.keep _ _ ?_ q,fun a as q=>h.keep _ _ ?_ q⟩
 ·rintro rfl;rw [q] at e;cases e
 ·rintro rfl;rw [q] at e;cases as with
  | nil=>cases e
  | cons x xs=>cases e
theorem Pu.free (h:Pu pp k A B) {p:Addr} (n:B p=none):A p=none:=by
 cases e:A p with
 | none=>rfl
 | some o =>
  by_cases q:p=pp
  ·obtain⟨_,e'⟩:=h.has;rw [← q,n] at e';cases e'
  ·rw [h.keep _ _ q e] at n;cases n
theorem Pu.of_draw (n:Int) {n':Int} (h:A pp=some (.lst [.int n',.int k])):Pu pp k A (upd A pp (.lst [.int n,.int k])):=(Pu.refl ⟨n',h⟩).draw n
end
end L2
end
section
namespace L2
open PySem PySem.Spec PyProof.Rows PySem.W
def zk6:Bool->Keyed->Array Keyed->Nat->Nat->Nat->StateT SortSt Sem (Option Nat):=sortPriv% PySem.Builtin.gallop
def zjx:Array Keyed->Array Keyed->StateT SortSt Sem (Array Keyed):=sortPriv% PySem.Builtin.mergeLo
def zjw:Array Keyed->Array Keyed->StateT SortSt Sem (Array Keyed):=sortPriv% PySem.Builtin.mergeHi
section
variable {M:Model} {A:Around} {E:Value->Shared->Prop} {s:Shared} {kf:Keyed->Int} {G:Keyed->Prop} {κ:SortKind}
def Cmp (M:Model) (A:Around) (E:Value->Shared->Prop) (s:Shared) (kf:Keyed->Int) (G:Keyed->Prop) (κ:SortKind):Prop :=
 ∀ (x y:Keyed) (st:SortSt) (Q:Option Bool->SortSt->Prop),G x->G y->kf x≠kf y->kindOf st=κ->Q (some (decide (kf x<kf y))) st->wpS M A E s (lt' x y) Q st
theorem zbK (C:Cmp M A E s kf G κ) {left:Bool} {key:Keyed} {arr:Array Keyed} {base n hint K:Nat} {st:SortSt} {Q:Option Nat->SortSt->Prop} (hk:kindOf st=κ) (gk:G key)
  (hG:∀ i,i<n->∃ x,arr[base+i]?=some x/\G x/\kf x≠kf key/\(kf x<kf key↔i<K)) (hh:hint<n) (hK:K<=n) (h:Q (some K) st):wpS M A E s (zk6 left key arr base n hint) Q st:=by
 have beyond:∀ (i:Nat) (R:Option Bool->SortSt->Prop),i<n->R (some (decide (i<K))) st->wpS M A E s (do let x ← elem' arr (base+i);if left=true then lt' x key else do let r ← lt' key x;pure (r.map (!·))) R st:=by
  intro i R hi hR;obtain⟨x,e,gx,ne,hx⟩:=hG i hi;rw [elem'_eq,e];refine wpS_bind (wpS_pure ?_);cases left with
  | true =>
   rw [zpc rfl];refine C x key st R gx gk ne hk ?_;rw [show decide (kf x<kf key)=decide (i<K) from decide_eq_decide.2 hx];exact hR
  | false =>
   rw [zpb (by simp)];refine wpS_bind (C key x st _ gk gx (Ne.symm ne) hk (wpS_pure ?_))
   have:(some (decide (kf key<kf x))).map (!·)=some (decide (i<K)):=by
    show some (!decide (kf key<kf x))=_
    congr 1
    rw [show decide (i<K)=decide (kf x<kf key) from decide_eq_decide.2 hx.symm];by_cases q:kf x<kf key
    ·rw [zoD q,zoE (by omega)];rfl
    ·rw [zoE q,zoD (by omega)];rfl
   rw [this];exact hR
 refine wpS_bind (beyond hint _ hh ?_);by_cases hr:hint<K
 ·rw [zoD hr];refine wpS_bind (wpS_mono (wpS_forRange (I:=fun i c st'=>st'=st/\∃ l o,c=(none,l,o)/\hint+l<K/\i+1<=o) (Q:=fun c st'=>st'=st/\∃ l o,c=(none,l,o)/\hint+l<K/\(n-hint<=o\/K<=hint+o)) ?_ ?_ ⟨rfl,0,1,rfl,by omega,by omega⟩) ?_)
  ·rintro i c st' _ hi ⟨rfl,l,o,rfl,h1,h2⟩;dsimp only;by_cases ho:o ≥ n-hint
   ·rw [zpc ho];exact wpS_pure ⟨rfl,l,o,rfl,h1,.inl ho⟩
   ·rw [zpb ho];refine wpS_bind (beyond (hint+o) _ (by omega) ?_);by_cases hm:hint+o<K
    ·rw [zoD hm];exact wpS_pure ⟨rfl,o,2*o+1,rfl,hm,by omega⟩
    ·rw [zoE hm];exact wpS_pure ⟨rfl,l,o,rfl,h1,.inr (by omega)⟩
  ·rintro c st' ⟨rfl,l,o,rfl,h1,h2⟩;exact⟨rfl,l,o,rfl,h1,.inl (by omega)⟩
  ·rintro c st' ⟨rfl,l,o,rfl,h1,h2⟩;dsimp only;have b1:hint+l+1<=K:=by omega
   have b2:K<=hint+min o (n-hint):=by omega
   have b3:hint+min o (n-hint)<=n:=by omega
   generalize hint+l+1=lo at b1 ⊢;generalize hint+min o (n-hint)=hi at b2 b3 ⊢;refine wpS_bind (wpS_mono (wpS_forRange (I:=fun i c st''=>st''=st'/\∃ a b,c=(none,a,b)/\a<=K/\K<=b/\b<=n/\b-a<=n-i) (Q:=fun c st''=>st''=st'/\∃ a,c=(none,a,K)) ?_ ?_ ⟨rfl,lo,hi,rfl,b1,b2,b3,by omega⟩) ?_)
   ·rintro i c st'' _ hi ⟨rfl,a,b,rfl,h1,h2,h3,h4⟩;dsimp only;by_cases ho:a ≥ b
    ·rw [zpc ho]
     have:b=K:=by omega
     exact wpS_pure ⟨rfl,a,by rw [this]⟩
    ·rw [zpb ho];refine wpS_bind (beyond (a+(b-a) / 2) _ (by omega) ?_);by_cases hm:a+(b-a) / 2<K
     ·rw [zoD hm];exact wpS_pure ⟨rfl,_,_,rfl,by omega,h2,h3,by omega⟩
     ·rw [zoE hm];exact wpS_pure ⟨rfl,_,_,rfl,h1,by omega,by omega,by omega⟩
   ·rintro c st'' ⟨rfl,a,b,rfl,h1,h2,h3,h4⟩
    have:b=K:=by omega
    exact⟨rfl,a,by rw [this]⟩
   ·rintro c st'' ⟨rfl,a,rfl⟩;exact wpS_pure h
 ·rw [zoE hr];refine wpS_bind (wpS_mono (wpS_forRange (I:=fun i c st'=>st'=st/\∃ l o,c=(none,l,o)/\K+l<=hint/\i+1<=o) (Q:=fun c st'=>st'=st/\∃ l o,c=(none,l,o)/\K+l<=hint/\(hint+1<=o\/hint<K+o)) ?_ ?_ ⟨rfl,0,1,rfl,by omega,by omega⟩) ?_)
  ·rintro i c st' _ hi ⟨rfl,l,o,rfl,h1,h2⟩;dsimp only;by_cases ho:o ≥ hint+1
   ·rw [zpc ho];exact wpS_pure ⟨rfl,l,o,rfl,h1,.inl ho⟩
   ·rw [zpb ho];refine wpS_bind (beyond (hint-o) _ (by omega) ?_);by_cases hm:hint-o<K
    ·rw [zoD hm];exact wpS_pure ⟨rfl,l,o,rfl,h1,.inr (by omega)⟩
    ·rw [zoE hm];exact wpS_pure ⟨rfl,o,2*o+1,rfl,by omega,by omega⟩
  ·rintro c st' ⟨rfl,l,o,rfl,h1,h2⟩;exact⟨rfl,l,o,rfl,h1,.inl (by omega)⟩
  ·rintro c st' ⟨rfl,l,o,rfl,h1,h2⟩;dsimp only;have b1:hint+1-min o (hint+1)<=K:=by omega
   have b2:K<=hint-l:=by omega
   have b3:hint-l<=n:=by omega
   generalize hint+1-min o (hint+1)=lo at b1 ⊢;generalize hint-l=hi at b2 b3 ⊢;refine wpS_bind (wpS_mono (wpS_forRange (I:=fun i c st''=>st''=st'/\∃ a b,c=(none,a,b)/\a<=K/\K<=b/\b<=n/\b-a<=n-i) (Q:=fun c st''=>st''=st'/\∃ a,c=(none,a,K)) ?_ ?_ ⟨rfl,lo,hi,rfl,b1,b2,b3,by omega⟩) ?_)
   ·rintro i c st'' _ hi ⟨rfl,a,b,rfl,h1,h2,h3,h4⟩;dsimp only;by_cases ho:a ≥ b
    ·rw [zpc ho]
     have:b=K:=by omega
     exact wpS_pure ⟨rfl,a,by rw [this]⟩
    ·rw [zpb ho];refine wpS_bind (beyond (a+(b-a) / 2) _ (by omega) ?_);by_cases hm:a+(b-a) / 2<K
     ·rw [zoD hm];exact wpS_pure ⟨rfl,_,_,rfl,by omega,h2,h3,by omega⟩
     ·rw [zoE hm];exact wpS_pure ⟨rfl,_,_,rfl,h1,by omega,by omega,by omega⟩
   ·rintro c st'' ⟨rfl,a,b,rfl,h1,h2,h3,h4⟩
    have:b=K:=by omega
    exact⟨rfl,a,by rw [this]⟩
   ·rintro c st'' ⟨rfl,a,rfl⟩;exact wpS_pure h
end
section
variable {kf:Keyed->Int} {G:Keyed->Prop}
def Ord (kf:Keyed->Int) (l:List Keyed):Prop:=l.Pairwise fun x y=>kf x<kf y
def Res (kf:Keyed->Int) (base o:List Keyed):Prop:=Ord kf o/\o.Perm base
structure MI (kf:Keyed->Int) (base o ra rb:List Keyed):Prop where
 so:Ord kf o
 sa:Ord kf ra
 sb:Ord kf rb
 oa:∀ x∈o,∀ y∈ra,kf x<kf y
 ob:∀ x∈o,∀ y∈rb,kf x<kf y
 pm:(o++(ra++rb)).Perm base
variable {base o ra rb xs:List Keyed}
theorem MI.swap (h:MI kf base o ra rb):MI kf base o rb ra:=⟨h.so,h.sb,h.sa,h.ob,h.oa,(List.Perm.append_left _ List.perm_append_comm).trans h.pm⟩
theorem MI.stepA (h:MI kf base o (xs++ra) rb) (hx:∀ x∈xs,∀ y∈rb,kf x<kf y):MI kf base (o++xs) ra rb:=by
 obtain⟨s1,s2,s3⟩:=List.pairwise_append.1 h.sa;refine⟨List.pairwise_append.2 ⟨h.so,s1,fun x hx y hy=>h.oa x hx y (zo4 _ hy)⟩,s2,h.sb,fun x hx' y hy=>?_,fun x hx' y hy=>?_,?_⟩
 ·rcases zoI.1 hx' with q | q
  ·exact h.oa x q y (zo5 _ hy)
  ·exact s3 x q y hy
 ·rcases zoI.1 hx' with q | q
  ·exact h.ob x q y hy
  ·exact hx x q y hy
 ·have:=h.pm
  rw [zoS] at this;rw [zoS];exact this
theorem MI.stepB (h:MI kf base o ra (xs++rb)) (hx:∀ x∈xs,∀ y∈ra,kf x<kf y):MI kf base (o++xs) ra rb:=(h.swap.stepA hx).swap
theorem MI.endA (h:MI kf base o ra []):Res kf base (o++ra):=⟨List.pairwise_append.2 ⟨h.so,h.sa,h.oa⟩,by have:=h.pm;rw [zoJ] at this;exact this⟩
theorem MI.endAB (h:MI kf base o ra rb) (hx:∀ x∈ra,∀ y∈rb,kf x<kf y):Res kf base (o++ra++rb):=by
 have:=h
 rw [← zoJ ra] at this;exact (this.stepA hx).swap.endA
theorem MI.endBA (h:MI kf base o ra rb) (hx:∀ x∈ra,∀ y∈rb,kf y<kf x):Res kf base (o++rb++ra):=h.swap.endAB fun y hy x hx'=>hx x hx' y hy
theorem zkk (k:Int):∀ (l:List Keyed),Ord kf l->(∀ x∈l,kf x≠k)->∃ K,K<=l.length/\∀ i (h:i<l.length),(kf l[i]<k↔i<K)
 | [],_,_=>⟨0,zoN _,fun i h=>absurd h (by simp)⟩
 | x::l,hs,hn=>by
  obtain⟨s1,s2⟩:=List.pairwise_cons.1 hs;obtain⟨K,h1,h2⟩:=zkk k l s2 fun y hy=>hn y (zoQ _ hy)
  by_cases hx:kf x<k
  ·refine⟨K+1,by simp;omega,fun i hi=>?_⟩;cases i with
   | zero=>simp [hx]
   | succ i=>rw [List.getElem_cons_succ,h2 i (by simp at hi;omega)];omega
  ·refine⟨0,Nat.zero_le _,fun i hi=>?_⟩;have hk:k<kf x:=by have:=hn x (zo6 ..);omega
   cases i with
   | zero=>simp;omega
   | succ i =>
    rw [List.getElem_cons_succ];have hi':i<l.length:=by simp at hi;omega
    have:=s1 l[i] (List.getElem_mem _)
    omega
structure AI (kf:Keyed->Int) (a b out:Array Keyed) (ia ib:Nat):Prop where
 m:MI kf (a.toList++b.toList) out.toList (a.toList.drop ia) (b.toList.drop ib)
variable {a b out:Array Keyed} {ia ib k:Nat} {x y:Keyed}
theorem zb1 (h:a[ia]?=some x):a.toList.drop ia=x::a.toList.drop (ia+1):=by
 rw [← zpe] at h;obtain⟨h1,h2⟩:=zoB.1 h;rw [zpl h1,h2]
theorem zdr:(a.extract ia (ia+k)).toList++a.toList.drop (ia+k)=a.toList.drop ia:=by
 rw [Array.toList_extract,List.extract_eq_take_drop,show ia+k-ia=k by omega,← List.drop_drop];exact List.take_append_drop _ _
theorem zeC:(a.extract ia a.size).toList=a.toList.drop ia:=by
 rw [Array.toList_extract,List.extract_eq_take_drop,List.take_of_length_le];rw [List.length_drop,zpd];exact zoN _
theorem AI.pushA (h:AI kf a b out ia ib) (hx:a[ia]?=some x) (hl:∀ y∈b.toList.drop ib,kf x<kf y):AI kf a b (out.push x) (ia+1) ib:=by
 have:=h.m
 rw [zb1 hx] at this;refine⟨?_⟩;rw [Array.toList_push];exact this.stepA (xs:=[x]) fun z hz=>by rw [zoG.1 hz];exact hl
theorem AI.pushB (h:AI kf a b out ia ib) (hx:b[ib]?=some x) (hl:∀ y∈a.toList.drop ia,kf x<kf y):AI kf a b (out.push x) ia (ib+1):=by
 have:=h.m
 rw [zb1 hx] at this;refine⟨?_⟩;rw [Array.toList_push];exact this.stepB (xs:=[x]) fun z hz=>by rw [zoG.1 hz];exact hl
theorem AI.extA (h:AI kf a b out ia ib) (hl:∀ x∈(a.extract ia (ia+k)).toList,∀ y∈b.toList.drop ib,kf x<kf y):AI kf a b (out++a.extract ia (ia+k)) (ia+k) ib:=by
 have:=h.m
 rw [← zdr (k:=k)] at this;refine⟨?_⟩;rw [Array.toList_append];exact this.stepA hl
theorem AI.extB (h:AI kf a b out ia ib) (hl:∀ x∈(b.extract ib (ib+k)).toList,∀ y∈a.toList.drop ia,kf x<kf y):AI kf a b (out++b.extract ib (ib+k)) ia (ib+k):=by
 have:=h.m
 rw [← zdr (a:=b) (k:=k)] at this;refine⟨?_⟩;rw [Array.toList_append];exact this.stepB hl
def zfd (kf:Keyed->Int) (a b out:Array Keyed):Prop:=Res kf (a.toList++b.toList) out.toList
theorem AI.done (h:AI kf a b out ia ib) (he:a.size<=ia\/b.size<=ib):zfd kf a b (out++a.extract ia a.size++b.extract ib b.size):=by
 unfold zfd;rw [Array.toList_append,Array.toList_append,zeC,zeC];refine h.m.endAB fun x hx y hy=>?_
 rcases he with he | he
 ·rw [List.drop_eq_nil_of_le (by rw [zpd];exact he)] at hx;cases hx
 ·rw [List.drop_eq_nil_of_le (by rw [zpd];exact he)] at hy;cases hy
theorem AI.lastA (h:AI kf a b out ia ib) (he:ia+1=a.size) (hl:∀ x,a[a.size-1]?=some x->∀ y∈b.toList,kf y<kf x):zfd kf a b (out++b.extract ib b.size++a.extract ia a.size):=by
 unfold zfd;rw [Array.toList_append,Array.toList_append,zeC,zeC];refine h.m.endBA fun x hx y hy=>?_
 have hia:ia<a.size:=by omega
 rw [zb1 (Array.getElem?_eq_getElem hia),List.drop_eq_nil_of_le (by rw [zpd];omega)] at hx;rw [zoG.1 hx];exact hl _ (by rw [show a.size-1=ia by omega];exact Array.getElem?_eq_getElem hia) y (List.mem_of_mem_drop hy)
theorem Ord.head (h:Ord kf (x::ra)):∀ y∈x::ra,kf x<=kf y:=fun y hy=>by
 rcases zpg.1 hy with rfl | q
 ·exact Int.le_refl _
 ·exact Int.le_of_lt ((List.pairwise_cons.1 h).1 y q)
structure Two (kf:Keyed->Int) (G:Keyed->Prop) (a b:Array Keyed):Prop where
 ga:∀ x∈a.toList,G x
 gb:∀ x∈b.toList,G x
 ne:∀ x∈a.toList,∀ y∈b.toList,kf x≠kf y
 sa:Ord kf a.toList
 sb:Ord kf b.toList
 na:0<a.size
 nb:0<b.size
 hd:∀ y,b[0]?=some y->∀ x∈a.toList,kf y<kf x
 lst:∀ x,a[a.size-1]?=some x->∀ y∈b.toList,kf y<kf x
theorem zaM (h:a[ia]?=some x):x∈a.toList:=Array.mem_toList_iff.2 (Array.mem_of_getElem? h)
theorem zay (h:ia<a.size):∃ x,a[ia]?=some x:=⟨_,Array.getElem?_eq_getElem h⟩
theorem AI.start (T:Two kf G a b) (h:b[0]?=some x):AI kf a b #[x] 0 1:=by
 refine⟨?_⟩;have e:=zb1 h;rw [List.drop_zero] at e;have s:=T.sb;rw [e] at s;have s':=List.pairwise_cons.1 s;refine⟨List.pairwise_singleton _ _,T.sa,s'.2,fun z hz y hy=>?_,fun z hz y hy=>?_,?_⟩
 ·rw [zoG.1 hz];exact T.hd x h y hy
 ·rw [zoG.1 hz];exact s'.1 y hy
 ·rw [List.drop_zero]
  conv=>rhs;rw [e]
  show (x::(a.toList++List.drop 1 b.toList)).Perm _;exact (List.perm_middle).symm
theorem AI.ltB (h:AI kf a b out ia ib) (hx:a[ia]?=some x) (hy:b[ib]?=some y) (l:kf x<kf y):∀ z∈b.toList.drop ib,kf x<kf z:=fun z hz=>by
 have s:=h.m.sb;rw [zb1 hy] at s hz;exact Int.lt_of_lt_of_le l (s.head z hz)
theorem AI.ltA (h:AI kf a b out ia ib) (hx:a[ia]?=some x) (hy:b[ib]?=some y) (l:kf y<kf x):∀ z∈a.toList.drop ia,kf y<kf z:=fun z hz=>by
 have s:=h.m.sa;rw [zb1 hx] at s hz;exact Int.lt_of_lt_of_le l (s.head z hz)
theorem zbf {i j:Nat} (h:x∈(a.extract i j).toList):∃ k,i<=k/\k<j/\a[k]?=some x:=by
 rw [Array.toList_extract,List.extract_eq_take_drop] at h;obtain⟨n,hn⟩:=List.mem_iff_getElem?.1 h;rw [List.getElem?_take] at hn;split at hn
 ·rw [List.getElem?_drop] at hn;refine⟨i+n,by omega,by omega,?_⟩;rw [← zpe];exact hn
 ·cases hn
theorem zif {i:Nat} (h:x∈a.toList.drop i):∃ k,i<=k/\a[k]?=some x:=by
 obtain⟨n,hn⟩:=List.mem_iff_getElem?.1 h;rw [List.getElem?_drop] at hn;exact⟨i+n,by omega,by rw [← zpe];exact hn⟩
theorem zey {arr:Array Keyed} {bs n:Nat} {kk:Int} (hn:bs+n<=arr.size) (hs:∀ i j x y,i<j->j<n->arr[bs+i]?=some x->arr[bs+j]?=some y->kf x<kf y)
  (hg:∀ i x,i<n->arr[bs+i]?=some x->G x/\kf x≠kk):∃ K,K<=n/\∀ i,i<n->∃ x,arr[bs+i]?=some x/\G x/\kf x≠kk/\(kf x<kk↔i<K):=by
 have g:∀ i (h:i<((arr.toList.drop bs).take n).length),i<n/\arr[bs+i]?=some ((arr.toList.drop bs).take n)[i]:=fun i h=>by
  have e:=zoz h
  have:i<n:=by rw [zoW] at h;omega
  rw [List.getElem?_take,zpc this,List.getElem?_drop,zpe] at e;exact⟨this,e⟩
 have hl:((arr.toList.drop bs).take n).length=n:=by rw [zoW,List.length_drop,zpd];omega
 obtain⟨K,h1,h2⟩:=zkk (kf:=kf) kk ((arr.toList.drop bs).take n) (List.pairwise_iff_getElem.2 fun i j hi hj hij=>hs i j _ _ hij (g j hj).1 (g i hi).2 (g j hj).2) fun x hx=>by
  obtain⟨i,hi,rfl⟩:=List.mem_iff_getElem.1 hx;exact (hg i _ (g i hi).1 (g i hi).2).2
 refine⟨K,by omega,fun i hi=>?_⟩;have hi':i<((arr.toList.drop bs).take n).length:=by omega
 obtain⟨q1,q2⟩:=hg i _ hi (g i hi').2;exact⟨_,(g i hi').2,q1,q2,h2 i hi'⟩
theorem Ord.arr (h:Ord kf a.toList) {i j:Nat} {x y:Keyed} (hij:i<j) (hx:a[i]?=some x) (hy:a[j]?=some y):kf x<kf y:=by
 rw [← zpe] at hx hy;obtain⟨h1,rfl⟩:=zoB.1 hx;obtain⟨h2,rfl⟩:=zoB.1 hy;exact List.pairwise_iff_getElem.1 h i j h1 h2 hij
theorem Ord.ofArr (h:∀ (i j:Nat) (x y:Keyed),i<j->a[i]?=some x->a[j]?=some y->kf x<kf y):Ord kf a.toList :=
 List.pairwise_iff_getElem.2 fun i j hi hj hij=>h i j _ _ hij (by rw [← zpe];exact zoz hi) (by rw [← zpe];exact zoz hj)
theorem Two.cutA (T:Two kf G a b) (hy:y∈b.toList) {bs n:Nat} (hn:bs+n<=a.size):∃ K,K<=n/\∀ i,i<n->∃ x,a[bs+i]?=some x/\G x/\kf x≠kf y/\(kf x<kf y↔i<K) :=
 zey hn (fun i j x z hij _ hx hz=>T.sa.arr (by omega) hx hz) fun i x _ hx=>⟨T.ga x (zaM hx),T.ne x (zaM hx) y hy⟩
theorem Two.cutB (T:Two kf G a b) (hx:x∈a.toList) {bs n:Nat} (hn:bs+n<=b.size):∃ K,K<=n/\∀ i,i<n->∃ y,b[bs+i]?=some y/\G y/\kf y≠kf x/\(kf y<kf x↔i<K) :=
 zey hn (fun i j x z hij _ hx hz=>T.sb.arr (by omega) hx hz) fun i y _ hy=>⟨T.gb y (zaM hy),Ne.symm (T.ne x hx y (zaM hy))⟩
theorem AI.galA {K:Nat} (T:Two kf G a b) (S:AI kf a b out ia ib) (hy:b[ib]?=some y) (l1:ia+1<a.size) (hK:K<=a.size-ia)
  (cut:∀ i,i<a.size-ia->∃ x,a[ia+i]?=some x/\G x/\kf x≠kf y/\(kf x<kf y↔i<K)) :
  AI kf a b (out++a.extract ia (ia+K)) (ia+K) ib/\(∀ x∈a.toList.drop (ia+K),kf y<kf x)/\ia+K+1<=a.size:=by
 have at_:∀ k x,ia<=k->a[k]?=some x->kf x≠kf y/\(kf x<kf y↔k<ia+K):=fun k x k1 k3=>by
  have hk3:=(Array.getElem?_eq_some_iff.1 k3).1;obtain⟨d,rfl⟩:=Nat.exists_eq_add_of_le k1;obtain⟨x',e,_,ne,z⟩:=cut d (by omega);rw [k3] at e;cases e;exact⟨ne,z.trans Nat.add_lt_add_iff_left.symm⟩
 refine⟨S.extA (k:=K) fun x hx z hz=>?_,fun x hx=>?_,?_⟩
 ·obtain⟨k,k1,k2,k3⟩:=zbf hx;have s:=S.m.sb;rw [zb1 hy] at s hz;exact Int.lt_of_lt_of_le ((at_ k x k1 k3).2.2 k2) (s.head z hz)
 ·obtain⟨k,k1,k3⟩:=zif hx;obtain⟨ne,z⟩:=at_ k x (zoM (Nat.le_add_right _ _) k1) k3;exact (Int.lt_or_lt_of_ne ne).resolve_left fun q=>absurd (z.1 q) (Nat.not_lt.2 k1)
 ·obtain⟨xl,hxl⟩:=zay (a:=a) (ia:=a.size-1) (by omega);obtain⟨ne,z⟩:=at_ _ xl (by omega) hxl;have q:=T.lst _ hxl y (zaM hy)
  have:=mt z.2 (Int.not_lt.2 (Int.le_of_lt q))
  omega
theorem AI.galB {L:Nat} (S:AI kf a b out ia ib) (hx:a[ia]?=some x) (cut:∀ i,i<b.size-ib->∃ y,b[ib+i]?=some y/\G y/\kf y≠kf x/\(kf y<kf x↔i<L)) :
  AI kf a b (out++b.extract ib (ib+L)) ia (ib+L)/\∀ z∈b.toList.drop (ib+L),kf x<kf z:=by
 have at_:∀ k y,ib<=k->b[k]?=some y->kf y≠kf x/\(kf y<kf x↔k<ib+L):=fun k y k1 k3=>by
  have hk3:=(Array.getElem?_eq_some_iff.1 k3).1;obtain⟨d,rfl⟩:=Nat.exists_eq_add_of_le k1;obtain⟨x',e,_,ne,z⟩:=cut d (by omega);rw [k3] at e;cases e;exact⟨ne,z.trans Nat.add_lt_add_iff_left.symm⟩
 refine⟨S.extB (k:=L) fun z hz u hu=>?_,fun z hz=>?_⟩
 ·obtain⟨k,k1,k2,k3⟩:=zbf hz;have s:=S.m.sa;rw [zb1 hx] at s hu;exact Int.lt_of_lt_of_le ((at_ k z k1 k3).2.2 k2) (s.head u hu)
 ·obtain⟨k,k1,k3⟩:=zif hz;obtain⟨ne,w⟩:=at_ k z (zoM (Nat.le_add_right _ _) k1) k3;exact (Int.lt_or_lt_of_ne ne).resolve_left fun q=>absurd (w.1 q) (Nat.not_lt.2 k1)
end
section
variable {M:Model} {A:Around} {E:Value->Shared->Prop} {s:Shared} {kf:Keyed->Int} {G:Keyed->Prop} {κ:SortKind}
abbrev zbF (st:SortSt) (g:Nat):SortSt:=SortSt.mk' (kindOf st) (arrOf st) (pendingOf st) g (failedOf st)
theorem zaF {a:Array Keyed} {i:Nat} {x:Keyed} {st:SortSt} {R:Keyed->SortSt->Prop} (hx:a[i]?=some x) (h:R x st):wpS M A E s (elem' a i) R st:=by rw [elem'_eq,hx];exact wpS_pure h
theorem zaw {σ α:Type} {c:Prop} [Decidable c] {m1 m2:StateT σ Sem α} {Q:α->σ->Prop} {st:σ} (h1:c->wpS M A E s m1 Q st) (h2:¬ c->wpS M A E s m2 Q st):wpS M A E s (if c then m1 else m2) Q st:=by
 by_cases h:c
 ·rw [zpc h];exact h1 h
 ·rw [zpb h];exact h2 h
theorem zg4 {σ α:Type} {k f:Nat->StateT σ Sem α} {Q:α->σ->Prop} {st:σ} (hk:∀ n,k n=f (n-1)) (h:∀ n,wpS M A E s (f n) Q st):∀ mg:Nat,wpS M A E s (if mg > 1 then k mg else f mg) Q st:=fun mg=>zaw (fun _=>by rw [hk];exact h _) fun _=>h _
set_option hygiene false in
local macro_rules | `(tactic| walk_at "loEnd") => `(tactic| (
 refine wpS_bind (zaF hx ?_);have S4:=S3.pushA hx hi2;refine zaw (fun e=>?_) fun e=>?_
 ·exact wpS_pure ⟨_,rfl,.inl ⟨_,rfl,S4.lastA (by simpa using e) T.lst⟩⟩
 have e2:I+1+1≠a.size:=by simpa using e
 refine zaw (fun _=>?_) fun _=>?_
 ·exact wpS_pure ⟨_,rfl,.inr ⟨_,_,_,_,_,_,rfl,S4,by omega,by omega,by omega⟩⟩
 ·exact wpS_pure ⟨_,rfl,_,_,_,_,_,_,rfl,S4,by omega,by omega,by omega⟩))
set_option hygiene false in
local macro_rules | `(tactic| walk_at "loTail") => `(tactic| (
 refine wpS_bind (zaF hy ?_);have S2:=S1.pushB hy hi;refine zaw (fun e=>?_) fun e=>?_
 ·have e0:ib+1=b.size:=by simpa using e
  exact wpS_pure ⟨_,rfl,.inl ⟨_,rfl,S2.done (.inr (by omega))⟩⟩
 have e1:ib+1≠b.size:=by simpa using e
 obtain⟨x,hx⟩:=zay (a:=a) (ia:=I) (by omega);refine wpS_bind (zaF hx ?_);obtain⟨L,hL,cutb⟩:=T.cutB (zaM hx) (bs:=ib+1) (n:=b.size-(ib+1)) (by omega);refine wpS_bind (zbK C (K:=L) hk (T.ga x (zaM hx)) cutb (by omega) hL ?_);dsimp only;obtain⟨S3,hi2⟩:=AI.galB S2 hx cutb;refine zaw (fun _=>?_) fun eL=>?_
 ·refine zaw (fun e=>?_) fun e=>?_
  ·have e0:ib+1+L=b.size:=by simpa using e
   exact wpS_pure ⟨_,rfl,.inl ⟨_,rfl,S3.done (.inr (by omega))⟩⟩
  have e3:ib+1+L≠b.size:=by simpa using e
  walk_at "loEnd"
 ·obtain rfl:L=0:=by omega
  have S3:=S2;walk_at "loEnd"))
theorem zhm (C:Cmp M A E s kf G κ) {a b:Array Keyed} {st:SortSt} {Q:Array Keyed->SortSt->Prop} (hk:kindOf st=κ) (T:Two kf G a b) (h:∀ o g,zfd kf a b o->Q o (zbF st g)):wpS M A E s (zjx a b) Q st:=by
 obtain⟨x0,hx0⟩:=zay T.nb;refine wpS_bind (wpS_lift (wpAny_rule ⟨rfl,?_⟩));refine wpS_bind (zaF hx0 ?_);have S:=AI.start T hx0;by_cases h1:1=b.size
 ·rw [zpc (by simpa using h1)];exact wpS_pure (h _ (gallopOf st) (S.done (.inr (by omega))))
 by_cases h2:1=a.size
 ·rw [zpb (by simpa using h1),zpc (by simpa using h2)];exact wpS_pure (h _ (gallopOf st) (S.lastA (by omega) T.lst))
 rw [zpb (by simpa using h1),zpb (by simpa using h2)];refine wpS_bind (wpS_get ?_);have na:=T.na;have nb:=T.nb;refine wpS_bind (wpS_mono (wpS_forRange (I:=fun i c st'=>∃ g,st'=zbF st g/\∃ out ia ib mg,c=(none,out,ia,ib,mg)/\AI kf a b out ia ib/\ia+1<a.size/\ib<b.size/\i+1<=ia+ib)
  (Q:=fun c st'=>∃ g,st'=zbF st g/\∃ o,c.1=some o/\zfd kf a b o) ?_ ?_ ⟨gallopOf st,rfl,_,0,1,_,rfl,S,by omega,by omega,by omega⟩) ?_)
 ·rintro i c st' _ hi ⟨g,rfl,out,ia,ib,mg,rfl,S,l1,l2,l3⟩;dsimp only;refine wpS_bind (wpS_mono (wpS_forRange (I:=fun j c st'=>st'=zbF st g/\∃ out ia ib ac bc,c=(none,out,ia,ib,ac,bc)/\AI kf a b out ia ib/\ia+1<a.size/\ib<b.size/\i+1+j<=ia+ib)
   (Q:=fun c st'=>st'=zbF st g/\((∃ o,c.1=some o/\zfd kf a b o)\/∃ out ia ib ac bc,c=(none,out,ia,ib,ac,bc)/\AI kf a b out ia ib/\ia+1<a.size/\ib<b.size/\i+2<=ia+ib)) ?_ ?_ ⟨rfl,out,ia,ib,0,0,rfl,S,l1,l2,by omega⟩) ?_)
  ·rintro j c st' _ hj ⟨rfl,out,ia,ib,ac,bc,rfl,S,l1,l2,l3⟩;dsimp only;obtain⟨x,hx⟩:=zay (a:=a) (ia:=ia) (by omega);obtain⟨y,hy⟩:=zay (a:=b) (ia:=ib) l2;refine wpS_bind (zaF hy ?_);refine wpS_bind (zaF hx ?_);refine wpS_bind (C y x _ _ (T.gb y (zaM hy)) (T.ga x (zaM hx)) (Ne.symm (T.ne x (zaM hx) y (zaM hy))) hk ?_);have hn:=T.ne x (zaM hx) y (zaM hy);by_cases q:kf y<kf x
   ·rw [zoD q];dsimp only;rw [zpc rfl];refine wpS_bind (zaF hy ?_);have S':=S.pushB hy (S.ltA hx hy q);by_cases e1:ib+1=b.size
    ·rw [zpc (by simpa using e1)];exact wpS_pure ⟨rfl,.inl ⟨_,rfl,S'.done (.inr (by omega))⟩⟩
    rw [zpb (by simpa using e1)];split
    ·exact wpS_pure ⟨rfl,.inr ⟨_,_,_,_,_,rfl,S',l1,by omega,by omega⟩⟩
    ·exact wpS_pure ⟨rfl,_,_,_,_,_,rfl,S',l1,by omega,by omega⟩
   ·rw [zoE q];dsimp only;rw [zpb (by simp)];refine wpS_bind (zaF hx ?_);have S':=S.pushA hx (S.ltB hx hy (by omega));by_cases e1:ia+1+1=a.size
    ·rw [zpc (by simpa using e1)];exact wpS_pure ⟨rfl,.inl ⟨_,rfl,S'.lastA e1 T.lst⟩⟩
    rw [zpb (by simpa using e1)];split
    ·exact wpS_pure ⟨rfl,.inr ⟨_,_,_,_,_,rfl,S',by omega,by omega,by omega⟩⟩
    ·exact wpS_pure ⟨rfl,_,_,_,_,_,rfl,S',by omega,by omega,by omega⟩
  ·rintro c st' ⟨rfl,out,ia,ib,ac,bc,rfl,S,l1,l2,l3⟩;exact⟨rfl,.inr ⟨_,_,_,_,_,rfl,S,l1,l2,by omega⟩⟩
  ·rintro c st' ⟨rfl,⟨o,e,ho⟩ | ⟨out,ia,ib,ac,bc,rfl,S,l1,l2,l3⟩⟩
   ·obtain⟨c1,c2⟩:=c;dsimp only at e ⊢;subst e;exact wpS_pure ⟨g,rfl,o,rfl,ho⟩
   dsimp only;refine wpS_bind (wpS_lift (wpAny_rule ⟨rfl,?_⟩));refine wpS_bind (wpS_mono (wpS_forRange (I:=fun j c st'=>∃ g,st'=zbF st g/\∃ out ia ib mg ac bc,c=(none,out,ia,ib,mg,ac,bc)/\AI kf a b out ia ib/\ia+1<a.size/\ib<b.size/\i+2<=ia+ib)
    (Q:=fun c st'=>∃ g,st'=zbF st g/\((∃ o,c.1=some o/\zfd kf a b o)\/∃ out ia ib mg ac bc,c=(none,out,ia,ib,mg,ac,bc)/\AI kf a b out ia ib/\ia+1<a.size/\ib<b.size/\i+2<=ia+ib)) ?_ ?_ ⟨g,rfl,out,ia,ib,_,_,_,rfl,S,l1,l2,by omega⟩) ?_)
   ·rintro j c st' _ hj ⟨g,rfl,out,ia,ib,mg,ac,bc,rfl,S,l1,l2,l3⟩;dsimp only
    revert mg
    refine zg4 (fun _=>rfl) (fun mg=>?_);refine wpS_bind (wpS_modify ?_);obtain⟨y,hy⟩:=zay (a:=b) (ia:=ib) l2;refine wpS_bind (zaF hy ?_);obtain⟨K,hK,cut⟩:=T.cutA (zaM hy) (bs:=ia) (n:=a.size-ia) (by omega);refine wpS_bind (zbK C (K:=K) hk (T.gb y (zaM hy)) cut (by omega) hK ?_);dsimp only;obtain⟨S1,hi,hKl⟩:=AI.galA T S hy l1 hK cut;refine zaw (fun _=>?_) fun eK=>?_
    ·refine zaw (fun e=>?_) fun e=>?_
     ·exact wpS_pure ⟨_,rfl,.inl ⟨_,rfl,S1.lastA (by simpa using e) T.lst⟩⟩
     have e4:ia+K+1≠a.size:=by simpa using e
     rw [zpb (by simp;omega)];generalize hI:ia+K=I at *;walk_at "loTail"
    ·obtain rfl:K=0:=by omega
     clear S1;have S1:=S;rw [Nat.add_zero] at hi;generalize ia=I at *;walk_at "loTail"
   ·rintro c st' ⟨g,rfl,out,ia,ib,mg,ac,bc,rfl,S,l1,l2,l3⟩;exact⟨g,rfl,.inr ⟨_,_,_,_,_,_,rfl,S,l1,l2,by omega⟩⟩
   ·rintro c st' ⟨g,rfl,⟨o,e,ho⟩ | ⟨out,ia,ib,mg,ac,bc,rfl,S,l1,l2,l3⟩⟩
    ·obtain⟨c1,c2⟩:=c;dsimp only at e ⊢;subst e;exact wpS_pure ⟨g,rfl,o,rfl,ho⟩
    dsimp only;exact wpS_bind (wpS_modify (wpS_pure ⟨_,rfl,_,_,_,_,rfl,S,l1,l2,by omega⟩))
 ·rintro c st' ⟨g,rfl,out,ia,ib,mg,rfl,S,l1,l2,l3⟩;omega
 ·rintro ⟨c1,c2⟩ st' ⟨g,rfl,o,rfl,ho⟩;exact wpS_pure (h o g ho)
end
section
variable {kf:Keyed->Int} {G:Keyed->Prop}
structure HI (kf:Keyed->Int) (a b out:Array Keyed) (na nb:Nat):Prop where
 m:MI (fun x=>- kf x) (a.toList++b.toList) out.toList (a.toList.take na).reverse (b.toList.take nb).reverse
variable {a b out:Array Keyed} {na nb k:Nat} {x y:Keyed}
theorem zgl (h:a[na]?=some x):(a.toList.take (na+1)).reverse=x::(a.toList.take na).reverse:=by
 rw [← zpe] at h;obtain⟨h1,h2⟩:=zoB.1 h;rw [List.take_succ_eq_append_getElem h1,h2,List.reverse_append]
 rfl
theorem zgy (h:k<=na):(a.extract k na).reverse.toList++(a.toList.take k).reverse=(a.toList.take na).reverse:=by
 rw [Array.toList_reverse,← List.reverse_append,Array.toList_extract,List.extract_eq_take_drop]
 congr 1
 conv=>rhs;rw [show na=k+(na-k) by omega,List.take_add]
theorem zdC:(a.extract 0 na).toList=a.toList.take na:=by
 rw [Array.toList_extract,List.extract_eq_take_drop,List.drop_zero]
 rfl
theorem HI.pushA (h:HI kf a b out (na+1) nb) (hx:a[na]?=some x) (hl:∀ y∈b.toList.take nb,kf y<kf x):HI kf a b (out.push x) na nb:=by
 have:=h.m
 rw [zgl hx] at this;refine⟨?_⟩;rw [Array.toList_push];exact this.stepA (xs:=[x]) fun z hz y hy=>by rw [zoG.1 hz];have:=hl y (List.mem_reverse.1 hy);omega
theorem HI.pushB (h:HI kf a b out na (nb+1)) (hx:b[nb]?=some x) (hl:∀ y∈a.toList.take na,kf y<kf x):HI kf a b (out.push x) na nb:=by
 have:=h.m
 rw [zgl hx] at this;refine⟨?_⟩;rw [Array.toList_push];exact this.stepB (xs:=[x]) fun z hz y hy=>by rw [zoG.1 hz];have:=hl y (List.mem_reverse.1 hy);omega
theorem HI.extA (h:HI kf a b out na nb) (hk:k<=na) (hl:∀ x∈(a.extract k na).toList,∀ y∈b.toList.take nb,kf y<kf x):HI kf a b (out++(a.extract k na).reverse) k nb:=by
 have:=h.m
 rw [← zgy hk] at this;refine⟨?_⟩;rw [Array.toList_append];exact this.stepA fun x hx y hy=>by rw [Array.toList_reverse,List.mem_reverse] at hx;have:=hl x hx y (List.mem_reverse.1 hy);omega
theorem HI.extB (h:HI kf a b out na nb) (hk:k<=nb) (hl:∀ x∈(b.extract k nb).toList,∀ y∈a.toList.take na,kf y<kf x):HI kf a b (out++(b.extract k nb).reverse) na k:=by
 have:=h.m
 rw [← zgy hk] at this;refine⟨?_⟩;rw [Array.toList_append];exact this.stepB fun x hx y hy=>by rw [Array.toList_reverse,List.mem_reverse] at hx;have:=hl x hx y (List.mem_reverse.1 hy);omega
theorem Res.back {base o:List Keyed} (h:Res (fun x=>- kf x) base o):Res kf base o.reverse:=by
 refine⟨?_,(List.reverse_perm _).trans h.2⟩;unfold Ord;rw [List.pairwise_reverse];exact h.1.imp fun q=>by dsimp only at q;omega
theorem HI.done (h:HI kf a b out na nb) (he:na=0\/nb=0):zfd kf a b (a.extract 0 na++b.extract 0 nb++out.reverse):=by
 unfold zfd
 have:=(h.m.endBA fun x hx y hy=>by
  rcases he with rfl | rfl
  ·cases hx
  ·cases hy).back
 rw [List.reverse_append,List.reverse_append,List.reverse_reverse,List.reverse_reverse] at this;rw [Array.toList_append,Array.toList_append,zdC,zdC,Array.toList_reverse,zoS];exact this
theorem HI.firstB (h:HI kf a b out na nb) (he:nb=1) (hl:∀ y,b[0]?=some y->∀ x∈a.toList,kf y<kf x):zfd kf a b (b.extract 0 nb++a.extract 0 na++out.reverse):=by
 unfold zfd
 have:=(h.m.endAB fun x hx y hy=>by
  subst he;rw [List.mem_reverse] at hx hy
  have:b[0]?=some y:=by
   rw [← zpe]
   revert hy
   cases b.toList with
   | nil=>intro hy;cases hy
   | cons z r=>intro hy;simp at hy;subst hy;rfl
  have:=hl y this x (List.mem_of_mem_take hx)
  omega).back
 rw [List.reverse_append,List.reverse_append,List.reverse_reverse,List.reverse_reverse] at this;rw [Array.toList_append,Array.toList_append,zdC,zdC,Array.toList_reverse,zoS];exact this
theorem zeN {i:Nat} (h:x∈a.toList.take i):∃ k,k<i/\a[k]?=some x:=by
 rw [← zdC] at h;obtain⟨k,_,k2,k3⟩:=zbf h;exact⟨k,k2,k3⟩
theorem HI.start (T:Two kf G a b) (h:a[a.size-1]?=some x):HI kf a b #[x] (a.size-1) b.size:=by
 refine⟨?_⟩;have na:=T.na;have e:=zgl h;rw [show a.size-1+1=a.size by omega,show a.toList.take a.size=a.toList by rw [← zpd];exact zoT] at e;have eb:b.toList.take b.size=b.toList:=by rw [← zpd];exact zoT
 rw [eb];have rv:∀ {l:List Keyed},Ord kf l->Ord (fun x=>- kf x) l.reverse:=fun hl=>by unfold Ord;rw [List.pairwise_reverse];exact hl.imp fun q=>by dsimp only;omega
 have s:=rv T.sa;rw [e] at s;have s':=List.pairwise_cons.1 s;refine⟨List.pairwise_singleton _ _,s'.2,rv T.sb,fun z hz y hy=>?_,fun z hz y hy=>?_,?_⟩
 ·rw [zoG.1 hz];exact s'.1 y hy
 ·rw [zoG.1 hz];have:=T.lst x h y (List.mem_reverse.1 hy);omega
 ·show (x::((a.toList.take (a.size-1)).reverse++b.toList.reverse)).Perm _;rw [← List.cons_append,← e];exact List.Perm.append (List.reverse_perm _) (List.reverse_perm _)
theorem HI.ltA (T:Two kf G a b) (hx:a[na]?=some x) (l:kf x<kf y):∀ z∈a.toList.take (na+1),kf z<kf y:=fun z hz=>by
 obtain⟨k,h1,h2⟩:=zeN hz;by_cases q:k=na
 ·subst q;rw [hx] at h2;cases h2;exact l
 ·exact Int.lt_trans (T.sa.arr (by omega) h2 hx) l
theorem HI.ltB (T:Two kf G a b) (hy:b[nb]?=some y) (l:kf y<kf x):∀ z∈b.toList.take (nb+1),kf z<kf x:=fun z hz=>by
 obtain⟨k,h1,h2⟩:=zeN hz;by_cases q:k=nb
 ·subst q;rw [hy] at h2;cases h2;exact l
 ·exact Int.lt_trans (T.sb.arr (by omega) h2 hy) l
theorem HI.galB {L:Nat} (T:Two kf G a b) (S:HI kf a b out na nb) (hna:0<na) (hx:a[na-1]?=some x) (hnb:0<nb) (hL:L<=nb)
  (cut:∀ i,i<nb->∃ y,b[0+i]?=some y/\G y/\kf y≠kf x/\(kf y<kf x↔i<L)) :
  HI kf a b (out++(b.extract L nb).reverse) na L/\(∀ z∈b.toList.take L,kf z<kf x)/\1<=L:=by
 have at_:∀ k y,k<nb->b[k]?=some y->kf y≠kf x/\(kf y<kf x↔k<L):=fun k y k1 k3=>by
  obtain⟨x',e,_,ne,z⟩:=cut k k1;rw [Nat.zero_add,k3] at e;cases e;exact⟨ne,z⟩
 refine⟨S.extB (k:=L) hL fun z hz u hu=>?_,fun z hz=>?_,?_⟩
 ·obtain⟨k,k1,k2,k3⟩:=zbf hz;obtain⟨ne,w⟩:=at_ k z k2 k3;refine HI.ltA (na:=na-1) T hx ((Int.lt_or_lt_of_ne ne).resolve_left fun q=>absurd (w.1 q) (Nat.not_lt.2 k1)) u ?_;rw [Nat.sub_add_cancel hna];exact hu
 ·obtain⟨k,k1,k3⟩:=zeN hz;exact (at_ k z (zoO k1 hL) k3).2.2 k1
 ·obtain⟨y0,e⟩:=zay (a:=b) (ia:=0) T.nb;exact (at_ 0 y0 hnb e).2.1 (T.hd y0 e x (zaM hx))
theorem HI.galA {K:Nat} (T:Two kf G a b) (S:HI kf a b out na nb) (hnb:0<nb) (hy:b[nb-1]?=some y) (hK:K<=na)
  (cut:∀ i,i<na->∃ x,a[0+i]?=some x/\G x/\kf x≠kf y/\(kf x<kf y↔i<K)) :
  HI kf a b (out++(a.extract K na).reverse) K nb/\∀ z∈a.toList.take K,kf z<kf y:=by
 have at_:∀ k x,k<na->a[k]?=some x->kf x≠kf y/\(kf x<kf y↔k<K):=fun k x k1 k3=>by
  obtain⟨x',e,_,ne,z⟩:=cut k k1;rw [Nat.zero_add,k3] at e;cases e;exact⟨ne,z⟩
 refine⟨S.extA (k:=K) hK fun z hz u hu=>?_,fun z hz=>?_⟩
 ·obtain⟨k,k1,k2,k3⟩:=zbf hz;obtain⟨ne,w⟩:=at_ k z k2 k3;refine HI.ltB (nb:=nb-1) T hy ((Int.lt_or_lt_of_ne ne).resolve_left fun q=>absurd (w.1 q) (Nat.not_lt.2 k1)) u ?_;rw [Nat.sub_add_cancel hnb];exact hu
 ·obtain⟨k,k1,k3⟩:=zeN hz;exact (at_ k z (zoO k1 hK) k3).2.2 k1
theorem HI.pushA' (h:HI kf a b out na nb) (hn:0<na) (hx:a[na-1]?=some x) (hl:∀ y∈b.toList.take nb,kf y<kf x):HI kf a b (out.push x) (na-1) nb :=
 HI.pushA (by rw [Nat.sub_add_cancel hn];exact h) hx hl
theorem HI.pushB' (h:HI kf a b out na nb) (hn:0<nb) (hx:b[nb-1]?=some x) (hl:∀ y∈a.toList.take na,kf y<kf x):HI kf a b (out.push x) na (nb-1) :=
 HI.pushB (by rw [Nat.sub_add_cancel hn];exact h) hx hl
end
section
variable {M:Model} {A:Around} {E:Value->Shared->Prop} {s:Shared} {kf:Keyed->Int} {G:Keyed->Prop} {κ:SortKind}
set_option hygiene false in
local macro_rules | `(tactic| walk_at "hiEnd") => `(tactic| (
 refine wpS_bind (zaF hx ?_);have S4:=S3.pushA' (by omega) hx hi2;refine zaw (fun e=>?_) fun e=>?_
 ·have e0:I-1=0:=by simpa using e
  exact wpS_pure ⟨_,rfl,.inl ⟨_,rfl,S4.done (.inl e0)⟩⟩
 have e2:I-1≠0:=by simpa using e
 refine zaw (fun _=>?_) fun _=>?_
 ·exact wpS_pure ⟨_,rfl,.inr ⟨_,_,_,_,_,_,rfl,S4,by omega,by omega,by omega,by omega,by omega⟩⟩
 ·exact wpS_pure ⟨_,rfl,_,_,_,_,_,_,rfl,S4,by omega,by omega,by omega,by omega,by omega⟩))
set_option hygiene false in
local macro_rules | `(tactic| walk_at "hiTail") => `(tactic| (
 refine wpS_bind (zaF hy ?_);have S2:=S1.pushB' (by omega) hy hi;refine zaw (fun e=>?_) fun e=>?_
 ·have e0:nb-1=1:=by simpa using e
  exact wpS_pure ⟨_,rfl,.inl ⟨_,rfl,S2.firstB e0 T.hd⟩⟩
 have e1:nb-1≠1:=by simpa using e
 obtain⟨x,hx⟩:=zay (a:=a) (ia:=I-1) (by omega);refine wpS_bind (zaF hx ?_);obtain⟨L,hL,cutb⟩:=T.cutB (zaM hx) (bs:=0) (n:=nb-1) (by omega);refine wpS_bind (zbK C (K:=L) hk (T.ga x (zaM hx)) cutb (by omega) hL ?_);dsimp only;obtain⟨S3,hi2,hL1⟩:=HI.galB T S2 (by omega) hx (by omega) hL cutb;refine zaw (fun _=>?_) fun eL=>?_
 ·refine zaw (fun e=>?_) fun e=>?_
  ·have e0:L=1:=by simpa using e
   exact wpS_pure ⟨_,rfl,.inl ⟨_,rfl,S3.firstB e0 T.hd⟩⟩
  have e3:L≠1:=by simpa using e
  rw [zpb (by simp;omega)];walk_at "hiEnd"
 ·obtain rfl:L=nb-1:=by omega
  clear S3;have S3:=S2;walk_at "hiEnd"))
theorem zhl (C:Cmp M A E s kf G κ) {a b:Array Keyed} {st:SortSt} {Q:Array Keyed->SortSt->Prop} (hk:kindOf st=κ) (T:Two kf G a b) (h:∀ o g,zfd kf a b o->Q o (zbF st g)):wpS M A E s (zjw a b) Q st:=by
 have ta:=T.na;have tb:=T.nb;obtain⟨x0,hx0⟩:=zay (a:=a) (ia:=a.size-1) (by omega);refine wpS_bind (wpS_lift (wpAny_rule ⟨rfl,?_⟩));refine wpS_bind (zaF hx0 ?_);have S:=HI.start T hx0;by_cases h1:a.size-1=0
 ·rw [zpc (by simpa using h1)];exact wpS_pure (h _ (gallopOf st) (S.done (.inl h1)))
 by_cases h2:b.size=1
 ·rw [zpb (by simpa using h1),zpc (by simpa using h2)];exact wpS_pure (h _ (gallopOf st) (S.firstB h2 T.hd))
 rw [zpb (by simpa using h1),zpb (by simpa using h2)];refine wpS_bind (wpS_get ?_);refine wpS_bind (wpS_mono (wpS_forRange (I:=fun i c st'=>∃ g,st'=zbF st g/\∃ out na nb mg,c=(none,na,nb,out,mg)/\HI kf a b out na nb/\0<na/\1<nb/\na<a.size/\nb<=b.size/\na+nb+i+1<=a.size+b.size)
  (Q:=fun c st'=>∃ g,st'=zbF st g/\∃ o,c.1=some o/\zfd kf a b o) ?_ ?_ ⟨gallopOf st,rfl,_,_,_,_,rfl,S,by omega,by omega,by omega,by omega,by omega⟩) ?_)
 ·rintro i c st' _ hi ⟨g,rfl,out,na,nb,mg,rfl,S,l1,l2,l3,l4,l5⟩;dsimp only;refine wpS_bind (wpS_mono (wpS_forRange (I:=fun j c st'=>st'=zbF st g/\∃ out na nb ac bc,c=(none,na,nb,out,ac,bc)/\HI kf a b out na nb/\0<na/\1<nb/\na<a.size/\nb<=b.size/\na+nb+i+1+j<=a.size+b.size)
   (Q:=fun c st'=>st'=zbF st g/\((∃ o,c.1=some o/\zfd kf a b o)\/∃ out na nb ac bc,c=(none,na,nb,out,ac,bc)/\HI kf a b out na nb/\0<na/\1<nb/\na<a.size/\nb<=b.size/\na+nb+i+2<=a.size+b.size)) ?_ ?_ ⟨rfl,out,na,nb,0,0,rfl,S,l1,l2,l3,l4,by omega⟩) ?_)
  ·rintro j c st' _ hj ⟨rfl,out,na,nb,ac,bc,rfl,S,l1,l2,l3,l4,l5⟩;dsimp only;obtain⟨x,hx⟩:=zay (a:=a) (ia:=na-1) (by omega);obtain⟨y,hy⟩:=zay (a:=b) (ia:=nb-1) (by omega);refine wpS_bind (zaF hy ?_);refine wpS_bind (zaF hx ?_);refine wpS_bind (C y x _ _ (T.gb y (zaM hy)) (T.ga x (zaM hx)) (Ne.symm (T.ne x (zaM hx) y (zaM hy))) hk ?_);have hn:=T.ne x (zaM hx) y (zaM hy);by_cases q:kf y<kf x
   ·rw [zoD q];dsimp only;rw [zpc rfl];refine wpS_bind (zaF hx ?_);have S':=HI.pushA (na:=na-1) (by rw [show na-1+1=na by omega];exact S) hx fun z hz=>HI.ltB (nb:=nb-1) T hy q z (by rw [show nb-1+1=nb by omega];exact hz)
    refine zaw (fun e=>?_) fun e=>?_
    ·have e0:na-1=0:=by simpa using e
     exact wpS_pure ⟨rfl,.inl ⟨_,rfl,S'.done (.inl e0)⟩⟩
    have e0:na-1≠0:=by simpa using e
    refine zaw (fun e=>?_) fun e=>?_
    ·exact wpS_pure ⟨rfl,.inr ⟨_,_,_,_,_,rfl,S',by omega,by omega,by omega,by omega,by omega⟩⟩
    ·exact wpS_pure ⟨rfl,_,_,_,_,_,rfl,S',by omega,by omega,by omega,by omega,by omega⟩
   ·rw [zoE q];dsimp only;rw [zpb (by simp)];refine wpS_bind (zaF hy ?_);have S':=HI.pushB (nb:=nb-1) (by rw [show nb-1+1=nb by omega];exact S) hy fun z hz=>HI.ltA (na:=na-1) T hx (by omega) z (by rw [show na-1+1=na by omega];exact hz)
    refine zaw (fun e=>?_) fun e=>?_
    ·have e0:nb-1=1:=by simpa using e
     exact wpS_pure ⟨rfl,.inl ⟨_,rfl,S'.firstB e0 T.hd⟩⟩
    have e0:nb-1≠1:=by simpa using e
    refine zaw (fun e=>?_) fun e=>?_
    ·exact wpS_pure ⟨rfl,.inr ⟨_,_,_,_,_,rfl,S',by omega,by omega,by omega,by omega,by omega⟩⟩
    ·exact wpS_pure ⟨rfl,_,_,_,_,_,rfl,S',by omega,by omega,by omega,by omega,by omega⟩
  ·rintro c st' ⟨rfl,out,na,nb,ac,bc,rfl,S,l1,l2,l3,l4,l5⟩;exact⟨rfl,.inr ⟨_,_,_,_,_,rfl,S,l1,l2,l3,l4,by omega⟩⟩
  ·rintro c st' ⟨rfl,⟨o,e,ho⟩ | ⟨out,na,nb,ac,bc,rfl,S,l1,l2,l3,l4,l5⟩⟩
   ·obtain⟨c1,c2⟩:=c;dsimp only at e ⊢;subst e;exact wpS_pure ⟨g,rfl,o,rfl,ho⟩
   dsimp only;refine wpS_bind (wpS_lift (wpAny_rule ⟨rfl,?_⟩));refine wpS_bind (wpS_mono (wpS_forRange (I:=fun j c st'=>∃ g,st'=zbF st g/\∃ out na nb mg ac bc,c=(none,na,nb,out,mg,ac,bc)/\HI kf a b out na nb/\0<na/\1<nb/\na<a.size/\nb<=b.size/\na+nb+i+2<=a.size+b.size)
    (Q:=fun c st'=>∃ g,st'=zbF st g/\((∃ o,c.1=some o/\zfd kf a b o)\/∃ out na nb mg ac bc,c=(none,na,nb,out,mg,ac,bc)/\HI kf a b out na nb/\0<na/\1<nb/\na<a.size/\nb<=b.size/\na+nb+i+2<=a.size+b.size)) ?_ ?_ ⟨g,rfl,out,na,nb,_,_,_,rfl,S,l1,l2,l3,l4,by omega⟩) ?_)
   ·rintro j c st' _ hj ⟨g,rfl,out,na,nb,mg,ac,bc,rfl,S,l1,l2,l3,l4,l5⟩;dsimp only
    revert mg
    refine zg4 (fun _=>rfl) (fun mg=>?_);refine wpS_bind (wpS_modify ?_);obtain⟨y,hy⟩:=zay (a:=b) (ia:=nb-1) (by omega);refine wpS_bind (zaF hy ?_);obtain⟨K,hK,cut⟩:=T.cutA (zaM hy) (bs:=0) (n:=na) (by omega);refine wpS_bind (zbK C (K:=K) hk (T.gb y (zaM hy)) cut (by omega) hK ?_);dsimp only;obtain⟨S1,hi⟩:=HI.galA T S (by omega) hy hK cut;refine zaw (fun _=>?_) fun eK=>?_
    ·refine zaw (fun e=>?_) fun e=>?_
     ·have e0:K=0:=by simpa using e
      exact wpS_pure ⟨_,rfl,.inl ⟨_,rfl,S1.done (.inl e0)⟩⟩
     have e4:K≠0:=by simpa using e
     generalize hI:K=I at *;walk_at "hiTail"
    ·obtain rfl:K=na:=by omega
     clear S1;have S1:=S;generalize K=I at *;walk_at "hiTail"
   ·rintro c st' ⟨g,rfl,out,na,nb,mg,ac,bc,rfl,S,l1,l2,l3,l4,l5⟩;exact⟨g,rfl,.inr ⟨_,_,_,_,_,_,rfl,S,l1,l2,l3,l4,by omega⟩⟩
   ·rintro c st' ⟨g,rfl,⟨o,e,ho⟩ | ⟨out,na,nb,mg,ac,bc,rfl,S,l1,l2,l3,l4,l5⟩⟩
    ·obtain⟨c1,c2⟩:=c;dsimp only at e ⊢;subst e;exact wpS_pure ⟨g,rfl,o,rfl,ho⟩
    dsimp only;exact wpS_bind (wpS_modify (wpS_pure ⟨_,rfl,_,_,_,_,rfl,S,l1,l2,l3,l4,by omega⟩))
 ·rintro c st' ⟨g,rfl,out,ia,ib,mg,rfl,S,l1,l2,l3,l4,l5⟩;omega
 ·rintro ⟨c1,c2⟩ st' ⟨g,rfl,o,rfl,ho⟩;exact wpS_pure (h o g ho)
end
section
variable {M:Model} {A:Around} {E:Value->Shared->Prop} {s:Shared} {kf:Keyed->Int} {G:Keyed->Prop} {κ:SortKind}
structure Gd (kf:Keyed->Int) (G:Keyed->Prop) (xs:Array Keyed):Prop where
 g:∀ x∈xs.toList,G x
 nd:(xs.toList.map kf).Nodup
theorem Gd.perm {xs ys:Array Keyed} (h:Gd kf G xs) (p:ys.Perm xs):Gd kf G ys:=by
 have p:=Array.perm_iff_toList_perm.1 p;exact⟨fun x hx=>h.g x (p.mem_iff.1 hx),(p.map kf).nodup_iff.2 h.nd⟩
theorem Gd.ne {xs:Array Keyed} (h:Gd kf G xs) {i j:Nat} {x y:Keyed} (hij:i≠j) (hx:xs[i]?=some x) (hy:xs[j]?=some y):kf x≠kf y:=fun e=>by
 rw [← zpe] at hx hy;have h1:(xs.toList.map kf)[i]?=some (kf x):=by rw [zoy,hx];rfl
 have h2:(xs.toList.map kf)[j]?=some (kf x):=by rw [zoy,hy,e];rfl
 obtain⟨a1,a2⟩:=zoB.1 h1;obtain⟨b1,b2⟩:=zoB.1 h2;exact hij ((List.getElem_inj h.nd).1 (a2.trans b2.symm))
theorem Gd.at {xs:Array Keyed} (h:Gd kf G xs) {i:Nat} {x:Keyed} (hx:xs[i]?=some x):G x:=h.g x (zaM hx)
def Seg (kf:Keyed->Int) (xs:Array Keyed) (lo hi:Nat):Prop:=∀ i j x y,lo<=i->i<j->j<hi->xs[i]?=some x->xs[j]?=some y->kf x<kf y
def Des (kf:Keyed->Int) (xs:Array Keyed) (lo hi:Nat):Prop:=∀ i j x y,lo<=i->i<j->j<hi->xs[i]?=some x->xs[j]?=some y->kf y<kf x
theorem Seg.one {xs:Array Keyed} {lo:Nat}:Seg kf xs lo (lo+1):=fun i j x y h1 h2 h3=>by omega
theorem Seg.more {xs:Array Keyed} {lo n:Nat} {x y:Keyed} (h:Seg kf xs lo n) (hn:lo<n) (hx:xs[n-1]?=some x) (hy:xs[n]?=some y) (l:kf x<kf y):Seg kf xs lo (n+1):=fun i j u v h1 h2 h3 hu hv=>by
 by_cases hj:j<n
 ·exact h i j u v h1 h2 hj hu hv
 ·obtain rfl:j=n:=by omega
  rw [hy] at hv;cases hv;by_cases hi:i=j-1
  ·subst hi;rw [hx] at hu;cases hu;exact l
  ·exact Int.lt_trans (h i (j-1) u x h1 (by omega) (by omega) hu hx) l
theorem Des.more {xs:Array Keyed} {lo n:Nat} {x y:Keyed} (h:Des kf xs lo n) (hn:lo<n) (hx:xs[n-1]?=some x) (hy:xs[n]?=some y) (l:kf y<kf x):Des kf xs lo (n+1):=fun i j u v h1 h2 h3 hu hv=>by
 by_cases hj:j<n
 ·exact h i j u v h1 h2 hj hu hv
 ·obtain rfl:j=n:=by omega
  rw [hy] at hv;cases hv;by_cases hi:i=j-1
  ·subst hi;rw [hx] at hu;cases hu;exact l
  ·exact Int.lt_trans l (h i (j-1) u x h1 (by omega) (by omega) hu hx)
theorem Seg.congr {xs ys:Array Keyed} {lo hi:Nat} (h:Seg kf xs lo hi) (e:∀ k,lo<=k->k<hi->ys[k]?=xs[k]?):Seg kf ys lo hi:=fun i j x y h1 h2 h3 hx hy =>
 h i j x y h1 h2 h3 (by rw [← e i h1 (by omega)];exact hx) (by rw [← e j (by omega) h3];exact hy)
theorem zcU (C:Cmp M A E s kf G κ) {st:SortSt} {i j:Nat} {x y:Keyed} {Q:Option Bool->SortSt->Prop} (hk:kindOf st=κ) (hg:Gd kf G (arrOf st)) (hx:(arrOf st)[i]?=some x) (hy:(arrOf st)[j]?=some y) (ne:i≠j)
  (h:Q (some (decide (kf x<kf y))) st):wpS M A E s (ltAt' i j) Q st:=by
 rw [ltAt'_eq];refine wpS_bind (wpS_get ?_);refine wpS_bind (zaF hx (wpS_bind (zaF hy ?_)));exact C x y st Q (hg.at hx) (hg.at hy) (hg.ne ne hx hy) hk h
theorem zfX (C:Cmp M A E s kf G κ) {st:SortSt} {lo nrem:Nat} {Q:Option Nat->SortSt->Prop} (hk:kindOf st=κ) (hg:Gd kf G (arrOf st)) (hn:1<=nrem) (hz:lo+nrem<=(arrOf st).size)
  (h:∀ xs n,1<=n->n<=nrem->xs.Perm (arrOf st)->(∀ k,k<lo->xs[k]?=(arrOf st)[k]?)->Seg kf xs lo (lo+n)->Q (some n) (setArr st xs)):wpS M A E s (countRun' lo nrem) Q st:=by
 refine wpS_bind (wpS_mono (wpS_forRange (I:=fun i c st'=>st'=st/\c=(none,i)/\Seg kf (arrOf st) lo (lo+i))
  (Q:=fun c st'=>st'=st/\∃ n,c=(none,n)/\1<=n/\n<=nrem/\Seg kf (arrOf st) lo (lo+n)/\(n<nrem->∀ x y,(arrOf st)[lo+n-1]?=some x->(arrOf st)[lo+n]?=some y->kf y<kf x)) ?_ ?_ ⟨rfl,rfl,Seg.one⟩) ?_)
 ·rintro i c st' h1 h2 ⟨rfl,rfl,S⟩;dsimp only;obtain⟨x,hx⟩:=zay (a:=arrOf st') (ia:=lo+i-1) (by omega);obtain⟨y,hy⟩:=zay (a:=arrOf st') (ia:=lo+i) (by omega);refine wpS_bind (zcU C hk hg hy hx (by omega) ?_);have ne:=hg.ne (by omega) hx hy;by_cases q:kf y<kf x
  ·rw [zoD q];dsimp only;rw [zpc rfl];refine wpS_pure ⟨rfl,i,rfl,h1,by omega,S,fun _ x' y' hx' hy'=>?_⟩;rw [hx] at hx';rw [hy] at hy';cases hx';cases hy';exact q
  ·rw [zoE q];dsimp only;rw [zpb (by simp)];exact wpS_pure ⟨rfl,rfl,S.more (by omega) hx hy (by omega)⟩
 ·rintro c st' ⟨rfl,rfl,S⟩;rw [show max 1 nrem=nrem by omega] at S ⊢;exact⟨rfl,_,rfl,hn,zoN _,S,fun z=>by omega⟩
 ·rintro c st' ⟨rfl,n,rfl,n1,n2,S,D⟩;dsimp only;refine zaw (fun e=>wpS_pure (h (arrOf st') n n1 n2 (Array.Perm.refl _) (fun _ _=>rfl) S)) fun e=>?_
  have hlt:n<nrem:=by
   have:n≠nrem:=by simpa using e
   omega
  refine zaw (fun e=>?_) fun e=>?_
  ·obtain⟨x,hx⟩:=zay (a:=arrOf st') (ia:=lo) (by omega);obtain⟨y,hy⟩:=zay (a:=arrOf st') (ia:=lo+n-1) (by omega);refine wpS_bind (zcU C hk hg hx hy (by omega) ?_);rw [zoD (S lo (lo+n-1) x y (zoN _) (by omega) (by omega) hx hy)];dsimp only;rw [zpc rfl];exact wpS_pure (h (arrOf st') n n1 n2 (Array.Perm.refl _) (fun _ _=>rfl) S)
  obtain rfl:n=1:=by omega
  have D:=D hlt;refine wpS_bind (wpS_lift (wpAny_rule ⟨rfl,?_⟩));refine wpS_bind (wpS_mono (wpS_forRange (I:=fun i c st''=>st''=st'/\c=(none,i,0)/\Des kf (arrOf st') lo (lo+i))
   (Q:=fun c st''=>st''=st'/\∃ n,c=(none,n,0)/\2<=n/\n<=nrem/\Des kf (arrOf st') lo (lo+n)) ?_ ?_ ⟨rfl,rfl,fun i j x y h1 h2 h3 hx hy=>?_⟩) ?_)
  ·rintro i c st'' h1 h2 ⟨rfl,rfl,S⟩;dsimp only;obtain⟨x,hx⟩:=zay (a:=arrOf st'') (ia:=lo+i-1) (by omega);obtain⟨y,hy⟩:=zay (a:=arrOf st'') (ia:=lo+i) (by omega);refine wpS_bind (zcU C hk hg hy hx (by omega) ?_);have ne:=hg.ne (by omega) hx hy;by_cases q:kf y<kf x
   ·rw [zoD q];dsimp only;rw [zpc rfl,zpb (by omega)];exact wpS_pure ⟨rfl,rfl,S.more (by omega) hx hy q⟩
   ·rw [zoE q];dsimp only;rw [zpb (by simp)];refine wpS_bind (zcU C hk hg hx hy (by omega) ?_);rw [zoD (show kf x<kf y by omega)];dsimp only;rw [zpc rfl];exact wpS_pure ⟨rfl,i,rfl,by omega,by omega,S⟩
  ·rintro c st'' ⟨rfl,rfl,S⟩;rw [show max (1+1) nrem=nrem by omega] at S ⊢;exact⟨rfl,_,rfl,by omega,zoN _,S⟩
  ·obtain rfl:i=lo:=by omega
   obtain rfl:j=i+1:=by omega
   exact D x y hx hy
  ·rintro c st'' ⟨rfl,n,rfl,m1,m2,DS⟩;dsimp only;rw [zpb (by omega)];refine wpS_bind (wpS_modify ?_);show wpS M A E s _ Q (setArr st'' (mirror (arrOf st'') lo (lo+n) ((lo+n-lo) / 2)));have mp:=mirror_perm (arrOf st'') lo (lo+n) ((lo+n-lo) / 2);have me:=getElem?_mirror_all (xs:=arrOf st'') (i:=lo) (j:=lo+n) (by omega);generalize mirror (arrOf st'') lo (lo+n) ((lo+n-lo) / 2)=xs at mp me;have gx:=hg.perm mp;have sz:=mp.size_eq;have keep:∀ k,k<lo->xs[k]?=(arrOf st'')[k]?:=fun k hk=>by rw [me,zpb (by omega)]
   have up:Seg kf xs lo (lo+n):=fun i j x y h1 h2 h3 hx hy=>by
    rw [me,zpc (by omega)] at hx hy;exact DS _ _ _ _ (by omega) (by omega) (by omega) hy hx
   refine wpS_bind (wpS_mono (wpS_forRange (I:=fun i c st'=>st'=setArr st'' xs/\c=(none,i)/\Seg kf xs lo (lo+i))
    (Q:=fun c st'=>st'=setArr st'' xs/\∃ n,c=(none,n)/\1<=n/\n<=nrem/\Seg kf xs lo (lo+n)) ?_ ?_ ⟨rfl,rfl,up⟩) ?_)
   ·rintro i c st' h1 h2 ⟨rfl,rfl,S⟩;dsimp only;obtain⟨x,hx⟩:=zay (a:=xs) (ia:=lo+i-1) (by omega);obtain⟨y,hy⟩:=zay (a:=xs) (ia:=lo+i) (by omega);refine wpS_bind (zcU C hk gx hy hx (by omega) ?_);have ne:=gx.ne (by omega) hx hy;by_cases q:kf y<kf x
    ·rw [zoD q];dsimp only;rw [zpc rfl];exact wpS_pure ⟨rfl,i,rfl,by omega,by omega,S⟩
    ·rw [zoE q];dsimp only;rw [zpb (by simp)];exact wpS_pure ⟨rfl,rfl,S.more (by omega) hx hy (by omega)⟩
   ·rintro c st' ⟨rfl,rfl,S⟩;rw [show max n nrem=nrem by omega] at S ⊢;exact⟨rfl,_,rfl,hn,zoN _,S⟩
   ·rintro c st' ⟨rfl,n,rfl,n1,n2,S⟩;exact wpS_pure (h xs n n1 n2 mp keep S)
theorem zev (C:Cmp M A E s kf G κ) {st:SortSt} {lo n ok:Nat} {Q:Bool->SortSt->Prop} (hk:kindOf st=κ) (hg:Gd kf G (arrOf st)) (hok:1<=ok) (hon:ok<=n) (hz:lo+n<=(arrOf st).size) (hs:Seg kf (arrOf st) lo (lo+ok))
  (h:∀ xs,xs.Perm (arrOf st)->(∀ k,k<lo->xs[k]?=(arrOf st)[k]?)->Seg kf xs lo (lo+n)->Q true (setArr st xs)):wpS M A E s (binarySort' lo n ok) Q st:=by
 refine wpS_bind (wpS_mono (wpS_forRange (I:=fun k c st'=>∃ xs,st'=setArr st xs/\c=(none,())/\xs.Perm (arrOf st)/\(∀ k,k<lo->xs[k]?=(arrOf st)[k]?)/\Seg kf xs lo (lo+k))
  (Q:=fun c st'=>∃ xs,st'=setArr st xs/\c=(none,())/\xs.Perm (arrOf st)/\(∀ k,k<lo->xs[k]?=(arrOf st)[k]?)/\Seg kf xs lo (lo+n)) ?_ ?_ ⟨arrOf st,rfl,rfl,Array.Perm.refl _,fun _ _=>rfl,by rw [show max ok 1=ok by omega];exact hs⟩) ?_)
 ·rintro k c st' h1 h2 ⟨xs,rfl,rfl,pm,keep,S⟩;have gx:=hg.perm pm;have sz:=pm.size_eq;obtain⟨y,hy⟩:=zay (a:=xs) (ia:=lo+k) (by omega);refine wpS_bind (wpS_mono (wpS_forRange (I:=fun i c st'=>st'=setArr st xs/\∃ l r,c=(none,l,r)/\l<=r/\r<=k/\r-l<=k-i/\(∀ i x,i<l->xs[lo+i]?=some x->kf x<kf y)/\(∀ i x,r<=i->i<k->xs[lo+i]?=some x->kf y<kf x))
   (Q:=fun c st'=>st'=setArr st xs/\∃ l r,c=(none,l,r)/\l<=k/\(∀ i x,i<l->xs[lo+i]?=some x->kf x<kf y)/\(∀ i x,l<=i->i<k->xs[lo+i]?=some x->kf y<kf x)) ?_ ?_ ⟨rfl,0,k,rfl,by omega,by omega,by omega,fun i x hi=>by omega,fun i x h1 h2=>by omega⟩) ?_)
  ·rintro i c st' g1 g2 ⟨rfl,l,r,rfl,a1,a2,a3,a4,a5⟩;dsimp only;refine zaw (fun e=>?_) fun e=>?_
   ·obtain rfl:l=r:=by omega
    exact wpS_pure ⟨rfl,l,l,rfl,a2,a4,a5⟩
   obtain⟨x,hx⟩:=zay (a:=xs) (ia:=lo+(l+r) / 2) (by omega);refine wpS_bind (zcU C hk gx hy hx (by omega) ?_);have ne:=gx.ne (by omega) hx hy;by_cases q:kf y<kf x
   ·rw [zoD q];dsimp only;rw [zpc rfl];refine wpS_pure ⟨rfl,l,(l+r) / 2,rfl,by omega,by omega,by omega,a4,fun i z z1 z2 hz=>?_⟩;by_cases w:i=(l+r) / 2
    ·subst w;rw [hx] at hz;cases hz;exact q
    ·exact Int.lt_trans q (S _ _ x z (by omega) (show lo+(l+r) / 2<lo+i by omega) (by omega) hx hz)
   ·rw [zoE q];dsimp only;rw [zpb (by simp)];refine wpS_pure ⟨rfl,(l+r) / 2+1,r,rfl,by omega,by omega,by omega,fun i z z1 hz=>?_,a5⟩;by_cases w:i=(l+r) / 2
    ·subst w;rw [hx] at hz;cases hz;omega
    ·have:=S _ _ z x (by omega) (show lo+i<lo+(l+r) / 2 by omega) (by omega) hz hx
     omega
  ·rintro c st' ⟨rfl,l,r,rfl,a1,a2,a3,a4,a5⟩;obtain rfl:l=r:=by omega
   exact⟨rfl,l,l,rfl,a2,a4,a5⟩
  ·rintro c st' ⟨rfl,l,r,rfl,a2,a4,a5⟩;dsimp only;refine wpS_bind (wpS_modify ?_);show wpS M A E s _ _ (setArr st (bubble xs (lo+k) (lo+k-(lo+l))));have bp:=bubble_perm xs (lo+k) (lo+k-(lo+l));have be:=getElem?_bubble (xs:=xs) (src:=lo+k) (by omega) (lo+k-(lo+l)) (by omega);generalize bubble xs (lo+k) (lo+k-(lo+l))=ys at bp be;rw [show lo+k-(lo+k-(lo+l))=lo+l by omega] at be;refine wpS_pure ⟨ys,rfl,rfl,bp.trans pm,fun k' hk'=>?_,fun i j u v i1 i2 i3 hu hv=>?_⟩
   ·rw [be,zpb (by omega),zpb (by omega)];exact keep k' hk'
   ·rw [be] at hu hv;have lw:∀ i x,lo<=i->i<lo+l->xs[i]?=some x->kf x<kf y:=fun i x z1 z2 hx=>a4 (i-lo) x (by omega) (by rw [show lo+(i-lo)=i by omega];exact hx)
    have hw:∀ i x,lo+l<=i->i<lo+k->xs[i]?=some x->kf y<kf x:=fun i x z1 z2 hx=>a5 (i-lo) x (by omega) (by omega) (by rw [show lo+(i-lo)=i by omega];exact hx)
    split at hu <;> split at hv
    ·omega
    ·rw [hy] at hu;cases hu;split at hv
     ·exact hw _ _ (by omega) (by omega) hv
     ·omega
    ·rw [hy] at hv;cases hv;split at hu
     ·omega
     ·exact lw _ _ (by omega) (by omega) hu
    ·split at hu <;> split at hv
     all_goals first
      | (exfalso;omega)
      | exact S _ _ _ _ (by omega) (by omega) (by omega) hu hv
 ·rintro c st' ⟨xs,rfl,rfl,pm,keep,S⟩;rw [show max (max ok 1) n=n by omega] at S;exact⟨xs,rfl,rfl,pm,keep,S⟩
 ·rintro c st' ⟨xs,rfl,rfl,pm,keep,S⟩;exact wpS_pure (h xs pm keep S)
end
section
variable {M:Model} {A:Around} {E:Value->Shared->Prop} {s:Shared} {kf:Keyed->Int} {G:Keyed->Prop} {κ:SortKind}
theorem zeD (b:Nat):∀ (l:List Keyed) (n:Nat) (xs:Array Keyed) (k:Nat),b+n+l.length<=xs.size ->
  ((l.zipIdx n).foldl (fun a p=>a.setIfInBounds (b+p.2) p.1) xs)[k]?=if b+n<=k/\k<b+n+l.length then l[k-(b+n)]? else xs[k]?
 | [],n,xs,k,h=>by rw [zpb (by simp)];rfl
 | x::l,n,xs,k,h=>by
  rw [zpa] at h;rw [List.zipIdx_cons,List.foldl_cons,zeD b l (n+1) _ k (by rw [Array.size_setIfInBounds];omega)];rw [zpa];by_cases h1:b+(n+1)<=k/\k<b+(n+1)+l.length
  ·rw [zpc h1,zpc (by omega),show k-(b+n)=k-(b+(n+1))+1 by omega,List.getElem?_cons_succ]
  ·rw [zpb h1];by_cases h2:k=b+n
   ·subst h2;rw [zpc (by omega),Array.getElem?_setIfInBounds_self_of_lt (by omega),Nat.sub_self,List.getElem?_cons_zero]
   ·rw [zpb (by omega),Array.getElem?_setIfInBounds_ne (by omega)]
theorem zeE {b:Nat} {l:List Keyed} {xs:Array Keyed} (h:b+l.length<=xs.size):((l.zipIdx 0).foldl (fun a p=>a.setIfInBounds (b+p.2) p.1) xs).toList=xs.toList.take b++(l++xs.toList.drop (b+l.length)):=by
 have hx:xs.toList.length=xs.size:=zpd
 apply List.ext_getElem?
 intro k;rw [zpe,zeD b l 0 xs k (by omega),List.getElem?_append,zoW,hx,Nat.min_eq_left (by omega),List.getElem?_append,List.getElem?_take,List.getElem?_drop];by_cases h1:k<b
 ·rw [zpb (by omega),zpc h1,zpc h1,zpe]
 ·rw [zpb h1];by_cases h2:k<b+l.length
  ·rw [zpc (by omega),zpc (by omega)];rfl
  ·rw [zpb (by omega),zpb (by omega),zpe]
   congr 1
   omega
theorem zl3 {σ:Type} {st st':σ} {Q:PUnit->σ->Prop} (h:Q ⟨⟩ st'):wpS M A E s (set st':StateT σ Sem PUnit) Q st:=by
 unfold wpS;rw [StateT.run_set];exact wpAny_pure ⟨rfl,h⟩
theorem zhW {X:Array Keyed} {i j k:Nat} (hj:j<=X.size) (hk:i+k<j):(X.extract i j)[k]?=X[i+k]?:=by
 rw [Array.getElem?_extract,zpc (by omega)]
theorem zec {X:Array Keyed} {i j:Nat} (hj:j<=X.size):(X.extract i j).size=j-i:=by rw [Array.size_extract];omega
theorem Seg.ext {X:Array Keyed} {i j:Nat} (h:Seg kf X i j) (hj:j<=X.size):Ord kf (X.extract i j).toList:=Ord.ofArr fun u v x y huv hx hy=>by
 have h1:=(Array.getElem?_eq_some_iff.1 hx).1;have h2:=(Array.getElem?_eq_some_iff.1 hy).1;rw [zec hj] at h1 h2;rw [zhW hj (by omega)] at hx hy;exact h _ _ x y (by omega) (show i+u<i+v by omega) (by omega) hx hy
theorem Seg.sub {X:Array Keyed} {i j i' j':Nat} (h:Seg kf X i j) (h1:i<=i') (h2:j'<=j):Seg kf X i' j':=fun u v x y a b c=>h u v x y (by omega) b (by omega)
theorem Seg.merge {X o:Array Keyed} {sa sb nb K L:Nat} (s1:Seg kf X sa sb) (s2:Seg kf X sb (sb+nb)) (hK:sa+K<sb) (hL:L<=nb) (hL1:1<=L) (hz:sb+nb<=X.size)
  (ca:∀ i x y,sa<=i->i<sa+K->X[i]?=some x->X[sb]?=some y->kf x<kf y) (cb:∀ j x y,sb+L<=j->j<sb+nb->X[sb-1]?=some x->X[j]?=some y->kf x<kf y)
  (R:zfd kf (X.extract (sa+K) sb) (X.extract sb (sb+L)) o):((o.toList.zipIdx 0).foldl (fun a p=>a.setIfInBounds (sa+K+p.2) p.1) X).Perm X /\
  (∀ k,k<sa\/sb+nb<=k->((o.toList.zipIdx 0).foldl (fun a p=>a.setIfInBounds (sa+K+p.2) p.1) X)[k]?=X[k]?)/\Seg kf ((o.toList.zipIdx 0).foldl (fun a p=>a.setIfInBounds (sa+K+p.2) p.1) X) sa (sb+nb):=by
 have hl:o.toList.length=sb-(sa+K)+L:=by
  have:=R.2.length_eq
  rw [zoH,zpd (xs:=X.extract _ _),zpd (xs:=X.extract _ _),zec (by omega),zec (by omega)] at this;omega
 have hlt:=zeE (b:=sa+K) (l:=o.toList) (xs:=X) (by omega);have hat:=fun k=>zeD (sa+K) o.toList 0 X k (by omega)
 rw [hl] at hlt hat;generalize (o.toList.zipIdx 0).foldl (fun a p=>a.setIfInBounds (sa+K+p.2) p.1) X=Y at hlt hat;refine⟨?_,fun k hk=>?_,?_⟩
 ·rw [Array.perm_iff_toList_perm,hlt];have e1:=zdr (a:=X) (ia:=sa+K) (k:=sb-(sa+K));have e2:=zdr (a:=X) (ia:=sb) (k:=L);rw [show sa+K+(sb-(sa+K))=sb by omega] at e1
  conv=>rhs;rw [← List.take_append_drop (sa+K) X.toList,← e1,← e2,← zoS (as:=(X.extract (sa+K) sb).toList)]
  rw [show sa+K+(sb-(sa+K)+L)=sb+L by omega];exact List.Perm.append_left _ (List.Perm.append_right _ R.2)
 ·rw [hat,zpb (by omega)]
 ·have mo:∀ k x,k<sb-(sa+K)+L->o.toList[k]?=some x->(∃ i,sa+K<=i/\i<sb/\X[i]?=some x)\/(∃ i,sb<=i/\i<sb+L/\X[i]?=some x):=fun k x _ hx=>by
   have:=R.2.mem_iff.1 (zoC hx)
   rcases zoI.1 this with q | q
   ·exact .inl (zbf q)
   ·exact .inr (zbf q)
  obtain⟨y0,hy0⟩:=zay (a:=X) (ia:=sb) (by omega);obtain⟨xl,hxl⟩:=zay (a:=X) (ia:=sb-1) (by omega);have lo1:∀ i x,sb<=i->i<sb+nb->X[i]?=some x->kf y0<=kf x:=fun i x a b hx=>by
   by_cases q:i=sb
   ·subst q;rw [hy0] at hx;cases hx;exact Int.le_refl _
   ·exact Int.le_of_lt (s2 sb i y0 x (zoN _) (by omega) b hy0 hx)
  have hi1:∀ i x,sa<=i->i<sb->X[i]?=some x->kf x<=kf xl:=fun i x a b hx=>by
   by_cases q:i=sb-1
   ·subst q;rw [hxl] at hx;cases hx;exact Int.le_refl _
   ·exact Int.le_of_lt (s1 i (sb-1) x xl a (by omega) (by omega) hx hxl)
  intro i j x y a b c hx hy;rw [hat] at hx hy;split at hx <;> split at hy
  ·rw [Nat.add_zero] at hx hy;exact R.1.arr (a:=o) (i:=i-(sa+K)) (j:=j-(sa+K)) (by omega) (by rw [← zpe];exact hx) (by rw [← zpe];exact hy)
  ·rcases mo _ x (by omega) hx with ⟨u,u1,u2,u3⟩ | ⟨u,u1,u2,u3⟩
   ·exact Int.lt_of_le_of_lt (hi1 u x (by omega) u2 u3) (cb j xl y (by omega) c hxl hy)
   ·exact s2 u j x y u1 (by omega) c u3 hy
  ·rcases mo _ y (by omega) hy with ⟨u,u1,u2,u3⟩ | ⟨u,u1,u2,u3⟩
   ·exact s1 i u x y a (by omega) u2 hx u3
   ·exact Int.lt_of_lt_of_le (ca i x y0 a (by omega) hx hy0) (lo1 u y u1 (by omega) u3)
  ·by_cases q1:i<sa+K
   ·by_cases q2:j<sa+K
    ·exact s1 i j x y a b (by omega) hx hy
    ·exact Int.lt_of_lt_of_le (ca i x y0 a q1 hx hy0) (lo1 j y (by omega) c hy)
   ·exact s2 i j x y (by omega) b c hx hy
theorem zhk (C:Cmp M A E s kf G κ) {st:SortSt} {i sa na p sb nb p':Nat} {Q:Bool->SortSt->Prop} (hk:kindOf st=κ) (hf:failedOf st=none) (hg:Gd kf G (arrOf st)) (h1:(pendingOf st)[i]?=some (sa,na,p)) (h2:(pendingOf st)[i+1]?=some (sb,nb,p'))
  (hb:sb=sa+na) (n1:1<=na) (n2:1<=nb) (hz:sb+nb<=(arrOf st).size) (s1:Seg kf (arrOf st) sa sb) (s2:Seg kf (arrOf st) sb (sb+nb))
  (h:∀ xs g,xs.Perm (arrOf st)->(∀ k,k<sa\/sb+nb<=k->xs[k]?=(arrOf st)[k]?)->Seg kf xs sa (sb+nb)->Q true (SortSt.mk' κ xs (((pendingOf st).setIfInBounds i (sa,na+nb,p)).eraseIdxIfInBounds (i+1)) g none)):wpS M A E s (mergeAt' i) Q st:=by
 refine wpS_bind (wpS_get ?_);rw [h1,h2];dsimp only;refine wpS_bind (zl3 ?_);obtain⟨y0,hy0⟩:=zay (a:=arrOf st) (ia:=sb) (by omega);refine wpS_bind (zaF hy0 ?_);obtain⟨K,hK,cut⟩:=zey (G:=G) (kf:=kf) (arr:=arrOf st) (bs:=sa) (n:=na) (kk:=kf y0) (by omega) (fun u v x y huv hv hx hy=>s1 _ _ x y (by omega) (show sa+u<sa+v by omega) (by omega) hx hy) fun u x hu hx=>⟨hg.at hx,hg.ne (by omega) hx hy0⟩
 refine wpS_bind (zbK C (K:=K) hk (hg.at hy0) cut (by omega) hK ?_);dsimp only;have ca:∀ i x y,sa<=i->i<sa+K->(arrOf st)[i]?=some x->(arrOf st)[sb]?=some y->kf x<kf y:=fun i x y a b hx hy=>by
  rw [hy0] at hy;cases hy;obtain⟨x',e,_,_,z⟩:=cut (i-sa) (by omega);rw [show sa+(i-sa)=i by omega,hx] at e;cases e;exact z.2 (by omega)
 have cA:∀ i x,sa+K<=i->i<sb->(arrOf st)[i]?=some x->kf y0<kf x:=fun i x a b hx=>by
  obtain⟨x',e,_,ne,z⟩:=cut (i-sa) (by omega);rw [show sa+(i-sa)=i by omega,hx] at e;cases e
  have:=z.1
  omega
 refine zaw (fun e=>?_) fun e=>?_
 ·have e0:na-K=0:=by simpa using e
  have:=h (arrOf st) (gallopOf st) (Array.Perm.refl _) (fun _ _=>rfl) fun i j x y a b c hx hy=>by
   have lo1:∀ i x,sb<=i->i<sb+nb->(arrOf st)[i]?=some x->kf y0<=kf x:=fun i x a b hx=>by
    by_cases q:i=sb
    ·subst q;rw [hy0] at hx;cases hx;exact Int.le_refl _
    ·exact Int.le_of_lt (s2 sb i y0 x (zoN _) (by omega) b hy0 hx)
   by_cases q1:i<sb
   ·by_cases q2:j<sb
    ·exact s1 i j x y a b q2 hx hy
    ·exact Int.lt_of_lt_of_le (ca i x y0 a (by omega) hx hy0) (lo1 j y (by omega) c hy)
   ·exact s2 i j x y (by omega) b c hx hy
  rw [← hk,← hf] at this;exact wpS_pure this
 have e0:na-K≠0:=by simpa using e
 obtain⟨xl,hxl⟩:=zay (a:=arrOf st) (ia:=sa+K+(na-K)-1) (by omega);refine wpS_bind (zaF hxl ?_);have ex:sa+K+(na-K)-1=sb-1:=by omega
 rw [ex] at hxl;obtain⟨L,hL,cut2⟩:=zey (G:=G) (kf:=kf) (arr:=arrOf st) (bs:=sb) (n:=nb) (kk:=kf xl) (by omega) (fun u v x y huv hv hx hy=>s2 _ _ x y (by omega) (show sb+u<sb+v by omega) (by omega) hx hy) fun u x hu hx=>⟨hg.at hx,hg.ne (by omega) hx hxl⟩
 refine wpS_bind (zbK C (K:=L) hk (hg.at hxl) cut2 (by omega) hL ?_);dsimp only;have cb:∀ j x y,sb+L<=j->j<sb+nb->(arrOf st)[sb-1]?=some x->(arrOf st)[j]?=some y->kf x<kf y:=fun j x y a b hx hy=>by
  rw [hxl] at hx;cases hx;obtain⟨x',e,_,ne,z⟩:=cut2 (j-sb) (by omega);rw [show sb+(j-sb)=j by omega,hy] at e;cases e
  have:=z.1
  omega
 have cB:∀ j y,sb<=j->j<sb+L->(arrOf st)[j]?=some y->kf y<kf xl:=fun j y a b hy=>by
  obtain⟨x',e,_,ne,z⟩:=cut2 (j-sb) (by omega);rw [show sb+(j-sb)=j by omega,hy] at e;cases e;exact z.2 (by omega)
 have hL1:1<=L:=by
  obtain⟨x',e,_,ne,z⟩:=cut2 0 (by omega);rw [Nat.add_zero,hy0] at e;cases e
  have:=z.1 (cA (sb-1) xl (by omega) (by omega) hxl)
  omega
 rw [zpb (by simp;omega)];have T:Two kf G ((arrOf st).extract (sa+K) sb) ((arrOf st).extract sb (sb+L)):=by
  refine⟨fun x hx=>?_,fun x hx=>?_,fun x hx y hy=>?_,(s1.sub (by omega) (zoN _)).ext (by omega),(s2.sub (zoN _) (by omega)).ext (by omega),by rw [zec (by omega)];omega,by rw [zec (by omega)];omega,fun y hy x hx=>?_,fun x hx y hy=>?_⟩
  ·obtain⟨k,_,_,k3⟩:=zbf hx;exact hg.at k3
  ·obtain⟨k,_,_,k3⟩:=zbf hx;exact hg.at k3
  ·obtain⟨k,k1,k2,k3⟩:=zbf hx;obtain⟨l,l1,l2,l3⟩:=zbf hy;exact hg.ne (by omega) k3 l3
  ·rw [zhW (by omega) (by omega),Nat.add_zero,hy0] at hy;cases hy;obtain⟨k,k1,k2,k3⟩:=zbf hx;exact cA k x k1 k2 k3
  ·rw [zec (by omega),zhW (by omega) (by omega),show sa+K+(sb-(sa+K)-1)=sb-1 by omega,hxl] at hx;cases hx;obtain⟨k,k1,k2,k3⟩:=zbf hy;exact cB k y k1 k2 k3
 refine zaw (fun _=>?_) fun _=>?_
 ·refine wpS_bind (zhm C hk T fun o g R=>?_);obtain⟨r1,r2,r3⟩:=Seg.merge s1 s2 (by omega) hL hL1 hz ca cb R;refine wpS_bind (wpS_modify (wpS_bind (wpS_get (wpS_pure ?_))))
  have:=h _ g r1 r2 r3
  rw [← hk] at this;show Q (Option.isNone (failedOf st)) (SortSt.mk' (kindOf st) _ _ g (failedOf st));rw [hf];exact this
 ·refine wpS_bind (zhl C hk T fun o g R=>?_);obtain⟨r1,r2,r3⟩:=Seg.merge s1 s2 (by omega) hL hL1 hz ca cb R;refine wpS_bind (wpS_modify (wpS_bind (wpS_get (wpS_pure ?_))))
  have:=h _ g r1 r2 r3
  rw [← hk] at this;show Q (Option.isNone (failedOf st)) (SortSt.mk' (kindOf st) _ _ g (failedOf st));rw [hf];exact this
end
section
variable {M:Model} {A:Around} {E:Value->Shared->Prop} {s:Shared} {kf:Keyed->Int} {G:Keyed->Prop} {κ:SortKind}
def zaK (kf:Keyed->Int) (xs:Array Keyed):Nat->List (Nat × Nat × Nat)->Nat->Prop
 | a,[],e=>a=e
 | a,t::r,e=>t.1=a/\1<=t.2.1/\Seg kf xs a (a+t.2.1)/\zaK kf xs (a+t.2.1) r e
theorem zaK.le {xs:Array Keyed}:∀ {l:List (Nat × Nat × Nat)} {a e:Nat},zaK kf xs a l e->a+l.length<=e
 | [],a,e,h=>by cases h;exact zoN _
 | t::r,a,e,h=>by have:=zaK.le h.2.2.2;have:=h.2.1;rw [zpa];omega
theorem zaK.app {xs:Array Keyed}:∀ {l l':List (Nat × Nat × Nat)} {a e:Nat},zaK kf xs a (l++l') e↔∃ m,zaK kf xs a l m/\zaK kf xs m l' e
 | [],l',a,e=>⟨fun h=>⟨a,rfl,h⟩,fun ⟨m,h1,h2⟩=>by cases h1;exact h2⟩
 | t::r,l',a,e=>by
  constructor
  ·rintro ⟨h1,h2,h3,h4⟩;obtain⟨m,m1,m2⟩:=zaK.app.1 h4;exact⟨m,⟨h1,h2,h3,m1⟩,m2⟩
  ·rintro ⟨m,⟨h1,h2,h3,m1⟩,m2⟩;exact⟨h1,h2,h3,zaK.app.2 ⟨m,m1,m2⟩⟩
theorem zaK.congr {xs ys:Array Keyed}:∀ {l:List (Nat × Nat × Nat)} {a e:Nat},zaK kf xs a l e->(∀ k,a<=k->k<e->ys[k]?=xs[k]?)->zaK kf ys a l e
 | [],a,e,h,_=>h
 | t::r,a,e,⟨h1,h2,h3,h4⟩,q=>by
  have:=zaK.le h4
  exact⟨h1,h2,h3.congr fun k k1 k2=>q k k1 (by omega),zaK.congr h4 fun k k1 k2=>q k (by omega) k2⟩
theorem zaK.pow {xs:Array Keyed} {f:Nat × Nat × Nat->Nat × Nat × Nat} (hf:∀ t,(f t).1=t.1/\(f t).2.1=t.2.1):∀ {l:List (Nat × Nat × Nat)} {a e:Nat} (i:Nat),zaK kf xs a l e->zaK kf xs a (l.modify i f) e
 | [],a,e,i,h=>by cases i <;> exact h
 | t::r,a,e,0,⟨h1,h2,h3,h4⟩=>by
  obtain⟨f1,f2⟩:=hf t;show zaK kf xs a (f t::r) e;exact⟨f1.trans h1,by rw [f2];exact h2,by rw [f2];exact h3,by rw [f2];exact h4⟩
 | t::r,a,e,i+1,⟨h1,h2,h3,h4⟩=>⟨h1,h2,h3,zaK.pow hf i h4⟩
theorem znu {P:Array (Nat × Nat × Nat)} {i:Nat} (hi:i+1<P.size):∃ l t u r,P.toList=l++t::u::r/\l.length=i/\P[i]?=some t/\P[i+1]?=some u:=by
 have h1:i<P.toList.length:=by rw [zpd];omega
 have h2:i+1<P.toList.length:=by rw [zpd];omega
 refine⟨P.toList.take i,P.toList[i],P.toList[i+1],P.toList.drop (i+2),?_,by rw [zoW];omega,?_,?_⟩
 ·rw [← zpl h2,← zpl h1,List.take_append_drop]
 ·rw [← zpe];exact zoz h1
 ·rw [← zpe];exact zoz h2
theorem zgx {P:Array (Nat × Nat × Nat)} {l r:List (Nat × Nat × Nat)} {t u v:Nat × Nat × Nat} {i:Nat} (h:P.toList=l++t::u::r) (hl:l.length=i):((P.setIfInBounds i v).eraseIdxIfInBounds (i+1)).toList=l++v::r:=by
 subst hl;have hs:l.length+1<(P.setIfInBounds l.length v).size:=by
  rw [Array.size_setIfInBounds,← zpd,h];simp
 rw [Array.eraseIdxIfInBounds,dif_pos hs,Array.toList_eraseIdx,Array.toList_setIfInBounds,h];simp [List.set_append,List.eraseIdx_append]
 omega
theorem zej (C:Cmp M A E s kf G κ) {xs:Array Keyed} {P:Array (Nat × Nat × Nat)} {g i e:Nat} {Q:Bool->SortSt->Prop} (hg:Gd kf G xs) (hc:zaK kf xs 0 P.toList e) (he:e<=xs.size) (hi:i+1<P.size)
  (h:∀ ys P' g',ys.Perm xs->(∀ k,e<=k->ys[k]?=xs[k]?)->zaK kf ys 0 P'.toList e->P'.size+1=P.size->Q true (SortSt.mk' κ ys P' g' none)):wpS M A E s (mergeAt' i) Q (SortSt.mk' κ xs P g none):=by
 obtain⟨l,⟨sa,na,p⟩,⟨sb,nb,p'⟩,r,hP,hl,e1,e2⟩:=znu hi;rw [hP] at hc;obtain⟨m,c1,c2⟩:=zaK.app.1 hc;obtain⟨d1,d2,d3,d4,d5,d6,d7⟩:=c2;dsimp only at d1 d2 d3 d4 d5 d6 d7;subst d1;have hle:=zaK.le c1;have hle2:=zaK.le d7;rw [← d4] at d6;refine zhk C (st:=SortSt.mk' κ xs P g none) rfl rfl hg e1 e2 d4 d2 d5 (by show sb+nb<=xs.size;omega) (by rw [d4];exact d3) d6 fun ys g' pm keep sg=>?_
 refine h ys _ g' pm (fun k hk=>keep k (.inr (by omega))) ?_ ?_
 ·show zaK kf ys 0 ((P.setIfInBounds i (sa,na+nb,p)).eraseIdxIfInBounds (i+1)).toList e;rw [zgx hP hl];refine zaK.app.2 ⟨sa,c1.congr fun k _ hk=>keep k (.inl hk),rfl,by show 1<=na+nb;omega,?_,?_⟩
  ·show Seg kf ys sa (sa+(na+nb));rw [show sa+(na+nb)=sb+nb by omega];exact sg
  ·show zaK kf ys (sa+(na+nb)) r e;rw [show sa+(na+nb)=sb+nb by omega];rw [← d4] at d7;exact d7.congr fun k hk _=>keep k (.inr hk)
 ·show ((P.setIfInBounds i (sa,na+nb,p)).eraseIdxIfInBounds (i+1)).size+1=P.size
  have:=congrArg List.length (zgx (v:=(sa,na+nb,p)) hP hl)
  rw [zpd] at this;rw [this,← zpd,hP];simp
  omega
theorem zlC {c:Prop} [Decidable c] {n:Nat} (h:1<n):(if c then n-2-1 else n-2)+1<n:=by split <;> omega
set_option hygiene false in
local macro_rules | `(tactic| walk_at "runTail") => `(tactic| (
 refine wpS_bind (wpS_get ?_);have push:∀ (us:Array Keyed) (P':Array (Nat × Nat × Nat)) (g':Nat),us.Perm xs->zaK kf us 0 P'.toList lo->Seg kf us lo (lo+nn)->∃ ys P g,SortSt.mk' κ us (P'.push (lo,nn,0)) g' none=SortSt.mk' κ ys P g none/\ys.Perm xs/\∃ lo',((none:Option Unit),lo+nn)=(none,lo')/\i+1<=lo'/\lo'<=xs.size/\zaK kf ys 0 P.toList lo' :=
  fun us P' g' pm ch sg=>⟨us,_,g',rfl,pm,lo+nn,rfl,by omega,by omega,by rw [Array.toList_push];exact zaK.app.2 ⟨lo,ch,rfl,nn1,sg,rfl⟩⟩
 obtain hb | ⟨⟨s1,n1',pw'⟩,hb⟩:P.back?=none\/∃ t,P.back?=some t:=by cases P.back? <;> simp
 ·have hb':(pendingOf (SortSt.mk' κ zs P g none)).back?=none:=hb;rw [hb'];exact wpS_bind (wpS_modify (wpS_pure (push zs P g pmz chz sgz)))
 ·have hb':(pendingOf (SortSt.mk' κ zs P g none)).back?=some (s1,n1',pw'):=hb;rw [hb'];dsimp only;refine wpS_bind (wpS_mono (wpS_forRange (I:=fun _ c st'=>c=(none,())/\∃ us P' g',st'=SortSt.mk' κ us P' g' none/\us.Perm xs/\zaK kf us 0 P'.toList lo/\Seg kf us lo (lo+nn))
   (Q:=fun c st'=>c=(none,())/\∃ us P' g',st'=SortSt.mk' κ us P' g' none/\us.Perm xs/\zaK kf us 0 P'.toList lo/\Seg kf us lo (lo+nn)) ?_ (fun _ _ h=>h) ⟨rfl,zs,P,g,rfl,pmz,chz,sgz⟩) ?_)
  ·rintro j c st' _ _ ⟨rfl,us,P',g',rfl,pm',ch',sg'⟩;refine wpS_bind (wpS_get ?_);by_cases hs:1<P'.size
   ·have hs':(pendingOf (SortSt.mk' κ us P' g' none)).size > 1:=hs;rw [zpc hs'];obtain⟨⟨q1,q2,q3⟩,hq⟩:∃ t,P'[P'.size-2]?=some t:=⟨_,Array.getElem?_eq_getElem (by omega)⟩;have hq':(pendingOf (SortSt.mk' κ us P' g' none))[(pendingOf (SortSt.mk' κ us P' g' none)).size-2]?=some (q1,q2,q3):=hq;rw [hq'];dsimp only;refine zaw (fun _=>wpS_pure ⟨rfl,us,P',g',rfl,pm',ch',sg'⟩) fun _=>?_
    have szu:=pm'.size_eq;refine wpS_bind (zej C (hg.perm pm') ch' (by omega) (i:=P'.size-2) (by omega) fun vs P'' g'' pv kv cv _=>?_);rw [zpb (by simp)];exact wpS_pure ⟨rfl,vs,P'',g'',rfl,pv.trans pm',cv,sg'.congr fun k k1 _=>kv k k1⟩
   ·have hs':¬ (pendingOf (SortSt.mk' κ us P' g' none)).size > 1:=hs;rw [zpb hs'];exact wpS_pure ⟨rfl,us,P',g',rfl,pm',ch',sg'⟩
  ·rintro c st' ⟨rfl,us,P',g',rfl,pm',ch',sg'⟩;dsimp only;refine wpS_bind (wpS_modify (wpS_bind (wpS_modify (wpS_pure (push us _ g' pm' ?_ sg')))));rw [Array.toList_modify];refine zaK.pow ?_ _ ch';exact fun t=>⟨rfl,rfl⟩))
theorem zgb (C:Cmp M A E s kf G κ) {xs:Array Keyed} {g:Nat} {Q:Unit->SortSt->Prop} (hg:Gd kf G xs) (h:∀ ys P g',ys.Perm xs->Seg kf ys 0 ys.size->Q () (SortSt.mk' κ ys P g' none)) :
  wpS M A E s sortRuns' Q (SortSt.mk' κ xs #[] g none):=by
 refine wpS_bind (wpS_get ?_);refine wpS_bind (wpS_mono (wpS_forRange (I:=fun i c st'=>∃ ys P g,st'=SortSt.mk' κ ys P g none/\ys.Perm xs/\∃ lo,c=(none,lo)/\i<=lo/\lo<=xs.size/\zaK kf ys 0 P.toList lo)
  (Q:=fun c st'=>∃ ys P g,st'=SortSt.mk' κ ys P g none/\ys.Perm xs/\∃ lo,c=(none,lo)/\lo=xs.size/\zaK kf ys 0 P.toList lo) ?_ ?_ ⟨xs,#[],g,rfl,Array.Perm.refl _,0,rfl,by omega,by omega,rfl⟩) ?_)
 ·rintro i c st' _ hi ⟨ys,P,g,rfl,pm,lo,rfl,h1,h2,ch⟩;have gy:=hg.perm pm;have sz:=pm.size_eq;dsimp only;refine zaw (fun e=>?_) fun e=>?_
  ·exact wpS_pure ⟨ys,P,g,rfl,pm,lo,rfl,by have:xs.size<=lo:=e;omega,ch⟩
  have e:lo<xs.size:=Nat.not_le.1 e;refine wpS_bind (zfX C (st:=SortSt.mk' κ ys P g none) rfl gy (by show 1<=xs.size-lo;omega) (by show lo+(xs.size-lo)<=ys.size;omega) fun zs n n1 n2 pm2 kp sg=>?_);dsimp only;have pmz:zs.Perm xs:=Array.Perm.trans pm2 pm;have chz:zaK kf zs 0 P.toList lo:=ch.congr fun k _ hk=>kp k hk
  have gz:=hg.perm pmz;have szz:=pmz.size_eq;refine zaw (fun e'=>?_) fun e'=>?_
  ·refine wpS_bind (wpS_lift (wpAny_rule ⟨rfl,?_⟩));refine wpS_bind (zev C (st:=SortSt.mk' κ zs P g none) rfl gz n1 (by omega) (by show lo+_<=zs.size;omega) sg fun zs pw kw sgz=>?_);rw [zpb (by simp)];have pmz:zs.Perm xs:=Array.Perm.trans pw pmz;have chz:zaK kf zs 0 P.toList lo:=chz.congr fun k _ hk=>kw k hk
   show wpS M A E s _ _ (SortSt.mk' κ zs P g none);have nn1:1<=min (xs.size-lo) (minRun' xs.size xs.size 0):=by
    have:n<minRun' xs.size xs.size 0:=e'
    omega
   obtain⟨nn,hnn⟩:∃ nn,nn=min (xs.size-lo) (minRun' xs.size xs.size 0):=⟨_,rfl⟩;have hnn2:lo+nn<=xs.size:=by omega
   rw [← hnn] at nn1;have sgz:Seg kf zs lo (lo+nn):=by rw [hnn];exact sgz
   unfold minRun' at hnn;rw [← hnn];walk_at "runTail"
  ·show wpS M A E s _ _ (SortSt.mk' κ zs P g none);obtain⟨nn,hnn⟩:∃ nn,nn=n:=⟨_,rfl⟩;subst hnn;have nn1:=n1;have sgz:=sg;walk_at "runTail"
 ·rintro c st' ⟨ys,P,g,rfl,pm,lo,rfl,h1,h2,ch⟩;refine⟨ys,P,g,rfl,pm,lo,rfl,?_,ch⟩
  have:max 0 xs.size<=lo:=h1
  omega
 ·rintro c st' ⟨ys,P,g,rfl,pm,lo,rfl,rfl,ch⟩;dsimp only;have hP:P.size<=xs.size:=by have:=zaK.le ch;rw [zpd] at this;omega
  refine wpS_bind (wpS_mono (wpS_forRange (I:=fun j c st'=>c=(none,())/\∃ us P' g',st'=SortSt.mk' κ us P' g' none/\us.Perm xs/\zaK kf us 0 P'.toList xs.size/\P'.size+j<=xs.size)
   (Q:=fun c st'=>c=(none,())/\∃ us P' g',st'=SortSt.mk' κ us P' g' none/\us.Perm xs/\zaK kf us 0 P'.toList xs.size/\P'.size<=1) ?_ ?_ ⟨rfl,ys,P,g,rfl,pm,ch,by omega⟩) ?_)
  ·rintro j c st' _ hj ⟨rfl,us,P',g',rfl,pm',ch',hs⟩;refine wpS_bind (wpS_get ?_);refine zaw (fun e=>wpS_pure ⟨rfl,us,P',g',rfl,pm',ch',e⟩) fun e=>?_
   have e:1<P'.size:=Nat.not_le.1 e;have szu:=pm'.size_eq;refine wpS_bind (zej C (hg.perm pm') ch' (by omega) ?_ fun vs P'' g'' pv kv cv hs'=>?_)
   ·exact zlC e
   rw [zpb (by simp)];exact wpS_pure ⟨rfl,vs,P'',g'',rfl,pv.trans pm',cv,by omega⟩
  ·rintro c st' ⟨rfl,us,P',g',rfl,pm',ch',hs⟩;refine⟨rfl,us,P',g',rfl,pm',ch',?_⟩
   have:P'.size+max 0 xs.size<=xs.size:=hs
   omega
  ·rintro c st' ⟨rfl,us,P',g',rfl,pm',ch',hs⟩;refine wpS_pure (h us P' g' pm' ?_);have szu:=pm'.size_eq;rw [szu];rw [← zpd] at hs
   revert ch' hs
   cases P'.toList with
   | nil =>
    intro ch' _
    have:0=xs.size:=ch'
    exact fun i j x y _ _ _=>by omega
   | cons t r =>
    intro ch' hs;cases r with
    | nil =>
     obtain⟨_,_,c3,c4⟩:=ch';have c4:0+t.2.1=xs.size:=c4;rw [← c4];exact c3
    | cons u r=>simp at hs
end
end L2
end
section
namespace L2
open PySem PySem.Spec PyProof.Rows PySem.W
theorem zf9 {α:Type} (d:α):∀ {l' l:List α},l'.Perm l->∃ p:List Nat,p.Perm (List.range l.length)/\l'=p.map fun i=>l.getD i d:=fun h=>by
 induction h with
 | nil=>exact⟨[],List.Perm.refl _,rfl⟩
 | @cons x l1 l2 _ ih =>
  obtain⟨p,p1,p2⟩:=ih;refine⟨0::p.map Nat.succ,?_,?_⟩
  ·rw [zpa,List.range_succ_eq_map];exact (p1.map _).cons _
  ·rw [p2,zo0,zoZ]
   rfl
 | swap x y l =>
  refine⟨1::0::(List.range l.length).map (·+2),?_,?_⟩
  ·rw [zpa,zpa,List.range_succ_eq_map,List.range_succ_eq_map,zo0,zoZ];exact List.Perm.swap _ _ _
  ·rw [zo0,zo0,zoZ];show y::x::l=y::x::(List.range l.length).map (fun i=>l.getD i d)
   congr 2
   apply List.ext_getElem?
   intro i;by_cases hi:i<l.length
   ·simp [hi]
   ·simp [Nat.le_of_not_lt hi]
 | @trans l1 l2 l3 _ _ ih1 ih2 =>
  obtain⟨p1,a1,b1⟩:=ih1;obtain⟨p2,a2,b2⟩:=ih2;have hl:l2.length=p2.length:=by rw [b2,zox]
  refine⟨p1.map fun i=>p2.getD i 0,?_,?_⟩
  ·refine (a1.map _).trans ?_
   have:(List.range l2.length).map (fun i=>p2.getD i 0)=p2:=by
    apply List.ext_getElem?
    intro i;by_cases hi:i<p2.length
    ·simp [hi,hl]
    ·simp [Nat.le_of_not_lt hi,hl]
   rw [this];exact a2
  ·rw [b1,zoZ];refine zpm fun i hi=>?_
   have hi:i<p2.length:=by rw [← hl];exact List.mem_range.1 (a1.mem_iff.1 hi)
   show l2.getD i d=l3.getD (p2.getD i 0) d;rw [b2];simp [hi]
section
variable {prog:Program} {w:World} {A:Around} {E:Value->Shared->Prop} {s:Shared}
def zd8 (h:Heap) (a:Addr) (vs:List Value) (ky:Nat->Int):Prop:=∀ i v,vs[i]?=some v->∃ b o xs c t,v=.ref b/\b≠a/\h.get? b=some o/\o.cls=.type "tuple"/\o.data=.seq xs c/\xs[0]?=some (.int (ky i) t)
theorem zd8.kat {h:Heap} {a:Addr}:∀ {vs:List Value} {ky:Nat->Int},zd8 h a vs ky->∃ fs,KatTups h vs fs/\fs.length=vs.length/\∀ v∈fs,∃ i t,v=Value.int i t
 | [],_,_=>⟨[],KatTups.nil,rfl,by simp⟩
 | v::vs,ky,H=>by
  obtain⟨b,o,xs,c,t,rfl,_,h1,h2,h3,h4⟩:=H 0 v rfl;obtain⟨fs,k,l,q⟩:=zd8.kat (vs:=vs) (ky:=fun i=>ky (i+1)) fun i u hu=>H (i+1) u hu
  refine⟨_::fs,KatTups.cons h1 h2 h3 h4 k,by simp [l],fun v hv=>?_⟩;rcases zpg.1 hv with rfl | hv
  ·exact⟨_,_,rfl⟩
  ·exact q v hv
def zjq (h:Heap) (x:Keyed):Int :=
 match x.1 with
 | .ref b=>match h.get? b with
  | some o=>match o.data with
   | .seq xs _=>match (xs:Array Value)[0]? with
    | some (Value.int k _)=>k
    | _=>0
   | _=>0
  | none=>0
 | _=>0
def zmb (h:Heap) (x:Keyed):Prop:=∃ b o xs c k t,x.1=.ref b/\h.get? b=some o/\o.data=.seq xs c/\xs[0]?=some (.int k t)
theorem zeJ {h:Heap} {x:Keyed} {b:Addr} {o:Obj} {xs:Array Value} {c:Nat} {k:Int} {t:Tok} (h1:x.1=.ref b) (h2:h.get? b=some o) (h3:o.data=.seq xs c) (h4:xs[0]?=some (.int k t)):zjq h x=k:=by
 unfold zjq;rw [h1];dsimp only;rw [h2];dsimp only;rw [h3];dsimp only;rw [h4]
theorem zhd:Cmp (model prog w) A E s (zjq s.heap) (zmb s.heap) (tuples' true):=fun x y st Q hx hy ne hk hQ=>by
 obtain⟨b,o,xs,c,k,t,e1,h1,h3,h4⟩:=hx;obtain⟨b',o',xs',c',k',t',e1',h1',h3',h4'⟩:=hy;rw [zeJ e1 h1 h3 h4,zeJ e1' h1' h3' h4'] at hQ ne;rw [lt'_eq];refine wpS_bind (wpS_get (wpS_bind (wpS_lift (wpAny_attempt ?_))));rw [hk,e1,e1'];refine kat_lt h1 h3 h1' h3' ?_;obtain⟨xr,hx⟩:∃ xr,xs.toList=.int k t::xr:=by
  have:xs.toList[0]?=some (.int k t):=by rw [zpe];exact h4
  cases hz:xs.toList with
  | nil=>rw [hz] at this;cases this
  | cons x r=>rw [hz] at this;cases this;exact⟨r,rfl⟩
 obtain⟨yr,hy⟩:∃ yr,xs'.toList=.int k' t'::yr:=by
  have:xs'.toList[0]?=some (.int k' t'):=by rw [zpe];exact h4'
  cases hz:xs'.toList with
  | nil=>rw [hz] at this;cases this
  | cons x r=>rw [hz] at this;cases this;exact⟨r,rfl⟩
 rw [hx,hy,List.zip_cons_cons];refine kat_cons (wpAny_eqBool_int ?_);rw [beq_eq_false_iff_ne.2 ne];exact kat_no (oneLt_int ⟨rfl,wpS_pure hQ⟩)
theorem zn2 {a:Addr} {vs:List Value} {n:Nat} {ky:Nat->Int} {κ:SortKind} {kf:Heap->Keyed->Int} {G:Heap->Keyed->Prop} {P:PySem.Fin->Shared->Prop} (ho:s.heap.get? a=some (seqObj "list" vs.toArray n)) (h64:vs.length<65536)
  (hkind:∀ h6:Heap,(∀ b o,b≠a->s.heap.get? b=some o->h6.get? b=some o)->2<=vs.length->∀ Q:SortKind->Shared->Prop,Q κ { s with heap:=h6 }->wpAny (model prog w) A (keyKind' vs.toArray) Q E { s with heap:=h6 })
  (hcmp:∀ h6:Heap,(∀ b o,b≠a->s.heap.get? b=some o->h6.get? b=some o)->Cmp (model prog w) A E { s with heap:=h6 } (kf h6) (G h6) κ)
  (hkey:∀ h6:Heap,(∀ b o,b≠a->s.heap.get? b=some o->h6.get? b=some o)->∀ i v,vs[i]?=some v->G h6 (v,v)/\kf h6 (v,v)=ky i)
  (hd:∀ i j,i<vs.length->j<vs.length->i≠j->ky i≠ky j)
  (h:∀ (p:List Nat) (h':Heap) (c:Nat),p.Perm (List.range vs.length)->(∀ i j,i<j->j<vs.length->ky (p.getD i 0)<ky (p.getD j 0))->(∀ b o,b≠a->s.heap.get? b=some o->h'.get? b=some o) ->
   h'.get? a=some (seqObj "list" (p.map fun i=>vs.getD i Value.none).toArray c)->P (.done (.ret .none)) { s with heap:=h' }) :
  wpAny (model prog w) A (Builtin.«list.sort» ⟨[.ref a],[]⟩) P E s:=by
 have ha:a<s.heap.objs.size:=zoY ho;have s1:=Heap.SameBut.update s.heap a (Obj.mapSeq fun _=>(#[]:Array Value));obtain⟨e1,ho1⟩:∃ e1,(s.heap.update a (Obj.mapSeq fun _=>(#[]:Array Value))).get? a=some (seqObj "list" #[] e1):=⟨_,get?_update_seq ho fun _=>#[]⟩;have ho6:(((s.heap.update a (Obj.mapSeq fun _=>(#[]:Array Value))).push (seqObj "tuple" vs.toArray 0)).push (seqObj "list" #[] 0)).get? a=some (seqObj "list" #[] e1):=zoK _ (zoK _ ho1);have keep:∀ b o,b≠a->s.heap.get? b=some o->(((s.heap.update a (Obj.mapSeq fun _=>(#[]:Array Value))).push (seqObj "tuple" vs.toArray 0)).push (seqObj "list" #[] 0)).get? b=some o:=fun b o hb e =>
  zoK _ (zoK _ ((s1.2 b hb).trans e))
 rw [list_sort_plain];refine wpAny_bind (listItems_at ho rfl ?_);refine wpAny_bind (listUpdate_at ho rfl ?_ (by rw [zo9,sizeLine_eq];omega) (Nat.zero_le _));refine wpAny_bind (seqEpoch_at ho1 rfl ?_);refine wpAny_bind (wpAny_newTuple ?_ (by show vs.length<=_;rw [sizeLine_eq];omega));refine wpAny_bind (wpAny_newList ?_ (Nat.zero_le _));refine wpAny_holding ?_;show wpAny (model prog w) A _ P E { s with heap:=((s.heap.update a (Obj.mapSeq fun _=>(#[]:Array Value))).push (seqObj "tuple" vs.toArray 0)).push (seqObj "list" #[] 0) };generalize ((s.heap.update a (Obj.mapSeq fun _=>(#[]:Array Value))).push (seqObj "tuple" vs.toArray 0)).push (seqObj "list" #[] 0)=h6 at ho6 keep ⊢;dsimp only;by_cases h2:vs.toArray.size<2
 ·rw [zpc h2,zpc h2];refine wpAny_bind (wpAny_pure ?_);rw [StateT.run_pure];refine wpAny_bind (wpAny_pure ?_);dsimp only;refine wpAny_bind (seqEpoch_at ho6 rfl ?_);have eo:(vs.toArray.zip vs.toArray).map (·.2)=((List.range vs.length).map fun i=>vs.getD i Value.none).toArray:=by
   apply Array.toList_inj.mp
   rw [Array.toList_map,Array.toList_zip]
   apply List.ext_getElem?
   intro i;by_cases hi:i<vs.length
   ·simp [hi]
   ·simp [Nat.le_of_not_lt hi]
  refine wpAny_bind (listUpdate_at ho6 rfl ?_ (Nat.zero_le _) (by rw [Array.size_map];show (vs.toArray.zip vs.toArray).size<=_;simp;rw [sizeLine_eq];omega));simp only [bne_self_eq_false,Bool.false_eq_true,if_false];refine wpAny_pure ?_;have s2:=Heap.SameBut.update h6 a (Obj.mapSeq fun _=>(vs.toArray.zip vs.toArray).map (·.2))
  obtain⟨c2,hc2⟩:∃ c2,(h6.update a (Obj.mapSeq fun _=>(vs.toArray.zip vs.toArray).map (·.2))).get? a=some (seqObj "list" ((vs.toArray.zip vs.toArray).map (·.2)) c2):=⟨_,get?_update_seq ho6 fun _=>(vs.toArray.zip vs.toArray).map (·.2)⟩
  refine h (List.range vs.length) _ c2 (List.Perm.refl _) (fun i j hij hj=>?_) (fun b o hb e=>(s2.2 b hb).trans (keep b o hb e)) (by rw [← eo];exact hc2);rw [zo9] at h2;omega
 ·rw [zpb h2,zpb h2];rw [zo9] at h2;refine wpAny_bind (hkind h6 keep (by omega) _ ?_);have hz:(vs.toArray.zip vs.toArray).toList=vs.map fun v=>(v,v):=by
   rw [Array.toList_zip]
   apply List.ext_getElem?
   intro i;by_cases hi:i<vs.length
   ·simp [hi]
   ·simp [Nat.le_of_not_lt hi]
  have key:=hkey h6 keep;have gd:Gd (kf h6) (G h6) (vs.toArray.zip vs.toArray):=by
   constructor
   ·intro x hx;rw [hz] at hx;obtain⟨v,hv,rfl⟩:=zoP.1 hx;obtain⟨i,hi⟩:=List.getElem?_of_mem hv;exact (key i v hi).1
   ·rw [hz,zoZ];rw [List.Nodup,List.pairwise_iff_getElem];intro i j hi hj hij;rw [zox] at hi hj;rw [List.getElem_map,List.getElem_map];show kf h6 (vs[i],vs[i])≠kf h6 (vs[j],vs[j]);rw [(key i _ (zoz hi)).2,(key j _ (zoz hj)).2];exact hd i j hi hj (by omega)
  refine wpAny_bind (wpAny_mono (zgb (s:={ s with heap:=h6 }) (hcmp h6 keep) (g:=7) (Q:=fun _ st'=>∃ ys P g,st'=SortSt.mk' (κ) ys P g none/\ys.Perm (vs.toArray.zip vs.toArray)/\Seg (kf h6) ys 0 ys.size) gd fun ys P g a1 a2=>⟨ys,P,g,rfl,a1,a2⟩) ?_ fun _ _ e=>e);rintro ⟨⟨⟩,st'⟩ s' ⟨rfl,ys,P',g,rfl,pm,sg⟩;dsimp only;have pm':=Array.perm_iff_toList_perm.1 pm;rw [hz] at pm';obtain⟨p,hp,hm⟩:=zf9 ((Value.none,Value.none):Keyed) pm';rw [zox] at hp;have hpl:p.length=vs.length:=by have:=hp.length_eq;rw [List.length_range] at this;exact this
  have plt:∀ i,i<p.length->p.getD i 0<vs.length:=fun i hi=>by
   rw [zpf,zoz hi];exact List.mem_range.1 (hp.mem_iff.1 (List.getElem_mem hi))
  have hm':ys.toList=p.map fun i=>(vs.getD i Value.none,vs.getD i Value.none):=by
   rw [hm];refine zpm fun i hi=>?_
   have hi:i<vs.length:=List.mem_range.1 (hp.mem_iff.1 hi);simp [hi]
  have hout:(arrOf (SortSt.mk' (κ) ys P' g none)).map (·.2)=(p.map fun i=>vs.getD i Value.none).toArray:=by
   show ys.map (·.2)=_
   apply Array.toList_inj.mp
   rw [Array.toList_map,hm',zoZ]
   rfl
  rw [hout];have hsz:(List.toArray (p.map fun i=>vs.getD i Value.none)).size=vs.length:=by rw [zo9,zox,hpl]
  have s2:=Heap.SameBut.update h6 a (Obj.mapSeq fun _=>List.toArray (p.map fun i=>vs.getD i Value.none));obtain⟨c2,hc2⟩:∃ c2,(h6.update a (Obj.mapSeq fun _=>List.toArray (p.map fun i=>vs.getD i Value.none))).get? a=some (seqObj "list" (List.toArray (p.map fun i=>vs.getD i Value.none)) c2):=⟨_,get?_update_seq ho6 fun _=>List.toArray (p.map fun i=>vs.getD i Value.none)⟩;refine wpAny_bind (seqEpoch_at ho6 rfl ?_);refine wpAny_bind (listUpdate_at ho6 rfl ?_ (Nat.zero_le _) (zoM (Nat.le_of_eq hsz) (by rw [sizeLine_eq];omega)));simp only [bne_self_eq_false,Bool.false_eq_true,if_false];refine wpAny_pure (h p _ c2 hp (fun i j hij hj=>?_) (fun b o hb e=>(s2.2 b hb).trans (keep b o hb e)) hc2);have yat:∀ i,i<vs.length->∃ x,ys[i]?=some x/\kf h6 x=ky (p.getD i 0):=fun i hi=>by
   have hi':i<p.length:=by omega
   refine⟨_,by rw [← zpe,hm',zoy,zoz hi'];rfl,?_⟩
   have:=plt i hi'
   rw [show p.getD i 0=p[i] by rw [zpf,zoz hi'];rfl] at this ⊢;dsimp only;rw [show vs.getD p[i] Value.none=vs[p[i]] by rw [zpf,zoz this];rfl];exact (key _ _ (zoz this)).2
  obtain⟨x,x1,x2⟩:=yat i (by omega);obtain⟨y,y1,y2⟩:=yat j hj;rw [← x2,← y2];exact sg i j x y (Nat.zero_le _) hij (by have:=(Array.getElem?_eq_some_iff.1 y1).1;exact this) x1 y1
theorem zou {a:Addr} {vs:List Value} {n:Nat} {ky:Nat->Int} {P:PySem.Fin->Shared->Prop} (ho:s.heap.get? a=some (seqObj "list" vs.toArray n)) (h64:vs.length<65536) (H:zd8 s.heap a vs ky)
  (hd:∀ i j,i<vs.length->j<vs.length->i≠j->ky i≠ky j)
  (h:∀ (p:List Nat) (h':Heap) (c:Nat),p.Perm (List.range vs.length)->(∀ i j,i<j->j<vs.length->ky (p.getD i 0)<ky (p.getD j 0))->(∀ b o,b≠a->s.heap.get? b=some o->h'.get? b=some o) ->
   h'.get? a=some (seqObj "list" (p.map fun i=>vs.getD i Value.none).toArray c)->P (.done (.ret .none)) { s with heap:=h' }) :
  wpAny (model prog w) A (Builtin.«list.sort» ⟨[.ref a],[]⟩) P E s:=by
 have up:∀ h6:Heap,(∀ b o,b≠a->s.heap.get? b=some o->h6.get? b=some o)->zd8 h6 a vs ky:=fun h6 keep i v hv=>by
  obtain⟨b,o,xs,c,t,r0,r1,r2,r3⟩:=H i v hv;exact⟨b,o,xs,c,t,r0,r1,keep b o r1 r2,r3⟩
 refine zn2 (κ:=tuples' true) (kf:=zjq) (G:=zmb) (ky:=ky) ho h64 (fun h6 keep h2 Q q=>?_) (fun h6 _=>zhd) (fun h6 keep i v hv=>?_) hd h
 ·obtain⟨fs,kt,fl,fi⟩:=(up h6 keep).kat;refine kat_kind (s:={ s with heap:=h6 }) (T:=.type "int") kt (by omega) (fun v hv=>?_) rfl q;obtain⟨i,t,rfl⟩:=fi v hv;exact .now
 ·obtain⟨b,o,xs,c,t,r0,r1,r2,_,r4,r5⟩:=up h6 keep i v hv;exact⟨⟨b,o,xs,c,_,t,r0,r2,r4,r5⟩,zeJ r0 r2 r4 r5⟩
end
end L2
end
section
namespace L2
open PySem PySem.Spec PyProof.Rows PySem.W
section
variable {X:Cx} {pins:List (Addr × Obj)} {σ:St} {H H':Hp} {s:Shared} {h':Heap}
theorem zaV.there {P:Program} {w:World} {H:Hp} {h:Heap} {a:Addr} {o:HO} (x:zaV P w H h a o):∃ u,h.get? a=some u:=by
 cases o with
 | lst xs=>obtain⟨_,_,_,_,e⟩:=x;exact⟨_,e⟩
 | tup xs=>obtain⟨_,_,_,o,e,_⟩:=x;exact⟨_,e⟩
 | dK kvs=>obtain⟨_,_,_,_,o,_,_,e,_⟩:=x;exact⟨_,e⟩
 | dT kvs=>obtain⟨_,_,_,_,o,_,_,e,_⟩:=x;exact⟨_,e⟩
 | set S n=>obtain⟨o,_,_,_,e,_⟩:=x;exact⟨_,e⟩
 | ins C dx fs=>obtain⟨_,_,_,e,_⟩:=x;exact⟨_,e⟩
 | own y=>exact x
 | xd fs=>obtain⟨_,⟨_,_,_,e,_⟩,_⟩:=x;exact⟨_,e⟩
 | rng lo hi=>obtain⟨_,_,_,e⟩:=x;exact⟨_,e⟩
 | frz ob u=>obtain⟨e,_⟩:=x;exact⟨_,e⟩
 | tbl ps=>exact⟨_,(show h.get? a=some _ from x)⟩
 | met f y=>exact⟨_,(show h.get? a=some _ from x)⟩
 | ext φ=>obtain⟨_,e,_⟩:=x;exact e
theorem Inv.noneAt {a:Addr} (I:Inv X pins σ H s) (n:s.heap.get? a=none):H a=none:=by
 cases q:H a with
 | none=>rfl
 | some o =>
  obtain⟨u,e⟩:=zaV.there (I.hok a o q);rw [n] at e;cases e
theorem Inv.more {t':Nat} (I:Inv X pins σ H s) (k:∀ b u,s.heap.get? b=some u->h'.get? b=some u) (S:Sub H H') (new:∀ a o,H' a=some o->H a=none->s.heap.get? a=none/\zaV X.prog X.w H' h' a o) :
  Inv X pins σ H' { s with heap:=h',toks:=t' }:=by
 refine I.un ⟨fun b o e _ _ _=>k b o e,fun b o e _ _ _=>⟨o.slots,k b o e⟩,fun b o e n _=>?_,fun b o e _=>⟨o,k b o e⟩,fun b xs e=>S _ _ e,fun b o u e=>S _ _ e,fun b ps e=>⟨#[],by rw [S _ _ e];simp⟩⟩ fun a o e=>?_
 ·cases q:H' b with
  | none=>rfl
  | some u=>have:=(new b u q n).1;rw [e] at this;cases this
 ·cases q:H a with
  | none=>exact (new a o e q).2
  | some u =>
   have:=S a u q
   rw [e] at this;cases this;exact (I.hok a o q).stay (fun b u _ z=>k b u z) (fun b z=>S _ _ z) fun b xs z=>S _ _ z
end
def ovr (H:Hp) (l:List (Addr × HO)):Hp:=fun a=>match l.lookup a with | some o=>some o | none=>H a
theorem zls {H:Hp} {l:List (Addr × HO)} (h:∀ p∈l,H p.1=none):Sub H (ovr H l):=fun a o e=>by
 unfold ovr;cases q:l.lookup a with
 | none=>exact e
 | some u =>
  have:(a,u)∈l:=by
   rw [List.lookup_eq_some_iff] at q;obtain⟨l1,l2,rfl,_⟩:=q;simp
  have:=h _ this
  rw [e] at this;cases this
theorem zlr {H:Hp} {l:List (Addr × HO)} {a:Addr} {o:HO} (h:ovr H l a=some o) (n:H a=none):(a,o)∈l:=by
 unfold ovr at h;cases q:l.lookup a with
 | none=>rw [q] at h;rw [n] at h;cases h
 | some u =>
  rw [q] at h;cases h;rw [List.lookup_eq_some_iff] at q;obtain⟨l1,l2,rfl,_⟩:=q;simp
theorem zkw {H:Hp}:∀ {l:List (Addr × HO)} {a:Addr} {o:HO},(l.map (·.1)).Nodup->(a,o)∈l->ovr H l a=some o:=by
 intro l a o nd m
 have:l.lookup a=some o:=by
  induction l with
  | nil=>cases m
  | cons p l ih =>
   rw [zo0,List.nodup_cons] at nd;rcases zpg.1 m with rfl | m
   ·simp [List.lookup]
   ·have ne:¬ a=p.1:=fun e=>nd.1 (zoP.2 ⟨(a,o),m,e⟩)
    have hb:(a == p.1)=false:=beq_eq_false_iff_ne.2 ne;rw [List.lookup_cons,hb];exact ih nd.2 m
 unfold ovr;rw [this]
abbrev dcI (kvs:List (Int × V)):List (Key × V):=kvs.map fun q=>(Sum.inl q.1,q.2)
abbrev tI (q:Int × V):HO:=.tup [.int q.1,q.2]
theorem zn4 {kvs:List (Int × V)} {vs:List (Key × Value)} (r:KV (dcI kvs) vs) {i:Nat} {k:Key} {x:Value} (h:vs[i]?=some (k,x)):∃ q,kvs[i]?=some q/\k=.inl q.1/\zaO q.2 x:=by
 have:∀ {l:List (Key × V)} {m:List (Key × Value)} {i:Nat},KV l m->m[i]?=some (k,x)->∃ p,l[i]?=some p/\p.1=k/\zaO p.2 x:=by
  intro l m i r
  induction r generalizing i with
  | nil=>intro h;simp at h
  | @cons p q ps qs hp t ih =>
   intro h;cases i with
   | zero=>cases h;exact⟨p,rfl,hp.1,hp.2⟩
   | succ i=>exact ih h
 obtain⟨p,h1,h2,h3⟩:=this r h;rw [zoy] at h1;obtain⟨q,hq,rfl⟩:=zoA.1 h1;exact⟨q,hq,h2.symm,h3⟩
theorem zhO {P:Program} {w:World} {h:Heap} {a:Addr} {vs:List (Key × Value)} (d:h.DictOf (zaJ P w) a vs):∃ ep,h.DictAt (zaJ P w) a vs ep:=by
 obtain⟨o,es,ep,r⟩:=d;exact⟨ep,o,es,r⟩
theorem zjr {kvs:List (Int × V)} {vs:List (Key × Value)} (r:KV (dcI kvs) vs) (nd:(vs.map (·.1)).Nodup):(kvs.map (·.1)).Nodup:=by
 have e:vs.map (·.1)=kvs.map fun q=>(Sum.inl q.1:Key):=by
  have:∀ {l:List (Key × V)} {m:List (Key × Value)},KV l m->m.map (·.1)=l.map (·.1):=by
   intro l m r
   induction r with
   | nil=>rfl
   | @cons p q ps qs hp t ih=>rw [zo0,zo0,ih,hp.1]
  rw [this r,zoZ]
  rfl
 rw [e,show (kvs.map fun q=>(Sum.inl q.1:Key))=(kvs.map (·.1)).map Sum.inl by rw [zoZ];rfl] at nd
 exact (List.pairwise_map.1 nd).imp fun h e=>h (by rw [e])
theorem zmI {κ:Type} {l:List (κ × V)} {m:List (κ × Value)} (r:KV l m):l.length=m.length:=Paired.length r
theorem zht {α:Type} (l:List α) (d:α):(List.range l.length).map (fun i=>l.getD i d)=l:=by
 apply List.ext_getElem?
 intro i;rw [zoy];by_cases h:i<l.length
 ·rw [List.getElem?_range h];simp [h]
 ·rw [List.getElem?_eq_none (by rw [List.length_range];omega),List.getElem?_eq_none (by omega)];rfl
theorem zg3:∀ bs:List Addr,zaU (bs.map V.ref) (bs.map Value.ref)
 | []=>.nil
 | _::bs=>.cons rfl (zg3 bs)
theorem zdh {as:List Addr} {kvs:List (Int × V)} {p:List Nat} {ky:Nat->Int} {R:Addr->Int × V->Prop} (hp:p.Perm (List.range kvs.length)) (hA:zbq R as kvs) (hky:∀ i,ky i=(kvs.getD i (0,.non)).1)
  (hs:∀ i j,i<j->j<kvs.length->ky (p.getD i 0)<ky (p.getD j 0)) :
  (p.map fun i=>kvs.getD i (0,.non)).Perm kvs/\((p.map fun i=>kvs.getD i (0,.non)).map (·.1)).Pairwise (·<·)/\zbq R (p.map fun i=>as.getD i 0) (p.map fun i=>kvs.getD i (0,.non)) /\
   (p.map fun i=>(as.map Value.ref).getD i Value.none)=(p.map fun i=>as.getD i 0).map Value.ref:=by
 have hlen:p.length=kvs.length:=by rw [hp.length_eq,List.length_range]
 have hlt:∀ i∈p,i<kvs.length:=fun i hi=>List.mem_range.1 (hp.mem_iff.1 hi)
 refine⟨?_,?_,⟨by rw [zox,zox],fun i a q ha hq=>?_⟩,?_⟩
 ·have:=hp.map fun i=>kvs.getD i (0,V.non)
  rwa [zht] at this
 ·rw [zoZ];refine List.pairwise_iff_getElem.2 fun i j hi hj hij=>?_
  rw [zox] at hi hj
  have:=hs i j hij (by omega)
  rw [hky,hky] at this;simpa [hi,hj] using this
 ·rw [zoy] at ha hq;obtain⟨j,hj,rfl⟩:=zoA.1 ha;rw [hj] at hq;cases hq;have hjl:=hlt j (zoC hj);have hja:j<as.length:=by rw [hA.1];exact hjl
  refine hA.2 j _ _ ?_ ?_
  ·simp [hja]
  ·simp [hjl]
 ·rw [zoZ];refine zpm fun i hi=>?_
  have hja:i<as.length:=by rw [hA.1];exact hlt i hi
  simp [hja]
def zj3 (v d:Addr):HO:=.ext fun h=>h.IsItemsView v d
theorem zmJ {kvs:List (Int × V)} (nd:(kvs.map (·.1)).Nodup) {i j:Nat} (hi:i<kvs.length) (hj:j<kvs.length) (ne:i≠j):(kvs.getD i (0,.non)).1≠(kvs.getD j (0,.non)).1:=fun e=>by
 apply ne
 refine (List.getElem_inj (i:=i) (j:=j) (h₀:=by rw [zox];exact hi) (h₁:=by rw [zox];exact hj) nd).1 ?_;simpa [hi,hj] using e
section
variable {X:Cx}
def zkh:V->List V->Hp->VK->Prop:=fun x vs H Q=>match x,vs with | .ref d,[]=>(∃ kvs,H d=some (.dK kvs))/\∀ v,H v=none->Q (.ref v) (upd H v (zj3 v d)) | _,_=>False
theorem zlO:MtR X "dict.items" zkh:=by
 intro pins s σ H x vs v us Q I rx rv h;unfold zkh at h;split at h
 ·rename_i d;obtain⟨⟨kvs,hd⟩,q⟩:=h;cases rx;cases rv;obtain⟨z,hsys,ws,rel,dd⟩:=zg9 I.hok hd;refine call_meetsIn PySem.F.slot_dict_items dd.typeIs PySem.F.entry_dict_items (PySem.F.args_dict_items_1 _) (meets_dict_items (zaJ X.prog X.w) d hsys) ⟨⟨ws,dd⟩,?_⟩;refine⟨.ref s.heap.objs.size,_,I.laid (a:=s.heap.objs.size) (o:=zj3 s.heap.objs.size d) (t':=s.toks) (fun b u e=>zoK _ e) (zoN _) ?_,rfl,q _ (I.hok.fresh (zoN _))⟩;have e:(s.heap.push { cls:=.type "dict_items",data:=.fields #[.ref d] }).get? s.heap.objs.size=some { cls:=.type "dict_items",data:=.fields #[.ref d] }:=zo8 _ rfl;refine⟨⟨_,e,rfl,rfl⟩,⟨_,e⟩,fun h1 h2 ⟨o,a1,a2⟩ k=>⟨o,k o a1,a2⟩⟩
 ·exact h.elim
def zmn:List V->Hp->VK->Prop:=fun xs H Q=>match xs with
 | [.ref v]=>∃ d kvs,H v=some (zj3 v d)/\H d=some (.dK (dcI kvs))/\kvs.length<65536/\∀ (ps:List (Int × V)) (bs:List Addr) (l:Addr) (H':Hp),Sub H H'->ps.Perm kvs->(ps.map (·.1)).Pairwise (·<·) ->
   zbq (fun b q=>H' b=some (tI q)) bs ps->H' l=some (.lst (bs.map V.ref))->H l=none->(∀ b∈bs,H b=none)->Q (.ref l) H'
 | _=>False
theorem zng (hc:X.calm=true):zbu X (.builtin "sorted") zmn:=by
 intro pins s σ H xs us Q I r h;unfold zmn at h;split at h
 ·rename_i v;obtain⟨d,kvs,hv,hd,h64,q⟩:=h;cases r with
  | cons r rr =>
  cases rr;cases r;obtain⟨z,hsys,ws,rel,dd⟩:=zg9 I.hok hd;obtain⟨ep,hat⟩:=zhO dd;obtain⟨hview,_,_⟩:=(show zaV X.prog X.w H s.heap v (zj3 v d) from I.hok v _ hv);have hwl:kvs.length=ws.length:=by rw [← zmI rel,zox]
  refine Calls.call_function_entry kind_sorted plain_sorted entry_sorted (args_sorted1 _) ?_;unfold Builtin.«sorted»;refine wpAny_bind (m:=checkCount "sorted" 1 1 _) (wpAny_pure ?_);refine wpAny_bind (kdx_collect (A:=X.A.in1) (knd:=zaJ X.prog X.w) (kvs:=ws) (ep:=ep) (I.ok.hd hc) hview hat (by rw [← hwl,sizeLine_eq];omega) fun h' tk as hk hl hG=>?_);have hal:as.length=kvs.length:=by rw [hl,hwl]
  refine wpAny_bind (wpAny_newList ?_ (by rw [zox,hal,sizeLine_eq];omega));have hB:(h'.push { cls:=.type "list",data:=.seq (as.map Value.ref).toArray }).get? h'.objs.size=some (seqObj "list" (as.map Value.ref).toArray 0):=zo8 _ rfl;have hasB:∀ a∈as,a≠h'.objs.size:=fun a ha=>zph (hG.there ha)
  have tup:∀ i a,as[i]?=some a->∃ (qv:Int × V) (t:Tok) (x:Value),kvs[i]?=some qv/\zaO qv.2 x/\h'.get? a=some { cls:=.type "tuple",data:=.seq #[.int qv.1 t,x] }:=fun i a ha=>by
   obtain⟨key,k,x,e1,e2,e3⟩:=hG.pairs i a ha;obtain⟨qv,f1,rfl,f3⟩:=zn4 rel e1;rcases zaI (show zf3 (.inl qv.1) key=true from e2) with ⟨i',t,g1,rfl⟩ | ⟨x',t,g1,rfl⟩
   ·cases g1;exact⟨qv,t,x,f1,f3,e3⟩
   ·cases g1
  have hT:zd8 (h'.push { cls:=.type "list",data:=.seq (as.map Value.ref).toArray }) h'.objs.size (as.map Value.ref) (fun i=>(kvs.getD i (0,.non)).1):=fun i u hu=>by
   rw [zoy] at hu;obtain⟨a,ha,rfl⟩:=zoA.1 hu;obtain⟨qv,t,x,e1,e2,e3⟩:=tup i a ha;refine⟨a,_,_,_,t,rfl,hasB a (zoC ha),zoK _ e3,rfl,rfl,?_⟩
   have:kvs.getD i (0,.non)=qv:=by rw [zpf,e1];rfl
   show some (Value.int qv.1 t)=some (Value.int (kvs.getD i (0,V.non)).1 t);rw [this]
  have nd:=zjr rel (let ⟨_,_,_,_,_,_,_,_,z⟩:=dd;z);refine wpAny_bind (wpAny_holding (wpAny_call_entry slot_list_sort ⟨_,hB,rfl⟩ entry_list_sort (zou (s:={ s with heap:=h'.push { cls:=.type "list",data:=.seq (as.map Value.ref).toArray },toks:=tk }) hB (by rw [zox,hal];exact h64) hT
   (fun i j hi hj ne=>zmJ nd (by rw [zox,hal] at hi;exact hi) (by rw [zox,hal] at hj;exact hj) ne) fun p h2 c hp hs hkeep hB2=>⟨_,rfl,?_⟩) (args_list_sort _)))
  rw [zox,hal] at hp hs;refine wpAny_pure ⟨_,rfl,?_⟩;have hA0:zbq (fun (_:Addr) (_:Int × V)=>True) as kvs:=⟨hal,fun _ _ _ _ _=>trivial⟩;have keep2:∀ b o,b≠h'.objs.size->h'.get? b=some o->h2.get? b=some o:=fun b o hb e=>hkeep b o hb (zoK _ e)
  have noneB:s.heap.get? h'.objs.size=none:=by
   cases e:s.heap.get? h'.objs.size with
   | none=>rfl
   | some o=>exact absurd (zoY (hk _ _ e)) (Nat.lt_irrefl _)
  have noneA:∀ a∈as,s.heap.get? a=none:=fun a ha=>Heap.get?_none_of_le (Nat.le_of_lt (hG.above a ha))
  generalize hbs:(p.map fun i=>as.getD i 0)=bs;obtain⟨s1,s2,_,s4⟩:=zdh hp hA0 (fun i=>rfl) hs;rw [s4,hbs] at hB2;generalize hL:((h'.objs.size,HO.lst (bs.map V.ref))::as.zip (kvs.map tI))=L;have zkeys:(as.zip (kvs.map tI)).map (·.1)=as:=by
   rw [← List.unzip_fst,List.unzip_zip (by rw [zox,hal])]
  have Lnone:∀ p∈L,s.heap.get? p.1=none:=fun p hpL=>by
   rw [← hL] at hpL;rcases zpg.1 hpL with rfl | hpL
   ·exact noneB
   ·exact noneA _ (by rw [← zkeys];exact zoP.2 ⟨p,hpL,rfl⟩)
  have Lnd:(L.map (·.1)).Nodup:=by
   rw [← hL,zo0,zkeys,List.nodup_cons];exact⟨fun z=>hasB _ z rfl,hG.rise.imp fun h=>zph h⟩
  have S:Sub H (ovr H L):=zls fun p hpL=>I.noneAt (Lnone p hpL)
  have atA:∀ i a qv,as[i]?=some a->kvs[i]?=some qv->ovr H L a=some (tI qv):=fun i a qv ha hq=>by
   refine zkw Lnd ?_;rw [← hL];refine zoQ _ ?_;refine zoC (i:=i) ?_;rw [List.getElem?_zip_eq_some];exact⟨ha,by rw [zoy,hq];rfl⟩
  have hA1:zbq (fun b qv=>ovr H L b=some (tI qv)) as kvs:=⟨hal,fun i a qv ha hq=>atA i a qv ha hq⟩;obtain⟨_,_,s3,_⟩:=zdh hp hA1 (fun i=>rfl) hs;rw [hbs] at s3;have bsl:bs.length=kvs.length:=by rw [← hbs,zox,hp.length_eq,List.length_range]
  have bsin:∀ b∈bs,b∈as:=fun b hb=>by
   rw [← hbs] at hb;obtain⟨i,hi,rfl⟩:=zoP.1 hb;have hja:i<as.length:=by rw [hal];exact List.mem_range.1 (hp.mem_iff.1 hi)
   rw [show as.getD i 0=as[i] by simp [hja]];exact List.getElem_mem hja
  refine⟨.ref h'.objs.size,ovr H L,I.more (fun b u e=>keep2 b u (fun z=>by rw [z,noneB] at e;cases e) (hk b u e)) S (fun a o ho hn=>?_),rfl,q _ bs _ _ S s1 s2 s3 ?_ (I.noneAt noneB) fun b hb=>I.noneAt (noneA b (bsin b hb))⟩
  ·have hm:=zlr ho hn;refine⟨Lnone _ hm,?_⟩;rw [← hL] at hm;rcases zpg.1 hm with e | hm
   ·cases e;exact⟨by rw [zox,bsl,sizeLine_eq];omega,bs.map Value.ref,c,zg3 bs,hB2⟩
   ·obtain⟨i,hi⟩:=List.mem_iff_getElem?.1 hm;rw [List.getElem?_zip_eq_some] at hi;obtain⟨ha,hq⟩:=hi;rw [zoy] at hq;obtain⟨qv,hqv,rfl⟩:=zoA.1 hq;obtain⟨qv',t,x,e1,e2,e3⟩:=tup i a ha;rw [hqv] at e1;cases e1;exact⟨by show 2<=sizeLine;decide,[.int qv.1 t,x],.cons ⟨t,rfl⟩ (.cons e2 .nil),⟨_,keep2 a _ (hasB a (zoC ha)) e3,rfl,_,rfl,rfl⟩⟩
  ·refine zkw Lnd ?_;rw [← hL];exact zo6
 ·exact h.elim
theorem zi0 {as:List Addr} {us:List Value} (r:zaU (as.map V.ref) us):us=as.map Value.ref:=by
 induction as generalizing us with
 | nil=>cases r;rfl
 | cons a as ih =>
  cases r with
  | cons h t=>cases h;rw [ih t];rfl
end
end L2
end
section
namespace L2
open PySem PySem.Spec PyProof.Rows PySem.W
section
variable {X:Cx} {pins:List (Addr × Obj)} {σ:St} {H:Hp} {s:Shared}
end
section
variable {X:Cx}
end
end L2
end
section
namespace PySem
open Sem (wp)
section
variable {prog:Program} {w:World} {A:Around} {E:Value->Shared->Prop} {h:Heap} {g:Array GenState} {d:Drawn} {t:Nat} {os:OsState} {a:Addr} {o:Obj} {its:Array Value} {n:Nat}
end
end PySem
end
section
namespace L2
open PySem PySem.Spec PyProof.Rows PySem.W
section
variable {prog:Program} {w:World} {K:Type} [DecidableEq K] {knd:PySem.KeyKind prog w K} {A:Around} {s:Shared} {R:Result->Shared->Prop}
end
section
variable {X:Cx}
end
end L2
end
section
namespace PySem
end PySem
namespace L2
open PySem PySem.Spec PyProof.Rows PySem.W HT
section
variable {prog:Program} {w:World} {A:Around} {E:Value->Shared->Prop} {s:Shared}
end
section
variable {X:Cx} {K:PySem.W.Frag}
end
theorem zbr.noE {P:Program} {w:World} {K:PySem.W.Frag} {mg:Str->Option Value} {base:Heap} {k:Nat} {f:Addr} {fd:FuncData} {ps:List Str} {sp:Sp} (F:zbr P w K mg base (CXE P w) k f fd ps sp) :
  zbr P w K mg base CX0 k f fd ps (fun vs H Q _=>sp vs H Q fun _ _ _=>False) :=
 ⟨fun vs H Q _ h=>F.len vs H Q _ h,fun A outer s H args us vs Q E hr he hb hv hs=>codeAny_mono (F.run A outer s H args us vs Q (fun _ _ _=>False) hr he hb hv hs) fun r s' hq=>by
  cases r with
  | ok fl=>cases fl <;> exact hq
  | error e =>
   obtain⟨x,C,B,hr,a0,H',_,_,_,_,_,_,_,_,_,_,z⟩:=hq;exact z.elim⟩
end L2
end
section
namespace L2
open PySem PySem.Spec PyProof.Rows PySem.W
abbrev Mk2:=List (Int × Int)
abbrev iv (ks:Mk2):List (Int × V):=ks.map fun q=>(q.1,V.int q.2)
def zbs (ks:Mk2) (k:Int):Option Int:=(ks.find? fun q=>decide (q.1=k)).map (·.2)
def zeX (ks:Mk2) (k s:Int):Mk2:=if (ks.any fun q=>decide (q.1=k))=true then ks.map (fun q=>if q.1=k then (q.1,s) else q) else ks++[(k,s)]
def zdz (ks:Mk2) (k:Int):Mk2:=ks.filter fun q=>decide (q.1≠k)
def nxt (ks:Mk2) (p s:Int):Mk2:=if s=0 then zdz ks p else zeX ks p s
theorem zi5 (k:Int):∀ ks:Mk2,zdi (dcI (iv ks)) (.inl k)=(zbs ks k).map V.int
 | []=>rfl
 | q::ks=>by
  by_cases e:q.1=k
  ·rw [show dcI (iv (q::ks))=((.inl q.1:Key),V.int q.2)::dcI (iv ks) from rfl,za6 (by rw [e])];simp [zbs,List.find?_cons,e]
  ·rw [show dcI (iv (q::ks))=((.inl q.1:Key),V.int q.2)::dcI (iv ks) from rfl,za5 (by intro z;exact e (Sum.inl.inj z)),zi5 k ks];simp [zbs,List.find?_cons,e]
theorem znG (k:Int) (ks:Mk2):((dcI (iv ks)).any fun kv=>decide (kv.1=(.inl k:Key)))=ks.any fun q=>decide (q.1=k):=by
 rw [List.any_map,List.any_map]
 congr 1
 funext q
 simp [Function.comp]
theorem zkJ (k s:Int) (ks:Mk2):zfA (dcI (iv ks)) (.inl k) (.int s)=dcI (iv (zeX ks k s)):=by
 unfold zfA zeX;rw [znG];by_cases h:(ks.any fun q=>decide (q.1=k))=true
 ·rw [zpc h,zpc h];show _=List.map _ (List.map _ (List.map _ ks));rw [zoZ,zoZ,zoZ,zoZ];refine zpm fun q _=>?_
  by_cases e:q.1=k <;> simp [e]
 ·rw [zpb h,zpb h];show _=List.map _ (List.map _ (ks++[(k,s)]));rw [zoF,zoF]
  rfl
theorem zl9 (k:Int) (ks:Mk2):zf0 (dcI (iv ks)) (.inl k)=dcI (iv (zdz ks k)):=by
 unfold zf0 zdz;rw [List.filter_map,List.filter_map,zoZ];show _=List.map _ (List.map _ (ks.filter _));rw [zoZ]
 congr 1
 refine List.filter_congr fun q _=>?_
 simp [Function.comp]
theorem zhQ {ks:Mk2} {k:Int} (h:zbs ks k=none):zdz ks k=ks:=by
 unfold zdz;refine List.filter_eq_self.2 fun q hq=>?_
 unfold zbs at h;rw [Option.map_eq_none_iff,List.find?_eq_none] at h;simpa using h q hq
theorem ziC {ks:Mk2} {k s:Int} {q:Int × Int} (h:q∈zeX ks k s):q=(k,s)\/q∈ks:=by
 unfold zeX at h;split at h
 ·obtain⟨r,hr,rfl⟩:=zoP.1 h;by_cases e:r.1=k
  ·rw [zpc e,e];exact .inl rfl
  ·rw [zpb e];exact .inr hr
 ·rcases zoI.1 h with h | h
  ·exact .inr h
  ·exact .inl (zoG.1 h)
theorem zgt {ks:Mk2} {k:Int} {q:Int × Int} (h:q∈zdz ks k):q∈ks:=(zoR.1 h).1
theorem zgL (ks:Mk2) (k s:Int):((ks.any fun q=>decide (q.1=k))=true->(zeX ks k s).map (·.1)=ks.map (·.1))/\((ks.any fun q=>decide (q.1=k))=false->(zeX ks k s).map (·.1)=ks.map (·.1)++[k]):=by
 refine⟨fun h=>?_,fun h=>?_⟩
 ·unfold zeX;rw [zpc h,zoZ];refine zpm fun q _=>?_
  by_cases e:q.1=k <;> simp [e]
 ·unfold zeX;rw [zpb (by rw [h];simp),zoF]
  rfl
theorem ziD {ks:Mk2} {k s:Int} (nd:(ks.map (·.1)).Nodup):((zeX ks k s).map (·.1)).Nodup:=by
 cases h:ks.any fun q=>decide (q.1=k) with
 | true=>rw [(zgL ks k s).1 h];exact nd
 | false =>
  rw [(zgL ks k s).2 h,List.nodup_append];refine⟨nd,by simp,fun a ha b hb=>?_⟩;rw [zoG.1 hb];rintro rfl;obtain⟨q,hq,e⟩:=zoP.1 ha;rw [List.any_eq_false] at h;exact h q hq (zoD e)
theorem zha {ks:Mk2} {k:Int} (nd:(ks.map (·.1)).Nodup):((zdz ks k).map (·.1)).Nodup:=nd.sublist (List.filter_sublist.map _)
theorem zii {ks:Mk2} {k s:Int} (nd:(ks.map (·.1)).Nodup):((nxt ks k s).map (·.1)).Nodup:=by
 unfold nxt;split
 ·exact zha nd
 ·exact ziD nd
theorem zlK (ks:Mk2) (k s:Int):(zeX ks k s).length<=ks.length+1:=by
 unfold zeX;split
 ·rw [zox];omega
 ·rw [zoH];exact zoN _
theorem zeO (ks:Mk2) (k s:Int):(nxt ks k s).length<=ks.length+1:=by
 unfold nxt;split
 ·exact zoM (List.length_filter_le _ _) (Nat.le_succ _)
 ·exact zlK ks k s
theorem zgI {α:Type} {R:α->α->Prop} (as:∀ a b,R a b->¬ R b a):∀ {l m:List α},l.Perm m->l.Pairwise R->m.Pairwise R->l=m
 | [],m,p,_,_=>by rw [p.nil_eq]
 | a::l,[],p,_,_=>by have:=p.length_eq;simp at this
 | a::l,b::m,p,hl,hm=>by
  rw [List.pairwise_cons] at hl hm;have e:a=b:=by
   apply Classical.byContradiction
   intro ne;have h1:a∈m:=by
    rcases zpg.1 (p.mem_iff.1 (zo6)) with z | z
    ·exact (ne z).elim
    ·exact z
   have h2:b∈l:=by
    rcases zpg.1 (p.mem_iff.2 (zo6)) with z | z
    ·exact (ne z.symm).elim
    ·exact z
   exact as _ _ (hl.1 b h2) (hm.1 a h1)
  subst e;rw [zgI as (List.Perm.cons_inv p) hl.2 hm.2]
abbrev Srt (ks:Mk2):Prop:=(ks.map (·.1)).Pairwise (·<·)
theorem zgj {ks js:Mk2} (p:ks.Perm js) (h1:Srt ks) (h2:Srt js):ks=js :=
 zgI (R:=fun a b:Int × Int=>a.1<b.1) (fun a b h h'=>by omega) p (List.pairwise_map.1 h1) (List.pairwise_map.1 h2)
theorem zcQ {ks:Mk2} (h:Srt ks):(ks.map (·.1)).Nodup:=h.imp fun z e=>by omega
theorem zlc {ps:List (Int × V)} {ks:Mk2} (p:ps.Perm (iv ks)) (h:(ps.map (·.1)).Pairwise (·<·)):∃ js:Mk2,ps=iv js/\js.Perm ks/\Srt js:=by
 let g:Int × V->Int × Int:=fun q=>(q.1,match q.2 with | .int i=>i | _=>0)
 have e:ps=iv (ps.map g):=by
  show ps=List.map _ (List.map g ps);rw [zoZ]
  conv=>lhs;rw [← List.map_id ps]
  refine zpm fun q hq=>?_
  obtain⟨r,_,rfl⟩:=zoP.1 (p.mem_iff.1 hq)
  rfl
 refine⟨ps.map g,e,?_,?_⟩
 ·have:=p.map g
  rw [zoZ] at this;have e2:ks.map (g ∘ fun q=>(q.1,V.int q.2))=ks:=by
   conv=>rhs;rw [← List.map_id ks]
   exact zpm fun q _=>rfl
  rw [e2] at this;exact this
 ·show ((ps.map g).map (·.1)).Pairwise _
  rw [zoZ];exact h
section
variable {H H':Hp} {l t:Addr} {ks:Mk2} {r p:Int}
def zdw (H:Hp) (l:Addr) (ks:Mk2):Prop:=∃ as:List Addr,H l=some (.lst (as.map V.ref))/\zbq (fun b q=>H b=some (tI q)) as (iv ks)
def SU (H:Hp) (t:Addr) (r p:Int) (ks:Mk2):Prop:=∃ l,H t=some (.tup [.int r,.int p,.ref l])/\zdw H l ks
theorem zdw.sub (S:Sub H H'):zdw H l ks->zdw H' l ks:=fun ⟨as,h1,h2⟩=>⟨as,S _ _ h1,h2.mono fun _ _ _ z=>S _ _ z⟩
theorem SU.sub (S:Sub H H'):SU H t r p ks->SU H' t r p ks:=fun ⟨l,h1,h2⟩=>⟨l,S _ _ h1,h2.sub S⟩
theorem zdw.stay (S:zdn H H'):zdw H l ks->zdw H' l ks:=fun ⟨as,h1,h2⟩=>⟨as,S.refs _ _ h1,h2.mono fun _ _ _ z=>S.tup _ _ z⟩
abbrev dP (q:Int × Int):DD:=.tup [.int q.1,.int q.2]
abbrev dL (ks:Mk2):DD:=.lst (ks.map dP)
abbrev dSu (r p:Int) (ks:Mk2):DD:=.tup [.int r,.int p,dL ks]
theorem zdw.den:zdw H l ks->Den H (.ref l) (dL ks):=fun ⟨as,h1,h2⟩=>by
 rw [dL,Den];refine⟨_,_,rfl,h1,zfZ (R:=fun b q=>H b=some (tI (q.1,V.int q.2))) (f:=dP) (fun a q z=>?_) ⟨by rw [h2.1,zox],fun i a q ha hq=>h2.2 i a _ ha (by rw [zoy,hq];rfl)⟩⟩;rw [dP,Den];refine⟨_,_,rfl,z,?_⟩;rw [zbQ];refine⟨_,_,rfl,by rw [Den],?_⟩;rw [zbQ];exact⟨_,_,rfl,by rw [Den],by rw [zbQ]⟩
theorem SU.den:SU H t r p ks->Den H (.ref t) (dSu r p ks):=fun ⟨l,h1,h2⟩=>by
 rw [dSu,Den];refine⟨_,_,rfl,h1,?_⟩;rw [zbQ];refine⟨_,_,rfl,by rw [Den],?_⟩;rw [zbQ];refine⟨_,_,rfl,by rw [Den],?_⟩;rw [zbQ];exact⟨_,_,rfl,h2.den,by rw [zbQ]⟩
end
def zjA (m:Ma) (s:Nat) (r:List En):Bool:=r.all (zaz m.length s)
theorem zjo {r0:List En} {m':Ma} (h:isM (r0::m')=true):(r0::m').length<=4/\2<=r0.length/\r0.length<=4/\∀ r∈r0::m',r.length=r0.length/\zjA (r0::m') r0.length r=true:=by
 have hd:isM (r0::m')=(decide ((r0::m').length<=4) && decide (2<=r0.length) && decide (r0.length<=4) && (r0::m').all (zd6 (r0::m').length r0.length)):=rfl;rw [hd,Bool.and_eq_true,Bool.and_eq_true,Bool.and_eq_true] at h;obtain⟨⟨⟨h1,h2⟩,h3⟩,h4⟩:=h;refine⟨zpi h1,zpi h2,zpi h3,fun r hr=>?_⟩
 have:=zoX.1 h4 r hr
 unfold zd6 at this;rw [Bool.and_eq_true] at this;exact⟨by have:=zpi this.1;omega,this.2⟩
theorem zmB {r0:List En} {m':Ma} (h1:(r0::m').length<=4) (h2:2<=r0.length) (h3:r0.length<=4) (h4:∀ r∈r0::m',r.length=r0.length/\zjA (r0::m') r0.length r=true):isM (r0::m')=true:=by
 have hd:isM (r0::m')=(decide ((r0::m').length<=4) && decide (2<=r0.length) && decide (r0.length<=4) && (r0::m').all (zd6 (r0::m').length r0.length)):=rfl;rw [hd,zoD h1,zoD h2,zoD h3];refine zoX.2 fun r hr=>?_
 unfold zd6;rw [(h4 r hr).1]
 have:=(h4 r hr).2
 unfold zjA at this;rw [this];simp
def sgn (m:Ma):Nat:=(m.headD []).length
structure OkM (m:Ma):Prop where
 n1:1<=m.length
 n4:m.length<=4
 s2:2<=sgn m
 s4:sgn m<=4
 len:∀ r∈m,r.length=sgn m
 ent:∀ r∈m,∀ e∈r,zaz m.length (sgn m) e=true
theorem OkM.of {m:Ma} (h:isM m=true):OkM m:=by
 cases m with
 | nil=>cases h
 | cons r0 m' =>
  obtain⟨h1,h2,h3,h4⟩:=zjo h;exact⟨by simp,h1,h2,h3,fun r hr=>(h4 r hr).1,fun r hr e he=>zoX.1 (h4 r hr).2 e he⟩
theorem zaH {rows signs:Int} {e:En} (h:zaz rows signs e=true) (ne:e≠[]):∃ s w r,e=[s,w,r]/\0<=s/\s<signs/\(w=-1\/w=1)/\0<=r/\r<rows:=by
 match e,h with
 | [],_=>exact (ne rfl).elim
 | [s,w,r],h =>
  have h:((decide (0<=s) && decide (s<signs)) && (decide (w=-1) || decide (w=1)) && (decide (0<=r) && decide (r<rows)))=true:=h;simp only [Bool.and_eq_true,Bool.or_eq_true,decide_eq_true_eq] at h;obtain⟨⟨⟨a,b⟩,c⟩,d,e⟩:=h;exact⟨s,w,r,rfl,a,b,c,d,e⟩
 | [_],h=>cases h
 | [_,_],h=>cases h
 | _::_::_::_::_,h=>cases h
def ent (m:Ma) (r p:Int) (ks:Mk2):Option En:=(m[r.toNat]?).bind fun es=>es[((zbs ks p).getD 0).toNat]?
structure OkS (m:Ma) (r:Int) (ks:Mk2):Prop where
 r0:0<=r
 r1:r<m.length
 sg:∀ q∈ks,0<=q.2/\q.2<sgn m
 nd:(ks.map (·.1)).Nodup
theorem znw {ks:Mk2} {k s:Int} (h:zbs ks k=some s):∃ q∈ks,q.2=s:=by
 unfold zbs at h;obtain⟨q,hq,rfl⟩:=zoA.1 h;exact⟨q,List.mem_of_find?_eq_some hq,rfl⟩
theorem OkS.val {m:Ma} {r:Int} {ks:Mk2} (M:OkM m) (h:OkS m r ks) (p:Int):0<=(zbs ks p).getD 0/\(zbs ks p).getD 0<sgn m:=by
 cases e:zbs ks p with
 | none=>have:=M.s2;simp;omega
 | some s =>
  obtain⟨q,hq,rfl⟩:=znw e;exact h.sg q hq
theorem OkS.at {m:Ma} {r:Int} {ks:Mk2} (M:OkM m) (h:OkS m r ks) (p:Int):∃ es e,m[r.toNat]?=some es/\es[((zbs ks p).getD 0).toNat]?=some e/\ent m r p ks=some e/\zaz m.length (sgn m) e=true/\es.length=sgn m:=by
 have hr:r.toNat<m.length:=by have:=h.r0;have:=h.r1;omega
 have he:m[r.toNat]?=some m[r.toNat]:=zoz hr;have hm:m[r.toNat]∈m:=List.getElem_mem hr;have hl:=M.len _ hm;have hv:=h.val M p;have hs:((zbs ks p).getD 0).toNat<m[r.toNat].length:=by rw [hl];omega
 refine⟨_,_,he,zoz hs,?_,M.ent _ hm _ (List.getElem_mem hs),hl⟩;unfold ent;rw [he,Option.bind_some,zoz hs]
theorem OkS.nxt {m:Ma} {r r' p s:Int} {ks:Mk2} (h:OkS m r ks) (h0:0<=s) (h1:s<sgn m) (h2:0<=r') (h3:r'<m.length):OkS m r' (nxt ks p s) :=
 ⟨h2,h3,fun q hq=>by
  unfold L2.nxt at hq;split at hq
  ·exact h.sg q (zgt hq)
  ·rcases ziC hq with rfl | hq
   ·exact⟨h0,h1⟩
   ·exact h.sg q hq,zii h.nd⟩
def wf (t:Addr) (r p:Int) (d:Addr):List (Str × V):=[("table",.ref t),("row",.int r),("place",.int p),("marks",.ref d)]
theorem zow (t:Addr) (r p:Int) (d:Addr):zcv "marks" (.ref d) (zcv "place" (.int p) (zcv "row" (.int r) (zcv "table" (.ref t) [])))=wf t r p d:=by
 have a1:¬ (("table":Str)="row"):=by decide +kernel
 have a2:¬ (("table":Str)="place"):=by decide +kernel
 have a3:¬ (("table":Str)="marks"):=by decide +kernel
 have a4:¬ (("row":Str)="place"):=by decide +kernel
 have a5:¬ (("row":Str)="marks"):=by decide +kernel
 have a6:¬ (("place":Str)="marks"):=by decide +kernel
 simp only [zcv,a1,a2,a3,a4,a5,a6,if_false,wf]
theorem znA (t:Addr) (r p y:Int) (d:Addr):zcv "row" (.int y) (wf t r p d)=wf t y p d:=by
 have a1:¬ (("table":Str)="row"):=by decide +kernel
 simp only [wf,zcv,a1,if_false,if_true]
theorem zj6 (t:Addr) (r p y:Int) (d:Addr):zcv "place" (.int y) (wf t r p d)=wf t r y d:=by
 have a2:¬ (("table":Str)="place"):=by decide +kernel
 have a4:¬ (("row":Str)="place"):=by decide +kernel
 simp only [wf,zcv,a2,a4,if_false,if_true]
theorem zov (t:Addr) (r p:Int) (d:Addr):(wf t r p d).lookup ("table":Str)=some (.ref t):=rfl
theorem znz (t:Addr) (r p:Int) (d:Addr):(wf t r p d).lookup ("row":Str)=some (.int r):=rfl
theorem zfa (t:Addr) (r p:Int) (d:Addr):(wf t r p d).lookup ("place":Str)=some (.int p):=rfl
theorem zj5 (t:Addr) (r p:Int) (d:Addr):(wf t r p d).lookup ("marks":Str)=some (.ref d):=rfl
theorem zkI (t:Addr) (r p:Int) (d:Addr):(wf t r p d).length<1000:=by show 4<1000;decide
structure WK (C:Addr) (H:Hp) (o t d:Addr) (r p:Int) (ks:Mk2):Prop where
 ob:∃ dx,H o=some (.ins C dx (wf t r p d))
 dc:H d=some (.dK (dcI (iv ks)))
theorem WK.sub {C:Addr} {H H':Hp} {o t d:Addr} {r p:Int} {ks:Mk2} (S:Sub H H') (h:WK C H o t d r p ks):WK C H' o t d r p ks:=⟨h.ob.imp fun _ z=>S _ _ z,S _ _ h.dc⟩
theorem zlL {ks:Mk2} {k s:Int} (h:k ∉ ks.map (·.1)):zeX ks k s=ks++[(k,s)]:=by
 unfold zeX;rw [zpb];rw [List.any_eq_true];rintro ⟨q,hq,e⟩;exact h (zoP.2 ⟨q,hq,zpi e⟩)
theorem zjZ {ks:Mk2} (nd:(ks.map (·.1)).Nodup) {i:Nat} {q:Int × Int} (h:ks[i]?=some q):zeX (ks.take i) q.1 q.2=ks.take (i+1):=by
 rw [zlL,zoU,h]
 ·rfl
 ·intro hm;rw [List.map_take] at hm;obtain⟨j,hj⟩:=List.mem_iff_getElem?.1 hm;rw [List.getElem?_take] at hj;split at hj
  ·rename_i hji;have e2:(ks.map (·.1))[i]?=some q.1:=by rw [zoy,h];rfl
   obtain⟨a1,a2⟩:=zoB.1 hj;obtain⟨b1,b2⟩:=zoB.1 e2
   have:=(List.getElem_inj nd).1 (a2.trans b2.symm)
   omega
  ·cases hj
theorem zeA (e:En):dep (dE e)<=60:=zoM zkl (by decide)
theorem zgv {e:En}:eqD (dE e) (dE [])=decide (e=[]):=by
 cases e with
 | nil=>rw [zbR];simp
 | cons x e=>show eqD (.tup (.int x::e.map DD.int)) (.tup [])=_;rw [eqD];simp [zeb]
abbrev St3:=Int × Int × Mk2
theorem zeI {c:Prop} [Decidable c] {p q:Prop} (hc:c) (h:p):if decide c=true then p else q:=by rw [zpc (zoD hc)];exact h
theorem zeH {c:Prop} [Decidable c] {p q:Prop} (hc:¬ c) (h:q):if decide c=true then p else q:=by rw [zpb (by simpa using hc)];exact h
theorem zdn.trans {A B C:Hp} (h:zdn A B) (h':zdn B C):zdn A C:=⟨fun a xs e=>h'.tup _ _ (h.tup _ _ e),fun a as e=>h'.refs _ _ (h.refs _ _ e)⟩
end L2
end
section
namespace L2
open PySem PySem.Spec PyProof.Rows PySem.W
section
variable {X:Cx} {pos:Pos}
def zon (te:TE) (g1 g2:TG):TS:=fun D σ H=>te σ H fun x H1=>g1 x σ H1 fun σ1 H2=>g2 x σ1 H2 D.nx
theorem zix {t1 t2 e:Expr} {te:TE} {g1 g2:TG} (he:PE X e te) (h1:PG X t1 g1) (h2:PG X t2 g2) (ha:(assignEach [t1,t2] X.env).map (·.2)=[assign t1 X.env,assign t2 X.env]:=by rfl) (hw:swappedStores [t1,t2] e X.env=pure none:=by rfl) :
  PS X (.Assign [t1,t2] e pos) (zon te g1 g2):=by
 intro pins s σ H D I h;refine wpAny_Assign_two (thn (he pins s σ H _ I h) fun v s1 ⟨x,H1,I1,r1,q1⟩=>?_) ha hw;refine thn (h1 pins s1 σ H1 x v _ I1 r1 q1) fun _ s2 ⟨σ2,H2,I2,q2⟩=>?_
 exact thn (h2 pins s2 σ2 H2 x v _ I2 r1 q2) fun _ s3 q=>q
def zmk:List V->Hp->VK->Prop:=fun xs H Q=>match xs with | [.int i,.int j]=>∀ m,m=(if j<i then j else i)->Q (.int m) H | _=>False
def zmj:List V->Hp->VK->Prop:=fun xs H Q=>match xs with | [.int i,.int j]=>∀ m,m=(if i<j then j else i)->Q (.int m) H | _=>False
theorem zkB (hc:X.calm=true):zbu X (.builtin "min") zmk:=(zhI hc).imp fun xs H Q h=>by
 unfold zmk at h;split at h
 ·exact⟨_,_,rfl,h _ rfl⟩
 ·exact h.elim
theorem zkA (hc:X.calm=true):zbu X (.builtin "max") zmj:=(zhH hc).imp fun xs H Q h=>by
 unfold zmj at h;split at h
 ·exact⟨_,_,rfl,h _ rfl⟩
 ·exact h.elim
end
def stN (m:Ma) (x:St3):Option St3:=match ent m x.1 x.2.1 x.2.2 with
 | some [s,w,r]=>some (r,x.2.1+w,nxt x.2.2 x.2.1 s)
 | _=>none
def tr (m:Ma):Nat->St3->List St3
 | 0,x=>[x]
 | k+1,x=>x::(match stN m x with | some y=>tr m k y | none=>[])
theorem za7 {m:Ma} {k:Nat} {x y:St3} (h:stN m x=some y):tr m (k+1) x=x::tr m k y:=by show x::_=_;rw [h]
theorem zbm {m:Ma} {k:Nat} {x:St3} (h:stN m x=none):tr m k x=[x]:=by
 cases k with
 | zero=>rfl
 | succ k=>show x::_=_;rw [h]
theorem zfP (m:Ma):∀ (k:Nat) (x:St3),(tr m k x).length<=k+1
 | 0,x=>zoN _
 | k+1,x=>by
  cases h:stN m x with
  | none=>rw [zbm h];simp
  | some y=>rw [za7 h,zpa];have:=zfP m k y;omega
theorem zj0 (m:Ma) (k:Nat) (x:St3):tr m k x≠[]:=by
 cases k with
 | zero=>simp [tr]
 | succ k=>simp [tr]
structure At (m:Ma) (N:Nat) (x0:St3) (sts:List St3) (x:St3):Prop where
 pre:∃ l,sts=l++[x]/\l.length<=N/\tr m N x0=l++tr m (N-l.length) x
theorem At.start {m:Ma} {N:Nat} {x0:St3}:At m N x0 [x0] x0:=⟨[],rfl,Nat.zero_le _,rfl⟩
theorem At.step {m:Ma} {N:Nat} {x0 x y:St3} {sts:List St3} (h:At m N x0 sts x) (hs:stN m x=some y) (hl:sts.length<=N):At m N x0 (sts++[y]) y:=by
 obtain⟨l,rfl,h1,h2⟩:=h.pre;rw [zoH] at hl;have hl:l.length+1<=N:=hl;refine⟨l++[x],rfl,by rw [zoH];exact hl,?_⟩;rw [h2,show N-l.length=(N-(l.length+1))+1 by omega,za7 hs,zoH];simp
theorem At.done {m:Ma} {N:Nat} {x0 x:St3} {sts:List St3} (h:At m N x0 sts x) (hs:stN m x=none\/N<sts.length):sts=tr m N x0:=by
 obtain⟨l,rfl,h1,h2⟩:=h.pre;rcases hs with hs | hs
 ·rw [h2,zbm hs]
 ·rw [zoH] at hs;have hs:N<l.length+1:=hs;rw [h2,show N-l.length=0 by omega]
  rfl
theorem At.len {m:Ma} {N:Nat} {x0 x:St3} {sts:List St3} (h:At m N x0 sts x):sts.length<=N+1/\1<=sts.length:=by
 obtain⟨l,rfl,h1,h2⟩:=h.pre;rw [zoH];exact⟨Nat.succ_le_succ h1,by simp⟩
theorem ziQ {m:Ma} {x:St3} {s w r:Int} (h:ent m x.1 x.2.1 x.2.2=some [s,w,r]):stN m x=some (r,x.2.1+w,nxt x.2.2 x.2.1 s):=by unfold stN;rw [h]
theorem zg0 {m:Ma} {x:St3} (h:ent m x.1 x.2.1 x.2.2=some []):stN m x=none:=by unfold stN;rw [h]
theorem zlM (ks:Mk2) (p s:Int):zbs (zeX ks p s) p=some s:=by
 have h:=zj1 (dcI (iv ks)) (.inl p) (.inl p) (.int s);rw [zkJ,zi5,zpc rfl] at h;cases e:zbs (zeX ks p s) p with
 | none=>rw [e] at h;cases h
 | some z=>rw [e] at h;cases h;rfl
abbrev dT (x:St3):DD:=dSu x.1 x.2.1 x.2.2
theorem zjb {xs:List St3}:dep (.lst (xs.map dT))<=60:=by
 have h:∀ x:St3,dep (dT x)<=4:=fun x=>by
  have h1:∀ q,dep (dP q)<=1:=fun q=>by
   rw [dP,dep]
   have:depL [DD.int q.1,DD.int q.2]<=0:=zaT fun d hd=>by
    rcases zpg.1 hd with rfl | hd
    ·exact zoN 0
    ·rw [zoG.1 hd];exact zoN 0
   omega
  have h2:dep (dL x.2.2)<=2:=by
   rw [dL,dep]
   have:depL (x.2.2.map dP)<=1:=zaT fun d hd=>by
    obtain⟨q,_,rfl⟩:=zoP.1 hd;exact h1 q
   omega
  rw [dT,dSu,dep]
  have:depL [DD.int x.1,DD.int x.2.1,dL x.2.2]<=2:=zaT fun d hd=>by
   rcases zpg.1 hd with rfl | hd
   ·exact Nat.zero_le _
   ·rcases zpg.1 hd with rfl | hd
    ·exact Nat.zero_le _
    ·rw [zoG.1 hd];exact h2
  omega
 rw [dep]
 have:depL (xs.map dT)<=4:=zaT fun d hd=>by
  obtain⟨x,_,rfl⟩:=zoP.1 hd;exact h x
 omega
def zfS (ys xs:List St3):Prop:=ys.length=xs.length/\∀ (i:Nat) (y x:St3),ys[i]?=some y->xs[i]?=some x->y.1=x.1/\y.2.1=x.2.1/\y.2.2.Perm x.2.2/\Srt y.2.2
theorem zfS.nil:zfS [] []:=⟨rfl,fun i y x h=>by simp at h⟩
theorem zfS.app {ys xs:List St3} {y x:St3} (h:zfS ys xs) (h1:y.1=x.1) (h2:y.2.1=x.2.1) (h3:y.2.2.Perm x.2.2) (h4:Srt y.2.2):zfS (ys++[y]) (xs++[x]):=by
 refine⟨by simp [h.1],fun i u v hu hv=>?_⟩;by_cases hi:i<ys.length
 ·rw [zo2 hi] at hu;rw [zo2 (h.1 ▸ hi)] at hv;exact h.2 i u v hu hv
 ·have e:i=ys.length:=by
   have:=(zoB.1 hu).1
   simp at this;omega
  subst e;rw [zo3 (zoN _),Nat.sub_self] at hu;rw [h.1,zo3 (zoN _),Nat.sub_self] at hv;cases hu;cases hv;exact⟨h1,h2,h3,h4⟩
theorem zdt {m:Ma}:∀ (k:Nat) (x y:St3),y∈tr m k x->y.2.2.length<=x.2.2.length+k
 | 0,x,y,h=>by rw [zoG.1 h];omega
 | k+1,x,y,h=>by
  cases hs:stN m x with
  | none=>rw [zbm hs] at h;rw [zoG.1 h];omega
  | some z =>
   rw [za7 hs] at h;rcases zpg.1 h with rfl | h
   ·omega
   ·have h1:=zdt k z y h;have h2:z.2.2.length<=x.2.2.length+1:=by
     unfold stN at hs;split at hs
     ·cases hs;exact zeO _ _ _
     ·cases hs
    omega
def SZ (H:Hp) (q:Addr) (z:Addr × St3):Prop:=H q=some (.tup [.int z.2.1,.int z.2.2.1,.ref z.1])/\zdw H z.1 z.2.2.2
theorem SZ.sub {H H':Hp} {q:Addr} {z:Addr × St3} (S:Sub H H') (h:SZ H q z):SZ H' q z:=⟨S _ _ h.1,h.2.sub S⟩
theorem SZ.den {H:Hp} {q:Addr} {z:Addr × St3} (h:SZ H q z):Den H (.ref q) (dT z.2):=SU.den ⟨z.1,h.1,h.2⟩
theorem SZ.lst {H:Hp} {q f:Addr} {z:Addr × St3} {us vs:List V} (hf:H f=some (.lst us)) (ne:z.1≠f) (h:SZ H q z):SZ (upd H f (.lst vs)) q z:=by
 obtain⟨h1,as,h2,h3⟩:=h;refine⟨by rw [zao (fun e=>by rw [e,hf] at h1;cases h1)];exact h1,as,by rw [zao ne];exact h2,h3.mono fun b q _ e=>?_⟩;rw [zao (fun e'=>by rw [e',hf] at e;cases e)];exact e
def zdZ (lo:Int) (ns:List Int):Prop:=lo∈ns/\∀ n∈ns,lo<=n
def zdY (hi:Int) (ns:List Int):Prop:=hi∈ns/\∀ n∈ns,n<=hi
theorem zdZ.one {a b:Int} {ns:List Int} (h:zdZ a ns) (h':zdZ b ns):a=b:=by have:=h.2 b h'.1;have:=h'.2 a h.1;omega
theorem zdY.one {a b:Int} {ns:List Int} (h:zdY a ns) (h':zdY b ns):a=b:=by have:=h.2 b h'.1;have:=h'.2 a h.1;omega
theorem zdZ.app {a p:Int} {ns:List Int} (h:zdZ a ns):zdZ (if p<a then p else a) (ns++[p]):=by
 refine⟨?_,fun n hn=>?_⟩
 ·split
  ·simp
  ·exact zo4 _ h.1
 ·rcases zoI.1 hn with hn | hn
  ·have:=h.2 n hn;split <;> omega
  ·rw [zoG.1 hn];split <;> omega
theorem zdY.app {a p:Int} {ns:List Int} (h:zdY a ns):zdY (if a<p then p else a) (ns++[p]):=by
 refine⟨?_,fun n hn=>?_⟩
 ·split
  ·simp
  ·exact zo4 _ h.1
 ·rcases zoI.1 hn with hn | hn
  ·have:=h.2 n hn;split <;> omega
  ·rw [zoG.1 hn];split <;> omega
theorem zdn.two {C:Addr} {H H':Hp} {o t d:Addr} {r p:Int} {ks:Mk2} (W:WK C H o t d r p ks) (k:∀ c u,H c=some u->c≠o->c≠d->H' c=some u):zdn H H':=by
 obtain⟨⟨dx,ho⟩,hd⟩:=W;exact⟨fun a xs e=>k a _ e (fun z=>by rw [z,ho] at e;cases e) (fun z=>by rw [z,hd] at e;cases e),fun a as e=>k a _ e (fun z=>by rw [z,ho] at e;cases e) (fun z=>by rw [z,hd] at e;cases e)⟩
theorem SZ.stay {H H':Hp} {q:Addr} {z:Addr × St3} (S:zdn H H') (h:SZ H q z):SZ H' q z:=⟨S.tup _ _ h.1,h.2.stay S⟩
theorem zbq.monoM {α:Type} {R S:Addr->α->Prop} {as:List Addr} {xs:List α} (h:zbq R as xs) (i:∀ a x,a∈as->x∈xs->R a x->S a x):zbq S as xs:=⟨h.1,fun k a x ha hx=>i a x (zoC ha) (zoC hx) (h.2 k a x ha hx)⟩
theorem At.last {m:Ma} {N:Nat} {x0 x:St3} {sts:List St3} (h:At m N x0 sts x):sts.getLast?=some x:=by
 obtain⟨l,rfl,_⟩:=h.pre;simp
theorem ziT {m:Ma}:∀ (k:Nat) (x y:St3),(tr m k x).getLast?=some y->stN m y≠none->(tr m k x).length=k+1
 | 0,x,y,_,_=>rfl
 | k+1,x,y,h,hn=>by
  cases hs:stN m x with
  | none =>
   rw [zbm hs] at h;cases h;exact (hn hs).elim
  | some z =>
   rw [za7 hs] at h ⊢;have h2:=ziT k z y (by
    have ne:=zj0 m k z
    revert h ne
    cases tr m k z with
    | nil=>intro _ ne;exact (ne rfl).elim
    | cons u r=>intro h _;rw [List.getLast?_cons_cons] at h;exact h) hn
   rw [zpa,h2]
def wd (m:Ma) (x:St3):Str:=if ent m x.1 x.2.1 x.2.2=some [] then "ends" else "on"
def RU (H:Hp) (q:Addr) (w:Str) (n:Int) (z:Addr × St3):Prop:=∃ s,H q=some (.tup [.str w,.int n,.ref s])/\SZ H s z
abbrev dRu (w:Str) (n:Int) (x:St3):DD:=.tup [.str w,.int n,dT x]
theorem zkX {w:Str} {n:Int} {x:St3}:dep (dRu w n x)<=60:=by
 have h4:dep (dT x)<=50:=by
  have h1:∀ q,dep (dP q)<=1:=fun q=>by
   rw [dP,dep]
   have:depL [DD.int q.1,DD.int q.2]<=0:=zaT fun d hd=>by
    rcases zpg.1 hd with rfl | hd
    ·exact zoN 0
    ·rw [zoG.1 hd];exact zoN 0
   omega
  have h2:dep (dL x.2.2)<=2:=by
   rw [dL,dep]
   have:depL (x.2.2.map dP)<=1:=zaT fun d hd=>by
    obtain⟨q,_,rfl⟩:=zoP.1 hd;exact h1 q
   omega
  rw [dT,dSu,dep]
  have:depL [DD.int x.1,DD.int x.2.1,dL x.2.2]<=2:=zaT fun d hd=>by
   rcases zpg.1 hd with rfl | hd
   ·exact Nat.zero_le _
   ·rcases zpg.1 hd with rfl | hd
    ·exact Nat.zero_le _
    ·rw [zoG.1 hd];exact h2
  omega
 rw [dRu,dep]
 have:depL [DD.str w,DD.int n,dT x]<=50:=zaT fun d hd=>by
  rcases zpg.1 hd with rfl | hd
  ·exact Nat.zero_le _
  ·rcases zpg.1 hd with rfl | hd
   ·exact Nat.zero_le _
   ·rw [zoG.1 hd];exact h4
 omega
end L2
end
section
namespace L2
open PySem PySem.Spec PyProof.Rows PySem.W
section
variable {X:Cx}
end
end L2
end
section
namespace L2
open PySem PySem.Spec PyProof.Rows PySem.W
theorem zcg {ks:Mk2} (nd:(ks.map (·.1)).Nodup) {k s:Int}:zbs ks k=some s↔(k,s)∈ks:=by
 induction ks with
 | nil=>simp [zbs]
 | cons q ks ih =>
  rw [zo0,List.nodup_cons] at nd;have ih:=ih nd.2;unfold zbs at ih ⊢;by_cases e:q.1=k
  ·rw [List.find?_cons_of_pos (by simpa using e),Option.map_some,zpg]
   constructor
   ·intro h;cases h;exact .inl (Prod.ext e.symm rfl)
   ·rintro (h | h)
    ·rw [← h]
    ·exact (nd.1 (zoP.2 ⟨_,h,e.symm⟩)).elim
  ·rw [List.find?_cons_of_neg (by simpa using e),ih,zpg]
   constructor
   ·exact .inr
   ·rintro (h | h)
    ·rw [← h] at e;exact (e rfl).elim
    ·exact h
theorem ze9 {ks js:Mk2} (p:js.Perm ks) (nd:(ks.map (·.1)).Nodup) (k:Int):zbs js k=zbs ks k:=by
 have nd':(js.map (·.1)).Nodup:=(p.map _).nodup_iff.2 nd
 cases e:zbs ks k with
 | some s=>rw [zcg nd'] ;exact p.mem_iff.2 ((zcg nd).1 e)
 | none =>
  cases e':zbs js k with
  | none=>rfl
  | some s=>rw [zcg nd',p.mem_iff,← zcg nd,e] at e';cases e'
theorem zjf {m:Ma} {r p:Int} {ks js:Mk2} (h:js.Perm ks) (nd:(ks.map (·.1)).Nodup):ent m r p js=ent m r p ks:=by
 unfold ent;rw [ze9 h nd]
theorem OkS.next {m:Ma} {x y:St3} (M:OkM m) (h:OkS m x.1 x.2.2) (hs:stN m x=some y):OkS m y.1 y.2.2:=by
 obtain⟨es,e,_,_,h3,h4,_⟩:=h.at M x.2.1;unfold stN at hs;rw [h3] at hs;by_cases z:e=[]
 ·subst z;cases hs
 ·obtain⟨s',w',r',rfl,a0,a1,a2,a3,a4⟩:=zaH h4 z;cases hs;exact h.nxt a0 a1 a3 a4
theorem zcf {m:Ma} (M:OkM m):∀ (k:Nat) (x:St3),OkS m x.1 x.2.2->∀ y∈tr m k x,OkS m y.1 y.2.2
 | 0,x,h,y,hy=>by rw [zoG.1 hy];exact h
 | k+1,x,h,y,hy=>by
  cases hs:stN m x with
  | none=>rw [zbm hs] at hy;rw [zoG.1 hy];exact h
  | some z =>
   rw [za7 hs] at hy;rcases zpg.1 hy with rfl | hy
   ·exact h
   ·exact zcf M k z (h.next M hs) y hy
theorem OkM.start {m:Ma} (M:OkM m):OkS m 0 []:=⟨by decide,by have:=M.n1;omega,by simp,by simp⟩
theorem ziU (m:Ma) (k:Nat) (x:St3):(tr m k x)[0]?=some x:=by cases k <;> rfl
theorem ziV {m:Ma}:∀ (k:Nat) (x:St3) (i:Nat) (u v:St3),(tr m k x)[i]?=some u->(tr m k x)[i+1]?=some v->stN m u=some v
 | 0,x,i,u,v,h1,h2=>by simp [tr] at h2
 | k+1,x,i,u,v,h1,h2=>by
  cases hs:stN m x with
  | none=>rw [zbm hs] at h2;simp at h2
  | some z =>
   rw [za7 hs] at h1 h2;cases i with
   | zero =>
    rw [List.getElem?_cons_zero] at h1;rw [List.getElem?_cons_succ,ziU] at h2;cases h1;cases h2;exact hs
   | succ i =>
    rw [List.getElem?_cons_succ] at h1 h2;exact ziV k z i u v h1 h2
section
variable {X:Cx} {K:PySem.W.Frag}
def zkR (K:PySem.W.Frag):List V->Hp->VK->Prop:=fun xs H Q=>match xs with | [.ref a]=>∃ ys,SqL K H a ys/\∀ p,H p=none->Q (.ref p) (upd H p (.tup ys)) | _=>False
theorem znh:zbu X (.type "tuple") (zkR X.K):=zew.imp fun xs H Q h=>by
 unfold zkR at h;split at h
 ·obtain⟨ys,h1,h2⟩:=h;exact⟨_,ys,rfl,.inl ⟨h1,h2⟩⟩
 ·exact h.elim
theorem ziG (hK:X.K=K):zbu X (.type "tuple") (zkR K):=hK ▸ znh
end
theorem zfS.at {ys xs:List St3} (h:zfS ys xs) {i:Nat} {y:St3} (hy:ys[i]?=some y):∃ x,xs[i]?=some x/\y.1=x.1/\y.2.1=x.2.1/\y.2.2.Perm x.2.2/\Srt y.2.2:=by
 have hi:i<xs.length:=by rw [← h.1];exact (zoB.1 hy).1
 exact⟨xs[i],zoz hi,h.2 i _ _ hy (zoz hi)⟩
end L2
end
section
namespace L2
open PySem PySem.Spec PyProof.Rows PySem.W
section
variable {X:Cx}
def znT (ta:TA):TI:=fun σ H R=>ta σ H fun vs H1=>match vs with | [.int i,.int j]=>(-(2 ^ 62)<=i/\i<2 ^ 62/\-(2 ^ 62)<=j/\j<2 ^ 62)/\R (Itr i (j-i).toNat) H1 | _=>False
theorem zfB {tg a b:Expr} {ta:TA} {p pos:Pos} (hg:Gl X "range") (hm:X.mg "range"=none) (ha:PA X [a,b] ta) (hs:starEach [a,b] X.env=[(false,eval a X.env),(false,eval b X.env)]:=by rfl) (hs2:starEach [b] X.env=[(false,eval b X.env)]:=by rfl) :
  PI X tg (.Call (.Name "range" p) [a,b] [] pos) (znT ta):=by
 intro pins s σ H R I h;have step:∀ (vs:List V) (us:List Value) (H1:Hp) (s1:Shared),Inv X pins σ H1 s1->zaU vs us->(match vs with | [.int i,.int j]=>(-(2 ^ 62)<=i/\i<2 ^ 62/\-(2 ^ 62)<=j/\j<2 ^ 62)/\R (Itr i (j-i).toNat) H1 | _=>False)->∃ (i j:Int) (t t':Tok),us=[.int i t,.int j t']/\(-(2 ^ 62)<=i/\i<2 ^ 62/\-(2 ^ 62)<=j/\j<2 ^ 62)/\R (Itr i (j-i).toNat) H1:=by
  intro vs us H1 s1 I1 r1 q1;split at q1
  ·cases r1 with
   | cons r rr=>cases rr with
    | cons r' rr =>
     cases rr;obtain⟨t,rfl⟩:=r;obtain⟨t',rfl⟩:=r';exact⟨_,_,t,t',rfl,q1⟩
  ·exact q1.elim
 refine Call_ (zeh I hg hm boot_range (PyProof.Rows.callWith_type1 (thn (ha pos pins s σ H _ I h) fun us s1 ⟨vs,H1,I1,r1,q1⟩=>?_) (by rw [hs,hs2]) (by rw [hs2];rfl)));obtain⟨i,j,t,t',rfl,⟨q1,q2,q3,q4⟩,q⟩:=step vs us H1 s1 I1 r1 q1;exact call_range_2 (zgP I1 q1 q2 q3 q4 q)
end
def eqM (ks js:Mk2):Bool:=(ks.length == js.length) && ks.all fun q=>decide (zbs js q.1=some q.2)
abbrev eqS (x y:St3):Bool:=decide (x.1=y.1) && (decide (x.2.1=y.2.1) && eqM x.2.2 y.2.2)
section
variable {X:Cx} {pins:List (Addr × Obj)} {σ:St} {H:Hp} {s:Shared}
open PySem.SeqAt
end
theorem zfn:∀ e e':List Int,zeb (e.map DD.int) (e'.map DD.int)=decide (e=e')
 | [],[]=>rfl
 | [],_::_=>rfl
 | _::_,[]=>rfl
 | i::e,j::e'=>by
  show (i == j && zeb (e.map DD.int) (e'.map DD.int))=_;rw [zfn e e'];by_cases c:i=j
  ·subst c;by_cases d:e=e' <;> simp [d]
  ·simp [c]
theorem zmv {e e':En}:eqD (dE e) (dE e')=decide (e=e'):=zfn e e'
theorem zje (ks:Mk2) (p:Int):zbs (zdz ks p) p=none:=by
 unfold zbs zdz;rw [Option.map_eq_none_iff,List.find?_eq_none];intro q hq
 have:=(zoR.1 hq).2
 simpa using this
theorem zdW (m:Ma) (k:Nat) (x:St3):∃ l,tr m k x=x::l:=by
 cases k with
 | zero=>exact⟨[],rfl⟩
 | succ k=>exact⟨_,rfl⟩
end L2
end
section
namespace L2
open PySem PySem.Spec PyProof.Rows PySem.W
section
variable {X:Cx}
end
section
variable {X:Cx}
end
section
variable {X:Cx} {K:PySem.W.Frag} {o e:Expr} {es:List Expr} {to:TE} {t:TA} {name:Str} {apos cpos:Pos} {T id:String} {r:V->List V->Hp->VK->Prop}
end
section
variable {X:Cx} {e e1 e2 e3:Expr} {te t1 t2 t3:TE} {pos:Pos}
variable {K:PySem.W.Frag} {o i:Expr} {td ty:TE}
end
section
variable {X:Cx}
end
end L2
end
section
namespace L2
open PySem PySem.Spec PyProof.Rows PySem.W
section
variable {X:Cx}
end
section
variable {X:Cx}
end
section
variable {X:Cx}
end
section
variable {X:Cx} {a b c d:Expr} {ta tb tc td:TE} {pos:Pos}
def cCh3 (r r' r'':R2) (ta tb tc td:TE):TT:=fun σ H Q=>ta σ H fun x H1=>tb σ H1 fun y H2=>r x y H2 fun e H3=>bV e fun k=>ifB k (tc σ H3 fun z H4=>r' y z H4 fun e' H5=>bV e' fun k2=>ifB k2 (td σ H5 fun w H6=>r'' z w H6 fun e'' H7=>bV e'' fun k3=>Q k3 H7) (Q false H5)) (Q false H3)
theorem zm3 {op op' op'':CmpOp} {r r' r'':R2} (ho:OpR X (compareOp op) r) (ho':OpR X (compareOp op') r') (ho'':OpR X (compareOp op'') r'') (ha:PE X a ta) (hb:PE X b tb) (hc:PE X c tc) (hd:PE X d td)
  (hm:lastMarks [op,op',op''] [b,c,d]=false:=by with_unfolding_all rfl):PT X (.Compare a [op,op',op''] [b,c,d] pos) (cCh3 r r' r'' ta tb tc td):=by
 intro pins s σ H Q I h;refine isTrue_chain (thn (ha pins s σ H _ I h) fun v s1 ⟨x,H1,I1,r1,q1⟩=>test_link (thn (hb pins s1 σ H1 _ I1 q1) fun u s2 ⟨y,H2,I2,r2,q2⟩ =>
  thn (ho pins s2 σ H2 x y v u _ I2 r1 r2 q2) fun e s3 ⟨z,H3,I3,r3,q3⟩=>?_)) hm
 obtain⟨k,rfl,q⟩:=zeu q3;cases r3;refine wpAny_truthy_bool ?_;cases k with
 | false=>exact ite_ff ⟨H3,I3,zhe q⟩
 | true =>
  refine ite_tt (test_link (thn (hc pins s3 σ H3 _ I3 (zhf q)) fun w' s4 ⟨z',H4,I4,r4,q4⟩=>thn (ho' pins s4 σ H4 y z' u w' _ I4 r2 r4 q4) fun d' s5 ⟨z2,H5,I5,r5,q5⟩=>?_));obtain⟨k2,rfl,q6⟩:=zeu q5;cases r5;refine wpAny_truthy_bool ?_;cases k2 with
  | false=>exact ite_ff ⟨H5,I5,zhe q6⟩
  | true =>
   refine ite_tt (test_last (thn (hd pins s5 σ H5 _ I5 (zhf q6)) fun w2 s6 ⟨y6,H6,I6,r6,q7⟩=>thn (ho'' pins s6 σ H6 z' y6 w' w2 _ I6 r4 r6 q7) fun d2 s7 ⟨z3,H7,I7,r7,q8⟩=>?_));obtain⟨k3,rfl,q9⟩:=zeu q8;cases r7;exact wpAny_truthy_bool ⟨H7,I7,q9⟩
end
end L2
end
section
namespace L2
open PySem PySem.Spec PyProof.Rows PySem.W
section
variable {prog:Program} {w:World} {A:Around} {E:Value->Shared->Prop} {s:Shared}
end
section
variable {prog:Program} {w:World} {A:Around} {s:Shared} {R:Result->Shared->Prop} {its:Array Value}
end
section
variable {prog:Program} {w:World} {A:Around} {E:Value->Shared->Prop} {s:Shared} {its:Array Value}
end
section
variable {prog:Program} {w:World} {A:Around} {E:Value->Shared->Prop} {s:Shared}
end
section
variable {X:Cx} {K:PySem.W.Frag}
end
end L2
end
section
set_option autoImplicit false
open PySem PySem.Spec PyProof.Rows
namespace L2
section
variable {Y:Cx} {e tg iter:Expr} {d:Nat} {ifs:List Expr} {emit:Env->Addr->Sem Unit} {wi:TI} {g:TG} {tc:TT} {tm:TM}
end
section
variable {X:Cx} {sc:Scope} {own:List Str} {fr:List Nat} {elt tg iter tg2 iter2 tg3 iter3:Expr} {ifs ifs2 ifs3:List Expr} {wi wi2 wi3:TI} {g g2 g3:TG} {tc tc2 tc3:TT} {te:TE} {pos:Pos}
end
end L2
end
section
namespace L2
open PySem PySem.Spec PyProof.Rows PySem.W
section
variable {X:Cx}
end
section
variable {prog:Program} {w:World} {A:Around} {E:Value->Shared->Prop} {s:Shared}
end
section
variable {X:Cx} {K:PySem.W.Frag}
end
section
variable {K:PySem.W.Frag} {a:Addr} {xs:List V} {g:TG} {tc:TT} {tm:TM} {σ:St} {H:Hp} {p:Addr} {Q:Hp->Prop}
end
end L2
end
section
namespace L2
open PySem PySem.Spec PyProof.Rows PySem.W
inductive NK where
 | int (i:Int)
 | tup (l:List NK)
mutual
def NK.dep:NK->Nat
 | .int _=>0
 | .tup l=>1+NK.depL l
def NK.depL:List NK->Nat
 | []=>0
 | k::r=>max k.dep (NK.depL r)
end
mutual
def NK.hash:NK->Int
 | .int i=>hashInt i
 | .tup l=>reduceHash (Builtin.Tuple.tupleHashOf (NK.hashL l))
def NK.hashL:List NK->List Int
 | []=>[]
 | k::r=>k.hash::NK.hashL r
end
mutual
def NK.dr:NK->Nat
 | .int _=>1
 | .tup l=>NK.drL l+1
def NK.drL:List NK->Nat
 | []=>0
 | k::r=>k.dr+NK.drL r
end
mutual
def IsN (h:Heap):NK->Value->Prop
 | .int i,v=>∃ t,v=.int i t
 | .tup l,v=>∃ a its,v=.ref a/\IsTup h a (List.toArray its)/\zci h l its
def zci (h:Heap):List NK->List Value->Prop
 | [],vs=>vs=[]
 | k::r,vs=>∃ u us,vs=u::us/\IsN h k u/\zci h r us
end
noncomputable instance:DecidableEq NK:=fun a b=>Classical.propDecidable (a=b)
theorem zhu {M:Model} {A:Around} {E:Value->Shared->Prop} {s:Shared} {i:Int} {Q:Int->Shared->Prop} (h:Q (reduceHash i) s):wpAny M A (pyHashByItsType.reduced i) Q E s:=by
 unfold pyHashByItsType.reduced;unfold reduceHash at h;split
 ·rename_i c;rw [zpc c] at h;exact wpAny_pure h
 ·rename_i c;rw [zpb c] at h;exact wpAny_bind (wpAny_rule (wpAny_pure h))
section
variable {prog:Program} {w:World} {E:Value->Shared->Prop}
theorem zgN:∀ (n:Nat) (k:NK) (A:Around) (s:Shared) (v:Value) (Q:Int->Shared->Prop),k.dep<=n->A.units+n<cLine->IsN s.heap k v->Q k.hash { s with toks:=s.toks+k.dr }->wpAny (model prog w) A (pyHash v) Q E s:=by
 intro n
 induction n with
 | zero =>
  intro k A s v Q hd hu hi h;cases k with
  | int i =>
   rw [IsN] at hi;obtain⟨t,rfl⟩:=hi;rw [NK.hash,NK.dr] at h;exact wpAny_pyHash_int h
  | tup l=>rw [NK.dep] at hd;omega
 | succ n ih =>
  intro k A s v Q hd hu hi h;cases k with
  | int i =>
   rw [IsN] at hi;obtain⟨t,rfl⟩:=hi;rw [NK.hash,NK.dr] at h;exact wpAny_pyHash_int h
  | tup l =>
   rw [NK.dep] at hd;rw [NK.hash,NK.dr] at h;rw [IsN] at hi;obtain⟨a,its,rfl,ht,hi⟩:=hi;have loop:∀ (l:List NK) (vs:List Value) (b:Array Int) (s:Shared) (Q':Array Int->Shared->Prop),NK.depL l<=n->zci s.heap l vs->(∀ b':Array Int,b'.toList=b.toList++NK.hashL l->Q' b' { s with toks:=s.toks+NK.drL l }) ->
     wpAny (model prog w) A.in1 (forIn vs b fun x (r:Array Int)=>do let h ← pyHash x;pure (ForInStep.yield (r.push h))) Q' E s:=by
    intro l
    induction l with
    | nil =>
     intro vs b s Q' _ hv hq;rw [zci] at hv;subst hv;exact wpAny_pure (hq b (by rw [NK.hashL,zoJ]))
    | cons k r ihl =>
     intro vs b s Q' hd hv hq;rw [NK.depL] at hd;rw [zci] at hv;obtain⟨u,us,rfl,hu',hr⟩:=hv;rw [List.forIn_cons];refine wpAny_bind (wpAny_bind (ih k A.in1 s u _ (by omega) (by show A.units+1+n<_;omega) hu' (wpAny_pure ?_)));refine ihl us _ _ _ (by omega) hr fun b' hb'=>?_
     have:=hq b' (by rw [hb',NK.hashL];simp)
     rw [NK.drL,← Nat.add_assoc] at this;exact this
   show wpAny _ _ (pyHashByItsType (.ref a)) Q E s;unfold pyHashByItsType;have hT:=ht.typeIs;refine wpAny_bind (wpAny_cRoomFor_or (.inr (by omega)) (wpAny_bind (wpAny_specialOf hT F.slot_tuple_hash.lookup ?_)));rw [zpb (by rw [beq_builtin_none];exact zpj)];refine wpAny_bind (wpAny_specialOf hT F.slot_tuple_hash.lookup ?_);refine wpAny_bind (wpAny_callSpecialIfBoundUnlessNone?_slot hT F.slot_tuple_hash (wpAny_call_entry F.slot_tuple_hash hT F.entry_tuple_hash ?_ (F.args_tuple_hash_1 _)));show wpAny _ _ (Builtin.Tuple.tupleItemsOf (.ref a) >>= _) _ _ s;refine wpAny_bind (tupleItemsOf_ ht (wpAny_bind ?_));rw [← Array.forIn_toList];refine loop l its #[] s _ (by omega) hi fun b' hb'=>?_
   have hb':b'.toList=NK.hashL l:=by rw [hb'];rfl
   show wpAny _ _ (retInt (Builtin.Tuple.tupleHashOf b'.toList)) _ _ _;rw [hb'];refine wpAny_bind (wpAny_mkInt (wpAny_pure ⟨_,rfl,?_⟩));exact zhu h
theorem IsTup.inj' {h:Heap} {a:Addr} {x y:List Value} (h1:IsTup h a x.toArray) (h2:IsTup h a y.toArray):x=y:=by
 obtain⟨o,e1,_,n,d1⟩:=h1;obtain⟨o',e2,_,n',d2⟩:=h2;rw [e1] at e2;cases e2;rw [d1] at d2;injection d2 with d2 _
 have:=congrArg Array.toList d2
 simpa using this
theorem zh4 {h:Heap}:∀ (n:Nat) (x y:NK) (v:Value),x.dep<=n->IsN h x v->IsN h y v->x=y:=by
 intro n
 induction n with
 | zero =>
  intro x y v hd hx hy;cases x with
  | int i =>
   rw [IsN] at hx;obtain⟨t,rfl⟩:=hx;cases y with
   | int j=>rw [IsN] at hy;obtain⟨t',e⟩:=hy;cases e;rfl
   | tup l=>rw [IsN] at hy;obtain⟨a,its,e,_⟩:=hy;cases e
  | tup l=>rw [NK.dep] at hd;omega
 | succ n ih =>
  intro x y v hd hx hy;cases x with
  | int i =>
   rw [IsN] at hx;obtain⟨t,rfl⟩:=hx;cases y with
   | int j=>rw [IsN] at hy;obtain⟨t',e⟩:=hy;cases e;rfl
   | tup l=>rw [IsN] at hy;obtain⟨a,its,e,_⟩:=hy;cases e
  | tup l =>
   rw [NK.dep] at hd;rw [IsN] at hx;obtain⟨a,its,rfl,ht,hi⟩:=hx;cases y with
   | int j=>rw [IsN] at hy;obtain⟨t',e⟩:=hy;cases e
   | tup l' =>
    rw [IsN] at hy;obtain⟨a',its',e,ht',hi'⟩:=hy;cases e;have e:=IsTup.inj' ht ht';subst e;have key:∀ (l l':List NK) (vs:List Value),NK.depL l<=n->zci h l vs->zci h l' vs->l=l':=by
     intro l
     induction l with
     | nil =>
      intro l' vs _ h1 h2;rw [zci] at h1;subst h1;cases l' with
      | nil=>rfl
      | cons k r=>rw [zci] at h2;obtain⟨u,us,e,_⟩:=h2;cases e
     | cons k r ihl =>
      intro l' vs hd h1 h2;rw [NK.depL] at hd;rw [zci] at h1;obtain⟨u,us,rfl,hu,hr⟩:=h1;cases l' with
      | nil=>rw [zci] at h2;cases h2
      | cons k' r' =>
       rw [zci] at h2;obtain⟨u',us',e,hu',hr'⟩:=h2;cases e;rw [ih k k' u (by omega) hu hu',ihl r' us (by omega) hr hr']
    rw [key l l' its (by omega) hi hi']
theorem zcH {h h':Heap} (kp:∀ (a:Addr) (its:List Value),IsTup h a its.toArray->IsTup h' a its.toArray):∀ (n:Nat) (x:NK) (v:Value),x.dep<=n->IsN h x v->IsN h' x v:=by
 intro n
 induction n with
 | zero =>
  intro x v hd hx;cases x with
  | int i=>rw [IsN] at hx ⊢;exact hx
  | tup l=>rw [NK.dep] at hd;omega
 | succ n ih =>
  intro x v hd hx;cases x with
  | int i=>rw [IsN] at hx ⊢;exact hx
  | tup l =>
   rw [NK.dep] at hd;rw [IsN] at hx ⊢;obtain⟨a,its,rfl,ht,hi⟩:=hx;refine⟨a,its,rfl,kp _ _ ht,?_⟩;have key:∀ (l:List NK) (vs:List Value),NK.depL l<=n->zci h l vs->zci h' l vs:=by
    intro l
    induction l with
    | nil=>intro vs _ h1;rw [zci] at h1 ⊢;exact h1
    | cons k r ihl =>
     intro vs hd h1;rw [NK.depL] at hd;rw [zci] at h1 ⊢;obtain⟨u,us,rfl,hu,hr⟩:=h1;exact⟨u,us,rfl,ih k u (by omega) hu,ihl us (by omega) hr⟩
   exact key l its (by omega) hi
theorem zeF {h:Heap}:∀ {l:List NK} {vs:List Value},zci h l vs->vs.length=l.length
 | [],vs,h1=>by rw [zci] at h1;subst h1;rfl
 | k::r,vs,h1=>by
  rw [zci] at h1;obtain⟨u,us,rfl,_,hr⟩:=h1;rw [zpa,zpa,zeF hr]
theorem zf2 {h:Heap}:∀ {l:List NK} {vs:List Value} {j:Nat} (hj:j<vs.length),zci h l vs->∃ k,l[j]?=some k/\IsN h k vs[j]
 | [],vs,j,hj,h1=>by rw [zci] at h1;subst h1;cases hj
 | k::r,vs,j,hj,h1=>by
  rw [zci] at h1;obtain⟨u,us,rfl,hu,hr⟩:=h1;cases j with
  | zero=>exact⟨k,rfl,hu⟩
  | succ j=>exact zf2 (l:=r) (vs:=us) (j:=j) (by simpa using hj) hr
theorem zhM {n:Nat}:∀ {l:List NK} {j:Nat} {k:NK},NK.depL l<=n->l[j]?=some k->k.dep<=n
 | [],j,k,_,h=>by cases h
 | k'::r,0,k,hd,h=>by cases h;rw [NK.depL] at hd;omega
 | k'::r,j+1,k,hd,h=>by rw [NK.depL] at hd;exact zhM (l:=r) (j:=j) (by omega) h
theorem zja (i j:Int):decide (NK.int i=NK.int j)=(i == j):=by
 by_cases e:i=j
 ·subst e;simp
 ·rw [zoE (fun q=>e (by injection q)),show (i == j)=false by simpa using e]
theorem zkV (l l':List NK):decide (NK.tup l=NK.tup l')=decide (l=l'):=by
 by_cases e:l=l'
 ·subst e;simp
 ·rw [zoE e,zoE (fun q=>e (by injection q))]
theorem zf4 {l l':List NK}:((List.range (min l.length l'.length)).all (fun j=>decide (l.getD j (.int 0)=l'.getD j (.int 0))) && l.length == l'.length)=decide (l=l'):=by
 by_cases h:l=l'
 ·subst h;simp
 ·rw [zoE h];by_cases hl:l.length=l'.length
  ·have:¬ (List.range (min l.length l'.length)).all (fun j=>decide (l.getD j (.int 0)=l'.getD j (.int 0)))=true:=fun q=>h (List.ext_getElem hl fun j h1 h2=>by
    have:=zoX.1 q j (List.mem_range.2 (by omega))
    have:=zpi this
    simpa [List.getD,h1,h2] using this)
   cases e:(List.range (min l.length l'.length)).all (fun j=>decide (l.getD j (.int 0)=l'.getD j (.int 0))) with
   | true=>exact (this e).elim
   | false=>rfl
  ·have:(l.length == l'.length)=false:=by simpa using hl
   rw [this,Bool.and_false]
theorem eq_n {s:Shared}:∀ (n:Nat) (x y:NK) (A:Around) (u v:Value),x.dep<=n->A.units+n<cLine->IsN s.heap x u->IsN s.heap y v->SeqAt.EqAt A s u v (decide (x=y)):=by
 have intsN:∀ (i:Int) (y:NK) (A:Around) (u v:Value),A.units<cLine->IsN s.heap (.int i) u->IsN s.heap y v->SeqAt.EqAt A s u v (decide (NK.int i=y)):=by
  intro i y A u v hu hx hy;rw [IsN] at hx;obtain⟨t,rfl⟩:=hx;cases y with
  | int j =>
   rw [IsN] at hy;obtain⟨t',rfl⟩:=hy
   have:=SeqAt.EqAt.int_int (A:=A) (s:=s) i t j t'
   rw [zja];exact this
  | tup l =>
   rw [IsN] at hy;obtain⟨a,its,rfl,ht,_⟩:=hy;rw [zoE (fun q=>by cases q)];exact SeqAt.EqAt.int_tuple i t ht hu
 intro n
 induction n with
 | zero =>
  intro x y A u v hd hu hx hy;cases x with
  | int i=>exact intsN i y A u v (by omega) hx hy
  | tup l=>rw [NK.dep] at hd;omega
 | succ n ih =>
  intro x y A u v hd hu hx hy;cases x with
  | int i=>exact intsN i y A u v (by omega) hx hy
  | tup l =>
   have hxx:=hx;have hdd:=hd;rw [NK.dep] at hd;rw [IsN] at hx;obtain⟨a,its,rfl,ht,hi⟩:=hx;cases y with
   | int j =>
    rw [IsN] at hy;obtain⟨t',rfl⟩:=hy;rw [zoE (fun q=>by cases q)];exact SeqAt.EqAt.tuple_int j t' ht (by omega)
   | tup l' =>
    have hyy:=hy;rw [IsN] at hy;obtain⟨b,its',rfl,ht',hi'⟩:=hy;by_cases hab:a=b
    ·subst hab;rw [zh4 (n+1) _ _ _ hdd hxx hyy,zoD rfl];exact SeqAt.EqAt.same _
    ·have l1:=zeF hi;have l2:=zeF hi';have main:=SeqAt.RcAt.tuples (e:=fun j=>decide (l.getD j (.int 0)=l'.getD j (.int 0))) ht ht' (show A.units<cLine by omega) fun j g1 g2=>by
      obtain⟨k,hk,hkn⟩:=zf2 (j:=j) (by simpa using g1) hi;obtain⟨k',hk',hkn'⟩:=zf2 (j:=j) (by simpa using g2) hi';rw [zpf,zpf,hk,hk'];exact ih k k' A.in1 _ _ (zhM (by omega) hk) (by show A.units+1+n<_;omega) (by simpa using hkn) (by simpa using hkn')
     rw [zo9,zo9,l1,l2,zf4] at main;rw [zkV];exact SeqAt.EqAt.of_refs hab main
theorem zga {s:Shared}:∀ (n:Nat) (x:NK) (A:Around) (v:Value) (Q:Bool->Shared->Prop),x.dep<=n->IsN s.heap x v->Q true s->wpAny (model prog w) A (eqIsQuiet n v) Q E s:=by
 have intsN:∀ (n:Nat) (i:Int) (A:Around) (v:Value) (Q:Bool->Shared->Prop),IsN s.heap (.int i) v->Q true s->wpAny (model prog w) A (eqIsQuiet n v) Q E s:=by
  intro n i A v Q hx h;rw [IsN] at hx;obtain⟨t,rfl⟩:=hx;rw [eqIsQuiet.eq_3 n _ (fun a q=>by cases q)];exact wpAny_pure h
 intro n
 induction n with
 | zero =>
  intro x A v Q hd hx h;cases x with
  | int i=>exact intsN 0 i A v Q hx h
  | tup l=>rw [NK.dep] at hd;omega
 | succ n ih =>
  intro x A v Q hd hx h;cases x with
  | int i=>exact intsN (n+1) i A v Q hx h
  | tup l =>
   rw [NK.dep] at hd;rw [IsN] at hx;obtain⟨a,its,rfl,ht,hi⟩:=hx;have hT:=ht.typeIs;rw [eqIsQuiet.eq_2];refine wpAny_bind (wpAny_specialOf hT F.slot_tuple_eq.lookup ?_);refine wpAny_bind (wpAny_isInstance hT isSubtype_tuple_tuple ?_);rw [zpb (by simp)];have loop:∀ (l:List NK) (vs:List Value) (Q':Option Bool × Unit->Shared->Prop),NK.depL l<=n->zci s.heap l vs->Q' (none,()) s ->
     wpAny (model prog w) A (forIn vs ((none,()):Option Bool × Unit) fun y _=>do let q ← eqIsQuiet n y;if (!q)=true then pure (ForInStep.done (some false,())) else pure (ForInStep.yield (none,()))) Q' E s:=by
    intro l
    induction l with
    | nil =>
     intro vs Q' _ hv hq;rw [zci] at hv;subst hv;exact wpAny_pure hq
    | cons k r ihl =>
     intro vs Q' hd hv hq;rw [NK.depL] at hd;rw [zci] at hv;obtain⟨u,us,rfl,hu',hr⟩:=hv;rw [List.forIn_cons];refine wpAny_bind (wpAny_bind (ih k A u _ (by omega) hu' ?_));rw [zpb (by simp)];exact wpAny_pure (ihl us Q' (by omega) hr hq)
   obtain⟨o,ho,hc,m',hdt⟩:=id ht;refine wpAny_bind (wpAny_seqItems ho hdt (wpAny_bind ?_));show wpAny _ _ (forIn its.toArray _ _) _ _ _;rw [← Array.forIn_toList];exact loop l its _ (by omega) hi (wpAny_pure h)
noncomputable def zih (prog:Program) (w:World):HeapKind prog w NK where
 is:=fun h k a=>k.dep<=7/\IsN h k (.ref a)
 hash:=NK.hash
 draws:=NK.dr
 room:=fun A=>A.units+8<cLine
 inj:=fun hx hy=>zh4 7 _ _ _ hx.1 hx.2 hy.2
 keeps:=fun {h h' k a d o es ep} hx ho hd hs=>⟨hx.1,zcH (fun b its ⟨o',e,c,n,q⟩=>⟨o',by
  rw [hs.2 b (by rintro rfl;rw [ho] at e;cases e;rw [hd] at q;cases q)];exact e,c,n,q⟩) 7 _ _ hx.1 hx.2⟩
 pyHash:=fun {A E s k a Q} hr hx h=>zgN 7 k A s _ Q hx.1 (by omega) hx.2 h
 eqBool:=fun {A E s x y a b Q} hr hx hy h=>eq_n 7 x y A _ _ hx.1 (by omega) hx.2 hy.2 prog w E Q h
 quiet:=fun {A E s k a Q} hx h=>zga 8 k A _ Q (zoM hx.1 (by decide)) hx.2 h
end
mutual
def zbX (H:Hp):NK->V->Prop
 | .int i,v=>v=.int i
 | .tup l,v=>∃ a xs,v=.ref a/\H a=some (.tup xs)/\zbv H l xs
def zbv (H:Hp):List NK->List V->Prop
 | [],vs=>vs=[]
 | k::r,vs=>∃ u us,vs=u::us/\zbX H k u/\zbv H r us
end
theorem zbX.mono {H H':Hp} (kp:∀ a xs,H a=some (.tup xs)->H' a=some (.tup xs)):∀ (n:Nat) (x:NK) (v:V),x.dep<=n->zbX H x v->zbX H' x v:=by
 intro n
 induction n with
 | zero =>
  intro x v hd hx;cases x with
  | int i=>rw [zbX] at hx ⊢;exact hx
  | tup l=>rw [NK.dep] at hd;omega
 | succ n ih =>
  intro x v hd hx;cases x with
  | int i=>rw [zbX] at hx ⊢;exact hx
  | tup l =>
   rw [NK.dep] at hd;rw [zbX] at hx ⊢;obtain⟨a,its,rfl,ht,hi⟩:=hx;refine⟨a,its,rfl,kp _ _ ht,?_⟩;have key:∀ (l:List NK) (vs:List V),NK.depL l<=n->zbv H l vs->zbv H' l vs:=by
    intro l
    induction l with
    | nil=>intro vs _ h1;rw [zbv] at h1 ⊢;exact h1
    | cons k r ihl =>
     intro vs hd h1;rw [NK.depL] at hd;rw [zbv] at h1 ⊢;obtain⟨u,us,rfl,hu,hr⟩:=h1;exact⟨u,us,rfl,ih k u (by omega) hu,ihl us (by omega) hr⟩
   exact key l its (by omega) hi
theorem zfp {X:Cx} {pins:List (Addr × Obj)} {σ:St} {H:Hp} {s:Shared} (I:Inv X pins σ H s):∀ (n:Nat) (x:NK) (v:V) (u:Value),x.dep<=n->zbX H x v->zaO v u->IsN s.heap x u:=by
 intro n
 induction n with
 | zero =>
  intro x v u hd hx ru;cases x with
  | int i=>rw [zbX] at hx;subst hx;rw [IsN];exact ru
  | tup l=>rw [NK.dep] at hd;omega
 | succ n ih =>
  intro x v u hd hx ru;cases x with
  | int i=>rw [zbX] at hx;subst hx;rw [IsN];exact ru
  | tup l =>
   rw [NK.dep] at hd;rw [zbX] at hx;rw [IsN];obtain⟨a,xs,rfl,ht,hi⟩:=hx;cases ru;obtain⟨its,r,p,_⟩:=I.tuple (SqT.of ht);refine⟨a,its,rfl,p,?_⟩;have key:∀ (l:List NK) (vs:List V) (us:List Value),NK.depL l<=n->zbv H l vs->zaU vs us->zci s.heap l us:=by
    intro l
    induction l with
    | nil=>intro vs us _ h1 r;rw [zbv] at h1;subst h1;rw [zci];cases r;rfl
    | cons k q ihl =>
     intro vs us hd h1 r;rw [NK.depL] at hd;rw [zbv] at h1;rw [zci];obtain⟨u,ws,rfl,hu,hr⟩:=h1;cases r with
     | @cons _ b _ bs h t=>exact⟨b,bs,rfl,ih k u b (by omega) hu h,ihl ws bs (by omega) hr t⟩
   exact key l xs its (by omega) hi r
def zi4 (d:Addr) (xs:List (NK × Addr × Value)):Heap->Prop:=fun h=>∃ o es ep,h.get? d=some o/\o.ExactDict/\o.data=.dict es ep/\es.toList=xs.map fun x=>({ hash:=x.1.hash,key:=.ref x.2.1,val:=x.2.2 }:DictEntry)
theorem zkx {P:Program} {w:World} {H:Hp} {h:Heap} {d:Addr} {xs:List (NK × Addr × Value)} (p:zi4 d xs h):zaV P w H h d (.ext (zi4 d xs)):=by
 refine⟨p,?_,fun h1 h2 q k=>?_⟩
 ·obtain⟨o,_,_,e,_⟩:=p;exact⟨o,e⟩
 ·obtain⟨o,es,ep,e,r⟩:=q;exact⟨o,es,ep,k o e,r⟩
structure DNx (H:Hp) (d:Addr) (kvs:List (NK × Addr × V)):Prop where
 ex:∃ xs,H d=some (.ext (zi4 d xs))/\xs.map (fun x=>(x.1,x.2.1))=kvs.map (fun q=>(q.1,q.2.1))/\zaU (kvs.map (·.2.2)) (xs.map (·.2.2))
 ks:∀ q∈kvs,q.1.dep<=7/\zbX H q.1 (.ref q.2.1)
 nd:(kvs.map (·.1)).Nodup
 sz:kvs.length<=sizeLine
 sm:(d == sysModules)=false
theorem zkZ {X:Cx} {pins:List (Addr × Obj)} {σ:St} {H:Hp} {s:Shared} {d:Addr} {kvs:List (NK × Addr × V)} (I:Inv X pins σ H s) (D:DNx H d kvs) :
  ∃ xs,H d=some (.ext (zi4 d xs))/\xs.map (fun x=>(x.1,x.2.1))=kvs.map (fun q=>(q.1,q.2.1))/\zaU (kvs.map (·.2.2)) (xs.map (·.2.2))/\s.heap.DictOfH (zih X.prog X.w) d xs:=by
 obtain⟨xs,e,hk,hv⟩:=D.ex;refine⟨xs,e,hk,hv,?_⟩;obtain⟨⟨o,es,ep,h1,h2,h3,h4⟩,_,_⟩:=(show zaV X.prog X.w H s.heap d (.ext (zi4 d xs)) from I.hok d _ e);refine⟨o,es,ep,h1,h2,h3,h4,fun x hx=>?_,?_⟩
 ·have:(x.1,x.2.1)∈kvs.map (fun q=>(q.1,q.2.1)):=by rw [← hk];exact zoP.2 ⟨x,hx,rfl⟩
  obtain⟨q,hq,e'⟩:=zoP.1 this;obtain⟨k1,k2⟩:=D.ks q hq;injection e' with e1 e2
  rw [e1] at k1 k2;rw [e2] at k2;exact⟨k1,zfp I 7 x.1 _ _ k1 k2 rfl⟩
 ·have:=congrArg (List.map (fun z:NK × Addr=>z.1)) hk
  rw [zoZ,zoZ] at this;have n:=D.nd;rw [show kvs.map (·.1)=kvs.map ((fun z:NK × Addr=>z.1) ∘ fun q=>(q.1,q.2.1)) from rfl,← this] at n
  exact n
section
variable {X:Cx} {pos:Pos}
def znn:TE:=fun _ H Q=>∀ p H',H p=none->H'=upd H p (.ext (zi4 p []))->DNx H' p []->Q (.ref p) H'
theorem zjJ:PE X (.Dict [] [] pos) znn:=fun pins s σ H Q I h =>
 wpAny_Dict_empty ⟨.ref s.heap.objs.size,_,I.laid (a:=s.heap.objs.size) (o:=.ext (zi4 s.heap.objs.size [])) (t':=s.toks) (fun _ _ q=>zoK _ q) (zoN _) (zkx ⟨_,#[],0,zo8 _ rfl,⟨rfl,rfl,rfl⟩,rfl,rfl⟩),rfl,
  h _ _ (I.hok.fresh (zoN _)) rfl ⟨⟨[],zaf,rfl,.nil⟩,(fun q hq=>by cases hq),List.nodup_nil,Nat.zero_le _,beq_eq_false_iff_ne.mpr (Ne.symm (zph I.big))⟩⟩
theorem zd9 {xs:List (NK × Addr × Value)} {k:NK}:(atKey xs k).isSome=decide (k∈xs.map (·.1)):=by
 unfold atKey;rw [Option.isSome_map];by_cases h:k∈xs.map (·.1)
 ·rw [zoD h];obtain⟨x,hx,rfl⟩:=zoP.1 h;exact List.find?_isSome.2 ⟨x,hx,zoD rfl⟩
 ·rw [zoE h];cases e:xs.find? (fun x=>decide (x.1=k)) with
  | none=>rfl
  | some x =>
   have e2:=List.find?_some e;exact (h (zoP.2 ⟨x,List.mem_of_find?_eq_some e,zpi e2⟩)).elim
def rInN:R2:=fun x y H Q=>∃ b d k kvs,x=.ref b/\y=.ref d/\k.dep<=7/\zbX H k (.ref b)/\DNx H d kvs/\Q (.bl (decide (k∈kvs.map (·.1)))) H
theorem zmQ {r:Nat} (hr:zcq r X.A):OpR X (compareOp .In) rInN:=by
 intro pins s σ H x y v u Q I rx ry h;obtain⟨b,d,k,kvs,rfl,rfl,hk,hb,D,q⟩:=h;cases rx;cases ry;obtain⟨xs,e,hks,hv,dd⟩:=zkZ I D;refine wpAny_in_heap (knd:=zih X.prog X.w) (by show X.A.units+1+8<cLine;have:=hr.units;omega) ⟨hk,zfp I 7 k _ _ hk hb rfl⟩ D.sm dd ?_;have hkk:xs.map (·.1)=kvs.map (·.1):=by
  have:=congrArg (List.map (fun z:NK × Addr=>z.1)) hks
  rw [zoZ,zoZ] at this;exact this
 rw [zd9,hkk];exact⟨.bl _,H,I.tok _,rfl,q⟩
theorem zlf {xs:List (NK × Addr × Value)} {kvs:List (NK × Addr × V)} (h:xs.map (fun x=>(x.1,x.2.1))=kvs.map (fun q=>(q.1,q.2.1))):xs.map (·.1)=kvs.map (·.1):=by
 have:=congrArg (List.map (fun z:NK × Addr=>z.1)) h
 rw [zoZ,zoZ] at this;exact this
def zol (td ty tv:TE):TS:=fun D σ H=>tv σ H fun v H1=>td σ H1 fun x H2=>ty σ H2 fun y H3=>∃ d b k kvs,x=.ref d/\y=.ref b/\k.dep<=7/\zbX H3 k (.ref b)/\DNx H3 d kvs/\k ∉ kvs.map (·.1)/\kvs.length<sizeLine /\
 ∀ H4:Hp,(∀ c u,H3 c=some u->c≠d->H4 c=some u)->(∀ c,H3 c=none->H4 c=none)->DNx H4 d (kvs++[(k,b,v)])->D.nx σ H4
theorem zjQ {r:Nat} {o i value:Expr} {td ty tv:TE} {pos':Pos} (hr:zcq r X.A) (ho:PE X o td) (hi:PE X i ty) (hv:PE X value tv) (hs:swapsWith value (some (.Subscript o i pos')) pos.line X.env=pure false) :
  PS X (.Assign [.Subscript o i pos'] value pos) (zol td ty tv):=by
 intro pins s σ H D I h;refine wpAny_Assign_Subscript (thn (hv pins s σ H _ I h) fun rr s1 ⟨v,H1,I1,rv,q1⟩=>thn (ho pins s1 σ H1 _ I1 q1) fun u s2 ⟨x,H2,I2,rx,q2⟩=>thn (hi pins s2 σ H2 _ I2 q2) fun iv s3 ⟨y,H3,I3,ry,d,b,k,kvs,ex,ey,hk,hb,DD,hn,hl,q3⟩=>?_) hs;subst ex;subst ey;obtain rfl:u=Value.ref d:=rx;obtain rfl:iv=Value.ref b:=ry;obtain⟨xs,e,hks,hvv,dd⟩:=zkZ I3 DD;have hxl:xs.length=kvs.length:=by have:=congrArg List.length hks;simpa using this
 have hna:(atKey xs k).isSome=false:=by rw [zd9,zlf hks];exact zoE hn
 refine wpAny_setItem_heap (knd:=zih X.prog X.w) (by show X.A.units+1+8<cLine;have:=hr.units;omega) ⟨hk,zfp I3 7 k _ _ hk hb rfl⟩ dd (fun h' dd' hsb=>?_) (by omega);rw [show storedH xs k b rr=xs++[(k,b,rr)] by unfold storedH;rw [hna,zpb zpj]] at dd';obtain⟨o',es,ep,g1,g2,g3,g4,g5,g6⟩:=dd';have new:zaV X.prog X.w (upd H3 d (.ext (zi4 d (xs++[(k,b,rr)])))) h' d (.ext (zi4 d (xs++[(k,b,rr)]))):=zkx ⟨o',es,ep,g1,g2,g3,g4⟩;have I4:=zdx (t':=s3.toks+(zih X.prog X.w).draws k) I3 (by rw [e];exact True.intro) hsb ⟨o',g1⟩ new;refine⟨σ,_,I4,q3 _ (fun c u' ec ne=>by rw [zao ne];exact ec) (fun c ec=>by rw [zao (by rintro rfl;rw [e] at ec;cases ec)];exact ec) ?_⟩;have kp:∀ a xs',H3 a=some (.tup xs')->(upd H3 d (.ext (zi4 d (xs++[(k,b,rr)])))) a=some (.tup xs'):=fun a xs' ea=>by rw [zao (by rintro rfl;rw [e] at ea;cases ea)];exact ea
 refine⟨⟨_,zaf,by rw [zoF,zoF,hks];rfl,?_⟩,fun q hq=>?_,?_,by rw [zoH];show kvs.length+1<=_;omega,DD.sm⟩
 ·rw [zoF,zoF];exact hvv.append (.cons rv .nil)
 ·rcases zoI.1 hq with hq | hq
  ·exact⟨(DD.ks q hq).1,zbX.mono kp 7 _ _ (DD.ks q hq).1 (DD.ks q hq).2⟩
  ·simp at hq
   subst hq;exact⟨hk,zbX.mono kp 7 _ _ hk hb⟩
 ·rw [zoF];exact List.nodup_append.2 ⟨DD.nd,by simp,fun a ha c hc=>by simp at hc;subst hc;rintro rfl;exact hn ha⟩
theorem zky:∀ {kvs:List (NK × Addr × V)} {xs:List (NK × Addr × Value)},xs.map (fun x=>(x.1,x.2.1))=kvs.map (fun q=>(q.1,q.2.1))->zaU (kvs.map (·.2.2)) (xs.map (·.2.2))->(kvs.map (·.1)).Nodup->∀ q∈kvs,∃ p,atKey xs q.1=some p/\zaO q.2.2 p.2
 | [],xs,_,_,_,q,hq=>by cases hq
 | q0::kvs,[],h,_,_,q,hq=>by cases h
 | q0::kvs,x0::xs,h,hv,nd,q,hq=>by
  rw [zo0,zo0] at h hv;rw [zo0] at nd;injection h with h0 h1
  injection h0 with h2 h3
  have nd':=List.nodup_cons.1 nd;cases hv with
  | cons r t =>
   rcases zpg.1 hq with rfl | hq
   ·exact⟨x0.2,by unfold atKey;rw [List.find?_cons,zoD h2];rfl,r⟩
   ·obtain⟨p,hp,hr⟩:=zky h1 t nd'.2 q hq;refine⟨p,?_,hr⟩;unfold atKey at hp ⊢;rw [List.find?_cons,zoE (fun z=>nd'.1 (zoP.2 ⟨q,hq,by rw [← z,h2]⟩))];exact hp
def zoq (td ty:TE):TE:=fun σ H Q=>td σ H fun x H1=>ty σ H1 fun y H2=>∃ d b kvs q,x=.ref d/\y=.ref b/\DNx H2 d kvs/\q∈kvs/\zbX H2 q.1 (.ref b)/\Q q.2.2 H2
theorem zjI {r:Nat} {o i:Expr} {td ty:TE} (hr:zcq r X.A) (ho:PE X o td) (hi:PE X i ty) (hs:NoSl i):PE X (.Subscript o i pos) (zoq td ty):=by
 intro pins s σ H Q I h;refine zlY PySem.F.slot_dict_getitem.lookup hs (thn (ho pins s σ H _ I h) fun u s1 ⟨x,H1,I1,rx,q1⟩=>thn (hi pins s1 σ H1 _ I1 q1) fun iv s2 ⟨y,H2,I2,ry,d,b,kvs,q,ex,ey,DD,hq,hb,q2⟩=>?_);subst ex;subst ey;obtain rfl:u=Value.ref d:=rx;obtain rfl:iv=Value.ref b:=ry;obtain⟨xs,e,hks,hvv,dd⟩:=zkZ I2 DD;obtain⟨p,hp,hrv⟩:=zky hks hvv DD.nd q hq;refine⟨dd.typeIs,wpAny_getItem_heap (knd:=zih X.prog X.w) (by show X.A.units+1+8<cLine;have:=hr.units;omega) ⟨(DD.ks q hq).1,zfp I2 7 q.1 _ _ (DD.ks q hq).1 hb rfl⟩ dd hp ?_⟩;exact⟨q.2.2,H2,I2.tok _,hrv,q2⟩
end
theorem DNx.sub {H H':Hp} {d:Addr} {kvs:List (NK × Addr × V)} (S:Sub H H') (h:DNx H d kvs):DNx H' d kvs :=
 ⟨h.ex.imp fun _ z=>⟨S _ _ z.1,z.2⟩,fun q hq=>⟨(h.ks q hq).1,zbX.mono (fun _ _ e=>S _ _ e) 7 _ _ (h.ks q hq).1 (h.ks q hq).2⟩,h.nd,h.sz,h.sm⟩
end L2
end
section
set_option autoImplicit true
open PySem
namespace L2
theorem ziE {ks:Mk2} {p q s:Int} (h:q≠p):zbs (zeX ks p s) q=zbs ks q:=by
 unfold zeX zbs;split
 ·congr 1
  induction ks with
  | nil=>rfl
  | cons a ks ih =>
   rename_i hx;by_cases c:a.1=p
   ·have c':a.1≠q:=fun e=>h (e.symm.trans c)
    rw [zo0,zpc c,List.find?_cons_of_neg (by simpa using c'),List.find?_cons_of_neg (by simpa using c')];by_cases hk:(ks.any fun q=>decide (q.1=p))=true
    ·exact ih hk
    ·have:ks.map (fun q=>if q.1=p then (q.1,s) else q)=ks:=by
      rw [zpm (g:=id),List.map_id];intro b hb;rw [zpb];· rfl
      intro e;exact hk (List.any_eq_true.2 ⟨b,hb,by simpa using e⟩)
     rw [this]
   ·rw [zo0,zpb c];have hk:(ks.any fun q=>decide (q.1=p))=true:=by simpa [c] using hx
    by_cases c2:a.1=q
    ·rw [List.find?_cons_of_pos (by simpa using c2),List.find?_cons_of_pos (by simpa using c2)]
    ·rw [List.find?_cons_of_neg (by simpa using c2),List.find?_cons_of_neg (by simpa using c2)];exact ih hk
 ·rw [List.find?_append];cases ks.find? fun q'=>decide (q'.1=q) with
  | some v=>rfl
  | none=>rw [Option.none_or,List.find?_cons_of_neg (by simpa using h.symm)];rfl
theorem zhb {ks:Mk2} {p q:Int} (h:q≠p):zbs (zdz ks p) q=zbs ks q:=by
 unfold zdz zbs
 congr 1
 induction ks with
 | nil=>rfl
 | cons a ks ih =>
  by_cases c:a.1=p
  ·have c':a.1≠q:=fun e=>h (e.symm.trans c)
   rw [List.filter_cons_of_neg (by simpa using c),List.find?_cons_of_neg (by simpa using c')];exact ih
  ·rw [List.filter_cons_of_pos (by simpa using c)];by_cases c2:a.1=q
   ·rw [List.find?_cons_of_pos (by simpa using c2),List.find?_cons_of_pos (by simpa using c2)]
   ·rw [List.find?_cons_of_neg (by simpa using c2),List.find?_cons_of_neg (by simpa using c2)];exact ih
theorem zlm (ks:Mk2) (p q s:Int):(zbs (nxt ks p s) q).getD 0=if q=p then s else (zbs ks q).getD 0:=by
 unfold nxt;by_cases c:q=p
 ·subst c;rw [zpc rfl];split
  ·rename_i e;rw [zje,e];rfl
  ·rw [zlM];rfl
 ·rw [zpb c];split
  ·rw [zhb c]
  ·rw [ziE c]
end L2
end
section
namespace L2
open PySem PySem.Spec PyProof.Rows PySem.W
section
variable {prog:Program} {w:World} {A:Around} {E:Value->Shared->Prop} {s:Shared} {es:Array DictEntry} {ep:Nat}
end
section
variable {X:Cx} {pos:Pos}
end
end L2
end
section
namespace L2
open PySem PySem.Spec PyProof.Rows PySem.W
section
open PySem.SeqAt
open PySem.AutoSeq1 (wpAny_loadPart')
open PySem.MeetsSeq PySem.MeetsSeq2 PySem.MeetsSeq3
end
section
variable {prog:Program} {w:World} {A:Around} {E:Value->Shared->Prop} {s:Shared}
end
end L2
end
section
namespace PySem
open Sem (wp)
section
variable {prog:Program} {w:World} {A:Around} {E:Value->Shared->Prop} {h:Heap} {g:Array GenState} {d:Drawn} {t:Nat} {os:OsState} {a:Addr} {o:Obj} {its:Array Value} {n:Nat}
end
end PySem
namespace L2
open PySem PySem.Spec PyProof.Rows PySem.W
section
variable {prog:Program} {w:World} {K:Type} [DecidableEq K] {knd:PySem.KeyKind prog w K} {A:Around} {s:Shared} {R:Result->Shared->Prop}
end
section
variable {X:Cx}
end
end L2
end
section
namespace L2
open PySem PySem.Spec PyProof.Rows PySem.W
section
variable {X:Cx}
end
end L2
end
section
namespace PySem
end PySem
namespace L2
open PySem PySem.Spec PyProof.Rows PySem.W HT
section
variable {X:Cx} {K:PySem.W.Frag}
end
end L2
end
section
set_option autoImplicit true
open PySem PySem.Spec PyProof.Rows
namespace L2
section
variable {X:Cx} {pos:Pos}
end
end L2
end
section
namespace L2
open PySem PySem.Spec PyProof.Rows PySem.W
abbrev vz (ks:Mk2) (x:Int):Int:=(zbs ks x).getD 0
def NZ (ks:Mk2):Prop:=∀ q∈ks,q.2≠0
theorem NZ.nxt {ks:Mk2} {p s:Int} (h:NZ ks):NZ (nxt ks p s):=by
 intro q hq;unfold L2.nxt at hq;split at hq
 ·exact h q (zgt hq)
 ·rename_i z;rcases ziC hq with rfl | hq
  ·exact z
  ·exact h q hq
theorem znk {m:Ma} {x y:St3} (h:stN m x=some y) (hx:NZ x.2.2):NZ y.2.2:=by
 unfold stN at h;split at h
 ·cases h;exact hx.nxt
 ·cases h
theorem zhA {m:Ma}:∀ (k:Nat) (x:St3),NZ x.2.2->∀ y∈tr m k x,NZ y.2.2
 | 0,x,h,y,hy=>by
  rw [zoG.1 hy];exact h
 | k+1,x,h,y,hy=>by
  cases e:stN m x with
  | none=>rw [zbm e] at hy;rw [zoG.1 hy];exact h
  | some u =>
   rw [za7 e] at hy;rcases zpg.1 hy with rfl | hy
   ·exact h
   ·exact zhA k u (znk e h) y hy
theorem NZ.perm {ks js:Mk2} (p:js.Perm ks) (h:NZ ks):NZ js:=fun q hq=>h q (p.mem_iff.1 hq)
theorem zcz {ks:Mk2} (nd:(ks.map (·.1)).Nodup) (nz:NZ ks) {x s:Int} (hs:s≠0):vz ks x=s↔(x,s)∈ks:=by
 rw [← zcg nd];unfold vz;cases e:zbs ks x with
 | none=>simp;exact fun h=>hs h.symm
 | some z=>simp
theorem zi1 {ks js:Mk2} (p:js.Perm ks) (nd:(ks.map (·.1)).Nodup) (x:Int):vz js x=vz ks x:=by unfold vz;rw [ze9 p nd]
def Led (x y:St3) (lo hi:Int):Prop:=x.1=y.1/\((x.2.1<y.2.1/\∀ z,lo<=z->vz x.2.2 z=vz y.2.2 (z+(y.2.1-x.2.1)))\/(y.2.1<x.2.1/\∀ z,z<=hi->vz x.2.2 z=vz y.2.2 (z+(y.2.1-x.2.1))))
noncomputable def led (x y:St3) (lo hi:Int):Bool:=@decide (Led x y lo hi) (Classical.propDecidable _)
theorem zgY {ks js:Mk2} (c:Int->Bool) (by':Int) (s1:Srt ks) (s2:Srt js) (z1:NZ ks) (z2:NZ js) :
  ((ks.filter fun q=>c q.1).map (fun q=>(q.1+by',q.2))=js.filter fun q=>c (q.1-by'))↔∀ z,c z=true->vz ks z=vz js (z+by'):=by
 have n1:=zcQ s1;have n2:=zcQ s2
 constructor
 ·intro h z hz;have key:∀ s,s≠0->(vz ks z=s↔vz js (z+by')=s):=fun s hs=>by
   rw [zcz n1 z1 hs,zcz n2 z2 hs]
   constructor
   ·intro hm
    have:(z+by',s)∈(ks.filter fun q=>c q.1).map (fun q=>(q.1+by',q.2)):=zoP.2 ⟨(z,s),zoR.2 ⟨hm,hz⟩,rfl⟩
    rw [h] at this;exact (zoR.1 this).1
   ·intro hm
    have:(z+by',s)∈js.filter fun q=>c (q.1-by'):=zoR.2 ⟨hm,by show c (z+by'-by')=true;rw [show z+by'-by'=z by omega];exact hz⟩
    rw [← h] at this;obtain⟨q,hq,e⟩:=zoP.1 this;have e1:q.1=z:=by have:=congrArg Prod.fst e;simp at this;omega
    have e2:q.2=s:=congrArg Prod.snd e;rw [← e1,← e2];exact (zoR.1 hq).1
  by_cases a:vz ks z=0
  ·by_cases b:vz js (z+by')=0
   ·rw [a,b]
   ·exact ((key _ b).2 rfl)
  ·exact ((key _ a).1 rfl).symm
 ·intro h;have sA:Srt ((ks.filter fun q=>c q.1).map (fun q=>(q.1+by',q.2))):=by
   unfold Srt;rw [List.pairwise_map,List.pairwise_map];exact (List.Pairwise.filter _ (List.pairwise_map.1 s1)).imp fun {u v} z=>by have z:u.1<v.1:=z;show u.1+by'<v.1+by';omega
  have sB:Srt (js.filter fun q=>c (q.1-by')):=List.pairwise_map.2 (List.Pairwise.filter _ (List.pairwise_map.1 s2));refine zgj ?_ sA sB;refine (List.perm_ext_iff_of_nodup ?_ ?_).2 fun q=>?_
  ·exact (List.pairwise_map.1 (zcQ sA)).imp fun {u v} z e=>z (by rw [e])
  ·exact (List.pairwise_map.1 (zcQ sB)).imp fun {u v} z e=>z (by rw [e])
  ·rw [zoP,zoR]
   constructor
   ·rintro ⟨u,hu,rfl⟩;obtain⟨h1,h2⟩:=zoR.1 hu;have hn:=z1 u h1;refine⟨(zcz n2 z2 hn).1 ?_,by show c (u.1+by'-by')=true;rw [show u.1+by'-by'=u.1 by omega];exact h2⟩;rw [← h u.1 h2];exact (zcz n1 z1 hn).2 h1
   ·rintro ⟨h1,h2⟩;have hn:=z2 q h1;refine⟨(q.1-by',q.2),zoR.2 ⟨(zcz n1 z1 hn).1 ?_,h2⟩,Prod.ext (by show q.1-by'+by'=q.1;omega) rfl⟩;rw [h _ h2,show q.1-by'+by'=q.1 by omega];exact (zcz n2 z2 hn).2 h1
theorem zh9 {α:Type} {x y:α} {l:List α} (h:l≠[]) (e:(x::l).getLast?=some y):l.getLast?=some y:=by
 cases l with
 | nil=>exact (h rfl).elim
 | cons u r=>rw [List.getLast?_cons_cons] at e;exact e
theorem zg1 {m:Ma}:∀ (e j:Nat) (x y:St3),(tr m e x).length=e+1->(tr m e x).getLast?=some y->tr m (e+j) x=(tr m e x).dropLast++tr m j y
 | 0,j,x,y,_,h2=>by
  have:x=y:=by simpa [tr] using h2
  subst this;rw [Nat.zero_add];rfl
 | e+1,j,x,y,h1,h2=>by
  cases hs:stN m x with
  | none=>rw [zbm hs] at h1;simp at h1
  | some z =>
   rw [za7 hs] at h1 h2 ⊢;have hz:=zh9 (zj0 m e z) h2;rw [show e+1+j=(e+j)+1 by omega,za7 hs,zg1 e j z y (by simpa using h1) hz];obtain⟨l,hl⟩:=zdW m e z;rw [hl]
   rfl
theorem zdX {m:Ma}:∀ (e l:Nat) (x:St3),e<=l->(tr m l x).length=l+1->(tr m e x).length=e+1
 | 0,l,x,_,_=>rfl
 | e+1,l,x,h,hl=>by
  obtain⟨l,rfl⟩:∃ i,l=i+1:=⟨l-1,by omega⟩;cases hs:stN m x with
  | none=>rw [zbm hs] at hl;simp at hl
  | some z =>
   rw [za7 hs] at hl ⊢
   have:=zdX e l z (by omega) (by simpa using hl)
   simp [this]
abbrev s00:St3:=(0,0,[])
def zfc (m:Ma) (l:Nat):Prop:=(tr m l s00).length=l+1/\∀ y,(tr m l s00).getLast?=some y->ent m y.1 y.2.1 y.2.2≠some []
def zkO (z x:St3):Prop:=z.1=x.1/\z.2.1=x.2.1/\z.2.2.Perm x.2.2/\Srt z.2.2
theorem zgC {z1 z2 x y:St3} {lo hi:Int} (h1:zkO z1 x) (h2:zkO z2 y) (n1:(x.2.2.map (·.1)).Nodup) (n2:(y.2.2.map (·.1)).Nodup):led z1 z2 lo hi=led x y lo hi:=by
 unfold led;refine decide_eq_decide.2 ?_;unfold Led;obtain⟨a1,a2,a3,_⟩:=h1;obtain⟨b1,b2,b3,_⟩:=h2;rw [a1,a2,b1,b2];simp only [zi1 a3 n1,zi1 b3 n2]
theorem zeU:∀ {xs ys:Mk2},xs.Nodup->(∀ q∈xs,q∈ys)->xs.length=ys.length->xs.Perm ys
 | [],ys,_,_,hl=>by
  have:ys=[]:=List.length_eq_zero_iff.1 hl.symm
  rw [this]
 | x::xs,ys,nd,h,hl=>by
  have hx:=h x (by simp);have nd:=List.nodup_cons.1 nd;have pe:=List.perm_cons_erase hx;refine (List.Perm.cons x (zeU nd.2 (fun q hq=>?_) ?_)).trans pe.symm
  ·exact (List.mem_erase_of_ne (fun e:q=x=>nd.1 (by rw [← e];exact hq))).2 (h q (by simp [hq]))
  ·have:=pe.length_eq
   rw [zpa] at this hl;omega
theorem zgm {z1 z2 x y:St3} (h1:zkO z1 x) (h2:zkO z2 y) (n1:(x.2.2.map (·.1)).Nodup) (n2:(y.2.2.map (·.1)).Nodup):@decide (z1=z2) (Classical.propDecidable _)=eqS x y:=by
 obtain⟨a1,a2,a3,a4⟩:=h1;obtain⟨b1,b2,b3,b4⟩:=h2;have key:(z1.2.2=z2.2.2)↔eqM x.2.2 y.2.2=true:=by
  unfold eqM;rw [Bool.and_eq_true,beq_iff_eq,zoX]
  constructor
  ·intro e;have p:x.2.2.Perm y.2.2:=a3.symm.trans (e ▸ b3);exact⟨p.length_eq,fun q hq=>zoD ((zcg n2).2 (p.mem_iff.1 hq))⟩
  ·rintro ⟨hl,hall⟩;have sub:∀ q∈x.2.2,q∈y.2.2:=fun q hq=>(zcg n2).1 (zpi (hall q hq))
   have nx:x.2.2.Nodup:=(List.pairwise_map.1 n1).imp fun {u v} z e=>z (by rw [e])
   have ny:y.2.2.Nodup:=(List.pairwise_map.1 n2).imp fun {u v} z e=>z (by rw [e])
   have p:x.2.2.Perm y.2.2:=zeU nx sub hl;exact zgj (a3.trans (p.trans b3.symm)) a4 b4
 show _=(decide (x.1=y.1) && (decide (x.2.1=y.2.1) && eqM x.2.2 y.2.2));by_cases c1:x.1=y.1
 ·by_cases c2:x.2.1=y.2.1
  ·by_cases c3:eqM x.2.2 y.2.2=true
   ·rw [c3,zoD c1,zoD c2];exact @zoD _ (Classical.propDecidable _) (Prod.ext (by rw [a1,b1,c1]) (Prod.ext (by rw [a2,b2,c2]) (key.2 c3)))
   ·have c4:eqM x.2.2 y.2.2=false:=by simpa using c3
    rw [c4,Bool.and_false,Bool.and_false];exact @zoE _ (Classical.propDecidable _) fun e=>c3 (key.1 (by rw [e]))
  ·rw [zoE c2,Bool.false_and,Bool.and_false];exact @zoE _ (Classical.propDecidable _) fun e=>c2 (by rw [← a2,← b2,e])
 ·rw [zoE c1,Bool.false_and];exact @zoE _ (Classical.propDecidable _) fun e=>c1 (by rw [← a1,← b1,e])
theorem zmp {p q:Int × Int}:eqD (dP p) (dP q)=decide (p=q):=by
 show (p.1 == q.1 && (p.2 == q.2 && true))=_;by_cases a:p.1=q.1
 ·by_cases b:p.2=q.2
  ·rw [Prod.ext a b];simp
  ·have:¬ p=q:=fun e=>b (by rw [e])
   simp [a,b,this]
 ·have:¬ p=q:=fun e=>a (by rw [e])
  simp [a,this]
theorem zhU:∀ ks js:Mk2,zeb (ks.map dP) (js.map dP)=decide (ks=js)
 | [],[]=>rfl
 | [],_::_=>rfl
 | _::_,[]=>rfl
 | p::ks,q::js=>by
  show (eqD (dP p) (dP q) && zeb (ks.map dP) (js.map dP))=_;rw [zmp,zhU ks js];by_cases c:p=q
  ·subst c;by_cases d:ks=js <;> simp [d]
  ·simp [c]
theorem zmu {x y:St3}:eqD (dT x) (dT y)=@decide (x=y) (Classical.propDecidable _):=by
 show (x.1 == y.1 && (x.2.1 == y.2.1 && (zeb (x.2.2.map dP) (y.2.2.map dP) && true)))=_;rw [zhU];by_cases c1:x.1=y.1
 ·by_cases c2:x.2.1=y.2.1
  ·by_cases c3:x.2.2=y.2.2
   ·have:x=y:=Prod.ext c1 (Prod.ext c2 c3)
    simp [this]
   ·have:¬ x=y:=fun e=>c3 (by rw [e])
    simp [c1,c2,c3,this]
  ·have:¬ x=y:=fun e=>c2 (by rw [e])
   simp [c1,c2,this]
 ·have:¬ x=y:=fun e=>c1 (by rw [e])
  simp [c1,this]
section
variable {X:Cx} {pins:List (Addr × Obj)} {σ:St} {H:Hp} {s:Shared}
open PySem.SeqAt
end
theorem zbI {m:Ma}:∀ (l N:Nat) (x:St3),l<=N->tr m l x=(tr m N x).take (l+1)
 | 0,N,x,_=>by
  obtain⟨r,hr⟩:=zdW m N x;rw [hr];rfl
 | l+1,N,x,h=>by
  obtain⟨N,rfl⟩:∃ i,N=i+1:=⟨N-1,by omega⟩;cases hs:stN m x with
  | none=>rw [zbm hs,zbm hs];rfl
  | some z=>rw [za7 hs,za7 hs,List.take_succ_cons,zbI l N z (by omega)]
theorem zgn {m:Ma}:∀ (N:Nat) (x:St3) (i:Nat) (y:St3),(tr m N x)[i]?=some y->i+1<(tr m N x).length->ent m y.1 y.2.1 y.2.2≠some []
 | 0,x,i,y,_,h=>by simp [tr] at h
 | N+1,x,i,y,hy,h=>by
  cases hs:stN m x with
  | none=>rw [zbm hs] at h;simp at h
  | some z =>
   rw [za7 hs] at hy h;cases i with
   | zero =>
    cases hy;intro e;rw [zg0 e] at hs;cases hs
   | succ i=>exact zgn N z i y (by simpa using hy) (by simpa using h)
end L2
end
section
set_option autoImplicit true
open PySem
namespace L2
end L2
end
section
namespace L2
open PySem PySem.Spec PyProof.Rows PySem.W
section
variable {X:Cx}
end
section
variable {X:Cx} {K:PySem.W.Frag} {e st:Expr} {te:TE} {ts:TO} {pos p2:Pos}
end
end L2
end
section
namespace L2
open PySem PySem.Spec PyProof.Rows PySem.W
end L2
end
section
namespace L2
open PySem PySem.Spec PyProof.Rows PySem.W
def zk4 (m:Ma) (r s:Int):Option En:=(m[r.toNat]?).bind fun es=>es[s.toNat]?
def zeW (F:Int->Int) (p s:Int):Int->Int:=fun q=>if q=p then s else F q
def zd7 (m:Ma):Nat->Int->Int->(Int->Int)->Prop
 | 0,r,p,F=>zk4 m r (F p)=some []
 | n+1,r,p,F=>∃ s w r',zk4 m r (F p)=some [s,w,r']/\zd7 m n r' (p+w) (zeW F p s)
theorem zeP (ks:Mk2) (p s:Int):vz (nxt ks p s)=zeW (vz ks) p s:=by
 funext q
 exact zlm ks p q s
theorem zly {ks js:Mk2} (h:js.Perm ks) (nd:(ks.map (·.1)).Nodup):vz js=vz ks:=by
 funext q
 show (zbs js q).getD 0=(zbs ks q).getD 0;rw [ze9 h nd]
theorem zlo {m:Ma} {r p:Int} {ks:Mk2} {s w r':Int} (h:OkS m r ks) (hO:zaz m.length (sgn m) [s,w,r']=true):OkS m r' (nxt ks p s):=by
 obtain⟨s',w',r'',e,a0,a1,a2,a3,a4⟩:=zaH hO (by intro z;cases z);injection e with e1 e
 injection e with e2 e
 injection e with e3 _
 subst e1 e2 e3;exact h.nxt a0 a1 a3 a4
end L2
end
section
namespace L2
open PySem PySem.Spec PyProof.Rows PySem.W
section
variable {X:Cx}
def rIsB:R2:=fun x y H Q=>match x,y with | .bl a,.bl b=>Q (.bl (decide (a=b))) H | _,_=>False
theorem zmR:OpR X (compareOp .Is) rIsB:=by
 intro pins s σ H x y v u Q I rx ry h;unfold rIsB at h;split at h
 ·rename_i a b;cases rx;cases ry;refine wpAny_is_plain (by cases a <;> cases b <;> rfl) ?_;refine⟨_,H,I,?_,h⟩;cases a <;> cases b <;> rfl
 ·exact h.elim
end
def Nev (m:Ma) (d:Nat):Prop:=∀ n,n<d->¬ zd7 m n 0 0 (vz [])
theorem zdA {m:Ma} {x:St3} (M:OkM m) (o:OkS m x.1 x.2.2):ent m x.1 x.2.1 x.2.2=some []\/∃ s w r,ent m x.1 x.2.1 x.2.2=some [s,w,r]/\stN m x=some (r,x.2.1+w,nxt x.2.2 x.2.1 s)/\OkS m r (nxt x.2.2 x.2.1 s):=by
 obtain⟨es,e,h1,h2,h3,h4,h5⟩:=o.at M x.2.1;by_cases z:e=[]
 ·left;rw [h3,z]
 ·obtain⟨s,w,r,rfl,_⟩:=zaH h4 z;exact .inr ⟨s,w,r,h3,by unfold stN;rw [h3],zlo o h4⟩
theorem ziS {m:Ma} (M:OkM m):∀ (k:Nat) (x y:St3),OkS m x.1 x.2.2->(tr m k x).getLast?=some y->ent m y.1 y.2.1 y.2.2=some []->∃ n,n<=k/\zd7 m n x.1 x.2.1 (vz x.2.2)
 | 0,x,y,o,h,he=>by
  cases h;exact⟨0,zoN _,he⟩
 | k+1,x,y,o,h,he=>by
  rcases zdA M o with h0 | ⟨s,w,r,h1,h2,h3⟩
  ·exact⟨0,Nat.zero_le _,h0⟩
  ·rw [za7 h2] at h;have hl:(tr m k (r,x.2.1+w,nxt x.2.2 x.2.1 s)).getLast?=some y:=by
    rw [List.getLast?_cons] at h;have ne:=zj0 m k (r,x.2.1+w,nxt x.2.2 x.2.1 s);cases e:(tr m k (r,x.2.1+w,nxt x.2.2 x.2.1 s)).getLast? with
    | none=>exact absurd (List.getLast?_eq_none_iff.1 e) ne
    | some z=>rw [e] at h;exact h
   obtain⟨n,hn,hE⟩:=ziS M k _ y h3 hl he;exact⟨n+1,by omega,s,w,r,h1,by rw [← zeP];exact hE⟩
theorem zhS {m:Ma} (M:OkM m):∀ (k n:Nat) (x y:St3),OkS m x.1 x.2.2->n<=k->zd7 m n x.1 x.2.1 (vz x.2.2)->(tr m k x).getLast?=some y->ent m y.1 y.2.1 y.2.2=some []
 | k,0,x,y,o,_,hE,h=>by
  have hE:ent m x.1 x.2.1 x.2.2=some []:=hE;rw [zbm (by unfold stN;rw [hE])] at h;cases h;exact hE
 | 0,n+1,x,y,o,hn,_,_=>by omega
 | k+1,n+1,x,y,o,hn,⟨s,w,r,h1,hE⟩,h=>by
  have h1:ent m x.1 x.2.1 x.2.2=some [s,w,r]:=h1;have h2:stN m x=some (r,x.2.1+w,nxt x.2.2 x.2.1 s):=by unfold stN;rw [h1]
  rw [za7 h2] at h;have hl:(tr m k (r,x.2.1+w,nxt x.2.2 x.2.1 s)).getLast?=some y:=by
   rw [List.getLast?_cons] at h;have ne:=zj0 m k (r,x.2.1+w,nxt x.2.2 x.2.1 s);cases e:(tr m k (r,x.2.1+w,nxt x.2.2 x.2.1 s)).getLast? with
   | none=>exact absurd (List.getLast?_eq_none_iff.1 e) ne
   | some z=>rw [e] at h;exact h
  have h3:OkS m r (nxt x.2.2 x.2.1 s):=by
   rcases zdA M o with h0 | ⟨s',w',r',h1',_,h3'⟩
   ·rw [h1] at h0;cases h0
   ·rw [h1] at h1';injection h1' with e
    injection e with e1 e
    injection e with e2 e
    injection e with e3 _
    subst e1 e2 e3;exact h3'
  exact zhS M k n _ y h3 (by omega) (by rw [zeP];exact hE) hl
theorem zlk {m:Ma} (M:OkM m) {k:Nat} {y:St3} (h:(tr m k (0,0,[])).getLast?=some y):Nev m (k+1)↔ent m y.1 y.2.1 y.2.2≠some []:=by
 constructor
 ·intro hN he;obtain⟨n,hn,hE⟩:=ziS M k (0,0,[]) y M.start h he;exact hN n (by omega) hE
 ·intro hne n hn hE;exact hne (zhS M k n (0,0,[]) y M.start (by omega) hE h)
end L2
end
section
namespace L2
open PySem PySem.Spec PyProof.Rows PySem.W
abbrev znE (lo hi:Int) (t u v:Tok):Obj:={ cls:=.type "range",data:=.fields #[.int lo t,.int hi u,.int 1 v] }
theorem zfl {prog:Program} {w:World} {A:Around} {E:Value->Shared->Prop} {s:Shared} {r:Addr} {lo hi:Int} {t u v:Tok} {Q:Value->Shared->Prop} (hr:s.heap.get? r=some (znE lo hi t u v))
  (h:wpAny (model prog w) A.in1 (call (.builtin "range.__reversed__") [.ref r]) Q E s) :
  codeAny (model prog w) A (.call (.builtin "reversed.__new__") ⟨[.type "reversed",.ref r],[]⟩) (wants Q E) s:=by
 refine codeAny_of_tree ?_;refine wpAny_bind (wpAny_of_eq (F.newCall_reversed_1 _) ?_);refine wpAny_pure ⟨plainId_quiet F.plain_reversed_new _,?_⟩;refine codeAny_builtin F.entry_reversed_new ?_;rw [Around.under_plainId F.plain_reversed_new];unfold Builtin.«reversed.__new__»;refine wpAny_bind (wpAny_of_eq (newClass_reversed _) ?_);refine wpAny_bind (wpAny_of_eq (a:=()) (by first | rfl | (with_unfolding_all rfl)) ?_);refine wpAny_bind (wpAny_of_eq (a:=()) (by first | rfl | (with_unfolding_all rfl)) ?_);refine wpAny_bind (wpAny_specialOf (T:="range") ⟨_,hr,rfl⟩ F.slot_range_reversed.lookup ?_);refine wpAny_bind (wpAny_of_eq (F.slot_range_reversed.bind _) ?_);refine wpAny_bind (wpAny_rule ?_);refine wpAny_bind (wpAny_mono h (fun x s' hq=>?_) (fun x s' hq=>?_))
 ·exact wpAny_pure hq
 ·exact hq
theorem zd0 {prog:Program} {w:World} {A:Around} {E:Value->Shared->Prop} {s:Shared} {r:Addr} {lo hi:Int} {t u v:Tok} {Q:Value->Shared->Prop} (hr:s.heap.get? r=some (znE lo hi t u v)) (hl:-(2 ^ 61)<=lo/\lo<2 ^ 61) (hh:-(2 ^ 61)<=hi/\hi<2 ^ 61)
  (q:Q (.ref s.heap.objs.size) { s with heap:=s.heap.push { cls:=.type "range_iterator",data:=.fields #[rawInt (lo+(Builtin.Range.rangeSize lo hi 1-1)*1),rawInt (Builtin.Range.rangeSize lo hi 1),rawInt (-1)] } }) :
  wpAny (model prog w) A (call (.builtin "range.__reversed__") [.ref r]) Q E s:=by
 refine call_meets F.slot_range_reversed ⟨_,hr,rfl⟩ F.entry_range_reversed (F.args_range_reversed_1 _) (S:=fun A R s=>∃ hr:s.heap.get? r=some (znE lo hi t u v),R (.ok (.ret (.ref s.heap.objs.size))) { s with heap:=s.heap.push { cls:=.type "range_iterator",data:=.fields #[rawInt (lo+(Builtin.Range.rangeSize lo hi 1-1)*1),rawInt (Builtin.Range.rangeSize lo hi 1),rawInt (-1)] } }) ?_ ⟨hr,q⟩;intro prog w A R s ⟨hr,q⟩;unfold Builtin.«range.__reversed__»;refine wpAny_bind (wpAny_of_eq (a:=.ref r) (by first | rfl | (with_unfolding_all rfl)) ?_);unfold Builtin.Range.rangeFields;refine wpAny_bind (wpAny_bind (wpAny_field hr rfl rfl (wpAny_bind (wpAny_of_eq rfl (wpAny_bind (wpAny_field hr rfl rfl (wpAny_bind (wpAny_of_eq rfl (wpAny_bind (wpAny_field hr rfl rfl (wpAny_bind (wpAny_of_eq rfl (wpAny_pure ?_)))))))))))));have hs:∀ x:Int,-(2 ^ 62)<=x->x<2 ^ 62->Builtin.Range.rangeFitsLong x=true:=by
  intro x h1 h2;unfold Builtin.Range.rangeFitsLong;simp
  omega
 have hn:Builtin.Range.rangeSize lo hi 1=if lo<hi then hi-lo else 0:=rangeSize_one lo hi
 have hsm:(Builtin.Range.rangeFitsLong lo && Builtin.Range.rangeFitsLong hi && Builtin.Range.rangeFitsLong 1 && Builtin.Range.rangeFitsLong (-1) && Builtin.Range.rangeFitsLong (lo-1) && Builtin.Range.rangeFitsLong (Builtin.Range.rangeSize lo hi 1))=true:=by
  rw [hs lo (by omega) (by omega),hs hi (by omega) (by omega),hs 1 (by omega) (by omega),hs (-1) (by omega) (by omega),hs (lo-1) (by omega) (by omega),hs _ (by rw [hn];split <;> omega) (by rw [hn];split <;> omega)]
  rfl
 show wpAny (model prog w) A.in1 (if (!(Builtin.Range.rangeFitsLong lo && Builtin.Range.rangeFitsLong hi && Builtin.Range.rangeFitsLong 1 && Builtin.Range.rangeFitsLong (-1) && Builtin.Range.rangeFitsLong (lo-1) && Builtin.Range.rangeFitsLong (Builtin.Range.rangeSize lo hi 1)))=true then _ else (newFields (if (Builtin.Range.rangeFitsLong lo && Builtin.Range.rangeFitsLong hi && Builtin.Range.rangeFitsLong 1 && Builtin.Range.rangeFitsLong (-1) && Builtin.Range.rangeFitsLong (lo-1) && Builtin.Range.rangeFitsLong (Builtin.Range.rangeSize lo hi 1))=true then "range_iterator" else "longrange_iterator") [rawInt (lo+(Builtin.Range.rangeSize lo hi 1-1)*1),rawInt (Builtin.Range.rangeSize lo hi 1),rawInt (-1)] >>= fun x=>ret x)) _ _ s;rw [hsm];refine wpAny_bind (wpAny_bind (wpAny_alloc (wpAny_pure (wpAny_pure q))))
theorem zcA {prog:Program} {w:World} {A:Around} {E:Value->Shared->Prop} {s:Shared} {r:Addr} {lo hi:Int} {t u v:Tok} {Q:Value->Shared->Prop} (hr:s.heap.get? r=some (znE lo hi t u v)) (hl:-(2 ^ 61)<=lo/\lo<2 ^ 61) (hh:-(2 ^ 61)<=hi/\hi<2 ^ 61)
  (q:Q (.ref s.heap.objs.size) { s with heap:=s.heap.push { cls:=.type "range_iterator",data:=.fields #[rawInt (lo+(Builtin.Range.rangeSize lo hi 1-1)*1),rawInt (Builtin.Range.rangeSize lo hi 1),rawInt (-1)] } }) :
  wpAny (model prog w) A (call (.type "reversed") [.ref r]) Q E s:=by
 refine callType_other (U:="range_iterator") (Q₁:=fun v s'=>v=.ref s.heap.objs.size/\s'={ s with heap:=s.heap.push { cls:=.type "range_iterator",data:=.fields #[rawInt (lo+(Builtin.Range.rangeSize lo hi 1-1)*1),rawInt (Builtin.Range.rangeSize lo hi 1),rawInt (-1)] } }) (by decide) F.create_reversed ⟨_,_,F.mro_reversed⟩ F.made_reversed ?_ (F.typeCall_reversed_1 _) (zfl hr (zd0 hr hl hh ⟨rfl,rfl⟩)) ?_
 ·with_unfolding_all rfl
 ·rintro obj s1 ⟨rfl,rfl⟩;exact⟨⟨_,zo8 _ rfl,rfl⟩,q⟩
def Itd (hi:Int) (n:Nat):It:=⟨fun i _=>i<n,fun i H x H'=>H'=H/\x=.int (hi-i),fun i _=>n<=i⟩
theorem ziW {P:Program} {w:World} {K:PySem.W.Frag} {tg:Expr} (it:Addr) (hi:Int) (n:Nat):zl5 P w K tg (Itd hi n) [it] it (fun i h=>IsRangeIter h it (hi+(i:Nat)*(-1)) ((n:Int)-(i:Nat)) (-1)) where
 mem:=by simp
 obj:=fun i h st b hb=>by
  have e:b=it:=by simpa using hb
  subst e;exact⟨_,st,fun v z=>by
   have z':Data.fields _=Data.cell v:=z;cases z'⟩
 keep:=fun i h h' st k=>k it (by simp) _ st
 item:=by
  intro X hP hw hK hc i pins s σ H E I hf st hg;subst hP hw hK;obtain⟨f0,f1,f2,f3,f4,f5⟩:=hf it (by simp);have W:=Walks.range (prog:=X.prog) (w:=X.w) (I.ok.hd hc) it hi (-1) n;refine W.item i s _ _ hg st fun v h' tk hv st' kk=>?_
  obtain⟨t,rfl⟩:=hv;have I1:Inv X pins σ H { s with heap:=h',toks:=tk }:=I.turned (fun b o hb e=>kk b o (by simpa using hb) e) f0 f1 f3 f4 f5;refine⟨_,rfl,zk8 (s:={ s with heap:=h',toks:=tk }) (n:="range_iterator") st' rfl rfl (by decide) ⟨.int (hi-i),H,I1,⟨t,?_⟩,⟨rfl,rfl⟩,st',fun b hb=>(hf b hb).1⟩⟩;rw [show hi+(i:Int)*(-1)=hi-i by omega]
 done:=by
  intro X hP hw hK hc i pins s σ H E I hf st hg;subst hP hw hK;obtain⟨f0,f1,f2,f3,f4,f5⟩:=hf it (by simp);exact wpAny_pyNext_range_end (I.ok.hd hc) st (by have:n<=i:=hg;omega) fun h' eb=>⟨rfl,I.turned (t':=s.toks) (fun b o hb e=>eb b o hb e) f0 f1 f3 f4 f5⟩
 self:=fun _ _ _ _ _ st h=>wpAny_pyIter_rangeiter st h
theorem zfW:bootBuiltins "reversed"=some (.type "reversed"):=by decide +kernel
section
variable {X:Cx}
def zml:List V->Hp->VK->Prop:=fun xs H Q=>match xs with | [.int j]=>∀ p,H p=none->Q (.ref p) (upd H p (.rng 0 j)) | _=>False
theorem znd:zbu X (.type "range") zml:=by
 intro pins s σ H xs us Q I r h;unfold zml at h;split at h
 ·rename_i j;cases r with
  | cons r rr =>
  cases rr;obtain⟨t,rfl⟩:=r;refine call_range_1 ?_;refine⟨.ref s.heap.objs.size,_,I.laid (a:=s.heap.objs.size) (o:=.rng 0 j) (fun b o e=>zoK _ e) (zoN _) ⟨_,_,_,zo8 _ rfl⟩,rfl,h _ (I.hok.fresh (zoN _))⟩
 ·exact h.elim
def znN (ta:TA):TI:=fun σ H R=>ta σ H fun vs H1=>match vs with
 | [.ref r]=>∃ j:Int,H1 r=some (.rng 0 j)/\(0<=j/\j<=1000000)/\R (Itd (j-1) j.toNat) H1
 | _=>False
theorem zlP {tg a:Expr} {ta:TA} {p pos:Pos} (hg:Gl X "reversed") (hm:X.mg "reversed"=none) (ha:PA X [a] ta) (hs:starEach [a] X.env=[(false,eval a X.env)]:=by rfl):PI X tg (.Call (.Name "reversed" p) [a] [] pos) (znN ta):=by
 intro pins s σ H R I h;refine Call_ (zeh I hg hm zfW (PyProof.Rows.callWith_type1 (thn (ha pos pins s σ H _ I h) fun us s1 ⟨vs,H1,I1,r1,q1⟩=>?_) hs rfl));obtain⟨r,rfl,j,hr,⟨j0,j1⟩,q⟩:∃ r,vs=[.ref r]/\∃ j:Int,H1 r=some (.rng 0 j)/\(0<=j/\j<=1000000)/\R (Itd (j-1) j.toNat) H1:=by
  dsimp only at q1;split at q1
  ·exact⟨_,rfl,q1⟩
  ·exact q1.elim
 cases r1 with
 | cons r2 rr =>
  cases rr;cases r2;obtain⟨t,u,v,hg'⟩:=(show zaV X.prog X.w H1 s1.heap r (.rng 0 j) from I1.hok r _ hr);refine zcA hg' ⟨by decide,by decide⟩ ⟨by omega,by omega⟩ ?_;have hn:Builtin.Range.rangeSize 0 j 1=j:=by rw [rangeSize_one];split <;> omega
  rw [hn];refine wpAny_pyIter_rangeiter (it:=s1.heap.objs.size) (zo8 _ rfl) ?_;refine⟨s1.heap.objs.size,[s1.heap.objs.size],_,_,H1,rfl,I1.kept (t':=s1.toks) fun b o e=>zoK _ e,ziW _ (j-1) j.toNat,?_,fun b hb=>?_,q⟩
  ·have e1:(j-1)+((0:Nat):Int)*(-1)=0+(j-1)*1:=by omega
   have e2:((j.toNat:Nat):Int)-((0:Nat):Int)=j:=by omega
   rw [e1,e2];exact zo8 _ rfl
  ·have e:b=s1.heap.objs.size:=by simpa using hb
   subst e;exact I1.fpOk (zoN _) (I1.hok.fresh (zoN _))
end
theorem zjg {hi:Int} {n:Nat} {g:TG} {tb:TS} {D:zi2} {σ:St} {H:Hp} (Pv:Nat->St->Hp->Prop) (h0:Pv 0 σ H)
  (hs:∀ i σ H,i<n->Pv i σ H->g (.int (hi-i)) σ H fun σ2 H2=>tb { D with nx:=Pv (i+1),ct:=Pv (i+1),bk:=D.nx } σ2 H2) (hd:∀ σ H,Pv n σ H->D.nx σ H) :
  ∃ W:Nat->Nat->St->Hp->Prop,(∃ m,W 0 m σ H)/\∀ i m σ H,W i m σ H ->
   ((Itd hi n).stop i H/\D.nx σ H)\/((Itd hi n).go i H/\∃ N:St->Hp->Prop,(∀ σ' H',N σ' H'->∃ m',m'<m/\W (i+1) m' σ' H')/\∀ x H',(Itd hi n).yld i H x H'->g x σ H' fun σ2 H2=>tb { D with nx:=N,ct:=N,bk:=D.nx } σ2 H2):=by
 refine⟨fun i m σ H=>m=n-i/\i<=n/\Pv i σ H,⟨n,by simp,Nat.zero_le _,h0⟩,?_⟩;rintro i m σ H ⟨rfl,hi',pv⟩;by_cases hlt:i<n
 ·refine .inr ⟨hlt,Pv (i+1),fun σ' H' p'=>⟨n-(i+1),by omega,rfl,hlt,p'⟩,fun x H' y=>?_⟩;obtain⟨e,y⟩:=y;subst e y;exact hs i σ _ hlt pv
 ·have e:i=n:=by omega
  subst e;exact .inl ⟨zoN _,hd σ H pv⟩
abbrev plc (x:St3):Int:=x.2.1
def slc (X:List St3) (e l:Nat):List Int:=(((X.drop e).take (l-e)).map plc)
def DrX (X:List St3) (e l:Nat):Prop:=∃ x y lo hi,X[e]?=some x/\X[l]?=some y/\zdZ lo (slc X e l)/\zdY hi (slc X e l)/\led x y lo hi=true
def DrP (m:Ma) (e l:Nat):Prop:=e<l/\zfc m l/\DrX (tr m l s00) e l
theorem zgZ {X:List St3} {e l:Nat} {x:St3} (h:e<l) (hx:X[e]?=some x):slc X e l=x.2.1::slc X (e+1) l:=by
 unfold slc;obtain⟨hl,rfl⟩:=zoB.1 hx;rw [zpl hl,show l-e=(l-(e+1))+1 by omega,List.take_succ_cons,zo0]
theorem zgu {m:Ma} {N l e:Nat} (hl:l<=N) (he:e<l):DrX (tr m l s00) e l↔DrX (tr m N s00) e l:=by
 have h1:∀ i,i<=l->(tr m l s00)[i]?=(tr m N s00)[i]?:=fun i hi=>by rw [zbI l N s00 hl,List.getElem?_take,zpc (by omega)]
 have h2:slc (tr m l s00) e l=slc (tr m N s00) e l:=by
  unfold slc
  congr 1
  apply List.ext_getElem?
  intro i;rw [List.getElem?_take,List.getElem?_take];split
  ·rw [List.getElem?_drop,List.getElem?_drop,h1 (e+i) (by omega)]
  ·rfl
 unfold DrX;rw [h1 e (by omega),h1 l (zoN _),h2]
theorem zhR {m:Ma} {N l e:Nat} (hl:l<=N) (he:e<l) (hX:l<(tr m N s00).length) (h:DrX (tr m N s00) e l):zfc m l:=by
 obtain⟨x,y,lo,hi,hx,hy,hlo,hhi,hled⟩:=h;have hled:Led x y lo hi:=@zpi _ (Classical.propDecidable _) hled;have hgo:=zgn N s00 e x hx (by omega);have hsx:x.2.1∈slc (tr m N s00) e l:=by rw [zgZ he hx];simp
 have hv:vz x.2.2 x.2.1=vz y.2.2 y.2.1:=by
  rcases hled.2 with ⟨_,b⟩ | ⟨_,b⟩
  ·have:=b x.2.1 (hlo.2 _ hsx)
   rw [this,show x.2.1+(y.2.1-x.2.1)=y.2.1 by omega]
  ·have:=b x.2.1 (hhi.2 _ hsx)
   rw [this,show x.2.1+(y.2.1-x.2.1)=y.2.1 by omega]
 have hent:ent m y.1 y.2.1 y.2.2=ent m x.1 x.2.1 x.2.2:=by
  unfold ent;rw [← hled.1];have hv:(zbs x.2.2 x.2.1).getD 0=(zbs y.2.2 y.2.1).getD 0:=hv;rw [hv]
 have hlen:(tr m l s00).length=l+1:=by rw [zbI l N s00 hl,zoW];omega
 refine⟨hlen,fun z hz=>?_⟩;rw [List.getLast?_eq_getElem?,hlen,show l+1-1=l by omega,zbI l N s00 hl,List.getElem?_take,zpc (by omega),hy] at hz;cases hz;rw [hent];exact hgo
theorem zk0 {m:Ma} {N l e:Nat} (hl:l<=N) (hX:l<(tr m N s00).length) (he:e<l):DrP m e l↔DrX (tr m N s00) e l :=
 ⟨fun h=>(zgu hl he).1 h.2.2,fun h=>⟨he,zhR hl he hX h,(zgu hl he).2 h⟩⟩
def zg5 (m:Ma) (N:Nat):Option (Nat × Nat)->Prop
 | none=>∀ l,l<=N->∀ e,¬ DrP m e l
 | some (e,l)=>l<=N/\DrP m e l/\(∀ l',l'<l->∀ e',¬ DrP m e' l')/\∀ e',e'<e->¬ DrP m e' l
theorem zg5.one {m:Ma} {N:Nat}:∀ {r r':Option (Nat × Nat)},zg5 m N r->zg5 m N r'->r=r'
 | none,none,_,_=>rfl
 | none,some (e,l),h,h'=>(h l h'.1 e h'.2.1).elim
 | some (e,l),none,h,h'=>(h' l h.1 e h.2.1).elim
 | some (e,l),some (e',l'),h,h'=>by
  have hl:l=l':=by
   rcases Nat.lt_trichotomy l l' with c | c | c
   ·exact (h'.2.2.1 l c e h.2.1).elim
   ·exact c
   ·exact (h.2.2.1 l' c e' h'.2.1).elim
  subst hl;rcases Nat.lt_trichotomy e e' with c | c | c
  ·exact (h'.2.2.2 e c h.2.1).elim
  ·rw [c]
  ·exact (h.2.2.2 e' c h'.2.1).elim
theorem zlW {X:List St3} {e l j:Nat} {y:St3} (h1:e<=j) (h2:j<l) (hy:X[j]?=some y):y.2.1∈slc X e l:=by
 unfold slc;refine zoP.2 ⟨y,zoC (i:=j-e) ?_,rfl⟩;rw [List.getElem?_take,zpc (by omega),List.getElem?_drop,show e+(j-e)=j by omega];exact hy
theorem zmL {lo p a m:Int} {S:List Int} (h:zdZ lo (a::S)) (hm:m=if p<lo then p else lo):zdZ m (a::p::S):=by
 subst hm;refine⟨?_,fun n hn=>?_⟩
 ·split
  ·simp
  ·rcases zpg.1 h.1 with rfl | hh
   ·simp
   ·exact zoQ _ (zoQ _ hh)
 ·rcases zpg.1 hn with rfl | hn
  ·have:=h.2 n (by simp);split <;> omega
  ·rcases zpg.1 hn with rfl | hn
   ·split <;> omega
   ·have:=h.2 n (zoQ _ hn);split <;> omega
theorem zmy {hi p a m:Int} {S:List Int} (h:zdY hi (a::S)) (hm:m=if hi<p then p else hi):zdY m (a::p::S):=by
 subst hm;refine⟨?_,fun n hn=>?_⟩
 ·split
  ·simp
  ·rcases zpg.1 h.1 with rfl | hh
   ·simp
   ·exact zoQ _ (zoQ _ hh)
 ·rcases zpg.1 hn with rfl | hn
  ·have:=h.2 n (by simp);split <;> omega
  ·rcases zpg.1 hn with rfl | hn
   ·split <;> omega
   ·have:=h.2 n (zoQ _ hn);split <;> omega
theorem zli {lo p:Int} {l:List Int} (h:zdZ lo (p::l)) (hm:p∈l):zdZ lo l:=by
 refine⟨?_,fun n hn=>h.2 n (zoQ _ hn)⟩;rcases zpg.1 h.1 with rfl | hh
 ·exact hm
 ·exact hh
theorem zk9 {hi p:Int} {l:List Int} (h:zdY hi (p::l)) (hm:p∈l):zdY hi l:=by
 refine⟨?_,fun n hn=>h.2 n (zoQ _ hn)⟩;rcases zpg.1 h.1 with rfl | hh
 ·exact hm
 ·exact hh
end L2
end
section
namespace L2
open PySem PySem.Spec PyProof.Rows PySem.W
abbrev SF:=Int × Int × (Int->Int)
def stF (m:Ma) (S:SF):Option SF:=match zk4 m S.1 (S.2.2 S.2.1) with
 | some [s,w,r]=>some (r,S.2.1+w,zeW S.2.2 S.2.1 s)
 | _=>none
def itF (m:Ma):Nat->SF->Option SF
 | 0,S=>some S
 | n+1,S=>(stF m S).bind (itF m n)
def fs (x:St3):SF:=(x.1,x.2.1,vz x.2.2)
theorem zbd (m:Ma):∀ (a b:Nat) (S:SF),itF m (a+b) S=(itF m a S).bind (itF m b)
 | 0,b,S=>by rw [Nat.zero_add];rfl
 | a+1,b,S=>by
  rw [show a+1+b=(a+b)+1 by omega];show (stF m S).bind (itF m (a+b))=((stF m S).bind (itF m a)).bind (itF m b);cases stF m S with
  | none=>rfl
  | some U=>exact zbd m a b U
theorem zeG (m:Ma) (n:Nat) (S:SF):itF m (n+1) S=(itF m n S).bind (stF m):=by
 rw [zbd m n 1 S]
 congr 1
 funext U
 show (stF m U).bind (itF m 0)=stF m U;cases stF m U <;> rfl
def zet (m:Ma) (n:Nat) (S:SF):Prop:=∃ U,itF m n S=some U/\zk4 m U.1 (U.2.2 U.2.1)=some []
theorem zdq {m:Ma}:∀ {n:Nat} {r p:Int} {F:Int->Int},zd7 m n r p F↔zet m n (r,p,F)
 | 0,r,p,F=>⟨fun h=>⟨_,rfl,h⟩,fun ⟨U,e,h⟩=>by cases e;exact h⟩
 | n+1,r,p,F=>by
  constructor
  ·rintro ⟨s,w,r',h1,h2⟩;obtain⟨U,e,h⟩:=zdq.1 h2;refine⟨U,?_,h⟩;show (stF m (r,p,F)).bind (itF m n)=some U
   have:stF m (r,p,F)=some (r',p+w,zeW F p s):=by unfold stF;dsimp only;rw [h1]
   rw [this];exact e
  ·rintro ⟨U,e,h⟩;have e:(stF m (r,p,F)).bind (itF m n)=some U:=e;unfold stF at e;split at e
   ·rename_i s w r' h1;exact⟨s,w,r',h1,zdq.2 ⟨U,e,h⟩⟩
   ·cases e
theorem zet.from {m:Ma} {a n:Nat} {S U:SF} (h:itF m a S=some U):zet m (a+n) S↔zet m n U:=by
 unfold zet;rw [zbd,h]
 rfl
theorem zet.stop {m:Ma} {n k:Nat} {S:SF} (h:zet m n S) (hk:n<k):itF m k S=none:=by
 obtain⟨U,e,U'⟩:=h;obtain⟨j,rfl⟩:∃ j,k=n+(j+1):=⟨k-n-1,by omega⟩;rw [zbd,e];show (stF m U).bind (itF m j)=none
 have:stF m U=none:=by unfold stF;rw [U']
 rw [this]
 rfl
theorem zet.one {m:Ma} {n k:Nat} {S:SF} (h:zet m n S) (h':zet m k S):n=k:=by
 rcases Nat.lt_trichotomy n k with c | c | c
 ·have:=h.stop c;obtain⟨U,e,_⟩:=h';rw [this] at e;cases e
 ·exact c
 ·have:=h'.stop c;obtain⟨U,e,_⟩:=h;rw [this] at e;cases e
theorem zhv {m:Ma} {S U:SF} {a b:Nat} (ha:itF m a S=some U) (hb:itF m b S=some U) (hab:a<b) (n:Nat):¬ zet m n S:=fun h=>by
 by_cases c:n<b
 ·have:=h.stop c
  rw [this] at hb;cases hb
 ·have h1:zet m (n-b) U:=(zet.from (n:=n-b) hb).1 (by rw [show b+(n-b)=n by omega];exact h);have h2:=(zet.from (n:=n-b) ha).2 h1
  have:=h.one h2
  omega
structure Alg (C:Int->Prop) (D:Int) (S U:SF):Prop where
 row:S.1=U.1
 pl:U.2.1=S.2.1+D
 sg:∀ z,C z->S.2.2 z=U.2.2 (z+D)
theorem Alg.step {m:Ma} {C:Int->Prop} {D:Int} {S U S':SF} (h:Alg C D S U) (hc:C S.2.1) (hs:stF m S=some S'):∃ U',stF m U=some U'/\Alg C D S' U':=by
 have e:zk4 m U.1 (U.2.2 U.2.1)=zk4 m S.1 (S.2.2 S.2.1):=by rw [← h.row,h.pl,← h.sg _ hc]
 unfold stF at hs;split at hs
 ·rename_i s w r h1;cases hs;refine⟨(r,U.2.1+w,zeW U.2.2 U.2.1 s),by unfold stF;rw [e,h1],rfl,?_,fun z hz=>?_⟩
  ·show U.2.1+w=S.2.1+w+D;rw [h.pl];omega
  ·show zeW S.2.2 S.2.1 s z=zeW U.2.2 U.2.1 s (z+D);unfold zeW;rw [h.pl];by_cases c:z=S.2.1
   ·rw [zpc c,zpc (by omega)]
   ·rw [zpb c,zpb (by omega)];exact h.sg z hz
 ·cases hs
theorem Alg.steps {m:Ma} {C:Int->Prop} {D:Int} {S U:SF} (h:Alg C D S U):∀ (T:Nat) {S':SF},(∀ j,j<T->∀ V,itF m j S=some V->C V.2.1)->itF m T S=some S'->∃ U',itF m T U=some U'/\Alg C D S' U'
 | 0,S',_,e=>by cases e;exact⟨U,rfl,h⟩
 | T+1,S',hc,e=>by
  rw [zeG] at e;obtain⟨V,e1,e2⟩:=Option.bind_eq_some_iff.1 e;obtain⟨W,e3,e4⟩:=Alg.steps h T (fun j hj=>hc j (by omega)) e1;obtain⟨U',e5,e6⟩:=e4.step (hc T (by omega) V e1) e2;exact⟨U',by rw [zeG,e3];exact e5,e6⟩
theorem zeg {m:Ma} {T j:Nat} {S S':SF} (h:itF m T S=some S') (hj:j<=T):∃ V,itF m j S=some V:=by
 rw [show T=j+(T-j) by omega,zbd] at h;obtain⟨V,e,_⟩:=Option.bind_eq_some_iff.1 h;exact⟨V,e⟩
theorem zfr {m:Ma} {C:Int->Prop} {D:Int} (up:∀ z,C z->C (z+D)) {T:Nat} (hT:0<T):∀ (n:Nat) {S U:SF},itF m T S=some U->(∀ j,j<T->∀ V,itF m j S=some V->C V.2.1)->Alg C D S U->¬ zet m n S:=by
 intro n
 induction n using Nat.strongRecOn with
 | ind n ih =>
  intro S U U' hc hA hE;by_cases c:n<T
  ·rw [hE.stop c] at U';cases U'
  ·have h1:zet m (n-T) U:=(zet.from (n:=n-T) U').1 (by rw [show T+(n-T)=n by omega];exact hE);obtain⟨W,e1,e2⟩:=hA.steps T hc U';refine ih (n-T) (by omega) e1 (fun j hj V hV=>?_) e2 h1;obtain⟨V0,e0⟩:=zeg U' (show j<=T by omega);obtain⟨V',f1,f2⟩:=hA.steps j (fun i hi=>hc i (by omega)) e0;rw [hV] at f1;cases f1;rw [f2.pl];exact up _ (hc j hj V0 e0)
theorem zlX {m:Ma} {x y:St3} (h:stN m x=some y):stF m (fs x)=some (fs y):=by
 unfold stN at h;split at h
 ·rename_i s w r h1;cases h;have h1:zk4 m (fs x).1 ((fs x).2.2 (fs x).2.1)=some [s,w,r]:=h1;unfold stF;rw [h1];show some (r,x.2.1+w,zeW (vz x.2.2) x.2.1 s)=some (r,x.2.1+w,vz (nxt x.2.2 x.2.1 s));rw [zeP]
 ·cases h
theorem zc4 {m:Ma}:∀ (i k:Nat) (x y:St3),(tr m k x)[i]?=some y->itF m i (fs x)=some (fs y)
 | 0,k,x,y,h=>by
  rw [ziU] at h;cases h
  rfl
 | i+1,k,x,y,h=>by
  have hl:=(zoB.1 h).1;have hu:(tr m k x)[i]?=some (tr m k x)[i]:=zoz (by omega);have h1:=zc4 i k x _ hu;rw [zeG,h1];exact zlX (ziV k x i _ y hu h)
def zfT (m:Ma):Prop:=∀ n,¬ zd7 m n 0 0 (vz [])
theorem zhn {m:Ma} {e l:Nat} {x y:St3} (hel:e<l) (hx:(tr m l s00)[e]?=some x) (hy:(tr m l s00)[l]?=some y) (h1:x.1=y.1) (h2:x.2.1=y.2.1) (h3:vz x.2.2=vz y.2.2):zfT m:=fun n hE=>by
 have e1:=zc4 e l _ _ hx;have e2:=zc4 l l _ _ hy
 have:fs x=fs y:=by unfold fs;rw [h1,h2,h3]
 rw [this] at e1;exact zhv e1 e2 hel n (zdq.1 hE)
theorem zf7 {m:Ma} {e l:Nat} {x y:St3} {lo hi:Int} (hel:e<l) (hx:(tr m l s00)[e]?=some x) (hy:(tr m l s00)[l]?=some y) (hlo:∀ z∈(((tr m l s00).drop e).take (l-e)).map fun y=>y.2.1,lo<=z) (hhi:∀ z∈(((tr m l s00).drop e).take (l-e)).map fun y=>y.2.1,z<=hi) (hL:Led x y lo hi):zfT m:=fun n hE=>by
 have e1:=zc4 e l _ _ hx;have e2:=zc4 l l _ _ hy;have hE:=zdq.1 hE;have hT:itF m (l-e) (fs x)=some (fs y):=by
  rw [show l=e+(l-e) by omega,zbd,e1] at e2;exact e2
 have hn:zet m (n-e) (fs x):=by
  refine (zet.from (n:=n-e) e1).1 ?_;by_cases c:n<e
  ·rw [show itF m e (fs s00)=none from hE.stop c] at e1;cases e1
  ·rw [show e+(n-e)=n by omega];exact hE
 have places:∀ j,j<l-e->∀ V,itF m j (fs x)=some V->V.2.1∈(((tr m l s00).drop e).take (l-e)).map fun y=>y.2.1:=fun j hj V hV=>by
  have hl:=(zoB.1 hy).1;have hu:(tr m l s00)[e+j]?=some (tr m l s00)[e+j]:=zoz (by omega);have e3:=zc4 (e+j) l _ _ hu;rw [zbd,e1] at e3;have e3:itF m j (fs x)=some (fs (tr m l s00)[e+j]):=e3;rw [hV] at e3;rw [zpk e3];refine zoP.2 ⟨(tr m l s00)[e+j],?_,rfl⟩;refine List.mem_iff_getElem?.2 ⟨j,?_⟩;rw [List.getElem?_take,zpc hj,List.getElem?_drop];exact hu
 rcases hL with ⟨hr,⟨hp,hs⟩ | ⟨hp,hs⟩⟩
 ·exact zfr (C:=fun z=>lo<=z) (D:=y.2.1-x.2.1) (fun z hz=>by show lo<=z+(y.2.1-x.2.1);have:lo<=z:=hz;omega) (T:=l-e) (by omega) (n-e) hT (fun j hj V hV=>hlo _ (places j hj V hV)) ⟨hr,by show y.2.1=x.2.1+(y.2.1-x.2.1);omega,hs⟩ hn
 ·exact zfr (C:=fun z=>z<=hi) (D:=y.2.1-x.2.1) (fun z hz=>by show z+(y.2.1-x.2.1)<=hi;have:z<=hi:=hz;omega) (T:=l-e) (by omega) (n-e) hT (fun j hj V hV=>hhi _ (places j hj V hV)) ⟨hr,by show y.2.1=x.2.1+(y.2.1-x.2.1);omega,hs⟩ hn
theorem zjy {m:Ma} (M:OkM m) (h:zfT m) {k:Nat} {y:St3} (hy:(tr m k (0,0,[])).getLast?=some y):ent m y.1 y.2.1 y.2.2≠some []:=(zlk M hy).1 fun n _=>h n
end L2
end
section
namespace L2
open PySem PySem.Spec PyProof.Rows PySem.W
def zdL (M:Nat):Prop:=M=7\/M=31\/M=127
def lcg (M:Nat):Nat->Nat->Nat
 | i,0=>i
 | i,r+1=>lcg M ((i*5+1) % (M+1)) r
def orb (M:Nat):Nat->Nat->List Nat
 | _,0=>[]
 | i,r+1=>i::orb M ((i*5+1) % (M+1)) r
theorem zir {M j:Nat}:∀ {r i:Nat},j∈orb M i r->∃ b,b<r/\lcg M i b=j
 | 0,_,h=>by cases h
 | r+1,i,h=>by
  rw [orb] at h;rcases zpg.1 h with h | h
  ·exact⟨0,Nat.succ_pos _,h.symm⟩
  ·obtain⟨b,hb,e⟩:=zir h;exact⟨b+1,Nat.succ_lt_succ hb,e⟩
theorem zeL {M:Nat}:∀ (a i b:Nat),lcg M (lcg M i a) b=lcg M i (a+b)
 | 0,i,b=>by rw [Nat.zero_add];rfl
 | a+1,i,b=>by rw [Nat.add_right_comm];exact zeL a _ b
theorem zlq {M:Nat} (h:zdL M):(List.range (M+1)).all (fun j=>(orb M 0 (M+1)).contains j)=true/\lcg M 0 (M+1)=0:=by
 rcases h with rfl | rfl | rfl
 ·exact⟨by decide +kernel,by decide +kernel⟩
 ·exact⟨by decide +kernel,by decide +kernel⟩
 ·exact⟨by decide +kernel,by decide +kernel⟩
theorem zlh {M i j:Nat} (h:zdL M) (hi:i<=M) (hj:j<=M):∃ r,r<=M/\lcg M i r=j:=by
 obtain⟨ha,hz⟩:=zlq h;have get:∀ x,x<=M->∃ b,b<M+1/\lcg M 0 b=x:=fun x hx=>zir (by simpa using zoX.1 ha x (List.mem_range.2 (by omega)))
 obtain⟨a,ha,rfl⟩:=get i hi;obtain⟨b,hb,rfl⟩:=get j hj;by_cases c:a<=b
 ·exact⟨b-a,by omega,by rw [zeL,Nat.add_sub_cancel' c]⟩
 ·refine⟨M+1+b-a,by omega,?_⟩;rw [zeL,show a+(M+1+b-a)=M+1+b by omega,← zeL,hz]
def lpI (M:Nat):Nat->Nat->Nat->Nat × Nat
 | i,p,0=>(i,p)
 | i,p,r+1=>lpI M (SetTable.leap M i p).1 (SetTable.leap M i p).2 r
theorem zic {M:Nat}:∀ (a i p b:Nat),lpI M (lpI M i p a).1 (lpI M i p a).2 b=lpI M i p (a+b)
 | 0,i,p,b=>by rw [Nat.zero_add];rfl
 | a+1,i,p,b=>by rw [Nat.add_right_comm];exact zic a _ _ b
theorem zgE {M:Nat}:∀ (r i:Nat),lpI M i 0 r=(lcg M i r,0)
 | 0,i=>rfl
 | r+1,i=>by
  have e:SetTable.leap M i 0=((i*5+1) % (M+1),0):=by simp [SetTable.leap]
  show lpI M (SetTable.leap M i 0).1 (SetTable.leap M i 0).2 r=_;rw [e];exact zgE r _
theorem zkt {M:Nat}:∀ (r i p:Nat),i<=M->(lpI M i p r).1<=M
 | 0,i,p,h=>h
 | r+1,i,p,h=>zkt r _ _ (by
  show (i*5+1+p / 32) % (M+1)<=M;exact Nat.le_of_lt_succ (Nat.mod_lt _ (Nat.succ_pos M)))
theorem zie {M:Nat}:∀ (r i p:Nat),(lpI M i p r).2=p / 32 ^ r
 | 0,i,p=>by simp [lpI]
 | r+1,i,p=>by
  show (lpI M _ (p / 32) r).2=_;rw [zie r,Nat.div_div_eq_div_mul,Nat.pow_succ,Nat.mul_comm]
theorem zid {M i p j:Nat} (h:zdL M) (hi:i<=M) (hp:p<2 ^ 64) (hj:j<=M):∃ r,r<=M+13/\(lpI M i p r).1=j:=by
 have e2:(lpI M i p 13).2=0:=by
  rw [zie];exact Nat.div_eq_of_lt (zoO hp (by decide))
 obtain⟨r,hr,e⟩:=zlh (i:=(lpI M i p 13).1) h (zkt 13 i p hi) hj;refine⟨13+r,by omega,?_⟩;rw [← zic 13,e2,zgE];exact e
theorem zhF (h:Int):SetTable.bits h<2 ^ 64:=by
 unfold SetTable.bits;have h1:=Int.emod_lt_of_pos h (show (0:Int)<2 ^ 64 by decide);have h2:=Int.emod_nonneg h (show (2 ^ 64:Int)≠0 by decide);omega
theorem zfE (M i:Nat):i<=SetTable.runEnd M i/\SetTable.runEnd M i<=i+9:=by
 unfold SetTable.runEnd;split <;> omega
theorem zh0 {M:Nat} {ow:Array (Option Nat)}:∀ (r f i p:Nat),r<f->ow.getD (lpI M i p r).1 (some 0)=none->∃ j,SetTable.layClean.free M ow f i p=some j/\ow.getD j (some 0)=none
 | r,0,i,p,h,_=>by omega
 | r,f+1,i,p,h,hn=>by
  rw [SetTable.layClean.free];cases e:(List.range (SetTable.runEnd M i+1-i)).find? (fun k=>(ow.getD (i+k) (some 0)).isNone) with
  | some k =>
   have:=List.find?_some e
   exact⟨i+k,rfl,Option.isNone_iff_eq_none.1 this⟩
  | none =>
   cases r with
   | zero =>
    have:=List.find?_eq_none.1 e 0 (List.mem_range.2 (by have:=(zfE M i).1;omega))
    rw [Nat.add_zero,show ow.getD i (some 0)=none from hn] at this;exact (this rfl).elim
   | succ r=>exact zh0 r f _ _ (by omega) hn
theorem zhY {β:Type} {f g:Nat->Option β} {j:Nat} {x:β} (hf:f j=none) (hg:g j=some x) (ho:∀ i,i≠j->g i=f i):∀ n,((List.range n).filterMap g).length=((List.range n).filterMap f).length+(if j<n then 1 else 0)
 | 0=>by simp
 | n+1=>by
  have ih:=zhY hf hg ho n;rw [List.range_succ,List.filterMap_append,List.filterMap_append,zoH,zoH,ih];by_cases c:n=j
  ·subst c;rw [zpb (Nat.lt_irrefl _),zpc (Nat.lt_succ_self _)];simp [hf,hg]
  ·have e1:([n].filterMap g).length=([n].filterMap f).length:=by
    rw [List.filterMap_cons,List.filterMap_cons,ho n c];cases f n <;> rfl
   rw [e1];by_cases d:j<n
   ·rw [zpc d,zpc (by omega)];omega
   ·rw [zpb d,zpb (by omega)];omega
theorem zhX {β:Type} {f:Nat->Option β}:∀ {n:Nat},((List.range n).filterMap f).length<n->∃ j,j<n/\f j=none
 | 0,h=>by omega
 | n+1,h=>by
  cases e:f n with
  | none=>exact⟨n,Nat.lt_succ_self _,e⟩
  | some x =>
   rw [List.range_succ,List.filterMap_append,zoH] at h
   have:([n].filterMap f).length=1:=by simp [e]
   obtain⟨j,hj,hn⟩:=zhX (f:=f) (n:=n) (by omega);exact⟨j,by omega,hn⟩
def liv (M:Nat) (ow:Array (Option Nat)):List (Nat × Nat):=(List.range (M+1)).filterMap fun j=>(ow.getD j none).map (j,·)
structure OwK (M k:Nat) (ow:Array (Option Nat)):Prop where
 sz:ow.size=M+1
 cn:(liv M ow).length=k
 lt:∀ j v,ow.getD j none=some v->v<k
theorem zmW {M k j:Nat} {ow:Array (Option Nat)} (O:OwK M k ow) (hj:ow.getD j (some 0)=none):OwK M (k+1) (ow.setIfInBounds j (some k)):=by
 have hlt:j<ow.size:=by
  refine Decidable.byContradiction fun c=>?_
  rw [Array.getD_eq_getD_getElem?,Array.getElem?_eq_none (by omega)] at hj;cases hj
 have hn:ow.getD j none=none:=by
  rw [Array.getD_eq_getD_getElem?,Array.getElem?_eq_getElem hlt] at hj ⊢;exact hj
 have h1:(ow.setIfInBounds j (some k)).getD j none=some k:=by
  rw [Array.getD_eq_getD_getElem?,Array.getElem?_setIfInBounds];simp [hlt]
 have h2:∀ i,i≠j->(ow.setIfInBounds j (some k)).getD i none=ow.getD i none:=fun i c=>by
  rw [Array.getD_eq_getD_getElem?,Array.getElem?_setIfInBounds,zpb (Ne.symm c),← Array.getD_eq_getD_getElem?]
 refine⟨by rw [Array.size_setIfInBounds];exact O.sz,?_,fun i v hv=>?_⟩
 ·have:=zhY (f:=fun j=>(ow.getD j none).map (j,·)) (g:=fun j=>((ow.setIfInBounds j (some k)).getD j none).map (j,·)) (j:=j) (x:=(j,k))
  have:=zhY (f:=fun i=>(ow.getD i none).map (i,·)) (g:=fun i=>((ow.setIfInBounds j (some k)).getD i none).map (i,·)) (j:=j) (x:=(j,k)) (by show (ow.getD j none).map _=none;rw [hn];rfl) (by show ((ow.setIfInBounds j (some k)).getD j none).map _=_;rw [h1];rfl) (fun i c=>by show ((ow.setIfInBounds j (some k)).getD i none).map _=_;rw [h2 i c]) (M+1)
  rw [zpc (by rw [← O.sz];exact hlt)] at this;have e:(liv M (ow.setIfInBounds j (some k))).length=(liv M ow).length+1:=this;rw [e,O.cn]
 ·by_cases c:i=j
  ·subst c;rw [h1] at hv;cases hv;exact Nat.lt_succ_self _
  ·rw [h2 i c] at hv;exact Nat.lt_succ_of_lt (O.lt i v hv)
theorem zgB {M:Nat} (hM:zdL M):∀ (hs:List Int) (k:Nat) (ow:Array (Option Nat)),OwK M k ow->k+hs.length<=M->∃ ow',hs.foldl (fun (acc:Option (Array (Option Nat) × Nat)) h=>do let (owner,k) ← acc;let j ← SetTable.layClean.free M owner (SetTable.turns M) (SetTable.bits h % (M+1)) (SetTable.bits h);pure (owner.setIfInBounds j (some k),k+1)) (some (ow,k))=some (ow',k+hs.length)/\OwK M (k+hs.length) ow'
 | [],k,ow,O,_=>⟨ow,rfl,O⟩
 | h::hs,k,ow,O,hl=>by
  rw [zpa] at hl;obtain⟨j,hj,hn⟩:=zhX (f:=fun j=>(ow.getD j none).map (j,·)) (n:=M+1) (by have:(liv M ow).length=k:=O.cn;unfold liv at this;omega)
  have hn:ow.getD j none=none:=by
   cases e:ow.getD j none with
   | none=>rfl
   | some v=>rw [e] at hn;cases hn
  have hn':ow.getD j (some 0)=none:=by
   have hlt:j<ow.size:=by rw [O.sz];exact hj
   rw [Array.getD_eq_getD_getElem?,Array.getElem?_eq_getElem hlt] at hn ⊢;exact hn
  obtain⟨r,hr,e⟩:=zid (i:=SetTable.bits h % (M+1)) (p:=SetTable.bits h) (j:=j) hM (Nat.le_of_lt_succ (Nat.mod_lt _ (Nat.succ_pos M))) (zhF h) (by omega);obtain⟨j',e',hn2⟩:=zh0 (ow:=ow) r (SetTable.turns M) _ _ (by unfold SetTable.turns;omega) (by rw [e];exact hn');obtain⟨ow',e2,O'⟩:=zgB hM hs (k+1) _ (zmW O hn2) (by omega);refine⟨ow',?_,?_⟩
  ·rw [List.foldl_cons,zpa,show k+(hs.length+1)=k+1+hs.length by omega];show List.foldl _ ((SetTable.layClean.free M ow (SetTable.turns M) (SetTable.bits h % (M+1)) (SetTable.bits h)).bind _) hs=_;rw [e'];exact e2
  ·rw [zpa,show k+(hs.length+1)=k+1+hs.length by omega];exact O'
theorem zlt {M:Nat}:OwK M 0 (Array.replicate (M+1) none):=by
 have h0:∀ j,(Array.replicate (M+1) (none:Option Nat)).getD j none=none:=fun j=>by
  rw [Array.getD_eq_getD_getElem?,Array.getElem?_replicate];split <;> rfl
 refine⟨by simp,?_,fun j v h=>by rw [h0] at h;cases h⟩;unfold liv;rw [List.length_eq_zero_iff,List.filterMap_eq_nil_iff];intro j _;rw [h0];rfl
theorem zlg {M fg mv:Nat} {ld pl:Bool} {hs:Array Int} (hM:zdL M) (hl:hs.size<=M):∃ t od,SetTable.laid M fg mv ld pl hs=some (t,od)/\t.mask=M/\t.dummies=#[]/\t.place.size=hs.size/\od.size=hs.size/\∀ v∈od.toList,v<hs.size:=by
 obtain⟨ow,e,O⟩:=zgB hM hs.toList 0 _ zlt (by simpa using hl);have e1:SetTable.layClean M hs=some ow:=by
  unfold SetTable.layClean;rw [← Array.foldl_toList];exact (congrArg (Option.map (·.1)) e)
 rw [Nat.zero_add,zpd] at O;unfold SetTable.laid;rw [e1];refine⟨_,_,rfl,rfl,rfl,?_,?_,fun v hv=>?_⟩
 ·show ((liv M ow).map (·.1)).toArray.size=_
  rw [zo9,zox,O.cn]
 ·show ((liv M ow).map (·.2)).toArray.size=_
  rw [zo9,zox,O.cn]
 ·have hv:v∈((liv M ow).map (·.2)).toArray.toList:=hv
  rw [List.toList_toArray] at hv;obtain⟨q,hq,rfl⟩:=zoP.1 hv;obtain⟨j,hj,e⟩:=List.mem_filterMap.1 hq;cases e3:ow.getD j none with
  | none=>rw [e3] at e;cases e
  | some v=>rw [e3] at e;cases e;exact O.lt j v e3
def zfU (t:SetTable):SetTable.Probe->Nat->SetTable.Probe
 | p,0=>p
 | p,n+1=>zfU t (t.advance p) n
theorem zdo {t:SetTable}:∀ (a:Nat) (p:SetTable.Probe) (b:Nat),zfU t (zfU t p a) b=zfU t p (a+b)
 | 0,p,b=>by rw [Nat.zero_add];rfl
 | a+1,p,b=>by rw [Nat.add_right_comm];exact zdo a _ b
def rst (M i p:Nat):SetTable.Probe:={ j:=i,more:=SetTable.runEnd M i-i,i:=i,perturb:=p,dummy:=none }
theorem zkD {t:SetTable}:∀ (m j i p:Nat),zfU t { j:=j,more:=m,i:=i,perturb:=p,dummy:=none } m={ j:=j+m,more:=0,i:=i,perturb:=p,dummy:=none }
 | 0,j,i,p=>rfl
 | m+1,j,i,p=>by
  show zfU t (t.advance _) m=_;have e:t.advance { j:=j,more:=m+1,i:=i,perturb:=p,dummy:=none }={ j:=j+1,more:=m,i:=i,perturb:=p,dummy:=none }:=by
   unfold SetTable.advance;rw [zpc (Nat.succ_pos m)]
   rfl
  rw [e,zkD m (j+1) i p,Nat.add_right_comm,Nat.add_assoc]
theorem zl0 {t:SetTable} (i p:Nat):zfU t (rst t.mask i p) (SetTable.runEnd t.mask i-i+1)=rst t.mask (SetTable.leap t.mask i p).1 (SetTable.leap t.mask i p).2:=by
 rw [← zdo];unfold rst;rw [zkD]
 rfl
theorem zkC {t:SetTable}:∀ (r i p:Nat),∃ n,n<=10*r/\zfU t (rst t.mask i p) n=rst t.mask (lpI t.mask i p r).1 (lpI t.mask i p r).2
 | 0,i,p=>⟨0,zoN _,rfl⟩
 | r+1,i,p=>by
  obtain⟨n,hn,e⟩:=zkC (t:=t) r (SetTable.leap t.mask i p).1 (SetTable.leap t.mask i p).2;refine⟨SetTable.runEnd t.mask i-i+1+n,by have:=(zfE t.mask i);omega,?_⟩;rw [← zdo,zl0,e]
  rfl
theorem zfL {t:SetTable} {j i:Nat} (h:t.slot j=.live i):t.place[i]?=some j:=by
 unfold SetTable.slot at h;dsimp only at h;split at h
 ·rename_i c;cases h;simpa using c
 ·split at h <;> cases h
theorem zgG {t:SetTable} {j:Nat} (hd:t.dummies=#[]):t.slot j≠.dummy:=by
 intro h;unfold SetTable.slot at h;dsimp only at h;split at h
 ·cases h
 ·rename_i c;rw [hd] at h
  have:SetTable.has #[] j=false:=by simp [SetTable.has]
  rw [this] at h;cases h
theorem ziR:∀ {l l':List Nat},l.Nodup->(∀ x∈l,x∈l')->l.length<=l'.length
 | [],l',_,_=>Nat.zero_le _
 | x::l,l',nd,h=>by
  obtain⟨hx,nd'⟩:=List.nodup_cons.1 nd;have hm:=h x (zo6 ..)
  have:=ziR (l:=l) (l':=l'.erase x) nd' fun y hy=>(List.mem_erase_of_ne (fun (e:y=x)=>hx (by rw [← e];exact hy))).2 (h y (zoQ _ hy))
  rw [List.length_erase_of_mem hm] at this;have hp:0<l'.length:=List.length_pos_of_mem hm;rw [zpa];omega
theorem ziM {t:SetTable} (hd:t.dummies=#[]) (hl:t.place.size<=t.mask):∃ j,j<=t.mask/\t.slot j=.empty:=by
 refine Classical.byContradiction fun c=>?_
 have all:∀ j∈List.range (t.mask+1),j∈t.place.toList:=fun j hj=>by
  have hj:=List.mem_range.1 hj;cases e:t.slot j with
  | empty=>exact (c ⟨j,by omega,e⟩).elim
  | dummy=>exact (zgG hd e).elim
  | live i=>exact zoC (by rw [zpe];exact zfL e)
 have:=ziR List.nodup_range all
 rw [List.length_range,zpd] at this;omega
theorem zhy {t:SetTable} (hM:zdL t.mask) (hd:t.dummies=#[]) (hl:t.place.size<=t.mask) (h:Int):∃ n,n<10*SetTable.turns t.mask/\t.slot (zfU t (t.probeStart h) n).j=.empty:=by
 obtain⟨j,hj,e⟩:=ziM hd hl;obtain⟨r,hr,er⟩:=zid (i:=SetTable.bits h % (t.mask+1)) (p:=SetTable.bits h) hM (Nat.le_of_lt_succ (Nat.mod_lt _ (Nat.succ_pos t.mask))) (zhF h) hj;obtain⟨n,hn,en⟩:=zkC (t:=t) r (SetTable.bits h % (t.mask+1)) (SetTable.bits h);refine⟨n,by unfold SetTable.turns;omega,?_⟩
 have:zfU t (t.probeStart h) n=rst t.mask (lpI t.mask (SetTable.bits h % (t.mask+1)) (SetTable.bits h) r).1 (lpI t.mask (SetTable.bits h % (t.mask+1)) (SetTable.bits h) r).2:=en
 rw [this];show t.slot (lpI t.mask (SetTable.bits h % (t.mask+1)) (SetTable.bits h) r).1=_;rw [er];exact e
theorem zfe {t:SetTable} {p:SetTable.Probe} (h:p.dummy=none):(t.advance p).dummy=none:=by
 unfold SetTable.advance;split
 ·exact h
 ·exact h
theorem zgJ {t:SetTable} {ha:Nat->Int} {h:Int} (hd:t.dummies=#[]):∀ (n f:Nat) (p:SetTable.Probe),n<f->p.dummy=none->t.slot (zfU t p n).j=.empty ->
  (∃ j,SetTable.probe.go t ha h f p=some (.empty j none)/\t.slot j=.empty)\/∃ j i m q,m<n/\SetTable.probe.go t ha h f p=some (.candidate j i q)/\t.slot j=.live i/\q=zfU t p (m+1)/\q.dummy=none
 | n,0,p,hn,_,_=>by omega
 | n,f+1,p,hn,hp,he=>by
  rw [SetTable.probe.go];cases e:t.slot p.j with
  | empty=>exact .inl ⟨p.j,by rw [hp],e⟩
  | dummy=>exact (zgG hd e).elim
  | live i =>
   cases n with
   | zero=>rw [show zfU t p 0=p from rfl,e] at he;cases he
   | succ n =>
    dsimp only;by_cases c:(ha i == h)=true
    ·rw [zpc c];exact .inr ⟨p.j,i,0,_,Nat.succ_pos _,rfl,e,rfl,zfe hp⟩
    ·rw [zpb c];rcases zgJ hd n f (t.advance p) (by omega) (zfe hp) he with ⟨j,h1,h2⟩ | ⟨j,i,m,q,h0,h1,h2,h3,h4⟩
     ·exact .inl ⟨j,h1,h2⟩
     ·exact .inr ⟨j,i,m+1,q,by omega,h1,h2,h3,h4⟩
section
variable {prog:Program} {w:World} {A:Around} {E:Value->Shared->Prop} {s:Shared}
theorem zi6:∀ (n:Nat) (k:NK) (v:Value) (Q:Bool->Shared->Prop),IsN s.heap k v->(∀ b,Q b s)->wpAny (model prog w) A (hashByValue n v) Q E s:=by
 intro n
 induction n with
 | zero =>
  intro k v Q hk h;cases k with
  | int i=>rw [IsN] at hk;obtain⟨t,rfl⟩:=hk;exact wpAny_pure (h _)
  | tup l=>rw [IsN] at hk;obtain⟨a,its,rfl,_⟩:=hk;exact wpAny_pure (h _)
 | succ n ih =>
  intro k v Q hk h;cases k with
  | int i=>rw [IsN] at hk;obtain⟨t,rfl⟩:=hk;exact wpAny_pure (h _)
  | tup l =>
   rw [IsN] at hk;obtain⟨a,its,rfl,ht,hi⟩:=hk;have hT:=ht.typeIs;rw [hashByValue];refine wpAny_bind (wpAny_specialOf hT F.slot_tuple_hash.lookup ?_);have loop:∀ (l:List NK) (vs:List Value) (Q':Option Bool × Unit->Shared->Prop),zci s.heap l vs->(∀ b,Q' b s) ->
     wpAny (model prog w) A (forIn vs ((none,()):Option Bool × Unit) fun y _=>do let q ← hashByValue n y;if (!q)=true then pure (ForInStep.done (some false,())) else pure (ForInStep.yield (none,()))) Q' E s:=by
    intro l
    induction l with
    | nil=>intro vs Q' hv hq;rw [zci] at hv;subst hv;exact wpAny_pure (hq _)
    | cons k r ihl =>
     intro vs Q' hv hq;rw [zci] at hv;obtain⟨u,us,rfl,hu',hr⟩:=hv;rw [List.forIn_cons];refine wpAny_bind (wpAny_bind (ih k u _ hu' fun b=>?_));cases b with
     | false=>rw [zpc (show (!false)=true from rfl)];exact wpAny_pure (wpAny_pure (hq _))
     | true=>rw [zpb (by simp)];exact wpAny_pure (ihl us Q' hr hq)
   obtain⟨o,ho,hc,m',hdt⟩:=id ht;refine wpAny_bind (wpAny_seqItems ho hdt (wpAny_bind ?_));show wpAny _ _ (forIn its.toArray _ _) _ _ _;rw [← Array.forIn_toList];refine loop l its _ hi fun b=>?_
   obtain⟨b,u⟩:=b;cases b with
   | none=>exact wpAny_pure (h _)
   | some b=>exact wpAny_pure (h _)
theorem zgF:∀ (n:Nat) (k:NK) (v:Value) (Q:Bool->Shared->Prop),k.dep<=n->IsN s.heap k v->Q false s->wpAny (model prog w) A (ofAClassStatement n v) Q E s:=by
 have intsN:∀ (n:Nat) (i:Int) (v:Value) (Q:Bool->Shared->Prop),IsN s.heap (.int i) v->Q false s->wpAny (model prog w) A (ofAClassStatement n v) Q E s:=by
  intro n i v Q hx h;rw [IsN] at hx;obtain⟨t,rfl⟩:=hx;cases n <;> exact wpAny_pure h
 intro n
 induction n with
 | zero =>
  intro k v Q hd hk h;cases k with
  | int i=>exact intsN 0 i v Q hk h
  | tup l=>rw [NK.dep] at hd;omega
 | succ n ih =>
  intro k v Q hd hk h;cases k with
  | int i=>exact intsN _ i v Q hk h
  | tup l =>
   rw [NK.dep] at hd;rw [IsN] at hk;obtain⟨a,its,rfl,ht,hi⟩:=hk;have hT:=ht.typeIs;rw [ofAClassStatement];refine wpAny_bind (wpAny_typeOf hT ?_);dsimp only;rw [zpc (by decide)];refine wpAny_bind (wpAny_pure ?_);rw [zpb (by simp)];have loop:∀ (l:List NK) (vs:List Value) (Q':Option Bool × Unit->Shared->Prop),NK.depL l<=n->zci s.heap l vs->Q' (none,()) s ->
     wpAny (model prog w) A (forIn vs ((none,()):Option Bool × Unit) fun y _=>do let q ← ofAClassStatement n y;if q=true then pure (ForInStep.done (some true,())) else pure (ForInStep.yield (none,()))) Q' E s:=by
    intro l
    induction l with
    | nil=>intro vs Q' _ hv hq;rw [zci] at hv;subst hv;exact wpAny_pure hq
    | cons k r ihl =>
     intro vs Q' hd hv hq;rw [NK.depL] at hd;rw [zci] at hv;obtain⟨u,us,rfl,hu',hr⟩:=hv;rw [List.forIn_cons];refine wpAny_bind (wpAny_bind (ih k u _ (by omega) hu' ?_));rw [zpb (by simp)];exact wpAny_pure (ihl us Q' (by omega) hr hq)
   obtain⟨o,ho,hc,m',hdt⟩:=id ht;refine wpAny_bind (wpAny_seqItems ho hdt ?_);dsimp only;refine wpAny_bind ?_;show wpAny _ _ (forIn its.toArray _ _) _ _ _;rw [← Array.forIn_toList];exact loop l its _ (by omega) hi (wpAny_pure h)
def znI (h:Heap) (v:Value):Prop:=∃ (k:NK) (a:Addr),v=.ref a/\k.dep<=7/\IsN h k v
theorem zjz {x:Value} (hx:znI s.heap x):∀ (l:List Value) (Q:Bool->Shared->Prop),(∀ y∈l,znI s.heap y)->Q false s->wpAny (model prog w) A (searchCouldBeSeen x l) Q E s:=by
 intro l Q hl h;unfold searchCouldBeSeen;refine wpAny_bind ?_
 suffices loop:∀ (l:List Value) (Q':Option Bool × Unit->Shared->Prop),(∀ y∈l,znI s.heap y)->Q' (none,()) s->wpAny (model prog w) A (forIn l ((none,()):Option Bool × Unit) _) Q' E s from loop l _ hl (wpAny_pure h)
 intro l
 induction l with
 | nil=>intro Q' _ hq;exact wpAny_pure hq
 | cons y r ihl =>
  intro Q' hl hq;rw [List.forIn_cons];have rest:=ihl Q' (fun z hz=>hl z (zoQ _ hz)) hq;obtain⟨k,a,rfl,hd,hk⟩:=hx;obtain⟨k',b,rfl,hd',hk'⟩:=hl _ (zo6 ..);refine wpAny_bind ?_;dsimp only;split
  ·exact wpAny_pure rest
  ·refine wpAny_bind (zga 8 k A _ _ (by omega) hk ?_);rw [zpb (by simp)];refine wpAny_bind (zga 8 k' A _ _ (by omega) hk' ?_);rw [zpb (by simp)];refine wpAny_bind (zgF 8 k _ _ (by omega) hk ?_);rw [zpb (by simp)];refine wpAny_bind (zgF 8 k' _ _ (by omega) hk' ?_);rw [zpb (by simp)];exact wpAny_pure rest
structure Elm (h:Heap) (kx:NK) (v:Value):Prop where
 ex:∃ (k:NK) (c:Addr),v=.ref c/\k.dep<=7/\IsN h k v/\k≠kx
theorem ziL {a cx:Addr} {o:Obj} {es:Array (Int × Value)} {ep:Nat} {t:SetTable} {h:Int} {kx:NK} (hr:A.units+8<cLine) (hxd:kx.dep<=7) (hx:IsN s.heap kx (.ref cx))
  (ho:s.heap.get? a=some o) (hd:o.data=.set es ep t) (hf:t.fits es.size=true) (hM:zdL t.mask) (hdm:t.dummies=#[]) (hel:∀ e∈es.toList,Elm s.heap kx e.2)
  {Q:SetFound->Shared->Prop} (q:∀ j,t.slot j=.empty->Q (.free j false) s) :
  ∀ (n f:Nat) (st:Option SetTable.Probe),n<f->n<10*SetTable.turns t.mask->(st.getD (t.probeStart h)).dummy=none->t.slot (zfU t (st.getD (t.probeStart h)) n).j=.empty ->
   wpAny (model prog w) A (setSearchFrom a (.ref cx) h true f st) Q E s:=by
 have hg:t.gaveWay=false:=by
  unfold SetTable.gaveWay;rcases hM with e | e | e <;> (rw [e];decide)
 intro n
 induction n using Nat.strongRecOn with
 | ind n ih =>
 intro f st hn hn2 hp he;cases f with
 | zero=>omega
 | succ f =>
 rw [setSearchFrom];refine wpAny_bind (wpAny_setState_of ho hd hf ?_);dsimp only;rw [hg,zpb zpj];generalize hpr:SetTable.probe _ _ _ _=pr;obtain⟨ha,hpr⟩:∃ ha,SetTable.probe.go t ha h (10*SetTable.turns t.mask) (st.getD (t.probeStart h))=pr:=⟨_,hpr⟩;rcases zgJ (ha:=ha) (h:=h) hdm n _ _ hn2 hp he with ⟨j,e,hj⟩ | ⟨j,i,m,p',hm,e,hj,e',hp'⟩
 ·rw [← hpr,e];exact wpAny_pure (q j hj)
 ·rw [← hpr,e];have hpl:=zfL hj;have hi:i<es.size:=by
   have h1:=(Array.getElem?_eq_some_iff.1 hpl).1;simp only [SetTable.fits,Bool.and_eq_true,beq_iff_eq] at hf;omega
  obtain⟨ky,cy,ey,hyd,hy,hne⟩:=(hel es[i] (by simp)).ex;have hes:es[i]?=some (es[i].1,.ref cy):=by rw [Array.getElem?_eq_getElem hi,← ey]
  rw [ey] at hy;have hsm:t.sameMemory t.moves t.mask=some true:=by unfold SetTable.sameMemory;simp
  dsimp only;rw [hes];dsimp only;split
  case' isTrue =>
   refine wpAny_bind (zjz ⟨kx,cx,rfl,hxd,hx⟩ _ _ (fun y hy=>?_) ?_)
   case' refine_1 =>
    obtain⟨e1,h1,rfl⟩:=zoP.1 hy;have h1:e1∈es.toList:=by
     have:=Array.mem_toList_iff.1 h1
     exact Array.mem_toList_iff.2 (Array.mem_filter.1 this).1
    obtain⟨k1,c1,z1,z2,z3,_⟩:=(hel e1 h1).ex;exact⟨k1,c1,z1,z2,z3⟩
   rw [zpb zpj]
  all_goals
   refine wpAny_bind (wpAny_holding (eq_n 7 ky kx A _ _ hyd (by omega) hy hx prog w E _ ?_));refine wpAny_bind (wpAny_setState_of ho hd hf ?_);dsimp only;rw [zoE hne,zpb (by simp),hsm];dsimp only;rw [zpc rfl,hj];dsimp only;rw [hes];dsimp only;refine wpAny_bind (wpAny_isSame_ref_self (wpAny_bind (wpAny_pure ?_)));rw [zpc rfl];dsimp only;rw [zpb zpj];refine ih (n-(m+1)) (by omega) f (some p') (by omega) (by omega) hp' ?_;show t.slot (zfU t p' _).j=_;rw [e',zdo,show m+1+(n-(m+1))=n by omega];exact he
def zj9 (ks:List NK) (a:Addr) (h:Heap):Prop:=∃ o es ep t,h.get? a=some o/\o.ExactSet/\o.data=.set es ep t/\es.size=ks.length/\t.place.size=es.size/\t.dummies=#[]/\((t.mask=7/\es.size<5)\/(t.mask=31/\es.size<19)\/(t.mask=127/\es.size<77))/\∀ e∈es.toList,∃ (k:NK) (c:Addr),k∈ks/\e.2=.ref c/\k.dep<=7/\IsN h k e.2
theorem zjT {a:Addr} {o:Obj} {es:Array (Int × Value)} {ep:Nat} {t:SetTable} {M:Nat} {Q:Unit->Shared->Prop} {wt:Nat} (ho:s.heap.get? a=some o) (hd:o.data=.set es ep t) (hf:t.fits es.size=true)
  (hM:zdL M) (hw:SetTable.sizeAbove wt=M+1) (hl:es.size<=M)
  (q:∀ es' t',es'.size=es.size->(∀ e∈es'.toList,e∈es.toList)->t'.mask=M->t'.dummies=#[]->t'.place.size=es.size->Q () { s with heap:=s.heap.update a (Obj.putSet es' t') }) :
  wpAny (model prog w) A (setRelay a wt) Q E s:=by
 unfold setRelay;refine wpAny_bind (wpAny_setState_of ho hd hf ?_);dsimp only;rw [zpb (by rw [hw,sizeLine_eq];rcases hM with rfl | rfl | rfl <;> decide)];obtain⟨t',od,e,e1,e2,e3,e4,e5⟩:=zlg (fg:=t.finger) (mv:=t.movedTo M) (ld:=t.led) (pl:=t.plain) (hs:=es.map (·.1)) hM (by rw [Array.size_map];exact hl)
 rw [Array.size_map] at e3 e4 e5;have er:t.relaid (es.map (·.1)) wt=some (t',od):=by unfold SetTable.relaid;rw [hw];exact e
 rw [er];have hfm:∀ l:List Nat,(∀ v∈l,v<es.size)->(l.filterMap (es[·]?)).length=l.length/\∀ e∈l.filterMap (es[·]?),e∈es.toList:=by
  intro l hl;refine⟨?_,fun e he=>?_⟩
  ·induction l with
   | nil=>rfl
   | cons v l ih =>
    rw [List.filterMap_cons,Array.getElem?_eq_getElem (hl v (zo6 ..))];show (_::_).length=_;rw [zpa,ih fun v hv=>hl v (zoQ _ hv),zpa]
  ·obtain⟨v,_,hv⟩:=List.mem_filterMap.1 he;exact zoC (i:=v) (by rw [zpe];exact hv)
 obtain⟨g1,g2⟩:=hfm od.toList e5;have hsz:(od.filterMap (es[·]?)).size=es.size:=by rw [← zpd,Array.toList_filterMap,g1,zpd,e4]
 refine wpAny_bind ?_;show wpAny _ _ (if ((od.filterMap (es[·]?)).size != es.size)=true then (do unsupported "internal:set-table-lost-an-element";pure (od.filterMap (es[·]?),t')) else pure (od.filterMap (es[·]?),t')) _ _ _
 rw [zpb (by rw [hsz];simp)];refine wpAny_pure ?_;dsimp only;refine wpAny_storeSet_of ho hd (q _ _ hsz (fun e he=>g2 e (by rw [Array.toList_filterMap] at he;exact he)) e1 e2 e3) (by rw [hsz,sizeLine_eq];rcases hM with rfl | rfl | rfl <;> omega)
theorem ziB {t:SetTable} {j:Nat} (hd:t.dummies=#[]):(t.put j).1.mask=t.mask/\(t.put j).1.dummies=#[]/\(t.put j).1.place.size=t.place.size+1:=by
 unfold SetTable.put;have hh:SetTable.has #[] j=false:=by simp [SetTable.has]
 refine⟨rfl,?_,?_⟩
 ·show (if SetTable.has t.dummies j=true then _ else t.dummies)=_;rw [hd,hh,zpb zpj]
 ·show (SetTable.insertAt t.place _ j).size=_;rw [← zpd,(SetTable.insertAt_perm ..).length_eq,Array.toList_push,zoH,zpd];rfl
theorem zjm (es:Array (Int × Value)) (p:Nat) (x:Int × Value):(SetTable.insertAt es p x).size=es.size+1/\∀ e∈(SetTable.insertAt es p x).toList,e∈es.toList\/e=x:=by
 have hp:=SetTable.insertAt_perm es p x;refine⟨by rw [← zpd,hp.length_eq,Array.toList_push,zoH,zpd];rfl,fun e he=>?_⟩
 have:=hp.mem_iff.1 he
 rw [Array.toList_push] at this;rcases zoI.1 this with h | h
 ·exact .inl h
 ·exact .inr (zoG.1 h)
theorem zgz {h h':Heap} {a:Addr} {o:Obj} {es:Array (Int × Value)} {ep:Nat} {t:SetTable} (ho:h.get? a=some o) (hd:o.data=.set es ep t) (hs:Heap.SameBut a h h') {k:NK} {v:Value} (hk:k.dep<=7) (hx:IsN h k v):IsN h' k v :=
 zcH (fun b its ⟨o',e,c,n,q⟩=>⟨o',by rw [hs.2 b (by rintro rfl;rw [ho] at e;cases e;rw [hd] at q;cases q)];exact e,c,n,q⟩) 7 _ _ hk hx
theorem zmf {a cx:Addr} {ks:List NK} {kx:NK} {Q:Bool->Shared->Prop} (hr:A.units+8<cLine) (hS:zj9 ks a s.heap) (hkx:kx ∉ ks) (hxd:kx.dep<=7) (hx:IsN s.heap kx (.ref cx)) (hl:ks.length<76)
  (q:∀ h' tk,Heap.SameBut a s.heap h'->zj9 (ks++[kx]) a h'->Q true { s with heap:=h',toks:=tk }):wpAny (model prog w) A (setAdd a (.ref cx)) Q E s:=by
 obtain⟨o,es,ep,t,ho,hex,hd,hn,hpl,hdm,hmk,hel⟩:=hS;have hfl:t.fill=t.place.size:=by unfold SetTable.fill;rw [hdm];rfl
 have hf:t.fits es.size=true:=by
  unfold SetTable.fits;rw [hfl,hpl];simp
  omega
 have hM:zdL t.mask:=by rcases hmk with ⟨e,_⟩ | ⟨e,_⟩ | ⟨e,_⟩ <;> (unfold zdL;omega)
 unfold setAdd;refine wpAny_holding (wpAny_bind (zgN 7 kx A s _ _ hxd (by omega) hx ?_));generalize s.toks+kx.dr=tk;generalize kx.hash=hsh;unfold setAddHashed setAddHashedIn;refine wpAny_holding (wpAny_bind (wpAny_setState_of (s:={ s with toks:=tk }) ho hd hf ?_));dsimp only;rw [show byScan (.ref cx) es=false from rfl,zpb zpj];obtain⟨n0,hn0,he0⟩:=zhy hM hdm (by rw [hpl];omega) hsh;have htn:10*SetTable.turns t.mask<100000:=by unfold SetTable.turns;omega
 refine wpAny_bind (ziL (s:={ s with toks:=tk }) hr hxd hx ho hd hf hM hdm (fun e he=>?_) (fun j hj=>?_) n0 100000 none (by omega) hn0 rfl he0)
 ·obtain⟨k,c,h1,h2,h3,h4⟩:=hel e he;exact⟨k,c,h2,h3,h4,fun z=>hkx (z ▸ h1)⟩
 dsimp only;refine wpAny_bind (wpAny_setState_of (s:={ s with toks:=tk }) ho hd hf ?_);dsimp only;obtain⟨p1,p2,p3⟩:=ziB (j:=j) hdm;generalize t.put j=tp at p1 p2 p3;obtain⟨tp,pp⟩:=tp;dsimp only at p1 p2 p3 ⊢;have fin:∀ t2:SetTable,t2.mask=t.mask->t2.dummies=#[]->t2.place.size=t.place.size+1->wpAny (model prog w) A (do
   storeSet a (SetTable.insertAt es pp (hsh,.ref cx)) t2
   if (!false && t2.tooFull)=true then do
    setRelay a (SetTable.grown (es.size+1))
    pure true
   else pure true) Q E { s with toks:=tk }:=by
  intro t2 m1 m2 m3;obtain⟨i1,i2⟩:=zjm es pp (hsh,.ref cx);generalize SetTable.insertAt es pp (hsh,.ref cx)=es1 at i1 i2;have hsz1:es1.size<=sizeLine:=by rw [sizeLine_eq];omega
  refine wpAny_bind (wpAny_storeSet_of (s:={ s with toks:=tk }) ho hd ?_ hsz1);have ho1:(s.heap.update a (Obj.putSet es1 t2)).get? a=some { o with data:=.set es1 (ep+1) t2 }:=by
   have:=Heap.get?_update_self (Obj.putSet es1 t2) ho (by rw [putSet_of es1 t2 hd];rfl)
   rw [putSet_of es1 t2 hd] at this;exact this
  have sb1:=Heap.SameBut.update s.heap a (Obj.putSet es1 t2);have hfl2:t2.fill=es.size+1:=by unfold SetTable.fill;rw [m2,m3,hpl];rfl
  have hf2:t2.fits es1.size=true:=by
   unfold SetTable.fits;rw [hfl2,m3,hpl,i1,m1];simp
   omega
  have elm:∀ h':Heap,Heap.SameBut a s.heap h'->∀ e∈es1.toList,∃ (k:NK) (c:Addr),k∈ks++[kx]/\e.2=.ref c/\k.dep<=7/\IsN h' k e.2:=by
   intro h' sb e he;rcases i2 e he with h | rfl
   ·obtain⟨k,c,h1,h2,h3,h4⟩:=hel e h;exact⟨k,c,zo4 _ h1,h2,h3,zgz ho hd sb h3 h4⟩
   ·exact⟨kx,cx,by simp,rfl,hxd,zgz ho hd sb hxd hx⟩
  have hkl:es1.size=(ks++[kx]).length:=by rw [i1,hn,zoH];rfl
  have htf:t2.tooFull=decide ((es.size+1)*5 ≥ t.mask*3):=by unfold SetTable.tooFull;rw [hfl2,m1]
  have rl:∀ M,zdL M->SetTable.sizeAbove (SetTable.grown (es.size+1))=M+1->es1.size<=M->((M=7/\es1.size<5)\/(M=31/\es1.size<19)\/(M=127/\es1.size<77)) ->
    wpAny (model prog w) A (do setRelay a (SetTable.grown (es.size+1));pure true) Q E { s with toks:=tk,heap:=s.heap.update a (Obj.putSet es1 t2) }:=by
   intro M hM hw hle hlt;refine wpAny_bind (zjT (s:={ s with toks:=tk,heap:=s.heap.update a (Obj.putSet es1 t2) }) ho1 rfl hf2 hM hw hle fun es' t' r1 r2 r3 r4 r5=>wpAny_pure ?_);have sb2:=sb1.trans (Heap.SameBut.update (s.heap.update a (Obj.putSet es1 t2)) a (Obj.putSet es' t'));refine q _ tk sb2 ⟨_,es',_,t',Heap.get?_update_self _ ho1 rfl,hex,rfl,by rw [r1,hkl],by rw [r5,r1],r4,by rw [r1,r3];exact hlt,fun e he=>elm _ sb2 e (r2 e he)⟩
  rw [htf];rcases hmk with ⟨e,hlt⟩ | ⟨e,hlt⟩ | ⟨e,hlt⟩
  ·by_cases c:es.size+1=5
   ·rw [zpc (by rw [e,c];decide)];exact rl 31 (.inr (.inl rfl)) (by rw [c];decide +kernel) (by omega) (.inr (.inl ⟨rfl,by omega⟩))
   ·rw [zpb (by rw [e];simp;omega)];exact wpAny_pure (q _ tk sb1 ⟨_,es1,_,t2,ho1,hex,rfl,hkl,by rw [m3,hpl,i1],m2,.inl ⟨by rw [m1,e],by omega⟩,elm _ sb1⟩)
  ·by_cases c:es.size+1=19
   ·rw [zpc (by rw [e,c];decide)];exact rl 127 (.inr (.inr rfl)) (by rw [c];decide +kernel) (by omega) (.inr (.inr ⟨rfl,by omega⟩))
   ·rw [zpb (by rw [e];simp;omega)];exact wpAny_pure (q _ tk sb1 ⟨_,es1,_,t2,ho1,hex,rfl,hkl,by rw [m3,hpl,i1],m2,.inr (.inl ⟨by rw [m1,e],by omega⟩),elm _ sb1⟩)
  ·rw [zpb (by rw [e];simp;omega)];exact wpAny_pure (q _ tk sb1 ⟨_,es1,_,t2,ho1,hex,rfl,hkl,by rw [m3,hpl,i1],m2,.inr (.inr ⟨by rw [m1,e],by omega⟩),elm _ sb1⟩)
 have fin2:∀ b:Bool,wpAny (model prog w) A (do
   storeSet a (SetTable.insertAt es pp (hsh,.ref cx)) (if b=true then tp else { tp with plain:=false })
   if (!false && (if b=true then tp else { tp with plain:=false }).tooFull)=true then do
    setRelay a (SetTable.grown (es.size+1))
    pure true
   else pure true) Q E { s with toks:=tk }:=by
  intro b;cases b
  ·exact fin { tp with plain:=false } p1 p2 p3
  ·exact fin tp p1 p2 p3
 split
 ·exact wpAny_bind (zi6 (s:={ s with toks:=tk }) 8 kx _ _ hx fun b=>fin2 b)
 ·exact wpAny_bind (wpAny_pure (fin2 true))
end
section
variable {prog:Program} {w:World} {A:Around} {E:Value->Shared->Prop} {s:Shared} {Q:Value->Shared->Prop}
def zcb (led:Bool):Obj:={ cls:=.type "set",dict:=none,data:=.set #[] 0 (.fresh 0 0 led) }
theorem zjW {x:Value} (hn:∀ led,wpAny (model prog w) A.in1.in1 (Builtin.«set.__init__» ⟨[.ref s.heap.objs.size,x],[]⟩) (fun fin s'=>match fin with | .done f=>wants (fun r s2=>r=.none/\Q (.ref s.heap.objs.size) s2) E (.ok f) s' | .again c'=>c'.quiet=true/\codeAny (model prog w) A.in1 c' (wants (fun r s2=>r=.none/\Q (.ref s.heap.objs.size) s2) E) s') (fun e s'=>wants (fun r s2=>r=.none/\Q (.ref s.heap.objs.size) s2) E (.error e) s') { s with heap:=s.heap.push (zcb led) }):wpAny (model prog w) A (call (.type "set") [x]) Q E s:=by
 obtain⟨c0,tl0,hm0⟩:=F.called_set.mro;have m1:=F.called_set.made;have m2:=F.called_set.sub;have m3:=F.called_set.notType;have m4:=F.called_set.canCreate;have m5:=F.typeCall_set_1 x;refine wpAny_call (codeAny_of_tree (show wpAny _ _ (callAny (.type "set") _) _ _ _ from wpAny_pure ⟨Code.quiet_builtin _ (by decide +kernel),codeAny_builtin F.entry_type_call ?_⟩));rw [Around.under_plain (weight_type_call_type "set" [x] []) rfl]
 repeat (any_goals (first | assumption | wp_step))
 refine codeAny_mono (code_set_new_1 x (E:=E) (Q₁:=fun ob s1=>∃ led,ob=.ref s.heap.objs.size/\s1={ s with heap:=s.heap.push (zcb led) }) fun led=>⟨led,rfl,rfl⟩) fun r1 s1 hr1=>?_
 rcases r1 with e | (f | f)
 all_goals first | exact hr1 | exact hr1.elim | skip
 all_goals
  obtain⟨led,rfl,rfl⟩:=hr1;have hT:Shared.TypeIs { s with heap:=s.heap.push (zcb led) } (.ref s.heap.objs.size) "set":=⟨_,zo8 _ rfl,rfl⟩;have m6:=F.called_set.init.lookup;have m7:=F.called_set.init.bind (.ref s.heap.objs.size)
  repeat (any_goals (first | assumption | wp_step))
  refine codeAny_mono (codeAny_call_builtin F.called_set.init.plain F.entry_set_init (check_set_init_1 hT (hn led))) fun r2 s2 hr2=>?_
  rcases r2 with e | (f | f)
  all_goals first | exact hr2 | exact hr2.elim | skip
  all_goals
   obtain⟨rfl,hq⟩:=hr2
   repeat (any_goals (first | assumption | wp_step))
theorem zj9.mv {ks:List NK} {a it:Addr} {h h':Heap} (S:zj9 ks a h) (hai:a≠it) (hit:∀ its,¬ IsTup h it its) (kp:∀ b o,b≠it->h.get? b=some o->h'.get? b=some o):zj9 ks a h':=by
 obtain⟨o,es,ep,t,ho,hex,hd,hn,hpl,hdm,hmk,hel⟩:=S;refine⟨o,es,ep,t,kp a o hai ho,hex,hd,hn,hpl,hdm,hmk,fun e he=>?_⟩;obtain⟨k,c,h1,h2,h3,h4⟩:=hel e he;exact⟨k,c,h1,h2,h3,zcH (fun b its z=>by
  have nb:b≠it:=by rintro rfl;exact hit _ z
  obtain⟨o',e,r⟩:=z;exact⟨o',kp b o' nb e,r⟩) 7 _ _ h3 h4⟩
theorem zdF {h:Heap} {it l:Addr} {i:Nat} (hi:h.IsListIter it l i):∀ its,¬ IsTup h it its:=by
 rintro its ⟨o,e,c,_⟩;obtain⟨o',e',c',_⟩:=hi;rw [e] at e';cases e';rw [c] at c';exact absurd c' (by decide)
theorem zjY {R:Result->Shared->Prop} {h0:Heap} {S l it:Addr} {its:List Value} {ks:List NK} (hA:A.handled=none) (hr:A.units+9<cLine) (nSi:S≠it) (nlS:l≠S) (nli:l≠it) (hlen:ks.length=its.length) (nd:ks.Nodup) (hsz:ks.length<=76)
  (hl:h0.IsList l its.toArray) (hk:∀ (i:Nat) (u:Value),its[i]?=some u->∃ (c:Addr) (k:NK),u=.ref c/\ks[i]?=some k/\k.dep<=7/\IsN h0 k u) (ht:∀ b its,IsTup h0 b its->b≠S/\b≠it)
  (hR:∀ h' tk,(∀ b o,b≠S->b≠it->h0.get? b=some o->h'.get? b=some o)->zj9 ks S h'->R (.ok (.ret .none)) { s with heap:=h',toks:=tk }) :
  ∀ (k i:Nat) (h:Heap) (tk:Nat),its.length-i=k->i<=its.length->h.IsListIter it l i->zj9 (ks.take i) S h->(∀ b o,b≠S->b≠it->h0.get? b=some o->h.get? b=some o) ->
   codeAny (model prog w) A (.builtin "set.update.loop" ⟨[.ref S,.ref it],[]⟩) R { s with heap:=h,toks:=tk }:=by
 intro k
 induction k with
 | zero =>
  intro i h tk hk' hi hit hS keep;refine codeAny_builtin PyProof.Rows.F.entry_set_update_loop ?_;rw [Around.under_plainId PyProof.Rows.F.plain_set_update_loop _];refine (show wpAny _ A.in1 (pyNext (.ref it) >>= _) _ _ _ from wpAny_bind (wpAny_pyNext_list_end (s:={ s with heap:=h,toks:=tk }) (A:=A.in1) hA hit (show h.IsList l its.toArray from (let ⟨o,e,r⟩:=hl;⟨o,keep l o nlS nli e,r⟩)) (by simp;omega) fun h' eb=>?_));refine wpAny_pure (hR h' tk (fun b o h1 h2 e=>eb b o h2 (keep b o h1 h2 e)) ?_);rw [show i=ks.length by omega,zoT] at hS;exact hS.mv nSi (zdF hit) eb
 | succ k ih =>
  intro i h tk hk' hi hit hS keep;have hlt:i<its.length:=by omega
  obtain⟨c,kx,eu,hkx,hxd,hx⟩:=hk i its[i] (zoz hlt);refine codeAny_builtin PyProof.Rows.F.entry_set_update_loop ?_;rw [Around.under_plainId PyProof.Rows.F.plain_set_update_loop _];refine (show wpAny _ A.in1 (pyNext (.ref it) >>= _) _ _ _ from wpAny_bind (wpAny_pyNext_list_item (s:={ s with heap:=h,toks:=tk }) (A:=A.in1) hit (show h.IsList l its.toArray from (let ⟨o,e,r⟩:=hl;⟨o,keep l o nlS nli e,r⟩)) (x:=.ref c) (by rw [← eu];simp [hlt]) fun h1 hit1 sb1=>?_));have hS1:zj9 (ks.take i) S h1:=hS.mv nSi (zdF hit) fun b o nb e=>(sb1.2 b nb).trans e
  rw [eu] at hx;have hx1:IsN h1 kx (.ref c):=zcH (fun b its' z=>by
   obtain⟨n1,n2⟩:=ht b _ z;obtain⟨o,e,r⟩:=z;exact⟨o,(sb1.2 b n2).trans (keep b o n1 n2 e),r⟩) 7 _ _ hxd hx
  have hki:i<ks.length:=by omega
  have eki:ks[i]=kx:=by rw [zoz hki] at hkx;exact zpk hkx
  have nin:kx ∉ ks.take i:=fun hm=>by
   obtain⟨j,hj,e⟩:=List.mem_take_iff_getElem.1 hm
   have:=(List.getElem_inj nd).1 (e.trans eki.symm)
   omega
  dsimp only;refine wpAny_bind (wpAny_holding (zmf (A:=A.in1) (s:={ s with heap:=h1,toks:=tk }) (by show A.units+1+8<cLine;omega) hS1 nin hxd hx1 (by rw [zoW];omega) fun h2 tk2 sb2 hS2=>?_));rw [← eki,List.take_append_getElem hki] at hS2;exact wpAny_pure ⟨plainId_quiet PyProof.Rows.F.plain_set_update_loop _,ih (i+1) h2 tk2 (by omega) hlt (hit1.at fun o e=>(sb2.2 it (Ne.symm nSi)).trans e) hS2 fun b o n1 n2 e=>(sb2.2 b n1).trans ((sb1.2 b n2).trans (keep b o n1 n2 e))⟩
end
def zj8 (d:Addr) (n:Nat):Heap->Prop:=fun h=>∃ o es ep t,h.get? d=some o/\o.ExactSet/\o.data=.set es ep t/\t.fits es.size=true/\es.size=n
theorem zlA {P:Program} {w:World} {H:Hp} {h:Heap} {d:Addr} {n:Nat} (p:zj8 d n h):zaV P w H h d (.ext (zj8 d n)):=by
 refine⟨p,?_,fun h1 h2 q k=>?_⟩
 ·obtain⟨o,_,_,_,e,_⟩:=p;exact⟨o,e⟩
 ·obtain⟨o,es,ep,t,e,r⟩:=q;exact⟨o,es,ep,t,k o e,r⟩
section
variable {X:Cx}
theorem zmg:bootBuiltins "set"=some (.type "set"):=by decide +kernel
def zmm:List V->Hp->VK->Prop:=fun xs H Q=>match xs with
 | [.ref l]=>∃ (as:List Addr) (ks:List NK),H l=some (.lst (as.map V.ref))/\zbq (fun a k=>k.dep<=7/\zbX H k (.ref a)) as ks/\ks.Nodup/\ks.length<=76/\∀ d,H d=none->Q (.ref d) (upd H d (.ext (zj8 d ks.length)))
 | _=>False
theorem zne {r:Nat} (hr:zcq r X.A) (hc:X.calm=true):zbu X (.type "set") zmm:=by
 intro pins s σ H xs us Q I r h;unfold zmm at h;split at h
 ·rename_i l;obtain⟨as,ks,hl,hA,nd,h76,q⟩:=h;cases r with
  | cons r rr =>
  cases rr;cases r;obtain⟨z,its,n,rel,he⟩:=(show zaV X.prog X.w H s.heap l (.lst (as.map V.ref)) from I.hok l _ hl);have hits:=zi0 rel;subst hits;have hal:=hA.1;have hisn:∀ (i:Nat) (u:Value),(as.map Value.ref)[i]?=some u->∃ (c:Addr) (k:NK),u=.ref c/\ks[i]?=some k/\k.dep<=7/\IsN s.heap k u:=fun i u hu=>by
   rw [zoy] at hu;obtain⟨a,ha,rfl⟩:=zoA.1 hu;obtain⟨k,h1,h2,h3⟩:=hA.at ha;exact⟨a,k,rfl,h1,h2,zfp I 7 k _ _ h2 h3 rfl⟩
  refine zjW fun led=>?_
  have kS:∀ b o,s.heap.get? b=some o->(s.heap.push (zcb led)).get? b=some o:=fun b o e=>zoK _ e
  have hoS:(s.heap.push (zcb led)).get? s.heap.objs.size=some (zcb led):=zo8 _ rfl;have hT:Shared.TypeIs { s with heap:=s.heap.push (zcb led) } (.ref s.heap.objs.size) "set":=⟨_,hoS,rfl⟩;have he1:=kS _ _ he;have hTl:Shared.TypeIs { s with heap:=s.heap.push (zcb led) } (.ref l) "list":=⟨_,he1,rfl⟩;have hl1:(s.heap.push (zcb led)).IsList l (as.map Value.ref).toArray:=PySem.IsL.isList he1;have x1:=F.sub_list_set;have x2:=F.sub_list_frozenset;have x3:(Value.type "list" == Value.type "dict")=false:=by decide
  unfold Builtin.«set.__init__» noKeywords Builtin.Frozenset.updateFrom;generalize hPI:pyIter=PI;have hoS2:(s.heap.push (zcb led)).get? s.heap.objs.size=some { cls:=.type "set",dict:=none,data:=.set #[] 0 (.fresh 0 0 led) }:=hoS;generalize hG:s.heap.push (zcb led)=G at *
  wp_walk
  subst hPI;refine wpAny_pyIter_list hl1 (wpAny_bind (wpAny_runValue ?_));have hlt:l<s.heap.objs.size:=zoY he;have hSlt:s.heap.objs.size<G.objs.size:=zoY hoS2;have kI:∀ b o,G.get? b=some o->(G.push { cls:=.type "list_iterator",data:=.fields #[.ref l,.int 0 0] }).get? b=some o:=fun b o e=>zoK _ e
  refine zjY (A:=X.A.in1.in1) (s:=s) (h0:=G) (ks:=ks) (its:=as.map Value.ref) (S:=s.heap.objs.size) (l:=l) (I.ok.hd hc) ?hu (zph hSlt) (zph hlt) (zph (Nat.lt_trans hlt hSlt)) (by rw [zox,hal]) nd h76 hl1 (fun i u hu=>?_) (fun b its' hb=>?_) (fun h' tk keep hS=>?_) _ 0 _ _ rfl (Nat.zero_le _) ⟨_,zo8 _ rfl,rfl,rfl⟩ ?_ fun b o _ _ e=>kI b o e
  case hu=>have:=hr.units;show X.A.units+1+1+9<cLine;omega
  ·obtain⟨c,k,h1,h2,h3,h4⟩:=hisn i u hu;exact⟨c,k,h1,h2,h3,zcH (fun b its' ⟨o,e,r⟩=>⟨o,kS b o e,r⟩) 7 _ _ h3 h4⟩
  ·obtain⟨o,e,c,_⟩:=hb;refine⟨?_,zph (zoY e)⟩;rintro rfl;rw [hoS2] at e;cases e;have c:Value.type "set"=Value.type "tuple":=c;exact absurd c (by decide)
  ·show wpAny _ _ _ _ _ _;refine wpAny_pure ?_;refine (show wpAny _ _ (ret Value.none) _ _ _ from wpAny_pure ⟨rfl,.ref s.heap.objs.size,_,I.laid (a:=s.heap.objs.size) (o:=.ext (zj8 s.heap.objs.size ks.length)) (h':=h') (t':=tk) (fun b u e=>keep b u (zph (zoY e)) (zph (Nat.lt_trans (zoY e) hSlt)) (kS b u e)) (zoN _) (zlA ?_),rfl,q _ (I.hok.fresh (zoN _))⟩);obtain⟨o,es,ep,t,h1,h2,h3,h4,h5,h6,h7,_⟩:=hS;refine⟨o,es,ep,t,h1,h2,h3,?_,h4⟩;have hfl:t.fill=t.place.size:=by unfold SetTable.fill;rw [h6];rfl
   unfold SetTable.fits;rw [hfl,h5];simp
   omega
  ·exact⟨_,#[],0,_,kI _ _ hoS2,⟨rfl,rfl,rfl⟩,rfl,rfl,rfl,rfl,.inl ⟨rfl,by decide⟩,fun e he=>by simp at he⟩
 ·exact h.elim
def zmh:List V->Hp->VK->Prop:=fun xs H Q=>match xs with
 | [.ref d]=>∃ n,H d=some (.ext (zj8 d n))/\n<=76/\Q (.int n) H
 | _=>False
theorem zm9:zbu X (.builtin "len") zmh:=by
 intro pins s σ H xs us Q I r h;unfold zmh at h;split at h
 ·rename_i d;obtain⟨n,e,hn,q⟩:=h;obtain⟨u,rfl,ru⟩:=zj2 r;cases ru;obtain⟨⟨o,es,ep,t,h1,h2,h3,h4,h5⟩,_,_⟩:=(show zaV X.prog X.w H s.heap d (.ext (zj8 d n)) from I.hok d _ e);refine call_len_set h1 h2 h3 h4 (by omega) ⟨.int n,H,?_,⟨_,by rw [h5]⟩,q⟩;exact I.tok _
 ·exact h.elim
end
end L2
end
section
set_option autoImplicit true
open PySem
namespace L2
end L2
end
section
set_option autoImplicit true
open PySem
namespace L2
end L2
end
section
set_option autoImplicit true
open PySem PySem.Spec PyProof.Rows
namespace L2
variable {X:Cx}
end L2
end
namespace Law
open PySem PySem.Spec PyProof.Rows L2
local macro_rules | `(tactic| walk_at "o") => `(tactic| first | exact Or.inl rfl | exact Or.inr rfl)
local macro_rules | `(tactic| walk_at "w") => `(tactic| conv => whnf)
local macro_rules | `(tactic| walk_at "hp") => `(tactic| (repeat (first | assumption | exact zaf | refine zmD ?_ (by assumption))))
local macro_rules | `(tactic| walk_at "frees") => `(tactic| (repeat ((conv => whnf); first | exact True.intro | refine ⟨Or.inl rfl, ?_⟩ | refine ⟨Or.inr rfl, ?_⟩ | refine ⟨⟨rfl, Or.inl rfl⟩, ?_⟩ | refine ⟨⟨rfl, Or.inr rfl⟩, ?_⟩)))
local macro_rules | `(tactic| walk_at "s") => `(tactic| exact ⟨rfl, rfl, rfl, by decide +kernel, rfl, by decide +kernel, by decide +kernel⟩)
local macro_rules | `(tactic| walk_at "comp_ok") => `(tactic| exact ⟨rfl, by decide +kernel, by decide +kernel, by walk_at "frees", by walk_at "frees"⟩)
def top (i:Nat):Stmt:=PySem.Challenge.pw_endnever_k25_whole_papers_never_end.main.body.getD i (.Pass ⟨0,0,0,0⟩)
abbrev zbO:Stmt:=top 50
abbrev zcm:Stmt:=top 52
abbrev zbP:Stmt:=top 51
abbrev zbt:Stmt:=top 9
abbrev zcl:Stmt:=top 10
abbrev zba:Stmt:=top 11
abbrev zaS:Stmt:=top 12
abbrev zaN:Stmt:=zcS (top 7) 0
abbrev zbg:Stmt:=zcS (top 7) 1
abbrev za8:Stmt:=zcS (top 7) 2
abbrev zbh:Stmt:=zcS (top 7) 4
abbrev zbi:Stmt:=zcS (top 7) 3
abbrev za9:Stmt:=zcS (top 7) 5
abbrev za0:Stmt:=top 8
abbrev zcX:Stmt:=top 15
abbrev zhx:Stmt:=top 16
abbrev zco:Stmt:=top 17
abbrev zbk:Stmt:=top 19
abbrev zem:Stmt:=top 20
abbrev zaQ:Stmt:=top 21
abbrev zaZ:Stmt:=top 22
abbrev zcY:Stmt:=top 23
abbrev zcp:Stmt:=top 24
abbrev zbN:Stmt:=top 25
abbrev zbb:Stmt:=top 26
abbrev za1:Stmt:=top 27
abbrev zbl:Stmt:=top 47
abbrev zc1:Stmt:=top 48
abbrev zbj:Stmt:=top 53
abbrev zc0:Stmt:=top 54
abbrev zcn:Stmt:=top 55
abbrev zcZ:Stmt:=top 56
abbrev zaR:Stmt:=top 57
abbrev zhw:Stmt:=top 58
theorem us0 {P:List Value->Prop} (h:Unit->P []):∀ us:List Value,us.length=0->P us
 | [],_=>h ()
theorem us1 {P:List Value->Prop} (h:∀ v0,P [v0]):∀ us:List Value,us.length=1->P us
 | [v0],_=>h v0
theorem us2 {P:List Value->Prop} (h:∀ v0 v1,P [v0,v1]):∀ us:List Value,us.length=2->P us
 | [v0,v1],_=>h v0 v1
theorem us3 {P:List Value->Prop} (h:∀ v0 v1 v2,P [v0,v1,v2]):∀ us:List Value,us.length=3->P us
 | [v0,v1,v2],_=>h v0 v1 v2
theorem us4 {P:List Value->Prop} (h:∀ v0 v1 v2 v3,P [v0,v1,v2,v3]):∀ us:List Value,us.length=4->P us
 | [v0,v1,v2,v3],_=>h v0 v1 v2 v3
set_option genInjectivity false in
set_option genSizeOf false in
structure Ad where
 l_mixed:Addr
 l_mixed_d:FuncData
 l_draw:Addr
 l_draw_d:FuncData
 l_purse:Addr
 l_purse_d:FuncData
 is_entry:Addr
 is_entry_d:FuncData
 is_row:Addr
 is_row_d:FuncData
 is_machine:Addr
 is_machine_d:FuncData
 must_machine:Addr
 must_machine_d:FuncData
 Walk___init__:Addr
 Walk___init___d:FuncData
 Walk_look:Addr
 Walk_look_d:FuncData
 Walk_entry:Addr
 Walk_entry_d:FuncData
 Walk_mark:Addr
 Walk_mark_d:FuncData
 Walk_step:Addr
 Walk_step_d:FuncData
 Walk_setup:Addr
 Walk_setup_d:FuncData
 first_setup:Addr
 first_setup_d:FuncData
 begun:Addr
 begun_d:FuncData
 run:Addr
 run_d:FuncData
 setups:Addr
 setups_d:FuncData
 setup_key:Addr
 setup_key_d:FuncData
 ring:Addr
 ring_d:FuncData
 is_led_along:Addr
 is_led_along_d:FuncData
 first_drift:Addr
 first_drift_d:FuncData
 drift:Addr
 drift_d:FuncData
 walked:Addr
 walked_d:FuncData
 between:Addr
 between_d:FuncData
 shows_ring:Addr
 shows_ring_d:FuncData
 shows_drift:Addr
 shows_drift_d:FuncData
 shows_end:Addr
 shows_end_d:FuncData
 shows:Addr
 shows_d:FuncData
 l_machine:Addr
 l_machine_d:FuncData
 l_led:Addr
 l_led_d:FuncData
 l_late:Addr
 l_late_d:FuncData
 l_any:Addr
 l_any_d:FuncData
 l_goes_round:Addr
 l_goes_round_d:FuncData
 law:Addr
 law_d:FuncData
 MillError:Addr
 NoMachine:Addr
 Walk:Addr
structure Tx (K:PySem.W.Frag) (mg:Str->Option Value) (a:Ad):Prop where
 f_l_mixed:Fun K "_law_mixed" "_law_mixed" zbO a.l_mixed a.l_mixed_d
 b_l_mixed:zaG K a.l_mixed_d ["_law_cell","_law_k"] []
 g_l_mixed:mg "_law_mixed"=some (.ref a.l_mixed)
 f_l_draw:Fun K "_law_draw" "_law_draw" zcm a.l_draw a.l_draw_d
 b_l_draw:zaG K a.l_draw_d ["_law_purse_here","_law_out_of"] []
 g_l_draw:mg "_law_draw"=some (.ref a.l_draw)
 f_l_purse:Fun K "_law_purse" "_law_purse" zbP a.l_purse a.l_purse_d
 b_l_purse:zaG K a.l_purse_d ["_law_script"] []
 g_l_purse:mg "_law_purse"=some (.ref a.l_purse)
 f_is_entry:Fun K "is_entry" "is_entry" zbt a.is_entry a.is_entry_d
 b_is_entry:zaG K a.is_entry_d ["entry","rows","signs"] []
 g_is_entry:mg "is_entry"=some (.ref a.is_entry)
 f_is_row:Fun K "is_row" "is_row" zcl a.is_row a.is_row_d
 b_is_row:zaG K a.is_row_d ["row","rows","signs"] []
 g_is_row:mg "is_row"=some (.ref a.is_row)
 f_is_machine:Fun K "is_machine" "is_machine" zba a.is_machine a.is_machine_d
 b_is_machine:zaG K a.is_machine_d ["machine"] []
 g_is_machine:mg "is_machine"=some (.ref a.is_machine)
 f_must_machine:Fun K "must_machine" "must_machine" zaS a.must_machine a.must_machine_d
 b_must_machine:zaG K a.must_machine_d ["machine"] []
 g_must_machine:mg "must_machine"=some (.ref a.must_machine)
 f_Walk___init__:Fun K "__init__" "Walk.__init__" zaN a.Walk___init__ a.Walk___init___d
 b_Walk___init__:zaG K a.Walk___init___d ["self","table","begin"] []
 mk_Walk:Mk K a.Walk a.Walk___init__
 f_Walk_look:Fun K "look" "Walk.look" zbg a.Walk_look a.Walk_look_d
 b_Walk_look:zaG K a.Walk_look_d ["self"] []
 m_Walk_look:zj7 K a.Walk "look" a.Walk_look
 f_Walk_entry:Fun K "entry" "Walk.entry" za8 a.Walk_entry a.Walk_entry_d
 b_Walk_entry:zaG K a.Walk_entry_d ["self"] []
 m_Walk_entry:zj7 K a.Walk "entry" a.Walk_entry
 f_Walk_mark:Fun K "mark" "Walk.mark" zbh a.Walk_mark a.Walk_mark_d
 b_Walk_mark:zaG K a.Walk_mark_d ["self","sign"] []
 m_Walk_mark:zj7 K a.Walk "mark" a.Walk_mark
 f_Walk_step:Fun K "step" "Walk.step" zbi a.Walk_step a.Walk_step_d
 b_Walk_step:zaG K a.Walk_step_d ["self"] []
 m_Walk_step:zj7 K a.Walk "step" a.Walk_step
 f_Walk_setup:Fun K "setup" "Walk.setup" za9 a.Walk_setup a.Walk_setup_d
 b_Walk_setup:zaG K a.Walk_setup_d ["self"] []
 m_Walk_setup:zj7 K a.Walk "setup" a.Walk_setup
 f_first_setup:Fun K "first_setup" "first_setup" za0 a.first_setup a.first_setup_d
 b_first_setup:zaG K a.first_setup_d [] []
 g_first_setup:mg "first_setup"=some (.ref a.first_setup)
 f_begun:Fun K "begun" "begun" zcX a.begun a.begun_d
 b_begun:zaG K a.begun_d ["machine"] []
 g_begun:mg "begun"=some (.ref a.begun)
 f_run:Fun K "run" "run" zhx a.run a.run_d
 b_run:zaG K a.run_d ["machine","most"] []
 g_run:mg "run"=some (.ref a.run)
 f_setups:Fun K "setups" "setups" zco a.setups a.setups_d
 b_setups:zaG K a.setups_d ["machine","most"] []
 g_setups:mg "setups"=some (.ref a.setups)
 f_setup_key:Fun K "setup_key" "setup_key" zbk a.setup_key a.setup_key_d
 b_setup_key:zaG K a.setup_key_d ["setup"] []
 g_setup_key:mg "setup_key"=some (.ref a.setup_key)
 f_ring:Fun K "ring" "ring" zem a.ring a.ring_d
 b_ring:zaG K a.ring_d ["machine","most"] []
 g_ring:mg "ring"=some (.ref a.ring)
 f_is_led_along:Fun K "is_led_along" "is_led_along" zaQ a.is_led_along a.is_led_along_d
 b_is_led_along:zaG K a.is_led_along_d ["early","late","low","high"] []
 g_is_led_along:mg "is_led_along"=some (.ref a.is_led_along)
 f_first_drift:Fun K "first_drift" "first_drift" zaZ a.first_drift a.first_drift_d
 b_first_drift:zaG K a.first_drift_d ["trail","late"] []
 g_first_drift:mg "first_drift"=some (.ref a.first_drift)
 f_drift:Fun K "drift" "drift" zcY a.drift a.drift_d
 b_drift:zaG K a.drift_d ["machine","most"] []
 g_drift:mg "drift"=some (.ref a.drift)
 f_walked:Fun K "walked" "walked" zcp a.walked a.walked_d
 b_walked:zaG K a.walked_d ["walk","steps"] []
 g_walked:mg "walked"=some (.ref a.walked)
 f_between:Fun K "between" "between" zbN a.between a.between_d
 b_between:zaG K a.between_d ["machine","early","late"] []
 g_between:mg "between"=some (.ref a.between)
 f_shows_ring:Fun K "shows_ring" "shows_ring" zbb a.shows_ring a.shows_ring_d
 b_shows_ring:zaG K a.shows_ring_d ["machine","early","late"] []
 g_shows_ring:mg "shows_ring"=some (.ref a.shows_ring)
 f_shows_drift:Fun K "shows_drift" "shows_drift" za1 a.shows_drift a.shows_drift_d
 b_shows_drift:zaG K a.shows_drift_d ["machine","early","late"] []
 g_shows_drift:mg "shows_drift"=some (.ref a.shows_drift)
 f_shows_end:Fun K "shows_end" "shows_end" zbl a.shows_end a.shows_end_d
 b_shows_end:zaG K a.shows_end_d ["machine","steps"] []
 g_shows_end:mg "shows_end"=some (.ref a.shows_end)
 f_shows:Fun K "shows" "shows" zc1 a.shows a.shows_d
 b_shows:zaG K a.shows_d ["machine","paper"] []
 g_shows:mg "shows"=some (.ref a.shows)
 f_l_machine:Fun K "_law_machine" "_law_machine" zbj a.l_machine a.l_machine_d
 b_l_machine:zaG K a.l_machine_d ["_law_purse_here"] []
 g_l_machine:mg "_law_machine"=some (.ref a.l_machine)
 f_l_led:Fun K "_law_led" "_law_led" zc0 a.l_led a.l_led_d
 b_l_led:zaG K a.l_led_d ["_law_purse_here"] []
 g_l_led:mg "_law_led"=some (.ref a.l_led)
 f_l_late:Fun K "_law_late" "_law_late" zcn a.l_late a.l_late_d
 b_l_late:zaG K a.l_late_d ["_law_purse_here"] []
 g_l_late:mg "_law_late"=some (.ref a.l_late)
 f_l_any:Fun K "_law_any" "_law_any" zcZ a.l_any a.l_any_d
 b_l_any:zaG K a.l_any_d ["_law_purse_here"] []
 g_l_any:mg "_law_any"=some (.ref a.l_any)
 f_l_goes_round:Fun K "_law_goes_round" "_law_goes_round" zaR a.l_goes_round a.l_goes_round_d
 b_l_goes_round:zaG K a.l_goes_round_d ["_law_machine_here","_law_paper"] []
 g_l_goes_round:mg "_law_goes_round"=some (.ref a.l_goes_round)
 f_law:Fun K "law" "law" zhw a.law a.law_d
 b_law:zaG K a.law_d ["_law_script"] []
 g_law:mg "law"=some (.ref a.law)
 e_MillError:ExK K a.MillError
 t_MillError:ExC K a.MillError
 g_MillError:mg "MillError"=some (.ref a.MillError)
 m_MillError:ExM K a.MillError ([.ref a.MillError])
 e_NoMachine:ExK K a.NoMachine
 t_NoMachine:ExC K a.NoMachine
 g_NoMachine:mg "NoMachine"=some (.ref a.NoMachine)
 m_NoMachine:ExM K a.NoMachine ([.ref a.NoMachine,.ref a.MillError])
 k_Walk:Cls K a.Walk
 g_Walk:mg "Walk"=some (.ref a.Walk)
 n_Walk_table:zbY K a.Walk "table"
 n_Walk_row:zbY K a.Walk "row"
 n_Walk_place:zbY K a.Walk "place"
 n_Walk_marks:zbY K a.Walk "marks"
 c_MOST_ROWS:CV mg "MOST_ROWS" (.int 4)
 c_LEAST_SIGNS:CV mg "LEAST_SIGNS" (.int 2)
 c_MOST_SIGNS:CV mg "MOST_SIGNS" (.int 4)
 c_MOST_MOMENT:CV mg "MOST_MOMENT" (.int 1000)
 z_abs:mg "abs"=none
 z_all:mg "all"=none
 z_bool:mg "bool"=none
 z_dict:mg "dict"=none
 z_enumerate:mg "enumerate"=none
 z_int:mg "int"=none
 z_isinstance:mg "isinstance"=none
 z_len:mg "len"=none
 z_list:mg "list"=none
 z_max:mg "max"=none
 z_min:mg "min"=none
 z_range:mg "range"=none
 z_reversed:mg "reversed"=none
 z_set:mg "set"=none
 z_sorted:mg "sorted"=none
 z_sum:mg "sum"=none
 z_tuple:mg "tuple"=none
 ex_nd:[a.MillError,a.NoMachine].Nodup
section
variable {P:Program} {w:World} {K:PySem.W.Frag} {mg:Str->Option Value} {base:Heap} {a:Ad}
theorem zeo:zar ["_law_cell","_law_k","_law_rest","_law_number"] ["_law_cell","_law_k"] (zae zbO):=by walk_at "s"
def ze3:Sp:=fun vs H Q _=>match vs with
 | [.int _,.int k]=>(0<=k/\k<=1000)/\∀ (n:Int),0<=n->n<2147483587->Q (.int n) H
 | _=>False
theorem zho (T:Tx K mg a):zbr P w K mg base CX0 1 a.l_mixed a.l_mixed_d ["_law_cell","_law_k"] (ze3):=by
 refine T.f_l_mixed.ok zeo (fun vs H Q E h=>?_) (fun cdv A outer s H vs Q E hr h=>?_)
 ·unfold ze3 at h;split at h
  ·rfl
  ·exact h.elim
 ·unfold ze3 at h;split at h
  ·have nd:=zeo.nd;have hu:=zaY hr;rename_i c k;refine⟨_,(zab (zap (i:=2) nd rfl (by walk_at "o") (zau zhr (qv 0) (zau znc zac zac)))
  (zab (zap (i:=3) nd rfl (by walk_at "o") (zau zhr (zau zcr (zau zbD (zau zbD (zau zbD (zau zcr (qv 2) (qv 2)) (zau zcr zac (qv 2))) (zau zcr zac (qv 1))) zac) zac) zac))
  (zag (zan (zau zhr (zau zbD (zau zcr (qv 3) (qv 3)) zac) zac))))),?_⟩
   refine⟨cpow (by decide),fun p hp _=>?_⟩;have hp:p=1000000000000000:=by rw [hp];decide
   refine⟨by show (0:Int)<_;omega,fun r _ ⟨r0,r1⟩=>?_⟩;refine⟨.inl ⟨by omega,by omega⟩,fun m1 _ _=>?_⟩;refine⟨.inl ⟨by omega,by omega⟩,fun m2 _ _=>?_⟩;refine⟨.inl ⟨by omega,by omega⟩,fun m3 _ _=>?_⟩;refine⟨.inr ⟨by omega,by omega⟩,fun m4 _ _=>?_⟩;refine⟨by show (0:Int)<_;decide,fun m5 _ ⟨a0,a1⟩=>?_⟩;refine⟨.inl ⟨by omega,by omega⟩,fun m6 _ _=>?_⟩;refine⟨by show (0:Int)<_;decide,fun m7 _ ⟨b0,b1⟩=>?_⟩;exact h.2 _ b0 b1
  ·exact h.elim
theorem zfG:zar ["_law_purse_here","_law_out_of","_law_drawn"] ["_law_purse_here","_law_out_of"] (zae zcm):=by walk_at "s"
def zgc:Sp:=fun vs H Q _=>match vs with
 | [.ref b,.int k]=>(0<k/\k.natAbs.log2<9000)/\∃ n m,H b=some (.lst [.int n,.int m])/\∀ d n':Int,0<=d->d<k->Q (.int d) (upd H b (.lst [.int n',.int m]))
 | _=>False
theorem zb4 (T:Tx K mg a):zbr P w K mg base CX0 1 a.l_draw a.l_draw_d ["_law_purse_here","_law_out_of"] (zgc):=by
 refine T.f_l_draw.ok zfG (fun vs H Q E h=>?_) (fun cdv A outer s H vs Q E hr h=>?_)
 ·unfold zgc at h;split at h
  ·rfl
  ·exact h.elim
 ·unfold zgc at h;split at h
  ·have nd:=zfG.nd;have hu:=zaY hr;rename_i b k;obtain⟨hk,n,m,hb,h⟩:=h;refine⟨_,(zab (zb6 (zbJ zd5 (zax (za2 (K:=K) rfl) (qv 0) zac (fun _ _=>rfl)) zac) (zag (zbp (zax (za2 (K:=K) rfl) (qv 0) zac (fun _ _=>rfl)) (zc8 (qv 0) zac zc9))) zat)
  (zab (zap (i:=2) nd rfl (by walk_at "o") (zau zhr (zax (za2 (K:=K) rfl) (qv 0) zac (fun _ _=>rfl)) (qv 1)))
  (zab (zbp (zau zm8 (zax (za2 (K:=K) rfl) (qv 0) zac (fun _ _=>rfl)) (qv 1)) (zc8 (qv 0) zac zc9))
  (zag (zan (qv 2)))))),?_⟩
   refine⟨_,_,SqL.of hb,rfl,?_⟩;walk_at "w";have fin:∀ (n1:Int) (H1:Hp),H1 b=some (.lst [.int n1,.int m])->(∀ n',upd H1 b (.lst [.int n',.int m])=upd H b (.lst [.int n',.int m])) ->
     ∃ xs v,SqL K H1 b xs/\atI xs 0=some v/\(cL CMod (fun i j=>i % j) fun _ j m=>0<=m/\m<j) v (.int k) H1 fun x H2 =>
      ∃ xs v,SqL K H2 b xs/\atI xs 0=some v/\(cL zl6 (fun i j=>i / j) fun _ _ _=>True) v (.int k) H2 fun y H3=>zkQ (.ref b) (.int 0) y H3 fun H4=>Q x H4:=by
    intro n1 H1 h1 he;refine⟨_,_,SqL.of h1,rfl,hk.1,fun d _ ⟨d0,d1⟩=>⟨_,_,SqL.of h1,rfl,hk,fun q _ _=>⟨_,0,h1,rfl,?_⟩⟩⟩;show Q (.int d) (upd H1 b (.lst [.int q,.int m]));rw [he];exact h d q d0 d1
   refine ifB.mk (fun _=>?_) (fun _=>?_)
   ·walk_at "w";refine⟨_,_,SqL.of hb,rfl,?_⟩;refine⟨_,0,hb,rfl,?_⟩;exact fin m _ zaf fun n'=>zl1
   ·exact fin n H hb fun n'=>rfl
  ·exact h.elim
theorem zep:zar ["_law_script","_law_cells","_law_number","_law_k"] ["_law_script"] (zae zbP):=by walk_at "s"
def ze4 (K:PySem.W.Frag):Sp:=fun vs H Q _=>match vs with
 | [.ref b]=>∃ ns:List Int,SqL K H b (ns.map V.int)/\ns.length<=63/\∀ (p:Addr) (H':Hp) (n m:Int),Sub H H'->H p=none->H' p=some (.lst [.int n,.int m])->Q (.ref p) H'
 | _=>False
theorem znW (ns:List Int):∃ ms:List Int,zkT (ns.map V.int) none (some 63)=ms.map V.int/\ms.length<=63:=by
 unfold zkT;rw [zox];refine⟨(ns.drop (HT.sIx ns.length 0 none)).take (HT.sIx ns.length ns.length (some 63)-HT.sIx ns.length 0 none),?_,?_⟩
 ·rw [List.map_take,List.map_drop]
 ·rw [zoW]
  have:HT.sIx ns.length ns.length (some ((63:Nat):Int))=min 63 ns.length:=HT.sIx_nat _ _ _
  have e:((63:Nat):Int)=(63:Int):=rfl;rw [e] at this;rw [this];omega
theorem zhE {vs:List V} {ns:List Int} (e:vs=ns.map V.int) {i:Int} (h0:0<=i) (h1:i<vs.length):∃ n:Int,atI vs i=some (.int n):=by
 subst e;unfold atI ixN;rw [zpc h0,zpc h1,Option.bind_some];have hl:i.toNat<ns.length:=by rw [zox] at h1;omega
 exact⟨ns[i.toNat],by rw [zoy,zoz hl];rfl⟩
theorem zhp (T:Tx K mg a):zbr P w K mg base CX0 2 a.l_purse a.l_purse_d ["_law_script"] (ze4 K):=by
 have G_l_mixed:=zho (P:=P) (w:=w) (base:=base) T;refine T.f_l_purse.ok zep (fun vs H Q E h=>?_) (fun cdv A outer s H vs Q E hr h=>?_)
 ·unfold ze4 at h;split at h
  ·rfl
  ·exact h.elim
 ·unfold ze4 at h;split at h
  ·have nd:=zep.nd;have hu:=zaY hr;rename_i b;obtain⟨ns,hS,hlen,h⟩:=h;obtain⟨ms,hms,hml⟩:=znW ns;refine⟨_,(zab (zap (i:=1) nd rfl (by walk_at "o") (zau zm7 (zjN (znf (K:=K) rfl) (qv 0) zlE (zlR zac)) (zbA (zaa zac zad))))
  (zab (zap (i:=2) nd rfl (by walk_at "o") zac)
  (zab (zcu PassesOwn.never rfl (zbM rfl T.z_range (zaa zac zad)) (zai (i:=3) nd rfl (by walk_at "o")) (zag (zap (i:=2) nd rfl (by walk_at "o") (zau zbD (zau zcr (qv 2) zac) (zah G_l_mixed (hr.mono (by decide)) rfl T.g_l_mixed T.f_l_mixed.kp T.b_l_mixed .nil zam (zaa (zax (za2 (K:=K) rfl) (qv 1) (zau zhr (qv 3) (zaD (zcL (K:=K) rfl) rfl T.z_len zct (zaa (qv 1) zad))) (fun _ _=>rfl)) (zaa (qv 3) zad)))))))
  (zab (zb6 (zbJ zod (zaD zm6 rfl T.z_abs zkc (zaa (zax (za2 (K:=K) rfl) (qv 1) zac (fun _ _=>rfl)) zad)) (zau znc zac zac)) (zag (zan (zbA (zaa (zaD zm6 rfl T.z_abs zkc (zaa (zax (za2 (K:=K) rfl) (qv 1) zac (fun _ _=>rfl)) zad)) (zaa (qv 2) zad))))) zat)
  (zag (zan (zbA (zaa (qv 2) (zaa (qv 2) zad))))))))),?_⟩
   refine⟨_,hS,fun p1 n1=>?_⟩;rw [hms];refine⟨by show 1<=sizeLine;decide,fun p2 n2=>?_⟩;refine⟨_,_,zmD zaf n2,zaf,by rw [zox];show ms.length+1<=sizeLine;exact zoM (Nat.add_le_add_right hml 1) (by decide),fun p3 n3=>?_⟩;have e3:ms.map V.int++[.int 0]=(ms++[0]).map V.int:=by rw [zoF];rfl
   have el:((ms++[0]).map V.int).length=ms.length+1:=by simp
   rw [e3];have sub3:Sub H (upd (upd (upd H p1 (.lst (ms.map V.int))) p2 (.lst [.int 0])) p3 (.lst ((ms++[0]).map V.int))) :=
    ((Sub.new n1).trans (Sub.new n2)).trans (Sub.new n3)
   have h3:(upd (upd (upd H p1 (.lst (ms.map V.int))) p2 (.lst [.int 0])) p3 (.lst ((ms++[0]).map V.int))) p3=some (.lst ((ms++[0]).map V.int)):=zaf;generalize (upd (upd (upd H p1 (.lst (ms.map V.int))) p2 (.lst [.int 0])) p3 (.lst ((ms++[0]).map V.int)))=H3 at sub3 h3 ⊢;refine⟨⟨by decide,by decide⟩,?_⟩;refine zbw (lo:=0) (n:=(64:Int).toNat) (fun _ σ H4=>∃ (n:Int) (v:Option V),σ=[some (.ref b),some (.ref p3),some (.int n),v]/\H4=H3) ⟨1,none,rfl,rfl⟩ ?_ ?_
   ·rintro i σ H4 hi ⟨n,v,rfl,rfl⟩;have hi:i<64:=hi;refine⟨.inr ⟨by decide,by decide⟩,fun m1 _ _=>?_⟩;refine⟨_,.inl (SqL.of h3),?_⟩;walk_at "w";rw [el];refine⟨by show (0:Int)<_;omega,fun r _ ⟨r0,r1⟩=>?_⟩;obtain⟨c,hc⟩:=zhE (i:=r) (rfl:(ms++[0]).map V.int=_) r0 (by rw [el];omega);refine⟨_,_,SqL.of h3,hc,?_⟩;refine⟨⟨by omega,by omega⟩,fun k _ _=>?_⟩;exact⟨_,_,rfl,rfl⟩
   ·rintro σ H4 ⟨n,v,rfl,rfl⟩;obtain⟨c,hc⟩:=zhE (i:=0) (rfl:(ms++[0]).map V.int=_) (by decide) (by rw [el];omega);refine⟨_,_,SqL.of h3,hc,?_⟩;walk_at "w";intro m1 _;refine⟨cpow (by decide),fun m2 _ _=>?_⟩;walk_at "w";refine ifB.mk (fun _=>?_) (fun _=>?_)
    ·walk_at "w";refine⟨_,_,SqL.of h3,hc,?_⟩;walk_at "w";intro m3 _;refine⟨by show 2<=sizeLine;decide,fun p4 n4=>?_⟩;exact h p4 _ _ _ (sub3.trans (Sub.new n4)) (sub3.free n4) zaf
    ·walk_at "w";refine⟨by show 2<=sizeLine;decide,fun p4 n4=>?_⟩;exact h p4 _ _ _ (sub3.trans (Sub.new n4)) (sub3.free n4) zaf
  ·exact h.elim
theorem zdS:zar ["entry","rows","signs","sign","way","row"] ["entry","rows","signs"] (zae zbt):=by walk_at "s"
def zcG:Sp:=fun vs H Q _=>match vs with
 | [.ref b,.int rows,.int signs]=>∃ e:En,Ent H b e/\∀ H',Sub H H'->Q (.bl (zaz rows signs e)) H'
 | _=>False
theorem zhT {K:PySem.W.Frag} {H:Hp} {b:Addr} {e:En} (h:Ent H b e):SqT K H b (e.map V.int):=SqT.of h
theorem zkq {y:Int}:(decide (y=-1) || decide (y=1))=inV (.int y) [.int (-1),.int 1]:=by
 unfold inV;simp only [List.any_cons,List.any_nil,eqV,Bool.or_false];by_cases h1:y=-1
 ·subst h1;rfl
 ·by_cases h2:y=1
  ·subst h2;rfl
  ·have h3:¬ (-1=y):=fun e=>h1 e.symm
   have h4:¬ (1=y):=fun e=>h2 e.symm
   simp [h1,h2,h3,h4]
theorem zf8 (T:Tx K mg a):zbr P w K mg base CX0 1 a.is_entry a.is_entry_d ["entry","rows","signs"] (zcG):=by
 refine T.f_is_entry.ok zdS (fun vs H Q E h=>?_) (fun cdv A outer s H vs Q E hr h=>?_)
 ·unfold zcG at h;split at h
  ·rfl
  ·exact h.elim
 ·unfold zcG at h;split at h
  ·have nd:=zdS.nd;have hu:=zaY hr;rename_i b rows signs;obtain⟨e,hb,h⟩:=h;refine⟨_,(zab (zb6 (zbJ zd5 (zaD (zcL (K:=K) rfl) rfl T.z_len zct (zaa (qv 0) zad)) zac) (zag (zan zcJ)) zat)
  (zab (zb6 (zbJ znb (zaD (zcL (K:=K) rfl) rfl T.z_len zct (zaa (qv 0) zad)) zac) (zag (zan zcJ)) zat)
  (zab (zbp (qv 0) (zaW (K:=K) (n:=3) rfl rfl (zal (zai (i:=3) nd rfl (by walk_at "o")) (zal (zai (i:=4) nd rfl (by walk_at "o")) (zal (zai (i:=5) nd rfl (by walk_at "o")) zaX)))))
  (zag (zan (zcC (zmY zhq zna zac (qv 3) (qv 2)) (zcC (zbe (zoe (K:=K) rfl) (qv 4) (zav (zaa (zit ziF zac) (zaa zac zad))) (by first | exact zaP _ | rfl)) (zel (zmY zhq zna zac (qv 5) (qv 1)))))))))),?_⟩
   refine⟨_,.inr (zhT hb),?_⟩;walk_at "w";refine ifB.dec (fun h0=>?_) (fun h0=>?_)
   ·have e0:e=[]:=by cases e with
     | nil=>rfl
     | cons x r=>simp at h0;omega
    subst e0;exact h H Sub.refl
   ·walk_at "w";refine⟨_,.inr (zhT hb),?_⟩;walk_at "w";refine ifB.mk (fun h3=>?_) (fun h3=>?_)
    ·have:zaz rows signs e=false:=by
      match e,h0,h3 with
      | [],h0,_=>simp at h0
      | [_],_,_=>rfl
      | [_,_],_,_=>rfl
      | [_,_,_],_,h3=>simp at h3
      | _::_::_::_::_,_,_=>rfl
     have h:=h H Sub.refl;rw [this] at h;exact h
    ·obtain⟨x,y,z,rfl⟩:∃ x y z,e=[x,y,z]:=by
      match e,h3 with
      | [],h3=>simp at h3
      | [_],h3=>simp at h3
      | [_,_],h3=>simp at h3
      | [x,y,z],_=>exact⟨x,y,z,rfl⟩
      | _::_::_::_::_,h3=>simp at h3;omega
     refine⟨_,zhT hb,rfl,?_⟩;walk_at "w";have fin:∀ (c:Bool) (H':Hp),Sub H H'->zaz rows signs [x,y,z]=c->Q (.bl c) H':=fun c H' S e=>e ▸ h H' S
     have hd:zaz rows signs [x,y,z]=((decide (0<=x) && decide (x<signs)) && (decide (y=-1) || decide (y=1)) && (decide (0<=z) && decide (z<rows))):=rfl;refine ifB.dec (fun h1=>?_) (fun h1=>?_)
     ·walk_at "w";refine ifB.dec (fun h2=>?_) (fun h2=>?_)
      ·walk_at "w";refine⟨by show 2<=sizeLine;decide,?_⟩;intro p1 n1;generalize U':upd _ p1 _=H1;obtain ⟨S1,e1⟩:=zaj n1 U';clear U';refine⟨_,.inr (SqT.of e1),rfl,rfl,?_⟩;walk_at "w";refine ifB.mk (fun h3=>?_) (fun h3=>?_)
       ·have h3:(decide (y=-1) || decide (y=1))=true:=by rw [← h3];exact zkq
        walk_at "w";refine ifB.dec (fun h4=>?_) (fun h4=>?_)
        ·exact fin _ _ S1 (by rw [hd,h3];simp [h1,h2,h4])
        ·exact fin _ _ S1 (by rw [hd,h3];simp [h1,h2,h4])
       ·have h3:(decide (y=-1) || decide (y=1))=false:=by rw [← h3];exact zkq
        exact fin _ _ S1 (by rw [hd,h3];simp)
      ·exact fin _ _ Sub.refl (by rw [hd];simp [h2])
     ·walk_at "w";refine ifB.no rfl ?_;exact fin false _ Sub.refl (by rw [hd];simp [h1])
  ·exact h.elim
theorem zfF:zar ["row","rows","signs"] ["row","rows","signs"] (zae zcl):=by walk_at "s"
def zdT:Sp:=fun vs H Q _=>match vs with
 | [.ref b,.int rows,.int signs]=>∃ es:List En,Row H b es/\es.length<=100/\∀ H',Sub H H'->Q (.bl (zd6 rows signs es)) H'
 | _=>False
theorem zka (f:α->Bool) (l:List α):(l.map f).all id=l.all f:=by rw [List.all_map];rfl
theorem zik (T:Tx K mg a):zbr P w K mg base CX0 2 a.is_row a.is_row_d ["row","rows","signs"] (zdT):=by
 have G_is_entry:=zf8 (P:=P) (w:=w) (base:=base) T;refine T.f_is_row.ok zfF (fun vs H Q E h=>?_) (fun cdv A outer s H vs Q E hr h=>?_)
 ·unfold zdT at h;split at h
  ·rfl
  ·exact h.elim
 ·unfold zdT at h;split at h
  ·have nd:=zfF.nd;have hu:=zaY hr;rename_i b rows signs;obtain⟨es,⟨as,hb,ha⟩,hlen,h⟩:=h;refine⟨_,(zag (zan (zcC (zbe zd5 (zaD (zcL (K:=K) rfl) rfl T.z_len zct (zaa (qv 0) zad)) (qv 2) (by first | exact zaP _ | rfl)) (zel (zaD (zkz (K:=K) rfl rfl) rfl T.z_all zkd (zaa (zjM (own:=["entry"]) (fr:=[1,2]) rfl (by walk_at "comp_ok") (zbn (K:=K) rfl (qv 0)) (fun _ _ _ _=>(zai (i:=0) (show List.Nodup (α:=Str) ["entry","rows","signs"] from by decide +kernel) rfl (by walk_at "o"))) (fun _ _ _ _=>zcV) (fun _ _ _ _=>(zah G_is_entry (hr.mono (by decide)) rfl T.g_is_entry T.f_is_entry.kp T.b_is_entry .nil zam (zaa (qv 0) (zaa (qv 1) (zaa (qv 2) zad)))))) zad)))))),?_⟩;refine⟨_,.inl (SqL.of hb),?_⟩;walk_at "w";have el:((as.map V.ref).length:Int)=es.length:=by rw [zox,ha.1]
   rw [el];refine ifB.dec (fun h1=>?_) (fun h1=>?_)
   ·walk_at "w";refine⟨⟨_,SqL.of hb⟩,?_⟩;intro p1 n1;refine zbc (K:=K) (a:=b) (xs:=as.map V.ref) (fun i σ H4=>∃ v:Option V,σ=[v,some (.int rows),some (.int signs)]/\Sub H H4/\H4 p1=some (.lst (((es.take i).map (zaz rows signs)).map V.bl))) ?_ ?_ ?_ ?_
    ·exact⟨none,rfl,Sub.new n1,by rw [zaf];rfl⟩
    ·rintro i σ H4 _ ⟨v,rfl,S4,_⟩;exact SqL.of (S4 _ _ hb)
    ·rintro i x σ H4 hi ⟨v,rfl,S4,g4⟩;rw [zoy] at hi;obtain⟨c,hc,rfl⟩:=zoA.1 hi;obtain⟨e,he,hE⟩:=ha.at hc;refine⟨e,S4 _ _ hE,fun H5 S5=>?_⟩;refine⟨_,S5 _ _ g4,?_,_,rfl,(S4.trans S5).upd n1,?_⟩
     ·rw [zox,zox,zoW];exact zoL (Nat.min_le_right _ _) (zoL hlen (by decide))
     ·rw [zaf,zoU,he,zoF,zoF];rfl
    ·rintro σ H4 ⟨v,rfl,S4,g4⟩;rw [zox,ha.1,zoT] at g4;refine⟨_,SqL.of g4,?_⟩;rw [zka];have h:=h H4 S4;unfold zd6 at h;rw [zoD h1,Bool.true_and] at h;exact h
   ·have h:=h H Sub.refl;unfold zd6 at h;rw [zoE h1,Bool.false_and] at h;exact h
  ·exact h.elim
theorem zcO:zar ["machine","rows","signs"] ["machine"] (zae zba):=by walk_at "s"
def Bd (k:Nat) (m:Ma):Prop:=m.length<=k/\∀ r∈m,r.length<=k
def zbU:Sp:=fun vs H Q _=>match vs with
 | [.ref b]=>∃ m:Ma,zdl H b m/\Bd 100 m/\∀ H',Sub H H'->Q (.bl (isM m)) H'
 | _=>False
theorem zjp {m:Ma} (h:¬ m.length<=4):isM m=false:=by
 unfold isM;cases m with
 | nil=>rfl
 | cons r m=>simp only;rw [zoE h];rfl
theorem zeR (T:Tx K mg a):zbr P w K mg base CX0 3 a.is_machine a.is_machine_d ["machine"] (zbU):=by
 have G_is_row:=zik (P:=P) (w:=w) (base:=base) T;refine T.f_is_machine.ok zcO (fun vs H Q E h=>?_) (fun cdv A outer s H vs Q E hr h=>?_)
 ·unfold zbU at h;split at h
  ·rfl
  ·exact h.elim
 ·unfold zbU at h;split at h
  ·have nd:=zcO.nd;have hu:=zaY hr;rename_i b;obtain⟨m,⟨rs,hb,hnd,hrw⟩,⟨hl1,hl2⟩,h⟩:=h;refine⟨_,(zab (zap (i:=1) nd rfl (by walk_at "o") (zaD (zcL (K:=K) rfl) rfl T.z_len zct (zaa (qv 0) zad)))
  (zab (zb6 (zdQ (zlI zhq zhq zac (qv 1) (zis rfl T.c_MOST_ROWS))) (zag (zan zcJ)) zat)
  (zab (zap (i:=2) nd rfl (by walk_at "o") (zaD (zcL (K:=K) rfl) rfl T.z_len zct (zaa (zax (za2 (K:=K) rfl) (qv 0) zac (fun _ _=>rfl)) zad)))
  (zab (zb6 (zdQ (zlI zhq zhq (zis rfl T.c_LEAST_SIGNS) (qv 2) (zis rfl T.c_MOST_SIGNS))) (zag (zan zcJ)) zat)
  (zag (zan (zaD (zkz (K:=K) rfl rfl) rfl T.z_all zkd (zaa (zjM (own:=["row"]) (fr:=[1,2]) rfl (by walk_at "comp_ok") (zbn (K:=K) rfl (qv 0)) (fun _ _ _ _=>(zai (i:=0) (show List.Nodup (α:=Str) ["row","rows","signs"] from by decide +kernel) rfl (by walk_at "o"))) (fun _ _ _ _=>zcV) (fun _ _ _ _=>(zah G_is_row (hr.mono (by decide)) rfl T.g_is_row T.f_is_row.kp T.b_is_row .nil zam (zaa (qv 0) (zaa (qv 1) (zaa (qv 2) zad)))))) zad)))))))),?_⟩
   refine⟨_,.inl (SqL.of hb),?_⟩;walk_at "w";have el:((rs.map V.ref).length:Int)=m.length:=by rw [zox,hrw.1]
   rw [el];have fin:∀ (c:Bool) (H':Hp),Sub H H'->isM m=c->Q (.bl c) H':=fun c H' S e=>e ▸ h H' S
   refine ifB.dec (fun h1=>?_) (fun h1=>?_)
   ·walk_at "w";refine ifB.ndec (fun h2=>?_) (fun h2=>?_)
    ·obtain⟨r0,m',rfl⟩:∃ r0 m',m=r0::m':=by
      cases m with
      | nil=>simp at h1
      | cons r m=>exact⟨r,m,rfl⟩
     obtain⟨q0,rs',rfl⟩:∃ q0 rs',rs=q0::rs':=by
      cases rs with
      | nil=>have:=hrw.1;simp at this
      | cons r rs=>exact⟨r,rs,rfl⟩
     obtain⟨as0,hq0,ha0⟩:=hrw.2 0 q0 r0 rfl rfl;refine⟨_,_,SqL.of hb,zaC (j:=0) rfl,?_⟩;refine⟨_,.inl (SqL.of hq0),?_⟩;walk_at "w";have el0:((as0.map V.ref).length:Int)=r0.length:=by rw [zox,ha0.1]
     rw [el0];have hd:isM (r0::m')=(decide ((r0::m').length<=4) && decide (2<=r0.length) && decide (r0.length<=4) && (r0::m').all (zd6 (r0::m').length r0.length)):=rfl;refine ifB.dec (fun h3=>?_) (fun h3=>?_)
     ·walk_at "w";refine ifB.ndec (fun h4=>?_) (fun h4=>?_)
      ·walk_at "w";refine⟨⟨_,SqL.of hb⟩,?_⟩;intro p1 n1;refine zbc (K:=K) (a:=b) (xs:=(q0::rs').map V.ref) (fun i σ H4=>∃ v:Option V,σ=[v,some (.int (r0::m').length),some (.int r0.length)]/\Sub H H4/\H4 p1=some (.lst ((((r0::m').take i).map (zd6 (r0::m').length r0.length)).map V.bl))) ?_ ?_ ?_ ?_
       ·exact⟨none,rfl,Sub.new n1,by rw [zaf];rfl⟩
       ·rintro i σ H4 _ ⟨v,rfl,S4,_⟩;exact SqL.of (S4 _ _ hb)
       ·rintro i x σ H4 hi ⟨v,rfl,S4,g4⟩;rw [zoy] at hi;obtain⟨c,hc,rfl⟩:=zoA.1 hi;obtain⟨e,he,hE⟩:=hrw.at hc;refine⟨e,hE.stay (.sub S4),hl2 e (zoC he),fun H5 S5=>?_⟩;refine⟨_,S5 _ _ g4,?_,_,rfl,(S4.trans S5).upd n1,?_⟩
        ·rw [zox,zox,zoW];exact zoL (Nat.min_le_right _ _) (zoL hl1 (by decide))
        ·rw [zaf,zoU,he,zoF,zoF];rfl
       ·rintro σ H4 ⟨v,rfl,S4,g4⟩;rw [zox,hrw.1,zoT] at g4;refine⟨_,SqL.of g4,?_⟩;rw [zka];refine fin _ _ S4 ?_;rw [hd,zoD (show (r0::m').length<=4 by omega),zoD (show 2<=r0.length by omega),zoD (show r0.length<=4 by omega)]
        rfl
      ·exact fin false _ Sub.refl (by rw [hd,zoE (show ¬ r0.length<=4 by omega)];simp)
     ·walk_at "w";refine ifB.yes rfl ?_;exact fin false _ Sub.refl (by rw [hd,zoE (show ¬ 2<=r0.length by omega)];simp)
    ·exact fin false _ Sub.refl (zjp (by omega))
   ·walk_at "w";refine ifB.yes rfl ?_;exact fin false _ Sub.refl (by cases m with
     | nil=>rfl
     | cons r m=>simp at h1;omega)
  ·exact h.elim
theorem zca:zar ["machine"] ["machine"] (zae zaS):=by walk_at "s"
def zbC (a:Ad):Sp:=fun vs H Q E=>match vs with
 | [.ref b]=>∃ m:Ma,zdl H b m/\Bd 100 m/\(isM m=true->∀ H',Sub H H'->Q .non H')/\(isM m=false->∀ H',Sub H H'->E (.ref a.NoMachine) none H')
 | _=>False
theorem zb5 (T:Tx K mg a):zbr P w K mg base (CXE P w) 4 a.must_machine a.must_machine_d ["machine"] (zbC a):=by
 have G_is_machine:=zeR (P:=P) (w:=w) (base:=base) T;refine T.f_must_machine.okE zca (fun vs H Q E h=>?_) (fun cdv A outer s H vs Q E hr h=>?_)
 ·unfold zbC at h;split at h
  ·rfl
  ·exact h.elim
 ·unfold zbC at h;split at h
  ·have nd:=zca.nd;have hu:=zaY hr;rename_i b;obtain⟨m,hm,hb,h1,h2⟩:=h;refine⟨_,(zag (zb6 (zdQ (zlJ (zah G_is_machine (hr.mono (by decide)) rfl T.g_is_machine T.f_is_machine.kp T.b_is_machine .nil zam (zaa (qv 0) zad)))) (zag (zjR rfl T.e_NoMachine rfl T.g_NoMachine zj4 (zaa zbE zad))) zat)),?_⟩;refine⟨m,hm,hb,fun H1 S1=>?_⟩;walk_at "w";refine ifB.mk (fun e=>?_) (fun e=>?_)
   ·have e:isM m=false:=by simpa using e
    walk_at "w";exact⟨by show 1<=sizeLine;decide,h2 e H1 S1⟩
   ·have e:isM m=true:=by simpa using e
    exact h1 e H1 S1
  ·exact h.elim
theorem zbW:zar ["self","table","begin","row","place","strip"] ["self","table","begin"] (zae zaN):=by walk_at "s"
def zgd (a:Ad):Sp:=fun vs H Q _=>match vs with
 | [.ref o,.ref t,.ref b]=>∃ (dx:Addr) (r p:Int) (ks:Mk2),H o=some (.ins a.Walk dx [])/\SU H b r p ks/\(ks.map (·.1)).Nodup/\ks.length<=10000/\∀ (d:Addr) (H':Hp),H d=none->WK a.Walk H' o t d r p ks->(∀ c u,H c=some u->c≠o->H' c=some u)->Q .non H'
 | _=>False
theorem zdj (T:Tx K mg a):zbr P w K mg base CX0 1 a.Walk___init__ a.Walk___init___d ["self","table","begin"] (zgd a):=by
 refine T.f_Walk___init__.ok zbW (fun vs H Q E h=>?_) (fun cdv A outer s H vs Q E hr h=>?_)
 ·unfold zgd at h;split at h
  ·rfl
  ·exact h.elim
 ·unfold zgd at h;split at h
  ·have nd:=zbW.nd;have hu:=zaY hr;rename_i o t b;obtain⟨dx,r,p,ks,ho,⟨l,hb,as,hl,hA⟩,hnd,hlen,h⟩:=h;refine⟨_,(zab (zbp (qv 2) (zaW (K:=K) (n:=3) rfl rfl (zal (zai (i:=3) nd rfl (by walk_at "o")) (zal (zai (i:=4) nd rfl (by walk_at "o")) (zal (zai (i:=5) nd rfl (by walk_at "o")) zaX)))))
  (zab (zfz (qv 0) (qv 1) rfl)
  (zab (zfz (qv 0) (qv 3) rfl)
  (zab (zfz (qv 0) (qv 4) rfl)
  (zag (zfz (qv 0) (zoa (own:=["where","sign"]) (fr:=[]) rfl (by walk_at "comp_ok") (zbn (K:=K) rfl (qv 5)) (fun _ _ _ _=>(zaW (K:=K) (n:=2) rfl rfl (zal (zai (i:=0) (show List.Nodup (α:=Str) ["where","sign"] from by decide +kernel) rfl (by walk_at "o")) (zal (zai (i:=1) (show List.Nodup (α:=Str) ["where","sign"] from by decide +kernel) rfl (by walk_at "o")) zaX)))) (fun _ _ _ _=>zcV) (fun _ _ _ _=>(qv 0)) (fun _ _ _ _=>(qv 1))) rfl)))))),?_⟩
   refine⟨_,SqT.of hb,rfl,?_⟩;refine⟨_,_,_,_,rfl,ho,T.k_Walk,T.n_Walk_table,by show 0<1000;decide,?_⟩;generalize U':upd _ o _=H1;have f1:∀ c u,H c=some u->c≠o->H1 c=some u:=fun c u e ne=>by rw [← U',zao ne];exact e
   have ho1:H1 o=some (.ins a.Walk dx (zcv "table" (.ref t) [])):=by rw [← U'];exact zaf
   clear U';refine⟨_,_,_,_,rfl,ho1,T.k_Walk,T.n_Walk_row,by show 1<1000;decide,?_⟩;generalize U':upd _ o _=H2;have f2:∀ c u,H c=some u->c≠o->H2 c=some u:=fun c u e ne=>by rw [← U',zao ne];exact f1 c u e ne
   have ho2:H2 o=some (.ins a.Walk dx (zcv "row" (.int r) (zcv "table" (.ref t) []))):=by rw [← U'];exact zaf
   clear U';refine⟨_,_,_,_,rfl,ho2,T.k_Walk,T.n_Walk_place,by show 2<1000;decide,?_⟩;generalize U':upd _ o _=H3;have f3:∀ c u,H c=some u->c≠o->H3 c=some u:=fun c u e ne=>by rw [← U',zao ne];exact f2 c u e ne
   have ho3:H3 o=some (.ins a.Walk dx (zcv "place" (.int p) (zcv "row" (.int r) (zcv "table" (.ref t) [])))):=by rw [← U'];exact zaf
   clear U';walk_at "w";have nl:l≠o:=fun z=>by rw [z,ho] at hl;cases hl
   refine⟨⟨_,SqL.of (f3 _ _ hl nl)⟩,?_⟩;intro d nd;have nH:H d=none:=by
    cases e:H d with
    | none=>rfl
    | some u =>
     by_cases z:d=o
     ·rw [z,ho3] at nd;cases nd
     ·rw [f3 _ _ e z] at nd;cases nd
   refine zbc (K:=K) (a:=l) (xs:=as.map V.ref) (fun i σ H4=>∃ v w:Option V,σ=[v,w]/\Sub H3 H4/\H4 d=some (.dK (dcI (iv (ks.take i))))) ?_ ?_ ?_ ?_
   ·exact⟨none,none,rfl,Sub.new nd,zaf⟩
   ·rintro i σ H4 _ ⟨v,w,rfl,S4,_⟩;exact SqL.of (S4 _ _ (f3 _ _ hl nl))
   ·rintro i x σ H4 hi ⟨v,w,rfl,S4,g4⟩;rw [zoy] at hi;obtain⟨c,hc,rfl⟩:=zoA.1 hi;obtain⟨q',hq,hE⟩:=hA.at hc;rw [zoy] at hq;obtain⟨q,hq1,rfl⟩:=zoA.1 hq;have nc:c≠o:=fun z=>by rw [z,ho] at hE;cases hE
    refine⟨_,SqT.of (S4 _ _ (f3 _ _ hE nc)),rfl,?_⟩;refine⟨_,.inl q.1,g4,rfl,?_,_,_,rfl,S4.upd nd,?_⟩
    ·rw [zox,zox,zoW];exact zoL (Nat.min_le_right _ _) (zoL hlen (by decide))
    ·rw [zaf,zkJ,zjZ hnd hq1]
   ·rintro σ H4 ⟨v,w,rfl,S4,g4⟩;rw [zox,hA.1,zox,zoT] at g4;refine⟨_,_,_,_,rfl,S4 _ _ ho3,T.k_Walk,T.n_Walk_marks,by show 3<1000;decide,?_⟩;rw [zow];have ndo:d≠o:=fun z=>by rw [z,ho3] at nd;cases nd
    exact h d _ nH ⟨⟨dx,zaf⟩,by rw [zao ndo];exact g4⟩ fun c u e ne=>by rw [zao ne];exact S4 _ _ (f3 c u e ne)
  ·exact h.elim
theorem zdb:zar ["self"] ["self"] (zae zbg):=by walk_at "s"
def zgf (a:Ad):Sp:=fun vs H Q _=>match vs with
 | [.ref o]=>∃ (t d:Addr) (r p:Int) (ks:Mk2),WK a.Walk H o t d r p ks/\∀ (q:Addr) (H':Hp),Sub H H'->H' q=some (.tup [.int r,.int p,.int ((zbs ks p).getD 0)])->H q=none->Q (.ref q) H'
 | _=>False
theorem zfs (T:Tx K mg a):zbr P w K mg base CX0 1 a.Walk_look a.Walk_look_d ["self"] (zgf a):=by
 refine T.f_Walk_look.ok zdb (fun vs H Q E h=>?_) (fun cdv A outer s H vs Q E hr h=>?_)
 ·unfold zgf at h;split at h
  ·rfl
  ·exact h.elim
 ·unfold zgf at h;split at h
  ·have nd:=zdb.nd;have hu:=zaY hr;rename_i o;obtain⟨t,d,r,p,ks,⟨⟨dx,ho⟩,hd⟩,h⟩:=h;refine⟨_,(zag (zan (zav (zaa (zbz (qv 0) rfl) (zaa (zbz (qv 0) rfl) (zaa (zjH hu (zbz (qv 0) rfl) (zbz (qv 0) rfl) zac ⟨rfl,rfl,rfl,rfl⟩) zad)))))),?_⟩;refine⟨_,_,_,_,_,rfl,ho,T.k_Walk,T.n_Walk_row,znz _ _ _ _,?_⟩;refine⟨_,_,_,_,_,rfl,ho,T.k_Walk,T.n_Walk_place,zfa _ _ _ _,?_⟩;refine⟨_,_,_,_,_,rfl,ho,T.k_Walk,T.n_Walk_marks,zj5 _ _ _ _,?_⟩;refine⟨_,rfl,.inl ⟨_,.inl hd⟩,?_⟩;refine⟨_,_,_,_,_,rfl,ho,T.k_Walk,T.n_Walk_place,zfa _ _ _ _,?_⟩;refine⟨_,zl7.k (k:=.inl p) hd,?_⟩;rw [zi5,show ((zbs ks p).map V.int).getD (V.int 0)=V.int ((zbs ks p).getD 0) by cases zbs ks p <;> rfl];refine⟨by show 3<=sizeLine;decide,?_⟩;intro p1 n1;generalize U':upd _ p1 _=H1;obtain ⟨S1,e1⟩:=zaj n1 U';clear U';exact h p1 H1 S1 e1 n1
  ·exact h.elim
theorem zcM:zar ["self","row","place","sign"] ["self"] (zae za8):=by walk_at "s"
def ze1 (a:Ad):Sp:=fun vs H Q _=>match vs with
 | [.ref o]=>∃ (t d:Addr) (r p:Int) (ks:Mk2) (m:Ma),WK a.Walk H o t d r p ks/\zdl H t m/\OkM m/\OkS m r ks/\∀ (b:Addr) (e:En) (H':Hp),Sub H H'->ent m r p ks=some e->zaz m.length (sgn m) e=true->Ent H' b e->Q (.ref b) H'
 | _=>False
theorem zbS (T:Tx K mg a):zbr P w K mg base CX0 2 a.Walk_entry a.Walk_entry_d ["self"] (ze1 a):=by
 have G_Walk_look:=zfs (P:=P) (w:=w) (base:=base) T;refine T.f_Walk_entry.ok zcM (fun vs H Q E h=>?_) (fun cdv A outer s H vs Q E hr h=>?_)
 ·unfold ze1 at h;split at h
  ·rfl
  ·exact h.elim
 ·unfold ze1 at h;split at h
  ·have nd:=zcM.nd;have hu:=zaY hr;rename_i o;obtain⟨t,d,r,p,ks,m,W,hm,M,S,h⟩:=h;refine⟨_,(zab (zbp (za4 (qv 0) T.k_Walk T.m_Walk_look G_Walk_look (hr.mono (by decide)) T.b_Walk_look .nil zam) (zaW (K:=K) (n:=3) rfl rfl (zal (zai (i:=1) nd rfl (by walk_at "o")) (zal (zai (i:=2) nd rfl (by walk_at "o")) (zal (zai (i:=3) nd rfl (by walk_at "o")) zaX)))))
  (zag (zan (zax (za2 (K:=K) rfl) (zax (za2 (K:=K) rfl) (zbz (qv 0) rfl) (qv 1) (fun _ _=>rfl)) (qv 3) (fun _ _=>rfl))))),?_⟩
   obtain⟨⟨dx,ho⟩,hd⟩:=id W;refine⟨_,_,_,rfl,ho,rfl,?_⟩;refine⟨t,d,r,p,ks,W,fun q H1 S1 hq nq=>?_⟩;have hm1:=hm.stay (.sub S1);obtain⟨rs,hm1,hnd,hrw⟩:=hm1;obtain⟨es,e,h1,h2,h3,h4,h5⟩:=S.at M p;have hv:=S.val M p;refine⟨_,SqT.of hq,rfl,?_⟩;refine⟨_,_,_,_,_,rfl,S1 _ _ ho,T.k_Walk,T.n_Walk_table,zov _ _ _ _,?_⟩;walk_at "w";have hlt:r.toNat<rs.length:=by rw [hrw.1];have:=S.r0;have:=S.r1;omega
   have hrd:rs[r.toNat]?=some rs[r.toNat]:=zoz hlt;obtain⟨es',he',as,hra⟩:=hrw.at hrd;rw [h1] at he';cases he';refine⟨_,_,SqL.of hm1,zbZ (v:=V.ref rs[r.toNat]) S.r0 (by rw [zoy,hrd];rfl),?_⟩;walk_at "w";have hlt2:((zbs ks p).getD 0).toNat<as.length:=by rw [hra.2.1,h5];omega
   have had:as[((zbs ks p).getD 0).toNat]?=some as[((zbs ks p).getD 0).toNat]:=zoz hlt2;obtain⟨e',hee,heb⟩:=hra.2.at had;rw [h2] at hee;cases hee;refine⟨_,_,SqL.of hra.1,zbZ (v:=V.ref as[((zbs ks p).getD 0).toNat]) hv.1 (by rw [zoy,had];rfl),?_⟩;exact h _ e H1 S1 h3 h4 heb
  ·exact h.elim
theorem zdc:zar ["self","sign"] ["self","sign"] (zae zbh):=by walk_at "s"
def zgg (a:Ad):Sp:=fun vs H Q _=>match vs with
 | [.ref o,.int s]=>∃ (t d:Addr) (r p:Int) (ks:Mk2),WK a.Walk H o t d r p ks/\ks.length<=10000/\∀ H':Hp,H' d=some (.dK (dcI (iv (nxt ks p s))))->(∀ c u,H c=some u->c≠d->H' c=some u)->Q .non H'
 | _=>False
theorem zft (T:Tx K mg a):zbr P w K mg base CX0 1 a.Walk_mark a.Walk_mark_d ["self","sign"] (zgg a):=by
 refine T.f_Walk_mark.ok zdc (fun vs H Q E h=>?_) (fun cdv A outer s H vs Q E hr h=>?_)
 ·unfold zgg at h;split at h
  ·rfl
  ·exact h.elim
 ·unfold zgg at h;split at h
  ·have nd:=zdc.nd;have hu:=zaY hr;rename_i o s';obtain⟨t,d,r,p,ks,⟨⟨dx,ho⟩,hd⟩,hlen,h⟩:=h;refine⟨_,(zag (zb6 (zbJ zd5 (qv 1) zac) (zag (zb7 (zjK (zbz (qv 0) rfl) (zbz (qv 0) rfl) zac ⟨rfl,rfl,rfl,rfl⟩))) (zag (zlH hu (zbz (qv 0) rfl) (zbz (qv 0) rfl) (qv 1) rfl)))),?_⟩;walk_at "w";refine ifB.mk (fun hs=>?_) (fun hs=>?_)
   ·walk_at "w";refine⟨_,_,_,_,_,rfl,ho,T.k_Walk,T.n_Walk_marks,zj5 _ _ _ _,?_⟩;refine⟨_,rfl,.inl ⟨_,.inl hd⟩,?_⟩;refine⟨_,_,_,_,_,rfl,ho,T.k_Walk,T.n_Walk_place,zfa _ _ _ _,?_⟩;have hs:s'=0:=zpi hs;refine⟨_,.inl p,hd,rfl,fun v _=>?_,fun hn=>?_⟩
    ·rw [zl9];exact h _ (by rw [zaf];unfold nxt;rw [zpc hs]) fun c u e ne=>by rw [zao ne];exact e
    ·rw [zi5] at hn;have hn:zbs ks p=none:=by
      cases e:zbs ks p with
      | none=>rfl
      | some z=>rw [e] at hn;cases hn
     exact h H (by unfold nxt;rw [zpc hs,zhQ hn];exact hd) fun c u e ne=>e
   ·walk_at "w";refine⟨_,_,_,_,_,rfl,ho,T.k_Walk,T.n_Walk_marks,zj5 _ _ _ _,?_⟩;refine⟨_,_,_,_,_,rfl,ho,T.k_Walk,T.n_Walk_place,zfa _ _ _ _,?_⟩;have hs:¬ s'=0:=of_decide_eq_false hs;refine⟨_,_,rfl,zl8.k (k:=.inl p) hd ?_,?_⟩
    ·rw [zox,zox];exact zoL hlen (by decide)
    ·rw [zkJ];exact h _ (by rw [zaf];unfold nxt;rw [zpb hs]) fun c u e ne=>by rw [zao ne];exact e
  ·exact h.elim
theorem zdd:zar ["self","entry","sign","way","row"] ["self"] (zae zbi):=by walk_at "s"
def zgi (a:Ad):Sp:=fun vs H Q _=>match vs with
 | [.ref o]=>∃ (t d:Addr) (r p:Int) (ks:Mk2) (m:Ma),WK a.Walk H o t d r p ks/\zdl H t m/\OkM m/\OkS m r ks/\ks.length<=10000 /\
   (ent m r p ks=some []->∀ H',Sub H H'->Q (.bl false) H') /\
   ∀ (s w r':Int) (H':Hp),ent m r p ks=some [s,w,r']->zaz m.length (sgn m) [s,w,r']=true->WK a.Walk H' o t d r' (p+w) (nxt ks p s)->(∀ c u,H c=some u->c≠o->c≠d->H' c=some u)->Q (.bl true) H'
 | _=>False
theorem zb2 (T:Tx K mg a):zbr P w K mg base CX0 3 a.Walk_step a.Walk_step_d ["self"] (zgi a):=by
 have G_Walk_entry:=zbS (P:=P) (w:=w) (base:=base) T;have G_Walk_mark:=zft (P:=P) (w:=w) (base:=base) T;refine T.f_Walk_step.ok zdd (fun vs H Q E h=>?_) (fun cdv A outer s H vs Q E hr h=>?_)
 ·unfold zgi at h;split at h
  ·rfl
  ·exact h.elim
 ·unfold zgi at h;split at h
  ·have nd:=zdd.nd;have hu:=zaY hr;rename_i o;obtain⟨t,d,r,p,ks,m,W,hm,M,S,hlen,h0,h1⟩:=h;refine⟨_,(zab (zap (i:=1) nd rfl (by walk_at "o") (za4 (qv 0) T.k_Walk T.m_Walk_entry G_Walk_entry (hr.mono (by decide)) T.b_Walk_entry .nil zam))
  (zab (zb6 (zbJ (zdO hr) (qv 1) (zav zad)) (zag (zan zcJ)) zat)
  (zab (zbp (qv 1) (zaW (K:=K) (n:=3) rfl rfl (zal (zai (i:=2) nd rfl (by walk_at "o")) (zal (zai (i:=3) nd rfl (by walk_at "o")) (zal (zai (i:=4) nd rfl (by walk_at "o")) zaX)))))
  (zab (zb7 (zlx (qv 0) T.k_Walk T.m_Walk_mark G_Walk_mark (hr.mono (by decide)) T.b_Walk_mark .nil zam (zaa (qv 2) zad)))
  (zab (ziy (qv 0) (qv 3) zmz)
  (zab (zfz (qv 0) (qv 4) rfl)
  (zag (zan zcJ)))))))),?_⟩
   obtain⟨⟨dx,ho⟩,hd⟩:=id W;refine⟨_,_,_,rfl,ho,rfl,?_⟩;refine⟨t,d,r,p,ks,m,W,hm,M,S,fun b e H0 S0 he hok hE=>?_⟩;refine⟨by show 0<=sizeLine;decide,?_⟩;intro p1 n1;generalize U':upd _ p1 _=H1;obtain ⟨S1,e1⟩:=zaj n1 U';clear U';have W1:=(W.sub S0).sub S1;obtain⟨⟨dx1,ho1⟩,hd1⟩:=id W1;refine⟨_,_,(Ent.den (e:=e) (S1 _ _ hE)),(Ent.den (e:=[]) e1),zeA _,?_⟩;rw [zgv];walk_at "w";refine ifB.dec (fun z=>?_) (fun z=>?_)
   ·subst z;exact h0 he H1 (S0.trans S1)
   ·obtain⟨s',w',r',rfl,a0,a1,a2,a3,a4⟩:=zaH hok z;refine⟨_,SqT.of (S1 _ _ hE),rfl,?_⟩;refine⟨_,_,_,rfl,ho1,rfl,?_⟩;refine⟨t,d,r,p,ks,W1,hlen,fun H2 g2 k2=>?_⟩;have nod:o≠d:=fun q=>by rw [q,hd1] at ho1;cases ho1
    have ho2:=k2 _ _ ho1 nod;refine⟨_,_,_,_,_,rfl,ho2,T.k_Walk,T.n_Walk_place,zfa _ _ _ _,?_⟩;refine⟨_,_,rfl,rfl,?_⟩;refine⟨_,_,ho2,zkI _ _ _ _,?_⟩;rw [zj6];refine⟨_,_,_,_,rfl,zaf,T.k_Walk,T.n_Walk_row,zkI _ _ _ _,?_⟩;rw [znA];walk_at "w";refine h1 s' w' r' _ he hok ⟨⟨_,zaf⟩,by rw [zao nod.symm,zao nod.symm];exact g2⟩ fun c u e hc1 hc2=>by rw [zao hc1,zao hc1];exact k2 _ _ ((S0.trans S1) _ _ e) hc2
  ·exact h.elim
theorem zcN:zar ["self"] ["self"] (zae za9):=by walk_at "s"
def ze6 (a:Ad):Sp:=fun vs H Q _=>match vs with
 | [.ref o]=>∃ (t d:Addr) (r p:Int) (ks:Mk2),WK a.Walk H o t d r p ks/\ks.length<65536/\∀ (q l:Addr) (js:Mk2) (H':Hp),Sub H H'->js.Perm ks->Srt js->H' q=some (.tup [.int r,.int p,.ref l])->zdw H' l js->H l=none->Q (.ref q) H'
 | _=>False
theorem zbT (T:Tx K mg a):zbr P w K mg base CX0 1 a.Walk_setup a.Walk_setup_d ["self"] (ze6 a):=by
 refine T.f_Walk_setup.ok zcN (fun vs H Q E h=>?_) (fun cdv A outer s H vs Q E hr h=>?_)
 ·unfold ze6 at h;split at h
  ·rfl
  ·exact h.elim
 ·unfold ze6 at h;split at h
  ·have nd:=zcN.nd;have hu:=zaY hr;rename_i o;obtain⟨t,d,r,p,ks,W,h64,h⟩:=h;refine⟨_,(zag (zan (zav (zaa (zbz (qv 0) rfl) (zaa (zbz (qv 0) rfl) (zaa (zaD (zng rfl) rfl T.z_sorted zhG (zaa (zmX PySem.F.plainAttrs_dict PySem.F.slot_dict_items PySem.F.type_dict_items zlO (zbz (qv 0) rfl)) zad)) zad)))))),?_⟩;obtain⟨⟨dx,ho⟩,hd⟩:=id W;refine⟨_,_,_,_,_,rfl,ho,T.k_Walk,T.n_Walk_row,znz _ _ _ _,?_⟩;refine⟨_,_,_,_,_,rfl,ho,T.k_Walk,T.n_Walk_place,zfa _ _ _ _,?_⟩;refine⟨_,_,_,_,_,rfl,ho,T.k_Walk,T.n_Walk_marks,zj5 _ _ _ _,?_⟩;refine⟨.inr (.inr (.inl ⟨rfl,.inl ⟨_,hd⟩⟩)),?_⟩;refine⟨⟨_,hd⟩,?_⟩;intro p1 n1;generalize U':upd _ p1 _=H1;obtain ⟨S1,e1⟩:=zaj n1 U';clear U';refine⟨d,iv ks,e1,S1 _ _ hd,by rw [zox];exact h64,fun ps bs l H2 S2 hp hs hA hl nl _=>?_⟩;obtain⟨js,rfl,pj,sj⟩:=zlc hp hs;refine⟨by show 3<=sizeLine;decide,?_⟩;intro p3 n3;generalize U':upd _ p3 _=H3;obtain ⟨S3,e3⟩:=zaj n3 U';clear U';exact h p3 l js H3 ((S1.trans S2).trans S3) pj sj e3 ⟨bs,S3 _ _ hl,hA.mono fun _ _ _ z=>S3 _ _ z⟩ (S1.free nl)
  ·exact h.elim
theorem zcx:zar [] [] (zae za0):=by walk_at "s"
def ze2:Sp:=fun vs H Q _=>match vs with
 | []=>∀ (q:Addr) (H':Hp),Sub H H'->SU H' q 0 0 []->Q (.ref q) H'
 | _=>False
theorem zd3 (T:Tx K mg a):zbr P w K mg base CX0 1 a.first_setup a.first_setup_d [] (ze2):=by
 refine T.f_first_setup.ok zcx (fun vs H Q E h=>?_) (fun cdv A outer s H vs Q E hr h=>?_)
 ·unfold ze2 at h;split at h
  ·rfl
  ·exact h.elim
 ·unfold ze2 at h;split at h
  ·have nd:=zcx.nd;have hu:=zaY hr;refine⟨_,(zag (zan (zav (zaa zac (zaa zac (zaa (zbA zad) zad)))))),?_⟩;refine⟨by decide,?_⟩;intro p1 n1;generalize U':upd _ p1 _=H1;obtain ⟨S1,e1⟩:=zaj n1 U';clear U';refine⟨by show 3<=sizeLine;decide,?_⟩;intro p2 n2;generalize U':upd _ p2 _=H2;obtain ⟨S2,e2⟩:=zaj n2 U';clear U';exact h p2 H2 (S1.trans S2) ⟨p1,e2,[],S2 _ _ e1,.nil⟩
  ·exact h.elim
theorem zgT:zar ["machine"] ["machine"] (zae zcX):=by walk_at "s"
def zeZ (a:Ad):Sp:=fun vs H Q _=>match vs with
 | [.ref t]=>∃ m:Ma,zdl H t m/\isM m=true/\∀ (o d:Addr) (H':Hp),Sub H H'->WK a.Walk H' o t d 0 0 []->H o=none->H d=none->Q (.ref o) H'
 | _=>False
theorem zkb {m:Ma} (h:isM m=true):Bd 100 m:=by
 have M:=OkM.of h;exact⟨zoM M.n4 (by decide),fun r hr=>by have:=M.len r hr;have:=M.s4;omega⟩
theorem zeQ (T:Tx K mg a):zbr P w K mg base CX0 5 a.begun a.begun_d ["machine"] (zeZ a):=by
 have G_Walk___init__:=zdj (P:=P) (w:=w) (base:=base) T;have G_first_setup:=zd3 (P:=P) (w:=w) (base:=base) T;have G_must_machine:=(zb5 (P:=P) (w:=w) (base:=base) T).noE;refine T.f_begun.ok zgT (fun vs H Q E h=>?_) (fun cdv A outer s H vs Q E hr h=>?_)
 ·unfold zeZ at h;split at h
  ·rfl
  ·exact h.elim
 ·unfold zeZ at h;split at h
  ·have nd:=zgT.nd;have hu:=zaY hr;rename_i t;obtain⟨m,hm,hM,h⟩:=h;refine⟨_,(zab (zb7 (zah G_must_machine (hr.mono (by decide)) rfl T.g_must_machine T.f_must_machine.kp T.b_must_machine .nil zam (zaa (qv 0) zad)))
  (zag (zan (zlw T.mk_Walk G_Walk___init__ (hr.mono (by decide)) rfl T.g_Walk T.b_Walk___init__ .nil zam (zaa (qv 0) (zaa (zjG G_first_setup (hr.mono (by decide)) rfl T.g_first_setup T.f_first_setup.kp T.b_first_setup .nil zam) zad)))))),?_⟩
   refine⟨m,hm,zkb hM,fun _ H1 S1=>?_,fun z=>by rw [hM] at z;cases z⟩;walk_at "w";intro q H2 S2 hS;walk_at "w";intro o dx n1 n2 ne;have T2:Sub H2 (upd (upd H2 dx (.own o)) o (.ins a.Walk dx [])):=(Sub.new n2).upd n1;refine⟨dx,0,0,[],zaf,hS.sub T2,by simp,by simp,fun d H3 nd W3 k3=>⟨rfl,?_⟩⟩;have S23:Sub H2 H3:=fun c u e=>k3 c u (T2 _ _ e) (zak e n1)
   exact h o d H3 ((S1.trans S2).trans S23) W3 (S1.free (S2.free n1)) (S1.free (S2.free (T2.free nd)))
  ·exact h.elim
theorem zkF:zar ["machine","most","walk","steps","word"] ["machine","most"] (zae zhx):=by walk_at "s"
def ziP:Sp:=fun vs H Q _=>match vs with
 | [.ref t,.int most]=>∃ m:Ma,zdl H t m/\isM m=true/\0<=most/\most<=1000/\∀ (q l:Addr) (x:St3) (js:Mk2) (H':Hp),Sub H H'->(tr m most.toNat (0,0,[])).getLast?=some x->RU H' q (wd m x) ((tr m most.toNat (0,0,[])).length-1) (l,(x.1,x.2.1,js))->js.Perm x.2.2->Srt js->H l=none->Q (.ref q) H'
 | _=>False
theorem zim (T:Tx K mg a):zbr P w K mg base CX0 6 a.run a.run_d ["machine","most"] (ziP):=by
 have G_begun:=zeQ (P:=P) (w:=w) (base:=base) T;have G_Walk_step:=zb2 (P:=P) (w:=w) (base:=base) T;have G_Walk_entry:=zbS (P:=P) (w:=w) (base:=base) T;have G_Walk_setup:=zbT (P:=P) (w:=w) (base:=base) T;refine T.f_run.ok zkF (fun vs H Q E h=>?_) (fun cdv A outer s H vs Q E hr h=>?_)
 ·unfold ziP at h;split at h
  ·rfl
  ·exact h.elim
 ·unfold ziP at h;split at h
  ·have nd:=zkF.nd;have hu:=zaY hr;rename_i t most;obtain⟨m,hm,hM,hm0,hm60,h⟩:=h;have M:=OkM.of hM;refine⟨_,(zab (zap (i:=2) nd rfl (by walk_at "o") (zah G_begun (hr.mono (by decide)) rfl T.g_begun T.f_begun.kp T.b_begun .nil zam (zaa (qv 0) zad)))
  (zab (zap (i:=3) nd rfl (by walk_at "o") zac)
  (zab (zgK PassesOwn.never (PW.pt (zcD (zbJ zna (qv 3) (qv 1)) (zcE (zlJ (za4 (qv 2) T.k_Walk T.m_Walk_step G_Walk_step (hr.mono (by decide)) T.b_Walk_step .nil zam))))) (zag (zm2 (i:=3) nd rfl (by walk_at "o") zac zmA)))
  (zab (zap (i:=4) nd rfl (by walk_at "o") (zmZ (zbJ (zdO hr) (za4 (qv 2) T.k_Walk T.m_Walk_entry G_Walk_entry (hr.mono (by decide)) T.b_Walk_entry .nil zam) (zav zad)) zbE zbE))
  (zag (zan (zav (zaa (qv 4) (zaa (qv 3) (zaa (za4 (qv 2) T.k_Walk T.m_Walk_setup G_Walk_setup (hr.mono (by decide)) T.b_Walk_setup .nil zam) zad)))))))))),?_⟩
   refine⟨m,hm,hM,fun o d H1 S1 W1 no nd=>?_⟩;refine⟨fun k σ H5=>∃ (sts:List St3) (x:St3) (v4:Option V),k=most.toNat+1-sts.length/\σ=[some (.ref t),some (.int most),some (.ref o),some (.int (sts.length-1)),v4]/\Sub H H5/\WK a.Walk H5 o t d x.1 x.2.1 x.2.2/\At m most.toNat (0,0,[]) sts x/\OkS m x.1 x.2.2/\x.2.2.length<=sts.length,
    ⟨_,[(0,0,[])],(0,0,[]),none,rfl,rfl,S1,W1,At.start,⟨by decide,by have:=M.n1;omega,by simp,by simp⟩,by simp⟩,?_⟩
   rintro k σ H5 ⟨sts,x,v4,rfl,rfl,S5,W5,hAt,hok,hxl⟩;have hl5:=hAt.len;obtain⟨⟨dx5,ho5⟩,hd5⟩:=id W5;walk_at "w";refine ifB.dec (fun z=>?_) (fun z=>?_)
   ·have z:(sts.length:Int)-1<most:=z;refine⟨_,_,_,rfl,ho5,rfl,?_⟩;refine⟨t,d,x.1,x.2.1,x.2.2,m,W5,hm.stay (.sub S5),M,hok,by omega,fun he H6 S6=>?_,fun s' w' r' H6 he hE W6 k6=>?_⟩
    ·have hst:=hAt.done (.inl (zg0 he));have S06:=S5.trans S6;have W6:=W5.sub S6;obtain⟨⟨dx6,ho6⟩,hd6⟩:=id W6;refine⟨_,_,_,rfl,ho6,rfl,?_⟩;refine⟨t,d,x.1,x.2.1,x.2.2,m,W6,hm.stay (.sub S06),M,hok,fun b e HQ SQ he hoke hE=>?_⟩;refine⟨by show 0<=sizeLine;decide,?_⟩;intro p7 n7;generalize U':upd _ p7 _=H7;obtain ⟨S7,e7⟩:=zaj n7 U';clear U';refine⟨_,_,(Ent.den (e:=e) (S7 _ _ hE)),(Ent.den (e:=[]) e7),zeA _,?_⟩;rw [zgv];walk_at "w";have W7:=(W6.sub SQ).sub S7;obtain⟨⟨dx7,ho7⟩,hd7⟩:=id W7;have S07:=(S06.trans SQ).trans S7;refine ifB.dec (fun z=>?_) (fun z=>?_)
     ·have hw:wd m x="ends":=by unfold wd;rw [he,z,zpc rfl]
      refine⟨_,_,_,rfl,ho7,rfl,?_⟩;refine⟨t,d,x.1,x.2.1,x.2.2,W7,by omega,fun q l js H8 S8 pj sj hq hl nl=>?_⟩;refine⟨by show 3<=sizeLine;decide,?_⟩;intro p9 n9;generalize U':upd _ p9 _=H9;obtain ⟨S9,e9⟩:=zaj n9 U';clear U';rw [hst] at hAt e9;exact h p9 l x js H9 ((S07.trans S8).trans S9) hAt.last ⟨q,by rw [hw];exact e9,S9 _ _ hq,hl.sub S9⟩ pj sj (S07.free nl)
     ·have hw:wd m x="on":=by unfold wd;rw [he,zpb (fun q=>z (zpk q))]
      refine⟨_,_,_,rfl,ho7,rfl,?_⟩;refine⟨t,d,x.1,x.2.1,x.2.2,W7,by omega,fun q l js H8 S8 pj sj hq hl nl=>?_⟩;refine⟨by show 3<=sizeLine;decide,?_⟩;intro p9 n9;generalize U':upd _ p9 _=H9;obtain ⟨S9,e9⟩:=zaj n9 U';clear U';rw [hst] at hAt e9;exact h p9 l x js H9 ((S07.trans S8).trans S9) hAt.last ⟨q,by rw [hw];exact e9,S9 _ _ hq,hl.sub S9⟩ pj sj (S07.free nl)
    ·obtain⟨s2,w2,r2,e2,a0,a1,a2,a3,a4⟩:=zaH hE (by simp);cases e2;have S06:Sub H H6:=fun c u e=>k6 c u (S5 _ _ e) (zak e no) (zak e nd)
     have hnl:=zeO x.2.2 x.2.1 s';refine⟨_,fun σ' H' z=>z,?_⟩;refine⟨_,rfl,?_⟩;refine⟨_,_,rfl,rfl,?_⟩;refine⟨_,?_,sts++[(r',x.2.1+w',nxt x.2.2 x.2.1 s')],(r',x.2.1+w',nxt x.2.2 x.2.1 s'),v4,rfl,?_,S06,W6,hAt.step (ziQ he) (by omega),hok.nxt a0 a1 a3 a4,?_⟩
     ·rw [zoH];show most.toNat+1-(sts.length+1)<_;omega
     ·have:((sts++[(r',x.2.1+w',nxt x.2.2 x.2.1 s')]).length:Int)-1=(sts.length:Int)-1+1:=by rw [zoH];show ((sts.length+1:Nat):Int)-1=_;omega
      rw [this]
      rfl
     ·rw [zoH];show (nxt x.2.2 x.2.1 s').length<=sts.length+1;omega
   ·have hst:=hAt.done (.inr (by omega));have S06:=S5;have W6:=W5;have ho6:=ho5;refine⟨_,_,_,rfl,ho6,rfl,?_⟩;refine⟨t,d,x.1,x.2.1,x.2.2,m,W6,hm.stay (.sub S06),M,hok,fun b e HQ SQ he hoke hE=>?_⟩;refine⟨by show 0<=sizeLine;decide,?_⟩;intro p7 n7;generalize U':upd _ p7 _=H7;obtain ⟨S7,e7⟩:=zaj n7 U';clear U';refine⟨_,_,(Ent.den (e:=e) (S7 _ _ hE)),(Ent.den (e:=[]) e7),zeA _,?_⟩;rw [zgv];walk_at "w";have W7:=(W6.sub SQ).sub S7;obtain⟨⟨dx7,ho7⟩,hd7⟩:=id W7;have S07:=(S06.trans SQ).trans S7;refine ifB.dec (fun z=>?_) (fun z=>?_)
    ·have hw:wd m x="ends":=by unfold wd;rw [he,z,zpc rfl]
     refine⟨_,_,_,rfl,ho7,rfl,?_⟩;refine⟨t,d,x.1,x.2.1,x.2.2,W7,by omega,fun q l js H8 S8 pj sj hq hl nl=>?_⟩;refine⟨by show 3<=sizeLine;decide,?_⟩;intro p9 n9;generalize U':upd _ p9 _=H9;obtain ⟨S9,e9⟩:=zaj n9 U';clear U';rw [hst] at hAt e9;exact h p9 l x js H9 ((S07.trans S8).trans S9) hAt.last ⟨q,by rw [hw];exact e9,S9 _ _ hq,hl.sub S9⟩ pj sj (S07.free nl)
    ·have hw:wd m x="on":=by unfold wd;rw [he,zpb (fun q=>z (zpk q))]
     refine⟨_,_,_,rfl,ho7,rfl,?_⟩;refine⟨t,d,x.1,x.2.1,x.2.2,W7,by omega,fun q l js H8 S8 pj sj hq hl nl=>?_⟩;refine⟨by show 3<=sizeLine;decide,?_⟩;intro p9 n9;generalize U':upd _ p9 _=H9;obtain ⟨S9,e9⟩:=zaj n9 U';clear U';rw [hst] at hAt e9;exact h p9 l x js H9 ((S07.trans S8).trans S9) hAt.last ⟨q,by rw [hw];exact e9,S9 _ _ hq,hl.sub S9⟩ pj sj (S07.free nl)
  ·exact h.elim
theorem zfI:zar ["machine","most","walk","told"] ["machine","most"] (zae zco):=by walk_at "s"
def zdU:Sp:=fun vs H Q _=>match vs with
 | [.ref t,.int most]=>∃ m:Ma,zdl H t m/\isM m=true/\0<=most/\most<=1000/\∀ (f:Addr) (ts:List Addr) (zs:List (Addr × St3)) (H':Hp),Sub H H'->H' f=some (.lst (ts.map V.ref))->zbq (SZ H') ts zs->(zs.map (·.1)).Nodup->(∀ z∈zs,H z.1=none) ->
   zfS (zs.map (·.2)) (tr m most.toNat (0,0,[]))->H f=none->(∀ z∈zs,z.1≠f)->Q (.ref f) H'
 | _=>False
theorem zdN (T:Tx K mg a):zbr P w K mg base CX0 6 a.setups a.setups_d ["machine","most"] (zdU):=by
 have G_begun:=zeQ (P:=P) (w:=w) (base:=base) T;have G_Walk_step:=zb2 (P:=P) (w:=w) (base:=base) T;have G_Walk_setup:=zbT (P:=P) (w:=w) (base:=base) T;refine T.f_setups.ok zfI (fun vs H Q E h=>?_) (fun cdv A outer s H vs Q E hr h=>?_)
 ·unfold zdU at h;split at h
  ·rfl
  ·exact h.elim
 ·unfold zdU at h;split at h
  ·have nd:=zfI.nd;have hu:=zaY hr;rename_i t most;obtain⟨m,hm,hM,hm0,hm60,h⟩:=h;have M:=OkM.of hM;refine⟨_,(zab (zap (i:=2) nd rfl (by walk_at "o") (zah G_begun (hr.mono (by decide)) rfl T.g_begun T.f_begun.kp T.b_begun .nil zam (zaa (qv 0) zad)))
  (zab (zap (i:=3) nd rfl (by walk_at "o") (zbA (zaa (za4 (qv 2) T.k_Walk T.m_Walk_setup G_Walk_setup (hr.mono (by decide)) T.b_Walk_setup .nil zam) zad)))
  (zab (zgK PassesOwn.never (PW.pt (zcD (zbJ zhq (zaD (zcL (K:=K) rfl) rfl T.z_len zct (zaa (qv 3) zad)) (qv 1)) (zcE (zlJ (za4 (qv 2) T.k_Walk T.m_Walk_step G_Walk_step (hr.mono (by decide)) T.b_Walk_step .nil zam))))) (zag (zb7 (zjF PySem.F.plainAttrs_list PySem.F.slot_list_append PySem.F.type_list_append zjS (qv 3) (zaa (za4 (qv 2) T.k_Walk T.m_Walk_setup G_Walk_setup (hr.mono (by decide)) T.b_Walk_setup .nil zam) zad)))))
  (zag (zan (qv 3)))))),?_⟩
   refine⟨m,hm,hM,fun o d H1 S1 W1 no nd=>?_⟩;obtain⟨⟨dx,ho1⟩,hd1⟩:=id W1;have nod:o≠d:=fun q=>by rw [q,hd1] at ho1;cases ho1
   refine⟨_,_,_,rfl,ho1,rfl,?_⟩;refine⟨t,d,0,0,[],W1,by simp,fun q l js H2 S2 pj sj hq hl nl=>?_⟩;refine⟨by show 1<=sizeLine;decide,?_⟩;intro p3 n3;generalize U':upd _ p3 _=H3;obtain ⟨S3,e3⟩:=zaj n3 U';clear U';have S13:=S2.trans S3;have S03:=S1.trans S13;walk_at "w";have hpj:js=[]:=pj.eq_nil;subst hpj;refine⟨fun k σ H5=>∃ (ts:List Addr) (zs:List (Addr × St3)) (sts:List St3) (x:St3),k=most.toNat+1-sts.length/\σ=[some (.ref t),some (.int most),some (.ref o),some (.ref p3)]/\Sub H H5/\WK a.Walk H5 o t d x.1 x.2.1 x.2.2/\H5 p3=some (.lst (ts.map V.ref))/\zbq (SZ H5) ts zs /\
    (zs.map (·.1)).Nodup/\(∀ z∈zs,H z.1=none)/\(∀ z∈zs,z.1≠p3)/\zfS (zs.map (·.2)) sts/\At m most.toNat (0,0,[]) sts x/\OkS m x.1 x.2.2/\x.2.2.length<=sts.length,⟨_,[q],[(l,(0,0,[]))],[(0,0,[])],(0,0,[]),rfl,rfl,S03,W1.sub S13,e3,zbq.app .nil ⟨S3 _ _ hq,hl.sub S3⟩,by simp,?_,?_,zfS.nil.app rfl rfl (List.Perm.refl _) List.Pairwise.nil,At.start,⟨by decide,by have:=M.n1;omega,by simp,by simp⟩,by simp⟩,?_⟩
   ·intro z hz;rw [zoG.1 hz];exact S1.free nl
   ·intro z hz;rw [zoG.1 hz];obtain⟨as,hla,_⟩:=hl;exact zak hla n3
   ·rintro k σ H5 ⟨ts,zs,sts,x,rfl,rfl,S5,W5,hf5,hA5,hnd,hfr,hne,hT,hAt,hok,hxl⟩;have nf:H p3=none:=S1.free (S2.free n3);have hl5:=hAt.len;have hzl:zs.length=sts.length:=by have:=hT.1;rw [zox] at this;exact this
    have hfl:((ts.map V.ref).length:Int)=sts.length:=by rw [zox,hA5.1,hzl]
    obtain⟨⟨dx5,ho5⟩,hd5⟩:=id W5;refine⟨_,.inl (SqL.of hf5),?_⟩;rw [hfl];walk_at "w";refine ifB.dec (fun z=>?_) (fun z=>?_)
    ·have z:(sts.length:Int)<=most:=z;refine⟨_,_,_,rfl,ho5,rfl,?_⟩;refine⟨t,d,x.1,x.2.1,x.2.2,m,W5,hm.stay (.sub S5),M,hok,by omega,fun he H6 S6=>?_,fun s' w' r' H6 he hE W6 k6=>?_⟩
     ·have hst:=hAt.done (.inl (zg0 he));rw [hst] at hT;exact h p3 ts zs H6 (S5.trans S6) (S6 _ _ hf5) (hA5.mono fun _ _ _ z=>z.sub S6) hnd hfr hT nf hne
     ·obtain⟨s2,w2,r2,e2,a0,a1,a2,a3,a4⟩:=zaH hE (by simp);cases e2;have S06:Sub H H6:=fun c u e=>k6 c u (S5 _ _ e) (zak e no) (zak e nd)
      have st6:=zdn.two W5 k6;have hf6:=st6.refs _ _ hf5;have hA6:=hA5.mono fun _ _ _ z=>SZ.stay st6 z
      obtain⟨⟨dx6,ho6⟩,hd6⟩:=id W6;have hnl:=zeO x.2.2 x.2.1 s';refine⟨_,fun σ' H' z=>z,?_⟩;refine⟨.inl ⟨rfl,_,SqL.of hf6⟩,?_⟩;refine⟨_,_,_,rfl,ho6,rfl,?_⟩;refine⟨t,d,r',x.2.1+w',nxt x.2.2 x.2.1 s',W6,by omega,fun q7 l7 js7 H7 S7 pj7 sj7 hq7 hl7 nl7=>?_⟩;refine⟨_,S7 _ _ hf6,?_,?_⟩
      ·rw [zox,hA6.1,hzl];exact zoL (show sts.length<=1100 by omega) (by decide)
      have n7:l7≠p3:=fun e=>by rw [e,hf6] at nl7;cases nl7
      have nz:l7 ∉ zs.map (·.1):=fun hm=>by
       obtain⟨z,hz,e⟩:=zoP.1 hm;obtain⟨i,hi⟩:=List.mem_iff_getElem?.1 hz;have hi':i<ts.length:=by rw [hA6.1];exact (zoB.1 hi).1
       obtain⟨_,as,hla,_⟩:=hA6.2 i _ z (zoz hi') hi;rw [e,nl7] at hla;cases hla
      have hA7:zbq (SZ (upd H7 p3 (.lst (ts.map V.ref++[V.ref q7])))) (ts++[q7]) (zs++[(l7,(r',x.2.1+w',js7))]):=by
       refine (zbq.monoM hA6 fun b z hb hzm hz=>?_).app ?_
       ·exact (hz.sub S7).lst (S7 _ _ hf6) (hne z hzm)
       ·exact (show SZ H7 q7 (l7,(r',x.2.1+w',js7)) from ⟨hq7,hl7⟩).lst (S7 _ _ hf6) n7
      have S07:Sub H (upd H7 p3 (.lst (ts.map V.ref++[V.ref q7]))):=(S06.trans S7).upd nf;have nop:o≠p3:=fun e=>by rw [e,hf6] at ho6;cases ho6
      have ndp:d≠p3:=fun e=>by rw [e,hf6] at hd6;cases hd6
      refine⟨_,?_,ts++[q7],zs++[(l7,(r',x.2.1+w',js7))],sts++[(r',x.2.1+w',nxt x.2.2 x.2.1 s')],(r',x.2.1+w',nxt x.2.2 x.2.1 s'),rfl,rfl,S07,⟨⟨dx6,by rw [zao nop];exact S7 _ _ ho6⟩,by rw [zao ndp];exact S7 _ _ hd6⟩,by rw [zaf,zoF];rfl,hA7,?_,?_,?_,?_,hAt.step (ziQ he) (by omega),hok.nxt a0 a1 a3 a4,?_⟩
      ·rw [zoH];show most.toNat+1-(sts.length+1)<_;omega
      ·rw [zoF,List.nodup_append];exact⟨hnd,by simp,fun a ha b hb=>by rw [zoG.1 hb];rintro rfl;exact nz ha⟩
      ·intro z hz;rcases zoI.1 hz with hz | hz
       ·exact hfr z hz
       ·rw [zoG.1 hz];exact S06.free nl7
      ·intro z hz;rcases zoI.1 hz with hz | hz
       ·exact hne z hz
       ·rw [zoG.1 hz];exact n7
      ·rw [zoF];exact hT.app rfl rfl pj7 sj7
      ·rw [zoH];show (nxt x.2.2 x.2.1 s').length<=sts.length+1;omega
    ·have hst:=hAt.done (.inr (by omega));rw [hst] at hT;exact h p3 ts zs H5 S5 hf5 hA5 hnd hfr hT nf hne
  ·exact h.elim
theorem zdf:zar ["setup","row","place","strip"] ["setup"] (zae zbk):=by walk_at "s"
def zeT (q:Int × Int):NK:=.tup [.int q.1,.int q.2]
def zeK (x:St3):NK:=.tup [.int x.1,.int x.2.1,.tup (x.2.2.map zeT)]
theorem zgA {x y:St3} (h:zeK x=zeK y):x=y:=by
 unfold zeK at h;injection h with h
 injection h with h1 h
 injection h with h2 h
 injection h with h3 _
 injection h1 with h1
 injection h2 with h2
 injection h3 with h3
 have:∀ (A B:Mk2),A.map zeT=B.map zeT->A=B:=by
  intro A
  induction A with
  | nil=>intro B hB;cases B with
   | nil=>rfl
   | cons b B=>cases hB
  | cons a A ih=>intro B hB;cases B with
   | nil=>cases hB
   | cons b B =>
    rw [zo0,zo0] at hB;injection hB with e1 e2
    rw [ih B e2];unfold zeT at e1;injection e1 with e1
    injection e1 with f1 e1
    injection e1 with f2 _
    injection f1 with f1
    injection f2 with f2
    rw [Prod.ext f1 f2]
 exact Prod.ext h1 (Prod.ext h2 (this _ _ h3))
theorem zgs:∀ A:Mk2,NK.depL (A.map zeT)<=1
 | []=>by rw [zo1,NK.depL];omega
 | q::A=>by
  rw [zo0,NK.depL]
  have:=zgs A
  have h2:(zeT q).dep=1:=by
   unfold zeT;simp [NK.dep,NK.depL]
  omega
theorem zds (x:St3):(zeK x).dep<=7:=by
 have:=zgs x.2.2
 unfold zeK;simp only [NK.dep,NK.depL];omega
theorem zez {H:Hp}:∀ {as:List Addr} {A:Mk2},zbq (fun b q=>H b=some (tI q)) as (iv A)->zbv H (A.map zeT) (as.map V.ref)
 | [],[],_=>by rw [zo1,zo1,zbv]
 | [],q::A,h=>by have:=h.1;simp at this
 | a::as,[],h=>by have:=h.1;simp at this
 | a::as,q::A,h=>by
  rw [zo0,zo0,zbv];refine⟨_,_,rfl,?_,zez (as:=as) (A:=A) ⟨by have:=h.1;simpa using this,fun i b x hb hx=>h.2 (i+1) b x hb hx⟩⟩;have h0:=h.2 0 a (q.1,V.int q.2) rfl rfl;unfold zeT;rw [zbX];refine⟨a,_,rfl,h0,?_⟩;rw [zbv];refine⟨_,_,rfl,by rw [zbX],?_⟩;rw [zbv];exact⟨_,_,rfl,by rw [zbX],by rw [zbv]⟩
def zcd:Sp:=fun vs H Q _=>match vs with
 | [.ref q]=>∃ z:Addr × St3,SZ H q z/\∀ (p:Addr) (H':Hp),Sub H H'->zbX H' (zeK z.2) (.ref p)->Q (.ref p) H'
 | _=>False
theorem zfv (T:Tx K mg a):zbr P w K mg base CX0 1 a.setup_key a.setup_key_d ["setup"] (zcd):=by
 refine T.f_setup_key.ok zdf (fun vs H Q E h=>?_) (fun cdv A outer s H vs Q E hr h=>?_)
 ·unfold zcd at h;split at h
  ·rfl
  ·exact h.elim
 ·unfold zcd at h;split at h
  ·have nd:=zdf.nd;have hu:=zaY hr;rename_i q;obtain⟨z,⟨hq,as,hl,hA⟩,h⟩:=h;refine⟨_,(zab (zbp (qv 0) (zaW (K:=K) (n:=3) rfl rfl (zal (zai (i:=1) nd rfl (by walk_at "o")) (zal (zai (i:=2) nd rfl (by walk_at "o")) (zal (zai (i:=3) nd rfl (by walk_at "o")) zaX)))))
  (zag (zan (zav (zaa (qv 1) (zaa (qv 2) (zaa (zcK (ziG (K:=K) rfl) rfl T.z_tuple zgo (zaa (qv 3) zad)) zad))))))),?_⟩
   refine⟨_,SqT.of hq,rfl,?_⟩;refine⟨_,SqL.of hl,?_⟩;intro p1 n1;generalize U':upd _ p1 _=H1;obtain ⟨S1,e1⟩:=zaj n1 U';clear U';refine⟨by show 3<=sizeLine;decide,?_⟩;intro p2 n2;generalize U':upd _ p2 _=H2;obtain ⟨S2,e2⟩:=zaj n2 U';clear U';refine h p2 H2 (S1.trans S2) ?_;unfold zeK;rw [zbX];refine⟨p2,_,rfl,e2,?_⟩;rw [zbv];refine⟨_,_,rfl,by rw [zbX],?_⟩;rw [zbv];refine⟨_,_,rfl,by rw [zbX],?_⟩;rw [zbv];refine⟨_,_,rfl,?_,by rw [zbv]⟩;rw [zbX];exact⟨p1,_,rfl,S2 _ _ e1,zez (hA.mono fun _ _ _ z=>S2 _ _ (S1 _ _ z))⟩
  ·exact h.elim
theorem ziJ:zar ["machine","most","moments","late","setup","key"] ["machine","most"] (zae zem):=by walk_at "s"
theorem zmM {α:Type} {l:List α} (h:l.Nodup) {i j:Nat} (hi:i<l.length) (hj:j<l.length) (e:l[i]=l[j]):i=j:=by
 rcases Nat.lt_trichotomy i j with c | c | c
 ·exact (List.pairwise_iff_getElem.1 h i j hi hj c e).elim
 ·exact c
 ·exact (List.pairwise_iff_getElem.1 h j i hj hi c e.symm).elim
theorem zgw {ks js:Mk2} (n1:(ks.map (·.1)).Nodup) (n2:(js.map (·.1)).Nodup) (h:eqM ks js=true):ks.Perm js:=by
 unfold eqM at h;rw [Bool.and_eq_true,beq_iff_eq,zoX] at h;obtain⟨hl,hall⟩:=h;exact zeU ((List.pairwise_map.1 n1).imp fun {u v} z e=>z (by rw [e])) (fun q hq=>(zcg n2).1 (zpi (hall q hq))) hl
def zfC (X:List St3) (e l:Nat):Prop:=∃ x y,X[e]?=some x/\X[l]?=some y/\eqS x y=true
def zdk (m:Ma) (e l:Nat):Prop:=e<l/\zfc m l/\zfC (tr m l s00) e l
theorem zgQ {m:Ma} {N l e:Nat} (hl:l<=N) (he:e<l):zfC (tr m l s00) e l↔zfC (tr m N s00) e l:=by
 have h1:∀ i,i<=l->(tr m l s00)[i]?=(tr m N s00)[i]?:=fun i hi=>by rw [zbI l N s00 hl,List.getElem?_take,zpc (by omega)]
 unfold zfC;rw [h1 e (by omega),h1 l (zoN _)]
theorem zku {m:Ma} (M:OkM m):OkS m s00.1 s00.2.2:=⟨by decide,by have:=M.n1;show (0:Int)<m.length;omega,by simp,by simp⟩
theorem ziI {m:Ma} (M:OkM m) {N l e:Nat} (hl:l<=N) (he:e<l) (hX:l<(tr m N s00).length) (h:zfC (tr m N s00) e l):zfc m l:=by
 obtain⟨x,y,hx,hy,hs⟩:=h;have hgo:=zgn N s00 e x hx (by omega);have nx:=(zcf M _ _ (zku M) x (zoC hx)).nd;have ny:=(zcf M _ _ (zku M) y (zoC hy)).nd;rw [Bool.and_eq_true,Bool.and_eq_true] at hs;obtain⟨c1,c2,c3⟩:=hs;have c1:=zpi c1;have c2:=zpi c2;have hent:ent m y.1 y.2.1 y.2.2=ent m x.1 x.2.1 x.2.2:=by rw [← c1,← c2];exact zjf (zgw nx ny c3).symm nx
 have hlen:(tr m l s00).length=l+1:=by rw [zbI l N s00 hl,zoW];omega
 refine⟨hlen,fun z hz=>?_⟩;rw [List.getLast?_eq_getElem?,hlen,show l+1-1=l by omega,zbI l N s00 hl,List.getElem?_take,zpc (by omega),hy] at hz;cases hz;rw [hent];exact hgo
theorem zcF {m:Ma} (M:OkM m) {N l e:Nat} (hl:l<=N) (hX:l<(tr m N s00).length) (he:e<l):zdk m e l↔zfC (tr m N s00) e l :=
 ⟨fun h=>(zgQ hl he).1 h.2.2,fun h=>⟨he,ziI M hl he hX h,(zgQ hl he).2 h⟩⟩
def zkL (m:Ma) (N:Nat):Option (Nat × Nat)->Prop
 | none=>∀ l,l<=N->∀ e,¬ zdk m e l
 | some (e,l)=>l<=N/\zdk m e l/\(∀ l',l'<l->∀ e',¬ zdk m e' l')/\∀ e',e'<e->¬ zdk m e' l
theorem zkL.one {m:Ma} {N:Nat}:∀ {r r':Option (Nat × Nat)},zkL m N r->zkL m N r'->r=r'
 | none,none,_,_=>rfl
 | none,some (e,l),h,h'=>(h l h'.1 e h'.2.1).elim
 | some (e,l),none,h,h'=>(h' l h.1 e h.2.1).elim
 | some (e,l),some (e',l'),h,h'=>by
  have hl:l=l':=by
   rcases Nat.lt_trichotomy l l' with c | c | c
   ·exact (h'.2.2.1 l c e h.2.1).elim
   ·exact c
   ·exact (h.2.2.1 l' c e' h'.2.1).elim
  subst hl;rcases Nat.lt_trichotomy e e' with c | c | c
  ·exact (h'.2.2.2 e c h.2.1).elim
  ·rw [c]
  ·exact (h.2.2.2 e' c h'.2.1).elim
def rgD:Option (Nat × Nat)->DD
 | none=>.non
 | some (e,l)=>.tup [.str "ring",.int e,.int l]
theorem dep_rg (r:Option (Nat × Nat)):dep (rgD r)<=60:=by
 cases r with
 | none=>exact Nat.zero_le _
 | some p =>
  show dep (.tup [.str "ring",.int (p.1:Int),.int (p.2:Int)])<=60;rw [dep]
  have:depL [DD.str "ring",.int (p.1:Int),.int (p.2:Int)]<=0:=zaT fun d hd=>by
   simp only [zpg,List.not_mem_nil,or_false] at hd;rcases hd with rfl | rfl | rfl
   ·exact zoN 0
   ·exact zoN 0
   ·exact zoN 0
  omega
theorem zms {H:Hp} {p:Addr} {e l:Nat} (h:H p=some (.tup [.str "ring",.int e,.int l])):Den H (.ref p) (rgD (some (e,l))):=by
 show Den H (.ref p) (.tup [.str "ring",.int (e:Int),.int (l:Int)]);rw [Den];exact⟨_,_,rfl,h,⟨_,_,rfl,by rw [Den],⟨_,_,rfl,by rw [Den],⟨_,_,rfl,by rw [Den],rfl⟩⟩⟩⟩
def zgh:Sp:=fun vs H Q _=>match vs with
 | [.ref t,.int most]=>∃ m:Ma,zdl H t m/\isM m=true/\0<=most/\most<=1000/\∀ (r:Option (Nat × Nat)) (v:V) (H':Hp),Sub H H'->zkL m most.toNat r->Den H' v (rgD r)->Q v H'
 | _=>False
theorem zlp (T:Tx K mg a):zbr P w K mg base CX0 7 a.ring a.ring_d ["machine","most"] (zgh):=by
 have G_setups:=zdN (P:=P) (w:=w) (base:=base) T;have G_setup_key:=zfv (P:=P) (w:=w) (base:=base) T;refine T.f_ring.ok ziJ (fun vs H Q E h=>?_) (fun cdv A outer s H vs Q E hr h=>?_)
 ·unfold zgh at h;split at h
  ·rfl
  ·exact h.elim
 ·unfold zgh at h;split at h
  ·have nd:=ziJ.nd;have hu:=zaY hr;rename_i t most;obtain⟨m,hm,hM,hm0,hm60,h⟩:=h;have M:=OkM.of hM;refine⟨_,(zab (zap (i:=2) nd rfl (by walk_at "o") zjJ)
  (zab (zcu PassesOwn.never rfl (zlB rfl T.z_enumerate (zaa (zah G_setups (hr.mono (by decide)) rfl T.g_setups T.f_setups.kp T.b_setups .nil zam (zaa (qv 0) (zaa (qv 1) zad))) zad)) (zaW (K:=K) (n:=2) rfl rfl (zal (zai (i:=3) nd rfl (by walk_at "o")) (zal (zai (i:=4) nd rfl (by walk_at "o")) zaX))) (zab (zap (i:=5) nd rfl (by walk_at "o") (zah G_setup_key (hr.mono (by decide)) rfl T.g_setup_key T.f_setup_key.kp T.b_setup_key .nil zam (zaa (qv 4) zad)))
    (zab (zb6 (zbJ (zmQ hr) (qv 5) (qv 2)) (zag (zan (zav (zaa zbE (zaa (zjI hr (qv 2) (qv 5) (fun _ _=>rfl)) (zaa (qv 3) zad)))))) zat)
    (zag (zjQ hr (qv 2) (qv 5) (qv 3) rfl)))))
  (zag (zan zbB)))),?_⟩
   walk_at "w";intro d H1 nd1 hH1 D1;have S1:Sub H H1:=by rw [hH1];exact Sub.new nd1
   clear hH1;refine⟨m,hm.stay (.sub S1),hM,hm0,hm60,fun f ts zs H2 S2 hf hA hnd hfr hT nf hne=>?_⟩;have hT:zfS (zs.map (·.2)) (tr m most.toNat s00):=hT
   have hXl:(tr m most.toNat s00).length<=most.toNat+1:=zfP m most.toNat (0,0,[]);have hzl:zs.length=(tr m most.toNat s00).length:=by have:=hT.1;rw [zox] at this;exact this
   have D2:=D1.sub S2;obtain⟨xs2,hd2,_⟩:=D2.ex;have nfd:f≠d:=by rintro rfl;rw [hf] at hd2;cases hd2
   have same:∀ (j i:Nat) (z z':Addr × St3),zs[j]?=some z->zs[i]?=some z'->(z.2=z'.2↔zfC (tr m most.toNat s00) j i):=fun j i z z' hz hz'=>by
    have e1:(zs.map (·.2))[j]?=some z.2:=by rw [zoy,hz];rfl
    have e2:(zs.map (·.2))[i]?=some z'.2:=by rw [zoy,hz'];rfl
    obtain⟨x,hx,a1,a2,a3,a4⟩:=hT.at e1;obtain⟨y,hy,b1,b2,b3,b4⟩:=hT.at e2;have nx:=(zcf M _ _ (zku M) x (zoC hx)).nd;have ny:=(zcf M _ _ (zku M) y (zoC hy)).nd;have te:=zgm (z1:=z.2) (z2:=z'.2) ⟨a1,a2,a3,a4⟩ ⟨b1,b2,b3,b4⟩ nx ny
    constructor
    ·intro e;exact⟨x,y,hx,hy,by rw [← te];exact @zoD _ (Classical.propDecidable _) e⟩
    ·rintro ⟨x',y',hx',hy',hs⟩;rw [hx] at hx';rw [hy] at hy';cases hx';cases hy';rw [← te] at hs;exact @zpi _ (Classical.propDecidable _) hs
   refine⟨⟨_,SqL.of hf⟩,?_⟩;refine zjh (K:=K) (a:=f) (xs:=ts.map V.ref) (fun i σ H5=>∃ (v3 v4 v5:Option V) (kvs:List (NK × Addr × V)),σ=[some (.ref t),some (.int most),some (.ref d),v3,v4,v5]/\(∀ c u,H2 c=some u->c≠d->H5 c=some u)/\DNx H5 d kvs/\kvs.map (·.1)=(zs.take i).map (fun z=>zeK z.2)/\∀ (j:Nat) (q:NK × Addr × V),kvs[j]?=some q->q.2.2=V.int (j:Int)) ?_ ?_ ?_ ?_
   ·exact⟨none,none,none,[],rfl,fun c u e _=>e,D2,rfl,fun j q hq=>by simp at hq⟩
   ·rintro i σ H5 _ ⟨v3,v4,v5,kvs,rfl,k5,_⟩;exact SqL.of (k5 _ _ hf nfd)
   ·rintro i x σ H5 p hi ⟨v3,v4,v5,kvs,rfl,k5,D5,hks,hvs⟩ np;rw [zoy] at hi;obtain⟨c,hc,rfl⟩:=zoA.1 hi;obtain⟨z,hz,hSZ⟩:=hA.at hc;have hil:i<zs.length:=(zoB.1 hz).1;generalize U':upd H5 p _=H6;obtain⟨S6,e6⟩:=zaj np U';clear U';have SZ6:SZ H6 c z:=by
     obtain⟨q1,as,q2,q3⟩:=hSZ;have kd:∀ c u,H2 c=some u->c≠d->H6 c=some u:=fun c u e ne=>S6 _ _ (k5 c u e ne)
     exact⟨kd _ _ q1 (by rintro rfl;rw [hd2] at q1;cases q1),as,kd _ _ q2 (by intro e;rw [e,hd2] at q2;cases q2),q3.mono fun b _ _ e=>kd _ _ e (by rintro rfl;rw [hd2] at e;cases e)⟩
    have kl:kvs.length=i:=by
     have:=congrArg List.length hks
     rw [zox,zox,zoW] at this;omega
    refine⟨_,SqT.of e6,rfl,?_⟩;refine⟨z,SZ6,fun pk H7 S7 hk=>?_⟩;have D7:=(D5.sub S6).sub S7;have k7:∀ c u,H2 c=some u->c≠d->H7 c=some u:=fun c u e ne=>S7 _ _ (S6 _ _ (k5 c u e ne))
    have U7:∀ c u,H c=some u->H7 c=some u:=fun c u e=>k7 _ _ (S2 _ _ (S1 _ _ e)) (by rintro rfl;rw [nd1] at e;cases e)
    refine⟨pk,d,zeK z.2,kvs,rfl,rfl,zds _,hk,D7,?_⟩;walk_at "w";have keyat:∀ (j:Nat) (q:NK × Addr × V),kvs[j]?=some q->∃ z',zs[j]?=some z'/\q.1=zeK z'.2/\j<i:=fun j q hq=>by
     have hj:=(zoB.1 hq).1;have e1:(kvs.map (·.1))[j]?=some q.1:=by rw [zoy,hq];rfl
     rw [hks,zoy,List.getElem?_take,zpc (by omega)] at e1;obtain⟨z',hz',e2⟩:=zoA.1 e1;exact⟨z',hz',e2.symm,by omega⟩
    have noring:∀ l,l<i->∀ e,¬ zdk m e l:=fun l hl e hr=>by
     have hrx:=(zcF M (N:=most.toNat) (by omega) (by omega) hr.1).1 hr;have hle:=hr.1;have l1:e<kvs.length:=by omega
     have l2:l<kvs.length:=by omega
     obtain⟨z1,hz1,q1,_⟩:=keyat e _ (zoz l1);obtain⟨z2,hz2,q2,_⟩:=keyat l _ (zoz l2);have e12:=(same e l z1 z2 hz1 hz2).2 hrx
     have:(kvs.map (·.1))[e]'(by rw [zox];exact l1)=(kvs.map (·.1))[l]'(by rw [zox];exact l2):=by
      rw [List.getElem_map,List.getElem_map,q1,q2,e12]
     have:=zmM D7.nd _ _ this
     omega
    refine ifB.dec (fun hin=>?_) (fun hin=>?_)
    ·obtain⟨q,hq,hqk⟩:=zoP.1 hin;obtain⟨j,hj,hjq⟩:=List.getElem_of_mem hq;have hjq:kvs[j]?=some q:=zoB.2 ⟨hj,hjq⟩;obtain⟨z1,hz1,q1,hji⟩:=keyat j q hjq;have e12:z1.2=z.2:=zgA (q1.symm.trans hqk);have hrx:=(same j i z1 z hz1 hz).1 e12;have hrp:=(zcF M (N:=most.toNat) (by omega) (by omega) hji).2 hrx;refine⟨d,pk,kvs,q,rfl,rfl,D7,hq,by rw [hqk];exact hk,?_⟩;rw [hvs j q hjq];refine⟨by show 3<=sizeLine;decide,?_⟩;intro p8 n8;generalize U':upd _ p8 _=H8;obtain ⟨S8,e8⟩:=zaj n8 U';clear U';refine h (some (j,i)) (.ref p8) H8 (fun c u e=>S8 _ _ (U7 c u e)) ⟨by omega,hrp,noring,fun e' he' hr=>?_⟩ (zms e8);have hrx':=(zcF M (N:=most.toNat) (by omega) (by omega) hr.1).1 hr;obtain⟨z3,hz3,_,_⟩:=keyat e' _ (zoz (show e'<kvs.length by omega));have e13:=(same e' i z3 z hz3 hz).2 hrx';exact noring j hji e' ((zcF M (N:=most.toNat) (by omega) (by omega) he').2 ((same e' j z3 z1 hz3 hz1).1 (e13.trans e12.symm)))
    ·walk_at "w";refine⟨d,pk,zeK z.2,kvs,rfl,rfl,zds _,hk,D7,hin,by rw [kl];exact zoL (show i<=1001 by omega) (by decide),fun H8 k8 _ D8=>?_⟩;refine⟨_,_,_,_,rfl,fun c u e ne=>k8 _ _ (k7 c u e ne) ne,D8,?_,fun j q hq=>?_⟩
     ·rw [zoF,hks,zoU,hz,zoF];rfl
     ·by_cases c:j<kvs.length
      ·rw [zo2 c] at hq;exact hvs j q hq
      ·rw [zo3 (by omega)] at hq;have hj0:j-kvs.length=0:=by
        have:=(zoB.1 hq).1
        simp at this
        omega
       rw [hj0] at hq;cases hq;show V.int (i:Int)=V.int (j:Int);rw [show j=i by omega]
   ·rintro σ H5 ⟨v3,v4,v5,kvs,rfl,k5,D5,hks,hvs⟩;have hall:ts.length=zs.length:=hA.1;rw [zox,hall,zoT] at hks;refine h none .non H5 (fun c u e=>k5 _ _ (S2 _ _ (S1 _ _ e)) (by rintro rfl;rw [nd1] at e;cases e)) (fun l hl e hr=>?_) (by show Den H5 .non .non;rw [Den]);have hlz:l<(tr m most.toNat s00).length:=by
     have:=hr.2.1.1
     rw [zbI l most.toNat s00 hl,zoW] at this;omega
    have hrx:=(zcF M (N:=most.toNat) hl hlz hr.1).1 hr;have hle:=hr.1;have kl:kvs.length=zs.length:=by have:=congrArg List.length hks;simpa using this
    have l1:e<zs.length:=by omega
    have l2:l<zs.length:=by omega
    have e12:=(same e l _ _ (zoz l1) (zoz l2)).2 hrx;have nd:=D5.nd;rw [hks] at nd
    have:(zs.map (fun z=>zeK z.2))[e]'(by rw [zox];exact l1)=(zs.map (fun z=>zeK z.2))[l]'(by rw [zox];exact l2):=by
     rw [List.getElem_map,List.getElem_map,e12]
    have:=zmM nd _ _ this
    omega
  ·exact h.elim
theorem zb8:zar ["early","late","low","high","row","place","strip","late_row","late_place","late_strip","way","led"] ["early","late","low","high"] (zae zaQ):=by walk_at "s"
def prE (q:Int × Int):En:=[q.1,q.2]
theorem zlG {A B:Mk2} (h:A.map prE=B.map prE):A=B:=by
 induction A generalizing B with
 | nil=>cases B with
  | nil=>rfl
  | cons b B=>cases h
 | cons a A ih=>cases B with
  | nil=>cases h
  | cons b B =>
   rw [zo0,zo0] at h;injection h with h1 h2
   rw [ih h2];unfold prE at h1;injection h1 with h3 h4
   injection h4 with h5
   rw [Prod.ext h3 h5]
theorem zhV:∀ es es':List En,zeb (es.map dE) (es'.map dE)=decide (es=es')
 | [],[]=>rfl
 | [],_::_=>rfl
 | _::_,[]=>rfl
 | e::es,e'::es'=>by
  show (eqD (dE e) (dE e') && zeb (es.map dE) (es'.map dE))=_;rw [zhV es es',zmv];by_cases c:e=e'
  ·subst c;by_cases d:es=es' <;> simp [d]
  ·simp [c]
theorem zkn {A B:Mk2}:eqD (dR (A.map prE)) (dR (B.map prE))=@decide (A=B) (Classical.propDecidable _):=by
 show zeb ((A.map prE).map dE) ((B.map prE).map dE)=_;rw [zhV];by_cases h:A=B
 ·subst h;simp
 ·have:¬ A.map prE=B.map prE:=fun e=>h (zlG e)
  simp [h,this]
def zcc:Sp:=fun vs H Q _=>match vs with
 | [.ref q1,.ref q2,.int lo,.int hi]=>∃ z1 z2:Addr × St3,SZ H q1 z1/\SZ H q2 z2/\(Srt z1.2.2.2/\Srt z2.2.2.2)/\(NZ z1.2.2.2/\NZ z2.2.2.2)/\(z1.2.2.2.length<=2000/\z2.2.2.2.length<=2000)/\∀ H',Sub H H'->Q (.bl (led z1.2 z2.2 lo hi)) H'
 | _=>False
theorem zks {x y:St3} {lo hi:Int} (h:¬ (x.1=y.1/\x.2.1≠y.2.1)):led x y lo hi=false:=by
 unfold led;refine @zoE _ (Classical.propDecidable _) fun ⟨h1,h2⟩=>h ⟨h1,?_⟩
 rcases h2 with ⟨a,_⟩ | ⟨a,_⟩ <;> omega
theorem zia {x y:St3} {lo hi:Int} (h:x.1=y.1) (hp:x.2.1<y.2.1) (s1:Srt x.2.2) (s2:Srt y.2.2) (z1:NZ x.2.2) (z2:NZ y.2.2):led x y lo hi=@decide ((x.2.2.filter fun q=>decide (lo<=q.1)).map (fun q=>(q.1+(y.2.1-x.2.1),q.2))=y.2.2.filter fun q=>decide (lo+(y.2.1-x.2.1)<=q.1)) (Classical.propDecidable _):=by
 have hs:=zgY (fun z=>decide (lo<=z)) (y.2.1-x.2.1) s1 s2 z1 z2;rw [show (fun q:Int × Int=>decide (lo<=q.1-(y.2.1-x.2.1)))=fun q=>decide (lo+(y.2.1-x.2.1)<=q.1) by funext q;congr 1;exact propext ⟨fun _=>by omega,fun _=>by omega⟩] at hs;unfold led;refine decide_eq_decide.2 ⟨fun ⟨_,h2⟩=>hs.2 fun z hz=>?_,fun e=>⟨h,.inl ⟨hp,fun z hz=>hs.1 e z (zoD hz)⟩⟩⟩;rcases h2 with ⟨_,b⟩ | ⟨a,_⟩
 ·exact b z (zpi hz)
 ·omega
theorem zju {x y:St3} {lo hi:Int} (h:x.1=y.1) (hp:y.2.1<x.2.1) (s1:Srt x.2.2) (s2:Srt y.2.2) (z1:NZ x.2.2) (z2:NZ y.2.2):led x y lo hi=@decide ((x.2.2.filter fun q=>decide (q.1<=hi)).map (fun q=>(q.1+(y.2.1-x.2.1),q.2))=y.2.2.filter fun q=>decide (q.1<=hi+(y.2.1-x.2.1))) (Classical.propDecidable _):=by
 have hs:=zgY (fun z=>decide (z<=hi)) (y.2.1-x.2.1) s1 s2 z1 z2;rw [show (fun q:Int × Int=>decide (q.1-(y.2.1-x.2.1)<=hi))=fun q=>decide (q.1<=hi+(y.2.1-x.2.1)) by funext q;congr 1;exact propext ⟨fun _=>by omega,fun _=>by omega⟩] at hs;unfold led;refine decide_eq_decide.2 ⟨fun ⟨_,h2⟩=>hs.2 fun z hz=>?_,fun e=>⟨h,.inr ⟨hp,fun z hz=>hs.1 e z (zoD hz)⟩⟩⟩;rcases h2 with ⟨a,_⟩ | ⟨_,b⟩
 ·omega
 ·exact b z (zpi hz)
theorem zb3 (T:Tx K mg a):zbr P w K mg base CX0 1 a.is_led_along a.is_led_along_d ["early","late","low","high"] (zcc):=by
 refine T.f_is_led_along.ok zb8 (fun vs H Q E h=>?_) (fun cdv A outer s H vs Q E hr h=>?_)
 ·unfold zcc at h;split at h
  ·rfl
  ·exact h.elim
 ·unfold zcc at h;split at h
  ·have nd:=zb8.nd;have hu:=zaY hr;rename_i q1 q2 lo hi;obtain⟨z1,z2,⟨hq1,as1,hl1,hA1⟩,⟨hq2,as2,hl2,hA2⟩,⟨s1,s2⟩,⟨nz1,nz2⟩,⟨b1,b2⟩,h⟩:=h;refine⟨_,(zab (zbp (qv 0) (zaW (K:=K) (n:=3) rfl rfl (zal (zai (i:=4) nd rfl (by walk_at "o")) (zal (zai (i:=5) nd rfl (by walk_at "o")) (zal (zai (i:=6) nd rfl (by walk_at "o")) zaX)))))
  (zab (zbp (qv 1) (zaW (K:=K) (n:=3) rfl rfl (zal (zai (i:=7) nd rfl (by walk_at "o")) (zal (zai (i:=8) nd rfl (by walk_at "o")) (zal (zai (i:=9) nd rfl (by walk_at "o")) zaX)))))
  (zab (zap (i:=10) nd rfl (by walk_at "o") (zau zcW (qv 8) (qv 5)))
  (zab (zb6 (PW.pt (zgM (zbJ znb (qv 4) (qv 7)) (zgO (zbJ zd5 (qv 10) zac)))) (zag (zan zcJ)) zat)
  (zab (zb6 (zbJ q_gt (qv 10) zac) (zab (ziz (j:=11) rfl nd rfl (by walk_at "o") (own:=["where","sign"]) (fr:=[10,2]) (by walk_at "comp_ok") (zbn (K:=K) rfl (qv 6)) (fun _ _ _ _=>(zaW (K:=K) (n:=2) rfl rfl (zal (zai (i:=0) (show List.Nodup (α:=Str) ["where","sign","way","low"] from by decide +kernel) rfl (by walk_at "o")) (zal (zai (i:=1) (show List.Nodup (α:=Str) ["where","sign","way","low"] from by decide +kernel) rfl (by walk_at "o")) zaX)))) (fun _ _ _ _=>(zeV (zbJ zod (qv 0) (qv 3)))) (fun _ _ _ _=>(zav (zaa (zau zbD (qv 0) (qv 2)) (zaa (qv 1) zad)))))
    (zag (zan (zbe (zdO hr) (qv 11) (zjM (own:=["where","sign"]) (fr:=[2,10]) rfl (by walk_at "comp_ok") (zbn (K:=K) rfl (qv 9)) (fun _ _ _ _=>(zaW (K:=K) (n:=2) rfl rfl (zal (zai (i:=0) (show List.Nodup (α:=Str) ["where","sign","low","way"] from by decide +kernel) rfl (by walk_at "o")) (zal (zai (i:=1) (show List.Nodup (α:=Str) ["where","sign","low","way"] from by decide +kernel) rfl (by walk_at "o")) zaX)))) (fun _ _ _ _=>(zeV (zbJ zod (qv 0) (zau zbD (qv 2) (qv 3))))) (fun _ _ _ _=>(zav (zaa (qv 0) (zaa (qv 1) zad))))) (by first | exact zaP _ | rfl))))) zat)
  (zab (ziz (j:=11) rfl nd rfl (by walk_at "o") (own:=["where","sign"]) (fr:=[10,3]) (by walk_at "comp_ok") (zbn (K:=K) rfl (qv 6)) (fun _ _ _ _=>(zaW (K:=K) (n:=2) rfl rfl (zal (zai (i:=0) (show List.Nodup (α:=Str) ["where","sign","way","high"] from by decide +kernel) rfl (by walk_at "o")) (zal (zai (i:=1) (show List.Nodup (α:=Str) ["where","sign","way","high"] from by decide +kernel) rfl (by walk_at "o")) zaX)))) (fun _ _ _ _=>(zeV (zbJ zhq (qv 0) (qv 3)))) (fun _ _ _ _=>(zav (zaa (zau zbD (qv 0) (qv 2)) (zaa (qv 1) zad)))))
  (zag (zan (zbe (zdO hr) (qv 11) (zjM (own:=["where","sign"]) (fr:=[3,10]) rfl (by walk_at "comp_ok") (zbn (K:=K) rfl (qv 9)) (fun _ _ _ _=>(zaW (K:=K) (n:=2) rfl rfl (zal (zai (i:=0) (show List.Nodup (α:=Str) ["where","sign","high","way"] from by decide +kernel) rfl (by walk_at "o")) (zal (zai (i:=1) (show List.Nodup (α:=Str) ["where","sign","high","way"] from by decide +kernel) rfl (by walk_at "o")) zaX)))) (fun _ _ _ _=>(zeV (zbJ zhq (qv 0) (zau zbD (qv 2) (qv 3))))) (fun _ _ _ _=>(zav (zaa (qv 0) (zaa (qv 1) zad))))) (by first | exact zaP _ | rfl)))))))))),?_⟩
   refine⟨_,SqT.of hq1,rfl,?_⟩;refine⟨_,SqT.of hq2,rfl,?_⟩;walk_at "w";refine ifB.mk (fun z=>?_) (fun z=>?_)
   ·walk_at "w";refine ifB.yes rfl ?_;have hn:led z1.2 z2.2 lo hi=false:=zks fun hh=>by simp [hh.1] at z
    rw [hn] at h;exact h H Sub.refl
   ·have hrow:z1.2.1=z2.2.1:=by simpa using z
    walk_at "w";refine ifB.mk (fun z=>?_) (fun z=>?_)
    ·have z:z2.2.2.1-z1.2.2.1=0:=zpi z;have hn:led z1.2 z2.2 lo hi=false:=zks fun hh=>hh.2 (by omega)
     rw [hn] at h;exact h H Sub.refl
    ·have z:¬ z2.2.2.1-z1.2.2.1=0:=of_decide_eq_false z;walk_at "w";refine ifB.dec (fun zp=>?_) (fun zp=>?_)
     ·have zp:0<z2.2.2.1-z1.2.2.1:=zp;refine⟨⟨_,SqL.of hl1⟩,?_⟩;intro pc1 nc1;refine zbc (K:=K) (a:=z1.1) (xs:=as1.map V.ref) (fun i σ H5=>∃ (v1 v2:Option V) (as':List Addr),σ=[v1,v2,some (.int (z2.2.2.1-z1.2.2.1)),some (.int lo)]/\Sub H H5/\zdm H5 pc1 as' ((((z1.2.2.2.take i).filter (fun q:Int × Int=>decide (lo<=q.1))).map (fun q:Int × Int=>(q.1+(z2.2.2.1-z1.2.2.1),q.2))).map prE)) ?_ ?_ ?_ ?_
      ·exact⟨none,none,[],rfl,Sub.new nc1,zaf,.nil⟩
      ·rintro i σ H5 _ ⟨v1,v2,as',rfl,S5,_⟩;exact SqL.of (S5 _ _ hl1)
      ·rintro i x σ H5 hix ⟨v1,v2,as',rfl,S5,R5⟩;rw [zoy] at hix;obtain⟨b,hb,rfl⟩:=zoA.1 hix;obtain⟨y,hy,hby⟩:=hA1.at hb;rw [zoy] at hy;obtain⟨q,hq,rfl⟩:=zoA.1 hy;have hby:=S5 _ _ hby;have hil:i<z1.2.2.2.length:=(zoB.1 hq).1;refine⟨_,SqT.of hby,rfl,?_⟩;walk_at "w";by_cases zc:lo<=q.1
       ·refine zeI (c:=lo<=q.1) zc ?_;refine⟨by show 2<=sizeLine;decide,?_⟩;intro p6 n6;generalize U':upd _ p6 _=H6;obtain ⟨S6,e6⟩:=zaj n6 U';clear U';have R6:=R5.stay (.sub S6);refine⟨_,R6.1,?_,_,_,as'++[p6],rfl,(S5.trans S6).upd nc1,?_⟩
        ·rw [zox,R6.2.1,zox,zox];exact zoL (zoM (List.length_filter_le _ _) (List.length_take_le _ _)) (zoL (show i<=2000 by omega) (by decide))
        ·rw [zoU,hq,zo7,show (Option.some q).toList.filter (fun q:Int × Int=>decide (lo<=q.1))=[q] by simp [zc],zoF,zoF];exact R6.app' (e:=prE ((fun q:Int × Int=>(q.1+(z2.2.2.1-z1.2.2.1),q.2)) q)) e6
       ·refine zeH (c:=lo<=q.1) zc ?_;refine⟨_,_,as',rfl,S5,?_⟩;rw [zoU,hq,zo7,show (Option.some q).toList.filter (fun q:Int × Int=>decide (lo<=q.1))=[] by simp [zc],zoJ];exact R5
      rintro σ HK1 ⟨v1,v2,as1',rfl,SK1,RK1⟩;rw [zox,hA1.1,zox,zoT] at RK1;have hl2':=SK1 _ _ hl2;have hA2':zbq (fun b q=>HK1 b=some (tI q)) as2 (iv z2.2.2.2):=hA2.mono fun _ _ _ z=>SK1 _ _ z
      refine⟨⟨_,SqL.of hl2'⟩,?_⟩;intro pc2 nc2;refine zbc (K:=K) (a:=z2.1) (xs:=as2.map V.ref) (fun i σ H5=>∃ (v1 v2:Option V) (as':List Addr),σ=[v1,v2,some (.int lo),some (.int (z2.2.2.1-z1.2.2.1))]/\Sub HK1 H5/\zdm H5 pc2 as' ((((z2.2.2.2.take i).filter (fun q:Int × Int=>decide (lo+(z2.2.2.1-z1.2.2.1)<=q.1))).map (fun q:Int × Int=>(q.1,q.2))).map prE)) ?_ ?_ ?_ ?_
      ·exact⟨none,none,[],rfl,Sub.new nc2,zaf,.nil⟩
      ·rintro i σ H5 _ ⟨v1,v2,as',rfl,S5,_⟩;exact SqL.of (S5 _ _ hl2')
      ·rintro i x σ H5 hix ⟨v1,v2,as',rfl,S5,R5⟩;rw [zoy] at hix;obtain⟨b,hb,rfl⟩:=zoA.1 hix;obtain⟨y,hy,hby⟩:=hA2'.at hb;rw [zoy] at hy;obtain⟨q,hq,rfl⟩:=zoA.1 hy;have hby:=S5 _ _ hby;have hil:i<z2.2.2.2.length:=(zoB.1 hq).1;refine⟨_,SqT.of hby,rfl,?_⟩;walk_at "w";by_cases zc:lo+(z2.2.2.1-z1.2.2.1)<=q.1
       ·refine zeI (c:=lo+(z2.2.2.1-z1.2.2.1)<=q.1) zc ?_;refine⟨by show 2<=sizeLine;decide,?_⟩;intro p6 n6;generalize U':upd _ p6 _=H6;obtain ⟨S6,e6⟩:=zaj n6 U';clear U';have R6:=R5.stay (.sub S6);refine⟨_,R6.1,?_,_,_,as'++[p6],rfl,(S5.trans S6).upd nc2,?_⟩
        ·rw [zox,R6.2.1,zox,zox];exact zoL (zoM (List.length_filter_le _ _) (List.length_take_le _ _)) (zoL (show i<=2000 by omega) (by decide))
        ·rw [zoU,hq,zo7,show (Option.some q).toList.filter (fun q:Int × Int=>decide (lo+(z2.2.2.1-z1.2.2.1)<=q.1))=[q] by simp [zc],zoF,zoF];exact R6.app' (e:=prE ((fun q:Int × Int=>(q.1,q.2)) q)) e6
       ·refine zeH (c:=lo+(z2.2.2.1-z1.2.2.1)<=q.1) zc ?_;refine⟨_,_,as',rfl,S5,?_⟩;rw [zoU,hq,zo7,show (Option.some q).toList.filter (fun q:Int × Int=>decide (lo+(z2.2.2.1-z1.2.2.1)<=q.1))=[] by simp [zc],zoJ];exact R5
      rintro σ HK2 ⟨v1,v2,as2',rfl,SK2,RK2⟩;rw [zox,hA2'.1,zox,zoT] at RK2;refine⟨_,_,Row.den ⟨_,RK1.stay (.sub SK2)⟩,Row.den ⟨_,RK2⟩,zoM zkm (by decide),?_⟩;rw [zkn,show (z2.2.2.2.filter (fun q:Int × Int=>decide (lo+(z2.2.2.1-z1.2.2.1)<=q.1))).map (fun q:Int × Int=>(q.1,q.2))=z2.2.2.2.filter (fun q:Int × Int=>decide (lo+(z2.2.2.1-z1.2.2.1)<=q.1)) from List.map_id _];have hh:=h HK2 (SK1.trans SK2);rw [zia hrow (by omega) s1 s2 nz1 nz2] at hh;exact hh
     ·have zp:¬ 0<z2.2.2.1-z1.2.2.1:=zp;refine⟨⟨_,SqL.of hl1⟩,?_⟩;intro pc1 nc1;refine zbc (K:=K) (a:=z1.1) (xs:=as1.map V.ref) (fun i σ H5=>∃ (v1 v2:Option V) (as':List Addr),σ=[v1,v2,some (.int (z2.2.2.1-z1.2.2.1)),some (.int hi)]/\Sub H H5/\zdm H5 pc1 as' ((((z1.2.2.2.take i).filter (fun q:Int × Int=>decide (q.1<=hi))).map (fun q:Int × Int=>(q.1+(z2.2.2.1-z1.2.2.1),q.2))).map prE)) ?_ ?_ ?_ ?_
      ·exact⟨none,none,[],rfl,Sub.new nc1,zaf,.nil⟩
      ·rintro i σ H5 _ ⟨v1,v2,as',rfl,S5,_⟩;exact SqL.of (S5 _ _ hl1)
      ·rintro i x σ H5 hix ⟨v1,v2,as',rfl,S5,R5⟩;rw [zoy] at hix;obtain⟨b,hb,rfl⟩:=zoA.1 hix;obtain⟨y,hy,hby⟩:=hA1.at hb;rw [zoy] at hy;obtain⟨q,hq,rfl⟩:=zoA.1 hy;have hby:=S5 _ _ hby;have hil:i<z1.2.2.2.length:=(zoB.1 hq).1;refine⟨_,SqT.of hby,rfl,?_⟩;walk_at "w";by_cases zc:q.1<=hi
       ·refine zeI (c:=q.1<=hi) zc ?_;refine⟨by show 2<=sizeLine;decide,?_⟩;intro p6 n6;generalize U':upd _ p6 _=H6;obtain ⟨S6,e6⟩:=zaj n6 U';clear U';have R6:=R5.stay (.sub S6);refine⟨_,R6.1,?_,_,_,as'++[p6],rfl,(S5.trans S6).upd nc1,?_⟩
        ·rw [zox,R6.2.1,zox,zox];exact zoL (zoM (List.length_filter_le _ _) (List.length_take_le _ _)) (zoL (show i<=2000 by omega) (by decide))
        ·rw [zoU,hq,zo7,show (Option.some q).toList.filter (fun q:Int × Int=>decide (q.1<=hi))=[q] by simp [zc],zoF,zoF];exact R6.app' (e:=prE ((fun q:Int × Int=>(q.1+(z2.2.2.1-z1.2.2.1),q.2)) q)) e6
       ·refine zeH (c:=q.1<=hi) zc ?_;refine⟨_,_,as',rfl,S5,?_⟩;rw [zoU,hq,zo7,show (Option.some q).toList.filter (fun q:Int × Int=>decide (q.1<=hi))=[] by simp [zc],zoJ];exact R5
      rintro σ HK1 ⟨v1,v2,as1',rfl,SK1,RK1⟩;rw [zox,hA1.1,zox,zoT] at RK1;have hl2':=SK1 _ _ hl2;have hA2':zbq (fun b q=>HK1 b=some (tI q)) as2 (iv z2.2.2.2):=hA2.mono fun _ _ _ z=>SK1 _ _ z
      refine⟨⟨_,SqL.of hl2'⟩,?_⟩;intro pc2 nc2;refine zbc (K:=K) (a:=z2.1) (xs:=as2.map V.ref) (fun i σ H5=>∃ (v1 v2:Option V) (as':List Addr),σ=[v1,v2,some (.int hi),some (.int (z2.2.2.1-z1.2.2.1))]/\Sub HK1 H5/\zdm H5 pc2 as' ((((z2.2.2.2.take i).filter (fun q:Int × Int=>decide (q.1<=hi+(z2.2.2.1-z1.2.2.1)))).map (fun q:Int × Int=>(q.1,q.2))).map prE)) ?_ ?_ ?_ ?_
      ·exact⟨none,none,[],rfl,Sub.new nc2,zaf,.nil⟩
      ·rintro i σ H5 _ ⟨v1,v2,as',rfl,S5,_⟩;exact SqL.of (S5 _ _ hl2')
      ·rintro i x σ H5 hix ⟨v1,v2,as',rfl,S5,R5⟩;rw [zoy] at hix;obtain⟨b,hb,rfl⟩:=zoA.1 hix;obtain⟨y,hy,hby⟩:=hA2'.at hb;rw [zoy] at hy;obtain⟨q,hq,rfl⟩:=zoA.1 hy;have hby:=S5 _ _ hby;have hil:i<z2.2.2.2.length:=(zoB.1 hq).1;refine⟨_,SqT.of hby,rfl,?_⟩;walk_at "w";by_cases zc:q.1<=hi+(z2.2.2.1-z1.2.2.1)
       ·refine zeI (c:=q.1<=hi+(z2.2.2.1-z1.2.2.1)) zc ?_;refine⟨by show 2<=sizeLine;decide,?_⟩;intro p6 n6;generalize U':upd _ p6 _=H6;obtain ⟨S6,e6⟩:=zaj n6 U';clear U';have R6:=R5.stay (.sub S6);refine⟨_,R6.1,?_,_,_,as'++[p6],rfl,(S5.trans S6).upd nc2,?_⟩
        ·rw [zox,R6.2.1,zox,zox];exact zoL (zoM (List.length_filter_le _ _) (List.length_take_le _ _)) (zoL (show i<=2000 by omega) (by decide))
        ·rw [zoU,hq,zo7,show (Option.some q).toList.filter (fun q:Int × Int=>decide (q.1<=hi+(z2.2.2.1-z1.2.2.1)))=[q] by simp [zc],zoF,zoF];exact R6.app' (e:=prE ((fun q:Int × Int=>(q.1,q.2)) q)) e6
       ·refine zeH (c:=q.1<=hi+(z2.2.2.1-z1.2.2.1)) zc ?_;refine⟨_,_,as',rfl,S5,?_⟩;rw [zoU,hq,zo7,show (Option.some q).toList.filter (fun q:Int × Int=>decide (q.1<=hi+(z2.2.2.1-z1.2.2.1)))=[] by simp [zc],zoJ];exact R5
      rintro σ HK2 ⟨v1,v2,as2',rfl,SK2,RK2⟩;rw [zox,hA2'.1,zox,zoT] at RK2;refine⟨_,_,Row.den ⟨_,RK1.stay (.sub SK2)⟩,Row.den ⟨_,RK2⟩,zoM zkm (by decide),?_⟩;rw [zkn,show (z2.2.2.2.filter (fun q:Int × Int=>decide (q.1<=hi+(z2.2.2.1-z1.2.2.1)))).map (fun q:Int × Int=>(q.1,q.2))=z2.2.2.2.filter (fun q:Int × Int=>decide (q.1<=hi+(z2.2.2.1-z1.2.2.1))) from List.map_id _];have hh:=h HK2 (SK1.trans SK2);rw [zju hrow (by omega) s1 s2 nz1 nz2] at hh;exact hh
  ·exact h.elim
theorem zcw:zar ["trail","late","told","low","high","early","place"] ["trail","late"] (zae zaZ):=by walk_at "s"
def Fst (X:List St3) (a l:Nat):Option Nat->Prop
 | none=>∀ e,a<=e->e<l->¬ DrX X e l
 | some e=>(a<=e/\e<l)/\DrX X e l/\∀ e',a<=e'->e'<e->¬ DrX X e' l
def ovN:Option Nat->V
 | none=>.non
 | some e=>.int e
def zbG:Sp:=fun vs H Q _=>match vs with
 | [.ref f,.int l]=>∃ (ts:List Addr) (zs:List (Addr × St3)) (X:List St3),H f=some (.lst (ts.map V.ref))/\zbq (SZ H) ts zs/\zfS (zs.map (·.2)) X/\(∀ x∈X,(x.2.2.map (·.1)).Nodup/\NZ x.2.2/\x.2.2.length<=2000)/\(1<=l/\l.toNat<X.length)/\X.length<=2000/\∀ (o:Option Nat) (H':Hp),Sub H H'->Fst X 0 l.toNat o->Q (ovN o) H'
 | _=>False
theorem zd2 (T:Tx K mg a):zbr P w K mg base CX0 2 a.first_drift a.first_drift_d ["trail","late"] (zbG):=by
 have G_is_led_along:=zb3 (P:=P) (w:=w) (base:=base) T;refine T.f_first_drift.ok zcw (fun vs H Q E h=>?_) (fun cdv A outer s H vs Q E hr h=>?_)
 ·unfold zbG at h;split at h
  ·rfl
  ·exact h.elim
 ·unfold zbG at h;split at h
  ·have nd:=zcw.nd;have hu:=zaY hr;rename_i f l;obtain⟨ts,zs,X,hf,hA,hT,hX,⟨l1,lX⟩,hXl,h⟩:=h;obtain⟨ln,rfl⟩:=Int.eq_ofNat_of_zero_le (show 0<=l by omega);have lX:ln<X.length:=lX;have h:∀ (o:Option Nat) (H':Hp),Sub H H'->Fst X 0 ln o->Q (ovN o) H':=h;refine⟨_,(zab (zap (i:=2) nd rfl (by walk_at "o") zbB)
  (zab (zix (zax (zaA (K:=K) rfl) (zax (za2 (K:=K) rfl) (qv 0) (zau zcW (qv 1) zac) (fun _ _=>rfl)) zac (fun _ _=>rfl)) (zai (i:=3) nd rfl (by walk_at "o")) (zai (i:=4) nd rfl (by walk_at "o")))
  (zab (zcu PassesOwn.never rfl (zlP rfl T.z_reversed (zaa (zcK znd rfl T.z_range boot_range (zaa (qv 1) zad)) zad)) (zai (i:=5) nd rfl (by walk_at "o")) (zab (zap (i:=6) nd rfl (by walk_at "o") (zax (zaA (K:=K) rfl) (zax (za2 (K:=K) rfl) (qv 0) (qv 5) (fun _ _=>rfl)) zac (fun _ _=>rfl)))
    (zab (zap (i:=3) nd rfl (by walk_at "o") (zaD (zkB rfl) rfl T.z_min zkf (zaa (qv 3) (zaa (qv 6) zad))))
    (zab (zap (i:=4) nd rfl (by walk_at "o") (zaD (zkA rfl) rfl T.z_max zke (zaa (qv 4) (zaa (qv 6) zad))))
    (zag (zb6 (zlJ (zah G_is_led_along (hr.mono (by decide)) rfl T.g_is_led_along T.f_is_led_along.kp T.b_is_led_along .nil zam (zaa (zax (za2 (K:=K) rfl) (qv 0) (qv 5) (fun _ _=>rfl)) (zaa (zax (za2 (K:=K) rfl) (qv 0) (qv 1) (fun _ _=>rfl)) (zaa (qv 3) (zaa (qv 4) zad)))))) (zag (zap (i:=2) nd rfl (by walk_at "o") (qv 5))) zat))))))
  (zag (zan (qv 2)))))),?_⟩
   have hzl:zs.length=X.length:=by have:=hT.1;rw [zox] at this;exact this
   have htl:ts.length=X.length:=hA.1.trans hzl;have get:∀ i,i<X.length->∃ c z x,ts[i]?=some c/\X[i]?=some x/\SZ H c z/\zkO z.2 x:=fun i hi=>by
    obtain⟨c,hc⟩:∃ c,ts[i]?=some c:=⟨_,zoz (by omega)⟩;obtain⟨z,hz,hs⟩:=hA.at hc;obtain⟨x,hx,h1⟩:=hT.at (i:=i) (y:=z.2) (by rw [zoy,hz];rfl);exact⟨c,z,x,hc,hx,hs,h1⟩
   have at':∀ {H':Hp} {i:Nat} {c:Addr},ts[i]?=some c->atI (ts.map V.ref) (i:Int)=some (V.ref c):=fun hc=>zaC (by rw [zoy,hc];rfl)
   obtain⟨c0,z0,x0,hc0,hx0,hs0,t0⟩:=get (ln-1) (by omega);obtain⟨c9,z9,x9,hc9,hx9,hs9,t9⟩:=get ln lX;refine⟨_,_,SqL.of hf,(show atI (ts.map V.ref) ((ln:Int)-1)=some (V.ref c0) by rw [show (ln:Int)-1=((ln-1:Nat):Int) by omega];exact at' (H':=H) hc0),?_⟩;refine⟨_,_,SqT.of hs0.1,zaC (j:=1) rfl,?_⟩;rw [t0.2.1];walk_at "w";intro p1 n1;generalize U':upd _ p1 _=H1;obtain ⟨S1,e1⟩:=zaj n1 U';clear U';refine⟨_,e1,⟨by omega,by omega⟩,?_⟩;rw [show ((ln:Int)).toNat=ln from rfl];refine zjg (hi:=(ln:Int)-1) (n:=ln) (fun i σ H5=>∃ (o:Option Nat) (lo hi:Int) (v5 v6:Option V),σ=[some (.ref f),some (.int ln),some (ovN o),some (.int lo),some (.int hi),v5,v6]/\Sub H H5/\Fst X (ln-i) ln o/\zdZ lo (x0.2.1::slc X (ln-i) ln)/\zdY hi (x0.2.1::slc X (ln-i) ln)) ?_ ?_ ?_
   ·refine⟨none,x0.2.1,x0.2.1,_,_,rfl,S1,fun e h1 h2=>by omega,?_,?_⟩
    ·rw [show slc X (ln-0) ln=[] by unfold slc;simp];exact⟨by simp,by simp⟩
    ·rw [show slc X (ln-0) ln=[] by unfold slc;simp];exact⟨by simp,by simp⟩
   ·rintro i σ H5 hi5 ⟨o,lo,hi,v5,v6,rfl,S5,hF,hlo,hhi⟩;obtain⟨c,z,x,hc,hx,hs,tx⟩:=get (ln-(i+1)) (by omega);have hat:atI (ts.map V.ref) ((ln:Int)-1-(i:Int))=some (V.ref c):=by rw [show (ln:Int)-1-(i:Int)=((ln-(i+1):Nat):Int) by omega];exact at' (H':=H) hc
    have hsl:=zgZ (l:=ln) (e:=ln-(i+1)) (by omega) hx;rw [show ln-(i+1)+1=ln-i by omega] at hsl;refine⟨_,_,SqL.of (S5 _ _ hf),hat,?_⟩;refine⟨_,_,SqT.of (S5 _ _ hs.1),zaC (j:=1) rfl,?_⟩;rw [tx.2.1];walk_at "w";intro mlo hmlo;walk_at "w";intro mhi hmhi;have hm0:x0.2.1∈slc X (ln-(i+1)) ln:=zlW (j:=ln-1) (by omega) (by omega) hx0;have klo:zdZ mlo (x0.2.1::slc X (ln-(i+1)) ln):=by rw [hsl];exact zmL hlo hmlo
    have khi:zdY mhi (x0.2.1::slc X (ln-(i+1)) ln):=by rw [hsl];exact zmy hhi hmhi
    have hlo':=zli klo hm0;have hhi':=zk9 khi hm0;refine⟨_,_,SqL.of (S5 _ _ hf),hat,?_⟩;refine⟨_,_,SqL.of (S5 _ _ hf),at' (H':=H) hc9,?_⟩;walk_at "w";have bx:=hX x (zoC hx);have b9:=hX x9 (zoC hx9);refine⟨z,z9,hs.sub S5,hs9.sub S5,⟨tx.2.2.2,t9.2.2.2⟩,⟨bx.2.1.perm tx.2.2.1,b9.2.1.perm t9.2.2.1⟩,⟨by rw [tx.2.2.1.length_eq];exact bx.2.2,by rw [t9.2.2.1.length_eq];exact b9.2.2⟩,fun H6 S6=>?_⟩;rw [zgC tx t9 bx.1 b9.1];walk_at "w";have hD:led x x9 mlo mhi=true↔DrX X (ln-(i+1)) ln:=⟨fun hh=>⟨x,x9,mlo,mhi,hx,hx9,hlo',hhi',hh⟩,fun ⟨x',y',lo',hi',a1,a2,a3,a4,a5⟩=>by rw [hx] at a1;rw [hx9] at a2;cases a1;cases a2;rw [hlo'.one a3,hhi'.one a4];exact a5⟩;have he:(ln:Int)-1-(i:Int)=((ln-(i+1):Nat):Int):=by omega
    cases hb:led x x9 mlo mhi with
    | true =>
     refine ifB.yes rfl ?_;refine⟨some (ln-(i+1)),mlo,mhi,some (.int ((ln:Int)-1-(i:Int))),some (.int x.2.1),by rw [show ovN (some (ln-(i+1)))=V.int ((ln:Int)-1-(i:Int)) by unfold ovN;rw [he]];rfl,S5.trans S6,⟨⟨zoN _,by omega⟩,hD.1 hb,fun e' h1 h2=>by omega⟩,klo,khi⟩
    | false =>
     refine ifB.no rfl ?_;refine⟨o,mlo,mhi,_,_,rfl,S5.trans S6,?_,klo,khi⟩;have hno:¬ DrX X (ln-(i+1)) ln:=fun hd=>by rw [hD.2 hd] at hb;cases hb
     cases o with
     | none =>
      intro e h1 h2;by_cases c:e=ln-(i+1)
      ·rw [c];exact hno
      ·exact hF e (by omega) h2
     | some e0 =>
      obtain⟨⟨a1,a2⟩,a3,a4⟩:=hF;refine⟨⟨by omega,a2⟩,a3,fun e' h1 h2=>?_⟩;by_cases c:e'=ln-(i+1)
      ·rw [c];exact hno
      ·exact a4 e' (by omega) h2
   ·rintro σ H5 ⟨o,lo,hi,v5,v6,rfl,S5,hF,hlo,hhi⟩;rw [show ln-ln=0 by omega] at hF;exact h o H5 S5 hF
  ·exact h.elim
theorem zgU:zar ["machine","most","trail","late","early"] ["machine","most"] (zae zcY):=by walk_at "s"
def znD:Option (Nat × Nat)->DD
 | none=>.non
 | some (e,l)=>.tup [.str "drift",.int e,.int l]
theorem znZ (r:Option (Nat × Nat)):dep (znD r)<=60:=by
 cases r with
 | none=>exact Nat.zero_le _
 | some p =>
  show dep (.tup [.str "drift",.int (p.1:Int),.int (p.2:Int)])<=60;rw [dep]
  have:depL [DD.str "drift",.int (p.1:Int),.int (p.2:Int)]<=0:=zaT fun d hd=>by
   simp only [zpg,List.not_mem_nil,or_false] at hd;rcases hd with rfl | rfl | rfl
   ·exact zoN 0
   ·exact zoN 0
   ·exact zoN 0
  omega
def ze0:Sp:=fun vs H Q _=>match vs with
 | [.ref t,.int most]=>∃ m:Ma,zdl H t m/\isM m=true/\0<=most/\most<=1000/\∀ (r:Option (Nat × Nat)) (v:V) (H':Hp),Sub H H'->zg5 m most.toNat r->Den H' v (znD r)->Q v H'
 | _=>False
theorem zkW {H:Hp} {p:Addr} {e l:Nat} (h:H p=some (.tup [.str "drift",.int e,.int l])):Den H (.ref p) (znD (some (e,l))):=by
 show Den H (.ref p) (.tup [.str "drift",.int (e:Int),.int (l:Int)]);rw [Den];exact⟨_,_,rfl,h,⟨_,_,rfl,by rw [Den],⟨_,_,rfl,by rw [Den],⟨_,_,rfl,by rw [Den],rfl⟩⟩⟩⟩
theorem zjB (T:Tx K mg a):zbr P w K mg base CX0 7 a.drift a.drift_d ["machine","most"] (ze0):=by
 have G_setups:=zdN (P:=P) (w:=w) (base:=base) T;have G_first_drift:=zd2 (P:=P) (w:=w) (base:=base) T;refine T.f_drift.ok zgU (fun vs H Q E h=>?_) (fun cdv A outer s H vs Q E hr h=>?_)
 ·unfold ze0 at h;split at h
  ·rfl
  ·exact h.elim
 ·unfold ze0 at h;split at h
  ·have nd:=zgU.nd;have hu:=zaY hr;rename_i t most;obtain⟨m,hm,hM,hm0,hm60,h⟩:=h;have M:=OkM.of hM;refine⟨_,(zab (zap (i:=2) nd rfl (by walk_at "o") (zah G_setups (hr.mono (by decide)) rfl T.g_setups T.f_setups.kp T.b_setups .nil zam (zaa (qv 0) (zaa (qv 1) zad))))
  (zab (zcu PassesOwn.never rfl (zfB rfl T.z_range (zaa zac (zaa (zaD (zcL (K:=K) rfl) rfl T.z_len zct (zaa (qv 2) zad)) zad))) (zai (i:=3) nd rfl (by walk_at "o")) (zab (zap (i:=4) nd rfl (by walk_at "o") (zah G_first_drift (hr.mono (by decide)) rfl T.g_first_drift T.f_first_drift.kp T.b_first_drift .nil zam (zaa (qv 2) (zaa (qv 3) zad))))
    (zag (zb6 (zbJ zdP (qv 4) zbB) (zag (zan (zav (zaa zbE (zaa (qv 4) (zaa (qv 3) zad)))))) zat))))
  (zag (zan zbB)))),?_⟩
   refine⟨m,hm,hM,hm0,hm60,fun f ts zs H1 S1 hf hA hnd hfr hT nf hne=>?_⟩;have hXl:=zfP m most.toNat (0,0,[]);have ok0:OkS m s00.1 s00.2.2:=⟨by decide,by have:=M.n1;show (0:Int)<m.length;omega,by simp,by simp⟩;have hX:∀ x∈tr m most.toNat s00,(x.2.2.map (·.1)).Nodup/\NZ x.2.2/\x.2.2.length<=2000:=fun x hx=>⟨(zcf M _ _ ok0 x hx).nd,zhA _ _ (fun q hq=>by simp at hq) x hx,by have:=zdt _ _ _ hx;simp at this;omega⟩
   have hT:zfS (zs.map (·.2)) (tr m most.toNat s00):=hT
   have hXl:(tr m most.toNat s00).length<=most.toNat+1:=hXl;have h1:1<=(tr m most.toNat s00).length:=by
    obtain⟨r,hr⟩:=zdW m most.toNat s00;rw [hr];simp
   have hzl:zs.length=(tr m most.toNat s00).length:=by have:=hT.1;rw [zox] at this;exact this
   have htl:((ts.map V.ref).length:Int)=(tr m most.toNat s00).length:=by rw [zox,hA.1,hzl]
   refine⟨_,.inl (SqL.of hf),?_⟩;rw [htl];refine⟨⟨by decide,by decide,by omega,by omega⟩,?_⟩;rw [show (((tr m most.toNat s00).length:Int)-1).toNat=(tr m most.toNat s00).length-1 by omega];refine zbw (lo:=1) (n:=(tr m most.toNat s00).length-1) (fun i σ H5=>∃ (v3 v4:Option V),σ=[some (.ref t),some (.int most),some (.ref f),v3,v4]/\Sub H1 H5/\∀ l,l<i+1->∀ e,¬ DrP m e l) ?_ ?_ ?_
   ·exact⟨_,_,rfl,Sub.refl,fun l hl e hd=>by have:=hd.1;omega⟩
   ·rintro i σ H5 hi ⟨v3,v4,rfl,S5,hno⟩;have hl1:(1:Int)+(i:Int)=((i+1:Nat):Int):=by omega
    have hiff:∀ e,e<i+1->(DrP m e (i+1)↔DrX (tr m most.toNat s00) e (i+1)):=fun e he=>zk0 (by omega) (by omega) he
    rw [hl1];refine⟨ts,zs,tr m most.toNat s00,S5 _ _ hf,hA.mono fun _ _ _ z=>z.sub S5,hT,hX,⟨by omega,by show i+1<_;omega⟩,by omega,fun o H6 S6 hF=>?_⟩;have hF:Fst (tr m most.toNat s00) 0 (i+1) o:=hF;cases o with
    | none =>
     refine⟨rfl,?_⟩;walk_at "w";refine ifB.no rfl ?_;refine⟨_,_,rfl,S5.trans S6,fun l hl e hd=>?_⟩;by_cases c:l=i+1
     ·subst c;exact hF e (Nat.zero_le _) hd.1 ((hiff e hd.1).1 hd)
     ·exact hno l (by omega) e hd
    | some e =>
     obtain⟨⟨_,a2⟩,a3,a4⟩:=hF;refine⟨rfl,?_⟩;walk_at "w";refine ifB.yes rfl ?_;refine⟨by show 3<=sizeLine;decide,?_⟩;intro p7 n7;generalize U':upd _ p7 _=H7;obtain ⟨S7,e7⟩:=zaj n7 U';clear U';refine h (some (e,i+1)) (.ref p7) H7 (S1.trans ((S5.trans S6).trans S7)) ⟨by omega,(hiff e a2).2 a3,fun l' hl' e'=>hno l' hl' e',fun e' he' hd=>a4 e' (Nat.zero_le _) he' ((hiff e' hd.1).1 hd)⟩ (zkW e7)
   ·rintro σ H5 ⟨v3,v4,rfl,S5,hno⟩;refine h none .non H5 (S1.trans S5) (fun l hl e hd=>?_) (by show Den H5 .non .non;rw [Den]);by_cases c:l<(tr m most.toNat s00).length
    ·exact hno l (by omega) e hd
    ·have:=hd.2.1.1
     rw [zbI l most.toNat s00 hl,zoW] at this;omega
  ·exact h.elim
theorem zfJ:zar ["walk","steps","low","high","moment"] ["walk","steps"] (zae zcp):=by walk_at "s"
def zdV (a:Ad):Sp:=fun vs H Q _=>match vs with
 | [.ref o,.int n]=>∃ (t d:Addr) (m:Ma) (x:St3),WK a.Walk H o t d x.1 x.2.1 x.2.2/\zdl H t m/\OkM m/\OkS m x.1 x.2.2/\x.2.2.length<=3000/\(0<=n/\n<=1000) /\
   ((tr m n.toNat x).length≠n.toNat+1->∀ H',(∀ c u,H c=some u->c≠o->c≠d->H' c=some u)->Q .non H') /\
   ((tr m n.toNat x).length=n.toNat+1->∀ (q:Addr) (lo hi:Int) (y:St3) (H':Hp),(tr m n.toNat x).getLast?=some y->WK a.Walk H' o t d y.1 y.2.1 y.2.2->OkS m y.1 y.2.2->y.2.2.length<=x.2.2.length+n.toNat->(∀ c u,H c=some u->c≠o->c≠d->H' c=some u)->H q=none->H' q=some (.tup [.int lo,.int hi]) ->
    zdZ lo (x.2.1::((tr m n.toNat x).dropLast).map fun y=>y.2.1)->zdY hi (x.2.1::((tr m n.toNat x).dropLast).map fun y=>y.2.1)->Q (.ref q) H')
 | _=>False
theorem zc6 {α:Type} (l:List α) (x:α):(l++[x]).dropLast=l:=by simp
theorem zlj {lo p:Int} {l:List Int} (h:zdZ lo l) {m:Int} (hm:m=if p<lo then p else lo):zdZ m (l++[p]):=by rw [hm];exact h.app
theorem zla {hi p:Int} {l:List Int} (h:zdY hi l) {m:Int} (hm:m=if hi<p then p else hi):zdY m (l++[p]):=by rw [hm];exact h.app
theorem zin (T:Tx K mg a):zbr P w K mg base CX0 4 a.walked a.walked_d ["walk","steps"] (zdV a):=by
 have G_Walk_step:=zb2 (P:=P) (w:=w) (base:=base) T;refine T.f_walked.ok zfJ (fun vs H Q E h=>?_) (fun cdv A outer s H vs Q E hr h=>?_)
 ·unfold zdV at h;split at h
  ·rfl
  ·exact h.elim
 ·unfold zdV at h;split at h
  ·have nd:=zfJ.nd;have hu:=zaY hr;rename_i o n;obtain⟨t,d,m,x,W,hm,M,hok,hxl,⟨n0,n1⟩,h0,h1⟩:=h;refine⟨_,(zab (zix (zbz (qv 0) rfl) (zai (i:=2) nd rfl (by walk_at "o")) (zai (i:=3) nd rfl (by walk_at "o")))
  (zab (zcu PassesOwn.never rfl (zbM rfl T.z_range (zaa (qv 1) zad)) (zai (i:=4) nd rfl (by walk_at "o")) (zab (zap (i:=2) nd rfl (by walk_at "o") (zaD (zkB rfl) rfl T.z_min zkf (zaa (qv 2) (zaa (zbz (qv 0) rfl) zad))))
    (zab (zap (i:=3) nd rfl (by walk_at "o") (zaD (zkA rfl) rfl T.z_max zke (zaa (qv 3) (zaa (zbz (qv 0) rfl) zad))))
    (zag (zb6 (zdQ (zlJ (za4 (qv 0) T.k_Walk T.m_Walk_step G_Walk_step (hr.mono (by decide)) T.b_Walk_step .nil zam))) (zag (zan zbB)) zat)))))
  (zag (zan (zav (zaa (qv 2) (zaa (qv 3) zad))))))),?_⟩
   obtain⟨⟨dx,ho⟩,hd⟩:=id W;refine⟨_,_,_,_,_,rfl,ho,T.k_Walk,T.n_Walk_place,zfa _ _ _ _,?_⟩;refine⟨⟨by omega,by omega⟩,?_⟩;refine zbw (lo:=0) (n:=n.toNat) (fun i σ H5=>∃ (v4:Option V) (sts:List St3) (y:St3) (lo hi:Int),σ=[some (.ref o),some (.int n),some (.int lo),some (.int hi),v4]/\WK a.Walk H5 o t d y.1 y.2.1 y.2.2/\(∀ c u,H c=some u->c≠o->c≠d->H5 c=some u)/\At m n.toNat x (sts++[y]) y/\sts.length=i/\OkS m y.1 y.2.2/\y.2.2.length<=x.2.2.length+i/\zdZ lo (x.2.1::sts.map fun y=>y.2.1)/\zdY hi (x.2.1::sts.map fun y=>y.2.1)) ?_ ?_ ?_
   ·exact⟨_,[],x,x.2.1,x.2.1,rfl,W,fun c u e _ _=>e,At.start,rfl,hok,by omega,⟨by simp,by simp⟩,⟨by simp,by simp⟩⟩
   ·rintro i σ H5 hi5 ⟨v4,sts,y,lo,hi,rfl,W5,k5,hAt,hsl,hok5,hyl,hlo,hhi⟩;obtain⟨⟨dx5,ho5⟩,hd5⟩:=id W5;have hm5:zdl H5 t m:=hm.stay (zdn.two W k5);have hlen:=hAt.len;refine⟨_,_,_,_,_,rfl,ho5,T.k_Walk,T.n_Walk_place,zfa _ _ _ _,?_⟩;walk_at "w";intro mlo hmlo;refine⟨_,_,_,_,_,rfl,ho5,T.k_Walk,T.n_Walk_place,zfa _ _ _ _,?_⟩;walk_at "w";intro mhi hmhi;refine⟨_,_,_,rfl,ho5,rfl,?_⟩;refine⟨t,d,y.1,y.2.1,y.2.2,m,W5,hm5,M,hok5,by omega,fun he H6 S6=>?_,fun s' w' r' H6 he hE W6 k6=>?_⟩
    ·walk_at "w";refine ifB.yes rfl ?_;refine h0 ?_ H6 fun c u e c1 c2=>S6 _ _ (k5 c u e c1 c2)
     have:=hAt.done (.inl (zg0 he))
     rw [← this,zoH];simp;omega
    ·obtain⟨s2,w2,r2,e2,a0,a1,a2,a3,a4⟩:=zaH hE (by simp);cases e2;have hnl:=zeO y.2.2 y.2.1 s';walk_at "w";refine ifB.no rfl ?_;refine⟨_,sts++[y],(r',y.2.1+w',nxt y.2.2 y.2.1 s'),mlo,mhi,rfl,W6,fun c u e c1 c2=>k6 c u (k5 c u e c1 c2) c1 c2,hAt.step (ziQ he) (by rw [zoH];simp;omega),by simp [hsl],hok5.nxt a0 a1 a3 a4,by show (nxt y.2.2 y.2.1 s').length<=_;omega,?_,?_⟩
     ·rw [zoF];exact zlj hlo hmlo
     ·rw [zoF];exact zla hhi hmhi
   ·rintro σ H5 ⟨v4,sts,y,lo,hi,rfl,W5,k5,hAt,hsl,hok5,hyl,hlo,hhi⟩;have hst:=hAt.done (.inr (by rw [zoH,hsl];simp));refine⟨by show 2<=sizeLine;decide,?_⟩;intro p6 n6;generalize U':upd _ p6 _=H6;obtain ⟨S6,e6⟩:=zaj n6 U';clear U';have hla:(tr m n.toNat x).getLast?=some y:=by rw [← hst];simp
    have hln:(tr m n.toNat x).length=n.toNat+1:=by rw [← hst,zoH,hsl];rfl
    have hnq:H p6=none:=by
     cases e:H p6 with
     | none=>rfl
     | some u =>
      by_cases c1:p6=o
      ·obtain⟨⟨dx5,ho5⟩,hd5⟩:=id W5;rw [c1,ho5] at n6;cases n6
      ·by_cases c2:p6=d
       ·obtain⟨⟨dx5,ho5⟩,hd5⟩:=id W5;rw [c2,hd5] at n6;cases n6
       ·have:=k5 _ _ e c1 c2
        rw [n6] at this;cases this
    refine h1 hln p6 lo hi y H6 hla (W5.sub S6) hok5 hyl (fun c u e c1 c2=>S6 _ _ (k5 c u e c1 c2)) hnq e6 ?_ ?_
    ·rw [← hst,zc6];exact hlo
    ·rw [← hst,zc6];exact hhi
  ·exact h.elim
theorem zen:zar ["machine","early","late","walk","first","stretch"] ["machine","early","late"] (zae zbN):=by walk_at "s"
def zc2:Sp:=fun vs H Q _=>match vs with
 | [.ref t,.int e,.int l]=>∃ m:Ma,zdl H t m/\isM m=true/\(0<=e/\e<=1000)/\(0<=l/\l<=1000) /\
   (¬ (e<l/\zfc m l.toNat)->∀ H',Sub H H'->Q .non H') /\
   (e<l->zfc m l.toNat->∀ (q q1 q2:Addr) (z1 z2:Addr × St3) (lo hi:Int) (x y:St3) (H':Hp),Sub H H'->H' q=some (.tup [.ref q1,.ref q2,.int lo,.int hi])->SZ H' q1 z1->SZ H' q2 z2->(tr m l.toNat s00)[e.toNat]?=some x->(tr m l.toNat s00)[l.toNat]?=some y->zkO z1.2 x->zkO z2.2 y ->
    zdZ lo ((((tr m l.toNat s00).drop e.toNat).take (l.toNat-e.toNat)).map fun y=>y.2.1)->zdY hi ((((tr m l.toNat s00).drop e.toNat).take (l.toNat-e.toNat)).map fun y=>y.2.1)->Q (.ref q) H')
 | _=>False
theorem zmK {lo p:Int} {l:List Int} (h:zdZ lo (p::l)) (hm:p∈l):zdZ lo l:=by
 refine⟨?_,fun n hn=>h.2 n (zoQ _ hn)⟩;rcases zpg.1 h.1 with rfl | hh
 ·exact hm
 ·exact hh
theorem zmx {hi p:Int} {l:List Int} (h:zdY hi (p::l)) (hm:p∈l):zdY hi l:=by
 refine⟨?_,fun n hn=>h.2 n (zoQ _ hn)⟩;rcases zpg.1 h.1 with rfl | hh
 ·exact hm
 ·exact hh
theorem zek (T:Tx K mg a):zbr P w K mg base CX0 6 a.between a.between_d ["machine","early","late"] (zc2):=by
 have G_begun:=zeQ (P:=P) (w:=w) (base:=base) T;have G_walked:=zin (P:=P) (w:=w) (base:=base) T;have G_Walk_setup:=zbT (P:=P) (w:=w) (base:=base) T;have G_Walk_entry:=zbS (P:=P) (w:=w) (base:=base) T;refine T.f_between.ok zen (fun vs H Q E h=>?_) (fun cdv A outer s H vs Q E hr h=>?_)
 ·unfold zc2 at h;split at h
  ·rfl
  ·exact h.elim
 ·unfold zc2 at h;split at h
  ·have nd:=zen.nd;have hu:=zaY hr;rename_i t e l;obtain⟨m,hm,hM,⟨e0,e1⟩,⟨l0,l1⟩,h0,h1⟩:=h;have M:=OkM.of hM;refine⟨_,(zab (zap (i:=3) nd rfl (by walk_at "o") (zah G_begun (hr.mono (by decide)) rfl T.g_begun T.f_begun.kp T.b_begun .nil zam (zaa (qv 0) zad)))
  (zab (zb6 (zdQ (zm3 zhq zna zhq zac (qv 1) (qv 2) (zis rfl T.c_MOST_MOMENT))) (zag (zan zbB)) zat)
  (zab (zb6 (zbJ ziq (zah G_walked (hr.mono (by decide)) rfl T.g_walked T.f_walked.kp T.b_walked .nil zam (zaa (qv 3) (zaa (qv 1) zad))) zbB) (zag (zan zbB)) zat)
  (zab (zap (i:=4) nd rfl (by walk_at "o") (za4 (qv 3) T.k_Walk T.m_Walk_setup G_Walk_setup (hr.mono (by decide)) T.b_Walk_setup .nil zam))
  (zab (zap (i:=5) nd rfl (by walk_at "o") (zah G_walked (hr.mono (by decide)) rfl T.g_walked T.f_walked.kp T.b_walked .nil zam (zaa (qv 3) (zaa (zau zcW (qv 2) (qv 1)) zad))))
  (zab (zb6 (PW.pt (zgM (zbJ ziq (qv 5) zbB) (zgO (zbJ (zdO hr) (za4 (qv 3) T.k_Walk T.m_Walk_entry G_Walk_entry (hr.mono (by decide)) T.b_Walk_entry .nil zam) (zav zad))))) (zag (zan zbB)) zat)
  (zag (zan (zav (zaa (qv 4) (zaa (za4 (qv 3) T.k_Walk T.m_Walk_setup G_Walk_setup (hr.mono (by decide)) T.b_Walk_setup .nil zam) (zaa (zax (zaA (K:=K) rfl) (qv 5) zac (fun _ _=>rfl)) (zaa (zax (zaA (K:=K) rfl) (qv 5) zac (fun _ _=>rfl)) zad))))))))))))),?_⟩
   refine⟨m,hm,hM,fun o d H1 S1 W1 no nd=>?_⟩;have ok0:OkS m s00.1 s00.2.2:=⟨by decide,by have:=M.n1;show (0:Int)<m.length;omega,by simp,by simp⟩;walk_at "w";refine ifB.yes (zoD e0) ?_;walk_at "w";refine ifB.dec (fun zl=>?_) (fun zl=>?_)
   ·have zl:e<l:=zl;walk_at "w";refine ifB.no (by rw [zoD (show l<=1000 from l1)];rfl) ?_;have hnat:e.toNat+(l.toNat-e.toNat)=l.toNat:=by omega
    refine⟨t,d,m,s00,W1,hm.stay (.sub S1),M,ok0,by simp,⟨e0,e1⟩,fun hA H2 k2=>?_,fun hA q2 lo2 hi2 y2 H2 la2 W2 ok2 yl2 k2 nq2 hq2 hlo2 hhi2=>?_⟩
    ·walk_at "w";refine⟨rfl,?_⟩;walk_at "w";refine ifB.yes rfl ?_;exact h0 (fun ⟨_,hal⟩=>hA (zdX _ _ _ (by omega) hal.1)) H2 fun c u e=>k2 c u (S1 _ _ e) (zak e no) (zak e nd)
    ·have S02:Sub H H2:=fun c u e=>k2 c u (S1 _ _ e) (zak e no) (zak e nd)
     obtain⟨⟨dx2,ho2⟩,hd2⟩:=id W2;have hX:tr m l.toNat s00=(tr m e.toNat s00).dropLast++tr m (l.toNat-e.toNat) y2:=by
      rw [← zg1 _ _ _ _ hA la2,hnat]
     have hdl:((tr m e.toNat s00).dropLast).length=e.toNat:=by rw [List.length_dropLast,hA];omega
     have hjn:(l-e).toNat=l.toNat-e.toNat:=by omega
     have yl2:y2.2.2.length<=e.toNat:=by simpa using yl2
     refine⟨rfl,?_⟩;walk_at "w";refine ifB.no rfl ?_;refine⟨_,_,_,rfl,ho2,rfl,?_⟩;refine⟨t,d,y2.1,y2.2.1,y2.2.2,W2,by omega,fun qa la ja H3 S3 pj sj hqa hla nla=>?_⟩;have W3:=W2.sub S3;refine⟨t,d,m,y2,W3,hm.stay (.sub (S02.trans S3)),M,ok2,by omega,⟨by omega,by omega⟩,fun hB H4 k4=>?_,fun hB q4 lo hi y4 H4 la4 W4 ok4 yl4 k4 nq4 hq4 hlo hhi=>?_⟩
     ·have S04:Sub H H4:=fun c u e=>k4 c u (S3 _ _ (S02 _ _ e)) (zak e no) (zak e nd)
      rw [hjn] at hB;refine⟨rfl,?_⟩;walk_at "w";refine ifB.yes rfl ?_;walk_at "w";refine ifB.yes rfl ?_;refine h0 (fun ⟨_,hal⟩=>hB ?_) H4 S04
      have:=hal.1
      rw [hX,zoH,hdl] at this;omega
     ·have S04:Sub H H4:=fun c u e=>k4 c u (S3 _ _ (S02 _ _ e)) (zak e no) (zak e nd)
      rw [hjn] at hB la4 hlo hhi yl4;have st4:zdn H3 H4:=zdn.two W3 k4;obtain⟨⟨dx4,ho4⟩,hd4⟩:=id W4;have hlast:(tr m l.toNat s00).getLast?=some y4:=by rw [hX,List.getLast?_append,la4];rfl
      have hlen:(tr m l.toNat s00).length=l.toNat+1:=by rw [hX,zoH,hdl,hB];omega
      refine⟨rfl,?_⟩;walk_at "w";refine ifB.no rfl ?_;refine⟨_,_,_,rfl,ho4,rfl,?_⟩;refine⟨t,d,y4.1,y4.2.1,y4.2.2,m,W4,hm.stay (.sub S04),M,ok4,fun b en H5 S5 he hoke hE=>?_⟩;refine⟨by show 0<=sizeLine;decide,?_⟩;intro p6 n6;generalize U':upd _ p6 _=H6;obtain ⟨S6,e6⟩:=zaj n6 U';clear U';have S46:=S5.trans S6;refine⟨_,_,(Ent.den (e:=en) (S6 _ _ hE)),(Ent.den (e:=[]) e6),zeA _,?_⟩;rw [zgv];walk_at "w";refine ifB.dec (fun z=>?_) (fun z=>?_)
      ·subst z;exact h0 (fun ⟨_,hal⟩=>hal.2 y4 hlast he) H6 (S04.trans S46)
      ·have W6:=W4.sub S46;obtain⟨⟨dx6,ho6⟩,hd6⟩:=id W6;refine⟨_,_,_,rfl,ho6,rfl,?_⟩;refine⟨t,d,y4.1,y4.2.1,y4.2.2,W6,by omega,fun qb lb jb H7 S7 pjb sjb hqb hlb nlb=>?_⟩;have S47:=S46.trans S7;refine⟨_,_,SqT.of (S47 _ _ hq4),zaC (j:=0) rfl,?_⟩;refine⟨_,_,SqT.of (S47 _ _ hq4),zaC (j:=1) rfl,?_⟩;refine⟨by show 4<=sizeLine;decide,?_⟩;intro p8 n8;generalize U':upd _ p8 _=H8;obtain ⟨S8,e8⟩:=zaj n8 U';clear U';have S48:=S47.trans S8;have al:zfc m l.toNat:=⟨hlen,fun y hy=>by rw [hlast] at hy;cases hy;rw [he];exact fun q=>z (zpk q)⟩;obtain⟨rest,hrest⟩:=zdW m (l.toNat-e.toNat) y2;have hdrop:(tr m l.toNat s00).drop e.toNat=tr m (l.toNat-e.toNat) y2:=by rw [hX,List.drop_append_of_le_length (by omega),List.drop_of_length_le (by omega),List.nil_append]
       have htk:((tr m l.toNat s00).drop e.toNat).take (l.toNat-e.toNat)=(tr m (l.toNat-e.toNat) y2).dropLast:=by rw [hdrop,List.dropLast_eq_take,hB];rfl
       have hmem:y2.2.1∈(tr m (l.toNat-e.toNat) y2).dropLast.map fun y=>y.2.1:=by
        refine zoP.2 ⟨y2,?_,rfl⟩;rw [List.dropLast_eq_take,hB,hrest,show l.toNat-e.toNat+1-1=(l.toNat-e.toNat-1)+1 by omega,List.take_succ_cons];simp
       refine h1 zl al p8 qa qb (la,(y2.1,y2.2.1,ja)) (lb,(y4.1,y4.2.1,jb)) lo hi y2 y4 H8 (S04.trans S48) e8 ⟨S48 _ _ (st4.tup _ _ hqa),(hla.stay st4).sub S48⟩ ⟨S8 _ _ hqb,hlb.sub S8⟩ ?_ ?_ ⟨rfl,rfl,pj,sj⟩ ⟨rfl,rfl,pjb,sjb⟩ ?_ ?_
       ·rw [hX,zo3 (by omega),hdl,Nat.sub_self,hrest];rfl
       ·rw [← hlast,List.getLast?_eq_getElem?,hlen];rfl
       ·rw [htk];exact zmK hlo hmem
       ·rw [htk];exact zmx hhi hmem
   ·walk_at "w";refine ifB.yes rfl ?_;exact h0 (fun hh=>zl hh.1) H1 S1
  ·exact h.elim
theorem zcP:zar ["machine","early","late","both"] ["machine","early","late"] (zae zbb):=by walk_at "s"
def zdy (m:Ma) (e l:Nat):Prop:=e<l/\zfc m l/\∃ x y lo hi,(tr m l s00)[e]?=some x/\(tr m l s00)[l]?=some y/\zdZ lo ((((tr m l s00).drop e).take (l-e)).map fun y=>y.2.1)/\zdY hi ((((tr m l s00).drop e).take (l-e)).map fun y=>y.2.1)/\led x y lo hi=true
def endP (m:Ma) (s:Nat):Prop:=(tr m s s00).length=s+1/\∃ y,(tr m s s00).getLast?=some y/\ent m y.1 y.2.1 y.2.2=some []
noncomputable abbrev dB (p:Prop):Bool:=@decide p (Classical.propDecidable p)
theorem zfm {p:Prop} {b:Bool} (h:p↔b=true):dB p=b:=by
 cases b with
 | true=>exact @zoD _ (Classical.propDecidable _) (h.2 rfl)
 | false=>exact @zoE _ (Classical.propDecidable _) fun hp=>by cases h.1 hp
theorem zkU {p:Prop} (h:¬ p):dB p=false:=@zoE _ (Classical.propDecidable _) h
def zbV:Sp:=fun vs H Q _=>match vs with
 | [.ref t,.int e,.int l]=>∃ m:Ma,zdl H t m/\isM m=true/\(0<=e/\e<=1000)/\(0<=l/\l<=1000)/\∀ H',Sub H H'->Q (.bl (dB (zdk m e.toNat l.toNat))) H'
 | _=>False
theorem zeS (T:Tx K mg a):zbr P w K mg base CX0 7 a.shows_ring a.shows_ring_d ["machine","early","late"] (zbV):=by
 have G_between:=zek (P:=P) (w:=w) (base:=base) T;refine T.f_shows_ring.ok zcP (fun vs H Q E h=>?_) (fun cdv A outer s H vs Q E hr h=>?_)
 ·unfold zbV at h;split at h
  ·rfl
  ·exact h.elim
 ·unfold zbV at h;split at h
  ·have nd:=zcP.nd;have hu:=zaY hr;rename_i t e l;obtain⟨m,hm,hM,he,hl,h⟩:=h;have M:=OkM.of hM;refine⟨_,(zab (zap (i:=3) nd rfl (by walk_at "o") (zah G_between (hr.mono (by decide)) rfl T.g_between T.f_between.kp T.b_between .nil zam (zaa (qv 0) (zaa (qv 1) (zaa (qv 2) zad)))))
  (zag (zan (zcC (zbe zdP (qv 3) zbB (by first | exact zaP _ | rfl)) (zel (zbe (zdO hr) (zax (zaA (K:=K) rfl) (qv 3) zac (fun _ _=>rfl)) (zax (zaA (K:=K) rfl) (qv 3) zac (fun _ _=>rfl)) (by first | exact zaP _ | rfl))))))),?_⟩
   refine⟨m,hm,hM,he,hl,fun hn H1 S1=>?_,fun hel al q q1 q2 z1 z2 lo hi x y H1 S1 hq hz1 hz2 hx hy t1 t2 hlo hhi=>?_⟩
   ·walk_at "w";refine⟨rfl,?_⟩;walk_at "w";refine ifB.no rfl ?_;rw [zkU (fun hp=>hn ⟨by have:=hp.1;omega,hp.2.1⟩)] at h;exact h H1 S1
   ·have ok0:OkS m s00.1 s00.2.2:=⟨by decide,by have:=M.n1;show (0:Int)<m.length;omega,by simp,by simp⟩;have nx:=(zcf M _ _ ok0 x (zoC hx)).nd;have ny:=(zcf M _ _ ok0 y (zoC hy)).nd;refine⟨rfl,?_⟩;walk_at "w";refine ifB.yes rfl ?_;refine⟨_,_,SqT.of hq,zaC (j:=0) rfl,?_⟩;refine⟨_,_,SqT.of hq,zaC (j:=1) rfl,?_⟩;refine⟨_,_,hz1.den,hz2.den,?_,?_⟩
    ·have:=zjb (xs:=[z1.2])
     rw [zo0,dep,depL] at this;omega
    rw [zmu,zgm t1 t2 nx ny];have hh:=h H1 S1;rw [zfm (b:=eqS x y) ⟨fun ⟨_,_,x',y',hx',hy',hh⟩=>by rw [hx] at hx';rw [hy] at hy';cases hx';cases hy';exact hh,fun hb=>⟨by omega,al,x,y,hx,hy,hb⟩⟩] at hh;exact hh
  ·exact h.elim
theorem zcy:zar ["machine","early","late","both"] ["machine","early","late"] (zae za1):=by walk_at "s"
def zbH:Sp:=fun vs H Q _=>match vs with
 | [.ref t,.int e,.int l]=>∃ m:Ma,zdl H t m/\isM m=true/\(0<=e/\e<=1000)/\(0<=l/\l<=1000)/\∀ H',Sub H H'->Q (.bl (dB (zdy m e.toNat l.toNat))) H'
 | _=>False
theorem zd4 (T:Tx K mg a):zbr P w K mg base CX0 7 a.shows_drift a.shows_drift_d ["machine","early","late"] (zbH):=by
 have G_between:=zek (P:=P) (w:=w) (base:=base) T;have G_is_led_along:=zb3 (P:=P) (w:=w) (base:=base) T;refine T.f_shows_drift.ok zcy (fun vs H Q E h=>?_) (fun cdv A outer s H vs Q E hr h=>?_)
 ·unfold zbH at h;split at h
  ·rfl
  ·exact h.elim
 ·unfold zbH at h;split at h
  ·have nd:=zcy.nd;have hu:=zaY hr;rename_i t e l;obtain⟨m,hm,hM,he,hl,h⟩:=h;have M:=OkM.of hM;refine⟨_,(zab (zap (i:=3) nd rfl (by walk_at "o") (zah G_between (hr.mono (by decide)) rfl T.g_between T.f_between.kp T.b_between .nil zam (zaa (qv 0) (zaa (qv 1) (zaa (qv 2) zad)))))
  (zag (zan (zcC (zbe zdP (qv 3) zbB (by first | exact zaP _ | rfl)) (zel (zah G_is_led_along (hr.mono (by decide)) rfl T.g_is_led_along T.f_is_led_along.kp T.b_is_led_along .nil zam (zaa (zax (zaA (K:=K) rfl) (qv 3) zac (fun _ _=>rfl)) (zaa (zax (zaA (K:=K) rfl) (qv 3) zac (fun _ _=>rfl)) (zaa (zax (zaA (K:=K) rfl) (qv 3) zac (fun _ _=>rfl)) (zaa (zax (zaA (K:=K) rfl) (qv 3) zac (fun _ _=>rfl)) zad)))))))))),?_⟩
   refine⟨m,hm,hM,he,hl,fun hn H1 S1=>?_,fun hel al q q1 q2 z1 z2 lo hi x y H1 S1 hq hz1 hz2 hx hy t1 t2 hlo hhi=>?_⟩
   ·walk_at "w";refine⟨rfl,?_⟩;walk_at "w";refine ifB.no rfl ?_;rw [zkU (fun hp=>hn ⟨by have:=hp.1;omega,hp.2.1⟩)] at h;exact h H1 S1
   ·have ok0:OkS m s00.1 s00.2.2:=⟨by decide,by have:=M.n1;show (0:Int)<m.length;omega,by simp,by simp⟩;have hmx:=zoC hx;have hmy:=zoC hy;have nx:=(zcf M _ _ ok0 x hmx).nd;have ny:=(zcf M _ _ ok0 y hmy).nd;have zx:NZ x.2.2:=zhA _ _ (fun q hq=>by simp at hq) x hmx;have zy:NZ y.2.2:=zhA _ _ (fun q hq=>by simp at hq) y hmy;have lx:=zdt _ _ _ hmx;have ly:=zdt _ _ _ hmy;have lx:x.2.2.length<=l.toNat:=by simpa using lx
    have ly:y.2.2.length<=l.toNat:=by simpa using ly
    refine⟨rfl,?_⟩;walk_at "w";refine ifB.yes rfl ?_;refine⟨_,_,SqT.of hq,zaC (j:=0) rfl,?_⟩;refine⟨_,_,SqT.of hq,zaC (j:=1) rfl,?_⟩;refine⟨_,_,SqT.of hq,zaC (j:=2) rfl,?_⟩;refine⟨_,_,SqT.of hq,zaC (j:=3) rfl,?_⟩;refine⟨z1,z2,hz1,hz2,⟨t1.2.2.2,t2.2.2.2⟩,⟨zx.perm t1.2.2.1,zy.perm t2.2.2.1⟩,⟨by rw [t1.2.2.1.length_eq];omega,by rw [t2.2.2.1.length_eq];omega⟩,fun H2 S2=>?_⟩;rw [zgC t1 t2 nx ny];have hh:=h H2 (S1.trans S2);rw [zfm (b:=led x y lo hi) ⟨fun ⟨_,_,x',y',lo',hi',hx',hy',hlo',hhi',hh⟩=>by rw [hx] at hx';rw [hy] at hy';cases hx';cases hy';rw [hlo.one hlo',hhi.one hhi'];exact hh,fun hb=>⟨by omega,al,x,y,lo,hi,hx,hy,hlo,hhi,hb⟩⟩] at hh;exact hh
  ·exact h.elim
theorem zdg:zar ["machine","steps","word","done","setup"] ["machine","steps"] (zae zbl):=by walk_at "s"
def zce:Sp:=fun vs H Q _=>match vs with
 | [.ref t,.int s]=>∃ m:Ma,zdl H t m/\isM m=true/\(0<=s/\s<=1000)/\∀ H',Sub H H'->Q (.bl (dB (endP m s.toNat))) H'
 | _=>False
theorem zfw (T:Tx K mg a):zbr P w K mg base CX0 7 a.shows_end a.shows_end_d ["machine","steps"] (zce):=by
 have G_run:=zim (P:=P) (w:=w) (base:=base) T;refine T.f_shows_end.ok zdg (fun vs H Q E h=>?_) (fun cdv A outer s H vs Q E hr h=>?_)
 ·unfold zce at h;split at h
  ·rfl
  ·exact h.elim
 ·unfold zce at h;split at h
  ·have nd:=zdg.nd;have hu:=zaY hr;rename_i t st;obtain⟨m,hm,hM,⟨s0,s1⟩,h⟩:=h;refine⟨_,(zab (zb6 (zdQ (zlI zhq zhq zac (qv 1) (zis rfl T.c_MOST_MOMENT))) (zag (zan zcJ)) zat)
  (zab (zbp (zah G_run (hr.mono (by decide)) rfl T.g_run T.f_run.kp T.b_run .nil zam (zaa (qv 0) (zaa (qv 1) zad))) (zaW (K:=K) (n:=3) rfl rfl (zal (zai (i:=2) nd rfl (by walk_at "o")) (zal (zai (i:=3) nd rfl (by walk_at "o")) (zal (zai (i:=4) nd rfl (by walk_at "o")) zaX)))))
  (zag (zan (zcC (zbe zd5 (qv 2) zbE (by first | exact zaP _ | rfl)) (zel (zbe zd5 (qv 3) (qv 1) (by first | exact zaP _ | rfl)))))))),?_⟩
   walk_at "w";refine ifB.yes (zoD s0) ?_;walk_at "w";refine ifB.no (by rw [zoD (show st<=1000 from s1)];rfl) ?_;refine⟨m,hm,hM,s0,s1,fun q l x js H1 S1 hla ⟨q2,hq,_⟩ pj sj nl=>?_⟩;have hX1:1<=(tr m st.toNat (0,0,[])).length:=by
    obtain⟨r,hr⟩:=zdW m st.toNat (0,0,[]);rw [hr];simp
   refine⟨_,SqT.of hq,rfl,?_⟩;walk_at "w";by_cases z:ent m x.1 x.2.1 x.2.2=some []
   ·have hw:wd m x="ends":=by unfold wd;rw [zpc z]
    rw [hw];refine ifB.yes (by decide +kernel) ?_;have hh:=h H1 S1;rw [zfm (b:=decide ((((tr m st.toNat (0,0,[])).length:Int)-1)=st)) ⟨fun hp=>zoD (by have:(tr m st.toNat (0,0,[])).length=st.toNat+1:=hp.1;omega),fun hb=>⟨by have:=zpi hb;show (tr m st.toNat (0,0,[])).length=_;omega,x,hla,z⟩⟩] at hh;exact hh
   ·have hw:wd m x="on":=by unfold wd;rw [zpb z]
    rw [hw];refine ifB.no (by decide +kernel) ?_;have hh:=h H1 S1;rw [zkU (fun hp=>by obtain⟨_,y,hy,hz⟩:=hp;rw [hla] at hy;cases hy;exact z hz)] at hh;exact hh
  ·exact h.elim
theorem zgX:zar ["machine","paper","kind"] ["machine","paper"] (zae zc1):=by walk_at "s"
def ze7:Sp:=fun vs H Q _=>match vs with
 | [.ref t,.ref p]=>∃ m:Ma,zdl H t m/\isM m=true /\
   ((∃ e l:Int,H p=some (.tup [.str "ring",.int e,.int l])/\(0<=e/\e<=1000)/\(0<=l/\l<=1000)/\∀ H',Sub H H'->Q (.bl (dB (zdk m e.toNat l.toNat))) H') \/ (∃ e l:Int,H p=some (.tup [.str "drift",.int e,.int l])/\(0<=e/\e<=1000)/\(0<=l/\l<=1000)/\∀ H',Sub H H'->Q (.bl (dB (zdy m e.toNat l.toNat))) H') \/ (∃ s:Int,H p=some (.tup [.str "ends",.int s])/\(0<=s/\s<=1000)/\∀ H',Sub H H'->Q (.bl (dB (endP m s.toNat))) H'))
 | _=>False
theorem zjE (T:Tx K mg a):zbr P w K mg base CX0 8 a.shows a.shows_d ["machine","paper"] (ze7):=by
 have G_shows_end:=zfw (P:=P) (w:=w) (base:=base) T;have G_shows_ring:=zeS (P:=P) (w:=w) (base:=base) T;have G_shows_drift:=zd4 (P:=P) (w:=w) (base:=base) T;have G_must_machine:=(zb5 (P:=P) (w:=w) (base:=base) T).noE;refine T.f_shows.ok zgX (fun vs H Q E h=>?_) (fun cdv A outer s H vs Q E hr h=>?_)
 ·unfold ze7 at h;split at h
  ·rfl
  ·exact h.elim
 ·unfold ze7 at h;split at h
  ·have nd:=zgX.nd;have hu:=zaY hr;rename_i t p;obtain⟨m,hm,hM,h⟩:=h;refine⟨_,(zab (zb7 (zah G_must_machine (hr.mono (by decide)) rfl T.g_must_machine T.f_must_machine.kp T.b_must_machine .nil zam (zaa (qv 0) zad)))
  (zab (zap (i:=2) nd rfl (by walk_at "o") (zax (zaA (K:=K) rfl) (qv 1) zac (fun _ _=>rfl)))
  (zab (zb6 (zbJ zd5 (qv 2) zbE) (zag (zan (zah G_shows_end (hr.mono (by decide)) rfl T.g_shows_end T.f_shows_end.kp T.b_shows_end .nil zam (zaa (qv 0) (zaa (zax (zaA (K:=K) rfl) (qv 1) zac (fun _ _=>rfl)) zad))))) zat)
  (zab (zb6 (zbJ zd5 (qv 2) zbE) (zag (zan (zah G_shows_ring (hr.mono (by decide)) rfl T.g_shows_ring T.f_shows_ring.kp T.b_shows_ring .nil zam (zaa (qv 0) (zaa (zax (zaA (K:=K) rfl) (qv 1) zac (fun _ _=>rfl)) (zaa (zax (zaA (K:=K) rfl) (qv 1) zac (fun _ _=>rfl)) zad)))))) zat)
  (zab (zb6 (zbJ zd5 (qv 2) zbE) (zag (zan (zah G_shows_drift (hr.mono (by decide)) rfl T.g_shows_drift T.f_shows_drift.kp T.b_shows_drift .nil zam (zaa (qv 0) (zaa (zax (zaA (K:=K) rfl) (qv 1) zac (fun _ _=>rfl)) (zaa (zax (zaA (K:=K) rfl) (qv 1) zac (fun _ _=>rfl)) zad)))))) zat)
  ziA))))),?_⟩
   refine⟨m,hm,zkb hM,fun _ H1 S1=>?_,fun z=>by rw [hM] at z;cases z⟩;have hm1:=hm.stay (.sub S1);rcases h with ⟨e,l,hp,he,hl,h⟩ | ⟨e,l,hp,he,hl,h⟩ | ⟨st,hp,hs,h⟩
   ·have hp:=S1 _ _ hp;refine⟨_,_,SqT.of hp,zaC (j:=0) rfl,?_⟩;walk_at "w";refine ifB.no (by decide +kernel) ?_;walk_at "w";refine ifB.yes (by decide +kernel) ?_;refine⟨_,_,SqT.of hp,zaC (j:=1) rfl,?_⟩;refine⟨_,_,SqT.of hp,zaC (j:=2) rfl,?_⟩;walk_at "w";exact⟨m,hm1,hM,he,hl,fun H2 S2=>h H2 (S1.trans S2)⟩
   ·have hp:=S1 _ _ hp;refine⟨_,_,SqT.of hp,zaC (j:=0) rfl,?_⟩;walk_at "w";refine ifB.no (by decide +kernel) ?_;walk_at "w";refine ifB.no (by decide +kernel) ?_;walk_at "w";refine ifB.yes (by decide +kernel) ?_;refine⟨_,_,SqT.of hp,zaC (j:=1) rfl,?_⟩;refine⟨_,_,SqT.of hp,zaC (j:=2) rfl,?_⟩;walk_at "w";exact⟨m,hm1,hM,he,hl,fun H2 S2=>h H2 (S1.trans S2)⟩
   ·have hp:=S1 _ _ hp;refine⟨_,_,SqT.of hp,zaC (j:=0) rfl,?_⟩;walk_at "w";refine ifB.yes (by decide +kernel) ?_;refine⟨_,_,SqT.of hp,zaC (j:=1) rfl,?_⟩;walk_at "w";exact⟨m,hm1,hM,hs,fun H2 S2=>h H2 (S1.trans S2)⟩
  ·exact h.elim
theorem zde:zar ["_law_purse_here","_law_rows","_law_signs","_law_kind","_law_found","_law_k","_law_row","_law_j","_law_entry"] ["_law_purse_here"] (zae zbj):=by walk_at "s"
theorem za3 {j:Int} (h0:0<j) (h1:j<=1000):0<j/\j.natAbs.log2<9000:=by
 refine⟨h0,?_⟩
 have:j.natAbs.log2<10:=(Nat.log2_lt (by omega)).2 (by show _<1024;omega)
 omega
def zc3:Sp:=fun vs H Q _=>match vs with
 | [.ref pp]=>∃ n k:Int,H pp=some (.lst [.int n,.int k])/\∀ (q:Addr) (m:Ma) (H':Hp),Pu pp k H H'->H q=none->zdl H' q m->isM m=true->Q (.ref q) H'
 | _=>False
theorem zdE {m:Ma} {rows signs:Int} (h1:(m.length:Int)=rows) (h2:1<=rows) (h3:rows<=4) (h4:2<=signs) (h5:signs<=4)
  (h:∀ r∈m,(r.length:Int)=signs/\∀ e∈r,zaz rows signs e=true):isM m=true:=by
 cases m with
 | nil=>simp at h1;omega
 | cons r0 m' =>
  have h0:=(h r0 (by simp)).1;refine zmB (by omega) (by omega) (by omega) fun r hr=>⟨by have:=(h r hr).1;omega,?_⟩
  unfold zjA;rw [h1,h0];exact zoX.2 (h r hr).2
theorem zfu (T:Tx K mg a):zbr P w K mg base CX0 2 a.l_machine a.l_machine_d ["_law_purse_here"] (zc3):=by
 have G_l_draw:=zb4 (P:=P) (w:=w) (base:=base) T;refine T.f_l_machine.ok zde (fun vs H Q E h=>?_) (fun cdv A outer s H vs Q E hr h=>?_)
 ·unfold zc3 at h;split at h
  ·rfl
  ·exact h.elim
 ·unfold zc3 at h;split at h
  ·have nd:=zde.nd;have hu:=zaY hr;rename_i pp;obtain⟨n,k,hp,h⟩:=h;have P0:Pu pp k H H:=Pu.refl ⟨n,hp⟩;have e0:=hp;refine⟨_,(zab (zap (i:=1) nd rfl (by walk_at "o") (zau zbD zac (zah G_l_draw (hr.mono (by decide)) rfl T.g_l_draw T.f_l_draw.kp T.b_l_draw .nil zam (zaa (qv 0) (zaa zac zad)))))
  (zab (zap (i:=2) nd rfl (by walk_at "o") (zau zbD zac (zah G_l_draw (hr.mono (by decide)) rfl T.g_l_draw T.f_l_draw.kp T.b_l_draw .nil zam (zaa (qv 0) (zaa zac zad)))))
  (zab (zap (i:=3) nd rfl (by walk_at "o") (zah G_l_draw (hr.mono (by decide)) rfl T.g_l_draw T.f_l_draw.kp T.b_l_draw .nil zam (zaa (qv 0) (zaa zac zad))))
  (zab (zap (i:=4) nd rfl (by walk_at "o") (zbA zad))
  (zab (zcu PassesOwn.never rfl (zbM rfl T.z_range (zaa (qv 1) zad)) (zai (i:=5) nd rfl (by walk_at "o")) (zab (zap (i:=6) nd rfl (by walk_at "o") (zbA zad))
    (zab (zcu PassesOwn.never rfl (zbM rfl T.z_range (zaa (qv 2) zad)) (zai (i:=7) nd rfl (by walk_at "o")) (zab (zap (i:=8) nd rfl (by walk_at "o") (zav (zaa (zah G_l_draw (hr.mono (by decide)) rfl T.g_l_draw T.f_l_draw.kp T.b_l_draw .nil zam (zaa (qv 0) (zaa (qv 2) zad))) (zaa (zau zcW (zau zcr zac (zah G_l_draw (hr.mono (by decide)) rfl T.g_l_draw T.f_l_draw.kp T.b_l_draw .nil zam (zaa (qv 0) (zaa zac zad)))) zac) (zaa (zah G_l_draw (hr.mono (by decide)) rfl T.g_l_draw T.f_l_draw.kp T.b_l_draw .nil zam (zaa (qv 0) (zaa (qv 1) zad))) zad)))))
      (zab (zb6 (PW.pt (zcD (zbJ q_gt (qv 3) zac) (zcE (zbJ zd5 (zah G_l_draw (hr.mono (by decide)) rfl T.g_l_draw T.f_l_draw.kp T.b_l_draw .nil zam (zaa (qv 0) (zaa (zau zbD zac (zau zcr zac (qv 3))) zad))) zac)))) (zag (zap (i:=8) nd rfl (by walk_at "o") (zav zad))) zat)
      (zag (zb7 (zjF PySem.F.plainAttrs_list PySem.F.slot_list_append PySem.F.type_list_append zjS (qv 6) (zaa (qv 8) zad)))))))
    (zag (zb7 (zjF PySem.F.plainAttrs_list PySem.F.slot_list_append PySem.F.type_list_append zjS (qv 4) (zaa (qv 6) zad)))))))
  (zab (zb6 (zbJ zd5 (qv 3) zac) (zag (zbp (zav zad) (zc8 (zax (za2 (K:=K) rfl) (qv 4) (zah G_l_draw (hr.mono (by decide)) rfl T.g_l_draw T.f_l_draw.kp T.b_l_draw .nil zam (zaa (qv 0) (zaa (qv 1) zad))) (fun _ _=>rfl)) (zah G_l_draw (hr.mono (by decide)) rfl T.g_l_draw T.f_l_draw.kp T.b_l_draw .nil zam (zaa (qv 0) (zaa (qv 2) zad))) zc9))) zat)
  (zag (zan (qv 4))))))))),?_⟩
   walk_at "w";refine⟨by decide,_,_,e0,fun d1 n1 d10 d11=>?_⟩;have P1:=P0.draw n1;have Q1:=Pu.of_draw n1 e0;generalize hg1:upd _ pp _=H1 at P1 Q1 ⊢;have e1:H1 pp=some (.lst [.int n1,.int k]):=by rw [← hg1];exact zaf
   clear hg1;walk_at "w";refine⟨by decide,_,_,e1,fun d2 n2 d20 d21=>?_⟩;have P2:=P1.draw n2;have Q2:=Pu.of_draw n2 e1;generalize hg2:upd _ pp _=H2 at P2 Q2 ⊢;have e2:H2 pp=some (.lst [.int n2,.int k]):=by rw [← hg2];exact zaf
   clear hg2;walk_at "w";refine⟨by decide,_,_,e2,fun d3 n3 d30 d31=>?_⟩;have P3:=P2.draw n3;have Q3:=Pu.of_draw n3 e2;generalize hg3:upd _ pp _=H3 at P3 Q3 ⊢;have e3:H3 pp=some (.lst [.int n3,.int k]):=by rw [← hg3];exact zaf
   clear hg3;walk_at "w";refine⟨by decide,?_⟩;intro p4 n4;generalize U':upd _ p4 _=H4;obtain ⟨S4,e4⟩:=zaj n4 U';clear U';have P4:=P3.sub S4;have nf:H p4=none:=P3.free n4;refine⟨⟨by omega,by omega⟩,?_⟩;refine zbw (lo:=0) (n:=(1+d1).toNat) (fun i σ H5=>∃ (v5 v6 v7 v8:Option V) (rs:List Addr) (m:Ma),σ=[some (.ref pp),some (.int (1+d1)),some (.int (2+d2)),some (.int d3),some (.ref p4),v5,v6,v7,v8]/\Pu pp k H H5/\MaR H5 p4 rs m/\m.length=i/\(∀ r∈rs,H r=none)/\∀ r∈m,(r.length:Int)=2+d2/\∀ e∈r,zaz (1+d1) (2+d2) e=true) ?_ ?_ ?_
   ·exact⟨none,none,none,none,[],[],rfl,P4,⟨e4,by simp,.nil⟩,rfl,by simp,by simp⟩
   ·rintro i σ H5 hi ⟨v5,v6,v7,v8,rs,m,rfl,P5,hm,hml,hrs,hme⟩;refine⟨by decide,?_⟩;intro p6 n6;generalize U':upd _ p6 _=H6;obtain ⟨S6,e6⟩:=zaj n6 U';clear U';have P6:=P5.sub S6;have hm6:=hm.stay (.sub S6);have nr:H p6=none:=P5.free n6;have nrs:p6 ∉ rs:=fun z=>by
     obtain⟨j,hj,e⟩:=List.getElem_of_mem z;obtain⟨es,_,as,h1,_⟩:=hm.2.2.at (zoB.2 ⟨hj,e⟩);rw [n6] at h1;cases h1
    have npf:p6≠p4:=fun z=>by
     have:=hm.1
     rw [← z,n6] at this;cases this
    refine⟨⟨by omega,by omega⟩,?_⟩;refine zbw (lo:=0) (n:=(2+d2).toNat) (fun j σ H7=>∃ (v7 v8:Option V) (as:List Addr) (es:List En),σ=[some (.ref pp),some (.int (1+d1)),some (.int (2+d2)),some (.int d3),some (.ref p4),some (.int (0+i)),some (.ref p6),v7,v8]/\Pu pp k H H7/\MaR H7 p4 rs m/\zdm H7 p6 as es/\es.length=j/\∀ e∈es,zaz (1+d1) (2+d2) e=true) ?_ ?_ ?_
    ·exact⟨v7,v8,[],[],rfl,P6,hm6,⟨e6,.nil⟩,rfl,by simp⟩
    ·rintro j σ H7 hj ⟨v7,v8,as,es,rfl,P7,hm7,hr7,hel,hes⟩;obtain⟨n7,e7⟩:=P7.has;walk_at "w";refine⟨za3 (by omega) (by omega),_,_,e7,fun d8 n8 d80 d81=>?_⟩;have P8:=P7.draw n8;have Q8:=Pu.of_draw n8 e7;generalize hg8:upd _ pp _=H8 at P8 Q8 ⊢;have e8:H8 pp=some (.lst [.int n8,.int k]):=by rw [← hg8];exact zaf
     clear hg8;walk_at "w";refine⟨by decide,_,_,e8,fun d9 n9 d90 d91=>?_⟩;have P9:=P8.draw n9;have Q9:=Pu.of_draw n9 e8;generalize hg9:upd _ pp _=H9 at P9 Q9 ⊢;have e9:H9 pp=some (.lst [.int n9,.int k]):=by rw [← hg9];exact zaf
     clear hg9;walk_at "w";refine⟨.inl ⟨by omega,by omega⟩,fun m9 hm9 _=>?_⟩;have hm9:m9=2*d9:=hm9;walk_at "w";refine⟨za3 (by omega) (by omega),_,_,e9,fun d10 n10 d100 d101=>?_⟩;have P10:=P9.draw n10;have Q10:=Pu.of_draw n10 e9;generalize hg10:upd _ pp _=H10 at P10 Q10 ⊢;have e10:H10 pp=some (.lst [.int n10,.int k]):=by rw [← hg10];exact zaf
     clear hg10;walk_at "w";refine⟨by show 3<=sizeLine;decide,?_⟩;intro p11 n11;generalize U':upd _ p11 _=H11;obtain ⟨S11,e11⟩:=zaj n11 U';clear U';have P11:=P10.sub S11;have E11:Ent H11 p11 [d8,m9-1,d10]:=e11;have st11:zdn H7 H11:=⟨fun a xs z=>S11 _ _ (((Q8.trans Q9).trans Q10).stay.tup a xs z),fun a xs z=>S11 _ _ (((Q8.trans Q9).trans Q10).stay.refs a xs z)⟩;have hr11:=hr7.stay st11;have hm11:=hm7.stay st11;have ok11:zaz (1+d1) (2+d2) [d8,m9-1,d10]=true:=by
      show ((decide (0<=d8) && decide (d8<2+d2)) && (decide (m9-1=-1) || decide (m9-1=1)) && (decide (0<=d10) && decide (d10<1+d1)))=true
      have:m9-1=-1\/m9-1=1:=by omega
      simp [d80,d81,d100,d101,this]
     walk_at "w";refine ifB.dec (fun hk=>?_) (fun hk=>?_)
     ·walk_at "w";refine⟨.inl ⟨by omega,by omega⟩,fun m12 hm12 _=>?_⟩;have hm12:m12=2*d3:=hm12;obtain⟨n11,f11⟩:=P11.has;have e11:=f11;walk_at "w";refine⟨za3 (by omega) (by omega),_,_,e11,fun d13 n13 d130 d131=>?_⟩;have P13:=P11.draw n13;have Q13:=Pu.of_draw n13 e11;generalize hg13:upd _ pp _=H13 at P13 Q13 ⊢;have e13:H13 pp=some (.lst [.int n13,.int k]):=by rw [← hg13];exact zaf
      clear hg13;walk_at "w";have st13:zdn H11 H13:=(Q13:Pu pp k H11 H13).stay;have hr13:=hr11.stay st13;have hm13:=hm11.stay st13;have E13:=E11.stay st13;refine ifB.mk (fun hz=>?_) (fun hz=>?_)
      ·walk_at "w";refine⟨by show 0<=sizeLine;decide,?_⟩;intro p14 n14;generalize U':upd _ p14 _=H14;obtain ⟨S14,e14⟩:=zaj n14 U';clear U';have P14:=P13.sub S14;have hr14:=hr13.stay (.sub S14);have hm14:=hm13.stay (.sub S14);have E14:Ent H14 p14 []:=e14;refine⟨.inl ⟨rfl,_,SqL.of hr14.1⟩,?_⟩;refine⟨_,hr14.1,?_,_,_,as++[p14],es++[[]],rfl,P14.set nr,hm14.other hr14.1 npf nrs,hr14.app' E14,by simp [hel],?_⟩
       ·rw [zox,hr14.2.1,hel];exact Nat.lt_trans hj (zoL (show (2+d2).toNat<=4 by omega) (by decide))
       ·intro y hy;rcases zoI.1 hy with hy | hy
        ·exact hes y hy
        ·rw [zoG.1 hy]
         rfl
      ·skip
       refine⟨.inl ⟨rfl,_,SqL.of hr13.1⟩,?_⟩;refine⟨_,hr13.1,?_,_,_,as++[p11],es++[[d8,m9-1,d10]],rfl,P13.set nr,hm13.other hr13.1 npf nrs,hr13.app' E13,by simp [hel],?_⟩
       ·rw [zox,hr13.2.1,hel];exact Nat.lt_trans hj (zoL (show (2+d2).toNat<=4 by omega) (by decide))
       ·intro y hy;rcases zoI.1 hy with hy | hy
        ·exact hes y hy
        ·rw [zoG.1 hy];exact ok11
     ·walk_at "w";refine ifB.no rfl ?_;refine⟨.inl ⟨rfl,_,SqL.of hr11.1⟩,?_⟩;refine⟨_,hr11.1,?_,_,_,as++[p11],es++[[d8,m9-1,d10]],rfl,P11.set nr,hm11.other hr11.1 npf nrs,hr11.app' E11,by simp [hel],?_⟩
      ·rw [zox,hr11.2.1,hel];exact Nat.lt_trans hj (zoL (show (2+d2).toNat<=4 by omega) (by decide))
      ·intro y hy;rcases zoI.1 hy with hy | hy
       ·exact hes y hy
       ·rw [zoG.1 hy];exact ok11
    ·rintro σ H7 ⟨v7,v8,as,es,rfl,P7,hm7,hr7,hel,hes⟩;refine⟨.inl ⟨rfl,_,SqL.of hm7.1⟩,?_⟩;refine⟨_,hm7.1,?_,_,_,_,_,rs++[p6],m++[es],rfl,P7.set nf,hm7.app' ⟨as,hr7⟩ nrs npf,by simp [hml],?_,?_⟩
     ·rw [zox,hm7.2.2.1,hml];exact Nat.lt_trans hi (zoL (show (1+d1).toNat<=4 by omega) (by decide))
     ·intro r hr;rcases zoI.1 hr with hr | hr
      ·exact hrs r hr
      ·rw [zoG.1 hr];exact nr
     ·intro r hr;rcases zoI.1 hr with hr | hr
      ·exact hme r hr
      ·rw [zoG.1 hr];exact⟨by omega,hes⟩
   ·rintro σ H5 ⟨v5,v6,v7,v8,rs,m,rfl,P5,hm,hml,hrs,hme⟩;walk_at "w";refine ifB.mk (fun _=>?_) (fun _=>?_)
    ·walk_at "w";refine⟨by show 0<=sizeLine;decide,?_⟩;intro p6 n6;generalize U':upd _ p6 _=H6;obtain ⟨S6,e6⟩:=zaj n6 U';clear U';have P6:=P5.sub S6;obtain⟨n6',e6'⟩:=P6.has;have E6:Ent H6 p6 []:=e6;have e6:=e6';have hm6:=hm.stay (.sub S6);walk_at "w";refine⟨za3 (by omega) (by omega),_,_,e6,fun d7 n7 d70 d71=>?_⟩;have P7:=P6.draw n7;have Q7:=Pu.of_draw n7 e6;generalize hg7:upd _ pp _=H7 at P7 Q7 ⊢;have e7:H7 pp=some (.lst [.int n7,.int k]):=by rw [← hg7];exact zaf
     clear hg7;walk_at "w";have hm7:=hm6.stay (Q7:Pu pp k H6 H7).stay;have E7:=E6.stay Q7.stay;have hlt:d7.toNat<rs.length:=by rw [hm7.2.2.1,hml];omega
     have hrd:rs[d7.toNat]?=some rs[d7.toNat]:=zoz hlt;refine⟨_,_,SqL.of hm7.1,zbZ (v:=V.ref rs[d7.toNat]) d70 (by rw [zoy,hrd];rfl),?_⟩;walk_at "w";refine⟨za3 (by omega) (by omega),_,_,e7,fun d8 n8 d80 d81=>?_⟩;have P8:=P7.draw n8;have Q8:=Pu.of_draw n8 e7;generalize hg8:upd _ pp _=H8 at P8 Q8 ⊢;have e8:H8 pp=some (.lst [.int n8,.int k]):=by rw [← hg8];exact zaf
     clear hg8;walk_at "w";have hm8:=hm7.stay (Q8:Pu pp k H7 H8).stay;have E8:=E7.stay Q8.stay;obtain⟨es,hes,as,hra⟩:=hm8.2.2.at hrd;have hel:=(hme es (zoC hes)).1;refine⟨_,d8.toNat,hra.1,?_,?_⟩
     ·exact zbL d80 (by rw [zox,hra.2.1];omega)
     ·refine h p4 (m.set d7.toNat (es.set d8.toNat [])) _ (P8.set (hrs _ (zoC hrd))) nf ⟨rs,hm8.rowSet hrd hra E8⟩ ?_;refine zdE (rows:=1+d1) (signs:=2+d2) (by rw [zoV];omega) (by omega) (by omega) (by omega) (by omega) fun r hr=>?_
      rcases List.mem_or_eq_of_mem_set hr with hr | rfl
      ·exact hme r hr
      ·refine⟨by rw [zoV];exact hel,fun e he=>?_⟩;rcases List.mem_or_eq_of_mem_set he with he | rfl
       ·exact (hme es (zoC hes)).2 e he
       ·rfl
    ·exact h p4 m H5 P5 nf ⟨rs,hm⟩ (zdE (rows:=1+d1) (signs:=2+d2) (by omega) (by omega) (by omega) (by omega) (by omega) hme)
  ·exact h.elim
theorem zgW:zar ["_law_purse_here","_law_signs","_law_way","_law_long","_law_rows","_law_found","_law_k","_law_row"] ["_law_purse_here"] (zae zc0):=by walk_at "s"
def ziO:Sp:=fun vs H Q _=>match vs with
 | [.ref pp]=>∃ n k:Int,H pp=some (.lst [.int n,.int k])/\∀ (q:Addr) (m:Ma) (H':Hp),Pu pp k H H'->H q=none->zdl H' q m->isM m=true->Q (.ref q) H'
 | _=>False
theorem ok3 {rows signs s w r:Int} (h0:0<=s) (h1:s<signs) (h2:w=-1\/w=1) (h3:0<=r) (h4:r<rows):zaz rows signs [s,w,r]=true:=by
 show ((decide (0<=s) && decide (s<signs)) && (decide (w=-1) || decide (w=1)) && (decide (0<=r) && decide (r<rows)))=true;simp [h0,h1,h2,h3,h4]
theorem zjU {H:Hp} {r a:Addr} {as:List Addr} {es:List En} {e:En} {j:Nat} (h:zdm H r as es) (he:Ent H a e):zdm (upd H r (.lst ((as.map V.ref).set j (V.ref a)))) r (as.set j a) (es.set j e):=by
 rw [zdK];exact⟨zaf,(h.2.mono fun _ _ _ z=>z.upd h.1).set (he.upd h.1)⟩
theorem zjD (T:Tx K mg a):zbr P w K mg base CX0 2 a.l_led a.l_led_d ["_law_purse_here"] (ziO):=by
 have G_l_draw:=zb4 (P:=P) (w:=w) (base:=base) T;refine T.f_l_led.ok zgW (fun vs H Q E h=>?_) (fun cdv A outer s H vs Q E hr h=>?_)
 ·unfold ziO at h;split at h
  ·rfl
  ·exact h.elim
 ·unfold ziO at h;split at h
  ·have nd:=zgW.nd;have hu:=zaY hr;rename_i pp;obtain⟨n,k,hp,h⟩:=h;have P0:Pu pp k H H:=Pu.refl ⟨n,hp⟩;have e0:=hp;refine⟨_,(zab (zap (i:=1) nd rfl (by walk_at "o") (zau zbD zac (zah G_l_draw (hr.mono (by decide)) rfl T.g_l_draw T.f_l_draw.kp T.b_l_draw .nil zam (zaa (qv 0) (zaa zac zad)))))
  (zab (zap (i:=2) nd rfl (by walk_at "o") (zau zcW (zau zcr zac (zah G_l_draw (hr.mono (by decide)) rfl T.g_l_draw T.f_l_draw.kp T.b_l_draw .nil zam (zaa (qv 0) (zaa zac zad)))) zac))
  (zab (zap (i:=3) nd rfl (by walk_at "o") (zau zbD zac (zah G_l_draw (hr.mono (by decide)) rfl T.g_l_draw T.f_l_draw.kp T.b_l_draw .nil zam (zaa (qv 0) (zaa zac zad)))))
  (zab (zap (i:=4) nd rfl (by walk_at "o") zac)
  (zab (zap (i:=5) nd rfl (by walk_at "o") (zbA zad))
  (zab (zcu PassesOwn.never rfl (zbM rfl T.z_range (zaa (qv 4) zad)) (zai (i:=6) nd rfl (by walk_at "o")) (zab (ziz (j:=7) rfl nd rfl (by walk_at "o") (own:=["_law_j"]) (fr:=[0,1,4]) (by walk_at "comp_ok") (zbM rfl T.z_range (zaa (qv 1) zad)) (fun _ _ _ _=>(zai (i:=0) (show List.Nodup (α:=Str) ["_law_j","_law_purse_here","_law_signs","_law_rows"] from by decide +kernel) rfl (by walk_at "o"))) (fun _ _ _ _=>zcV) (fun _ _ _ _=>(zav (zaa (zah G_l_draw (hr.mono (by decide)) rfl T.g_l_draw T.f_l_draw.kp T.b_l_draw .nil zam (zaa (qv 1) (zaa (qv 2) zad))) (zaa (zau zcW (zau zcr zac (zah G_l_draw (hr.mono (by decide)) rfl T.g_l_draw T.f_l_draw.kp T.b_l_draw .nil zam (zaa (qv 1) (zaa zac zad)))) zac) (zaa (zah G_l_draw (hr.mono (by decide)) rfl T.g_l_draw T.f_l_draw.kp T.b_l_draw .nil zam (zaa (qv 1) (zaa (qv 3) zad))) zad))))))
    (zab (zbp (zav (zaa (zah G_l_draw (hr.mono (by decide)) rfl T.g_l_draw T.f_l_draw.kp T.b_l_draw .nil zam (zaa (qv 0) (zaa (qv 1) zad))) (zaa (qv 2) (zaa (zau zhr (zau zbD (qv 6) zac) (zau zbD (qv 3) zac)) zad)))) (zc8 (qv 7) zac zc9))
    (zag (zb7 (zjF PySem.F.plainAttrs_list PySem.F.slot_list_append PySem.F.type_list_append zjS (qv 5) (zaa (qv 7) zad)))))))
  (zab (zb6 (zbJ zd5 (zah G_l_draw (hr.mono (by decide)) rfl T.g_l_draw T.f_l_draw.kp T.b_l_draw .nil zam (zaa (qv 0) (zaa zac zad))) zac) (zab (zbp (zav (zaa (zau zbD zac (zah G_l_draw (hr.mono (by decide)) rfl T.g_l_draw T.f_l_draw.kp T.b_l_draw .nil zam (zaa (qv 0) (zaa (zau zcW (qv 1) zac) zad)))) (zaa (qv 2) (zaa zac zad)))) (zc8 (zax (za2 (K:=K) rfl) (qv 5) zac (fun _ _=>rfl)) zac zc9))
    (zag (zbp (zav (zaa (zah G_l_draw (hr.mono (by decide)) rfl T.g_l_draw T.f_l_draw.kp T.b_l_draw .nil zam (zaa (qv 0) (zaa (qv 1) zad))) (zaa (zau zcW zac (qv 2)) (zaa (zah G_l_draw (hr.mono (by decide)) rfl T.g_l_draw T.f_l_draw.kp T.b_l_draw .nil zam (zaa (qv 0) (zaa zac zad))) zad)))) (zc8 (zax (za2 (K:=K) rfl) (qv 5) zac (fun _ _=>rfl)) zac zc9)))) zat)
  (zag (zan (qv 5)))))))))),?_⟩
   walk_at "w";refine⟨by decide,_,_,e0,fun d1 n1 d10 d11=>?_⟩;have P1:=P0.draw n1;have Q1:=Pu.of_draw n1 e0;generalize hg1:upd _ pp _=H1 at P1 Q1 ⊢;have e1:H1 pp=some (.lst [.int n1,.int k]):=by rw [← hg1];exact zaf
   clear hg1;walk_at "w";refine⟨by decide,_,_,e1,fun d2 n2 d20 d21=>?_⟩;have P2:=P1.draw n2;have Q2:=Pu.of_draw n2 e1;generalize hg2:upd _ pp _=H2 at P2 Q2 ⊢;have e2:H2 pp=some (.lst [.int n2,.int k]):=by rw [← hg2];exact zaf
   clear hg2;walk_at "w";refine⟨.inl ⟨by omega,by omega⟩,fun m2 hm2 _=>?_⟩;have hm2:m2=2*d2:=hm2;walk_at "w";refine⟨by decide,_,_,e2,fun d3 n3 d30 d31=>?_⟩;have P3:=P2.draw n3;have Q3:=Pu.of_draw n3 e2;generalize hg3:upd _ pp _=H3 at P3 Q3 ⊢;have e3:H3 pp=some (.lst [.int n3,.int k]):=by rw [← hg3];exact zaf
   clear hg3;walk_at "w";refine⟨by decide,?_⟩;intro p4 n4;generalize U':upd _ p4 _=H4;obtain ⟨S4,e4⟩:=zaj n4 U';clear U';have P4:=P3.sub S4;have nf:H p4=none:=P3.free n4;refine⟨⟨by decide,by decide⟩,?_⟩;refine zbw (lo:=0) (n:=4) (fun i σ H5=>∃ (v6 v7:Option V) (rs:List Addr) (m:Ma),σ=[some (.ref pp),some (.int (2+d1)),some (.int (m2-1)),some (.int (1+d3)),some (.int 4),some (.ref p4),v6,v7]/\Pu pp k H H5/\MaR H5 p4 rs m/\m.length=i/\(∀ r∈rs,H r=none)/\∀ r∈m,(r.length:Int)=2+d1/\∀ e∈r,zaz 4 (2+d1) e=true) ?_ ?_ ?_
   ·exact⟨none,none,[],[],rfl,P4,⟨e4,by simp,.nil⟩,rfl,by simp,by simp⟩
   ·rintro i σ H5 hi ⟨v6,v7,rs,m,rfl,P5,hm,hml,hrs,hme⟩;refine⟨⟨by omega,by omega⟩,?_⟩;intro pr npr;have nr:H pr=none:=P5.free npr;have S6:Sub H5 (upd H5 pr (.lst [])):=Sub.new npr;have nrs:=hm.out npr;have npf:=hm.outp npr;refine zg7 (lo:=0) (n:=(2+d1).toNat) (fun j σ H7=>∃ (v:Option V) (as:List Addr) (es:List En),σ=[v,some (.ref pp),some (.int (2+d1)),some (.int 4)]/\Pu pp k H H7/\MaR H7 p4 rs m/\zdm H7 pr as es/\es.length=j/\∀ e∈es,zaz 4 (2+d1) e=true) ?_ ?_ ?_
    ·exact⟨none,[],[],rfl,P5.sub S6,hm.stay (.sub S6),⟨zaf,.nil⟩,rfl,by simp⟩
    ·rintro j σ H7 hj ⟨v,as,es,rfl,P7,hm7,hr7,hel,hes⟩;obtain⟨n7,e7⟩:=P7.has;walk_at "w";refine⟨za3 (by omega) (by omega),_,_,e7,fun d8 n8 d80 d81=>?_⟩;have P8:=P7.draw n8;have Q8:=Pu.of_draw n8 e7;generalize hg8:upd _ pp _=H8 at P8 Q8 ⊢;have e8:H8 pp=some (.lst [.int n8,.int k]):=by rw [← hg8];exact zaf
     clear hg8;walk_at "w";refine⟨by decide,_,_,e8,fun d9 n9 d90 d91=>?_⟩;have P9:=P8.draw n9;have Q9:=Pu.of_draw n9 e8;generalize hg9:upd _ pp _=H9 at P9 Q9 ⊢;have e9:H9 pp=some (.lst [.int n9,.int k]):=by rw [← hg9];exact zaf
     clear hg9;walk_at "w";refine⟨.inl ⟨by omega,by omega⟩,fun m9 hm9 _=>?_⟩;have hm9:m9=2*d9:=hm9;walk_at "w";refine⟨za3 (by omega) (by omega),_,_,e9,fun d10 n10 d100 d101=>?_⟩;have P10:=P9.draw n10;have Q10:=Pu.of_draw n10 e9;generalize hg10:upd _ pp _=H10 at P10 Q10 ⊢;have e10:H10 pp=some (.lst [.int n10,.int k]):=by rw [← hg10];exact zaf
     clear hg10;walk_at "w";refine⟨by show 3<=sizeLine;decide,?_⟩;intro p11 n11;generalize U':upd _ p11 _=H11;obtain ⟨S11,e11⟩:=zaj n11 U';clear U';have P11:=P10.sub S11;have E11:Ent H11 p11 [d8,m9-1,d10]:=e11;have st11:zdn H7 H11:=⟨fun a xs z=>S11 _ _ (((Q8.trans Q9).trans Q10).stay.tup a xs z),fun a xs z=>S11 _ _ (((Q8.trans Q9).trans Q10).stay.refs a xs z)⟩;have hr11:=hr7.stay st11;have hm11:=hm7.stay st11;have ok11:zaz 4 (2+d1) [d8,m9-1,d10]=true:=ok3 d80 d81 (by omega) d100 d101;refine⟨_,hr11.1,?_,_,as++[p11],es++[[d8,m9-1,d10]],rfl,P11.set nr,hm11.other hr11.1 npf nrs,hr11.app' E11,by simp [hel],?_⟩
     ·rw [zox,hr11.2.1,hel];exact Nat.lt_trans hj (zoL (show (2+d1).toNat<=4 by omega) (by decide))
     ·intro y hy;rcases zoI.1 hy with hy | hy
      ·exact hes y hy
      ·rw [zoG.1 hy];exact ok11
    ·rintro σ H7 ⟨v,as,es,rfl,P7,hm7,hr7,hel,hes⟩;obtain⟨n7,e7⟩:=P7.has;walk_at "w";refine⟨za3 (by omega) (by omega),_,_,e7,fun d8 n8 d80 d81=>?_⟩;have P8:=P7.draw n8;have Q8:=Pu.of_draw n8 e7;generalize hg8:upd _ pp _=H8 at P8 Q8 ⊢;have e8:H8 pp=some (.lst [.int n8,.int k]):=by rw [← hg8];exact zaf
     clear hg8;walk_at "w";have hm8:=hm7.stay Q8.stay;have hr8:=hr7.stay Q8.stay;refine⟨by omega,fun dm _ ⟨dm0,dm1⟩=>?_⟩;refine⟨by show 3<=sizeLine;decide,?_⟩;intro p9 n9;generalize U':upd _ p9 _=H9;obtain ⟨S9,e9⟩:=zaj n9 U';clear U';have E9:Ent H9 p9 [d8,m2-1,dm]:=e9;have P9:=P8.sub S9;have hm9:=hm8.stay (.sub S9);have hr9:=hr8.stay (.sub S9);refine⟨_,0,hr9.1,?_,?_⟩
     ·exact zbL (i:=0) (by decide) (by rw [zox,hr9.2.1,hel];omega)
     have hr10:=zjU (j:=0) hr9 E9;have hm10:MaR (upd H9 pr (.lst ((as.map V.ref).set 0 (V.ref p9)))) p4 rs m:=hm9.other hr9.1 npf nrs;have P10:Pu pp k H (upd H9 pr (.lst ((as.map V.ref).set 0 (V.ref p9)))):=P9.set nr;generalize upd H9 pr (.lst ((as.map V.ref).set 0 (V.ref p9)))=H10 at hr10 hm10 P10 ⊢;refine⟨.inl ⟨rfl,_,SqL.of hm10.1⟩,?_⟩;refine⟨_,hm10.1,?_,_,_,rs++[pr],m++[es.set 0 [d8,m2-1,dm]],rfl,P10.set nf,hm10.app' ⟨_,hr10⟩ nrs npf,by simp [hml],?_,?_⟩
     ·rw [zox,hm10.2.2.1,hml];exact Nat.lt_trans hi (by decide)
     ·intro r hr;rcases zoI.1 hr with hr | hr
      ·exact hrs r hr
      ·rw [zoG.1 hr];exact nr
     ·intro r hr;rcases zoI.1 hr with hr | hr
      ·exact hme r hr
      ·rw [zoG.1 hr];refine⟨by rw [zoV];omega,fun e he=>?_⟩;rcases List.mem_or_eq_of_mem_set he with he | rfl
       ·exact hes e he
       ·exact ok3 d80 d81 (by omega) dm0 (by have:=dm1;omega)
   ·rintro σ H5 ⟨v6,v7,rs,m,rfl,P5,hm,hml,hrs,hme⟩;obtain⟨n5,e5⟩:=P5.has;walk_at "w";refine⟨by decide,_,_,e5,fun d6 n6 d60 d61=>?_⟩;have P6:=P5.draw n6;have Q6:=Pu.of_draw n6 e5;generalize hg6:upd _ pp _=H6 at P6 Q6 ⊢;have e6:H6 pp=some (.lst [.int n6,.int k]):=by rw [← hg6];exact zaf
    clear hg6;walk_at "w";have hm6:=hm.stay Q6.stay;refine ifB.mk (fun _=>?_) (fun _=>?_)
    ·walk_at "w";refine⟨za3 (by omega) (by omega),_,_,e6,fun d7 n7 d70 d71=>?_⟩;have P7:=P6.draw n7;have Q7:=Pu.of_draw n7 e6;generalize hg7:upd _ pp _=H7 at P7 Q7 ⊢;have e7:H7 pp=some (.lst [.int n7,.int k]):=by rw [← hg7];exact zaf
     clear hg7;walk_at "w";have hm7:=hm6.stay Q7.stay;refine⟨by show 3<=sizeLine;decide,?_⟩;intro p8 n8;generalize U':upd _ p8 _=H8;obtain ⟨S8,e8⟩:=zaj n8 U';clear U';have E8:Ent H8 p8 [1+d7,m2-1,1]:=e8;have P8:=P7.sub S8;have hm8:=hm7.stay (.sub S8);walk_at "w";have hl0:0<rs.length:=by rw [hm8.2.2.1,hml];decide
     have hrd:rs[0]?=some rs[0]:=zoz hl0;refine⟨_,_,SqL.of hm8.1,zaC (j:=0) (v:=V.ref rs[0]) (by rw [zoy,hrd];rfl),?_⟩;obtain⟨es,hes,as,hra⟩:=hm8.2.2.at hrd;have hel:=(hme es (zoC hes)).1;refine⟨_,0,hra.1,?_,?_⟩
     ·exact zbL (i:=0) (by decide) (by rw [zox,hra.2.1];omega)
     have hm9:MaR (upd H8 rs[0] (.lst ((as.map V.ref).set 0 (V.ref p8)))) p4 rs (m.set 0 (es.set 0 [1+d7,m2-1,1])):=hm8.rowSet hrd hra E8;have P9:Pu pp k H (upd H8 rs[0] (.lst ((as.map V.ref).set 0 (V.ref p8)))):=P8.set (hrs _ (zoC hrd));generalize upd H8 rs[0] (.lst ((as.map V.ref).set 0 (V.ref p8)))=H9 at hm9 P9 ⊢;have hme9:∀ r∈m.set 0 (es.set 0 [1+d7,m2-1,1]),(r.length:Int)=2+d1/\∀ e∈r,zaz 4 (2+d1) e=true:=by
      intro r hr;rcases List.mem_or_eq_of_mem_set hr with hr | rfl
      ·exact hme r hr
      ·refine⟨by rw [zoV];exact hel,fun e he=>?_⟩;rcases List.mem_or_eq_of_mem_set he with he | rfl
       ·exact (hme es (zoC hes)).2 e he
       ·exact ok3 (by omega) (by omega) (by omega) (by decide) (by decide)
     have hml9:(m.set 0 (es.set 0 [1+d7,m2-1,1])).length=4:=by rw [zoV];exact hml
     generalize m.set 0 (es.set 0 [1+d7,m2-1,1])=m9 at hm9 hme9 hml9;clear hel hra hes hrd es as;obtain⟨n9,e9⟩:=P9.has;walk_at "w";refine⟨za3 (by omega) (by omega),_,_,e9,fun d10 n10 d100 d101=>?_⟩;have P10:=P9.draw n10;have Q10:=Pu.of_draw n10 e9;generalize hg10:upd _ pp _=H10 at P10 Q10 ⊢;have e10:H10 pp=some (.lst [.int n10,.int k]):=by rw [← hg10];exact zaf
     clear hg10;walk_at "w";refine⟨by decide,_,_,e10,fun d11 n11 d110 d111=>?_⟩;have P11:=P10.draw n11;have Q11:=Pu.of_draw n11 e10;generalize hg11:upd _ pp _=H11 at P11 Q11 ⊢;have e11:H11 pp=some (.lst [.int n11,.int k]):=by rw [← hg11];exact zaf
     clear hg11;walk_at "w";have hm11:=hm9.stay (Q10.trans Q11).stay;refine⟨by show 3<=sizeLine;decide,?_⟩;intro p12 n12;generalize U':upd _ p12 _=H12;obtain ⟨S12,e12⟩:=zaj n12 U';clear U';have E12:Ent H12 p12 [d10,0-(m2-1),d11]:=e12;have P12:=P11.sub S12;have hm12:=hm11.stay (.sub S12);walk_at "w";have hl1:1<rs.length:=by rw [hm12.2.2.1,hml9];decide
     have hrd:rs[1]?=some rs[1]:=zoz hl1;refine⟨_,_,SqL.of hm12.1,zaC (j:=1) (v:=V.ref rs[1]) (by rw [zoy,hrd];rfl),?_⟩;obtain⟨es,hes,as,hra⟩:=hm12.2.2.at hrd;have hel:=(hme9 es (zoC hes)).1;refine⟨_,0,hra.1,?_,?_⟩
     ·exact zbL (i:=0) (by decide) (by rw [zox,hra.2.1];omega)
     refine h p4 (m9.set 1 (es.set 0 [d10,0-(m2-1),d11])) _ (P12.set (hrs _ (zoC hrd))) nf ⟨rs,hm12.rowSet hrd hra E12⟩ ?_;refine zdE (rows:=4) (signs:=2+d1) (by rw [zoV];omega) (by decide) (by decide) (by omega) (by omega) fun r hr=>?_
     rcases List.mem_or_eq_of_mem_set hr with hr | rfl
     ·exact hme9 r hr
     ·refine⟨by rw [zoV];exact hel,fun e he=>?_⟩;rcases List.mem_or_eq_of_mem_set he with he | rfl
      ·exact (hme9 es (zoC hes)).2 e he
      ·exact ok3 d100 d101 (by omega) d110 (by omega)
    ·exact h p4 m H6 P6 nf ⟨rs,hm6⟩ (zdE (rows:=4) (signs:=2+d1) (by omega) (by decide) (by decide) (by omega) (by omega) hme)
  ·exact h.elim
theorem zfH:zar ["_law_purse_here","_law_found","_law_kind"] ["_law_purse_here"] (zae zcn):=by walk_at "s"
def zge:Sp:=fun vs H Q _=>match vs with
 | [.ref pp]=>∃ n k:Int,H pp=some (.lst [.int n,.int k])/\∀ (q:Addr) (m:Ma) (H':Hp),Pu pp k H H'->H q=none->zdl H' q m->isM m=true->Q (.ref q) H'
 | _=>False
def zjs:Ma:=[[[1,1,1],[1,-1,1]],[[1,-1,0],[0,-1,2]],[[],[1,-1,3]],[[1,1,3],[0,1,0]]]
theorem zcj:∀ r∈zjs,r.length=2/\∀ e∈r,zaz 4 2 e=true:=by decide
theorem zhc {rows signs signs':Int} {e:En} (h:zaz rows signs e=true) (hs:signs<=signs'):zaz rows signs' e=true:=by
 by_cases z:e=[]
 ·subst z;rfl
 ·obtain⟨s,w,r,rfl,a0,a1,a2,a3,a4⟩:=zaH h z;exact ok3 a0 (by omega) a2 a3 a4
theorem zil (T:Tx K mg a):zbr P w K mg base CX0 2 a.l_late a.l_late_d ["_law_purse_here"] (zge):=by
 have G_l_draw:=zb4 (P:=P) (w:=w) (base:=base) T;refine T.f_l_late.ok zfH (fun vs H Q E h=>?_) (fun cdv A outer s H vs Q E hr h=>?_)
 ·unfold zge at h;split at h
  ·rfl
  ·exact h.elim
 ·unfold zge at h;split at h
  ·have nd:=zfH.nd;have hu:=zaY hr;rename_i pp;obtain⟨n,k,hp,h⟩:=h;have P0:Pu pp k H H:=Pu.refl ⟨n,hp⟩;refine⟨_,(zab (zap (i:=1) nd rfl (by walk_at "o") (@zbA _ _ _ _ (@zaa _ _ _ _ _ (@zbA _ _ _ _ (@zaa _ _ _ _ _ (@zav _ _ _ _ _ (@zaa _ _ _ _ _ zac (@zaa _ _ _ _ _ zac (@zaa _ _ _ _ _ zac zad (by rfl)) (by rfl)) (by rfl))) (@zaa _ _ _ _ _ (@zav _ _ _ _ _ (@zaa _ _ _ _ _ zac (@zaa _ _ _ _ _ (zit ziF zac) (@zaa _ _ _ _ _ zac zad (by rfl)) (by rfl)) (by rfl))) zad (by rfl)) (by rfl))) (@zaa _ _ _ _ _ (@zbA _ _ _ _ (@zaa _ _ _ _ _ (@zav _ _ _ _ _ (@zaa _ _ _ _ _ zac (@zaa _ _ _ _ _ (zit ziF zac) (@zaa _ _ _ _ _ zac zad (by rfl)) (by rfl)) (by rfl))) (@zaa _ _ _ _ _ (@zav _ _ _ _ _ (@zaa _ _ _ _ _ zac (@zaa _ _ _ _ _ (zit ziF zac) (@zaa _ _ _ _ _ zac zad (by rfl)) (by rfl)) (by rfl))) zad (by rfl)) (by rfl))) (@zaa _ _ _ _ _ (@zbA _ _ _ _ (@zaa _ _ _ _ _ (@zav _ _ _ _ _ zad) (@zaa _ _ _ _ _ (@zav _ _ _ _ _ (@zaa _ _ _ _ _ zac (@zaa _ _ _ _ _ (zit ziF zac) (@zaa _ _ _ _ _ zac zad (by rfl)) (by rfl)) (by rfl))) zad (by rfl)) (by rfl))) (@zaa _ _ _ _ _ (@zbA _ _ _ _ (@zaa _ _ _ _ _ (@zav _ _ _ _ _ (@zaa _ _ _ _ _ zac (@zaa _ _ _ _ _ zac (@zaa _ _ _ _ _ zac zad (by rfl)) (by rfl)) (by rfl))) (@zaa _ _ _ _ _ (@zav _ _ _ _ _ (@zaa _ _ _ _ _ zac (@zaa _ _ _ _ _ zac (@zaa _ _ _ _ _ zac zad (by rfl)) (by rfl)) (by rfl))) zad (by rfl)) (by rfl))) zad (by rfl)) (by rfl)) (by rfl)) (by rfl))))
  (zab (zap (i:=2) nd rfl (by walk_at "o") (zah G_l_draw (hr.mono (by decide)) rfl T.g_l_draw T.f_l_draw.kp T.b_l_draw .nil zam (zaa (qv 0) (zaa zac zad))))
  (zab (zb6 (zbJ zd5 (qv 2) zac) (zag (zan (qv 1))) zat)
  (zab (zb6 (zbJ zna (qv 2) zac) (zab (ziz (j:=1) rfl nd rfl (by walk_at "o") (own:=["_law_row"]) (fr:=[0]) (by walk_at "comp_ok") (zbn (K:=K) rfl (qv 1)) (fun _ _ _ _=>(zai (i:=0) (show List.Nodup (α:=Str) ["_law_row","_law_purse_here"] from by decide +kernel) rfl (by walk_at "o"))) (fun _ _ _ _=>zcV) (fun _ _ _ _=>(zau zm7 (qv 0) (zbA (zaa (zav (zaa (zah G_l_draw (hr.mono (by decide)) rfl T.g_l_draw T.f_l_draw.kp T.b_l_draw .nil zam (zaa (qv 1) (zaa zac zad))) (zaa (zau zcW (zau zcr zac (zah G_l_draw (hr.mono (by decide)) rfl T.g_l_draw T.f_l_draw.kp T.b_l_draw .nil zam (zaa (qv 1) (zaa zac zad)))) zac) (zaa (zah G_l_draw (hr.mono (by decide)) rfl T.g_l_draw T.f_l_draw.kp T.b_l_draw .nil zam (zaa (qv 1) (zaa zac zad))) zad)))) zad)))))
    (zab (zbp (zav (zaa zac (zaa (zau zcW (zau zcr zac (zah G_l_draw (hr.mono (by decide)) rfl T.g_l_draw T.f_l_draw.kp T.b_l_draw .nil zam (zaa (qv 0) (zaa zac zad)))) zac) (zaa zac zad)))) (zc8 (zax (za2 (K:=K) rfl) (qv 1) zac (fun _ _=>rfl)) zac zc9))
    (zag (zan (qv 1))))) zat)
  (zab (zbp (zav (zaa (zah G_l_draw (hr.mono (by decide)) rfl T.g_l_draw T.f_l_draw.kp T.b_l_draw .nil zam (zaa (qv 0) (zaa zac zad))) (zaa (zau zcW (zau zcr zac (zah G_l_draw (hr.mono (by decide)) rfl T.g_l_draw T.f_l_draw.kp T.b_l_draw .nil zam (zaa (qv 0) (zaa zac zad)))) zac) (zaa (zah G_l_draw (hr.mono (by decide)) rfl T.g_l_draw T.f_l_draw.kp T.b_l_draw .nil zam (zaa (qv 0) (zaa zac zad))) zad)))) (zc8 (zax (za2 (K:=K) rfl) (qv 1) zac (fun _ _=>rfl)) zac zc9))
  (zag (zan (qv 1)))))))),?_⟩
   refine⟨by show 3<=sizeLine;decide,?_⟩;intro p1 n1;generalize U':upd _ p1 _=H1;obtain ⟨S1,e1⟩:=zaj n1 U';clear U';refine⟨by show 3<=sizeLine;decide,?_⟩;intro p2 n2;generalize U':upd _ p2 _=H2;obtain ⟨S2,e2⟩:=zaj n2 U';clear U';refine⟨by show 2<=sizeLine;decide,?_⟩;intro p3 n3;generalize U':upd _ p3 _=H3;obtain ⟨S3,e3⟩:=zaj n3 U';clear U';refine⟨by show 3<=sizeLine;decide,?_⟩;intro p4 n4;generalize U':upd _ p4 _=H4;obtain ⟨S4,e4⟩:=zaj n4 U';clear U';refine⟨by show 3<=sizeLine;decide,?_⟩;intro p5 n5;generalize U':upd _ p5 _=H5;obtain ⟨S5,e5⟩:=zaj n5 U';clear U';refine⟨by show 2<=sizeLine;decide,?_⟩;intro p6 n6;generalize U':upd _ p6 _=H6;obtain ⟨S6,e6⟩:=zaj n6 U';clear U';refine⟨by show 0<=sizeLine;decide,?_⟩;intro p7 n7;generalize U':upd _ p7 _=H7;obtain ⟨S7,e7⟩:=zaj n7 U';clear U';refine⟨by show 3<=sizeLine;decide,?_⟩;intro p8 n8;generalize U':upd _ p8 _=H8;obtain ⟨S8,e8⟩:=zaj n8 U';clear U';refine⟨by show 2<=sizeLine;decide,?_⟩;intro p9 n9;generalize U':upd _ p9 _=H9;obtain ⟨S9,e9⟩:=zaj n9 U';clear U';refine⟨by show 3<=sizeLine;decide,?_⟩;intro p10 n10;generalize U':upd _ p10 _=H10;obtain ⟨S10,e10⟩:=zaj n10 U';clear U';refine⟨by show 3<=sizeLine;decide,?_⟩;intro p11 n11;generalize U':upd _ p11 _=H11;obtain ⟨S11,e11⟩:=zaj n11 U';clear U';refine⟨by show 2<=sizeLine;decide,?_⟩;intro p12 n12;generalize U':upd _ p12 _=H12;obtain ⟨S12,e12⟩:=zaj n12 U';clear U';refine⟨by show 4<=sizeLine;decide,?_⟩;intro p13 n13;generalize U':upd _ p13 _=H13;obtain ⟨S13,e13⟩:=zaj n13 U';clear U';have U12:=S13;have U11:=S12.trans U12;have U10:=S11.trans U11;have U9:=S10.trans U10;have U8:=S9.trans U9;have U7:=S8.trans U8;have U6:=S7.trans U7;have U5:=S6.trans U6;have U4:=S5.trans U5;have U3:=S4.trans U4;have U2:=S3.trans U3;have U1:=S2.trans U2;have U0:=S1.trans U1;have F0:∀ q,H q=none->True:=fun _ _=>trivial
   have V1:=S1;have V2:=V1.trans S2;have V3:=V2.trans S3;have V4:=V3.trans S4;have V5:=V4.trans S5;have V6:=V5.trans S6;have V7:=V6.trans S7;have V8:=V7.trans S8;have V9:=V8.trans S9;have V10:=V9.trans S10;have V11:=V10.trans S11;have V12:=V11.trans S12;have g3:H p3=none:=V2.free n3;have g6:H p6=none:=V5.free n6;have g9:H p9=none:=V8.free n9;have g12:H p12=none:=V11.free n12;have g13:H p13=none:=V12.free n13;have E1:Ent H13 p1 [1,1,1]:=U1 _ _ e1;have E2:Ent H13 p2 [1,-1,1]:=U2 _ _ e2;have E4:Ent H13 p4 [1,-1,0]:=U4 _ _ e4;have E5:Ent H13 p5 [0,-1,2]:=U5 _ _ e5;have E7:Ent H13 p7 []:=U7 _ _ e7;have E8:Ent H13 p8 [1,-1,3]:=U8 _ _ e8;have E10:Ent H13 p10 [1,1,3]:=U10 _ _ e10;have E11:Ent H13 p11 [0,1,0]:=U11 _ _ e11;have R3:Row H13 p3 [[1,1,1],[1,-1,1]]:=⟨[p1,p2],U3 _ _ e3,(zbq.app (zbq.app .nil E1) E2)⟩;have R6:Row H13 p6 [[1,-1,0],[0,-1,2]]:=⟨[p4,p5],U6 _ _ e6,(zbq.app (zbq.app .nil E4) E5)⟩;have R9:Row H13 p9 [[],[1,-1,3]]:=⟨[p7,p8],U9 _ _ e9,(zbq.app (zbq.app .nil E7) E8)⟩;have R12:Row H13 p12 [[1,1,3],[0,1,0]]:=⟨[p10,p11],U12 _ _ e12,(zbq.app (zbq.app .nil E10) E11)⟩;have x3_6:p3≠p6:=zak ((S4.trans S5) _ _ e3) n6;have x3_9:p3≠p9:=zak (((((S4.trans S5).trans S6).trans S7).trans S8) _ _ e3) n9;have x3_12:p3≠p12:=zak ((((((((S4.trans S5).trans S6).trans S7).trans S8).trans S9).trans S10).trans S11) _ _ e3) n12;have x6_9:p6≠p9:=zak ((S7.trans S8) _ _ e6) n9;have x6_12:p6≠p12:=zak (((((S7.trans S8).trans S9).trans S10).trans S11) _ _ e6) n12;have x9_12:p9≠p12:=zak ((S10.trans S11) _ _ e9) n12;have M13:MaR H13 p13 [p3,p6,p9,p12] zjs:=⟨e13,by simp [x3_6,x3_9,x3_12,x6_9,x6_12,x9_12],zbq.app (zbq.app (zbq.app (zbq.app .nil R3) R6) R9) R12⟩;have frs:∀ r∈[p3,p6,p9,p12],H r=none:=by
    intro r hr;simp only [zpg,List.not_mem_nil,or_false] at hr;rcases hr with rfl | rfl | rfl | rfl
    ·exact g3
    ·exact g6
    ·exact g9
    ·exact g12
   have P13:=P0.sub U0;have f13:=U0 _ _ hp;have g13':=g13;generalize [p3,p6,p9,p12]=rs at M13 frs;generalize hq:p13=q at M13 g13 ⊢;have e13:=f13;clear V1 V2 V3 V4 V5 V6 V7 V8 V9 V10 V11 V12;walk_at "w";refine⟨by decide,_,_,e13,fun d14 n14 d140 d141=>?_⟩;have P14:=P13.draw n14;have Q14:=Pu.of_draw n14 e13;generalize hg14:upd _ pp _=H14 at P14 Q14 ⊢;have e14:H14 pp=some (.lst [.int n14,.int k]):=by rw [← hg14];exact zaf
   clear hg14;walk_at "w";have M14:=M13.stay Q14.stay;refine ifB.mk (fun _=>?_) (fun _=>?_)
   ·exact h q zjs H14 P14 g13 ⟨rs,M14⟩ (zdE (rows:=4) (signs:=2) (by decide) (by decide) (by decide) (by decide) (by decide) fun r hr=>⟨by rw [(zcj r hr).1];rfl,(zcj r hr).2⟩)
   ·walk_at "w";refine ifB.mk (fun _=>?_) (fun _=>?_)
    ·walk_at "w";refine⟨⟨_,SqL.of M14.1⟩,?_⟩;intro pc npc;have S15:Sub H14 (upd H14 pc (.lst [])):=Sub.new npc;have gpc:H pc=none:=P14.free npc;obtain⟨hm14,hnd14,hrw14⟩:=M14;have hlr:rs.length=4:=hrw14.1;refine zbc (K:=K) (a:=q) (xs:=rs.map V.ref) (fun i σ H7=>∃ (v:Option V) (rs':List Addr) (m:Ma),σ=[v,some (.ref pp)]/\Pu pp k H14 H7/\MaR H7 pc rs' m/\m.length=i/\(∀ r∈rs',H14 r=none)/\∀ r∈m,(r.length:Int)=3/\∀ e∈r,zaz 4 3 e=true) ?_ ?_ ?_ ?_
     ·exact⟨none,[],[],rfl,(Pu.refl ⟨_,e14⟩).sub S15,⟨zaf,by simp,.nil⟩,rfl,by simp,by simp⟩
     ·rintro i σ H7 _ ⟨v,rs',m,rfl,P7,_⟩;exact SqL.of (P7.stay.refs _ _ hm14)
     ·rintro i x σ H7 hi ⟨v,rs',m,rfl,P7,M7,hml,hfr,hme⟩;rw [zoy] at hi;obtain⟨c,hc,rfl⟩:=zoA.1 hi;obtain⟨es,he,as,hE,hA⟩:=hrw14.at hc;have hi4:i<4:=by rw [← hlr];exact (zoB.1 hc).1
      obtain⟨l1,l2⟩:=zcj es (zoC he);have R7:zdm H7 c as es:=zdm.stay P7.stay ⟨hE,hA⟩;obtain⟨n7,e7⟩:=P7.has;walk_at "w";refine⟨by decide,_,_,e7,fun d8 n8 d80 d81=>?_⟩;have P8:=P7.draw n8;have Q8:=Pu.of_draw n8 e7;generalize hg8:upd _ pp _=H8 at P8 Q8 ⊢;have e8:H8 pp=some (.lst [.int n8,.int k]):=by rw [← hg8];exact zaf
      clear hg8;walk_at "w";refine⟨by decide,_,_,e8,fun d9 n9 d90 d91=>?_⟩;have P9:=P8.draw n9;have Q9:=Pu.of_draw n9 e8;generalize hg9:upd _ pp _=H9 at P9 Q9 ⊢;have e9:H9 pp=some (.lst [.int n9,.int k]):=by rw [← hg9];exact zaf
      clear hg9;walk_at "w";refine⟨.inl ⟨by omega,by omega⟩,fun m9 hm9 _=>?_⟩;have hm9:m9=2*d9:=hm9;walk_at "w";refine⟨by decide,_,_,e9,fun d10 n10 d100 d101=>?_⟩;have P10:=P9.draw n10;have Q10:=Pu.of_draw n10 e9;generalize hg10:upd _ pp _=H10 at P10 Q10 ⊢;have e10:H10 pp=some (.lst [.int n10,.int k]):=by rw [← hg10];exact zaf
      clear hg10;walk_at "w";refine⟨by show 3<=sizeLine;decide,?_⟩;intro p11 n11;generalize U':upd _ p11 _=H11;obtain ⟨S11,e11⟩:=zaj n11 U';clear U';refine⟨by show 1<=sizeLine;decide,?_⟩;intro p12 n12;generalize U':upd _ p12 _=H12;obtain ⟨S12,e12⟩:=zaj n12 U';clear U';have E12:Ent H12 p11 [d8,m9-1,d10]:=S12 _ _ e11;have st12:zdn H7 H12:=((Q8.trans Q9).trans Q10).stay.trans (.sub (S11.trans S12));have R12:=R7.stay st12;have M12:=M7.stay st12;refine⟨_,_,R12.1,e12,?_,?_⟩
      ·rw [zox,R12.2.1,l1];show 2+1<=sizeLine;decide
      intro p13 n13;generalize U':upd _ p13 _=H13;obtain ⟨S13,e13⟩:=zaj n13 U';clear U';have R13:Row H13 p13 (es++[[d8,m9-1,d10]]):=⟨as++[p11],by rw [e13,zoF];rfl,(R12.2.mono fun _ _ _ z=>S13 _ _ z).app (S13 _ _ E12)⟩;have M13:=M12.stay (.sub S13);have P13:=P10.sub ((S11.trans S12).trans S13);refine⟨_,M13.1,?_,_,rs'++[p13],m++[es++[[d8,m9-1,d10]]],rfl,P13.set npc,M13.app' R13 (M12.out n13) (M12.outp n13),by simp [hml],?_,?_⟩
      ·rw [zox,M13.2.2.1,hml];exact Nat.lt_trans hi4 (by decide)
      ·intro r hr;rcases zoI.1 hr with hr | hr
       ·exact hfr r hr
       ·rw [zoG.1 hr];exact P10.free (S11.free (S12.free n13))
      ·intro r hr;rcases zoI.1 hr with hr | hr
       ·exact hme r hr
       ·rw [zoG.1 hr];refine⟨by rw [zoH,l1];rfl,fun e he=>?_⟩;rcases zoI.1 he with he | he
        ·exact zhc (l2 e he) (by decide)
        ·rw [zoG.1 he];exact ok3 d80 d81 (by omega) d100 d101
     ·rintro σ H7 ⟨v,rs',m,rfl,P7,M7,hml,hfr,hme⟩;rw [zox,hlr] at hml;obtain⟨n7,e7⟩:=P7.has;walk_at "w";refine⟨by decide,_,_,e7,fun d8 n8 d80 d81=>?_⟩;have P8:=P7.draw n8;have Q8:=Pu.of_draw n8 e7;generalize hg8:upd _ pp _=H8 at P8 Q8 ⊢;have e8:H8 pp=some (.lst [.int n8,.int k]):=by rw [← hg8];exact zaf
      clear hg8;walk_at "w";refine⟨.inl ⟨by omega,by omega⟩,fun m9 hm9 _=>?_⟩;have hm9:m9=2*d8:=hm9;refine⟨by show 3<=sizeLine;decide,?_⟩;intro p9 n9;generalize U':upd _ p9 _=H9;obtain ⟨S9,e9⟩:=zaj n9 U';clear U';have E9:Ent H9 p9 [2,m9-1,2]:=e9;have P9:=P8.sub S9;have M9:=(M7.stay Q8.stay).stay (.sub S9);walk_at "w";have hl2:2<rs'.length:=by rw [M9.2.2.1,hml];decide
      have hrd:rs'[2]?=some rs'[2]:=zoz hl2;refine⟨_,_,SqL.of M9.1,zaC (j:=2) (v:=V.ref rs'[2]) (by rw [zoy,hrd];rfl),?_⟩;obtain⟨es,hes,as,hra⟩:=M9.2.2.at hrd;have hel:=(hme es (zoC hes)).1;refine⟨_,0,hra.1,?_,?_⟩
      ·exact zbL (i:=0) (by decide) (by rw [zox,hra.2.1];omega)
      refine h pc (m.set 2 (es.set 0 [2,m9-1,2])) _ ((P14.trans P9).set (P14.free (hfr _ (zoC hrd)))) gpc ⟨rs',M9.rowSet hrd hra E9⟩ ?_;refine zdE (rows:=4) (signs:=3) (by rw [zoV];omega) (by decide) (by decide) (by omega) (by omega) fun r hr=>?_
      rcases List.mem_or_eq_of_mem_set hr with hr | rfl
      ·exact hme r hr
      ·refine⟨by rw [zoV];exact hel,fun e he=>?_⟩;rcases List.mem_or_eq_of_mem_set he with he | rfl
       ·exact (hme es (zoC hes)).2 e he
       ·exact ok3 (by decide) (by decide) (by omega) (by decide) (by decide)
    ·walk_at "w";refine⟨by decide,_,_,e14,fun d15 n15 d150 d151=>?_⟩;have P15:=P14.draw n15;have Q15:=Pu.of_draw n15 e14;generalize hg15:upd _ pp _=H15 at P15 Q15 ⊢;have e15:H15 pp=some (.lst [.int n15,.int k]):=by rw [← hg15];exact zaf
     clear hg15;walk_at "w";refine⟨by decide,_,_,e15,fun d16 n16 d160 d161=>?_⟩;have P16:=P15.draw n16;have Q16:=Pu.of_draw n16 e15;generalize hg16:upd _ pp _=H16 at P16 Q16 ⊢;have e16:H16 pp=some (.lst [.int n16,.int k]):=by rw [← hg16];exact zaf
     clear hg16;walk_at "w";refine⟨.inl ⟨by omega,by omega⟩,fun m9 hm9 _=>?_⟩;have hm9:m9=2*d16:=hm9;walk_at "w";refine⟨by decide,_,_,e16,fun d17 n17 d170 d171=>?_⟩;have P17:=P16.draw n17;have Q17:=Pu.of_draw n17 e16;generalize hg17:upd _ pp _=H17 at P17 Q17 ⊢;have e17:H17 pp=some (.lst [.int n17,.int k]):=by rw [← hg17];exact zaf
     clear hg17;walk_at "w";refine⟨by show 3<=sizeLine;decide,?_⟩;intro p18 n18;generalize U':upd _ p18 _=H18;obtain ⟨S18,e18⟩:=zaj n18 U';clear U';have E18:Ent H18 p18 [d15,m9-1,d17]:=e18;have P18:=P17.sub S18;have M18:=(M14.stay ((Q15.trans Q16).trans Q17).stay).stay (.sub S18);walk_at "w";have hl2:2<rs.length:=by rw [M18.2.2.1];decide
     have hrd:rs[2]?=some rs[2]:=zoz hl2;refine⟨_,_,SqL.of M18.1,zaC (j:=2) (v:=V.ref rs[2]) (by rw [zoy,hrd];rfl),?_⟩;obtain⟨es,hes,as,hra⟩:=M18.2.2.at hrd;obtain⟨l1,l2⟩:=zcj es (zoC hes);refine⟨_,0,hra.1,?_,?_⟩
     ·exact zbL (i:=0) (by decide) (by rw [zox,hra.2.1,l1];decide)
     refine h q (zjs.set 2 (es.set 0 [d15,m9-1,d17])) _ (P18.set (frs _ (zoC hrd))) g13 ⟨rs,M18.rowSet hrd hra E18⟩ ?_;refine zdE (rows:=4) (signs:=2) (by rw [zoV];decide) (by decide) (by decide) (by decide) (by decide) fun r hr=>?_
     rcases List.mem_or_eq_of_mem_set hr with hr | rfl
     ·exact⟨by rw [(zcj r hr).1];rfl,(zcj r hr).2⟩
     ·refine⟨by rw [zoV,l1];rfl,fun e he=>?_⟩;rcases List.mem_or_eq_of_mem_set he with he | rfl
      ·exact l2 e he
      ·exact ok3 d150 d151 (by omega) d170 d171
  ·exact h.elim
theorem zgV:zar ["_law_purse_here"] ["_law_purse_here"] (zae zcZ):=by walk_at "s"
def ziN:Sp:=fun vs H Q _=>match vs with
 | [.ref pp]=>∃ n k:Int,H pp=some (.lst [.int n,.int k])/\∀ (q:Addr) (m:Ma) (H':Hp),Pu pp k H H'->H q=none->zdl H' q m->isM m=true->Q (.ref q) H'
 | _=>False
theorem zjC (T:Tx K mg a):zbr P w K mg base CX0 3 a.l_any a.l_any_d ["_law_purse_here"] (ziN):=by
 have G_l_draw:=zb4 (P:=P) (w:=w) (base:=base) T;have G_l_late:=zil (P:=P) (w:=w) (base:=base) T;have G_l_led:=zjD (P:=P) (w:=w) (base:=base) T;have G_l_machine:=zfu (P:=P) (w:=w) (base:=base) T;refine T.f_l_any.ok zgV (fun vs H Q E h=>?_) (fun cdv A outer s H vs Q E hr h=>?_)
 ·unfold ziN at h;split at h
  ·rfl
  ·exact h.elim
 ·unfold ziN at h;split at h
  ·have nd:=zgV.nd;have hu:=zaY hr;rename_i pp;obtain⟨n,k,hp,h⟩:=h;have P0:Pu pp k H H:=Pu.refl ⟨n,hp⟩;have e0:=hp;refine⟨_,(zab (zb6 (zbJ zd5 (zah G_l_draw (hr.mono (by decide)) rfl T.g_l_draw T.f_l_draw.kp T.b_l_draw .nil zam (zaa (qv 0) (zaa zac zad))) zac) (zag (zan (zah G_l_late (hr.mono (by decide)) rfl T.g_l_late T.f_l_late.kp T.b_l_late .nil zam (zaa (qv 0) zad)))) zat)
  (zab (zb6 (zbJ zd5 (zah G_l_draw (hr.mono (by decide)) rfl T.g_l_draw T.f_l_draw.kp T.b_l_draw .nil zam (zaa (qv 0) (zaa zac zad))) zac) (zag (zan (zah G_l_led (hr.mono (by decide)) rfl T.g_l_led T.f_l_led.kp T.b_l_led .nil zam (zaa (qv 0) zad)))) zat)
  (zag (zan (zah G_l_machine (hr.mono (by decide)) rfl T.g_l_machine T.f_l_machine.kp T.b_l_machine .nil zam (zaa (qv 0) zad)))))),?_⟩
   walk_at "w";refine⟨by decide,_,_,e0,fun d1 n1 d10 d11=>?_⟩;have P1:=P0.draw n1;have Q1:=Pu.of_draw n1 e0;generalize hg1:upd _ pp _=H1 at P1 Q1 ⊢;have e1:H1 pp=some (.lst [.int n1,.int k]):=by rw [← hg1];exact zaf
   clear hg1;walk_at "w";refine ifB.mk (fun _=>?_) (fun _=>?_)
   ·walk_at "w";exact⟨n1,k,e1,fun q m H' P' nq hm hM=>h q m H' (P1.trans P') (P1.free nq) hm hM⟩
   ·walk_at "w";refine⟨by decide,_,_,e1,fun d2 n2 d20 d21=>?_⟩;have P2:=P1.draw n2;have Q2:=Pu.of_draw n2 e1;generalize hg2:upd _ pp _=H2 at P2 Q2 ⊢;have e2:H2 pp=some (.lst [.int n2,.int k]):=by rw [← hg2];exact zaf
    clear hg2;walk_at "w";refine ifB.mk (fun _=>?_) (fun _=>?_)
    ·walk_at "w";exact⟨n2,k,e2,fun q m H' P' nq hm hM=>h q m H' (P2.trans P') (P2.free nq) hm hM⟩
    ·walk_at "w";exact⟨n2,k,e2,fun q m H' P' nq hm hM=>h q m H' (P2.trans P') (P2.free nq) hm hM⟩
  ·exact h.elim
theorem zb9:zar ["_law_machine_here","_law_paper","_law_kind","_law_first","_law_last","_law_far","_law_ahead","_law_k","_law_behind","_law_by"] ["_law_machine_here","_law_paper"] (zae zaR):=by walk_at "s"
theorem zcT {m:Ma} {C:Int->Prop} {D:Int} (up:∀ z,C z->C (z+D)) {T:Nat}:∀ (k:Nat) {S U:SF},itF m T S=some U->(∀ j,j<T->∀ V,itF m j S=some V->C V.2.1)->Alg C D S U->∃ V,itF m (k*T) S=some V/\V.1=S.1/\V.2.1=S.2.1+k*D
 | 0,S,U,_,_,_=>⟨S,by rw [Nat.zero_mul];rfl,rfl,by simp⟩
 | k+1,S,U,U',hc,hA=>by
  obtain⟨W,e1,e2⟩:=hA.steps T hc U';obtain⟨V,h1,h2,h3⟩:=zcT up k e1 (fun j hj V hV=>by
   obtain⟨V0,e0⟩:=zeg U' (show j<=T by omega);obtain⟨V',f1,f2⟩:=hA.steps j (fun i hi=>hc i (by omega)) e0;rw [hV] at f1;cases f1;rw [f2.pl];exact up _ (hc j hj V0 e0)) e2
  refine⟨V,?_,h2.trans hA.row.symm,?_⟩
  ·rw [show (k+1)*T=T+k*T by rw [Nat.succ_mul];omega,zbd,U'];exact h1
  ·rw [h3,hA.pl,show (((k+1:Nat):Int))*D=D+(k:Int)*D by push_cast;rw [Int.add_mul];omega];omega
theorem zdR {m:Ma} {T:Nat} {S:SF} (h:itF m T S=some S):∀ k:Nat,itF m (k*T) S=some S
 | 0=>by rw [Nat.zero_mul];rfl
 | k+1=>by rw [show (k+1)*T=T+k*T by rw [Nat.succ_mul];omega,zbd,h];exact zdR h k
structure Rnd (m:Ma) (e l:Nat) (rg:Prop):Prop where
 nev:zfT m
 lt:e<l
 rd:∃ (S:SF) (D:Int),itF m e (fs s00)=some S/\∀ k:Nat,∃ V,itF m (e+k*(l-e)) (fs s00)=some V/\V.1=S.1/\V.2.1=S.2.1+k*D/\(rg->V=S)
theorem zgR {m:Ma} (M:OkM m) {e l:Nat} (h:zdk m e l):Rnd m e l True:=by
 obtain⟨h1,h2,x,y,hx,hy,hs⟩:=h;have nx:=(zcf M _ _ (zku M) x (zoC hx)).nd;have ny:=(zcf M _ _ (zku M) y (zoC hy)).nd;rw [Bool.and_eq_true,Bool.and_eq_true] at hs;obtain⟨c1,c2,c3⟩:=hs;have c1:=zpi c1;have c2:=zpi c2;have c3:vz x.2.2=vz y.2.2:=zly (zgw nx ny c3) ny;have hf:fs x=fs y:=Prod.ext c1 (Prod.ext c2 c3);have e1:=zc4 e l _ _ hx;have e2:=zc4 l l _ _ hy;have hT:itF m (l-e) (fs x)=some (fs x):=by
  rw [show l=e+(l-e) by omega,zbd,e1] at e2;rw [show itF m (l-e) (fs x)=some (fs y) from e2,hf]
 refine⟨zhn h1 hx hy c1 c2 c3,h1,fs x,0,e1,fun k=>⟨fs x,?_,rfl,by simp,fun _=>rfl⟩⟩;rw [zbd,e1];exact zdR hT k
theorem zfD {m:Ma} {e l:Nat} (h:zdy m e l):Rnd m e l False:=by
 obtain⟨h1,h2,x,y,lo,hi,hx,hy,hlo,hhi,hL⟩:=h;have hL:Led x y lo hi:=@zpi _ (Classical.propDecidable _) hL;refine⟨zf7 h1 hx hy hlo.2 hhi.2 hL,h1,fs x,y.2.1-x.2.1,zc4 e l _ _ hx,fun k=>?_⟩;have e1:=zc4 e l _ _ hx;have e2:=zc4 l l _ _ hy;have hT:itF m (l-e) (fs x)=some (fs y):=by
  rw [show l=e+(l-e) by omega,zbd,e1] at e2;exact e2
 have places:∀ j,j<l-e->∀ V,itF m j (fs x)=some V->V.2.1∈(((tr m l s00).drop e).take (l-e)).map fun y=>y.2.1:=fun j hj V hV=>by
  have hl:=(zoB.1 hy).1;have hu:(tr m l s00)[e+j]?=some (tr m l s00)[e+j]:=zoz (by omega);have e3:=zc4 (e+j) l _ _ hu;rw [zbd,e1] at e3;have e3:itF m j (fs x)=some (fs (tr m l s00)[e+j]):=e3;rw [hV] at e3;rw [zpk e3];refine zoP.2 ⟨(tr m l s00)[e+j],?_,rfl⟩;refine List.mem_iff_getElem?.2 ⟨j,?_⟩;rw [List.getElem?_take,zpc hj,List.getElem?_drop];exact hu
 have:∃ V,itF m (k*(l-e)) (fs x)=some V/\V.1=(fs x).1/\V.2.1=(fs x).2.1+k*(y.2.1-x.2.1):=by
  rcases hL with ⟨hr,⟨hp,hs⟩ | ⟨hp,hs⟩⟩
  ·exact zcT (C:=fun z=>lo<=z) (D:=y.2.1-x.2.1) (fun z hz=>by show lo<=z+(y.2.1-x.2.1);have:lo<=z:=hz;omega) k hT (fun j hj V hV=>hlo.2 _ (places j hj V hV)) ⟨hr,by show y.2.1=x.2.1+(y.2.1-x.2.1);omega,hs⟩
  ·exact zcT (C:=fun z=>z<=hi) (D:=y.2.1-x.2.1) (fun z hz=>by show z+(y.2.1-x.2.1)<=hi;have:z<=hi:=hz;omega) k hT (fun j hj V hV=>hhi.2 _ (places j hj V hV)) ⟨hr,by show y.2.1=x.2.1+(y.2.1-x.2.1);omega,hs⟩
 obtain⟨V,g1,g2,g3⟩:=this;exact⟨V,by rw [zbd,e1];exact g1,g2,g3,False.elim⟩
theorem zby {m:Ma} (M:OkM m) (h:zfT m) {N:Nat} {x:St3} (hx:(tr m N (0,0,[])).getLast?=some x):(tr m N (0,0,[])).length=N+1/\wd m x="on"/\itF m N (fs s00)=some (fs x):=by
 have hg:=zjy M h hx;have hl:(tr m N (0,0,[])).length=N+1:=ziT N _ x hx fun z=>by
  have o:=zcf M N (0,0,[]) M.start x (List.mem_of_getLast? hx);rcases zdA M o with c | ⟨s,w,r,c1,c2,_⟩
  ·exact hg c
  ·rw [c2] at z;cases z
 refine⟨hl,?_,?_⟩
 ·unfold wd;rw [zpb hg]
 ·rw [List.getLast?_eq_getElem?,hl] at hx;exact zc4 N N _ _ hx
theorem zgk {x y:St3} {js ks:Mk2} (nx:(x.2.2.map (·.1)).Nodup) (ny:(y.2.2.map (·.1)).Nodup) (zx:NZ x.2.2) (zy:NZ y.2.2) (h:vz x.2.2=vz y.2.2) (pj:js.Perm x.2.2) (sj:Srt js) (pk:ks.Perm y.2.2) (sk:Srt ks):js=ks:=by
 refine zgj ?_ sj sk;refine pj.trans (List.Perm.trans ?_ pk.symm);have hm:∀ q,q∈x.2.2↔q∈y.2.2:=fun q=>by
  constructor
  ·intro hq
   have:=(zcz nx zx (zx q hq)).2 hq
   rw [h] at this;exact (zcz ny zy (zx q hq)).1 this
  ·intro hq
   have:=(zcz ny zy (zy q hq)).2 hq
   rw [← h] at this;exact (zcz nx zx (zy q hq)).1 this
 have nd1:x.2.2.Nodup:=(List.pairwise_map.1 nx).imp fun {u v} z e=>z (by rw [e])
 have nd2:y.2.2.Nodup:=(List.pairwise_map.1 ny).imp fun {u v} z e=>z (by rw [e])
 exact (List.perm_ext_iff_of_nodup nd1 nd2).2 hm
theorem zhN (x:St3):dep (dT x)<=60:=by
 have h:=zkX (w:="") (n:=0) (x:=x);rw [dRu,dep] at h;have h2:dep (dT x)<=depL [DD.str "",.int 0,dT x]:=zdp (by simp);omega
def ze5:Sp:=fun vs H Q _=>match vs with
 | [.ref t,.ref p]=>∃ (m:Ma) (kd:Str) (e l:Nat),zdl H t m/\isM m=true/\H p=some (.tup [.str kd,.int e,.int l])/\l<=60/\((kd="ring"/\zdk m e l)\/(kd="drift"/\zdy m e l))/\∀ H',Sub H H'->Q (.bl true) H'
 | _=>False
theorem zdM (T:Tx K mg a):zbr P w K mg base CX0 9 a.l_goes_round a.l_goes_round_d ["_law_machine_here","_law_paper"] (ze5):=by
 have G_run:=zim (P:=P) (w:=w) (base:=base) T;have G_shows:=zjE (P:=P) (w:=w) (base:=base) T;refine T.f_l_goes_round.ok zb9 (fun vs H Q E h=>?_) (fun cdv A outer s H vs Q E hr h=>?_)
 ·unfold ze5 at h;split at h
  ·rfl
  ·exact h.elim
 ·unfold ze5 at h;split at h
  ·have nd:=zb9.nd;have hu:=zaY hr;rename_i t p;obtain⟨m,kd,e,l,hm,hM,hp,hl60,hk,h⟩:=h;have M:=OkM.of hM;have R:Rnd m e l (kd="ring"):=by
    rcases hk with ⟨rfl,h⟩ | ⟨rfl,h⟩
    ·have:=zgR M h
     exact⟨this.nev,this.lt,by obtain⟨S,D,g1,g2⟩:=this.rd;exact⟨S,D,g1,fun k=>by obtain⟨V,a1,a2,a3,a4⟩:=g2 k;exact⟨V,a1,a2,a3,fun _=>a4 trivial⟩⟩⟩
    ·have:=zfD h
     exact⟨this.nev,this.lt,by obtain⟨S,D,g1,g2⟩:=this.rd;exact⟨S,D,g1,fun k=>by obtain⟨V,a1,a2,a3,a4⟩:=g2 k;exact⟨V,a1,a2,a3,fun z=>absurd z (by decide)⟩⟩⟩
   have hlt:=R.lt;obtain⟨S,D,rS,rk⟩:=R.rd;refine⟨_,(@zab _ _ _ _ _ (@zbp _ _ _ _ _ _ (qv 1) (@zaW _ K _ _ _ _ 3 rfl rfl (@zal _ _ _ _ _ (@zai _ _ 2 _ nd rfl (by walk_at "o") (by first | exact .inl rfl | exact .inr rfl | assumption)) (@zal _ _ _ _ _ (@zai _ _ 3 _ nd rfl (by walk_at "o") (by first | exact .inl rfl | exact .inr rfl | assumption)) (@zal _ _ _ _ _ (@zai _ _ 4 _ nd rfl (by walk_at "o") (by first | exact .inl rfl | exact .inr rfl | assumption)) zaX (by rfl)) (by rfl)) (by rfl)) (by rfl) (by rfl)) (by rfl) (by rfl) (by rfl)) (@zab _ _ _ _ _ (@zap _ _ 5 _ _ _ _ nd rfl (by walk_at "o") (@zau _ _ _ _ _ _ _ _ zcW (qv 4) (qv 3)) (by rfl) (by first | exact .inl rfl | exact .inr rfl | assumption)) (@zab _ _ _ _ _ (@zap _ _ 6 _ _ _ _ nd rfl (by walk_at "o") (@zah _ _ _ _ _ _ _ _ _ _ _ _ _ _ _ _ G_run (hr.mono (by decide)) rfl T.g_run T.f_run.kp T.b_run .nil zam (@zaa _ _ _ _ _ (qv 0) (@zaa _ _ _ _ _ (@zau _ _ _ _ _ _ _ _ zbD (qv 3) (qv 5)) zad (by rfl)) (by rfl)) (by decide) (by rfl) (by rfl)) (by rfl) (by first | exact .inl rfl | exact .inr rfl | assumption)) (@zab _ _ _ _ _ (@zcu _ _ _ _ _ _ _ _ PassesOwn.never rfl (@zfB _ _ _ _ _ _ _ rfl T.z_range (@zaa _ _ _ _ _ zac (@zaa _ _ _ _ _ zac zad (by rfl)) (by rfl)) (by rfl) (by rfl)) (@zai _ _ 7 _ nd rfl (by walk_at "o") (by first | exact .inl rfl | exact .inr rfl | assumption)) (@zab _ _ _ _ _ (@zap _ _ 8 _ _ _ _ nd rfl (by walk_at "o") (@zah _ _ _ _ _ _ _ _ _ _ _ _ _ _ _ _ G_run (hr.mono (by decide)) rfl T.g_run T.f_run.kp T.b_run .nil zam (@zaa _ _ _ _ _ (qv 0) (@zaa _ _ _ _ _ (@zau _ _ _ _ _ _ _ _ zbD (qv 3) (@zau _ _ _ _ _ _ _ _ zcr (qv 7) (qv 5))) zad (by rfl)) (by rfl)) (by decide) (by rfl) (by rfl)) (by rfl) (by first | exact .inl rfl | exact .inr rfl | assumption)) (@zab _ _ _ _ _ (@zb6 _ _ _ _ _ _ _ _ (PW.pt (@zgM _ _ _ _ _ _ _ (@zbJ _ _ _ _ _ _ _ _ znb (@zax _ _ _ _ _ _ _ (@zaA _ K rfl) (qv 8) zac (fun _ _=>rfl)) zbE (by first | exact zaP _ | rfl)) (@zgO _ _ _ _ (@zbJ _ _ _ _ _ _ _ _ znb (@zax _ _ _ _ _ _ _ (@zaA _ K rfl) (@zax _ _ _ _ _ _ _ (@zaA _ K rfl) (qv 8) zac (fun _ _=>rfl)) zac (fun _ _=>rfl)) (@zax _ _ _ _ _ _ _ (@zaA _ K rfl) (@zax _ _ _ _ _ _ _ (@zaA _ K rfl) (qv 6) zac (fun _ _=>rfl)) zac (fun _ _=>rfl)) (by first | exact zaP _ | rfl))))) (@zag _ _ _ (@zan _ _ _ _ zcJ)) zat) (@zag _ _ _ (@zb6 _ _ _ _ _ _ _ _ (PW.pt (@zcD _ _ _ _ _ _ _ (@zbJ _ _ _ _ _ _ _ _ zd5 (qv 2) zbE (by first | exact zaP _ | rfl)) (@zcE _ _ _ _ (@zbJ _ _ _ _ _ _ _ _ (@zkv _ _ hr) (@zax _ _ _ _ _ _ _ (@zaA _ K rfl) (qv 8) zac (fun _ _=>rfl)) (@zax _ _ _ _ _ _ _ (@zaA _ K rfl) (qv 6) zac (fun _ _=>rfl)) (by first | exact zaP _ | rfl))))) (@zag _ _ _ (@zan _ _ _ _ zcJ)) zat)))) (by intro _ ;rfl)) (@zab _ _ _ _ _ (@zap _ _ 9 _ _ _ _ nd rfl (by walk_at "o") (@zau _ _ _ _ _ _ _ _ zcW (@zax _ _ _ _ _ _ _ (@zaA _ K rfl) (@zax _ _ _ _ _ _ _ (@zaA _ K rfl) (@zah _ _ _ _ _ _ _ _ _ _ _ _ _ _ _ _ G_run (hr.mono (by decide)) rfl T.g_run T.f_run.kp T.b_run .nil zam (@zaa _ _ _ _ _ (qv 0) (@zaa _ _ _ _ _ (qv 4) zad (by rfl)) (by rfl)) (by decide) (by rfl) (by rfl)) zac (fun _ _=>rfl)) zac (fun _ _=>rfl)) (@zax _ _ _ _ _ _ _ (@zaA _ K rfl) (@zax _ _ _ _ _ _ _ (@zaA _ K rfl) (@zah _ _ _ _ _ _ _ _ _ _ _ _ _ _ _ _ G_run (hr.mono (by decide)) rfl T.g_run T.f_run.kp T.b_run .nil zam (@zaa _ _ _ _ _ (qv 0) (@zaa _ _ _ _ _ (qv 3) zad (by rfl)) (by rfl)) (by decide) (by rfl) (by rfl)) zac (fun _ _=>rfl)) zac (fun _ _=>rfl))) (by rfl) (by first | exact .inl rfl | exact .inr rfl | assumption)) (@zab _ _ _ _ _ (@zb6 _ _ _ _ _ _ _ _ (PW.pt (@zcD _ _ _ _ _ _ _ (@zbJ _ _ _ _ _ _ _ _ zd5 (qv 2) zbE (by first | exact zaP _ | rfl)) (@zcE _ _ _ _ (@zbJ _ _ _ _ _ _ _ _ znb (@zax _ _ _ _ _ _ _ (@zaA _ K rfl) (@zax _ _ _ _ _ _ _ (@zaA _ K rfl) (@zah _ _ _ _ _ _ _ _ _ _ _ _ _ _ _ _ G_run (hr.mono (by decide)) rfl T.g_run T.f_run.kp T.b_run .nil zam (@zaa _ _ _ _ _ (qv 0) (@zaa _ _ _ _ _ (@zau _ _ _ _ _ _ _ _ zbD (qv 3) (@zau _ _ _ _ _ _ _ _ zcr zac (qv 5))) zad (by rfl)) (by rfl)) (by decide) (by rfl) (by rfl)) zac (fun _ _=>rfl)) zac (fun _ _=>rfl)) (@zau _ _ _ _ _ _ _ _ zbD (@zax _ _ _ _ _ _ _ (@zaA _ K rfl) (@zax _ _ _ _ _ _ _ (@zaA _ K rfl) (qv 6) zac (fun _ _=>rfl)) zac (fun _ _=>rfl)) (@zau _ _ _ _ _ _ _ _ zcr zac (qv 9))) (by first | exact zaP _ | rfl))))) (@zag _ _ _ (@zan _ _ _ _ zcJ)) zat) (@zag _ _ _ (@zan _ _ _ _ (@zcC _ _ _ _ _ _ _ (@zbe _ _ _ _ _ _ _ _ zmR (@zah _ _ _ _ _ _ _ _ _ _ _ _ _ _ _ _ G_shows (hr.mono (by decide)) rfl T.g_shows T.f_shows.kp T.b_shows .nil zam (@zaa _ _ _ _ _ (qv 0) (@zaa _ _ _ _ _ (qv 1) zad (by rfl)) (by rfl)) (by decide) (by rfl) (by rfl)) zcJ (by first | exact zaP _ | rfl)) (@zel _ _ _ _ _ (@zbe _ _ _ _ _ _ _ _ zd5 (@zax _ _ _ _ _ _ _ (@zaA _ K rfl) (@zah _ _ _ _ _ _ _ _ _ _ _ _ _ _ _ _ G_run (hr.mono (by decide)) rfl T.g_run T.f_run.kp T.b_run .nil zam (@zaa _ _ _ _ _ (qv 0) (@zaa _ _ _ _ _ (@zau _ _ _ _ _ _ _ _ zbD (qv 4) zac) zad (by rfl)) (by rfl)) (by decide) (by rfl) (by rfl)) zac (fun _ _=>rfl)) zbE (by first | exact zaP _ | rfl)))))))))))),?_⟩;refine⟨_,SqT.of hp,rfl,?_⟩;refine⟨m,hm,hM,by omega,by omega,fun qa la xa ja H1 S1 hxa hrua pja sja _=>?_⟩;rw [show ((e:Int)+((l:Int)-(e:Int))).toNat=l by omega] at hxa hrua;obtain⟨a1,a2,a3⟩:=zby M R.nev hxa;have oa:=zcf M l (0,0,[]) M.start xa (List.mem_of_getLast? hxa);have za:NZ xa.2.2:=zhA l s00 (fun q hq=>by cases hq) xa (List.mem_of_getLast? hxa);obtain⟨sa,ra1,ra2⟩:=id hrua;obtain⟨ra3,_⟩:=id ra2;obtain⟨V1,v11,v12,v13,v14⟩:=rk 1;rw [show e+1*(l-e)=l by omega,a3] at v11;obtain rfl:=zpk v11;generalize hon:(Str.ofString "on")=won;generalize hrg:(Str.ofString "ring")=wrg;generalize hdr:(Str.ofString "drift")=wdr;have rk:∀ k:Nat,∃ V,itF m (e+k*(l-e)) (fs s00)=some V/\V.1=S.1/\V.2.1=S.2.1+k*D/\(kd=wrg->V=S):=fun k=>by rw [← hrg];exact rk k
   refine⟨by decide,?_⟩;refine zbw (lo:=2) (n:=2) (fun i σ H2=>∃ (v7 v8:Option V),σ=[some (.ref t),some (.ref p),some (.str kd),some (.int e),some (.int l),some (.int ((l:Int)-e)),some (.ref qa),v7,v8,none]/\Sub H1 H2) ?_ ?_ ?_
   ·exact⟨_,_,rfl,Sub.refl⟩
   ·rintro i σ H2 hi ⟨v7,v8,rfl,S2⟩;have emul:∀ j:Nat,j<=3->((j:Int)*((l:Int)-(e:Int)))=((j*(l-e):Nat):Int)/\j*(l-e)<=180:=fun j hj=>by
     refine⟨by push_cast;rw [Int.ofNat_sub (by omega)],?_⟩;exact Nat.mul_le_mul hj (show l-e<=60 by omega)
    refine⟨.inl ⟨by omega,by omega⟩,fun pr hpr _=>?_⟩;obtain⟨em1,em2⟩:=emul (2+i) (by omega);have hpr:pr=(((2+i)*(l-e):Nat):Int):=by
     rw [← em1,hpr]
     push_cast
     rfl
    generalize hNk:(2+i)*(l-e)=Nk at hpr em2;subst hpr;obtain⟨Vb,vb1,vb2,vb3,vb4⟩:=rk (2+i);rw [hNk] at vb1;refine⟨m,hm.stay (.sub (S1.trans S2)),hM,by omega,by omega,fun qb lb xb jb H3 S3 hxb hrub pjb sjb _=>?_⟩;rw [show ((e:Int)+(Nk:Int)).toNat=e+Nk by omega] at hxb hrub;obtain⟨b1,b2,b3⟩:=zby M R.nev hxb;have ob:=zcf M _ (0,0,[]) M.start xb (List.mem_of_getLast? hxb);have zb:NZ xb.2.2:=zhA _ s00 (fun q hq=>by cases hq) xb (List.mem_of_getLast? hxb);rw [b3] at vb1;obtain rfl:=zpk vb1;obtain⟨sb,rb1,rb2⟩:=id hrub;obtain⟨rb3,_⟩:=id rb2;rw [b2,hon] at rb1;have ra1':=S3 _ _ (S2 _ _ ra1);have ra3':=S3 _ _ (S2 _ _ ra3);refine⟨_,_,SqT.of rb1,rfl,?_⟩;walk_at "w";refine ifB.no (by rw [zpc rfl,zoD rfl];rfl) ?_;refine⟨_,_,SqT.of rb1,rfl,?_⟩;refine⟨_,_,SqT.of rb3,rfl,?_⟩;refine⟨_,_,SqT.of ra1',rfl,?_⟩;refine⟨_,_,SqT.of ra3',rfl,?_⟩;walk_at "w";refine ifB.no (by rw [zpc rfl];show (!decide (xb.1=xa.1))=false;rw [zoD (show xb.1=xa.1 from vb2.trans v12.symm)];rfl) ?_;walk_at "w";rw [zpb zpj];refine ifB.dec (fun c=>?_) (fun c=>?_)
    ·walk_at "w";refine⟨_,_,SqT.of rb1,rfl,?_⟩;refine⟨_,_,SqT.of ra1',rfl,?_⟩;have hfs:fs xb=fs xa:=(vb4 c).trans (v14 (by rw [hrg];exact c)).symm;have e1:xb.1=xa.1:=congrArg (·.1) hfs
     have e2:xb.2.1=xa.2.1:=congrArg (·.2.1) hfs
     have e3:jb=ja:=zgk ob.nd oa.nd zb za (congrArg (·.2.2) hfs) pjb sjb pja sja
     refine⟨_,_,rb2.den,((ra2.sub S2).sub S3).den,zhN _,?_⟩;show ifB (!eqD (dT (xb.1,xb.2.1,jb)) (dT (xa.1,xa.2.1,ja))) _ _;rw [e1,e2,e3,zbR];refine ifB.no rfl ?_;exact⟨_,_,rfl,S2.trans S3⟩
    ·walk_at "w";refine ifB.no rfl ?_;exact⟨_,_,rfl,S2.trans S3⟩
   ·rintro σ H2 ⟨v7,v8,rfl,S2⟩;have hm2:=hm.stay (.sub (S1.trans S2));refine⟨m,hm2,hM,by omega,by omega,fun qc lc xc jc H3 S3 hxc hruc pjc sjc _=>?_⟩;rw [Int.toNat_natCast] at hxc hruc;rw [hxa] at hxc;obtain rfl:=zpk hxc;obtain⟨sc,rc1,rc2⟩:=id hruc;obtain⟨rc3,_⟩:=id rc2;refine⟨_,_,SqT.of rc1,rfl,?_⟩;refine⟨_,_,SqT.of rc3,rfl,?_⟩;refine⟨m,hm2.stay (.sub S3),hM,by omega,by omega,fun qd ld xd jd H4 S4 hxd hrud pjd sjd _=>?_⟩;rw [Int.toNat_natCast] at hxd hrud;obtain⟨d1,d2,d3⟩:=zby M R.nev hxd;rw [rS] at d3;obtain rfl:=zpk d3;obtain⟨sd,rd1,rd2⟩:=id hrud;obtain⟨rd3,_⟩:=id rd2;refine⟨_,_,SqT.of rd1,rfl,?_⟩;refine⟨_,_,SqT.of rd3,rfl,?_⟩;have S14:=S2.trans (S3.trans S4);have hm4:=(hm2.stay (.sub S3)).stay (.sub S4);obtain⟨V3,v31,v32,v33,v34⟩:=rk 3;have em1:((3:Int)*((l:Int)-(e:Int)))=((3*(l-e):Nat):Int):=by push_cast;rw [Int.ofNat_sub (by omega)]
    generalize hNk:3*(l-e)=Nk at v31 em1;have hpl:xa.2.1=xd.2.1+D:=by have:=v13;simp at this;exact this
    walk_at "w";rw [zpb zpj];refine ifB.dec (fun c=>?_) (fun c=>?_)
    ·walk_at "w";refine⟨.inl ⟨by decide,by decide⟩,fun pr hpr _=>?_⟩;have hpr:pr=(Nk:Int):=by rw [hpr];exact em1
     subst hpr;refine⟨m,hm4,hM,by omega,by omega,fun qe le xe je H5 S5 hxe hrue pje sje _=>?_⟩;rw [show ((e:Int)+(Nk:Int)).toNat=e+Nk by omega] at hxe hrue;obtain⟨g1,g2,g3⟩:=zby M R.nev hxe;rw [g3] at v31;obtain rfl:=zpk v31;obtain⟨se,re1,re2⟩:=id hrue;obtain⟨re3,_⟩:=id re2;refine⟨_,_,SqT.of re1,rfl,?_⟩;refine⟨_,_,SqT.of re3,rfl,?_⟩;refine⟨_,_,SqT.of (S5 _ _ (S14 _ _ ra1)),rfl,?_⟩;refine⟨_,_,SqT.of (S5 _ _ (S14 _ _ ra3)),rfl,?_⟩;refine⟨.inl ⟨by decide,by decide⟩,fun pr hpr _=>?_⟩;have hpr:pr=2*(xa.2.1-xd.2.1):=hpr;have v33:xe.2.1=xd.2.1+3*D:=v33;walk_at "w";refine ifB.no (by rw [zpc rfl];show (!decide (xe.2.1=xa.2.1+pr))=false;rw [zoD (by omega)];rfl) ?_;walk_at "w";obtain⟨hkd,hpap⟩:kd="drift"/\zdy m e l:=hk.resolve_left fun z=>absurd (z.1.symm.trans (c.trans hdr.symm)) (by decide)
     refine⟨m,hm4.stay (.sub S5),hM,.inr (.inl ⟨e,l,by rw [← hkd];exact S5 _ _ (S14 _ _ (S1 _ _ hp)),⟨by omega,by omega⟩,⟨by omega,by omega⟩,fun H6 S6=>?_⟩)⟩;walk_at "w";rw [Int.toNat_natCast,Int.toNat_natCast,zfm (b:=true) ⟨fun _=>rfl,fun _=>hpap⟩];refine ifB.yes rfl ?_;refine⟨m,((hm4.stay (.sub S5)).stay (.sub S6)),hM,by omega,by omega,fun qz lz xz jz H7 S7 hxz hruz pjz sjz _=>?_⟩;obtain⟨z1,z2,z3⟩:=zby M R.nev hxz;obtain⟨sz,rz1,_⟩:=id hruz;rw [z2,hon] at rz1;refine⟨_,_,SqT.of rz1,rfl,?_⟩;walk_at "w";rw [zpb zpj,zoD rfl];exact h _ ((S1.trans S14).trans (S5.trans (S6.trans S7)))
    ·walk_at "w";refine ifB.no rfl ?_;walk_at "w";obtain⟨hkd,hpap⟩:kd="ring"/\zdk m e l:=hk.resolve_right fun z=>c (z.1.trans hdr)
     refine⟨m,hm4,hM,.inl ⟨e,l,by rw [← hkd];exact S14 _ _ (S1 _ _ hp),⟨by omega,by omega⟩,⟨by omega,by omega⟩,fun H6 S6=>?_⟩⟩;walk_at "w";rw [Int.toNat_natCast,Int.toNat_natCast,zfm (b:=true) ⟨fun _=>rfl,fun _=>hpap⟩];refine ifB.yes rfl ?_;refine⟨m,(hm4.stay (.sub S6)),hM,by omega,by omega,fun qz lz xz jz H7 S7 hxz hruz pjz sjz _=>?_⟩;obtain⟨z1,z2,z3⟩:=zby M R.nev hxz;obtain⟨sz,rz1,_⟩:=id hruz;rw [z2,hon] at rz1;refine⟨_,_,SqT.of rz1,rfl,?_⟩;walk_at "w";rw [zpb zpj,zoD rfl];exact h _ ((S1.trans S14).trans (S6.trans S7))
  ·exact h.elim
theorem zkE:zar ["_law_script","_law_purse_here","_law_machine_here","_law_most","_law_ended","_law_paper","_law_more","_law_some","_law_marks"] ["_law_script"] (zae zhw):=by walk_at "s"
def VP (H:Hp) (v:V) (kd:Str):Option (Nat × Nat)->Prop
 | none=>v=.non
 | some (e,l)=>∃ p,v=.ref p/\H p=some (.tup [.str kd,.int e,.int l])
theorem VP.sub {H H':Hp} {v:V} {kd:Str} (S:Sub H H'):∀ {r:Option (Nat × Nat)},VP H v kd r->VP H' v kd r
 | none,h=>h
 | some (e,l),⟨p,h1,h2⟩=>⟨p,h1,S _ _ h2⟩
theorem zkH {H:Hp} {v:V} {kd:Str} {e l:Nat} (h:Den H v (.tup [.str kd,.int (e:Int),.int (l:Int)])):VP H v kd (some (e,l)):=by
 rw [Den] at h;obtain⟨p,xs,rfl,h1,h2⟩:=h;rw [zbQ] at h2;obtain⟨u,us,rfl,g1,h2⟩:=h2;rw [zbQ] at h2;obtain⟨u2,us,rfl,g2,h2⟩:=h2;rw [zbQ] at h2;obtain⟨u3,us,rfl,g3,h2⟩:=h2;rw [zbQ] at h2;rw [Den] at g1;rw [Den] at g2;rw [Den] at g3;subst h2 g1 g2 g3;exact⟨p,rfl,h1⟩
theorem zl2 {H:Hp} {v:V}:∀ {r:Option (Nat × Nat)},Den H v (rgD r)->VP H v "ring" r
 | none,h=>by have h:Den H v .non:=h;rw [Den] at h;exact h
 | some (e,l),h=>zkH h
theorem zny {H:Hp} {v:V}:∀ {r:Option (Nat × Nat)},Den H v (znD r)->VP H v "drift" r
 | none,h=>by have h:Den H v .non:=h;rw [Den] at h;exact h
 | some (e,l),h=>zkH h
theorem VP.den {H:Hp} {p:Addr} {kd:Str} {e l:Nat} (h:H p=some (.tup [.str kd,.int (e:Int),.int (l:Int)])):Den H (.ref p) (.tup [.str kd,.int (e:Int),.int (l:Int)]):=by
 rw [Den];exact⟨_,_,rfl,h,⟨_,_,rfl,by rw [Den],⟨_,_,rfl,by rw [Den],⟨_,_,rfl,by rw [Den],rfl⟩⟩⟩⟩
theorem znY (kd:Str) (e l:Int):dep (.tup [.str kd,.int e,.int l])<=60:=by
 rw [dep]
 have:depL [DD.str kd,.int e,.int l]<=0:=zaT fun d hd=>by
  simp only [zpg,List.not_mem_nil,or_false] at hd;rcases hd with rfl | rfl | rfl
  ·exact zoN 0
  ·exact zoN 0
  ·exact zoN 0
 omega
structure PO (m:Ma) (kd:Str) (r r':Option (Nat × Nat)):Prop where
 same:∀ p,r=some p->r'=r
 nev:∀ p,r'=some p->zfT m
 go:∀ e l,r=some (e,l)->l<=60/\((kd="ring"/\zdk m e l)\/(kd="drift"/\zdy m e l))
theorem zlF {m:Ma} (M:OkM m) {N:Nat} (hN:N<=60) {r r':Option (Nat × Nat)} (h:zkL m N r) (h':zkL m 60 r'):PO m "ring" r r':=by
 refine⟨fun p e=>?_,fun p e=>?_,fun e l z=>?_⟩
 ·subst e;exact h'.one (r':=some p) ⟨zoM h.1 hN,h.2⟩
 ·subst e;exact (zgR M h'.2.1).nev
 ·subst z;exact⟨zoM h.1 hN,.inl ⟨rfl,h.2.1⟩⟩
theorem zjP {m:Ma} {N:Nat} (hN:N<=60) {r r':Option (Nat × Nat)} (h:zg5 m N r) (h':zg5 m 60 r'):PO m "drift" r r':=by
 have dp:∀ e l,DrP m e l->zdy m e l:=fun e l h=>h
 refine⟨fun p e=>?_,fun p e=>?_,fun e l z=>?_⟩
 ·subst e;exact h'.one (r':=some p) ⟨zoM h.1 hN,h.2⟩
 ·subst e;exact (zfD (dp _ _ h'.2.1)).nev
 ·subst z;exact⟨zoM h.1 hN,.inr ⟨rfl,dp _ _ h.2.1⟩⟩
theorem zfO {m:Ma} (M:OkM m) {N:Nat} {zs:List (Addr × St3)} (hT:zfS (zs.map (·.2)) (tr m N s00)) (j i:Nat) (z z':Addr × St3) (hz:zs[j]?=some z) (hz':zs[i]?=some z'):z.2=z'.2↔zfC (tr m N s00) j i:=by
 have e1:(zs.map (·.2))[j]?=some z.2:=by rw [zoy,hz];rfl
 have e2:(zs.map (·.2))[i]?=some z'.2:=by rw [zoy,hz'];rfl
 obtain⟨x,hx,a1,a2,a3,a4⟩:=hT.at e1;obtain⟨y,hy,b1,b2,b3,b4⟩:=hT.at e2;have nx:=(zcf M _ _ (zku M) x (zoC hx)).nd;have ny:=(zcf M _ _ (zku M) y (zoC hy)).nd;have te:=zgm (z1:=z.2) (z2:=z'.2) ⟨a1,a2,a3,a4⟩ ⟨b1,b2,b3,b4⟩ nx ny
 constructor
 ·intro e;exact⟨x,y,hx,hy,by rw [← te];exact @zoD _ (Classical.propDecidable _) e⟩
 ·rintro ⟨x',y',hx',hy',hs⟩;rw [hx] at hx';rw [hy] at hy';cases hx';cases hy';rw [← te] at hs;exact @zpi _ (Classical.propDecidable _) hs
theorem zll {m:Ma} (M:OkM m) {N:Nat} {zs:List (Addr × St3)} (hT:zfS (zs.map (·.2)) (tr m N s00)) (h:zkL m N none):(zs.map fun z=>zeK z.2).Nodup:=by
 have hl:zs.length=(tr m N s00).length:=by have:=hT.1;rwa [zox] at this
 have htl:=zfP m N s00;rw [List.Nodup,List.pairwise_iff_getElem];intro j i hj hi hji e;rw [zox] at hj hi;rw [List.getElem_map,List.getElem_map] at e;have e12:=zgA e;have hrx:=(zfO M hT j i _ _ (zoz hj) (zoz hi)).1 e12;exact h i (by omega) j ((zcF M (N:=N) (by omega) (by omega) hji).2 hrx)
def zer (K:PySem.W.Frag):Sp:=fun vs H Q _=>match vs with
 | [.ref b]=>∃ ns:List Int,SqL K H b (ns.map V.int)/\ns.length<=63/\∀ H',Q (.bl true) H'
 | _=>False
theorem zmN (T:Tx K mg a):zbr P w K mg base CX0 10 a.law a.law_d ["_law_script"] (zer K):=by
 have G_l_purse:=zhp (P:=P) (w:=w) (base:=base) T;have G_l_any:=zjC (P:=P) (w:=w) (base:=base) T;have G_l_draw:=zb4 (P:=P) (w:=w) (base:=base) T;have G_run:=zim (P:=P) (w:=w) (base:=base) T;have G_ring:=zlp (P:=P) (w:=w) (base:=base) T;have G_drift:=zjB (P:=P) (w:=w) (base:=base) T;have G_setups:=zdN (P:=P) (w:=w) (base:=base) T;have G_l_goes_round:=zdM (P:=P) (w:=w) (base:=base) T;refine T.f_law.ok zkE (fun vs H Q E h=>?_) (fun cdv A outer s H vs Q E hr h=>?_)
 ·unfold zer at h;split at h
  ·rfl
  ·exact h.elim
 ·unfold zer at h;split at h
  ·have nd:=zkE.nd;have hu:=zaY hr;rename_i b;obtain⟨ns,hb,hl,h⟩:=h;refine⟨_,(@zab _ _ _ _ _ (@zap _ _ 1 _ _ _ _ nd rfl (by walk_at "o") (@zah _ _ _ _ _ _ _ _ _ _ _ _ _ _ _ _ G_l_purse (hr.mono (by decide)) rfl T.g_l_purse T.f_l_purse.kp T.b_l_purse .nil zam (@zaa _ _ _ _ _ (qv 0) zad (by rfl)) (by decide) (by rfl) (by rfl)) (by rfl) (by first | exact .inl rfl | exact .inr rfl | assumption)) (@zab _ _ _ _ _ (@zap _ _ 2 _ _ _ _ nd rfl (by walk_at "o") (@zah _ _ _ _ _ _ _ _ _ _ _ _ _ _ _ _ G_l_any (hr.mono (by decide)) rfl T.g_l_any T.f_l_any.kp T.b_l_any .nil zam (@zaa _ _ _ _ _ (qv 1) zad (by rfl)) (by decide) (by rfl) (by rfl)) (by rfl) (by first | exact .inl rfl | exact .inr rfl | assumption)) (@zab _ _ _ _ _ (@zap _ _ 3 _ _ _ _ nd rfl (by walk_at "o") (@zah _ _ _ _ _ _ _ _ _ _ _ _ _ _ _ _ G_l_draw (hr.mono (by decide)) rfl T.g_l_draw T.f_l_draw.kp T.b_l_draw .nil zam (@zaa _ _ _ _ _ (qv 1) (@zaa _ _ _ _ _ zac zad (by rfl)) (by rfl)) (by decide) (by rfl) (by rfl)) (by rfl) (by first | exact .inl rfl | exact .inr rfl | assumption)) (@zab _ _ _ _ _ (@zap _ _ 4 _ _ _ _ nd rfl (by walk_at "o") (@zbe _ _ _ _ _ _ _ _ zd5 (@zax _ _ _ _ _ _ _ (@zaA _ K rfl) (@zah _ _ _ _ _ _ _ _ _ _ _ _ _ _ _ _ G_run (hr.mono (by decide)) rfl T.g_run T.f_run.kp T.b_run .nil zam (@zaa _ _ _ _ _ (qv 2) (@zaa _ _ _ _ _ zac zad (by rfl)) (by rfl)) (by decide) (by rfl) (by rfl)) zac (fun _ _=>rfl)) zbE (by first | exact zaP _ | rfl)) (by rfl) (by first | exact .inl rfl | exact .inr rfl | assumption)) (@zab _ _ _ _ _ (@zcu _ _ _ _ _ _ _ _ PassesOwn.never rfl (@zbn _ K _ _ _ rfl (@zbA _ _ _ _ (@zaa _ _ _ _ _ (@zav _ _ _ _ _ (@zaa _ _ _ _ _ (@zah _ _ _ _ _ _ _ _ _ _ _ _ _ _ _ _ G_ring (hr.mono (by decide)) rfl T.g_ring T.f_ring.kp T.b_ring .nil zam (@zaa _ _ _ _ _ (qv 2) (@zaa _ _ _ _ _ (qv 3) zad (by rfl)) (by rfl)) (by decide) (by rfl) (by rfl)) (@zaa _ _ _ _ _ (@zah _ _ _ _ _ _ _ _ _ _ _ _ _ _ _ _ G_ring (hr.mono (by decide)) rfl T.g_ring T.f_ring.kp T.b_ring .nil zam (@zaa _ _ _ _ _ (qv 2) (@zaa _ _ _ _ _ zac zad (by rfl)) (by rfl)) (by decide) (by rfl) (by rfl)) zad (by rfl)) (by rfl))) (@zaa _ _ _ _ _ (@zav _ _ _ _ _ (@zaa _ _ _ _ _ (@zah _ _ _ _ _ _ _ _ _ _ _ _ _ _ _ _ G_drift (hr.mono (by decide)) rfl T.g_drift T.f_drift.kp T.b_drift .nil zam (@zaa _ _ _ _ _ (qv 2) (@zaa _ _ _ _ _ (qv 3) zad (by rfl)) (by rfl)) (by decide) (by rfl) (by rfl)) (@zaa _ _ _ _ _ (@zah _ _ _ _ _ _ _ _ _ _ _ _ _ _ _ _ G_drift (hr.mono (by decide)) rfl T.g_drift T.f_drift.kp T.b_drift .nil zam (@zaa _ _ _ _ _ (qv 2) (@zaa _ _ _ _ _ zac zad (by rfl)) (by rfl)) (by decide) (by rfl) (by rfl)) zad (by rfl)) (by rfl))) zad (by rfl)) (by rfl)))) (@zaW _ K _ _ _ _ 2 rfl rfl (@zal _ _ _ _ _ (@zai _ _ 5 _ nd rfl (by walk_at "o") (by first | exact .inl rfl | exact .inr rfl | assumption)) (@zal _ _ _ _ _ (@zai _ _ 6 _ nd rfl (by walk_at "o") (by first | exact .inl rfl | exact .inr rfl | assumption)) zaX (by rfl)) (by rfl)) (by rfl) (by rfl)) (@zab _ _ _ _ _ (@zb6 _ _ _ _ _ _ _ _ (PW.pt (@zcD _ _ _ _ _ _ _ (@zbJ _ _ _ _ _ _ _ _ zdP (qv 5) zbB (by first | exact zaP _ | rfl)) (@zcE _ _ _ _ (PW.pt (@zgM _ _ _ _ _ _ _ (@zbJ _ _ _ _ _ _ _ _ (@zkv _ _ hr) (qv 5) (qv 6) (by first | exact zaP _ | rfl)) (@zgO _ _ _ _ (@zdQ _ _ _ _ (@zlJ _ _ _ (@zah _ _ _ _ _ _ _ _ _ _ _ _ _ _ _ _ G_l_goes_round (hr.mono (by decide)) rfl T.g_l_goes_round T.f_l_goes_round.kp T.b_l_goes_round .nil zam (@zaa _ _ _ _ _ (qv 2) (@zaa _ _ _ _ _ (qv 5) zad (by rfl)) (by rfl)) (by decide) (by rfl) (by rfl)) (by intro _ ;rfl))))))))) (@zag _ _ _ (@zan _ _ _ _ zcJ)) zat) (@zag _ _ _ (@zb6 _ _ _ _ _ _ _ _ (PW.pt (@zcD _ _ _ _ _ _ _ (@zlJ _ _ _ (qv 4) (by intro _ ;rfl)) (@zcE _ _ _ _ (@zbJ _ _ _ _ _ _ _ _ zdP (qv 6) zbB (by first | exact zaP _ | rfl))))) (@zag _ _ _ (@zan _ _ _ _ zcJ)) zat))) (by intro _ ;rfl)) (@zab _ _ _ _ _ (@zap _ _ 7 _ _ _ _ nd rfl (by walk_at "o") (@zah _ _ _ _ _ _ _ _ _ _ _ _ _ _ _ _ G_setups (hr.mono (by decide)) rfl T.g_setups T.f_setups.kp T.b_setups .nil zam (@zaa _ _ _ _ _ (qv 2) (@zaa _ _ _ _ _ (qv 3) zad (by rfl)) (by rfl)) (by decide) (by rfl) (by rfl)) (by rfl) (by first | exact .inl rfl | exact .inr rfl | assumption)) (@zab _ _ _ _ _ (@zap _ _ 5 _ _ _ _ nd rfl (by walk_at "o") (@zah _ _ _ _ _ _ _ _ _ _ _ _ _ _ _ _ G_ring (hr.mono (by decide)) rfl T.g_ring T.f_ring.kp T.b_ring .nil zam (@zaa _ _ _ _ _ (qv 2) (@zaa _ _ _ _ _ (qv 3) zad (by rfl)) (by rfl)) (by decide) (by rfl) (by rfl)) (by rfl) (by first | exact .inl rfl | exact .inr rfl | assumption)) (@zab _ _ _ _ _ (@zb6 _ _ _ _ _ _ _ _ (@zbJ _ _ _ _ _ _ _ _ ziq (qv 5) zbB (by first | exact zaP _ | rfl)) (@zab _ _ _ _ _ (@ziz _ _ (["_law_row","_law_place","_law_strip"]) [] _ _ _ _ _ _ _ _ _ 8 _ _ _ rfl nd rfl (by walk_at "o") (by walk_at "comp_ok") (@zbn _ K _ _ _ rfl (qv 7)) (fun _ _ _ _=>(@zaW _ K _ _ _ _ 3 rfl rfl (@zal _ _ _ _ _ (@zai _ _ 0 _ (show List.Nodup (α:=Str) ["_law_row","_law_place","_law_strip"] from by decide +kernel) rfl (by walk_at "o") (by first | exact .inl rfl | exact .inr rfl | assumption)) (@zal _ _ _ _ _ (@zai _ _ 1 _ (show List.Nodup (α:=Str) ["_law_row","_law_place","_law_strip"] from by decide +kernel) rfl (by walk_at "o") (by first | exact .inl rfl | exact .inr rfl | assumption)) (@zal _ _ _ _ _ (@zai _ _ 2 _ (show List.Nodup (α:=Str) ["_law_row","_law_place","_law_strip"] from by decide +kernel) rfl (by walk_at "o") (by first | exact .inl rfl | exact .inr rfl | assumption)) zaX (by rfl)) (by rfl)) (by rfl)) (by rfl) (by rfl))) (fun _ _ _ _=>zcV) (fun _ _ _ _=>(@zav _ _ _ _ _ (@zaa _ _ _ _ _ (qv 0) (@zaa _ _ _ _ _ (qv 1) (@zaa _ _ _ _ _ (@zcK _ _ _ _ _ _ _ _ _ (@ziG _ K rfl) rfl T.z_tuple zgo (@zaa _ _ _ _ _ (qv 2) zad (by rfl)) (by decide) (by decide) (by rfl) (by rfl)) zad (by rfl)) (by rfl)) (by rfl)))) (by rfl) (by first | exact .inl rfl | exact .inr rfl | assumption) (by intro _ ;rfl)) (@zag _ _ _ (@zan _ _ _ _ (@zbe _ _ _ _ _ _ _ _ zd5 (@zaD _ _ _ _ _ _ _ _ _ zm9 rfl T.z_len zct (@zaa _ _ _ _ _ (@zcK _ _ _ _ _ _ _ _ _ (@zne _ _ hr rfl) rfl T.z_set zmg (@zaa _ _ _ _ _ (qv 8) zad (by rfl)) (by decide) (by decide) (by rfl) (by rfl)) zad (by rfl)) (by decide) (by decide) (by rfl) (by rfl)) (@zaD _ _ _ _ _ _ _ _ _ (@zcL _ K rfl) rfl T.z_len zct (@zaa _ _ _ _ _ (qv 8) zad (by rfl)) (by decide) (by decide) (by rfl) (by rfl)) (by first | exact zaP _ | rfl))))) zat) (@zag _ _ _ (@zan _ _ _ _ (@zbe _ _ _ _ _ _ _ _ (@zdO _ _ hr) (@zax _ _ _ _ _ _ _ (@za2 _ K rfl) (qv 7) (@zax _ _ _ _ _ _ _ (@zaA _ K rfl) (qv 5) zac (fun _ _=>rfl)) (fun _ _=>rfl)) (@zax _ _ _ _ _ _ _ (@za2 _ K rfl) (qv 7) (@zax _ _ _ _ _ _ _ (@zaA _ K rfl) (qv 5) zac (fun _ _=>rfl)) (fun _ _=>rfl)) (by first | exact zaP _ | rfl)))))))))))),?_⟩;refine⟨ns,hb,hl,fun pp H1 n k S1 n1 e1=>?_⟩;refine⟨n,k,e1,fun p m H2 P2 n2 hm hM=>?_⟩;have M:=OkM.of hM;obtain⟨n2',e2⟩:=P2.has;walk_at "w";refine⟨by decide,_,_,e2,fun d3 n3 d30 d31=>?_⟩;have P3:=P2.draw n3;have Q3:=Pu.of_draw n3 e2;generalize hg3:upd _ pp _=H3 at P3 Q3 ⊢;have e3:H3 pp=some (.lst [.int n3,.int k]):=by rw [← hg3];exact zaf
   clear hg3;walk_at "w";have hm3:=hm.stay Q3.stay;refine⟨m,hm3,hM,by decide,by decide,fun q0 l0 x0 js0 H4 S4 hx0 hru0 _ _ _=>?_⟩;obtain⟨s0,ru1,_⟩:=id hru0;refine⟨_,_,SqT.of ru1,rfl,?_⟩;walk_at "w";rw [zpb zpj];have hend:decide (wd m x0=Str.ofString "ends")=true->¬ zfT m:=fun z hN=>by
    have:=(zby M hN hx0).2.1
    rw [this] at z;exact absurd (zpi z) (by decide)
   generalize decide (wd m x0=Str.ofString "ends")=ended at hend ⊢;have hm4:=hm3.stay (.sub S4);have hN:d3.toNat<=60:=by omega
   refine⟨m,hm4,hM,d30,by omega,fun r1 v1 H5 S5 g1 w1=>?_⟩;have hm5:=hm4.stay (.sub S5);refine⟨m,hm5,hM,by decide,by decide,fun r2 v2 H6 S6 g2 w2=>?_⟩;have hm6:=hm5.stay (.sub S6);refine⟨by show 2<=sizeLine;decide,?_⟩;intro p7 n7;generalize U':upd _ p7 _=H7;obtain ⟨S7,e7⟩:=zaj n7 U';clear U';have hm7:=hm6.stay (.sub S7);refine⟨m,hm7,hM,d30,by omega,fun r3 v3 H8 S8 g3 w3=>?_⟩;have hm8:=hm7.stay (.sub S8);refine⟨m,hm8,hM,by decide,by decide,fun r4 v4 H9 S9 g4 w4=>?_⟩;have hm9:=hm8.stay (.sub S9);refine⟨by show 2<=sizeLine;decide,?_⟩;intro p10 n10;generalize U':upd _ p10 _=H10;obtain ⟨S10,e10⟩:=zaj n10 U';clear U';refine⟨by show 2<=sizeLine;decide,?_⟩;intro p11 n11;generalize U':upd _ p11 _=H11;obtain ⟨S11,e11⟩:=zaj n11 U';clear U';have hm11:=(hm9.stay (.sub S10)).stay (.sub S11);have S711:=S8.trans (S9.trans (S10.trans S11));have both:∀ (x:V),x∈[V.ref p7,V.ref p10]->∃ (a:Addr) (kd:Str) (v w:V) (r r':Option (Nat × Nat)),x=.ref a/\H11 a=some (.tup [v,w])/\VP H11 v kd r/\VP H11 w kd r'/\PO m kd r r':=fun x hx=>by
    simp only [zpg,List.not_mem_nil,or_false] at hx;rcases hx with rfl | rfl
    ·exact⟨p7,_,v1,v2,r1,r2,rfl,S711 _ _ e7,(zl2 w1).sub (S6.trans (S7.trans S711)),(zl2 w2).sub (S7.trans S711),zlF M hN g1 g2⟩
    ·exact⟨p10,_,v3,v4,r3,r4,rfl,S11 _ _ e10,(zny w3).sub (S9.trans (S10.trans S11)),(zny w4).sub (S10.trans S11),zjP hN g3 g4⟩
   refine⟨⟨_,SqL.of e11⟩,?_⟩;refine zji (K:=K) (a:=p11) (xs:=[V.ref p7,V.ref p10]) (fun j σ H12=>∃ v5 v6,σ=[some (.ref b),some (.ref pp),some (.ref p),some (.int d3),some (.bl ended),v5,v6,none,none]/\Sub H11 H12) ?_ ?_ ?_ ?_
   ·exact⟨_,_,rfl,Sub.refl⟩
   ·rintro j σ H12 _ ⟨v5,v6,rfl,S12⟩;exact SqL.of (S12 _ _ e11)
   ·rintro j x σ H12 hj ⟨v5,v6,rfl,S12⟩;obtain⟨a',kd,v,w',r,r',rfl,ha,hv,hw,po⟩:=both x (zoC hj);refine⟨_,SqT.of (S12 _ _ ha),rfl,?_⟩;refine⟨rfl,?_⟩;cases r with
    | none =>
     obtain rfl:v=.non:=hv;refine ifB.no (by rw [zoD rfl];rfl) ?_;walk_at "w";refine ifB.no rfl ?_;walk_at "w";refine ifB.mk (fun z=>?_) (fun z=>?_)
     ·walk_at "w";refine⟨rfl,?_⟩;cases r' with
      | none =>
       obtain rfl:w'=.non:=hw;refine ifB.no (by rw [zoD rfl];rfl) ?_;exact⟨_,_,rfl,S12⟩
      | some pq=>exact (hend z (po.nev pq rfl)).elim
     ·walk_at "w";refine ifB.no rfl ?_;exact⟨_,_,rfl,S12⟩
    | some el =>
     obtain⟨e,l⟩:=el;obtain⟨pv,rfl,hpv⟩:=hv;have er:=po.same _ rfl;subst er;obtain⟨pw,rfl,hpw⟩:=hw;obtain⟨l60,hk⟩:=po.go e l rfl;refine ifB.yes (by rw [zoE (fun z=>by cases z)];rfl) ?_;refine⟨_,_,VP.den (S12 _ _ hpv),VP.den (S12 _ _ hpw),znY _ _ _,?_⟩;rw [zbR];refine ifB.no rfl ?_;refine⟨m,kd,e,l,hm11.stay (.sub S12),hM,S12 _ _ hpv,l60,hk,fun H13 S13=>?_⟩;refine ifB.no rfl ?_;walk_at "w";refine ifB.mk (fun z=>(hend z (po.nev (e,l) rfl)).elim) (fun z=>?_);walk_at "w";refine ifB.no rfl ?_;exact⟨_,_,rfl,S12.trans S13⟩
   ·rintro σ H12 ⟨v5,v6,rfl,S12⟩;have hm12:=hm11.stay (.sub S12);refine⟨m,hm12,hM,d30,by omega,fun f ts zs H13 S13 hf hA hnd hfr hT nf hne=>?_⟩;have hT:zfS (zs.map (·.2)) (tr m d3.toNat s00):=hT
    have hXl:=zfP m d3.toNat s00;have hzl:zs.length=(tr m d3.toNat s00).length:=by have:=hT.1;rw [zox] at this;exact this
    refine⟨m,hm12.stay (.sub S13),hM,d30,by omega,fun r v H14 S14 g w=>?_⟩;have hv:=zl2 w;refine⟨rfl,?_⟩;cases r with
    | none =>
     obtain rfl:v=.non:=hv;refine ifB.yes (by rw [zoD rfl]) ?_;walk_at "w";have hf14:=S14 _ _ hf;refine⟨⟨_,SqL.of hf14⟩,?_⟩;intro pc npc;refine zbc (K:=K) (a:=f) (xs:=ts.map V.ref) (fun i σ H15=>∃ (u1 u2 u3:Option V) (qs:List Addr),σ=[u1,u2,u3]/\Sub H14 H15/\H15 pc=some (.lst (qs.map V.ref))/\zbq (fun a k=>k.dep<=7/\zbX H15 k (.ref a)) qs ((zs.take i).map fun z=>zeK z.2)) ?_ ?_ ?_ ?_
     ·exact⟨none,none,none,[],rfl,Sub.new npc,zaf,.nil⟩
     ·rintro i σ H15 _ ⟨u1,u2,u3,qs,rfl,S15,_⟩;exact SqL.of (S15 _ _ hf14)
     ·rintro i x σ H15 hi ⟨u1,u2,u3,qs,rfl,S15,g15,A15⟩;rw [zoy] at hi;obtain⟨c,hc,rfl⟩:=zoA.1 hi;obtain⟨z,hz,hSZ⟩:=hA.at hc;have hil:i<zs.length:=(zoB.1 hz).1;obtain⟨q1,as,q2,q3⟩:=(hSZ.sub S14).sub S15;refine⟨_,SqT.of q1,rfl,?_⟩;refine⟨_,SqL.of q2,?_⟩;intro p16 n16;generalize U':upd _ p16 _=H16;obtain ⟨S16,e16⟩:=zaj n16 U';clear U';refine⟨by show 3<=sizeLine;decide,?_⟩;intro p17 n17;generalize U':upd _ p17 _=H17;obtain ⟨S17,e17⟩:=zaj n17 U';clear U';have S1517:=S16.trans S17;have g17:=S1517 _ _ g15;have dk:zbX H17 (zeK z.2) (.ref p17):=by
       unfold zeK;rw [zbX];refine⟨p17,_,rfl,e17,?_⟩;rw [zbv];refine⟨_,_,rfl,by rw [zbX],?_⟩;rw [zbv];refine⟨_,_,rfl,by rw [zbX],?_⟩;rw [zbv];refine⟨_,_,rfl,?_,by rw [zbv]⟩;rw [zbX];exact⟨p16,_,rfl,S17 _ _ e16,zez (q3.mono fun _ _ _ z=>S1517 _ _ z)⟩
      refine⟨_,g17,?_,_,_,_,qs++[p17],rfl,(S15.trans S1517).upd npc,by rw [zaf,zoF];rfl,?_⟩
      ·rw [zox,A15.1,zox,zoW];exact zoL (show _<=61 by omega) (by decide)
      ·have kt:∀ a us,H17 a=some (.tup us)->(upd H17 pc (.lst (qs.map V.ref++[V.ref p17]))) a=some (.tup us):=fun a us e=>by
        rw [zao (by rintro rfl;rw [g17] at e;cases e)];exact e
       rw [zoU,hz,zoF];exact (A15.mono fun a k _ z=>⟨z.1,zbX.mono kt 7 _ _ z.1 (zbX.mono (fun _ _ e=>S1517 _ _ e) 7 _ _ z.1 z.2)⟩).app ⟨zds _,zbX.mono kt 7 _ _ (zds _) dk⟩
     rintro σ H15 ⟨u1,u2,u3,qs,rfl,S15,g15,A15⟩;rw [zox,hA.1,zoT] at A15;have hql:=A15.1;rw [zox] at hql;refine⟨qs,_,g15,A15,zll M hT g,by rw [zox];omega,fun ds nds=>?_⟩;have S16:=Sub.new (o:=.ext (zj8 ds (zs.map fun z=>zeK z.2).length)) nds;generalize hG16:upd H15 ds _=H16 at S16 ⊢;have e16:H16 ds=some (.ext (zj8 ds (zs.map fun z=>zeK z.2).length)):=by rw [← hG16];exact zaf
     clear hG16;rw [zox] at e16;refine⟨_,e16,by omega,?_⟩;refine⟨_,.inl (SqL.of (S16 _ _ g15)),?_⟩;rw [zox,hql];walk_at "w";rw [zpb zpj,zoD rfl];exact h _
    | some el =>
     obtain⟨e,l⟩:=el;obtain⟨pv,rfl,hpv⟩:=hv;refine ifB.no (by rw [zoE (fun z=>by cases z)]) ?_;obtain⟨hlN,hrp,_,_⟩:=g;have hel:=hrp.1;have hal:=hrp.2.1.1;have hll:l<(tr m d3.toNat s00).length:=by
      have:=zbI (m:=m) l d3.toNat s00 hlN
      have h2:=congrArg List.length this;rw [hal,zoW] at h2;omega
     have hez:zs[e]?=some (zs[e]'(by omega)):=zoz _;have hlz:zs[l]?=some (zs[l]'(by omega)):=zoz _;generalize zs[e]'(by omega)=ze at hez;generalize zs[l]'(by omega)=zl at hlz;have esame:=(zfO M hT e l ze zl hez hlz).2 ((zcF M hlN hll hel).1 hrp);have hte:ts[e]?=some (ts[e]'(by rw [hA.1];omega)):=zoz _;have htl:ts[l]?=some (ts[l]'(by rw [hA.1];omega)):=zoz _;generalize ts[e]'(by rw [hA.1];omega)=te at hte;generalize ts[l]'(by rw [hA.1];omega)=tl at htl;have ae:atI (ts.map V.ref) (e:Int)=some (.ref te):=zbZ (by omega) (by rw [Int.toNat_natCast,zoy,hte];rfl);have al:atI (ts.map V.ref) (l:Int)=some (.ref tl):=zbZ (by omega) (by rw [Int.toNat_natCast,zoy,htl];rfl);refine⟨_,_,SqT.of hpv,rfl,?_⟩;refine⟨_,_,SqL.of (S14 _ _ hf),ae,?_⟩;refine⟨_,_,SqT.of hpv,rfl,?_⟩;refine⟨_,_,SqL.of (S14 _ _ hf),al,?_⟩;refine⟨_,_,((hA.2 e te ze hte hez).sub S14).den,((hA.2 l tl zl htl hlz).sub S14).den,zhN _,?_⟩;rw [esame,zbR];exact h _
  ·exact h.elim
end
open PySem.W in
theorem all_mk {l:OpenLaw} {w:World} {K:Frag} {h:Heap} {mg:Str->Option Value} {fa:Addr} {tk_MOST_ROWS tk_LEAST_SIGNS tk_MOST_SIGNS tk_MOST_MOMENT:Tok} {xZ0 xZ1 xZ2 xZ3 xZ4 xZ5 xZ6 xZ7 xZ8 xZ9 xZ10 xZ11 xZ12 xZ13 xZ14 xZ15 xZ16 xZ17 xZ18 xZ19 xZ20 xZ21 xZ22 xZ23 xZ24 xZ25 xZ26 xZ27 xZ28 xZ29 xZ30 xZ31 xZ32 xZ33 x_MillError x_NoMachine x_Walk:Addr} (X:K.In h) (G:h.Ns mainGlobals mg) (hfa:mg "law"=some (.ref fa))
  {odZ0 anZ0 odZ1 anZ1 odZ2 anZ2 odZ3 anZ3 odZ4 anZ4 odZ5 anZ5 odZ6 anZ6 odZ7 anZ7 odZ8 anZ8 odZ9 anZ9 odZ10 anZ10 odZ11 anZ11 odZ12 anZ12 odZ13 anZ13 odZ14 anZ14 odZ15 anZ15 odZ16 anZ16 odZ17 anZ17 odZ18 anZ18 odZ19 anZ19 odZ20 anZ20 odZ21 anZ21 odZ22 anZ22 odZ23 anZ23 odZ24 anZ24 odZ25 anZ25 odZ26 anZ26 odZ27 anZ27 odZ28 anZ28 odZ29 anZ29 odZ30 anZ30 odZ31 anZ31 odZ32 anZ32 odZ33 anZ33:Option Addr} {slZ0 slZ1 slZ2 slZ3 slZ4 slZ5 slZ6 slZ7 slZ8 slZ9 slZ10 slZ11 slZ12 slZ13 slZ14 slZ15 slZ16 slZ17 slZ18 slZ19 slZ20 slZ21 slZ22 slZ23 slZ24 slZ25 slZ26 slZ27 slZ28 slZ29 slZ30 slZ31 slZ32 slZ33:Array (Option Value)} {ocZ0 kVZ0 dcZ0 pmZ0 cdZ0 ctZ0 ocZ1 kVZ1 dcZ1 pmZ1 cdZ1 ctZ1 ocZ2 kVZ2 dcZ2 pmZ2 cdZ2 ctZ2 ocZ3 kVZ3 dcZ3 pmZ3 cdZ3 ctZ3 ocZ4 kVZ4 dcZ4 pmZ4 cdZ4 ctZ4 ocZ5 kVZ5 dcZ5 pmZ5 cdZ5 ctZ5 ocZ6 kVZ6 dcZ6 pmZ6 cdZ6 ctZ6 ocZ7 kVZ7 dcZ7 pmZ7 cdZ7 ctZ7 ocZ8 kVZ8 dcZ8 pmZ8 cdZ8 ctZ8 ocZ9 kVZ9 dcZ9 pmZ9 cdZ9 ctZ9 ocZ10 kVZ10 dcZ10 pmZ10 cdZ10 ctZ10 ocZ11 kVZ11 dcZ11 pmZ11 cdZ11 ctZ11 ocZ12 kVZ12 dcZ12 pmZ12 cdZ12 ctZ12 ocZ13 kVZ13 dcZ13 pmZ13 cdZ13 ctZ13 ocZ14 kVZ14 dcZ14 pmZ14 cdZ14 ctZ14 ocZ15 kVZ15 dcZ15 pmZ15 cdZ15 ctZ15 ocZ16 kVZ16 dcZ16 pmZ16 cdZ16 ctZ16 ocZ17 kVZ17 dcZ17 pmZ17 cdZ17 ctZ17 ocZ18 kVZ18 dcZ18 pmZ18 cdZ18 ctZ18 ocZ19 kVZ19 dcZ19 pmZ19 cdZ19 ctZ19 ocZ20 kVZ20 dcZ20 pmZ20 cdZ20 ctZ20 ocZ21 kVZ21 dcZ21 pmZ21 cdZ21 ctZ21 ocZ22 kVZ22 dcZ22 pmZ22 cdZ22 ctZ22 ocZ23 kVZ23 dcZ23 pmZ23 cdZ23 ctZ23 ocZ24 kVZ24 dcZ24 pmZ24 cdZ24 ctZ24 ocZ25 kVZ25 dcZ25 pmZ25 cdZ25 ctZ25 ocZ26 kVZ26 dcZ26 pmZ26 cdZ26 ctZ26 ocZ27 kVZ27 dcZ27 pmZ27 cdZ27 ctZ27 ocZ28 kVZ28 dcZ28 pmZ28 cdZ28 ctZ28 ocZ29 kVZ29 dcZ29 pmZ29 cdZ29 ctZ29 ocZ30 kVZ30 dcZ30 pmZ30 cdZ30 ctZ30 ocZ31 kVZ31 dcZ31 pmZ31 cdZ31 ctZ31 ocZ32 kVZ32 dcZ32 pmZ32 cdZ32 ctZ32 ocZ33 kVZ33 dcZ33 pmZ33 cdZ33 ctZ33:Value}
  {cx_MillError cx_NoMachine:ClassData}
  (a_Walk:nsIn K mainGlobals "Walk"=some (some (.ref x_Walk)))
  (pg_Walk:plainGet K x_Walk Str.empty=true)
  (hd_Walk:hasDictIn K x_Walk=true)
  (po_Walk:plainOver K x_Walk=true)
  (sa_Walk:findIn K (.ref x_Walk) "__setattr__"=some (some (.builtin "object.__setattr__")))
  (mk_Walk:makesIn K x_Walk=true)
  (kc_Walk:keepIn K (.ref x_Walk)=true)
  (n_Walk_table:findIn K (.ref x_Walk) "table"=some none)
  (n_Walk_row:findIn K (.ref x_Walk) "row"=some none)
  (n_Walk_place:findIn K (.ref x_Walk) "place"=some none)
  (n_Walk_marks:findIn K (.ref x_Walk) "marks"=some none)
  (aZ0:nsIn K mainGlobals "_law_mixed"=some (some (.ref xZ0)))
  (lZ0:K.lookup xZ0=some ⟨ocZ0,odZ0,.func (fnOf "_law_mixed" "_law_mixed" (zas zbO) (zaq zbO) (zae zbO) .none kVZ0 dcZ0 pmZ0 anZ0 cdZ0 ctZ0),slZ0⟩)
  (cZ0:codeIn K cdZ0 "_law_mixed"=true)
  (kZ0:keepIn K (.ref xZ0)=true)
  (aZ1:nsIn K mainGlobals "_law_draw"=some (some (.ref xZ1)))
  (lZ1:K.lookup xZ1=some ⟨ocZ1,odZ1,.func (fnOf "_law_draw" "_law_draw" (zas zcm) (zaq zcm) (zae zcm) .none kVZ1 dcZ1 pmZ1 anZ1 cdZ1 ctZ1),slZ1⟩)
  (cZ1:codeIn K cdZ1 "_law_draw"=true)
  (kZ1:keepIn K (.ref xZ1)=true)
  (aZ2:nsIn K mainGlobals "_law_purse"=some (some (.ref xZ2)))
  (lZ2:K.lookup xZ2=some ⟨ocZ2,odZ2,.func (fnOf "_law_purse" "_law_purse" (zas zbP) (zaq zbP) (zae zbP) .none kVZ2 dcZ2 pmZ2 anZ2 cdZ2 ctZ2),slZ2⟩)
  (cZ2:codeIn K cdZ2 "_law_purse"=true)
  (kZ2:keepIn K (.ref xZ2)=true)
  (aZ3:nsIn K mainGlobals "is_entry"=some (some (.ref xZ3)))
  (lZ3:K.lookup xZ3=some ⟨ocZ3,odZ3,.func (fnOf "is_entry" "is_entry" (zas zbt) (zaq zbt) (zae zbt) .none kVZ3 dcZ3 pmZ3 anZ3 cdZ3 ctZ3),slZ3⟩)
  (cZ3:codeIn K cdZ3 "is_entry"=true)
  (kZ3:keepIn K (.ref xZ3)=true)
  (aZ4:nsIn K mainGlobals "is_row"=some (some (.ref xZ4)))
  (lZ4:K.lookup xZ4=some ⟨ocZ4,odZ4,.func (fnOf "is_row" "is_row" (zas zcl) (zaq zcl) (zae zcl) .none kVZ4 dcZ4 pmZ4 anZ4 cdZ4 ctZ4),slZ4⟩)
  (cZ4:codeIn K cdZ4 "is_row"=true)
  (kZ4:keepIn K (.ref xZ4)=true)
  (aZ5:nsIn K mainGlobals "is_machine"=some (some (.ref xZ5)))
  (lZ5:K.lookup xZ5=some ⟨ocZ5,odZ5,.func (fnOf "is_machine" "is_machine" (zas zba) (zaq zba) (zae zba) .none kVZ5 dcZ5 pmZ5 anZ5 cdZ5 ctZ5),slZ5⟩)
  (cZ5:codeIn K cdZ5 "is_machine"=true)
  (kZ5:keepIn K (.ref xZ5)=true)
  (aZ6:nsIn K mainGlobals "must_machine"=some (some (.ref xZ6)))
  (lZ6:K.lookup xZ6=some ⟨ocZ6,odZ6,.func (fnOf "must_machine" "must_machine" (zas zaS) (zaq zaS) (zae zaS) .none kVZ6 dcZ6 pmZ6 anZ6 cdZ6 ctZ6),slZ6⟩)
  (cZ6:codeIn K cdZ6 "must_machine"=true)
  (kZ6:keepIn K (.ref xZ6)=true)
  (aZ7:findIn K (.ref x_Walk) "__init__"=some (some (.ref xZ7)))
  (iZ7:isFn K (.ref xZ7)=true)
  (lZ7:K.lookup xZ7=some ⟨ocZ7,odZ7,.func (fnOf "__init__" "Walk.__init__" (zas zaN) (zaq zaN) (zae zaN) .none kVZ7 dcZ7 pmZ7 anZ7 cdZ7 ctZ7),slZ7⟩)
  (cZ7:codeIn K cdZ7 "Walk.__init__"=true)
  (kZ7:keepIn K (.ref xZ7)=true)
  (aZ8:findIn K (.ref x_Walk) "look"=some (some (.ref xZ8)))
  (iZ8:isFn K (.ref xZ8)=true)
  (lZ8:K.lookup xZ8=some ⟨ocZ8,odZ8,.func (fnOf "look" "Walk.look" (zas zbg) (zaq zbg) (zae zbg) .none kVZ8 dcZ8 pmZ8 anZ8 cdZ8 ctZ8),slZ8⟩)
  (cZ8:codeIn K cdZ8 "Walk.look"=true)
  (kZ8:keepIn K (.ref xZ8)=true)
  (aZ9:findIn K (.ref x_Walk) "entry"=some (some (.ref xZ9)))
  (iZ9:isFn K (.ref xZ9)=true)
  (lZ9:K.lookup xZ9=some ⟨ocZ9,odZ9,.func (fnOf "entry" "Walk.entry" (zas za8) (zaq za8) (zae za8) .none kVZ9 dcZ9 pmZ9 anZ9 cdZ9 ctZ9),slZ9⟩)
  (cZ9:codeIn K cdZ9 "Walk.entry"=true)
  (kZ9:keepIn K (.ref xZ9)=true)
  (aZ10:findIn K (.ref x_Walk) "mark"=some (some (.ref xZ10)))
  (iZ10:isFn K (.ref xZ10)=true)
  (lZ10:K.lookup xZ10=some ⟨ocZ10,odZ10,.func (fnOf "mark" "Walk.mark" (zas zbh) (zaq zbh) (zae zbh) .none kVZ10 dcZ10 pmZ10 anZ10 cdZ10 ctZ10),slZ10⟩)
  (cZ10:codeIn K cdZ10 "Walk.mark"=true)
  (kZ10:keepIn K (.ref xZ10)=true)
  (aZ11:findIn K (.ref x_Walk) "step"=some (some (.ref xZ11)))
  (iZ11:isFn K (.ref xZ11)=true)
  (lZ11:K.lookup xZ11=some ⟨ocZ11,odZ11,.func (fnOf "step" "Walk.step" (zas zbi) (zaq zbi) (zae zbi) .none kVZ11 dcZ11 pmZ11 anZ11 cdZ11 ctZ11),slZ11⟩)
  (cZ11:codeIn K cdZ11 "Walk.step"=true)
  (kZ11:keepIn K (.ref xZ11)=true)
  (aZ12:findIn K (.ref x_Walk) "setup"=some (some (.ref xZ12)))
  (iZ12:isFn K (.ref xZ12)=true)
  (lZ12:K.lookup xZ12=some ⟨ocZ12,odZ12,.func (fnOf "setup" "Walk.setup" (zas za9) (zaq za9) (zae za9) .none kVZ12 dcZ12 pmZ12 anZ12 cdZ12 ctZ12),slZ12⟩)
  (cZ12:codeIn K cdZ12 "Walk.setup"=true)
  (kZ12:keepIn K (.ref xZ12)=true)
  (aZ13:nsIn K mainGlobals "first_setup"=some (some (.ref xZ13)))
  (lZ13:K.lookup xZ13=some ⟨ocZ13,odZ13,.func (fnOf "first_setup" "first_setup" (zas za0) (zaq za0) (zae za0) .none kVZ13 dcZ13 pmZ13 anZ13 cdZ13 ctZ13),slZ13⟩)
  (cZ13:codeIn K cdZ13 "first_setup"=true)
  (kZ13:keepIn K (.ref xZ13)=true)
  (aZ14:nsIn K mainGlobals "begun"=some (some (.ref xZ14)))
  (lZ14:K.lookup xZ14=some ⟨ocZ14,odZ14,.func (fnOf "begun" "begun" (zas zcX) (zaq zcX) (zae zcX) .none kVZ14 dcZ14 pmZ14 anZ14 cdZ14 ctZ14),slZ14⟩)
  (cZ14:codeIn K cdZ14 "begun"=true)
  (kZ14:keepIn K (.ref xZ14)=true)
  (aZ15:nsIn K mainGlobals "run"=some (some (.ref xZ15)))
  (lZ15:K.lookup xZ15=some ⟨ocZ15,odZ15,.func (fnOf "run" "run" (zas zhx) (zaq zhx) (zae zhx) .none kVZ15 dcZ15 pmZ15 anZ15 cdZ15 ctZ15),slZ15⟩)
  (cZ15:codeIn K cdZ15 "run"=true)
  (kZ15:keepIn K (.ref xZ15)=true)
  (aZ16:nsIn K mainGlobals "setups"=some (some (.ref xZ16)))
  (lZ16:K.lookup xZ16=some ⟨ocZ16,odZ16,.func (fnOf "setups" "setups" (zas zco) (zaq zco) (zae zco) .none kVZ16 dcZ16 pmZ16 anZ16 cdZ16 ctZ16),slZ16⟩)
  (cZ16:codeIn K cdZ16 "setups"=true)
  (kZ16:keepIn K (.ref xZ16)=true)
  (aZ17:nsIn K mainGlobals "setup_key"=some (some (.ref xZ17)))
  (lZ17:K.lookup xZ17=some ⟨ocZ17,odZ17,.func (fnOf "setup_key" "setup_key" (zas zbk) (zaq zbk) (zae zbk) .none kVZ17 dcZ17 pmZ17 anZ17 cdZ17 ctZ17),slZ17⟩)
  (cZ17:codeIn K cdZ17 "setup_key"=true)
  (kZ17:keepIn K (.ref xZ17)=true)
  (aZ18:nsIn K mainGlobals "ring"=some (some (.ref xZ18)))
  (lZ18:K.lookup xZ18=some ⟨ocZ18,odZ18,.func (fnOf "ring" "ring" (zas zem) (zaq zem) (zae zem) .none kVZ18 dcZ18 pmZ18 anZ18 cdZ18 ctZ18),slZ18⟩)
  (cZ18:codeIn K cdZ18 "ring"=true)
  (kZ18:keepIn K (.ref xZ18)=true)
  (aZ19:nsIn K mainGlobals "is_led_along"=some (some (.ref xZ19)))
  (lZ19:K.lookup xZ19=some ⟨ocZ19,odZ19,.func (fnOf "is_led_along" "is_led_along" (zas zaQ) (zaq zaQ) (zae zaQ) .none kVZ19 dcZ19 pmZ19 anZ19 cdZ19 ctZ19),slZ19⟩)
  (cZ19:codeIn K cdZ19 "is_led_along"=true)
  (kZ19:keepIn K (.ref xZ19)=true)
  (aZ20:nsIn K mainGlobals "first_drift"=some (some (.ref xZ20)))
  (lZ20:K.lookup xZ20=some ⟨ocZ20,odZ20,.func (fnOf "first_drift" "first_drift" (zas zaZ) (zaq zaZ) (zae zaZ) .none kVZ20 dcZ20 pmZ20 anZ20 cdZ20 ctZ20),slZ20⟩)
  (cZ20:codeIn K cdZ20 "first_drift"=true)
  (kZ20:keepIn K (.ref xZ20)=true)
  (aZ21:nsIn K mainGlobals "drift"=some (some (.ref xZ21)))
  (lZ21:K.lookup xZ21=some ⟨ocZ21,odZ21,.func (fnOf "drift" "drift" (zas zcY) (zaq zcY) (zae zcY) .none kVZ21 dcZ21 pmZ21 anZ21 cdZ21 ctZ21),slZ21⟩)
  (cZ21:codeIn K cdZ21 "drift"=true)
  (kZ21:keepIn K (.ref xZ21)=true)
  (aZ22:nsIn K mainGlobals "walked"=some (some (.ref xZ22)))
  (lZ22:K.lookup xZ22=some ⟨ocZ22,odZ22,.func (fnOf "walked" "walked" (zas zcp) (zaq zcp) (zae zcp) .none kVZ22 dcZ22 pmZ22 anZ22 cdZ22 ctZ22),slZ22⟩)
  (cZ22:codeIn K cdZ22 "walked"=true)
  (kZ22:keepIn K (.ref xZ22)=true)
  (aZ23:nsIn K mainGlobals "between"=some (some (.ref xZ23)))
  (lZ23:K.lookup xZ23=some ⟨ocZ23,odZ23,.func (fnOf "between" "between" (zas zbN) (zaq zbN) (zae zbN) .none kVZ23 dcZ23 pmZ23 anZ23 cdZ23 ctZ23),slZ23⟩)
  (cZ23:codeIn K cdZ23 "between"=true)
  (kZ23:keepIn K (.ref xZ23)=true)
  (aZ24:nsIn K mainGlobals "shows_ring"=some (some (.ref xZ24)))
  (lZ24:K.lookup xZ24=some ⟨ocZ24,odZ24,.func (fnOf "shows_ring" "shows_ring" (zas zbb) (zaq zbb) (zae zbb) .none kVZ24 dcZ24 pmZ24 anZ24 cdZ24 ctZ24),slZ24⟩)
  (cZ24:codeIn K cdZ24 "shows_ring"=true)
  (kZ24:keepIn K (.ref xZ24)=true)
  (aZ25:nsIn K mainGlobals "shows_drift"=some (some (.ref xZ25)))
  (lZ25:K.lookup xZ25=some ⟨ocZ25,odZ25,.func (fnOf "shows_drift" "shows_drift" (zas za1) (zaq za1) (zae za1) .none kVZ25 dcZ25 pmZ25 anZ25 cdZ25 ctZ25),slZ25⟩)
  (cZ25:codeIn K cdZ25 "shows_drift"=true)
  (kZ25:keepIn K (.ref xZ25)=true)
  (aZ26:nsIn K mainGlobals "shows_end"=some (some (.ref xZ26)))
  (lZ26:K.lookup xZ26=some ⟨ocZ26,odZ26,.func (fnOf "shows_end" "shows_end" (zas zbl) (zaq zbl) (zae zbl) .none kVZ26 dcZ26 pmZ26 anZ26 cdZ26 ctZ26),slZ26⟩)
  (cZ26:codeIn K cdZ26 "shows_end"=true)
  (kZ26:keepIn K (.ref xZ26)=true)
  (aZ27:nsIn K mainGlobals "shows"=some (some (.ref xZ27)))
  (lZ27:K.lookup xZ27=some ⟨ocZ27,odZ27,.func (fnOf "shows" "shows" (zas zc1) (zaq zc1) (zae zc1) .none kVZ27 dcZ27 pmZ27 anZ27 cdZ27 ctZ27),slZ27⟩)
  (cZ27:codeIn K cdZ27 "shows"=true)
  (kZ27:keepIn K (.ref xZ27)=true)
  (aZ28:nsIn K mainGlobals "_law_machine"=some (some (.ref xZ28)))
  (lZ28:K.lookup xZ28=some ⟨ocZ28,odZ28,.func (fnOf "_law_machine" "_law_machine" (zas zbj) (zaq zbj) (zae zbj) .none kVZ28 dcZ28 pmZ28 anZ28 cdZ28 ctZ28),slZ28⟩)
  (cZ28:codeIn K cdZ28 "_law_machine"=true)
  (kZ28:keepIn K (.ref xZ28)=true)
  (aZ29:nsIn K mainGlobals "_law_led"=some (some (.ref xZ29)))
  (lZ29:K.lookup xZ29=some ⟨ocZ29,odZ29,.func (fnOf "_law_led" "_law_led" (zas zc0) (zaq zc0) (zae zc0) .none kVZ29 dcZ29 pmZ29 anZ29 cdZ29 ctZ29),slZ29⟩)
  (cZ29:codeIn K cdZ29 "_law_led"=true)
  (kZ29:keepIn K (.ref xZ29)=true)
  (aZ30:nsIn K mainGlobals "_law_late"=some (some (.ref xZ30)))
  (lZ30:K.lookup xZ30=some ⟨ocZ30,odZ30,.func (fnOf "_law_late" "_law_late" (zas zcn) (zaq zcn) (zae zcn) .none kVZ30 dcZ30 pmZ30 anZ30 cdZ30 ctZ30),slZ30⟩)
  (cZ30:codeIn K cdZ30 "_law_late"=true)
  (kZ30:keepIn K (.ref xZ30)=true)
  (aZ31:nsIn K mainGlobals "_law_any"=some (some (.ref xZ31)))
  (lZ31:K.lookup xZ31=some ⟨ocZ31,odZ31,.func (fnOf "_law_any" "_law_any" (zas zcZ) (zaq zcZ) (zae zcZ) .none kVZ31 dcZ31 pmZ31 anZ31 cdZ31 ctZ31),slZ31⟩)
  (cZ31:codeIn K cdZ31 "_law_any"=true)
  (kZ31:keepIn K (.ref xZ31)=true)
  (aZ32:nsIn K mainGlobals "_law_goes_round"=some (some (.ref xZ32)))
  (lZ32:K.lookup xZ32=some ⟨ocZ32,odZ32,.func (fnOf "_law_goes_round" "_law_goes_round" (zas zaR) (zaq zaR) (zae zaR) .none kVZ32 dcZ32 pmZ32 anZ32 cdZ32 ctZ32),slZ32⟩)
  (cZ32:codeIn K cdZ32 "_law_goes_round"=true)
  (kZ32:keepIn K (.ref xZ32)=true)
  (aZ33:nsIn K mainGlobals "law"=some (some (.ref xZ33)))
  (lZ33:K.lookup xZ33=some ⟨ocZ33,odZ33,.func (fnOf "law" "law" (zas zhw) (zaq zhw) (zae zhw) .none kVZ33 dcZ33 pmZ33 anZ33 cdZ33 ctZ33),slZ33⟩)
  (cZ33:codeIn K cdZ33 "law"=true)
  (kZ33:keepIn K (.ref xZ33)=true)
  (gt:specialIn K (.builtin "object.__class__") "__get__"=some (some (.builtin "getset_descriptor.__get__")))
  (tk:takesIn K (.builtin "object.__class__")=some true)
  (a_MillError:nsIn K mainGlobals "MillError"=some (some (.ref x_MillError)))
  (i_MillError:excIn K x_MillError zhC "ValueError.__new__"=true)
  (k_MillError:keepIn K (.ref x_MillError)=true)
  (ga_MillError:findIn K (.ref x_MillError) "__getattribute__"=some (some (.builtin "BaseException.__getattribute__")))
  (na_MillError:findIn K (.ref x_MillError) "__getattr__"=some none)
  (cl_MillError:findIn K (.ref x_MillError) "__class__"=some (some (.builtin "object.__class__")))
  (mo_MillError:mroIn K x_MillError (.type "object")=some true)
  (mb_MillError:mroIn K x_MillError (.type "BaseException")=some true)
  (ci_MillError:clsIn K x_MillError=some cx_MillError)
  (mr_MillError:cx_MillError.mro=[.ref x_MillError]++zhC)
  (ty_MillError:typeIn K (.ref x_MillError)=some (.type "type"))
  (a_NoMachine:nsIn K mainGlobals "NoMachine"=some (some (.ref x_NoMachine)))
  (i_NoMachine:excIn K x_NoMachine zhC "ValueError.__new__"=true)
  (k_NoMachine:keepIn K (.ref x_NoMachine)=true)
  (ga_NoMachine:findIn K (.ref x_NoMachine) "__getattribute__"=some (some (.builtin "BaseException.__getattribute__")))
  (na_NoMachine:findIn K (.ref x_NoMachine) "__getattr__"=some none)
  (cl_NoMachine:findIn K (.ref x_NoMachine) "__class__"=some (some (.builtin "object.__class__")))
  (mo_NoMachine:mroIn K x_NoMachine (.type "object")=some true)
  (mb_NoMachine:mroIn K x_NoMachine (.type "BaseException")=some true)
  (ci_NoMachine:clsIn K x_NoMachine=some cx_NoMachine)
  (mr_NoMachine:cx_NoMachine.mro=[.ref x_NoMachine,.ref x_MillError]++zhC)
  (ty_NoMachine:typeIn K (.ref x_NoMachine)=some (.type "type"))
  (z_abs:nsIn K mainGlobals "abs"=some none)
  (z_all:nsIn K mainGlobals "all"=some none)
  (z_bool:nsIn K mainGlobals "bool"=some none)
  (z_dict:nsIn K mainGlobals "dict"=some none)
  (z_enumerate:nsIn K mainGlobals "enumerate"=some none)
  (z_int:nsIn K mainGlobals "int"=some none)
  (z_isinstance:nsIn K mainGlobals "isinstance"=some none)
  (z_len:nsIn K mainGlobals "len"=some none)
  (z_list:nsIn K mainGlobals "list"=some none)
  (z_max:nsIn K mainGlobals "max"=some none)
  (z_min:nsIn K mainGlobals "min"=some none)
  (z_range:nsIn K mainGlobals "range"=some none)
  (z_reversed:nsIn K mainGlobals "reversed"=some none)
  (z_set:nsIn K mainGlobals "set"=some none)
  (z_sorted:nsIn K mainGlobals "sorted"=some none)
  (z_sum:nsIn K mainGlobals "sum"=some none)
  (z_tuple:nsIn K mainGlobals "tuple"=some none)
  (nd:[x_MillError,x_NoMachine].Nodup)
  (q_MOST_ROWS:nsIn K mainGlobals "MOST_ROWS"=some (some (.int 4 tk_MOST_ROWS)))
  (q_LEAST_SIGNS:nsIn K mainGlobals "LEAST_SIGNS"=some (some (.int 2 tk_LEAST_SIGNS)))
  (q_MOST_SIGNS:nsIn K mainGlobals "MOST_SIGNS"=some (some (.int 4 tk_MOST_SIGNS)))
  (q_MOST_MOMENT:nsIn K mainGlobals "MOST_MOMENT"=some (some (.int 1000 tk_MOST_MOMENT)))
  : ∃ fd:FuncData,(∀ (s:Shared) (v:Value),BindsTo s fd ⟨[v],[]⟩ [("_law_script",v)])/\∀ base:Heap,K.In base->base.Ns mainGlobals mg->zbr l.prog w K mg base CX0 10 fa fd ["_law_script"] (zer K):=by
 have e:=hfa.symm.trans (mg_of X G aZ33);have e':xZ33=fa:=by cases e;rfl
 subst e';have FZ0:=zaB (st:=zbO) lZ0 cZ0 kZ0;have bZ0:=FZ0.binds (ps:=["_law_cell","_law_k"]) fun _ _ _ _ _ _=>us2 (fun _ _=>rfl)
 have FZ1:=zaB (st:=zcm) lZ1 cZ1 kZ1;have bZ1:=FZ1.binds (ps:=["_law_purse_here","_law_out_of"]) fun _ _ _ _ _ _=>us2 (fun _ _=>rfl)
 have FZ2:=zaB (st:=zbP) lZ2 cZ2 kZ2;have bZ2:=FZ2.binds (ps:=["_law_script"]) fun _ _ _ _ _ _=>us1 (fun _=>rfl)
 have FZ3:=zaB (st:=zbt) lZ3 cZ3 kZ3;have bZ3:=FZ3.binds (ps:=["entry","rows","signs"]) fun _ _ _ _ _ _=>us3 (fun _ _ _=>rfl)
 have FZ4:=zaB (st:=zcl) lZ4 cZ4 kZ4;have bZ4:=FZ4.binds (ps:=["row","rows","signs"]) fun _ _ _ _ _ _=>us3 (fun _ _ _=>rfl)
 have FZ5:=zaB (st:=zba) lZ5 cZ5 kZ5;have bZ5:=FZ5.binds (ps:=["machine"]) fun _ _ _ _ _ _=>us1 (fun _=>rfl)
 have FZ6:=zaB (st:=zaS) lZ6 cZ6 kZ6;have bZ6:=FZ6.binds (ps:=["machine"]) fun _ _ _ _ _ _=>us1 (fun _=>rfl)
 have FZ7:=zaB (st:=zaN) lZ7 cZ7 kZ7;have bZ7:=FZ7.binds (ps:=["self","table","begin"]) fun _ _ _ _ _ _=>us3 (fun _ _ _=>rfl)
 have FZ8:=zaB (st:=zbg) lZ8 cZ8 kZ8;have bZ8:=FZ8.binds (ps:=["self"]) fun _ _ _ _ _ _=>us1 (fun _=>rfl)
 have FZ9:=zaB (st:=za8) lZ9 cZ9 kZ9;have bZ9:=FZ9.binds (ps:=["self"]) fun _ _ _ _ _ _=>us1 (fun _=>rfl)
 have FZ10:=zaB (st:=zbh) lZ10 cZ10 kZ10;have bZ10:=FZ10.binds (ps:=["self","sign"]) fun _ _ _ _ _ _=>us2 (fun _ _=>rfl)
 have FZ11:=zaB (st:=zbi) lZ11 cZ11 kZ11;have bZ11:=FZ11.binds (ps:=["self"]) fun _ _ _ _ _ _=>us1 (fun _=>rfl)
 have FZ12:=zaB (st:=za9) lZ12 cZ12 kZ12;have bZ12:=FZ12.binds (ps:=["self"]) fun _ _ _ _ _ _=>us1 (fun _=>rfl)
 have FZ13:=zaB (st:=za0) lZ13 cZ13 kZ13;have bZ13:=FZ13.binds (ps:=[]) fun _ _ _ _ _ _=>us0 (fun _=>rfl)
 have FZ14:=zaB (st:=zcX) lZ14 cZ14 kZ14;have bZ14:=FZ14.binds (ps:=["machine"]) fun _ _ _ _ _ _=>us1 (fun _=>rfl)
 have FZ15:=zaB (st:=zhx) lZ15 cZ15 kZ15;have bZ15:=FZ15.binds (ps:=["machine","most"]) fun _ _ _ _ _ _=>us2 (fun _ _=>rfl)
 have FZ16:=zaB (st:=zco) lZ16 cZ16 kZ16;have bZ16:=FZ16.binds (ps:=["machine","most"]) fun _ _ _ _ _ _=>us2 (fun _ _=>rfl)
 have FZ17:=zaB (st:=zbk) lZ17 cZ17 kZ17;have bZ17:=FZ17.binds (ps:=["setup"]) fun _ _ _ _ _ _=>us1 (fun _=>rfl)
 have FZ18:=zaB (st:=zem) lZ18 cZ18 kZ18;have bZ18:=FZ18.binds (ps:=["machine","most"]) fun _ _ _ _ _ _=>us2 (fun _ _=>rfl)
 have FZ19:=zaB (st:=zaQ) lZ19 cZ19 kZ19;have bZ19:=FZ19.binds (ps:=["early","late","low","high"]) fun _ _ _ _ _ _=>us4 (fun _ _ _ _=>rfl)
 have FZ20:=zaB (st:=zaZ) lZ20 cZ20 kZ20;have bZ20:=FZ20.binds (ps:=["trail","late"]) fun _ _ _ _ _ _=>us2 (fun _ _=>rfl)
 have FZ21:=zaB (st:=zcY) lZ21 cZ21 kZ21;have bZ21:=FZ21.binds (ps:=["machine","most"]) fun _ _ _ _ _ _=>us2 (fun _ _=>rfl)
 have FZ22:=zaB (st:=zcp) lZ22 cZ22 kZ22;have bZ22:=FZ22.binds (ps:=["walk","steps"]) fun _ _ _ _ _ _=>us2 (fun _ _=>rfl)
 have FZ23:=zaB (st:=zbN) lZ23 cZ23 kZ23;have bZ23:=FZ23.binds (ps:=["machine","early","late"]) fun _ _ _ _ _ _=>us3 (fun _ _ _=>rfl)
 have FZ24:=zaB (st:=zbb) lZ24 cZ24 kZ24;have bZ24:=FZ24.binds (ps:=["machine","early","late"]) fun _ _ _ _ _ _=>us3 (fun _ _ _=>rfl)
 have FZ25:=zaB (st:=za1) lZ25 cZ25 kZ25;have bZ25:=FZ25.binds (ps:=["machine","early","late"]) fun _ _ _ _ _ _=>us3 (fun _ _ _=>rfl)
 have FZ26:=zaB (st:=zbl) lZ26 cZ26 kZ26;have bZ26:=FZ26.binds (ps:=["machine","steps"]) fun _ _ _ _ _ _=>us2 (fun _ _=>rfl)
 have FZ27:=zaB (st:=zc1) lZ27 cZ27 kZ27;have bZ27:=FZ27.binds (ps:=["machine","paper"]) fun _ _ _ _ _ _=>us2 (fun _ _=>rfl)
 have FZ28:=zaB (st:=zbj) lZ28 cZ28 kZ28;have bZ28:=FZ28.binds (ps:=["_law_purse_here"]) fun _ _ _ _ _ _=>us1 (fun _=>rfl)
 have FZ29:=zaB (st:=zc0) lZ29 cZ29 kZ29;have bZ29:=FZ29.binds (ps:=["_law_purse_here"]) fun _ _ _ _ _ _=>us1 (fun _=>rfl)
 have FZ30:=zaB (st:=zcn) lZ30 cZ30 kZ30;have bZ30:=FZ30.binds (ps:=["_law_purse_here"]) fun _ _ _ _ _ _=>us1 (fun _=>rfl)
 have FZ31:=zaB (st:=zcZ) lZ31 cZ31 kZ31;have bZ31:=FZ31.binds (ps:=["_law_purse_here"]) fun _ _ _ _ _ _=>us1 (fun _=>rfl)
 have FZ32:=zaB (st:=zaR) lZ32 cZ32 kZ32;have bZ32:=FZ32.binds (ps:=["_law_machine_here","_law_paper"]) fun _ _ _ _ _ _=>us2 (fun _ _=>rfl)
 have FZ33:=zaB (st:=zhw) lZ33 cZ33 kZ33;have bZ33:=FZ33.binds (ps:=["_law_script"]) fun _ _ _ _ _ _=>us1 (fun _=>rfl)
 have T:Tx K mg ⟨xZ0,_,xZ1,_,xZ2,_,xZ3,_,xZ4,_,xZ5,_,xZ6,_,xZ7,_,xZ8,_,xZ9,_,xZ10,_,xZ11,_,xZ12,_,xZ13,_,xZ14,_,xZ15,_,xZ16,_,xZ17,_,xZ18,_,xZ19,_,xZ20,_,xZ21,_,xZ22,_,xZ23,_,xZ24,_,xZ25,_,xZ26,_,xZ27,_,xZ28,_,xZ29,_,xZ30,_,xZ31,_,xZ32,_,xZ33,_,x_MillError,x_NoMachine,x_Walk⟩:=⟨FZ0,bZ0,mg_of X G aZ0,FZ1,bZ1,mg_of X G aZ1,FZ2,bZ2,mg_of X G aZ2,FZ3,bZ3,mg_of X G aZ3,FZ4,bZ4,mg_of X G aZ4,FZ5,bZ5,mg_of X G aZ5,FZ6,bZ6,mg_of X G aZ6,FZ7,bZ7,⟨mk_Walk,aZ7,iZ7,kc_Walk⟩,FZ8,bZ8,⟨aZ8,iZ8,kZ8⟩,FZ9,bZ9,⟨aZ9,iZ9,kZ9⟩,FZ10,bZ10,⟨aZ10,iZ10,kZ10⟩,FZ11,bZ11,⟨aZ11,iZ11,kZ11⟩,FZ12,bZ12,⟨aZ12,iZ12,kZ12⟩,FZ13,bZ13,mg_of X G aZ13,FZ14,bZ14,mg_of X G aZ14,FZ15,bZ15,mg_of X G aZ15,FZ16,bZ16,mg_of X G aZ16,FZ17,bZ17,mg_of X G aZ17,FZ18,bZ18,mg_of X G aZ18,FZ19,bZ19,mg_of X G aZ19,FZ20,bZ20,mg_of X G aZ20,FZ21,bZ21,mg_of X G aZ21,FZ22,bZ22,mg_of X G aZ22,FZ23,bZ23,mg_of X G aZ23,FZ24,bZ24,mg_of X G aZ24,FZ25,bZ25,mg_of X G aZ25,FZ26,bZ26,mg_of X G aZ26,FZ27,bZ27,mg_of X G aZ27,FZ28,bZ28,mg_of X G aZ28,FZ29,bZ29,mg_of X G aZ29,FZ30,bZ30,mg_of X G aZ30,FZ31,bZ31,mg_of X G aZ31,FZ32,bZ32,mg_of X G aZ32,FZ33,bZ33,mg_of X G aZ33,⟨i_MillError,k_MillError⟩,⟨ga_MillError,na_MillError,cl_MillError,gt,tk,mo_MillError,mb_MillError,by rw [ci_MillError];rfl⟩,mg_of X G a_MillError,⟨⟨_,ci_MillError,mr_MillError⟩,ty_MillError⟩,⟨i_NoMachine,k_NoMachine⟩,⟨ga_NoMachine,na_NoMachine,cl_NoMachine,gt,tk,mo_NoMachine,mb_NoMachine,by rw [ci_NoMachine];rfl⟩,mg_of X G a_NoMachine,⟨⟨_,ci_NoMachine,mr_NoMachine⟩,ty_NoMachine⟩,⟨pg_Walk,hd_Walk,po_Walk,sa_Walk⟩,mg_of X G a_Walk,n_Walk_table,n_Walk_row,n_Walk_place,n_Walk_marks,⟨_,mg_of X G q_MOST_ROWS,⟨_,rfl⟩⟩,⟨_,mg_of X G q_LEAST_SIGNS,⟨_,rfl⟩⟩,⟨_,mg_of X G q_MOST_SIGNS,⟨_,rfl⟩⟩,⟨_,mg_of X G q_MOST_MOMENT,⟨_,rfl⟩⟩,mg_none_of X G z_abs,mg_none_of X G z_all,mg_none_of X G z_bool,mg_none_of X G z_dict,mg_none_of X G z_enumerate,mg_none_of X G z_int,mg_none_of X G z_isinstance,mg_none_of X G z_len,mg_none_of X G z_list,mg_none_of X G z_max,mg_none_of X G z_min,mg_none_of X G z_range,mg_none_of X G z_reversed,mg_none_of X G z_set,mg_none_of X G z_sorted,mg_none_of X G z_sum,mg_none_of X G z_tuple,nd⟩;exact⟨_,fun s v=>.of_eq rfl,fun base _ _=>zmN T⟩
theorem walk {l:PySem.W.OpenLaw} {q:Program} {loose:List Str} {XP:(Str->Option Value)->Heap->Prop} {YP:World->Heap->Prop} {d:DefRec} {K:Params->PySem.W.Frag} (hn:l.most=some 63) (hdf:d.params.defaults=[])
  (hY:∀ (w:World) (h:Heap),YP w h->(K w.params).In h)
  (F:∀ (w:World) (mg:Str->Option Value) (fa:Addr) (h:Heap),(K w.params).In h->h.Ns mainGlobals mg->mg d.name=some (.ref fa) ->
   ∃ fd:FuncData,(∀ (s:Shared) (u:Value),BindsTo s fd ⟨[u],[]⟩ [("_law_script",u)])/\∀ base:Heap,(K w.params).In base->base.Ns mainGlobals mg->zbr l.prog w (K w.params) mg base CX0 10 fa fd ["_law_script"] (zer (K w.params))) :
  PySem.W.WalkO q loose XP YP l.row.toRowW d [] (fun f vs=>PySem.call f vs) :=
 L2.walk_of (n:=63) (k:=10) (x:="_law_script") (CX:=fun _=>CX0) (sp:=fun w=>zer (K w.params)) hn (by decide) hdf ⟨rfl,by decide,by decide⟩ hY F (fun _ _ a ns hl _ hS=>⟨ns,hS,hl,fun _=>rfl⟩) fun _ _ _ _ _ z=>z
end Law
namespace PySem.W.Fast
def tw3704450220602950952:=()
def tw16660046208032810363:=()
def tw944307530077764336:=()
def tw16418718358786465531:=()
def tw3030171928155044195:=()
def tw6790741125941228058:=()
def tw5061186971258988691:=()
def tw8544669459695411651:=()
def tw3665493073048550631:=()
def tw17185936347758660017:=()
def tw64624435167866909:=()
def tw12550174903836143427:=()
def tw11358315722964085942:=()
def tw4169800591996992914:=()
def tw15658017319025543841:=()
def tw17398471632148998257:=()
def tw13186453439912816598:=()
def tw14263947033698333068:=()
def tw10884289811112307129:=()
def tw5489118199618278418:=()
def tw16570963422480638574:=()
def tw16514324362333190471:=()
def tw11149992948177507664:=()
def tw10637549206409311924:=()
def tw3876185611169073842:=()
def tw9338852694753386999:=()
def tw9613503148330681048:=()
def tw7189677584563168833:=()
def tw8773765518673503049:=()
def tw7969391814383724855:=()
def tw14673081705417717548:=()
def tw354296617698642222:=()
def tw12678509197985314910:=()
def tw12467196689446075480:=()
def tw4323193708232109484:=()
def tw12193659640269193972:=()
def tw14446325650031047634:=()
def tw13978116460098848864:=()
def tw17367859734152588835:=()
def tw12665431118128552601:=()
def tw4040917991940589432:=()
def tw1183263139104521587:=()
def tw3481248622791938205:=()
def tw8011984666206641469:=()
def tw12457385431265393014:=()
def tw13912677620318055537:=()
def tw10490314034573373552:=()
def tw7323207223701021239:=()
def tw3055231529514413596:=()
def tw14246340527376453785:=()
def tw9484099419937116714:=()
def tw7276611689795656808:=()
def tw8169043525543102574:=()
def tw6672131803694535997:=()
def tw1802382386268023155:=()
def tw12396164768247348684:=()
def tw14888572026481550126:=()
def tw12707103719707319426:=()
def tw8974505101987407127:=()
def tw8363081771720459692:=()
def tw16607484516031696210:=()
def tw3407240618150962301:=()
def tw309731586132360093:=()
def tw2671338557863683088:=()
def tw11151630817381963127:=()
def tw15845302893310236630:=()
def tw11867743893154158454:=()
def tw17717646103438848567:=()
def tw10835777569211386191:=()
def tw3395102711799178542:=()
def tw10825852798802093150:=()
def tw9357955633551785067:=()
def tw8957984507882916833:=()
def tw26992714570686479:=()
def tw9381214281593874255:=()
def tw7450205576244070525:=()
def tw1130085082996770095:=()
def tw5411946029659008140:=()
def tw9005678443020475141:=()
def tw12245980726348395027:=()
def tw1540856276043244788:=()
def tw13873458071287827303:=()
def tw14933447657303211431:=()
def tw16126360513925759615:=()
def tw6667253261237255159:=()
def tw403269366878157684:=()
def tw6071467309711092075:=()
def tw1809948587818201728:=()
def tw12502845905810424633:=()
def tw3461828422973765027:=()
def tw13676882408843827121:=()
def tw17777871350824903095:=()
def tw17083434241869473912:=()
def tw12748742609663078295:=()
def tw12443967031507548344:=()
def tw13486698653165981711:=()
def tw10566210152326905196:=()
def tw5566591240782247176:=()
def tw13405390203097908402:=()
def tw13663392864081789728:=()
def tw5642538993418978179:=()
def tw15502691415895797885:=()
def tw15800573789381853659:=()
def tw4318845148174586130:=()
def tw780292712621533425:=()
def tw11132058467524639344:=()
def tw11581465083331217900:=()
def tw10832918846629205236:=()
def tw11573802607009803412:=()
def tw5586343234634681213:=()
def tw7929398221924569554:=()
def tw11094881297217223530:=()
def tw14299766094419427862:=()
def tw8523568823090276676:=()
def tw2432895947773144399:=()
def tw16831587866400106165:=()
def tw7967811440785457130:=()
def tw5365737472201731301:=()
def tw2413236216479545975:=()
def tw11542773549586422372:=()
def tw17205212371474691234:=()
def tw15944187132757243153:=()
def tw13505241382807275734:=()
def tw12589082913964299058:=()
def tw11084894873698173170:=()
def tw2534175712473436927:=()
def tw2964593538746406757:=()
def tw15260004998885617193:=()
def tw11419375798686612878:=()
def tw13740015077417454074:=()
def tw7337029625405424829:=()
def tw4868216743692237864:=()
def tw10844379467400000695:=()
def tw686504251959825311:=()
def tw17908233951718380927:=()
def tw6441174710961002659:=()
def tw3534750253347294822:=()
def tw18180861832049312809:=()
def tw16114417992329090924:=()
def tw15010985519575403431:=()
def tw3227117701118934915:=()
def tw18154190626599782586:=()
def tw15547049613272892059:=()
def tw6014711726244710088:=()
def tw3797675906448401793:=()
def tw5163032365967285218:=()
def tw2770046572746703932:=()
def tw2576629968112640960:=()
def tw12628274836727361180:=()
def tw2087653313761498418:=()
def tw16620270568764010726:=()
def tw2513291185545620957:=()
def tw9654557442614593421:=()
def tw7953361824702064206:=()
def tw9429310561952363501:=()
def tw11204666934502165227:=()
def tw11429742241348400192:=()
def tw691185094459347401:=()
def tw14155857481313931998:=()
def tw8094326588060197180:=()
def tw14888640025667212457:=()
def tw6398583968312203092:=()
def tw42403578199680586:=()
def tw10594051587489677611:=()
def tw8663171969602275017:=()
def tw6509859755114632750:=()
def tw8515401866024563360:=()
def tw15444232947000386281:=()
def tw15059287725778335996:=()
def tw14959184477320027895:=()
def tw11907690689531036841:=()
def tw6488456715730921419:=()
def tw10682521926131630528:=()
def tw4161570076885911496:=()
def tw12341748631407825152:=()
def tw2271692620056386227:=()
def tw10634363452206394218:=()
def tw15163259651096877003:=()
def tw7814414890413296127:=()
def tw5479702587467331549:=()
def tw15644440095114641801:=()
def tw70848033702138554:=()
def tw10592785925361621625:=()
def tw9667513838506403479:=()
def tw15889460700826866056:=()
def tw18023962293182780855:=()
def tw14031714854103032069:=()
def tw14979404266155210738:=()
def tw12361400316229408708:=()
def tw15411813504051661617:=()
def tw1011419818010742440:=()
def tw8133812649575705534:=()
def tw8172848610704385890:=()
def tw4314927903668837517:=()
def tw7381369076681744517:=()
def tw168138404187236224:=()
def tw11337430926204041622:=()
def tw18163432723393296785:=()
def tw15736216162415107387:=()
def tw13846803365597629999:=()
def tw2765867980907676147:=()
def tw11863610757273103528:=()
def tw3853679644415539329:=()
end PySem.W.Fast
open PySem PySem.W PyProof.Rows
set_option maxRecDepth 100000 in
set_option maxHeartbeats 0 in
theorem PySem.Challenge.cw_endnever_k25_whole_papers_never_end_holds : PySem.Challenge.rw_endnever_k25_whole_papers_never_end.Holds := by
 w_on;o_law;k_head;(case hw=>w_witness2)
 k_fill
 refine Law.walk (l:=PySem.Challenge.rw_endnever_k25_whole_papers_never_end) rfl rfl (fun w h Y=>PySem.W.kIn_of Y) ?F
 case F =>
  intro w mg fa h KX G hmg
  refine' Law.all_mk KX G hmg ?a_Walk ?pg_Walk ?hd_Walk ?po_Walk ?sa_Walk ?mk_Walk ?kc_Walk ?n_Walk_table ?n_Walk_row ?n_Walk_place ?n_Walk_marks ?aZ0 ?lZ0 ?cZ0 ?kZ0 ?aZ1 ?lZ1 ?cZ1 ?kZ1 ?aZ2 ?lZ2 ?cZ2 ?kZ2 ?aZ3 ?lZ3 ?cZ3 ?kZ3 ?aZ4 ?lZ4 ?cZ4 ?kZ4 ?aZ5 ?lZ5 ?cZ5 ?kZ5 ?aZ6 ?lZ6 ?cZ6 ?kZ6 ?aZ7 ?iZ7 ?lZ7 ?cZ7 ?kZ7 ?aZ8 ?iZ8 ?lZ8 ?cZ8 ?kZ8 ?aZ9 ?iZ9 ?lZ9 ?cZ9 ?kZ9 ?aZ10 ?iZ10 ?lZ10 ?cZ10 ?kZ10 ?aZ11 ?iZ11 ?lZ11 ?cZ11 ?kZ11 ?aZ12 ?iZ12 ?lZ12 ?cZ12 ?kZ12 ?aZ13 ?lZ13 ?cZ13 ?kZ13 ?aZ14 ?lZ14 ?cZ14 ?kZ14 ?aZ15 ?lZ15 ?cZ15 ?kZ15 ?aZ16 ?lZ16 ?cZ16 ?kZ16 ?aZ17 ?lZ17 ?cZ17 ?kZ17 ?aZ18 ?lZ18 ?cZ18 ?kZ18 ?aZ19 ?lZ19 ?cZ19 ?kZ19 ?aZ20 ?lZ20 ?cZ20 ?kZ20 ?aZ21 ?lZ21 ?cZ21 ?kZ21 ?aZ22 ?lZ22 ?cZ22 ?kZ22 ?aZ23 ?lZ23 ?cZ23 ?kZ23 ?aZ24 ?lZ24 ?cZ24 ?kZ24 ?aZ25 ?lZ25 ?cZ25 ?kZ25 ?aZ26 ?lZ26 ?cZ26 ?kZ26 ?aZ27 ?lZ27 ?cZ27 ?kZ27 ?aZ28 ?lZ28 ?cZ28 ?kZ28 ?aZ29 ?lZ29 ?cZ29 ?kZ29 ?aZ30 ?lZ30 ?cZ30 ?kZ30 ?aZ31 ?lZ31 ?cZ31 ?kZ31 ?aZ32 ?lZ32 ?cZ32 ?kZ32 ?aZ33 ?lZ33 ?cZ33 ?kZ33 ?gt ?tk ?a_MillError ?i_MillError ?k_MillError ?ga_MillError ?na_MillError ?cl_MillError ?mo_MillError ?mb_MillError ?ci_MillError ?mr_MillError ?ty_MillError ?a_NoMachine ?i_NoMachine ?k_NoMachine ?ga_NoMachine ?na_NoMachine ?cl_NoMachine ?mo_NoMachine ?mb_NoMachine ?ci_NoMachine ?mr_NoMachine ?ty_NoMachine ?z_abs ?z_all ?z_bool ?z_dict ?z_enumerate ?z_int ?z_isinstance ?z_len ?z_list ?z_max ?z_min ?z_range ?z_reversed ?z_set ?z_sorted ?z_sum ?z_tuple ?nd ?q_MOST_ROWS ?q_LEAST_SIGNS ?q_MOST_SIGNS ?q_MOST_MOMENT
  (case a_Walk=>k_is)
  (case pg_Walk=>k_is)
  (case hd_Walk=>k_is)
  (case po_Walk=>k_is)
  (case sa_Walk=>k_is)
  (case mk_Walk=>k_is)
  (case kc_Walk=>k_is)
  (case n_Walk_table=>k_is)
  (case n_Walk_row=>k_is)
  (case n_Walk_place=>k_is)
  (case n_Walk_marks=>k_is)
  (case aZ0=>k_is)
  (case lZ0=>k_is)
  (case cZ0=>k_is)
  (case kZ0=>k_is)
  (case aZ1=>k_is)
  (case lZ1=>k_is)
  (case cZ1=>k_is)
  (case kZ1=>k_is)
  (case aZ2=>k_is)
  (case lZ2=>k_is)
  (case cZ2=>k_is)
  (case kZ2=>k_is)
  (case aZ3=>k_is)
  (case lZ3=>k_is)
  (case cZ3=>k_is)
  (case kZ3=>k_is)
  (case aZ4=>k_is)
  (case lZ4=>k_is)
  (case cZ4=>k_is)
  (case kZ4=>k_is)
  (case aZ5=>k_is)
  (case lZ5=>k_is)
  (case cZ5=>k_is)
  (case kZ5=>k_is)
  (case aZ6=>k_is)
  (case lZ6=>k_is)
  (case cZ6=>k_is)
  (case kZ6=>k_is)
  (case aZ7=>k_is)
  (case iZ7=>k_is)
  (case lZ7=>k_is)
  (case cZ7=>k_is)
  (case kZ7=>k_is)
  (case aZ8=>k_is)
  (case iZ8=>k_is)
  (case lZ8=>k_is)
  (case cZ8=>k_is)
  (case kZ8=>k_is)
  (case aZ9=>k_is)
  (case iZ9=>k_is)
  (case lZ9=>k_is)
  (case cZ9=>k_is)
  (case kZ9=>k_is)
  (case aZ10=>k_is)
  (case iZ10=>k_is)
  (case lZ10=>k_is)
  (case cZ10=>k_is)
  (case kZ10=>k_is)
  (case aZ11=>k_is)
  (case iZ11=>k_is)
  (case lZ11=>k_is)
  (case cZ11=>k_is)
  (case kZ11=>k_is)
  (case aZ12=>k_is)
  (case iZ12=>k_is)
  (case lZ12=>k_is)
  (case cZ12=>k_is)
  (case kZ12=>k_is)
  (case aZ13=>k_is)
  (case lZ13=>k_is)
  (case cZ13=>k_is)
  (case kZ13=>k_is)
  (case aZ14=>k_is)
  (case lZ14=>k_is)
  (case cZ14=>k_is)
  (case kZ14=>k_is)
  (case aZ15=>k_is)
  (case lZ15=>k_is)
  (case cZ15=>k_is)
  (case kZ15=>k_is)
  (case aZ16=>k_is)
  (case lZ16=>k_is)
  (case cZ16=>k_is)
  (case kZ16=>k_is)
  (case aZ17=>k_is)
  (case lZ17=>k_is)
  (case cZ17=>k_is)
  (case kZ17=>k_is)
  (case aZ18=>k_is)
  (case lZ18=>k_is)
  (case cZ18=>k_is)
  (case kZ18=>k_is)
  (case aZ19=>k_is)
  (case lZ19=>k_is)
  (case cZ19=>k_is)
  (case kZ19=>k_is)
  (case aZ20=>k_is)
  (case lZ20=>k_is)
  (case cZ20=>k_is)
  (case kZ20=>k_is)
  (case aZ21=>k_is)
  (case lZ21=>k_is)
  (case cZ21=>k_is)
  (case kZ21=>k_is)
  (case aZ22=>k_is)
  (case lZ22=>k_is)
  (case cZ22=>k_is)
  (case kZ22=>k_is)
  (case aZ23=>k_is)
  (case lZ23=>k_is)
  (case cZ23=>k_is)
  (case kZ23=>k_is)
  (case aZ24=>k_is)
  (case lZ24=>k_is)
  (case cZ24=>k_is)
  (case kZ24=>k_is)
  (case aZ25=>k_is)
  (case lZ25=>k_is)
  (case cZ25=>k_is)
  (case kZ25=>k_is)
  (case aZ26=>k_is)
  (case lZ26=>k_is)
  (case cZ26=>k_is)
  (case kZ26=>k_is)
  (case aZ27=>k_is)
  (case lZ27=>k_is)
  (case cZ27=>k_is)
  (case kZ27=>k_is)
  (case aZ28=>k_is)
  (case lZ28=>k_is)
  (case cZ28=>k_is)
  (case kZ28=>k_is)
  (case aZ29=>k_is)
  (case lZ29=>k_is)
  (case cZ29=>k_is)
  (case kZ29=>k_is)
  (case aZ30=>k_is)
  (case lZ30=>k_is)
  (case cZ30=>k_is)
  (case kZ30=>k_is)
  (case aZ31=>k_is)
  (case lZ31=>k_is)
  (case cZ31=>k_is)
  (case kZ31=>k_is)
  (case aZ32=>k_is)
  (case lZ32=>k_is)
  (case cZ32=>k_is)
  (case kZ32=>k_is)
  (case aZ33=>k_is)
  (case lZ33=>k_is)
  (case cZ33=>k_is)
  (case kZ33=>k_is)
  (case gt=>k_is)
  (case tk=>k_is)
  (case a_MillError=>k_is)
  (case i_MillError=>k_exc)
  (case k_MillError=>k_is)
  (case ga_MillError=>k_is)
  (case na_MillError=>k_is)
  (case cl_MillError=>k_is)
  (case mo_MillError=>k_is)
  (case mb_MillError=>k_is)
  (case ci_MillError=>k_is)
  (case mr_MillError=>rfl)
  (case ty_MillError=>k_is)
  (case a_NoMachine=>k_is)
  (case i_NoMachine=>k_exc)
  (case k_NoMachine=>k_is)
  (case ga_NoMachine=>k_is)
  (case na_NoMachine=>k_is)
  (case cl_NoMachine=>k_is)
  (case mo_NoMachine=>k_is)
  (case mb_NoMachine=>k_is)
  (case ci_NoMachine=>k_is)
  (case mr_NoMachine=>rfl)
  (case ty_NoMachine=>k_is)
  (case z_abs=>k_is)
  (case z_all=>k_is)
  (case z_bool=>k_is)
  (case z_dict=>k_is)
  (case z_enumerate=>k_is)
  (case z_int=>k_is)
  (case z_isinstance=>k_is)
  (case z_len=>k_is)
  (case z_list=>k_is)
  (case z_max=>k_is)
  (case z_min=>k_is)
  (case z_range=>k_is)
  (case z_reversed=>k_is)
  (case z_set=>k_is)
  (case z_sorted=>k_is)
  (case z_sum=>k_is)
  (case z_tuple=>k_is)
  (case nd=>decide)
  (case q_MOST_ROWS=>k_is)
  (case q_LEAST_SIGNS=>k_is)
  (case q_MOST_SIGNS=>k_is)
  (case q_MOST_MOMENT=>k_is)
