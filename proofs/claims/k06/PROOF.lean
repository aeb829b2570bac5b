import PyProof.Rows.All
import Wide.All
import OpenK.AllK
import Wide.FinOn
import PyProof.EqAt
import PyProof.EqKinds
import PyProof.NeKinds
import PyProof.TupleCall
import PyProof.ExcArgsOwn
import PyProof.EnumFor
import PyProof.EnumStmt
import PyProof.EnumMake
import Lean
import KE.KDictList
import KE.KDictOf
import KE.KEqDict
import KE.KItemsList
import KE.KPairComp
import KE.KRevIter
import KE.KSortTup
import KE.KTupSum
import PyProof.AttrMiss
import PyProof.IsiH_list
import PyProof.Rows.ZipForRows
import PySem.Challenge.RW_endnever_k06_no_machine_at_every_door
local macro_rules | `(tactic| omega) => `(tactic| first | with_reducible assumption | with_reducible exact Nat.le_of_lt (by assumption) | with_reducible exact Nat.lt_of_lt_of_le (by assumption) (by assumption) | with_reducible exact Nat.lt_of_le_of_lt (by assumption) (by assumption) | with_reducible exact Nat.le_trans (by assumption) (by assumption) | with_reducible exact Nat.zero_le _ | lia | omega (config := {}))
set_option genSizeOf false
set_option Elab.async false
set_option linter.all false
def zrY:=@List.length_map
def zrZ:=@List.getElem?_map
def zr0:=@List.getElem?_eq_getElem
def zr1:=@Option.map_eq_some_iff
def zr2:=@List.getElem?_eq_some_iff
def zr3:=@List.mem_of_getElem?
def zr4:=@decide_eq_true
def zr5:=@decide_eq_false
def zr6:=@List.map_append
def zr7:=@List.mem_singleton
def zr8:=@List.length_append
def zr9:=@List.mem_append
def zsa:=@List.append_nil
def zsb:=@PySem.Heap.get?_push_of_some
def zsc:=@Nat.lt_of_le_of_lt
def zsd:=@Nat.le_trans
def zse:=@Nat.le_refl
def zsf:=@Nat.lt_of_lt_of_le
def zsg:=@List.mem_map
def zsh:=@List.mem_cons_of_mem
def zsi:=@List.append_assoc
def zsj:=@List.take_length
def zsk:=@List.take_add_one
def zsl:=@List.length_set
def zsm:=@List.length_take
def zsn:=@List.all_eq_true
def zso:=@PySem.Heap.lt_size
def zsp:=@List.map_map
def zsq:=@List.map_cons
def zsr:=@List.map_nil
def zss:=@List.getElem?_append_left
def zst:=@List.getElem?_append_right
def zsu:=@List.mem_append_left
def zsv:=@List.mem_append_right
def zsw:=@List.mem_cons_self
def zsx:=@PySem.Heap.get?_push_size
def zsy:=@List.size_toArray
def zsz:=@List.length_cons
def zsA:=@if_neg
def zsB:=@if_pos
def zsC:=@Array.length_toList
def zsD:=@Array.getElem?_toList
def zsE:=@List.getD_eq_getElem?_getD
def zsF:=@List.mem_cons
def zsG:=@Nat.ne_of_lt
def zsH:=@of_decide_eq_true
def zsI:=@Bool.false_ne_true
def zsJ:=@Option.some.inj
def zsK:=@List.drop_eq_getElem_cons
def zsL:=@List.map_congr_left
set_option maxRecDepth 100000
set_option maxHeartbeats 4000000
section
namespace L2
open PySem PySem.Spec PyProof.Rows
abbrev Key:=Sum Int Str
def zez:Key->Value->Bool
 | .inl k,v=>Value.isInt k v
 | .inr x,v=>Value.isStrOf x v
def zqK (w:World):Key->Int
 | .inl k=>hashInt k
 | .inr x=>hashStr w x
theorem zaR:∀ {k:Key} {v:Value},zez k v=true->(∃ i t,k=Sum.inl i/\v=Value.int i t)\/(∃ x t,k=Sum.inr x/\v=Value.str x t)
 | .inl i,v,h=>by
  obtain⟨t,e⟩:=Value.isInt_shape (k:=i) (v:=v) h;exact .inl ⟨i,t,rfl,e⟩
 | .inr x,v,h=>by
  obtain⟨t,e⟩:=Value.isStrOf_shape (x:=x) (v:=v) h;exact .inr ⟨x,t,rfl,e⟩
theorem zdW (i:Int) (t:Tok):zez (.inl i) (.int i t)=true:=by simp [zez,Value.isInt]
theorem zkJ (x:Str) (t:Tok):zez (.inr x) (.str x t)=true:=by simp [zez,Value.isStrOf]
theorem zqx (a b:Int):decide ((Sum.inl a:Key)=Sum.inl b)=(a == b):=by
 by_cases e:a=b
 ·subst e;simp
 ·have h:¬ (Sum.inl a:Key)=Sum.inl b:=fun q=>e (Sum.inl.inj q)
  rw [zr5 h];exact (beq_eq_false_iff_ne.mpr e).symm
theorem zpo (a b:Str):decide ((Sum.inr a:Key)=Sum.inr b)=decide (a=b):=by
 by_cases e:a=b
 ·subst e;simp
 ·have h:¬ (Sum.inr a:Key)=Sum.inr b:=fun q=>e (Sum.inr.inj q)
  rw [zr5 h,zr5 e]
theorem zqc (a:Int) (b:Str):decide ((Sum.inl a:Key)=Sum.inr b)=false:=zr5 (fun q=>nomatch q)
theorem zph (a:Str) (b:Int):decide ((Sum.inr a:Key)=Sum.inl b)=false:=zr5 (fun q=>nomatch q)
def zaB (prog:Program) (w:World):PySem.KeyKind prog w Key where
 is:=zez
 hash:=zqK w
 inj:=fun v a b ha hb=>by
  rcases zaR ha with ⟨i,t,rfl,rfl⟩ | ⟨x,t,rfl,rfl⟩
  ·rcases zaR hb with ⟨j,u,rfl,e⟩ | ⟨y,u,rfl,e⟩
   ·injection e with e1 _;rw [e1]
   ·exact nomatch e
  ·rcases zaR hb with ⟨j,u,rfl,e⟩ | ⟨y,u,rfl,e⟩
   ·exact nomatch e
   ·injection e with e1 _;rw [e1]
 byValue:=fun k v h=>by
  rcases zaR h with ⟨i,t,rfl,rfl⟩ | ⟨x,t,rfl,rfl⟩ <;> rfl
 pyHash:=fun hv h=>by
  rcases zaR hv with ⟨i,t,rfl,rfl⟩ | ⟨x,t,rfl,rfl⟩
  ·exact wpAny_pyHash_int h
  ·exact wpAny_pyHash_str h
 eqBool:=fun hu hv h=>by
  rcases zaR hu with ⟨i,t,rfl,rfl⟩ | ⟨x,t,rfl,rfl⟩
  ·rcases zaR hv with ⟨j,u,rfl,rfl⟩ | ⟨y,u,rfl,rfl⟩
   ·rw [zqx] at h;exact wpAny_eqBool_int h
   ·rw [zqc] at h;exact SeqAt.EqAt.int_str i t y u _ _ _ _ h
  ·rcases zaR hv with ⟨j,u,rfl,rfl⟩ | ⟨y,u,rfl,rfl⟩
   ·rw [zph] at h;exact SeqAt.EqAt.str_int x t j u _ _ _ _ h
   ·rw [zpo] at h;exact wpAny_eqBool_str h
 «strs»:=fun k x t v h=>by
  rcases zaR h with ⟨i,u,rfl,e⟩ | ⟨y,u,rfl,e⟩
  ·exact nomatch e
  ·injection e with e1 _
   subst e1;cases v <;> rfl
theorem zfI (prog:Program) (w:World) (k:Key) (v:Value):(zaB prog w).is k v=zez k v:=rfl
theorem zeL (prog:Program) (w:World) (i:Int) (t:Tok):(zaB prog w).is (.inl i) (.int i t)=true:=zdW i t
theorem zil (prog:Program) (w:World) (x:Str) (t:Tok):(zaB prog w).is (.inr x) (.str x t)=true:=zkJ x t
inductive V where
 | non | bl (b:Bool) | int (i:Int) | str (x:Str) | byt (b:Array UInt8) | flt (b:UInt64) | ref (a:Addr) | ty (n:String)
 deriving DecidableEq
def zaY:V->Value->Prop
 | .non,u=>u=Value.none
 | .bl b,u=>u=Value.bool b
 | .int i,u=>∃ t,u=Value.int i t
 | .str x,u=>∃ t,u=Value.str x t
 | .byt b,u=>∃ t,u=Value.bytes b t
 | .flt b,u=>∃ t,u=Value.float b t
 | .ref a,u=>u=Value.ref a
 | .ty n,u=>u=Value.type n
abbrev zaV:List V->List Value->Prop:=Paired zaY
theorem zaV.length {xs:List V} {us:List Value} (r:zaV xs us):xs.length=us.length:=Paired.length r
theorem zaV.get:∀ {xs:List V} {us:List Value} {i:Nat} {x:V},zaV xs us->xs[i]?=some x->∃ u,us[i]?=some u/\zaY x u
 | _,_,_,_,.nil,e=>by simp at e
 | _,_,0,_,.cons r _,e=>by simp at e;subst e;exact⟨_,rfl,r⟩
 | _,_,i+1,x,.cons _ t,e=>by
  obtain⟨u,h1,h2⟩:=zaV.get (i:=i) (x:=x) t (by simpa using e);exact⟨u,by simpa using h1,h2⟩
theorem zaV.set {x:V} {u:Value} (r:zaY x u):∀ {xs:List V} {us:List Value} (i:Nat),zaV xs us->zaV (xs.set i x) (us.set i u)
 | _,_,_,.nil=>.nil
 | _,_,0,.cons _ t=>.cons r t
 | _,_,i+1,.cons q t=>.cons q (zaV.set r i t)
theorem zaV.append:∀ {xs ys:List V} {us ws:List Value},zaV xs us->zaV ys ws->zaV (xs++ys) (us++ws)
 | _,_,_,_,.nil,s=>s
 | _,_,_,_,.cons r t,s=>.cons r (zaV.append t s)
theorem zaV.take:∀ {xs:List V} {us:List Value} (n:Nat),zaV xs us->zaV (xs.take n) (us.take n)
 | _,_,0,_=>.nil
 | _,_,_+1,.nil=>.nil
 | _,_,n+1,.cons r t=>.cons r (zaV.take n t)
theorem zaV.drop:∀ {xs:List V} {us:List Value} (n:Nat),zaV xs us->zaV (xs.drop n) (us.drop n)
 | _,_,0,r=>r
 | _,_,_+1,.nil=>.nil
 | _,_,n+1,.cons _ t=>zaV.drop n t
def zfu:Option V->Option Value->Prop
 | some v,some u=>zaY v u
 | none,none=>True
 | _,_=>False
def KV {κ:Type}:List (κ × V)->List (κ × Value)->Prop:=Paired fun (p:κ × V) (q:κ × Value)=>p.1=q.1/\zaY p.2 q.2
def kV:Key->V
 | .inl i=>.int i
 | .inr x=>.str x
inductive HO where
 | lst (xs:List V)
 | tup (xs:List V)
 | dK (kvs:List (Key × V)) | dT (kvs:List (List Key × V))
 | set (S:Int->Bool) (n:Nat)
 | ins (C dx:Addr) (fs:List (Str × V))
 | own (x:Addr)
 | xd (fs:List (Str × V))
 | met (f x:Addr)
 | rng (lo hi:Int)
 | frz (o:Obj) (u:HO)
 | tbl (ps:Array Value)
 | ext (φ:Heap->Prop)
abbrev Hp:=Addr->Option HO
def upd (H:Hp) (a:Addr) (o:HO):Hp:=fun b=>if b=a then some o else H b
theorem zah {H:Hp} {a:Addr} {o:HO}:upd H a o a=some o:=by unfold upd;rw [zsB rfl]
theorem zao {H:Hp} {a b:Addr} {o:HO} (h:b≠a):upd H a o b=H b:=by unfold upd;rw [zsA h]
theorem znW {H:Hp} {a:Addr} {o u:HO}:upd (upd H a o) a u=upd H a u:=by
 funext b;unfold upd;split <;> rfl
theorem zrD {H:Hp} {a b:Addr} {o u:HO} (h:H a=some o) (h':H b=some u) (d:o≠u):a≠b:=by
 intro e;subst e;rw [h] at h';exact d (zsJ h')
theorem zan {H:Hp} {a b:Addr} {o:HO} (h:H a=some o) (h':H b=none):a≠b:=by
 intro e;subst e;rw [h] at h';cases h'
def zdf (h:Heap) (a:Addr) (items:Array Value):Prop:=∃ o,h.get? a=some o/\o.cls=.type "tuple"/\∃ n,o.data=.seq items n/\o={ cls:=.type "tuple",data:=.seq items n }
theorem zdf.tup {h:Heap} {a:Addr} {items:Array Value} (x:zdf h a items):IsTup h a items:=let ⟨o,e,c,n,d,_⟩:=x;⟨o,e,c,n,d⟩
theorem zdf.lt {h:Heap} {a:Addr} {items:Array Value} (x:zdf h a items):a<h.objs.size:=x.tup.lt
theorem zdf.of {h:Heap} {a:Addr} {items:Array Value} {n:Nat} (x:h.get? a=some { cls:=.type "tuple",data:=.seq items n }):zdf h a items:=⟨_,x,rfl,n,rfl,rfl⟩
theorem zdf.new (h:Heap) (items:Array Value):zdf (h.push { cls:=.type "tuple",data:=.seq items }) h.objs.size items:=.of (zsx _ rfl)
section
variable (P:Program) (w:World)
def zaQ (H:Hp) (h:Heap) (a:Addr):HO->Prop
 | .lst xs=>xs.length<=sizeLine/\∃ (its:List Value) (n:Nat),zaV xs its/\h.get? a=some { cls:=.type "list",data:=.seq its.toArray n }
 | .tup xs=>xs.length<=sizeLine/\∃ its:List Value,zaV xs its/\zdf h a its.toArray
 | .dK kvs=>kvs.length<=sizeLine/\(a == sysModules)=false/\∃ vs,KV kvs vs/\h.DictOf (zaB P w) a vs
 | .dT kvs=>kvs.length<=sizeLine/\(a == sysModules)=false/\∃ xs:List (List Key × Addr × Value),
   Paired (fun (p:List Key × V) (q:List Key × Addr × Value)=>p.1=q.1/\H q.2.1=some (.tup (p.1.map kV))/\zaY p.2 q.2.2) kvs xs /\
   ∃ o es ep,h.get? a=some o/\o.ExactDict/\o.data=.dict es ep/\es.toList=xs.map (entryOfKey (tupleKind (zaB P w)))/\(xs.map (·.1)).Nodup
 | .set S n=>h.SetOf (intKind P w) a S n
 | .ins C dx fs=>H dx=some (.own a)/\fs.length<=1000/\dx≠a/\h.get? a=some (PySem.W.instObj C dx) /\
   ∃ mA,h.Ns1 dx mA/\(∀ f,zfu (fs.lookup f) (mA f))/\PySem.Within mA (fs.map (·.1))
 | .own _=>∃ o,h.get? a=some o
 | .xd fs=>∃ mA,h.Ns1 a mA/\∀ f,zfu (fs.lookup f) (mA f)
 | .rng lo hi=>∃ t u v,h.get? a=some { cls:=.type "range",data:=.fields #[.int lo t,.int hi u,.int 1 v] }
 | .frz o u=>h.get? a=some o/\zaQ H h a u
 | .tbl ps=>h.get? a=some { cls:=.none,data:=.fields ps }
 | .met f x=>h.get? a=some (PySem.W.methodObj (.ref f) (.ref x))
 | .ext φ=>φ h/\(∃ o,h.get? a=some o)/\∀ h1 h2:Heap,φ h1->(∀ o,h1.get? a=some o->h2.get? a=some o)->φ h2
def HOk (H:Hp) (h:Heap):Prop:=∀ a o,H a=some o->zaQ P w H h a o
end
section
variable {P:Program} {w:World} {H H':Hp} {h h':Heap} {a:Addr} {o:HO}
theorem zaQ.lt (x:zaQ P w H h a o):a<h.objs.size:=by
 cases o with
 | lst xs=>obtain⟨_,_,_,_,e⟩:=x;exact zso e
 | tup xs=>obtain⟨_,_,_,p⟩:=x;exact p.lt
 | dK kvs=>obtain⟨_,_,_,_,o,_,_,e,_⟩:=x;exact zso e
 | dT kvs=>obtain⟨_,_,_,_,o,_,_,e,_⟩:=x;exact zso e
 | set S n=>obtain⟨o,_,_,_,e,_⟩:=x;exact zso e
 | ins C dx fs=>obtain⟨_,_,_,e,_⟩:=x;exact zso e
 | own y=>obtain⟨_,e⟩:=x;exact zso e
 | xd fs=>obtain⟨_,⟨_,_,_,e,_⟩,_⟩:=x;exact zso e
 | rng lo hi=>obtain⟨_,_,_,e⟩:=x;exact zso e
 | frz ob u=>obtain⟨e,_⟩:=x;exact zso e
 | tbl ps=>exact zso (show h.get? a=some _ from x)
 | met f y=>exact zso (show h.get? a=some _ from x)
 | ext φ=>obtain⟨_,⟨_,e⟩,_⟩:=x;exact zso e
theorem Paired.mapP {α β:Type} {F G:α->β->Prop}:∀ {l₁:List α} {l₂:List β},Paired F l₁ l₂->(∀ a b,F a b->G a b)->Paired G l₁ l₂
 | _,_,.nil,_=>.nil
 | _,_,.cons r t,f=>.cons (f _ _ r) (Paired.mapP t f)
theorem zaQ.stay (x:zaQ P w H h a o) (k:∀ b u,(b=a\/H b=some (.own a))->h.get? b=some u->h'.get? b=some u)
  (ho:∀ b,H b=some (.own a)->H' b=some (.own a)) (ht:∀ b xs,H b=some (.tup xs)->H' b=some (.tup xs)):zaQ P w H' h' a o:=by
 induction o with
 | lst xs=>obtain⟨z,its,n,r,e⟩:=x;exact⟨z,its,n,r,k _ _ (.inl rfl) e⟩
 | tup xs=>obtain⟨z,its,r,ob,e,c⟩:=x;exact⟨z,its,r,ob,k _ _ (.inl rfl) e,c⟩
 | dK kvs=>obtain⟨z,y,vs,r,ob,es,ep,e,c⟩:=x;exact⟨z,y,vs,r,ob,es,ep,k _ _ (.inl rfl) e,c⟩
 | dT kvs =>
  obtain⟨z,y,xs,r,ob,es,ep,e,c⟩:=x;exact⟨z,y,xs,Paired.mapP r fun p q z=>⟨z.1,ht _ _ z.2.1,z.2.2⟩,ob,es,ep,k _ _ (.inl rfl) e,c⟩
 | set S n=>obtain⟨ob,es,ep,t,e,c⟩:=x;exact⟨ob,es,ep,t,k _ _ (.inl rfl) e,c⟩
 | ins C dx fs =>
  obtain⟨d,z,ne,e,mA,⟨od,es,ep,e2,c⟩,r⟩:=x;exact⟨ho _ d,z,ne,k _ _ (.inl rfl) e,mA,⟨od,es,ep,k _ _ (.inr d) e2,c⟩,r⟩
 | own y=>obtain⟨ob,e⟩:=x;exact⟨ob,k _ _ (.inl rfl) e⟩
 | xd fs=>obtain⟨mA,⟨od,es,ep,e,c⟩,r⟩:=x;exact⟨mA,⟨od,es,ep,k _ _ (.inl rfl) e,c⟩,r⟩
 | rng lo hi=>obtain⟨t,u,v,e⟩:=x;exact⟨t,u,v,k _ _ (.inl rfl) e⟩
 | frz ob u ih=>obtain⟨e,q⟩:=x;exact⟨k _ _ (.inl rfl) e,ih q⟩
 | tbl ps =>
  have e:h.get? a=some { cls:=.none,data:=.fields ps }:=x;show h'.get? a=some { cls:=.none,data:=.fields ps };exact k a _ (.inl rfl) e
 | met f y =>
  have e:h.get? a=some (PySem.W.methodObj (.ref f) (.ref y)):=x;show h'.get? a=some (PySem.W.methodObj (.ref f) (.ref y));exact k a _ (.inl rfl) e
 | ext φ=>obtain⟨p,⟨o,e⟩,st⟩:=x;exact⟨st _ _ p fun o q=>k _ _ (.inl rfl) q,⟨o,k _ _ (.inl rfl) e⟩,st⟩
theorem HOk.lt (x:HOk P w H h) (e:H a=some o):a<h.objs.size:=(x a o e).lt
theorem HOk.fresh (x:HOk P w H h) (e:h.objs.size<=a):H a=none:=by
 cases q:H a with
 | none=>rfl
 | some u=>exact absurd (zsf (x.lt q) e) (Nat.lt_irrefl _)
theorem HOk.kept (x:HOk P w H h) (k:∀ b u,h.get? b=some u->h'.get? b=some u):HOk P w H h':=fun a o e =>
 (x a o e).stay (fun b u _ q=>k b u q) (fun _ q=>q) fun _ _ q=>q
theorem HOk.laid (x:HOk P w H h) (k:∀ b u,h.get? b=some u->h'.get? b=some u) (hp:h.objs.size<=a) (new:zaQ P w (upd H a o) h' a o):HOk P w (upd H a o) h':=fun b u e=>by
 have hn:=x.fresh hp;by_cases hb:b=a
 ·subst hb;rw [zah] at e;cases e;exact new
 ·rw [zao hb] at e;exact (x b u e).stay (fun c v _ q=>k c v q) (fun c q=>by rw [zao (zan q hn)];exact q) fun c xs q=>by rw [zao (zan q hn)];exact q
end
def Rd (H:Hp) (a:Addr) (u:HO):Prop:=H a=some u\/∃ o,H a=some (.frz o u)
theorem Rd.ok {P:Program} {w:World} {H:Hp} {h:Heap} {a:Addr} {u:HO} (r:Rd H a u) (x:HOk P w H h):zaQ P w H h a u:=by
 rcases r with r | ⟨o,r⟩
 ·exact x a u r
 ·obtain⟨_,q⟩:=x a _ r;exact q
def Mut:Option HO->Prop
 | some (.lst _)=>True
 | some (.dK _)=>True
 | some (.dT _)=>True
 | some (.set _ _)=>True
 | some (.ins _ _ _)=>True
 | some (.ext _)=>True
 | _=>False
section
variable {P:Program} {w:World} {H:Hp} {h h':Heap} {x e:Addr} {o':HO}
theorem HOk.write (ok:HOk P w H h) (mu:Mut (H x)) (he:e=x\/H e=some (.own x)) (k:∀ b u,b≠e->h.get? b=some u->h'.get? b=some u) (heo:∃ u,h'.get? e=some u)
  (new:zaQ P w (upd H x o') h' x o'):HOk P w (upd H x o') h':=fun b u q=>by
 have nown:∀ c y,H c=some (.own y)->c≠x:=fun c y r z=>by subst z;rw [r] at mu;exact mu
 have ntup:∀ c xs,H c=some (.tup xs)->c≠x:=fun c xs r z=>by subst z;rw [r] at mu;exact mu
 by_cases hb:b=x
 ·subst hb;rw [zah] at q;cases q;exact new
 ·rw [zao hb] at q;by_cases hbe:b=e
  ·have q':H b=some (.own x):=by
    rcases he with z | z
    ·exact absurd (hbe.trans z) hb
    ·rw [hbe];exact z
   rw [q] at q';cases q';obtain⟨v,hv⟩:=heo;exact⟨v,by rw [hbe];exact hv⟩
  ·refine (ok b u q).stay (fun c v hc r=>k c v ?_ r) (fun c r=>by rw [zao (nown c b r)];exact r) fun c xs r=>by rw [zao (ntup c xs r)];exact r
   rcases hc with rfl | hc
   ·exact hbe
   ·rintro rfl;rcases he with z | z
    ·exact nown c b hc z
    ·rw [hc] at z;cases z;exact hb rfl
end
structure Un (fs ex:List Addr) (H H':Hp) (h h':Heap):Prop where
 keep:∀ b o,h.get? b=some o->H b=none->b ∉ fs->b ∉ ex->h'.get? b=some o
 slot:∀ b o,h.get? b=some o->H b=none->b∈fs->b ∉ ex->∃ sl,h'.get? b=some { o with slots:=sl }
 free:∀ b o,h.get? b=some o->H b=none->b ∉ ex->H' b=none
 there:∀ b o,h.get? b=some o->b ∉ ex->∃ o',h'.get? b=some o'
 tups:∀ b xs,H b=some (.tup xs)->H' b=some (.tup xs)
 frzs:∀ b o u,H b=some (.frz o u)->H' b=some (.frz o u)
 tbls:∀ b ps,H b=some (.tbl ps)->∃ more,H' b=some (.tbl (ps++more))
section
variable {fs fs' ex ex':List Addr} {H H1 H2:Hp} {h h1 h2 h':Heap} {a x e:Addr} {o:HO}
theorem Un.any (u:Un fs ex H H1 h h1) {b:Addr} {ob:Obj} (q:h.get? b=some ob) (n:H b=none) (hx:b ∉ ex):∃ sl,h1.get? b=some { ob with slots:=sl }:=by
 by_cases hb:b∈fs
 ·exact u.slot b ob q n hb hx
 ·exact⟨ob.slots,u.keep b ob q n hb hx⟩
theorem Un.trans (a:Un fs ex H H1 h h1) (b:Un fs ex H1 H2 h1 h2):Un fs ex H H2 h h2 where
 keep:=fun c ob q n hc hx=>b.keep c ob (a.keep c ob q n hc hx) (a.free c ob q n hx) hc hx
 slot:=fun c ob q n hc hx=>by
  obtain⟨sl,e1⟩:=a.slot c ob q n hc hx;obtain⟨sl',e2⟩:=b.slot c _ e1 (a.free c ob q n hx) hc hx;exact⟨sl',e2⟩
 free:=fun c ob q n hx=>by
  obtain⟨o',e1⟩:=a.there c ob q hx;exact b.free c o' e1 (a.free c ob q n hx) hx
 there:=fun c ob q hx=>by
  obtain⟨o',e1⟩:=a.there c ob q hx;exact b.there c o' e1 hx
 tups:=fun c xs q=>b.tups c xs (a.tups c xs q)
 frzs:=fun c ob xs q=>b.frzs c ob xs (a.frzs c ob xs q)
 tbls:=fun c ps q=>by
  obtain⟨m1,e1⟩:=a.tbls c ps q;obtain⟨m2,e2⟩:=b.tbls c _ e1;exact⟨m1++m2,by rw [e2,Array.append_assoc]⟩
theorem Un.kept (k:∀ b u,h.get? b=some u->h'.get? b=some u):Un fs ex H H h h' :=
 ⟨fun b ob q _ _ _=>k b ob q,fun b ob q _ _ _=>⟨ob.slots,k b ob q⟩,fun _ _ _ n _=>n,fun b ob q _=>⟨ob,k b ob q⟩,fun _ _ q=>q,fun _ _ _ q=>q,fun _ ps q=>⟨#[],by rw [q];simp⟩⟩
theorem Un.refl:Un fs ex H H h h:=Un.kept fun _ _ q=>q
theorem Un.laid (k:∀ b u,h.get? b=some u->h'.get? b=some u) (hp:h.objs.size<=a) (hn:H a=none):Un fs ex H (upd H a o) h h' where
 keep:=fun b u q _ _ _=>k b u q
 slot:=fun b u q _ _ _=>⟨u.slots,k b u q⟩
 free:=fun b u q n _=>by rw [zao (zsG (zsf (zso q) hp))];exact n
 there:=fun b u q _=>⟨u,k b u q⟩
 tups:=fun b xs q=>by rw [zao (zan q hn)];exact q
 frzs:=fun b u xs q=>by rw [zao (zan q hn)];exact q
 tbls:=fun b ps q=>⟨#[],by rw [zao (zan q hn),q];simp⟩
theorem Un.write (mu:Mut (H x)) (he:e=x\/H e=some (.own x)) (k:∀ b u,b≠e->h.get? b=some u->h'.get? b=some u) (heo:∃ u,h'.get? e=some u):Un fs ex H (upd H x o) h h':=by
 have hx:∀ b,H b=none->b≠x:=fun b n z=>by subst z;rw [n] at mu;exact mu
 have hb:∀ b,H b=none->b≠e:=fun b n z=>by
  subst z;rcases he with r | r
  ·exact hx b n r
  ·rw [n] at r;cases r
 have hm:∀ b u,H b=some u->¬ Mut (some u)->b≠x:=fun b u q nm z=>by subst z;rw [q] at mu;exact nm mu
 refine⟨fun b u q n _ _=>k b u (hb b n) q,fun b u q n _ _=>⟨u.slots,k b u (hb b n) q⟩,fun b u q n _=>by rw [zao (hx b n)];exact n,fun b u q _=>?_,
  fun b xs q=>by rw [zao (hm b _ q fun z=>z)];exact q,fun b u xs q=>by rw [zao (hm b _ q fun z=>z)];exact q,fun b ps q=>⟨#[],by rw [zao (hm b _ q fun z=>z),q];simp⟩⟩
 by_cases hbe:b=e
 ·subst hbe;exact heo
 ·exact⟨u,k b u hbe q⟩
end
def trk (h:Heap) (H:Hp):List Addr:=(List.range h.objs.size).filter fun a=>(H a).isSome
def zm8 (h:Heap) (H:Hp):Heap:=PySem.W.hideAll h (trk h H)
theorem zlj (h:Heap) (H:Hp):(zm8 h H).objs.size=h.objs.size:=PySem.W.hideAll_size _ _
theorem zlW {h:Heap} {H:Hp} {b:Addr} {o:Obj} (e:h.get? b=some o) (n:H b=none):(zm8 h H).get? b=some o :=
 PySem.W.hideAll_get _ e fun hm=>by
  have q:(H b).isSome=true:=(List.mem_filter.mp hm).2;rw [n] at q;simp at q
theorem zo1 {h:Heap} {H:Hp} {b:Addr} {o:Obj} (e:(zm8 h H).get? b=some o):h.get? b=some o/\H b=none:=by
 have e':h.get? b=some o:=PySem.W.of_hideAll (trk h H) e;refine⟨e',?_⟩;cases q:H b with
 | none=>rfl
 | some x =>
  have hm:b∈trk h H:=List.mem_filter.mpr ⟨List.mem_range.mpr (zso e'),by simp [q]⟩;have z:(zm8 h H).get? b=none:=PySem.W.hideAll_none (trk h H) hm;rw [z] at e;cases e
structure Mod (K:PySem.W.Frag) (mg:Str->Option Value) (base:Heap):Prop where
 kin:K.In base
 glob:base.Ns mainGlobals mg
 blt:∃ mb,base.Ns builtinsNs mb/\∀ x:Str,x≠"__name__"->mb x=bootBuiltins x
 nolimit:base.NoLimit
structure Cx where
 prog:Program
 w:World
 K:PySem.W.Frag
 mg:Str->Option Value
 base:Heap
 A:Around
 N:List Str
 s₀:Shared
 H₀:Hp
 env:Env
 outer:List Env
 stack:List Env
 ex:List Addr
 fn:Str->Bool
 calm:Bool
 pn:List (Addr × Obj)
 xe:Value->Shared->Prop
def frs (l:List Env):List Addr:=l.filterMap (·.frame)
abbrev Cx.fs (X:Cx):List Addr:=frs X.outer
def Vis (sc:Scope) (x:Str):Prop:=sc.names.lookup x=some .local\/sc.names.lookup x=some .cell\/sc.names.lookup x=some .free
def Loc (sc:Scope) (x:Str):Prop:=sc.names.lookup x=some .local\/sc.names.lookup x=some .cell
def Look (env:Env) (h:Heap) (m:Str->Option Value) (x:Str) (u:Value):Prop :=
 (env.kindOf x=some .local/\m x=some u)\/((env.kindOf x=some .cell\/env.kindOf x=some .free)/\∃ c,env.cells.lookup x=some c/\h.IsCell c (some u))
structure Cx.Ok (X:Cx):Prop where
 mod:Mod X.K X.mg X.base
 kind:X.env.scope.kind=.function
 glob:X.env.globals=mainGlobals
 blt:X.env.builtins=builtinsNs
 above:X.s₀.heap.objs.size<=X.env.locals
 inj:∀ x y c,X.env.cells.lookup x=some c->X.env.cells.lookup y=some c->x=y
 has:∀ x,(X.env.kindOf x=some .cell\/X.env.kindOf x=some .free)->∃ c,X.env.cells.lookup x=some c
 cab:∀ x c,X.fn x=true->X.env.cells.lookup x=some c->X.s₀.heap.objs.size<=c
 hd:X.calm=true->X.A.handled=none
 frames:X.A.frames=some X.stack
 stk:X.stack=X.outer\/(X.stack=X.env::X.outer/\X.env.frame=some X.env.locals)
 exf:∀ b∈X.ex,b≠X.env.locals/\∀ x c,X.env.cells.lookup x=some c->c≠b
 bs:∀ b o,X.base.get? b=some o->X.s₀.heap.get? b=some o/\X.H₀ b=none
 bsz:X.base.objs.size<=X.s₀.heap.objs.size
 noex:∀ b o,X.base.get? b=some o->b ∉ X.ex
 exfs:∀ b∈X.ex,b ∉ X.fs
 funs:X.s₀.heap.FunFrames X.base X.outer
 frf:∀ b∈X.fs,X.H₀ b=none
structure Inv (X:Cx) (pins:List (Addr × Obj)) (σ:List (Option V)) (H:Hp) (s:Shared):Prop where
 ok:X.Ok
 os:s.os=X.s₀.os
 bare:AllBare s.gens
 base:Un X.fs X.ex X.H₀ H X.s₀.heap s.heap
 loc:∃ m,s.heap.Ns X.env.locals m/\∀ (i:Nat) (x:Str) (v:V),X.N[i]?=some x->σ[i]?=some (some v)->Vis X.env.scope x->∃ u,zaY v u/\Look X.env s.heap m x u
 cell:∀ x c,X.env.cells.lookup x=some c->∃ v,s.heap.IsCell c v
 free:H X.env.locals=none
 freeC:∀ x c,X.env.cells.lookup x=some c->H c=none
 pin:∀ p∈X.pn++pins,s.heap.get? p.1=some p.2/\H p.1=none/\p.1≠X.env.locals/\p.1 ∉ X.fs/\∀ v,p.2.data≠.cell v
 hok:HOk X.prog X.w H s.heap
 len:σ.length=X.N.length
section
variable {X:Cx} {pins:List (Addr × Obj)} {σ:List (Option V)} {H H':Hp} {s:Shared} {h':Heap}
theorem Cx.Ok.nofr (ok:X.Ok) {b:Addr} {o:Obj} (e:X.base.get? b=some o):b ∉ X.fs:=fun hb=>by
 have:=(ok.funs.mem hb).1
 rw [e] at this;cases this
theorem Inv.bs (I:Inv X pins σ H s):∀ b o,X.base.get? b=some o->s.heap.get? b=some o/\H b=none:=fun b o e =>
 ⟨I.base.keep b o (I.ok.bs b o e).1 (I.ok.bs b o e).2 (I.ok.nofr e) (I.ok.noex b o e),I.base.free b o (I.ok.bs b o e).1 (I.ok.bs b o e).2 (I.ok.noex b o e)⟩
theorem Inv.bk (I:Inv X pins σ H s):∀ b o,X.base.get? b=some o->s.heap.get? b=some o:=fun b o e=>(I.bs b o e).1
theorem Inv.mod (I:Inv X pins σ H s):Mod X.K X.mg X.base:=I.ok.mod
theorem Inv.kIn (I:Inv X pins σ H s):X.K.In s.heap:=I.ok.mod.kin.keeps I.bk
theorem Inv.lt (I:Inv X pins σ H s):X.env.locals<s.heap.objs.size:=let ⟨_,hn,_⟩:=I.loc;hn.lt
theorem Inv.sz (I:Inv X pins σ H s):X.s₀.heap.objs.size<=s.heap.objs.size:=zsd I.ok.above (Nat.le_of_lt I.lt)
theorem Inv.nofs (I:Inv X pins σ H s) {a:Addr} (h:s.heap.objs.size<=a):a ∉ X.fs:=fun hb=>by
 obtain⟨_,o,ho,_⟩:=I.ok.funs.mem hb;exact absurd (zsf (zso ho) (zsd I.sz h)) (Nat.lt_irrefl _)
theorem Inv.cne (I:Inv X pins σ H s):∀ x c,X.env.cells.lookup x=some c->c≠X.env.locals:=fun x c e z=>by
 obtain⟨v,o,ho,hd⟩:=I.cell x c e;obtain⟨m,⟨o',es,ep,ho',hd',_⟩,_⟩:=I.loc;rw [z,ho'] at ho;cases ho;rw [hd'] at hd;cases hd
theorem Inv.funs (I:Inv X pins σ H s):s.heap.FunFrames X.base X.outer:=by
 have all:∀ (l:List Env),(∀ b∈frs l,b∈X.fs)->X.s₀.heap.FunFrames X.base l->s.heap.FunFrames X.base l:=by
  intro l
  induction l with
  | nil=>intro _ _;trivial
  | cons env r ih =>
   intro hs hl;obtain⟨hk,⟨L,o,hf,hn,ho,hd⟩,hr⟩:=hl;have hL:L∈X.fs:=hs L (by unfold frs;rw [List.filterMap_cons,hf];exact zsw);obtain⟨sl,e⟩:=I.base.slot L o ho (I.ok.frf L hL) hL fun z=>I.ok.exfs L z hL
   exact⟨hk,⟨L,_,hf,hn,e,hd⟩,ih (fun b hb=>hs b (by unfold frs;rw [List.filterMap_cons,hf];exact zsh _ hb)) hr⟩
 exact all X.outer (fun _ hb=>hb) I.ok.funs
theorem Inv.stack (I:Inv X pins σ H s):s.heap.FunFrames X.base X.stack:=by
 rcases I.ok.stk with e | ⟨e,hf⟩
 ·rw [e];exact I.funs
 ·rw [e];obtain⟨m,hn,_⟩:=I.loc;refine .cons (by rw [I.ok.kind];decide) hf hn ?_ I.funs;exact Heap.get?_none_of_le (zsd I.ok.bsz I.ok.above)
theorem Inv.stkSub (I:Inv X pins σ H s):∀ b∈frs X.stack,b∈X.env.locals::X.fs:=fun b hb=>by
 rcases I.ok.stk with e | ⟨e,hf⟩
 ·rw [e] at hb;exact zsh _ hb
 ·rw [e] at hb;unfold frs at hb;rw [List.filterMap_cons,hf] at hb;exact hb
theorem Inv.stkFree (I:Inv X pins σ H s):∀ b∈frs X.stack,H b=none:=fun b hb=>by
 rcases zsF.mp (I.stkSub b hb) with e | hb
 ·rw [e];exact I.free
 ·obtain⟨_,o,ho,_⟩:=I.ok.funs.mem hb;exact I.base.free b o ho (I.ok.frf b hb) fun z=>I.ok.exfs b z hb
theorem Inv.step {g':Array GenState} {t':Nat} {d':Drawn} {ch:List Addr} (I:Inv X pins σ H s)
  (hch:∀ b∈ch,(b∈X.ex\/X.s₀.heap.objs.size<=b)/\b≠X.env.locals/\(∀ x c,X.env.cells.lookup x=some c->c≠b)/\∀ p∈X.pn++pins,p.1≠b)
  (keep:∀ b o,b≠X.env.locals->b ∉ X.fs->b ∉ ch->s.heap.get? b=some o->H b=none->h'.get? b=some o)
  (slot:∀ b o,b≠X.env.locals->b∈X.fs->b ∉ ch->s.heap.get? b=some o->H b=none->∃ sl,h'.get? b=some { o with slots:=sl }) (free:∀ b o,b ∉ ch->s.heap.get? b=some o->H b=none->H' b=none)
  (there:∀ b o,b ∉ ch->s.heap.get? b=some o->∃ o',h'.get? b=some o')
  (tups:∀ b xs,H b=some (.tup xs)->H' b=some (.tup xs)) (frzs:∀ b o u,H b=some (.frz o u)->H' b=some (.frz o u)) (tbls:∀ b ps,H b=some (.tbl ps)->∃ more,H' b=some (.tbl (ps++more)))
  (ns:∀ m,s.heap.Ns X.env.locals m->h'.Ns X.env.locals m) (hok:HOk X.prog X.w H' h') (hg:AllBare g') :
  Inv X pins σ H' { s with heap:=h',gens:=g',drawn:=d',toks:=t' }:=by
 have neL:∀ b o,X.s₀.heap.get? b=some o->b≠X.env.locals:=fun b o e=>zsG (zsf (zso e) I.ok.above)
 have neC:∀ b o,X.s₀.heap.get? b=some o->b ∉ X.ex->b ∉ ch:=fun b o e hx hb=>by
  rcases (hch b hb).1 with z | z
  ·exact hx z
  ·exact absurd (zsf (zso e) z) (Nat.lt_irrefl _)
 have cellK:∀ x c,X.env.cells.lookup x=some c->∀ v,s.heap.IsCell c v->h'.IsCell c v:=fun x c e v ⟨o,ho,hd⟩=>by
  have nch:c ∉ ch:=fun z=>(hch c z).2.2.1 x c e rfl
  by_cases hc:c∈X.fs
  ·obtain⟨sl,q⟩:=slot c o (I.cne x c e) hc nch ho (I.freeC x c e);exact⟨_,q,hd⟩
  ·exact⟨o,keep c o (I.cne x c e) hc nch ho (I.freeC x c e),hd⟩
 refine⟨I.ok,I.os,hg,⟨fun b o e n hb hx=>?_,fun b o e n hb hx=>?_,fun b o e n hx=>?_,fun b o e hx=>?_,fun b xs e=>tups b xs (I.base.tups b xs e),fun b o xs e=>frzs b o xs (I.base.frzs b o xs e),fun b ps e=>?_⟩,?_,fun x c e=>?_,?_,fun x c e=>?_,fun p hp=>?_,hok,I.len⟩
 ·exact keep b o (neL b o e) hb (neC b o e hx) (I.base.keep b o e n hb hx) (I.base.free b o e n hx)
 ·obtain⟨sl,e1⟩:=I.base.slot b o e n hb hx;obtain⟨sl',e2⟩:=slot b _ (neL b o e) hb (neC b o e hx) e1 (I.base.free b o e n hx);exact⟨sl',e2⟩
 ·obtain⟨o',e1⟩:=I.base.there b o e hx;exact free b o' (neC b o e hx) e1 (I.base.free b o e n hx)
 ·obtain⟨o',e1⟩:=I.base.there b o e hx;exact there b o' (neC b o e hx) e1
 ·obtain⟨m1,e1⟩:=I.base.tbls b ps e;obtain⟨m2,e2⟩:=tbls b _ e1;exact⟨m1++m2,by rw [e2,Array.append_assoc]⟩
 ·obtain⟨m,hn,hl⟩:=I.loc;refine⟨m,ns m hn,fun i x v e1 e2 e3=>?_⟩;obtain⟨u,r,l⟩:=hl i x v e1 e2 e3;refine⟨u,r,?_⟩;rcases l with l | ⟨k,c,e,z⟩
  ·exact .inl l
  ·exact .inr ⟨k,c,e,cellK x c e _ z⟩
 ·obtain⟨v,z⟩:=I.cell x c e;exact⟨v,cellK x c e v z⟩
 ·obtain⟨m,⟨o,_,_,ho,_⟩,_⟩:=I.loc;exact free _ o (fun z=>(hch _ z).2.1 rfl) ho I.free
 ·obtain⟨v,o,ho,hd⟩:=I.cell x c e;exact free c o (fun z=>(hch c z).2.2.1 x c e rfl) ho (I.freeC x c e)
 ·obtain⟨e,n,ne,nf,d⟩:=I.pin p hp;have nch:p.1 ∉ ch:=fun z=>(hch p.1 z).2.2.2 p hp rfl
  exact⟨keep p.1 p.2 ne nf nch e n,free p.1 p.2 nch e n,ne,nf,d⟩
theorem Inv.un {t':Nat} (I:Inv X pins σ H s) (u:Un X.fs [] H H' s.heap h') (hok:HOk X.prog X.w H' h'):Inv X pins σ H' { s with heap:=h',toks:=t' }:=by
 obtain⟨m,⟨o,es,ep,ho,r⟩,_⟩:=id I.loc;obtain⟨sl,hL⟩:=u.any ho I.free (by simp);exact I.step (g':=s.gens) (d':=s.drawn) (ch:=[]) (fun _ z=>nomatch z) (fun b o _ hb _ e n=>u.keep b o e n hb (by simp)) (fun b o _ hb _ e n=>u.slot b o e n hb (by simp)) (fun b o _ e n=>u.free b o e n (by simp)) (fun b o _ e=>u.there b o e (by simp)) u.tups u.frzs u.tbls (fun m' hm=>by
  obtain⟨o',es',ep',ho',r'⟩:=hm;rw [ho] at ho';cases ho';exact⟨_,es',ep',hL,r'⟩) hok I.bare
theorem Inv.call {g':Array GenState} {t':Nat} {d':Drawn} {ch:List Addr} (I:Inv X pins σ H s) (u:Un (frs X.stack) ch H H' s.heap h') (hok:HOk X.prog X.w H' h') (hg:AllBare g')
  (hch:∀ b∈ch,(b∈X.ex\/X.s₀.heap.objs.size<=b)/\b≠X.env.locals/\(∀ x c,X.env.cells.lookup x=some c->c≠b)/\∀ p∈X.pn++pins,p.1≠b) :
  Inv X pins σ H' { s with heap:=h',gens:=g',drawn:=d',toks:=t' }:=by
 obtain⟨m,⟨o,es,ep,ho,r⟩,_⟩:=id I.loc;obtain⟨sl,hL⟩:=u.any ho I.free fun z=>(hch _ z).2.1 rfl
 exact I.step (ch:=ch) hch (fun b o hL hb hc e n=>u.keep b o e n (fun z=>(zsF.mp (I.stkSub b z)).elim hL hb) hc) (fun b o _ _ hc e n=>u.any e n hc) (fun b o hc e n=>u.free b o e n hc) (fun b o hc e=>u.there b o e hc) u.tups u.frzs u.tbls (fun m' hm=>by
  obtain⟨o',es',ep',ho',r'⟩:=hm;rw [ho] at ho';cases ho';exact⟨_,es',ep',hL,r'⟩) hok hg
theorem Inv.turned {t':Nat} {it:Addr} (I:Inv X pins σ H s) (k:∀ b o,b≠it->s.heap.get? b=some o->h'.get? b=some o) (hn:H it=none) (hL:it≠X.env.locals)
  (h1:it∈X.ex\/X.s₀.heap.objs.size<=it) (h2:∀ x c,X.env.cells.lookup x=some c->c≠it) (h3:∀ p∈X.pn++pins,p.1≠it):Inv X pins σ H { s with heap:=h',toks:=t' }:=by
 have nit:∀ b u,H b=some u->b≠it:=fun b u e z=>by rw [z,hn] at e;cases e
 refine I.step (g':=s.gens) (d':=s.drawn) (ch:=[it]) (fun b hb=>?_) (fun b o _ _ hc e _=>k b o (fun z=>hc (by simp [z])) e) (fun b o _ _ hc e _=>⟨o.slots,k b o (fun z=>hc (by simp [z])) e⟩) (fun _ _ _ _ n=>n)
  (fun b o hc e=>⟨o,k b o (fun z=>hc (by simp [z])) e⟩) (fun _ _ e=>e) (fun _ _ _ e=>e) (fun b ps e=>⟨#[],by rw [e];simp⟩) (fun m hm=>?_) (fun b u e=>?_) I.bare
 ·have e:b=it:=by simpa using hb
  subst e;exact⟨h1,hL,h2,h3⟩
 ·obtain⟨o,es,ep,ho,r⟩:=hm;exact⟨o,es,ep,k _ o (Ne.symm hL) ho,r⟩
 ·refine (I.hok b u e).stay (fun c v hc q=>k c v ?_ q) (fun _ q=>q) fun _ _ q=>q
  rcases hc with z | z
  ·rw [z];exact nit b u e
  ·exact nit c _ z
theorem Inv.tok (I:Inv X pins σ H s) (t:Nat):Inv X pins σ H { s with toks:=t }:=I.un (h':=s.heap) (t':=t) Un.refl I.hok
theorem Inv.kept {t':Nat} (I:Inv X pins σ H s) (k:∀ b u,s.heap.get? b=some u->h'.get? b=some u):Inv X pins σ H { s with heap:=h',toks:=t' }:=I.un (Un.kept k) (I.hok.kept k)
theorem Inv.laid {a:Addr} {o:HO} {t':Nat} (I:Inv X pins σ H s) (k:∀ b u,s.heap.get? b=some u->h'.get? b=some u) (hp:s.heap.objs.size<=a) (new:zaQ X.prog X.w (upd H a o) h' a o) :
  Inv X pins σ (upd H a o) { s with heap:=h',toks:=t' }:=I.un (Un.laid k hp (I.hok.fresh hp)) (I.hok.laid k hp new)
theorem Inv.write {x e:Addr} {o:HO} {t':Nat} (I:Inv X pins σ H s) (mu:Mut (H x)) (he:e=x\/H e=some (.own x)) (k:∀ b u,b≠e->s.heap.get? b=some u->h'.get? b=some u) (heo:∃ u,h'.get? e=some u)
  (new:zaQ X.prog X.w (upd H x o) h' x o):Inv X pins σ (upd H x o) { s with heap:=h',toks:=t' }:=I.un (Un.write mu he k heo) (I.hok.write mu he k heo new)
theorem Inv.weak {σ':List (Option V)} (I:Inv X pins σ H s) (hl:σ'.length=σ.length) (w:∀ (i:Nat) v,σ'[i]?=some (some v)->σ[i]?=some (some v)):Inv X pins σ' H s :=
 ⟨I.ok,I.os,I.bare,I.base,let ⟨m,hn,hl'⟩:=I.loc;⟨m,hn,fun i x v e1 e2 e3=>hl' i x v e1 (w i v e2) e3⟩,I.cell,I.free,I.freeC,I.pin,I.hok,hl.trans I.len⟩
theorem Inv.pins_of {pins':List (Addr × Obj)} (I:Inv X pins σ H s) (h:∀ p∈pins',s.heap.get? p.1=some p.2/\H p.1=none/\p.1≠X.env.locals/\p.1 ∉ X.fs/\∀ v,p.2.data≠.cell v):Inv X pins' σ H s :=
 ⟨I.ok,I.os,I.bare,I.base,I.loc,I.cell,I.free,I.freeC,fun p hp=>(zr9.mp hp).elim (fun z=>I.pin p (zsu _ z)) (h p),I.hok,I.len⟩
theorem zgg {N:List Str} (hN:N.Nodup) {i j:Nat} {x:Str} (a:N[i]?=some x) (b:N[j]?=some x):i=j:=by
 obtain⟨h1,e1⟩:=zr2.mp a;obtain⟨h2,e2⟩:=zr2.mp b;exact (List.getElem_inj hN).mp (e1.trans e2.symm)
theorem zhi {M:Model} {A:Around} {E:Value->Shared->Prop} {i:Nat} {x:Str} {v:V} {u:Value} {Q:Unit->Shared->Prop} (I:Inv X pins σ H s) (hN:X.N.Nodup) (hi:X.N[i]?=some x) (hx:Loc X.env.scope x) (r:zaY v u)
  (h:∀ s',Inv X pins (σ.set i (some v)) H s'->(∃ a,Heap.SameBut a s.heap s'.heap/\(a=X.env.locals\/X.env.cells.lookup x=some a))->Q () s') (hf:X.fn x=true\/X.env.scope.names.lookup x=some .local:=by first | exact .inl rfl | exact .inr rfl | assumption):wpAny M A (storeName X.env x u) Q E s:=by
 obtain⟨m,hn,hl⟩:=id I.loc;have hcls:(X.env.scope.kind == .class || (X.env.scope.kind == .module && X.env.locals != X.env.globals))=false:=by rw [I.ok.kind];rfl
 have hiσ:i<σ.length:=by rw [I.len];exact (zr2.mp hi).1
 have cne:=I.cne;have tracked:∀ {a:Addr} {h':Heap},(∃ o,s.heap.get? a=some o/\H a=none)->Heap.SameBut a s.heap h'->HOk X.prog X.w H h':=fun {a h'} ha hs b ob e=>by
  obtain⟨_,_,hfree⟩:=ha;refine (I.hok b ob e).stay (fun c w' hc q=>(hs.2 c ?_).trans q) (fun _ q=>q) fun _ _ q=>q
  rintro rfl;rcases hc with rfl | hc
  ·rw [hfree] at e;cases e
  ·rw [hfree] at hc;cases hc
 rcases hx with hk | hk
 ·refine wpAny_storeName_local hk hn (fun h' hn' hs=>?_) hcls;obtain⟨oL,_,_,hoL,_⟩:=id hn;refine h _ ⟨I.ok,I.os,I.bare,⟨fun b o e n hb hx=>?_,fun b o e n hb hx=>?_,I.base.free,fun b o e hx=>?_,I.base.tups,I.base.frzs,I.base.tbls⟩,⟨_,hn',fun j y v' e1 e2 e3=>?_⟩,fun y c e=>?_,I.free,I.freeC,fun p hp=>?_,tracked ⟨oL,hoL,I.free⟩ hs,by simpa using I.len⟩ ⟨_,hs,.inl rfl⟩
  ·exact (hs.2 b (zsG (zsf (zso e) I.ok.above))).trans (I.base.keep b o e n hb hx)
  ·obtain⟨sl,e1⟩:=I.base.slot b o e n hb hx;exact⟨sl,(hs.2 b (zsG (zsf (zso e) I.ok.above))).trans e1⟩
  ·obtain⟨o',e1⟩:=I.base.there b o e hx;exact⟨o',(hs.2 b (zsG (zsf (zso e) I.ok.above))).trans e1⟩
  ·by_cases hj:j=i
   ·subst hj;rw [hi] at e1;cases e1;rw [List.getElem?_set_self hiσ] at e2;cases e2;exact⟨u,r,.inl ⟨hk,by simp⟩⟩
   ·rw [List.getElem?_set_ne (Ne.symm hj)] at e2;obtain⟨u',r',q⟩:=hl j y v' e1 e2 e3;refine⟨u',r',?_⟩;rcases q with ⟨k,e⟩ | ⟨k,c,e,z⟩
    ·refine .inl ⟨k,?_⟩
     have:y≠x:=fun e=>hj (zgg hN e1 (e ▸ hi))
     simp [this,e]
    ·exact .inr ⟨k,c,e,z.sameBut hs (cne y c e)⟩
  ·obtain⟨w',z⟩:=I.cell y c e;exact⟨w',z.sameBut hs (cne y c e)⟩
  ·obtain⟨e,n,ne,nf,d⟩:=I.pin p hp;exact⟨(hs.2 p.1 ne).trans e,n,ne,nf,d⟩
 ·have hfn:X.fn x=true:=by
   rcases hf with z | z
   ·exact z
   ·rw [z] at hk;cases hk
  obtain⟨c,hc⟩:=I.ok.has x (.inl hk);obtain⟨w',z⟩:=I.cell x c hc;refine wpAny_storeName_cell I.ok.kind hk hc z (fun h' hc' hs=>?_);obtain⟨oc,hoc,hocd⟩:=id z;refine h { s with heap:=h' } ⟨I.ok,I.os,I.bare,⟨fun b o e n hb hx=>?_,fun b o e n hb hx=>?_,I.base.free,fun b o e hx=>?_,I.base.tups,I.base.frzs,I.base.tbls⟩,⟨m,hn.sameBut hs (Ne.symm (cne x c hc)),fun j y v' e1 e2 e3=>?_⟩,fun y c' e=>?_,I.free,I.freeC,fun p hp=>?_,tracked ⟨oc,hoc,I.freeC x c hc⟩ hs,by simpa using I.len⟩ ⟨c,hs,.inr hc⟩
  ·exact (hs.2 b (zsG (zsf (zso e) (I.ok.cab x c hfn hc)))).trans (I.base.keep b o e n hb hx)
  ·obtain⟨sl,e1⟩:=I.base.slot b o e n hb hx;exact⟨sl,(hs.2 b (zsG (zsf (zso e) (I.ok.cab x c hfn hc)))).trans e1⟩
  ·obtain⟨o',e1⟩:=I.base.there b o e hx;exact⟨o',(hs.2 b (zsG (zsf (zso e) (I.ok.cab x c hfn hc)))).trans e1⟩
  ·by_cases hj:j=i
   ·subst hj;rw [hi] at e1;cases e1;rw [List.getElem?_set_self hiσ] at e2;cases e2;exact⟨u,r,.inr ⟨.inl hk,c,hc,hc'⟩⟩
   ·rw [List.getElem?_set_ne (Ne.symm hj)] at e2;obtain⟨u',r',q⟩:=hl j y v' e1 e2 e3;refine⟨u',r',?_⟩;rcases q with q | ⟨k,c',e,z'⟩
    ·exact .inl q
    ·refine .inr ⟨k,c',e,z'.sameBut hs ?_⟩;rintro rfl;exact hj (zgg hN e1 (I.ok.inj _ _ _ e hc ▸ hi))
  ·by_cases hcc:c'=c
   ·subst hcc;exact⟨_,hc'⟩
   ·obtain⟨w2,z2⟩:=I.cell y c' e;exact⟨w2,z2.sameBut hs hcc⟩
  ·obtain⟨e,n,ne,nf,d⟩:=I.pin p hp;refine⟨(hs.2 p.1 ?_).trans e,n,ne,nf,d⟩;intro q;rw [q,hoc] at e;have q':oc=p.2:=zsJ e;exact d w' (by rw [← q'];exact hocd)
theorem zeC {M:Model} {A:Around} {E:Value->Shared->Prop} {i:Nat} {x:Str} {v:V} {u:Value} {Q:Unit->Shared->Prop} (I:Inv X pins σ H s) (hN:X.N.Nodup) (hi:X.N[i]?=some x) (hx:Loc X.env.scope x) (r:zaY v u)
  (h:∀ s',Inv X pins (σ.set i (some v)) H s'->Q () s') (hf:X.fn x=true\/X.env.scope.names.lookup x=some .local:=by first | exact .inl rfl | exact .inr rfl | assumption):wpAny M A (storeName X.env x u) Q E s :=
 zhi I hN hi hx r (fun s' I' _=>h s' I') hf
theorem Inv.call' {s':Shared} {ch:List Addr} (I:Inv X pins σ H s) (ho:s'.os=s.os) (u:Un (frs X.stack) ch H H' s.heap s'.heap) (hok:HOk X.prog X.w H' s'.heap) (hg:AllBare s'.gens)
  (hch:∀ b∈ch,(b∈X.ex\/X.s₀.heap.objs.size<=b)/\b≠X.env.locals/\(∀ x c,X.env.cells.lookup x=some c->c≠b)/\∀ p∈X.pn++pins,p.1≠b):Inv X pins σ H' s':=by
 obtain⟨h',g',d',t',o'⟩:=s';have e:o'=s.os:=ho;subst e;exact I.call (g':=g') (t':=t') (d':=d') u hok hg hch
end
abbrev XK:=Value->Option Addr->Hp->Prop
abbrev St:=List (Option V)
abbrev VK:=V->Hp->Prop
abbrev TE:=St->Hp->VK->Prop
abbrev TT:=St->Hp->(Bool->Hp->Prop)->Prop
abbrev TA:=St->Hp->(List V->Hp->Prop)->Prop
structure zlo where
 nx:St->Hp->Prop
 rt:VK
 bk:St->Hp->Prop:=fun _ _=>False
 ct:St->Hp->Prop:=fun _ _=>False
abbrev TS:=zlo->St->Hp->Prop
def EP (X:Cx) (pins:List (Addr × Obj)) (σ:St) (Q:VK) (u:Value) (s':Shared):Prop:=∃ v H',Inv X pins σ H' s'/\zaY v u/\Q v H'
def TP (X:Cx) (pins:List (Addr × Obj)) (σ:St) (Q:Bool->Hp->Prop) (b:Bool) (s':Shared):Prop:=∃ H',Inv X pins σ H' s'/\Q b H'
def AP (X:Cx) (pins:List (Addr × Obj)) (σ:St) (Q:List V->Hp->Prop) (us:List Value) (s':Shared):Prop:=∃ vs H',Inv X pins σ H' s'/\zaV vs us/\Q vs H'
def SP (X:Cx) (pins:List (Addr × Obj)) (D:zlo) (f:Flow) (s':Shared):Prop :=
 match f with
 | .next=>∃ σ' H',Inv X pins σ' H' s'/\D.nx σ' H'
 | .brk=>∃ σ' H',Inv X pins σ' H' s'/\D.bk σ' H'
 | .cont=>∃ σ' H',Inv X pins σ' H' s'/\D.ct σ' H'
 | .ret u=>∃ v σ' H',Inv X pins σ' H' s'/\zaY v u/\D.rt v H'
def PE (X:Cx) (e:Expr) (t:TE):Prop :=
 ∀ (pins:List (Addr × Obj)) (s:Shared) (σ:St) (H:Hp) (Q:VK),Inv X pins σ H s->t σ H Q->wpAny (model X.prog X.w) X.A (eval e X.env) (EP X pins σ Q) X.xe s
def PT (X:Cx) (e:Expr) (t:TT):Prop :=
 ∀ (pins:List (Addr × Obj)) (s:Shared) (σ:St) (H:Hp) (Q:Bool->Hp->Prop),Inv X pins σ H s->t σ H Q->wpAny (model X.prog X.w) X.A (isTrue e X.env (eval e X.env)) (TP X pins σ Q) X.xe s
def PW (X:Cx) (e:Expr) (t:TT):Prop :=
 ∀ (whole:Sem Value) (pins:List (Addr × Obj)) (s:Shared) (σ:St) (H:Hp) (Q:Bool->Hp->Prop),Inv X pins σ H s->t σ H Q->wpAny (model X.prog X.w) X.A (isTrue e X.env whole) (TP X pins σ Q) X.xe s
theorem PW.pt {X:Cx} {e:Expr} {t:TT} (h:PW X e t):PT X e t:=h _
def PA (X:Cx) (es:List Expr) (t:TA):Prop :=
 ∀ (pos:Pos) (pins:List (Addr × Obj)) (s:Shared) (σ:St) (H:Hp) (Q:List V->Hp->Prop),Inv X pins σ H s->t σ H Q->wpAny (model X.prog X.w) X.A (spliced (backTo pos (starEach es X.env))) (AP X pins σ Q) X.xe s
def PS (X:Cx) (st:Stmt) (t:TS):Prop :=
 ∀ (pins:List (Addr × Obj)) (s:Shared) (σ:St) (H:Hp) (D:zlo),Inv X pins σ H s->t D σ H->wpAny (model X.prog X.w) X.A (exec st X.env) (SP X pins D) X.xe s
def PSs (X:Cx) (st:List Stmt) (t:TS):Prop :=
 ∀ (pins:List (Addr × Obj)) (s:Shared) (σ:St) (H:Hp) (D:zlo),Inv X pins σ H s->t D σ H->wpAny (model X.prog X.w) X.A (execs st X.env) (SP X pins D) X.xe s
theorem thn {α:Type} {t:Sem α} {Q Q':α->Shared->Prop} {M:Model} {A:Around} {E:Value->Shared->Prop} {s:Shared} (h:wpAny M A t Q E s) (hQ:∀ a s,Q a s->Q' a s):wpAny M A t Q' E s:=wpAny_mono h hQ fun _ _ x=>x
section
variable {X:Cx}
def tVar (i:Nat):TE:=fun σ H Q=>∃ v,σ[i]?=some (some v)/\Q v H
def tC (v:V):TE:=fun _ H Q=>Q v H
theorem zqH {i:Nat} {x:Str} {pos:Pos} (hN:X.N[i]?=some x) (hv:Vis X.env.scope x) (hd:(x == ("__debug__":Str))=false:=by decide) (hcd:(x == ("__classdict__":Str))=false:=by decide):PE X (.Name x pos) (tVar i):=by
 intro pins s σ H Q I h;obtain⟨v,e,h⟩:=h;obtain⟨m,hn,hl⟩:=I.loc;obtain⟨u,r,l⟩:=hl i x v hN e hv;have fin:EP X pins σ Q u s:=⟨v,H,I,r,h⟩;rcases l with ⟨hk,hm⟩ | ⟨hk,c,hc,hcell⟩
 ·exact wpAny_Name (wpAny_loadName_local I.ok.kind hk hn hm fin) hd
 ·rcases hk with hk | hk
  ·exact wpAny_Name (wpAny_loadName_cell I.ok.kind hk hc hcell fin) hd
  ·exact wpAny_Name (wpAny_loadName_free I.ok.kind hk hc hcell fin hcd) hd
theorem zaf {i j pos}:PE X (.Constant (.int i) j pos) (tC (.int i)):=fun _ _ _ H _ I h=>wpAny_Constant_int ⟨.int i,H,I.tok _,⟨_,rfl⟩,h⟩
theorem zcG {b j pos}:PE X (.Constant (.bool b) j pos) (tC (.bl b)):=fun _ _ _ H _ I h=>Constant_bool ⟨.bl b,H,I,rfl,h⟩
theorem zbg {j pos}:PE X (.Constant .none j pos) (tC .non):=fun _ _ _ H _ I h=>Constant_none ⟨.non,H,I,rfl,h⟩
theorem zbz {x j pos}:PE X (.Constant (.str x) j pos) (tC (.str x)):=fun _ _ _ H _ I h=>Calls.Constant_str ⟨.str x,H,I.tok _,⟨_,rfl⟩,h⟩
def Gl (X:Cx) (x:Str):Prop:=X.env.kindOf x=some .globalImplicit
theorem zdm {E:Value->Shared->Prop} {pins:List (Addr × Obj)} {s:Shared} {σ:St} {H:Hp} {x:Str} {u:Value} {pos:Pos} {Q:Value->Shared->Prop} (I:Inv X pins σ H s) (hg:Gl X x) (hm:X.mg x=some u) (h:Q u s)
  (hd:(x == ("__debug__":Str))=false:=by decide):wpAny (model X.prog X.w) X.A (eval (.Name x pos) X.env) Q E s :=
 Calls.Name_function_global I.ok.kind hg (Calls.loadGlobal_global (by rw [I.ok.glob];exact I.mod.glob.keeps I.bk) hm h) hd
theorem zf3 {E:Value->Shared->Prop} {pins:List (Addr × Obj)} {s:Shared} {σ:St} {H:Hp} {x:Str} {u:Value} {pos:Pos} {Q:Value->Shared->Prop} (I:Inv X pins σ H s) (hg:Gl X x) (hm:X.mg x=none) (hv:bootBuiltins x=some u) (h:Q u s)
  (hn:x≠"__name__":=by decide) (hd:(x == ("__debug__":Str))=false:=by decide):wpAny (model X.prog X.w) X.A (eval (.Name x pos) X.env) Q E s:=by
 obtain⟨mb,h1,h2⟩:=I.mod.blt;exact Calls.Name_function_global I.ok.kind hg (Calls.loadGlobal_builtin (by rw [I.ok.glob];exact I.mod.glob.keeps I.bk) hm (by rw [I.ok.blt];exact h1.keeps I.bk) ((h2 x hn).trans hv) h) hd
theorem zbO {x:Str} {v:V} {u:Value} {pos:Pos} (hg:Gl X x) (hm:X.mg x=some u) (r:zaY v u) (hd:(x == ("__debug__":Str))=false:=by decide):PE X (.Name x pos) (tC v) :=
 fun _ _ _ H _ I h=>zdm I hg hm ⟨v,H,I,r,h⟩ hd
variable {a b:Expr} {ta tb:TE} {pos:Pos}
variable {tA tB':TT} {rest:List Expr}
def tAnd (t u:TT):TT:=fun σ H Q=>t σ H fun c H1=>if c=true then u σ H1 Q else Q false H1
def tOr (t u:TT):TT:=fun σ H Q=>t σ H fun c H1=>if c=true then Q true H1 else u σ H1 Q
def tNot (t:TT):TT:=fun σ H Q=>t σ H fun c H1=>Q (!c) H1
theorem zom (ha:PT X a tA):PW X (.BoolOp .And [a] pos) tA:=by
 intro wh pins s σ H Q I h;refine isTrue_and (thn (ha pins s σ H Q I h) fun c s1 e=>?_);cases c with
 | true=>exact isTrue_and_nil e
 | false=>exact e
theorem zpM (ha:PT X a tA):PW X (.BoolOp .Or [a] pos) tA:=by
 intro wh pins s σ H Q I h;refine isTrue_or (thn (ha pins s σ H Q I h) fun c s1 e=>?_);cases c with
 | false=>exact isTrue_or_nil e
 | true=>exact e
theorem zpy (ha:PT X a tA) (hb:PW X (.BoolOp .And (b::rest) pos) tB'):PW X (.BoolOp .And (a::b::rest) pos) (tAnd tA tB'):=by
 intro wh pins s σ H Q I h;refine isTrue_and (thn (ha pins s σ H _ I h) fun c s1 ⟨H1,I1,q1⟩=>?_);cases c with
 | true=>exact hb wh pins s1 σ H1 Q I1 q1
 | false=>exact⟨H1,I1,q1⟩
theorem zrc (ha:PT X a tA) (hb:PW X (.BoolOp .Or (b::rest) pos) tB'):PW X (.BoolOp .Or (a::b::rest) pos) (tOr tA tB'):=by
 intro wh pins s σ H Q I h;refine isTrue_or (thn (ha pins s σ H _ I h) fun c s1 ⟨H1,I1,q1⟩=>?_);cases c with
 | true=>exact⟨H1,I1,q1⟩
 | false=>exact hb wh pins s1 σ H1 Q I1 q1
theorem zc9 (ha:PT X a tA):PT X (.UnaryOp .Not a pos) (tNot tA):=by
 intro pins s σ H Q I h;exact isTrue_not (ha pins s σ H (fun c H1=>Q (!c) H1) I h)
theorem ziF {op} {t:TE} (h:PE X a t):PE X (.BoolOp op [a] pos) t:=fun pins s σ H Q I hw=>BoolOp_one (h pins s σ H Q I hw)
def tIf (t:TT) (ta tb:TE):TE:=fun σ H Q=>t σ H fun c H1=>if c=true then ta σ H1 Q else tb σ H1 Q
theorem zmy {c:Expr} (hc:PT X c tA) (ha:PE X a ta) (hb:PE X b tb):PE X (.IfExp c a b pos) (tIf tA ta tb):=by
 intro pins s σ H Q I h;refine wpAny_IfExp (thn (hc pins s σ H _ I h) fun d s1 ⟨H1,I1,q1⟩=>?_);cases d with
 | true=>exact ha pins s1 σ H1 Q I1 q1
 | false=>exact hb pins s1 σ H1 Q I1 q1
end
def SqL (K:PySem.W.Frag) (H:Hp) (a:Addr) (xs:List V):Prop :=
 Rd H a (.lst xs) \/
  ∃ (o:Obj) (its:Array Value) (n:Nat),K.lookup a=some o/\o.cls=.type "list"/\o.dict=none/\o.data=.seq its n/\its.size<=sizeLine/\zaV xs its.toList
def SqT (K:PySem.W.Frag) (H:Hp) (a:Addr) (xs:List V):Prop :=
 Rd H a (.tup xs) \/
  ∃ (o:Obj) (its:Array Value) (n:Nat),K.lookup a=some o/\o.cls=.type "tuple"/\o.data=.seq its n/\its.size<=sizeLine/\zaV xs its.toList
def absV:Value->Option V
 | .none=>some .non
 | .bool b=>some (.bl b)
 | .int i _=>some (.int i)
 | .str x _=>some (.str x)
 | .bytes b _=>some (.byt b)
 | .float b _=>some (.flt b)
 | .ref a=>some (.ref a)
 | .type n=>some (.ty n)
 | _=>none
theorem zaY.abs {x:V} {u:Value} (r:zaY x u):absV u=some x:=by
 cases x with
 | non=>cases r;rfl
 | bl _=>cases r;rfl
 | int _=>obtain⟨t,rfl⟩:=r;rfl
 | str _=>obtain⟨t,rfl⟩:=r;rfl
 | byt _=>obtain⟨t,rfl⟩:=r;rfl
 | flt _=>obtain⟨t,rfl⟩:=r;rfl
 | ref _=>cases r;rfl
 | ty _=>cases r;rfl
theorem zaY.inj {x y:V} {u:Value} (r:zaY x u) (q:zaY y u):x=y:=zsJ (r.abs.symm.trans q.abs)
theorem zaV.inj:∀ {xs ys:List V} {us:List Value},zaV xs us->zaV ys us->xs=ys
 | _,_,_,.nil,.nil=>rfl
 | _,_,_,.cons r t,.cons r' t'=>by rw [r.inj r',zaV.inj t t']
section
variable {X:Cx} {pins:List (Addr × Obj)} {σ:St} {H:Hp} {s:Shared} {a:Addr} {xs ys:List V}
theorem SqL.of {K:PySem.W.Frag} (h:H a=some (.lst xs)):SqL K H a xs:=.inl (.inl h)
theorem SqT.of {K:PySem.W.Frag} (h:H a=some (.tup xs)):SqT K H a xs:=.inl (.inl h)
theorem Inv.list (I:Inv X pins σ H s) (h:SqL X.K H a xs):∃ its:List Value,zaV xs its/\PlainL s.heap a its.toArray/\xs.length<=sizeLine:=by
 rcases h with h | ⟨o,its,n,hk,hc,hd,hs,hz,r⟩
 ·obtain⟨z,its,n,r,e⟩:=h.ok I.hok;exact⟨its,r,⟨_,n,e,rfl,rfl,rfl⟩,z⟩
 ·refine⟨its.toList,r,⟨o,n,I.kIn a o hk,hc,hd,by simpa using hs⟩,?_⟩;have e:=r.length;simp only [zsC] at e;omega
theorem Inv.tuple (I:Inv X pins σ H s) (h:SqT X.K H a xs):∃ its:List Value,zaV xs its/\IsTup s.heap a its.toArray/\xs.length<=sizeLine:=by
 rcases h with h | ⟨o,its,n,hk,hc,hs,hz,r⟩
 ·obtain⟨z,its,r,p⟩:=h.ok I.hok;exact⟨its,r,p.tup,z⟩
 ·refine⟨its.toList,r,⟨o,I.kIn a o hk,hc,n,by simpa using hs⟩,?_⟩;have e:=r.length;simp only [zsC] at e;omega
theorem Inv.list_inj (I:Inv X pins σ H s) (h:SqL X.K H a xs) (h':SqL X.K H a ys):xs=ys:=by
 obtain⟨its,r,⟨o,n,e,_,_,d⟩,_⟩:=I.list h;obtain⟨its',r',⟨o',n',e',_,_,d'⟩,_⟩:=I.list h';rw [e] at e';cases e';rw [d] at d';injection d' with d1 _
 have:its=its':=by simpa using congrArg Array.toList d1
 subst this;exact r.inj r'
end
abbrev Cx.wish (X:Cx) (E:Value->Shared->Prop):Cx:={ X with xe:=E }
abbrev Cx.nox (X:Cx):Cx:=X.wish fun _ _=>False
theorem Cx.Ok.wish {X:Cx} (ok:X.Ok) (E:Value->Shared->Prop):(X.wish E).Ok :=
 ⟨ok.mod,ok.kind,ok.glob,ok.blt,ok.above,ok.inj,ok.has,ok.cab,ok.hd,ok.frames,ok.stk,ok.exf,ok.bs,ok.bsz,ok.noex,ok.exfs,ok.funs,ok.frf⟩
theorem Cx.Ok.unwish {X:Cx} {E:Value->Shared->Prop} (ok:(X.wish E).Ok):X.Ok :=
 ⟨ok.mod,ok.kind,ok.glob,ok.blt,ok.above,ok.inj,ok.has,ok.cab,ok.hd,ok.frames,ok.stk,ok.exf,ok.bs,ok.bsz,ok.noex,ok.exfs,ok.funs,ok.frf⟩
section
variable {X:Cx} {pins:List (Addr × Obj)} {σ:St} {H:Hp} {s:Shared} {E:Value->Shared->Prop}
theorem Inv.wish (I:Inv X pins σ H s) (E:Value->Shared->Prop):Inv (X.wish E) pins σ H s:=⟨I.ok.wish E,I.os,I.bare,I.base,I.loc,I.cell,I.free,I.freeC,I.pin,I.hok,I.len⟩
theorem Inv.unwish (I:Inv (X.wish E) pins σ H s):Inv X pins σ H s:=⟨I.ok.unwish,I.os,I.bare,I.base,I.loc,I.cell,I.free,I.freeC,I.pin,I.hok,I.len⟩
theorem SP.unwish {D:zlo} {f:Flow} {s':Shared} (h:SP (X.wish E) pins D f s'):SP X pins D f s':=by
 cases f with
 | next=>obtain⟨σ',H',I,q⟩:=h;exact⟨σ',H',I.unwish,q⟩
 | brk=>obtain⟨σ',H',I,q⟩:=h;exact⟨σ',H',I.unwish,q⟩
 | cont=>obtain⟨σ',H',I,q⟩:=h;exact⟨σ',H',I.unwish,q⟩
 | ret u=>obtain⟨v,σ',H',I,r,q⟩:=h;exact⟨v,σ',H',I.unwish,r,q⟩
theorem PSs.nox {st:List Stmt} {t:TS} (h:PSs X.nox st t):PSs X st t:=fun pins s σ H D I hw =>
 wpAny_mono (h pins s σ H D (I.wish _) hw) (fun _ _ q=>q.unwish) fun _ _ z=>False.elim z
end
section
variable {X:Cx} {st:Stmt} {rest:List Stmt} {t u:TS} {e:Expr} {te:TE} {pos:Pos}
def zrl:TS:=fun D σ H=>D.nx σ H
def tSeq (t u:TS):TS:=fun D σ H=>t { D with nx:=u D } σ H
theorem zas:PSs X [] zrl:=fun _ _ σ H _ I h=>wpAny_execs_nil ⟨σ,H,I,h⟩
theorem zab (h1:PS X st t) (h2:PSs X rest u):PSs X (st::rest) (tSeq t u):=by
 intro pins s σ H D I h;refine wpAny_execs_cons (thn (h1 pins s σ H { D with nx:=u D } I h) fun f s1 q=>?_);cases f with
 | next =>
  obtain⟨σ',H',I',q⟩:=q;exact h2 pins s1 σ' H' D I' q
 | ret v=>exact q
 | brk=>exact q
 | cont=>exact q
theorem zae (h1:PS X st t):PSs X [st] t:=by
 intro pins s σ H D I h;refine wpAny_execs_cons (thn (h1 pins s σ H D I h) fun f s1 q=>?_);cases f with
 | next=>exact wpAny_execs_nil q
 | ret v=>exact q
 | brk=>exact q
 | cont=>exact q
theorem Inv.quiet {pins:List (Addr × Obj)} {σ:St} {H:Hp} {s:Shared} (I:Inv X pins σ H s):interactive X.env=false:=by simp [interactive,I.ok.kind]
def zrn (te:TE):TS:=fun D σ H=>te σ H fun _ H1=>D.nx σ H1
theorem zaS (he:PE X e te) (hs:swapsWith e none pos.line X.env=pure false:=by rfl):PS X (.Expr e pos) (zrn te):=by
 intro pins s σ H D I h;exact wpAny_Expr_any (thn (he pins s σ H _ I h) fun v s1 ⟨x,H1,I1,r1,q1⟩=>⟨σ,H1,I1,q1⟩) I.quiet hs
def tRet (te:TE):TS:=fun D σ H=>te σ H D.rt
theorem zam (he:PE X e te):PS X (.Return (some e) pos) (tRet te):=by
 intro pins s σ H D I h;exact wpAny_Return_some (thn (he pins s σ H _ I h) fun v s1 ⟨x,H1,I1,r1,q1⟩=>⟨x,σ,H1,I1,r1,q1⟩)
def zpw:TS:=fun _ _ _=>False
theorem zaO {sts:List Stmt}:PSs X sts zpw:=fun _ _ _ _ _ _ h=>h.elim
end
abbrev TG:=V->St->Hp->(St->Hp->Prop)->Prop
abbrev TGs:=List V->St->Hp->(St->Hp->Prop)->Prop
def PG (X:Cx) (target:Expr) (t:TG):Prop :=
 ∀ (pins:List (Addr × Obj)) (s:Shared) (σ:St) (H:Hp) (v:V) (u:Value) (Q:St->Hp->Prop),Inv X pins σ H s->zaY v u->t v σ H Q ->
  wpAny (model X.prog X.w) X.A (assign target X.env u) (fun _ s'=>∃ σ' H',Inv X pins σ' H' s'/\Q σ' H') X.xe s
def PGs (X:Cx) (ts:List Expr) (t:TGs):Prop :=
 ∀ (pins:List (Addr × Obj)) (s:Shared) (σ:St) (H:Hp) (vs:List V) (us:List Value) (Q:St->Hp->Prop),Inv X pins σ H s->zaV vs us->t vs σ H Q ->
  wpAny (model X.prog X.w) X.A (assignInOrder ((assignEach ts X.env).map (·.2)) us) (fun _ s'=>∃ σ' H',Inv X pins σ' H' s'/\Q σ' H') X.xe s
abbrev zqm:=V->V->V->Hp->(Hp->Prop)->Prop
def zo5 (X:Cx) (t:zqm):Prop :=
 ∀ (pins:List (Addr × Obj)) (s:Shared) (σ:St) (H:Hp) (o i v:V) (ov iv u:Value) (Q:Hp->Prop),Inv X pins σ H s->zaY o ov->zaY i iv->zaY v u->t o i v H Q ->
  wpAny (model X.prog X.w) X.A (setItem ov iv u) (fun _ s'=>∃ H',Inv X pins σ H' s'/\Q H') X.xe s
abbrev TIp:=V->V->Hp->VK->Prop
def PIp (X:Cx) (op:Operator) (t:TIp):Prop :=
 ∀ (pins:List (Addr × Obj)) (s:Shared) (σ:St) (H:Hp) (x y:V) (v u:Value) (Q:VK),Inv X pins σ H s->zaY x v->zaY y u->t x y H Q ->
  wpAny (model X.prog X.w) X.A (inplaceOp op v u) (EP X pins σ Q) X.xe s
section
variable {X:Cx} {pos:Pos}
def zn1 (i:Nat):TG:=fun v σ H Q=>Q (σ.set i (some v)) H
theorem zai {i:Nat} {x:Str} (hN:X.N.Nodup) (hi:X.N[i]?=some x) (hx:Loc X.env.scope x) (hf:X.fn x=true\/X.env.scope.names.lookup x=some .local:=by first | exact .inl rfl | exact .inr rfl | assumption):PG X (.Name x pos) (zn1 i):=by
 intro pins s σ H v u Q I r h;exact wpAny_assign_Name (zeC I hN hi hx r (fun s' I'=>⟨_,H,I',h⟩) hf)
def gNil:TGs:=fun vs σ H Q=>vs=[]/\Q σ H
def zrz (t:TG) (u:TGs):TGs:=fun vs σ H Q=>∃ v r,vs=v::r/\t v σ H fun σ' H'=>u r σ' H' Q
theorem zn4:PGs X [] gNil:=by
 intro pins s σ H vs us Q I r h;obtain⟨e,h⟩:=h;subst e;cases r;exact assignInOrder_nil ⟨σ,H,I,h⟩
theorem zml {e:Expr} {es:List Expr} {t:TG} {u:TGs} (h1:PG X e t) (h2:PGs X es u)
  (hs:(assignEach (e::es) X.env).map (·.2)=assign e X.env::(assignEach es X.env).map (·.2):=by rfl):PGs X (e::es) (zrz t u):=by
 intro pins s σ H vs us Q I r h;obtain⟨v,vr,e1,h⟩:=h;subst e1;cases r with
 | cons r rr =>
  rw [hs];refine assignInOrder_cons (thn (h1 pins s σ H _ _ _ I r h) fun _ s1 ⟨σ1,H1,I1,q1⟩=>?_);exact h2 pins s1 σ1 H1 _ _ Q I1 rr q1
def gTup (K:PySem.W.Frag) (n:Nat) (t:TGs):TG:=fun v σ H Q=>∃ a xs,v=.ref a/\SqT K H a xs/\xs.length=n/\t xs σ H Q
theorem zql {es:List Expr} {k:Nat} {t:TGs} {n:Nat} (hc:X.calm=true) (h:PGs X es t)
  (hn:(assignEach es X.env).length=n:=by rfl) (hst:(assignEach es X.env).findIdx? (·.1)=none:=by rfl):PG X (.Tuple es k pos) (gTup X.K n t):=by
 intro pins s σ H v u Q I r hw;obtain⟨a,xs,e1,hq,hl,hw⟩:=hw;subst e1;cases r;obtain⟨its,rv,ht,hz⟩:=I.tuple hq;refine assign_Tuple_tuple (I.ok.hd hc) ht (by simp [hn,← hl,rv.length]) hst fun h' hx=>?_
 have I1:Inv X pins σ H { s with heap:=h' }:=I.kept (t':=s.toks) fun b o e=>hx b o (zsG (zso e)) e
 exact h pins _ σ H xs _ Q I1 (by simpa using rv) hw
def gSub (to ti:TE) (t:zqm):TG:=fun v σ H Q=>to σ H fun o H1=>ti σ H1 fun i H2=>t o i v H2 fun H3=>Q σ H3
theorem zi6 {o i:Expr} {to ti:TE} {t:zqm} (ho:PE X o to) (hi:PE X i ti) (hs:zo5 X t)
  (ha:∀ v,assign (.Subscript o i pos) X.env v=(do
   let ov ← holding [v] (eval o X.env)
   let iv ← holding [v,ov] (eval i X.env)
   standAt pos
   holding [v,ov,iv] (setItem ov iv v)
   release [v,ov,iv] []):=by intro _;rfl):PG X (.Subscript o i pos) (gSub to ti t):=by
 intro pins s σ H v u Q I r h;rw [ha];refine wpAny_bind (wpAny_holding (thn (ho pins s σ H _ I h) fun ov s1 ⟨x,H1,I1,r1,q1⟩=>?_));refine wpAny_bind (wpAny_holding (thn (hi pins s1 σ H1 _ I1 q1) fun iv s2 ⟨y,H2,I2,r2,q2⟩=>?_));refine wpAny_bind (wpAny_standAt (wpAny_bind (wpAny_holding (thn (hs pins s2 σ H2 x y v ov iv u _ I2 r1 r2 r q2) fun _ s3 ⟨H3,I3,q3⟩=>?_))));exact wpAny_release ⟨σ,H3,I3,q3⟩
def zru (te:TE) (g:TG):TS:=fun D σ H=>te σ H fun x H1=>g x σ H1 D.nx
theorem zck {tg e:Expr} {te:TE} {g:TG} (he:PE X e te) (hg:PG X tg g) (hs:swapsWithSole [tg] e pos.line X.env=pure false:=by rfl) (hw:swappedStores [tg] e X.env=pure none:=by rfl)
  (h1:(assignEach [tg] X.env).map (·.2)=[assign tg X.env]:=by rfl):PS X (.Assign [tg] e pos) (zru te g):=by
 intro pins s σ H D I h;refine wpAny_Assign_stores (thn (he pins s σ H _ I h) fun v s1 ⟨x,H1,I1,r1,q1⟩=>?_) hs hw;rw [h1];exact thn (hg pins s1 σ H1 x v _ I1 r1 q1) fun _ s2 q=>q
theorem zaq {i:Nat} {x:Str} {e:Expr} {te:TE} {pos':Pos} (hN:X.N.Nodup) (hi:X.N[i]?=some x) (hx:Loc X.env.scope x) (he:PE X e te) (hs:swapsWith e (some (.Name x pos')) pos.line X.env=pure false:=by rfl) (hf:X.fn x=true\/X.env.scope.names.lookup x=some .local:=by first | exact .inl rfl | exact .inr rfl | assumption) :
  PS X (.Assign [.Name x pos'] e pos) (zru te (zn1 i)):=by
 intro pins s σ H D I h;refine wpAny_Assign_Name (thn (he pins s σ H _ I h) fun v s1 ⟨y,H1,I1,r1,q1⟩=>?_) hs;exact zeC I1 hN hi hx r1 (fun s2 I2=>⟨_,H1,I2,q1⟩) hf
def tAug (i:Nat) (te:TE) (ti:TIp):TS:=fun D σ H=>∃ x,σ[i]?=some (some x)/\te σ H fun y H1=>ti x y H1 fun z H2=>D.nx (σ.set i (some z)) H2
theorem zqh {i:Nat} {x:Str} {e:Expr} {te:TE} {op:Operator} {ti:TIp} {pos':Pos} (hN:X.N.Nodup) (hi:X.N[i]?=some x) (hx:Loc X.env.scope x) (he:PE X e te) (ho:PIp X op ti) (hf:X.fn x=true\/X.env.scope.names.lookup x=some .local:=by first | exact .inl rfl | exact .inr rfl | assumption) :
  PS X (.AugAssign (.Name x pos') op e pos) (tAug i te ti):=by
 intro pins s σ H D I h;obtain⟨v,e1,h⟩:=h;obtain⟨m,hn,hl⟩:=I.loc;have vis:Vis X.env.scope x:=by rcases hx with k | k;exact .inl k;exact .inr (.inl k)
 obtain⟨u,r,l⟩:=hl i x v hi e1 vis;refine wpAny_AugAssign_Name ?_;have go:wpAny (model X.prog X.w) X.A (eval e X.env) (fun w s₂=>wpAny (model X.prog X.w) X.A (inplaceOp op u w) (fun r s₃=>wpAny (model X.prog X.w) X.A (storeName X.env x r) (fun _=>SP X pins D .next) X.xe s₃) X.xe s₂) X.xe s:=by
  refine thn (he pins s σ H _ I h) fun w s1 ⟨y,H1,I1,r1,q1⟩=>?_
  refine thn (ho pins s1 σ H1 v y u w _ I1 r r1 q1) fun z s2 ⟨zv,H2,I2,r2,q2⟩=>?_
  exact zeC I2 hN hi hx r2 (fun s3 I3=>⟨_,H2,I3,q2⟩) hf
 rcases l with ⟨hk,hm⟩ | ⟨hk,c,hc,hcell⟩
 ·exact wpAny_loadName_local I.ok.kind hk hn hm go
 ·rcases hk with hk | hk
  ·exact wpAny_loadName_cell I.ok.kind hk hc hcell go
  ·rcases hx with k | k
   ·have:X.env.scope.names.lookup x=some .free:=hk
    rw [k] at this;cases this
   ·have:X.env.scope.names.lookup x=some .free:=hk
    rw [k] at this;cases this
def ipI (f:Int->Int->Int):TIp:=fun x y H Q=>∃ i j,x=.int i/\y=.int j/\Q (.int (f i j)) H
theorem zpD:PIp X .Add (ipI fun i j=>i+j):=by
 intro pins s σ H x y v u Q I r1 r2 h;obtain⟨i,j,e1,e2,q⟩:=h;subst e1;subst e2;obtain⟨t,rfl⟩:=r1;obtain⟨t',rfl⟩:=r2;exact iadd_int ⟨.int _,H,I.tok _,⟨_,rfl⟩,q⟩
end
section
variable {X:Cx} {pos:Pos}
def zpL (c:TT) (tb:TS):TS:=fun D σ H=>∃ W:Nat->St->Hp->Prop,(∃ m,W m σ H)/\∀ m σ H,W m σ H ->
 c σ H fun b H1=>if b=true then ∃ N:St->Hp->Prop,(∀ σ' H',N σ' H'->∃ m',m'<m/\W m' σ' H')/\tb { D with nx:=N,ct:=N,bk:=D.nx } σ H1 else D.nx σ H1
theorem zgp {c:Expr} {body:List Stmt} {tc:TT} {tb:TS} (hp:PassesOwn (model X.prog X.w) X.A X.env X.xe) (hc:PT X c tc) (hb:PSs X body tb):PS X (.While c body [] pos) (zpL tc tb):=by
 intro pins s σ H D I h;obtain⟨W,⟨m0,w0⟩,turn⟩:=h;refine wpAny_While (codeAny_whileLoop (fun n s'=>∃ σ' H',Inv X pins σ' H' s'/\W n σ' H') ?_ m0 ⟨σ,H,I,w0⟩);rintro n s1 ⟨σ1,H1,I1,w1⟩;refine wpAny_passesOwn hp (thn (hc pins s1 σ1 H1 _ I1 (turn n σ1 H1 w1)) fun b s2 ⟨H2,I2,q2⟩=>?_);cases b with
 | true =>
  obtain⟨N,hN,q2⟩:=q2;rw [zsB rfl];refine wpAny_passesOwn hp (thn (hb pins s2 σ1 H2 _ I2 q2) fun f s3 q3=>?_);cases f with
  | next =>
   obtain⟨σ3,H3,I3,n3⟩:=q3;obtain⟨m',hm,w3⟩:=hN σ3 H3 n3;exact⟨m',hm,σ3,H3,I3,w3⟩
  | cont =>
   obtain⟨σ3,H3,I3,n3⟩:=q3;obtain⟨m',hm,w3⟩:=hN σ3 H3 n3;exact⟨m',hm,σ3,H3,I3,w3⟩
  | brk=>exact q3
  | ret v=>exact q3
 | false =>
  rw [zsA zsI];exact wpAny_execs_nil ⟨σ1,H2,I2,q2⟩
end
structure It where
 go:Nat->Hp->Prop
 yld:Nat->Hp->V->Hp->Prop
 stop:Nat->Hp->Prop
def zkj (X:Cx) (pins:List (Addr × Obj)) (H:Hp) (b:Addr):Prop :=
 H b=none/\b≠X.env.locals/\b ∉ X.fs/\(b∈X.ex\/X.s₀.heap.objs.size<=b)/\(∀ x c,X.env.cells.lookup x=some c->c≠b)/\∀ p∈X.pn++pins,p.1≠b
theorem Inv.fpOk {X:Cx} {pins:List (Addr × Obj)} {σ:St} {H H':Hp} {s:Shared} {b:Addr} (I:Inv X pins σ H s) (hb:s.heap.objs.size<=b) (hn:H' b=none):zkj X pins H' b:=by
 refine⟨hn,Nat.ne_of_gt (zsf I.lt hb),I.nofs hb,.inr (zsd I.sz hb),fun x c e z=>?_,fun p hp z=>?_⟩
 ·obtain⟨v,q⟩:=I.cell x c e;exact absurd (zsf q.lt (by rw [z];exact hb)) (Nat.lt_irrefl _)
 ·exact absurd (zsf (zso (I.pin p hp).1) (by rw [z];exact hb)) (Nat.lt_irrefl _)
structure znf (P:Program) (w:World) (K:PySem.W.Frag) (tg:Expr) (J:It) (fp:List Addr) (it:Addr) (tn:Nat->Heap->Prop):Prop where
 mem:it∈fp
 obj:∀ i h,tn i h->∀ b∈fp,∃ o,h.get? b=some o/\∀ v,o.data≠.cell v
 keep:∀ i h h',tn i h->(∀ b∈fp,∀ o,h.get? b=some o->h'.get? b=some o)->tn i h'
 item:∀ (X:Cx),X.prog=P->X.w=w->X.K=K->X.calm=true->∀ (i:Nat) (pins:List (Addr × Obj)) (s:Shared) (σ:St) (H:Hp) (E:Value->Shared->Prop),Inv X pins σ H s->(∀ b∈fp,zkj X pins H b)->tn i s.heap->J.go i H ->
  wpAny (model P w) X.A (pyNext (.ref it)) (fun r s1=>∃ u,r=some u /\
   wpAny (model P w) X.A (letOwnedTupleGo tg (.ref it) u) (fun _ s2=>∃ x H',Inv X pins σ H' s2/\zaY x u/\J.yld i H x H'/\tn (i+1) s2.heap/\∀ b∈fp,H' b=none) E s1) E s
 done:∀ (X:Cx),X.prog=P->X.w=w->X.K=K->X.calm=true->∀ (i:Nat) (pins:List (Addr × Obj)) (s:Shared) (σ:St) (H:Hp) (E:Value->Shared->Prop),Inv X pins σ H s->(∀ b∈fp,zkj X pins H b)->tn i s.heap->J.stop i H ->
  wpAny (model P w) X.A (pyNext (.ref it)) (fun r s1=>r=none/\Inv X pins σ H s1) E s
 self:∀ (A:Around) (i:Nat) (s:Shared) (Q:Value->Shared->Prop) (E:Value->Shared->Prop),tn i s.heap->Q (.ref it) s->wpAny (model P w) A (pyIter (.ref it)) Q E s
abbrev TI:=St->Hp->(It->Hp->Prop)->Prop
def PIE (X:Cx) (pins:List (Addr × Obj)) (σ:St) (tg:Expr) (R:It->Hp->Prop) (itv:Value) (s2:Shared):Prop :=
 ∃ (it:Addr) (fp:List Addr) (tn:Nat->Heap->Prop) (J:It) (H':Hp),itv=.ref it/\Inv X pins σ H' s2/\znf X.prog X.w X.K tg J fp it tn/\tn 0 s2.heap/\(∀ b∈fp,zkj X pins H' b)/\R J H'
def PI (X:Cx) (tg iter:Expr) (wi:TI):Prop :=
 ∀ (pins:List (Addr × Obj)) (s:Shared) (σ:St) (H:Hp) (R:It->Hp->Prop),Inv X pins σ H s->wi σ H R ->
  wpAny (model X.prog X.w) X.A (eval iter X.env) (fun v s1=>wpAny (model X.prog X.w) X.A (pyIter v) (PIE X pins σ tg R) X.xe s1) X.xe s
theorem zm4 {M:Model} {A:Around} {E:Value->Shared->Prop} {s:Shared} {tg:Expr} {it:Addr} {u:Value} {o:Obj} {n:String} {vs:Array Value} {Q:Unit->Shared->Prop} (ho:s.heap.get? it=some o) (hc:o.cls=.type n) (hd:o.data=.fields vs)
  (hn:["enumerate","zip","dict_itemiterator","dict_reverseitemiterator","odict_iterator","itertools.zip_longest","itertools.pairwise"].contains n=false) (hQ:Q () s):wpAny M A (letOwnedTupleGo tg (.ref it) u) Q E s:=by
 unfold letOwnedTupleGo;cases tg <;> first
  | exact wpAny_pure hQ
  | (cases u <;> first
    | exact wpAny_pure hQ
    | (refine wpAny_bind (wpAny_load ho ?_);rw [hc,hd];show wpAny M A (if (["enumerate","zip","dict_itemiterator","dict_reverseitemiterator","odict_iterator","itertools.zip_longest","itertools.pairwise"].contains n && vs[0]? == some (rawInt _))=true then _ else _) Q E s;rw [zsA (by intro h;rw [hn,Bool.false_and] at h;cases h)];exact wpAny_pure hQ))
def Itl (K:PySem.W.Frag) (a:Addr):It :=
 ⟨fun i H=>∃ xs x,SqL K H a xs/\xs[i]?=some x,fun i H x H'=>H'=H/\∀ xs,SqL K H a xs->xs[i]?=some x,fun i H=>∃ xs,SqL K H a xs/\xs.length<=i⟩
def Itr (lo:Int) (n:Nat):It:=⟨fun i _=>i<n,fun i H x H'=>H'=H/\x=.int (lo+i),fun i _=>n<=i⟩
theorem zk1 {P:Program} {w:World} {K:PySem.W.Frag} {tg:Expr} (a it:Addr):znf P w K tg (Itl K a) [it] it (fun i h=>h.IsListIter it a i) where
 mem:=by simp
 obj:=fun i h st b hb=>by
  have e:b=it:=by simpa using hb
  subst e;obtain⟨o,e,c,d⟩:=st;exact⟨o,e,fun v z=>by rw [d] at z;cases z⟩
 keep:=fun i h h' st k=>st.at fun o e=>k it (by simp) o e
 item:=by
  intro X hP hw hK hc i pins s σ H E I hf st hg;subst hP hw hK;obtain⟨xs,x,hq,hx⟩:=hg;obtain⟨its,rv,p,hz⟩:=I.list hq;obtain⟨u,hu,ru⟩:=rv.get hx;obtain⟨f0,f1,f2,f3,f4,f5⟩:=hf it (by simp);refine wpAny_pyNext_list_item st p.isList (x:=u) (by simpa using hu) fun h' st' sb=>?_
  have I1:Inv X pins σ H { s with heap:=h' }:=I.turned (t':=s.toks) (fun b o hb e=>(sb.2 b hb).trans e) f0 f1 f3 f4 f5;obtain⟨o,e,c,d⟩:=id st';exact⟨u,rfl,zm4 (s:={ s with heap:=h' }) e c d (by decide) ⟨x,H,I1,ru,⟨rfl,fun ys hy=>by rw [I.list_inj hy hq];exact hx⟩,st',fun b hb=>(hf b hb).1⟩⟩
 done:=by
  intro X hP hw hK hc i pins s σ H E I hf st hg;subst hP hw hK;obtain⟨xs,hq,hx⟩:=hg;obtain⟨its,rv,p,hz⟩:=I.list hq;obtain⟨f0,f1,f2,f3,f4,f5⟩:=hf it (by simp);have hl:=rv.length;exact wpAny_pyNext_list_end (I.ok.hd hc) st p.isList (by simp;omega) fun h' eb=>⟨rfl,I.turned (t':=s.toks) (fun b o hb e=>eb b o hb e) f0 f1 f3 f4 f5⟩
 self:=fun _ _ _ _ _ st h=>wpAny_pyIter_listiter st h
theorem zkc {P:Program} {w:World} {K:PySem.W.Frag} {tg:Expr} (it:Addr) (lo:Int) (n:Nat):znf P w K tg (Itr lo n) [it] it (fun i h=>IsRangeIter h it (lo+(i:Nat)*1) ((n:Int)-(i:Nat)) 1) where
 mem:=by simp
 obj:=fun i h st b hb=>by
  have e:b=it:=by simpa using hb
  subst e;exact⟨_,st,fun v z=>by
   have z':Data.fields _=Data.cell v:=z;cases z'⟩
 keep:=fun i h h' st k=>k it (by simp) _ st
 item:=by
  intro X hP hw hK hc i pins s σ H E I hf st hg;subst hP hw hK;obtain⟨f0,f1,f2,f3,f4,f5⟩:=hf it (by simp);have W:=Walks.range (prog:=X.prog) (w:=X.w) (I.ok.hd hc) it lo 1 n;refine W.item i s _ _ hg st fun v h' tk hv st' kk=>?_
  obtain⟨t,rfl⟩:=hv;have I1:Inv X pins σ H { s with heap:=h',toks:=tk }:=I.turned (fun b o hb e=>kk b o (by simpa using hb) e) f0 f1 f3 f4 f5;refine⟨_,rfl,zm4 (s:={ s with heap:=h',toks:=tk }) (n:="range_iterator") st' rfl rfl (by decide) ⟨.int (lo+i),H,I1,⟨t,?_⟩,⟨rfl,rfl⟩,st',fun b hb=>(hf b hb).1⟩⟩;rw [Int.mul_one]
 done:=by
  intro X hP hw hK hc i pins s σ H E I hf st hg;subst hP hw hK;obtain⟨f0,f1,f2,f3,f4,f5⟩:=hf it (by simp);exact wpAny_pyNext_range_end (I.ok.hd hc) st (by have:n<=i:=hg;omega) fun h' eb=>⟨rfl,I.turned (t':=s.toks) (fun b o hb e=>eb b o hb e) f0 f1 f3 f4 f5⟩
 self:=fun _ _ _ _ _ st h=>wpAny_pyIter_rangeiter st h
section
variable {X:Cx} {tg:Expr}
theorem zjk {pins:List (Addr × Obj)} {σ:St} {H:Hp} {s:Shared} {R:It->Hp->Prop} {E:Value->Shared->Prop} {lo hi:Int} {t u v:Tok} {tk:Nat} (I:Inv X pins σ H s) (h1:-(2 ^ 62)<=lo) (h2:lo<2 ^ 62) (h3:-(2 ^ 62)<=hi) (h4:hi<2 ^ 62)
  (q:R (Itr lo (hi-lo).toNat) H):wpAny (model X.prog X.w) X.A (pyIter (.ref s.heap.objs.size)) (PIE X pins σ tg R) E { s with heap:=s.heap.push { cls:=.type "range",data:=.fields #[.int lo t,.int hi u,.int 1 v] },toks:=tk }:=by
 refine wpAny_pyIter_range (IsRange.new ..) (small_one h1 h2 h3 h4) ?_;have I1:Inv X pins σ H { s with heap:=s.heap.push { cls:=.type "range",data:=.fields #[.int lo t,.int hi u,.int 1 v] },toks:=tk }:=I.kept fun b o e=>zsb _ e
 refine⟨(s.heap.push { cls:=.type "range",data:=.fields #[.int lo t,.int hi u,.int 1 v] }).objs.size,[(s.heap.push { cls:=.type "range",data:=.fields #[.int lo t,.int hi u,.int 1 v] }).objs.size],_,_,H,rfl,
  I1.kept (t':=tk) fun b o e=>zsb _ e,zkc _ lo (hi-lo).toNat,?_,fun b hb=>?_,q⟩
 ·have e1:lo+((0:Nat):Int)*1=lo:=by simp
  have e2:(((hi-lo).toNat:Nat):Int)-((0:Nat):Int)=Builtin.Range.rangeSize lo hi 1:=by rw [rangeSize_one];split <;> omega
  show IsRangeIter _ _ (lo+((0:Nat):Int)*1) ((((hi-lo).toNat:Nat):Int)-((0:Nat):Int)) 1;rw [e1,e2];exact zsx _ rfl
 ·have e:b=(s.heap.push { cls:=.type "range",data:=.fields #[.int lo t,.int hi u,.int 1 v] }).objs.size:=by simpa using hb
  subst e;exact I1.fpOk (zse _) (I1.hok.fresh (zse _))
def tFor (wi:TI) (g:TG) (tb:TS):TS:=fun D σ H=>wi σ H fun J H1=>∃ W:Nat->Nat->St->Hp->Prop,(∃ m,W 0 m σ H1)/\∀ i m σ H,W i m σ H ->
 (J.stop i H/\D.nx σ H)\/(J.go i H/\∃ N:St->Hp->Prop,(∀ σ' H',N σ' H'->∃ m',m'<m/\W (i+1) m' σ' H')/\∀ x H',J.yld i H x H'->g x σ H' fun σ2 H2=>tb { D with nx:=N,ct:=N,bk:=D.nx } σ2 H2)
def zfR (fp:List Addr) (h:Heap):List (Addr × Obj):=fp.filterMap fun b=>(h.get? b).map fun o=>(b,o)
theorem zbX {fp:List Addr} {h:Heap} {b:Addr} {o:Obj} (hb:b∈fp) (e:h.get? b=some o):(b,o)∈zfR fp h:=List.mem_filterMap.mpr ⟨b,hb,by rw [e];rfl⟩
theorem zlH {fp:List Addr} {h:Heap} {p:Addr × Obj} (hp:p∈zfR fp h):p.1∈fp/\h.get? p.1=some p.2:=by
 obtain⟨b,hb,e⟩:=List.mem_filterMap.mp hp;cases q:h.get? b with
 | none=>rw [q] at e;cases e
 | some o =>
  rw [q] at e;have e':(b,o)=p:=zsJ e;subst e';exact⟨hb,q⟩
theorem Inv.pinned {pins:List (Addr × Obj)} {σ:St} {H:Hp} {s:Shared} {fp:List Addr} (I:Inv X pins σ H s) (hf:∀ b∈fp,zkj X pins H b) (ho:∀ b∈fp,∃ o,s.heap.get? b=some o/\∀ v,o.data≠.cell v):Inv X (pins++zfR fp s.heap) σ H s :=
 I.pins_of fun p hp=>(zr9.mp hp).elim (fun z=>I.pin p (zsv _ z)) fun z=>by
  obtain⟨hb,e⟩:=zlH z;obtain⟨f0,f1,f2,_⟩:=hf p.1 hb;obtain⟨o,e',d⟩:=ho p.1 hb;rw [e] at e';cases e';exact⟨e,f0,f1,f2,d⟩
theorem Inv.unpinned {pins pl:List (Addr × Obj)} {σ:St} {H:Hp} {s:Shared} (I:Inv X (pins++pl) σ H s):Inv X pins σ H s:=I.pins_of fun p hp=>I.pin p (zsv _ (zsu _ hp))
theorem zby {iter:Expr} {body:List Stmt} {wi:TI} {g:TG} {tb:TS} {pos:Pos} (hp:PassesOwn (model X.prog X.w) X.A X.env X.xe) (hc:X.calm=true) (hi:PI X tg iter wi) (hg:PG X tg g) (hb:PSs X body tb)
  (hs:∀ x,foldedSetIterable iter X.env x=pure x:=by intro _;rfl):PS X (.For tg iter body [] pos) (tFor wi g tb):=by
 intro pins s σ H D I h;refine wpAny_For (thn (hi pins s σ H _ I h) fun v s1 h1=>thn h1 fun itv s2 h2=>?_) hs;obtain⟨it,fp,tn,J,H2,e,I2,T,st2,f2,W,⟨m0,w0⟩,turn⟩:=h2;subst e;have stat:∀ {H':Hp},(∀ b∈fp,H' b=none)->∀ b∈fp,zkj X pins H' b:=fun hn b hb=>⟨hn b hb,(f2 b hb).2⟩
 refine codeAny_forLoop_any (fun n s'=>∃ i σ' H',Inv X pins σ' H' s'/\tn i s'.heap/\(∀ b∈fp,H' b=none)/\W i n σ' H') ?_ m0 ⟨0,σ,H2,I2,st2,fun b hb=>(f2 b hb).1,w0⟩;rintro n s3 ⟨i,σ3,H3,I3,st3,fr3,w3⟩;rcases turn i n σ3 H3 w3 with ⟨stop,qn⟩ | ⟨go,N,hN,step⟩
 ·refine wpAny_passesOwn hp (thn (T.done X rfl rfl rfl hc i pins s3 σ3 H3 X.xe I3 (stat fr3) st3 stop) fun r s4 ⟨hr,I4⟩=>?_);subst hr;exact wpAny_execs_nil ⟨σ3,H3,I4,qn⟩
 ·refine wpAny_passesOwn hp (thn (T.item X rfl rfl rfl hc i pins s3 σ3 H3 X.xe I3 (stat fr3) st3 go) fun r s4 ⟨u,hr,h4⟩=>?_);subst hr;refine wpAny_passesOwn hp (thn h4 fun _ s5 ⟨x,H5,I5,r5,y5,st5,fr5⟩=>?_);have I5':=I5.pinned (stat fr5) (T.obj _ _ st5);refine wpAny_passesOwn hp (thn (hg _ s5 σ3 H5 x u _ I5' r5 (step x H5 y5)) fun _ s6 ⟨σ6,H6,I6,q6⟩=>?_);refine wpAny_passesOwn hp (thn (hb _ s6 σ6 H6 _ I6 q6) fun f s7 q7=>?_);have again:∀ {σ7:St} {H7:Hp},Inv X (pins++zfR fp s5.heap) σ7 H7 s7->N σ7 H7->∃ m,m<n/\∃ i σ' H',Inv X pins σ' H' s7/\tn i s7.heap/\(∀ b∈fp,H' b=none)/\W i m σ' H':=fun {σ7 H7} I7 n7=>by
   obtain⟨m',hm,w7⟩:=hN σ7 H7 n7;refine⟨m',hm,i+1,σ7,H7,I7.unpinned,T.keep _ _ _ st5 fun b hb o e=>(I7.pin (b,o) (zsv _ (zsv _ (zbX hb e)))).1,fun b hb=>?_,w7⟩;obtain⟨o,e,d⟩:=T.obj _ _ st5 b hb;exact (I7.pin (b,o) (zsv _ (zsv _ (zbX hb e)))).2.1
  cases f with
  | next=>obtain⟨σ7,H7,I7,n7⟩:=q7;exact again I7 n7
  | cont=>obtain⟨σ7,H7,I7,n7⟩:=q7;exact again I7 n7
  | brk=>obtain⟨σ7,H7,I7,q7⟩:=q7;exact⟨σ7,H7,I7.unpinned,q7⟩
  | ret v=>obtain⟨x7,σ7,H7,I7,r7,q7⟩:=q7;exact⟨x7,σ7,H7,I7.unpinned,r7,q7⟩
end
theorem zd0 {K:PySem.W.Frag} {a:Addr} {xs:List V} {g:TG} {tb:TS} {D:zlo} {σ:St} {H:Hp} (Pv:Nat->St->Hp->Prop) (h0:Pv 0 σ H) (hl:∀ i σ H,i<=xs.length->Pv i σ H->SqL K H a xs)
  (hs:∀ i x σ H,xs[i]?=some x->Pv i σ H->g x σ H fun σ2 H2=>tb { D with nx:=Pv (i+1),ct:=Pv (i+1),bk:=D.nx } σ2 H2) (hd:∀ σ H,Pv xs.length σ H->D.nx σ H) :
  ∃ W:Nat->Nat->St->Hp->Prop,(∃ m,W 0 m σ H)/\∀ i m σ H,W i m σ H ->
   ((Itl K a).stop i H/\D.nx σ H)\/((Itl K a).go i H/\∃ N:St->Hp->Prop,(∀ σ' H',N σ' H'->∃ m',m'<m/\W (i+1) m' σ' H')/\∀ x H',(Itl K a).yld i H x H'->g x σ H' fun σ2 H2=>tb { D with nx:=N,ct:=N,bk:=D.nx } σ2 H2):=by
 refine⟨fun i m σ H=>m=xs.length-i/\i<=xs.length/\Pv i σ H,⟨xs.length,by simp,Nat.zero_le _,h0⟩,?_⟩;rintro i m σ H ⟨rfl,hi,p⟩;have q:=hl i σ H hi p;by_cases hlt:i<xs.length
 ·refine .inr ⟨⟨xs,xs[i],q,by simp [hlt]⟩,Pv (i+1),fun σ' H' p'=>⟨xs.length-(i+1),by omega,rfl,hlt,p'⟩,fun x H' y=>?_⟩;obtain⟨e,y⟩:=y;subst e;exact hs i x σ _ (y xs q) p
 ·have e:i=xs.length:=by omega
  subst e;exact .inl ⟨⟨xs,q,zse _⟩,hd σ H p⟩
theorem zbh {lo:Int} {n:Nat} {g:TG} {tb:TS} {D:zlo} {σ:St} {H:Hp} (Pv:Nat->St->Hp->Prop) (h0:Pv 0 σ H)
  (hs:∀ i σ H,i<n->Pv i σ H->g (.int (lo+i)) σ H fun σ2 H2=>tb { D with nx:=Pv (i+1),ct:=Pv (i+1),bk:=D.nx } σ2 H2) (hd:∀ σ H,Pv n σ H->D.nx σ H) :
  ∃ W:Nat->Nat->St->Hp->Prop,(∃ m,W 0 m σ H)/\∀ i m σ H,W i m σ H ->
   ((Itr lo n).stop i H/\D.nx σ H)\/((Itr lo n).go i H/\∃ N:St->Hp->Prop,(∀ σ' H',N σ' H'->∃ m',m'<m/\W (i+1) m' σ' H')/\∀ x H',(Itr lo n).yld i H x H'->g x σ H' fun σ2 H2=>tb { D with nx:=N,ct:=N,bk:=D.nx } σ2 H2):=by
 refine⟨fun i m σ H=>m=n-i/\i<=n/\Pv i σ H,⟨n,by simp,Nat.zero_le _,h0⟩,?_⟩;rintro i m σ H ⟨rfl,hi,p⟩;by_cases hlt:i<n
 ·refine .inr ⟨hlt,Pv (i+1),fun σ' H' p'=>⟨n-(i+1),by omega,rfl,hlt,p'⟩,fun x H' y=>?_⟩;obtain⟨e,y⟩:=y;subst e y;exact hs i σ _ hlt p
 ·have e:i=n:=by omega
  subst e;exact .inl ⟨zse _,hd σ H p⟩
abbrev R2:=V->V->Hp->VK->Prop
def OpR (X:Cx) (f:Value->Value->Sem Value) (r:R2):Prop :=
 ∀ (pins:List (Addr × Obj)) (s:Shared) (σ:St) (H:Hp) (x y:V) (v u:Value) (Q:VK),Inv X pins σ H s->zaY x v->zaY y u->r x y H Q ->
  wpAny (model X.prog X.w) X.A (f v u) (EP X pins σ Q) X.xe s
def UnR (X:Cx) (f:Value->Sem Value) (r:V->Hp->VK->Prop):Prop :=
 ∀ (pins:List (Addr × Obj)) (s:Shared) (σ:St) (H:Hp) (x:V) (v:Value) (Q:VK),Inv X pins σ H s->zaY x v->r x H Q ->
  wpAny (model X.prog X.w) X.A (f v) (EP X pins σ Q) X.xe s
def za9 (X:Cx) (f:Value) (r:List V->Hp->VK->Prop):Prop :=
 ∀ (pins:List (Addr × Obj)) (s:Shared) (σ:St) (H:Hp) (xs:List V) (us:List Value) (Q:VK),Inv X pins σ H s->zaV xs us->r xs H Q ->
  wpAny (model X.prog X.w) X.A (call f us) (EP X pins σ Q) X.xe s
def tOp (r:R2) (ta tb:TE):TE:=fun σ H Q=>ta σ H fun x H1=>tb σ H1 fun y H2=>r x y H2 Q
def tUn (r:V->Hp->VK->Prop) (ta:TE):TE:=fun σ H Q=>ta σ H fun x H1=>r x H1 Q
def rI (C:Int->Int->Prop) (g:Int->Int->V):R2:=fun x y H Q=>∃ i j,x=.int i/\y=.int j/\C i j/\Q (g i j) H
def rI0 (g:Int->Int->V):R2:=fun x y H Q=>∃ i j,x=.int i/\y=.int j/\Q (g i j) H
def rU (g:Int->V):V->Hp->VK->Prop:=fun x H Q=>∃ i,x=.int i/\Q (g i) H
section
variable {X:Cx} {a b c:Expr} {ta tb tc:TE} {pos:Pos}
theorem zq3 (ha:PE X a ta) (hb:PE X b tb) {pins:List (Addr × Obj)} {s:Shared} {σ:St} {H:Hp} {R:V->V->Hp->Prop} (I:Inv X pins σ H s)
  (h:ta σ H fun x H1=>tb σ H1 fun y H2=>R x y H2) {Q:Value->Shared->Prop} {f:Value->Value->Sem Value}
  (hf:∀ v u s2 x y H2,Inv X pins σ H2 s2->zaY x v->zaY y u->R x y H2->wpAny (model X.prog X.w) X.A (f v u) Q X.xe s2) :
  wpAny (model X.prog X.w) X.A (eval a X.env) (fun v s₁=>wpAny (model X.prog X.w) X.A (eval b X.env) (fun u s₂=>wpAny (model X.prog X.w) X.A (f v u) Q X.xe s₂) X.xe s₁) X.xe s:=by
 refine thn (ha pins s σ H _ I h) fun v s1 ⟨x,H1,I1,r1,q1⟩=>?_
 refine thn (hb pins s1 σ H1 _ I1 q1) fun u s2 ⟨y,H2,I2,r2,q2⟩=>?_
 exact hf v u s2 x y H2 I2 r1 r2 q2
theorem zaZ {op:Operator} {r:R2} (ho:OpR X (binaryOp op) r) (ha:PE X a ta) (hb:PE X b tb):PE X (.BinOp a op b pos) (tOp r ta tb):=by
 intro pins s σ H Q I h;exact wpAny_BinOp (zq3 ha hb I h fun v u s2 x y H2 I2 rx ry q=>ho pins s2 σ H2 x y v u Q I2 rx ry q)
theorem zjy {op:UnaryOp} {r:V->Hp->VK->Prop} (ho:UnR X (unaryOp op) r) (ha:PE X a ta):PE X (.UnaryOp op a pos) (tUn r ta):=by
 intro pins s σ H Q I h;exact UnaryOp_ (thn (ha pins s σ H _ I h) fun v s1 ⟨x,H1,I1,r1,q1⟩=>ho pins s1 σ H1 x v Q I1 r1 q1)
theorem opI {f:Value->Value->Sem Value} {C:Int->Int->Prop} {g:Int->Int->Int}
  (rule:∀ (i j:Int) (t u:Tok) (s:Shared) (Q:Value->Shared->Prop) (E:Value->Shared->Prop),C i j->Q (.int (g i j) s.toks) { s with toks:=s.toks+1 }->wpAny (model X.prog X.w) X.A (f (.int i t) (.int j u)) Q E s) :
  OpR X f (rI C fun i j=>.int (g i j)):=by
 intro pins s σ H x y v u Q I rx ry h;obtain⟨i,j,rfl,rfl,hc,q⟩:=h;obtain⟨t,rfl⟩:=rx;obtain⟨t',rfl⟩:=ry;exact rule i j t t' s _ _ hc ⟨.int (g i j),H,I.tok _,⟨_,rfl⟩,q⟩
theorem opI0 {f:Value->Value->Sem Value} {g:Int->Int->Int}
  (rule:∀ (i j:Int) (t u:Tok) (s:Shared) (Q:Value->Shared->Prop) (E:Value->Shared->Prop),Q (.int (g i j) s.toks) { s with toks:=s.toks+1 }->wpAny (model X.prog X.w) X.A (f (.int i t) (.int j u)) Q E s) :
  OpR X f (rI0 fun i j=>.int (g i j)):=by
 intro pins s σ H x y v u Q I rx ry h;obtain⟨i,j,rfl,rfl,q⟩:=h;obtain⟨t,rfl⟩:=rx;obtain⟨t',rfl⟩:=ry;exact rule i j t t' s _ _ ⟨.int (g i j),H,I.tok _,⟨_,rfl⟩,q⟩
theorem zqL {f:Value->Value->Sem Value} {g:Int->Int->Bool}
  (rule:∀ (i j:Int) (t u:Tok) (s:Shared) (Q:Value->Shared->Prop) (E:Value->Shared->Prop),Q (.bool (g i j)) s->wpAny (model X.prog X.w) X.A (f (.int i t) (.int j u)) Q E s) :
  OpR X f (rI0 fun i j=>.bl (g i j)):=by
 intro pins s σ H x y v u Q I rx ry h;obtain⟨i,j,rfl,rfl,q⟩:=h;obtain⟨t,rfl⟩:=rx;obtain⟨t',rfl⟩:=ry;exact rule i j t t' s _ _ ⟨.bl (g i j),H,I,rfl,q⟩
def zqR (i j:Int):Prop:=0<=j/\j<=1000000/\i.natAbs<2 ^ 64
def zqJ (i j:Int):Prop:=(-(2 ^ 64)<i/\i<2 ^ 64)\/(-(2 ^ 64)<j/\j<2 ^ 64)
theorem zqJ.ok {i j:Int} (h:zqJ i j):IntMulOk i j:=by
 rcases h with ⟨h1,h2⟩ | ⟨h1,h2⟩
 ·exact .of_left (intBits_le_64 h1 h2)
 ·exact .of_right (intBits_le_64 h1 h2)
theorem zpm:OpR X (binaryOp .Add) (rI0 fun i j=>.int (i+j)):=opI0 fun _ _ _ _ _ _ _ q=>add_int q
theorem zpd:OpR X (binaryOp .Sub) (rI0 fun i j=>.int (i-j)):=opI0 fun _ _ _ _ _ _ _ q=>sub_int q
theorem zpS:OpR X (binaryOp .Mult) (rI zqJ fun i j=>.int (i*j)):=opI fun _ _ _ _ _ _ _ hc q=>mul_int q hc.ok
theorem zqv:OpR X (binaryOp .Mod) (rI (fun _ j=>0<j) fun i j=>.int (i % j)):=opI fun i j _ _ _ _ _ hc q=>by
 have h1:(0:Int)<j:=hc;exact mod_int' (by omega) (by rw [Int.fmod_eq_emod_of_nonneg i (by omega)];exact q)
theorem zpf:OpR X (binaryOp .Pow) (rI zqR fun i j=>.int (i ^ j.toNat)):=opI fun _ _ _ _ _ _ _ hc q=>pow_int_small hc.1 hc.2.1 hc.2.2 q
theorem unI {f:Value->Sem Value} {g:Int->Int}
  (rule:∀ (i:Int) (t:Tok) (s:Shared) (Q:Value->Shared->Prop) (E:Value->Shared->Prop),Q (.int (g i) s.toks) { s with toks:=s.toks+1 }->wpAny (model X.prog X.w) X.A (f (.int i t)) Q E s) :
  UnR X f (rU fun i=>.int (g i)):=by
 intro pins s σ H x v Q I rx h;obtain⟨i,rfl,q⟩:=h;obtain⟨t,rfl⟩:=rx;exact rule i t s _ _ ⟨.int (g i),H,I.tok _,⟨_,rfl⟩,q⟩
theorem zqF:UnR X (unaryOp .USub) (rU fun i=>.int (-i)):=unI fun _ _ _ _ _ q=>neg_int q
end
section
variable {X:Cx} {a b c:Expr} {ta tb tc:TE} {pos:Pos}
theorem zes {pins:List (Addr × Obj)} {σ:St} {H:Hp} {s:Shared} {Q:VK} {k k':Bool} (I:Inv X pins σ H s) (q:Q (.bl k) H) (e:k=k'):EP X pins σ Q (.bool k') s:=by
 subst e;exact⟨.bl k,H,I,rfl,q⟩
theorem zrQ:OpR X (compareOp .Lt) (rI0 fun i j=>.bl (decide (i<j))):=zqL fun _ _ _ _ _ _ _ q=>lt_int q
theorem zq9:OpR X (compareOp .LtE) (rI0 fun i j=>.bl (decide (i<=j))):=zqL fun _ _ _ _ _ _ _ q=>le_int q
theorem zrN:OpR X (compareOp .Gt) (rI0 fun i j=>.bl (decide (j<i))):=zqL fun _ _ _ _ _ _ _ q=>gt_int q
theorem zrC:OpR X (compareOp .GtE) (rI0 fun i j=>.bl (decide (j<=i))):=zqL fun _ _ _ _ _ _ _ q=>ge_int q
theorem zll:OpR X (compareOp .Is) (fun x y H Q=>y=.non/\Q (.bl (decide (x=.non))) H):=by
 intro pins s σ H x y v u Q I rx ry h;obtain⟨rfl,q⟩:=h;cases ry;refine is_none_gen (zes I q ?_);cases x <;> first
  | (cases rx;rfl)
  | (obtain⟨t,rfl⟩:=rx;rfl)
theorem ziw:OpR X (compareOp .IsNot) (fun x y H Q=>y=.non/\Q (.bl (!decide (x=.non))) H):=by
 intro pins s σ H x y v u Q I rx ry h;obtain⟨rfl,q⟩:=h;cases ry;refine isnot_none_gen (zes I q ?_);cases x <;> first
  | (cases rx;rfl)
  | (obtain⟨t,rfl⟩:=rx;rfl)
theorem zda (b:Expr) {op:CmpOp} (h:op≠.In:=by decide) (h2:op≠.NotIn:=by decide):behindInMarks op b=false:=by
 have e1:(op == CmpOp.In)=false:=by cases op <;> first | rfl | exact absurd rfl h
 have e2:(op == CmpOp.NotIn)=false:=by cases op <;> first | rfl | exact absurd rfl h2
 cases b <;> simp [behindInMarks,e1,e2]
theorem zcx {op:CmpOp} {r:R2} (ho:OpR X (compareOp op) r) (ha:PE X a ta) (hb:PE X b tb) (hm:behindInMarks op b=false):PE X (.Compare a [op] [b] pos) (tOp r ta tb):=by
 intro pins s σ H Q I h;exact wpAny_Compare1 (zq3 ha hb I h fun v u s2 x y H2 I2 rx ry q=>ho pins s2 σ H2 x y v u Q I2 rx ry q) hm
theorem ziX:(sizeLine:Nat)<2 ^ 63:=by rw [sizeLine_eq];decide
theorem zmR {x:V} {us:List Value} (r:zaV [x] us):∃ u,us=[u]/\zaY x u:=by
 cases r with
 | cons r1 r2=>cases r2;exact⟨_,rfl,r1⟩
theorem zqt {x y:V} {us:List Value} (r:zaV [x,y] us):∃ u w',us=[u,w']/\zaY x u/\zaY y w':=by
 cases r with
 | cons r1 r2 =>
  cases r2 with
  | cons r3 r4=>cases r4;exact⟨_,_,rfl,r1,r3⟩
theorem zl4:za9 X (.builtin "abs") (fun xs H Q=>∃ i,xs=[.int i]/\Q (.int (if i<0 then -i else i)) H):=by
 intro pins s σ H xs us Q I r h;obtain⟨i,rfl,q⟩:=h;obtain⟨u,rfl,t,rfl⟩:=zmR r;exact call_abs_int fun u tk=>⟨.int (if i<0 then -i else i),H,I.tok _,⟨_,rfl⟩,q⟩
theorem zlC (hc:X.calm=true):za9 X (.builtin "max") (fun xs H Q=>∃ i j,xs=[.int i,.int j]/\Q (.int (if j > i then j else i)) H):=by
 intro pins s σ H xs us Q I r h;obtain⟨i,j,rfl,q⟩:=h;obtain⟨u,w',rfl,⟨t,rfl⟩,⟨t',rfl⟩⟩:=zqt r;refine max_two_ints (I.ok.hd hc) fun h' tk k=>⟨_,H,I.kept k,?_,q⟩
 by_cases hj:j > i
 ·rw [zsB hj,zsB hj];exact⟨_,rfl⟩
 ·rw [zsA hj,zsA hj];exact⟨_,rfl⟩
theorem zkz (hc:X.calm=true):za9 X (.builtin "min") (fun xs H Q=>∃ i j,xs=[.int i,.int j]/\Q (.int (if j<i then j else i)) H):=by
 intro pins s σ H xs us Q I r h;obtain⟨i,j,rfl,q⟩:=h;obtain⟨u,w',rfl,⟨t,rfl⟩,⟨t',rfl⟩⟩:=zqt r;refine min_two_ints (I.ok.hd hc) fun h' tk k=>⟨_,H,I.kept k,?_,q⟩
 by_cases hj:j<i
 ·rw [zsB hj,zsB hj];exact⟨_,rfl⟩
 ·rw [zsA hj,zsA hj];exact⟨_,rfl⟩
end
structure zof (h:Heap) (x dx C:Addr) (mA:Str->Option Value):Prop where
 obj:h.get? x=some (PySem.W.instObj C dx)
 ns:h.Ns1 dx mA
 ne:dx≠x
theorem zkG {h:Heap} {dx:Addr} {mA:Str->Option Value} (n:h.Ns1 dx mA):∃ od,h.get? dx=some od/\∀ name,PySem.W.lookIn name od=some (mA name):=by
 obtain⟨o,es,ep,ho,hd,hk,_,hm⟩:=n;refine⟨o,ho,fun name=>?_⟩;have e:=hm name;unfold nsFind findBy at e;rw [← Array.find?_toList] at e;unfold PySem.W.lookIn;rw [hd];dsimp only;split
 ·rename_i y q;rw [q] at e;exact congrArg some e
 ·rename_i q;rw [q] at e;have a:es.toList.any (·.refKey)=false:=by
   rw [List.any_eq_false];intro y hy;obtain⟨z,t,hkey⟩:=hk y (Array.mem_toList_iff.mp hy);simp [DictEntry.refKey,hkey]
  have a':¬ es.toList.any (·.refKey)=true:=by rw [a];exact zsI
  rw [zsA a'];exact congrArg some e
theorem zof.look {h:Heap} {x dx C:Addr} {mA:Str->Option Value} (I:zof h x dx C mA):∃ od,PySem.W.InstAt h x (PySem.W.instObj C dx) C (some od)/\∀ name,PySem.W.lookIn name od=some (mA name) :=
 let ⟨od,ho,hl⟩:=zkG I.ns
 ⟨od,⟨I.obj,rfl,rfl,ho⟩,hl⟩
section
variable {prog:Program} {w:World} {A:Around} {E:Value->Shared->Prop} {s:Shared} {K:PySem.W.Frag} {x dx C f:Addr} {mA:Str->Option Value} {name:Str} {v:Value}
theorem zoJ {expr:Bool} {Q:Value->Shared->Prop} (X:K.In s.heap) (I:zof s.heap x dx C mA) (hg:PySem.W.plainGet K C name=true) (hh:PySem.W.hasDictIn K C=true)
  (ha:PySem.W.findIn K (.ref C) name=some none) (hv:mA name=some v) (hv':PySem.W.handedIn v=true) (h:Q v { s with toks:=s.toks+1 }) :
  wpAny (model prog w) A (getAttr (.ref x) name expr) Q E s:=by
 obtain⟨od,J,hl⟩:=I.look;exact PySem.W.get_value X J (PySem.W.plainGet_of hg).1 (PySem.W.findObj_own hh ha rfl (by rw [hl,hv])) hv' h
theorem zmW {pl:Sem Bool} {Q:Value × List Value->Shared->Prop} (X:K.In s.heap) (I:zof s.heap x dx C mA) (hg:PySem.W.plainGet K C name=true)
  (hf:PySem.W.findIn K (.ref C) name=some (some (.ref f))) (ht:PySem.W.isFn K (.ref f)=true) (hv:mA name=none) (h:Q (.ref f,[.ref x]) s) :
  wpAny (model prog w) A (getMethod (.ref x) name pl) Q E s:=by
 obtain⟨od,J,hl⟩:=I.look;exact PySem.W.method_fn X J (PySem.W.plainGet_of hg).1 (PySem.W.plainGet_of hg).2 hf (beq_iff_eq.mp ht) (by show (PySem.W.lookIn name od).map (·.isSome)=some false;rw [hl,hv];rfl) h
theorem zoB {ns:List Str} {Q:Unit->Shared->Prop} (X:K.In s.heap) (I:zof s.heap x dx C mA)
  (hs:PySem.W.findIn K (.ref C) "__setattr__"=some (some (.builtin "object.__setattr__"))) (hp:PySem.W.plainOver K C=true) (ht:PySem.W.takerIn K C name=some none) (hh:PySem.W.hasDictIn K C=true)
  (hw:PySem.Within mA ns) (hsz:ns.length<=sizeLine)
  (h:∀ h',zof h' x dx C (fun y=>if y=name then some v else mA y)->Heap.SameBut dx s.heap h'->Q () { s with heap:=h',toks:=s.toks+2 }) :
  wpAny (model prog w) A (setAttr (.ref x) name v) Q E s:=by
 obtain⟨od,J,hl⟩:=I.look;refine PySem.W.set_plain X J hs (PySem.W.osa_open (s:={ s with toks:=s.toks+1 }) (r:=none) X J hp ht fun b=>?_);obtain⟨cd,hc,hd'⟩:=PySem.W.any_some hh;have hx:s.heap.get? x=some ⟨.ref C,some dx,.plain,#[]⟩:=I.obj;refine wpAny_bind (wpAny_pure (wpAny_bind (wpAny_bind (wpAny_loadPart hx (wpAny_bind (PySem.W.Looks.here (s:={ s with toks:=s.toks+1 }) (PySem.W.looks_clsIn X hc) ?_))))));rw [hd'];refine wpAny_pure (a:=some dx) (wpAny_bind (wpAny_pure (wpAny_bind ?_)));refine wpAny_nsSet1 (s:={ s with toks:=s.toks+1 }) I.ns fun h' hn2 hs2=>?_
 obtain⟨oD,esD,epD,hoD,hdD,hcD⟩:=hn2.count (PySem.Within.cons name v hw);refine wpAny_bind (wpAny_lookBehind hoD (by rw [hdD];exact pastItsLine_dict (zsd hcD (by rw [zsz];omega))) ?_);exact wpAny_pure (h _ ⟨(hs2.2 _ (Ne.symm I.ne)).trans I.obj,hn2,I.ne⟩ hs2)
theorem zmJ {R:Result->Shared->Prop} {vs:List Value} {kw:List (Str × Value)} (X:K.In s.heap) (hm:PySem.W.makesIn K C=true)
  (hi:PySem.W.findIn K (.ref C) "__init__"=some (some (.ref f))) (hf:PySem.W.typeIn K (.ref f)=some (.type "function"))
  (h:codeAny (model prog w) (A.under (.builtin "type.__call__" ⟨.ref C::vs,kw⟩)) (.call (.ref f) ⟨.ref (s.heap.objs.size+1)::vs,kw⟩) (PySem.W.InitBack (s.heap.objs.size+1) R)
   { s with heap:=(s.heap.push PySem.W.emptyDict).push (PySem.W.instObj C s.heap.objs.size) }) :
  codeAny (model prog w) A (.call (.ref C) ⟨vs,kw⟩) R s:=by
 obtain⟨hh,g,d,t,os⟩:=s;exact PySem.W.make_core (PySem.W.makes_of X hm) (PySem.W.looks_findIn X hi) (fun self=>PySem.W.bind_fn X self hf) (.inl rfl) h
end
def zde (f:Str) (v:V):List (Str × V)->List (Str × V)
 | []=>[(f,v)]
 | (g,x)::r=>if g=f then (g,v)::r else (g,x)::zde f v r
theorem zeT (f g:Str) (v:V):∀ fs:List (Str × V),(zde f v fs).lookup g=if g=f then some v else fs.lookup g
 | []=>by
  show List.lookup g [(f,v)]=_;by_cases h:g=f
  ·have hb:(g == f)=true:=beq_iff_eq.mpr h;simp only [List.lookup,hb,zsB h]
  ·have hb:(g == f)=false:=beq_eq_false_iff_ne.mpr h;simp only [List.lookup,hb,zsA h]
 | (k,x)::r=>by
  have ih:=zeT f g v r;rw [show zde f v ((k,x)::r)=(if k=f then (k,v)::r else (k,x)::zde f v r) from rfl];by_cases hk:k=f
  ·rw [zsB hk];by_cases h:g=k
   ·have hb:(g == k)=true:=beq_iff_eq.mpr h;simp only [List.lookup,hb,zsB (h.trans hk)]
   ·have hb:(g == k)=false:=beq_eq_false_iff_ne.mpr h;simp only [List.lookup,hb,zsA (fun e:g=f=>h (e.trans hk.symm))]
  ·rw [zsA hk];by_cases h:g=k
   ·have hb:(g == k)=true:=beq_iff_eq.mpr h;simp only [List.lookup,hb,zsA (fun e:g=f=>hk (h.symm.trans e))]
   ·have hb:(g == k)=false:=beq_eq_false_iff_ne.mpr h;simp only [List.lookup,hb];exact ih
theorem zfr (f:Str) (v:V):∀ fs:List (Str × V),f∈(zde f v fs).map (·.1)/\∀ g,g∈fs.map (·.1)->g∈(zde f v fs).map (·.1)
 | []=>⟨by simp [zde],fun g h=>by simp at h⟩
 | (k,x)::r=>by
  obtain⟨i1,i2⟩:=zfr f v r;rw [show zde f v ((k,x)::r)=(if k=f then (k,v)::r else (k,x)::zde f v r) from rfl];by_cases hk:k=f
  ·rw [zsB hk];subst hk;exact⟨by simp,fun g h=>by simpa using h⟩
  ·rw [zsA hk];refine⟨?_,fun g h=>?_⟩
   ·rw [zsq];exact zsh _ i1
   ·rw [zsq] at h ⊢;rcases zsF.mp h with e | e
    ·exact zsF.mpr (.inl e)
    ·exact zsh _ (i2 g e)
theorem ze6 (f:Str) (v:V):∀ fs:List (Str × V),(zde f v fs).length<=fs.length+1
 | []=>by simp [zde]
 | (k,x)::r=>by
  have ih:=ze6 f v r;rw [show zde f v ((k,x)::r)=(if k=f then (k,v)::r else (k,x)::zde f v r) from rfl];by_cases hk:k=f
  ·rw [zsB hk,zsz,zsz];omega
  ·rw [zsA hk,zsz,zsz];omega
theorem zfu.some_of {v:V} {o:Option Value} (r:zfu (some v) o):∃ u,o=some u/\zaY v u:=by
 cases o with
 | none=>exact (show False from r).elim
 | some u=>exact⟨u,rfl,r⟩
theorem zfu.none_of {o:Option Value} (r:zfu none o):o=none:=by
 cases o with
 | none=>rfl
 | some u=>exact (show False from r).elim
theorem zle {v:V} {u:Value} (r:zaY v u):PySem.W.handedIn u=true:=by
 cases v with
 | non=>cases (show u=Value.none from r);rfl
 | bl b=>cases (show u=Value.bool b from r);rfl
 | int i=>obtain⟨t,e⟩:=(show ∃ t,u=Value.int i t from r);cases e;rfl
 | str x=>obtain⟨t,e⟩:=(show ∃ t,u=Value.str x t from r);cases e;rfl
 | byt b=>obtain⟨t,e⟩:=(show ∃ t,u=Value.bytes b t from r);cases e;rfl
 | flt b=>obtain⟨t,e⟩:=(show ∃ t,u=Value.float b t from r);cases e;rfl
 | ref a=>cases (show u=Value.ref a from r);rfl
 | ty n=>cases (show u=Value.type n from r);rfl
section
variable {P:Program} {w:World} {H H':Hp} {h h':Heap} {a C dx:Addr} {fs fs':List (Str × V)}
theorem zgn (hok:HOk P w H h) (e:H a=some (.ins C dx fs)):∃ mA,zof h a dx C mA/\(∀ f,zfu (fs.lookup f) (mA f))/\PySem.Within mA (fs.map (·.1))/\fs.length<=1000/\H dx=some (.own a):=by
 obtain⟨d,z,ne,ob,mA,n,r,q⟩:=(show zaQ P w H h a (.ins C dx fs) from hok a _ e);exact⟨mA,⟨ob,n,ne⟩,r,q,z,d⟩
end
structure Cls (K:PySem.W.Frag) (C:Addr):Prop where
 pg:PySem.W.plainGet K C Str.empty=true
 hd:PySem.W.hasDictIn K C=true
 po:PySem.W.plainOver K C=true
 sa:PySem.W.findIn K (.ref C) "__setattr__"=some (some (.builtin "object.__setattr__"))
theorem Cls.get {K:PySem.W.Frag} {C:Addr} (c:Cls K C) (f:Str):PySem.W.plainGet K C f=true:=c.pg
def zcL (K:PySem.W.Frag) (C:Addr) (f:Str):Prop:=PySem.W.findIn K (.ref C) f=some none
theorem zcL.taker {K:PySem.W.Frag} {C:Addr} {f:Str} (n:zcL K C f):PySem.W.takerIn K C f=some none:=by
 unfold PySem.W.takerIn;rw [show PySem.W.findIn K (.ref C) f=some none from n]
 rfl
structure znv (K:PySem.W.Frag) (C:Addr) (m:Str) (f:Addr):Prop where
 at_:PySem.W.findIn K (.ref C) m=some (some (.ref f))
 fn:PySem.W.isFn K (.ref f)=true
 kp:PySem.W.keepIn K (.ref f)=true
section
variable {X:Cx} {pins:List (Addr × Obj)} {σ:St} {H:Hp} {s:Shared} {a C dx:Addr} {fs:List (Str × V)} {f:Str} {v:V} {A:Around} {E:Value->Shared->Prop}
theorem zfT {b:Bool} {Q:Value->Shared->Prop} (I:Inv X pins σ H s) (e:H a=some (.ins C dx fs)) (c:Cls X.K C) (n:zcL X.K C f) (l:fs.lookup f=some v)
  (h:∀ u s',Inv X pins σ H s'->zaY v u->Q u s'):wpAny (model X.prog X.w) A (getAttr (.ref a) f b) Q E s:=by
 obtain⟨mA,O,r,_,_,_⟩:=zgn I.hok e;obtain⟨u,hu,ru⟩:=zfu.some_of (v:=v) (o:=mA f) (by rw [← l];exact r f);exact zoJ I.kIn O (c.get f) c.hd n hu (zle ru) (h u _ (I.tok _) ru)
theorem zfL {m:Str} {g:Addr} {pl:Sem Bool} {Q:Value × List Value->Shared->Prop} (I:Inv X pins σ H s) (e:H a=some (.ins C dx fs)) (c:Cls X.K C) (k:znv X.K C m g) (l:fs.lookup m=none)
  (h:Q (.ref g,[.ref a]) s):wpAny (model X.prog X.w) A (getMethod (.ref a) m pl) Q E s:=by
 obtain⟨mA,O,r,_,_,_⟩:=zgn I.hok e;have hn:mA m=none:=zfu.none_of (by rw [← l];exact r m);exact zmW I.kIn O (c.get m) k.at_ k.fn hn h
theorem zfQ {y:V} {u:Value} {Q:Unit->Shared->Prop} (I:Inv X pins σ H s) (e:H a=some (.ins C dx fs)) (c:Cls X.K C) (n:zcL X.K C f) (hl:fs.length<1000) (ry:zaY y u)
  (h:∀ s',Inv X pins σ (upd H a (.ins C dx (zde f y fs))) s'->Q () s'):wpAny (model X.prog X.w) A (setAttr (.ref a) f u) Q E s:=by
 obtain⟨mA,O,r,wi,_,ho⟩:=zgn I.hok e;have hz:(fs.map (·.1)).length<=sizeLine:=by rw [zrY,sizeLine_eq];omega
 refine zoB I.kIn O c.sa c.po n.taker c.hd wi hz fun h' O' sb=>h _ ?_
 have hd:∃ o,h'.get? dx=some o:=let ⟨o,_,_,e',_⟩:=O'.ns;⟨o,e'⟩;refine I.write (x:=a) (e:=dx) (by rw [e];exact True.intro) (.inr ho) (fun b q hb z=>(sb.2 b hb).trans z) hd ?_;refine⟨by rw [zao O.ne];exact ho,?_,O.ne,O'.obj,_,O'.ns,fun g=>?_,fun g hg=>?_⟩
 ·have:=ze6 f y fs;omega
 ·show zfu ((zde f y fs).lookup g) (if g=f then some u else mA g);rw [zeT];by_cases q:g=f
  ·rw [zsB q,zsB q];exact ry
  ·rw [zsA q,zsA q];exact r g
 ·by_cases q:g=f
  ·rw [q];exact (zfr f y fs).1
  ·refine (zfr f y fs).2 g (wi g fun z=>hg ?_);show (if g=f then some u else mA g)=none;rw [zsA q];exact z
theorem Inv.made (I:Inv X pins σ H s):Inv X pins σ (upd (upd H s.heap.objs.size (.own (s.heap.objs.size+1))) (s.heap.objs.size+1) (.ins C s.heap.objs.size []))
  { s with heap:=(s.heap.push PySem.W.emptyDict).push (PySem.W.instObj C s.heap.objs.size) }:=by
 have e1:(s.heap.push PySem.W.emptyDict).get? s.heap.objs.size=some PySem.W.emptyDict:=zsx s.heap rfl;have e2:((s.heap.push PySem.W.emptyDict).push (PySem.W.instObj C s.heap.objs.size)).get? (s.heap.objs.size+1)=some (PySem.W.instObj C s.heap.objs.size):=by
  have:=zsx (s.heap.push PySem.W.emptyDict) (o:=PySem.W.instObj C s.heap.objs.size) rfl
  rwa [Heap.size_push] at this
 have e3:(s.heap.push PySem.W.emptyDict).Ns s.heap.objs.size (fun _=>none):=⟨PySem.W.emptyDict,#[],_,e1,rfl,(fun e he=>absurd he (by simp)),fun _=>rfl⟩;have I1:=I.laid (a:=s.heap.objs.size) (o:=.own (s.heap.objs.size+1)) (h':=s.heap.push PySem.W.emptyDict) (t':=s.toks) (fun b u q=>zsb _ q) (zse _) ⟨_,e1⟩;refine I1.laid (a:=s.heap.objs.size+1) (o:=.ins C s.heap.objs.size []) (t':=s.toks) (fun b u q=>zsb _ q) (Nat.le_of_eq (Heap.size_push _ _)) ?_;have ne:s.heap.objs.size≠s.heap.objs.size+1:=zsG (Nat.lt_succ_self _);refine⟨by rw [zao ne,zah],Nat.zero_le _,ne,e2,fun _=>none,(Heap.Ns1.of_empty e3).at fun o q=>zsb _ q,fun _=>True.intro,fun y hy=>absurd rfl hy⟩
theorem zn7 {prog:Program} {w:World} {env:Env} {e:Expr} {f:Str} {pos:Pos} {s:Shared} {Q:Value->Shared->Prop} (hb:attributeBase e f env (eval e env)=eval e env)
  (h:wpAny (model prog w) A (eval e env) (fun o s₁=>wpAny (model prog w) A (getAttr o f true) Q E s₁) E s):wpAny (model prog w) A (eval (.Attribute e f pos) env) Q E s :=
 Attribute_any_ h (by rw [arm_eval_Attribute,hb])
end
def tFld (K:PySem.W.Frag) (ta:TE) (f:Str):TE:=fun σ H Q=>ta σ H fun x H1=>∃ a C dx fs v,x=.ref a/\H1 a=some (.ins C dx fs)/\Cls K C/\zcL K C f/\fs.lookup f=some v/\Q v H1
def sFld (K:PySem.W.Frag) (ta tv:TE) (f:Str):TS:=fun D σ H=>tv σ H fun y H1=>ta σ H1 fun x H2=>∃ a C dx fs,x=.ref a/\H2 a=some (.ins C dx fs)/\Cls K C/\zcL K C f/\fs.length<1000 /\
 D.nx σ (upd H2 a (.ins C dx (zde f y fs)))
def InOp (X:Cx) (op:Operator) (rd:V->V->Hp->VK->Prop):Prop :=
 ∀ (pins:List (Addr × Obj)) (s:Shared) (σ:St) (H:Hp) (x y:V) (u v:Value) (Q:VK),Inv X pins σ H s->zaY x u->zaY y v->rd x y H Q->wpAny (model X.prog X.w) X.A (inplaceOp op u v) (EP X pins σ Q) X.xe s
def zoz (K:PySem.W.Frag) (ta tv:TE) (rd:V->V->Hp->VK->Prop) (f:Str):TS:=fun D σ H=>ta σ H fun x H1=>∃ a C dx fs v,x=.ref a/\H1 a=some (.ins C dx fs)/\Cls K C/\zcL K C f/\fs.lookup f=some v /\
 tv σ H1 fun y H2=>rd v y H2 fun z H3=>∃ dx' fs',H3 a=some (.ins C dx' fs')/\fs'.length<1000/\D.nx σ (upd H3 a (.ins C dx' (zde f z fs')))
section
variable {X:Cx} {o e value:Expr} {f:Str} {pos pos' tpos:Pos} {ta tv:TE}
theorem zb2 (he:PE X e ta) (hb:attributeBase e f X.env (eval e X.env)=eval e X.env):PE X (.Attribute e f pos) (tFld X.K ta f):=by
 intro pins s σ H Q I h;refine zn7 hb (thn (he pins s σ H _ I h) fun u s1 ⟨x,H1,I1,rx,a,C,dx,fs,v,ex,ea,c,n,l,q⟩=>?_);subst ex;obtain rfl:u=Value.ref a:=rx;exact zfT I1 ea c n l fun u' s2 I2 ru=>⟨v,H1,I2,ru,q⟩
theorem zhA (ha:PE X o ta) (hv:PE X value tv) (hs:swapsWith value (some (.Attribute o f pos')) pos.line X.env=pure false):PS X (.Assign [.Attribute o f pos'] value pos) (sFld X.K ta tv f):=by
 intro pins s σ H D I h;refine plainObj_wpAny_Assign_Attribute (thn (hv pins s σ H _ I h) fun u s1 ⟨y,H1,I1,ry,q⟩=>thn (ha pins s1 σ H1 _ I1 q) fun ov s2 ⟨x,H2,I2,rx,a,C,dx,fs,ex,ea,c,n,l,q2⟩=>?_) hs;subst ex;obtain rfl:ov=Value.ref a:=rx;exact zfQ I2 ea c n l ry fun s3 I3=>⟨σ,_,I3,q2⟩
theorem zkX {op:Operator} {rd:V->V->Hp->VK->Prop} (ha:PE X o ta) (hv:PE X value tv) (hop:InOp X op rd):PS X (.AugAssign (.Attribute o f tpos) op value pos) (zoz X.K ta tv rd f):=by
 intro pins s σ H D I h;refine wpAny_AugAssign_AttributeAny (thn (ha pins s σ H _ I h) fun ov s1 ⟨x,H1,I1,rx,a,C,dx,fs,v,ex,ea,c,n,l,q⟩=>?_);subst ex;obtain rfl:ov=Value.ref a:=rx;refine zfT I1 ea c n l fun u s2 I2 ru=>thn (hv pins s2 σ H1 _ I2 q) fun w3 s3 ⟨y,H2,I3,ry,q3⟩=>thn (hop pins s3 σ H2 v y u w3 _ I3 ru ry q3) fun w4 s4 ⟨z,H3,I4,rz,dx',fs',ea',l',q4⟩=>?_
 exact zfQ I4 ea' c n l' rz fun s5 I5=>⟨σ,_,I5,q4⟩
def rAdd:V->V->Hp->VK->Prop:=fun x y H Q=>∃ i j,x=.int i/\y=.int j/\Q (.int (i+j)) H
theorem zpb:InOp X .Add rAdd:=by
 rintro pins s σ H x y u v Q I rx ry ⟨i,j,rfl,rfl,q⟩;obtain⟨t,rfl⟩:=(show ∃ t,u=Value.int i t from rx);obtain⟨t',rfl⟩:=(show ∃ t',v=Value.int j t' from ry);exact PyProof.Rows.iadd_int ⟨.int (i+j),H,I.tok _,⟨_,rfl⟩,q⟩
end
section
variable {X:Cx} {pins:List (Addr × Obj)} {σ:St} {H:Hp} {s:Shared} {A:Around} {E:Value->Shared->Prop} {Q:Value->Shared->Prop} {c:Value} {b:Bool}
inductive zjQ (K:PySem.W.Frag) (H:Hp):V->Value->Prop where
 | non:zjQ K H .non (.type "NoneType")
 | bl (x:Bool):zjQ K H (.bl x) (.type "bool")
 | int (i:Int):zjQ K H (.int i) (.type "int")
 | str (x:Str):zjQ K H (.str x) (.type "str")
 | flt (x:UInt64):zjQ K H (.flt x) (.type "float")
 | lst {a:Addr} {xs:List V} (e:H a=some (.lst xs)):zjQ K H (.ref a) (.type "list")
 | frz {a:Addr} {o:Obj} {xs:List V} (e:H a=some (.frz o (.lst xs))):zjQ K H (.ref a) (.type "list")
 | tup {a:Addr} {xs:List V} (e:H a=some (.tup xs)):zjQ K H (.ref a) (.type "tuple")
 | dK {a:Addr} {kvs:List (Key × V)} (e:H a=some (.dK kvs)):zjQ K H (.ref a) (.type "dict")
 | dT {a:Addr} {kvs:List (List Key × V)} (e:H a=some (.dT kvs)):zjQ K H (.ref a) (.type "dict")
 | ins {a C dx:Addr} {fs:List (Str × V)} (e:H a=some (.ins C dx fs)) (cl:Cls K C) (ha:PySem.W.findIn K (.ref C) "__class__"=some (some (.builtin "object.__class__")))
   (hn:PySem.W.specialIn K (.builtin "object.__class__") "__get__"=some (some (.builtin "getset_descriptor.__get__"))) (htk:PySem.W.takesIn K (.builtin "object.__class__")=some true)
   (hm:PySem.W.mroIn K C (.type "object")=some true):zjQ K H (.ref a) (.ref C)
theorem zln {x:V} {u t:Value} (I:Inv X pins σ H s) (rx:zaY x u) (ty:zjQ X.K H x t) (e:PySem.W.kitOne X.K t c=some b) (h:∀ tk,Q (.bool b) { s with toks:=tk }) :
  wpAny (model X.prog X.w) A (call (.builtin "isinstance") [u,c]) Q E s:=by
 cases ty with
 | non=>cases (show u=Value.none from rx);exact PySem.W.kia_one PySem.W.kitx_none I.kIn True.intro e (fun z=>nomatch z) h
 | bl y=>cases (show u=Value.bool y from rx);exact PySem.W.kia_one PySem.W.kitx_bool I.kIn True.intro e (fun z=>nomatch z) h
 | int i=>obtain⟨t,q⟩:=(show ∃ t,u=Value.int i t from rx);cases q;exact PySem.W.kia_one PySem.W.kitx_int I.kIn True.intro e (fun z=>nomatch z) h
 | str y=>obtain⟨t,q⟩:=(show ∃ t,u=Value.str y t from rx);cases q;exact PySem.W.kia_one PySem.W.kitx_str I.kIn True.intro e (fun z=>nomatch z) h
 | flt y=>obtain⟨t,q⟩:=(show ∃ t,u=Value.float y t from rx);cases q;exact PySem.W.kia_one PySem.W.kitx_float I.kIn True.intro e (fun z=>nomatch z) h
 | @lst a xs ea =>
  cases (show u=Value.ref a from rx);obtain⟨_,_,n,_,h1⟩:=(show zaQ X.prog X.w H s.heap a (.lst xs) from I.hok a _ ea);exact PySem.W.kia_one PySem.W.kitx_list I.kIn ⟨_,h1,rfl⟩ e (fun z=>nomatch z) h
 | @frz a ob xs ea =>
  cases (show u=Value.ref a from rx);obtain⟨_,_,_,n,_,h1⟩:=(show zaQ X.prog X.w H s.heap a (.frz ob (.lst xs)) from I.hok a _ ea);exact PySem.W.kia_one PySem.W.kitx_list I.kIn ⟨_,h1,rfl⟩ e (fun z=>nomatch z) h
 | @tup a xs ea =>
  cases (show u=Value.ref a from rx);obtain⟨_,_,_,p⟩:=(show zaQ X.prog X.w H s.heap a (.tup xs) from I.hok a _ ea);obtain⟨o,h1,h2,_⟩:=p;exact PySem.W.kia_one PySem.W.kitx_tuple I.kIn ⟨o,h1,h2⟩ e (fun z=>nomatch z) h
 | @dK a kvs ea =>
  cases (show u=Value.ref a from rx);obtain⟨_,_,vs,_,p⟩:=(show zaQ X.prog X.w H s.heap a (.dK kvs) from I.hok a _ ea);obtain⟨o,es,ep,h1,h2,_⟩:=p;exact PySem.W.kia_one PySem.W.kitx_dict I.kIn ⟨o,h1,h2.1⟩ e (fun z=>nomatch z) h
 | @dT a kvs ea =>
  cases (show u=Value.ref a from rx);obtain⟨_,_,xs,_,o,es,ep,h1,h2,_⟩:=(show zaQ X.prog X.w H s.heap a (.dT kvs) from I.hok a _ ea);exact PySem.W.kia_one PySem.W.kitx_dict I.kIn ⟨o,h1,h2.1⟩ e (fun z=>nomatch z) h
 | @ins a C dx fs ea cl ha hn htk hm =>
  cases (show u=Value.ref a from rx);obtain⟨mA,O,_⟩:=zgn I.hok ea;obtain⟨od,J,_⟩:=O.look;exact PySem.W.kia_one (PySem.W.kitx_own (cl.get _) cl.hd ha hn htk hm) I.kIn J e (fun z=>nomatch z) h
end
structure zcQ (k:Nat) (A:Around):Prop where
 hd:A.handled=none
 dp:A.depth+3*k+5<recursionLimit
 un:A.units+16*k+200<cLine
theorem zcQ.mono {j k:Nat} {A:Around} (r:zcQ k A) (h:j<=k):zcQ j A:=⟨r.hd,by have:=r.dp;omega,by have:=r.un;omega⟩
theorem zcQ.deeper {k:Nat} {A:Around} (r:zcQ (k+1) A) (env:Env):zcQ k (A.deeper env) :=
 ⟨r.hd,by have:=r.dp;show A.depth+1+3*k+5<_;omega,by have:=r.un;show A.units+3+16*k+200<_;omega⟩
theorem zjN {A:Around} {C:Addr} {us:List Value} {kw:List (Str × Value)}:(A.under (.builtin "type.__call__" ⟨.ref C::us,kw⟩)).depth=A.depth+1:=by
 first | rfl | simp [Around.under,Code.weight,Code.isCreation,Code.isGuard,Code.isCaller,Code.frames,Code.isFrame,guardIds]
theorem zjF {A:Around} {C:Addr} {us:List Value} {kw:List (Str × Value)}:(A.under (.builtin "type.__call__" ⟨.ref C::us,kw⟩)).units=A.units+1:=by
 first | rfl | simp [Around.under,Code.cUnits,Code.frames,Code.isFrame]
theorem zcQ.make {k:Nat} {A:Around} (r:zcQ (k+1) A) (C:Addr) (us:List Value) (kw:List (Str × Value)):zcQ k (A.under (.builtin "type.__call__" ⟨.ref C::us,kw⟩)) :=
 ⟨r.hd,by have:=r.dp;rw [zjN];omega,by have:=r.un;rw [zjF];omega⟩
theorem zcQ.depth {k:Nat} {A:Around} (r:zcQ k A):A.depth<recursionLimit:=by have:=r.dp;omega
theorem zcQ.units {k:Nat} {A:Around} (r:zcQ k A):A.units+64<cLine:=by have:=r.un;omega
def zrR:TA:=fun _ H Q=>Q [] H
def zqX (ta:TE) (tr:TA):TA:=fun σ H Q=>ta σ H fun x H1=>tr σ H1 fun xs H2=>Q (x::xs) H2
section
variable {X:Cx} {e:Expr} {es:List Expr} {te:TE} {t:TA} {pos:Pos}
theorem zac:PA X [] zrR:=fun _ _ _ _ H Q I h=>Calls.spliced_nil ⟨[],H,I,.nil,h⟩
theorem zaa (ha:PE X e te) (hr:PA X es t) (hs:starEach (e::es) X.env=(false,eval e X.env)::starEach es X.env:=by rfl):PA X (e::es) (zqX te t):=by
 intro pos pins s σ H Q I h;rw [hs];show wpAny _ _ (spliced ((false,eval e X.env)::backTo pos (starEach es X.env))) _ _ s;refine Calls.spliced_cons (thn (ha pins s σ H _ I h) fun u s1 ⟨x,H1,I1,r1,q1⟩=>?_);exact thn (hr pos pins s1 σ H1 _ I1 q1) fun us s2 ⟨xs,H2,I2,r2,q2⟩=>⟨x::xs,H2,I2,.cons r1 r2,q2⟩
def tTup (t:TA):TE:=fun σ H Q=>t σ H fun xs H1=>xs.length<=sizeLine/\∀ p,H1 p=none->Q (.ref p) (upd H1 p (.tup xs))
def tLst (t:TA):TE:=fun σ H Q=>t σ H fun xs H1=>xs.length<=sizeLine/\∀ p,H1 p=none->Q (.ref p) (upd H1 p (.lst xs))
theorem zau {x1} (h:PA X es t):PE X (.Tuple es x1 pos) (tTup t):=by
 intro pins s σ H Q I hq;refine wpAny_Tuple_spliced (thn (h pos pins s σ H _ I hq) fun us s1 ⟨xs,H1,I1,r,z,q⟩=>⟨by rw [← r.length];exact z,?_⟩);have hf:H1 s1.heap.objs.size=none:=I1.hok.fresh (zse _);refine⟨.ref s1.heap.objs.size,upd H1 s1.heap.objs.size (.tup xs),I1.laid (t':=s1.toks) (fun b u e=>zsb _ e) (zse _) ?_,rfl,q _ hf⟩;exact⟨z,us,r,.of (zsx _ rfl)⟩
theorem zaL (h:PA X es t):PE X (.List es pos) (tLst t):=by
 intro pins s σ H Q I hq;refine wpAny_List_spliced (thn (h pos pins s σ H _ I hq) fun us s1 ⟨xs,H1,I1,r,z,q⟩=>⟨by rw [← r.length];exact z,?_⟩);have hf:H1 s1.heap.objs.size=none:=I1.hok.fresh (zse _);refine⟨.ref s1.heap.objs.size,upd H1 s1.heap.objs.size (.lst xs),I1.laid (t':=s1.toks) (fun b u e=>zsb _ e) (zse _) ?_,rfl,q _ hf⟩;exact⟨z,us,0,r,zsx _ rfl⟩
end
abbrev Sp:=List V->Hp->VK->XK->Prop
abbrev CXT:=List Env->Hp->Shared->XK->Value->Shared->Prop
structure zo0 (P:Program) (w:World) (K:PySem.W.Frag) (mg:Str->Option Value) (base:Heap) (A:Around) (outer:List Env) (s:Shared) (H:Hp):Prop where
 frames:A.frames=some outer
 mod:Mod K mg base
 bs:∀ b o,base.get? b=some o->s.heap.get? b=some o/\H b=none
 bsz:base.objs.size<=s.heap.objs.size
 funs:s.heap.FunFrames base outer
 frf:∀ b∈frs outer,H b=none
 hok:HOk P w H s.heap
 bare:AllBare s.gens
def CE (outer:List Env) (P:Program) (w:World) (H:Hp) (s:Shared) (Q:VK) (u:Value) (s':Shared):Prop :=
 ∃ v H',s'.os=s.os/\AllBare s'.gens/\Un (frs outer) [] H H' s.heap s'.heap/\HOk P w H' s'.heap/\zaY v u/\Q v H'
def CR (CX:CXT) (outer:List Env) (P:Program) (w:World) (H:Hp) (s:Shared) (Q:VK) (E:XK) (r:Result) (s':Shared):Prop :=
 match r with
 | .ok (.ret u)=>CE outer P w H s Q u s'
 | .ok _=>False
 | .error e=>CX outer H s E e s'
structure zaC (P:Program) (w:World) (K:PySem.W.Frag) (mg:Str->Option Value) (base:Heap) (CX:CXT) (k:Nat) (f:Addr) (fd:FuncData) (ps:List Str) (sp:Sp):Prop where
 len:∀ vs H Q E,sp vs H Q E->vs.length=ps.length
 run:∀ (A:Around) (outer:List Env) (s:Shared) (H:Hp) (args:Args) (us:List Value) (vs:List V) (Q:VK) (E:XK),zcQ k A->zo0 P w K mg base A outer s H->BindsTo s fd args (ps.zip us)->zaV vs us->sp vs H Q E ->
  codeAny (model P w) A (.call (.ref f) args) (CR CX outer P w H s Q E) s
theorem zo0.make {P:Program} {w:World} {K:PySem.W.Frag} {mg:Str->Option Value} {base:Heap} {A:Around} {outer:List Env} {s:Shared} {H:Hp} (e:zo0 P w K mg base A outer s H) (C:Addr) (us:List Value) (kw:List (Str × Value)) :
  zo0 P w K mg base (A.under (.builtin "type.__call__" ⟨.ref C::us,kw⟩)) outer s H:=⟨by first | exact e.frames | (simpa [Around.under,Code.envs,Code.isFrame,pushEnvs] using e.frames),e.mod,e.bs,e.bsz,e.funs,e.frf,e.hok,e.bare⟩
section
variable {X:Cx} {pins:List (Addr × Obj)} {σ:St} {H:Hp} {s s':Shared}
theorem Inv.env0 (I:Inv X pins σ H s):zo0 X.prog X.w X.K X.mg X.base X.A X.stack s H :=
 ⟨I.ok.frames,I.ok.mod,I.bs,zsd I.ok.bsz I.sz,I.stack,I.stkFree,I.hok,I.bare⟩
theorem Inv.after {Q:VK} {u:Value} (I:Inv X pins σ H s) (h:CE X.stack X.prog X.w H s Q u s'):EP X pins σ Q u s':=by
 obtain⟨v,H',os,bare,un,hok,r,q⟩:=h;obtain⟨hh,g,d,t,os'⟩:=s';obtain rfl:os'=s.os:=os;exact⟨v,H',I.call (h':=hh) (g':=g) (d':=d) (t':=t) (ch:=[]) un hok bare (fun b z=>absurd z (by simp)),r,q⟩
end
def zpP (sp:Sp) (dvs:List V) (E:XK) (t:TA):TE:=fun σ H Q=>t σ H fun vs H1=>sp (vs++dvs) H1 Q E
def zpO (C:Addr) (m:Str) (sp:Sp) (dvs:List V) (E:XK) (ta:TE) (t:TA):TE:=fun σ H Q=>ta σ H fun x H1=>∃ a dx fs,x=.ref a/\H1 a=some (.ins C dx fs)/\fs.lookup m=none /\
 t σ H1 fun vs H2=>sp (x::(vs++dvs)) H2 Q E
def zq5 (C:Addr) (sp:Sp) (dvs:List V) (E:XK) (t:TA):TE:=fun σ H Q=>t σ H fun vs H1=>∀ x dx,H1 x=none->H1 dx=none->dx≠x ->
 sp (.ref x::(vs++dvs)) (upd (upd H1 dx (.own x)) x (.ins C dx [])) (fun v H2=>v=.non/\Q (.ref x) H2) E
def zaA (K:PySem.W.Frag) (fd:FuncData) (ps:List Str) (ds:List Value):Prop :=
 ∀ (s:Shared) (us:List Value),K.In s.heap->(us++ds).length=ps.length->BindsTo s fd ⟨us,[]⟩ (ps.zip (us++ds))
theorem zaA.all {K:PySem.W.Frag} {fd:FuncData} {ps:List Str} (h:∀ us:List Value,us.length=ps.length->bindArgs fd ⟨us,[]⟩=pure (ps.zip us)):zaA K fd ps []:=fun s us _ hl=>by
 rw [zsa] at hl ⊢;exact .of_eq (h us hl)
def zdC (CX:CXT) (X:Cx) (E:XK):Prop:=∀ (pins:List (Addr × Obj)) (σ:St) (H:Hp) (s:Shared) (e:Value) (s':Shared),Inv X pins σ H s->CX X.stack H s E e s'->X.xe e s'
section
variable {X:Cx} {CX:CXT} {k:Nat} {f C:Addr} {fd:FuncData} {ps:List Str} {sp:Sp} {dvs:List V} {ds:List Value} {E:XK} {x m:Str} {p pos apos:Pos} {e o:Expr} {es:List Expr} {ta:TE} {t:TA}
theorem zi2 {pins:List (Addr × Obj)} {σ:St} {H:Hp} {s:Shared} {Q:VK} {us:List Value} {vs:List V} (F:zaC X.prog X.w X.K X.mg X.base CX k f fd ps sp) (hr:zcQ k X.A) (hb:zaA X.K fd ps ds) (hd:zaV dvs ds) (hx:zdC CX X E)
  (I:Inv X pins σ H s) (r:zaV vs us) (h:sp (vs++dvs) H Q E):wpAny (model X.prog X.w) X.A (call (.ref f) us) (EP X pins σ Q) X.xe s:=by
 have r2:zaV (vs++dvs) (us++ds):=r.append hd;have hl:(us++ds).length=ps.length:=by rw [← r2.length];exact F.len _ _ _ _ h
 refine wpAny_call (codeAny_mono (F.run X.A X.stack s H ⟨us,[]⟩ (us++ds) (vs++dvs) Q E hr I.env0 (hb s us I.kIn hl) r2 h) fun r s' hq=>?_);cases r with
 | error e=>exact hx pins σ H s e s' I hq
 | ok fl =>
  cases fl with
  | ret u=>exact I.after hq
  | next=>exact False.elim hq
  | brk=>exact False.elim hq
  | cont=>exact False.elim hq
theorem zaj (F:zaC X.prog X.w X.K X.mg X.base CX k f fd ps sp) (hr:zcQ k X.A) (hg:Gl X x) (hm:X.mg x=some (.ref f)) (hk:PySem.W.keepIn X.K (.ref f)=true) (hb:zaA X.K fd ps ds) (hd:zaV dvs ds) (hx:zdC CX X E)
  (ha:PA X (e::es) t) (hdb:(x == ("__debug__":Str))=false:=by decide) (he:starEach (e::es) X.env=(false,eval e X.env)::starEach es X.env:=by rfl) (hpl:(backTo pos (starEach es X.env)).any (·.1)=false:=by rfl) :
  PE X (.Call (.Name x p) (e::es) [] pos) (zpP sp dvs E t):=by
 intro pins s σ H Q I h;refine wpAny_Call_Name_kw (zdm I hg hm ?_ hdb);refine PySem.W.callWith_K (h₀:=X.base) I.ok.mod.kin hk (thn (ha pos pins s σ H _ I h) fun us s1 ⟨vs,H1,I1,r,q⟩=>⟨I1.kIn,?_⟩) he hpl;exact zi2 F hr hb hd hx I1 r q
theorem zmM (F:zaC X.prog X.w X.K X.mg X.base CX k f fd ps sp) (hr:zcQ k X.A) (hg:Gl X x) (hm:X.mg x=some (.ref f)) (hk:PySem.W.keepIn X.K (.ref f)=true) (hb:zaA X.K fd ps ds) (hd:zaV dvs ds) (hx:zdC CX X E)
  (hdb:(x == ("__debug__":Str))=false:=by decide):PE X (.Call (.Name x p) [] [] pos) (zpP sp dvs E zrR):=by
 intro pins s σ H Q I h;refine wpAny_Call_Name_kw (zdm I hg hm ?_ hdb);exact PySem.W.callWith_K0 I.kIn hk (zi2 (us:=[]) F hr hb hd hx I .nil h)
theorem znN {pl:Sem Bool} (he:PE X o ta) (c:Cls X.K C) (hm:znv X.K C m f) (F:zaC X.prog X.w X.K X.mg X.base CX k f fd ps sp) (hr:zcQ k X.A) (hb:zaA X.K fd ps ds) (hd:zaV dvs ds) (hx:zdC CX X E) (ha:PA X (e::es) t)
  (hst:starEach (e::es) X.env=(false,eval e X.env)::starEach es X.env:=by rfl) (hpl:(backTo pos (starEach es X.env)).any (·.1)=false:=by rfl)
  (ht:eval (.Call (.Attribute o m apos) (e::es) [] pos) X.env=(do
   let ov ← eval o X.env
   standAt apos.atName
   let (f,first) ← holding [ov] (getMethod ov m pl)
   callWith pos f first (backTo pos (starEach (e::es) X.env)) (backToKw pos (keywordEach [] X.env))):=by rfl) :
  PE X (.Call (.Attribute o m apos) (e::es) [] pos) (zpO C m sp dvs E ta t):=by
 intro pins s σ H Q I h;refine PySem.W.methodCall_KW (pl:=pl) (thn (he pins s σ H _ I h) fun u s1 ⟨x,H1,I1,rx,a,dx,fs,ex,ea,l,q⟩=>?_) ht;subst ex;obtain rfl:u=Value.ref a:=rx;refine zfL I1 ea c hm l ?_;refine PySem.W.callWith_K (first:=[.ref a]) (h₀:=X.base) I.ok.mod.kin hm.kp (thn (ha pos pins s1 σ H1 _ I1 q) fun us s2 ⟨vs,H2,I2,r,q2⟩=>⟨I2.kIn,?_⟩) hst hpl;exact zi2 (us:=.ref a::us) (vs:=.ref a::vs) F hr hb hd hx I2 (.cons rfl r) q2
theorem zaI {pl:Sem Bool} (he:PE X o ta) (c:Cls X.K C) (hm:znv X.K C m f) (F:zaC X.prog X.w X.K X.mg X.base CX k f fd ps sp) (hr:zcQ k X.A) (hb:zaA X.K fd ps ds) (hd:zaV dvs ds) (hx:zdC CX X E)
  (ht:eval (.Call (.Attribute o m apos) [] [] pos) X.env=(do
   let ov ← eval o X.env
   standAt apos.atName
   let (f,first) ← holding [ov] (getMethod ov m pl)
   callWith pos f first (backTo pos (starEach [] X.env)) (backToKw pos (keywordEach [] X.env))):=by rfl) :
  PE X (.Call (.Attribute o m apos) [] [] pos) (zpO C m sp dvs E ta zrR):=by
 intro pins s σ H Q I h;refine PySem.W.methodCall_KW (pl:=pl) (thn (he pins s σ H _ I h) fun u s1 ⟨x,H1,I1,rx,a,dx,fs,ex,ea,l,q⟩=>?_) ht;subst ex;obtain rfl:u=Value.ref a:=rx;refine zfL I1 ea c hm l ?_;exact PySem.W.callWith_K0 (first:=[.ref a]) I1.kIn hm.kp (zi2 (us:=[.ref a]) (vs:=[.ref a]) F hr hb hd hx I1 (.cons rfl .nil) q)
structure Mk (K:PySem.W.Frag) (C f:Addr):Prop where
 makes:PySem.W.makesIn K C=true
 init:PySem.W.findIn K (.ref C) "__init__"=some (some (.ref f))
 fn:PySem.W.isFn K (.ref f)=true
 kp:PySem.W.keepIn K (.ref C)=true
theorem zl1 {pins:List (Addr × Obj)} {σ:St} {H:Hp} {s:Shared} {Q:VK} {us:List Value} {vs:List V} (M:Mk X.K C f) (F:zaC X.prog X.w X.K X.mg X.base CX k f fd ps sp) (hr:zcQ (k+1) X.A) (hb:zaA X.K fd ps ds) (hd:zaV dvs ds)
  (hx:zdC CX X E) (I:Inv X pins σ H s) (r:zaV vs us)
  (h:∀ x dx,H x=none->H dx=none->dx≠x->sp (.ref x::(vs++dvs)) (upd (upd H dx (.own x)) x (.ins C dx [])) (fun v H2=>v=.non/\Q (.ref x) H2) E) :
  wpAny (model X.prog X.w) X.A (call (.ref C) us) (EP X pins σ Q) X.xe s:=by
 have hq:=h (s.heap.objs.size+1) s.heap.objs.size (I.hok.fresh (Nat.le_succ _)) (I.hok.fresh (zse _)) (zsG (Nat.lt_succ_self _));have I2:=Inv.made (C:=C) I;have r2:zaV (V.ref (s.heap.objs.size+1)::(vs++dvs)) (Value.ref (s.heap.objs.size+1)::(us++ds)):=.cons rfl (r.append hd);have hl:(Value.ref (s.heap.objs.size+1)::us++ds).length=ps.length:=by
  have e:=r2.length;rw [F.len _ _ _ _ hq] at e;exact e.symm
 refine wpAny_call (zmJ (f:=f) I.kIn M.makes M.init (beq_iff_eq.mp M.fn) (codeAny_mono (F.run _ X.stack _ _ ⟨Value.ref (s.heap.objs.size+1)::us,[]⟩ (Value.ref (s.heap.objs.size+1)::(us++ds)) _ _ E (hr.make C us [])
  (I2.env0.make C us []) (hb _ (Value.ref (s.heap.objs.size+1)::us) I2.kIn hl) r2 hq) fun r s' hq'=>?_))
 cases r with
 | error e=>exact hx pins σ _ _ e s' I2 hq'
 | ok fl =>
  cases fl with
  | ret u =>
   obtain⟨v,H',I3,rv,ev,q3⟩:=I2.after hq';subst ev;exact⟨rv,⟨V.ref (s.heap.objs.size+1),H',I3,rfl,q3⟩⟩
  | next=>exact False.elim hq'
  | brk=>exact False.elim hq'
  | cont=>exact False.elim hq'
theorem zlw (M:Mk X.K C f) (F:zaC X.prog X.w X.K X.mg X.base CX k f fd ps sp) (hr:zcQ (k+1) X.A) (hg:Gl X x) (hm:X.mg x=some (.ref C)) (hb:zaA X.K fd ps ds) (hd:zaV dvs ds) (hx:zdC CX X E)
  (ha:PA X (e::es) t) (hdb:(x == ("__debug__":Str))=false:=by decide) (he:starEach (e::es) X.env=(false,eval e X.env)::starEach es X.env:=by rfl) (hpl:(backTo pos (starEach es X.env)).any (·.1)=false:=by rfl) :
  PE X (.Call (.Name x p) (e::es) [] pos) (zq5 C sp dvs E t):=by
 intro pins s σ H Q I h;refine wpAny_Call_Name_kw (zdm I hg hm ?_ hdb);refine PySem.W.callWith_K (h₀:=X.base) I.ok.mod.kin M.kp (thn (ha pos pins s σ H _ I h) fun us s1 ⟨vs,H1,I1,r,q⟩=>⟨I1.kIn,?_⟩) he hpl;exact zl1 M F hr hb hd hx I1 r q
end
section
variable {X:Cx} {CX:CXT} {k:Nat} {f C:Addr} {fd:FuncData} {ps ks:List Str} {sp:Sp} {E:XK} {x m:Str} {p pos apos kpos:Pos} {e o:Expr} {es:List Expr} {kws:List Keyword} {te ta:TE} {t tk:TA} {nm:Option Str}
variable {g:List Value->List Value->List Value} {gV:List V->List V->List V}
end
structure zal (N P:List Str) (sc:Scope):Prop where
 kind:sc.kind=.function
 co:sc.isCoroutine=false
 gen:sc.isGenerator=false
 nd:N.Nodup
 pre:N.take P.length=P
 par:∀ x∈P,sc.names.lookup x=some .local\/sc.names.lookup x=some .cell
 nofree:∀ y∈sc.names,y.2≠.free
theorem zhd {kindOf:Str->Option NameKind} {x:Str}:∀ {binds:List (Str × Value)} {m:Str->Option Value},(∀ v,(x,v) ∉ binds)->bindL kindOf binds m x=m x
 | [],_,_=>rfl
 | (n,v)::r,m,h=>by
  unfold bindL;rw [zhd fun w hw=>h w (zsh _ hw)];split
  ·have:x≠n:=by rintro rfl;exact h v zsw
   simp [this]
  ·rfl
theorem zhC {kindOf:Str->Option NameKind} {x:Str}:∀ {binds:List (Str × Value)} {m:Str->Option Value},(∀ v,(x,v) ∉ binds)->bindC kindOf binds m x=m x
 | [],_,_=>rfl
 | (n,v)::r,m,h=>by
  unfold bindC;rw [zhC fun w hw=>h w (zsh _ hw)];split
  ·rfl
  ·have:x≠n:=by rintro rfl;exact h v zsw
   simp [this]
theorem zg4 {kindOf:Str->Option NameKind} {x:Str} {v:Value}:∀ {P:List Str} {vs:List Value} {i:Nat} {m:Str->Option Value},P.Nodup->P[i]?=some x->vs[i]?=some v->kindOf x=some .local ->
  bindL kindOf (P.zip vs) m x=some v
 | [],_,_,_,_,h,_,_=>by simp at h
 | _::_,[],_,_,_,_,h,_=>by simp at h
 | p::P,w::vs,0,m,nd,h1,h2,hk=>by
  simp at h1 h2;subst h1;subst h2
  show bindL kindOf ((p,w)::P.zip vs) m p=_;unfold bindL;rw [zhd fun v hv=>(List.nodup_cons.mp nd).1 (List.of_mem_zip hv).1,zsB hk];simp
 | p::P,w::vs,i+1,m,nd,h1,h2,hk=>by
  show bindL kindOf ((p,w)::P.zip vs) m x=_;unfold bindL;exact zg4 (i:=i) (List.nodup_cons.mp nd).2 (by simpa using h1) (by simpa using h2) hk
theorem zhw {kindOf:Str->Option NameKind} {x:Str} {v:Value}:∀ {P:List Str} {vs:List Value} {i:Nat} {m:Str->Option Value},P.Nodup->P[i]?=some x->vs[i]?=some v->kindOf x≠some .local ->
  bindC kindOf (P.zip vs) m x=some v
 | [],_,_,_,_,h,_,_=>by simp at h
 | _::_,[],_,_,_,_,h,_=>by simp at h
 | p::P,w::vs,0,m,nd,h1,h2,hk=>by
  simp at h1 h2;subst h1;subst h2
  show bindC kindOf ((p,w)::P.zip vs) m p=_;unfold bindC;rw [zhC fun v hv=>(List.nodup_cons.mp nd).1 (List.of_mem_zip hv).1,zsA hk];simp
 | p::P,w::vs,i+1,m,nd,h1,h2,hk=>by
  show bindC kindOf ((p,w)::P.zip vs) m x=_;unfold bindC;exact zhw (i:=i) (List.nodup_cons.mp nd).2 (by simpa using h1) (by simpa using h2) hk
def start (N:List Str) (vs:List V):St:=vs.map some++List.replicate (N.length-vs.length) none
def ziP (CX:CXT) (P:Program) (w:World) (K:PySem.W.Frag) (mg:Str->Option Value) (base:Heap) (N:List Str) (qual:Str) (scope:Scope) (f:Addr) (cd:Value) (A:Around) (outer:List Env) (s:Shared) (H:Hp) (E:XK):Cx where
 prog:=P
 w:=w
 K:=K
 mg:=mg
 base:=base
 A:=A.deeper (envOfC qual scope s.heap.objs.size f cd)
 N:=N
 s₀:=s
 H₀:=H
 env:=envOfC qual scope s.heap.objs.size f cd
 outer:=outer
 stack:=envOfC qual scope s.heap.objs.size f cd::outer
 ex:=[]
 calm:=true
 fn:=fun _=>true
 pn:=[]
 xe:=fun e s'=>wpAny (model P w) (A.deeper (envOfC qual scope s.heap.objs.size f cd)) (leaving (envOfC qual scope s.heap.objs.size f cd) e) (fun _ s''=>CX outer H s E e s'') (fun e' s''=>CX outer H s E e' s'') s'
theorem ziN {sc:Scope} {n:Nat} {x:Str} (h:sc.names.lookup x=some .cell):∃ c,(cellsFrom n sc.names []).lookup x=some c:=by
 have q:=PySem.W.cellsFrom_some sc.names n [] (.inl h);exact Option.isSome_iff_exists.mp q
theorem zkl {CX:CXT} {P:Program} {w:World} {K:PySem.W.Frag} {mg:Str->Option Value} {base:Heap} {N ps:List Str} {qual:Str} {scope:Scope} {f:Addr} {cd:Value} {A:Around} {outer:List Env} {s s1:Shared} {H:Hp} {E:XK} {us:List Value} {vs:List V}
  (S:zal N ps scope) (hd:A.handled=none) (e0:zo0 P w K mg base A outer s H) (hl:vs.length=ps.length) (r:zaV vs us)
  (x:InCallC s s.heap.objs.size (bindL (envOfC qual scope s.heap.objs.size f cd).kindOf (ps.zip us) fun _=>none) (cellsFrom (s.heap.objs.size+1) scope.names []) (bindC (envOfC qual scope s.heap.objs.size f cd).kindOf (ps.zip us) fun _=>none) s1) :
  Inv (ziP CX P w K mg base N qual scope f cd A outer s H E) [] (start N vs) H s1:=by
 have hpl:ps.length<=N.length:=by have:=congrArg List.length S.pre;rw [zsm] at this;omega
 obtain⟨h1,tk,rfl,hk⟩:=x.done;have noA:∀ b:Addr,b ∉ (ziP CX P w K mg base N qual scope f cd A outer s H E).ex:=fun b z=>absurd (show b∈([]:List Addr) from z) (by simp)
 refine⟨⟨e0.mod,S.kind,rfl,rfl,zse _,fun y z c h1 h2=>?_,fun y hy=>?_,fun y c _ h=>?_,fun _=>hd,Around.frames_deeper e0.frames,.inr ⟨rfl,rfl⟩,fun b z=>absurd z (noA b),e0.bs,e0.bsz,fun b _ _=>noA b,fun b z=>absurd z (noA b),e0.funs,e0.frf⟩,
  rfl,e0.bare,Un.kept hk,⟨_,x.toInCall.ns,fun i y v h1 h2 h3=>?_⟩,fun y c h=>⟨_,x.cell y c h⟩,e0.hok.fresh (zse _),fun y c h=>?_,fun p hp=>absurd (show p∈([]:List (Addr × Obj)) from hp) (by simp),e0.hok.kept hk,?_⟩
 ·exact name_of_addr x.apart (PySem.mem_of_lookup h1) (PySem.mem_of_lookup h2)
 ·have hy:scope.names.lookup y=some .cell\/scope.names.lookup y=some .free:=hy;rcases hy with hy | hy
  ·exact ziN hy
  ·exact absurd rfl (S.nofree _ (PySem.mem_of_lookup hy))
 ·exact Nat.le_of_lt (x.above y c (PySem.mem_of_lookup h))
 ·have hi:i<vs.length:=by
   unfold start at h2;by_cases hi:i<vs.length
   ·exact hi
   ·rw [zst (by simpa using hi)] at h2;rw [List.getElem?_replicate] at h2;split at h2 <;> cases h2
  have ha:vs[i]?=some v:=by
   unfold start at h2;rw [zss (by simpa using hi),zrZ] at h2;cases e:vs[i]? with
   | none=>rw [e] at h2;cases h2
   | some a=>rw [e] at h2;cases h2;rfl
  obtain⟨u,hu,rv⟩:=r.get ha;have hp:ps[i]?=some y:=by
   rw [← S.pre,List.getElem?_take_of_lt (by omega)];exact h1
  have ndP:ps.Nodup:=by rw [← S.pre];exact S.nd.sublist (List.take_sublist _ _)
  refine⟨u,rv,?_⟩;rcases S.par y (zr3 hp) with k | k
  ·exact .inl ⟨k,zg4 ndP hp hu k⟩
  ·obtain⟨c,e⟩:=ziN (n:=s.heap.objs.size+1) k;refine .inr ⟨.inl k,c,e,?_⟩;have q:=x.cell y c e;rw [zhw ndP hp hu (by show scope.names.lookup y≠_;rw [k];decide)] at q;exact q
 ·exact e0.hok.fresh (Nat.le_of_lt (x.above y c (PySem.mem_of_lookup h)))
 ·unfold start;show _=N.length;rw [zr8,zrY,List.length_replicate];omega
theorem zpW {CX:CXT} {P:Program} {w:World} {K:PySem.W.Frag} {mg:Str->Option Value} {base:Heap} {k:Nat} {f:Addr} {name qual:Str} {params:Arguments} {body:List Stmt} {scope:Scope} {dV kV doc pm cdv ct oc:Value} {an od:Option Addr}
  {osl:Array (Option Value)} {N ps:List Str} {sp:Sp} (lk:K.lookup f=some ⟨oc,od,.func (PySem.W.fnOf name qual params body scope dV kV doc pm an cdv ct),osl⟩) (hcd:PySem.W.codeIn K cdv qual=true) (S:zal N ps scope)
  (len:∀ vs H Q E,sp vs H Q E->vs.length=ps.length)
  (hbody:∀ (A:Around) (outer:List Env) (s:Shared) (H:Hp) (vs:List V) (Q:VK) (E:XK),zcQ k (A.deeper (envOfC qual scope s.heap.objs.size f cdv))->sp vs H Q E ->
   ∃ t,PSs (ziP CX P w K mg base N qual scope f cdv A outer s H E) body t/\t { nx:=fun _ H'=>Q .non H',rt:=Q } (start N vs) H) :
  zaC P w K mg base CX (k+1) f (PySem.W.fnOf name qual params body scope dV kV doc pm an cdv ct) ps sp:=by
 refine⟨len,fun A outer s H args us vs Q E hr e0 hb r hsp=>?_⟩;have hl:=len _ _ _ _ hsp;have KX:K.In s.heap:=e0.mod.kin.keeps fun b o e=>(e0.bs b o e).1
 have lim:s.heap.NoLimit:=e0.mod.nolimit.keeps fun b o e=>(e0.bs b o e).1
 have hkind:∀ y∈ps.zip us,scope.names.lookup y.1=some .local\/(scope.names.lookup y.1=some .cell/\((cellsFrom (s.heap.objs.size+1) scope.names []).lookup y.1).isSome=true):=fun ⟨n,v⟩ hy=>by
  rcases S.par n (List.of_mem_zip hy).1 with q | q
  ·exact .inl q
  ·exact .inr ⟨q,PySem.W.cellsFrom_some _ _ _ (.inl q)⟩
 refine codeAny_call_function hr.depth (KX _ _ lk) rfl S.co S.gen rfl (PySem.W.codeRec_of KX hcd) (hb _ _ _ _ ?_);refine wpAny_newFunctionEnv_cells S.kind hkind fun env he s1 x=>?_
 subst he;refine⟨lim.keeps x.toInCall.keep,codeAny_func ?_⟩;obtain⟨t,ht,hq⟩:=hbody A outer s H vs Q E (hr.deeper _) hsp;have I:Inv (ziP CX P w K mg base N qual scope f cdv A outer s H E) [] (start N vs) H s1:=zkl S hr.hd e0 hl r x;refine wpAny_mono (ht [] s1 (start N vs) H _ I hq) (fun fl s' hs=>?_) fun e s' hs=>hs
 have fin:∀ {σ':St} {H':Hp} {v:V} {u:Value},Inv (ziP CX P w K mg base N qual scope f cdv A outer s H E) [] σ' H' s'->zaY v u->Q v H'->CE outer P w H s Q u s' :=
  fun {σ' H' v u} J rv q=>⟨v,H',J.os,J.bare,J.base,J.hok,rv,q⟩
 cases fl with
 | ret u =>
  obtain⟨v,σ',H',J,rv,q⟩:=hs;exact fin J rv q
 | next =>
  obtain⟨σ',H',J,q⟩:=hs;exact fin (v:=V.non) (u:=Value.none) J rfl q
 | brk =>
  obtain⟨_,_,_,q⟩:=hs;exact False.elim q
 | cont =>
  obtain⟨_,_,_,q⟩:=hs;exact False.elim q
section
variable {X:Cx} {x:Str} {p pos:Pos} {e:Expr} {es:List Expr} {t:TA} {id T:String} {r:List V->Hp->VK->Prop}
def tCB (r:List V->Hp->VK->Prop) (t:TA):TE:=fun σ H Q=>t σ H fun vs H1=>r vs H1 Q
theorem zaw (hc:za9 X (.builtin id) r) (hg:Gl X x) (hm:X.mg x=none) (hv:bootBuiltins x=some (.builtin id)) (ha:PA X (e::es) t) (hn:x≠"__name__":=by decide) (hdb:(x == ("__debug__":Str))=false:=by decide)
  (he:starEach (e::es) X.env=(false,eval e X.env)::starEach es X.env:=by rfl) (hpl:(backTo pos (starEach es X.env)).any (·.1)=false:=by rfl):PE X (.Call (.Name x p) (e::es) [] pos) (tCB r t):=by
 intro pins s σ H Q I h;refine wpAny_Call_Name_kw (zf3 I hg hm hv ?_ hn hdb);exact PyProof.Rows.callWith_builtin1 (thn (ha pos pins s σ H _ I h) fun us s1 ⟨vs,H1,I1,r1,q1⟩=>hc pins s1 σ H1 vs us Q I1 r1 q1) he hpl
theorem zb5 (hc:za9 X (.type T) r) (hg:Gl X x) (hm:X.mg x=none) (hv:bootBuiltins x=some (.type T)) (ha:PA X (e::es) t) (hn:x≠"__name__":=by decide) (hdb:(x == ("__debug__":Str))=false:=by decide)
  (he:starEach (e::es) X.env=(false,eval e X.env)::starEach es X.env:=by rfl) (hpl:(backTo pos (starEach es X.env)).any (·.1)=false:=by rfl):PE X (.Call (.Name x p) (e::es) [] pos) (tCB r t):=by
 intro pins s σ H Q I h;refine wpAny_Call_Name_kw (zf3 I hg hm hv ?_ hn hdb);exact PyProof.Rows.callWith_type1 (thn (ha pos pins s σ H _ I h) fun us s1 ⟨vs,H1,I1,r1,q1⟩=>hc pins s1 σ H1 vs us Q I1 r1 q1) he hpl
end
end L2
namespace HT
open PySem PyProof.Rows
theorem rcLt_int (A:Around) (s:Shared) (a:Int) (t:Tok) (c:Int) (u:Tok) (prog:Program) (w:World) (E:Value->Shared->Prop) (Q:Value->Shared->Prop) (h:Q (.bool (decide (a<c))) s) :
  wpAny (model prog w) A (richCompare .Lt (.int a t) (.int c u)) Q E s :=
 (PyProof.Rows.lt_int h:wpAny (model prog w) A (compareOp .Lt (.int a t) (.int c u)) Q E s)
section
open PySem.SeqAt
open PySem.AutoSeq1 (wpAny_loadPart')
open PySem.MeetsSeq PySem.MeetsSeq2 PySem.MeetsSeq3
end
section
variable {prog:Program} {w:World} {A:Around} {E:Value->Shared->Prop} {s:Shared}
def sIx (n d:Nat):Option Int->Nat
 | none=>d
 | some v=>if v<0 then (v+(n:Int)).toNat else min v.toNat n
theorem sIx_nat (n d k:Nat):sIx n d (some (k:Int))=min k n:=by
 show (if (k:Int)<0 then ((k:Int)+(n:Int)).toNat else min (k:Int).toNat n)=min k n;rw [zsA (by omega),Int.toNat_natCast]
end
end HT
namespace L2
open PySem PySem.Spec PyProof.Rows
abbrev TO:=St->Hp->(Option Int->Hp->Prop)->Prop
def PO (X:Cx) (e:Option Expr) (t:TO):Prop :=
 ∀ (pins:List (Addr × Obj)) (s:Shared) (σ:St) (H:Hp) (Q:Option Int->Hp->Prop),Inv X pins σ H s->t σ H Q ->
  wpAny (model X.prog X.w) X.A (evalPart e X.env) (fun u s'=>∃ o H',Inv X pins σ H' s'/\IsPart u o/\Q o H') X.xe s
def zou:TO:=fun _ H Q=>Q none H
theorem zfG {ns:List Int}:∀ {us:List Value},zaV (ns.map V.int) us->IntsAre us ns:=by
 induction ns with
 | nil=>intro us r;rw [zsr] at r;cases r;exact .nil
 | cons n ns ih =>
  intro us r;rw [zsq] at r;cases r with
  | cons r1 r2 =>
   obtain⟨t,e⟩:=r1;subst e;exact .cons n t (ih r2)
section
variable {X:Cx} {e:Expr} {te:TE} {lo hi:Option Expr} {tl th:TO} {pos p2:Pos}
theorem zoY:PO X none zou:=by
 intro pins s σ H Q I h;rw [evalPart_none];exact wpAny_pure ⟨none,H,I,.none,h⟩
def SlR (X:Cx) (r:V->Option Int->Option Int->Hp->VK->Prop):Prop :=
 ∀ (pins:List (Addr × Obj)) (s:Shared) (σ:St) (H:Hp) (x:V) (v vl vu:Value) (lo hi:Option Int) (sl:Addr) (Q:VK),Inv X pins σ H s->zaY x v->s.heap.IsSliceOf sl vl vu .none->IsPart vl lo->IsPart vu hi->r x lo hi H Q ->
  ∃ T id,typeLookup (.type T) "__getitem__"=pure (some (.builtin id))/\s.TypeIs v T/\wpAny (model X.prog X.w) X.A (getItem v (.ref sl)) (EP X pins σ Q) X.xe s
def tSl (r:V->Option Int->Option Int->Hp->VK->Prop) (te:TE) (tl th:TO):TE:=fun σ H Q=>te σ H fun x H1=>tl σ H1 fun l H2=>th σ H2 fun u H3=>r x l u H3 Q
theorem zm0 {r:V->Option Int->Option Int->Hp->VK->Prop} (hr:SlR X r) (he:PE X e te) (hl:PO X lo tl) (hu:PO X hi th):PE X (.Subscript e (.Slice lo hi none p2) pos) (tSl r te tl th):=by
 intro pins s σ H Q I h;refine Subscript_ (thn (he pins s σ H _ I h) fun v s1 ⟨x,H1,I1,r1,q1⟩=>?_);refine wpAny_Slice (thn (hl pins s1 σ H1 _ I1 q1) fun vl s2 ⟨l,H2,I2,pl,q2⟩=>thn (hu pins s2 σ H2 _ I2 q2) fun vu s3 ⟨u,H3,I3,pu,q3⟩=>?_);rw [evalPart_none];refine wpAny_pure ?_;have I4:Inv X pins σ H3 { s3 with heap:=s3.heap.push { cls:=.type "slice",data:=.fields #[vl,vu,.none] } }:=I3.kept (t':=s3.toks) fun b ob q=>zsb _ q
 obtain⟨T,id,hT,ht,hg⟩:=hr pins { s3 with heap:=s3.heap.push { cls:=.type "slice",data:=.fields #[vl,vu,.none] } } σ H3 x v vl vu l u s3.heap.objs.size Q I4 r1 (Heap.IsSliceOf.new ..) pl pu q3;show wpAny (model X.prog X.w) X.A (subscriptTail e (.Slice lo hi none p2) v (.ref s3.heap.objs.size)) (EP X pins σ Q) X.xe { s3 with heap:=s3.heap.push { cls:=.type "slice",data:=.fields #[vl,vu,.none] } };exact tail_any (ops:=[.ref s3.heap.objs.size,v]) ht hT hg (by with_unfolding_all rfl)
def zoi (xs:List V) (lo hi:Option Int):List V:=(xs.drop (HT.sIx xs.length 0 lo)).take (HT.sIx xs.length xs.length hi-HT.sIx xs.length 0 lo)
theorem zhX (xs:List V) (lo hi:Option Int):(zoi xs lo hi).length<=xs.length:=by
 unfold zoi;rw [zsm,List.length_drop];omega
end
def ixN (n:Nat) (i:Int):Option Nat:=if 0<=i then (if i<n then some i.toNat else none) else if -(n:Int)<=i then some (i+n).toNat else none
def atI {α:Type} (xs:List α) (i:Int):Option α:=(ixN xs.length i).bind fun j=>xs[j]?
theorem zkA {n:Nat} {i:Int} {j:Nat} (h:ixN n i=some j):seqIndex? i n=some j/\j<n/\-(n:Int)<=i/\i<n:=by
 unfold ixN at h;by_cases h0:0<=i
 ·rw [zsB h0] at h;by_cases h1:i<n
  ·rw [zsB h1] at h;have e:i.toNat=j:=zsJ h;exact⟨by rw [seqIndex_of h0 h1,e],by omega,by omega,h1⟩
  ·rw [zsA h1] at h;cases h
 ·rw [zsA h0] at h;by_cases h1:-(n:Int)<=i
  ·rw [zsB h1] at h;have e:(i+n).toNat=j:=zsJ h;exact⟨by rw [seqIndex_neg (by omega) h1,e],by omega,h1,by omega⟩
  ·rw [zsA h1] at h;cases h
theorem zkS {α:Type} {xs:List α} {i:Int} {v:α} (h:atI xs i=some v):∃ j,seqIndex? i xs.length=some j/\xs[j]?=some v/\j<xs.length/\-(xs.length:Int)<=i/\i<xs.length:=by
 unfold atI at h;cases e:ixN xs.length i with
 | none=>rw [e] at h;cases h
 | some j =>
  rw [e] at h;obtain⟨h1,h2,h3,h4⟩:=zkA e;exact⟨j,h1,h,h2,h3,h4⟩
theorem zbi {α:Type} {xs:List α} {j:Nat} {v:α} (h:xs[j]?=some v):atI xs (j:Int)=some v:=by
 have hj:j<xs.length:=(zr2.mp h).1;have e:ixN xs.length (j:Int)=some j:=by
  unfold ixN;rw [zsB (by omega),zsB (by omega)];simp
 unfold atI;rw [e];exact h
def zoP (b:Expr):Prop:=∀ o i,subscripted b false o i=operate [o,i] (getItem o i)
def IxR (X:Cx) (r:R2):Prop :=
 ∀ (value slice:Expr) (pins:List (Addr × Obj)) (s:Shared) (σ:St) (H:Hp) (x y:V) (v u:Value) (Q:VK),Inv X pins σ H s->zaY x v->zaY y u->r x y H Q ->
  subscripted slice false v u=operate [v,u] (getItem v u)->wpAny (model X.prog X.w) X.A (subscriptTail value slice v u) (EP X pins σ Q) X.xe s
def MtR (X:Cx) (id:String) (r:V->List V->Hp->VK->Prop):Prop :=
 ∀ (pins:List (Addr × Obj)) (s:Shared) (σ:St) (H:Hp) (x:V) (xs:List V) (v:Value) (us:List Value) (Q:VK),Inv X pins σ H s->zaY x v->zaV xs us->r x xs H Q ->
  wpAny (model X.prog X.w) X.A (call (.builtin id) (v::us)) (EP X pins σ Q) X.xe s
section
variable {X:Cx} {a b:Expr} {ta tb:TE} {pos:Pos}
theorem zba {r:R2} (hr:IxR X r) (ha:PE X a ta) (hb:PE X b tb) (hs:zoP b):PE X (.Subscript a b pos) (tOp r ta tb):=by
 intro pins s σ H Q I h;exact Subscript_ (zq3 ha hb I h fun v u s2 x y H2 I2 rx ry q=>hr a b pins s2 σ H2 x y v u Q I2 rx ry q (hs _ _))
def rIxL (K:PySem.W.Frag):R2:=fun x y H Q=>∃ p xs i v,x=.ref p/\y=.int i/\SqL K H p xs/\atI xs i=some v/\Q v H
def rIxT (K:PySem.W.Frag):R2:=fun x y H Q=>∃ p xs i v,x=.ref p/\y=.int i/\SqT K H p xs/\atI xs i=some v/\Q v H
theorem zoE:IxR X (rIxL X.K):=by
 intro value slice pins s σ H x y v u Q I rx ry h hs;obtain⟨p,xs,i,z,rfl,rfl,hq,he,q⟩:=h;cases rx;obtain⟨t,rfl⟩:=ry;obtain⟨its,r,pl,hz⟩:=I.list hq;obtain⟨j,h1,h2,h3,h4,h5⟩:=zkS he;obtain⟨w,ew,rw'⟩:=r.get h2;have hl:=r.length;have hn:=ziX;have fin:EP X pins σ Q w s:=⟨z,H,I,rw',q⟩;by_cases h0:0<=i
 ·have hj:i.toNat=j:=by
   rw [seqIndex_of h0 h5] at h1;exact zsJ h1
  exact item_listR pl.isList h0 (by omega) (by rw [hj];simpa using ew) fin hs
 ·have hj:(i+(its.toArray.size:Int)).toNat=j:=by
   rw [seqIndex_neg (by omega) h4] at h1;rw [zsy,← hl];exact zsJ h1
  exact subscriptTail_builtinR (x:=w) pl.isList.typeIs slot_list_getitem.lookup
   (wpAny_getItem_list_neg (Q:=fun r s'=>r=w/\EP X pins σ Q r s') pl.isList (by omega) (by rw [zsy] <;> omega) (by omega) (by rw [hj];simpa using ew) ⟨rfl,fin⟩) hs
theorem zpT:IxR X (rIxT X.K):=by
 intro value slice pins s σ H x y v u Q I rx ry h hs;obtain⟨p,xs,i,z,rfl,rfl,hq,he,q⟩:=h;cases rx;obtain⟨t,rfl⟩:=ry;obtain⟨its,r,pl,hz⟩:=I.tuple hq;obtain⟨j,h1,h2,h3,h4,h5⟩:=zkS he;obtain⟨w,ew,rw'⟩:=r.get h2;have hl:=r.length;have hn:=ziX;have fin:EP X pins σ Q w s:=⟨z,H,I,rw',q⟩;exact subscriptTail_builtinR (x:=w) pl.typeIs slot_tuple_getitem.lookup
  (getItem_tuple (j:=j) (Q:=fun r s'=>r=w/\EP X pins σ Q r s') pl (by omega) (by omega) (by rw [zsy,← hl];exact h1) (by simpa using ew) ⟨rfl,fin⟩) hs
theorem zkg (its:List Value) (n j:Nat) (u:Value):Obj.mapSeq (·.setIfInBounds j u) { cls:=.type "list",data:=.seq its.toArray n }={ cls:=.type "list",data:=.seq (its.set j u).toArray n }:=by
 simp [Obj.mapSeq]
theorem Inv.lst {pins:List (Addr × Obj)} {σ:St} {H:Hp} {s:Shared} {p:Addr} {xs:List V} (I:Inv X pins σ H s) (h:H p=some (.lst xs)) :
  ∃ (its:List Value) (n:Nat),zaV xs its/\s.heap.get? p=some { cls:=.type "list",data:=.seq its.toArray n }/\xs.length<=sizeLine:=by
 obtain⟨z,its,n,r,e⟩:=I.hok p _ h;exact⟨its,n,r,e,z⟩
theorem Inv.lstUpd {pins:List (Addr × Obj)} {σ:St} {H:Hp} {s:Shared} {p:Addr} {xs ys:List V} {its its':List Value} {n n':Nat} {f:Obj->Obj} (I:Inv X pins σ H s) (h:H p=some (.lst xs))
  (ho:s.heap.get? p=some { cls:=.type "list",data:=.seq its.toArray n }) (hf:f { cls:=.type "list",data:=.seq its.toArray n }={ cls:=.type "list",data:=.seq its'.toArray n' }) (r:zaV ys its') (hz:ys.length<=sizeLine) (t:Nat) :
  Inv X pins σ (upd H p (.lst ys)) { s with heap:=s.heap.update p f,toks:=t }:=by
 have e:(s.heap.update p f).get? p=some { cls:=.type "list",data:=.seq its'.toArray n' }:=by
  rw [Heap.get?_update_self f ho (by rw [hf] <;> rfl),hf]
 refine I.write (x:=p) (e:=p) (by rw [h];trivial) (.inl rfl) (fun b u hb q=>(Heap.get?_update_other _ _ (Ne.symm hb)).trans q) ⟨_,e⟩ ?_;exact⟨hz,its',n',r,e⟩
def zrp:V->V->V->Hp->(Hp->Prop)->Prop:=fun o i v H Q=>∃ p xs k j,o=.ref p/\i=.int k/\H p=some (.lst xs)/\ixN xs.length k=some j/\Q (upd H p (.lst (xs.set j v)))
theorem zmf:zo5 X zrp:=by
 intro pins s σ H o i v ov iv u Q I ro ri rv h;obtain⟨p,xs,k,j,rfl,rfl,hp,hj,q⟩:=h;cases ro;obtain⟨t,rfl⟩:=ri;obtain⟨its,n,r,ho,hz⟩:=I.lst hp;obtain⟨h1,h2,h3,h4⟩:=zkA hj;have hl:=r.length;have hn:=ziX;have I':Inv X pins σ (upd H p (.lst (xs.set j v))) { s with heap:=s.heap.update p (Obj.mapSeq (·.setIfInBounds j u)) } :=
  I.lstUpd hp ho (zkg its n j u) (r.set rv j) (by rw [zsl];exact hz) s.toks
 by_cases h0:0<=k
 ·have hk:k.toNat=j:=by
   rw [seqIndex_of h0 h4] at h1;exact zsJ h1
  exact PySem.W.ki_setAt ho h0 (by omega) (by rw [zsy,← hl];exact h4) (by rw [hk];exact⟨_,I',q⟩)
 ·have hk:(k+(its.toArray.size:Int)).toNat=j:=by
   rw [seqIndex_neg (by omega) h3] at h1;rw [zsy,← hl];exact zsJ h1
  exact PySem.W.ki_setBack ho (by omega) (by rw [zsy,← hl];exact h3) (by omega) (by rw [hk];exact⟨_,I',q⟩)
theorem zhu (lo hi:Option Int) (n:Nat):(sliceBounds lo hi none n).1=((HT.sIx n 0 lo:Nat):Int)/\(sliceBounds lo hi none n).2.1=((HT.sIx n n hi:Nat):Int)/\(sliceBounds lo hi none n).2.2=1:=by
 refine⟨?_,?_,rfl⟩
 ·cases lo with
  | none=>simp [sliceBounds,HT.sIx]
  | some i =>
   simp only [sliceBounds,HT.sIx,Option.getD_none,show (1:Int) > 0 by decide,if_true];by_cases h:i<0
   ·simp only [h,if_true] <;> omega
   ·simp only [h,if_false] <;> omega
 ·cases hi with
  | none=>simp [sliceBounds,HT.sIx]
  | some i =>
   simp only [sliceBounds,HT.sIx,Option.getD_none,show (1:Int) > 0 by decide,if_true];by_cases h:i<0
   ·simp only [h,if_true] <;> omega
   ·simp only [h,if_false] <;> omega
theorem zgU (its:List Value) (lo hi:Option Int):slicePick its.toArray lo hi none=((its.drop (HT.sIx its.length 0 lo)).take (HT.sIx its.length its.length hi-HT.sIx its.length 0 lo)).toArray:=by
 obtain⟨h1,h2,h3⟩:=zhu lo hi its.toArray.size;unfold slicePick;rw [h1,h2,h3];simp only [sliceRange_one,pick_run,zsy] <;> rfl
def rSlL (K:PySem.W.Frag):V->Option Int->Option Int->Hp->VK->Prop:=fun x lo hi H Q=>∃ a xs,x=.ref a/\SqL K H a xs/\∀ p,H p=none->Q (.ref p) (upd H p (.lst (zoi xs lo hi)))
theorem zow:SlR X (rSlL X.K):=by
 intro pins s σ H x v vl vu lo hi sl Q I rx hs pl pu h;obtain⟨a,xs,rfl,hx,q⟩:=h;cases rx;obtain⟨its,r,ht,hz⟩:=I.list hx;have hlen:=r.length;refine⟨"list",_,slot_list_getitem.lookup,ht.isList.typeIs,?_⟩;refine wpAny_getItem_list_slice ht.isList hs pl pu .none (by simp) ?_ (by rw [zsy] <;> omega);rw [zgU,← hlen];refine⟨.ref s.heap.objs.size,_,I.laid (t':=s.toks) (o:=.lst (zoi xs lo hi)) (fun b ob q=>zsb _ q) (zse _) ?_,rfl,q _ (I.hok.fresh (zse _))⟩;exact⟨zsd (zhX xs lo hi) hz,_,0,(r.drop (HT.sIx xs.length 0 lo)).take (HT.sIx xs.length xs.length hi-HT.sIx xs.length 0 lo),zsx _ rfl⟩
def zfD:V->Bool
 | .non=>true
 | .bl _=>true
 | .int _=>true
 | .str _=>true
 | _=>false
def eqV:V->V->Bool
 | .non,.non=>true
 | .bl a,.bl b=>a == b
 | .bl a,.int b=>(if a then 1 else 0) == b
 | .int a,.bl b=>a == (if b then 1 else 0)
 | .int a,.int b=>a == b
 | .str a,.str b=>a == b
 | _,_=>false
theorem zp0 {A:Around} {s:Shared} {y x:V} {u v:Value} (ry:zaY y u) (rx:zaY x v) (fy:zfD y=true) (fx:zfD x=true):SeqAt.EqAt A s u v (eqV y x):=by
 cases y with
 | non =>
  cases ry;cases x with
  | non=>cases rx;exact SeqAt.EqAt.same _
  | bl b=>cases rx;exact SeqAt.EqAt.none_bool b
  | int b=>obtain⟨t,rfl⟩:=rx;exact SeqAt.EqAt.none_int b t
  | str b=>obtain⟨t,rfl⟩:=rx;exact SeqAt.EqAt.none_str b t
  | _=>exact absurd (show false=true from fx) zsI
 | bl a =>
  cases ry;cases x with
  | non=>cases rx;exact SeqAt.EqAt.bool_none a
  | bl b=>cases rx;exact SeqAt.EqAt.bool_bool a b
  | int b=>obtain⟨t,rfl⟩:=rx;exact SeqAt.EqAt.bool_int a b t
  | str b=>obtain⟨t,rfl⟩:=rx;exact SeqAt.EqAt.bool_str a b t
  | _=>exact absurd (show false=true from fx) zsI
 | int a =>
  obtain⟨t',rfl⟩:=ry;cases x with
  | non=>cases rx;exact SeqAt.EqAt.int_none a t'
  | bl b=>cases rx;exact SeqAt.EqAt.int_bool a t' b
  | int b=>obtain⟨t,rfl⟩:=rx;exact SeqAt.EqAt.int_int a t' b t
  | str b=>obtain⟨t,rfl⟩:=rx;exact SeqAt.EqAt.int_str a t' b t
  | _=>exact absurd (show false=true from fx) zsI
 | str a =>
  obtain⟨t',rfl⟩:=ry;cases x with
  | non=>cases rx;exact SeqAt.EqAt.str_none a t'
  | bl b=>cases rx;exact SeqAt.EqAt.str_bool a t' b
  | int b=>obtain⟨t,rfl⟩:=rx;exact SeqAt.EqAt.str_int a t' b t
  | str b=>obtain⟨t,rfl⟩:=rx;exact SeqAt.EqAt.str_str a t' b t
  | _=>exact absurd (show false=true from fx) zsI
 | _=>exact absurd (show false=true from fy) zsI
def eqU (x:V) (u:Value):Bool:=match u with
 | .none=>eqV .non x
 | .bool b=>eqV (.bl b) x
 | .int i _=>eqV (.int i) x
 | .str z _=>eqV (.str z) x
 | _=>false
theorem znF {x y:V} {u:Value} (r:zaY y u) (f:zfD y=true):eqU x u=eqV y x:=by
 cases y with
 | non=>cases r;rfl
 | bl b=>cases r;rfl
 | int i=>obtain⟨t,rfl⟩:=r;rfl
 | str z=>obtain⟨t,rfl⟩:=r;rfl
 | _=>exact absurd (show false=true from f) zsI
theorem zhZ {x:V}:∀ {xs:List V} {us:List Value},zaV xs us->xs.all zfD=true->us.any (eqU x)=xs.any fun y=>eqV y x
 | _,_,.nil,_=>rfl
 | y::xs,u::us,.cons r t,f=>by
  rw [List.all_cons,Bool.and_eq_true] at f;rw [List.any_cons,List.any_cons,znF r f.1,zhZ t f.2]
theorem zgs {A:Around} {s:Shared} {x:V} {v:Value} (rx:zaY x v) (fx:zfD x=true):∀ {xs:List V} {us:List Value},zaV xs us->xs.all zfD=true->∀ u∈us,SeqAt.EqAt A s u v (eqU x u)
 | _,_,.nil,_=>fun u hu=>by cases hu
 | y::xs,u::us,.cons r t,f=>fun u' hu=>by
  rw [List.all_cons,Bool.and_eq_true] at f;rcases zsF.mp hu with rfl | hu
  ·rw [znF r f.1];exact zp0 r rx f.1 fx
  ·exact zgs rx fx t f.2 u' hu
def inV (x:V) (xs:List V):Bool:=xs.any fun y=>eqV y x
def rIn (K:PySem.W.Frag) (neg:Bool):R2:=fun x y H Q=>∃ p xs,y=.ref p/\(SqL K H p xs\/SqT K H p xs)/\zfD x=true/\xs.all zfD=true/\Q (.bl (if neg then !inV x xs else inV x xs)) H
theorem zkN:OpR X (compareOp .In) (rIn X.K false):=by
 intro pins s σ H x y v u Q I rx ry h;obtain⟨p,xs,rfl,hq,fx,fs,q⟩:=h;cases ry;rcases hq with hq | hq
 ·obtain⟨its,r,pl,hz⟩:=I.list hq;refine SeqAt.in_listAt (eqU x) pl.isList (fun w hw=>zgs rx fx r fs w (by simpa using hw)) ⟨.bl _,H,I,rfl,?_⟩;rw [show its.toArray.any (eqU x)=its.any (eqU x) by simp,zhZ r fs];exact q
 ·obtain⟨its,r,pl,hz⟩:=I.tuple hq;refine SeqAt.in_tupleAt (eqU x) pl (fun w hw=>zgs rx fx r fs w (by simpa using hw)) ⟨.bl _,H,I,rfl,?_⟩;rw [show its.toArray.any (eqU x)=its.any (eqU x) by simp,zhZ r fs];exact q
theorem zhh:za9 X (.builtin "len") (fun xs H Q=>∃ p ys,xs=[.ref p]/\(SqL X.K H p ys\/SqT X.K H p ys)/\Q (.int ys.length) H):=by
 intro pins s σ H xs us Q I r h;obtain⟨p,ys,rfl,hq,q⟩:=h;obtain⟨u,rfl,rx⟩:=zmR r;cases rx;have hn:=ziX;rcases hq with hq | hq
 ·obtain⟨its,r',pl,hz⟩:=I.list hq;have hlen:=r'.length;exact Calls.call_len_list pl.isList (by simp only [zsy] <;> omega) ⟨.int ys.length,H,I.tok _,⟨s.toks+1,by rw [zsy,hlen]⟩,q⟩
 ·obtain⟨its,r',pl,hz⟩:=I.tuple hq;have hlen:=r'.length;exact len_tuple pl (by simp only [zsy] <;> omega) ⟨.int ys.length,H,I.tok _,⟨s.toks+1,by rw [zsy,hlen]⟩,q⟩
theorem zhv:za9 X (.type "list") (fun xs H Q=>∃ p ys,xs=[.ref p]/\(SqL X.K H p ys\/SqT X.K H p ys)/\∀ l,H l=none->Q (.ref l) (upd H l (.lst ys))):=by
 intro pins s σ H xs us Q I r h;obtain⟨p,ys,rfl,hq,q⟩:=h;obtain⟨u,rfl,rx⟩:=zmR r;cases rx;have fin:∀ (its:List Value),zaV ys its->ys.length<=sizeLine->∀ (h':Heap) (c':Nat),(∀ b o',s.heap.get? b=some o'->h'.get? b=some o') ->
   h'.get? s.heap.objs.size=some { cls:=.type "list",dict:=none,data:=.seq its.toArray c',slots:=#[] }->EP X pins σ Q (.ref s.heap.objs.size) { s with heap:=h' }:=fun its r' hz h' c' kp e =>
  ⟨.ref s.heap.objs.size,_,I.laid (t':=s.toks) kp (zse _) (show zaQ X.prog X.w _ h' _ (.lst ys) from ⟨hz,its,c',r',e⟩),rfl,q _ (I.hok.fresh (zse _))⟩
 rcases hq with hq | hq
 ·obtain⟨its,r',pl,hz⟩:=I.list hq;have hlen:=r'.length;obtain⟨o,ho,hc,n,hd⟩:=pl.isList;exact call_list_seq p (.inl rfl) ho hc hd (fun h' c' kp e=>fin its r' hz h' c' kp e) (by simp only [zsy] <;> omega)
 ·obtain⟨its,r',pl,hz⟩:=I.tuple hq;have hlen:=r'.length;obtain⟨o,ho,hc,n,hd⟩:=pl;exact call_list_seq p (.inr rfl) ho hc hd (fun h' c' kp e=>fin its r' hz h' c' kp e) (by simp only [zsy] <;> omega)
theorem zgM:za9 X (.type "tuple") (fun xs H Q=>∃ p ys,xs=[.ref p]/\((SqL X.K H p ys/\∀ l,H l=none->Q (.ref l) (upd H l (.tup ys)))\/(SqT X.K H p ys/\Q (.ref p) H))):=by
 intro pins s σ H xs us Q I r h;obtain⟨p,ys,rfl,h⟩:=h;obtain⟨u,rfl,rx⟩:=zmR r;cases rx;rcases h with ⟨hq,q⟩ | ⟨hq,q⟩
 ·obtain⟨its,r',pl,hz⟩:=I.list hq;have hlen:=r'.length;refine call_tuple_list pl.isList (fun h' kp=>?_) (by simp only [zsy] <;> omega);have I1:Inv X pins σ H { s with heap:=h' }:=I.kept (t':=s.toks) kp;have I2:Inv X pins σ (upd H h'.objs.size (.tup ys)) { s with heap:=h'.push { cls:=.type "tuple",data:=.seq its.toArray } } :=
   I1.laid (t':=s.toks) (fun b o e=>zsb _ e) (zse _) (show zaQ X.prog X.w _ _ _ (.tup ys) from ⟨hz,its,r',zdf.new _ _⟩)
  exact⟨.ref h'.objs.size,_,I2,rfl,q _ (I1.hok.fresh (zse _))⟩
 ·obtain⟨its,r',pl,hz⟩:=I.tuple hq;exact call_tuple_same pl ⟨.ref p,H,I,rfl,q⟩
def tyV (K:PySem.W.Frag) (T:String) (x:V) (H:Hp):Prop:=match x with
 | .str _=>T="str"
 | .int _=>T="int"
 | .ref p=>(T="list"/\∃ xs,SqL K H p xs)\/(T="tuple"/\∃ o,K.lookup p=some o/\o.cls=.type "tuple"/\o.dict=none) \/
   (T="dict"/\((∃ kvs,H p=some (.dK kvs))\/∃ kvs,H p=some (.dT kvs)))\/(T="set"/\∃ S n,H p=some (.set S n))
 | _=>False
theorem znk {pins:List (Addr × Obj)} {σ:St} {H:Hp} {s:Shared} {T:String} {x:V} {v:Value} (I:Inv X pins σ H s) (r:zaY x v) (ty:tyV X.K T x H) :
  s.TypeIs v T/\∀ a,v=.ref a->∃ ob,s.heap.get? a=some ob/\ob.dict=none:=by
 cases x with
 | str z =>
  obtain⟨t,rfl⟩:=r;cases (show T="str" from ty);exact⟨typeIs_str s z t,fun _ e=>nomatch e⟩
 | int i =>
  obtain⟨t,rfl⟩:=r;cases (show T="int" from ty);exact⟨typeIs_int s i t,fun _ e=>nomatch e⟩
 | ref p =>
  cases r;rcases ty with ⟨rfl,xs,hq⟩ | ⟨rfl,o,hk,hc,hd⟩ | ⟨rfl,hk⟩ | ⟨rfl,S,n,hk⟩
  ·obtain⟨its,_,pl,_⟩:=I.list hq;refine⟨pl.isList.typeIs,fun a e=>?_⟩;cases e;obtain⟨o,n,e,c,hd,_⟩:=pl;exact⟨o,e,hd⟩
  ·refine⟨⟨o,I.kIn p o hk,hc⟩,fun a e=>?_⟩;cases e;exact⟨o,I.kIn _ o hk,hd⟩
  ·have z:∃ o,s.heap.get? p=some o/\o.ExactDict:=by
    rcases hk with ⟨kvs,hk⟩ | ⟨kvs,hk⟩
    ·obtain⟨_,_,_,_,o,_,_,e,ex,_⟩:=I.hok p _ hk;exact⟨o,e,ex⟩
    ·obtain⟨_,_,_,_,o,_,_,e,ex,_⟩:=I.hok p _ hk;exact⟨o,e,ex⟩
   obtain⟨o,e,ex⟩:=z;refine⟨⟨o,e,ex.1⟩,fun a e2=>?_⟩;cases e2;exact⟨o,e,ex.2.1⟩
  ·obtain⟨o,_,_,_,e,ex,_⟩:=I.hok p _ hk;refine⟨⟨o,e,ex.1⟩,fun a e2=>?_⟩;cases e2;exact⟨o,e,ex.2.1⟩
 | _=>exact False.elim ty
def tBM0 (K:PySem.W.Frag) (T:String) (r:V->List V->Hp->VK->Prop) (to:TE):TE:=fun σ H Q=>to σ H fun x H1=>tyV K T x H1/\r x [] H1 Q
def tBM (K:PySem.W.Frag) (T:String) (r:V->List V->Hp->VK->Prop) (to:TE) (t:TA):TE:=fun σ H Q=>to σ H fun x H1=>tyV K T x H1/\t σ H1 fun xs H2=>r x xs H2 Q
variable {o e:Expr} {es:List Expr} {to:TE} {t:TA} {name:Str} {apos cpos:Pos} {T id:String} {r:V->List V->Hp->VK->Prop}
theorem znu (pa:PlainAttrs T) (slot:Slot T name id) (hty:typeOf (.builtin id)=pure (.type "method_descriptor")) (hm:MtR X id r) (ho:PE X o to)
  (hbase:attributeBase o name X.env (eval o X.env)=eval o X.env:=by rfl) (hline:(apos.endLine == cpos.line)=true:=by rfl):PE X (.Call (.Attribute o name apos) [] [] cpos) (tBM0 X.K T r to):=by
 intro pins s σ H Q I h;refine wpAny_Call_method0_late hbase hline (thn (ho pins s σ H _ I h) fun v s1 ⟨x,H1,I1,r1,ty,q1⟩=>?_);obtain⟨h1,h2⟩:=znk I1 r1 ty;exact⟨T,id,pa,slot,hty,h1,h2,Calls.callWith_builtin rfl (PySem.evalArgs_none (hm pins s1 σ H1 x [] v [] Q I1 r1 .nil q1))⟩
theorem zhR (pa:PlainAttrs T) (slot:Slot T name id) (hty:typeOf (.builtin id)=pure (.type "method_descriptor")) (hm:MtR X id r) (ho:PE X o to) (ha:PA X (e::es) t)
  (hbase:attributeBase o name X.env (eval o X.env)=eval o X.env:=by rfl)
  (hfew:((backTo cpos (starEach (e::es) X.env)).all (fun x=>!x.1) && (backToKw cpos (keywordEach [] X.env)).all (fun x=>x.1.isSome)
   && decide ((e::es).length+([]:List Keyword).length+(if ([]:List Keyword).isEmpty then 0 else 1)<30))=true:=by rfl)
  (hline:(apos.endLine == cpos.line)=true:=by rfl) (hs:starEach (e::es) X.env=(false,eval e X.env)::starEach es X.env:=by rfl) (hplain:(backTo cpos (starEach es X.env)).any (·.1)=false:=by rfl) :
  PE X (.Call (.Attribute o name apos) (e::es) [] cpos) (tBM X.K T r to t):=by
 intro pins s σ H Q I h;refine wpAny_Call_method_late hbase hfew hline rfl (thn (ho pins s σ H _ I h) fun v s1 ⟨x,H1,I1,r1,ty,q1⟩=>?_);obtain⟨h1,h2⟩:=znk I1 r1 ty;refine⟨T,id,pa,slot,hty,h1,h2,?_⟩;have hA:=ha cpos pins s1 σ H1 _ I1 q1;rw [hs] at hA ⊢;refine Calls.callWith_builtin (by show (false || (backTo cpos (starEach es X.env)).any (·.1))=false;rw [hplain] <;> rfl) (Calls.evalArgs_plain ?_)
 exact thn hA fun us s2 ⟨vs,H2,I2,r2,q2⟩=>hm pins s2 σ H2 x vs v us Q I2 r1 r2 q2
end
def MtM (X:Cx) (id:String) (r:V->List V->Hp->VK->Prop):Prop :=
 ∀ (pins:List (Addr × Obj)) (s:Shared) (σ:St) (H:Hp) (x:V) (xs:List V) (v:Value) (us:List Value) (Q:VK),Inv X pins σ H s->zaY x v->zaV xs us->r x xs H Q ->
  wpAny (model X.prog X.w) X.A (call (.builtin id) (v::us)) (EP X pins σ Q) X.xe s
theorem zaV.one:∀ {x:V} {us:List Value},zaV [x] us->∃ u,us=[u]/\zaY x u
 | _,_,.cons r .nil=>⟨_,rfl,r⟩
theorem zaV.rep {xs:List V} {us:List Value} (h:zaV xs us):∀ k:Nat,zaV (List.replicate k xs).flatten (List.replicate k us).flatten
 | 0=>.nil
 | k+1=>by
  rw [List.replicate_succ,List.replicate_succ,List.flatten_cons,List.flatten_cons];exact zaV.append h (zaV.rep h k)
theorem zhb (its:List Value):∀ (k:Nat) (acc:List Value),
  List.foldl (fun x1 x2=>x1++x2) acc.toArray (List.replicate k its.toArray)=(acc++(List.replicate k its).flatten).toArray
 | 0,acc=>by simp
 | k+1,acc=>by
  have e:acc.toArray++its.toArray=(acc++its).toArray:=by simp
  have e2:(acc++its)++(List.replicate k its).flatten=acc++(List.replicate (k+1) its).flatten:=by
   rw [List.replicate_succ,List.flatten_cons,zsi]
  rw [← e2,← zhb its k (acc++its),← e,List.replicate_succ,List.foldl_cons]
section
variable {X:Cx} {pins:List (Addr × Obj)} {σ:St} {H:Hp} {s:Shared} {l b:Addr} {xs ys zs:List V}
theorem Inv.lset {its its':List Value} {n:Nat} {f:Array Value->Array Value} {t':Nat} (I:Inv X pins σ H s) (hH:H l=some (.lst xs))
  (e:s.heap.get? l=some { cls:=.type "list",data:=.seq its.toArray n }) (hf:f its.toArray=its'.toArray) (hv:zaV ys its') (hz:ys.length<=sizeLine) :
  Inv X pins σ (upd H l (.lst ys)) { s with heap:=s.heap.update l (Obj.mapSeq f),toks:=t' }:=by
 have q:=PySem.IsL.update e f;rw [hf] at q;refine I.write (x:=l) (e:=l) (by rw [hH];exact trivial) (.inl rfl) (fun b' u hb hu=>(Heap.get?_update_other s.heap (Obj.mapSeq f) (Ne.symm hb)).trans hu) ⟨_,q⟩ ?_;exact⟨hz,its',_,hv,q⟩
theorem Inv.lnew {its:List Value} {t':Nat} (I:Inv X pins σ H s) (hv:zaV ys its) (hz:ys.length<=sizeLine) :
  Inv X pins σ (upd H s.heap.objs.size (.lst ys)) { s with heap:=s.heap.push { cls:=.type "list",data:=.seq its.toArray },toks:=t' } :=
 I.laid (fun _ _ q=>zsb _ q) (zse _) ⟨hz,its,0,hv,zsx _ rfl⟩
theorem Inv.fresh (I:Inv X pins σ H s):H s.heap.objs.size=none:=I.hok.fresh (zse _)
theorem Inv.lstM (I:Inv X pins σ H s) (hH:H l=some (.lst xs)):xs.length<=sizeLine/\∃ (its:List Value) (n:Nat),zaV xs its/\xs.length=its.length/\s.heap.get? l=some { cls:=.type "list",data:=.seq its.toArray n }:=by
 obtain⟨z,its,n,r,e⟩:=I.hok l _ hH;exact⟨z,its,n,r,r.length,e⟩
theorem zmg {n:Nat} (h:n<=sizeLine):Builtin.List.listTooLong n=false:=by
 unfold Builtin.List.listTooLong;exact zr5 (by omega)
end
section
variable {X:Cx}
def zkP:V->List V->Hp->VK->Prop:=fun x vs H Q=>∃ l xs y,x=.ref l/\vs=[y]/\H l=some (.lst xs)/\xs.length<sizeLine/\Q .non (upd H l (.lst (xs++[y])))
theorem zkQ:MtM X "list.append" zkP:=by
 intro pins s σ H x vs v us Q I rx rv h;obtain⟨l,xs,y,rfl,rfl,hH,hz,q⟩:=h;cases rx;obtain⟨u,rfl,ru⟩:=rv.one;obtain⟨z,its,n,r,hl,e⟩:=I.lstM hH;refine call_meets F.slot_list_append ⟨_,e,rfl⟩ F.entry_list_append (F.args_list_append_2 _ _) (PySem.list_append l its.toArray n u (by rw [zsy];omega)) ⟨e,?_⟩;refine⟨.non,_,I.lset (its':=its++[u]) hH e (by simp) (r.append (.cons ru .nil)) ?_,rfl,q⟩;rw [zr8,List.length_singleton];omega
def rCat:R2:=fun x y H Q=>∃ l b xs zs,x=.ref l/\y=.ref b/\H l=some (.lst xs)/\H b=some (.lst zs)/\xs.length+zs.length<=sizeLine/\∀ p,H p=none->Q (.ref p) (upd H p (.lst (xs++zs)))
theorem zp2:OpR X (binaryOp .Add) rCat:=by
 intro pins s σ H x y v u Q I rx ry h;obtain⟨l,b,xs,zs,rfl,rfl,hH,hB,hz,q⟩:=h;cases rx;cases ry;obtain⟨z,its,n,r,hl,e⟩:=I.lstM hH;obtain⟨z2,its2,n2,r2,hl2,e2⟩:=I.lstM hB;refine PySem.P.add_list e e2 ?_ (by rw [zsy,zsy];omega);have ea:its.toArray++its2.toArray=(its++its2).toArray:=by simp
 rw [ea];exact⟨.ref _,_,I.lnew (t':=s.toks) (r.append r2) (by rw [zr8];omega),rfl,q _ I.fresh⟩
def rRep:R2:=fun x y H Q=>∃ l k xs,x=.ref l/\y=.int k/\H l=some (.lst xs)/\-(2 ^ 63)<=k/\k<2 ^ 63/\xs.length*k.toNat<=sizeLine /\
 ∀ p,H p=none->Q (.ref p) (upd H p (.lst (List.replicate k.toNat xs).flatten))
theorem zog {α:Type} (xs:List α) (k:Nat):(List.replicate k xs).flatten.length=k*xs.length:=by
 induction k with
 | zero=>simp
 | succ k ih=>rw [List.replicate_succ,List.flatten_cons,zr8,ih,Nat.succ_mul,Nat.add_comm]
theorem zpx:OpR X (binaryOp .Mult) rRep:=by
 intro pins s σ H x y v u Q I rx ry h;obtain⟨l,k,xs,rfl,rfl,hH,h1,h2,hz,q⟩:=h;cases rx;obtain⟨t,rfl⟩:=ry;obtain⟨z,its,n,r,hl,e⟩:=I.lstM hH;have hlen:its.toArray.size*k.toNat<=sizeLine:=by rw [zsy,← hl];exact hz
 have hcap:¬ its.toArray.size*k.toNat > (2 ^ 63-1) / 8:=by
  have:(sizeLine:Nat)<=(2 ^ 63-1) / 8:=by decide
  omega
 have hfit:¬ (!Builtin.List.listFitsIndex k)=true:=by
  rw [fitsIndex_both h1 h2];exact zsI
 have hlong:¬ Builtin.List.listTooLong (its.toArray.size*k.toNat)=true:=by
  rw [zmg hlen];exact zsI
 have hnew:List.foldl (fun x1 x2=>x1++x2) #[] (List.replicate (if its.toArray.isEmpty=true then 0 else k.toNat) its.toArray)=(List.replicate k.toNat its).flatten.toArray:=by
  have f0:∀ m:Nat,List.foldl (fun x1 x2=>x1++x2) #[] (List.replicate m its.toArray)=(List.replicate m its).flatten.toArray:=fun m=>by
   have:=zhb its m []
   rw [List.nil_append] at this;exact this
  rw [f0];cases its with
  | nil=>simp
  | cons a r'=>rw [zsA (by simp)]
 refine wpAny_binaryOp_repeat_ref (T:="list") (U:="int") (by decide) ⟨_,e,rfl⟩ (fun s'=>typeIs_int s' k t) noFill_list_mul F.fills_int_mul F.slot_int_rmul repeat_list F.slot_int_index.lookup
  (call_meets F.slot_int_rmul (typeIs_int s k t) F.entry_int_rmul (F.args_int_rmul_2 _ _) (int___rmul___int_list k t l its.toArray n)
   ⟨e,rfl,⟨_,e,rfl⟩,call_meets F.slot_list_mul ⟨_,e,rfl⟩ F.entry_list_mul (F.args_list_mul_2 _ _) (AutoListH.list___mul___list_int_3 l its.toArray n k t hfit hcap hlong) ⟨e,?_⟩⟩)
 rw [hnew];exact⟨.ref _,_,I.lnew (t':=s.toks) (r.rep k.toNat) (by rw [zog,Nat.mul_comm];exact hz),rfl,q _ I.fresh⟩
end
section
variable {prog:Program} {w:World} {A:Around} {E:Value->Shared->Prop} {s:Shared}
end
section
variable {X:Cx}
end
section
variable {κ:Type} [DecidableEq κ]
def zg2 (kvs:List (κ × V)) (k:κ):Option V:=(kvs.find? fun kv=>decide (kv.1=k)).map (·.2)
def zic (kvs:List (κ × V)) (k:κ) (v:V):List (κ × V) :=
 if (kvs.any fun kv=>decide (kv.1=k))=true then kvs.map (fun kv=>if kv.1=k then (kv.1,v) else kv) else kvs++[(k,v)]
def zij (kvs:List (κ × V)) (k:κ):List (κ × V):=kvs.filter fun kv=>decide (kv.1≠k)
theorem zeI {p:κ × V} {r:List (κ × V)} {k:κ} (e:p.1=k):zg2 (p::r) k=some p.2:=by simp [zg2,List.find?_cons,e]
theorem zeB {p:κ × V} {r:List (κ × V)} {k:κ} (e:¬ p.1=k):zg2 (p::r) k=zg2 r k:=by simp [zg2,List.find?_cons,e]
theorem ziV (k:κ):∀ kvs:List (κ × V),(kvs.any fun kv=>decide (kv.1=k))=(zg2 kvs k).isSome
 | []=>rfl
 | p::r=>by
  rw [List.any_cons];by_cases e:p.1=k
  ·simp only [zeI e,zr4 e,Bool.true_or,Option.isSome_some]
  ·rw [zeB e,zr5 e,Bool.false_or];exact ziV k r
theorem zdt (kvs:List (κ × V)) (k:κ) (v:V):(zic kvs k v).length<=kvs.length+1:=by
 unfold zic;split
 ·rw [zrY];omega
 ·rw [zr8,zsz,List.length_nil];omega
theorem zfu.isSome_eq {o:Option V} {u:Option Value} (r:zfu o u):o.isSome=u.isSome:=by
 cases o with
 | none=>cases u with
  | none=>rfl
  | some _=>exact (show False from r).elim
 | some _=>cases u with
  | none=>exact (show False from r).elim
  | some _=>rfl
theorem zfu.getD {o:Option V} {u:Option Value} {d:V} {d':Value} (r:zfu o u) (rd:zaY d d'):zaY (o.getD d) (u.getD d'):=by
 cases o with
 | none=>cases u with
  | none=>exact rd
  | some _=>exact (show False from r).elim
 | some _=>cases u with
  | none=>exact (show False from r).elim
  | some _=>exact r
theorem KV.val {kvs:List (κ × V)} {vs:List (κ × Value)} (r:KV kvs vs) (k:κ):zfu (zg2 kvs k) (valueAt vs k):=by
 unfold KV at r
 induction r with
 | nil=>exact True.intro
 | @cons p q ps qs h t ih =>
  obtain⟨h1,h2⟩:=h;by_cases e:p.1=k
  ·have e':q.1=k:=h1.symm.trans e;have b:valueAt (q::qs) k=some q.2:=by simp [valueAt,List.find?_cons,e']
   rw [zeI e,b];exact h2
  ·have e':¬ q.1=k:=fun z=>e (h1.trans z)
   have b:valueAt (q::qs) k=valueAt qs k:=by simp [valueAt,List.find?_cons,e']
   rw [zeB e,b];exact ih
theorem KV.any {kvs:List (κ × V)} {vs:List (κ × Value)} (r:KV kvs vs) (k:κ):(kvs.any fun kv=>decide (kv.1=k))=vs.any fun kv=>decide (kv.1=k):=by
 unfold KV at r
 induction r with
 | nil=>rfl
 | cons h t ih=>rw [List.any_cons,List.any_cons,ih,h.1]
theorem KV.repl {kvs:List (κ × V)} {vs:List (κ × Value)} (r:KV kvs vs) (k:κ) {y:V} {u:Value} (ry:zaY y u) :
  KV (kvs.map fun kv=>if kv.1=k then (kv.1,y) else kv) (vs.map fun kv=>if kv.1=k then (kv.1,u) else kv):=by
 unfold KV at r ⊢
 induction r with
 | nil=>exact .nil
 | @cons p q ps qs h t ih =>
  rw [zsq,zsq];refine .cons ?_ ih;obtain⟨h1,h2⟩:=h;by_cases e:p.1=k
  ·rw [zsB e,zsB (h1.symm.trans e)];exact⟨h1,ry⟩
  ·rw [zsA e,zsA (fun z=>e (h1.trans z))];exact⟨h1,h2⟩
theorem KV.put {kvs:List (κ × V)} {vs:List (κ × Value)} (r:KV kvs vs) (k:κ) {y:V} {u:Value} (ry:zaY y u):KV (zic kvs k y) (stored vs k u):=by
 unfold zic stored;rw [r.any k];by_cases e:(vs.any fun kv=>decide (kv.1=k))=true
 ·rw [zsB e,zsB e];exact r.repl k ry
 ·rw [zsA e,zsA e];exact Paired.snoc r ⟨rfl,ry⟩
theorem KV.drop {kvs:List (κ × V)} {vs:List (κ × Value)} (r:KV kvs vs) (k:κ):KV (zij kvs k) (without vs k):=by
 unfold KV at r ⊢;unfold zij without
 induction r with
 | nil=>exact .nil
 | @cons p q ps qs h t ih =>
  obtain⟨h1,h2⟩:=h;rw [List.filter_cons,List.filter_cons];by_cases e:p.1=k
  ·have a:¬ decide (p.1≠k)=true:=by simp [e]
   have b:¬ decide (q.1≠k)=true:=by simp [h1.symm.trans e]
   rw [zsA a,zsA b];exact ih
  ·have e':¬ q.1=k:=fun z=>e (h1.trans z)
   have a:decide (p.1≠k)=true:=by simp [e]
   have b:decide (q.1≠k)=true:=by simp [e']
   rw [zsB a,zsB b];exact .cons ⟨h1,h2⟩ ih
theorem KV.length {kvs:List (κ × V)} {vs:List (κ × Value)} (r:KV kvs vs):kvs.length=vs.length:=Paired.length r
theorem zm6 (kvs:List (κ × V)) (k:κ):(zij kvs k).length<=kvs.length:=List.length_filter_le _ _
end
theorem zif {P:Program} {w:World} {k:Key} {u:Value} (r:zaY (kV k) u):(zaB P w).is k u=true:=by
 cases k with
 | inl i=>obtain⟨t,e⟩:=(show ∃ t,u=Value.int i t from r);subst e;exact zeL P w i t
 | inr x=>obtain⟨t,e⟩:=(show ∃ t,u=Value.str x t from r);subst e;exact zil P w x t
theorem zhf {P:Program} {w:World}:∀ {ks:List Key} {us:List Value},zaV (ks.map kV) us->ItemsAre (zaB P w) ks us
 | [],_,r=>by rw [zsr] at r;cases r;exact .nil
 | k::ks,_,r=>by
  rw [zsq] at r;cases r with
  | cons h t=>exact .cons (zif h) (zhf t)
abbrev KT (H:Hp):List (List Key × V)->List (List Key × Addr × Value)->Prop:=Paired fun p q=>p.1=q.1/\H q.2.1=some (.tup (p.1.map kV))/\zaY p.2 q.2.2
theorem KT.val {H:Hp} {kvs:List (List Key × V)} {xs:List (List Key × Addr × Value)} (r:KT H kvs xs) (k:List Key):zfu (zg2 kvs k) ((atKey xs k).map (·.2)):=by
 induction r with
 | nil=>exact True.intro
 | @cons p q ps qs h t ih =>
  obtain⟨h1,_,h2⟩:=h;by_cases e:p.1=k
  ·have e':q.1=k:=h1.symm.trans e;have b:atKey (q::qs) k=some q.2:=by simp [atKey,List.find?_cons,e']
   rw [zeI e,b];exact h2
  ·have e':¬ q.1=k:=fun z=>e (h1.trans z)
   have b:atKey (q::qs) k=atKey qs k:=by simp [atKey,List.find?_cons,e']
   rw [zeB e,b];exact ih
theorem KT.repl {H:Hp} {kvs:List (List Key × V)} {xs:List (List Key × Addr × Value)} (r:KT H kvs xs) (k:List Key) {y:V} {u:Value} (ry:zaY y u) :
  KT H (kvs.map fun kv=>if kv.1=k then (kv.1,y) else kv) (xs.map (putAt k u)):=by
 induction r with
 | nil=>exact .nil
 | @cons p q ps qs h t ih =>
  rw [zsq,zsq];refine .cons ?_ ih;obtain⟨h1,h2,h3⟩:=h;unfold putAt;by_cases e:p.1=k
  ·rw [zsB e,zsB (h1.symm.trans e)];exact⟨h1,h2,ry⟩
  ·rw [zsA e,zsA (fun z=>e (h1.trans z))];exact⟨h1,h2,h3⟩
theorem KT.put {H:Hp} {kvs:List (List Key × V)} {xs:List (List Key × Addr × Value)} (r:KT H kvs xs) (k:List Key) {b:Addr} {y:V} {u:Value} (hb:H b=some (.tup (k.map kV))) (ry:zaY y u) :
  KT H (zic kvs k y) (storedH xs k b u):=by
 have e:(kvs.any fun kv=>decide (kv.1=k))=(atKey xs k).isSome:=by
  rw [ziV,(r.val k).isSome_eq,Option.isSome_map]
 unfold zic storedH;rw [e];by_cases q:(atKey xs k).isSome=true
 ·rw [zsB q,zsB q];exact r.repl k ry
 ·rw [zsA q,zsA q];exact Paired.snoc r ⟨rfl,hb,ry⟩
theorem KT.keeps {H H':Hp} {kvs:List (List Key × V)} {xs:List (List Key × Addr × Value)} (r:KT H kvs xs) (ht:∀ b ys,H b=some (.tup ys)->H' b=some (.tup ys)):KT H' kvs xs :=
 Paired.mapP r fun _ _ z=>⟨z.1,ht _ _ z.2.1,z.2.2⟩
section
variable {P:Program} {w:World} {H:Hp} {h:Heap} {a:Addr}
theorem zqo {u:HO} (ok:HOk P w H h) (e:Rd H a u):zaQ P w H h a u:=e.ok ok
theorem zlA {kvs:List (Key × V)} (ok:HOk P w H h) (e:Rd H a (.dK kvs)):kvs.length<=sizeLine/\(a == sysModules)=false/\∃ vs,KV kvs vs/\h.DictOf (zaB P w) a vs :=
 show zaQ P w H h a (.dK kvs) from zqo ok e
theorem ziv {kvs:List (Key × V)} (ok:HOk P w H h) (e:H a=some (.dK kvs)):kvs.length<=sizeLine/\(a == sysModules)=false/\∃ vs,KV kvs vs/\h.DictOf (zaB P w) a vs:=zlA ok (.inl e)
theorem zjf {ks:List Key} (ok:HOk P w H h) (e:H a=some (.tup (ks.map kV))):(tupleKind (zaB P w)).is h ks a:=by
 obtain⟨_,its,r,o,h1,h2,n,h3,_⟩:=(show zaQ P w H h a (.tup (ks.map kV)) from ok a _ e);exact⟨o,its.toArray,n,h1,h2,h3,by simpa using zhf r⟩
theorem zla {kvs:List (List Key × V)} (ok:HOk P w H h) (e:Rd H a (.dT kvs)):kvs.length<=sizeLine/\(a == sysModules)=false /\
  ∃ xs,KT H kvs xs/\h.DictOfH (tupleKind (zaB P w)) a xs:=by
 obtain⟨z,y,xs,r,o,es,ep,h1,h2,h3,h4,h5⟩:=(show zaQ P w H h a (.dT kvs) from zqo ok e);refine⟨z,y,xs,r,o,es,ep,h1,h2,h3,h4,fun x hx=>?_,h5⟩;have all:∀ {l:List (List Key × V)} {m:List (List Key × Addr × Value)},KT H l m->∀ x∈m,(tupleKind (zaB P w)).is h x.1 x.2.1:=by
  intro l m q
  induction q with
  | nil=>intro x hx;exact nomatch hx
  | @cons p q ps qs hq t ih =>
   intro x hx;rcases zsF.mp hx with e | hx
   ·subst e;exact zjf ok (by rw [← hq.1];exact hq.2.1)
   ·exact ih x hx
 exact all r x hx
theorem zq2 {kvs:List (List Key × V)} (ok:HOk P w H h) (e:H a=some (.dT kvs)):kvs.length<=sizeLine/\(a == sysModules)=false /\
  ∃ xs,KT H kvs xs/\h.DictOfH (tupleKind (zaB P w)) a xs:=zla ok (.inl e)
end
def zmQ (H:Hp) (a:Addr) (y:V) (r:Option V):Prop :=
 (∃ kvs k,Rd H a (.dK kvs)/\y=kV k/\r=zg2 kvs k)\/∃ kvs k b,Rd H a (.dT kvs)/\y=.ref b/\H b=some (.tup (k.map kV))/\r=zg2 kvs k
def zoL (H:Hp) (a:Addr) (y v:V) (H':Hp):Prop :=
 (∃ kvs k,H a=some (.dK kvs)/\y=kV k/\kvs.length<sizeLine/\H'=upd H a (.dK (zic kvs k v))) \/
 ∃ kvs k b,H a=some (.dT kvs)/\y=.ref b/\H b=some (.tup (k.map kV))/\kvs.length<sizeLine/\H'=upd H a (.dT (zic kvs k v))
theorem zmQ.k {H:Hp} {a:Addr} {kvs:List (Key × V)} {k:Key} (e:H a=some (.dK kvs)):zmQ H a (kV k) (zg2 kvs k):=.inl ⟨kvs,k,.inl e,rfl,rfl⟩
theorem zoL.k {H:Hp} {a:Addr} {kvs:List (Key × V)} {k:Key} {v:V} (e:H a=some (.dK kvs)) (hl:kvs.length<sizeLine):zoL H a (kV k) v (upd H a (.dK (zic kvs k v))):=.inl ⟨kvs,k,e,rfl,hl,rfl⟩
section
variable {X:Cx} {pins:List (Addr × Obj)} {σ:St} {H:Hp} {s:Shared} {a:Addr} {y v:V} {u r:Value} {o:Option V} {A:Around} {E:Value->Shared->Prop}
theorem Inv.big (I:Inv X pins σ H s):sysModules<s.heap.objs.size:=by
 have h:mainGlobals<s.heap.objs.size:=(I.mod.glob.keeps I.bk).lt;exact Nat.lt_trans (by decide) h
theorem zkw {Q:Value->Shared->Prop} (hu:A.units+1<cLine) (I:Inv X pins σ H s) (g:zmQ H a y (some v)) (ry:zaY y u) (h:∀ w' s',Inv X pins σ H s'->zaY v w'->Q w' s') :
  wpAny (model X.prog X.w) A (getItem (.ref a) u) Q E s:=by
 rcases g with ⟨kvs,k,e,ey,l⟩ | ⟨kvs,k,b,e,ey,eb,l⟩
 ·subst ey;obtain⟨z,hd,vs,rel,dd⟩:=zlA I.hok e;obtain⟨w',hw,rw'⟩:=zfu.some_of (v:=v) (o:=valueAt vs k) (by rw [l];exact rel.val k);exact wpAny_getItem_of (zif ry) dd.mapOf hw (h w' _ (I.tok _) rw')
 ·subst ey;cases (show u=Value.ref b from ry);obtain⟨z,hd,xs,rel,dd⟩:=zla I.hok e;obtain⟨w',hw,rw'⟩:=zfu.some_of (v:=v) (o:=(atKey xs k).map (·.2)) (by rw [l];exact rel.val k)
  obtain⟨p,hp,hp2⟩:=zr1.mp hw;refine wpAny_getItem_heap (tupleKind_room_in1 hu) (zjf I.hok eb) dd hp ?_;rw [hp2];exact h w' _ (I.tok _) rw'
theorem zef {h':Heap} {t':Nat} {ob:HO} (I:Inv X pins σ H s) (mu:Mut (H a)) (hs:Heap.SameBut a s.heap h') (he:∃ q,h'.get? a=some q) (new:zaQ X.prog X.w (upd H a ob) h' a ob) :
  Inv X pins σ (upd H a ob) { s with heap:=h',toks:=t' } :=
 I.write (x:=a) (e:=a) mu (.inl rfl) (fun b q hb z=>(hs.2 b hb).trans z) he new
theorem ziL {P:Program} {w:World} {H':Hp} {h':Heap} {kvs:List (Key × V)} {vs:List (Key × Value)} (z:kvs.length<=sizeLine) (hd:(a == sysModules)=false) (rel:KV kvs vs) (dd:h'.DictOf (zaB P w) a vs) :
  zaQ P w H' h' a (.dK kvs):=⟨z,hd,vs,rel,dd⟩
theorem zlr {H':Hp} {Q:Unit->Shared->Prop} (hu:A.units+1<cLine) (I:Inv X pins σ H s) (g:zoL H a y v H') (ry:zaY y u) (rv:zaY v r) (h:∀ s',Inv X pins σ H' s'->Q () s') :
  wpAny (model X.prog X.w) A (setItem (.ref a) u r) Q E s:=by
 rcases g with ⟨kvs,k,e,ey,l,eH⟩ | ⟨kvs,k,b,e,ey,eb,l,eH⟩
 ·subst ey eH;obtain⟨z,hd,vs,rel,dd⟩:=ziv I.hok e;have hz:vs.length<=sizeLine:=by rw [← rel.length];exact z
  have hl:(zic kvs k v).length<=sizeLine:=by have:=zdt kvs k v;omega
  refine wpAny_setItem_pairs (hsz:=hz) (zif ry) dd fun h' dd' hs=>h _ ?_
  have he:∃ q,h'.get? a=some q:=let ⟨q,_,_,hq,_⟩:=dd';⟨q,hq⟩;exact zef I (by rw [e];exact True.intro) hs he (ziL hl hd (rel.put k rv) dd')
 ·subst ey eH;cases (show u=Value.ref b from ry);obtain⟨z,hd,xs,rel,dd⟩:=zq2 I.hok e;have hz:xs.length<=sizeLine:=by rw [← Paired.length rel];exact z
  have hl:(zic kvs k v).length<=sizeLine:=by have:=zdt kvs k v;omega
  refine wpAny_setItem_heap (hsz:=hz) (tupleKind_room_in1 hu) (zjf I.hok eb) dd fun h' dd' hs=>h _ ?_
  obtain⟨q,es,ep,hq,h2,h3,h4,_,h5⟩:=dd';refine zef I (by rw [e];exact True.intro) hs ⟨q,hq⟩ ⟨hl,hd,_,(rel.put k eb rv).keeps fun c ys ec=>?_,q,es,ep,hq,h2,h3,h4,h5⟩;rw [zao (zrD ec e (fun z=>nomatch z))];exact ec
end
section
variable {X:Cx} {pins:List (Addr × Obj)} {σ:St} {H:Hp} {s:Shared} {a:Addr} {kvs:List (Key × V)} {k:Key} {u:Value} {A:Around} {E:Value->Shared->Prop}
theorem zq0 {v:V} {more:List Value} {Q:Value->Shared->Prop} (I:Inv X pins σ H s) (e:H a=some (.dK kvs)) (ry:zaY (kV k) u) (l:zg2 kvs k=some v) (hm:more=[]\/∃ x,more=[x])
  (h:∀ w' s',Inv X pins σ (upd H a (.dK (zij kvs k))) s'->zaY v w'->Q w' s'):wpAny (model X.prog X.w) A (call (.builtin "dict.pop") (.ref a::u::more)) Q E s:=by
 obtain⟨z,hd,vs,rel,dd⟩:=ziv I.hok e;obtain⟨w',hw,rw'⟩:=zfu.some_of (v:=v) (o:=valueAt vs k) (by rw [← l];exact rel.val k);have hp:(keyPart u).isSome=true:=by
  cases k with
  | inl i=>obtain⟨t,q⟩:=(show ∃ t,u=Value.int i t from ry);subst q;rfl
  | inr x=>obtain⟨t,q⟩:=(show ∃ t,u=Value.str x t from ry);subst q;rfl
 have ha:argsOk "dict.pop" ⟨.ref a::u::more,[]⟩:=by
  rcases hm with q | ⟨x,q⟩
  ·subst q;exact PySem.F.args_dict_pop_2 _ _
  ·subst q;exact PySem.F.args_dict_pop_3 _ _ _
 refine call_meetsIn PySem.F.slot_dict_pop dd.typeIs PySem.F.entry_dict_pop ha (meets_dict_pop_there (zaB X.prog X.w) a (zif ry) more hm hp)
  ⟨vs,w',dd,by rw [← rel.length];exact z,hw,fun h' dd' hs=>h w' _ ?_ rw'⟩
 have he:∃ q,h'.get? a=some q:=let ⟨q,_,_,hq,_⟩:=dd';⟨q,hq⟩;exact zef I (by rw [e];exact True.intro) hs he (ziL (zsd (zm6 kvs k) z) hd (rel.drop k) dd')
theorem zqq {r:Value} {Q:Value->Shared->Prop} (I:Inv X pins σ H s) (e:H a=some (.dK kvs)) (ry:zaY (kV k) u) (l:zg2 kvs k=none) (h:∀ s',Inv X pins σ H s'->Q r s') :
  wpAny (model X.prog X.w) A (call (.builtin "dict.pop") [.ref a,u,r]) Q E s:=by
 obtain⟨z,hd,vs,rel,dd⟩:=ziv I.hok e;have hn:valueAt vs k=none:=zfu.none_of (by rw [← l];exact rel.val k);have hp:(keyPart u).isSome=true:=by
  cases k with
  | inl i=>obtain⟨t,q⟩:=(show ∃ t,u=Value.int i t from ry);subst q;rfl
  | inr x=>obtain⟨t,q⟩:=(show ∃ t,u=Value.str x t from ry);subst q;rfl
 exact call_meetsIn PySem.F.slot_dict_pop dd.typeIs PySem.F.entry_dict_pop (PySem.F.args_dict_pop_3 _ _ _) (meets_dict_pop_default (zaB X.prog X.w) a (zif ry) hd hp r) ⟨vs,dd,hn,h _ (I.tok _)⟩
end
def zqN (i:Expr):Prop:=∀ ov iv,subscripted i false ov iv=operate [ov,iv] (getItem ov iv)
theorem zh7 {prog:Program} {w:World} {A:Around} {E:Value->Shared->Prop} {s:Shared} {env:Env} {value slice:Expr} {pos:Pos} {T id:String} {Q:Value->Shared->Prop}
  (hl:typeLookup (.type T) "__getitem__"=pure (some (.builtin id))) (hs:zqN slice)
  (h:wpAny (model prog w) A (eval value env) (fun o s₁=>wpAny (model prog w) A (eval slice env) (fun i s₂=>s₂.TypeIs o T/\wpAny (model prog w) A (getItem o i) Q E s₂) E s₁) E s) :
  wpAny (model prog w) A (eval (.Subscript value slice pos) env) Q E s:=by
 refine Subscript_ (wpAny_mono h (fun o s₁ h₁=>wpAny_mono h₁ (fun i s₂ h₂=>?_) fun _ _ x=>x) fun _ _ x=>x);obtain⟨hT,h₂⟩:=h₂;unfold subscriptTail;refine wpAny_bind ?_;rw [getitemInPython_of_ne hT.not_modules];refine wpAny_bind (wpAny_specialOf hT hl ?_);have fin:wpAny (model prog w) A (subscripted slice false o i) (fun r s₃=>wpAny (model prog w) A (letTemporaryGo value o r >>= fun _=>pure r) Q E s₃) E s₂:=by
  rw [hs o i];exact wpAny_operating (wpAny_mono h₂ (fun r s₃ h₃=>wpAny_bind (wpAny_letTemporaryGo (wpAny_pure h₃))) fun _ _ x=>x)
 first
  | exact wpAny_pure (wpAny_bind fin)
  | exact wpAny_bind (wpAny_pure (wpAny_bind fin))
  | exact wpAny_bind fin
theorem zhV {X:Cx} {pins:List (Addr × Obj)} {σ:St} {H:Hp} {s:Shared} {a:Addr} {y:V} {o:Option V} (I:Inv X pins σ H s) (g:zmQ H a y o):s.TypeIs (.ref a) "dict":=by
 rcases g with ⟨kvs,k,e,_,_⟩ | ⟨kvs,k,b,e,_,_,_⟩
 ·obtain⟨_,_,vs,_,dd⟩:=zlA I.hok e;exact dd.typeIs
 ·obtain⟨_,_,xs,_,dd⟩:=zla I.hok e;exact dd.typeIs
def zrU (td ty:TE):TE:=fun σ H Q=>td σ H fun x H1=>ty σ H1 fun y H2=>∃ a v,x=.ref a/\zmQ H2 a y (some v)/\Q v H2
def zra (td ty tv:TE):TS:=fun D σ H=>tv σ H fun v H1=>td σ H1 fun x H2=>ty σ H2 fun y H3=>∃ a H4,x=.ref a/\zoL H3 a y v H4/\D.nx σ H4
section
variable {X:Cx} {o i e value:Expr} {pos pos' tpos:Pos} {td ty tv:TE}
theorem zn6 (hu:X.A.units+1<cLine) (ho:PE X o td) (hi:PE X i ty) (hs:zqN i):PE X (.Subscript o i pos) (zrU td ty):=by
 intro pins s σ H Q I h;refine zh7 PySem.F.slot_dict_getitem.lookup hs (thn (ho pins s σ H _ I h) fun u s1 ⟨x,H1,I1,rx,q1⟩=>thn (hi pins s1 σ H1 _ I1 q1) fun iv s2 ⟨y,H2,I2,ry,a,v,ex,g,q2⟩=>?_);subst ex;obtain rfl:u=Value.ref a:=rx;exact⟨zhV I2 g,zkw hu I2 g ry fun w' s3 I3 rw'=>⟨v,H2,I3,rw',q2⟩⟩
theorem ziy (hu:X.A.units+1<cLine) (ho:PE X o td) (hi:PE X i ty) (hv:PE X value tv) (hs:swapsWith value (some (.Subscript o i pos')) pos.line X.env=pure false) :
  PS X (.Assign [.Subscript o i pos'] value pos) (zra td ty tv):=by
 intro pins s σ H D I h;refine wpAny_Assign_Subscript (thn (hv pins s σ H _ I h) fun r s1 ⟨v,H1,I1,rv,q1⟩=>thn (ho pins s1 σ H1 _ I1 q1) fun u s2 ⟨x,H2,I2,rx,q2⟩=>thn (hi pins s2 σ H2 _ I2 q2) fun iv s3 ⟨y,H3,I3,ry,a,H4,ex,g,q3⟩=>?_) hs;subst ex;obtain rfl:u=Value.ref a:=rx;exact zlr hu I3 g ry rv fun s4 I4=>⟨σ,H4,I4,q3⟩
end
theorem zjr {P:Program} {w:World} {H:Hp} (h:Heap) (hb:sysModules<h.objs.size):zaQ P w H (h.push { cls:=.type "dict",data:=.dict #[] }) h.objs.size (.dK []) :=
 ⟨Nat.zero_le _,beq_eq_false_iff_ne.mpr (Ne.symm (zsG hb)),[],.nil,Heap.DictOf.new h⟩
def zpn:TE:=fun _ H Q=>∀ p,H p=none->Q (.ref p) (upd H p (.dK []))
section
variable {X:Cx} {pos:Pos}
theorem zi8:PE X (.Dict [] [] pos) zpn:=fun pins s σ H Q I h =>
 wpAny_Dict_empty ⟨.ref s.heap.objs.size,_,I.laid (a:=s.heap.objs.size) (o:=.dK []) (t':=s.toks) (fun _ _ q=>zsb _ q) (zse _) (zjr s.heap I.big),rfl,h _ (I.hok.fresh (zse _))⟩
end
structure M2 (X:Cx) (o:Expr) (m:Str) (apos:Pos) (e f:Expr) (cpos:Pos):Prop where
 base:attributeBase o m X.env (eval o X.env)=eval o X.env
 few:((backTo cpos (starEach [e,f] X.env)).all (fun x=>!x.1) && (backToKw cpos (keywordEach [] X.env)).all (fun x=>x.1.isSome)
  && decide (([e,f]:List Expr).length+([]:List Keyword).length+(if ([]:List Keyword).isEmpty then 0 else 1)<30))=true
 line:(apos.endLine == cpos.line)=true
 trees:backTo cpos (starEach [e,f] X.env)=[(false,eval e X.env),(false,eval f X.env)]
def IsD (H:Hp) (a:Addr):Prop:=(∃ kvs,Rd H a (.dK kvs))\/∃ kvs,Rd H a (.dT kvs)
theorem znh {X:Cx} {pins:List (Addr × Obj)} {σ:St} {H:Hp} {s:Shared} {a:Addr} (I:Inv X pins σ H s) (d:IsD H a) :
  s.TypeIs (.ref a) "dict"/\(∀ b,Value.ref a=.ref b->∃ ob,s.heap.get? b=some ob/\ob.dict=none)/\(a == sysModules)=false:=by
 rcases d with ⟨kvs,e⟩ | ⟨kvs,e⟩
 ·obtain⟨_,hd,vs,_,dd⟩:=zlA I.hok e;refine⟨dd.typeIs,fun b q=>?_,hd⟩;cases q;obtain⟨ob,_,_,h1,h2,_⟩:=dd;exact⟨ob,h1,h2.2.1⟩
 ·obtain⟨_,hd,xs,_,dd⟩:=zla I.hok e;refine⟨dd.typeIs,fun b q=>?_,hd⟩;cases q;obtain⟨ob,_,_,h1,h2,_⟩:=dd;exact⟨ob,h1,h2.2.1⟩
section
variable {X:Cx} {pins:List (Addr × Obj)} {σ:St} {H:Hp} {s:Shared} {a:Addr} {y d:V} {u r:Value} {o:Option V} {A:Around} {E:Value->Shared->Prop}
theorem zpB {Q:Value->Shared->Prop} (hu:A.units+1<cLine) (I:Inv X pins σ H s) (g:zmQ H a y o) (ry:zaY y u) (rd:zaY d r) (h:∀ w' s',Inv X pins σ H s'->zaY (o.getD d) w'->Q w' s') :
  wpAny (model X.prog X.w) A (call (.builtin "dict.get") [.ref a,u,r]) Q E s:=by
 rcases g with ⟨kvs,k,e,ey,l⟩ | ⟨kvs,k,b,e,ey,eb,l⟩
 ·subst ey;obtain⟨z,hd,vs,rel,dd⟩:=zlA I.hok e;refine call_meetsIn PySem.F.slot_dict_get dd.typeIs PySem.F.entry_dict_get (PySem.F.args_dict_get_3 _ _ _) (meets_dict_get_default (zaB X.prog X.w) a (zif ry) hd r) ⟨_,dd.mapOf,h _ _ (I.tok _) ?_⟩;rw [l];exact (rel.val k).getD rd
 ·subst ey;cases (show u=Value.ref b from ry);obtain⟨z,hd,xs,rel,dd⟩:=zla I.hok e;refine call_meetsIn PySem.F.slot_dict_get dd.typeIs PySem.F.entry_dict_get (PySem.F.args_dict_get_3 _ _ _) (meetsH_dict_get_default (tupleKind (zaB X.prog X.w)) a b hd r) ⟨tupleKind_room_in1 hu,k,xs,zjf I.hok eb,dd,h _ _ (I.tok _) ?_⟩;rw [l];exact (rel.val k).getD rd
end
def zqf (td ty tx:TE):TE:=fun σ H Q=>td σ H fun x H1=>∃ a,x=.ref a/\IsD H1 a/\ty σ H1 fun y H2=>tx σ H2 fun z H3=>∃ o,zmQ H3 a y o/\Q (o.getD z) H3
def zpU (td ty tx:TE):TE:=fun σ H Q=>td σ H fun x H1=>∃ a,x=.ref a/\IsD H1 a/\ty σ H1 fun y H2=>tx σ H2 fun z H3=>∃ kvs k,H3 a=some (.dK kvs)/\y=kV k /\
 (∀ v,zg2 kvs k=some v->Q v (upd H3 a (.dK (zij kvs k))))/\(zg2 kvs k=none->Q z H3)
section
variable {X:Cx} {o e f:Expr} {apos cpos:Pos} {td ty tx:TE}
theorem zgj (hu:X.A.units+1<cLine) (ho:PE X o td) (he:PE X e ty) (hf:PE X f tx) (m:M2 X o "get" apos e f cpos):PE X (.Call (.Attribute o "get" apos) [e,f] [] cpos) (zqf td ty tx):=by
 intro pins s σ H Q I h;refine wpAny_Call_method m.base m.few m.line PySem.F.plainAttrs_dict PySem.F.slot_dict_get PySem.F.type_dict_get (thn (ho pins s σ H _ I h) fun u s1 ⟨x,H1,I1,rx,a,ex,d,q1⟩=>?_);subst ex;obtain rfl:u=Value.ref a:=rx;obtain⟨t1,t2,_⟩:=znh I1 d;refine⟨t1,t2,?_⟩;rw [m.trees];refine Calls.callWith_builtin rfl (Calls.evalArgs_plain (Calls.spliced_cons (thn (he pins s1 σ H1 _ I1 q1) fun iv s2 ⟨y,H2,I2,ry,q2⟩ =>
  Calls.spliced_cons (thn (hf pins s2 σ H2 _ I2 q2) fun fv s3 ⟨z,H3,I3,rz,ov,g,q3⟩=>Calls.spliced_nil ?_))))
 exact zpB hu I3 g ry rz fun w' s4 I4 rw'=>⟨_,H3,I4,rw',q3⟩
theorem zmt (ho:PE X o td) (he:PE X e ty) (hf:PE X f tx) (m:M2 X o "pop" apos e f cpos):PE X (.Call (.Attribute o "pop" apos) [e,f] [] cpos) (zpU td ty tx):=by
 intro pins s σ H Q I h;refine wpAny_Call_method m.base m.few m.line PySem.F.plainAttrs_dict PySem.F.slot_dict_pop PySem.F.type_dict_pop (thn (ho pins s σ H _ I h) fun u s1 ⟨x,H1,I1,rx,a,ex,d,q1⟩=>?_);subst ex;obtain rfl:u=Value.ref a:=rx;obtain⟨t1,t2,_⟩:=znh I1 d;refine⟨t1,t2,?_⟩;rw [m.trees];refine Calls.callWith_builtin rfl (Calls.evalArgs_plain (Calls.spliced_cons (thn (he pins s1 σ H1 _ I1 q1) fun iv s2 ⟨y,H2,I2,ry,q2⟩ =>
  Calls.spliced_cons (thn (hf pins s2 σ H2 _ I2 q2) fun fv s3 ⟨z,H3,I3,rz,kvs,k,ea,ey,q3,q4⟩=>Calls.spliced_nil ?_))))
 subst ey;cases l:zg2 kvs k with
 | some v=>exact zq0 I3 ea ry l (.inr ⟨fv,rfl⟩) fun w' s4 I4 rw'=>⟨v,_,I4,rw',q3 v l⟩
 | none=>exact zqq I3 ea ry l fun s4 I4=>⟨z,H3,I4,rz,q4 l⟩
end
section
variable {X:Cx} {pins:List (Addr × Obj)} {σ:St} {H:Hp} {s:Shared} {a:Addr} {kvs:List (Key × V)} {A:Around} {E:Value->Shared->Prop}
end
section
variable {X:Cx} {pins:List (Addr × Obj)} {σ:St} {H:Hp} {s:Shared} {a:Addr} {y:V} {u:Value} {A:Around} {E:Value->Shared->Prop}
end
end L2
namespace Att
open PySem PySem.W PySem.Calls PyProof.Rows
theorem zfl {P:Params} {h:Heap}:∀ (ns:List Int) (vs:List Value),WellAll P h vs (ns.map WData.int)->IntsAre vs ns:=by
 intro ns
 induction ns with
 | nil =>
  intro vs w;rw [zsr] at w;cases w;exact .nil
 | cons n ns ih =>
  intro vs w;rw [zsq] at w;cases w with
  | cons a b =>
   cases a;exact .cons _ _ (ih _ b)
theorem zk2 {l:OpenLaw} {n:Nat} (hn:l.most=some n) {P:Params} {h:Heap} {args:List WData} {vals:List Value}
  (hpre:l.row.toRowW.claim.pre args=true) (hwl:WellAll P h vals args) :
  ∃ a vs ns,vals=[Value.ref a]/\args=[WData.list (ns.map WData.int)]/\h.get? a=some { cls:=.type "list",data:=.seq vs.toArray }/\IntsAre vs ns/\ns.length<=n:=by
 have hsh:WShape.hasAll [] args [.list .int]=true:=(pre_splitW hpre).1;have hc:l.pre.holds [] { args:=args }=true:=(pre_splitW hpre).2;obtain⟨d,r,rfl,h1,h2⟩:=hasAllW_cons hsh;obtain rfl:=hasAllW_nil h2;obtain⟨xs,rfl,h3⟩:=hasW_list h1;obtain⟨ns,rfl⟩:=items_int h3;have hlen:ns.length<=n:=by
  unfold OpenLaw.pre at hc;have h4:(WTm.not (.lt (.lit (.int (n:Int))) (.len (.arg 0)))).holds [] { args:=[.list (ns.map .int)] }=true:=by
   have h4:=(holds_andW hc).1;rw [hn] at h4;exact h4
  have h5:=condW_of h4 (w_not (w_lt w_lit (w_len_list (w_arg rfl))));rw [zrY] at h5;refine Nat.le_of_not_lt fun q=>?_
  have q':(n:Int)<((ns.length:Nat):Int):=by omega
  first
   | (rw [zr4 q'] at h5;exact absurd h5 (by decide))
   | (simp at h5;omega)
 cases hwl with
 | cons w1 w2 =>
  cases w2;cases w1 with
  | list ho hall=>exact⟨_,_,ns,rfl,rfl,ho,zfl ns _ hall,hlen⟩
theorem zkD (l:OpenLaw) (args:List WData):l.row.toRowW.claim.post args (.bool true) args=true :=
 postW_of (r:=l.row.toRowW) (X:=(true == true))
  (show WShape.has [] (.bool true) .bool=true by first | rfl | decide | simp [WShape.has,WShape.arms,WShape.armsAll])
  (show (WTm.eq .res (.lit (.bool true))).value [] { args:=args,res:=some (.bool true),after:=args }=some (.bool (true == true)) from w_eq_bool (w_res rfl) w_lit) rfl
theorem attach_call {l:OpenLaw} {n:Nat} {q:Program} {loose:List Str} {XP:(Str->Option Value)->Heap->Prop} {YP:World->Heap->Prop} {d:DefRec}
  (hn:l.most=some n) (hdf:d.params.defaults=[])
  (call:∀ (w:World) (s₀ s₁:Shared) (mg mb:Str->Option Value) (fa:Addr) (o:Obj) (pm cd doc:Value) (a:Addr) (vs:List Value) (ns:List Int),
   Ground q loose [] XP w s₀ mg mb s₁.heap->YP w s₁.heap ->
   s₁.heap.get? fa=some o->o.data=.func (docDef d.name d.params d.body d.scope pm cd doc)->s₁.heap.CodeRec cd d.name->mg d.name=some (.ref fa) ->
   s₁.heap.get? a=some { cls:=.type "list",data:=.seq vs.toArray }->IntsAre vs ns->ns.length<=n->s₁.gens=#[] ->
   codeAny (model l.prog w) callerA (.call (.ref fa) ⟨[.ref a],[]⟩) (fun r s'=>r=.ok (.ret (.bool true))/\OldK s₁.heap s'.heap/\s'.os=s₁.os/\AllBare s'.gens) s₁) :
  WalkO q loose XP YP l.row.toRowW d [] (fun f vs=>PySem.call f vs):=by
 intro w s₀ s₁ mg mb G Y fa o pm cd doc dV kV ho hd hcd hD hmg hg args vals as hpre hlay hrd hwl hlo;obtain rfl:dV=.none:=Dflts.none hD hdf;obtain rfl:kV=.none:=Dflts.noKw hD;obtain⟨a,vs,ns,rfl,rfl,hobj,hints,hlen⟩:=zk2 hn hpre hwl;refine enter_call (codeAny_mono (call w s₀ s₁ mg mb fa o pm cd doc a vs ns G Y ho (fd_plain hd) hcd hmg hobj hints hlen hg) fun r s' hq=>?_);obtain⟨rfl,h2,h3,h4⟩:=hq;exact⟨.inl ⟨.bool true,.bool true,[],rfl,fun _=>rfl,.bool true,zkD l _,fun _=>⟨List.Pairwise.nil,fun _ hm=>(nomatch hm)⟩⟩,h2,h3,h4⟩
section
variable {prog:Program} {w:World} {A:Around} {E:Value->Shared->Prop} {s:Shared} {K:Frag}
end
end Att
namespace L2
open PySem PySem.Spec PyProof.Rows
theorem zhH:∀ {vs:List Value} {ns:List Int},IntsAre vs ns->zaV (ns.map V.int) vs
 | _,_,.nil=>.nil
 | _,_,.cons n t h=>.cons ⟨t,rfl⟩ (zhH h)
def zrg (H:Hp):Prop:=∀ b,H b=none\/∃ o xs,H b=some (.frz o (.lst xs))
theorem zmv {P:Program} {w:World} {K:PySem.W.Frag} {mg mb:Str->Option Value} {CX:CXT} {k:Nat} {fa a:Addr} {fd:FuncData} {x:Str} {sp:Sp} {s₁:Shared} {vs:List Value} {ns:List Int}
  (KX:K.In s₁.heap) (hns:s₁.heap.Ns mainGlobals mg) (hb:s₁.heap.Ns builtinsNs mb) (hbb:∀ x:Str,x≠"__name__"->mb x=bootBuiltins x) (hlim:s₁.heap.NoLimit) (hg:s₁.gens=#[])
  (ha:s₁.heap.get? a=some { cls:=.type "list",data:=.seq vs.toArray }) (hi:IntsAre vs ns) (hl:ns.length<=sizeLine) (hr:zcQ k callerA)
  (F:∀ base:Heap,K.In base->base.Ns mainGlobals mg->zaC P w K mg base CX k fa fd [x] sp) (hbind:∀ (s:Shared) (u:Value),BindsTo s fd ⟨[u],[]⟩ [(x,u)])
  (hsp:∀ H:Hp,zrg H->SqL K H a (ns.map V.int)->sp [.ref a] H (fun v _=>v=.bl true) fun _ _ _=>False)
  (hCX:∀ H e s',CX [] H s₁ (fun _ _ _=>False) e s'->False) :
  codeAny (model P w) callerA (.call (.ref fa) ⟨[.ref a],[]⟩) (fun r s'=>r=.ok (.ret (.bool true))/\OldK s₁.heap s'.heap/\s'.os=s₁.os/\AllBare s'.gens) s₁:=by
 have rv:=zhH hi;have lenV:=hi.length;have core:∀ H:Hp,zrg H->SqL K H a (ns.map V.int)->HOk P w H s₁.heap->(∀ b,H b≠none->b=a)->(H a≠none->K.lookup a=none) ->
   codeAny (model P w) callerA (.call (.ref fa) ⟨[.ref a],[]⟩) (fun r s'=>r=.ok (.ret (.bool true))/\OldK s₁.heap s'.heap/\s'.os=s₁.os/\AllBare s'.gens) s₁:=by
  intro H hO hS hok hA hK;have base_of:∀ {b:Addr} {o:Obj},s₁.heap.get? b=some o->H b=none->(zm8 s₁.heap H).get? b=some o:=fun e n=>zlW e n
  have noA:∀ {b:Addr} {o:Obj} {es:Array DictEntry} {ep:Nat},s₁.heap.get? b=some o->o.data=.dict es ep->H b=none:=fun {b o es ep} e d=>by
   cases q:H b with
   | none=>rfl
   | some u =>
    have e':b=a:=hA b (by rw [q];simp);subst e';rw [ha] at e;cases e;have d':Data.seq vs.toArray _=Data.dict es ep:=d;cases d'
  have nsK:∀ {b:Addr} {m:Str->Option Value},s₁.heap.Ns b m->(zm8 s₁.heap H).Ns b m:=fun {b m} ⟨o,es,ep,e,d,r⟩=>⟨o,es,ep,base_of e (noA e d),d,r⟩
  have hKb:K.In (zm8 s₁.heap H):=fun b o e=>base_of (KX b o e) (by
   cases q:H b with
   | none=>rfl
   | some u =>
    have e':b=a:=hA b (by rw [q];simp);subst e';rw [hK (by rw [q];simp)] at e;cases e)
  have hM:Mod K mg (zm8 s₁.heap H):=⟨hKb,nsK hns,⟨mb,nsK hb,hbb⟩,let ⟨mc,h1,h2⟩:=hlim;⟨mc,nsK h1,h2⟩⟩;have e0:zo0 P w K mg (zm8 s₁.heap H) callerA [] s₁ H:=⟨rfl,hM,fun b o e=>zo1 e,Nat.le_of_eq (zlj _ _),trivial,fun b hb=>absurd (show b∈([]:List Addr) from hb) (by simp),hok,.of_eq hg⟩;refine codeAny_mono ((F _ hKb (nsK hns)).run callerA [] s₁ H ⟨[.ref a],[]⟩ [.ref a] [.ref a] _ _ hr e0 (hbind s₁ (.ref a)) (.cons rfl .nil) (hsp H hO hS)) fun r s' h=>?_
  cases r with
  | error e=>exact (hCX H e s' h).elim
  | ok fl =>
   cases fl with
   | next=>exact False.elim h
   | brk=>exact False.elim h
   | cont=>exact False.elim h
   | ret u =>
    obtain⟨v,H',os,bare,un,hok',r',q⟩:=h;have q':v=.bl true:=q;subst q';obtain rfl:u=Value.bool true:=r';refine⟨rfl,OldK.of_keep fun b o e=>?_,os,bare⟩;cases q:H b with
    | none=>exact un.keep b o e q (by intro z;exact absurd (show b∈([]:List Addr) from z) (by simp)) (by simp)
    | some u =>
     rcases hO b with z | ⟨ob,xs,z⟩
     ·rw [q] at z;cases z
     ·have z2:=un.frzs b ob _ z;obtain⟨e1,_⟩:=hok b _ z;obtain⟨e2,_⟩:=hok' b _ z2;rw [e] at e1;cases e1;exact e2
 cases hk:K.lookup a with
 | some o =>
  have e:=KX a o hk;rw [ha] at e;cases e;refine core (fun _=>none) (fun _=>.inl rfl) (.inr ⟨_,vs.toArray,_,hk,rfl,rfl,rfl,by rw [zsy,lenV];exact hl,by simpa using rv⟩) (fun b u z=>by have z':(none:Option HO)=some u:=z;cases z') (fun b z=>absurd rfl z) fun z=>absurd rfl z
 | none =>
  refine core (fun b=>if b=a then some (.frz { cls:=.type "list",data:=.seq vs.toArray } (.lst (ns.map V.int))) else none) (fun b=>?_) (.inl (.inr ⟨{ cls:=.type "list",data:=.seq vs.toArray },zsB rfl⟩)) (fun b u z=>?_) (fun b z=>?_) fun _=>hk
  ·by_cases hb:b=a
   ·exact .inr ⟨_,_,zsB hb⟩
   ·exact .inl (zsA hb)
  ·by_cases hb:b=a
   ·have z':=(zsB hb).symm.trans z;cases z';subst hb;exact⟨ha,by rw [zrY];exact hl,vs,_,rv,ha⟩
   ·have z':=(zsA hb).symm.trans z;cases z'
  ·by_cases hb:b=a
   ·exact hb
   ·exact absurd (zsA hb) z
theorem walk_of {l:PySem.W.OpenLaw} {n k:Nat} {q:Program} {loose:List Str} {XP:(Str->Option Value)->Heap->Prop} {YP:World->Heap->Prop} {d:DefRec} {K:Params->PySem.W.Frag} {CX:World->CXT} {sp:World->Sp} {x:Str}
  (hn:l.most=some n) (hn2:n<=sizeLine) (hdf:d.params.defaults=[]) (hr:zcQ k callerA)
  (hY:∀ (w:World) (h:Heap),YP w h->(K w.params).In h)
  (F:∀ (w:World) (mg:Str->Option Value) (fa:Addr) (h:Heap),(K w.params).In h->h.Ns mainGlobals mg->mg d.name=some (.ref fa) ->
   ∃ fd:FuncData,(∀ (s:Shared) (u:Value),BindsTo s fd ⟨[u],[]⟩ [(x,u)]) /\
    ∀ base:Heap,(K w.params).In base->base.Ns mainGlobals mg->zaC l.prog w (K w.params) mg base (CX w) k fa fd [x] (sp w))
  (hsp:∀ (w:World) (H:Hp) (a:Addr) (ns:List Int),ns.length<=n->zrg H->SqL (K w.params) H a (ns.map V.int)->sp w [.ref a] H (fun v _=>v=.bl true) fun _ _ _=>False)
  (hCX:∀ (w:World) (H:Hp) (s:Shared) (e:Value) (s':Shared),CX w [] H s (fun _ _ _=>False) e s'->False) :
  PySem.W.WalkO q loose XP YP l.row.toRowW d [] (fun f vs=>PySem.call f vs):=by
 refine Att.attach_call hn hdf fun w s₀ s₁ mg mb fa o pm cd doc a vs ns G Y ho hd hcd hmg hobj hints hlen hg=>?_
 have KX:=hY w _ Y;obtain⟨fd,hb,hF⟩:=F w mg fa _ KX G.T.g hmg;exact zmv KX G.T.g G.T.b G.T.builtins G.T.nolimit hg hobj hints (zsd hlen hn2) hr hF hb (fun H hO hS=>hsp w H a ns hlen hO hS) fun H e s'=>hCX w H s₁ e s'
def zd8 (s:Stmt) (j:Nat):Stmt:=match s with
 | .ClassDef _ _ _ body _ _ _ _ _ _ _=>body.getD j (.Pass ⟨0,0,0,0⟩)
 | _=>.Pass ⟨0,0,0,0⟩
def zar (s:Stmt):Arguments:=match s with
 | .FunctionDef _ a _ _ _ _ _ _ _ _=>a
 | _=>{ posonlyargs:=[],args:=[],vararg:=none,kwonlyargs:=[],kw_defaults:=[],kwarg:=none,defaults:=[] }
def zap (s:Stmt):List Stmt:=match s with
 | .FunctionDef _ _ b _ _ _ _ _ _ _=>b
 | _=>[]
def zad (s:Stmt):Scope:=match s with
 | .FunctionDef _ _ _ _ _ _ sc _ _ _=>sc
 | _=>{ kind:=.function,names:=[],isGenerator:=false,isCoroutine:=false }
abbrev CX0:CXT:=fun _ _ _ _ _ _=>False
abbrev E0:XK:=fun _ _ _=>False
theorem zav {X:Cx}:zdC CX0 X E0:=fun _ _ _ _ _ _ _ h=>h.elim
structure Fun (K:PySem.W.Frag) (x qual:Str) (st:Stmt) (f:Addr) (fd:FuncData):Prop where
 ex:∃ (oc:Value) (od:Option Addr) (kV doc pm:Value) (an:Option Addr) (cdv ct:Value) (osl:Array (Option Value)),
  fd=PySem.W.fnOf x qual (zar st) (zap st) (zad st) .none kV doc pm an cdv ct/\K.lookup f=some ⟨oc,od,.func fd,osl⟩/\PySem.W.codeIn K cdv qual=true
 kp:PySem.W.keepIn K (.ref f)=true
section
variable {P:Program} {w:World} {K:PySem.W.Frag} {mg:Str->Option Value} {base:Heap}
theorem Fun.ok {x qual:Str} {st:Stmt} {f:Addr} {fd:FuncData} {N ps:List Str} {k:Nat} {sp:Sp} (F:Fun K x qual st f fd) (S:zal N ps (zad st)) (len:∀ vs H Q E,sp vs H Q E->vs.length=ps.length)
  (hbody:∀ (cdv:Value) (A:Around) (outer:List Env) (s:Shared) (H:Hp) (vs:List V) (Q:VK) (E:XK),zcQ k (A.deeper (envOfC qual (zad st) s.heap.objs.size f cdv))->sp vs H Q E ->
   ∃ t,PSs (ziP CX0 P w K mg base N qual (zad st) f cdv A outer s H E).nox (zap st) t/\t { nx:=fun _ H'=>Q .non H',rt:=Q } (start N vs) H):zaC P w K mg base CX0 (k+1) f fd ps sp:=by
 obtain⟨oc,od,kV,doc,pm,an,cdv,ct,osl,rfl,lk,hcd⟩:=F.ex;refine zpW lk hcd S len fun A outer s H vs Q E hr hsp=>?_
 obtain⟨t,h,q⟩:=hbody cdv A outer s H vs Q E hr hsp;exact⟨t,h.nox,q⟩
theorem Fun.binds {x qual:Str} {st:Stmt} {f:Addr} {fd:FuncData} {ps:List Str} (F:Fun K x qual st f fd)
  (h:∀ (kV doc pm:Value) (an:Option Addr) (cdv ct:Value) (us:List Value),us.length=ps.length->bindArgs (PySem.W.fnOf x qual (zar st) (zap st) (zad st) .none kV doc pm an cdv ct) ⟨us,[]⟩=pure (ps.zip us)):zaA K fd ps []:=by
 obtain⟨oc,od,kV,doc,pm,an,cdv,ct,osl,rfl,lk,hcd⟩:=F.ex;exact .all (h kV doc pm an cdv ct)
theorem zay {x qual:Str} {st:Stmt} {f:Addr} {oc:Value} {od an:Option Addr} {osl:Array (Option Value)} {kV doc pm cdv ct:Value} (l:K.lookup f=some ⟨oc,od,.func (PySem.W.fnOf x qual (zar st) (zap st) (zad st) .none kV doc pm an cdv ct),osl⟩)
  (c:PySem.W.codeIn K cdv qual=true) (k:PySem.W.keepIn K (.ref f)=true):Fun K x qual st f (PySem.W.fnOf x qual (zar st) (zap st) (zad st) .none kV doc pm an cdv ct):=⟨⟨oc,od,kV,doc,pm,an,cdv,ct,osl,rfl,l,c⟩,k⟩
end
theorem zaz {A:Around} {k:Nat} (hr:zcQ k A):A.units+1<cLine:=zsc (Nat.add_le_add_left (by decide:1<=64) _) hr.units
section
variable {X:Cx}
end
section
variable {κ:Type} [DecidableEq κ]
end
end L2
end
section
namespace L2
open PySem PySem.Spec PyProof.Rows
def zbM (sc:Scope):List Str:=(sc.names.filter fun x=>x.2 == .free).map (·.1)
def zcK (sc:Scope) (env:Env):List (Str × Addr):=((zbM sc).reverse).map fun n=>(n,(env.cells.lookup n).getD 0)
theorem zgt {sc:Scope} {env:Env} (h:∀ n∈zbM sc,∃ c,env.cells.lookup n=some c):closureFor sc env=pure (zcK sc env):=by
 have key:∀ (l:List (Str × NameKind)) (cs:List (Str × Addr)),(∀ x∈l,x.2=.free->∃ c,env.cells.lookup x.1=some c) ->
   (forIn l cs fun (x:Str × NameKind) (r:List (Str × Addr))=>(if (x.2 == NameKind.free)=true then (do let a ← cellOf env x.1;pure (ForInStep.yield ((x.1,a)::r))) else pure (ForInStep.yield r):Sem (ForInStep (List (Str × Addr)))))
   =pure ((((l.filter fun x=>x.2 == .free).map (·.1)).reverse).map (fun n=>(n,(env.cells.lookup n).getD 0))++cs):=by
  intro l
  induction l with
  | nil=>intro cs _;rfl
  | cons x r ih =>
   intro cs hx;rw [List.forIn_cons];by_cases hk:x.2=.free
   ·obtain⟨c,hc⟩:=hx x zsw hk;have e1:(x.2 == NameKind.free)=true:=by rw [hk];rfl
    have e2:cellOf env x.1=pure c:=by unfold cellOf;rw [hc]
    rw [zsB e1,e2];show (forIn r ((x.1,c)::cs) _:Sem _)=_;rw [ih _ fun y hy=>hx y (zsh _ hy)];rw [List.filter_cons,zsB e1,zsq,List.reverse_cons,zr6,zsi];simp [hc]
   ·have e1:(x.2 == NameKind.free)=false:=by simpa using hk
    rw [zsA (by rw [e1];decide)];show (forIn r cs _:Sem _)=_;rw [ih _ fun y hy=>hx y (zsh _ hy)];rw [List.filter_cons,zsA (by rw [e1];decide)]
 unfold closureFor zcK zbM
 have:=key sc.names [] fun x hx hf=>h x.1 (by
  unfold zbM;exact zsg.mpr ⟨x,List.mem_filter.mpr ⟨hx,by rw [hf];rfl⟩,rfl⟩)
 rw [zsa] at this;show (forIn sc.names [] _ >>= pure:Sem _)=_;refine Eq.trans (congrArg (· >>= pure) (Eq.trans (congrArg (fun f=>(forIn sc.names [] f:Sem (List (Str × Addr)))) (funext fun x=>funext fun r=>?_)) this)) rfl
 obtain⟨n,k⟩:=x
 rfl
theorem zf4 {f:Str->Addr} {x:Str}:∀ {l:List Str} {c:Addr},(l.map fun n=>(n,f n)).lookup x=some c->x∈l/\c=f x
 | [],_,h=>by simp at h
 | n::r,c,h=>by
  simp only [zsq,List.lookup_cons] at h;cases hx:x == n with
  | true =>
   rw [hx] at h;have e:x=n:=by simpa using hx
   subst e;exact⟨zsw,(zsJ h).symm⟩
  | false =>
   rw [hx] at h;obtain⟨a,b⟩:=zf4 h;exact⟨zsh _ a,b⟩
theorem zfO {f:Str->Addr} {x:Str}:∀ {l:List Str},x∈l->(l.map fun n=>(n,f n)).lookup x=some (f x)
 | n::r,h=>by
  simp only [zsq,List.lookup_cons];cases hx:x == n with
  | true =>
   have e:x=n:=by simpa using hx
   subst e
   rfl
  | false =>
   rcases zsF.mp h with e | e
   ·subst e;simp at hx
   ·exact zfO e
theorem zb4 {env:Env}:∀ {names:List (Str × NameKind)} {x:Str},names.lookup x=some .free ->
  (names.map fun (n,k)=>if (k == NameKind.free && env.scope.kind == .function && env.kindOf n == some .cell) then (n,NameKind.cell) else (n,k)).lookup x=some .cell \/
  (names.map fun (n,k)=>if (k == NameKind.free && env.scope.kind == .function && env.kindOf n == some .cell) then (n,NameKind.cell) else (n,k)).lookup x=some .free
 | [],_,h=>by simp at h
 | (n,k)::r,x,h=>by
  have ih:=@zb4 env r x;show List.lookup x ((if (k == NameKind.free && env.scope.kind == .function && env.kindOf n == some .cell)=true then (n,NameKind.cell) else (n,k))::_)=_ \/
   List.lookup x ((if (k == NameKind.free && env.scope.kind == .function && env.kindOf n == some .cell)=true then (n,NameKind.cell) else (n,k))::_)=_
  cases hx:x == n with
  | true =>
   simp only [List.lookup_cons,hx] at h;by_cases hc:(k == NameKind.free && env.scope.kind == .function && env.kindOf n == some .cell)=true
   ·rw [zsB hc];simp only [List.lookup_cons,hx];exact .inl trivial
   ·rw [zsA hc];simp only [List.lookup_cons,hx];exact .inr h
  | false =>
   simp only [List.lookup_cons,hx] at h;by_cases hc:(k == NameKind.free && env.scope.kind == .function && env.kindOf n == some .cell)=true
   ·rw [zsB hc];simp only [List.lookup_cons,hx];exact ih h
   ·rw [zsA hc];simp only [List.lookup_cons,hx];exact ih h
theorem zer {env:Env}:∀ {names:List (Str × NameKind)} {x:Str},(∀ y∈names,y.2≠.cell) ->
  ((names.map fun (n,k)=>if (k == NameKind.free && env.scope.kind == .function && env.kindOf n == some .cell) then (n,NameKind.cell) else (n,k)).lookup x=some .cell \/
  (names.map fun (n,k)=>if (k == NameKind.free && env.scope.kind == .function && env.kindOf n == some .cell) then (n,NameKind.cell) else (n,k)).lookup x=some .free)->(x,NameKind.free)∈names
 | [],_,_,h=>by simp at h
 | (n,k)::r,x,nc,h=>by
  have ih:=@zer env r x fun y hy=>nc y (zsh _ hy)
  change (List.lookup x ((if (k == NameKind.free && env.scope.kind == .function && env.kindOf n == some .cell)=true then (n,NameKind.cell) else (n,k))::_)=_ \/
   List.lookup x ((if (k == NameKind.free && env.scope.kind == .function && env.kindOf n == some .cell)=true then (n,NameKind.cell) else (n,k))::_)=_) at h
  cases hx:x == n with
  | true =>
   have e:x=n:=by simpa using hx
   subst e;by_cases hc:(k == NameKind.free && env.scope.kind == .function && env.kindOf x == some .cell)=true
   ·have:k=.free:=by
     have:=(Bool.and_eq_true_iff.mp (Bool.and_eq_true_iff.mp hc).1).1
     simpa using this
    rw [this];exact zsw
   ·rw [zsA hc] at h;simp only [List.lookup_cons,hx] at h;rcases h with h | h
    ·exact absurd (zsJ h) (nc (x,k) zsw)
    ·rw [zsJ h];exact zsw
  | false =>
   refine zsh _ (ih ?_);by_cases hc:(k == NameKind.free && env.scope.kind == .function && env.kindOf n == some .cell)=true
   ·rw [zsB hc] at h;simpa only [List.lookup_cons,hx] using h
   ·rw [zsA hc] at h;simpa only [List.lookup_cons,hx] using h
def zrk (X:Cx) (own:List Str) (fr:List Nat):List Str:=own++fr.map fun k=>X.N.getD k Str.empty
def znj (n:Nat) (fr:List Nat) (σ:St):St:=List.replicate n none++fr.map fun k=>(σ[k]?).join
def zaE (X:Cx) (sc:Scope) (own:List Str) (fr:List Nat) (C:Addr) (s₀:Shared) (H₀:Hp) (ex:List Addr):Cx where
 prog:=X.prog
 w:=X.w
 K:=X.K
 mg:=X.mg
 base:=X.base
 A:=X.A
 N:=zrk X own fr
 s₀:=s₀
 H₀:=H₀
 env:=compEnvC sc (zcK sc X.env) C X.env
 outer:=X.stack
 stack:=X.stack
 ex:=ex
 fn:=fun _=>false
 calm:=X.calm
 pn:=[]
 xe:=fun _ _=>False
def zqz (X:Cx) (sc:Scope):List Nat->Prop
 | []=>True
 | k::r=>(sc.names.lookup (X.N.getD k Str.empty)=some .free/\(X.env.scope.names.lookup (X.N.getD k Str.empty)=some .cell\/X.env.scope.names.lookup (X.N.getD k Str.empty)=some .free))/\zqz X sc r
theorem zqz.mem {X:Cx} {sc:Scope}:∀ {fr:List Nat},zqz X sc fr->∀ k∈fr,sc.names.lookup (X.N.getD k Str.empty)=some .free/\(X.env.scope.names.lookup (X.N.getD k Str.empty)=some .cell\/X.env.scope.names.lookup (X.N.getD k Str.empty)=some .free)
 | _::_,h,k,hk=>by
  rcases zsF.mp hk with e | e
  ·subst e;exact h.1
  ·exact zqz.mem h.2 k e
def zeR (X:Cx):List Str->Prop
 | []=>True
 | n::r=>(X.env.scope.names.lookup n=some .cell\/X.env.scope.names.lookup n=some .free)/\zeR X r
theorem zeR.mem {X:Cx}:∀ {l:List Str},zeR X l->∀ n∈l,X.env.scope.names.lookup n=some .cell\/X.env.scope.names.lookup n=some .free
 | _::_,h,n,hn=>by
  rcases zsF.mp hn with e | e
  ·subst e;exact h.1
  ·exact zeR.mem h.2 n e
structure zaU (X:Cx) (sc:Scope) (fr:List Nat):Prop where
 kind:sc.kind=.function
 nocell:∀ y∈sc.names,y.2≠.cell
 names:∀ y∈sc.names,y.2=.local->sc.names.lookup y.1=some .local
 frees:zeR X (zbM sc)
 fr:zqz X sc fr
section
variable {X:Cx} {sc:Scope} {own:List Str} {fr:List Nat} {pins:List (Addr × Obj)} {σ:St} {H:Hp} {s:Shared}
theorem zaU.cells (S:zaU X sc fr) (I:Inv X pins σ H s):∀ n∈zbM sc,∃ c,X.env.cells.lookup n=some c:=fun n hn=>I.ok.has n (S.frees.mem n hn)
theorem zaU.look (S:zaU X sc fr) (I:Inv X pins σ H s) {x:Str} {c:Addr} (h:(zcK sc X.env).lookup x=some c):X.env.cells.lookup x=some c:=by
 obtain⟨a,b⟩:=zf4 h;obtain⟨d,e⟩:=S.cells I x (List.mem_reverse.mp a);rw [e] at b;rw [e,b]
 rfl
theorem zdU {x:Str} (h:(x,NameKind.free)∈sc.names):x∈zbM sc:=zsg.mpr ⟨_,List.mem_filter.mpr ⟨h,rfl⟩,rfl⟩
theorem zaU.back (S:zaU X sc fr) (I:Inv X pins σ H s) {x:Str} (hx:x∈zbM sc):∃ c,(zcK sc X.env).lookup x=some c/\X.env.cells.lookup x=some c:=by
 obtain⟨c,e⟩:=S.cells I x hx;refine⟨c,?_,e⟩;unfold zcK;rw [zfO (List.mem_reverse.mpr hx),e]
 rfl
theorem zmd (S:zaU X sc fr) {fp:List Addr} (I:Inv X pins σ H s) (hf:∀ b∈fp,zkj X pins H b) (ho:∀ b∈fp,∃ o,s.heap.get? b=some o) {h₁:Heap} {t:Nat}
  (hns:h₁.Ns s.heap.objs.size (fun _=>none)) (hk:∀ b o,s.heap.get? b=some o->h₁.get? b=some o) :
  Inv (zaE X sc own fr s.heap.objs.size s H fp) [] (znj own.length fr σ) H { s with heap:=h₁,toks:=t }:=by
 have ltC:∀ b o,s.heap.get? b=some o->b≠s.heap.objs.size:=fun b o e=>zsG (zso e)
 have cellOld:∀ x c,(zcK sc X.env).lookup x=some c->∃ v,s.heap.IsCell c v:=fun x c e=>I.cell x c (S.look I e)
 refine⟨⟨I.ok.mod,S.kind,I.ok.glob,I.ok.blt,zse _,fun x y c h1 h2=>I.ok.inj x y c (S.look I h1) (S.look I h2),fun x hx=>?_,fun x c z=>absurd z (by simp [zaE]),I.ok.hd,I.ok.frames,.inl rfl,fun b hb=>?_,I.bs,zsd I.ok.bsz I.sz,fun b o e hb=>?_,fun b hb=>?_,I.stack,I.stkFree⟩,
  rfl,I.bare,Un.kept hk,⟨_,hns,fun i x v e1 e2 e3=>?_⟩,fun x c e=>?_,I.hok.fresh (zse _),fun x c e=>I.freeC x c (S.look I e),fun p hp=>absurd (show p∈([]:List (Addr × Obj)) from hp) (by simp),I.hok.kept hk,?_⟩
 ·have:=zer (env:=X.env) S.nocell hx
  obtain⟨c,e,_⟩:=S.back I (zdU this);exact⟨c,e⟩
 ·obtain⟨o,e⟩:=ho b hb;obtain⟨_,_,_,_,f4,_⟩:=hf b hb;exact⟨ltC b o e,fun x c e'=>f4 x c (S.look I e')⟩
 ·obtain⟨_,_,_,f3,_⟩:=hf b hb;rcases f3 with z | z
  ·exact I.ok.noex b o e z
  ·exact absurd (zsf (zso e) (zsd I.ok.bsz z)) (Nat.lt_irrefl _)
 ·obtain⟨_,f1,f2,_⟩:=hf b hb;intro z;rcases zsF.mp (I.stkSub b z) with q | q
  ·exact f1 q
  ·exact f2 q
 ·
  have hi:own.length<=i:=by
   rcases Nat.lt_or_ge i own.length with z | z
   ·exfalso
    change (List.replicate own.length none++fr.map fun k=>(σ[k]?).join)[i]?=some (some v) at e2
    rw [zss (by simpa using z),List.getElem?_replicate,zsB z] at e2;cases e2
   ·exact z
  change (List.replicate own.length none++fr.map fun k=>(σ[k]?).join)[i]?=some (some v) at e2
  rw [zst (by simpa using hi),List.length_replicate,zrZ] at e2
  change (own++fr.map fun k=>X.N.getD k Str.empty)[i]?=some x at e1
  rw [zst hi,zrZ] at e1;cases e:fr[i-own.length]? with
  | none=>rw [e] at e1;cases e1
  | some k =>
   rw [e] at e1 e2;have e1:X.N.getD k Str.empty=x:=zsJ e1;have e2:(σ[k]?).join=some v:=zsJ e2;have e2':σ[k]?=some (some v):=by
    cases q:σ[k]? with
    | none=>rw [q] at e2;cases e2
    | some z=>rw [q] at e2;cases z with
     | none=>cases e2
     | some z=>rw [show z=v from zsJ e2]
   have hkl:k<X.N.length:=by
    have:=(zr2.mp e2').1
    rw [I.len] at this;exact this
   have e1':X.N[k]?=some x:=by
    rw [zr0 hkl,← e1];simp [List.getD,hkl]
   obtain⟨q1,q2⟩:=S.fr.mem k (zr3 e);rw [e1] at q1 q2;have hvis:Vis X.env.scope x:=by
    rcases q2 with z | z
    ·exact .inr (.inl z)
    ·exact .inr (.inr z)
   obtain⟨m,hn,hl⟩:=I.loc;obtain⟨u,r,l⟩:=hl k x v e1' e2' hvis;refine⟨u,r,.inr ⟨?_,?_⟩⟩
   ·exact zb4 (env:=X.env) q1
   ·rcases l with ⟨z,_⟩ | ⟨_,c,hc,z⟩
    ·exfalso
     have z:X.env.scope.names.lookup x=some .local:=z;rcases q2 with y | y
     ·rw [z] at y;cases y
     ·rw [z] at y;cases y
    ·obtain⟨c',h1,h2⟩:=S.back I (zdU (PySem.mem_of_lookup q1));rw [hc] at h2;cases h2;obtain⟨o,ho',hd⟩:=z;exact⟨c,h1,o,hk c o ho',hd⟩
 ·obtain⟨v,o,ho',hd⟩:=cellOld x c e;exact⟨v,o,hk c o ho',hd⟩
 ·show (List.replicate own.length none++fr.map fun k=>(σ[k]?).join).length=(own++fr.map fun k=>X.N.getD k Str.empty).length;simp
end
def PTs (X:Cx) (ifs:List Expr) (t:TT):Prop :=
 ∀ (pins:List (Addr × Obj)) (s:Shared) (σ:St) (H:Hp) (Q:Bool->Hp->Prop),Inv X pins σ H s->t σ H Q ->
  wpAny (model X.prog X.w) X.A (forIn ifs true fun c r=>if r=true then do let ok ← isTrue c X.env (eval c X.env);pure (ForInStep.yield ok) else pure (ForInStep.yield r)) (TP X pins σ Q) X.xe s
def tYes:TT:=fun _ H Q=>Q true H
theorem zbP {X:Cx}:PTs X [] tYes:=fun pins s σ H Q I h=>wpAny_tests_nil ⟨H,I,h⟩
theorem zeM {X:Cx} {c:Expr} {t:TT} (hc:PT X c t):PTs X [c] t:=fun pins s σ H Q I h=>wpAny_tests_one (hc pins s σ H Q I h)
abbrev TM:=Addr->St->Hp->(Hp->Prop)->Prop
def PM (X:Cx) (emit:Env->Addr->Sem Unit) (t:TM):Prop :=
 ∀ (pins:List (Addr × Obj)) (s:Shared) (σ:St) (H:Hp) (D:Addr) (Q:Hp->Prop),Inv X pins σ H s->t D σ H Q ->
  wpAny (model X.prog X.w) X.A (emit X.env D) (fun _ s'=>∃ H',Inv X pins σ H' s'/\Q H') X.xe s
def zf0 (acc:HO) (wi:TI) (n:Nat) (fr:List Nat) (g:TG) (tc:TT) (tm:TM):St->Hp->(Addr->Hp->Prop)->Prop:=fun σ H Q =>
 wi σ H fun J H1=>∀ p,H1 p=none->∃ W:Nat->Nat->St->Hp->Prop,(∃ m,W 0 m (znj n fr σ) (upd H1 p acc)) /\
  ∀ i m σ' H',W i m σ' H'->(J.stop i H'/\Q p H')\/(J.go i H'/\∃ N:St->Hp->Prop,(∀ σ2 H2,N σ2 H2->∃ m',m'<m/\W (i+1) m' σ2 H2)/\∀ x H2,J.yld i H' x H2->g x σ' H2 fun σ3 H3=>tc σ3 H3 fun b H4 =>
   if b=true then tm p σ3 H4 (N σ3) else N σ3 H4)
structure zcp (e:Expr) (tg iter:Expr) (ifs:List Expr) (emit:Env->Addr->Sem Unit):Prop where
 cl:∃ gs,clausesOf e=⟨tg,iter,ifs,0⟩::gs
 under:∀ (A:Around) it acc env,A.under (.compLoop e 0 it acc env)=A
 den:∀ (prog:Program) (w:World) it acc env,(model prog w).den (.compLoop e 0 it acc env)=((compTurn e 0 it acc env).onRaise (fun x=>do noteFrame x env;theTreesLotGoes x))
 turn:∀ it D env,compTurn e 0 it (.ref D) env=(do
   standAt iter.pos
   match ← pyNext it with
   | none=>pure (.done .next)
   | some v =>
    letOwnedTupleGo tg it v
    assign tg env v
    let mut ok:=true
    for c in ifs do
     if ok then ok ← isTrue c env (eval c env)
    if ok then
     emit env D
    again (.compLoop e 0 it (.ref D) env))
 start:∀ (prog:Program) (w:World) (A:Around) (R:Result->Shared->Prop) (s:Shared) it acc env,codeAny (model prog w) A (.compLoop e 0 it acc env) R s ->
  wpAny (model prog w) A (pyIter it) (fun it' s'=>codeAny (model prog w) A (.compLoop e 0 it' acc env) R s') (notedBy (model prog w) A env fun x s'=>R (.error x) s') s ->
  codeAny (model prog w) A (.compStart e 0 it acc env) R s
section
variable {X:Cx} {sc:Scope} {own:List Str} {fr:List Nat} {e tg iter:Expr} {ifs:List Expr} {emit:Env->Addr->Sem Unit} {wi:TI} {g:TG} {tc:TT} {tm:TM} {acc:HO}
theorem zlu (F:zcp e tg iter ifs emit) (hc:X.calm=true) {C:Addr} {s₀:Shared} {H₀:Hp} {fp:List Addr} {it D:Addr} {tn:Nat->Heap->Prop} {J:It} {R:Result->Shared->Prop} {s:Shared}
  (hg:PG (zaE X sc own fr C s₀ H₀ fp) tg g) (ht:PTs (zaE X sc own fr C s₀ H₀ fp) ifs tc) (hm:PM (zaE X sc own fr C s₀ H₀ fp) emit tm)
  (T:znf X.prog X.w X.K tg J fp it tn) (hfp:∀ b∈fp,b≠C/\b ∉ frs X.stack/\∀ x c,(zcK sc X.env).lookup x=some c->c≠b)
  (W:Nat->Nat->St->Hp->Prop) {Q:Hp->Prop} (turn:∀ i m σ' H',W i m σ' H'->(J.stop i H'/\Q H')\/(J.go i H'/\∃ N:St->Hp->Prop,(∀ σ2 H2,N σ2 H2->∃ m',m'<m/\W (i+1) m' σ2 H2)/\∀ x H2,J.yld i H' x H2->g x σ' H2 fun σ3 H3=>tc σ3 H3 fun b H4 =>
   if b=true then tm D σ3 H4 (N σ3) else N σ3 H4))
  (hR:∀ σ' H' s',Inv (zaE X sc own fr C s₀ H₀ fp) [] σ' H' s'->Q H'->R (.ok .next) s')
  {m0:Nat} {σ0:St} {H0:Hp} (I0:Inv (zaE X sc own fr C s₀ H₀ fp) [] σ0 H0 s) (st0:tn 0 s.heap) (fr0:∀ b∈fp,H0 b=none) (w0:W 0 m0 σ0 H0) :
  codeAny (model X.prog X.w) X.A (.compLoop e 0 (.ref it) (.ref D) (compEnvC sc (zcK sc X.env) C X.env)) R s:=by
 have stat:∀ {H':Hp},(∀ b∈fp,H' b=none)->∀ b∈fp,zkj (zaE X sc own fr C s₀ H₀ fp) [] H' b:=fun hn b hb =>
  ⟨hn b hb,(hfp b hb).1,(hfp b hb).2.1,.inl hb,(hfp b hb).2.2,fun p hp=>absurd (show p∈([]:List (Addr × Obj)) from hp) (by simp)⟩
 refine codeAny_loop rfl (fun n s'=>∃ i σ' H',Inv (zaE X sc own fr C s₀ H₀ fp) [] σ' H' s'/\tn i s'.heap/\(∀ b∈fp,H' b=none)/\W i n σ' H') (fun n s hI=>?_) m0 ⟨0,σ0,H0,I0,st0,fr0,w0⟩;rw [F.under,F.den];refine wpAny_noted ?_;rw [F.turn];obtain⟨i,σ3,H3,I3,st3,fr3,w3⟩:=hI;have lift:∀ {α:Type} {t:Sem α} {Q':α->Shared->Prop} {E:Value->Shared->Prop} {s:Shared},wpAny (model X.prog X.w) X.A t Q' (fun _ _=>False) s->wpAny (model X.prog X.w) X.A t Q' E s:=fun h=>wpAny_mono h (fun _ _ q=>q) fun _ _ z=>z.elim
 refine wpAny_bind (wpAny_standAt (wpAny_bind ?_));rcases turn i n σ3 H3 w3 with ⟨stop,qn⟩ | ⟨go,N,hN,step⟩
 ·refine lift (thn (T.done (zaE X sc own fr C s₀ H₀ fp) rfl rfl rfl hc i [] s σ3 H3 (fun _ _=>False) I3 (stat fr3) st3 stop) fun r s4 ⟨hr,I4⟩=>?_);subst hr;exact wpAny_pure (hR σ3 H3 s4 I4 qn)
 ·refine lift (thn (T.item (zaE X sc own fr C s₀ H₀ fp) rfl rfl rfl hc i [] s σ3 H3 (fun _ _=>False) I3 (stat fr3) st3 go) fun r s4 ⟨u,hr,h4⟩=>?_);subst hr;refine wpAny_bind (lift (thn h4 fun _ s5 ⟨x,H5,I5,r5,y5,st5,fr5⟩=>?_));have I5':=I5.pinned (stat fr5) (T.obj _ _ st5);refine wpAny_bind (lift (thn (hg _ s5 σ3 H5 x u _ I5' r5 (step x H5 y5)) fun _ s6 ⟨σ6,H6,I6,q6⟩=>?_));refine wpAny_bind (lift (thn (ht _ s6 σ6 H6 _ I6 q6) fun ok s7 ⟨H7,I7,q7⟩=>?_));have again:∀ {σ8:St} {H8:Hp} {s8:Shared},Inv (zaE X sc own fr C s₀ H₀ fp) ([]++zfR fp s5.heap) σ8 H8 s8->(∃ m',m'<n/\W (i+1) m' σ8 H8)->∃ m,m<n/\∃ i σ' H',Inv (zaE X sc own fr C s₀ H₀ fp) [] σ' H' s8/\tn i s8.heap/\(∀ b∈fp,H' b=none)/\W i m σ' H':=fun {σ8 H8 s8} I8 ⟨m',hm',w8⟩=>by
   refine⟨m',hm',i+1,σ8,H8,I8.unpinned,T.keep _ _ _ st5 fun b hb o e=>(I8.pin (b,o) (zsv _ (zsv _ (zbX hb e)))).1,fun b hb=>?_,w8⟩;obtain⟨o,e,d⟩:=T.obj _ _ st5 b hb;exact (I8.pin (b,o) (zsv _ (zsv _ (zbX hb e)))).2.1
  cases ok with
  | false=>exact wpAny_pure ⟨rfl,again I7 (hN _ _ q7)⟩
  | true =>
   refine wpAny_bind (lift (thn (hm _ s7 σ6 H7 D _ I7 q7) fun _ s8 ⟨H8,I8,q8⟩=>?_));exact wpAny_pure ⟨rfl,again I8 (hN _ _ q8)⟩
end
def zqw (X:Cx) (newAcc:Sem Value) (acc:HO):Prop :=
 ∀ (pins:List (Addr × Obj)) (s:Shared) (σ:St) (H:Hp) (E:Value->Shared->Prop) (Q:Value->Shared->Prop),Inv X pins σ H s ->
  (∀ p s',H p=none->p=s.heap.objs.size->(∀ b o,s.heap.get? b=some o->s'.heap.get? b=some o)->s'.os=s.os->Inv X pins σ (upd H p acc) s'->Q (.ref p) s')->wpAny (model X.prog X.w) X.A newAcc Q E s
theorem ze0 {X:Cx}:zqw X (newList []) (.lst []):=by
 intro pins s σ H E Q I h;refine wpAny_newObj_type ?_;exact h _ _ (I.hok.fresh (zse _)) rfl (fun b o e=>zsb _ e) rfl (I.lnew (its:=[]) (t':=s.toks) .nil (Nat.zero_le _))
theorem zkE {X:Cx}:zqw X newDict (.dK []):=by
 intro pins s σ H E Q I h;refine wpAny_newObj_type ?_;exact h _ _ (I.hok.fresh (zse _)) rfl (fun b o e=>zsb _ e) rfl (I.laid (a:=s.heap.objs.size) (o:=.dK []) (t':=s.toks) (fun _ _ q=>zsb _ q) (zse _) (zjr s.heap I.big))
section
variable {X:Cx} {sc:Scope} {own:List Str} {fr:List Nat} {e tg iter:Expr} {ifs:List Expr} {emit:Env->Addr->Sem Unit} {wi:TI} {g:TG} {tc:TT} {tm:TM} {acc:HO} {newAcc:Sem Value} {pos:Pos}
theorem zjg (F:zcp e tg iter ifs emit) (hc:X.calm=true) (S:zaU X sc fr) (hi:PI X tg iter wi) (hnew:zqw X newAcc acc)
  (hg:∀ C s₀ H₀ fp,PG (zaE X sc own fr C s₀ H₀ fp) tg g) (ht:∀ C s₀ H₀ fp,PTs (zaE X sc own fr C s₀ H₀ fp) ifs tc) (hm:∀ C s₀ H₀ fp,PM (zaE X sc own fr C s₀ H₀ fp) emit tm)
  (hs:∀ x,foldedSetIterable iter X.env x=pure x) {use:Option (Value->Sem Unit)} {pins:List (Addr × Obj)} {s:Shared} {σ:St} {H:Hp} {Q:Addr->Hp->Prop} {Q':Value->Shared->Prop} (I:Inv X pins σ H s)
  (h:zf0 acc wi own.length fr g tc tm σ H Q)
  (hq:∀ (p C:Addr) (H':Hp) (s':Shared) (m:Str->Option Value),Inv X pins σ H' s'->Q p H'->s'.heap.Ns C m->H' C=none->C≠X.env.locals->X.s₀.heap.objs.size<=C->(∀ x c,X.env.cells.lookup x=some c->c≠C)->(∀ q∈X.pn++pins,q.1≠C) ->
   compPost (model X.prog X.w) X.A X.xe use Q' (.ref p) C (.ok .next) s') :
  wpAny (model X.prog X.w) X.A (comprehension e sc X.env pos newAcc false (eval iter X.env) use) Q' X.xe s:=by
 obtain⟨gs,hcl⟩:=F.cl;refine wpAny_comprehension_free hcl hs (zgt (S.cells I)) S.kind S.names (thn (hi pins s σ H _ I h) fun v s1 h1=>thn h1 fun itv s2 h2=>?_);obtain⟨it,fp,tn,J,H2,e2,I2,T,st2,f2,q2⟩:=h2;subst e2;refine hnew pins s2 σ H2 _ _ I2 fun p s3 np hp k3 os3 I3=>?_
 obtain⟨W,⟨m0,w0⟩,turn⟩:=q2 p np;refine wpAny_newFunctionEnv S.nocell (by intro x hx;simp at hx) (fun h₁ hns hsb=>?_) S.kind;have hk:∀ b o,s3.heap.get? b=some o->h₁.get? b=some o:=fun b o eb=>hsb.extBut b o (zsG (zso eb)) (zsb _ eb)
 have ob2:∀ b∈fp,∃ o,s2.heap.get? b=some o:=fun b hb=>let ⟨o,eo,_⟩:=T.obj _ _ st2 b hb;⟨o,eo⟩
 have fpn:∀ b∈fp,b≠p:=fun b hb z=>by
  obtain⟨o,eo⟩:=ob2 b hb;rw [z,hp] at eo;exact absurd (zso eo) (Nat.lt_irrefl _)
 have f3:∀ b∈fp,zkj X pins (upd H2 p acc) b:=fun b hb=>by
  obtain⟨a1,a2⟩:=f2 b hb;exact⟨by rw [zao (fpn b hb)];exact a1,a2⟩
 have ob3:∀ b∈fp,∃ o,s3.heap.get? b=some o:=fun b hb=>let ⟨o,eo⟩:=ob2 b hb;⟨o,k3 b o eo⟩
 have I4:=zmd (own:=own) (t:=s3.toks+([]:List (Str × Value)).length) S I3 f3 ob3 (h₁:=h₁) hns hk;have st4:tn 0 h₁:=T.keep _ _ _ st2 fun b hb o eo=>hk b o (k3 b o eo)
 have hfp:∀ b∈fp,b≠s3.heap.objs.size/\b ∉ frs X.stack/\∀ x c,(zcK sc X.env).lookup x=some c->c≠b:=fun b hb=>by
  obtain⟨_,f1,f2',_,f4,_⟩:=f3 b hb;obtain⟨o,eo⟩:=ob3 b hb;refine⟨zsG (zso eo),fun z=>?_,fun x c ec=>f4 x c (S.look I3 ec)⟩;rcases zsF.mp (I3.stkSub b z) with q | q
  ·exact f1 q
  ·exact f2' q
 have loop:codeAny (model X.prog X.w) X.A (.compLoop e 0 (.ref it) (.ref p) (compEnvC sc (zcK sc X.env) s3.heap.objs.size X.env)) (compPost (model X.prog X.w) X.A X.xe use Q' (.ref p) s3.heap.objs.size) { s3 with heap:=h₁,toks:=s3.toks+([]:List (Str × Value)).length }:=by
  refine zlu (s₀:=s3) (H₀:=upd H2 p acc) (own:=own) (fr:=fr) (Q:=fun H'=>Q p H') F hc (hg _ _ _ _) (ht _ _ _ _) (hm _ _ _ _) T hfp W turn (fun σ' H' s' J' qq=>?_) I4 st4 (fun b hb=>(f3 b hb).1) w0;obtain⟨m,hn,_⟩:=J'.loc;have un:Un (frs X.stack) fp H2 H' s2.heap s'.heap:=(Un.laid (o:=acc) k3 (by rw [hp];exact zse _) np).trans J'.base;have IX:Inv X pins σ H' s':=I2.call' (ch:=fp) (J'.os.trans os3) un J'.hok J'.bare fun b hb=>by
   obtain⟨_,f1,_,f3',f4,f5⟩:=f2 b hb;exact⟨f3',f1,f4,f5⟩
  refine hq p s3.heap.objs.size H' s' m IX qq hn J'.free (Ne.symm (zsG I3.lt)) I3.sz (fun x c ec=>?_) fun q hq'=>?_
  ·obtain⟨v,o,eo,_⟩:=I3.cell x c ec;exact zsG (zso eo)
  ·exact zsG (zso (I3.pin q hq').1)
 exact F.start _ _ _ _ _ _ _ _ loop (T.self _ _ _ _ _ st4 loop)
theorem zea (F:zcp e tg iter ifs emit) (hc:X.calm=true) (S:zaU X sc fr) (hi:PI X tg iter wi) (hnew:zqw X newAcc acc)
  (hg:∀ C s₀ H₀ fp,PG (zaE X sc own fr C s₀ H₀ fp) tg g) (ht:∀ C s₀ H₀ fp,PTs (zaE X sc own fr C s₀ H₀ fp) ifs tc) (hm:∀ C s₀ H₀ fp,PM (zaE X sc own fr C s₀ H₀ fp) emit tm)
  (hs:∀ x,foldedSetIterable iter X.env x=pure x) {pins:List (Addr × Obj)} {s:Shared} {σ:St} {H:Hp} {Q:VK} (I:Inv X pins σ H s)
  (h:zf0 acc wi own.length fr g tc tm σ H fun p H'=>Q (.ref p) H') :
  wpAny (model X.prog X.w) X.A (comprehension e sc X.env pos newAcc false (eval iter X.env) none) (EP X pins σ Q) X.xe s:=by
 refine zjg F hc S hi hnew hg ht hm hs I h fun p C H' s' m I' q hn h1 h2 h3 h4 h5=>⟨m,hn,fun h' hb=>?_⟩
 exact⟨.ref p,H',I'.turned (t':=s'.toks) (fun b o hne eo=>hb.extBut b o hne eo) h1 h2 (.inr h3) h4 h5,rfl,q⟩
theorem zjR (F:zcp e tg iter ifs emit) (hc:X.calm=true) (S:zaU X sc fr) (hi:PI X tg iter wi) (hnew:zqw X newAcc acc)
  (hg:∀ C s₀ H₀ fp,PG (zaE X sc own fr C s₀ H₀ fp) tg g) (ht:∀ C s₀ H₀ fp,PTs (zaE X sc own fr C s₀ H₀ fp) ifs tc) (hm:∀ C s₀ H₀ fp,PM (zaE X sc own fr C s₀ H₀ fp) emit tm)
  (hs:∀ x,foldedSetIterable iter X.env x=pure x) {pins:List (Addr × Obj)} {s:Shared} {σ:St} {H:Hp} {D:zlo} {j:Nat} {y:Str} {py:Pos} (hN:X.N.Nodup) (hj:X.N[j]?=some y) (hy:Loc X.env.scope y)
  (hf:X.fn y=true\/X.env.scope.names.lookup y=some .local) (I:Inv X pins σ H s)
  (h:zf0 acc wi own.length fr g tc tm σ H fun p H'=>D.nx (σ.set j (some (.ref p))) H') :
  wpAny (model X.prog X.w) X.A (comprehension e sc X.env pos newAcc false (eval iter X.env) (some (assign (.Name y py) X.env))) (fun _ s'=>SP X pins D .next s') X.xe s:=by
 refine zjg F hc S hi hnew hg ht hm hs I h fun p C H' s' m I' q hn h1 h2 h3 h4 h5=>?_
 show wpAny _ _ (assign (.Name y py) X.env (.ref p)) _ _ s';refine wpAny_assign_Name (zhi I' hN hj hy (show zaY (V.ref p) (Value.ref p) from rfl) (fun s2 I2 ⟨a,sb,ha⟩=>?_) hf);have hCa:C≠a:=by
  rcases ha with z | z
  ·rw [z];exact h2
  ·exact fun w=>h4 y a z w.symm
 refine⟨m,hn.sameBut sb hCa,fun h' hb=>?_⟩;exact⟨_,H',I2.turned (t':=s2.toks) (fun b o hne eo=>hb.extBut b o hne eo) h1 h2 (.inr h3) h4 h5,q⟩
end
def zmx (elt:Expr):Env->Addr->Sem Unit:=fun env D=>do let _ ← call (.builtin "list.append") [.ref D,← eval elt env]
theorem zhB {elt tg iter:Expr} {ifs:List Expr} {sc:Scope} {pos:Pos}:zcp (.ListComp elt [⟨tg,iter,ifs,0⟩] sc pos) tg iter ifs (zmx elt) :=
 ⟨⟨_,rfl⟩,fun _ _ _ _=>rfl,fun _ _ _ _ _=>rfl,fun _ _ _=>rfl,fun _ _ _ _ _ _ _ _ h0 h=>codeAny_compStart_list h0 h⟩
def zqY (te:TE):TM:=fun p σ H Q=>te σ H fun y H1=>∃ ys,H1 p=some (.lst ys)/\ys.length<sizeLine/\Q (upd H1 p (.lst (ys++[y])))
theorem zib {X:Cx} {elt:Expr} {te:TE} (h:PE X elt te):PM X (zmx elt) (zqY te):=by
 intro pins s σ H D Q I hw;unfold zmx;refine wpAny_bind (thn (h pins s σ H _ I hw) fun u s1 ⟨y,H1,I1,r1,ys,e1,l1,q1⟩=>wpAny_bind ?_);obtain⟨z,its,n,r,hl,e⟩:=I1.lstM e1;refine call_meets F.slot_list_append ⟨_,e,rfl⟩ F.entry_list_append (F.args_list_append_2 _ _) (PySem.list_append D its.toArray n u (by rw [zsy];omega)) ⟨e,?_⟩;refine wpAny_pure ⟨_,I1.lset (its':=its++[u]) e1 e (by simp) (r.append (.cons r1 .nil)) ?_,q1⟩;rw [zr8,List.length_singleton];omega
def tLC (wi:TI) (n:Nat) (fr:List Nat) (g:TG) (tc:TT) (te:TE):TE:=fun σ H Q=>zf0 (.lst []) wi n fr g tc (zqY te) σ H fun p H'=>Q (.ref p) H'
section
variable {X:Cx} {sc:Scope} {own:List Str} {fr:List Nat} {elt tg iter:Expr} {ifs:List Expr} {wi:TI} {g:TG} {tc:TT} {te:TE} {pos:Pos}
theorem zgd (hc:X.calm=true) (S:zaU X sc fr) (hi:PI X tg iter wi)
  (hg:∀ C s₀ H₀ fp,PG (zaE X sc own fr C s₀ H₀ fp) tg g) (ht:∀ C s₀ H₀ fp,PTs (zaE X sc own fr C s₀ H₀ fp) ifs tc) (he:∀ C s₀ H₀ fp,PE (zaE X sc own fr C s₀ H₀ fp) elt te)
  (hs:∀ x,foldedSetIterable iter X.env x=pure x:=by intro _;rfl):PE X (.ListComp elt [⟨tg,iter,ifs,0⟩] sc pos) (tLC wi own.length fr g tc te):=by
 intro pins s σ H Q I h;rw [eval_ListComp];exact zea zhB hc S hi ze0 hg ht (fun _ _ _ _=>zib (he _ _ _ _)) hs I h
theorem zkv {j:Nat} {y:Str} {py spos:Pos} (hc:X.calm=true) (hN:X.N.Nodup) (hj:X.N[j]?=some y) (hy:Loc X.env.scope y) (S:zaU X sc fr) (hi:PI X tg iter wi)
  (hg:∀ C s₀ H₀ fp,PG (zaE X sc own fr C s₀ H₀ fp) tg g) (ht:∀ C s₀ H₀ fp,PTs (zaE X sc own fr C s₀ H₀ fp) ifs tc) (he:∀ C s₀ H₀ fp,PE (zaE X sc own fr C s₀ H₀ fp) elt te)
  (hsw:swapsWith (.ListComp elt [⟨tg,iter,ifs,0⟩] sc pos) (some (.Name y py)) spos.line X.env=pure true:=by rfl)
  (hf:X.fn y=true\/X.env.scope.names.lookup y=some .local:=by first | exact .inl rfl | exact .inr rfl | assumption)
  (hs:∀ x,foldedSetIterable iter X.env x=pure x:=by intro _;rfl):PS X (.Assign [.Name y py] (.ListComp elt [⟨tg,iter,ifs,0⟩] sc pos) spos) (zru (tLC wi own.length fr g tc te) (zn1 j)):=by
 intro pins s σ H D I h;rw [exec_Assign_Name_used _ _ _ _ hsw];refine wpAny_bind (wpAny_standAt (wpAny_bind ?_));show wpAny _ _ (do let _ ← comprehension (.ListComp elt [⟨tg,iter,ifs,0⟩] sc pos) sc X.env _ (newList []) false (eval iter X.env) (some (assign (.Name y py) X.env))) _ _ s;refine wpAny_bind (thn (zjR zhB hc S hi ze0 hg ht (fun _ _ _ _=>zib (he _ _ _ _)) hs hN hj hy hf I h) fun _ s' q=>wpAny_pure (wpAny_pure q))
end
def zoN (kx vx:Expr):Env->Addr->Sem Unit:=fun env D=>do
 let kv ← eval kx env
 let vv ← holding [kv] (eval vx env)
 standAt { kx.pos with endLine:=vx.pos.endLine,endCol:=vx.pos.endCol }
 holding [kv,vv] (dictSet D kv vv)
theorem zk6 {kx vx tg iter:Expr} {ifs:List Expr} {sc:Scope} {pos:Pos}:zcp (.DictComp kx vx [⟨tg,iter,ifs,0⟩] sc pos) tg iter ifs (zoN kx vx) :=
 ⟨⟨_,rfl⟩,fun _ _ _ _=>rfl,fun _ _ _ _ _=>rfl,fun _ _ _=>rfl,fun _ _ _ _ _ _ _ _ h0 h=>codeAny_compStart_dict h0 h⟩
def mPut (tk tv:TE):TM:=fun p σ H Q=>tk σ H fun k H1=>tv σ H1 fun v H2=>∃ kvs key,H2 p=some (.dK kvs)/\k=kV key/\kvs.length<sizeLine/\Q (upd H2 p (.dK (zic kvs key v)))
theorem zon {X:Cx} {kx vx:Expr} {tk tv:TE} (hk:PE X kx tk) (hv:PE X vx tv):PM X (zoN kx vx) (mPut tk tv):=by
 intro pins s σ H D Q I hw;unfold zoN;refine wpAny_bind (thn (hk pins s σ H _ I hw) fun u s1 ⟨k,H1,I1,r1,q1⟩=>wpAny_bind (wpAny_holding (thn (hv pins s1 σ H1 _ I1 q1) fun w s2 ⟨v,H2,I2,r2,kvs,key,e,ey,l,q2⟩=>?_)));refine wpAny_bind (wpAny_standAt (wpAny_holding ?_));subst ey;obtain⟨z,hd,vs,rel,dd⟩:=ziv I2.hok e;have hz:vs.length<=sizeLine:=by rw [← rel.length];exact z
 have hl:(zic kvs key v).length<=sizeLine:=by have:=zdt kvs key v;omega
 refine wpAny_dictSet_pairs (hsz:=hz) (zif r1) dd fun h' dd' hs=>⟨_,?_,q2⟩
 have he:∃ q,h'.get? D=some q:=let ⟨q,_,_,hq,_⟩:=dd';⟨q,hq⟩;exact zef I2 (by rw [e];exact True.intro) hs he (ziL hl hd (rel.put key r2) dd')
def tDC (wi:TI) (n:Nat) (fr:List Nat) (g:TG) (tc:TT) (tk tv:TE):TE:=fun σ H Q=>zf0 (.dK []) wi n fr g tc (mPut tk tv) σ H fun p H'=>Q (.ref p) H'
section
variable {X:Cx} {sc:Scope} {own:List Str} {fr:List Nat} {kx vx tg iter:Expr} {ifs:List Expr} {wi:TI} {g:TG} {tc:TT} {tk tv:TE} {pos:Pos}
theorem zqP (hc:X.calm=true) (S:zaU X sc fr) (hi:PI X tg iter wi)
  (hg:∀ C s₀ H₀ fp,PG (zaE X sc own fr C s₀ H₀ fp) tg g) (ht:∀ C s₀ H₀ fp,PTs (zaE X sc own fr C s₀ H₀ fp) ifs tc) (hk:∀ C s₀ H₀ fp,PE (zaE X sc own fr C s₀ H₀ fp) kx tk) (hv:∀ C s₀ H₀ fp,PE (zaE X sc own fr C s₀ H₀ fp) vx tv)
  (hs:∀ x,foldedSetIterable iter X.env x=pure x:=by intro _;rfl):PE X (.DictComp kx vx [⟨tg,iter,ifs,0⟩] sc pos) (tDC wi own.length fr g tc tk tv):=by
 intro pins s σ H Q I h;show wpAny _ _ (comprehension (.DictComp kx vx [⟨tg,iter,ifs,0⟩] sc pos) sc X.env _ newDict false (eval iter X.env)) _ _ s;exact zea zk6 hc S hi zkE hg ht (fun _ _ _ _=>zon (hk _ _ _ _) (hv _ _ _ _)) hs I h
end
theorem za3 {K:PySem.W.Frag} {a:Addr} {xs:List V} {g:TG} {tc:TT} {tm:TM} {σ:St} {H:Hp} {p:Addr} {Q:Hp->Prop} (Pv:Nat->St->Hp->Prop) (h0:Pv 0 σ H)
  (hl:∀ i σ H,i<=xs.length->Pv i σ H->SqL K H a xs)
  (hs:∀ i x σ H,xs[i]?=some x->Pv i σ H->g x σ H fun σ3 H3=>tc σ3 H3 fun b H4=>if b=true then tm p σ3 H4 (Pv (i+1) σ3) else Pv (i+1) σ3 H4) (hd:∀ σ H,Pv xs.length σ H->Q H) :
  ∃ W:Nat->Nat->St->Hp->Prop,(∃ m,W 0 m σ H) /\
  ∀ i m σ' H',W i m σ' H'->((Itl K a).stop i H'/\Q H')\/((Itl K a).go i H'/\∃ N:St->Hp->Prop,(∀ σ2 H2,N σ2 H2->∃ m',m'<m/\W (i+1) m' σ2 H2)/\∀ x H2,(Itl K a).yld i H' x H2->g x σ' H2 fun σ3 H3=>tc σ3 H3 fun b H4 =>
   if b=true then tm p σ3 H4 (N σ3) else N σ3 H4):=by
 refine⟨fun i m σ H=>m=xs.length-i/\i<=xs.length/\Pv i σ H,⟨xs.length,by simp,Nat.zero_le _,h0⟩,?_⟩;rintro i m σ H ⟨rfl,hi,pv⟩;have q:=hl i σ H hi pv;by_cases hlt:i<xs.length
 ·refine .inr ⟨⟨xs,xs[i],q,by simp [hlt]⟩,Pv (i+1),fun σ' H' p'=>⟨xs.length-(i+1),by omega,rfl,hlt,p'⟩,fun x H' y=>?_⟩;obtain⟨e,y⟩:=y;subst e;exact hs i x σ _ (y xs q) pv
 ·have e:i=xs.length:=by omega
  subst e;exact .inl ⟨⟨xs,q,zse _⟩,hd σ H pv⟩
end L2
end
section
namespace L2
open PySem PySem.Spec PyProof.Rows
inductive DD where
 | non | bl (b:Bool) | int (i:Int) | str (x:Str) | lst (ds:List DD) | tup (ds:List DD)
mutual
def dep:DD->Nat
 | .lst ds=>depL ds+1
 | .tup ds=>depL ds+1
 | _=>0
def depL:List DD->Nat
 | []=>0
 | d::ds=>max (dep d) (depL ds)
end
mutual
def eqD:DD->DD->Bool
 | .non,.non=>true
 | .bl a,.bl b=>a == b
 | .bl a,.int b=>(if a then 1 else 0) == b
 | .int a,.bl b=>a == (if b then 1 else 0)
 | .int a,.int b=>a == b
 | .str a,.str b=>a == b
 | .lst as,.lst bs=>zhK as bs
 | .tup as,.tup bs=>zhK as bs
 | _,_=>false
def zhK:List DD->List DD->Bool
 | [],[]=>true
 | a::as,b::bs=>eqD a b && zhK as bs
 | _,_=>false
end
mutual
def Den (H:Hp) (v:V):DD->Prop
 | .non=>v=.non
 | .bl b=>v=.bl b
 | .int i=>v=.int i
 | .str x=>v=.str x
 | .lst ds=>∃ a xs,v=.ref a/\H a=some (.lst xs)/\zcy H xs ds
 | .tup ds=>∃ a xs,v=.ref a/\H a=some (.tup xs)/\zcy H xs ds
def zcy (H:Hp) (xs:List V):List DD->Prop
 | []=>xs=[]
 | d::ds=>∃ x r,xs=x::r/\Den H x d/\zcy H r ds
end
theorem zgH:∀ {ds:List DD} {d:DD},d∈ds->dep d<=depL ds
 | d::ds,e,h=>by
  rw [depL];rcases zsF.mp h with rfl | h
  ·omega
  ·have:=zgH h
   omega
theorem zcy.length:∀ {H:Hp} {xs:List V} {ds:List DD},zcy H xs ds->xs.length=ds.length
 | _,_,[],h=>by rw [zcy] at h;subst h;rfl
 | _,_,d::ds,h=>by
  rw [zcy] at h;obtain⟨x,r,rfl,_,h⟩:=h;simp [zcy.length h]
theorem zcy.get {H:Hp}:∀ {xs:List V} {ds:List DD} {i:Nat} {d:DD},zcy H xs ds->ds[i]?=some d->∃ x,xs[i]?=some x/\Den H x d
 | _,[],_,_,_,e=>by simp at e
 | _,d::ds,i,c,h,e=>by
  rw [zcy] at h;obtain⟨x,r,rfl,h1,h⟩:=h;cases i with
  | zero=>simp at e;subst e;exact⟨x,rfl,h1⟩
  | succ i =>
   obtain⟨y,e1,e2⟩:=zcy.get (i:=i) h (by simpa using e);exact⟨y,by simpa using e1,e2⟩
theorem zcy.get' {H:Hp} {xs:List V} {ds:List DD} {i:Nat} {x:V} (h:zcy H xs ds) (e:xs[i]?=some x):∃ d,ds[i]?=some d/\Den H x d:=by
 have hi:i<ds.length:=by rw [← h.length];exact (zr2.mp e).1
 obtain⟨y,e1,e2⟩:=h.get (zr0 hi);rw [e] at e1;cases e1;exact⟨_,zr0 hi,e2⟩
def Sub (G H:Hp):Prop:=∀ a o,G a=some o->H a=some o
theorem Sub.refl {H:Hp}:Sub H H:=fun _ _ h=>h
theorem Sub.trans {A B C:Hp} (h:Sub A B) (h':Sub B C):Sub A C:=fun a o e=>h' a o (h a o e)
theorem Sub.upd {G H:Hp} {p:Addr} {o:HO} (h:Sub G H) (n:G p=none):Sub G (upd H p o):=fun a u e=>by
 rw [zao (zan e n)];exact h a u e
theorem Sub.new {H:Hp} {p:Addr} {o:HO} (n:H p=none):Sub H (L2.upd H p o):=Sub.upd Sub.refl n
theorem Sub.free {G H:Hp} {p:Addr} (h:Sub G H) (n:H p=none):G p=none:=by
 cases e:G p with
 | none=>rfl
 | some o=>rw [h p o e] at n;cases n
mutual
theorem Den.inj {H:Hp}:∀ {v:V} (d e:DD),Den H v d->Den H v e->d=e
 | v,.non,e,h,h'=>by
  rw [Den] at h;subst h;cases e <;> rw [Den] at h' <;> first | rfl | (cases h';done) | (obtain⟨_,_,z,_⟩:=h';cases z)
 | v,.bl b,e,h,h'=>by
  rw [Den] at h;subst h;cases e <;> rw [Den] at h' <;> first | (cases h';rfl) | (cases h';done) | (obtain⟨_,_,z,_⟩:=h';cases z)
 | v,.int b,e,h,h'=>by
  rw [Den] at h;subst h;cases e <;> rw [Den] at h' <;> first | (cases h';rfl) | (cases h';done) | (obtain⟨_,_,z,_⟩:=h';cases z)
 | v,.str b,e,h,h'=>by
  rw [Den] at h;subst h;cases e <;> rw [Den] at h' <;> first | (cases h';rfl) | (cases h';done) | (obtain⟨_,_,z,_⟩:=h';cases z)
 | v,.lst ds,e,h,h'=>by
  rw [Den] at h;obtain⟨a,xs,rfl,h1,h2⟩:=h;cases e <;> rw [Den] at h' <;> first | (cases h';done) | (obtain⟨b,ys,z,h3,h4⟩:=h';cases z;rw [h1] at h3;cases h3;done) | (obtain⟨b,ys,z,h3,h4⟩:=h';cases z;rw [h1] at h3;cases h3;rw [zcy.inj ds _ h2 h4])
 | v,.tup ds,e,h,h'=>by
  rw [Den] at h;obtain⟨a,xs,rfl,h1,h2⟩:=h;cases e <;> rw [Den] at h' <;> first | (cases h';done) | (obtain⟨b,ys,z,h3,h4⟩:=h';cases z;rw [h1] at h3;cases h3;done) | (obtain⟨b,ys,z,h3,h4⟩:=h';cases z;rw [h1] at h3;cases h3;rw [zcy.inj ds _ h2 h4])
theorem zcy.inj {H:Hp}:∀ {xs:List V} (ds es:List DD),zcy H xs ds->zcy H xs es->ds=es
 | _,[],es,h,h'=>by
  rw [zcy] at h;subst h;cases es with
  | nil=>rfl
  | cons e es=>obtain⟨_,_,z,_⟩:=h';cases z
 | _,d::ds,es,h,h'=>by
  rw [zcy] at h;obtain⟨x,r,rfl,h1,h2⟩:=h;cases es with
  | nil=>cases h'
  | cons e es =>
   obtain⟨y,q,z,h3,h4⟩:=h';cases z;rw [Den.inj d e h1 h3,zcy.inj ds es h2 h4]
end
mutual
theorem zc2:∀ d:DD,eqD d d=true
 | .non=>by simp [eqD]
 | .bl b=>by simp [eqD]
 | .int b=>by simp [eqD]
 | .str b=>by simp [eqD]
 | .lst ds=>by rw [eqD];exact ze4 ds
 | .tup ds=>by rw [eqD];exact ze4 ds
theorem ze4:∀ ds:List DD,zhK ds ds=true
 | []=>by simp [zhK]
 | d::ds=>by rw [zhK,zc2 d,ze4 ds];rfl
end
theorem zgJ:∀ as bs:List DD,zhK as bs=((List.range (min as.length bs.length)).all (fun j=>eqD (as.getD j .non) (bs.getD j .non)) && as.length == bs.length)
 | [],[]=>by simp [zhK]
 | [],b::bs=>by simp [zhK]
 | a::as,[]=>by simp [zhK]
 | a::as,b::bs=>by
  rw [zhK,zgJ as bs];rw [show min (a::as).length (b::bs).length=min as.length bs.length+1 by simp only [zsz];omega];rw [List.range_succ_eq_map,List.all_cons,List.all_map];simp only [List.getD_cons_zero,zsz,Bool.and_assoc]
  congr 1
  congr 1
  have:∀ (m n:Nat),(m+1 == n+1)=(m == n):=fun m n=>by
   by_cases h:m=n
   ·subst h;simp
   ·rw [beq_eq_false_iff_ne.mpr h,beq_eq_false_iff_ne.mpr (by omega)]
  rw [this]
section
variable {X:Cx} {pins:List (Addr × Obj)} {σ:St} {H:Hp} {s:Shared}
open PySem.SeqAt
def zqZ (A:Around) (s:Shared) (u v:Value) (b:Bool):Prop:=EqAt A s u v b/\RcAt A s u v b/\RcNeAt A s u v (!b)
theorem zdX {H:Hp} {xs:List V} {ds:List DD} {us:List Value} (h:zcy H xs ds) (r:zaV xs us) {j:Nat} (hj:j<us.toArray.size):∃ x d,Den H x d/\zaY x (us.toArray[j])/\ds.getD j .non=d/\d∈ds:=by
 rw [zsy] at hj;have hj':j<xs.length:=by rw [r.length];exact hj
 obtain⟨u,e1,e2⟩:=r.get (zr0 hj');obtain⟨d,e3,e4⟩:=h.get' (zr0 hj');refine⟨_,d,e4,?_,?_,zr3 e3⟩
 ·rw [zr0 hj] at e1;cases e1;simpa using e2
 ·rw [zsE,e3];rfl
theorem znc (I:Inv X pins σ H s):∀ (n:Nat) (d e:DD) (A:Around) (x y:V) (u v:Value),dep d<=n->Den H x d->Den H y e->zaY x u->zaY y v->A.units+n<cLine->zqZ A s u v (eqD d e):=by
 intro n
 induction n with
 | zero =>
  intro d e A x y u v hd hx hy rx ry hu;cases d with
  | lst ds=>simp [dep] at hd
  | tup ds=>simp [dep] at hd
  | non =>
   rw [Den] at hx;subst hx;cases rx;cases e with
   | non=>rw [Den] at hy;subst hy;cases ry;exact⟨EqAt.same _,RcAt.none_none,RcNeAt.none_none⟩
   | bl b=>rw [Den] at hy;subst hy;cases ry;exact⟨EqAt.none_bool b,RcAt.none_bool b,RcNeAt.none_bool b⟩
   | int b=>rw [Den] at hy;subst hy;obtain⟨t,rfl⟩:=ry;exact⟨EqAt.none_int b t,RcAt.none_int b t,RcNeAt.none_int b t⟩
   | str b=>rw [Den] at hy;subst hy;obtain⟨t,rfl⟩:=ry;exact⟨EqAt.none_str b t,RcAt.none_str b t,RcNeAt.none_str b t⟩
   | lst es=>rw [Den] at hy;obtain⟨a,xs,rfl,h1,h2⟩:=hy;cases ry;obtain⟨its,_,p,_⟩:=I.list (SqL.of h1);exact⟨EqAt.none_list p.isList hu,RcAt.none_list p.isList hu,RcNeAt.none_list p.isList hu⟩
   | tup es=>rw [Den] at hy;obtain⟨a,xs,rfl,h1,h2⟩:=hy;cases ry;obtain⟨its,_,p,_⟩:=I.tuple (SqT.of h1);exact⟨EqAt.none_tuple p hu,RcAt.none_tuple p hu,RcNeAt.none_tuple p hu⟩
  | bl a =>
   rw [Den] at hx;subst hx;cases rx;cases e with
   | non=>rw [Den] at hy;subst hy;cases ry;exact⟨EqAt.bool_none a,RcAt.bool_none a,RcNeAt.bool_none a⟩
   | bl b=>rw [Den] at hy;subst hy;cases ry;exact⟨EqAt.bool_bool a b,RcAt.bool_bool a b,RcNeAt.bool_bool a b⟩
   | int b=>rw [Den] at hy;subst hy;obtain⟨t,rfl⟩:=ry;exact⟨EqAt.bool_int a b t,RcAt.bool_int a b t,RcNeAt.bool_int a b t⟩
   | str b=>rw [Den] at hy;subst hy;obtain⟨t,rfl⟩:=ry;exact⟨EqAt.bool_str a b t,RcAt.bool_str a b t,RcNeAt.bool_str a b t⟩
   | lst es=>rw [Den] at hy;obtain⟨b,xs,rfl,h1,h2⟩:=hy;cases ry;obtain⟨its,_,p,_⟩:=I.list (SqL.of h1);exact⟨EqAt.bool_list a p.isList hu,RcAt.bool_list a p.isList hu,RcNeAt.bool_list a p.isList hu⟩
   | tup es=>rw [Den] at hy;obtain⟨b,xs,rfl,h1,h2⟩:=hy;cases ry;obtain⟨its,_,p,_⟩:=I.tuple (SqT.of h1);exact⟨EqAt.bool_tuple a p hu,RcAt.bool_tuple a p hu,RcNeAt.bool_tuple a p hu⟩
  | int a =>
   rw [Den] at hx;subst hx;obtain⟨t',rfl⟩:=rx;cases e with
   | non=>rw [Den] at hy;subst hy;cases ry;exact⟨EqAt.int_none a t',RcAt.int_none a t',RcNeAt.int_none a t'⟩
   | bl b=>rw [Den] at hy;subst hy;cases ry;exact⟨EqAt.int_bool a t' b,RcAt.int_bool a t' b,RcNeAt.int_bool a t' b⟩
   | int b=>rw [Den] at hy;subst hy;obtain⟨t,rfl⟩:=ry;exact⟨EqAt.int_int a t' b t,RcAt.int_int a t' b t,RcNeAt.int_int a t' b t⟩
   | str b=>rw [Den] at hy;subst hy;obtain⟨t,rfl⟩:=ry;exact⟨EqAt.int_str a t' b t,RcAt.int_str a t' b t,RcNeAt.int_str a t' b t⟩
   | lst es=>rw [Den] at hy;obtain⟨b,xs,rfl,h1,h2⟩:=hy;cases ry;obtain⟨its,_,p,_⟩:=I.list (SqL.of h1);exact⟨EqAt.int_list a t' p.isList hu,RcAt.int_list a t' p.isList hu,RcNeAt.int_list a t' p.isList hu⟩
   | tup es=>rw [Den] at hy;obtain⟨b,xs,rfl,h1,h2⟩:=hy;cases ry;obtain⟨its,_,p,_⟩:=I.tuple (SqT.of h1);exact⟨EqAt.int_tuple a t' p hu,RcAt.int_tuple a t' p hu,RcNeAt.int_tuple a t' p hu⟩
  | str a =>
   rw [Den] at hx;subst hx;obtain⟨t',rfl⟩:=rx;cases e with
   | non=>rw [Den] at hy;subst hy;cases ry;exact⟨EqAt.str_none a t',RcAt.str_none a t',RcNeAt.str_none a t'⟩
   | bl b=>rw [Den] at hy;subst hy;cases ry;exact⟨EqAt.str_bool a t' b,RcAt.str_bool a t' b,RcNeAt.str_bool a t' b⟩
   | int b=>rw [Den] at hy;subst hy;obtain⟨t,rfl⟩:=ry;exact⟨EqAt.str_int a t' b t,RcAt.str_int a t' b t,RcNeAt.str_int a t' b t⟩
   | str b=>rw [Den] at hy;subst hy;obtain⟨t,rfl⟩:=ry;exact⟨EqAt.str_str a t' b t,RcAt.str_str a t' b t,RcNeAt.str_str a t' b t⟩
   | lst es=>rw [Den] at hy;obtain⟨b,xs,rfl,h1,h2⟩:=hy;cases ry;obtain⟨its,_,p,_⟩:=I.list (SqL.of h1);exact⟨EqAt.str_list a t' p.isList hu,RcAt.str_list a t' p.isList hu,RcNeAt.str_list a t' p.isList hu⟩
   | tup es=>rw [Den] at hy;obtain⟨b,xs,rfl,h1,h2⟩:=hy;cases ry;obtain⟨its,_,p,_⟩:=I.tuple (SqT.of h1);exact⟨EqAt.str_tuple a t' p hu,RcAt.str_tuple a t' p hu,RcNeAt.str_tuple a t' p hu⟩
 | succ n ih =>
  intro d e A x y u v hd hx hy rx ry hu;have hu0:A.units<cLine:=by omega
  cases d with
  | lst ds =>
   have hdl:∀ c∈ds,dep c<=n:=fun c hc=>by have:=zgH hc;rw [dep] at hd;omega
   have hxd:=hx;rw [Den] at hx;obtain⟨a,xs,rfl,h1,h2⟩:=hx;cases rx;obtain⟨its,r,p,_⟩:=I.list (SqL.of h1);cases e with
   | non=>rw [Den] at hy;subst hy;cases ry;exact⟨EqAt.list_none p.isList hu0,RcAt.list_none p.isList hu0,RcNeAt.list_none p.isList hu0⟩
   | bl b=>rw [Den] at hy;subst hy;cases ry;exact⟨EqAt.list_bool b p.isList hu0,RcAt.list_bool b p.isList hu0,RcNeAt.list_bool b p.isList hu0⟩
   | int b=>rw [Den] at hy;subst hy;obtain⟨t,rfl⟩:=ry;exact⟨EqAt.list_int b t p.isList hu0,RcAt.list_int b t p.isList hu0,RcNeAt.list_int b t p.isList hu0⟩
   | str b=>rw [Den] at hy;subst hy;obtain⟨t,rfl⟩:=ry;exact⟨EqAt.list_str b t p.isList hu0,RcAt.list_str b t p.isList hu0,RcNeAt.list_str b t p.isList hu0⟩
   | tup es=>rw [Den] at hy;obtain⟨b,ys,rfl,h3,h4⟩:=hy;cases ry;obtain⟨its',_,p',_⟩:=I.tuple (SqT.of h3);exact⟨EqAt.list_tuple p.isList p' hu0,RcAt.list_tuple p.isList p' hu0,RcNeAt.list_tuple p.isList p' hu0⟩
   | lst es =>
    have hyd:=hy;rw [Den] at hy;obtain⟨b,ys,rfl,h3,h4⟩:=hy;cases ry;obtain⟨its',r',p',_⟩:=I.list (SqL.of h3);have l1:=h2.length;have l2:=h4.length;have l3:=r.length;have l4:=r'.length;have ch:∀ j (g1:j<its.toArray.size) (g2:j<its'.toArray.size),EqAt A.in1 s its.toArray[j] its'.toArray[j] (eqD (ds.getD j .non) (es.getD j .non)):=fun j g1 g2=>by
     obtain⟨x1,d1,a1,a2,a3,a4⟩:=zdX h2 r g1;obtain⟨x2,d2,b1,b2,b3,b4⟩:=zdX h4 r' g2;rw [a3,b3];exact (ih d1 d2 A.in1 x1 x2 _ _ (hdl d1 a4) a1 b1 a2 b2 (by show A.units+1+n<_;omega)).1
    have main:RcAt A s (.ref a) (.ref b) (eqD (.lst ds) (.lst es))/\RcNeAt A s (.ref a) (.ref b) (!eqD (.lst ds) (.lst es)):=by
     rw [eqD,zgJ];by_cases hl:ds.length=es.length
     ·have hs:its.toArray.size=its'.toArray.size:=by simp;omega
      have e1:min ds.length es.length=its.toArray.size:=by simp;omega
      have e2:(ds.length == es.length)=true:=by simpa using hl
      rw [e1,e2,Bool.and_true];exact⟨RcAt.lists p.isList p'.isList hs hu0 ch,RcNeAt.lists p.isList p'.isList hs hu0 ch⟩
     ·have hs:(its.toArray.size != its'.toArray.size)=true:=by simp;omega
      have e2:(ds.length == es.length)=false:=by simpa using hl
      rw [e2,Bool.and_false];exact⟨RcAt.lists_lengths p.isList p'.isList hs hu0,RcNeAt.lists_lengths p.isList p'.isList hs hu0⟩
    refine⟨?_,main⟩;by_cases hab:a=b
    ·subst hab
     have:=Den.inj _ _ hxd hyd
     rw [this,zc2];exact EqAt.same _
    ·exact EqAt.of_refs hab main.1
  | tup ds =>
   have hdl:∀ c∈ds,dep c<=n:=fun c hc=>by have:=zgH hc;rw [dep] at hd;omega
   have hxd:=hx;rw [Den] at hx;obtain⟨a,xs,rfl,h1,h2⟩:=hx;cases rx;obtain⟨its,r,p,_⟩:=I.tuple (SqT.of h1);cases e with
   | non=>rw [Den] at hy;subst hy;cases ry;exact⟨EqAt.tuple_none p hu0,RcAt.tuple_none p hu0,RcNeAt.tuple_none p hu0⟩
   | bl b=>rw [Den] at hy;subst hy;cases ry;exact⟨EqAt.tuple_bool b p hu0,RcAt.tuple_bool b p hu0,RcNeAt.tuple_bool b p hu0⟩
   | int b=>rw [Den] at hy;subst hy;obtain⟨t,rfl⟩:=ry;exact⟨EqAt.tuple_int b t p hu0,RcAt.tuple_int b t p hu0,RcNeAt.tuple_int b t p hu0⟩
   | str b=>rw [Den] at hy;subst hy;obtain⟨t,rfl⟩:=ry;exact⟨EqAt.tuple_str b t p hu0,RcAt.tuple_str b t p hu0,RcNeAt.tuple_str b t p hu0⟩
   | lst es=>rw [Den] at hy;obtain⟨b,ys,rfl,h3,h4⟩:=hy;cases ry;obtain⟨its',_,p',_⟩:=I.list (SqL.of h3);exact⟨EqAt.tuple_list p p'.isList hu0,RcAt.tuple_list p p'.isList hu0,RcNeAt.tuple_list p p'.isList hu0⟩
   | tup es =>
    have hyd:=hy;rw [Den] at hy;obtain⟨b,ys,rfl,h3,h4⟩:=hy;cases ry;obtain⟨its',r',p',_⟩:=I.tuple (SqT.of h3);have l1:=h2.length;have l2:=h4.length;have l3:=r.length;have l4:=r'.length;have ch:∀ j (g1:j<its.toArray.size) (g2:j<its'.toArray.size),EqAt A.in1 s its.toArray[j] its'.toArray[j] (eqD (ds.getD j .non) (es.getD j .non)):=fun j g1 g2=>by
     obtain⟨x1,d1,a1,a2,a3,a4⟩:=zdX h2 r g1;obtain⟨x2,d2,b1,b2,b3,b4⟩:=zdX h4 r' g2;rw [a3,b3];exact (ih d1 d2 A.in1 x1 x2 _ _ (hdl d1 a4) a1 b1 a2 b2 (by show A.units+1+n<_;omega)).1
    have main:RcAt A s (.ref a) (.ref b) (eqD (.tup ds) (.tup es))/\RcNeAt A s (.ref a) (.ref b) (!eqD (.tup ds) (.tup es)):=by
     rw [eqD,zgJ];have e1:min ds.length es.length=min its.toArray.size its'.toArray.size:=by simp;omega
     have e2:(ds.length == es.length)=(its.toArray.size == its'.toArray.size):=by
      rw [zsy,zsy,← l1,← l2,l3,l4]
     rw [e1,e2];exact⟨RcAt.tuples p p' hu0 ch,RcNeAt.tuples p p' hu0 ch⟩
    refine⟨?_,main⟩;by_cases hab:a=b
    ·subst hab
     have:=Den.inj _ _ hxd hyd
     rw [this,zc2];exact EqAt.same _
    ·exact EqAt.of_refs hab main.1
  | non=>exact ih .non e A x y u v (by simp [dep]) hx hy rx ry (by omega)
  | bl b=>exact ih (.bl b) e A x y u v (by simp [dep]) hx hy rx ry (by omega)
  | int b=>exact ih (.int b) e A x y u v (by simp [dep]) hx hy rx ry (by omega)
  | str b=>exact ih (.str b) e A x y u v (by simp [dep]) hx hy rx ry (by omega)
def rEqD:R2:=fun x y H Q=>∃ d e,Den H x d/\Den H y e/\dep d<=60/\Q (.bl (eqD d e)) H
def rNeD:R2:=fun x y H Q=>∃ d e,Den H x d/\Den H y e/\dep d<=60/\Q (.bl (!eqD d e)) H
theorem zdT {k:Nat} (hr:zcQ k X.A):OpR X (compareOp .Eq) rEqD:=by
 intro pins s σ H x y v u Q I rx ry h;obtain⟨d,e,h1,h2,h3,q⟩:=h;have hu:=hr.units;exact (znc I 60 d e X.A x y _ _ h3 h1 h2 rx ry (by omega)).2.1 _ _ _ _ ⟨.bl _,H,I,rfl,q⟩
theorem zi7 {k:Nat} (hr:zcQ k X.A):OpR X (compareOp .NotEq) rNeD:=by
 intro pins s σ H x y v u Q I rx ry h;obtain⟨d,e,h1,h2,h3,q⟩:=h;have hu:=hr.units;exact (znc I 60 d e X.A x y _ _ h3 h1 h2 rx ry (by omega)).2.2 _ _ _ _ ⟨.bl _,H,I,rfl,q⟩
end
end L2
end
section
namespace L2
open PySem PySem.Spec PyProof.Rows
structure ExC (K:PySem.W.Frag) (C:Addr):Prop where
 ga:PySem.W.findIn K (.ref C) "__getattribute__"=some (some (.builtin "BaseException.__getattribute__"))
 na:PySem.W.findIn K (.ref C) "__getattr__"=some none
 cl:PySem.W.findIn K (.ref C) "__class__"=some (some (.builtin "object.__class__"))
 gt:PySem.W.specialIn K (.builtin "object.__class__") "__get__"=some (some (.builtin "getset_descriptor.__get__"))
 tk:PySem.W.takesIn K (.builtin "object.__class__")=some true
 mo:PySem.W.mroIn K C (.type "object")=some true
 mb:PySem.W.mroIn K C (.type "BaseException")=some true
 ci:(PySem.W.clsIn K C).isSome=true
def zfB (x C:Addr) (h:Heap):Prop:=∃ o,h.get? x=some o/\o.cls=.ref C
theorem zfB.type {x C:Addr} {h:Heap} {M:Model} (e:zfB x C h):PySem.W.Looks M h (typeOf (.ref x)) (.ref C):=by
 obtain⟨o,h1,h2⟩:=e;exact h2 ▸ (PySem.W.Looks.ld h1).andThen .now
section
variable {prog:Program} {w:World} {A:Around} {E:Value->Shared->Prop} {s:Shared} {K:PySem.W.Frag} {x C:Addr}
open PySem.W PySem.Builtin PySem.Builtin.ObjectAttr PySem.Builtin.Getset_descriptor
theorem zlM {nameV:Value} {Q:Unit->Shared->Prop} {M:Model} (T:ExC K C) (X:K.In s.heap) (I:zfB x C s.heap) (hq:Q () s):wpAny M A (checkBuiltinCall "BaseException.__getattribute__" ⟨[.ref x,nameV],[]⟩) Q E s:=by
 have hk:builtinKind "BaseException.__getattribute__"=some .slot:=by decide +kernel
 have hsplit:splitId "BaseException.__getattribute__"=some ("BaseException","__getattribute__"):=by decide +kernel
 have ha:=PySem.F.args_bexc_ga (.ref x) nameV;obtain⟨hh,g,d,t,os⟩:=s;have L0:=I.type (M:=M);have L1:=looks_mroIn (M:=M) X T.mb;simp only [checkBuiltinCall,hk,hsplit];refine wpAny_bind ?_;unfold isInstance;refine wpAny_bind (L0.at (L1.at ?_))
 repeat (first | wp_step)
 exact hq
theorem zor {R:Result->Shared->Prop} {tp:Value} (X:K.In s.heap) (I:zfB x C s.heap) (hm:mroIn K C (.type "object")=some true)
  (h:R (.ok (.ret (.ref C))) s):codeAny (model prog w) A (.call (.builtin "getset_descriptor.__get__") ⟨[.builtin "object.__class__",.ref x,tp],[]⟩) R s:=by
 obtain⟨hh,g,dr,t,os⟩:=s;have L0:=I.type (M:=model prog w);have L1:=looks_mroIn (M:=model prog w) X hm;refine codeAny_call_builtin KF.slot_gs.plain KF.entry_gs (KF.slot_gs.check _ _ _ _ _ _ _ _ KF.type_class (KF.args_gs _ _ _) ?_);unfold Builtin.«getset_descriptor.__get__» descrGet;rw [dga_obj];refine wpAny_bind (wpAny_pure ?_);unfold descrGetter descrCheckInstance descrNameAndClass isInstance;simp only [KF.owner_class]
 repeat lk
 refine⟨Code.quiet_builtin _ (by decide +kernel),codeAny_builtin KF.entry_class ?_⟩;unfold Builtin.«object.__class__» shownTypeOf
 repeat lk
 exact h
theorem zk3 {tk:Tok} {Q:Fin->Shared->Prop} (T:ExC K C) (X:K.In s.heap) (I:zfB x C s.heap) (hq:Q (.done (.ret (.ref C))) s) :
  wpAny (model prog w) A (Builtin.«object.__getattribute__» ⟨[.ref x,.str "__class__" tk],[]⟩) Q E s:=by
 obtain⟨hh,g,d,t,os⟩:=s;have L0:=I.type (M:=model prog w);have L1:Looks (model prog w) hh (Builtin.ObjectAttr.find (.ref x) (.ref C) "__class__") (.bind (.builtin "getset_descriptor.__get__") (.builtin "object.__class__")):=by
  refine (looks_findIn (M:=model prog w) X T.cl).andThen (Looks.andThen (looks_specialIn (M:=model prog w) X T.gt) ?_);have L3:=looks_takesIn (M:=model prog w) X T.tk;exact (show Looks (model prog w) hh (Builtin.ObjectAttr.dataDescriptor? (some (.builtin "object.__class__")) (some (.builtin "getset_descriptor.__get__"))) (some (.builtin "getset_descriptor.__get__",.builtin "object.__class__")) from L3.andThen .now).andThen (Looks.tag .now)
 unfold Builtin.«object.__getattribute__»;refine wpAny_bind (wpAny_pure (wpAny_bind (wpAny_pure (wpAny_bind (L0.at (wpAny_bind (L1.at ?_)))))));show wpAny _ _ (Builtin.ObjectAttr.bindTo _ _ _ _) _ _ _;refine wpAny_bind (m:=holding [Value.builtin "object.__class__"] (call (.builtin "getset_descriptor.__get__") [.builtin "object.__class__",.ref x,.ref C])) (wpAny_holding (wpAny_call (zor X I T.mo ?_)));exact wpAny_pure hq
theorem zk0 {Q:Option Value->Shared->Prop} (T:ExC K C) (X:K.In s.heap) (I:zfB x C s.heap) (h:Q (some (.ref C)) { s with toks:=s.toks+1 }):wpAny (model prog w) A (getAttr? (.ref x) "__class__") Q E s:=by
 obtain⟨hh,g,d,t,os⟩:=s;have L0:=I.type (M:=model prog w);have L1:=looks_findIn (M:=model prog w) X T.ga;have L2:=looks_findIn (M:=model prog w) X T.na;have f3:=PySem.F.excAttr_ValueError.ga.bind (.ref x);unfold getAttr? getAttrBy? getAttrBy;refine wpAny_bind (wpAny_mkText (wpAny_bind (wpAny_attempt (wpAny_holding (wpAny_bind (L0.at (wpAny_bind (L1.at ?_))))))));show wpAny _ _ (getAttrByItsOwn _ _ _ _ _ _) _ _ _;unfold getAttrByItsOwn;refine wpAny_bind (L2.at ?_);refine wpAny_bind (wpAny_attempt (wpAny_holding ?_));show wpAny _ _ (boundAndCalled _ _ _) _ _ _;unfold boundAndCalled;refine wpAny_bind (wpAny_of_eq f3 ?_);refine wpAny_call (codeAny_call_builtin PySem.F.excAttr_ValueError.ga.plain PySem.F.entry_bexc_ga (zlM T X I (zk3 T X I ?_)))
 repeat (any_goals (first | assumption | wp_step))
theorem zjn (T:ExC K C):KitX K (.ref x) (.ref C) (zfB x C) where
 ty:=fun M h X I=>I.type
 it:=fun _ _ X _=>by
  obtain⟨cd,hcD⟩:=Option.isSome_iff_exists.mp T.ci;unfold clsIn at hcD;split at hcD
  ·rename_i c' d' cd' sl' ho;intro A' Q' E' s' k q;unfold isType loadHead;exact wpAny_bind (wpAny_loadPart (k _ _ (X _ _ ho)) (wpAny_pure q))
  ·cases hcD
 ne:=fun h tp dd its n sl X htp=>by
  obtain⟨cd,hcD⟩:=Option.isSome_iff_exists.mp T.ci;refine Bool.eq_false_iff.mpr fun q=>?_
  have e:C=tp:=Value.ref.inj (beq_iff_eq.mp q);subst e;unfold clsIn at hcD;split at hcD
  ·rename_i c' d' cd' sl' ho;have z:=(X _ _ ho).symm.trans htp;cases z
  ·cases hcD
 ca:=fun X I k=>zk0 T X I k
end
abbrev HO.exc (x C:Addr):HO:=.ext (zfB x C)
inductive TyX (K:PySem.W.Frag) (H:Hp):V->Value->Prop where
 | of {x:V} {t:Value} (h:zjQ K H x t):TyX K H x t
 | exc {a C:Addr} (e:H a=some (HO.exc a C)) (T:ExC K C):TyX K H (.ref a) (.ref C)
def zlf:V->Value
 | .ref a=>.ref a
 | .ty n=>.type n
 | _=>.none
def zhF:V->Bool
 | .ref _=>true
 | .ty _=>true
 | _=>false
theorem zlz {v:V} {u:Value} (r:zaY v u) (h:zhF v=true):u=zlf v:=by
 cases v with
 | ref a=>exact r
 | ty n=>exact r
 | _=>cases h
theorem ziT:∀ {vs:List V} {us:List Value},zaV vs us->vs.all zhF=true->us=vs.map zlf
 | _,_,.nil,_=>rfl
 | v::vs,u::us,.cons r t,h=>by
  rw [List.all_cons,Bool.and_eq_true] at h;rw [zsq,zlz r h.1,ziT t h.2]
section
variable {X:Cx} {pins:List (Addr × Obj)} {σ:St} {H:Hp} {s:Shared} {A:Around} {E:Value->Shared->Prop} {Q:Value->Shared->Prop} {c:Value} {b:Bool}
theorem zn8 {x:V} {u t:Value} (I:Inv X pins σ H s) (rx:zaY x u) (ty:TyX X.K H x t) (e:PySem.W.kitOne X.K t c=some b) (h:∀ tk,Q (.bool b) { s with toks:=tk }) :
  wpAny (model X.prog X.w) A (call (.builtin "isinstance") [u,c]) Q E s:=by
 cases ty with
 | of ty=>exact zln I rx ty e h
 | @exc a C ea T =>
  cases (show u=Value.ref a from rx);obtain⟨p,_⟩:=(show zaQ X.prog X.w H s.heap a (HO.exc a C) from I.hok a _ ea);exact PySem.W.kia_one (zjn T) I.kIn p e (fun z=>nomatch z) h
def rIsi (K:PySem.W.Frag):List V->Hp->VK->Prop:=fun xs H Q=>∃ x c t b,xs=[x,c]/\TyX K H x t/\zhF c=true/\PySem.W.kitOne K t (zlf c)=some b/\Q (.bl b) H
theorem zmi:za9 X (.builtin "isinstance") (rIsi X.K):=by
 intro pins s σ H xs us Q I r h;obtain⟨x,c,t,b,rfl,ty,hc,e,q⟩:=h;cases r with
 | cons r1 r =>
  cases r with
  | cons r2 r =>
   cases r;rw [zlz r2 hc];exact zn8 I r1 ty e fun tk=>⟨.bl b,H,I.tok _,rfl,q⟩
def zqu (K:PySem.W.Frag):List V->Hp->VK->Prop:=fun xs H Q=>∃ x tp cs b,xs=[x,.ref tp]/\H tp=some (.tup cs)/\cs.all zhF=true /\
 ((∃ a C,x=.ref a/\H a=some (HO.exc a C)/\ExC K C/\PySem.W.kitAny K (.ref C) (cs.map zlf)=some b)\/(x=.non/\PySem.W.kitAny K (.type "NoneType") (cs.map zlf)=some b))/\Q (.bl b) H
theorem zlL:za9 X (.builtin "isinstance") (zqu X.K):=by
 intro pins s σ H xs us Q I r h;obtain⟨x,tp,cs,b,rfl,ht,hc,e,q⟩:=h;cases r with
 | cons r1 r =>
  cases r with
  | cons r2 r =>
   cases r;cases r2;obtain⟨its,rv,⟨o,h1,h2,n,h3⟩,_⟩:=I.tuple (SqT.of ht);have ei:=ziT rv hc;subst ei;have hob:s.heap.get? tp=some ⟨.type "tuple",o.dict,.seq (cs.map zlf).toArray n,o.slots⟩:=by
    rw [h1];obtain⟨c0,d0,dt,sl⟩:=o;simp only at h2 h3;subst h2 h3
    rfl
   rcases e with ⟨a,C,rfl,ha,T,e⟩ | ⟨rfl,e⟩
   ·cases r1;obtain⟨p,_⟩:=(show zaQ X.prog X.w H s.heap a (HO.exc a C) from I.hok a _ ha);exact PySem.W.kia_tup (zjn T) I.kIn p hob e (fun z=>nomatch z) fun tk=>⟨.bl b,H,I.tok _,rfl,q⟩
   ·cases r1;exact PySem.W.kia_tup PySem.W.kitx_none I.kIn True.intro hob e (fun z=>nomatch z) fun tk=>⟨.bl b,H,I.tok _,rfl,q⟩
end
end L2
end
section
namespace L2
open PySem PySem.Spec PyProof.Rows
def CXE (P:Program) (w:World):CXT:=fun outer H s E e s'=>∃ (x C:Addr) (B hr:Heap) (a0:Value) (H':Hp),e=.ref x/\s'.os=s.os/\AllBare s'.gens/\Un (frs outer) [] H H' s.heap hr/\HOk P w H' hr /\
 Heap.FlyingW B outer x (.ref C) a0 s'.heap/\hr.UpToSlots s'.heap/\hr.get? x=none/\(∀ b o,hr.get? b=some o->b ∉ frs outer->B.get? b=none->s.heap.objs.size<=b/\H' b=none) /\
 (∀ b o,hr.get? b=some o->B.get? b=none\/B.get? b=some o)/\E (.ref C) none H'
structure Fly (X:Cx) (pins:List (Addr × Obj)) (σ:St) (H:Hp) (x C:Addr) (s:Shared):Prop where
 way:∃ (B hr:Heap) (a0:Value),Inv X pins σ H { s with heap:=hr }/\Heap.FlyingW B X.stack x (.ref C) a0 s.heap/\hr.UpToSlots s.heap/\hr.get? x=none/\(∀ b o,hr.get? b=some o->B.get? b=none\/B.get? b=some o) /\
  ∀ b o,hr.get? b=some o->b ∉ frs X.stack->B.get? b=none->X.s₀.heap.objs.size<=b/\H b=none/\b≠X.env.locals/\(∀ y c,X.env.cells.lookup y=some c->c≠b)/\∀ p∈X.pn++pins,p.1≠b
section
variable {X:Cx} {pins:List (Addr × Obj)} {σ:St} {H:Hp} {s:Shared}
theorem Inv.flown {B hr h':Heap} (I:Inv X pins σ H { s with heap:=hr }) (hF:h'.FunFrames B X.stack) (st:B.StaysIn h') (up:hr.UpToSlots h') (bb:∀ b o,hr.get? b=some o->B.get? b=none\/B.get? b=some o)
  (cov:∀ b o,hr.get? b=some o->b ∉ frs X.stack->B.get? b=none->X.s₀.heap.objs.size<=b/\H b=none/\b≠X.env.locals/\(∀ y c,X.env.cells.lookup y=some c->c≠b)/\∀ p∈X.pn++pins,p.1≠b) :
  Inv X pins σ H { s with heap:=h' }:=by
 let ch:List Addr:=(List.range hr.objs.size).filter fun b=>decide ((hr.get? b).isSome=true/\b ∉ frs X.stack/\B.get? b=none)
 have hch:∀ b,b∈ch->∃ o,hr.get? b=some o/\b ∉ frs X.stack/\B.get? b=none:=fun b hb=>by
  obtain⟨h1,h2,h3⟩:=zsH (List.mem_filter.mp hb).2;obtain⟨o,ho⟩:=Option.isSome_iff_exists.mp h1;exact⟨o,ho,h2,h3⟩
 have inB:∀ b o,hr.get? b=some o->b ∉ frs X.stack->b ∉ ch->h'.get? b=some o:=fun b o e hn hc=>by
  rcases bb b o e with z | z
  ·exact absurd (List.mem_filter.mpr ⟨List.mem_range.mpr (zso e),zr4 ⟨by rw [e];rfl,hn,z⟩⟩) hc
  ·exact st b o z
 have stkF:∀ b,b∈frs X.stack->∀ o,hr.get? b=some o->∃ sl,h'.get? b=some { o with slots:=sl }:=fun b hb o e=>by
  obtain⟨_,o',ho',hd⟩:=I.stack.mem hb
  have:o=o':=zsJ (e.symm.trans ho')
  subst this;exact up b o e hd
 have fsStk:∀ b,b∈X.fs->b∈frs X.stack:=fun b hb=>by
  rcases I.ok.stk with e | ⟨e,hf⟩
  ·rw [e];exact hb
  ·rw [e];unfold frs;rw [List.filterMap_cons,hf];exact zsh _ hb
 have nch:∀ b u,H b=some u->b ∉ ch/\b ∉ frs X.stack:=fun b u e=>by
  have hnF:b ∉ frs X.stack:=fun z=>by rw [I.stkFree b z] at e;cases e
  refine⟨fun z=>?_,hnF⟩;obtain⟨o,ho,h1,h2⟩:=hch b z;rw [(cov b o ho h1 h2).2.1] at e;cases e
 refine I.step (s:={ s with heap:=hr }) (g':=s.gens) (d':=s.drawn) (t':=s.toks) (ch:=ch) (fun b hb=>?_) (fun b o hL hb hc e n=>?_) (fun b o hL hb hc e n=>stkF b (fsStk b hb) o e) (fun b o _ _ n=>n) (fun b o hc e=>?_) (fun _ _ e=>e) (fun _ _ _ e=>e) (fun b ps e=>⟨#[],by rw [e];simp⟩) (fun m hm=>up.ns hm) ?_ I.bare
 ·obtain⟨o,ho,h1,h2⟩:=hch b hb;obtain⟨c1,c2,c3,c4,c5⟩:=cov b o ho h1 h2;exact⟨.inr c1,c3,c4,c5⟩
 ·by_cases hs:b∈frs X.stack
  ·exfalso
   rcases zsF.mp (I.stkSub b hs) with z | z
   ·exact hL z
   ·exact hb z
  ·exact inB b o e hs hc
 ·by_cases hs:b∈frs X.stack
  ·obtain⟨sl,q⟩:=stkF b hs o e;exact⟨_,q⟩
  ·exact⟨o,inB b o e hs hc⟩
 ·intro b u e;have e':=e;refine (I.hok b u e).stay (fun c v hcc q=>?_) (fun _ q=>q) fun _ _ q=>q
  have hcH:∃ z,H c=some z:=by
   rcases hcc with z | z
   ·exact⟨u,by rw [z];exact e'⟩
   ·exact⟨_,z⟩
  obtain⟨z,hz⟩:=hcH;obtain⟨n1,n2⟩:=nch c z hz;exact inB c v q n2 n1
theorem Inv.track {x:Addr} {o:HO} (I:Inv X pins σ H s) (h0:X.s₀.heap.get? x=none) (hx:H x=none) (hL:x≠X.env.locals) (hc:∀ y c,X.env.cells.lookup y=some c->c≠x) (hp:∀ p∈X.pn++pins,p.1≠x)
  (new:zaQ X.prog X.w (upd H x o) s.heap x o):Inv X pins σ (upd H x o) s:=by
 have h0':∀ b ob,X.s₀.heap.get? b=some ob->b≠x:=fun b ob e z=>by rw [z,h0] at e;cases e
 refine⟨I.ok,I.os,I.bare,⟨I.base.keep,I.base.slot,fun b ob e n hb=>?_,I.base.there,fun b xs e=>?_,fun b ob u e=>?_,fun b ps e=>?_⟩,I.loc,I.cell,?_,fun y c e=>?_,fun p hq=>?_,fun b u e=>?_,I.len⟩
 ·rw [zao (h0' b ob e)];exact I.base.free b ob e n hb
 ·have q:=I.base.tups b xs e;rw [zao (zan q hx)];exact q
 ·have q:=I.base.frzs b ob u e;rw [zao (zan q hx)];exact q
 ·obtain⟨m,q⟩:=I.base.tbls b ps e;exact⟨m,by rw [zao (zan q hx)];exact q⟩
 ·rw [zao (Ne.symm hL)];exact I.free
 ·rw [zao (hc y c e)];exact I.freeC y c e
 ·obtain⟨a1,a2,a3⟩:=I.pin p hq;exact⟨a1,by rw [zao (hp p hq)];exact a2,a3⟩
 ·by_cases hb:b=x
  ·subst hb;rw [zah] at e;cases e;exact new
  ·rw [zao hb] at e;exact (I.hok b u e).stay (fun _ _ _ q=>q) (fun c q=>by rw [zao (zan q hx)];exact q) fun c xs q=>by rw [zao (zan q hx)];exact q
theorem zrw {P:Program} {w:World} {G:Hp} {h:Heap} {x C:Addr} (e:zfB x C h):zaQ P w G h x (HO.exc x C):=by
 refine⟨e,let ⟨o,h1,_⟩:=e;⟨o,h1⟩,fun h1 h2 p k=>?_⟩;obtain⟨o,a,b⟩:=p;exact⟨o,k o a,b⟩
theorem zol {K:PySem.W.Frag} {h₀:Heap} {C:Addr} {bmB:List Value} {newId:String} (X:K.In h₀) (q:PySem.W.excIn K C bmB newId=true) :
  ∃ bm N nm q bs hdct sn sub ab col dd k0 k1 k2 k3 k5 mN,h₀.get? C=some (excClassObj nm q C N bs bm hdct sn sub ab col dd k0 k1 k2 k3 k5 newId)/\h₀.Ns N mN/\mN "__init__"=none/\OwnTail h₀ bmB bm:=by
 open PySem.W in
 unfold excIn at q;split at q
 ·rename_i dd cd sl ho;split at q
  ·rename_i C' bm k0 k1 k2 k3 n k5 hm hs;simp only [Bool.and_eq_true,beq_iff_eq,Bool.not_eq_true'] at q;obtain⟨⟨⟨⟨⟨rfl,rfl⟩,hdel⟩,ht⟩,hok⟩,hni⟩:=q;obtain⟨nm,bs,mro,ns,qn,hd,sn,sub,ab,col,del⟩:=cd;dsimp only at hm hdel hok hni;subst hm hdel;have hsl:sl=#[k0,k1,k2,k3,some (.builtin n),k5]:=by
    obtain⟨l⟩:=sl;simp only at hs;rw [hs]
   subst hsl;exact⟨bm,ns,nm,qn,bs,hd,sn,sub,ab,col,dd,k0,k1,k2,k3,k5,_,X _ _ ho,.of_isNs (PySem.W.isNs_of_in X hok),PySem.W.nsMap_none_of_in X hok hni,PySem.W.tail_of_in X ht⟩
  ·cases q
 ·cases q
abbrev zbN:List Value:=[.type "ValueError",.type "Exception",.type "BaseException",.type "object"]
structure ExK (K:PySem.W.Frag) (C:Addr):Prop where
 inn:PySem.W.excIn K C zbN "ValueError.__new__"=true
 kp:PySem.W.keepIn K (.ref C)=true
section
variable {C:Addr} {y:Str} {p pos:Pos} {e:Expr} {es:List Expr} {t:TA}
end
def zpu (X:Cx) (E:St->Addr->Hp->Prop):Prop:=∀ (pins:List (Addr × Obj)) (σ:St) (H:Hp) (s:Shared) (h':Heap) (x C:Addr) (vs:List Value),Inv X pins σ H s->Heap.MadeExcOf s.heap h' x (.ref C) vs->E σ C H->X.xe (.ref x) { s with heap:=h' }
def zpl (C:Addr) (E:St->Addr->Hp->Prop) (t:TA):TS:=fun _ σ H=>t σ H fun vs H1=>vs.length<=sizeLine/\E σ C H1
section
variable {C:Addr} {y:Str} {np cpos pos:Pos} {e:Expr} {es:List Expr} {t:TA} {E:St->Addr->Hp->Prop}
theorem zjm (hc:X.calm=true) (M:ExK X.K C) (hg:Gl X y) (hm:X.mg y=some (.ref C)) (hw:zpu X E) (ha:PA X (e::es) t) (hdb:(y == ("__debug__":Str))=false:=by decide)
  (he:starEach (e::es) X.env=(false,eval e X.env)::starEach es X.env:=by rfl) (hpl:(backTo cpos (starEach es X.env)).any (·.1)=false:=by rfl):PS X (.Raise (some (.Call (.Name y np) (e::es) [] cpos)) none pos) (zpl C E t):=by
 intro pins s σ H D I h;obtain⟨bm,N,nm,q,bs,hdct,sn,sub,ab,col,dd,k0,k1,k2,k3,k5,mN,hC,hN,hni,T⟩:=zol I.ok.mod.kin M.inn;refine wpAny_Raise_call_subT (C:=C) (nm:=nm) (q:=q) (N:=N) (bs:=bs) (bm:=bm) (hdct:=hdct) (sn:=sn) (sub:=sub) (ab:=ab) (col:=col) (dd:=dd) (k0:=k0) (k1:=k1) (k2:=k2) (k3:=k3) (k5:=k5)
  PySem.F.excBase_ValueError (mN:=mN) (T.hasType PySem.F.excBase_ValueError.hasBase) (I.ok.hd hc) (by rw [he];show (false || (backTo cpos (starEach es X.env)).any (·.1))=false;rw [hpl];rfl) hni (zdm I hg hm ⟨rfl,?_⟩ hdb)
 have ha':=ha cpos pins s σ H _ I h;rw [he] at ha' ⊢;refine Calls.evalArgs_plain (thn ha' fun us s1 ⟨vs,H1,I1,r,z,hE⟩=>⟨rfl,by rw [← r.length];exact z,I1.bk _ _ hC,hN.keeps I1.bk,T.keeps I1.bk,fun h' x m=>?_⟩);exact hw pins σ H1 s1 h' x C _ I1 m hE
end
section
variable {P:Program} {w:World} {K:PySem.W.Frag} {mg:Str->Option Value} {base:Heap} {N:List Str} {qual:Str} {scope:Scope} {f:Addr} {cd:Value} {A:Around} {outer:List Env} {s:Shared} {H:Hp} {E:XK}
theorem zo2 {h:Heap} {as:List Addr} {b:Addr} {o:Obj} (e:h.get? b=some o):(PySem.W.hideAll h as).get? b=none\/(PySem.W.hideAll h as).get? b=some o:=by
 by_cases hb:b∈as
 ·exact .inl (PySem.W.hideAll_none as hb)
 ·exact .inr (PySem.W.hideAll_get _ e hb)
theorem zjw {h:Heap} {as:List Addr}:(PySem.W.hideAll h as).StaysIn h:=fun b o e=>PySem.W.of_hideAll as e
theorem Inv.hidden {X:Cx} {pins:List (Addr × Obj)} {σ:St} {H:Hp} {s:Shared} (I:Inv X pins σ H s):s.heap.FunFrames (PySem.W.hideAll s.heap (frs X.stack)) X.stack :=
 PySem.W.funFrames_hide I.stack fun env he b hb=>List.mem_filterMap.mpr ⟨env,he,hb⟩
theorem ziM:zpu (ziP (CXE P w) P w K mg base N qual scope f cd A outer s H E) (fun _ C H'=>E (.ref C) none H'):=by
 intro pins σ H1 s1 h' x C vs I m hE;show wpAny (model P w) _ (leaving (envOfC qual scope s.heap.objs.size f cd) (.ref x)) _ _ _;have hst:frs (ziP (CXE P w) P w K mg base N qual scope f cd A outer s H E).stack=s.heap.objs.size::frs outer:=rfl;refine wpAny_leaves_madeW (base:=PySem.W.hideAll s1.heap (frs (ziP (CXE P w) P w K mg base N qual scope f cd A outer s H E).stack)) (h:=s1.heap) (env:=envOfC qual scope s.heap.objs.size f cd) (outer:=outer) I.ok.frames rfl zjw I.hidden m fun h2 t fl _ _ up=>?_
 refine⟨x,C,_,s1.heap,_,H1,rfl,I.os,I.bare,I.base,I.hok,fl,(Heap.UpToSlots.of_keeps m.keeps).trans up,m.new,fun b o e hb n=>?_,fun b o e=>zo2 e,hE⟩;by_cases hs:b∈frs (ziP (CXE P w) P w K mg base N qual scope f cd A outer s H E).stack
 ·rw [hst] at hs;rcases zsF.mp hs with z | z
  ·subst z;exact⟨zse _,I.free⟩
  ·exact absurd z hb
 ·rw [PySem.W.hideAll_get _ e hs] at n;cases n
theorem Inv.raised {X:Cx} {pins:List (Addr × Obj)} {σ:St} {H H':Hp} {s s':Shared} {hr:Heap} (I:Inv X pins σ H s) (ho:s'.os=s.os) (un:Un (frs X.stack) [] H H' s.heap hr) (hok:HOk X.prog X.w H' hr) (hg:AllBare s'.gens):Inv X pins σ H' { s' with heap:=hr } :=
 I.call' (s':={ s' with heap:=hr }) (ch:=[]) ho un hok hg (by intro b z;simp at z)
theorem zat:zdC (CXE P w) (ziP (CXE P w) P w K mg base N qual scope f cd A outer s H E) E:=by
 intro pins σ H1 s1 e s' I hcx;obtain⟨x,C,B,hr,a0,H',rfl,hos,hbare,un,hok,fl,up,hnew,cov,bb,hE⟩:=hcx;show wpAny (model P w) _ (leaving (envOfC qual scope s.heap.objs.size f cd) (.ref x)) _ _ _;have I2:=I.raised hos un hok hbare;refine wpAny_leaves_onW (env:=envOfC qual scope s.heap.objs.size f cd) (outer:=outer) I.ok.frames rfl fl fun h2 fl2 up2=>?_
 refine⟨x,C,B,hr,a0,H',rfl,I2.os,hbare,I2.base,I2.hok,fl2,up.trans up2,hnew,fun b o e hb n=>?_,bb,hE⟩;have hst:frs (ziP (CXE P w) P w K mg base N qual scope f cd A outer s H E).stack=s.heap.objs.size::frs outer:=rfl;by_cases hs:b∈frs (ziP (CXE P w) P w K mg base N qual scope f cd A outer s H E).stack
 ·rw [hst] at hs;rcases zsF.mp hs with z | z
  ·subst z;exact⟨zse _,I2.free⟩
  ·exact absurd z hb
 ·obtain⟨c1,c2⟩:=cov b o e hs n;exact⟨zsd I.sz c1,c2⟩
theorem Fun.okE {x qual:Str} {st:Stmt} {f:Addr} {fd:FuncData} {N ps:List Str} {k:Nat} {sp:Sp} (F:Fun K x qual st f fd) (S:zal N ps (zad st)) (len:∀ vs H Q E,sp vs H Q E->vs.length=ps.length)
  (hbody:∀ (cdv:Value) (A:Around) (outer:List Env) (s:Shared) (H:Hp) (vs:List V) (Q:VK) (E:XK),zcQ k (A.deeper (envOfC qual (zad st) s.heap.objs.size f cdv))->sp vs H Q E ->
   ∃ t,PSs (ziP (CXE P w) P w K mg base N qual (zad st) f cdv A outer s H E) (zap st) t/\t { nx:=fun _ H'=>Q .non H',rt:=Q } (start N vs) H):zaC P w K mg base (CXE P w) (k+1) f fd ps sp:=by
 obtain⟨oc,od,kV,doc,pm,an,cdv,ct,osl,rfl,lk,hcd⟩:=F.ex;exact zpW lk hcd S len fun A outer s H vs Q E hr hsp=>hbody cdv A outer s H vs Q E hr hsp
end
def zpV (X:Cx) (pn:List (Addr × Obj)) (T:St->Addr->Hp->Prop):Value->Shared->Prop:=fun e s'=>∃ (x C:Addr) (σ:St) (H:Hp),e=.ref x/\Fly { X with pn:=pn } [] σ H x C s'/\T σ C H
def zjP (X:Cx) (pn:List (Addr × Obj)) (T:St->Addr->Hp->Prop):Cx:={ X with pn:=pn,xe:=zpV X pn T }
def zik (X:Cx) (pn:List (Addr × Obj)) (x:Addr):Cx:={ X with A:=X.A.mark (some (.ref x)),calm:=false,pn:=pn,xe:=fun _ _=>False }
theorem Cx.Ok.pn {X:Cx} (ok:X.Ok) (pn:List (Addr × Obj)):Cx.Ok { X with pn:=pn } :=
 ⟨ok.mod,ok.kind,ok.glob,ok.blt,ok.above,ok.inj,ok.has,ok.cab,ok.hd,ok.frames,ok.stk,ok.exf,ok.bs,ok.bsz,ok.noex,ok.exfs,ok.funs,ok.frf⟩
theorem Cx.Ok.unpn {X:Cx} {pn:List (Addr × Obj)} (ok:Cx.Ok { X with pn:=pn }):X.Ok :=
 ⟨ok.mod,ok.kind,ok.glob,ok.blt,ok.above,ok.inj,ok.has,ok.cab,ok.hd,ok.frames,ok.stk,ok.exf,ok.bs,ok.bsz,ok.noex,ok.exfs,ok.funs,ok.frf⟩
section
variable {X:Cx} {pins:List (Addr × Obj)} {σ:St} {H:Hp} {s:Shared} {T:St->Addr->Hp->Prop} {pn:List (Addr × Obj)} {x:Addr}
theorem Inv.toPn (I:Inv X pins σ H s):Inv { X with pn:=X.pn++pins } [] σ H s :=
 ⟨I.ok.pn _,I.os,I.bare,I.base,I.loc,I.cell,I.free,I.freeC,fun p hp=>I.pin p (by simpa using hp),I.hok,I.len⟩
theorem Inv.ofPn (I:Inv { X with pn:=X.pn++pins } [] σ H s):Inv X pins σ H s :=
 ⟨I.ok.unpn,I.os,I.bare,I.base,I.loc,I.cell,I.free,I.freeC,fun p hp=>I.pin p (zsu _ hp),I.hok,I.len⟩
theorem Inv.noPins (I:Inv { X with pn:=pn } pins σ H s):Inv { X with pn:=pn } [] σ H s :=
 ⟨I.ok,I.os,I.bare,I.base,I.loc,I.cell,I.free,I.freeC,fun p hp=>I.pin p (zsu _ (by simpa using hp)),I.hok,I.len⟩
theorem Inv.tryOf (I:Inv { X with pn:=pn } pins σ H s):Inv (zjP X pn T) pins σ H s:=I.wish _
theorem Inv.ofTry (I:Inv (zjP X pn T) pins σ H s):Inv { X with pn:=pn } pins σ H s:=Inv.unwish (X:={ X with pn:=pn }) (E:=zpV X pn T) I
theorem Inv.hanOf (I:Inv { X with pn:=pn } pins σ H s):Inv (zik X pn x) pins σ H s :=
 ⟨⟨I.ok.mod,I.ok.kind,I.ok.glob,I.ok.blt,I.ok.above,I.ok.inj,I.ok.has,I.ok.cab,fun z=>absurd (show false=true from z) zsI,I.ok.frames,I.ok.stk,I.ok.exf,I.ok.bs,I.ok.bsz,I.ok.noex,I.ok.exfs,I.ok.funs,I.ok.frf⟩,I.os,I.bare,I.base,I.loc,I.cell,I.free,I.freeC,I.pin,I.hok,I.len⟩
theorem Inv.ofHan (h:X.calm=true->X.A.handled=none) (I:Inv (zik X pn x) pins σ H s):Inv { X with pn:=pn } pins σ H s :=
 ⟨⟨I.ok.mod,I.ok.kind,I.ok.glob,I.ok.blt,I.ok.above,I.ok.inj,I.ok.has,I.ok.cab,h,I.ok.frames,I.ok.stk,I.ok.exf,I.ok.bs,I.ok.bsz,I.ok.noex,I.ok.exfs,I.ok.funs,I.ok.frf⟩,I.os,I.bare,I.base,I.loc,I.cell,I.free,I.freeC,I.pin,I.hok,I.len⟩
theorem SP.ofTry {D:zlo} {f:Flow} {s':Shared} (h:SP (zjP X (X.pn++pins) T) [] D f s'):SP X pins D f s':=by
 cases f with
 | next=>obtain⟨σ',H',I,q⟩:=h;exact⟨σ',H',I.ofTry.ofPn,q⟩
 | brk=>obtain⟨σ',H',I,q⟩:=h;exact⟨σ',H',I.ofTry.ofPn,q⟩
 | cont=>obtain⟨σ',H',I,q⟩:=h;exact⟨σ',H',I.ofTry.ofPn,q⟩
 | ret u=>obtain⟨v,σ',H',I,r,q⟩:=h;exact⟨v,σ',H',I.ofTry.ofPn,r,q⟩
def zky (CX:CXT) (X:Cx) (E:St->XK):Prop:=∀ (pins:List (Addr × Obj)) (σ:St) (H:Hp) (s:Shared) (e:Value) (s':Shared),Inv X pins σ H s->CX X.stack H s (E σ) e s'->X.xe e s'
def zqn (sp:Sp) (dvs:List V) (E:St->XK) (t:TA):TE:=fun σ H Q=>t σ H fun vs H1=>sp (vs++dvs) H1 Q (E σ)
theorem zkf {P:Program} {w:World} (hP:X.prog=P) (hw:X.w=w):zky (CXE P w) (zjP X pn T) (fun σ cls _ H=>∃ C,cls=.ref C/\T σ C H):=by
 subst hP hw;intro pins σ H1 s1 e s' I hcx;obtain⟨x,C,B,hr,a0,H',rfl,hos,hbare,un,hok,fl,up,hnew,cov,bb,C',hC,hT⟩:=hcx;cases hC;have I2:Inv (zjP X pn T) pins σ H' { s' with heap:=hr }:=I.raised hos un hok hbare;refine⟨x,C,σ,H',rfl,⟨B,hr,a0,I2.ofTry.noPins,fl,up,hnew,bb,fun b o e hs n=>?_⟩,hT⟩;obtain⟨c1,c2⟩:=cov b o e hs n;have lt:∀ c oc,s1.heap.get? c=some oc->c≠b:=fun c oc ec z=>by
  have:=zso ec
  rw [z] at this;exact absurd (zsf this c1) (Nat.lt_irrefl _)
 refine⟨zsd I.sz c1,c2,fun z=>?_,fun y c ec z=>?_,fun p hp z=>?_⟩
 ·have:=I.lt
  have this:X.env.locals<s1.heap.objs.size:=this;rw [← z] at this;exact absurd (zsf this c1) (Nat.lt_irrefl _)
 ·obtain⟨v,oc,hoc,_⟩:=I.cell y c ec;exact lt c oc hoc z
 ·exact lt p.1 p.2 (I.pin p (zsu _ (show p∈pn by simpa using hp))).1 z
theorem zmI {CX:CXT} {k:Nat} {f:Addr} {fd:FuncData} {ps:List Str} {sp:Sp} {dvs:List V} {ds:List Value} {E:St->XK} {y:Str} {p pos:Pos} {e:Expr} {es:List Expr} {t:TA} (F:zaC X.prog X.w X.K X.mg X.base CX k f fd ps sp) (hr:zcQ k X.A) (hg:Gl X y) (hm:X.mg y=some (.ref f)) (hk:PySem.W.keepIn X.K (.ref f)=true) (hb:zaA X.K fd ps ds) (hd:zaV dvs ds) (hx:zky CX X E)
  (ha:PA X (e::es) t) (hdb:(y == ("__debug__":Str))=false:=by decide) (he:starEach (e::es) X.env=(false,eval e X.env)::starEach es X.env:=by rfl) (hpl:(backTo pos (starEach es X.env)).any (·.1)=false:=by rfl) :
  PE X (.Call (.Name y p) (e::es) [] pos) (zqn sp dvs E t):=by
 intro pins s σ H Q I h;refine wpAny_Call_Name_kw (zdm I hg hm ?_ hdb);refine PySem.W.callWith_K (h₀:=X.base) I.ok.mod.kin hk (thn (ha pos pins s σ H _ I h) fun us s1 ⟨vs,H1,I1,r,q⟩=>⟨I1.kIn,?_⟩) he hpl;have r2:zaV (vs++dvs) (us++ds):=r.append hd;have hl:(us++ds).length=ps.length:=by rw [← r2.length];exact F.len _ _ _ _ q
 refine wpAny_call (codeAny_mono (F.run X.A X.stack s1 H1 ⟨us,[]⟩ (us++ds) (vs++dvs) Q (E σ) hr I1.env0 (hb s1 us I1.kIn hl) r2 q) fun r s' hq=>?_);cases r with
 | error e=>exact hx pins σ H1 s1 e s' I1 hq
 | ok fl =>
  cases fl with
  | ret u=>exact I1.after hq
  | next=>exact False.elim hq
  | brk=>exact False.elim hq
  | cont=>exact False.elim hq
theorem zdw {M:Model} {A:Around} {E:Value->Shared->Prop} {i:Nat} {n:Str} {pos:Pos} {Q:Unit->Shared->Prop} (I:Inv X pins σ H s) (hN:X.N.Nodup) (hi:X.N[i]?=some n) (hk:X.env.scope.names.lookup n=some .local)
  (h:∀ s',Inv X pins (σ.set i none) H s'->Q () s'):wpAny M A (do bindName X.env n .none;unbindBehindTheSuite X.env n pos) Q E s:=by
 obtain⟨m,hn,hl⟩:=id I.loc;have hcls:(X.env.scope.kind == .class || (X.env.scope.kind == .module && X.env.locals != X.env.globals))=false:=by rw [I.ok.kind];rfl
 refine wpAny_nameGoes_keeps hk hn hcls fun h' v hn' hs=>h _ ?_
 have cne:=I.cne;have ltL:∀ b o,X.s₀.heap.get? b=some o->b≠X.env.locals:=fun b o e=>zsG (zsf (zso e) I.ok.above)
 refine⟨I.ok,I.os,I.bare,⟨fun b o e nn hb hx=>(hs.2 b (ltL b o e)).trans (I.base.keep b o e nn hb hx),fun b o e nn hb hx=>?_,I.base.free,fun b o e hx=>?_,I.base.tups,I.base.frzs,I.base.tbls⟩,⟨_,hn',fun j y v' e1 e2 e3=>?_⟩,fun y c e=>?_,I.free,I.freeC,fun p hp=>?_,fun b ob e=>?_,by simpa using I.len⟩
 ·obtain⟨sl,e1⟩:=I.base.slot b o e nn hb hx;exact⟨sl,(hs.2 b (ltL b o e)).trans e1⟩
 ·obtain⟨o',e1⟩:=I.base.there b o e hx;exact⟨o',(hs.2 b (ltL b o e)).trans e1⟩
 ·by_cases hj:j=i
  ·subst hj;have hlt:j<σ.length:=by rw [I.len];exact (zr2.mp hi).1
   rw [List.getElem?_set_self hlt] at e2;cases e2
  ·rw [List.getElem?_set_ne (Ne.symm hj)] at e2;obtain⟨u',r',q⟩:=hl j y v' e1 e2 e3;refine⟨u',r',?_⟩;rcases q with ⟨k,e⟩ | ⟨k,c,e,z⟩
   ·refine .inl ⟨k,?_⟩
    have:y≠n:=fun e=>hj (zgg hN e1 (e ▸ hi))
    simp [this,e]
   ·exact .inr ⟨k,c,e,z.sameBut hs (cne y c e)⟩
 ·obtain⟨w',z⟩:=I.cell y c e;exact⟨w',z.sameBut hs (cne y c e)⟩
 ·obtain⟨e,nn,ne,nf,d⟩:=I.pin p hp;exact⟨(hs.2 p.1 ne).trans e,nn,ne,nf,d⟩
 ·refine (I.hok b ob e).stay (fun c w' hc q=>(hs.2 c ?_).trans q) (fun _ q=>q) fun _ _ q=>q
  rintro rfl;rcases hc with hc | hc
  ·rw [← hc,I.free] at e;cases e
  ·rw [I.free] at hc;cases hc
def tTry (tb:(St->Addr->Hp->Prop)->TS) (K:PySem.W.Frag) (M:Addr) (i:Nat) (th:TS):TS:=fun D σ H =>
 tb (fun σ1 C H1=>PySem.W.exmOne K (.ref C) (.ref M)=some true/\∀ x,H1 x=none->th { nx:=fun σ2 H2=>D.nx (σ2.set i none) H2,rt:=D.rt,bk:=fun σ2 H2=>D.bk (σ2.set i none) H2,ct:=fun σ2 H2=>D.ct (σ2.set i none) H2 } (σ1.set i (some (.ref x))) (upd H1 x (HO.exc x C))) D σ H
theorem zqC {body:List Stmt} {b0:Stmt} {suite:List Stmt} {y n:Str} {np hpos pos:Pos} {M:Addr} {i:Nat} {tb:(St->Addr->Hp->Prop)->TS} {th:TS} (hc:X.calm=true) (hex:X.ex=[]) (hstk:X.stack=X.env::X.outer) (hfr:X.env.frame=some X.env.locals)
  (hN:X.N.Nodup) (hi:X.N[i]?=some n) (hk:X.env.scope.names.lookup n=some .local) (hg:Gl X y) (hm:X.mg y=some (.ref M))
  (hb:∀ pn T,PSs (zjP X pn T) body (tb T)) (hh:∀ pn x,PSs (zik X pn x) (b0::suite) th) (hdb:(y == ("__debug__":Str))=false:=by decide) :
  PS X (.Try body [.ExceptHandler (some (.Name y np)) (some n) (b0::suite) hpos] [] [] pos) (tTry tb X.K M i th):=by
 intro pins s σ H D I h;refine wpAny_Try_except ?_;refine wpAny_mono (hb (X.pn++pins) _ [] s σ H D I.toPn.tryOf h) (fun f s1 q=>?_) fun e s1 q=>?_
 ·have q:=q.ofTry;cases f with
  | next=>exact wpAny_execs_nil q
  | brk=>exact q
  | cont=>exact q
  | ret u=>exact q
 ·obtain⟨x,C,σ1,H1,rfl,⟨B,hr,a0,I1,fl,up,hnew,bb,cov⟩,hit,hth⟩:=q;have hframes:X.A.frames=some (X.env::X.outer):=by rw [← hstk];exact I.ok.frames
  have fl:Heap.FlyingW B (X.env::X.outer) x (.ref C) a0 s1.heap:=by rw [← hstk];exact fl
  refine wpAny_looks_onW hframes hfr fl fun h2 held up2=>?_
  refine wpAny_landsW held fun h3 fl3 up3=>?_
  have fl3':Heap.FlyingW B X.stack x (.ref C) a0 h3:=by rw [hstk];exact fl3
  have I3:Inv { X with pn:=X.pn++pins } [] σ1 H1 { s1 with heap:=h3 }:=I1.flown fl3'.2.2.1 fl3'.1 ((up.trans up2).trans up3) bb cov;have I3':Inv (zik X (X.pn++pins) x) [] σ1 H1 { s1 with heap:=h3 }:=I3.hanOf;obtain⟨ob,hob,hobc⟩:=fl3.there;refine wpAny_handleBy_cons (codeAny_handlers_test (zdm (X:=zik X (X.pn++pins) x) (s:={ s1 with heap:=h3 }) I3' hg hm ?_ hdb)) (by intro q;cases q);refine (PySem.W.exm_one (K:=X.K) (h:=h3) I3.kIn (zfB.type ⟨ob,hob,hobc⟩) hit) _ _ _ _ (fun _ _ z=>z) ?_;refine codeAny_handlers_suite_as ?_;refine lands_againW (s:={ s1 with heap:=h3 }) fl3' fun h4 fl4 up4=>?_
  have I4:Inv { X with pn:=X.pn++pins } [] σ1 H1 { s1 with heap:=h4 }:=I1.flown fl4.2.2.1 fl4.1 (((up.trans up2).trans up3).trans up4) bb cov;have hx1:H1 x=none:=by
   cases e:H1 x with
   | none=>rfl
   | some u =>
    exfalso
    have q:=I1.hok x u e;cases u with
    | lst xs=>obtain⟨_,_,_,_,e⟩:=q;rw [hnew] at e;cases e
    | tup xs=>obtain⟨_,_,_,o,h1,_⟩:=q;rw [hnew] at h1;cases h1
    | dK kvs=>obtain⟨_,_,_,_,o,_,_,e,_⟩:=q;rw [hnew] at e;cases e
    | dT kvs=>obtain⟨_,_,_,_,o,_,_,e,_⟩:=q;rw [hnew] at e;cases e
    | set S n=>obtain⟨o,_,_,_,e,_⟩:=q;rw [hnew] at e;cases e
    | ins C dx fs=>obtain⟨_,_,_,e,_⟩:=q;rw [hnew] at e;cases e
    | own y=>obtain⟨_,e⟩:=q;rw [hnew] at e;cases e
    | xd fs=>obtain⟨_,⟨_,_,_,e,_⟩,_⟩:=q;rw [hnew] at e;cases e
    | rng lo hi=>obtain⟨_,_,_,e⟩:=q;rw [hnew] at e;cases e
    | frz ob u=>obtain⟨e,_⟩:=q;rw [hnew] at e;cases e
    | tbl ps=>have q:hr.get? x=some _:=q;rw [hnew] at q;cases q
    | met f y=>have q:hr.get? x=some _:=q;rw [hnew] at q;cases q
    | ext φ=>obtain⟨_,⟨_,e⟩,_⟩:=q;rw [hnew] at e;cases e
  obtain⟨oe,vs4,hoe,hoec,_,_⟩:=fl4.first;have I5:Inv { X with pn:=X.pn++pins } [] σ1 (upd H1 x (HO.exc x C)) { s1 with heap:=h4 }:=by
   refine I4.track ?_ hx1 (fun z=>?_) (fun y c e z=>?_) (fun p hp z=>?_) (zrw ⟨oe,hoe,hoec⟩)
   ·cases e:X.s₀.heap.get? x with
    | none=>rfl
    | some o =>
     obtain⟨o',e'⟩:=I1.base.there x o e (by show x ∉ X.ex;rw [hex];simp);rw [hnew] at e';cases e'
   ·obtain⟨_,⟨o,_,_,ho,_⟩,_⟩:=I1.loc;rw [z] at hnew;have ho:hr.get? X.env.locals=some o:=ho;rw [hnew] at ho;cases ho
   ·obtain⟨v,o,ho,_⟩:=I1.cell y c e;have ho:hr.get? c=some o:=ho;rw [z,hnew] at ho;cases ho
   ·have:=(I1.pin p hp).1
    have this:hr.get? p.1=some p.2:=this;rw [z,hnew] at this;cases this
  have I5':Inv (zik X (X.pn++pins) x) [] σ1 (upd H1 x (HO.exc x C)) { s1 with heap:=h4 }:=I5.hanOf;refine zeC (X:=zik X (X.pn++pins) x) (s:={ s1 with heap:=h4 }) I5' hN hi (.inl hk) (show zaY (V.ref x) (Value.ref x) from rfl) (fun s5 I6=>?_) (.inr hk);refine wpAny_mono (hh (X.pn++pins) x [] s5 _ _ _ I6 (hth x hx1)) (fun f s6 q=>?_) fun _ _ z=>z.elim
  have hcal:X.calm=true->X.A.handled=none:=I.ok.hd;cases f with
  | next =>
   obtain⟨σ',H',I7,q⟩:=q;exact zdw (I7.ofHan hcal).ofPn hN hi hk fun s8 I8=>⟨_,H',I8,q⟩
  | brk =>
   obtain⟨σ',H',I7,q⟩:=q;exact zdw (I7.ofHan hcal).ofPn hN hi hk fun s8 I8=>⟨_,H',I8,q⟩
  | cont =>
   obtain⟨σ',H',I7,q⟩:=q;exact zdw (I7.ofHan hcal).ofPn hN hi hk fun s8 I8=>⟨_,H',I8,q⟩
  | ret u =>
   obtain⟨v,σ',H',I7,r,q⟩:=q;exact zdw (I7.ofHan hcal).ofPn hN hi hk fun s8 I8=>⟨v,_,H',I8,r,q⟩
end
end
end L2
end
section
namespace L2
open PySem PySem.Spec PyProof.Rows
theorem PE.imp {X:Cx} {e:Expr} {t t':TE} (h:PE X e t) (i:∀ σ H Q,t' σ H Q->t σ H Q):PE X e t':=fun pins s σ H Q I q=>h pins s σ H Q I (i σ H Q q)
theorem OpR.imp {X:Cx} {f:Value->Value->Sem Value} {r r':R2} (h:OpR X f r) (i:∀ x y H Q,r' x y H Q->r x y H Q):OpR X f r':=fun pins s σ H x y v u Q I rx ry q=>h pins s σ H x y v u Q I rx ry (i x y H Q q)
theorem za9.imp {X:Cx} {f:Value} {r r':List V->Hp->VK->Prop} (h:za9 X f r) (i:∀ xs H Q,r' xs H Q->r xs H Q):za9 X f r':=fun pins s σ H xs us Q I rx q=>h pins s σ H xs us Q I rx (i xs H Q q)
@[irreducible] def ifB (b:Bool) (p q:Prop):Prop:=if b=true then p else q
theorem zfF (b:Bool) (p q:Prop):ifB b p q=(if b=true then p else q):=by unfold ifB;rfl
theorem ifB.mk {b:Bool} {p q:Prop} (h1:b=true->p) (h2:b=false->q):ifB b p q:=by
 rw [zfF];cases b with
 | true=>rw [zsB rfl];exact h1 rfl
 | false=>rw [zsA zsI];exact h2 rfl
theorem ifB.yes {b:Bool} {p q:Prop} (e:b=true) (h:p):ifB b p q:=ifB.mk (fun _=>h) fun z=>by rw [e] at z;cases z
theorem ifB.no {b:Bool} {p q:Prop} (e:b=false) (h:q):ifB b p q:=ifB.mk (fun z=>by rw [e] at z;cases z) fun _=>h
theorem ifB.dec {c:Prop} [Decidable c] {p q:Prop} (h1:c->p) (h2:¬ c->q):ifB (decide c) p q:=ifB.mk (fun z=>h1 (zsH z)) fun z=>h2 (of_decide_eq_false z)
def tV (i:Nat):TE:=fun σ H Q=>match σ[i]? with | some (some v)=>Q v H | _=>False
def bV (x:V) (Q:Bool->Prop):Prop:=match x with | .bl k=>Q k | _=>False
def cT (t:TE):TT:=fun σ H Q=>t σ H fun x H'=>bV x fun k=>Q k H'
def cI (f:Int->Int->V):R2:=fun x y H Q=>match x,y with | .int i,.int j=>Q (f i j) H | _,_=>False
def cL (C:Int->Int->Prop) (f:Int->Int->Int) (F:Int->Int->Int->Prop):R2:=fun x y H Q=>match x,y with | .int i,.int j=>C i j/\∀ m,m=f i j->F i j m->Q (.int m) H | _,_=>False
abbrev CMod (_ j:Int):Prop:=0<j
theorem cpow {i j:Int} (h:(decide (0<=j) && decide (j<=1000000) && decide (i.natAbs<2 ^ 64))=true):zqR i j:=by
 simp only [Bool.and_eq_true,decide_eq_true_eq] at h;exact⟨h.1.1,h.1.2,h.2⟩
abbrev zqd (_ j:Int):Prop:=0<j/\j.natAbs.log2<9000
def zmU (neg:Bool):R2:=fun x y H Q=>match x,y with
 | .int i,.int j=>Q (.bl (if neg then !decide (i=j) else decide (i=j))) H
 | .str i,.str j=>Q (.bl (if neg then !decide (i=j) else decide (i=j))) H
 | .bl i,.bl j=>Q (.bl (if neg then !decide (i=j) else decide (i=j))) H
 | _,_=>False
section
variable {X:Cx} {a b:Expr} {ta tb:TE} {pos:Pos}
theorem zpz {i:Nat} {σ:St} {H:Hp} {Q:VK} (h:tV i σ H Q):tVar i σ H Q:=by
 unfold tV at h;split at h
 ·rename_i v e;exact⟨v,e,h⟩
 ·exact h.elim
theorem qv (i:Nat) {x:Str} {pos:Pos} (hN:X.N[i]?=some x:=by rfl) (hv:Vis X.env.scope x:=by first | exact Or.inl rfl | exact Or.inr (Or.inl rfl) | exact Or.inr (Or.inr rfl)) (hd:(x == ("__debug__":Str))=false:=by decide)
  (hcd:(x == ("__classdict__":Str))=false:=by decide):PE X (.Name x pos) (tV i):=(zqH hN hv hd hcd).imp fun _ _ _ h=>zpz h
theorem zkh {f:Int->Int->V} {x y:V} {H:Hp} {Q:VK} (h:cI f x y H Q):rI0 f x y H Q:=by
 unfold cI at h;split at h
 ·exact⟨_,_,rfl,rfl,h⟩
 ·exact h.elim
theorem zc6:OpR X (binaryOp .Add) (cI fun i j=>.int (i+j)):=zpm.imp fun _ _ _ _=>zkh
theorem zjV:OpR X (binaryOp .Sub) (cI fun i j=>.int (i-j)):=zpd.imp fun _ _ _ _=>zkh
theorem zmG {C:Int->Int->Prop} {f:Int->Int->Int} {F:Int->Int->Int->Prop} (hF:∀ i j,C i j->F i j (f i j)) {x y:V} {H:Hp} {Q:VK} (h:cL C f F x y H Q):rI C (fun i j=>.int (f i j)) x y H Q:=by
 unfold cL at h;split at h
 ·exact⟨_,_,rfl,rfl,h.1,h.2 _ rfl (hF _ _ h.1)⟩
 ·exact h.elim
theorem zhz:OpR X (binaryOp .Mult) (cL zqJ (fun i j=>i*j) fun _ _ _=>True):=zpS.imp fun _ _ _ _=>zmG fun _ _ _=>trivial
theorem zkK:OpR X (binaryOp .Mod) (cL CMod (fun i j=>i % j) fun _ j m=>0<=m/\m<j):=zqv.imp fun _ _ _ _ h=>zmG (fun i j hj=>⟨Int.emod_nonneg _ (by have:0<j:=hj;omega),Int.emod_lt_of_pos _ hj⟩) h
theorem zqe:OpR X (binaryOp .FloorDiv) (cL zqd (fun i j=>i / j) fun _ _ _=>True):=by
 intro pins s σ H x y v u Q I rx ry h;obtain⟨i,j,rfl,rfl,⟨h0,h1⟩,q⟩:=zmG (fun _ _ _=>trivial) h;obtain⟨t,rfl⟩:=rx;obtain⟨t',rfl⟩:=ry;refine floordiv_int (by omega) ?_ (.inl (PyProof.noPylong_of_log2 h1));rw [Int.fdiv_eq_ediv_of_nonneg _ (by omega)];exact⟨.int _,H,I.tok _,⟨_,rfl⟩,q⟩
theorem zpJ:OpR X (binaryOp .Pow) (cL zqR (fun i j=>i ^ j.toNat) fun _ _ _=>True):=zpf.imp fun _ _ _ _=>zmG fun _ _ _=>trivial
theorem zqO:OpR X (compareOp .Lt) (cI fun i j=>.bl (decide (i<j))):=zrQ.imp fun _ _ _ _=>zkh
theorem zhN:OpR X (compareOp .LtE) (cI fun i j=>.bl (decide (i<=j))):=zq9.imp fun _ _ _ _=>zkh
theorem zrP:OpR X (compareOp .Gt) (cI fun i j=>.bl (decide (j<i))):=zrN.imp fun _ _ _ _=>zkh
theorem zrS:OpR X (compareOp .GtE) (cI fun i j=>.bl (decide (j<=i))):=zrC.imp fun _ _ _ _=>zkh
theorem dI {i j:Int}:decide (i=j)=(i == j):=by rw [Bool.eq_iff_iff];simp
theorem dB {i j:Bool}:decide (i=j)=(i == j):=by rw [Bool.eq_iff_iff];simp
theorem dS {i j:Str}:decide (i=j)=(i == j):=by rw [Bool.eq_iff_iff];simp
theorem zj6 {p q:Prop} (h:ifB true p q):p:=by rw [zfF,zsB rfl] at h;exact h
theorem zjK {p q:Prop} (h:ifB false p q):q:=by rw [zfF,zsA zsI] at h;exact h
theorem zdl:OpR X (compareOp .Eq) (zmU false):=by
 intro pins s σ H x y v u Q I rx ry h;unfold zmU at h;split at h
 ·obtain⟨t,rfl⟩:=rx;obtain⟨t',rfl⟩:=ry;exact SeqAt.RcAt.int_int _ t _ t' _ _ _ _ (zes I h (by rw [zsA (by decide)];exact dI))
 ·obtain⟨t,rfl⟩:=rx;obtain⟨t',rfl⟩:=ry;exact SeqAt.RcAt.str_str _ t _ t' _ _ _ _ (zes I h (by rw [zsA (by decide)];exact dS))
 ·cases rx;cases ry;exact SeqAt.RcAt.bool_bool _ _ _ _ _ _ (zes I h (by rw [zsA (by decide)];exact dB))
 ·exact h.elim
theorem zqS:OpR X (compareOp .NotEq) (zmU true):=by
 intro pins s σ H x y v u Q I rx ry h;unfold zmU at h;split at h
 ·obtain⟨t,rfl⟩:=rx;obtain⟨t',rfl⟩:=ry;exact SeqAt.RcNeAt.int_int _ t _ t' _ _ _ _ (zes I h (by rw [zsB rfl,dI]))
 ·obtain⟨t,rfl⟩:=rx;obtain⟨t',rfl⟩:=ry;exact SeqAt.RcNeAt.str_str _ t _ t' _ _ _ _ (zes I h (by rw [zsB rfl,dS]))
 ·cases rx;cases ry;exact SeqAt.RcNeAt.bool_bool _ _ _ _ _ _ (zes I h (by rw [zsB rfl,dB]))
 ·exact h.elim
def cNeg:V->Hp->VK->Prop:=fun x H Q=>match x with | .int i=>Q (.int (-i)) H | _=>False
theorem zkb:UnR X (unaryOp .USub) cNeg:=by
 intro pins s σ H x v Q I rx h;refine zqF pins s σ H x v Q I rx ?_;unfold cNeg at h;split at h
 ·exact⟨_,rfl,h⟩
 ·exact h.elim
theorem zgY {x:V} {Q:Bool->Prop} (h:bV x Q):∃ k,x=.bl k/\Q k:=by
 cases x with
 | bl k=>exact⟨k,rfl,h⟩
 | _=>exact False.elim h
theorem zlT {e:Expr} {t:TE} (h:PE X e t) (he:∀ whole,isTrue e X.env whole=(do let v ← whole;standAt e.pos;holding [v] (truthy v)):=by intro _;rfl):PT X e (cT t):=by
 intro pins s σ H Q I hw;rw [he];refine wpAny_bind (thn (h pins s σ H _ I hw) fun v s1 ⟨x,H1,I1,r1,q1⟩=>wpAny_bind (wpAny_standAt (wpAny_holding ?_)));obtain⟨k,rfl,q⟩:=zgY q1;cases r1;exact wpAny_truthy_bool ⟨H1,I1,q⟩
theorem zbv {op:CmpOp} {r:R2} (ho:OpR X (compareOp op) r) (ha:PE X a ta) (hb:PE X b tb) (hm:behindInMarks op b=false:=by first | exact zda _ | rfl):PT X (.Compare a [op] [b] pos) (cT (tOp r ta tb)):=by
 intro pins s σ H Q I hw;refine wpAny_isTrue_Compare1 (thn (ha pins s σ H _ I hw) fun v s1 ⟨x,H1,I1,r1,q1⟩=>thn (hb pins s1 σ H1 _ I1 q1) fun u s2 ⟨y,H2,I2,r2,q2⟩ =>
  thn (ho pins s2 σ H2 x y v u _ I2 r1 r2 q2) fun c s3 ⟨z,H3,I3,r3,q3⟩=>?_) hm
 obtain⟨k,rfl,q⟩:=zgY q3;cases r3;exact wpAny_truthy_bool ⟨H3,I3,q⟩
def znM (r r':R2) (ta tb tc:TE):TE:=fun σ H Q=>ta σ H fun x H1=>tb σ H1 fun y H2=>r x y H2 fun z H3=>bV z fun k=>ifB k (tc σ H3 fun u H4=>r' y u H4 Q) (Q (.bl false) H3)
theorem zpG {op op':CmpOp} {r r':R2} {c:Expr} {tc:TE} (ho:OpR X (compareOp op) r) (ho':OpR X (compareOp op') r') (ha:PE X a ta) (hb:PE X b tb) (hc:PE X c tc)
  (hm:lastMarks [op,op'] [b,c]=false:=by with_unfolding_all rfl):PE X (.Compare a [op,op'] [b,c] pos) (znM r r' ta tb tc):=by
 intro pins s σ H Q I h;refine Compare_chain (thn (ha pins s σ H _ I h) fun v s1 ⟨x,H1,I1,r1,q1⟩=>chain_link (thn (hb pins s1 σ H1 _ I1 q1) fun u s2 ⟨y,H2,I2,r2,q2⟩ =>
  thn (ho pins s2 σ H2 x y v u _ I2 r1 r2 q2) fun d s3 ⟨z,H3,I3,r3,q3⟩=>?_)) hm
 obtain⟨k,rfl,q⟩:=zgY q3;cases r3;refine wpAny_truthy_bool ?_;cases k with
 | false=>exact ite_ff ⟨.bl false,H3,I3,rfl,zjK q⟩
 | true=>exact ite_tt (chain_last (thn (hc pins s3 σ H3 _ I3 (zj6 q)) fun w' s4 ⟨z',H4,I4,r4,q4⟩=>ho' pins s4 σ H4 y z' u w' Q I4 r2 r4 q4))
theorem zmD {op op':CmpOp} {r r':R2} {c:Expr} {tc:TE} (ho:OpR X (compareOp op) r) (ho':OpR X (compareOp op') r') (ha:PE X a ta) (hb:PE X b tb) (hc:PE X c tc)
  (hm:lastMarks [op,op'] [b,c]=false:=by with_unfolding_all rfl):PT X (.Compare a [op,op'] [b,c] pos) (cT (znM r r' ta tb tc)):=by
 intro pins s σ H Q I h;refine isTrue_chain (thn (ha pins s σ H _ I h) fun v s1 ⟨x,H1,I1,r1,q1⟩=>test_link (thn (hb pins s1 σ H1 _ I1 q1) fun u s2 ⟨y,H2,I2,r2,q2⟩ =>
  thn (ho pins s2 σ H2 x y v u _ I2 r1 r2 q2) fun d s3 ⟨z,H3,I3,r3,q3⟩=>?_)) hm
 obtain⟨k,rfl,q⟩:=zgY q3;cases r3;refine wpAny_truthy_bool ?_;cases k with
 | false=>exact ite_ff ⟨H3,I3,zjK q⟩
 | true =>
  refine ite_tt (test_last (thn (hc pins s3 σ H3 _ I3 (zj6 q)) fun w' s4 ⟨z',H4,I4,r4,q4⟩=>thn (ho' pins s4 σ H4 y z' u w' _ I4 r2 r4 q4) fun d' s5 ⟨z2,H5,I5,r5,q5⟩=>?_));obtain⟨k2,rfl,q6⟩:=zgY q5;cases r5;exact wpAny_truthy_bool ⟨H5,I5,q6⟩
def cIf (c:TT) (t u:TS):TS:=fun D σ H=>c σ H fun b H1=>ifB b (t D σ H1) (u D σ H1)
theorem zbA {c:Expr} {a b:List Stmt} {tc:TT} {t u:TS} {pos:Pos} (hc:PT X c tc) (ha:PSs X a t) (hb:PSs X b u):PS X (.If c a b pos) (cIf tc t u):=by
 intro pins s σ H D I h;refine wpAny_If (thn (hc pins s σ H _ I h) fun d s1 ⟨H1,I1,q1⟩=>?_);cases d with
 | true=>exact ha pins s1 σ H1 D I1 (zj6 q1)
 | false=>exact hb pins s1 σ H1 D I1 (zjK q1)
def cAnd (t u:TT):TT:=fun σ H Q=>t σ H fun c H1=>ifB c (u σ H1 Q) (Q false H1)
def cOr (t u:TT):TT:=fun σ H Q=>t σ H fun c H1=>ifB c (Q true H1) (u σ H1 Q)
section
variable {rest:List Expr} {tA tB:TT}
theorem zeP (ha:PT X a tA):PW X (.BoolOp .And [a] pos) tA:=zom ha
theorem znK (ha:PT X a tA):PW X (.BoolOp .Or [a] pos) tA:=zpM ha
theorem zeZ (ha:PT X a tA) (hb:PW X (.BoolOp .And (b::rest) pos) tB):PW X (.BoolOp .And (a::b::rest) pos) (cAnd tA tB):=by
 intro whole pins s σ H Q I h;exact zpy (X:=X) (tA:=fun σ H Q=>tA σ H fun c H1=>Q c H1) (tB':=tB) ha hb whole pins s σ H Q I (by
  have e:(fun (c:Bool) (H1:Hp)=>if c=true then tB σ H1 Q else Q false H1)=fun c H1=>ifB c (tB σ H1 Q) (Q false H1):=by funext c H1;rw [zfF]
  show tA σ H (fun (c:Bool) (H1:Hp)=>if c=true then tB σ H1 Q else Q false H1);rw [e];exact h)
theorem znq (ha:PT X a tA) (hb:PW X (.BoolOp .Or (b::rest) pos) tB):PW X (.BoolOp .Or (a::b::rest) pos) (cOr tA tB):=by
 intro whole pins s σ H Q I h;exact zrc (X:=X) (tA:=fun σ H Q=>tA σ H fun c H1=>Q c H1) (tB':=tB) ha hb whole pins s σ H Q I (by
  have e:(fun (c:Bool) (H1:Hp)=>if c=true then Q true H1 else tB σ H1 Q)=fun c H1=>ifB c (Q true H1) (tB σ H1 Q):=by funext c H1;rw [zfF]
  show tA σ H (fun (c:Bool) (H1:Hp)=>if c=true then Q true H1 else tB σ H1 Q);rw [e];exact h)
def zrT (ta tb:TE):TE:=fun σ H Q=>ta σ H fun x H1=>bV x fun c=>ifB c (tb σ H1 Q) (Q (.bl false) H1)
theorem zfb (ha:PE X a ta) (hb:PE X (.BoolOp .And (b::rest) pos) tb):PE X (.BoolOp .And (a::b::rest) pos) (zrT ta tb):=by
 intro pins s σ H Q I h;refine BoolOp_and (thn (ha pins s σ H _ I h) fun v s1 ⟨x,H1,I1,r1,q1⟩=>?_);obtain⟨c,rfl,q1⟩:=zgY q1;cases r1;refine wpAny_truthy_bool ?_;cases c with
 | true=>exact hb pins s1 σ H1 Q I1 (zj6 q1)
 | false=>exact⟨.bl false,H1,I1,rfl,zjK q1⟩
end
def cIfE (t:TT) (ta tb:TE):TE:=fun σ H Q=>t σ H fun c H1=>ifB c (ta σ H1 Q) (tb σ H1 Q)
theorem znp {c:Expr} {tc:TT} (hc:PT X c tc) (ha:PE X a ta) (hb:PE X b tb):PE X (.IfExp c a b pos) (cIfE tc ta tb):=by
 intro pins s σ H Q I h;refine zmy hc ha hb pins s σ H Q I ?_;have e:(fun (c:Bool) (H1:Hp)=>if c=true then ta σ H1 Q else tb σ H1 Q)=fun c H1=>ifB c (ta σ H1 Q) (tb σ H1 Q):=by funext c H1;rw [zfF]
 show tc σ H (fun (c:Bool) (H1:Hp)=>if c=true then ta σ H1 Q else tb σ H1 Q);rw [e];exact h
end
end L2
end
section
namespace L2
open PySem PySem.Spec PyProof.Rows
theorem zcn:bootBuiltins "len"=some (.builtin "len"):=by decide +kernel
theorem zng:bootBuiltins "abs"=some (.builtin "abs"):=by decide +kernel
theorem zdx:bootBuiltins "isinstance"=some (.builtin "isinstance"):=by decide +kernel
theorem znb:bootBuiltins "all"=some (.builtin "all"):=by decide +kernel
theorem zg8:bootBuiltins "min"=some (.builtin "min"):=by decide +kernel
theorem zjc:bootBuiltins "max"=some (.builtin "max"):=by decide +kernel
theorem zdP:bootBuiltins "sorted"=some (.builtin "sorted"):=by decide +kernel
theorem zim:bootBuiltins "list"=some (.type "list"):=by decide +kernel
theorem ziQ:bootBuiltins "tuple"=some (.type "tuple"):=by decide +kernel
theorem zoV:bootBuiltins "dict"=some (.type "dict"):=by decide +kernel
theorem zhI:bootBuiltins "enumerate"=some (.type "enumerate"):=by decide +kernel
theorem zpQ {H:Hp} {a p:Addr} {o u:HO} (h:H a=some o) (n:H p=none):upd H p u a=some o:=by rw [zao (zan h n)];exact h
section
variable {X:Cx} {pins:List (Addr × Obj)} {σ:St} {H:Hp} {s:Shared}
theorem Inv.turnedL {h':Heap} {t':Nat} {fp:List Addr} (I:Inv X pins σ H s) (k:∀ b o,b ∉ fp->s.heap.get? b=some o->h'.get? b=some o) (hf:∀ b∈fp,zkj X pins H b):Inv X pins σ H { s with heap:=h',toks:=t' }:=by
 have nit:∀ b u,H b=some u->b ∉ fp:=fun b u e z=>by rw [(hf b z).1] at e;cases e
 refine I.step (g':=s.gens) (d':=s.drawn) (ch:=fp) (fun b hb=>?_) (fun b o _ _ hc e _=>k b o hc e) (fun b o _ _ hc e _=>⟨o.slots,k b o hc e⟩) (fun _ _ _ _ n=>n)
  (fun b o hc e=>⟨o,k b o hc e⟩) (fun _ _ e=>e) (fun _ _ _ e=>e) (fun b ps e=>⟨#[],by rw [e];simp⟩) (fun m hm=>?_) (fun b u e=>?_) I.bare
 ·obtain⟨f0,f1,f2,f3,f4,f5⟩:=hf b hb;exact⟨f3,f1,f4,f5⟩
 ·obtain⟨o,es,ep,ho,r⟩:=hm;exact⟨o,es,ep,k _ o (fun z=>(hf _ z).2.1 rfl) ho,r⟩
 ·refine (I.hok b u e).stay (fun c v hc q=>k c v ?_ q) (fun _ q=>q) fun _ _ q=>q
  rcases hc with z | z
  ·rw [z];exact nit b u e
  ·exact nit c _ z
theorem Inv.trackNew {s':Shared} {p:Addr} {o:HO} (I:Inv X pins σ H s) (I':Inv X pins σ H s') (hp:s.heap.objs.size<=p) (new:zaQ X.prog X.w (upd H p o) s'.heap p o):H p=none/\Inv X pins σ (upd H p o) s':=by
 have hn:=I.hok.fresh hp;refine⟨hn,I'.track (Heap.get?_none_of_le (zsd I.sz hp)) hn (Ne.symm (zsG (zsf I.lt hp))) (fun y c e z=>?_) (fun q hq z=>?_) new⟩
 ·obtain⟨v,o,ho,_⟩:=I.cell y c e;exact absurd (zsf (zso ho) (by rw [z];exact hp)) (Nat.lt_irrefl _)
 ·exact absurd (zsf (zso (I.pin q hq).1) (by rw [z];exact hp)) (Nat.lt_irrefl _)
end
def Ite (K:PySem.W.Frag) (a:Addr):It where
 go:=fun i H=>∃ xs x,SqL K H a xs/\xs[i]?=some x
 yld:=fun i H v H'=>∃ p x,H p=none/\v=.ref p/\H'=upd H p (.tup [.int i,x])/\∀ ys,SqL K H a ys->ys[i]?=some x
 stop:=fun i H=>∃ xs,SqL K H a xs/\xs.length<=i
theorem zkx {P:Program} {w:World} {K:PySem.W.Frag} {elts:List Expr} {x1:Nat} {tp:Pos} (a e it:Addr) (hei:e≠it):znf P w K (.Tuple elts x1 tp) (Ite K a) [e,it] e (fun i h=>(∃ old,IsEnum h e it i old)/\h.IsListIter it a i) where
 mem:=by simp
 obj:=fun i h st b hb=>by
  obtain⟨⟨old,he⟩,o,ho,hc,hd⟩:=st;rcases zsF.mp hb with z | z
  ·subst z;exact⟨_,he,fun v z=>by
    have z':Data.fields _=Data.cell v:=z;cases z'⟩
  ·have z:b=it:=by simpa using z
   subst z;exact⟨o,ho,fun v z=>by rw [hd] at z;cases z⟩
 keep:=fun i h h' st k=>⟨let ⟨old,he⟩:=st.1;⟨old,k e (by simp) _ he⟩,st.2.at fun o q=>k it (by simp) o q⟩
 item:=by
  intro X hP hw hK hc i pins s σ H E I hf st hg;subst hP hw hK;obtain⟨xs,x,hq,hx⟩:=hg;obtain⟨its,rv,p,hz⟩:=I.list hq;obtain⟨u,hu,ru⟩:=rv.get hx;obtain⟨⟨old,he⟩,hit⟩:=st;refine wpAny_pyNext_enum_item he hit p.isList (x:=u) (by simpa using hu) hei fun h1 he1 hit1 ht1 hz1 hk1=>⟨_,rfl,?_⟩
  refine wpAny_letOwnedTupleGo_enum he1 fun h2 he2 hs2=>?_
  have hs2:Heap.SameBut e h1 h2:=hs2;have hlt:e<s.heap.objs.size:=zso he;have hk2:∀ b o,b ∉ [e,it]->s.heap.get? b=some o->h2.get? b=some o:=fun b o hb q=>by
   simp only [zsF,List.not_mem_nil,or_false,not_or] at hb;exact hs2.extBut b o hb.1 (hk1 b o hb.1 hb.2 q)
  have I2:Inv X pins σ H { s with heap:=h2,toks:=s.toks+1 }:=I.turnedL hk2 hf;have ht2:h2.get? s.heap.objs.size=some { cls:=.type "tuple",data:=.seq #[.int i s.toks,u] }:=hs2.extBut _ _ (Nat.ne_of_gt hlt) ht1;obtain⟨hn,I3⟩:=I.trackNew (o:=.tup [.int i,x]) I2 (zse _) ⟨by show 2<=sizeLine;decide,[.int i s.toks,u],.cons ⟨_,rfl⟩ (.cons ru .nil),⟨_,ht2,rfl,_,rfl,rfl⟩⟩;refine⟨.ref s.heap.objs.size,_,I3,rfl,⟨_,x,hn,rfl,rfl,fun ys hy=>by rw [I.list_inj hy hq];exact hx⟩,⟨⟨u,?_⟩,?_⟩,fun b hb=>?_⟩
  ·have:((i+1:Nat):Int)=(i:Int)+1:=by push_cast;rfl
   rw [this];exact he2
  ·exact hit1.extBut hs2.extBut (Ne.symm hei)
  ·obtain⟨o,ho,_⟩:=id hit;have hb':b<s.heap.objs.size:=by
    rcases zsF.mp hb with z | z
    ·rw [z];exact hlt
    ·have z:b=it:=by simpa using z
     obtain⟨oi,hoi,_⟩:=id hit;rw [z];exact zso hoi
   rw [zao (zsG hb')];exact (hf b hb).1
 done:=by
  intro X hP hw hK hc i pins s σ H E I hf st hg;subst hP hw hK;obtain⟨xs,hq,hx⟩:=hg;obtain⟨its,rv,p,hz⟩:=I.list hq;obtain⟨⟨old,he⟩,hit⟩:=st;have hl:=rv.length;refine wpAny_pyNext_enum_end (I.ok.hd hc) he hit p.isList (by simp;omega) fun h' eb=>⟨rfl,I.turnedL (t':=s.toks) (fun b o hb q=>eb b o (fun z=>hb (by simp [z])) q) hf⟩
 self:=fun _ _ _ _ _ st h=>by obtain⟨⟨old,he⟩,_⟩:=st;exact wpAny_pyIter_enum he h
section
variable {X:Cx}
def zqD (K:PySem.W.Frag) (ta:TA):TI:=fun σ H R=>ta σ H fun vs H1=>match vs with | [.ref a]=>(∃ xs,SqL K H1 a xs)/\R (Ite K a) H1 | _=>False
theorem zd6 {a:Expr} {ta:TA} {p pos:Pos} {elts:List Expr} {x1:Nat} {tp:Pos} (hg:Gl X "enumerate") (hm:X.mg "enumerate"=none) (ha:PA X [a] ta) (hs:starEach [a] X.env=[(false,eval a X.env)]:=by rfl):PI X (.Tuple elts x1 tp) (.Call (.Name "enumerate" p) [a] [] pos) (zqD X.K ta):=by
 intro pins s σ H R I h;refine Call_ (zf3 I hg hm zhI (PyProof.Rows.callWith_type1 (thn (ha pos pins s σ H _ I h) fun us s1 ⟨vs,H1,I1,r1,q1⟩=>?_) hs rfl));obtain⟨l,rfl,hq,q⟩:∃ l,vs=[.ref l]/\(∃ xs,SqL X.K H1 l xs)/\R (Ite X.K l) H1:=by
  dsimp only at q1;split at q1
  ·exact⟨_,rfl,q1⟩
  ·exact q1.elim
 obtain⟨xs,hq⟩:=hq;cases r1 with
 | cons r rr =>
  cases rr;cases r;obtain⟨its,rv,pl,hz⟩:=I1.list hq;refine call_enumerate_list pl.isList fun h' he hit hsz hk=>?_
  refine wpAny_pyIter_enum he ?_;have I2:Inv X pins σ H1 { s1 with heap:=h' }:=I1.kept (t':=s1.toks) hk;refine⟨s1.heap.objs.size+1,[s1.heap.objs.size+1,s1.heap.objs.size],_,_,H1,rfl,I2,zkx l _ _ (Nat.succ_ne_self _),⟨⟨_,he⟩,hit⟩,fun b hb=>?_,q⟩;rcases zsF.mp hb with z | z
  ·subst z;exact I1.fpOk (Nat.le_succ _) (I1.hok.fresh (Nat.le_succ _))
  ·have z:b=s1.heap.objs.size:=by simpa using z
   subst z;exact I1.fpOk (zse _) (I1.hok.fresh (zse _))
end
theorem ziJ {K:PySem.W.Frag} {a:Addr} {xs:List V} {g:TG} {tb:TS} {D:zlo} {σ:St} {H:Hp} (Pv:Nat->St->Hp->Prop) (h0:Pv 0 σ H) (hl:∀ i σ H,i<=xs.length->Pv i σ H->SqL K H a xs)
  (hs:∀ i x σ H p,xs[i]?=some x->Pv i σ H->H p=none->g (.ref p) σ (upd H p (.tup [.int i,x])) fun σ2 H2=>tb { D with nx:=Pv (i+1),ct:=Pv (i+1),bk:=D.nx } σ2 H2) (hd:∀ σ H,Pv xs.length σ H->D.nx σ H) :
  ∃ W:Nat->Nat->St->Hp->Prop,(∃ m,W 0 m σ H)/\∀ i m σ H,W i m σ H ->
   ((Ite K a).stop i H/\D.nx σ H)\/((Ite K a).go i H/\∃ N:St->Hp->Prop,(∀ σ' H',N σ' H'->∃ m',m'<m/\W (i+1) m' σ' H')/\∀ x H',(Ite K a).yld i H x H'->g x σ H' fun σ2 H2=>tb { D with nx:=N,ct:=N,bk:=D.nx } σ2 H2):=by
 refine⟨fun i m σ H=>m=xs.length-i/\i<=xs.length/\Pv i σ H,⟨xs.length,by simp,Nat.zero_le _,h0⟩,?_⟩;rintro i m σ H ⟨rfl,hi,p⟩;have q:=hl i σ H hi p;by_cases hlt:i<xs.length
 ·refine .inr ⟨⟨xs,xs[i],q,by simp [hlt]⟩,Pv (i+1),fun σ' H' p'=>⟨xs.length-(i+1),by omega,rfl,hlt,p'⟩,fun x H' y=>?_⟩;obtain⟨pp,z,hn,rfl,rfl,hy⟩:=y;exact hs i z σ H pp (hy xs q) p hn
 ·have e:i=xs.length:=by omega
  subst e;exact .inl ⟨⟨xs,q,zse _⟩,hd σ H p⟩
section
variable {X:Cx}
def zjU:List V->Option (List Str)
 | []=>some []
 | .str x::r=>(zjU r).map (x::·)
 | _=>none
theorem zje:∀ {vs:List V} {us:List Value} {ys:List Str},zaV vs us->zjU vs=some ys->StrsAre us ys
 | _,_,_,.nil,e=>by cases e;exact .nil
 | .str x::vs,u::us,ys,.cons r t,e=>by
  obtain⟨tk,rfl⟩:=r;simp only [zjU,zr1] at e;obtain⟨zs,e1,rfl⟩:=e;exact .cons _ _ (zje t e1)
def znP (K:PySem.W.Frag):V->List V->Hp->VK->Prop:=fun x vs H Q=>match x,vs with
 | .str z,[.ref a]=>∃ xs ys,SqL K H a xs/\zjU xs=some ys/\(ys.map (·.length)).sum+ys.length*z.length<=16777216/\Q (.str (Txt.join z ys)) H
 | _,_=>False
theorem zoy:MtR X "str.join" (znP X.K):=by
 intro pins s σ H x vs v us Q I rx rv h;unfold znP at h;split at h
 ·rename_i z a;obtain⟨xs,ys,hq,hs,hl,q⟩:=h;obtain⟨t,rfl⟩:=rx;cases rv with
  | cons r rr =>
   cases rr;cases r;obtain⟨its,rr,p,_⟩:=I.list hq;exact join_list p.isList (zje rr hs) hl fun t' k=>⟨.str _,H,I.tok _,⟨_,rfl⟩,q⟩
 ·exact h.elim
end
end L2
end
section
namespace L2
open PySem PySem.Spec PyProof.Rows
theorem IxR.imp {X:Cx} {r r':R2} (h:IxR X r) (i:∀ x y H Q,r' x y H Q->r x y H Q):IxR X r':=fun a b pins s σ H x y v u Q I rx ry q e=>h a b pins s σ H x y v u Q I rx ry (i x y H Q q) e
theorem MtR.imp {X:Cx} {id:String} {r r':V->List V->Hp->VK->Prop} (h:MtR X id r) (i:∀ x xs H Q,r' x xs H Q->r x xs H Q):MtR X id r':=fun pins s σ H x xs v us Q I rx rv q=>h pins s σ H x xs v us Q I rx rv (i x xs H Q q)
theorem zo5.imp {X:Cx} {t t':zqm} (h:zo5 X t) (i:∀ o j v H Q,t' o j v H Q->t o j v H Q):zo5 X t':=fun pins s σ H o j v ov iv u Q I ro ri rv q=>h pins s σ H o j v ov iv u Q I ro ri rv (i o j v H Q q)
theorem SlR.imp {X:Cx} {r r':V->Option Int->Option Int->Hp->VK->Prop} (h:SlR X r) (i:∀ x l u H Q,r' x l u H Q->r x l u H Q):SlR X r':=fun pins s σ H x v vl vu lo hi sl Q I rx hs pl pu q=>h pins s σ H x v vl vu lo hi sl Q I rx hs pl pu (i _ _ _ _ _ q)
theorem zag {H H':Hp} {p:Addr} {o:HO} (n:H p=none) (e:upd H p o=H'):Sub H H'/\H' p=some o:=by subst e;exact⟨Sub.new n,zah⟩
def CV (mg:Str->Option Value) (x:Str) (v:V):Prop:=∃ u,mg x=some u/\zaY v u
section
variable {X:Cx} {a b:Expr} {ta tb:TE} {pos:Pos}
theorem zg3 {x:Str} {v:V} {pos:Pos} (hg:Gl X x) (h:CV X.mg x v) (hd:(x == ("__debug__":Str))=false:=by decide):PE X (.Name x pos) (tC v):=by
 obtain⟨u,h1,h2⟩:=h;exact zbO hg h1 h2 hd
def zrX (K:PySem.W.Frag):R2:=fun x y H Q=>match x,y with | .ref p,.int i=>∃ xs v,SqL K H p xs/\atI xs i=some v/\Q v H | _,_=>False
def zrF (K:PySem.W.Frag):R2:=fun x y H Q=>match x,y with | .ref p,.int i=>∃ xs v,SqT K H p xs/\atI xs i=some v/\Q v H | _,_=>False
theorem zrj:IxR X (zrX X.K):=zoE.imp fun x y H Q h=>by
 unfold zrX at h;split at h
 ·obtain⟨xs,v,h1,h2,h3⟩:=h;exact⟨_,xs,_,v,rfl,rfl,h1,h2,h3⟩
 ·exact h.elim
theorem zrO:IxR X (zrF X.K):=zpT.imp fun x y H Q h=>by
 unfold zrF at h;split at h
 ·obtain⟨xs,v,h1,h2,h3⟩:=h;exact⟨_,xs,_,v,rfl,rfl,h1,h2,h3⟩
 ·exact h.elim
def zoW:zqm:=fun o i v H Q=>match o,i with | .ref p,.int k=>∃ xs j,H p=some (.lst xs)/\ixN xs.length k=some j/\Q (upd H p (.lst (xs.set j v))) | _,_=>False
theorem zjs:zo5 X zoW:=zmf.imp fun o i v H Q h=>by
 unfold zoW at h;split at h
 ·obtain⟨xs,j,h1,h2,h3⟩:=h;exact⟨_,xs,_,j,rfl,rfl,h1,h2,h3⟩
 ·exact h.elim
def cCat:R2:=fun x y H Q=>match x,y with | .ref l,.ref b=>∃ xs zs,H l=some (.lst xs)/\H b=some (.lst zs)/\xs.length+zs.length<=sizeLine/\∀ p,H p=none->Q (.ref p) (upd H p (.lst (xs++zs))) | _,_=>False
theorem zpA:OpR X (binaryOp .Add) cCat:=zp2.imp fun x y H Q h=>by
 unfold cCat at h;split at h
 ·obtain⟨xs,zs,h⟩:=h;exact⟨_,_,xs,zs,rfl,rfl,h⟩
 ·exact h.elim
def cRep:R2:=fun x y H Q=>match x,y with | .ref l,.int k=>∃ xs,H l=some (.lst xs)/\-(2 ^ 63)<=k/\k<2 ^ 63/\xs.length*k.toNat<=sizeLine/\∀ p,H p=none->Q (.ref p) (upd H p (.lst (List.replicate k.toNat xs).flatten)) | _,_=>False
theorem zqr:OpR X (binaryOp .Mult) cRep:=zpx.imp fun x y H Q h=>by
 unfold cRep at h;split at h
 ·obtain⟨xs,h⟩:=h;exact⟨_,_,xs,rfl,rfl,h⟩
 ·exact h.elim
def zro (K:PySem.W.Frag):V->Option Int->Option Int->Hp->VK->Prop:=fun x lo hi H Q=>match x with | .ref a=>∃ xs,SqL K H a xs/\∀ p,H p=none->Q (.ref p) (upd H p (.lst (zoi xs lo hi))) | _=>False
theorem zrV:SlR X (zro X.K):=zow.imp fun x lo hi H Q h=>by
 unfold zro at h;split at h
 ·obtain⟨xs,h⟩:=h;exact⟨_,xs,rfl,h⟩
 ·exact h.elim
def zqT (K:PySem.W.Frag):List V->Hp->VK->Prop:=fun xs H Q=>match xs with | [.ref p]=>∃ ys,(SqL K H p ys\/SqT K H p ys)/\Q (.int ys.length) H | _=>False
theorem zq6:za9 X (.builtin "len") (zqT X.K):=zhh.imp fun xs H Q h=>by
 unfold zqT at h;split at h
 ·obtain⟨ys,h⟩:=h;exact⟨_,ys,rfl,h⟩
 ·exact h.elim
def cAbs:List V->Hp->VK->Prop:=fun xs H Q=>match xs with | [.int i]=>∀ m,m=(if i<0 then -i else i)->Q (.int m) H | _=>False
theorem zpH:za9 X (.builtin "abs") cAbs:=zl4.imp fun xs H Q h=>by
 unfold cAbs at h;split at h
 ·exact⟨_,rfl,h _ rfl⟩
 ·exact h.elim
def cApp:V->List V->Hp->VK->Prop:=fun x vs H Q=>match x,vs with | .ref l,[y]=>∃ xs,H l=some (.lst xs)/\xs.length<sizeLine/\Q .non (upd H l (.lst (xs++[y]))) | _,_=>False
theorem zjW:MtR X "list.append" cApp:=MtR.imp (r:=zkP) zkQ fun x vs H Q h=>by
 unfold cApp at h;split at h
 ·obtain⟨xs,h⟩:=h;exact⟨_,xs,_,rfl,rfl,h⟩
 ·exact h.elim
def zrb (K:PySem.W.Frag):List V->Hp->VK->Prop:=fun xs H Q=>match xs with | [x,c]=>∃ t b,TyX K H x t/\zhF c=true/\PySem.W.kitOne K t (zlf c)=some b/\Q (.bl b) H | _=>False
theorem zrW:za9 X (.builtin "isinstance") (zrb X.K):=zmi.imp fun xs H Q h=>by
 unfold zrb at h;split at h
 ·obtain⟨t,b,h⟩:=h;exact⟨_,_,t,b,rfl,h⟩
 ·exact h.elim
def cIn (K:PySem.W.Frag) (neg:Bool):R2:=fun x y H Q=>match y with | .ref p=>∃ xs,(SqL K H p xs\/SqT K H p xs)/\zfD x=true/\xs.all zfD=true/\Q (.bl (if neg then !inV x xs else inV x xs)) H | _=>False
theorem q_in:OpR X (compareOp .In) (cIn X.K false):=zkN.imp fun x y H Q h=>by
 unfold cIn at h;split at h
 ·obtain⟨xs,h⟩:=h;exact⟨_,xs,rfl,h⟩
 ·exact h.elim
def zqs (K:PySem.W.Frag) (tl:TE):TI:=fun σ H R=>tl σ H fun x H1=>match x with | .ref a=>(∃ xs,SqL K H1 a xs)/\R (Itl K a) H1 | _=>False
theorem zn0 {tg l:Expr} {tl:TE} (hl:PE X l tl):PI X tg l (zqs X.K tl):=by
 intro pins s σ H R I h;refine thn (hl pins s σ H _ I h) fun v s1 ⟨x,H1,I1,r1,q1⟩=>?_
 obtain⟨a,rfl,⟨xs,hq⟩,q⟩:∃ a,x=.ref a/\(∃ xs,SqL X.K H1 a xs)/\R (Itl X.K a) H1:=by
  dsimp only at q1;split at q1
  ·exact⟨_,rfl,q1⟩
  ·exact q1.elim
 cases r1;obtain⟨its,rv,p,hz⟩:=I1.list hq;refine wpAny_pyIter_list p.isList ?_;refine⟨s1.heap.objs.size,[s1.heap.objs.size],_,_,H1,rfl,I1.kept (t':=s1.toks) fun b o e=>zsb _ e,zk1 a _,⟨_,zsx _ rfl,rfl,rfl⟩,fun b hb=>?_,q⟩;have e:b=s1.heap.objs.size:=by simpa using hb
 subst e;exact I1.fpOk (zse _) (I1.hok.fresh (zse _))
def zqU (ta:TA):TI:=fun σ H R=>ta σ H fun vs H1=>match vs with | [.int j]=>(-(2 ^ 62)<=j/\j<2 ^ 62)/\R (Itr 0 j.toNat) H1 | _=>False
theorem zb3 {tg a:Expr} {ta:TA} {p pos:Pos} (hg:Gl X "range") (hm:X.mg "range"=none) (ha:PA X [a] ta) (hs:starEach [a] X.env=[(false,eval a X.env)]:=by rfl):PI X tg (.Call (.Name "range" p) [a] [] pos) (zqU ta):=by
 intro pins s σ H R I h;refine Call_ (zf3 I hg hm boot_range (PyProof.Rows.callWith_type1 (thn (ha pos pins s σ H _ I h) fun us s1 ⟨vs,H1,I1,r1,q1⟩=>?_) hs rfl));obtain⟨j,rfl,⟨q1,q2⟩,q⟩:∃ j,vs=[.int j]/\(-(2 ^ 62)<=j/\j<2 ^ 62)/\R (Itr 0 j.toNat) H1:=by
  dsimp only at q1;split at q1
  ·exact⟨_,rfl,q1⟩
  ·exact q1.elim
 cases r1 with
 | cons r rr =>
  cases rr;obtain⟨t,rfl⟩:=r;exact call_range_1 (zjk I1 (by omega) (by omega) q1 q2 (by simpa using q))
end
section
variable {X:Cx}
def zpF:TGs:=fun vs σ H Q=>match vs with | []=>Q σ H | _=>False
def znL (t:TG) (u:TGs):TGs:=fun vs σ H Q=>match vs with | v::r=>t v σ H fun σ' H'=>u r σ' H' Q | []=>False
theorem zaH:PGs X [] zpF:=fun pins s σ H vs us Q I r h=>zn4 pins s σ H vs us Q I r (by
 unfold zpF at h;split at h
 ·exact⟨rfl,h⟩
 ·exact h.elim)
theorem zak {e:Expr} {es:List Expr} {t:TG} {u:TGs} (h1:PG X e t) (h2:PGs X es u)
  (hs:(assignEach (e::es) X.env).map (·.2)=assign e X.env::(assignEach es X.env).map (·.2):=by rfl):PGs X (e::es) (znL t u):=fun pins s σ H vs us Q I r h=>zml h1 h2 hs pins s σ H vs us Q I r (by
 unfold znL at h;split at h
 ·exact⟨_,_,rfl,h⟩
 ·exact h.elim)
def zoS (K:PySem.W.Frag) (n:Nat) (t:TGs):TG:=fun v σ H Q=>match v with | .ref a=>∃ xs,SqT K H a xs/\xs.length=n/\t xs σ H Q | _=>False
theorem zqy {es:List Expr} {k:Nat} {t:TGs} {n:Nat} {pos:Pos} (hc:X.calm=true) (h:PGs X es t)
  (hn:(assignEach es X.env).length=n:=by rfl) (hst:(assignEach es X.env).findIdx? (·.1)=none:=by rfl):PG X (.Tuple es k pos) (zoS X.K n t):=fun pins s σ H v u Q I r hw=>zql hc h hn hst pins s σ H v u Q I r (by
 unfold zoS at hw;split at hw
 ·obtain⟨xs,h⟩:=hw;exact⟨_,xs,rfl,h⟩
 ·exact hw.elim)
def zrH (t:TE):TO:=fun σ H Q=>t σ H fun x H1=>match x with | .int i=>Q (some i) H1 | _=>False
theorem znU {e:Expr} {te:TE} (h:PE X e te):PO X (some e) (zrH te):=by
 intro pins s σ H Q I hw;rw [evalPart_some];refine thn (h pins s σ H _ I hw) fun u s1 ⟨x,H1,I1,r1,q1⟩=>?_
 obtain⟨i,rfl,q⟩:∃ i,x=.int i/\Q (some i) H1:=by
  dsimp only at q1;split at q1
  ·exact⟨_,rfl,q1⟩
  ·exact q1.elim
 obtain⟨t,rfl⟩:=r1;exact⟨some i,H1,I1,.int i t,q⟩
end
structure ExM (K:PySem.W.Frag) (C:Addr) (pre:List Value):Prop where
 mro:∃ cd,PySem.W.clsIn K C=some cd/\cd.mro=pre++zbN
 ty:PySem.W.typeIn K (.ref C)=some (.type "type")
section
open PySem.W
variable {K:PySem.W.Frag} {C D:Addr} {pre pre':List Value}
theorem ExM.sub (h:ExM K C pre) (v:Value):subIn K (.ref C) v=some ((pre++zbN).contains v):=by
 obtain⟨cd,h1,h2⟩:=h.mro;show mroIn K C v=_;unfold mroIn;rw [h1,Option.bind_some,h2,zsA];cases pre <;> simp
theorem ExM.cls (h:ExM K C pre) (h':ExM K D pre'):kitCls K (.ref C) (.ref D)=some (pre.contains (.ref D)):=by
 unfold kitCls;obtain⟨cd,h1,_⟩:=h'.mro;have e:((clsIn K D).isSome && typeIn K (.ref D) == some (.type "type"))=true:=by rw [h1,h'.ty];rfl
 show (if ((clsIn K D).isSome && typeIn K (.ref D) == some (.type "type"))=true then subIn K (.ref C) (.ref D) else none)=_;rw [zsB e,h.sub]
 congr 1
 rw [List.contains_eq_any_beq,List.contains_eq_any_beq,List.any_append]
 have:zbN.any (fun x=>(Value.ref D) == x)=false:=by rfl
 rw [this,Bool.or_false]
theorem zkF (h:ExM K C pre) (h':ExM K D pre') (hC:pre.contains (.ref C)=true):kitOne K (.ref C) (.ref D)=some (pre.contains (.ref D)):=by
 unfold kitOne;by_cases e:C=D
 ·subst e;rw [zsB (by simp),hC]
 ·rw [zsA (by simpa using e),h.cls h']
theorem zoD (h:ExM K C pre) (h':ExM K D pre'):exmOne K (.ref C) (.ref D)=some (pre.contains (.ref D)):=by
 unfold exmOne;rw [zsB,h.cls h'];rw [h'.sub]
 have:(pre'++zbN).contains (.type "BaseException")=true:=by
  rw [List.contains_eq_any_beq,List.any_append]
  have:zbN.any (fun x=>(Value.type "BaseException") == x)=true:=by decide +kernel
  rw [this,Bool.or_true]
 rw [this]
 rfl
end
end L2
end
section
namespace L2
open PySem PySem.Spec PyProof.Rows
theorem ifB.ndec {c:Prop} [Decidable c] {p q:Prop} (h1:c->q) (h2:¬ c->p):ifB (!decide c) p q:=ifB.mk (fun z=>h2 (by simpa using z)) fun z=>h1 (by simpa using z)
section
variable {X:Cx}
theorem zn2 {s:Shared} {h':Heap} {o:Obj} (hk:∀ b x,b ∉ [s.heap.objs.size]->(s.heap.push o).get? b=some x->h'.get? b=some x):∀ b x,s.heap.get? b=some x->h'.get? b=some x :=
 fun b x e=>hk b x (fun hm=>by rw [zr7.mp hm] at e;exact Nat.lt_irrefl _ (zso e)) (zsb _ e)
theorem zkU:∀ {bs:List Bool} {us:List Value},zaV (bs.map V.bl) us->us=bs.map Value.bool
 | [],us,r=>by cases r;rfl
 | b::bs,us,r=>by
  rw [zsq] at r;cases r with
  | cons r1 r2=>cases r1;rw [zkU r2];rfl
theorem zjI (bs:List Bool):((List.range bs.length).all fun i=>(bs[i]?).getD true)=bs.all id:=by
 rw [Bool.eq_iff_iff,zsn,zsn]
 constructor
 ·intro h b hb;obtain⟨i,hi,e⟩:=List.getElem_of_mem hb
  have:=h i (List.mem_range.mpr hi)
  simp only [zr0 hi,Option.getD_some,e] at this;exact this
 ·intro h i hi;have hi':=List.mem_range.mp hi;simp only [zr0 hi',Option.getD_some];exact h _ (List.getElem_mem hi')
def zrq (K:PySem.W.Frag):List V->Hp->VK->Prop:=fun xs H Q=>match xs with | [.ref p]=>∃ bs:List Bool,SqL K H p (bs.map V.bl)/\Q (.bl (bs.all id)) H | _=>False
theorem zrE (hc:X.calm=true):za9 X (.builtin "all") (zrq X.K):=by
 intro pins s σ H xs us Q I r h;unfold zrq at h;split at h
 ·rename_i p;obtain⟨bs,hq,q⟩:=h;cases r with
  | cons r rr =>
   cases rr;cases r;obtain⟨its,rv,pl,hz⟩:=I.list hq;have e:=zkU rv;subst e;have hl:=pl.isList;have hlt:p<s.heap.objs.size:=by obtain⟨_,e,_⟩:=hl;exact zso e
   refine call_all_walk (wpAny_pyIter_list hl ?_);refine⟨s.heap.objs.size,[s.heap.objs.size,p],[s.heap.objs.size],(bs.map Value.bool).toArray.size,_,_,fun i=>(bs[i]?).getD true,rfl,Walks.list (A:=X.A.in1) (I.ok.hd hc) _ p (zsG hlt) (bs.map Value.bool).toArray,
    ⟨⟨_,zsx _ rfl,rfl,rfl⟩,hl.push _⟩,fun i v s' Q' E' hP hQ=>?_,fun h' tk hk=>?_⟩
   ·have hP:(bs.map Value.bool)[i]?=some v:=by simpa using hP
    rw [zrZ] at hP;obtain⟨b,e,rfl⟩:=zr1.1 hP;simp only [e,Option.getD_some] at hQ;exact wpAny_truthy_bool hQ
   ·have e:((List.range (bs.map Value.bool).toArray.size).all fun i=>(bs[i]?).getD true)=bs.all id:=by
     rw [zsy,zrY];exact zjI bs
    rw [e];exact⟨.bl _,H,I.kept (t':=tk) (zn2 hk),rfl,q⟩
 ·exact h.elim
def zoI (K:PySem.W.Frag):List V->Hp->VK->Prop:=fun xs H Q=>match xs with | [.ref p]=>∃ ns:List Int,SqL K H p (ns.map V.int)/\ns≠[]/\∀ m,m∈ns->(∀ n∈ns,m<=n)->Q (.int m) H | _=>False
def zoX (K:PySem.W.Frag):List V->Hp->VK->Prop:=fun xs H Q=>match xs with | [.ref p]=>∃ ns:List Int,SqL K H p (ns.map V.int)/\ns≠[]/\∀ m,m∈ns->(∀ n∈ns,n<=m)->Q (.int m) H | _=>False
theorem zqj (hc:X.calm=true):za9 X (.builtin "min") (zoI X.K):=by
 intro pins s σ H xs us Q I r h;unfold zoI at h;split at h
 ·rename_i p;obtain⟨ns,hq,hne,q⟩:=h;cases r with
  | cons r rr =>
   cases rr;cases r;obtain⟨its,rv,pl,hz⟩:=I.list hq;have hi:IntsAre its ns:=zfG rv;have hl:=pl.isList;obtain⟨xs,e⟩:=hi.allInts.items;have hns:ns=xs.toList.map (·.1):=by
    rw [← nums_intItems,← e];exact (show numsOf its.toArray.toList=ns from hi.numsOf).symm
   have hsz:0<xs.size:=by
    have h3:=List.length_pos_iff.mpr hne;rw [hns,zrY,zsC] at h3;exact h3
   rw [e] at hl;refine min_intList (I.ok.hd hc) hl hsz fun v h' tk hv hk=>?_
   obtain⟨t,rfl⟩:=intItems_at hv;obtain⟨h1,h2⟩:=argBest_lt (numAt xs) (xs.size-1);refine⟨.int _,H,I.kept (t':=tk) hk,⟨t,rfl⟩,q _ ?_ fun a ha=>?_⟩
   ·rw [hns,numAt_eq];exact getD_mem (by rw [zrY,zsC];omega)
   ·rw [hns] at ha;obtain⟨j,hj,rfl⟩:=mem_getD ha;rw [zrY,zsC] at hj;rw [← numAt_eq];exact h2 j (by omega)
 ·exact h.elim
theorem zqB (hc:X.calm=true):za9 X (.builtin "max") (zoX X.K):=by
 intro pins s σ H xs us Q I r h;unfold zoX at h;split at h
 ·rename_i p;obtain⟨ns,hq,hne,q⟩:=h;cases r with
  | cons r rr =>
   cases rr;cases r;obtain⟨its,rv,pl,hz⟩:=I.list hq;have hi:IntsAre its ns:=zfG rv;have hl:=pl.isList;obtain⟨xs,e⟩:=hi.allInts.items;have hns:ns=xs.toList.map (·.1):=by
    rw [← nums_intItems,← e];exact (show numsOf its.toArray.toList=ns from hi.numsOf).symm
   have hsz:0<xs.size:=by
    have h3:=List.length_pos_iff.mpr hne;rw [hns,zrY,zsC] at h3;exact h3
   rw [e] at hl;refine max_intList (I.ok.hd hc) hl hsz fun v h' tk hv hk=>?_
   obtain⟨t,rfl⟩:=intItems_at hv;obtain⟨h1,h2⟩:=argBest_gt (numAt xs) (xs.size-1);refine⟨.int _,H,I.kept (t':=tk) hk,⟨t,rfl⟩,q _ ?_ fun a ha=>?_⟩
   ·rw [hns,numAt_eq];exact getD_mem (by rw [zrY,zsC];omega)
   ·rw [hns] at ha;obtain⟨j,hj,rfl⟩:=mem_getD ha;rw [zrY,zsC] at hj;rw [← numAt_eq];exact h2 j (by omega)
 ·exact h.elim
def zid (K:PySem.W.Frag):List V->Hp->VK->Prop:=fun xs H Q=>match xs with | [.ref p]=>∃ ys,(SqL K H p ys\/SqT K H p ys)/\∀ l,H l=none->Q (.ref l) (upd H l (.lst ys)) | _=>False
theorem zmj:za9 X (.type "list") (zid X.K):=zhv.imp fun xs H Q h=>by
 unfold zid at h;split at h
 ·obtain⟨ys,h⟩:=h;exact⟨_,ys,rfl,h⟩
 ·exact h.elim
end
section
variable {prog:Program} {w:World} {A:Around} {E:Value->Shared->Prop} {s:Shared}
end
section
variable {X:Cx} {e st:Expr} {te:TE} {ts:TO} {pos p2:Pos}
end
section
variable {X:Cx} {K:PySem.W.Frag} {tg l e st:Expr} {tl te:TE} {ts:TO} {pos p2:Pos}
theorem zbx (hK:X.K=K):IxR X (zrX K):=hK ▸ zrj
theorem zbw (hK:X.K=K):IxR X (zrF K):=hK ▸ zrO
theorem zqi (hK:X.K=K):SlR X (zro K):=hK ▸ zrV
theorem zco (hK:X.K=K):za9 X (.builtin "len") (zqT K):=hK ▸ zq6
theorem zqa (hK:X.K=K):za9 X (.builtin "isinstance") (zrb K):=hK ▸ zrW
theorem zjv (hK:X.K=K):za9 X (.builtin "isinstance") (zqu K):=hK ▸ zlL
theorem zrG (hK:X.K=K):OpR X (compareOp .In) (cIn K false):=hK ▸ q_in
theorem zna (hK:X.K=K) (hc:X.calm=true):za9 X (.builtin "all") (zrq K):=hK ▸ zrE hc
theorem zov (hK:X.K=K) (hc:X.calm=true):za9 X (.builtin "min") (zoI K):=hK ▸ zqj hc
theorem zoU (hK:X.K=K) (hc:X.calm=true):za9 X (.builtin "max") (zoX K):=hK ▸ zqB hc
theorem zhx (hK:X.K=K):za9 X (.type "list") (zid K):=hK ▸ zmj
theorem zjp (hK:X.K=K):MtR X "str.join" (znP K):=hK ▸ zoy
theorem zaJ (hK:X.K=K) (hl:PE X l tl):PI X tg l (zqs K tl):=hK ▸ zn0 hl
theorem zaG {es:List Expr} {k:Nat} {t:TGs} {n:Nat} (hK:X.K=K) (hc:X.calm=true) (h:PGs X es t)
  (hn:(assignEach es X.env).length=n:=by rfl) (hst:(assignEach es X.env).findIdx? (·.1)=none:=by rfl):PG X (.Tuple es k pos) (zoS K n t):=hK ▸ zqy hc h hn hst
end
end L2
end
section
namespace L2
open PySem PySem.Spec PyProof.Rows
abbrev En:=List Int
abbrev Ma:=List (List En)
def zaM (rows signs:Int):En->Bool
 | []=>true
 | [s,w,r]=>(decide (0<=s) && decide (s<signs)) && (decide (w=-1) || decide (w=1)) && (decide (0<=r) && decide (r<rows))
 | _=>false
def zfA (rows signs:Int) (es:List En):Bool:=decide ((es.length:Int)=signs) && es.all (zaM rows signs)
def isM (m:Ma):Bool:=match m with
 | []=>false
 | r0::_=>decide (m.length<=4) && decide (2<=r0.length) && decide (r0.length<=4) && m.all (zfA m.length r0.length)
theorem zce {α:Type} {xs:List α} {i:Int} {v:α} (h0:0<=i) (h:xs[i.toNat]?=some v):atI xs i=some v:=by
 obtain⟨j,rfl⟩:=Int.eq_ofNat_of_zero_le h0;exact zbi h
theorem zhs {n:Nat} {i:Int} (h0:0<=i) (h1:i<n):ixN n i=some i.toNat:=by
 unfold ixN;rw [zsB h0,zsB h1]
def za6 {α:Type} (R:Addr->α->Prop) (as:List Addr) (xs:List α):Prop:=as.length=xs.length/\∀ (i:Nat) (a:Addr) (x:α),as[i]?=some a->xs[i]?=some x->R a x
section
variable {α:Type} {R S:Addr->α->Prop} {as:List Addr} {xs:List α}
theorem za6.nil:za6 R [] []:=⟨rfl,fun i a x h=>by simp at h⟩
theorem za6.mono (h:za6 R as xs) (i:∀ a x,a∈as->R a x->S a x):za6 S as xs:=⟨h.1,fun k a x ha hx=>i a x (zr3 ha) (h.2 k a x ha hx)⟩
theorem za6.app (h:za6 R as xs) {a:Addr} {x:α} (r:R a x):za6 R (as++[a]) (xs++[x]):=by
 refine⟨by simp [h.1],fun i b y hb hy=>?_⟩;by_cases hi:i<as.length
 ·rw [zss hi] at hb;rw [zss (h.1 ▸ hi)] at hy;exact h.2 i b y hb hy
 ·have e:i=as.length:=by
   have:=(zr2.1 hb).1
   simp at this;omega
  subst e;rw [zst (zse _),Nat.sub_self] at hb;rw [h.1,zst (zse _),Nat.sub_self] at hy;cases hb;cases hy;exact r
theorem za6.at (h:za6 R as xs) {i:Nat} {a:Addr} (ha:as[i]?=some a):∃ x,xs[i]?=some x/\R a x:=by
 have hi:=(zr2.1 ha).1;have hi':i<xs.length:=h.1 ▸ hi;exact⟨xs[i],zr0 hi',h.2 i a _ ha (zr0 hi')⟩
theorem za6.set (h:za6 R as xs) {i:Nat} {a:Addr} {x:α} (r:R a x):za6 R (as.set i a) (xs.set i x):=by
 refine⟨by simp [h.1],fun k b y hb hy=>?_⟩;rw [List.getElem?_set] at hb hy;by_cases e:i=k
 ·subst e;rw [zsB rfl] at hb hy;split at hb
  ·split at hy
   ·cases hb;cases hy;exact r
   ·cases hy
  ·cases hb
 ·rw [zsA e] at hb hy;exact h.2 k b y hb hy
theorem za6.setA (h:za6 R as xs) {i:Nat} {a:Addr} {x:α} (ha:as[i]?=some a) (o:∀ b y,b∈as->b≠a->R b y->S b y) (nd:as.Nodup) (s:S a x):za6 S as (xs.set i x):=by
 refine⟨by simp [h.1],fun k b y hb hy=>?_⟩;rw [List.getElem?_set] at hy;by_cases e:i=k
 ·subst e;rw [zsB rfl] at hy;rw [ha] at hb;cases hb;split at hy
  ·cases hy;exact s
  ·cases hy
 ·rw [zsA e] at hy;refine o b y (zr3 hb) ?_ (h.2 k b y hb hy);rintro rfl;obtain⟨h1,h2⟩:=zr2.1 ha;obtain⟨h3,h4⟩:=zr2.1 hb;exact e ((List.getElem_inj nd).1 (h2.trans h4.symm))
theorem za6.append {bs:List Addr} {ys:List α} (h:za6 R as xs) (h':za6 R bs ys):za6 R (as++bs) (xs++ys):=by
 refine⟨by rw [zr8,zr8,h.1,h'.1],fun k b y hb hy=>?_⟩;by_cases hi:k<as.length
 ·rw [zss hi] at hb;rw [zss (h.1 ▸ hi)] at hy;exact h.2 k b y hb hy
 ·rw [zst (by omega)] at hb;rw [zst (by have:=h.1;omega),← h.1] at hy;exact h'.2 _ b y hb hy
end
def Ent (H:Hp) (a:Addr) (e:En):Prop:=H a=some (.tup (e.map V.int))
def zgk (H:Hp) (r:Addr) (as:List Addr) (es:List En):Prop:=H r=some (.lst (as.map V.ref))/\za6 (Ent H) as es
def Row (H:Hp) (r:Addr) (es:List En):Prop:=∃ as,zgk H r as es
def MaR (H:Hp) (p:Addr) (rs:List Addr) (m:Ma):Prop:=H p=some (.lst (rs.map V.ref))/\rs.Nodup/\za6 (Row H) rs m
def zcE (H:Hp) (p:Addr) (m:Ma):Prop:=∃ rs,MaR H p rs m
theorem zoe {as bs:List Addr} (h:as.map V.ref=bs.map V.ref):as=bs:=by
 induction as generalizing bs with
 | nil=>cases bs with
  | nil=>rfl
  | cons b bs=>cases h
 | cons a as ih=>cases bs with
  | nil=>cases h
  | cons b bs =>
   rw [zsq,zsq] at h;injection h with h1 h2
   injection h1 with h1
   rw [h1,ih h2]
section
variable {H H':Hp} {p r a:Addr} {rs as:List Addr} {m:Ma} {es:List En} {e:En}
structure zfP (H H':Hp):Prop where
 tup:∀ a xs,H a=some (.tup xs)->H' a=some (.tup xs)
 refs:∀ a (as:List Addr),H a=some (.lst (as.map V.ref))->H' a=some (.lst (as.map V.ref))
theorem zfP.sub (S:Sub H H'):zfP H H':=⟨fun _ _ h=>S _ _ h,fun _ _ h=>S _ _ h⟩
theorem Ent.stay (S:zfP H H') (h:Ent H a e):Ent H' a e:=S.tup _ _ h
theorem zgk.stay (S:zfP H H') (h:zgk H r as es):zgk H' r as es:=⟨S.refs _ _ h.1,h.2.mono fun _ _ _ z=>z.stay S⟩
theorem Row.stay (S:zfP H H'):Row H r es->Row H' r es:=fun ⟨as,h⟩=>⟨as,h.stay S⟩
theorem MaR.stay (S:zfP H H') (h:MaR H p rs m):MaR H' p rs m:=⟨S.refs _ _ h.1,h.2.1,h.2.2.mono fun _ _ _ z=>z.stay S⟩
theorem zcE.stay (S:zfP H H'):zcE H p m->zcE H' p m:=fun ⟨rs,h⟩=>⟨rs,h.stay S⟩
theorem MaR.ne (h:MaR H p rs m) (hr:r∈rs):r≠p:=by
 rintro rfl;obtain⟨i,hi,e⟩:=List.getElem_of_mem hr;obtain⟨es,_,as,h1,h2⟩:=h.2.2.at (zr2.2 ⟨hi,e⟩);rw [h.1] at h1;injection h1 with h1
 injection h1 with h1
 have:=zoe h1
 subst this;obtain⟨e,_,h3⟩:=h2.at (zr2.2 ⟨hi,e⟩);have h3:H r=some (.tup _):=h3;rw [h.1] at h3;cases h3
theorem Ent.upd {l:Addr} {vs us:List V} (h:Ent H a e) (hl:H l=some (.lst vs)):Ent (L2.upd H l (.lst us)) a e:=by
 show L2.upd H l (.lst us) a=_;rw [zao]
 ·exact h
 ·rintro rfl;have h:H a=some (.tup _):=h;rw [hl] at h;cases h
theorem zgk.upd {l:Addr} {vs us:List V} (h:zgk H r as es) (hl:H l=some (.lst vs)) (ne:r≠l):zgk (L2.upd H l (.lst us)) r as es :=
 ⟨by rw [zao ne];exact h.1,h.2.mono fun _ _ _ z=>z.upd hl⟩
theorem Row.upd {l:Addr} {vs us:List V} (h:Row H r es) (hl:H l=some (.lst vs)) (ne:r≠l):Row (L2.upd H l (.lst us)) r es:=h.elim fun as h=>⟨as,h.upd hl ne⟩
theorem MaR.row {i:Nat} {as':List Addr} (h:MaR H p rs m) (hi:rs[i]?=some r) (he:za6 (Ent H) as' es):MaR (L2.upd H r (.lst (as'.map V.ref))) p rs (m.set i es):=by
 have hr:r∈rs:=zr3 hi;obtain⟨es0,_,as,h1,h2⟩:=h.2.2.at hi;refine⟨by rw [zao (h.ne hr).symm];exact h.1,h.2.1,h.2.2.setA hi (fun b y _ hb z=>z.upd h1 hb) h.2.1 ⟨as',zah,he.mono fun _ _ _ z=>z.upd h1⟩⟩
theorem MaR.app (h:MaR H p rs m) (hr:Row H r es) (hn:r ∉ rs) (hp:r≠p):MaR (L2.upd H p (.lst ((rs++[r]).map V.ref))) p (rs++[r]) (m++[es]):=by
 refine⟨zah,?_,(h.2.2.mono fun b y hb z=>z.upd h.1 (h.ne hb)).app (hr.upd h.1 hp)⟩;rw [List.nodup_append];exact⟨h.2.1,by simp,fun a ha b hb=>by rw [zr7.1 hb];rintro rfl;exact hn ha⟩
theorem zgk.app (h:zgk H r as es) (he:Ent H a e):zgk (L2.upd H r (.lst ((as++[a]).map V.ref))) r (as++[a]) (es++[e]) :=
 ⟨zah,(h.2.mono fun _ _ _ z=>z.upd h.1).app (he.upd h.1)⟩
theorem zgk.app' (h:zgk H r as es) (he:Ent H a e):zgk (L2.upd H r (.lst (as.map V.ref++[V.ref a]))) r (as++[a]) (es++[e]):=by
 have:=h.app he
 rw [zr6] at this;exact this
theorem MaR.app' (h:MaR H p rs m) (hr:Row H r es) (hn:r ∉ rs) (hp:r≠p):MaR (L2.upd H p (.lst (rs.map V.ref++[V.ref r]))) p (rs++[r]) (m++[es]):=by
 have:=h.app hr hn hp
 rw [zr6] at this;exact this
theorem MaR.other {l:Addr} {vs us:List V} (h:MaR H p rs m) (hl:H l=some (.lst vs)) (np:l≠p) (nr:l ∉ rs):MaR (L2.upd H l (.lst us)) p rs m :=
 ⟨by rw [zao np.symm];exact h.1,h.2.1,h.2.2.mono fun b y hb z=>z.upd hl (by rintro rfl;exact nr hb)⟩
theorem zh6 (as:List Addr) (i:Nat) (a:Addr):(as.map V.ref).set i (V.ref a)=(as.set i a).map V.ref:=(List.map_set).symm
theorem MaR.rowSet {i j:Nat} {a:Addr} (h:MaR H p rs m) (hi:rs[i]?=some r) (hr:zgk H r as es) (he:Ent H a e):MaR (L2.upd H r (.lst ((as.map V.ref).set j (V.ref a)))) p rs (m.set i (es.set j e)):=by
 rw [zh6];exact h.row hi (hr.2.set he)
theorem zjd:∀ ns:List Int,zcy H (ns.map V.int) (ns.map DD.int)
 | []=>by rw [zsr,zsr,zcy]
 | n::ns=>by rw [zsq,zsq,zcy];exact⟨_,_,rfl,by rw [Den],zjd ns⟩
abbrev dE (e:En):DD:=.tup (e.map DD.int)
abbrev dR (es:List En):DD:=.lst (es.map dE)
theorem Ent.den (h:Ent H a e):Den H (.ref a) (dE e):=by rw [dE,Den];exact⟨_,_,rfl,h,zjd e⟩
theorem zfo {α:Type} {f:α->DD} {R:Addr->α->Prop} (hR:∀ a x,R a x->Den H (.ref a) (f x)):∀ {as:List Addr} {xs:List α},za6 R as xs->zcy H (as.map V.ref) (xs.map f)
 | [],[],_=>by rw [zsr,zsr,zcy]
 | a::as,x::xs,h=>by
  rw [zsq,zsq,zcy];exact⟨_,_,rfl,hR a x (h.2 0 a x rfl rfl),zfo hR ⟨by have:=h.1;simpa using this,fun i b y hb hy=>h.2 (i+1) b y hb hy⟩⟩
 | [],_::_,h=>by have:=h.1;simp at this
 | _::_,[],h=>by have:=h.1;simp at this
theorem Row.den:Row H r es->Den H (.ref r) (dR es):=fun ⟨as,h1,h2⟩=>by rw [dR,Den];exact⟨_,_,rfl,h1,zfo (fun _ _ z=>z.den) h2⟩
theorem zbt {k:Nat}:∀ {ds:List DD},(∀ d∈ds,dep d<=k)->depL ds<=k
 | [],_=>by rw [depL];omega
 | d::ds,h=>by rw [depL];exact Nat.max_le.2 ⟨h d (by simp),zbt fun x hx=>h x (by simp [hx])⟩
theorem znt:dep (dE e)<=1:=by
 rw [dE,dep]
 have:depL (e.map DD.int)<=0:=zbt fun d hd=>by
  obtain⟨i,_,rfl⟩:=zsg.1 hd;exact zse 0
 omega
theorem znB:dep (dR es)<=2:=by
 rw [dR,dep]
 have:depL (es.map dE)<=1:=zbt fun d hd=>by
  obtain⟨i,_,rfl⟩:=zsg.1 hd;exact znt
 omega
end
theorem MaR.out {H:Hp} {p q:Addr} {rs:List Addr} {m:Ma} (h:MaR H p rs m) (n:H q=none):q ∉ rs:=fun z=>by
 obtain⟨j,hj,e⟩:=List.getElem_of_mem z;obtain⟨es,_,as,h1,_⟩:=h.2.2.at (zr2.2 ⟨hj,e⟩);rw [n] at h1;cases h1
theorem MaR.outp {H:Hp} {p q:Addr} {rs:List Addr} {m:Ma} (h:MaR H p rs m) (n:H q=none):q≠p:=fun z=>by
 have:=h.1
 rw [← z,n] at this;cases this
structure Pu (pp:Addr) (k:Int) (H H':Hp):Prop where
 had:∃ n:Int,H pp=some (.lst [.int n,.int k])
 has:∃ n:Int,H' pp=some (.lst [.int n,.int k])
 keep:∀ a o,a≠pp->H a=some o->H' a=some o
section
variable {pp:Addr} {k:Int} {A B C:Hp}
theorem Pu.refl (h:∃ n:Int,A pp=some (.lst [.int n,.int k])):Pu pp k A A:=⟨h,h,fun _ _ _ e=>e⟩
theorem Pu.trans (h:Pu pp k A B) (h':Pu pp k B C):Pu pp k A C:=⟨h.had,h'.has,fun a o n e=>h'.keep a o n (h.keep a o n e)⟩
theorem Pu.sub (h:Pu pp k A B) (S:Sub B C):Pu pp k A C:=⟨h.had,h.has.imp fun _ e=>S _ _ e,fun a o n e=>S _ _ (h.keep a o n e)⟩
theorem Pu.draw (h:Pu pp k A B) (n:Int):Pu pp k A (upd B pp (.lst [.int n,.int k])):=⟨h.had,⟨n,zah⟩,fun a o ne e=>by rw [zao ne];exact h.keep a o ne e⟩
theorem Pu.set {p:Addr} {o:HO} (h:Pu pp k A B) (hp:A p=none):Pu pp k A (upd B p o):=by
 have ne:pp≠p:=by
  rintro rfl;obtain⟨n,e⟩:=h.had;rw [hp] at e;cases e
 refine⟨h.had,?_,fun a u na e=>?_⟩
 ·obtain⟨n,e⟩:=h.has;exact⟨n,by rw [zao ne];exact e⟩
 ·rw [zao]
  ·exact h.keep a u na e
  ·rintro rfl;rw [hp] at e;cases e
theorem Pu.stay (h:Pu pp k A B):zfP A B:=by
 obtain⟨n,e⟩:=h.had;refine⟨fun a xs q=>h.keep _ _ ?_ q,fun a as q=>h.keep _ _ ?_ q⟩
 ·rintro rfl;rw [q] at e;cases e
 ·rintro rfl;rw [q] at e;cases as with
  | nil=>cases e
  | cons x xs=>cases e
theorem Pu.free (h:Pu pp k A B) {p:Addr} (n:B p=none):A p=none:=by
 cases e:A p with
 | none=>rfl
 | some o =>
  by_cases q:p=pp
  ·obtain⟨_,e'⟩:=h.has;rw [← q,n] at e';cases e'
  ·rw [h.keep _ _ q e] at n;cases n
theorem Pu.of_draw (n:Int) {n':Int} (h:A pp=some (.lst [.int n',.int k])):Pu pp k A (upd A pp (.lst [.int n,.int k])):=(Pu.refl ⟨n',h⟩).draw n
end
end L2
end
section
namespace L2
open PySem PySem.Spec PyProof.Rows PySem.W
def zop:Bool->Keyed->Array Keyed->Nat->Nat->Nat->StateT SortSt Sem (Option Nat):=sortPriv% PySem.Builtin.gallop
def zmB:Array Keyed->Array Keyed->StateT SortSt Sem (Array Keyed):=sortPriv% PySem.Builtin.mergeLo
def zmp:Array Keyed->Array Keyed->StateT SortSt Sem (Array Keyed):=sortPriv% PySem.Builtin.mergeHi
section
variable {M:Model} {A:Around} {E:Value->Shared->Prop} {s:Shared} {kf:Keyed->Int} {G:Keyed->Prop} {κ:SortKind}
def Cmp (M:Model) (A:Around) (E:Value->Shared->Prop) (s:Shared) (kf:Keyed->Int) (G:Keyed->Prop) (κ:SortKind):Prop :=
 ∀ (x y:Keyed) (st:SortSt) (Q:Option Bool->SortSt->Prop),G x->G y->kf x≠kf y->kindOf st=κ->Q (some (decide (kf x<kf y))) st->wpS M A E s (lt' x y) Q st
theorem zcm (C:Cmp M A E s kf G κ) {left:Bool} {key:Keyed} {arr:Array Keyed} {base n hint K:Nat} {st:SortSt} {Q:Option Nat->SortSt->Prop} (hk:kindOf st=κ) (gk:G key)
  (hG:∀ i,i<n->∃ x,arr[base+i]?=some x/\G x/\kf x≠kf key/\(kf x<kf key↔i<K)) (hh:hint<n) (hK:K<=n) (h:Q (some K) st):wpS M A E s (zop left key arr base n hint) Q st:=by
 have beyond:∀ (i:Nat) (R:Option Bool->SortSt->Prop),i<n->R (some (decide (i<K))) st->wpS M A E s (do let x ← elem' arr (base+i);if left=true then lt' x key else do let r ← lt' key x;pure (r.map (!·))) R st:=by
  intro i R hi hR;obtain⟨x,e,gx,ne,hx⟩:=hG i hi;rw [elem'_eq,e];refine wpS_bind (wpS_pure ?_);cases left with
  | true =>
   rw [zsB rfl];refine C x key st R gx gk ne hk ?_;rw [show decide (kf x<kf key)=decide (i<K) from decide_eq_decide.2 hx];exact hR
  | false =>
   rw [zsA (by simp)];refine wpS_bind (C key x st _ gk gx (Ne.symm ne) hk (wpS_pure ?_))
   have:(some (decide (kf key<kf x))).map (!·)=some (decide (i<K)):=by
    show some (!decide (kf key<kf x))=_
    congr 1
    rw [show decide (i<K)=decide (kf x<kf key) from decide_eq_decide.2 hx.symm];by_cases q:kf x<kf key
    ·rw [zr4 q,zr5 (by omega)];rfl
    ·rw [zr5 q,zr4 (by omega)];rfl
   rw [this];exact hR
 refine wpS_bind (beyond hint _ hh ?_);by_cases hr:hint<K
 ·rw [zr4 hr];refine wpS_bind (wpS_mono (wpS_forRange (I:=fun i c st'=>st'=st/\∃ l o,c=(none,l,o)/\hint+l<K/\i+1<=o) (Q:=fun c st'=>st'=st/\∃ l o,c=(none,l,o)/\hint+l<K/\(n-hint<=o\/K<=hint+o)) ?_ ?_ ⟨rfl,0,1,rfl,by omega,by omega⟩) ?_)
  ·rintro i c st' _ hi ⟨rfl,l,o,rfl,h1,h2⟩;dsimp only;by_cases ho:o ≥ n-hint
   ·rw [zsB ho];exact wpS_pure ⟨rfl,l,o,rfl,h1,.inl ho⟩
   ·rw [zsA ho];refine wpS_bind (beyond (hint+o) _ (by omega) ?_);by_cases hm:hint+o<K
    ·rw [zr4 hm];exact wpS_pure ⟨rfl,o,2*o+1,rfl,hm,by omega⟩
    ·rw [zr5 hm];exact wpS_pure ⟨rfl,l,o,rfl,h1,.inr (by omega)⟩
  ·rintro c st' ⟨rfl,l,o,rfl,h1,h2⟩;exact⟨rfl,l,o,rfl,h1,.inl (by omega)⟩
  ·rintro c st' ⟨rfl,l,o,rfl,h1,h2⟩;dsimp only;have b1:hint+l+1<=K:=by omega
   have b2:K<=hint+min o (n-hint):=by omega
   have b3:hint+min o (n-hint)<=n:=by omega
   generalize hint+l+1=lo at b1 ⊢;generalize hint+min o (n-hint)=hi at b2 b3 ⊢;refine wpS_bind (wpS_mono (wpS_forRange (I:=fun i c st''=>st''=st'/\∃ a b,c=(none,a,b)/\a<=K/\K<=b/\b<=n/\b-a<=n-i) (Q:=fun c st''=>st''=st'/\∃ a,c=(none,a,K)) ?_ ?_ ⟨rfl,lo,hi,rfl,b1,b2,b3,by omega⟩) ?_)
   ·rintro i c st'' _ hi ⟨rfl,a,b,rfl,h1,h2,h3,h4⟩;dsimp only;by_cases ho:a ≥ b
    ·rw [zsB ho]
     have:b=K:=by omega
     exact wpS_pure ⟨rfl,a,by rw [this]⟩
    ·rw [zsA ho];refine wpS_bind (beyond (a+(b-a) / 2) _ (by omega) ?_);by_cases hm:a+(b-a) / 2<K
     ·rw [zr4 hm];exact wpS_pure ⟨rfl,_,_,rfl,by omega,h2,h3,by omega⟩
     ·rw [zr5 hm];exact wpS_pure ⟨rfl,_,_,rfl,h1,by omega,by omega,by omega⟩
   ·rintro c st'' ⟨rfl,a,b,rfl,h1,h2,h3,h4⟩
    have:b=K:=by omega
    exact⟨rfl,a,by rw [this]⟩
   ·rintro c st'' ⟨rfl,a,rfl⟩;exact wpS_pure h
 ·rw [zr5 hr];refine wpS_bind (wpS_mono (wpS_forRange (I:=fun i c st'=>st'=st/\∃ l o,c=(none,l,o)/\K+l<=hint/\i+1<=o) (Q:=fun c st'=>st'=st/\∃ l o,c=(none,l,o)/\K+l<=hint/\(hint+1<=o\/hint<K+o)) ?_ ?_ ⟨rfl,0,1,rfl,by omega,by omega⟩) ?_)
  ·rintro i c st' _ hi ⟨rfl,l,o,rfl,h1,h2⟩;dsimp only;by_cases ho:o ≥ hint+1
   ·rw [zsB ho];exact wpS_pure ⟨rfl,l,o,rfl,h1,.inl ho⟩
   ·rw [zsA ho];refine wpS_bind (beyond (hint-o) _ (by omega) ?_);by_cases hm:hint-o<K
    ·rw [zr4 hm];exact wpS_pure ⟨rfl,l,o,rfl,h1,.inr (by omega)⟩
    ·rw [zr5 hm];exact wpS_pure ⟨rfl,o,2*o+1,rfl,by omega,by omega⟩
  ·rintro c st' ⟨rfl,l,o,rfl,h1,h2⟩;exact⟨rfl,l,o,rfl,h1,.inl (by omega)⟩
  ·rintro c st' ⟨rfl,l,o,rfl,h1,h2⟩;dsimp only;have b1:hint+1-min o (hint+1)<=K:=by omega
   have b2:K<=hint-l:=by omega
   have b3:hint-l<=n:=by omega
   generalize hint+1-min o (hint+1)=lo at b1 ⊢;generalize hint-l=hi at b2 b3 ⊢;refine wpS_bind (wpS_mono (wpS_forRange (I:=fun i c st''=>st''=st'/\∃ a b,c=(none,a,b)/\a<=K/\K<=b/\b<=n/\b-a<=n-i) (Q:=fun c st''=>st''=st'/\∃ a,c=(none,a,K)) ?_ ?_ ⟨rfl,lo,hi,rfl,b1,b2,b3,by omega⟩) ?_)
   ·rintro i c st'' _ hi ⟨rfl,a,b,rfl,h1,h2,h3,h4⟩;dsimp only;by_cases ho:a ≥ b
    ·rw [zsB ho]
     have:b=K:=by omega
     exact wpS_pure ⟨rfl,a,by rw [this]⟩
    ·rw [zsA ho];refine wpS_bind (beyond (a+(b-a) / 2) _ (by omega) ?_);by_cases hm:a+(b-a) / 2<K
     ·rw [zr4 hm];exact wpS_pure ⟨rfl,_,_,rfl,by omega,h2,h3,by omega⟩
     ·rw [zr5 hm];exact wpS_pure ⟨rfl,_,_,rfl,h1,by omega,by omega,by omega⟩
   ·rintro c st'' ⟨rfl,a,b,rfl,h1,h2,h3,h4⟩
    have:b=K:=by omega
    exact⟨rfl,a,by rw [this]⟩
   ·rintro c st'' ⟨rfl,a,rfl⟩;exact wpS_pure h
end
section
variable {kf:Keyed->Int} {G:Keyed->Prop}
def Ord (kf:Keyed->Int) (l:List Keyed):Prop:=l.Pairwise fun x y=>kf x<kf y
def Res (kf:Keyed->Int) (base o:List Keyed):Prop:=Ord kf o/\o.Perm base
structure MI (kf:Keyed->Int) (base o ra rb:List Keyed):Prop where
 so:Ord kf o
 sa:Ord kf ra
 sb:Ord kf rb
 oa:∀ x∈o,∀ y∈ra,kf x<kf y
 ob:∀ x∈o,∀ y∈rb,kf x<kf y
 pm:(o++(ra++rb)).Perm base
variable {base o ra rb xs:List Keyed}
theorem MI.swap (h:MI kf base o ra rb):MI kf base o rb ra:=⟨h.so,h.sb,h.sa,h.ob,h.oa,(List.Perm.append_left _ List.perm_append_comm).trans h.pm⟩
theorem MI.stepA (h:MI kf base o (xs++ra) rb) (hx:∀ x∈xs,∀ y∈rb,kf x<kf y):MI kf base (o++xs) ra rb:=by
 obtain⟨s1,s2,s3⟩:=List.pairwise_append.1 h.sa;refine⟨List.pairwise_append.2 ⟨h.so,s1,fun x hx y hy=>h.oa x hx y (zsu _ hy)⟩,s2,h.sb,fun x hx' y hy=>?_,fun x hx' y hy=>?_,?_⟩
 ·rcases zr9.1 hx' with q | q
  ·exact h.oa x q y (zsv _ hy)
  ·exact s3 x q y hy
 ·rcases zr9.1 hx' with q | q
  ·exact h.ob x q y hy
  ·exact hx x q y hy
 ·have:=h.pm
  rw [zsi] at this;rw [zsi];exact this
theorem MI.stepB (h:MI kf base o ra (xs++rb)) (hx:∀ x∈xs,∀ y∈ra,kf x<kf y):MI kf base (o++xs) ra rb:=(h.swap.stepA hx).swap
theorem MI.endA (h:MI kf base o ra []):Res kf base (o++ra):=⟨List.pairwise_append.2 ⟨h.so,h.sa,h.oa⟩,by have:=h.pm;rw [zsa] at this;exact this⟩
theorem MI.endAB (h:MI kf base o ra rb) (hx:∀ x∈ra,∀ y∈rb,kf x<kf y):Res kf base (o++ra++rb):=by
 have:=h
 rw [← zsa ra] at this;exact (this.stepA hx).swap.endA
theorem MI.endBA (h:MI kf base o ra rb) (hx:∀ x∈ra,∀ y∈rb,kf y<kf x):Res kf base (o++rb++ra):=h.swap.endAB fun y hy x hx'=>hx x hx' y hy
theorem znm (k:Int):∀ (l:List Keyed),Ord kf l->(∀ x∈l,kf x≠k)->∃ K,K<=l.length/\∀ i (h:i<l.length),(kf l[i]<k↔i<K)
 | [],_,_=>⟨0,zse _,fun i h=>absurd h (by simp)⟩
 | x::l,hs,hn=>by
  obtain⟨s1,s2⟩:=List.pairwise_cons.1 hs;obtain⟨K,h1,h2⟩:=znm k l s2 fun y hy=>hn y (zsh _ hy)
  by_cases hx:kf x<k
  ·refine⟨K+1,by simp;omega,fun i hi=>?_⟩;cases i with
   | zero=>simp [hx]
   | succ i=>rw [List.getElem_cons_succ,h2 i (by simp at hi;omega)];omega
  ·refine⟨0,Nat.zero_le _,fun i hi=>?_⟩;have hk:k<kf x:=by have:=hn x (zsw ..);omega
   cases i with
   | zero=>simp;omega
   | succ i =>
    rw [List.getElem_cons_succ];have hi':i<l.length:=by simp at hi;omega
    have:=s1 l[i] (List.getElem_mem _)
    omega
structure AI (kf:Keyed->Int) (a b out:Array Keyed) (ia ib:Nat):Prop where
 m:MI kf (a.toList++b.toList) out.toList (a.toList.drop ia) (b.toList.drop ib)
variable {a b out:Array Keyed} {ia ib k:Nat} {x y:Keyed}
theorem zcN (h:a[ia]?=some x):a.toList.drop ia=x::a.toList.drop (ia+1):=by
 rw [← zsD] at h;obtain⟨h1,h2⟩:=zr2.1 h;rw [zsK h1,h2]
theorem zeK:(a.extract ia (ia+k)).toList++a.toList.drop (ia+k)=a.toList.drop ia:=by
 rw [Array.toList_extract,List.extract_eq_take_drop,show ia+k-ia=k by omega,← List.drop_drop];exact List.take_append_drop _ _
theorem zgW:(a.extract ia a.size).toList=a.toList.drop ia:=by
 rw [Array.toList_extract,List.extract_eq_take_drop,List.take_of_length_le];rw [List.length_drop,zsC];exact zse _
theorem AI.pushA (h:AI kf a b out ia ib) (hx:a[ia]?=some x) (hl:∀ y∈b.toList.drop ib,kf x<kf y):AI kf a b (out.push x) (ia+1) ib:=by
 have:=h.m
 rw [zcN hx] at this;refine⟨?_⟩;rw [Array.toList_push];exact this.stepA (xs:=[x]) fun z hz=>by rw [zr7.1 hz];exact hl
theorem AI.pushB (h:AI kf a b out ia ib) (hx:b[ib]?=some x) (hl:∀ y∈a.toList.drop ia,kf x<kf y):AI kf a b (out.push x) ia (ib+1):=by
 have:=h.m
 rw [zcN hx] at this;refine⟨?_⟩;rw [Array.toList_push];exact this.stepB (xs:=[x]) fun z hz=>by rw [zr7.1 hz];exact hl
theorem AI.extA (h:AI kf a b out ia ib) (hl:∀ x∈(a.extract ia (ia+k)).toList,∀ y∈b.toList.drop ib,kf x<kf y):AI kf a b (out++a.extract ia (ia+k)) (ia+k) ib:=by
 have:=h.m
 rw [← zeK (k:=k)] at this;refine⟨?_⟩;rw [Array.toList_append];exact this.stepA hl
theorem AI.extB (h:AI kf a b out ia ib) (hl:∀ x∈(b.extract ib (ib+k)).toList,∀ y∈a.toList.drop ia,kf x<kf y):AI kf a b (out++b.extract ib (ib+k)) ia (ib+k):=by
 have:=h.m
 rw [← zeK (a:=b) (k:=k)] at this;refine⟨?_⟩;rw [Array.toList_append];exact this.stepB hl
def zhl (kf:Keyed->Int) (a b out:Array Keyed):Prop:=Res kf (a.toList++b.toList) out.toList
theorem AI.done (h:AI kf a b out ia ib) (he:a.size<=ia\/b.size<=ib):zhl kf a b (out++a.extract ia a.size++b.extract ib b.size):=by
 unfold zhl;rw [Array.toList_append,Array.toList_append,zgW,zgW];refine h.m.endAB fun x hx y hy=>?_
 rcases he with he | he
 ·rw [List.drop_eq_nil_of_le (by rw [zsC];exact he)] at hx;cases hx
 ·rw [List.drop_eq_nil_of_le (by rw [zsC];exact he)] at hy;cases hy
theorem AI.lastA (h:AI kf a b out ia ib) (he:ia+1=a.size) (hl:∀ x,a[a.size-1]?=some x->∀ y∈b.toList,kf y<kf x):zhl kf a b (out++b.extract ib b.size++a.extract ia a.size):=by
 unfold zhl;rw [Array.toList_append,Array.toList_append,zgW,zgW];refine h.m.endBA fun x hx y hy=>?_
 have hia:ia<a.size:=by omega
 rw [zcN (Array.getElem?_eq_getElem hia),List.drop_eq_nil_of_le (by rw [zsC];omega)] at hx;rw [zr7.1 hx];exact hl _ (by rw [show a.size-1=ia by omega];exact Array.getElem?_eq_getElem hia) y (List.mem_of_mem_drop hy)
theorem Ord.head (h:Ord kf (x::ra)):∀ y∈x::ra,kf x<=kf y:=fun y hy=>by
 rcases zsF.1 hy with rfl | q
 ·exact Int.le_refl _
 ·exact Int.le_of_lt ((List.pairwise_cons.1 h).1 y q)
structure Two (kf:Keyed->Int) (G:Keyed->Prop) (a b:Array Keyed):Prop where
 ga:∀ x∈a.toList,G x
 gb:∀ x∈b.toList,G x
 ne:∀ x∈a.toList,∀ y∈b.toList,kf x≠kf y
 sa:Ord kf a.toList
 sb:Ord kf b.toList
 na:0<a.size
 nb:0<b.size
 hd:∀ y,b[0]?=some y->∀ x∈a.toList,kf y<kf x
 lst:∀ x,a[a.size-1]?=some x->∀ y∈b.toList,kf y<kf x
theorem za5 (h:a[ia]?=some x):x∈a.toList:=Array.mem_toList_iff.2 (Array.mem_of_getElem? h)
theorem zaK (h:ia<a.size):∃ x,a[ia]?=some x:=⟨_,Array.getElem?_eq_getElem h⟩
theorem AI.start (T:Two kf G a b) (h:b[0]?=some x):AI kf a b #[x] 0 1:=by
 refine⟨?_⟩;have e:=zcN h;rw [List.drop_zero] at e;have s:=T.sb;rw [e] at s;have s':=List.pairwise_cons.1 s;refine⟨List.pairwise_singleton _ _,T.sa,s'.2,fun z hz y hy=>?_,fun z hz y hy=>?_,?_⟩
 ·rw [zr7.1 hz];exact T.hd x h y hy
 ·rw [zr7.1 hz];exact s'.1 y hy
 ·rw [List.drop_zero]
  conv=>rhs;rw [e]
  show (x::(a.toList++List.drop 1 b.toList)).Perm _;exact (List.perm_middle).symm
theorem AI.ltB (h:AI kf a b out ia ib) (hx:a[ia]?=some x) (hy:b[ib]?=some y) (l:kf x<kf y):∀ z∈b.toList.drop ib,kf x<kf z:=fun z hz=>by
 have s:=h.m.sb;rw [zcN hy] at s hz;exact Int.lt_of_lt_of_le l (s.head z hz)
theorem AI.ltA (h:AI kf a b out ia ib) (hx:a[ia]?=some x) (hy:b[ib]?=some y) (l:kf y<kf x):∀ z∈a.toList.drop ia,kf y<kf z:=fun z hz=>by
 have s:=h.m.sa;rw [zcN hx] at s hz;exact Int.lt_of_lt_of_le l (s.head z hz)
theorem zbE {i j:Nat} (h:x∈(a.extract i j).toList):∃ k,i<=k/\k<j/\a[k]?=some x:=by
 rw [Array.toList_extract,List.extract_eq_take_drop] at h;obtain⟨n,hn⟩:=List.mem_iff_getElem?.1 h;rw [List.getElem?_take] at hn;split at hn
 ·rw [List.getElem?_drop] at hn;refine⟨i+n,by omega,by omega,?_⟩;rw [← zsD];exact hn
 ·cases hn
theorem zkp {i:Nat} (h:x∈a.toList.drop i):∃ k,i<=k/\a[k]?=some x:=by
 obtain⟨n,hn⟩:=List.mem_iff_getElem?.1 h;rw [List.getElem?_drop] at hn;exact⟨i+n,by omega,by rw [← zsD];exact hn⟩
theorem zgl {arr:Array Keyed} {bs n:Nat} {kk:Int} (hn:bs+n<=arr.size) (hs:∀ i j x y,i<j->j<n->arr[bs+i]?=some x->arr[bs+j]?=some y->kf x<kf y)
  (hg:∀ i x,i<n->arr[bs+i]?=some x->G x/\kf x≠kk):∃ K,K<=n/\∀ i,i<n->∃ x,arr[bs+i]?=some x/\G x/\kf x≠kk/\(kf x<kk↔i<K):=by
 have g:∀ i (h:i<((arr.toList.drop bs).take n).length),i<n/\arr[bs+i]?=some ((arr.toList.drop bs).take n)[i]:=fun i h=>by
  have e:=zr0 h
  have:i<n:=by rw [zsm] at h;omega
  rw [List.getElem?_take,zsB this,List.getElem?_drop,zsD] at e;exact⟨this,e⟩
 have hl:((arr.toList.drop bs).take n).length=n:=by rw [zsm,List.length_drop,zsC];omega
 obtain⟨K,h1,h2⟩:=znm (kf:=kf) kk ((arr.toList.drop bs).take n) (List.pairwise_iff_getElem.2 fun i j hi hj hij=>hs i j _ _ hij (g j hj).1 (g i hi).2 (g j hj).2) fun x hx=>by
  obtain⟨i,hi,rfl⟩:=List.mem_iff_getElem.1 hx;exact (hg i _ (g i hi).1 (g i hi).2).2
 refine⟨K,by omega,fun i hi=>?_⟩;have hi':i<((arr.toList.drop bs).take n).length:=by omega
 obtain⟨q1,q2⟩:=hg i _ hi (g i hi').2;exact⟨_,(g i hi').2,q1,q2,h2 i hi'⟩
theorem Ord.arr (h:Ord kf a.toList) {i j:Nat} {x y:Keyed} (hij:i<j) (hx:a[i]?=some x) (hy:a[j]?=some y):kf x<kf y:=by
 rw [← zsD] at hx hy;obtain⟨h1,rfl⟩:=zr2.1 hx;obtain⟨h2,rfl⟩:=zr2.1 hy;exact List.pairwise_iff_getElem.1 h i j h1 h2 hij
theorem Ord.ofArr (h:∀ (i j:Nat) (x y:Keyed),i<j->a[i]?=some x->a[j]?=some y->kf x<kf y):Ord kf a.toList :=
 List.pairwise_iff_getElem.2 fun i j hi hj hij=>h i j _ _ hij (by rw [← zsD];exact zr0 hi) (by rw [← zsD];exact zr0 hj)
theorem Two.cutA (T:Two kf G a b) (hy:y∈b.toList) {bs n:Nat} (hn:bs+n<=a.size):∃ K,K<=n/\∀ i,i<n->∃ x,a[bs+i]?=some x/\G x/\kf x≠kf y/\(kf x<kf y↔i<K) :=
 zgl hn (fun i j x z hij _ hx hz=>T.sa.arr (by omega) hx hz) fun i x _ hx=>⟨T.ga x (za5 hx),T.ne x (za5 hx) y hy⟩
theorem Two.cutB (T:Two kf G a b) (hx:x∈a.toList) {bs n:Nat} (hn:bs+n<=b.size):∃ K,K<=n/\∀ i,i<n->∃ y,b[bs+i]?=some y/\G y/\kf y≠kf x/\(kf y<kf x↔i<K) :=
 zgl hn (fun i j x z hij _ hx hz=>T.sb.arr (by omega) hx hz) fun i y _ hy=>⟨T.gb y (za5 hy),Ne.symm (T.ne x hx y (za5 hy))⟩
theorem AI.galA {K:Nat} (T:Two kf G a b) (S:AI kf a b out ia ib) (hy:b[ib]?=some y) (l1:ia+1<a.size) (hK:K<=a.size-ia)
  (cut:∀ i,i<a.size-ia->∃ x,a[ia+i]?=some x/\G x/\kf x≠kf y/\(kf x<kf y↔i<K)) :
  AI kf a b (out++a.extract ia (ia+K)) (ia+K) ib/\(∀ x∈a.toList.drop (ia+K),kf y<kf x)/\ia+K+1<=a.size:=by
 have at_:∀ k x,ia<=k->a[k]?=some x->kf x≠kf y/\(kf x<kf y↔k<ia+K):=fun k x k1 k3=>by
  have hk3:=(Array.getElem?_eq_some_iff.1 k3).1;obtain⟨d,rfl⟩:=Nat.exists_eq_add_of_le k1;obtain⟨x',e,_,ne,z⟩:=cut d (by omega);rw [k3] at e;cases e;exact⟨ne,z.trans Nat.add_lt_add_iff_left.symm⟩
 refine⟨S.extA (k:=K) fun x hx z hz=>?_,fun x hx=>?_,?_⟩
 ·obtain⟨k,k1,k2,k3⟩:=zbE hx;have s:=S.m.sb;rw [zcN hy] at s hz;exact Int.lt_of_lt_of_le ((at_ k x k1 k3).2.2 k2) (s.head z hz)
 ·obtain⟨k,k1,k3⟩:=zkp hx;obtain⟨ne,z⟩:=at_ k x (zsd (Nat.le_add_right _ _) k1) k3;exact (Int.lt_or_lt_of_ne ne).resolve_left fun q=>absurd (z.1 q) (Nat.not_lt.2 k1)
 ·obtain⟨xl,hxl⟩:=zaK (a:=a) (ia:=a.size-1) (by omega);obtain⟨ne,z⟩:=at_ _ xl (by omega) hxl;have q:=T.lst _ hxl y (za5 hy)
  have:=mt z.2 (Int.not_lt.2 (Int.le_of_lt q))
  omega
theorem AI.galB {L:Nat} (S:AI kf a b out ia ib) (hx:a[ia]?=some x) (cut:∀ i,i<b.size-ib->∃ y,b[ib+i]?=some y/\G y/\kf y≠kf x/\(kf y<kf x↔i<L)) :
  AI kf a b (out++b.extract ib (ib+L)) ia (ib+L)/\∀ z∈b.toList.drop (ib+L),kf x<kf z:=by
 have at_:∀ k y,ib<=k->b[k]?=some y->kf y≠kf x/\(kf y<kf x↔k<ib+L):=fun k y k1 k3=>by
  have hk3:=(Array.getElem?_eq_some_iff.1 k3).1;obtain⟨d,rfl⟩:=Nat.exists_eq_add_of_le k1;obtain⟨x',e,_,ne,z⟩:=cut d (by omega);rw [k3] at e;cases e;exact⟨ne,z.trans Nat.add_lt_add_iff_left.symm⟩
 refine⟨S.extB (k:=L) fun z hz u hu=>?_,fun z hz=>?_⟩
 ·obtain⟨k,k1,k2,k3⟩:=zbE hz;have s:=S.m.sa;rw [zcN hx] at s hu;exact Int.lt_of_lt_of_le ((at_ k z k1 k3).2.2 k2) (s.head u hu)
 ·obtain⟨k,k1,k3⟩:=zkp hz;obtain⟨ne,w⟩:=at_ k z (zsd (Nat.le_add_right _ _) k1) k3;exact (Int.lt_or_lt_of_ne ne).resolve_left fun q=>absurd (w.1 q) (Nat.not_lt.2 k1)
end
section
variable {M:Model} {A:Around} {E:Value->Shared->Prop} {s:Shared} {kf:Keyed->Int} {G:Keyed->Prop} {κ:SortKind}
abbrev zca (st:SortSt) (g:Nat):SortSt:=SortSt.mk' (kindOf st) (arrOf st) (pendingOf st) g (failedOf st)
theorem zaT {a:Array Keyed} {i:Nat} {x:Keyed} {st:SortSt} {R:Keyed->SortSt->Prop} (hx:a[i]?=some x) (h:R x st):wpS M A E s (elem' a i) R st:=by rw [elem'_eq,hx];exact wpS_pure h
theorem zaF {σ α:Type} {c:Prop} [Decidable c] {m1 m2:StateT σ Sem α} {Q:α->σ->Prop} {st:σ} (h1:c->wpS M A E s m1 Q st) (h2:¬ c->wpS M A E s m2 Q st):wpS M A E s (if c then m1 else m2) Q st:=by
 by_cases h:c
 ·rw [zsB h];exact h1 h
 ·rw [zsA h];exact h2 h
theorem ziC {σ α:Type} {k f:Nat->StateT σ Sem α} {Q:α->σ->Prop} {st:σ} (hk:∀ n,k n=f (n-1)) (h:∀ n,wpS M A E s (f n) Q st):∀ mg:Nat,wpS M A E s (if mg > 1 then k mg else f mg) Q st:=fun mg=>zaF (fun _=>by rw [hk];exact h _) fun _=>h _
set_option hygiene false in
local macro_rules | `(tactic| walk_at "loEnd") => `(tactic| (
 refine wpS_bind (zaT hx ?_);have S4:=S3.pushA hx hi2;refine zaF (fun e=>?_) fun e=>?_
 ·exact wpS_pure ⟨_,rfl,.inl ⟨_,rfl,S4.lastA (by simpa using e) T.lst⟩⟩
 have e2:I+1+1≠a.size:=by simpa using e
 refine zaF (fun _=>?_) fun _=>?_
 ·exact wpS_pure ⟨_,rfl,.inr ⟨_,_,_,_,_,_,rfl,S4,by omega,by omega,by omega⟩⟩
 ·exact wpS_pure ⟨_,rfl,_,_,_,_,_,_,rfl,S4,by omega,by omega,by omega⟩))
set_option hygiene false in
local macro_rules | `(tactic| walk_at "loTail") => `(tactic| (
 refine wpS_bind (zaT hy ?_);have S2:=S1.pushB hy hi;refine zaF (fun e=>?_) fun e=>?_
 ·have e0:ib+1=b.size:=by simpa using e
  exact wpS_pure ⟨_,rfl,.inl ⟨_,rfl,S2.done (.inr (by omega))⟩⟩
 have e1:ib+1≠b.size:=by simpa using e
 obtain⟨x,hx⟩:=zaK (a:=a) (ia:=I) (by omega);refine wpS_bind (zaT hx ?_);obtain⟨L,hL,cutb⟩:=T.cutB (za5 hx) (bs:=ib+1) (n:=b.size-(ib+1)) (by omega);refine wpS_bind (zcm C (K:=L) hk (T.ga x (za5 hx)) cutb (by omega) hL ?_);dsimp only;obtain⟨S3,hi2⟩:=AI.galB S2 hx cutb;refine zaF (fun _=>?_) fun eL=>?_
 ·refine zaF (fun e=>?_) fun e=>?_
  ·have e0:ib+1+L=b.size:=by simpa using e
   exact wpS_pure ⟨_,rfl,.inl ⟨_,rfl,S3.done (.inr (by omega))⟩⟩
  have e3:ib+1+L≠b.size:=by simpa using e
  walk_at "loEnd"
 ·obtain rfl:L=0:=by omega
  have S3:=S2;walk_at "loEnd"))
theorem zjA (C:Cmp M A E s kf G κ) {a b:Array Keyed} {st:SortSt} {Q:Array Keyed->SortSt->Prop} (hk:kindOf st=κ) (T:Two kf G a b) (h:∀ o g,zhl kf a b o->Q o (zca st g)):wpS M A E s (zmB a b) Q st:=by
 obtain⟨x0,hx0⟩:=zaK T.nb;refine wpS_bind (wpS_lift (wpAny_rule ⟨rfl,?_⟩));refine wpS_bind (zaT hx0 ?_);have S:=AI.start T hx0;by_cases h1:1=b.size
 ·rw [zsB (by simpa using h1)];exact wpS_pure (h _ (gallopOf st) (S.done (.inr (by omega))))
 by_cases h2:1=a.size
 ·rw [zsA (by simpa using h1),zsB (by simpa using h2)];exact wpS_pure (h _ (gallopOf st) (S.lastA (by omega) T.lst))
 rw [zsA (by simpa using h1),zsA (by simpa using h2)];refine wpS_bind (wpS_get ?_);have na:=T.na;have nb:=T.nb;refine wpS_bind (wpS_mono (wpS_forRange (I:=fun i c st'=>∃ g,st'=zca st g/\∃ out ia ib mg,c=(none,out,ia,ib,mg)/\AI kf a b out ia ib/\ia+1<a.size/\ib<b.size/\i+1<=ia+ib)
  (Q:=fun c st'=>∃ g,st'=zca st g/\∃ o,c.1=some o/\zhl kf a b o) ?_ ?_ ⟨gallopOf st,rfl,_,0,1,_,rfl,S,by omega,by omega,by omega⟩) ?_)
 ·rintro i c st' _ hi ⟨g,rfl,out,ia,ib,mg,rfl,S,l1,l2,l3⟩;dsimp only;refine wpS_bind (wpS_mono (wpS_forRange (I:=fun j c st'=>st'=zca st g/\∃ out ia ib ac bc,c=(none,out,ia,ib,ac,bc)/\AI kf a b out ia ib/\ia+1<a.size/\ib<b.size/\i+1+j<=ia+ib)
   (Q:=fun c st'=>st'=zca st g/\((∃ o,c.1=some o/\zhl kf a b o)\/∃ out ia ib ac bc,c=(none,out,ia,ib,ac,bc)/\AI kf a b out ia ib/\ia+1<a.size/\ib<b.size/\i+2<=ia+ib)) ?_ ?_ ⟨rfl,out,ia,ib,0,0,rfl,S,l1,l2,by omega⟩) ?_)
  ·rintro j c st' _ hj ⟨rfl,out,ia,ib,ac,bc,rfl,S,l1,l2,l3⟩;dsimp only;obtain⟨x,hx⟩:=zaK (a:=a) (ia:=ia) (by omega);obtain⟨y,hy⟩:=zaK (a:=b) (ia:=ib) l2;refine wpS_bind (zaT hy ?_);refine wpS_bind (zaT hx ?_);refine wpS_bind (C y x _ _ (T.gb y (za5 hy)) (T.ga x (za5 hx)) (Ne.symm (T.ne x (za5 hx) y (za5 hy))) hk ?_);have hn:=T.ne x (za5 hx) y (za5 hy);by_cases q:kf y<kf x
   ·rw [zr4 q];dsimp only;rw [zsB rfl];refine wpS_bind (zaT hy ?_);have S':=S.pushB hy (S.ltA hx hy q);by_cases e1:ib+1=b.size
    ·rw [zsB (by simpa using e1)];exact wpS_pure ⟨rfl,.inl ⟨_,rfl,S'.done (.inr (by omega))⟩⟩
    rw [zsA (by simpa using e1)];split
    ·exact wpS_pure ⟨rfl,.inr ⟨_,_,_,_,_,rfl,S',l1,by omega,by omega⟩⟩
    ·exact wpS_pure ⟨rfl,_,_,_,_,_,rfl,S',l1,by omega,by omega⟩
   ·rw [zr5 q];dsimp only;rw [zsA (by simp)];refine wpS_bind (zaT hx ?_);have S':=S.pushA hx (S.ltB hx hy (by omega));by_cases e1:ia+1+1=a.size
    ·rw [zsB (by simpa using e1)];exact wpS_pure ⟨rfl,.inl ⟨_,rfl,S'.lastA e1 T.lst⟩⟩
    rw [zsA (by simpa using e1)];split
    ·exact wpS_pure ⟨rfl,.inr ⟨_,_,_,_,_,rfl,S',by omega,by omega,by omega⟩⟩
    ·exact wpS_pure ⟨rfl,_,_,_,_,_,rfl,S',by omega,by omega,by omega⟩
  ·rintro c st' ⟨rfl,out,ia,ib,ac,bc,rfl,S,l1,l2,l3⟩;exact⟨rfl,.inr ⟨_,_,_,_,_,rfl,S,l1,l2,by omega⟩⟩
  ·rintro c st' ⟨rfl,⟨o,e,ho⟩ | ⟨out,ia,ib,ac,bc,rfl,S,l1,l2,l3⟩⟩
   ·obtain⟨c1,c2⟩:=c;dsimp only at e ⊢;subst e;exact wpS_pure ⟨g,rfl,o,rfl,ho⟩
   dsimp only;refine wpS_bind (wpS_lift (wpAny_rule ⟨rfl,?_⟩));refine wpS_bind (wpS_mono (wpS_forRange (I:=fun j c st'=>∃ g,st'=zca st g/\∃ out ia ib mg ac bc,c=(none,out,ia,ib,mg,ac,bc)/\AI kf a b out ia ib/\ia+1<a.size/\ib<b.size/\i+2<=ia+ib)
    (Q:=fun c st'=>∃ g,st'=zca st g/\((∃ o,c.1=some o/\zhl kf a b o)\/∃ out ia ib mg ac bc,c=(none,out,ia,ib,mg,ac,bc)/\AI kf a b out ia ib/\ia+1<a.size/\ib<b.size/\i+2<=ia+ib)) ?_ ?_ ⟨g,rfl,out,ia,ib,_,_,_,rfl,S,l1,l2,by omega⟩) ?_)
   ·rintro j c st' _ hj ⟨g,rfl,out,ia,ib,mg,ac,bc,rfl,S,l1,l2,l3⟩;dsimp only
    revert mg
    refine ziC (fun _=>rfl) (fun mg=>?_);refine wpS_bind (wpS_modify ?_);obtain⟨y,hy⟩:=zaK (a:=b) (ia:=ib) l2;refine wpS_bind (zaT hy ?_);obtain⟨K,hK,cut⟩:=T.cutA (za5 hy) (bs:=ia) (n:=a.size-ia) (by omega);refine wpS_bind (zcm C (K:=K) hk (T.gb y (za5 hy)) cut (by omega) hK ?_);dsimp only;obtain⟨S1,hi,hKl⟩:=AI.galA T S hy l1 hK cut;refine zaF (fun _=>?_) fun eK=>?_
    ·refine zaF (fun e=>?_) fun e=>?_
     ·exact wpS_pure ⟨_,rfl,.inl ⟨_,rfl,S1.lastA (by simpa using e) T.lst⟩⟩
     have e4:ia+K+1≠a.size:=by simpa using e
     rw [zsA (by simp;omega)];generalize hI:ia+K=I at *;walk_at "loTail"
    ·obtain rfl:K=0:=by omega
     clear S1;have S1:=S;rw [Nat.add_zero] at hi;generalize ia=I at *;walk_at "loTail"
   ·rintro c st' ⟨g,rfl,out,ia,ib,mg,ac,bc,rfl,S,l1,l2,l3⟩;exact⟨g,rfl,.inr ⟨_,_,_,_,_,_,rfl,S,l1,l2,by omega⟩⟩
   ·rintro c st' ⟨g,rfl,⟨o,e,ho⟩ | ⟨out,ia,ib,mg,ac,bc,rfl,S,l1,l2,l3⟩⟩
    ·obtain⟨c1,c2⟩:=c;dsimp only at e ⊢;subst e;exact wpS_pure ⟨g,rfl,o,rfl,ho⟩
    dsimp only;exact wpS_bind (wpS_modify (wpS_pure ⟨_,rfl,_,_,_,_,rfl,S,l1,l2,by omega⟩))
 ·rintro c st' ⟨g,rfl,out,ia,ib,mg,rfl,S,l1,l2,l3⟩;omega
 ·rintro ⟨c1,c2⟩ st' ⟨g,rfl,o,rfl,ho⟩;exact wpS_pure (h o g ho)
end
section
variable {kf:Keyed->Int} {G:Keyed->Prop}
structure HI (kf:Keyed->Int) (a b out:Array Keyed) (na nb:Nat):Prop where
 m:MI (fun x=>- kf x) (a.toList++b.toList) out.toList (a.toList.take na).reverse (b.toList.take nb).reverse
variable {a b out:Array Keyed} {na nb k:Nat} {x y:Keyed}
theorem zhY (h:a[na]?=some x):(a.toList.take (na+1)).reverse=x::(a.toList.take na).reverse:=by
 rw [← zsD] at h;obtain⟨h1,h2⟩:=zr2.1 h;rw [List.take_succ_eq_append_getElem h1,h2,List.reverse_append]
 rfl
theorem ziG (h:k<=na):(a.extract k na).reverse.toList++(a.toList.take k).reverse=(a.toList.take na).reverse:=by
 rw [Array.toList_reverse,← List.reverse_append,Array.toList_extract,List.extract_eq_take_drop]
 congr 1
 conv=>rhs;rw [show na=k+(na-k) by omega,List.take_add]
theorem ze8:(a.extract 0 na).toList=a.toList.take na:=by
 rw [Array.toList_extract,List.extract_eq_take_drop,List.drop_zero]
 rfl
theorem HI.pushA (h:HI kf a b out (na+1) nb) (hx:a[na]?=some x) (hl:∀ y∈b.toList.take nb,kf y<kf x):HI kf a b (out.push x) na nb:=by
 have:=h.m
 rw [zhY hx] at this;refine⟨?_⟩;rw [Array.toList_push];exact this.stepA (xs:=[x]) fun z hz y hy=>by rw [zr7.1 hz];have:=hl y (List.mem_reverse.1 hy);omega
theorem HI.pushB (h:HI kf a b out na (nb+1)) (hx:b[nb]?=some x) (hl:∀ y∈a.toList.take na,kf y<kf x):HI kf a b (out.push x) na nb:=by
 have:=h.m
 rw [zhY hx] at this;refine⟨?_⟩;rw [Array.toList_push];exact this.stepB (xs:=[x]) fun z hz y hy=>by rw [zr7.1 hz];have:=hl y (List.mem_reverse.1 hy);omega
theorem HI.extA (h:HI kf a b out na nb) (hk:k<=na) (hl:∀ x∈(a.extract k na).toList,∀ y∈b.toList.take nb,kf y<kf x):HI kf a b (out++(a.extract k na).reverse) k nb:=by
 have:=h.m
 rw [← ziG hk] at this;refine⟨?_⟩;rw [Array.toList_append];exact this.stepA fun x hx y hy=>by rw [Array.toList_reverse,List.mem_reverse] at hx;have:=hl x hx y (List.mem_reverse.1 hy);omega
theorem HI.extB (h:HI kf a b out na nb) (hk:k<=nb) (hl:∀ x∈(b.extract k nb).toList,∀ y∈a.toList.take na,kf y<kf x):HI kf a b (out++(b.extract k nb).reverse) na k:=by
 have:=h.m
 rw [← ziG hk] at this;refine⟨?_⟩;rw [Array.toList_append];exact this.stepB fun x hx y hy=>by rw [Array.toList_reverse,List.mem_reverse] at hx;have:=hl x hx y (List.mem_reverse.1 hy);omega
theorem Res.back {base o:List Keyed} (h:Res (fun x=>- kf x) base o):Res kf base o.reverse:=by
 refine⟨?_,(List.reverse_perm _).trans h.2⟩;unfold Ord;rw [List.pairwise_reverse];exact h.1.imp fun q=>by dsimp only at q;omega
theorem HI.done (h:HI kf a b out na nb) (he:na=0\/nb=0):zhl kf a b (a.extract 0 na++b.extract 0 nb++out.reverse):=by
 unfold zhl
 have:=(h.m.endBA fun x hx y hy=>by
  rcases he with rfl | rfl
  ·cases hx
  ·cases hy).back
 rw [List.reverse_append,List.reverse_append,List.reverse_reverse,List.reverse_reverse] at this;rw [Array.toList_append,Array.toList_append,ze8,ze8,Array.toList_reverse,zsi];exact this
theorem HI.firstB (h:HI kf a b out na nb) (he:nb=1) (hl:∀ y,b[0]?=some y->∀ x∈a.toList,kf y<kf x):zhl kf a b (b.extract 0 nb++a.extract 0 na++out.reverse):=by
 unfold zhl
 have:=(h.m.endAB fun x hx y hy=>by
  subst he;rw [List.mem_reverse] at hx hy
  have:b[0]?=some y:=by
   rw [← zsD]
   revert hy
   cases b.toList with
   | nil=>intro hy;cases hy
   | cons z r=>intro hy;simp at hy;subst hy;rfl
  have:=hl y this x (List.mem_of_mem_take hx)
  omega).back
 rw [List.reverse_append,List.reverse_append,List.reverse_reverse,List.reverse_reverse] at this;rw [Array.toList_append,Array.toList_append,ze8,ze8,Array.toList_reverse,zsi];exact this
theorem zg1 {i:Nat} (h:x∈a.toList.take i):∃ k,k<i/\a[k]?=some x:=by
 rw [← ze8] at h;obtain⟨k,_,k2,k3⟩:=zbE h;exact⟨k,k2,k3⟩
theorem HI.start (T:Two kf G a b) (h:a[a.size-1]?=some x):HI kf a b #[x] (a.size-1) b.size:=by
 refine⟨?_⟩;have na:=T.na;have e:=zhY h;rw [show a.size-1+1=a.size by omega,show a.toList.take a.size=a.toList by rw [← zsC];exact zsj] at e;have eb:b.toList.take b.size=b.toList:=by rw [← zsC];exact zsj
 rw [eb];have rv:∀ {l:List Keyed},Ord kf l->Ord (fun x=>- kf x) l.reverse:=fun hl=>by unfold Ord;rw [List.pairwise_reverse];exact hl.imp fun q=>by dsimp only;omega
 have s:=rv T.sa;rw [e] at s;have s':=List.pairwise_cons.1 s;refine⟨List.pairwise_singleton _ _,s'.2,rv T.sb,fun z hz y hy=>?_,fun z hz y hy=>?_,?_⟩
 ·rw [zr7.1 hz];exact s'.1 y hy
 ·rw [zr7.1 hz];have:=T.lst x h y (List.mem_reverse.1 hy);omega
 ·show (x::((a.toList.take (a.size-1)).reverse++b.toList.reverse)).Perm _;rw [← List.cons_append,← e];exact List.Perm.append (List.reverse_perm _) (List.reverse_perm _)
theorem HI.ltA (T:Two kf G a b) (hx:a[na]?=some x) (l:kf x<kf y):∀ z∈a.toList.take (na+1),kf z<kf y:=fun z hz=>by
 obtain⟨k,h1,h2⟩:=zg1 hz;by_cases q:k=na
 ·subst q;rw [hx] at h2;cases h2;exact l
 ·exact Int.lt_trans (T.sa.arr (by omega) h2 hx) l
theorem HI.ltB (T:Two kf G a b) (hy:b[nb]?=some y) (l:kf y<kf x):∀ z∈b.toList.take (nb+1),kf z<kf x:=fun z hz=>by
 obtain⟨k,h1,h2⟩:=zg1 hz;by_cases q:k=nb
 ·subst q;rw [hy] at h2;cases h2;exact l
 ·exact Int.lt_trans (T.sb.arr (by omega) h2 hy) l
theorem HI.galB {L:Nat} (T:Two kf G a b) (S:HI kf a b out na nb) (hna:0<na) (hx:a[na-1]?=some x) (hnb:0<nb) (hL:L<=nb)
  (cut:∀ i,i<nb->∃ y,b[0+i]?=some y/\G y/\kf y≠kf x/\(kf y<kf x↔i<L)) :
  HI kf a b (out++(b.extract L nb).reverse) na L/\(∀ z∈b.toList.take L,kf z<kf x)/\1<=L:=by
 have at_:∀ k y,k<nb->b[k]?=some y->kf y≠kf x/\(kf y<kf x↔k<L):=fun k y k1 k3=>by
  obtain⟨x',e,_,ne,z⟩:=cut k k1;rw [Nat.zero_add,k3] at e;cases e;exact⟨ne,z⟩
 refine⟨S.extB (k:=L) hL fun z hz u hu=>?_,fun z hz=>?_,?_⟩
 ·obtain⟨k,k1,k2,k3⟩:=zbE hz;obtain⟨ne,w⟩:=at_ k z k2 k3;refine HI.ltA (na:=na-1) T hx ((Int.lt_or_lt_of_ne ne).resolve_left fun q=>absurd (w.1 q) (Nat.not_lt.2 k1)) u ?_;rw [Nat.sub_add_cancel hna];exact hu
 ·obtain⟨k,k1,k3⟩:=zg1 hz;exact (at_ k z (zsf k1 hL) k3).2.2 k1
 ·obtain⟨y0,e⟩:=zaK (a:=b) (ia:=0) T.nb;exact (at_ 0 y0 hnb e).2.1 (T.hd y0 e x (za5 hx))
theorem HI.galA {K:Nat} (T:Two kf G a b) (S:HI kf a b out na nb) (hnb:0<nb) (hy:b[nb-1]?=some y) (hK:K<=na)
  (cut:∀ i,i<na->∃ x,a[0+i]?=some x/\G x/\kf x≠kf y/\(kf x<kf y↔i<K)) :
  HI kf a b (out++(a.extract K na).reverse) K nb/\∀ z∈a.toList.take K,kf z<kf y:=by
 have at_:∀ k x,k<na->a[k]?=some x->kf x≠kf y/\(kf x<kf y↔k<K):=fun k x k1 k3=>by
  obtain⟨x',e,_,ne,z⟩:=cut k k1;rw [Nat.zero_add,k3] at e;cases e;exact⟨ne,z⟩
 refine⟨S.extA (k:=K) hK fun z hz u hu=>?_,fun z hz=>?_⟩
 ·obtain⟨k,k1,k2,k3⟩:=zbE hz;obtain⟨ne,w⟩:=at_ k z k2 k3;refine HI.ltB (nb:=nb-1) T hy ((Int.lt_or_lt_of_ne ne).resolve_left fun q=>absurd (w.1 q) (Nat.not_lt.2 k1)) u ?_;rw [Nat.sub_add_cancel hnb];exact hu
 ·obtain⟨k,k1,k3⟩:=zg1 hz;exact (at_ k z (zsf k1 hK) k3).2.2 k1
theorem HI.pushA' (h:HI kf a b out na nb) (hn:0<na) (hx:a[na-1]?=some x) (hl:∀ y∈b.toList.take nb,kf y<kf x):HI kf a b (out.push x) (na-1) nb :=
 HI.pushA (by rw [Nat.sub_add_cancel hn];exact h) hx hl
theorem HI.pushB' (h:HI kf a b out na nb) (hn:0<nb) (hx:b[nb-1]?=some x) (hl:∀ y∈a.toList.take na,kf y<kf x):HI kf a b (out.push x) na (nb-1) :=
 HI.pushB (by rw [Nat.sub_add_cancel hn];exact h) hx hl
end
section
variable {M:Model} {A:Around} {E:Value->Shared->Prop} {s:Shared} {kf:Keyed->Int} {G:Keyed->Prop} {κ:SortKind}
set_option hygiene false in
local macro_rules | `(tactic| walk_at "hiEnd") => `(tactic| (
 refine wpS_bind (zaT hx ?_);have S4:=S3.pushA' (by omega) hx hi2;refine zaF (fun e=>?_) fun e=>?_
 ·have e0:I-1=0:=by simpa using e
  exact wpS_pure ⟨_,rfl,.inl ⟨_,rfl,S4.done (.inl e0)⟩⟩
 have e2:I-1≠0:=by simpa using e
 refine zaF (fun _=>?_) fun _=>?_
 ·exact wpS_pure ⟨_,rfl,.inr ⟨_,_,_,_,_,_,rfl,S4,by omega,by omega,by omega,by omega,by omega⟩⟩
 ·exact wpS_pure ⟨_,rfl,_,_,_,_,_,_,rfl,S4,by omega,by omega,by omega,by omega,by omega⟩))
set_option hygiene false in
local macro_rules | `(tactic| walk_at "hiTail") => `(tactic| (
 refine wpS_bind (zaT hy ?_);have S2:=S1.pushB' (by omega) hy hi;refine zaF (fun e=>?_) fun e=>?_
 ·have e0:nb-1=1:=by simpa using e
  exact wpS_pure ⟨_,rfl,.inl ⟨_,rfl,S2.firstB e0 T.hd⟩⟩
 have e1:nb-1≠1:=by simpa using e
 obtain⟨x,hx⟩:=zaK (a:=a) (ia:=I-1) (by omega);refine wpS_bind (zaT hx ?_);obtain⟨L,hL,cutb⟩:=T.cutB (za5 hx) (bs:=0) (n:=nb-1) (by omega);refine wpS_bind (zcm C (K:=L) hk (T.ga x (za5 hx)) cutb (by omega) hL ?_);dsimp only;obtain⟨S3,hi2,hL1⟩:=HI.galB T S2 (by omega) hx (by omega) hL cutb;refine zaF (fun _=>?_) fun eL=>?_
 ·refine zaF (fun e=>?_) fun e=>?_
  ·have e0:L=1:=by simpa using e
   exact wpS_pure ⟨_,rfl,.inl ⟨_,rfl,S3.firstB e0 T.hd⟩⟩
  have e3:L≠1:=by simpa using e
  rw [zsA (by simp;omega)];walk_at "hiEnd"
 ·obtain rfl:L=nb-1:=by omega
  clear S3;have S3:=S2;walk_at "hiEnd"))
theorem zj5 (C:Cmp M A E s kf G κ) {a b:Array Keyed} {st:SortSt} {Q:Array Keyed->SortSt->Prop} (hk:kindOf st=κ) (T:Two kf G a b) (h:∀ o g,zhl kf a b o->Q o (zca st g)):wpS M A E s (zmp a b) Q st:=by
 have ta:=T.na;have tb:=T.nb;obtain⟨x0,hx0⟩:=zaK (a:=a) (ia:=a.size-1) (by omega);refine wpS_bind (wpS_lift (wpAny_rule ⟨rfl,?_⟩));refine wpS_bind (zaT hx0 ?_);have S:=HI.start T hx0;by_cases h1:a.size-1=0
 ·rw [zsB (by simpa using h1)];exact wpS_pure (h _ (gallopOf st) (S.done (.inl h1)))
 by_cases h2:b.size=1
 ·rw [zsA (by simpa using h1),zsB (by simpa using h2)];exact wpS_pure (h _ (gallopOf st) (S.firstB h2 T.hd))
 rw [zsA (by simpa using h1),zsA (by simpa using h2)];refine wpS_bind (wpS_get ?_);refine wpS_bind (wpS_mono (wpS_forRange (I:=fun i c st'=>∃ g,st'=zca st g/\∃ out na nb mg,c=(none,na,nb,out,mg)/\HI kf a b out na nb/\0<na/\1<nb/\na<a.size/\nb<=b.size/\na+nb+i+1<=a.size+b.size)
  (Q:=fun c st'=>∃ g,st'=zca st g/\∃ o,c.1=some o/\zhl kf a b o) ?_ ?_ ⟨gallopOf st,rfl,_,_,_,_,rfl,S,by omega,by omega,by omega,by omega,by omega⟩) ?_)
 ·rintro i c st' _ hi ⟨g,rfl,out,na,nb,mg,rfl,S,l1,l2,l3,l4,l5⟩;dsimp only;refine wpS_bind (wpS_mono (wpS_forRange (I:=fun j c st'=>st'=zca st g/\∃ out na nb ac bc,c=(none,na,nb,out,ac,bc)/\HI kf a b out na nb/\0<na/\1<nb/\na<a.size/\nb<=b.size/\na+nb+i+1+j<=a.size+b.size)
   (Q:=fun c st'=>st'=zca st g/\((∃ o,c.1=some o/\zhl kf a b o)\/∃ out na nb ac bc,c=(none,na,nb,out,ac,bc)/\HI kf a b out na nb/\0<na/\1<nb/\na<a.size/\nb<=b.size/\na+nb+i+2<=a.size+b.size)) ?_ ?_ ⟨rfl,out,na,nb,0,0,rfl,S,l1,l2,l3,l4,by omega⟩) ?_)
  ·rintro j c st' _ hj ⟨rfl,out,na,nb,ac,bc,rfl,S,l1,l2,l3,l4,l5⟩;dsimp only;obtain⟨x,hx⟩:=zaK (a:=a) (ia:=na-1) (by omega);obtain⟨y,hy⟩:=zaK (a:=b) (ia:=nb-1) (by omega);refine wpS_bind (zaT hy ?_);refine wpS_bind (zaT hx ?_);refine wpS_bind (C y x _ _ (T.gb y (za5 hy)) (T.ga x (za5 hx)) (Ne.symm (T.ne x (za5 hx) y (za5 hy))) hk ?_);have hn:=T.ne x (za5 hx) y (za5 hy);by_cases q:kf y<kf x
   ·rw [zr4 q];dsimp only;rw [zsB rfl];refine wpS_bind (zaT hx ?_);have S':=HI.pushA (na:=na-1) (by rw [show na-1+1=na by omega];exact S) hx fun z hz=>HI.ltB (nb:=nb-1) T hy q z (by rw [show nb-1+1=nb by omega];exact hz)
    refine zaF (fun e=>?_) fun e=>?_
    ·have e0:na-1=0:=by simpa using e
     exact wpS_pure ⟨rfl,.inl ⟨_,rfl,S'.done (.inl e0)⟩⟩
    have e0:na-1≠0:=by simpa using e
    refine zaF (fun e=>?_) fun e=>?_
    ·exact wpS_pure ⟨rfl,.inr ⟨_,_,_,_,_,rfl,S',by omega,by omega,by omega,by omega,by omega⟩⟩
    ·exact wpS_pure ⟨rfl,_,_,_,_,_,rfl,S',by omega,by omega,by omega,by omega,by omega⟩
   ·rw [zr5 q];dsimp only;rw [zsA (by simp)];refine wpS_bind (zaT hy ?_);have S':=HI.pushB (nb:=nb-1) (by rw [show nb-1+1=nb by omega];exact S) hy fun z hz=>HI.ltA (na:=na-1) T hx (by omega) z (by rw [show na-1+1=na by omega];exact hz)
    refine zaF (fun e=>?_) fun e=>?_
    ·have e0:nb-1=1:=by simpa using e
     exact wpS_pure ⟨rfl,.inl ⟨_,rfl,S'.firstB e0 T.hd⟩⟩
    have e0:nb-1≠1:=by simpa using e
    refine zaF (fun e=>?_) fun e=>?_
    ·exact wpS_pure ⟨rfl,.inr ⟨_,_,_,_,_,rfl,S',by omega,by omega,by omega,by omega,by omega⟩⟩
    ·exact wpS_pure ⟨rfl,_,_,_,_,_,rfl,S',by omega,by omega,by omega,by omega,by omega⟩
  ·rintro c st' ⟨rfl,out,na,nb,ac,bc,rfl,S,l1,l2,l3,l4,l5⟩;exact⟨rfl,.inr ⟨_,_,_,_,_,rfl,S,l1,l2,l3,l4,by omega⟩⟩
  ·rintro c st' ⟨rfl,⟨o,e,ho⟩ | ⟨out,na,nb,ac,bc,rfl,S,l1,l2,l3,l4,l5⟩⟩
   ·obtain⟨c1,c2⟩:=c;dsimp only at e ⊢;subst e;exact wpS_pure ⟨g,rfl,o,rfl,ho⟩
   dsimp only;refine wpS_bind (wpS_lift (wpAny_rule ⟨rfl,?_⟩));refine wpS_bind (wpS_mono (wpS_forRange (I:=fun j c st'=>∃ g,st'=zca st g/\∃ out na nb mg ac bc,c=(none,na,nb,out,mg,ac,bc)/\HI kf a b out na nb/\0<na/\1<nb/\na<a.size/\nb<=b.size/\na+nb+i+2<=a.size+b.size)
    (Q:=fun c st'=>∃ g,st'=zca st g/\((∃ o,c.1=some o/\zhl kf a b o)\/∃ out na nb mg ac bc,c=(none,na,nb,out,mg,ac,bc)/\HI kf a b out na nb/\0<na/\1<nb/\na<a.size/\nb<=b.size/\na+nb+i+2<=a.size+b.size)) ?_ ?_ ⟨g,rfl,out,na,nb,_,_,_,rfl,S,l1,l2,l3,l4,by omega⟩) ?_)
   ·rintro j c st' _ hj ⟨g,rfl,out,na,nb,mg,ac,bc,rfl,S,l1,l2,l3,l4,l5⟩;dsimp only
    revert mg
    refine ziC (fun _=>rfl) (fun mg=>?_);refine wpS_bind (wpS_modify ?_);obtain⟨y,hy⟩:=zaK (a:=b) (ia:=nb-1) (by omega);refine wpS_bind (zaT hy ?_);obtain⟨K,hK,cut⟩:=T.cutA (za5 hy) (bs:=0) (n:=na) (by omega);refine wpS_bind (zcm C (K:=K) hk (T.gb y (za5 hy)) cut (by omega) hK ?_);dsimp only;obtain⟨S1,hi⟩:=HI.galA T S (by omega) hy hK cut;refine zaF (fun _=>?_) fun eK=>?_
    ·refine zaF (fun e=>?_) fun e=>?_
     ·have e0:K=0:=by simpa using e
      exact wpS_pure ⟨_,rfl,.inl ⟨_,rfl,S1.done (.inl e0)⟩⟩
     have e4:K≠0:=by simpa using e
     generalize hI:K=I at *;walk_at "hiTail"
    ·obtain rfl:K=na:=by omega
     clear S1;have S1:=S;generalize K=I at *;walk_at "hiTail"
   ·rintro c st' ⟨g,rfl,out,na,nb,mg,ac,bc,rfl,S,l1,l2,l3,l4,l5⟩;exact⟨g,rfl,.inr ⟨_,_,_,_,_,_,rfl,S,l1,l2,l3,l4,by omega⟩⟩
   ·rintro c st' ⟨g,rfl,⟨o,e,ho⟩ | ⟨out,na,nb,mg,ac,bc,rfl,S,l1,l2,l3,l4,l5⟩⟩
    ·obtain⟨c1,c2⟩:=c;dsimp only at e ⊢;subst e;exact wpS_pure ⟨g,rfl,o,rfl,ho⟩
    dsimp only;exact wpS_bind (wpS_modify (wpS_pure ⟨_,rfl,_,_,_,_,rfl,S,l1,l2,l3,l4,by omega⟩))
 ·rintro c st' ⟨g,rfl,out,ia,ib,mg,rfl,S,l1,l2,l3,l4,l5⟩;omega
 ·rintro ⟨c1,c2⟩ st' ⟨g,rfl,o,rfl,ho⟩;exact wpS_pure (h o g ho)
end
section
variable {M:Model} {A:Around} {E:Value->Shared->Prop} {s:Shared} {kf:Keyed->Int} {G:Keyed->Prop} {κ:SortKind}
structure Gd (kf:Keyed->Int) (G:Keyed->Prop) (xs:Array Keyed):Prop where
 g:∀ x∈xs.toList,G x
 nd:(xs.toList.map kf).Nodup
theorem Gd.perm {xs ys:Array Keyed} (h:Gd kf G xs) (p:ys.Perm xs):Gd kf G ys:=by
 have p:=Array.perm_iff_toList_perm.1 p;exact⟨fun x hx=>h.g x (p.mem_iff.1 hx),(p.map kf).nodup_iff.2 h.nd⟩
theorem Gd.ne {xs:Array Keyed} (h:Gd kf G xs) {i j:Nat} {x y:Keyed} (hij:i≠j) (hx:xs[i]?=some x) (hy:xs[j]?=some y):kf x≠kf y:=fun e=>by
 rw [← zsD] at hx hy;have h1:(xs.toList.map kf)[i]?=some (kf x):=by rw [zrZ,hx];rfl
 have h2:(xs.toList.map kf)[j]?=some (kf x):=by rw [zrZ,hy,e];rfl
 obtain⟨a1,a2⟩:=zr2.1 h1;obtain⟨b1,b2⟩:=zr2.1 h2;exact hij ((List.getElem_inj h.nd).1 (a2.trans b2.symm))
theorem Gd.at {xs:Array Keyed} (h:Gd kf G xs) {i:Nat} {x:Keyed} (hx:xs[i]?=some x):G x:=h.g x (za5 hx)
def Seg (kf:Keyed->Int) (xs:Array Keyed) (lo hi:Nat):Prop:=∀ i j x y,lo<=i->i<j->j<hi->xs[i]?=some x->xs[j]?=some y->kf x<kf y
def Des (kf:Keyed->Int) (xs:Array Keyed) (lo hi:Nat):Prop:=∀ i j x y,lo<=i->i<j->j<hi->xs[i]?=some x->xs[j]?=some y->kf y<kf x
theorem Seg.one {xs:Array Keyed} {lo:Nat}:Seg kf xs lo (lo+1):=fun i j x y h1 h2 h3=>by omega
theorem Seg.more {xs:Array Keyed} {lo n:Nat} {x y:Keyed} (h:Seg kf xs lo n) (hn:lo<n) (hx:xs[n-1]?=some x) (hy:xs[n]?=some y) (l:kf x<kf y):Seg kf xs lo (n+1):=fun i j u v h1 h2 h3 hu hv=>by
 by_cases hj:j<n
 ·exact h i j u v h1 h2 hj hu hv
 ·obtain rfl:j=n:=by omega
  rw [hy] at hv;cases hv;by_cases hi:i=j-1
  ·subst hi;rw [hx] at hu;cases hu;exact l
  ·exact Int.lt_trans (h i (j-1) u x h1 (by omega) (by omega) hu hx) l
theorem Des.more {xs:Array Keyed} {lo n:Nat} {x y:Keyed} (h:Des kf xs lo n) (hn:lo<n) (hx:xs[n-1]?=some x) (hy:xs[n]?=some y) (l:kf y<kf x):Des kf xs lo (n+1):=fun i j u v h1 h2 h3 hu hv=>by
 by_cases hj:j<n
 ·exact h i j u v h1 h2 hj hu hv
 ·obtain rfl:j=n:=by omega
  rw [hy] at hv;cases hv;by_cases hi:i=j-1
  ·subst hi;rw [hx] at hu;cases hu;exact l
  ·exact Int.lt_trans l (h i (j-1) u x h1 (by omega) (by omega) hu hx)
theorem Seg.congr {xs ys:Array Keyed} {lo hi:Nat} (h:Seg kf xs lo hi) (e:∀ k,lo<=k->k<hi->ys[k]?=xs[k]?):Seg kf ys lo hi:=fun i j x y h1 h2 h3 hx hy =>
 h i j x y h1 h2 h3 (by rw [← e i h1 (by omega)];exact hx) (by rw [← e j (by omega) h3];exact hy)
theorem zeb (C:Cmp M A E s kf G κ) {st:SortSt} {i j:Nat} {x y:Keyed} {Q:Option Bool->SortSt->Prop} (hk:kindOf st=κ) (hg:Gd kf G (arrOf st)) (hx:(arrOf st)[i]?=some x) (hy:(arrOf st)[j]?=some y) (ne:i≠j)
  (h:Q (some (decide (kf x<kf y))) st):wpS M A E s (ltAt' i j) Q st:=by
 rw [ltAt'_eq];refine wpS_bind (wpS_get ?_);refine wpS_bind (zaT hx (wpS_bind (zaT hy ?_)));exact C x y st Q (hg.at hx) (hg.at hy) (hg.ne ne hx hy) hk h
theorem zh0 (C:Cmp M A E s kf G κ) {st:SortSt} {lo nrem:Nat} {Q:Option Nat->SortSt->Prop} (hk:kindOf st=κ) (hg:Gd kf G (arrOf st)) (hn:1<=nrem) (hz:lo+nrem<=(arrOf st).size)
  (h:∀ xs n,1<=n->n<=nrem->xs.Perm (arrOf st)->(∀ k,k<lo->xs[k]?=(arrOf st)[k]?)->Seg kf xs lo (lo+n)->Q (some n) (setArr st xs)):wpS M A E s (countRun' lo nrem) Q st:=by
 refine wpS_bind (wpS_mono (wpS_forRange (I:=fun i c st'=>st'=st/\c=(none,i)/\Seg kf (arrOf st) lo (lo+i))
  (Q:=fun c st'=>st'=st/\∃ n,c=(none,n)/\1<=n/\n<=nrem/\Seg kf (arrOf st) lo (lo+n)/\(n<nrem->∀ x y,(arrOf st)[lo+n-1]?=some x->(arrOf st)[lo+n]?=some y->kf y<kf x)) ?_ ?_ ⟨rfl,rfl,Seg.one⟩) ?_)
 ·rintro i c st' h1 h2 ⟨rfl,rfl,S⟩;dsimp only;obtain⟨x,hx⟩:=zaK (a:=arrOf st') (ia:=lo+i-1) (by omega);obtain⟨y,hy⟩:=zaK (a:=arrOf st') (ia:=lo+i) (by omega);refine wpS_bind (zeb C hk hg hy hx (by omega) ?_);have ne:=hg.ne (by omega) hx hy;by_cases q:kf y<kf x
  ·rw [zr4 q];dsimp only;rw [zsB rfl];refine wpS_pure ⟨rfl,i,rfl,h1,by omega,S,fun _ x' y' hx' hy'=>?_⟩;rw [hx] at hx';rw [hy] at hy';cases hx';cases hy';exact q
  ·rw [zr5 q];dsimp only;rw [zsA (by simp)];exact wpS_pure ⟨rfl,rfl,S.more (by omega) hx hy (by omega)⟩
 ·rintro c st' ⟨rfl,rfl,S⟩;rw [show max 1 nrem=nrem by omega] at S ⊢;exact⟨rfl,_,rfl,hn,zse _,S,fun z=>by omega⟩
 ·rintro c st' ⟨rfl,n,rfl,n1,n2,S,D⟩;dsimp only;refine zaF (fun e=>wpS_pure (h (arrOf st') n n1 n2 (Array.Perm.refl _) (fun _ _=>rfl) S)) fun e=>?_
  have hlt:n<nrem:=by
   have:n≠nrem:=by simpa using e
   omega
  refine zaF (fun e=>?_) fun e=>?_
  ·obtain⟨x,hx⟩:=zaK (a:=arrOf st') (ia:=lo) (by omega);obtain⟨y,hy⟩:=zaK (a:=arrOf st') (ia:=lo+n-1) (by omega);refine wpS_bind (zeb C hk hg hx hy (by omega) ?_);rw [zr4 (S lo (lo+n-1) x y (zse _) (by omega) (by omega) hx hy)];dsimp only;rw [zsB rfl];exact wpS_pure (h (arrOf st') n n1 n2 (Array.Perm.refl _) (fun _ _=>rfl) S)
  obtain rfl:n=1:=by omega
  have D:=D hlt;refine wpS_bind (wpS_lift (wpAny_rule ⟨rfl,?_⟩));refine wpS_bind (wpS_mono (wpS_forRange (I:=fun i c st''=>st''=st'/\c=(none,i,0)/\Des kf (arrOf st') lo (lo+i))
   (Q:=fun c st''=>st''=st'/\∃ n,c=(none,n,0)/\2<=n/\n<=nrem/\Des kf (arrOf st') lo (lo+n)) ?_ ?_ ⟨rfl,rfl,fun i j x y h1 h2 h3 hx hy=>?_⟩) ?_)
  ·rintro i c st'' h1 h2 ⟨rfl,rfl,S⟩;dsimp only;obtain⟨x,hx⟩:=zaK (a:=arrOf st'') (ia:=lo+i-1) (by omega);obtain⟨y,hy⟩:=zaK (a:=arrOf st'') (ia:=lo+i) (by omega);refine wpS_bind (zeb C hk hg hy hx (by omega) ?_);have ne:=hg.ne (by omega) hx hy;by_cases q:kf y<kf x
   ·rw [zr4 q];dsimp only;rw [zsB rfl,zsA (by omega)];exact wpS_pure ⟨rfl,rfl,S.more (by omega) hx hy q⟩
   ·rw [zr5 q];dsimp only;rw [zsA (by simp)];refine wpS_bind (zeb C hk hg hx hy (by omega) ?_);rw [zr4 (show kf x<kf y by omega)];dsimp only;rw [zsB rfl];exact wpS_pure ⟨rfl,i,rfl,by omega,by omega,S⟩
  ·rintro c st'' ⟨rfl,rfl,S⟩;rw [show max (1+1) nrem=nrem by omega] at S ⊢;exact⟨rfl,_,rfl,by omega,zse _,S⟩
  ·obtain rfl:i=lo:=by omega
   obtain rfl:j=i+1:=by omega
   exact D x y hx hy
  ·rintro c st'' ⟨rfl,n,rfl,m1,m2,DS⟩;dsimp only;rw [zsA (by omega)];refine wpS_bind (wpS_modify ?_);show wpS M A E s _ Q (setArr st'' (mirror (arrOf st'') lo (lo+n) ((lo+n-lo) / 2)));have mp:=mirror_perm (arrOf st'') lo (lo+n) ((lo+n-lo) / 2);have me:=getElem?_mirror_all (xs:=arrOf st'') (i:=lo) (j:=lo+n) (by omega);generalize mirror (arrOf st'') lo (lo+n) ((lo+n-lo) / 2)=xs at mp me;have gx:=hg.perm mp;have sz:=mp.size_eq;have keep:∀ k,k<lo->xs[k]?=(arrOf st'')[k]?:=fun k hk=>by rw [me,zsA (by omega)]
   have up:Seg kf xs lo (lo+n):=fun i j x y h1 h2 h3 hx hy=>by
    rw [me,zsB (by omega)] at hx hy;exact DS _ _ _ _ (by omega) (by omega) (by omega) hy hx
   refine wpS_bind (wpS_mono (wpS_forRange (I:=fun i c st'=>st'=setArr st'' xs/\c=(none,i)/\Seg kf xs lo (lo+i))
    (Q:=fun c st'=>st'=setArr st'' xs/\∃ n,c=(none,n)/\1<=n/\n<=nrem/\Seg kf xs lo (lo+n)) ?_ ?_ ⟨rfl,rfl,up⟩) ?_)
   ·rintro i c st' h1 h2 ⟨rfl,rfl,S⟩;dsimp only;obtain⟨x,hx⟩:=zaK (a:=xs) (ia:=lo+i-1) (by omega);obtain⟨y,hy⟩:=zaK (a:=xs) (ia:=lo+i) (by omega);refine wpS_bind (zeb C hk gx hy hx (by omega) ?_);have ne:=gx.ne (by omega) hx hy;by_cases q:kf y<kf x
    ·rw [zr4 q];dsimp only;rw [zsB rfl];exact wpS_pure ⟨rfl,i,rfl,by omega,by omega,S⟩
    ·rw [zr5 q];dsimp only;rw [zsA (by simp)];exact wpS_pure ⟨rfl,rfl,S.more (by omega) hx hy (by omega)⟩
   ·rintro c st' ⟨rfl,rfl,S⟩;rw [show max n nrem=nrem by omega] at S ⊢;exact⟨rfl,_,rfl,hn,zse _,S⟩
   ·rintro c st' ⟨rfl,n,rfl,n1,n2,S⟩;exact wpS_pure (h xs n n1 n2 mp keep S)
theorem zgm (C:Cmp M A E s kf G κ) {st:SortSt} {lo n ok:Nat} {Q:Bool->SortSt->Prop} (hk:kindOf st=κ) (hg:Gd kf G (arrOf st)) (hok:1<=ok) (hon:ok<=n) (hz:lo+n<=(arrOf st).size) (hs:Seg kf (arrOf st) lo (lo+ok))
  (h:∀ xs,xs.Perm (arrOf st)->(∀ k,k<lo->xs[k]?=(arrOf st)[k]?)->Seg kf xs lo (lo+n)->Q true (setArr st xs)):wpS M A E s (binarySort' lo n ok) Q st:=by
 refine wpS_bind (wpS_mono (wpS_forRange (I:=fun k c st'=>∃ xs,st'=setArr st xs/\c=(none,())/\xs.Perm (arrOf st)/\(∀ k,k<lo->xs[k]?=(arrOf st)[k]?)/\Seg kf xs lo (lo+k))
  (Q:=fun c st'=>∃ xs,st'=setArr st xs/\c=(none,())/\xs.Perm (arrOf st)/\(∀ k,k<lo->xs[k]?=(arrOf st)[k]?)/\Seg kf xs lo (lo+n)) ?_ ?_ ⟨arrOf st,rfl,rfl,Array.Perm.refl _,fun _ _=>rfl,by rw [show max ok 1=ok by omega];exact hs⟩) ?_)
 ·rintro k c st' h1 h2 ⟨xs,rfl,rfl,pm,keep,S⟩;have gx:=hg.perm pm;have sz:=pm.size_eq;obtain⟨y,hy⟩:=zaK (a:=xs) (ia:=lo+k) (by omega);refine wpS_bind (wpS_mono (wpS_forRange (I:=fun i c st'=>st'=setArr st xs/\∃ l r,c=(none,l,r)/\l<=r/\r<=k/\r-l<=k-i/\(∀ i x,i<l->xs[lo+i]?=some x->kf x<kf y)/\(∀ i x,r<=i->i<k->xs[lo+i]?=some x->kf y<kf x))
   (Q:=fun c st'=>st'=setArr st xs/\∃ l r,c=(none,l,r)/\l<=k/\(∀ i x,i<l->xs[lo+i]?=some x->kf x<kf y)/\(∀ i x,l<=i->i<k->xs[lo+i]?=some x->kf y<kf x)) ?_ ?_ ⟨rfl,0,k,rfl,by omega,by omega,by omega,fun i x hi=>by omega,fun i x h1 h2=>by omega⟩) ?_)
  ·rintro i c st' g1 g2 ⟨rfl,l,r,rfl,a1,a2,a3,a4,a5⟩;dsimp only;refine zaF (fun e=>?_) fun e=>?_
   ·obtain rfl:l=r:=by omega
    exact wpS_pure ⟨rfl,l,l,rfl,a2,a4,a5⟩
   obtain⟨x,hx⟩:=zaK (a:=xs) (ia:=lo+(l+r) / 2) (by omega);refine wpS_bind (zeb C hk gx hy hx (by omega) ?_);have ne:=gx.ne (by omega) hx hy;by_cases q:kf y<kf x
   ·rw [zr4 q];dsimp only;rw [zsB rfl];refine wpS_pure ⟨rfl,l,(l+r) / 2,rfl,by omega,by omega,by omega,a4,fun i z z1 z2 hz=>?_⟩;by_cases w:i=(l+r) / 2
    ·subst w;rw [hx] at hz;cases hz;exact q
    ·exact Int.lt_trans q (S _ _ x z (by omega) (show lo+(l+r) / 2<lo+i by omega) (by omega) hx hz)
   ·rw [zr5 q];dsimp only;rw [zsA (by simp)];refine wpS_pure ⟨rfl,(l+r) / 2+1,r,rfl,by omega,by omega,by omega,fun i z z1 hz=>?_,a5⟩;by_cases w:i=(l+r) / 2
    ·subst w;rw [hx] at hz;cases hz;omega
    ·have:=S _ _ z x (by omega) (show lo+i<lo+(l+r) / 2 by omega) (by omega) hz hx
     omega
  ·rintro c st' ⟨rfl,l,r,rfl,a1,a2,a3,a4,a5⟩;obtain rfl:l=r:=by omega
   exact⟨rfl,l,l,rfl,a2,a4,a5⟩
  ·rintro c st' ⟨rfl,l,r,rfl,a2,a4,a5⟩;dsimp only;refine wpS_bind (wpS_modify ?_);show wpS M A E s _ _ (setArr st (bubble xs (lo+k) (lo+k-(lo+l))));have bp:=bubble_perm xs (lo+k) (lo+k-(lo+l));have be:=getElem?_bubble (xs:=xs) (src:=lo+k) (by omega) (lo+k-(lo+l)) (by omega);generalize bubble xs (lo+k) (lo+k-(lo+l))=ys at bp be;rw [show lo+k-(lo+k-(lo+l))=lo+l by omega] at be;refine wpS_pure ⟨ys,rfl,rfl,bp.trans pm,fun k' hk'=>?_,fun i j u v i1 i2 i3 hu hv=>?_⟩
   ·rw [be,zsA (by omega),zsA (by omega)];exact keep k' hk'
   ·rw [be] at hu hv;have lw:∀ i x,lo<=i->i<lo+l->xs[i]?=some x->kf x<kf y:=fun i x z1 z2 hx=>a4 (i-lo) x (by omega) (by rw [show lo+(i-lo)=i by omega];exact hx)
    have hw:∀ i x,lo+l<=i->i<lo+k->xs[i]?=some x->kf y<kf x:=fun i x z1 z2 hx=>a5 (i-lo) x (by omega) (by omega) (by rw [show lo+(i-lo)=i by omega];exact hx)
    split at hu <;> split at hv
    ·omega
    ·rw [hy] at hu;cases hu;split at hv
     ·exact hw _ _ (by omega) (by omega) hv
     ·omega
    ·rw [hy] at hv;cases hv;split at hu
     ·omega
     ·exact lw _ _ (by omega) (by omega) hu
    ·split at hu <;> split at hv
     all_goals first
      | (exfalso;omega)
      | exact S _ _ _ _ (by omega) (by omega) (by omega) hu hv
 ·rintro c st' ⟨xs,rfl,rfl,pm,keep,S⟩;rw [show max (max ok 1) n=n by omega] at S;exact⟨xs,rfl,rfl,pm,keep,S⟩
 ·rintro c st' ⟨xs,rfl,rfl,pm,keep,S⟩;exact wpS_pure (h xs pm keep S)
end
section
variable {M:Model} {A:Around} {E:Value->Shared->Prop} {s:Shared} {kf:Keyed->Int} {G:Keyed->Prop} {κ:SortKind}
theorem zgD (b:Nat):∀ (l:List Keyed) (n:Nat) (xs:Array Keyed) (k:Nat),b+n+l.length<=xs.size ->
  ((l.zipIdx n).foldl (fun a p=>a.setIfInBounds (b+p.2) p.1) xs)[k]?=if b+n<=k/\k<b+n+l.length then l[k-(b+n)]? else xs[k]?
 | [],n,xs,k,h=>by rw [zsA (by simp)];rfl
 | x::l,n,xs,k,h=>by
  rw [zsz] at h;rw [List.zipIdx_cons,List.foldl_cons,zgD b l (n+1) _ k (by rw [Array.size_setIfInBounds];omega)];rw [zsz];by_cases h1:b+(n+1)<=k/\k<b+(n+1)+l.length
  ·rw [zsB h1,zsB (by omega),show k-(b+n)=k-(b+(n+1))+1 by omega,List.getElem?_cons_succ]
  ·rw [zsA h1];by_cases h2:k=b+n
   ·subst h2;rw [zsB (by omega),Array.getElem?_setIfInBounds_self_of_lt (by omega),Nat.sub_self,List.getElem?_cons_zero]
   ·rw [zsA (by omega),Array.getElem?_setIfInBounds_ne (by omega)]
theorem zgf {b:Nat} {l:List Keyed} {xs:Array Keyed} (h:b+l.length<=xs.size):((l.zipIdx 0).foldl (fun a p=>a.setIfInBounds (b+p.2) p.1) xs).toList=xs.toList.take b++(l++xs.toList.drop (b+l.length)):=by
 have hx:xs.toList.length=xs.size:=zsC
 apply List.ext_getElem?
 intro k;rw [zsD,zgD b l 0 xs k (by omega),List.getElem?_append,zsm,hx,Nat.min_eq_left (by omega),List.getElem?_append,List.getElem?_take,List.getElem?_drop];by_cases h1:k<b
 ·rw [zsA (by omega),zsB h1,zsB h1,zsD]
 ·rw [zsA h1];by_cases h2:k<b+l.length
  ·rw [zsB (by omega),zsB (by omega)];rfl
  ·rw [zsA (by omega),zsA (by omega),zsD]
   congr 1
   omega
theorem zok {σ:Type} {st st':σ} {Q:PUnit->σ->Prop} (h:Q ⟨⟩ st'):wpS M A E s (set st':StateT σ Sem PUnit) Q st:=by
 unfold wpS;rw [StateT.run_set];exact wpAny_pure ⟨rfl,h⟩
theorem zlb {X:Array Keyed} {i j k:Nat} (hj:j<=X.size) (hk:i+k<j):(X.extract i j)[k]?=X[i+k]?:=by
 rw [Array.getElem?_extract,zsB (by omega)]
theorem zfN {X:Array Keyed} {i j:Nat} (hj:j<=X.size):(X.extract i j).size=j-i:=by rw [Array.size_extract];omega
theorem Seg.ext {X:Array Keyed} {i j:Nat} (h:Seg kf X i j) (hj:j<=X.size):Ord kf (X.extract i j).toList:=Ord.ofArr fun u v x y huv hx hy=>by
 have h1:=(Array.getElem?_eq_some_iff.1 hx).1;have h2:=(Array.getElem?_eq_some_iff.1 hy).1;rw [zfN hj] at h1 h2;rw [zlb hj (by omega)] at hx hy;exact h _ _ x y (by omega) (show i+u<i+v by omega) (by omega) hx hy
theorem Seg.sub {X:Array Keyed} {i j i' j':Nat} (h:Seg kf X i j) (h1:i<=i') (h2:j'<=j):Seg kf X i' j':=fun u v x y a b c=>h u v x y (by omega) b (by omega)
theorem Seg.merge {X o:Array Keyed} {sa sb nb K L:Nat} (s1:Seg kf X sa sb) (s2:Seg kf X sb (sb+nb)) (hK:sa+K<sb) (hL:L<=nb) (hL1:1<=L) (hz:sb+nb<=X.size)
  (ca:∀ i x y,sa<=i->i<sa+K->X[i]?=some x->X[sb]?=some y->kf x<kf y) (cb:∀ j x y,sb+L<=j->j<sb+nb->X[sb-1]?=some x->X[j]?=some y->kf x<kf y)
  (R:zhl kf (X.extract (sa+K) sb) (X.extract sb (sb+L)) o):((o.toList.zipIdx 0).foldl (fun a p=>a.setIfInBounds (sa+K+p.2) p.1) X).Perm X /\
  (∀ k,k<sa\/sb+nb<=k->((o.toList.zipIdx 0).foldl (fun a p=>a.setIfInBounds (sa+K+p.2) p.1) X)[k]?=X[k]?)/\Seg kf ((o.toList.zipIdx 0).foldl (fun a p=>a.setIfInBounds (sa+K+p.2) p.1) X) sa (sb+nb):=by
 have hl:o.toList.length=sb-(sa+K)+L:=by
  have:=R.2.length_eq
  rw [zr8,zsC (xs:=X.extract _ _),zsC (xs:=X.extract _ _),zfN (by omega),zfN (by omega)] at this;omega
 have hlt:=zgf (b:=sa+K) (l:=o.toList) (xs:=X) (by omega);have hat:=fun k=>zgD (sa+K) o.toList 0 X k (by omega)
 rw [hl] at hlt hat;generalize (o.toList.zipIdx 0).foldl (fun a p=>a.setIfInBounds (sa+K+p.2) p.1) X=Y at hlt hat;refine⟨?_,fun k hk=>?_,?_⟩
 ·rw [Array.perm_iff_toList_perm,hlt];have e1:=zeK (a:=X) (ia:=sa+K) (k:=sb-(sa+K));have e2:=zeK (a:=X) (ia:=sb) (k:=L);rw [show sa+K+(sb-(sa+K))=sb by omega] at e1
  conv=>rhs;rw [← List.take_append_drop (sa+K) X.toList,← e1,← e2,← zsi (as:=(X.extract (sa+K) sb).toList)]
  rw [show sa+K+(sb-(sa+K)+L)=sb+L by omega];exact List.Perm.append_left _ (List.Perm.append_right _ R.2)
 ·rw [hat,zsA (by omega)]
 ·have mo:∀ k x,k<sb-(sa+K)+L->o.toList[k]?=some x->(∃ i,sa+K<=i/\i<sb/\X[i]?=some x)\/(∃ i,sb<=i/\i<sb+L/\X[i]?=some x):=fun k x _ hx=>by
   have:=R.2.mem_iff.1 (zr3 hx)
   rcases zr9.1 this with q | q
   ·exact .inl (zbE q)
   ·exact .inr (zbE q)
  obtain⟨y0,hy0⟩:=zaK (a:=X) (ia:=sb) (by omega);obtain⟨xl,hxl⟩:=zaK (a:=X) (ia:=sb-1) (by omega);have lo1:∀ i x,sb<=i->i<sb+nb->X[i]?=some x->kf y0<=kf x:=fun i x a b hx=>by
   by_cases q:i=sb
   ·subst q;rw [hy0] at hx;cases hx;exact Int.le_refl _
   ·exact Int.le_of_lt (s2 sb i y0 x (zse _) (by omega) b hy0 hx)
  have hi1:∀ i x,sa<=i->i<sb->X[i]?=some x->kf x<=kf xl:=fun i x a b hx=>by
   by_cases q:i=sb-1
   ·subst q;rw [hxl] at hx;cases hx;exact Int.le_refl _
   ·exact Int.le_of_lt (s1 i (sb-1) x xl a (by omega) (by omega) hx hxl)
  intro i j x y a b c hx hy;rw [hat] at hx hy;split at hx <;> split at hy
  ·rw [Nat.add_zero] at hx hy;exact R.1.arr (a:=o) (i:=i-(sa+K)) (j:=j-(sa+K)) (by omega) (by rw [← zsD];exact hx) (by rw [← zsD];exact hy)
  ·rcases mo _ x (by omega) hx with ⟨u,u1,u2,u3⟩ | ⟨u,u1,u2,u3⟩
   ·exact Int.lt_of_le_of_lt (hi1 u x (by omega) u2 u3) (cb j xl y (by omega) c hxl hy)
   ·exact s2 u j x y u1 (by omega) c u3 hy
  ·rcases mo _ y (by omega) hy with ⟨u,u1,u2,u3⟩ | ⟨u,u1,u2,u3⟩
   ·exact s1 i u x y a (by omega) u2 hx u3
   ·exact Int.lt_of_lt_of_le (ca i x y0 a (by omega) hx hy0) (lo1 u y u1 (by omega) u3)
  ·by_cases q1:i<sa+K
   ·by_cases q2:j<sa+K
    ·exact s1 i j x y a b (by omega) hx hy
    ·exact Int.lt_of_lt_of_le (ca i x y0 a q1 hx hy0) (lo1 j y (by omega) c hy)
   ·exact s2 i j x y (by omega) b c hx hy
theorem zjX (C:Cmp M A E s kf G κ) {st:SortSt} {i sa na p sb nb p':Nat} {Q:Bool->SortSt->Prop} (hk:kindOf st=κ) (hf:failedOf st=none) (hg:Gd kf G (arrOf st)) (h1:(pendingOf st)[i]?=some (sa,na,p)) (h2:(pendingOf st)[i+1]?=some (sb,nb,p'))
  (hb:sb=sa+na) (n1:1<=na) (n2:1<=nb) (hz:sb+nb<=(arrOf st).size) (s1:Seg kf (arrOf st) sa sb) (s2:Seg kf (arrOf st) sb (sb+nb))
  (h:∀ xs g,xs.Perm (arrOf st)->(∀ k,k<sa\/sb+nb<=k->xs[k]?=(arrOf st)[k]?)->Seg kf xs sa (sb+nb)->Q true (SortSt.mk' κ xs (((pendingOf st).setIfInBounds i (sa,na+nb,p)).eraseIdxIfInBounds (i+1)) g none)):wpS M A E s (mergeAt' i) Q st:=by
 refine wpS_bind (wpS_get ?_);rw [h1,h2];dsimp only;refine wpS_bind (zok ?_);obtain⟨y0,hy0⟩:=zaK (a:=arrOf st) (ia:=sb) (by omega);refine wpS_bind (zaT hy0 ?_);obtain⟨K,hK,cut⟩:=zgl (G:=G) (kf:=kf) (arr:=arrOf st) (bs:=sa) (n:=na) (kk:=kf y0) (by omega) (fun u v x y huv hv hx hy=>s1 _ _ x y (by omega) (show sa+u<sa+v by omega) (by omega) hx hy) fun u x hu hx=>⟨hg.at hx,hg.ne (by omega) hx hy0⟩
 refine wpS_bind (zcm C (K:=K) hk (hg.at hy0) cut (by omega) hK ?_);dsimp only;have ca:∀ i x y,sa<=i->i<sa+K->(arrOf st)[i]?=some x->(arrOf st)[sb]?=some y->kf x<kf y:=fun i x y a b hx hy=>by
  rw [hy0] at hy;cases hy;obtain⟨x',e,_,_,z⟩:=cut (i-sa) (by omega);rw [show sa+(i-sa)=i by omega,hx] at e;cases e;exact z.2 (by omega)
 have cA:∀ i x,sa+K<=i->i<sb->(arrOf st)[i]?=some x->kf y0<kf x:=fun i x a b hx=>by
  obtain⟨x',e,_,ne,z⟩:=cut (i-sa) (by omega);rw [show sa+(i-sa)=i by omega,hx] at e;cases e
  have:=z.1
  omega
 refine zaF (fun e=>?_) fun e=>?_
 ·have e0:na-K=0:=by simpa using e
  have:=h (arrOf st) (gallopOf st) (Array.Perm.refl _) (fun _ _=>rfl) fun i j x y a b c hx hy=>by
   have lo1:∀ i x,sb<=i->i<sb+nb->(arrOf st)[i]?=some x->kf y0<=kf x:=fun i x a b hx=>by
    by_cases q:i=sb
    ·subst q;rw [hy0] at hx;cases hx;exact Int.le_refl _
    ·exact Int.le_of_lt (s2 sb i y0 x (zse _) (by omega) b hy0 hx)
   by_cases q1:i<sb
   ·by_cases q2:j<sb
    ·exact s1 i j x y a b q2 hx hy
    ·exact Int.lt_of_lt_of_le (ca i x y0 a (by omega) hx hy0) (lo1 j y (by omega) c hy)
   ·exact s2 i j x y (by omega) b c hx hy
  rw [← hk,← hf] at this;exact wpS_pure this
 have e0:na-K≠0:=by simpa using e
 obtain⟨xl,hxl⟩:=zaK (a:=arrOf st) (ia:=sa+K+(na-K)-1) (by omega);refine wpS_bind (zaT hxl ?_);have ex:sa+K+(na-K)-1=sb-1:=by omega
 rw [ex] at hxl;obtain⟨L,hL,cut2⟩:=zgl (G:=G) (kf:=kf) (arr:=arrOf st) (bs:=sb) (n:=nb) (kk:=kf xl) (by omega) (fun u v x y huv hv hx hy=>s2 _ _ x y (by omega) (show sb+u<sb+v by omega) (by omega) hx hy) fun u x hu hx=>⟨hg.at hx,hg.ne (by omega) hx hxl⟩
 refine wpS_bind (zcm C (K:=L) hk (hg.at hxl) cut2 (by omega) hL ?_);dsimp only;have cb:∀ j x y,sb+L<=j->j<sb+nb->(arrOf st)[sb-1]?=some x->(arrOf st)[j]?=some y->kf x<kf y:=fun j x y a b hx hy=>by
  rw [hxl] at hx;cases hx;obtain⟨x',e,_,ne,z⟩:=cut2 (j-sb) (by omega);rw [show sb+(j-sb)=j by omega,hy] at e;cases e
  have:=z.1
  omega
 have cB:∀ j y,sb<=j->j<sb+L->(arrOf st)[j]?=some y->kf y<kf xl:=fun j y a b hy=>by
  obtain⟨x',e,_,ne,z⟩:=cut2 (j-sb) (by omega);rw [show sb+(j-sb)=j by omega,hy] at e;cases e;exact z.2 (by omega)
 have hL1:1<=L:=by
  obtain⟨x',e,_,ne,z⟩:=cut2 0 (by omega);rw [Nat.add_zero,hy0] at e;cases e
  have:=z.1 (cA (sb-1) xl (by omega) (by omega) hxl)
  omega
 rw [zsA (by simp;omega)];have T:Two kf G ((arrOf st).extract (sa+K) sb) ((arrOf st).extract sb (sb+L)):=by
  refine⟨fun x hx=>?_,fun x hx=>?_,fun x hx y hy=>?_,(s1.sub (by omega) (zse _)).ext (by omega),(s2.sub (zse _) (by omega)).ext (by omega),by rw [zfN (by omega)];omega,by rw [zfN (by omega)];omega,fun y hy x hx=>?_,fun x hx y hy=>?_⟩
  ·obtain⟨k,_,_,k3⟩:=zbE hx;exact hg.at k3
  ·obtain⟨k,_,_,k3⟩:=zbE hx;exact hg.at k3
  ·obtain⟨k,k1,k2,k3⟩:=zbE hx;obtain⟨l,l1,l2,l3⟩:=zbE hy;exact hg.ne (by omega) k3 l3
  ·rw [zlb (by omega) (by omega),Nat.add_zero,hy0] at hy;cases hy;obtain⟨k,k1,k2,k3⟩:=zbE hx;exact cA k x k1 k2 k3
  ·rw [zfN (by omega),zlb (by omega) (by omega),show sa+K+(sb-(sa+K)-1)=sb-1 by omega,hxl] at hx;cases hx;obtain⟨k,k1,k2,k3⟩:=zbE hy;exact cB k y k1 k2 k3
 refine zaF (fun _=>?_) fun _=>?_
 ·refine wpS_bind (zjA C hk T fun o g R=>?_);obtain⟨r1,r2,r3⟩:=Seg.merge s1 s2 (by omega) hL hL1 hz ca cb R;refine wpS_bind (wpS_modify (wpS_bind (wpS_get (wpS_pure ?_))))
  have:=h _ g r1 r2 r3
  rw [← hk] at this;show Q (Option.isNone (failedOf st)) (SortSt.mk' (kindOf st) _ _ g (failedOf st));rw [hf];exact this
 ·refine wpS_bind (zj5 C hk T fun o g R=>?_);obtain⟨r1,r2,r3⟩:=Seg.merge s1 s2 (by omega) hL hL1 hz ca cb R;refine wpS_bind (wpS_modify (wpS_bind (wpS_get (wpS_pure ?_))))
  have:=h _ g r1 r2 r3
  rw [← hk] at this;show Q (Option.isNone (failedOf st)) (SortSt.mk' (kindOf st) _ _ g (failedOf st));rw [hf];exact this
end
section
variable {M:Model} {A:Around} {E:Value->Shared->Prop} {s:Shared} {kf:Keyed->Int} {G:Keyed->Prop} {κ:SortKind}
def za1 (kf:Keyed->Int) (xs:Array Keyed):Nat->List (Nat × Nat × Nat)->Nat->Prop
 | a,[],e=>a=e
 | a,t::r,e=>t.1=a/\1<=t.2.1/\Seg kf xs a (a+t.2.1)/\za1 kf xs (a+t.2.1) r e
theorem za1.le {xs:Array Keyed}:∀ {l:List (Nat × Nat × Nat)} {a e:Nat},za1 kf xs a l e->a+l.length<=e
 | [],a,e,h=>by cases h;exact zse _
 | t::r,a,e,h=>by have:=za1.le h.2.2.2;have:=h.2.1;rw [zsz];omega
theorem za1.app {xs:Array Keyed}:∀ {l l':List (Nat × Nat × Nat)} {a e:Nat},za1 kf xs a (l++l') e↔∃ m,za1 kf xs a l m/\za1 kf xs m l' e
 | [],l',a,e=>⟨fun h=>⟨a,rfl,h⟩,fun ⟨m,h1,h2⟩=>by cases h1;exact h2⟩
 | t::r,l',a,e=>by
  constructor
  ·rintro ⟨h1,h2,h3,h4⟩;obtain⟨m,m1,m2⟩:=za1.app.1 h4;exact⟨m,⟨h1,h2,h3,m1⟩,m2⟩
  ·rintro ⟨m,⟨h1,h2,h3,m1⟩,m2⟩;exact⟨h1,h2,h3,za1.app.2 ⟨m,m1,m2⟩⟩
theorem za1.congr {xs ys:Array Keyed}:∀ {l:List (Nat × Nat × Nat)} {a e:Nat},za1 kf xs a l e->(∀ k,a<=k->k<e->ys[k]?=xs[k]?)->za1 kf ys a l e
 | [],a,e,h,_=>h
 | t::r,a,e,⟨h1,h2,h3,h4⟩,q=>by
  have:=za1.le h4
  exact⟨h1,h2,h3.congr fun k k1 k2=>q k k1 (by omega),za1.congr h4 fun k k1 k2=>q k (by omega) k2⟩
theorem za1.pow {xs:Array Keyed} {f:Nat × Nat × Nat->Nat × Nat × Nat} (hf:∀ t,(f t).1=t.1/\(f t).2.1=t.2.1):∀ {l:List (Nat × Nat × Nat)} {a e:Nat} (i:Nat),za1 kf xs a l e->za1 kf xs a (l.modify i f) e
 | [],a,e,i,h=>by cases i <;> exact h
 | t::r,a,e,0,⟨h1,h2,h3,h4⟩=>by
  obtain⟨f1,f2⟩:=hf t;show za1 kf xs a (f t::r) e;exact⟨f1.trans h1,by rw [f2];exact h2,by rw [f2];exact h3,by rw [f2];exact h4⟩
 | t::r,a,e,i+1,⟨h1,h2,h3,h4⟩=>⟨h1,h2,h3,za1.pow hf i h4⟩
theorem zo8 {P:Array (Nat × Nat × Nat)} {i:Nat} (hi:i+1<P.size):∃ l t u r,P.toList=l++t::u::r/\l.length=i/\P[i]?=some t/\P[i+1]?=some u:=by
 have h1:i<P.toList.length:=by rw [zsC];omega
 have h2:i+1<P.toList.length:=by rw [zsC];omega
 refine⟨P.toList.take i,P.toList[i],P.toList[i+1],P.toList.drop (i+2),?_,by rw [zsm];omega,?_,?_⟩
 ·rw [← zsK h2,← zsK h1,List.take_append_drop]
 ·rw [← zsD];exact zr0 h1
 ·rw [← zsD];exact zr0 h2
theorem ziR {P:Array (Nat × Nat × Nat)} {l r:List (Nat × Nat × Nat)} {t u v:Nat × Nat × Nat} {i:Nat} (h:P.toList=l++t::u::r) (hl:l.length=i):((P.setIfInBounds i v).eraseIdxIfInBounds (i+1)).toList=l++v::r:=by
 subst hl;have hs:l.length+1<(P.setIfInBounds l.length v).size:=by
  rw [Array.size_setIfInBounds,← zsC,h];simp
 rw [Array.eraseIdxIfInBounds,dif_pos hs,Array.toList_eraseIdx,Array.toList_setIfInBounds,h];simp [List.set_append,List.eraseIdx_append]
 omega
theorem zf2 (C:Cmp M A E s kf G κ) {xs:Array Keyed} {P:Array (Nat × Nat × Nat)} {g i e:Nat} {Q:Bool->SortSt->Prop} (hg:Gd kf G xs) (hc:za1 kf xs 0 P.toList e) (he:e<=xs.size) (hi:i+1<P.size)
  (h:∀ ys P' g',ys.Perm xs->(∀ k,e<=k->ys[k]?=xs[k]?)->za1 kf ys 0 P'.toList e->P'.size+1=P.size->Q true (SortSt.mk' κ ys P' g' none)):wpS M A E s (mergeAt' i) Q (SortSt.mk' κ xs P g none):=by
 obtain⟨l,⟨sa,na,p⟩,⟨sb,nb,p'⟩,r,hP,hl,e1,e2⟩:=zo8 hi;rw [hP] at hc;obtain⟨m,c1,c2⟩:=za1.app.1 hc;obtain⟨d1,d2,d3,d4,d5,d6,d7⟩:=c2;dsimp only at d1 d2 d3 d4 d5 d6 d7;subst d1;have hle:=za1.le c1;have hle2:=za1.le d7;rw [← d4] at d6;refine zjX C (st:=SortSt.mk' κ xs P g none) rfl rfl hg e1 e2 d4 d2 d5 (by show sb+nb<=xs.size;omega) (by rw [d4];exact d3) d6 fun ys g' pm keep sg=>?_
 refine h ys _ g' pm (fun k hk=>keep k (.inr (by omega))) ?_ ?_
 ·show za1 kf ys 0 ((P.setIfInBounds i (sa,na+nb,p)).eraseIdxIfInBounds (i+1)).toList e;rw [ziR hP hl];refine za1.app.2 ⟨sa,c1.congr fun k _ hk=>keep k (.inl hk),rfl,by show 1<=na+nb;omega,?_,?_⟩
  ·show Seg kf ys sa (sa+(na+nb));rw [show sa+(na+nb)=sb+nb by omega];exact sg
  ·show za1 kf ys (sa+(na+nb)) r e;rw [show sa+(na+nb)=sb+nb by omega];rw [← d4] at d7;exact d7.congr fun k hk _=>keep k (.inr hk)
 ·show ((P.setIfInBounds i (sa,na+nb,p)).eraseIdxIfInBounds (i+1)).size+1=P.size
  have:=congrArg List.length (ziR (v:=(sa,na+nb,p)) hP hl)
  rw [zsC] at this;rw [this,← zsC,hP];simp
  omega
theorem zos {c:Prop} [Decidable c] {n:Nat} (h:1<n):(if c then n-2-1 else n-2)+1<n:=by split <;> omega
set_option hygiene false in
local macro_rules | `(tactic| walk_at "runTail") => `(tactic| (
 refine wpS_bind (wpS_get ?_);have push:∀ (us:Array Keyed) (P':Array (Nat × Nat × Nat)) (g':Nat),us.Perm xs->za1 kf us 0 P'.toList lo->Seg kf us lo (lo+nn)->∃ ys P g,SortSt.mk' κ us (P'.push (lo,nn,0)) g' none=SortSt.mk' κ ys P g none/\ys.Perm xs/\∃ lo',((none:Option Unit),lo+nn)=(none,lo')/\i+1<=lo'/\lo'<=xs.size/\za1 kf ys 0 P.toList lo' :=
  fun us P' g' pm ch sg=>⟨us,_,g',rfl,pm,lo+nn,rfl,by omega,by omega,by rw [Array.toList_push];exact za1.app.2 ⟨lo,ch,rfl,nn1,sg,rfl⟩⟩
 obtain hb | ⟨⟨s1,n1',pw'⟩,hb⟩:P.back?=none\/∃ t,P.back?=some t:=by cases P.back? <;> simp
 ·have hb':(pendingOf (SortSt.mk' κ zs P g none)).back?=none:=hb;rw [hb'];exact wpS_bind (wpS_modify (wpS_pure (push zs P g pmz chz sgz)))
 ·have hb':(pendingOf (SortSt.mk' κ zs P g none)).back?=some (s1,n1',pw'):=hb;rw [hb'];dsimp only;refine wpS_bind (wpS_mono (wpS_forRange (I:=fun _ c st'=>c=(none,())/\∃ us P' g',st'=SortSt.mk' κ us P' g' none/\us.Perm xs/\za1 kf us 0 P'.toList lo/\Seg kf us lo (lo+nn))
   (Q:=fun c st'=>c=(none,())/\∃ us P' g',st'=SortSt.mk' κ us P' g' none/\us.Perm xs/\za1 kf us 0 P'.toList lo/\Seg kf us lo (lo+nn)) ?_ (fun _ _ h=>h) ⟨rfl,zs,P,g,rfl,pmz,chz,sgz⟩) ?_)
  ·rintro j c st' _ _ ⟨rfl,us,P',g',rfl,pm',ch',sg'⟩;refine wpS_bind (wpS_get ?_);by_cases hs:1<P'.size
   ·have hs':(pendingOf (SortSt.mk' κ us P' g' none)).size > 1:=hs;rw [zsB hs'];obtain⟨⟨q1,q2,q3⟩,hq⟩:∃ t,P'[P'.size-2]?=some t:=⟨_,Array.getElem?_eq_getElem (by omega)⟩;have hq':(pendingOf (SortSt.mk' κ us P' g' none))[(pendingOf (SortSt.mk' κ us P' g' none)).size-2]?=some (q1,q2,q3):=hq;rw [hq'];dsimp only;refine zaF (fun _=>wpS_pure ⟨rfl,us,P',g',rfl,pm',ch',sg'⟩) fun _=>?_
    have szu:=pm'.size_eq;refine wpS_bind (zf2 C (hg.perm pm') ch' (by omega) (i:=P'.size-2) (by omega) fun vs P'' g'' pv kv cv _=>?_);rw [zsA (by simp)];exact wpS_pure ⟨rfl,vs,P'',g'',rfl,pv.trans pm',cv,sg'.congr fun k k1 _=>kv k k1⟩
   ·have hs':¬ (pendingOf (SortSt.mk' κ us P' g' none)).size > 1:=hs;rw [zsA hs'];exact wpS_pure ⟨rfl,us,P',g',rfl,pm',ch',sg'⟩
  ·rintro c st' ⟨rfl,us,P',g',rfl,pm',ch',sg'⟩;dsimp only;refine wpS_bind (wpS_modify (wpS_bind (wpS_modify (wpS_pure (push us _ g' pm' ?_ sg')))));rw [Array.toList_modify];refine za1.pow ?_ _ ch';exact fun t=>⟨rfl,rfl⟩))
theorem zh1 (C:Cmp M A E s kf G κ) {xs:Array Keyed} {g:Nat} {Q:Unit->SortSt->Prop} (hg:Gd kf G xs) (h:∀ ys P g',ys.Perm xs->Seg kf ys 0 ys.size->Q () (SortSt.mk' κ ys P g' none)) :
  wpS M A E s sortRuns' Q (SortSt.mk' κ xs #[] g none):=by
 refine wpS_bind (wpS_get ?_);refine wpS_bind (wpS_mono (wpS_forRange (I:=fun i c st'=>∃ ys P g,st'=SortSt.mk' κ ys P g none/\ys.Perm xs/\∃ lo,c=(none,lo)/\i<=lo/\lo<=xs.size/\za1 kf ys 0 P.toList lo)
  (Q:=fun c st'=>∃ ys P g,st'=SortSt.mk' κ ys P g none/\ys.Perm xs/\∃ lo,c=(none,lo)/\lo=xs.size/\za1 kf ys 0 P.toList lo) ?_ ?_ ⟨xs,#[],g,rfl,Array.Perm.refl _,0,rfl,by omega,by omega,rfl⟩) ?_)
 ·rintro i c st' _ hi ⟨ys,P,g,rfl,pm,lo,rfl,h1,h2,ch⟩;have gy:=hg.perm pm;have sz:=pm.size_eq;dsimp only;refine zaF (fun e=>?_) fun e=>?_
  ·exact wpS_pure ⟨ys,P,g,rfl,pm,lo,rfl,by have:xs.size<=lo:=e;omega,ch⟩
  have e:lo<xs.size:=Nat.not_le.1 e;refine wpS_bind (zh0 C (st:=SortSt.mk' κ ys P g none) rfl gy (by show 1<=xs.size-lo;omega) (by show lo+(xs.size-lo)<=ys.size;omega) fun zs n n1 n2 pm2 kp sg=>?_);dsimp only;have pmz:zs.Perm xs:=Array.Perm.trans pm2 pm;have chz:za1 kf zs 0 P.toList lo:=ch.congr fun k _ hk=>kp k hk
  have gz:=hg.perm pmz;have szz:=pmz.size_eq;refine zaF (fun e'=>?_) fun e'=>?_
  ·refine wpS_bind (wpS_lift (wpAny_rule ⟨rfl,?_⟩));refine wpS_bind (zgm C (st:=SortSt.mk' κ zs P g none) rfl gz n1 (by omega) (by show lo+_<=zs.size;omega) sg fun zs pw kw sgz=>?_);rw [zsA (by simp)];have pmz:zs.Perm xs:=Array.Perm.trans pw pmz;have chz:za1 kf zs 0 P.toList lo:=chz.congr fun k _ hk=>kw k hk
   show wpS M A E s _ _ (SortSt.mk' κ zs P g none);have nn1:1<=min (xs.size-lo) (minRun' xs.size xs.size 0):=by
    have:n<minRun' xs.size xs.size 0:=e'
    omega
   obtain⟨nn,hnn⟩:∃ nn,nn=min (xs.size-lo) (minRun' xs.size xs.size 0):=⟨_,rfl⟩;have hnn2:lo+nn<=xs.size:=by omega
   rw [← hnn] at nn1;have sgz:Seg kf zs lo (lo+nn):=by rw [hnn];exact sgz
   unfold minRun' at hnn;rw [← hnn];walk_at "runTail"
  ·show wpS M A E s _ _ (SortSt.mk' κ zs P g none);obtain⟨nn,hnn⟩:∃ nn,nn=n:=⟨_,rfl⟩;subst hnn;have nn1:=n1;have sgz:=sg;walk_at "runTail"
 ·rintro c st' ⟨ys,P,g,rfl,pm,lo,rfl,h1,h2,ch⟩;refine⟨ys,P,g,rfl,pm,lo,rfl,?_,ch⟩
  have:max 0 xs.size<=lo:=h1
  omega
 ·rintro c st' ⟨ys,P,g,rfl,pm,lo,rfl,rfl,ch⟩;dsimp only;have hP:P.size<=xs.size:=by have:=za1.le ch;rw [zsC] at this;omega
  refine wpS_bind (wpS_mono (wpS_forRange (I:=fun j c st'=>c=(none,())/\∃ us P' g',st'=SortSt.mk' κ us P' g' none/\us.Perm xs/\za1 kf us 0 P'.toList xs.size/\P'.size+j<=xs.size)
   (Q:=fun c st'=>c=(none,())/\∃ us P' g',st'=SortSt.mk' κ us P' g' none/\us.Perm xs/\za1 kf us 0 P'.toList xs.size/\P'.size<=1) ?_ ?_ ⟨rfl,ys,P,g,rfl,pm,ch,by omega⟩) ?_)
  ·rintro j c st' _ hj ⟨rfl,us,P',g',rfl,pm',ch',hs⟩;refine wpS_bind (wpS_get ?_);refine zaF (fun e=>wpS_pure ⟨rfl,us,P',g',rfl,pm',ch',e⟩) fun e=>?_
   have e:1<P'.size:=Nat.not_le.1 e;have szu:=pm'.size_eq;refine wpS_bind (zf2 C (hg.perm pm') ch' (by omega) ?_ fun vs P'' g'' pv kv cv hs'=>?_)
   ·exact zos e
   rw [zsA (by simp)];exact wpS_pure ⟨rfl,vs,P'',g'',rfl,pv.trans pm',cv,by omega⟩
  ·rintro c st' ⟨rfl,us,P',g',rfl,pm',ch',hs⟩;refine⟨rfl,us,P',g',rfl,pm',ch',?_⟩
   have:P'.size+max 0 xs.size<=xs.size:=hs
   omega
  ·rintro c st' ⟨rfl,us,P',g',rfl,pm',ch',hs⟩;refine wpS_pure (h us P' g' pm' ?_);have szu:=pm'.size_eq;rw [szu];rw [← zsC] at hs
   revert ch' hs
   cases P'.toList with
   | nil =>
    intro ch' _
    have:0=xs.size:=ch'
    exact fun i j x y _ _ _=>by omega
   | cons t r =>
    intro ch' hs;cases r with
    | nil =>
     obtain⟨_,_,c3,c4⟩:=ch';have c4:0+t.2.1=xs.size:=c4;rw [← c4];exact c3
    | cons u r=>simp at hs
end
end L2
end
section
namespace L2
open PySem PySem.Spec PyProof.Rows PySem.W
theorem zig {α:Type} (d:α):∀ {l' l:List α},l'.Perm l->∃ p:List Nat,p.Perm (List.range l.length)/\l'=p.map fun i=>l.getD i d:=fun h=>by
 induction h with
 | nil=>exact⟨[],List.Perm.refl _,rfl⟩
 | @cons x l1 l2 _ ih =>
  obtain⟨p,p1,p2⟩:=ih;refine⟨0::p.map Nat.succ,?_,?_⟩
  ·rw [zsz,List.range_succ_eq_map];exact (p1.map _).cons _
  ·rw [p2,zsq,zsp]
   rfl
 | swap x y l =>
  refine⟨1::0::(List.range l.length).map (·+2),?_,?_⟩
  ·rw [zsz,zsz,List.range_succ_eq_map,List.range_succ_eq_map,zsq,zsp];exact List.Perm.swap _ _ _
  ·rw [zsq,zsq,zsp];show y::x::l=y::x::(List.range l.length).map (fun i=>l.getD i d)
   congr 2
   apply List.ext_getElem?
   intro i;by_cases hi:i<l.length
   ·simp [hi]
   ·simp [Nat.le_of_not_lt hi]
 | @trans l1 l2 l3 _ _ ih1 ih2 =>
  obtain⟨p1,a1,b1⟩:=ih1;obtain⟨p2,a2,b2⟩:=ih2;have hl:l2.length=p2.length:=by rw [b2,zrY]
  refine⟨p1.map fun i=>p2.getD i 0,?_,?_⟩
  ·refine (a1.map _).trans ?_
   have:(List.range l2.length).map (fun i=>p2.getD i 0)=p2:=by
    apply List.ext_getElem?
    intro i;by_cases hi:i<p2.length
    ·simp [hi,hl]
    ·simp [Nat.le_of_not_lt hi,hl]
   rw [this];exact a2
  ·rw [b1,zsp];refine zsL fun i hi=>?_
   have hi:i<p2.length:=by rw [← hl];exact List.mem_range.1 (a1.mem_iff.1 hi)
   show l2.getD i d=l3.getD (p2.getD i 0) d;rw [b2];simp [hi]
section
variable {prog:Program} {w:World} {A:Around} {E:Value->Shared->Prop} {s:Shared}
def zeQ (h:Heap) (a:Addr) (vs:List Value) (ky:Nat->Int):Prop:=∀ i v,vs[i]?=some v->∃ b o xs c t,v=.ref b/\b≠a/\h.get? b=some o/\o.cls=.type "tuple"/\o.data=.seq xs c/\xs[0]?=some (.int (ky i) t)
theorem zeQ.kat {h:Heap} {a:Addr}:∀ {vs:List Value} {ky:Nat->Int},zeQ h a vs ky->∃ fs,KatTups h vs fs/\fs.length=vs.length/\∀ v∈fs,∃ i t,v=Value.int i t
 | [],_,_=>⟨[],KatTups.nil,rfl,by simp⟩
 | v::vs,ky,H=>by
  obtain⟨b,o,xs,c,t,rfl,_,h1,h2,h3,h4⟩:=H 0 v rfl;obtain⟨fs,k,l,q⟩:=zeQ.kat (vs:=vs) (ky:=fun i=>ky (i+1)) fun i u hu=>H (i+1) u hu
  refine⟨_::fs,KatTups.cons h1 h2 h3 h4 k,by simp [l],fun v hv=>?_⟩;rcases zsF.1 hv with rfl | hv
  ·exact⟨_,_,rfl⟩
  ·exact q v hv
def zm2 (h:Heap) (x:Keyed):Int :=
 match x.1 with
 | .ref b=>match h.get? b with
  | some o=>match o.data with
   | .seq xs _=>match (xs:Array Value)[0]? with
    | some (Value.int k _)=>k
    | _=>0
   | _=>0
  | none=>0
 | _=>0
def zpE (h:Heap) (x:Keyed):Prop:=∃ b o xs c k t,x.1=.ref b/\h.get? b=some o/\o.data=.seq xs c/\xs[0]?=some (.int k t)
theorem zgN {h:Heap} {x:Keyed} {b:Addr} {o:Obj} {xs:Array Value} {c:Nat} {k:Int} {t:Tok} (h1:x.1=.ref b) (h2:h.get? b=some o) (h3:o.data=.seq xs c) (h4:xs[0]?=some (.int k t)):zm2 h x=k:=by
 unfold zm2;rw [h1];dsimp only;rw [h2];dsimp only;rw [h3];dsimp only;rw [h4]
theorem zjJ:Cmp (model prog w) A E s (zm2 s.heap) (zpE s.heap) (tuples' true):=fun x y st Q hx hy ne hk hQ=>by
 obtain⟨b,o,xs,c,k,t,e1,h1,h3,h4⟩:=hx;obtain⟨b',o',xs',c',k',t',e1',h1',h3',h4'⟩:=hy;rw [zgN e1 h1 h3 h4,zgN e1' h1' h3' h4'] at hQ ne;rw [lt'_eq];refine wpS_bind (wpS_get (wpS_bind (wpS_lift (wpAny_attempt ?_))));rw [hk,e1,e1'];refine kat_lt h1 h3 h1' h3' ?_;obtain⟨xr,hx⟩:∃ xr,xs.toList=.int k t::xr:=by
  have:xs.toList[0]?=some (.int k t):=by rw [zsD];exact h4
  cases hz:xs.toList with
  | nil=>rw [hz] at this;cases this
  | cons x r=>rw [hz] at this;cases this;exact⟨r,rfl⟩
 obtain⟨yr,hy⟩:∃ yr,xs'.toList=.int k' t'::yr:=by
  have:xs'.toList[0]?=some (.int k' t'):=by rw [zsD];exact h4'
  cases hz:xs'.toList with
  | nil=>rw [hz] at this;cases this
  | cons x r=>rw [hz] at this;cases this;exact⟨r,rfl⟩
 rw [hx,hy,List.zip_cons_cons];refine kat_cons (wpAny_eqBool_int ?_);rw [beq_eq_false_iff_ne.2 ne];exact kat_no (oneLt_int ⟨rfl,wpS_pure hQ⟩)
theorem zpa {a:Addr} {vs:List Value} {n:Nat} {ky:Nat->Int} {κ:SortKind} {kf:Heap->Keyed->Int} {G:Heap->Keyed->Prop} {P:PySem.Fin->Shared->Prop} (ho:s.heap.get? a=some (seqObj "list" vs.toArray n)) (h64:vs.length<65536)
  (hkind:∀ h6:Heap,(∀ b o,b≠a->s.heap.get? b=some o->h6.get? b=some o)->2<=vs.length->∀ Q:SortKind->Shared->Prop,Q κ { s with heap:=h6 }->wpAny (model prog w) A (keyKind' vs.toArray) Q E { s with heap:=h6 })
  (hcmp:∀ h6:Heap,(∀ b o,b≠a->s.heap.get? b=some o->h6.get? b=some o)->Cmp (model prog w) A E { s with heap:=h6 } (kf h6) (G h6) κ)
  (hkey:∀ h6:Heap,(∀ b o,b≠a->s.heap.get? b=some o->h6.get? b=some o)->∀ i v,vs[i]?=some v->G h6 (v,v)/\kf h6 (v,v)=ky i)
  (hd:∀ i j,i<vs.length->j<vs.length->i≠j->ky i≠ky j)
  (h:∀ (p:List Nat) (h':Heap) (c:Nat),p.Perm (List.range vs.length)->(∀ i j,i<j->j<vs.length->ky (p.getD i 0)<ky (p.getD j 0))->(∀ b o,b≠a->s.heap.get? b=some o->h'.get? b=some o) ->
   h'.get? a=some (seqObj "list" (p.map fun i=>vs.getD i Value.none).toArray c)->P (.done (.ret .none)) { s with heap:=h' }) :
  wpAny (model prog w) A (Builtin.«list.sort» ⟨[.ref a],[]⟩) P E s:=by
 have ha:a<s.heap.objs.size:=zso ho;have s1:=Heap.SameBut.update s.heap a (Obj.mapSeq fun _=>(#[]:Array Value));obtain⟨e1,ho1⟩:∃ e1,(s.heap.update a (Obj.mapSeq fun _=>(#[]:Array Value))).get? a=some (seqObj "list" #[] e1):=⟨_,get?_update_seq ho fun _=>#[]⟩;have ho6:(((s.heap.update a (Obj.mapSeq fun _=>(#[]:Array Value))).push (seqObj "tuple" vs.toArray 0)).push (seqObj "list" #[] 0)).get? a=some (seqObj "list" #[] e1):=zsb _ (zsb _ ho1);have keep:∀ b o,b≠a->s.heap.get? b=some o->(((s.heap.update a (Obj.mapSeq fun _=>(#[]:Array Value))).push (seqObj "tuple" vs.toArray 0)).push (seqObj "list" #[] 0)).get? b=some o:=fun b o hb e =>
  zsb _ (zsb _ ((s1.2 b hb).trans e))
 rw [list_sort_plain];refine wpAny_bind (listItems_at ho rfl ?_);refine wpAny_bind (listUpdate_at ho rfl ?_ (by rw [zsy,sizeLine_eq];omega) (Nat.zero_le _));refine wpAny_bind (seqEpoch_at ho1 rfl ?_);refine wpAny_bind (wpAny_newTuple ?_ (by show vs.length<=_;rw [sizeLine_eq];omega));refine wpAny_bind (wpAny_newList ?_ (Nat.zero_le _));refine wpAny_holding ?_;show wpAny (model prog w) A _ P E { s with heap:=((s.heap.update a (Obj.mapSeq fun _=>(#[]:Array Value))).push (seqObj "tuple" vs.toArray 0)).push (seqObj "list" #[] 0) };generalize ((s.heap.update a (Obj.mapSeq fun _=>(#[]:Array Value))).push (seqObj "tuple" vs.toArray 0)).push (seqObj "list" #[] 0)=h6 at ho6 keep ⊢;dsimp only;by_cases h2:vs.toArray.size<2
 ·rw [zsB h2,zsB h2];refine wpAny_bind (wpAny_pure ?_);rw [StateT.run_pure];refine wpAny_bind (wpAny_pure ?_);dsimp only;refine wpAny_bind (seqEpoch_at ho6 rfl ?_);have eo:(vs.toArray.zip vs.toArray).map (·.2)=((List.range vs.length).map fun i=>vs.getD i Value.none).toArray:=by
   apply Array.toList_inj.mp
   rw [Array.toList_map,Array.toList_zip]
   apply List.ext_getElem?
   intro i;by_cases hi:i<vs.length
   ·simp [hi]
   ·simp [Nat.le_of_not_lt hi]
  refine wpAny_bind (listUpdate_at ho6 rfl ?_ (Nat.zero_le _) (by rw [Array.size_map];show (vs.toArray.zip vs.toArray).size<=_;simp;rw [sizeLine_eq];omega));simp only [bne_self_eq_false,Bool.false_eq_true,if_false];refine wpAny_pure ?_;have s2:=Heap.SameBut.update h6 a (Obj.mapSeq fun _=>(vs.toArray.zip vs.toArray).map (·.2))
  obtain⟨c2,hc2⟩:∃ c2,(h6.update a (Obj.mapSeq fun _=>(vs.toArray.zip vs.toArray).map (·.2))).get? a=some (seqObj "list" ((vs.toArray.zip vs.toArray).map (·.2)) c2):=⟨_,get?_update_seq ho6 fun _=>(vs.toArray.zip vs.toArray).map (·.2)⟩
  refine h (List.range vs.length) _ c2 (List.Perm.refl _) (fun i j hij hj=>?_) (fun b o hb e=>(s2.2 b hb).trans (keep b o hb e)) (by rw [← eo];exact hc2);rw [zsy] at h2;omega
 ·rw [zsA h2,zsA h2];rw [zsy] at h2;refine wpAny_bind (hkind h6 keep (by omega) _ ?_);have hz:(vs.toArray.zip vs.toArray).toList=vs.map fun v=>(v,v):=by
   rw [Array.toList_zip]
   apply List.ext_getElem?
   intro i;by_cases hi:i<vs.length
   ·simp [hi]
   ·simp [Nat.le_of_not_lt hi]
  have key:=hkey h6 keep;have gd:Gd (kf h6) (G h6) (vs.toArray.zip vs.toArray):=by
   constructor
   ·intro x hx;rw [hz] at hx;obtain⟨v,hv,rfl⟩:=zsg.1 hx;obtain⟨i,hi⟩:=List.getElem?_of_mem hv;exact (key i v hi).1
   ·rw [hz,zsp];rw [List.Nodup,List.pairwise_iff_getElem];intro i j hi hj hij;rw [zrY] at hi hj;rw [List.getElem_map,List.getElem_map];show kf h6 (vs[i],vs[i])≠kf h6 (vs[j],vs[j]);rw [(key i _ (zr0 hi)).2,(key j _ (zr0 hj)).2];exact hd i j hi hj (by omega)
  refine wpAny_bind (wpAny_mono (zh1 (s:={ s with heap:=h6 }) (hcmp h6 keep) (g:=7) (Q:=fun _ st'=>∃ ys P g,st'=SortSt.mk' (κ) ys P g none/\ys.Perm (vs.toArray.zip vs.toArray)/\Seg (kf h6) ys 0 ys.size) gd fun ys P g a1 a2=>⟨ys,P,g,rfl,a1,a2⟩) ?_ fun _ _ e=>e);rintro ⟨⟨⟩,st'⟩ s' ⟨rfl,ys,P',g,rfl,pm,sg⟩;dsimp only;have pm':=Array.perm_iff_toList_perm.1 pm;rw [hz] at pm';obtain⟨p,hp,hm⟩:=zig ((Value.none,Value.none):Keyed) pm';rw [zrY] at hp;have hpl:p.length=vs.length:=by have:=hp.length_eq;rw [List.length_range] at this;exact this
  have plt:∀ i,i<p.length->p.getD i 0<vs.length:=fun i hi=>by
   rw [zsE,zr0 hi];exact List.mem_range.1 (hp.mem_iff.1 (List.getElem_mem hi))
  have hm':ys.toList=p.map fun i=>(vs.getD i Value.none,vs.getD i Value.none):=by
   rw [hm];refine zsL fun i hi=>?_
   have hi:i<vs.length:=List.mem_range.1 (hp.mem_iff.1 hi);simp [hi]
  have hout:(arrOf (SortSt.mk' (κ) ys P' g none)).map (·.2)=(p.map fun i=>vs.getD i Value.none).toArray:=by
   show ys.map (·.2)=_
   apply Array.toList_inj.mp
   rw [Array.toList_map,hm',zsp]
   rfl
  rw [hout];have hsz:(List.toArray (p.map fun i=>vs.getD i Value.none)).size=vs.length:=by rw [zsy,zrY,hpl]
  have s2:=Heap.SameBut.update h6 a (Obj.mapSeq fun _=>List.toArray (p.map fun i=>vs.getD i Value.none));obtain⟨c2,hc2⟩:∃ c2,(h6.update a (Obj.mapSeq fun _=>List.toArray (p.map fun i=>vs.getD i Value.none))).get? a=some (seqObj "list" (List.toArray (p.map fun i=>vs.getD i Value.none)) c2):=⟨_,get?_update_seq ho6 fun _=>List.toArray (p.map fun i=>vs.getD i Value.none)⟩;refine wpAny_bind (seqEpoch_at ho6 rfl ?_);refine wpAny_bind (listUpdate_at ho6 rfl ?_ (Nat.zero_le _) (zsd (Nat.le_of_eq hsz) (by rw [sizeLine_eq];omega)));simp only [bne_self_eq_false,Bool.false_eq_true,if_false];refine wpAny_pure (h p _ c2 hp (fun i j hij hj=>?_) (fun b o hb e=>(s2.2 b hb).trans (keep b o hb e)) hc2);have yat:∀ i,i<vs.length->∃ x,ys[i]?=some x/\kf h6 x=ky (p.getD i 0):=fun i hi=>by
   have hi':i<p.length:=by omega
   refine⟨_,by rw [← zsD,hm',zrZ,zr0 hi'];rfl,?_⟩
   have:=plt i hi'
   rw [show p.getD i 0=p[i] by rw [zsE,zr0 hi'];rfl] at this ⊢;dsimp only;rw [show vs.getD p[i] Value.none=vs[p[i]] by rw [zsE,zr0 this];rfl];exact (key _ _ (zr0 this)).2
  obtain⟨x,x1,x2⟩:=yat i (by omega);obtain⟨y,y1,y2⟩:=yat j hj;rw [← x2,← y2];exact sg i j x y (Nat.zero_le _) hij (by have:=(Array.getElem?_eq_some_iff.1 y1).1;exact this) x1 y1
theorem zpZ {a:Addr} {vs:List Value} {n:Nat} {ky:Nat->Int} {P:PySem.Fin->Shared->Prop} (ho:s.heap.get? a=some (seqObj "list" vs.toArray n)) (h64:vs.length<65536) (H:zeQ s.heap a vs ky)
  (hd:∀ i j,i<vs.length->j<vs.length->i≠j->ky i≠ky j)
  (h:∀ (p:List Nat) (h':Heap) (c:Nat),p.Perm (List.range vs.length)->(∀ i j,i<j->j<vs.length->ky (p.getD i 0)<ky (p.getD j 0))->(∀ b o,b≠a->s.heap.get? b=some o->h'.get? b=some o) ->
   h'.get? a=some (seqObj "list" (p.map fun i=>vs.getD i Value.none).toArray c)->P (.done (.ret .none)) { s with heap:=h' }) :
  wpAny (model prog w) A (Builtin.«list.sort» ⟨[.ref a],[]⟩) P E s:=by
 have up:∀ h6:Heap,(∀ b o,b≠a->s.heap.get? b=some o->h6.get? b=some o)->zeQ h6 a vs ky:=fun h6 keep i v hv=>by
  obtain⟨b,o,xs,c,t,r0,r1,r2,r3⟩:=H i v hv;exact⟨b,o,xs,c,t,r0,r1,keep b o r1 r2,r3⟩
 refine zpa (κ:=tuples' true) (kf:=zm2) (G:=zpE) (ky:=ky) ho h64 (fun h6 keep h2 Q q=>?_) (fun h6 _=>zjJ) (fun h6 keep i v hv=>?_) hd h
 ·obtain⟨fs,kt,fl,fi⟩:=(up h6 keep).kat;refine kat_kind (s:={ s with heap:=h6 }) (T:=.type "int") kt (by omega) (fun v hv=>?_) rfl q;obtain⟨i,t,rfl⟩:=fi v hv;exact .now
 ·obtain⟨b,o,xs,c,t,r0,r1,r2,_,r4,r5⟩:=up h6 keep i v hv;exact⟨⟨b,o,xs,c,_,t,r0,r2,r4,r5⟩,zgN r0 r2 r4 r5⟩
end
end L2
end
section
namespace L2
open PySem PySem.Spec PyProof.Rows PySem.W
section
variable {X:Cx} {pins:List (Addr × Obj)} {σ:St} {H H':Hp} {s:Shared} {h':Heap}
theorem zaQ.there {P:Program} {w:World} {H:Hp} {h:Heap} {a:Addr} {o:HO} (x:zaQ P w H h a o):∃ u,h.get? a=some u:=by
 cases o with
 | lst xs=>obtain⟨_,_,_,_,e⟩:=x;exact⟨_,e⟩
 | tup xs=>obtain⟨_,_,_,o,e,_⟩:=x;exact⟨_,e⟩
 | dK kvs=>obtain⟨_,_,_,_,o,_,_,e,_⟩:=x;exact⟨_,e⟩
 | dT kvs=>obtain⟨_,_,_,_,o,_,_,e,_⟩:=x;exact⟨_,e⟩
 | set S n=>obtain⟨o,_,_,_,e,_⟩:=x;exact⟨_,e⟩
 | ins C dx fs=>obtain⟨_,_,_,e,_⟩:=x;exact⟨_,e⟩
 | own y=>exact x
 | xd fs=>obtain⟨_,⟨_,_,_,e,_⟩,_⟩:=x;exact⟨_,e⟩
 | rng lo hi=>obtain⟨_,_,_,e⟩:=x;exact⟨_,e⟩
 | frz ob u=>obtain⟨e,_⟩:=x;exact⟨_,e⟩
 | tbl ps=>exact⟨_,(show h.get? a=some _ from x)⟩
 | met f y=>exact⟨_,(show h.get? a=some _ from x)⟩
 | ext φ=>obtain⟨_,e,_⟩:=x;exact e
theorem Inv.noneAt {a:Addr} (I:Inv X pins σ H s) (n:s.heap.get? a=none):H a=none:=by
 cases q:H a with
 | none=>rfl
 | some o =>
  obtain⟨u,e⟩:=zaQ.there (I.hok a o q);rw [n] at e;cases e
theorem Inv.more {t':Nat} (I:Inv X pins σ H s) (k:∀ b u,s.heap.get? b=some u->h'.get? b=some u) (S:Sub H H') (new:∀ a o,H' a=some o->H a=none->s.heap.get? a=none/\zaQ X.prog X.w H' h' a o) :
  Inv X pins σ H' { s with heap:=h',toks:=t' }:=by
 refine I.un ⟨fun b o e _ _ _=>k b o e,fun b o e _ _ _=>⟨o.slots,k b o e⟩,fun b o e n _=>?_,fun b o e _=>⟨o,k b o e⟩,fun b xs e=>S _ _ e,fun b o u e=>S _ _ e,fun b ps e=>⟨#[],by rw [S _ _ e];simp⟩⟩ fun a o e=>?_
 ·cases q:H' b with
  | none=>rfl
  | some u=>have:=(new b u q n).1;rw [e] at this;cases this
 ·cases q:H a with
  | none=>exact (new a o e q).2
  | some u =>
   have:=S a u q
   rw [e] at this;cases this;exact (I.hok a o q).stay (fun b u _ z=>k b u z) (fun b z=>S _ _ z) fun b xs z=>S _ _ z
end
def ovr (H:Hp) (l:List (Addr × HO)):Hp:=fun a=>match l.lookup a with | some o=>some o | none=>H a
theorem zoh {H:Hp} {l:List (Addr × HO)} (h:∀ p∈l,H p.1=none):Sub H (ovr H l):=fun a o e=>by
 unfold ovr;cases q:l.lookup a with
 | none=>exact e
 | some u =>
  have:(a,u)∈l:=by
   rw [List.lookup_eq_some_iff] at q;obtain⟨l1,l2,rfl,_⟩:=q;simp
  have:=h _ this
  rw [e] at this;cases this
theorem znX {H:Hp} {l:List (Addr × HO)} {a:Addr} {o:HO} (h:ovr H l a=some o) (n:H a=none):(a,o)∈l:=by
 unfold ovr at h;cases q:l.lookup a with
 | none=>rw [q] at h;rw [n] at h;cases h
 | some u =>
  rw [q] at h;cases h;rw [List.lookup_eq_some_iff] at q;obtain⟨l1,l2,rfl,_⟩:=q;simp
theorem znE {H:Hp}:∀ {l:List (Addr × HO)} {a:Addr} {o:HO},(l.map (·.1)).Nodup->(a,o)∈l->ovr H l a=some o:=by
 intro l a o nd m
 have:l.lookup a=some o:=by
  induction l with
  | nil=>cases m
  | cons p l ih =>
   rw [zsq,List.nodup_cons] at nd;rcases zsF.1 m with rfl | m
   ·simp [List.lookup]
   ·have ne:¬ a=p.1:=fun e=>nd.1 (zsg.2 ⟨(a,o),m,e⟩)
    have hb:(a == p.1)=false:=beq_eq_false_iff_ne.2 ne;rw [List.lookup_cons,hb];exact ih nd.2 m
 unfold ovr;rw [this]
abbrev dcI (kvs:List (Int × V)):List (Key × V):=kvs.map fun q=>(Sum.inl q.1,q.2)
abbrev tI (q:Int × V):HO:=.tup [.int q.1,q.2]
theorem zpi {kvs:List (Int × V)} {vs:List (Key × Value)} (r:KV (dcI kvs) vs) {i:Nat} {k:Key} {x:Value} (h:vs[i]?=some (k,x)):∃ q,kvs[i]?=some q/\k=.inl q.1/\zaY q.2 x:=by
 have:∀ {l:List (Key × V)} {m:List (Key × Value)} {i:Nat},KV l m->m[i]?=some (k,x)->∃ p,l[i]?=some p/\p.1=k/\zaY p.2 x:=by
  intro l m i r
  induction r generalizing i with
  | nil=>intro h;simp at h
  | @cons p q ps qs hp t ih =>
   intro h;cases i with
   | zero=>cases h;exact⟨p,rfl,hp.1,hp.2⟩
   | succ i=>exact ih h
 obtain⟨p,h1,h2,h3⟩:=this r h;rw [zrZ] at h1;obtain⟨q,hq,rfl⟩:=zr1.1 h1;exact⟨q,hq,h2.symm,h3⟩
theorem zkM {P:Program} {w:World} {h:Heap} {a:Addr} {vs:List (Key × Value)} (d:h.DictOf (zaB P w) a vs):∃ ep,h.DictAt (zaB P w) a vs ep:=by
 obtain⟨o,es,ep,r⟩:=d;exact⟨ep,o,es,r⟩
theorem zl0 {kvs:List (Int × V)} {vs:List (Key × Value)} (r:KV (dcI kvs) vs) (nd:(vs.map (·.1)).Nodup):(kvs.map (·.1)).Nodup:=by
 have e:vs.map (·.1)=kvs.map fun q=>(Sum.inl q.1:Key):=by
  have:∀ {l:List (Key × V)} {m:List (Key × Value)},KV l m->m.map (·.1)=l.map (·.1):=by
   intro l m r
   induction r with
   | nil=>rfl
   | @cons p q ps qs hp t ih=>rw [zsq,zsq,ih,hp.1]
  rw [this r,zsp]
  rfl
 rw [e,show (kvs.map fun q=>(Sum.inl q.1:Key))=(kvs.map (·.1)).map Sum.inl by rw [zsp];rfl] at nd
 exact (List.pairwise_map.1 nd).imp fun h e=>h (by rw [e])
theorem zjo {κ:Type} {l:List (κ × V)} {m:List (κ × Value)} (r:KV l m):l.length=m.length:=Paired.length r
theorem zfJ {α:Type} (l:List α) (d:α):(List.range l.length).map (fun i=>l.getD i d)=l:=by
 apply List.ext_getElem?
 intro i;rw [zrZ];by_cases h:i<l.length
 ·rw [List.getElem?_range h];simp [h]
 ·rw [List.getElem?_eq_none (by rw [List.length_range];omega),List.getElem?_eq_none (by omega)];rfl
theorem zdH:∀ bs:List Addr,zaV (bs.map V.ref) (bs.map Value.ref)
 | []=>.nil
 | _::bs=>.cons rfl (zdH bs)
theorem zcI {as:List Addr} {kvs:List (Int × V)} {p:List Nat} {ky:Nat->Int} {R:Addr->Int × V->Prop} (hp:p.Perm (List.range kvs.length)) (hA:za6 R as kvs) (hky:∀ i,ky i=(kvs.getD i (0,.non)).1)
  (hs:∀ i j,i<j->j<kvs.length->ky (p.getD i 0)<ky (p.getD j 0)) :
  (p.map fun i=>kvs.getD i (0,.non)).Perm kvs/\((p.map fun i=>kvs.getD i (0,.non)).map (·.1)).Pairwise (·<·)/\za6 R (p.map fun i=>as.getD i 0) (p.map fun i=>kvs.getD i (0,.non)) /\
   (p.map fun i=>(as.map Value.ref).getD i Value.none)=(p.map fun i=>as.getD i 0).map Value.ref:=by
 have hlen:p.length=kvs.length:=by rw [hp.length_eq,List.length_range]
 have hlt:∀ i∈p,i<kvs.length:=fun i hi=>List.mem_range.1 (hp.mem_iff.1 hi)
 refine⟨?_,?_,⟨by rw [zrY,zrY],fun i a q ha hq=>?_⟩,?_⟩
 ·have:=hp.map fun i=>kvs.getD i (0,V.non)
  rwa [zfJ] at this
 ·rw [zsp];refine List.pairwise_iff_getElem.2 fun i j hi hj hij=>?_
  rw [zrY] at hi hj
  have:=hs i j hij (by omega)
  rw [hky,hky] at this;simpa [hi,hj] using this
 ·rw [zrZ] at ha hq;obtain⟨j,hj,rfl⟩:=zr1.1 ha;rw [hj] at hq;cases hq;have hjl:=hlt j (zr3 hj);have hja:j<as.length:=by rw [hA.1];exact hjl
  refine hA.2 j _ _ ?_ ?_
  ·simp [hja]
  ·simp [hjl]
 ·rw [zsp];refine zsL fun i hi=>?_
  have hja:i<as.length:=by rw [hA.1];exact hlt i hi
  simp [hja]
def zhJ (v d:Addr):HO:=.ext fun h=>h.IsItemsView v d
theorem zns {kvs:List (Int × V)} (nd:(kvs.map (·.1)).Nodup) {i j:Nat} (hi:i<kvs.length) (hj:j<kvs.length) (ne:i≠j):(kvs.getD i (0,.non)).1≠(kvs.getD j (0,.non)).1:=fun e=>by
 apply ne
 refine (List.getElem_inj (i:=i) (j:=j) (h₀:=by rw [zrY];exact hi) (h₁:=by rw [zrY];exact hj) nd).1 ?_;simpa [hi,hj] using e
section
variable {X:Cx}
def znD:V->List V->Hp->VK->Prop:=fun x vs H Q=>match x,vs with | .ref d,[]=>(∃ kvs,H d=some (.dK kvs))/\∀ v,H v=none->Q (.ref v) (upd H v (zhJ v d)) | _,_=>False
theorem zkr:MtR X "dict.items" znD:=by
 intro pins s σ H x vs v us Q I rx rv h;unfold znD at h;split at h
 ·rename_i d;obtain⟨⟨kvs,hd⟩,q⟩:=h;cases rx;cases rv;obtain⟨z,hsys,ws,rel,dd⟩:=ziv I.hok hd;refine call_meetsIn PySem.F.slot_dict_items dd.typeIs PySem.F.entry_dict_items (PySem.F.args_dict_items_1 _) (meets_dict_items (zaB X.prog X.w) d hsys) ⟨⟨ws,dd⟩,?_⟩;refine⟨.ref s.heap.objs.size,_,I.laid (a:=s.heap.objs.size) (o:=zhJ s.heap.objs.size d) (t':=s.toks) (fun b u e=>zsb _ e) (zse _) ?_,rfl,q _ (I.hok.fresh (zse _))⟩;have e:(s.heap.push { cls:=.type "dict_items",data:=.fields #[.ref d] }).get? s.heap.objs.size=some { cls:=.type "dict_items",data:=.fields #[.ref d] }:=zsx _ rfl;refine⟨⟨_,e,rfl,rfl⟩,⟨_,e⟩,fun h1 h2 ⟨o,a1,a2⟩ k=>⟨o,k o a1,a2⟩⟩
 ·exact h.elim
def zp1:List V->Hp->VK->Prop:=fun xs H Q=>match xs with
 | [.ref v]=>∃ d kvs,H v=some (zhJ v d)/\H d=some (.dK (dcI kvs))/\kvs.length<65536/\∀ (ps:List (Int × V)) (bs:List Addr) (l:Addr) (H':Hp),Sub H H'->ps.Perm kvs->(ps.map (·.1)).Pairwise (·<·) ->
   za6 (fun b q=>H' b=some (tI q)) bs ps->H' l=some (.lst (bs.map V.ref))->H l=none->(∀ b∈bs,H b=none)->Q (.ref l) H'
 | _=>False
theorem znx (hc:X.calm=true):za9 X (.builtin "sorted") zp1:=by
 intro pins s σ H xs us Q I r h;unfold zp1 at h;split at h
 ·rename_i v;obtain⟨d,kvs,hv,hd,h64,q⟩:=h;cases r with
  | cons r rr =>
  cases rr;cases r;obtain⟨z,hsys,ws,rel,dd⟩:=ziv I.hok hd;obtain⟨ep,hat⟩:=zkM dd;obtain⟨hview,_,_⟩:=(show zaQ X.prog X.w H s.heap v (zhJ v d) from I.hok v _ hv);have hwl:kvs.length=ws.length:=by rw [← zjo rel,zrY]
  refine Calls.call_function_entry kind_sorted plain_sorted entry_sorted (args_sorted1 _) ?_;unfold Builtin.«sorted»;refine wpAny_bind (m:=checkCount "sorted" 1 1 _) (wpAny_pure ?_);refine wpAny_bind (kdx_collect (A:=X.A.in1) (knd:=zaB X.prog X.w) (kvs:=ws) (ep:=ep) (I.ok.hd hc) hview hat (by rw [← hwl,sizeLine_eq];omega) fun h' tk as hk hl hG=>?_);have hal:as.length=kvs.length:=by rw [hl,hwl]
  refine wpAny_bind (wpAny_newList ?_ (by rw [zrY,hal,sizeLine_eq];omega));have hB:(h'.push { cls:=.type "list",data:=.seq (as.map Value.ref).toArray }).get? h'.objs.size=some (seqObj "list" (as.map Value.ref).toArray 0):=zsx _ rfl;have hasB:∀ a∈as,a≠h'.objs.size:=fun a ha=>zsG (hG.there ha)
  have tup:∀ i a,as[i]?=some a->∃ (qv:Int × V) (t:Tok) (x:Value),kvs[i]?=some qv/\zaY qv.2 x/\h'.get? a=some { cls:=.type "tuple",data:=.seq #[.int qv.1 t,x] }:=fun i a ha=>by
   obtain⟨key,k,x,e1,e2,e3⟩:=hG.pairs i a ha;obtain⟨qv,f1,rfl,f3⟩:=zpi rel e1;rcases zaR (show zez (.inl qv.1) key=true from e2) with ⟨i',t,g1,rfl⟩ | ⟨x',t,g1,rfl⟩
   ·cases g1;exact⟨qv,t,x,f1,f3,e3⟩
   ·cases g1
  have hT:zeQ (h'.push { cls:=.type "list",data:=.seq (as.map Value.ref).toArray }) h'.objs.size (as.map Value.ref) (fun i=>(kvs.getD i (0,.non)).1):=fun i u hu=>by
   rw [zrZ] at hu;obtain⟨a,ha,rfl⟩:=zr1.1 hu;obtain⟨qv,t,x,e1,e2,e3⟩:=tup i a ha;refine⟨a,_,_,_,t,rfl,hasB a (zr3 ha),zsb _ e3,rfl,rfl,?_⟩
   have:kvs.getD i (0,.non)=qv:=by rw [zsE,e1];rfl
   show some (Value.int qv.1 t)=some (Value.int (kvs.getD i (0,V.non)).1 t);rw [this]
  have nd:=zl0 rel (let ⟨_,_,_,_,_,_,_,_,z⟩:=dd;z);refine wpAny_bind (wpAny_holding (wpAny_call_entry slot_list_sort ⟨_,hB,rfl⟩ entry_list_sort (zpZ (s:={ s with heap:=h'.push { cls:=.type "list",data:=.seq (as.map Value.ref).toArray },toks:=tk }) hB (by rw [zrY,hal];exact h64) hT
   (fun i j hi hj ne=>zns nd (by rw [zrY,hal] at hi;exact hi) (by rw [zrY,hal] at hj;exact hj) ne) fun p h2 c hp hs hkeep hB2=>⟨_,rfl,?_⟩) (args_list_sort _)))
  rw [zrY,hal] at hp hs;refine wpAny_pure ⟨_,rfl,?_⟩;have hA0:za6 (fun (_:Addr) (_:Int × V)=>True) as kvs:=⟨hal,fun _ _ _ _ _=>trivial⟩;have keep2:∀ b o,b≠h'.objs.size->h'.get? b=some o->h2.get? b=some o:=fun b o hb e=>hkeep b o hb (zsb _ e)
  have noneB:s.heap.get? h'.objs.size=none:=by
   cases e:s.heap.get? h'.objs.size with
   | none=>rfl
   | some o=>exact absurd (zso (hk _ _ e)) (Nat.lt_irrefl _)
  have noneA:∀ a∈as,s.heap.get? a=none:=fun a ha=>Heap.get?_none_of_le (Nat.le_of_lt (hG.above a ha))
  generalize hbs:(p.map fun i=>as.getD i 0)=bs;obtain⟨s1,s2,_,s4⟩:=zcI hp hA0 (fun i=>rfl) hs;rw [s4,hbs] at hB2;generalize hL:((h'.objs.size,HO.lst (bs.map V.ref))::as.zip (kvs.map tI))=L;have zkeys:(as.zip (kvs.map tI)).map (·.1)=as:=by
   rw [← List.unzip_fst,List.unzip_zip (by rw [zrY,hal])]
  have Lnone:∀ p∈L,s.heap.get? p.1=none:=fun p hpL=>by
   rw [← hL] at hpL;rcases zsF.1 hpL with rfl | hpL
   ·exact noneB
   ·exact noneA _ (by rw [← zkeys];exact zsg.2 ⟨p,hpL,rfl⟩)
  have Lnd:(L.map (·.1)).Nodup:=by
   rw [← hL,zsq,zkeys,List.nodup_cons];exact⟨fun z=>hasB _ z rfl,hG.rise.imp fun h=>zsG h⟩
  have S:Sub H (ovr H L):=zoh fun p hpL=>I.noneAt (Lnone p hpL)
  have atA:∀ i a qv,as[i]?=some a->kvs[i]?=some qv->ovr H L a=some (tI qv):=fun i a qv ha hq=>by
   refine znE Lnd ?_;rw [← hL];refine zsh _ ?_;refine zr3 (i:=i) ?_;rw [List.getElem?_zip_eq_some];exact⟨ha,by rw [zrZ,hq];rfl⟩
  have hA1:za6 (fun b qv=>ovr H L b=some (tI qv)) as kvs:=⟨hal,fun i a qv ha hq=>atA i a qv ha hq⟩;obtain⟨_,_,s3,_⟩:=zcI hp hA1 (fun i=>rfl) hs;rw [hbs] at s3;have bsl:bs.length=kvs.length:=by rw [← hbs,zrY,hp.length_eq,List.length_range]
  have bsin:∀ b∈bs,b∈as:=fun b hb=>by
   rw [← hbs] at hb;obtain⟨i,hi,rfl⟩:=zsg.1 hb;have hja:i<as.length:=by rw [hal];exact List.mem_range.1 (hp.mem_iff.1 hi)
   rw [show as.getD i 0=as[i] by simp [hja]];exact List.getElem_mem hja
  refine⟨.ref h'.objs.size,ovr H L,I.more (fun b u e=>keep2 b u (fun z=>by rw [z,noneB] at e;cases e) (hk b u e)) S (fun a o ho hn=>?_),rfl,q _ bs _ _ S s1 s2 s3 ?_ (I.noneAt noneB) fun b hb=>I.noneAt (noneA b (bsin b hb))⟩
  ·have hm:=znX ho hn;refine⟨Lnone _ hm,?_⟩;rw [← hL] at hm;rcases zsF.1 hm with e | hm
   ·cases e;exact⟨by rw [zrY,bsl,sizeLine_eq];omega,bs.map Value.ref,c,zdH bs,hB2⟩
   ·obtain⟨i,hi⟩:=List.mem_iff_getElem?.1 hm;rw [List.getElem?_zip_eq_some] at hi;obtain⟨ha,hq⟩:=hi;rw [zrZ] at hq;obtain⟨qv,hqv,rfl⟩:=zr1.1 hq;obtain⟨qv',t,x,e1,e2,e3⟩:=tup i a ha;rw [hqv] at e1;cases e1;exact⟨by show 2<=sizeLine;decide,[.int qv.1 t,x],.cons ⟨t,rfl⟩ (.cons e2 .nil),⟨_,keep2 a _ (hasB a (zr3 ha)) e3,rfl,_,rfl,rfl⟩⟩
  ·refine znE Lnd ?_;rw [← hL];exact zsw
 ·exact h.elim
def zp9:List V->Hp->VK->Prop:=fun xs H Q=>match xs with
 | [.ref v]=>∃ (as:List Addr) (kvs:List (Int × V)),H v=some (.lst (as.map V.ref))/\za6 (fun b q=>H b=some (tI q)) as kvs/\(kvs.map (·.1)).Nodup/\kvs.length<65536/\∀ (ps:List (Int × V)) (bs:List Addr) (l:Addr),ps.Perm kvs->(ps.map (·.1)).Pairwise (·<·) ->
   za6 (fun b q=>H b=some (tI q)) bs ps->H l=none->Q (.ref l) (upd H l (.lst (bs.map V.ref)))
 | _=>False
theorem zhg {as:List Addr} {us:List Value} (r:zaV (as.map V.ref) us):us=as.map Value.ref:=by
 induction as generalizing us with
 | nil=>cases r;rfl
 | cons a as ih =>
  cases r with
  | cons h t=>cases h;rw [ih t];rfl
theorem zpq:za9 X (.builtin "sorted") zp9:=by
 intro pins s σ H xs us Q I r h;unfold zp9 at h;split at h
 ·rename_i v;obtain⟨as,kvs,hv,hA,nd,h64,q⟩:=h;cases r with
  | cons r rr =>
  cases rr;cases r;obtain⟨z,its,n,rel,he⟩:=(show zaQ X.prog X.w H s.heap v (.lst (as.map V.ref)) from I.hok v _ hv);have hits:=zhg rel;subst hits;have hal:=hA.1;have hl:s.heap.IsList v (as.map Value.ref).toArray:=PySem.IsL.isList he;refine Calls.call_function_entry kind_sorted plain_sorted entry_sorted (args_sorted1 _) ?_;unfold Builtin.«sorted»;refine wpAny_bind (m:=checkCount "sorted" 1 1 _) (wpAny_pure ?_);refine wpAny_bind (collect_list hl ?_ (by rw [zrY,hal,sizeLine_eq];omega));refine wpAny_bind (wpAny_newList ?_ (by rw [zrY,hal,sizeLine_eq];omega));have hsz:((s.heap.push (seqObj "list" #[] 0)).update s.heap.objs.size (Obj.mapSeq (·++(as.map Value.ref).toArray))).objs.size=s.heap.objs.size+1:=by
   rw [Heap.size_update,size_push']
  have keep:∀ b o,s.heap.get? b=some o->(((s.heap.push (seqObj "list" #[] 0)).update s.heap.objs.size (Obj.mapSeq (·++(as.map Value.ref).toArray))).push (seqObj "list" (as.map Value.ref).toArray 0)).get? b=some o:=fun b o q=>by
   have hlt:b<s.heap.objs.size:=zso q;rw [Heap.get?_push_ne _ _ _ (by rw [hsz];exact zsG (Nat.lt_succ_of_lt hlt)),Heap.get?_update_ne _ _ _ _ (zsG hlt),Heap.get?_push_ne _ _ _ (zsG hlt)];exact q
  have hB:(((s.heap.push (seqObj "list" #[] 0)).update s.heap.objs.size (Obj.mapSeq (·++(as.map Value.ref).toArray))).push (seqObj "list" (as.map Value.ref).toArray 0)).get? (s.heap.objs.size+1)=some (seqObj "list" (as.map Value.ref).toArray 0):=by
   rw [← hsz];exact zsx _ rfl
  show wpAny _ _ _ _ _ { s with heap:=((s.heap.push (seqObj "list" #[] 0)).update s.heap.objs.size (Obj.mapSeq (·++(as.map Value.ref).toArray))).push (seqObj "list" (as.map Value.ref).toArray 0) }
  rw [hsz];generalize ((s.heap.push (seqObj "list" #[] 0)).update s.heap.objs.size (Obj.mapSeq (·++(as.map Value.ref).toArray))).push (seqObj "list" (as.map Value.ref).toArray 0)=h3 at keep hB ⊢
  have tup:∀ i a,as[i]?=some a->∃ (qv:Int × V) (o:Obj) (ys:Array Value) (c:Nat) (t:Tok),kvs[i]?=some qv/\s.heap.get? a=some o/\o.cls=.type "tuple"/\o.data=.seq ys c/\ys[0]?=some (.int qv.1 t):=fun i a ha=>by
   obtain⟨qv,h1,h2⟩:=hA.at ha;obtain⟨_,its,rv,o,e1,e2,c,e3,_⟩:=(show zaQ X.prog X.w H s.heap a (.tup [.int qv.1,qv.2]) from I.hok a _ h2);cases rv with
   | cons r1 r2 =>
    obtain⟨t,rfl⟩:=r1;exact⟨qv,o,_,c,t,h1,e1,e2,e3,rfl⟩
  have hT:zeQ h3 (s.heap.objs.size+1) (as.map Value.ref) (fun i=>(kvs.getD i (0,.non)).1):=fun i u hu=>by
   rw [zrZ] at hu;obtain⟨a,ha,rfl⟩:=zr1.1 hu;obtain⟨qv,o,ys,c,t,e1,e2,e3,e4,e5⟩:=tup i a ha;refine⟨a,o,ys,c,t,rfl,zsG (Nat.lt_succ_of_lt (zso e2)),keep a o e2,e3,e4,?_⟩
   have:kvs.getD i (0,.non)=qv:=by rw [zsE,e1];rfl
   show ys[0]?=some (Value.int (kvs.getD i (0,V.non)).1 t);rw [this];exact e5
  refine wpAny_bind (wpAny_holding (wpAny_call_entry slot_list_sort ⟨_,hB,rfl⟩ entry_list_sort (zpZ (s:={ s with heap:=h3 }) hB (by rw [zrY,hal];exact h64) hT
   (fun i j hi hj ne=>zns nd (by rw [zrY,hal] at hi;exact hi) (by rw [zrY,hal] at hj;exact hj) ne) fun p h2 c hp hs hkeep hB2=>⟨_,rfl,?_⟩) (args_list_sort _)))
  rw [zrY,hal] at hp hs;refine wpAny_pure ⟨_,rfl,?_⟩;obtain⟨s1,s2,s3,s4⟩:=zcI hp hA (fun i=>rfl) hs;rw [s4] at hB2;have fr:H (s.heap.objs.size+1)=none:=I.hok.fresh (Nat.le_succ _);refine⟨.ref (s.heap.objs.size+1),_,I.laid (a:=s.heap.objs.size+1) (o:=.lst ((p.map fun i=>as.getD i 0).map V.ref)) (t':=s.toks) (fun b u e=>hkeep b u (zsG (Nat.lt_succ_of_lt (zso e))) (keep b u e)) (Nat.le_succ _) ?_,rfl,q _ _ _ s1 s2 s3 fr⟩;exact⟨by rw [zrY,zrY,hp.length_eq,List.length_range,sizeLine_eq];omega,_,c,zdH _,hB2⟩
 ·exact h.elim
end
end L2
end
section
namespace L2
open PySem PySem.Spec PyProof.Rows PySem.W
section
variable {X:Cx} {pins:List (Addr × Obj)} {σ:St} {H:Hp} {s:Shared}
theorem Inv.freeze {d:Addr} {o:Obj} {kvs:List (Key × V)} (I:Inv X pins σ H s) (hd:H d=some (.dK kvs)) (ho:s.heap.get? d=some o):Inv X pins σ (upd H d (.frz o (.dK kvs))) s:=by
 have nt:∀ b xs,H b=some (.tup xs)->b≠d:=fun b xs e z=>by rw [z,hd] at e;cases e
 have no:∀ b y,H b=some (.own y)->b≠d:=fun b y e z=>by rw [z,hd] at e;cases e
 have:=I.un (t':=s.toks) (h':=s.heap) (H':=upd H d (.frz o (.dK kvs))) ⟨fun b o e _ _ _=>e,fun b o e _ _ _=>⟨o.slots,e⟩,fun b u e n _=>?_,fun b o e _=>⟨o,e⟩,fun b xs e=>?_,fun b u v e=>?_,fun b ps e=>?_⟩ fun a u e=>?_
 ·exact this
 ·rw [zao (fun z=>by rw [z,hd] at n;cases n)];exact n
 ·rw [zao (nt b xs e)];exact e
 ·rw [zao (fun z=>by rw [z,hd] at e;cases e)];exact e
 ·exact⟨#[],by rw [zao (fun z=>by rw [z,hd] at e;cases e),e];simp⟩
 ·have st:∀ a u,zaQ X.prog X.w H s.heap a u->zaQ X.prog X.w (upd H d (.frz o (.dK kvs))) s.heap a u:=fun a u x =>
   x.stay (fun b v _ z=>z) (fun b z=>by rw [zao (no b _ z)];exact z) fun b xs z=>by rw [zao (nt b xs z)];exact z
  by_cases q:a=d
  ·subst q;rw [zah] at e;cases e;exact⟨ho,st _ _ (I.hok _ _ hd)⟩
  ·rw [zao q] at e;exact st _ _ (I.hok a u e)
end
theorem znw {P:Program} {w:World} {H:Hp} {h:Heap} {d:Addr} {o:Obj} {kvs:List (Int × V)} {es:Array DictEntry} {ep:Nat} (hok:HOk P w H h) (hd:H d=some (.frz o (.dK (dcI kvs)))) (ho:o.data=.dict es ep) :
  ∃ ws,KV (dcI kvs) ws/\h.DictAt (zaB P w) d ws ep/\kvs.length=ws.length:=by
 obtain⟨e,z,sys,ws,rel,o',es',ep',e1,e2,e3,e4⟩:=(show zaQ P w H h d (.frz o (.dK (dcI kvs))) from hok d _ hd);rw [e] at e1;cases e1;rw [ho] at e3;cases e3;exact⟨ws,rel,⟨o,es,e,e2,ho,e4⟩,by rw [← zjo rel,zrY]⟩
section
variable {X:Cx}
end
end L2
end
section
namespace PySem
open Sem (wp)
section
variable {prog:Program} {w:World} {A:Around} {E:Value->Shared->Prop} {h:Heap} {g:Array GenState} {d:Drawn} {t:Nat} {os:OsState} {a:Addr} {o:Obj} {its:Array Value} {n:Nat}
end
end PySem
end
section
namespace L2
open PySem PySem.Spec PyProof.Rows PySem.W
theorem zc7:entryFor table "dict.update.loop"=some Builtin.«dict.update.loop»:=entryFor_of_tree (by kernel_rfl)
theorem zbK:plainId "dict.update.loop"=true:=by decide +kernel
section
variable {prog:Program} {w:World} {K:Type} [DecidableEq K] {knd:PySem.KeyKind prog w K} {A:Around} {s:Shared} {R:Result->Shared->Prop}
def zrx (knd:PySem.KeyKind prog w K) (h:Heap) (D it:Addr) (its:List Value) (prs:List (K × Value)):Prop :=
 ∀ (i:Nat) (u:Value),its[i]?=some u->∃ (b:Addr) (key:Value) (q:K × Value) (o:Obj) (c:Nat),u=Value.ref b/\b≠D/\b≠it/\prs[i]?=some q/\knd.is q.1 key=true/\h.get? b=some o/\o.cls=.type "tuple"/\o.data=.seq #[key,q.2] c
end
section
variable {X:Cx}
end
end L2
end
section
namespace PySem
end PySem
namespace L2
open PySem PySem.Spec PyProof.Rows PySem.W HT
section
variable {prog:Program} {w:World} {A:Around} {E:Value->Shared->Prop} {s:Shared}
end
section
variable {X:Cx} {K:PySem.W.Frag}
end
theorem zaC.noE {P:Program} {w:World} {K:PySem.W.Frag} {mg:Str->Option Value} {base:Heap} {k:Nat} {f:Addr} {fd:FuncData} {ps:List Str} {sp:Sp} (F:zaC P w K mg base (CXE P w) k f fd ps sp) :
  zaC P w K mg base CX0 k f fd ps (fun vs H Q _=>sp vs H Q fun _ _ _=>False) :=
 ⟨fun vs H Q _ h=>F.len vs H Q _ h,fun A outer s H args us vs Q E hr he hb hv hs=>codeAny_mono (F.run A outer s H args us vs Q (fun _ _ _=>False) hr he hb hv hs) fun r s' hq=>by
  cases r with
  | ok fl=>cases fl <;> exact hq
  | error e =>
   obtain⟨x,C,B,hr,a0,H',_,_,_,_,_,_,_,_,_,_,z⟩:=hq;exact z.elim⟩
end L2
end
section
namespace L2
open PySem PySem.Spec PyProof.Rows PySem.W
abbrev Mk2:=List (Int × Int)
abbrev iv (ks:Mk2):List (Int × V):=ks.map fun q=>(q.1,V.int q.2)
def zcd (ks:Mk2) (k:Int):Option Int:=(ks.find? fun q=>decide (q.1=k)).map (·.2)
def zfy (ks:Mk2) (k s:Int):Mk2:=if (ks.any fun q=>decide (q.1=k))=true then ks.map (fun q=>if q.1=k then (q.1,s) else q) else ks++[(k,s)]
def zin (ks:Mk2) (k:Int):Mk2:=ks.filter fun q=>decide (q.1≠k)
def nxt (ks:Mk2) (p s:Int):Mk2:=if s=0 then zin ks p else zfy ks p s
theorem zj7 (k:Int):∀ ks:Mk2,zg2 (dcI (iv ks)) (.inl k)=(zcd ks k).map V.int
 | []=>rfl
 | q::ks=>by
  by_cases e:q.1=k
  ·rw [show dcI (iv (q::ks))=((.inl q.1:Key),V.int q.2)::dcI (iv ks) from rfl,zeI (by rw [e])];simp [zcd,List.find?_cons,e]
  ·rw [show dcI (iv (q::ks))=((.inl q.1:Key),V.int q.2)::dcI (iv ks) from rfl,zeB (by intro z;exact e (Sum.inl.inj z)),zj7 k ks];simp [zcd,List.find?_cons,e]
theorem zri (k:Int) (ks:Mk2):((dcI (iv ks)).any fun kv=>decide (kv.1=(.inl k:Key)))=ks.any fun q=>decide (q.1=k):=by
 rw [List.any_map,List.any_map]
 congr 1
 funext q
 simp [Function.comp]
theorem zm7 (k s:Int) (ks:Mk2):zic (dcI (iv ks)) (.inl k) (.int s)=dcI (iv (zfy ks k s)):=by
 unfold zic zfy;rw [zri];by_cases h:(ks.any fun q=>decide (q.1=k))=true
 ·rw [zsB h,zsB h];show _=List.map _ (List.map _ (List.map _ ks));rw [zsp,zsp,zsp,zsp];refine zsL fun q _=>?_
  by_cases e:q.1=k <;> simp [e]
 ·rw [zsA h,zsA h];show _=List.map _ (List.map _ (ks++[(k,s)]));rw [zr6,zr6]
  rfl
theorem zpC (k:Int) (ks:Mk2):zij (dcI (iv ks)) (.inl k)=dcI (iv (zin ks k)):=by
 unfold zij zin;rw [List.filter_map,List.filter_map,zsp];show _=List.map _ (List.map _ (ks.filter _));rw [zsp]
 congr 1
 refine List.filter_congr fun q _=>?_
 simp [Function.comp]
theorem zkn {ks:Mk2} {k:Int} (h:zcd ks k=none):zin ks k=ks:=by
 unfold zin;refine List.filter_eq_self.2 fun q hq=>?_
 unfold zcd at h;rw [Option.map_eq_none_iff,List.find?_eq_none] at h;simpa using h q hq
theorem zoQ {ks:Mk2} {k s:Int} {q:Int × Int} (h:q∈zfy ks k s):q=(k,s)\/q∈ks:=by
 unfold zfy at h;split at h
 ·obtain⟨r,hr,rfl⟩:=zsg.1 h;by_cases e:r.1=k
  ·rw [zsB e,e];exact .inl rfl
  ·rw [zsA e];exact .inr hr
 ·rcases zr9.1 h with h | h
  ·exact .inr h
  ·exact .inl (zr7.1 h)
theorem zmO {ks:Mk2} {k:Int} {q:Int × Int} (h:q∈zin ks k):q∈ks:=(List.mem_filter.1 h).1
theorem ziY (ks:Mk2) (k s:Int):((ks.any fun q=>decide (q.1=k))=true->(zfy ks k s).map (·.1)=ks.map (·.1))/\((ks.any fun q=>decide (q.1=k))=false->(zfy ks k s).map (·.1)=ks.map (·.1)++[k]):=by
 refine⟨fun h=>?_,fun h=>?_⟩
 ·unfold zfy;rw [zsB h,zsp];refine zsL fun q _=>?_
  by_cases e:q.1=k <;> simp [e]
 ·unfold zfy;rw [zsA (by rw [h];simp),zr6]
  rfl
theorem zdJ {ks:Mk2} {k s:Int} (nd:(ks.map (·.1)).Nodup):((zfy ks k s).map (·.1)).Nodup:=by
 cases h:ks.any fun q=>decide (q.1=k) with
 | true=>rw [(ziY ks k s).1 h];exact nd
 | false =>
  rw [(ziY ks k s).2 h,List.nodup_append];refine⟨nd,by simp,fun a ha b hb=>?_⟩;rw [zr7.1 hb];rintro rfl;obtain⟨q,hq,e⟩:=zsg.1 ha;rw [List.any_eq_false] at h;exact h q hq (zr4 e)
theorem zj3 {ks:Mk2} {k:Int} (nd:(ks.map (·.1)).Nodup):((zin ks k).map (·.1)).Nodup:=nd.sublist (List.filter_sublist.map _)
theorem zlG {ks:Mk2} {k s:Int} (nd:(ks.map (·.1)).Nodup):((nxt ks k s).map (·.1)).Nodup:=by
 unfold nxt;split
 ·exact zj3 nd
 ·exact zdJ nd
theorem zgR (ks:Mk2) (k s:Int):(zfy ks k s).length<=ks.length+1:=by
 unfold zfy;split
 ·rw [zrY];omega
 ·rw [zr8];exact zse _
theorem zdn (ks:Mk2) (k s:Int):(nxt ks k s).length<=ks.length+1:=by
 unfold nxt;split
 ·exact zsd (List.length_filter_le _ _) (Nat.le_succ _)
 ·exact zgR ks k s
theorem zi5 {α:Type} {R:α->α->Prop} (as:∀ a b,R a b->¬ R b a):∀ {l m:List α},l.Perm m->l.Pairwise R->m.Pairwise R->l=m
 | [],m,p,_,_=>by rw [p.nil_eq]
 | a::l,[],p,_,_=>by have:=p.length_eq;simp at this
 | a::l,b::m,p,hl,hm=>by
  rw [List.pairwise_cons] at hl hm;have e:a=b:=by
   apply Classical.byContradiction
   intro ne;have h1:a∈m:=by
    rcases zsF.1 (p.mem_iff.1 (zsw)) with z | z
    ·exact (ne z).elim
    ·exact z
   have h2:b∈l:=by
    rcases zsF.1 (p.mem_iff.2 (zsw)) with z | z
    ·exact (ne z.symm).elim
    ·exact z
   exact as _ _ (hl.1 b h2) (hm.1 a h1)
  subst e;rw [zi5 as (List.Perm.cons_inv p) hl.2 hm.2]
abbrev Srt (ks:Mk2):Prop:=(ks.map (·.1)).Pairwise (·<·)
theorem zoa {ks js:Mk2} (p:ks.Perm js) (h1:Srt ks) (h2:Srt js):ks=js :=
 zi5 (R:=fun a b:Int × Int=>a.1<b.1) (fun a b h h'=>by omega) p (List.pairwise_map.1 h1) (List.pairwise_map.1 h2)
theorem zdR {ks:Mk2} (h:Srt ks):(ks.map (·.1)).Nodup:=h.imp fun z e=>by omega
theorem zih {ps:List (Int × V)} {ks:Mk2} (p:ps.Perm (iv ks)) (h:(ps.map (·.1)).Pairwise (·<·)):∃ js:Mk2,ps=iv js/\js.Perm ks/\Srt js:=by
 let g:Int × V->Int × Int:=fun q=>(q.1,match q.2 with | .int i=>i | _=>0)
 have e:ps=iv (ps.map g):=by
  show ps=List.map _ (List.map g ps);rw [zsp]
  conv=>lhs;rw [← List.map_id ps]
  refine zsL fun q hq=>?_
  obtain⟨r,_,rfl⟩:=zsg.1 (p.mem_iff.1 hq)
  rfl
 refine⟨ps.map g,e,?_,?_⟩
 ·have:=p.map g
  rw [zsp] at this;have e2:ks.map (g ∘ fun q=>(q.1,V.int q.2))=ks:=by
   conv=>rhs;rw [← List.map_id ks]
   exact zsL fun q _=>rfl
  rw [e2] at this;exact this
 ·show ((ps.map g).map (·.1)).Pairwise _
  rw [zsp];exact h
section
variable {H H':Hp} {l t:Addr} {ks:Mk2} {r p:Int}
def zec (H:Hp) (l:Addr) (ks:Mk2):Prop:=∃ as:List Addr,H l=some (.lst (as.map V.ref))/\za6 (fun b q=>H b=some (tI q)) as (iv ks)
def SU (H:Hp) (t:Addr) (r p:Int) (ks:Mk2):Prop:=∃ l,H t=some (.tup [.int r,.int p,.ref l])/\zec H l ks
theorem zec.sub (S:Sub H H'):zec H l ks->zec H' l ks:=fun ⟨as,h1,h2⟩=>⟨as,S _ _ h1,h2.mono fun _ _ _ z=>S _ _ z⟩
theorem SU.sub (S:Sub H H'):SU H t r p ks->SU H' t r p ks:=fun ⟨l,h1,h2⟩=>⟨l,S _ _ h1,h2.sub S⟩
theorem zec.stay (S:zfP H H'):zec H l ks->zec H' l ks:=fun ⟨as,h1,h2⟩=>⟨as,S.refs _ _ h1,h2.mono fun _ _ _ z=>S.tup _ _ z⟩
abbrev dP (q:Int × Int):DD:=.tup [.int q.1,.int q.2]
abbrev dL (ks:Mk2):DD:=.lst (ks.map dP)
abbrev dSu (r p:Int) (ks:Mk2):DD:=.tup [.int r,.int p,dL ks]
theorem zec.den:zec H l ks->Den H (.ref l) (dL ks):=fun ⟨as,h1,h2⟩=>by
 rw [dL,Den];refine⟨_,_,rfl,h1,zfo (R:=fun b q=>H b=some (tI (q.1,V.int q.2))) (f:=dP) (fun a q z=>?_) ⟨by rw [h2.1,zrY],fun i a q ha hq=>h2.2 i a _ ha (by rw [zrZ,hq];rfl)⟩⟩;rw [dP,Den];refine⟨_,_,rfl,z,?_⟩;rw [zcy];refine⟨_,_,rfl,by rw [Den],?_⟩;rw [zcy];exact⟨_,_,rfl,by rw [Den],by rw [zcy]⟩
theorem SU.den:SU H t r p ks->Den H (.ref t) (dSu r p ks):=fun ⟨l,h1,h2⟩=>by
 rw [dSu,Den];refine⟨_,_,rfl,h1,?_⟩;rw [zcy];refine⟨_,_,rfl,by rw [Den],?_⟩;rw [zcy];refine⟨_,_,rfl,by rw [Den],?_⟩;rw [zcy];exact⟨_,_,rfl,h2.den,by rw [zcy]⟩
end
def zmk (m:Ma) (s:Nat) (r:List En):Bool:=r.all (zaM m.length s)
theorem zmK {r0:List En} {m':Ma} (h:isM (r0::m')=true):(r0::m').length<=4/\2<=r0.length/\r0.length<=4/\∀ r∈r0::m',r.length=r0.length/\zmk (r0::m') r0.length r=true:=by
 have hd:isM (r0::m')=(decide ((r0::m').length<=4) && decide (2<=r0.length) && decide (r0.length<=4) && (r0::m').all (zfA (r0::m').length r0.length)):=rfl;rw [hd,Bool.and_eq_true,Bool.and_eq_true,Bool.and_eq_true] at h;obtain⟨⟨⟨h1,h2⟩,h3⟩,h4⟩:=h;refine⟨zsH h1,zsH h2,zsH h3,fun r hr=>?_⟩
 have:=zsn.1 h4 r hr
 unfold zfA at this;rw [Bool.and_eq_true] at this;exact⟨by have:=zsH this.1;omega,this.2⟩
theorem zp7 {r0:List En} {m':Ma} (h1:(r0::m').length<=4) (h2:2<=r0.length) (h3:r0.length<=4) (h4:∀ r∈r0::m',r.length=r0.length/\zmk (r0::m') r0.length r=true):isM (r0::m')=true:=by
 have hd:isM (r0::m')=(decide ((r0::m').length<=4) && decide (2<=r0.length) && decide (r0.length<=4) && (r0::m').all (zfA (r0::m').length r0.length)):=rfl;rw [hd,zr4 h1,zr4 h2,zr4 h3];refine zsn.2 fun r hr=>?_
 unfold zfA;rw [(h4 r hr).1]
 have:=(h4 r hr).2
 unfold zmk at this;rw [this];simp
def sgn (m:Ma):Nat:=(m.headD []).length
structure OkM (m:Ma):Prop where
 n1:1<=m.length
 n4:m.length<=4
 s2:2<=sgn m
 s4:sgn m<=4
 len:∀ r∈m,r.length=sgn m
 ent:∀ r∈m,∀ e∈r,zaM m.length (sgn m) e=true
theorem OkM.of {m:Ma} (h:isM m=true):OkM m:=by
 cases m with
 | nil=>cases h
 | cons r0 m' =>
  obtain⟨h1,h2,h3,h4⟩:=zmK h;exact⟨by simp,h1,h2,h3,fun r hr=>(h4 r hr).1,fun r hr e he=>zsn.1 (h4 r hr).2 e he⟩
theorem zaD {rows signs:Int} {e:En} (h:zaM rows signs e=true) (ne:e≠[]):∃ s w r,e=[s,w,r]/\0<=s/\s<signs/\(w=-1\/w=1)/\0<=r/\r<rows:=by
 match e,h with
 | [],_=>exact (ne rfl).elim
 | [s,w,r],h =>
  have h:((decide (0<=s) && decide (s<signs)) && (decide (w=-1) || decide (w=1)) && (decide (0<=r) && decide (r<rows)))=true:=h;simp only [Bool.and_eq_true,Bool.or_eq_true,decide_eq_true_eq] at h;obtain⟨⟨⟨a,b⟩,c⟩,d,e⟩:=h;exact⟨s,w,r,rfl,a,b,c,d,e⟩
 | [_],h=>cases h
 | [_,_],h=>cases h
 | _::_::_::_::_,h=>cases h
def ent (m:Ma) (r p:Int) (ks:Mk2):Option En:=(m[r.toNat]?).bind fun es=>es[((zcd ks p).getD 0).toNat]?
structure OkS (m:Ma) (r:Int) (ks:Mk2):Prop where
 r0:0<=r
 r1:r<m.length
 sg:∀ q∈ks,0<=q.2/\q.2<sgn m
 nd:(ks.map (·.1)).Nodup
theorem zqG {ks:Mk2} {k s:Int} (h:zcd ks k=some s):∃ q∈ks,q.2=s:=by
 unfold zcd at h;obtain⟨q,hq,rfl⟩:=zr1.1 h;exact⟨q,List.mem_of_find?_eq_some hq,rfl⟩
theorem OkS.val {m:Ma} {r:Int} {ks:Mk2} (M:OkM m) (h:OkS m r ks) (p:Int):0<=(zcd ks p).getD 0/\(zcd ks p).getD 0<sgn m:=by
 cases e:zcd ks p with
 | none=>have:=M.s2;simp;omega
 | some s =>
  obtain⟨q,hq,rfl⟩:=zqG e;exact h.sg q hq
theorem OkS.at {m:Ma} {r:Int} {ks:Mk2} (M:OkM m) (h:OkS m r ks) (p:Int):∃ es e,m[r.toNat]?=some es/\es[((zcd ks p).getD 0).toNat]?=some e/\ent m r p ks=some e/\zaM m.length (sgn m) e=true/\es.length=sgn m:=by
 have hr:r.toNat<m.length:=by have:=h.r0;have:=h.r1;omega
 have he:m[r.toNat]?=some m[r.toNat]:=zr0 hr;have hm:m[r.toNat]∈m:=List.getElem_mem hr;have hl:=M.len _ hm;have hv:=h.val M p;have hs:((zcd ks p).getD 0).toNat<m[r.toNat].length:=by rw [hl];omega
 refine⟨_,_,he,zr0 hs,?_,M.ent _ hm _ (List.getElem_mem hs),hl⟩;unfold ent;rw [he,Option.bind_some,zr0 hs]
theorem OkS.nxt {m:Ma} {r r' p s:Int} {ks:Mk2} (h:OkS m r ks) (h0:0<=s) (h1:s<sgn m) (h2:0<=r') (h3:r'<m.length):OkS m r' (nxt ks p s) :=
 ⟨h2,h3,fun q hq=>by
  unfold L2.nxt at hq;split at hq
  ·exact h.sg q (zmO hq)
  ·rcases zoQ hq with rfl | hq
   ·exact⟨h0,h1⟩
   ·exact h.sg q hq,zlG h.nd⟩
def wf (t:Addr) (r p:Int) (d:Addr):List (Str × V):=[("table",.ref t),("row",.int r),("place",.int p),("marks",.ref d)]
theorem zqQ (t:Addr) (r p:Int) (d:Addr):zde "marks" (.ref d) (zde "place" (.int p) (zde "row" (.int r) (zde "table" (.ref t) [])))=wf t r p d:=by
 have a1:¬ (("table":Str)="row"):=by decide +kernel
 have a2:¬ (("table":Str)="place"):=by decide +kernel
 have a3:¬ (("table":Str)="marks"):=by decide +kernel
 have a4:¬ (("row":Str)="place"):=by decide +kernel
 have a5:¬ (("row":Str)="marks"):=by decide +kernel
 have a6:¬ (("place":Str)="marks"):=by decide +kernel
 simp only [zde,a1,a2,a3,a4,a5,a6,if_false,wf]
theorem zpN (t:Addr) (r p y:Int) (d:Addr):zde "row" (.int y) (wf t r p d)=wf t y p d:=by
 have a1:¬ (("table":Str)="row"):=by decide +kernel
 simp only [wf,zde,a1,if_false,if_true]
theorem zms (t:Addr) (r p y:Int) (d:Addr):zde "place" (.int y) (wf t r p d)=wf t r y d:=by
 have a2:¬ (("table":Str)="place"):=by decide +kernel
 have a4:¬ (("row":Str)="place"):=by decide +kernel
 simp only [wf,zde,a2,a4,if_false,if_true]
theorem zq8 (t:Addr) (r p:Int) (d:Addr):(wf t r p d).lookup ("table":Str)=some (.ref t):=rfl
theorem zpX (t:Addr) (r p:Int) (d:Addr):(wf t r p d).lookup ("row":Str)=some (.int r):=rfl
theorem zgV (t:Addr) (r p:Int) (d:Addr):(wf t r p d).lookup ("place":Str)=some (.int p):=rfl
theorem zmN (t:Addr) (r p:Int) (d:Addr):(wf t r p d).lookup ("marks":Str)=some (.ref d):=rfl
theorem znH (t:Addr) (r p:Int) (d:Addr):(wf t r p d).length<1000:=by show 4<1000;decide
structure WK (C:Addr) (H:Hp) (o t d:Addr) (r p:Int) (ks:Mk2):Prop where
 ob:∃ dx,H o=some (.ins C dx (wf t r p d))
 dc:H d=some (.dK (dcI (iv ks)))
theorem WK.sub {C:Addr} {H H':Hp} {o t d:Addr} {r p:Int} {ks:Mk2} (S:Sub H H') (h:WK C H o t d r p ks):WK C H' o t d r p ks:=⟨h.ob.imp fun _ z=>S _ _ z,S _ _ h.dc⟩
theorem zoG {ks:Mk2} {k s:Int} (h:k ∉ ks.map (·.1)):zfy ks k s=ks++[(k,s)]:=by
 unfold zfy;rw [zsA];rw [List.any_eq_true];rintro ⟨q,hq,e⟩;exact h (zsg.2 ⟨q,hq,zsH e⟩)
theorem zm1 {ks:Mk2} (nd:(ks.map (·.1)).Nodup) {i:Nat} {q:Int × Int} (h:ks[i]?=some q):zfy (ks.take i) q.1 q.2=ks.take (i+1):=by
 rw [zoG,zsk,h]
 ·rfl
 ·intro hm;rw [List.map_take] at hm;obtain⟨j,hj⟩:=List.mem_iff_getElem?.1 hm;rw [List.getElem?_take] at hj;split at hj
  ·rename_i hji;have e2:(ks.map (·.1))[i]?=some q.1:=by rw [zrZ,h];rfl
   obtain⟨a1,a2⟩:=zr2.1 hj;obtain⟨b1,b2⟩:=zr2.1 e2
   have:=(List.getElem_inj nd).1 (a2.trans b2.symm)
   omega
  ·cases hj
theorem zcU (e:En):dep (dE e)<=60:=zsd znt (by decide)
theorem ze3 {e:En}:eqD (dE e) (dE [])=decide (e=[]):=by
 cases e with
 | nil=>rw [zc2];simp
 | cons x e=>show eqD (.tup (.int x::e.map DD.int)) (.tup [])=_;rw [eqD];simp [zhK]
abbrev St3:=Int × Int × Mk2
theorem zgL {c:Prop} [Decidable c] {p q:Prop} (hc:c) (h:p):if decide c=true then p else q:=by rw [zsB (zr4 hc)];exact h
theorem zgo {c:Prop} [Decidable c] {p q:Prop} (hc:¬ c) (h:q):if decide c=true then p else q:=by rw [zsA (by simpa using hc)];exact h
end L2
end
section
namespace L2
open PySem PySem.Spec PyProof.Rows PySem.W
section
variable {X:Cx} {pos:Pos}
def zre (te:TE) (g1 g2:TG):TS:=fun D σ H=>te σ H fun x H1=>g1 x σ H1 fun σ1 H2=>g2 x σ1 H2 D.nx
theorem zgI {t1 t2 e:Expr} {te:TE} {g1 g2:TG} (he:PE X e te) (h1:PG X t1 g1) (h2:PG X t2 g2) (ha:(assignEach [t1,t2] X.env).map (·.2)=[assign t1 X.env,assign t2 X.env]:=by rfl) (hw:swappedStores [t1,t2] e X.env=pure none:=by rfl) :
  PS X (.Assign [t1,t2] e pos) (zre te g1 g2):=by
 intro pins s σ H D I h;refine wpAny_Assign_two (thn (he pins s σ H _ I h) fun v s1 ⟨x,H1,I1,r1,q1⟩=>?_) ha hw;refine thn (h1 pins s1 σ H1 x v _ I1 r1 q1) fun _ s2 ⟨σ2,H2,I2,q2⟩=>?_
 exact thn (h2 pins s2 σ2 H2 x v _ I2 r1 q2) fun _ s3 q=>q
def zp8:List V->Hp->VK->Prop:=fun xs H Q=>match xs with | [.int i,.int j]=>∀ m,m=(if j<i then j else i)->Q (.int m) H | _=>False
def zpc:List V->Hp->VK->Prop:=fun xs H Q=>match xs with | [.int i,.int j]=>∀ m,m=(if i<j then j else i)->Q (.int m) H | _=>False
theorem zjl (hc:X.calm=true):za9 X (.builtin "min") zp8:=(zkz hc).imp fun xs H Q h=>by
 unfold zp8 at h;split at h
 ·exact⟨_,_,rfl,h _ rfl⟩
 ·exact h.elim
theorem zkW (hc:X.calm=true):za9 X (.builtin "max") zpc:=(zlC hc).imp fun xs H Q h=>by
 unfold zpc at h;split at h
 ·exact⟨_,_,rfl,h _ rfl⟩
 ·exact h.elim
end
def stN (m:Ma) (x:St3):Option St3:=match ent m x.1 x.2.1 x.2.2 with
 | some [s,w,r]=>some (r,x.2.1+w,nxt x.2.2 x.2.1 s)
 | _=>none
def tr (m:Ma):Nat->St3->List St3
 | 0,x=>[x]
 | k+1,x=>x::(match stN m x with | some y=>tr m k y | none=>[])
theorem ziA {m:Ma} {k:Nat} {x y:St3} (h:stN m x=some y):tr m (k+1) x=x::tr m k y:=by show x::_=_;rw [h]
theorem ziq {m:Ma} {k:Nat} {x:St3} (h:stN m x=none):tr m k x=[x]:=by
 cases k with
 | zero=>rfl
 | succ k=>show x::_=_;rw [h]
theorem zfj (m:Ma):∀ (k:Nat) (x:St3),(tr m k x).length<=k+1
 | 0,x=>zse _
 | k+1,x=>by
  cases h:stN m x with
  | none=>rw [ziq h];simp
  | some y=>rw [ziA h,zsz];have:=zfj m k y;omega
theorem zrJ (m:Ma) (k:Nat) (x:St3):tr m k x≠[]:=by
 cases k with
 | zero=>simp [tr]
 | succ k=>simp [tr]
structure At (m:Ma) (N:Nat) (x0:St3) (sts:List St3) (x:St3):Prop where
 pre:∃ l,sts=l++[x]/\l.length<=N/\tr m N x0=l++tr m (N-l.length) x
theorem At.start {m:Ma} {N:Nat} {x0:St3}:At m N x0 [x0] x0:=⟨[],rfl,Nat.zero_le _,rfl⟩
theorem At.step {m:Ma} {N:Nat} {x0 x y:St3} {sts:List St3} (h:At m N x0 sts x) (hs:stN m x=some y) (hl:sts.length<=N):At m N x0 (sts++[y]) y:=by
 obtain⟨l,rfl,h1,h2⟩:=h.pre;rw [zr8] at hl;have hl:l.length+1<=N:=hl;refine⟨l++[x],rfl,by rw [zr8];exact hl,?_⟩;rw [h2,show N-l.length=(N-(l.length+1))+1 by omega,ziA hs,zr8];simp
theorem At.done {m:Ma} {N:Nat} {x0 x:St3} {sts:List St3} (h:At m N x0 sts x) (hs:stN m x=none\/N<sts.length):sts=tr m N x0:=by
 obtain⟨l,rfl,h1,h2⟩:=h.pre;rcases hs with hs | hs
 ·rw [h2,ziq hs]
 ·rw [zr8] at hs;have hs:N<l.length+1:=hs;rw [h2,show N-l.length=0 by omega]
  rfl
theorem At.len {m:Ma} {N:Nat} {x0 x:St3} {sts:List St3} (h:At m N x0 sts x):sts.length<=N+1/\1<=sts.length:=by
 obtain⟨l,rfl,h1,h2⟩:=h.pre;rw [zr8];exact⟨Nat.succ_le_succ h1,by simp⟩
theorem zhp {m:Ma} {x:St3} {s w r:Int} (h:ent m x.1 x.2.1 x.2.2=some [s,w,r]):stN m x=some (r,x.2.1+w,nxt x.2.2 x.2.1 s):=by unfold stN;rw [h]
theorem zhe {m:Ma} {x:St3} (h:ent m x.1 x.2.1 x.2.2=some []):stN m x=none:=by unfold stN;rw [h]
abbrev dT (x:St3):DD:=dSu x.1 x.2.1 x.2.2
theorem zl5 {xs:List St3}:dep (.lst (xs.map dT))<=60:=by
 have h:∀ x:St3,dep (dT x)<=4:=fun x=>by
  have h1:∀ q,dep (dP q)<=1:=fun q=>by
   rw [dP,dep]
   have:depL [DD.int q.1,DD.int q.2]<=0:=zbt fun d hd=>by
    rcases zsF.1 hd with rfl | hd
    ·exact zse 0
    ·rw [zr7.1 hd];exact zse 0
   omega
  have h2:dep (dL x.2.2)<=2:=by
   rw [dL,dep]
   have:depL (x.2.2.map dP)<=1:=zbt fun d hd=>by
    obtain⟨q,_,rfl⟩:=zsg.1 hd;exact h1 q
   omega
  rw [dT,dSu,dep]
  have:depL [DD.int x.1,DD.int x.2.1,dL x.2.2]<=2:=zbt fun d hd=>by
   rcases zsF.1 hd with rfl | hd
   ·exact Nat.zero_le _
   ·rcases zsF.1 hd with rfl | hd
    ·exact Nat.zero_le _
    ·rw [zr7.1 hd];exact h2
  omega
 rw [dep]
 have:depL (xs.map dT)<=4:=zbt fun d hd=>by
  obtain⟨x,_,rfl⟩:=zsg.1 hd;exact h x
 omega
def zlU (ys xs:List St3):Prop:=ys.length=xs.length/\∀ (i:Nat) (y x:St3),ys[i]?=some y->xs[i]?=some x->y.1=x.1/\y.2.1=x.2.1/\y.2.2.Perm x.2.2/\Srt y.2.2
theorem zlU.nil:zlU [] []:=⟨rfl,fun i y x h=>by simp at h⟩
theorem zlU.app {ys xs:List St3} {y x:St3} (h:zlU ys xs) (h1:y.1=x.1) (h2:y.2.1=x.2.1) (h3:y.2.2.Perm x.2.2) (h4:Srt y.2.2):zlU (ys++[y]) (xs++[x]):=by
 refine⟨by simp [h.1],fun i u v hu hv=>?_⟩;by_cases hi:i<ys.length
 ·rw [zss hi] at hu;rw [zss (h.1 ▸ hi)] at hv;exact h.2 i u v hu hv
 ·have e:i=ys.length:=by
   have:=(zr2.1 hu).1
   simp at this;omega
  subst e;rw [zst (zse _),Nat.sub_self] at hu;rw [h.1,zst (zse _),Nat.sub_self] at hv;cases hu;cases hv;exact⟨h1,h2,h3,h4⟩
theorem ziK {m:Ma}:∀ (k:Nat) (x y:St3),y∈tr m k x->y.2.2.length<=x.2.2.length+k
 | 0,x,y,h=>by rw [zr7.1 h];omega
 | k+1,x,y,h=>by
  cases hs:stN m x with
  | none=>rw [ziq hs] at h;rw [zr7.1 h];omega
  | some z =>
   rw [ziA hs] at h;rcases zsF.1 h with rfl | h
   ·omega
   ·have h1:=ziK k z y h;have h2:z.2.2.length<=x.2.2.length+1:=by
     unfold stN at hs;split at hs
     ·cases hs;exact zdn _ _ _
     ·cases hs
    omega
def SZ (H:Hp) (q:Addr) (z:Addr × St3):Prop:=H q=some (.tup [.int z.2.1,.int z.2.2.1,.ref z.1])/\zec H z.1 z.2.2.2
theorem SZ.sub {H H':Hp} {q:Addr} {z:Addr × St3} (S:Sub H H') (h:SZ H q z):SZ H' q z:=⟨S _ _ h.1,h.2.sub S⟩
theorem SZ.den {H:Hp} {q:Addr} {z:Addr × St3} (h:SZ H q z):Den H (.ref q) (dT z.2):=SU.den ⟨z.1,h.1,h.2⟩
theorem SZ.lst {H:Hp} {q f:Addr} {z:Addr × St3} {us vs:List V} (hf:H f=some (.lst us)) (ne:z.1≠f) (h:SZ H q z):SZ (upd H f (.lst vs)) q z:=by
 obtain⟨h1,as,h2,h3⟩:=h;refine⟨by rw [zao (fun e=>by rw [e,hf] at h1;cases h1)];exact h1,as,by rw [zao ne];exact h2,h3.mono fun b q _ e=>?_⟩;rw [zao (fun e'=>by rw [e',hf] at e;cases e)];exact e
def IsLo (lo:Int) (ns:List Int):Prop:=lo∈ns/\∀ n∈ns,lo<=n
def IsHi (hi:Int) (ns:List Int):Prop:=hi∈ns/\∀ n∈ns,n<=hi
theorem zfP.two {C:Addr} {H H':Hp} {o t d:Addr} {r p:Int} {ks:Mk2} (W:WK C H o t d r p ks) (k:∀ c u,H c=some u->c≠o->c≠d->H' c=some u):zfP H H':=by
 obtain⟨⟨dx,ho⟩,hd⟩:=W;exact⟨fun a xs e=>k a _ e (fun z=>by rw [z,ho] at e;cases e) (fun z=>by rw [z,hd] at e;cases e),fun a as e=>k a _ e (fun z=>by rw [z,ho] at e;cases e) (fun z=>by rw [z,hd] at e;cases e)⟩
theorem SZ.stay {H H':Hp} {q:Addr} {z:Addr × St3} (S:zfP H H') (h:SZ H q z):SZ H' q z:=⟨S.tup _ _ h.1,h.2.stay S⟩
theorem za6.monoM {α:Type} {R S:Addr->α->Prop} {as:List Addr} {xs:List α} (h:za6 R as xs) (i:∀ a x,a∈as->x∈xs->R a x->S a x):za6 S as xs:=⟨h.1,fun k a x ha hx=>i a x (zr3 ha) (zr3 hx) (h.2 k a x ha hx)⟩
theorem At.last {m:Ma} {N:Nat} {x0 x:St3} {sts:List St3} (h:At m N x0 sts x):sts.getLast?=some x:=by
 obtain⟨l,rfl,_⟩:=h.pre;simp
def wd (m:Ma) (x:St3):Str:=if ent m x.1 x.2.1 x.2.2=some [] then "ends" else "on"
def RU (H:Hp) (q:Addr) (w:Str) (n:Int) (z:Addr × St3):Prop:=∃ s,H q=some (.tup [.str w,.int n,.ref s])/\SZ H s z
end L2
end
section
namespace L2
open PySem PySem.Spec PyProof.Rows PySem.W
section
variable {X:Cx}
end
end L2
end
section
namespace L2
open PySem PySem.Spec PyProof.Rows PySem.W
theorem zoA {ks:Mk2} (nd:(ks.map (·.1)).Nodup) {k s:Int}:zcd ks k=some s↔(k,s)∈ks:=by
 induction ks with
 | nil=>simp [zcd]
 | cons q ks ih =>
  rw [zsq,List.nodup_cons] at nd;have ih:=ih nd.2;unfold zcd at ih ⊢;by_cases e:q.1=k
  ·rw [List.find?_cons_of_pos (by simpa using e),Option.map_some,zsF]
   constructor
   ·intro h;cases h;exact .inl (Prod.ext e.symm rfl)
   ·rintro (h | h)
    ·rw [← h]
    ·exact (nd.1 (zsg.2 ⟨_,h,e.symm⟩)).elim
  ·rw [List.find?_cons_of_neg (by simpa using e),ih,zsF]
   constructor
   ·exact .inr
   ·rintro (h | h)
    ·rw [← h] at e;exact (e rfl).elim
    ·exact h
section
variable {X:Cx} {K:PySem.W.Frag}
def znT (K:PySem.W.Frag):List V->Hp->VK->Prop:=fun xs H Q=>match xs with | [.ref a]=>∃ ys,SqL K H a ys/\∀ p,H p=none->Q (.ref p) (upd H p (.tup ys)) | _=>False
theorem zqg:za9 X (.type "tuple") (znT X.K):=zgM.imp fun xs H Q h=>by
 unfold znT at h;split at h
 ·obtain⟨ys,h1,h2⟩:=h;exact⟨_,ys,rfl,.inl ⟨h1,h2⟩⟩
 ·exact h.elim
theorem zkm (hK:X.K=K):za9 X (.type "tuple") (znT K):=hK ▸ zqg
end
theorem zlU.at {ys xs:List St3} (h:zlU ys xs) {i:Nat} {y:St3} (hy:ys[i]?=some y):∃ x,xs[i]?=some x/\y.1=x.1/\y.2.1=x.2.1/\y.2.2.Perm x.2.2/\Srt y.2.2:=by
 have hi:i<xs.length:=by rw [← h.1];exact (zr2.1 hy).1
 exact⟨xs[i],zr0 hi,h.2 i _ _ hy (zr0 hi)⟩
end L2
end
section
namespace L2
open PySem PySem.Spec PyProof.Rows PySem.W
section
variable {X:Cx}
def zrd (ta:TA):TI:=fun σ H R=>ta σ H fun vs H1=>match vs with | [.int i,.int j]=>(-(2 ^ 62)<=i/\i<2 ^ 62/\-(2 ^ 62)<=j/\j<2 ^ 62)/\R (Itr i (j-i).toNat) H1 | _=>False
theorem zeO {tg a b:Expr} {ta:TA} {p pos:Pos} (hg:Gl X "range") (hm:X.mg "range"=none) (ha:PA X [a,b] ta) (hs:starEach [a,b] X.env=[(false,eval a X.env),(false,eval b X.env)]:=by rfl) (hs2:starEach [b] X.env=[(false,eval b X.env)]:=by rfl) :
  PI X tg (.Call (.Name "range" p) [a,b] [] pos) (zrd ta):=by
 intro pins s σ H R I h;have step:∀ (vs:List V) (us:List Value) (H1:Hp) (s1:Shared),Inv X pins σ H1 s1->zaV vs us->(match vs with | [.int i,.int j]=>(-(2 ^ 62)<=i/\i<2 ^ 62/\-(2 ^ 62)<=j/\j<2 ^ 62)/\R (Itr i (j-i).toNat) H1 | _=>False)->∃ (i j:Int) (t t':Tok),us=[.int i t,.int j t']/\(-(2 ^ 62)<=i/\i<2 ^ 62/\-(2 ^ 62)<=j/\j<2 ^ 62)/\R (Itr i (j-i).toNat) H1:=by
  intro vs us H1 s1 I1 r1 q1;split at q1
  ·cases r1 with
   | cons r rr=>cases rr with
    | cons r' rr =>
     cases rr;obtain⟨t,rfl⟩:=r;obtain⟨t',rfl⟩:=r';exact⟨_,_,t,t',rfl,q1⟩
  ·exact q1.elim
 refine Call_ (zf3 I hg hm boot_range (PyProof.Rows.callWith_type1 (thn (ha pos pins s σ H _ I h) fun us s1 ⟨vs,H1,I1,r1,q1⟩=>?_) (by rw [hs,hs2]) (by rw [hs2];rfl)));obtain⟨i,j,t,t',rfl,⟨q1,q2,q3,q4⟩,q⟩:=step vs us H1 s1 I1 r1 q1;exact call_range_2 (zjk I1 q1 q2 q3 q4 q)
end
section
variable {X:Cx} {pins:List (Addr × Obj)} {σ:St} {H:Hp} {s:Shared}
open PySem.SeqAt
end
theorem zg5:∀ e e':List Int,zhK (e.map DD.int) (e'.map DD.int)=decide (e=e')
 | [],[]=>rfl
 | [],_::_=>rfl
 | _::_,[]=>rfl
 | i::e,j::e'=>by
  show (i == j && zhK (e.map DD.int) (e'.map DD.int))=_;rw [zg5 e e'];by_cases c:i=j
  ·subst c;by_cases d:e=e' <;> simp [d]
  ·simp [c]
theorem zpp {e e':En}:eqD (dE e) (dE e')=decide (e=e'):=zg5 e e'
abbrev en3 (m:Ma) (x:St3):Option En:=ent m x.1 x.2.1 x.2.2
def pf (m m':Ma):Nat->Int->St3->Option Int
 | 0,_,_=>none
 | k+1,i,x=>if en3 m x=en3 m' x then (match stN m x with | none=>none | some y=>pf m m' k (i+1) y) else some i
theorem zkY (m:Ma) (k:Nat) (x:St3):∃ l,tr m k x=x::l:=by
 cases k with
 | zero=>exact⟨[],rfl⟩
 | succ k=>exact⟨_,rfl⟩
end L2
end
section
namespace L2
open PySem PySem.Spec PyProof.Rows PySem.W
section
variable {X:Cx}
end
theorem zmq:∀ n:Nat,n<1001->(Str.ofString (toString ((n:Nat):Int))).length<=4:=by decide +kernel
theorem zlF {i:Int} (h0:0<=i) (h1:i<=1000):(Str.ofString (toString i)).length<=4:=by
 obtain⟨n,rfl⟩:=Int.eq_ofNat_of_zero_le h0;exact zmq n (by omega)
section
variable {X:Cx}
end
section
variable {X:Cx} {K:PySem.W.Frag} {o e:Expr} {es:List Expr} {to:TE} {t:TA} {name:Str} {apos cpos:Pos} {T id:String} {r:V->List V->Hp->VK->Prop}
theorem znl (hK:X.K=K) (h1:PlainAttrs T) (h2:Slot T name id) (h3:typeOf (Value.builtin id)=pure (Value.type "method_descriptor")) (h4:MtR X id r) (h5:PE X o to) (h6:PA X (e::es) t)
  (a1:attributeBase o name X.env (eval o X.env)=eval o X.env:=by rfl)
  (a2:((((backTo cpos (starEach (e::es) X.env)).all fun x=>!x.fst) && (backToKw cpos (keywordEach [] X.env)).all fun x=>x.fst.isSome) && decide ((e::es).length+([]:List Keyword).length+(if ([]:List Keyword).isEmpty then 0 else 1)<30))=true:=by rfl)
  (a3:(apos.endLine == cpos.line)=true:=by rfl) (a4:starEach (e::es) X.env=(false,eval e X.env)::starEach es X.env:=by rfl) (a5:((backTo cpos (starEach es X.env)).any fun x=>x.fst)=false:=by rfl) :
  PE X ((o.Attribute name apos).Call (e::es) [] cpos) (tBM K T r to t):=hK ▸ zhR h1 h2 h3 h4 h5 h6 a1 a2 a3 a4 a5
end
section
variable {X:Cx} {e e1 e2 e3:Expr} {te t1 t2 t3:TE} {pos:Pos}
def tFv (te:TE):TE:=fun σ H Q=>te σ H fun x H1=>match x with
 | .int i=>i.natAbs.log2<1920/\Q (.str (toString i)) H1
 | .str z=>z.length<=sizeLine/\Q (.str z) H1
 | _=>False
theorem znQ (h:PE X e te):PE X (.FormattedValue e (-1) none pos) (tFv te):=by
 intro pins s σ H Q I hw;refine wpAny_FormattedValue_plain (thn (h pins s σ H _ I hw) fun v s1 ⟨x,H1,I1,r1,q1⟩=>?_);cases x with
 | int i =>
  obtain⟨t,rfl⟩:=r1;exact wpAny_formatField_int q1.1 ⟨.str _,H1,I1.tok _,⟨_,rfl⟩,q1.2⟩
 | str z =>
  obtain⟨t,rfl⟩:=r1;exact wpAny_formatField_str ⟨.str _,H1,I1,⟨_,rfl⟩,q1.2⟩ ⟨.str _,H1,I1.tok _,⟨_,rfl⟩,q1.2⟩ q1.1
 | _=>exact q1.elim
def tF3 (t1 t2 t3:TE):TE:=fun σ H Q=>t1 σ H fun x1 H1=>match x1 with
 | .str a=>a.length<=1000/\t2 σ H1 fun x2 H2=>(match x2 with
  | .str b=>b.length<=1000/\t3 σ H2 fun x3 H3=>(match x3 with
   | .str c=>c.length<=1000/\Q (.str (a++b++c)) H3
   | _=>False)
  | _=>False)
 | _=>False
theorem zk7 (a:Str):Str.empty++a=a:=by
 cases a;show Str.mk (#[]++_)=_;simp
theorem zdr (a b:Str):(a++b).length=a.length+b.length:=by
 cases a;cases b;show (Array.size (_++_))=_;rw [Array.size_append]
 rfl
theorem zrm (h1:PE X e1 t1) (h2:PE X e2 t2) (h3:PE X e3 t3):PE X (.JoinedStr [e1,e2,e3] pos) (tF3 t1 t2 t3):=by
 intro pins s σ H Q I hw;refine wpAny_JoinedStr ?_;rw [show evalEach [e1,e2,e3] X.env=[eval e1 X.env,eval e2 X.env,eval e3 X.env] from rfl,Joins.eq_2];refine thn (h1 pins s σ H _ I hw) fun v1 s1 ⟨x1,H1,I1,r1,q1⟩=>?_
 cases x1 with
 | str a =>
  obtain⟨u1,rfl⟩:=r1;obtain⟨l1,q1⟩:=q1;have big:3000<=sizeLine:=by decide
  refine⟨a,u1,rfl,by rw [zk7];omega,?_⟩;rw [zk7,Joins.eq_2];refine thn (h2 pins s1 σ H1 _ I1 q1) fun v2 s2 ⟨x2,H2,I2,r2,q2⟩=>?_
  cases x2 with
  | str b =>
   obtain⟨u2,rfl⟩:=r2;obtain⟨l2,q2⟩:=q2;refine⟨b,u2,rfl,by rw [zdr];omega,?_⟩;rw [Joins.eq_2];refine thn (h3 pins s2 σ H2 _ I2 q2) fun v3 s3 ⟨x3,H3,I3,r3,q3⟩=>?_
   cases x3 with
   | str c =>
    obtain⟨u3,rfl⟩:=r3;obtain⟨l3,q3⟩:=q3;refine⟨c,u3,rfl,by rw [zdr,zdr];omega,?_⟩;rw [Joins.eq_1];exact⟨by rw [zdr,zdr];omega,.str _,H3,I3.tok _,⟨_,rfl⟩,q3⟩
   | _=>exact q3.elim
  | _=>exact q2.elim
 | _=>exact q1.elim
def StD (K:PySem.W.Frag) (a:Addr) (ps:List (Int × Str)):Prop:=∃ (o:Obj) (es:Array DictEntry) (ep:Nat),K.lookup a=some o/\o.ExactDict/\o.data=.dict es ep /\
 Paired (fun (p:Int × Str) (e:DictEntry)=>(∃ t,e.key=.int p.1 t)/\(∀ w,e.hash=zqK w (.inl p.1))/\∃ t,e.val=.str p.2 t) ps es.toList/\(ps.map (·.1)).Nodup
theorem zhr {P:Program} {w:World}:∀ {ps:List (Int × Str)} {es:List DictEntry},Paired (fun (p:Int × Str) (e:DictEntry)=>(∃ t,e.key=.int p.1 t)/\(∀ w,e.hash=zqK w (.inl p.1))/\∃ t,e.val=.str p.2 t) ps es ->
  ∃ vs:List (Key × Value),Pairs (zaB P w) es vs/\KV (ps.map fun p=>((Sum.inl p.1:Key),V.str p.2)) vs/\∀ e∈es,∃ k,zez k e.key=true/\e.hash=zqK w k
 | _,_,.nil=>⟨[],.nil,.nil,by simp⟩
 | p::ps,e::es,.cons h t=>by
  obtain⟨vs,h1,h2,h3⟩:=zhr t;obtain⟨⟨t1,k1⟩,k2,t2,k3⟩:=h;refine⟨(.inl p.1,e.val)::vs,.cons (by rw [zfI,k1];exact zdW _ _) rfl h1,.cons ⟨rfl,by rw [k3];exact⟨_,rfl⟩⟩ h2,fun x hx=>?_⟩;rcases zsF.1 hx with rfl | hx
  ·exact⟨.inl p.1,by rw [k1];exact zdW _ _,k2 _⟩
  ·exact h3 x hx
theorem zni:∀ {ks:List (Key × V)} {vs:List (Key × Value)},KV ks vs->vs.map (·.1)=ks.map (·.1)
 | _,_,.nil=>rfl
 | _,_,.cons h t=>by rw [zsq,zsq,h.1,zni t]
theorem StD.of {P:Program} {w:World} {K:PySem.W.Frag} {h:Heap} {a:Addr} {ps:List (Int × Str)} (hK:K.In h) (x:StD K a ps):∃ vs,KV (ps.map fun p=>((Sum.inl p.1:Key),V.str p.2)) vs/\h.DictOf (zaB P w) a vs:=by
 obtain⟨o,es,ep,h1,h2,h3,h4,h5⟩:=x;obtain⟨vs,g1,g2,g3⟩:=zhr (P:=P) (w:=w) h4;refine⟨vs,g2,o,es,ep,hK _ _ h1,h2,h3,fun e he=>g3 e (Array.mem_toList_iff.2 he),g1,?_⟩
 have:vs.map (·.1)=(ps.map fun p=>((Sum.inl p.1:Key),V.str p.2)).map (·.1):=zni g2
 rw [this,zsp];have e:((fun x=>x.1) ∘ fun (p:Int × Str)=>((Sum.inl p.1:Key),V.str p.2))=Sum.inl ∘ (fun p:Int × Str=>p.1):=rfl;rw [e,← zsp];exact h5.map _ fun x y n e=>n (Sum.inl.inj e)
def valS (ps:List (Int × Str)) (k:Int):Option V:=zg2 (ps.map fun p=>((Sum.inl p.1:Key),V.str p.2)) (.inl k)
def zpj (K:PySem.W.Frag) (td ty:TE):TE:=fun σ H Q=>td σ H fun x H1=>ty σ H1 fun y H2=>match x,y with
 | .ref a,.int k=>∃ ps z,StD K a ps/\valS ps k=some (.str z)/\Q (.str z) H2
 | _,_=>False
variable {K:PySem.W.Frag} {o i:Expr} {td ty:TE}
theorem zlX (hK:X.K=K) (ho:PE X o td) (hi:PE X i ty) (hs:zqN i):PE X (.Subscript o i pos) (zpj K td ty):=by
 subst hK;intro pins s σ H Q I h;refine zh7 PySem.F.slot_dict_getitem.lookup hs (thn (ho pins s σ H _ I h) fun u s1 ⟨x,H1,I1,rx,q1⟩=>thn (hi pins s1 σ H1 _ I1 q1) fun iv s2 ⟨y,H2,I2,ry,q2⟩=>?_);obtain⟨a,k,rfl,rfl,ps,z,hd,hv,q⟩:∃ a k,x=.ref a/\y=.int k/\∃ ps z,StD X.K a ps/\valS ps k=some (.str z)/\Q (.str z) H2:=by
  dsimp only at q2;split at q2
  ·exact⟨_,_,rfl,rfl,q2⟩
  ·exact q2.elim
 cases rx;obtain⟨t,rfl⟩:=ry;obtain⟨vs,rel,dd⟩:=hd.of (P:=X.prog) (w:=X.w) I2.kIn;refine⟨dd.typeIs,?_⟩;obtain⟨w',hw,t2,rfl⟩:=zfu.some_of (v:=V.str z) (o:=valueAt vs (Sum.inl k)) (by rw [← hv];exact rel.val (.inl k));exact wpAny_getItem_of (knd:=zaB X.prog X.w) (k:=.inl k) (by rw [zfI];exact zdW k t) dd.mapOf hw ⟨.str z,H2,I2.tok _,⟨_,rfl⟩,q⟩
end
section
variable {X:Cx}
end
theorem zjj (g:Array Nat):∀ (l:List Str) (acc:Array Nat),(l.foldl (fun acc (p:Str)=>acc++g++p.cps) acc).size=acc.size+((l.map (·.length)).sum+l.length*g.size)
 | [],acc=>by simp
 | x::l,acc=>by
  rw [List.foldl_cons,zjj g l,Array.size_append,Array.size_append,zsq,List.sum_cons,zsz,Nat.succ_mul];show acc.size+g.size+x.length+_=_;omega
theorem zkB (sep:Str) (l:List Str):(Txt.join sep l).length<=(l.map (·.length)).sum+l.length*sep.length:=by
 show (l.drop 1 |>.foldl (fun acc (p:Str)=>acc++sep.cps++p.cps) (l.headD Str.empty).cps).size<=_;rw [zjj];cases l with
 | nil=>simp [Str.empty]
 | cons x l =>
  rw [zsq,List.sum_cons,zsz,Nat.succ_mul];show x.length+((l.map (·.length)).sum+l.length*sep.length)<=_
  omega
end L2
end
section
namespace L2
open PySem PySem.Spec PyProof.Rows PySem.W
section
variable {X:Cx}
end
def Itk (d:Addr) (o:Obj) (kvs:List (Int × V)):It where
 go:=fun i H=>H d=some (.frz o (.dK (dcI kvs)))/\i<kvs.length
 yld:=fun i H v H'=>H'=H/\∃ q,v=.int q.1/\kvs[i]?=some q
 stop:=fun i H=>H d=some (.frz o (.dK (dcI kvs)))/\kvs.length<=i
theorem zlc {P:Program} {w:World} {K:PySem.W.Frag} {tg:Expr} {d it:Addr} {o:Obj} {kvs:List (Int × V)} {es:Array DictEntry} {ep:Nat} (ho:o.data=.dict es ep) :
  znf P w K tg (Itk d o kvs) [it] it (fun i h=>h.IsKeyIter it d i kvs.length ep) where
 mem:=by simp
 obj:=fun i h st b hb=>by
  have z:b=it:=by simpa using hb
  subst z;obtain⟨ob,e,c,dd⟩:=st;exact⟨ob,e,fun v z=>by rw [dd] at z;cases z⟩
 keep:=fun i h h' st k=>st.at fun o e=>k it (by simp) o e
 item:=by
  intro X hP hw hK hc i pins s σ H E I hf st hg;subst hP hw hK;obtain⟨hd,hlt⟩:=hg;obtain⟨ws,rel,hat,hl⟩:=znw I.hok hd ho;rw [hl] at st;obtain⟨⟨k,x⟩,hx⟩:∃ p,ws[i]?=some p:=⟨ws[i]'(by omega),zr0 (by omega)⟩;obtain⟨q,hq,rfl,rx⟩:=zpi rel hx;obtain⟨f0,f1,f2,f3,f4,f5⟩:=hf it (by simp);refine wpAny_pyNext_dict_item st hat hx fun key h' hkey st' sb=>?_
  have I1:Inv X pins σ H { s with heap:=h' }:=I.turned (t':=s.toks) (fun b o hb e=>(sb.2 b hb).trans e) f0 f1 f3 f4 f5;obtain⟨ob,e,c,dd⟩:=id st';rcases zaR (show zez (.inl q.1) key=true from hkey) with ⟨i',t,g1,rfl⟩ | ⟨x',t,g1,rfl⟩
  ·cases g1;exact⟨_,rfl,zm4 (s:={ s with heap:=h' }) e c dd (by decide) ⟨.int q.1,H,I1,⟨_,rfl⟩,⟨rfl,q,rfl,hq⟩,by rw [hl];exact st',fun b hb=>(hf b hb).1⟩⟩
  ·cases g1
 done:=by
  intro X hP hw hK hc i pins s σ H E I hf st hg;subst hP hw hK;obtain⟨hd,hle⟩:=hg;obtain⟨ws,rel,hat,hl⟩:=znw I.hok hd ho;rw [hl] at st;obtain⟨f0,f1,f2,f3,f4,f5⟩:=hf it (by simp);exact wpAny_pyNext_dict_end (I.ok.hd hc) st hat (List.getElem?_eq_none (by omega)) fun h' eb=>⟨rfl,I.turned (t':=s.toks) (fun b o hb e=>eb b o hb e) f0 f1 f3 f4 f5⟩
 self:=fun A i s Q E st h=>wpAny_pyIter_keyiter st h
section
variable {X:Cx}
end
theorem zkO {d:Addr} {o:Obj} {kvs:List (Int × V)} {g:TG} {tc:TT} {tm:TM} {σ:St} {H:Hp} {p:Addr} {Q:Hp->Prop} (Pv:Nat->St->Hp->Prop) (h0:Pv 0 σ H)
  (hl:∀ i σ H,i<=kvs.length->Pv i σ H->H d=some (.frz o (.dK (dcI kvs))))
  (hs:∀ i q σ H,kvs[i]?=some q->Pv i σ H->g (.int q.1) σ H fun σ3 H3=>tc σ3 H3 fun b H4=>if b=true then tm p σ3 H4 (Pv (i+1) σ3) else Pv (i+1) σ3 H4) (hd:∀ σ H,Pv kvs.length σ H->Q H) :
  ∃ W:Nat->Nat->St->Hp->Prop,(∃ m,W 0 m σ H) /\
  ∀ i m σ' H',W i m σ' H'->((Itk d o kvs).stop i H'/\Q H')\/((Itk d o kvs).go i H'/\∃ N:St->Hp->Prop,(∀ σ2 H2,N σ2 H2->∃ m',m'<m/\W (i+1) m' σ2 H2)/\∀ x H2,(Itk d o kvs).yld i H' x H2->g x σ' H2 fun σ3 H3=>tc σ3 H3 fun b H4 =>
   if b=true then tm p σ3 H4 (N σ3) else N σ3 H4):=by
 refine⟨fun i m σ H=>m=kvs.length-i/\i<=kvs.length/\Pv i σ H,⟨kvs.length,by simp,Nat.zero_le _,h0⟩,?_⟩;rintro i m σ H ⟨rfl,hi,pv⟩;have q:=hl i σ H hi pv;by_cases hlt:i<kvs.length
 ·refine .inr ⟨⟨q,hlt⟩,Pv (i+1),fun σ' H' p'=>⟨kvs.length-(i+1),by omega,rfl,hlt,p'⟩,fun x H' y=>?_⟩;obtain⟨rfl,qv,rfl,hq⟩:=y;exact hs i qv σ _ hq pv
 ·have e:i=kvs.length:=by omega
  subst e;exact .inl ⟨⟨q,zse _⟩,hd σ H pv⟩
theorem zkZ:∀ {xs:List V} {us:List Value},xs.length=us.length->(∀ (i:Nat) (x:V) (u:Value),xs[i]?=some x->us[i]?=some u->zaY x u)->zaV xs us
 | [],[],_,_=>.nil
 | x::xs,u::us,h,f=>.cons (f 0 x u rfl rfl) (zkZ (by simpa using h) fun i y v hy hv=>f (i+1) y v hy hv)
 | [],_::_,h,_=>by simp at h
 | _::_,[],h,_=>by simp at h
section
variable {X:Cx}
end
section
variable {X:Cx} {a b c d:Expr} {ta tb tc td:TE} {pos:Pos}
def cCh3 (r r' r'':R2) (ta tb tc td:TE):TT:=fun σ H Q=>ta σ H fun x H1=>tb σ H1 fun y H2=>r x y H2 fun e H3=>bV e fun k=>ifB k (tc σ H3 fun z H4=>r' y z H4 fun e' H5=>bV e' fun k2=>ifB k2 (td σ H5 fun w H6=>r'' z w H6 fun e'' H7=>bV e'' fun k3=>Q k3 H7) (Q false H5)) (Q false H3)
theorem zqE {op op' op'':CmpOp} {r r' r'':R2} (ho:OpR X (compareOp op) r) (ho':OpR X (compareOp op') r') (ho'':OpR X (compareOp op'') r'') (ha:PE X a ta) (hb:PE X b tb) (hc:PE X c tc) (hd:PE X d td)
  (hm:lastMarks [op,op',op''] [b,c,d]=false:=by with_unfolding_all rfl):PT X (.Compare a [op,op',op''] [b,c,d] pos) (cCh3 r r' r'' ta tb tc td):=by
 intro pins s σ H Q I h;refine isTrue_chain (thn (ha pins s σ H _ I h) fun v s1 ⟨x,H1,I1,r1,q1⟩=>test_link (thn (hb pins s1 σ H1 _ I1 q1) fun u s2 ⟨y,H2,I2,r2,q2⟩ =>
  thn (ho pins s2 σ H2 x y v u _ I2 r1 r2 q2) fun e s3 ⟨z,H3,I3,r3,q3⟩=>?_)) hm
 obtain⟨k,rfl,q⟩:=zgY q3;cases r3;refine wpAny_truthy_bool ?_;cases k with
 | false=>exact ite_ff ⟨H3,I3,zjK q⟩
 | true =>
  refine ite_tt (test_link (thn (hc pins s3 σ H3 _ I3 (zj6 q)) fun w' s4 ⟨z',H4,I4,r4,q4⟩=>thn (ho' pins s4 σ H4 y z' u w' _ I4 r2 r4 q4) fun d' s5 ⟨z2,H5,I5,r5,q5⟩=>?_));obtain⟨k2,rfl,q6⟩:=zgY q5;cases r5;refine wpAny_truthy_bool ?_;cases k2 with
  | false=>exact ite_ff ⟨H5,I5,zjK q6⟩
  | true =>
   refine ite_tt (test_last (thn (hd pins s5 σ H5 _ I5 (zj6 q6)) fun w2 s6 ⟨y6,H6,I6,r6,q7⟩=>thn (ho'' pins s6 σ H6 z' y6 w' w2 _ I6 r4 r6 q7) fun d2 s7 ⟨z3,H7,I7,r7,q8⟩=>?_));obtain⟨k3,rfl,q9⟩:=zgY q8;cases r7;exact wpAny_truthy_bool ⟨H7,I7,q9⟩
end
end L2
end
section
namespace L2
open PySem PySem.Spec PyProof.Rows PySem.W
abbrev s00:St3:=(0,0,[])
section
variable {X:Cx} {pins:List (Addr × Obj)} {σ:St} {H:Hp} {s:Shared}
open PySem.SeqAt
end
end L2
end
section
namespace L2
open PySem PySem.Spec PyProof.Rows PySem.W
abbrev zqI (lo hi:Int) (t u v:Tok):Obj:={ cls:=.type "range",data:=.fields #[.int lo t,.int hi u,.int 1 v] }
theorem zha {prog:Program} {w:World} {A:Around} {E:Value->Shared->Prop} {s:Shared} {r:Addr} {lo hi:Int} {t u v:Tok} {Q:Value->Shared->Prop} (hr:s.heap.get? r=some (zqI lo hi t u v))
  (h:wpAny (model prog w) A.in1 (call (.builtin "range.__reversed__") [.ref r]) Q E s) :
  codeAny (model prog w) A (.call (.builtin "reversed.__new__") ⟨[.type "reversed",.ref r],[]⟩) (wants Q E) s:=by
 refine codeAny_of_tree ?_;refine wpAny_bind (wpAny_of_eq (F.newCall_reversed_1 _) ?_);refine wpAny_pure ⟨plainId_quiet F.plain_reversed_new _,?_⟩;refine codeAny_builtin F.entry_reversed_new ?_;rw [Around.under_plainId F.plain_reversed_new];unfold Builtin.«reversed.__new__»;refine wpAny_bind (wpAny_of_eq (newClass_reversed _) ?_);refine wpAny_bind (wpAny_of_eq (a:=()) (by first | rfl | (with_unfolding_all rfl)) ?_);refine wpAny_bind (wpAny_of_eq (a:=()) (by first | rfl | (with_unfolding_all rfl)) ?_);refine wpAny_bind (wpAny_specialOf (T:="range") ⟨_,hr,rfl⟩ F.slot_range_reversed.lookup ?_);refine wpAny_bind (wpAny_of_eq (F.slot_range_reversed.bind _) ?_);refine wpAny_bind (wpAny_rule ?_);refine wpAny_bind (wpAny_mono h (fun x s' hq=>?_) (fun x s' hq=>?_))
 ·exact wpAny_pure hq
 ·exact hq
theorem zft {prog:Program} {w:World} {A:Around} {E:Value->Shared->Prop} {s:Shared} {r:Addr} {lo hi:Int} {t u v:Tok} {Q:Value->Shared->Prop} (hr:s.heap.get? r=some (zqI lo hi t u v)) (hl:-(2 ^ 61)<=lo/\lo<2 ^ 61) (hh:-(2 ^ 61)<=hi/\hi<2 ^ 61)
  (q:Q (.ref s.heap.objs.size) { s with heap:=s.heap.push { cls:=.type "range_iterator",data:=.fields #[rawInt (lo+(Builtin.Range.rangeSize lo hi 1-1)*1),rawInt (Builtin.Range.rangeSize lo hi 1),rawInt (-1)] } }) :
  wpAny (model prog w) A (call (.builtin "range.__reversed__") [.ref r]) Q E s:=by
 refine call_meets F.slot_range_reversed ⟨_,hr,rfl⟩ F.entry_range_reversed (F.args_range_reversed_1 _) (S:=fun A R s=>∃ hr:s.heap.get? r=some (zqI lo hi t u v),R (.ok (.ret (.ref s.heap.objs.size))) { s with heap:=s.heap.push { cls:=.type "range_iterator",data:=.fields #[rawInt (lo+(Builtin.Range.rangeSize lo hi 1-1)*1),rawInt (Builtin.Range.rangeSize lo hi 1),rawInt (-1)] } }) ?_ ⟨hr,q⟩;intro prog w A R s ⟨hr,q⟩;unfold Builtin.«range.__reversed__»;refine wpAny_bind (wpAny_of_eq (a:=.ref r) (by first | rfl | (with_unfolding_all rfl)) ?_);unfold Builtin.Range.rangeFields;refine wpAny_bind (wpAny_bind (wpAny_field hr rfl rfl (wpAny_bind (wpAny_of_eq rfl (wpAny_bind (wpAny_field hr rfl rfl (wpAny_bind (wpAny_of_eq rfl (wpAny_bind (wpAny_field hr rfl rfl (wpAny_bind (wpAny_of_eq rfl (wpAny_pure ?_)))))))))))));have hs:∀ x:Int,-(2 ^ 62)<=x->x<2 ^ 62->Builtin.Range.rangeFitsLong x=true:=by
  intro x h1 h2;unfold Builtin.Range.rangeFitsLong;simp
  omega
 have hn:Builtin.Range.rangeSize lo hi 1=if lo<hi then hi-lo else 0:=rangeSize_one lo hi
 have hsm:(Builtin.Range.rangeFitsLong lo && Builtin.Range.rangeFitsLong hi && Builtin.Range.rangeFitsLong 1 && Builtin.Range.rangeFitsLong (-1) && Builtin.Range.rangeFitsLong (lo-1) && Builtin.Range.rangeFitsLong (Builtin.Range.rangeSize lo hi 1))=true:=by
  rw [hs lo (by omega) (by omega),hs hi (by omega) (by omega),hs 1 (by omega) (by omega),hs (-1) (by omega) (by omega),hs (lo-1) (by omega) (by omega),hs _ (by rw [hn];split <;> omega) (by rw [hn];split <;> omega)]
  rfl
 show wpAny (model prog w) A.in1 (if (!(Builtin.Range.rangeFitsLong lo && Builtin.Range.rangeFitsLong hi && Builtin.Range.rangeFitsLong 1 && Builtin.Range.rangeFitsLong (-1) && Builtin.Range.rangeFitsLong (lo-1) && Builtin.Range.rangeFitsLong (Builtin.Range.rangeSize lo hi 1)))=true then _ else (newFields (if (Builtin.Range.rangeFitsLong lo && Builtin.Range.rangeFitsLong hi && Builtin.Range.rangeFitsLong 1 && Builtin.Range.rangeFitsLong (-1) && Builtin.Range.rangeFitsLong (lo-1) && Builtin.Range.rangeFitsLong (Builtin.Range.rangeSize lo hi 1))=true then "range_iterator" else "longrange_iterator") [rawInt (lo+(Builtin.Range.rangeSize lo hi 1-1)*1),rawInt (Builtin.Range.rangeSize lo hi 1),rawInt (-1)] >>= fun x=>ret x)) _ _ s;rw [hsm];refine wpAny_bind (wpAny_bind (wpAny_alloc (wpAny_pure (wpAny_pure q))))
theorem zdq {prog:Program} {w:World} {A:Around} {E:Value->Shared->Prop} {s:Shared} {r:Addr} {lo hi:Int} {t u v:Tok} {Q:Value->Shared->Prop} (hr:s.heap.get? r=some (zqI lo hi t u v)) (hl:-(2 ^ 61)<=lo/\lo<2 ^ 61) (hh:-(2 ^ 61)<=hi/\hi<2 ^ 61)
  (q:Q (.ref s.heap.objs.size) { s with heap:=s.heap.push { cls:=.type "range_iterator",data:=.fields #[rawInt (lo+(Builtin.Range.rangeSize lo hi 1-1)*1),rawInt (Builtin.Range.rangeSize lo hi 1),rawInt (-1)] } }) :
  wpAny (model prog w) A (call (.type "reversed") [.ref r]) Q E s:=by
 refine callType_other (U:="range_iterator") (Q₁:=fun v s'=>v=.ref s.heap.objs.size/\s'={ s with heap:=s.heap.push { cls:=.type "range_iterator",data:=.fields #[rawInt (lo+(Builtin.Range.rangeSize lo hi 1-1)*1),rawInt (Builtin.Range.rangeSize lo hi 1),rawInt (-1)] } }) (by decide) F.create_reversed ⟨_,_,F.mro_reversed⟩ F.made_reversed ?_ (F.typeCall_reversed_1 _) (zha hr (zft hr hl hh ⟨rfl,rfl⟩)) ?_
 ·with_unfolding_all rfl
 ·rintro obj s1 ⟨rfl,rfl⟩;exact⟨⟨_,zsx _ rfl,rfl⟩,q⟩
def Itd (hi:Int) (n:Nat):It:=⟨fun i _=>i<n,fun i H x H'=>H'=H/\x=.int (hi-i),fun i _=>n<=i⟩
theorem zls {P:Program} {w:World} {K:PySem.W.Frag} {tg:Expr} (it:Addr) (hi:Int) (n:Nat):znf P w K tg (Itd hi n) [it] it (fun i h=>IsRangeIter h it (hi+(i:Nat)*(-1)) ((n:Int)-(i:Nat)) (-1)) where
 mem:=by simp
 obj:=fun i h st b hb=>by
  have e:b=it:=by simpa using hb
  subst e;exact⟨_,st,fun v z=>by
   have z':Data.fields _=Data.cell v:=z;cases z'⟩
 keep:=fun i h h' st k=>k it (by simp) _ st
 item:=by
  intro X hP hw hK hc i pins s σ H E I hf st hg;subst hP hw hK;obtain⟨f0,f1,f2,f3,f4,f5⟩:=hf it (by simp);have W:=Walks.range (prog:=X.prog) (w:=X.w) (I.ok.hd hc) it hi (-1) n;refine W.item i s _ _ hg st fun v h' tk hv st' kk=>?_
  obtain⟨t,rfl⟩:=hv;have I1:Inv X pins σ H { s with heap:=h',toks:=tk }:=I.turned (fun b o hb e=>kk b o (by simpa using hb) e) f0 f1 f3 f4 f5;refine⟨_,rfl,zm4 (s:={ s with heap:=h',toks:=tk }) (n:="range_iterator") st' rfl rfl (by decide) ⟨.int (hi-i),H,I1,⟨t,?_⟩,⟨rfl,rfl⟩,st',fun b hb=>(hf b hb).1⟩⟩;rw [show hi+(i:Int)*(-1)=hi-i by omega]
 done:=by
  intro X hP hw hK hc i pins s σ H E I hf st hg;subst hP hw hK;obtain⟨f0,f1,f2,f3,f4,f5⟩:=hf it (by simp);exact wpAny_pyNext_range_end (I.ok.hd hc) st (by have:n<=i:=hg;omega) fun h' eb=>⟨rfl,I.turned (t':=s.toks) (fun b o hb e=>eb b o hb e) f0 f1 f3 f4 f5⟩
 self:=fun _ _ _ _ _ st h=>wpAny_pyIter_rangeiter st h
theorem zhS:bootBuiltins "reversed"=some (.type "reversed"):=by decide +kernel
section
variable {X:Cx}
def zp4:List V->Hp->VK->Prop:=fun xs H Q=>match xs with | [.int j]=>∀ p,H p=none->Q (.ref p) (upd H p (.rng 0 j)) | _=>False
theorem zqb:za9 X (.type "range") zp4:=by
 intro pins s σ H xs us Q I r h;unfold zp4 at h;split at h
 ·rename_i j;cases r with
  | cons r rr =>
  cases rr;obtain⟨t,rfl⟩:=r;refine call_range_1 ?_;refine⟨.ref s.heap.objs.size,_,I.laid (a:=s.heap.objs.size) (o:=.rng 0 j) (fun b o e=>zsb _ e) (zse _) ⟨_,_,_,zsx _ rfl⟩,rfl,h _ (I.hok.fresh (zse _))⟩
 ·exact h.elim
def zrh (ta:TA):TI:=fun σ H R=>ta σ H fun vs H1=>match vs with
 | [.ref r]=>∃ j:Int,H1 r=some (.rng 0 j)/\(0<=j/\j<=1000000)/\R (Itd (j-1) j.toNat) H1
 | _=>False
theorem zn5 {tg a:Expr} {ta:TA} {p pos:Pos} (hg:Gl X "reversed") (hm:X.mg "reversed"=none) (ha:PA X [a] ta) (hs:starEach [a] X.env=[(false,eval a X.env)]:=by rfl):PI X tg (.Call (.Name "reversed" p) [a] [] pos) (zrh ta):=by
 intro pins s σ H R I h;refine Call_ (zf3 I hg hm zhS (PyProof.Rows.callWith_type1 (thn (ha pos pins s σ H _ I h) fun us s1 ⟨vs,H1,I1,r1,q1⟩=>?_) hs rfl));obtain⟨r,rfl,j,hr,⟨j0,j1⟩,q⟩:∃ r,vs=[.ref r]/\∃ j:Int,H1 r=some (.rng 0 j)/\(0<=j/\j<=1000000)/\R (Itd (j-1) j.toNat) H1:=by
  dsimp only at q1;split at q1
  ·exact⟨_,rfl,q1⟩
  ·exact q1.elim
 cases r1 with
 | cons r2 rr =>
  cases rr;cases r2;obtain⟨t,u,v,hg'⟩:=(show zaQ X.prog X.w H1 s1.heap r (.rng 0 j) from I1.hok r _ hr);refine zdq hg' ⟨by decide,by decide⟩ ⟨by omega,by omega⟩ ?_;have hn:Builtin.Range.rangeSize 0 j 1=j:=by rw [rangeSize_one];split <;> omega
  rw [hn];refine wpAny_pyIter_rangeiter (it:=s1.heap.objs.size) (zsx _ rfl) ?_;refine⟨s1.heap.objs.size,[s1.heap.objs.size],_,_,H1,rfl,I1.kept (t':=s1.toks) fun b o e=>zsb _ e,zls _ (j-1) j.toNat,?_,fun b hb=>?_,q⟩
  ·have e1:(j-1)+((0:Nat):Int)*(-1)=0+(j-1)*1:=by omega
   have e2:((j.toNat:Nat):Int)-((0:Nat):Int)=j:=by omega
   rw [e1,e2];exact zsx _ rfl
  ·have e:b=s1.heap.objs.size:=by simpa using hb
   subst e;exact I1.fpOk (zse _) (I1.hok.fresh (zse _))
end
theorem zmE {hi:Int} {n:Nat} {g:TG} {tb:TS} {D:zlo} {σ:St} {H:Hp} (Pv:Nat->St->Hp->Prop) (h0:Pv 0 σ H)
  (hs:∀ i σ H,i<n->Pv i σ H->g (.int (hi-i)) σ H fun σ2 H2=>tb { D with nx:=Pv (i+1),ct:=Pv (i+1),bk:=D.nx } σ2 H2) (hd:∀ σ H,Pv n σ H->D.nx σ H) :
  ∃ W:Nat->Nat->St->Hp->Prop,(∃ m,W 0 m σ H)/\∀ i m σ H,W i m σ H ->
   ((Itd hi n).stop i H/\D.nx σ H)\/((Itd hi n).go i H/\∃ N:St->Hp->Prop,(∀ σ' H',N σ' H'->∃ m',m'<m/\W (i+1) m' σ' H')/\∀ x H',(Itd hi n).yld i H x H'->g x σ H' fun σ2 H2=>tb { D with nx:=N,ct:=N,bk:=D.nx } σ2 H2):=by
 refine⟨fun i m σ H=>m=n-i/\i<=n/\Pv i σ H,⟨n,by simp,Nat.zero_le _,h0⟩,?_⟩;rintro i m σ H ⟨rfl,hi',pv⟩;by_cases hlt:i<n
 ·refine .inr ⟨hlt,Pv (i+1),fun σ' H' p'=>⟨n-(i+1),by omega,rfl,hlt,p'⟩,fun x H' y=>?_⟩;obtain⟨e,y⟩:=y;subst e y;exact hs i σ _ hlt pv
 ·have e:i=n:=by omega
  subst e;exact .inl ⟨zse _,hd σ H pv⟩
end L2
end
section
namespace L2
open PySem PySem.Spec PyProof.Rows PySem.W
inductive NK where
 | int (i:Int)
 | tup (l:List NK)
mutual
def NK.dep:NK->Nat
 | .int _=>0
 | .tup l=>1+NK.depL l
def NK.depL:List NK->Nat
 | []=>0
 | k::r=>max k.dep (NK.depL r)
end
mutual
def NK.hash:NK->Int
 | .int i=>hashInt i
 | .tup l=>reduceHash (Builtin.Tuple.tupleHashOf (NK.hashL l))
def NK.hashL:List NK->List Int
 | []=>[]
 | k::r=>k.hash::NK.hashL r
end
mutual
def NK.dr:NK->Nat
 | .int _=>1
 | .tup l=>NK.drL l+1
def NK.drL:List NK->Nat
 | []=>0
 | k::r=>k.dr+NK.drL r
end
mutual
def IsN (h:Heap):NK->Value->Prop
 | .int i,v=>∃ t,v=.int i t
 | .tup l,v=>∃ a its,v=.ref a/\IsTup h a (List.toArray its)/\zbQ h l its
def zbQ (h:Heap):List NK->List Value->Prop
 | [],vs=>vs=[]
 | k::r,vs=>∃ u us,vs=u::us/\IsN h k u/\zbQ h r us
end
noncomputable instance:DecidableEq NK:=fun a b=>Classical.propDecidable (a=b)
theorem zjZ {M:Model} {A:Around} {E:Value->Shared->Prop} {s:Shared} {i:Int} {Q:Int->Shared->Prop} (h:Q (reduceHash i) s):wpAny M A (pyHashByItsType.reduced i) Q E s:=by
 unfold pyHashByItsType.reduced;unfold reduceHash at h;split
 ·rename_i c;rw [zsB c] at h;exact wpAny_pure h
 ·rename_i c;rw [zsA c] at h;exact wpAny_bind (wpAny_rule (wpAny_pure h))
section
variable {prog:Program} {w:World} {E:Value->Shared->Prop}
theorem zmm:∀ (n:Nat) (k:NK) (A:Around) (s:Shared) (v:Value) (Q:Int->Shared->Prop),k.dep<=n->A.units+n<cLine->IsN s.heap k v->Q k.hash { s with toks:=s.toks+k.dr }->wpAny (model prog w) A (pyHash v) Q E s:=by
 intro n
 induction n with
 | zero =>
  intro k A s v Q hd hu hi h;cases k with
  | int i =>
   rw [IsN] at hi;obtain⟨t,rfl⟩:=hi;rw [NK.hash,NK.dr] at h;exact wpAny_pyHash_int h
  | tup l=>rw [NK.dep] at hd;omega
 | succ n ih =>
  intro k A s v Q hd hu hi h;cases k with
  | int i =>
   rw [IsN] at hi;obtain⟨t,rfl⟩:=hi;rw [NK.hash,NK.dr] at h;exact wpAny_pyHash_int h
  | tup l =>
   rw [NK.dep] at hd;rw [NK.hash,NK.dr] at h;rw [IsN] at hi;obtain⟨a,its,rfl,ht,hi⟩:=hi;have loop:∀ (l:List NK) (vs:List Value) (b:Array Int) (s:Shared) (Q':Array Int->Shared->Prop),NK.depL l<=n->zbQ s.heap l vs->(∀ b':Array Int,b'.toList=b.toList++NK.hashL l->Q' b' { s with toks:=s.toks+NK.drL l }) ->
     wpAny (model prog w) A.in1 (forIn vs b fun x (r:Array Int)=>do let h ← pyHash x;pure (ForInStep.yield (r.push h))) Q' E s:=by
    intro l
    induction l with
    | nil =>
     intro vs b s Q' _ hv hq;rw [zbQ] at hv;subst hv;exact wpAny_pure (hq b (by rw [NK.hashL,zsa]))
    | cons k r ihl =>
     intro vs b s Q' hd hv hq;rw [NK.depL] at hd;rw [zbQ] at hv;obtain⟨u,us,rfl,hu',hr⟩:=hv;rw [List.forIn_cons];refine wpAny_bind (wpAny_bind (ih k A.in1 s u _ (by omega) (by show A.units+1+n<_;omega) hu' (wpAny_pure ?_)));refine ihl us _ _ _ (by omega) hr fun b' hb'=>?_
     have:=hq b' (by rw [hb',NK.hashL];simp)
     rw [NK.drL,← Nat.add_assoc] at this;exact this
   show wpAny _ _ (pyHashByItsType (.ref a)) Q E s;unfold pyHashByItsType;have hT:=ht.typeIs;refine wpAny_bind (wpAny_cRoomFor_or (.inr (by omega)) (wpAny_bind (wpAny_specialOf hT F.slot_tuple_hash.lookup ?_)));rw [zsA (by rw [beq_builtin_none];exact zsI)];refine wpAny_bind (wpAny_specialOf hT F.slot_tuple_hash.lookup ?_);refine wpAny_bind (wpAny_callSpecialIfBoundUnlessNone?_slot hT F.slot_tuple_hash (wpAny_call_entry F.slot_tuple_hash hT F.entry_tuple_hash ?_ (F.args_tuple_hash_1 _)));show wpAny _ _ (Builtin.Tuple.tupleItemsOf (.ref a) >>= _) _ _ s;refine wpAny_bind (tupleItemsOf_ ht (wpAny_bind ?_));rw [← Array.forIn_toList];refine loop l its #[] s _ (by omega) hi fun b' hb'=>?_
   have hb':b'.toList=NK.hashL l:=by rw [hb'];rfl
   show wpAny _ _ (retInt (Builtin.Tuple.tupleHashOf b'.toList)) _ _ _;rw [hb'];refine wpAny_bind (wpAny_mkInt (wpAny_pure ⟨_,rfl,?_⟩));exact zjZ h
theorem IsTup.inj' {h:Heap} {a:Addr} {x y:List Value} (h1:IsTup h a x.toArray) (h2:IsTup h a y.toArray):x=y:=by
 obtain⟨o,e1,_,n,d1⟩:=h1;obtain⟨o',e2,_,n',d2⟩:=h2;rw [e1] at e2;cases e2;rw [d1] at d2;injection d2 with d2 _
 have:=congrArg Array.toList d2
 simpa using this
theorem zhO {h:Heap}:∀ (n:Nat) (x y:NK) (v:Value),x.dep<=n->IsN h x v->IsN h y v->x=y:=by
 intro n
 induction n with
 | zero =>
  intro x y v hd hx hy;cases x with
  | int i =>
   rw [IsN] at hx;obtain⟨t,rfl⟩:=hx;cases y with
   | int j=>rw [IsN] at hy;obtain⟨t',e⟩:=hy;cases e;rfl
   | tup l=>rw [IsN] at hy;obtain⟨a,its,e,_⟩:=hy;cases e
  | tup l=>rw [NK.dep] at hd;omega
 | succ n ih =>
  intro x y v hd hx hy;cases x with
  | int i =>
   rw [IsN] at hx;obtain⟨t,rfl⟩:=hx;cases y with
   | int j=>rw [IsN] at hy;obtain⟨t',e⟩:=hy;cases e;rfl
   | tup l=>rw [IsN] at hy;obtain⟨a,its,e,_⟩:=hy;cases e
  | tup l =>
   rw [NK.dep] at hd;rw [IsN] at hx;obtain⟨a,its,rfl,ht,hi⟩:=hx;cases y with
   | int j=>rw [IsN] at hy;obtain⟨t',e⟩:=hy;cases e
   | tup l' =>
    rw [IsN] at hy;obtain⟨a',its',e,ht',hi'⟩:=hy;cases e;have e:=IsTup.inj' ht ht';subst e;have key:∀ (l l':List NK) (vs:List Value),NK.depL l<=n->zbQ h l vs->zbQ h l' vs->l=l':=by
     intro l
     induction l with
     | nil =>
      intro l' vs _ h1 h2;rw [zbQ] at h1;subst h1;cases l' with
      | nil=>rfl
      | cons k r=>rw [zbQ] at h2;obtain⟨u,us,e,_⟩:=h2;cases e
     | cons k r ihl =>
      intro l' vs hd h1 h2;rw [NK.depL] at hd;rw [zbQ] at h1;obtain⟨u,us,rfl,hu,hr⟩:=h1;cases l' with
      | nil=>rw [zbQ] at h2;cases h2
      | cons k' r' =>
       rw [zbQ] at h2;obtain⟨u',us',e,hu',hr'⟩:=h2;cases e;rw [ih k k' u (by omega) hu hu',ihl r' us (by omega) hr hr']
    rw [key l l' its (by omega) hi hi']
theorem zi9 {h h':Heap} (kp:∀ (a:Addr) (its:List Value),IsTup h a its.toArray->IsTup h' a its.toArray):∀ (n:Nat) (x:NK) (v:Value),x.dep<=n->IsN h x v->IsN h' x v:=by
 intro n
 induction n with
 | zero =>
  intro x v hd hx;cases x with
  | int i=>rw [IsN] at hx ⊢;exact hx
  | tup l=>rw [NK.dep] at hd;omega
 | succ n ih =>
  intro x v hd hx;cases x with
  | int i=>rw [IsN] at hx ⊢;exact hx
  | tup l =>
   rw [NK.dep] at hd;rw [IsN] at hx ⊢;obtain⟨a,its,rfl,ht,hi⟩:=hx;refine⟨a,its,rfl,kp _ _ ht,?_⟩;have key:∀ (l:List NK) (vs:List Value),NK.depL l<=n->zbQ h l vs->zbQ h' l vs:=by
    intro l
    induction l with
    | nil=>intro vs _ h1;rw [zbQ] at h1 ⊢;exact h1
    | cons k r ihl =>
     intro vs hd h1;rw [NK.depL] at hd;rw [zbQ] at h1 ⊢;obtain⟨u,us,rfl,hu,hr⟩:=h1;exact⟨u,us,rfl,ih k u (by omega) hu,ihl us (by omega) hr⟩
   exact key l its (by omega) hi
theorem zb8 {h:Heap}:∀ {l:List NK} {vs:List Value},zbQ h l vs->vs.length=l.length
 | [],vs,h1=>by rw [zbQ] at h1;subst h1;rfl
 | k::r,vs,h1=>by
  rw [zbQ] at h1;obtain⟨u,us,rfl,_,hr⟩:=h1;rw [zsz,zsz,zb8 hr]
theorem zgv {h:Heap}:∀ {l:List NK} {vs:List Value} {j:Nat} (hj:j<vs.length),zbQ h l vs->∃ k,l[j]?=some k/\IsN h k vs[j]
 | [],vs,j,hj,h1=>by rw [zbQ] at h1;subst h1;cases hj
 | k::r,vs,j,hj,h1=>by
  rw [zbQ] at h1;obtain⟨u,us,rfl,hu,hr⟩:=h1;cases j with
  | zero=>exact⟨k,rfl,hu⟩
  | succ j=>exact zgv (l:=r) (vs:=us) (j:=j) (by simpa using hj) hr
theorem zii {n:Nat}:∀ {l:List NK} {j:Nat} {k:NK},NK.depL l<=n->l[j]?=some k->k.dep<=n
 | [],j,k,_,h=>by cases h
 | k'::r,0,k,hd,h=>by cases h;rw [NK.depL] at hd;omega
 | k'::r,j+1,k,hd,h=>by rw [NK.depL] at hd;exact zii (l:=r) (j:=j) (by omega) h
theorem zmw (i j:Int):decide (NK.int i=NK.int j)=(i == j):=by
 by_cases e:i=j
 ·subst e;simp
 ·rw [zr5 (fun q=>e (by injection q)),show (i == j)=false by simpa using e]
theorem zo3 (l l':List NK):decide (NK.tup l=NK.tup l')=decide (l=l'):=by
 by_cases e:l=l'
 ·subst e;simp
 ·rw [zr5 e,zr5 (fun q=>e (by injection q))]
theorem zh9 {l l':List NK}:((List.range (min l.length l'.length)).all (fun j=>decide (l.getD j (.int 0)=l'.getD j (.int 0))) && l.length == l'.length)=decide (l=l'):=by
 by_cases h:l=l'
 ·subst h;simp
 ·rw [zr5 h];by_cases hl:l.length=l'.length
  ·have:¬ (List.range (min l.length l'.length)).all (fun j=>decide (l.getD j (.int 0)=l'.getD j (.int 0)))=true:=fun q=>h (List.ext_getElem hl fun j h1 h2=>by
    have:=zsn.1 q j (List.mem_range.2 (by omega))
    have:=zsH this
    simpa [List.getD,h1,h2] using this)
   cases e:(List.range (min l.length l'.length)).all (fun j=>decide (l.getD j (.int 0)=l'.getD j (.int 0))) with
   | true=>exact (this e).elim
   | false=>rfl
  ·have:(l.length == l'.length)=false:=by simpa using hl
   rw [this,Bool.and_false]
theorem zq1 {s:Shared}:∀ (n:Nat) (x y:NK) (A:Around) (u v:Value),x.dep<=n->A.units+n<cLine->IsN s.heap x u->IsN s.heap y v->SeqAt.EqAt A s u v (decide (x=y)):=by
 have intsN:∀ (i:Int) (y:NK) (A:Around) (u v:Value),A.units<cLine->IsN s.heap (.int i) u->IsN s.heap y v->SeqAt.EqAt A s u v (decide (NK.int i=y)):=by
  intro i y A u v hu hx hy;rw [IsN] at hx;obtain⟨t,rfl⟩:=hx;cases y with
  | int j =>
   rw [IsN] at hy;obtain⟨t',rfl⟩:=hy
   have:=SeqAt.EqAt.int_int (A:=A) (s:=s) i t j t'
   rw [zmw];exact this
  | tup l =>
   rw [IsN] at hy;obtain⟨a,its,rfl,ht,_⟩:=hy;rw [zr5 (fun q=>by cases q)];exact SeqAt.EqAt.int_tuple i t ht hu
 intro n
 induction n with
 | zero =>
  intro x y A u v hd hu hx hy;cases x with
  | int i=>exact intsN i y A u v (by omega) hx hy
  | tup l=>rw [NK.dep] at hd;omega
 | succ n ih =>
  intro x y A u v hd hu hx hy;cases x with
  | int i=>exact intsN i y A u v (by omega) hx hy
  | tup l =>
   have hxx:=hx;have hdd:=hd;rw [NK.dep] at hd;rw [IsN] at hx;obtain⟨a,its,rfl,ht,hi⟩:=hx;cases y with
   | int j =>
    rw [IsN] at hy;obtain⟨t',rfl⟩:=hy;rw [zr5 (fun q=>by cases q)];exact SeqAt.EqAt.tuple_int j t' ht (by omega)
   | tup l' =>
    have hyy:=hy;rw [IsN] at hy;obtain⟨b,its',rfl,ht',hi'⟩:=hy;by_cases hab:a=b
    ·subst hab;rw [zhO (n+1) _ _ _ hdd hxx hyy,zr4 rfl];exact SeqAt.EqAt.same _
    ·have l1:=zb8 hi;have l2:=zb8 hi';have main:=SeqAt.RcAt.tuples (e:=fun j=>decide (l.getD j (.int 0)=l'.getD j (.int 0))) ht ht' (show A.units<cLine by omega) fun j g1 g2=>by
      obtain⟨k,hk,hkn⟩:=zgv (j:=j) (by simpa using g1) hi;obtain⟨k',hk',hkn'⟩:=zgv (j:=j) (by simpa using g2) hi';rw [zsE,zsE,hk,hk'];exact ih k k' A.in1 _ _ (zii (by omega) hk) (by show A.units+1+n<_;omega) (by simpa using hkn) (by simpa using hkn')
     rw [zsy,zsy,l1,l2,zh9] at main;rw [zo3];exact SeqAt.EqAt.of_refs hab main
theorem znY {s:Shared}:∀ (n:Nat) (x:NK) (A:Around) (v:Value) (Q:Bool->Shared->Prop),x.dep<=n->IsN s.heap x v->Q true s->wpAny (model prog w) A (eqIsQuiet n v) Q E s:=by
 have intsN:∀ (n:Nat) (i:Int) (A:Around) (v:Value) (Q:Bool->Shared->Prop),IsN s.heap (.int i) v->Q true s->wpAny (model prog w) A (eqIsQuiet n v) Q E s:=by
  intro n i A v Q hx h;rw [IsN] at hx;obtain⟨t,rfl⟩:=hx;rw [eqIsQuiet.eq_3 n _ (fun a q=>by cases q)];exact wpAny_pure h
 intro n
 induction n with
 | zero =>
  intro x A v Q hd hx h;cases x with
  | int i=>exact intsN 0 i A v Q hx h
  | tup l=>rw [NK.dep] at hd;omega
 | succ n ih =>
  intro x A v Q hd hx h;cases x with
  | int i=>exact intsN (n+1) i A v Q hx h
  | tup l =>
   rw [NK.dep] at hd;rw [IsN] at hx;obtain⟨a,its,rfl,ht,hi⟩:=hx;have hT:=ht.typeIs;rw [eqIsQuiet.eq_2];refine wpAny_bind (wpAny_specialOf hT F.slot_tuple_eq.lookup ?_);refine wpAny_bind (wpAny_isInstance hT isSubtype_tuple_tuple ?_);rw [zsA (by simp)];have loop:∀ (l:List NK) (vs:List Value) (Q':Option Bool × Unit->Shared->Prop),NK.depL l<=n->zbQ s.heap l vs->Q' (none,()) s ->
     wpAny (model prog w) A (forIn vs ((none,()):Option Bool × Unit) fun y _=>do let q ← eqIsQuiet n y;if (!q)=true then pure (ForInStep.done (some false,())) else pure (ForInStep.yield (none,()))) Q' E s:=by
    intro l
    induction l with
    | nil =>
     intro vs Q' _ hv hq;rw [zbQ] at hv;subst hv;exact wpAny_pure hq
    | cons k r ihl =>
     intro vs Q' hd hv hq;rw [NK.depL] at hd;rw [zbQ] at hv;obtain⟨u,us,rfl,hu',hr⟩:=hv;rw [List.forIn_cons];refine wpAny_bind (wpAny_bind (ih k A u _ (by omega) hu' ?_));rw [zsA (by simp)];exact wpAny_pure (ihl us Q' (by omega) hr hq)
   obtain⟨o,ho,hc,m',hdt⟩:=id ht;refine wpAny_bind (wpAny_seqItems ho hdt (wpAny_bind ?_));show wpAny _ _ (forIn its.toArray _ _) _ _ _;rw [← Array.forIn_toList];exact loop l its _ (by omega) hi (wpAny_pure h)
noncomputable def zit (prog:Program) (w:World):HeapKind prog w NK where
 is:=fun h k a=>k.dep<=7/\IsN h k (.ref a)
 hash:=NK.hash
 draws:=NK.dr
 room:=fun A=>A.units+8<cLine
 inj:=fun hx hy=>zhO 7 _ _ _ hx.1 hx.2 hy.2
 keeps:=fun {h h' k a d o es ep} hx ho hd hs=>⟨hx.1,zi9 (fun b its ⟨o',e,c,n,q⟩=>⟨o',by
  rw [hs.2 b (by rintro rfl;rw [ho] at e;cases e;rw [hd] at q;cases q)];exact e,c,n,q⟩) 7 _ _ hx.1 hx.2⟩
 pyHash:=fun {A E s k a Q} hr hx h=>zmm 7 k A s _ Q hx.1 (by omega) hx.2 h
 eqBool:=fun {A E s x y a b Q} hr hx hy h=>zq1 7 x y A _ _ hx.1 (by omega) hx.2 hy.2 prog w E Q h
 quiet:=fun {A E s k a Q} hx h=>znY 8 k A _ Q (zsd hx.1 (by decide)) hx.2 h
end
mutual
def zbU (H:Hp):NK->V->Prop
 | .int i,v=>v=.int i
 | .tup l,v=>∃ a xs,v=.ref a/\H a=some (.tup xs)/\zaP H l xs
def zaP (H:Hp):List NK->List V->Prop
 | [],vs=>vs=[]
 | k::r,vs=>∃ u us,vs=u::us/\zbU H k u/\zaP H r us
end
theorem zbU.mono {H H':Hp} (kp:∀ a xs,H a=some (.tup xs)->H' a=some (.tup xs)):∀ (n:Nat) (x:NK) (v:V),x.dep<=n->zbU H x v->zbU H' x v:=by
 intro n
 induction n with
 | zero =>
  intro x v hd hx;cases x with
  | int i=>rw [zbU] at hx ⊢;exact hx
  | tup l=>rw [NK.dep] at hd;omega
 | succ n ih =>
  intro x v hd hx;cases x with
  | int i=>rw [zbU] at hx ⊢;exact hx
  | tup l =>
   rw [NK.dep] at hd;rw [zbU] at hx ⊢;obtain⟨a,its,rfl,ht,hi⟩:=hx;refine⟨a,its,rfl,kp _ _ ht,?_⟩;have key:∀ (l:List NK) (vs:List V),NK.depL l<=n->zaP H l vs->zaP H' l vs:=by
    intro l
    induction l with
    | nil=>intro vs _ h1;rw [zaP] at h1 ⊢;exact h1
    | cons k r ihl =>
     intro vs hd h1;rw [NK.depL] at hd;rw [zaP] at h1 ⊢;obtain⟨u,us,rfl,hu,hr⟩:=h1;exact⟨u,us,rfl,ih k u (by omega) hu,ihl us (by omega) hr⟩
   exact key l its (by omega) hi
theorem zfW {X:Cx} {pins:List (Addr × Obj)} {σ:St} {H:Hp} {s:Shared} (I:Inv X pins σ H s):∀ (n:Nat) (x:NK) (v:V) (u:Value),x.dep<=n->zbU H x v->zaY v u->IsN s.heap x u:=by
 intro n
 induction n with
 | zero =>
  intro x v u hd hx ru;cases x with
  | int i=>rw [zbU] at hx;subst hx;rw [IsN];exact ru
  | tup l=>rw [NK.dep] at hd;omega
 | succ n ih =>
  intro x v u hd hx ru;cases x with
  | int i=>rw [zbU] at hx;subst hx;rw [IsN];exact ru
  | tup l =>
   rw [NK.dep] at hd;rw [zbU] at hx;rw [IsN];obtain⟨a,xs,rfl,ht,hi⟩:=hx;cases ru;obtain⟨its,r,p,_⟩:=I.tuple (SqT.of ht);refine⟨a,its,rfl,p,?_⟩;have key:∀ (l:List NK) (vs:List V) (us:List Value),NK.depL l<=n->zaP H l vs->zaV vs us->zbQ s.heap l us:=by
    intro l
    induction l with
    | nil=>intro vs us _ h1 r;rw [zaP] at h1;subst h1;rw [zbQ];cases r;rfl
    | cons k q ihl =>
     intro vs us hd h1 r;rw [NK.depL] at hd;rw [zaP] at h1;rw [zbQ];obtain⟨u,ws,rfl,hu,hr⟩:=h1;cases r with
     | @cons _ b _ bs h t=>exact⟨b,bs,rfl,ih k u b (by omega) hu h,ihl ws bs (by omega) hr t⟩
   exact key l xs its (by omega) hi r
def zj1 (d:Addr) (xs:List (NK × Addr × Value)):Heap->Prop:=fun h=>∃ o es ep,h.get? d=some o/\o.ExactDict/\o.data=.dict es ep/\es.toList=xs.map fun x=>({ hash:=x.1.hash,key:=.ref x.2.1,val:=x.2.2 }:DictEntry)
theorem zks {P:Program} {w:World} {H:Hp} {h:Heap} {d:Addr} {xs:List (NK × Addr × Value)} (p:zj1 d xs h):zaQ P w H h d (.ext (zj1 d xs)):=by
 refine⟨p,?_,fun h1 h2 q k=>?_⟩
 ·obtain⟨o,_,_,e,_⟩:=p;exact⟨o,e⟩
 ·obtain⟨o,es,ep,e,r⟩:=q;exact⟨o,es,ep,k o e,r⟩
structure DNx (H:Hp) (d:Addr) (kvs:List (NK × Addr × V)):Prop where
 ex:∃ xs,H d=some (.ext (zj1 d xs))/\xs.map (fun x=>(x.1,x.2.1))=kvs.map (fun q=>(q.1,q.2.1))/\zaV (kvs.map (·.2.2)) (xs.map (·.2.2))
 ks:∀ q∈kvs,q.1.dep<=7/\zbU H q.1 (.ref q.2.1)
 nd:(kvs.map (·.1)).Nodup
 sz:kvs.length<=sizeLine
 sm:(d == sysModules)=false
theorem zka {X:Cx} {pins:List (Addr × Obj)} {σ:St} {H:Hp} {s:Shared} {d:Addr} {kvs:List (NK × Addr × V)} (I:Inv X pins σ H s) (D:DNx H d kvs) :
  ∃ xs,H d=some (.ext (zj1 d xs))/\xs.map (fun x=>(x.1,x.2.1))=kvs.map (fun q=>(q.1,q.2.1))/\zaV (kvs.map (·.2.2)) (xs.map (·.2.2))/\s.heap.DictOfH (zit X.prog X.w) d xs:=by
 obtain⟨xs,e,hk,hv⟩:=D.ex;refine⟨xs,e,hk,hv,?_⟩;obtain⟨⟨o,es,ep,h1,h2,h3,h4⟩,_,_⟩:=(show zaQ X.prog X.w H s.heap d (.ext (zj1 d xs)) from I.hok d _ e);refine⟨o,es,ep,h1,h2,h3,h4,fun x hx=>?_,?_⟩
 ·have:(x.1,x.2.1)∈kvs.map (fun q=>(q.1,q.2.1)):=by rw [← hk];exact zsg.2 ⟨x,hx,rfl⟩
  obtain⟨q,hq,e'⟩:=zsg.1 this;obtain⟨k1,k2⟩:=D.ks q hq;injection e' with e1 e2
  rw [e1] at k1 k2;rw [e2] at k2;exact⟨k1,zfW I 7 x.1 _ _ k1 k2 rfl⟩
 ·have:=congrArg (List.map (fun z:NK × Addr=>z.1)) hk
  rw [zsp,zsp] at this;have n:=D.nd;rw [show kvs.map (·.1)=kvs.map ((fun z:NK × Addr=>z.1) ∘ fun q=>(q.1,q.2.1)) from rfl,← this] at n
  exact n
section
variable {X:Cx} {pos:Pos}
def zpv:TE:=fun _ H Q=>∀ p H',H p=none->H'=upd H p (.ext (zj1 p []))->DNx H' p []->Q (.ref p) H'
theorem zdF:PE X (.Dict [] [] pos) zpv:=fun pins s σ H Q I h =>
 wpAny_Dict_empty ⟨.ref s.heap.objs.size,_,I.laid (a:=s.heap.objs.size) (o:=.ext (zj1 s.heap.objs.size [])) (t':=s.toks) (fun _ _ q=>zsb _ q) (zse _) (zks ⟨_,#[],0,zsx _ rfl,⟨rfl,rfl,rfl⟩,rfl,rfl⟩),rfl,
  h _ _ (I.hok.fresh (zse _)) rfl ⟨⟨[],zah,rfl,.nil⟩,(fun q hq=>by cases hq),List.nodup_nil,Nat.zero_le _,beq_eq_false_iff_ne.mpr (Ne.symm (zsG I.big))⟩⟩
theorem zc1 {xs:List (NK × Addr × Value)} {k:NK}:(atKey xs k).isSome=decide (k∈xs.map (·.1)):=by
 unfold atKey;rw [Option.isSome_map];by_cases h:k∈xs.map (·.1)
 ·rw [zr4 h];obtain⟨x,hx,rfl⟩:=zsg.1 h;exact List.find?_isSome.2 ⟨x,hx,zr4 rfl⟩
 ·rw [zr5 h];cases e:xs.find? (fun x=>decide (x.1=k)) with
  | none=>rfl
  | some x =>
   have e2:=List.find?_some e;exact (h (zsg.2 ⟨x,List.mem_of_find?_eq_some e,zsH e2⟩)).elim
def rInN:R2:=fun x y H Q=>∃ b d k kvs,x=.ref b/\y=.ref d/\k.dep<=7/\zbU H k (.ref b)/\DNx H d kvs/\Q (.bl (decide (k∈kvs.map (·.1)))) H
theorem zp5 {r:Nat} (hr:zcQ r X.A):OpR X (compareOp .In) rInN:=by
 intro pins s σ H x y v u Q I rx ry h;obtain⟨b,d,k,kvs,rfl,rfl,hk,hb,D,q⟩:=h;cases rx;cases ry;obtain⟨xs,e,hks,hv,dd⟩:=zka I D;refine wpAny_in_heap (knd:=zit X.prog X.w) (by show X.A.units+1+8<cLine;have:=hr.units;omega) ⟨hk,zfW I 7 k _ _ hk hb rfl⟩ D.sm dd ?_;have hkk:xs.map (·.1)=kvs.map (·.1):=by
  have:=congrArg (List.map (fun z:NK × Addr=>z.1)) hks
  rw [zsp,zsp] at this;exact this
 rw [zc1,hkk];exact⟨.bl _,H,I.tok _,rfl,q⟩
theorem zlx {xs:List (NK × Addr × Value)} {kvs:List (NK × Addr × V)} (h:xs.map (fun x=>(x.1,x.2.1))=kvs.map (fun q=>(q.1,q.2.1))):xs.map (·.1)=kvs.map (·.1):=by
 have:=congrArg (List.map (fun z:NK × Addr=>z.1)) h
 rw [zsp,zsp] at this;exact this
def zqW (td ty tv:TE):TS:=fun D σ H=>tv σ H fun v H1=>td σ H1 fun x H2=>ty σ H2 fun y H3=>∃ d b k kvs,x=.ref d/\y=.ref b/\k.dep<=7/\zbU H3 k (.ref b)/\DNx H3 d kvs/\k ∉ kvs.map (·.1)/\kvs.length<sizeLine /\
 ∀ H4:Hp,(∀ c u,H3 c=some u->c≠d->H4 c=some u)->(∀ c,H3 c=none->H4 c=none)->DNx H4 d (kvs++[(k,b,v)])->D.nx σ H4
theorem zmP {r:Nat} {o i value:Expr} {td ty tv:TE} {pos':Pos} (hr:zcQ r X.A) (ho:PE X o td) (hi:PE X i ty) (hv:PE X value tv) (hs:swapsWith value (some (.Subscript o i pos')) pos.line X.env=pure false) :
  PS X (.Assign [.Subscript o i pos'] value pos) (zqW td ty tv):=by
 intro pins s σ H D I h;refine wpAny_Assign_Subscript (thn (hv pins s σ H _ I h) fun rr s1 ⟨v,H1,I1,rv,q1⟩=>thn (ho pins s1 σ H1 _ I1 q1) fun u s2 ⟨x,H2,I2,rx,q2⟩=>thn (hi pins s2 σ H2 _ I2 q2) fun iv s3 ⟨y,H3,I3,ry,d,b,k,kvs,ex,ey,hk,hb,DD,hn,hl,q3⟩=>?_) hs;subst ex;subst ey;obtain rfl:u=Value.ref d:=rx;obtain rfl:iv=Value.ref b:=ry;obtain⟨xs,e,hks,hvv,dd⟩:=zka I3 DD;have hxl:xs.length=kvs.length:=by have:=congrArg List.length hks;simpa using this
 have hna:(atKey xs k).isSome=false:=by rw [zc1,zlx hks];exact zr5 hn
 refine wpAny_setItem_heap (knd:=zit X.prog X.w) (by show X.A.units+1+8<cLine;have:=hr.units;omega) ⟨hk,zfW I3 7 k _ _ hk hb rfl⟩ dd (fun h' dd' hsb=>?_) (by omega);rw [show storedH xs k b rr=xs++[(k,b,rr)] by unfold storedH;rw [hna,zsA zsI]] at dd';obtain⟨o',es,ep,g1,g2,g3,g4,g5,g6⟩:=dd';have new:zaQ X.prog X.w (upd H3 d (.ext (zj1 d (xs++[(k,b,rr)])))) h' d (.ext (zj1 d (xs++[(k,b,rr)]))):=zks ⟨o',es,ep,g1,g2,g3,g4⟩;have I4:=zef (t':=s3.toks+(zit X.prog X.w).draws k) I3 (by rw [e];exact True.intro) hsb ⟨o',g1⟩ new;refine⟨σ,_,I4,q3 _ (fun c u' ec ne=>by rw [zao ne];exact ec) (fun c ec=>by rw [zao (by rintro rfl;rw [e] at ec;cases ec)];exact ec) ?_⟩;have kp:∀ a xs',H3 a=some (.tup xs')->(upd H3 d (.ext (zj1 d (xs++[(k,b,rr)])))) a=some (.tup xs'):=fun a xs' ea=>by rw [zao (by rintro rfl;rw [e] at ea;cases ea)];exact ea
 refine⟨⟨_,zah,by rw [zr6,zr6,hks];rfl,?_⟩,fun q hq=>?_,?_,by rw [zr8];show kvs.length+1<=_;omega,DD.sm⟩
 ·rw [zr6,zr6];exact hvv.append (.cons rv .nil)
 ·rcases zr9.1 hq with hq | hq
  ·exact⟨(DD.ks q hq).1,zbU.mono kp 7 _ _ (DD.ks q hq).1 (DD.ks q hq).2⟩
  ·simp at hq
   subst hq;exact⟨hk,zbU.mono kp 7 _ _ hk hb⟩
 ·rw [zr6];exact List.nodup_append.2 ⟨DD.nd,by simp,fun a ha c hc=>by simp at hc;subst hc;rintro rfl;exact hn ha⟩
theorem znn:∀ {kvs:List (NK × Addr × V)} {xs:List (NK × Addr × Value)},xs.map (fun x=>(x.1,x.2.1))=kvs.map (fun q=>(q.1,q.2.1))->zaV (kvs.map (·.2.2)) (xs.map (·.2.2))->(kvs.map (·.1)).Nodup->∀ q∈kvs,∃ p,atKey xs q.1=some p/\zaY q.2.2 p.2
 | [],xs,_,_,_,q,hq=>by cases hq
 | q0::kvs,[],h,_,_,q,hq=>by cases h
 | q0::kvs,x0::xs,h,hv,nd,q,hq=>by
  rw [zsq,zsq] at h hv;rw [zsq] at nd;injection h with h0 h1
  injection h0 with h2 h3
  have nd':=List.nodup_cons.1 nd;cases hv with
  | cons r t =>
   rcases zsF.1 hq with rfl | hq
   ·exact⟨x0.2,by unfold atKey;rw [List.find?_cons,zr4 h2];rfl,r⟩
   ·obtain⟨p,hp,hr⟩:=znn h1 t nd'.2 q hq;refine⟨p,?_,hr⟩;unfold atKey at hp ⊢;rw [List.find?_cons,zr5 (fun z=>nd'.1 (zsg.2 ⟨q,hq,by rw [← z,h2]⟩))];exact hp
def zrv (td ty:TE):TE:=fun σ H Q=>td σ H fun x H1=>ty σ H1 fun y H2=>∃ d b kvs q,x=.ref d/\y=.ref b/\DNx H2 d kvs/\q∈kvs/\zbU H2 q.1 (.ref b)/\Q q.2.2 H2
theorem zm5 {r:Nat} {o i:Expr} {td ty:TE} (hr:zcQ r X.A) (ho:PE X o td) (hi:PE X i ty) (hs:zqN i):PE X (.Subscript o i pos) (zrv td ty):=by
 intro pins s σ H Q I h;refine zh7 PySem.F.slot_dict_getitem.lookup hs (thn (ho pins s σ H _ I h) fun u s1 ⟨x,H1,I1,rx,q1⟩=>thn (hi pins s1 σ H1 _ I1 q1) fun iv s2 ⟨y,H2,I2,ry,d,b,kvs,q,ex,ey,DD,hq,hb,q2⟩=>?_);subst ex;subst ey;obtain rfl:u=Value.ref d:=rx;obtain rfl:iv=Value.ref b:=ry;obtain⟨xs,e,hks,hvv,dd⟩:=zka I2 DD;obtain⟨p,hp,hrv⟩:=znn hks hvv DD.nd q hq;refine⟨dd.typeIs,wpAny_getItem_heap (knd:=zit X.prog X.w) (by show X.A.units+1+8<cLine;have:=hr.units;omega) ⟨(DD.ks q hq).1,zfW I2 7 q.1 _ _ (DD.ks q hq).1 hb rfl⟩ dd hp ?_⟩;exact⟨q.2.2,H2,I2.tok _,hrv,q2⟩
end
theorem DNx.sub {H H':Hp} {d:Addr} {kvs:List (NK × Addr × V)} (S:Sub H H') (h:DNx H d kvs):DNx H' d kvs :=
 ⟨h.ex.imp fun _ z=>⟨S _ _ z.1,z.2⟩,fun q hq=>⟨(h.ks q hq).1,zbU.mono (fun _ _ e=>S _ _ e) 7 _ _ (h.ks q hq).1 (h.ks q hq).2⟩,h.nd,h.sz,h.sm⟩
end L2
end
section
set_option autoImplicit true
open PySem
namespace L2
end L2
end
section
set_option autoImplicit true
open PySem PySem.Spec PyProof.Rows
namespace L2
variable {X:Cx}
def tCut (t u:TS):TS:=fun D σ H=>∃ R:St->Hp->Prop,t { D with nx:=R } σ H/\∀ σ' H',R σ' H'->u D σ' H'
theorem ziu {st:Stmt} {rest:List Stmt} {t u:TS} (h1:PS X st t) (h2:PSs X rest u):PSs X (st::rest) (tCut t u):=by
 intro pins s σ H D I ⟨R,h,hR⟩;refine wpAny_execs_cons (thn (h1 pins s σ H { D with nx:=R } I h) fun f s1 q=>?_);cases f with
 | next =>
  obtain⟨σ',H',I',q⟩:=q;exact h2 pins s1 σ' H' D I' (hR _ _ q)
 | ret v=>exact q
 | brk=>exact q
 | cont=>exact q
def zrs (t:TT):TT:=fun σ H Q=>∃ R:Bool->Hp->Prop,t σ H R/\∀ b H',R b H'->Q b H'
theorem zo9 {e:Expr} {t:TT} (h:PT X e t):PT X e (zrs t):=fun pins s σ H _ I ⟨R,h1,h2⟩ =>
 thn (h pins s σ H R I h1) fun _ _ ⟨H',I',q⟩=>⟨H',I',h2 _ _ q⟩
end L2
end
section
set_option autoImplicit true
open PySem PySem.Spec PyProof.Rows
namespace L2
end L2
end
section
namespace PySem
open Sem (wp)
theorem zgX:typeLookup (.type "tuple") "keys"=pure none:=by rw [typeLookup_type,builtinLookup_eq_fast];kernel_rfl
theorem zir:typeLookup (.type "tuple") "__getattr__"=pure none:=by rw [typeLookup_type,builtinLookup_eq_fast];kernel_rfl
section
variable {prog:Program} {w:World} {A:Around} {E:Value->Shared->Prop} {h:Heap} {g:Array GenState} {d:Drawn} {t:Nat} {os:OsState} {a:Addr} {o:Obj} {its:Array Value} {n:Nat}
theorem zeA {tk:Tok} {Q:Fin->Shared->Prop} (hh:A.handled=none) (hx:h.get? a=some { cls:=.type "tuple",data:=.seq its n })
  (hE:∀ h' tk' e,Heap.NewAttrErr h h' e (.ref a) "keys"->E (.ref e) ⟨h',g,d,tk',os⟩) :
  wpAny (model prog w) A (Builtin.«object.__getattribute__» ⟨[.ref a,.str "keys" tk],[]⟩) Q E ⟨h,g,d,t,os⟩:=by
 have hT:(⟨h,g,d,t,os⟩:Shared).TypeIs (.ref a) "tuple":=⟨_,hx,rfl⟩;have f4:=zgX
 repeat (any_goals (first | assumption | wp_step))
 exact wpAny_raiseAttrError hh hE (attrMsg_fits (by decide +kernel) (by decide +kernel))
theorem zfi {Q:Option Value->Shared->Prop} (hh:A.handled=none) (hx:h.get? a=some { cls:=.type "tuple",data:=.seq its n })
  (hQ:∀ h' tk,(∀ b ob,h.get? b=some ob->h'.get? b=some ob)->Q none ⟨h',g,d,tk,os⟩):wpAny (model prog w) A (getAttr? (.ref a) "keys") Q E ⟨h,g,d,t,os⟩:=by
 have hT:(⟨h,g,d,t,os⟩:Shared).TypeIs (.ref a) "tuple":=⟨_,hx,rfl⟩;have f1:=sub_AttributeError;have f2:=F.slot_tuple_getattribute.lookup;have f3:=F.slot_tuple_getattribute.bind (.ref a);have f5:=zir;unfold getAttr? getAttrBy? getAttrBy
 repeat (any_goals (first | assumption | wp_step))
 refine codeAny_call_builtin F.slot_tuple_getattribute.plain F.entry_tuple_ga (F.slot_tuple_getattribute.check _ _ _ _ _ _ _ _ (show (⟨h,g,d,t+1,os⟩:Shared).TypeIs (.ref a) "tuple" from ⟨_,hx,rfl⟩) (F.args_tuple_getattribute_2 _ _) (zeA (A:=A.in1) hh hx fun h' tk' e hx'=>?_));obtain⟨t',u',he⟩:=hx'.there;show wpAny _ _ (getattributeRaised _ _ _ _ _ _ _) _ _ _;unfold getattributeRaised
 repeat (any_goals (first | assumption | wp_step))
 exact hQ _ _ hx'.keeps
end
end PySem
namespace L2
open PySem PySem.Spec PyProof.Rows PySem.W
section
variable {prog:Program} {w:World} {K:Type} [DecidableEq K] {knd:PySem.KeyKind prog w K} {A:Around} {s:Shared} {R:Result->Shared->Prop}
theorem zlB {h0:Heap} {D l it:Addr} {its:List Value} {prs:List (K × Value)} (hA:A.handled=none) (nDi:D≠it) (nDl:l≠D) (nli:l≠it) (hlen:prs.length=its.length) (nd:(prs.map (·.1)).Nodup) (hsz:prs.length<=sizeLine)
  (hl:h0.IsTuple l its.toArray) (hp:zrx knd h0 D it its prs)
  (hR:∀ h' tk,(∀ b o,b≠D->b≠it->h0.get? b=some o->h'.get? b=some o)->h'.DictOf knd D prs->R (.ok (.ret .none)) { s with heap:=h',toks:=tk }) :
  ∀ (k i:Nat) (h:Heap) (tk:Nat),its.length-i=k->i<=its.length->h.IsTupleIter it l i->h.DictOf knd D (prs.take i)->(∀ b o,b≠D->b≠it->h0.get? b=some o->h.get? b=some o) ->
   codeAny (model prog w) A (.builtin "dict.update.loop" ⟨[.ref D,.ref it,rawInt (i:Int),.none],[]⟩) R { s with heap:=h,toks:=tk }:=by
 intro k
 induction k with
 | zero =>
  intro i h tk hk hi hit hD keep;have hin:i=its.length:=by omega
  refine codeAny_builtin zc7 ?_;rw [Around.under_plainId zbK _];show wpAny _ A.in1 (pyNext (.ref it) >>= _) _ _ _;refine wpAny_bind (wpAny_pyNext_tuple_end (s:={ s with heap:=h,toks:=tk }) (A:=A.in1) hA hit (show h.IsTuple l its.toArray from (let ⟨o,e,r⟩:=hl;⟨o,keep l o nDl nli e,r⟩)) (by simp;omega) fun h' eb=>?_);refine wpAny_bind (wpAny_pure (wpAny_pure (hR h' tk (fun b o h1 h2 e=>eb b o h2 (keep b o h1 h2 e)) ?_)));rw [hin,← hlen,zsj] at hD;exact let ⟨o,es,ep,e,r⟩:=hD;⟨o,es,ep,eb D o nDi e,r⟩
 | succ k ih =>
  intro i h tk hk hi hit hD keep;have hlt:i<its.length:=by omega
  obtain⟨b,key,q,o,c,eu,nb1,nb2,hq,hkey,hb,hc,hd⟩:=hp i its[i] (zr0 hlt);refine codeAny_builtin zc7 ?_;rw [Around.under_plainId zbK _];show wpAny _ A.in1 (pyNext (.ref it) >>= _) _ _ _;refine wpAny_bind (wpAny_pyNext_tuple_item (s:={ s with heap:=h,toks:=tk }) (A:=A.in1) hit (show h.IsTuple l its.toArray from (let ⟨o,e,r⟩:=hl;⟨o,keep l o nDl nli e,r⟩)) (x:=.ref b) (by rw [← eu];simp [hlt]) fun h1 hit1 sb1=>?_);have hb1:h1.get? b=some o:=(sb1.2 b nb2).trans (keep b o nb1 nb2 hb);have hD1:h1.DictOf knd D (prs.take i):=let ⟨o,es,ep,e,r⟩:=hD;⟨o,es,ep,(sb1.2 D nDi).trans e,r⟩;dsimp only;refine wpAny_bind (wpAny_holding (wpAny_bind (wpAny_tryCatch ?_)));unfold Builtin.Dict.pairItems;refine wpAny_bind (wpAny_typeOf (T:="tuple") ⟨o,hb1,hc⟩ ?_);rw [zsB (by decide)];refine wpAny_bind ?_;unfold seqItems?;refine wpAny_bind (wpAny_load hb1 ?_);rw [hd];refine wpAny_pure (wpAny_pure ?_);show wpAny _ _ (holding [key,q.2] (dictSet D key q.2)) _ _ _;refine wpAny_holding (wpAny_dictSet_pairs hkey hD1 (fun h2 hD2 sb2=>?_) (by rw [zsm];omega));refine wpAny_pure ⟨plainId_quiet zbK _,?_⟩;have est:stored (prs.take i) q.1 q.2=prs.take (i+1):=by
   unfold stored;have nin:((prs.take i).any fun kv=>decide (kv.1=q.1))=false:=by
    rw [List.any_eq_false];intro kv hkv;obtain⟨j,hj⟩:=List.mem_iff_getElem?.1 hkv;rw [List.getElem?_take] at hj;split at hj
    ·rename_i hji;intro z;have z:kv.1=q.1:=zsH z;have e1:(prs.map (·.1))[j]?=some q.1:=by rw [zrZ,hj];simp [z]
     have e2:(prs.map (·.1))[i]?=some q.1:=by rw [zrZ,hq];rfl
     obtain⟨a1,a2⟩:=zr2.1 e1;obtain⟨b1,b2⟩:=zr2.1 e2
     have:=(List.getElem_inj nd).1 (a2.trans b2.symm)
     omega
    ·cases hj
   rw [zsA (by rw [nin];simp),zsk,hq]
   rfl
  rw [est] at hD2;have sb2:Heap.SameBut D h1 h2:=sb2
  have:=ih (i+1) h2 (tk+1) (by omega) hlt (hit1.at fun o e=>(sb2.2 it (Ne.symm nDi)).trans e) hD2 fun b o h1' h2' e=>(sb2.2 b h1').trans ((sb1.2 b h2').trans (keep b o h1' h2' e))
  exact this
end
section
variable {X:Cx}
def znI:List V->Hp->VK->Prop:=fun xs H Q=>match xs with
 | [.ref l]=>∃ (as:List Addr) (kvs:List (Int × V)),H l=some (.tup (as.map V.ref))/\za6 (fun b q=>H b=some (tI q)) as kvs/\(kvs.map (·.1)).Nodup/\∀ d,H d=none->Q (.ref d) (upd H d (.dK (dcI kvs)))
 | _=>False
theorem zoK (hc:X.calm=true):za9 X (.type "dict") znI:=by
 intro pins s σ H xs us Q I r h;unfold znI at h;split at h
 ·rename_i l;obtain⟨as,kvs,hl,hA,nd,q⟩:=h;cases r with
  | cons r rr =>
  cases rr;cases r;obtain⟨z,its,rel,o0,he,_,n,_,ho0⟩:=(show zaQ X.prog X.w H s.heap l (.tup (as.map V.ref)) from I.hok l _ hl);subst ho0;have hits:=zhg rel;subst hits;have hal:=hA.1;have tup:∀ (i:Nat) (a:Addr),as[i]?=some a->∃ (qv:Int × V) (t:Tok) (x:Value) (o:Obj) (c:Nat),kvs[i]?=some qv/\zaY qv.2 x/\s.heap.get? a=some o/\o.cls=.type "tuple"/\o.data=.seq #[.int qv.1 t,x] c:=fun i a ha=>by
   obtain⟨qv,h1,h2⟩:=hA.at ha;obtain⟨_,its,rv,o,e1,e2,c,e3,_⟩:=(show zaQ X.prog X.w H s.heap a (.tup [.int qv.1,qv.2]) from I.hok a _ h2);cases rv with
   | cons r1 r2 =>
    obtain⟨t,rfl⟩:=r1;cases r2 with
    | cons r3 r4 =>
     cases r4;exact⟨qv,t,_,o,c,h1,r3,e1,e2,e3⟩
  have mk:∀ (as:List Addr) (kvs:List (Int × V)),as.length=kvs.length->(∀ (i:Nat) (a:Addr),as[i]?=some a->∃ (qv:Int × V) (t:Tok) (x:Value) (o:Obj) (c:Nat),kvs[i]?=some qv/\zaY qv.2 x/\s.heap.get? a=some o/\o.cls=.type "tuple"/\o.data=.seq #[.int qv.1 t,x] c) ->
    ∃ prs:List (Key × Value),KV (dcI kvs) prs/\∀ (i:Nat) (a:Addr),as[i]?=some a->∃ (key:Value) (q:Key × Value) (o:Obj) (c:Nat),prs[i]?=some q/\zez q.1 key=true/\s.heap.get? a=some o/\o.cls=.type "tuple"/\o.data=.seq #[key,q.2] c:=by
   intro as
   induction as with
   | nil =>
    intro kvs hl _;cases kvs with
    | nil=>exact⟨[],.nil,fun i a ha=>by simp at ha⟩
    | cons q r=>simp at hl
   | cons a as ih =>
    intro kvs hl ht;cases kvs with
    | nil=>simp at hl
    | cons q kvs =>
     obtain⟨qv,t,x,o,c,h1,h2,h3⟩:=ht 0 a rfl;cases h1;obtain⟨prs,k1,k2⟩:=ih kvs (by simpa using hl) fun i a ha=>ht (i+1) a ha
     refine⟨(.inl q.1,x)::prs,.cons ⟨rfl,h2⟩ k1,fun i b hb=>?_⟩;cases i with
     | zero=>cases hb;exact⟨.int q.1 t,_,o,c,rfl,(show zez (.inl q.1) (.int q.1 t)=true from zeL X.prog X.w q.1 t),h3⟩
     | succ i=>exact k2 i b hb
  obtain⟨prs,rk,hprs⟩:=mk as kvs hal tup;have hpl:kvs.length=prs.length:=by rw [← zjo rk,zrY]
  have ndp:(prs.map (·.1)).Nodup:=by
   have e:prs.map (·.1)=kvs.map fun q=>(Sum.inl q.1:Key):=by
    have:∀ {l:List (Key × V)} {m:List (Key × Value)},KV l m->m.map (·.1)=l.map (·.1):=by
     intro l m r
     induction r with
     | nil=>rfl
     | @cons p q ps qs hp t ih=>rw [zsq,zsq,ih,hp.1]
    rw [this rk,zsp]
    rfl
   rw [e,show (kvs.map fun q=>(Sum.inl q.1:Key))=(kvs.map (·.1)).map Sum.inl by rw [zsp];rfl]
   exact List.pairwise_map.2 (nd.imp fun h e=>h (Sum.inl.inj e))
  have hsz:prs.length<=sizeLine:=by rw [← hpl,← hal];rw [zrY] at z;exact z
  refine callType_codes (Q₁:=fun obj s₁=>obj=.ref s.heap.objs.size/\s₁={ s with heap:=s.heap.push { cls:=.type "dict",data:=.dict #[] } }) F.kt_called_dict (F.kt_typeCall_dict_1 _) F.entry_dict_init (kt_code_dict_new _ ⟨rfl,rfl⟩) ?_;rintro obj s₁ ⟨rfl,rfl⟩;have hnew:(s.heap.push { cls:=.type "dict",data:=.dict #[] }).DictOf (zaB X.prog X.w) s.heap.objs.size []:=Heap.DictOf.new s.heap;have he1:(s.heap.push { cls:=.type "dict",data:=.dict #[] }).get? l=some { cls:=.type "tuple",data:=.seq (as.map Value.ref).toArray n }:=zsb _ he;refine⟨hnew.typeIs,F.args_dict_init_2 _ _,?_⟩;unfold Builtin.«dict.__init__»;refine wpAny_bind ?_;unfold Builtin.Dict.selfAndRest;refine wpAny_bind (wpAny_notOrdered_dict hnew.typeIs ?_);show wpAny _ _ (pure (s.heap.objs.size,[Value.ref l])) _ _ _;refine wpAny_pure ?_;show wpAny _ _ (Builtin.Dict.updateFrom "dict.__init__" s.heap.objs.size (.ref l) [] .none) _ _ _;unfold Builtin.Dict.updateFrom;refine wpAny_bind (wpAny_typeOf (T:="tuple") ⟨_,he1,rfl⟩ ?_);rw [zsB (by decide)];refine wpAny_bind (zfi (I.ok.hd hc) he1 fun h2 tk2 k2=>?_);rw [zsB (by rfl)];refine wpAny_bind (wpAny_rule ?_);have he2:=k2 _ _ he1;have hl2:h2.IsTuple l (as.map Value.ref).toArray:=⟨_,he2,rfl,_,rfl⟩;have hnew2:h2.DictOf (zaB X.prog X.w) s.heap.objs.size []:=let ⟨o,es,ep,e,r⟩:=hnew;⟨o,es,ep,k2 _ _ e,r⟩;have hDlt:s.heap.objs.size<h2.objs.size:=let ⟨o,es,ep,e,r⟩:=hnew2;zso e;refine wpAny_bind (wpAny_pyIter_tuple hl2 ?_);refine wpAny_pure ⟨plainId_quiet zbK _,?_⟩;have kp:∀ b o,h2.get? b=some o->(h2.push { cls:=.type "tuple_iterator",data:=.fields #[.ref l,.int 0 0] }).get? b=some o:=fun b o e=>zsb _ e
  have hlD:l≠s.heap.objs.size:=zsG (zso he);have hli:l≠h2.objs.size:=zsG (zso he2);have k02:∀ b o,s.heap.get? b=some o->h2.get? b=some o:=fun b o e=>k2 _ _ (zsb _ e)
  refine zlB (A:=X.A.in1) (s:=s) (h0:=h2) (knd:=zaB X.prog X.w) (prs:=prs) (its:=as.map Value.ref) (I.ok.hd hc) (zsG hDlt) hlD hli (by rw [zrY,hal,hpl]) ndp hsz hl2 (fun i u hu=>?_) (fun h' tk keep hD=>?_) _ 0 _ _ rfl (Nat.zero_le _) ⟨_,zsx _ rfl,rfl,rfl⟩ ?_ fun b o _ _ e=>kp b o e
  ·rw [zrZ] at hu;obtain⟨a,ha,rfl⟩:=zr1.1 hu;obtain⟨key,qv,o,c,f1,f2,f3,f4,f5⟩:=hprs i a ha;exact⟨a,key,qv,o,c,rfl,zsG (zso f3),zsG (zso (k02 a o f3)),f1,f2,k02 a o f3,f4,f5⟩
  ·refine⟨rfl,.ref s.heap.objs.size,_,I.laid (a:=s.heap.objs.size) (o:=.dK (dcI kvs)) (h':=h') (t':=tk) (fun b u e=>keep b u (zsG (zso e)) (zsG (zso (k02 b u e))) (k02 b u e)) (zse _) ?_,rfl,q _ (I.hok.fresh (zse _))⟩;exact ziL (by rw [zrY,hpl];exact hsz) (beq_eq_false_iff_ne.mpr (Ne.symm (zsG I.big))) rk hD
  ·exact let ⟨o,es,ep,e,r⟩:=hnew2;⟨o,es,ep,kp _ _ e,r⟩
 ·exact h.elim
end
end L2
end
section
namespace L2
open PySem PySem.Spec PyProof.Rows PySem.W
section
variable {X:Cx}
end
section
variable {X:Cx} {K:PySem.W.Frag} {e st:Expr} {te:TE} {ts:TO} {pos p2:Pos}
end
theorem zod {H:Hp} {p:Addr} (h:H p=some (.lst [])):Den H (.ref p) (.lst []):=by rw [Den];exact⟨_,_,rfl,h,rfl⟩
end L2
end
section
namespace L2
open PySem PySem.Spec PyProof.Rows
section
variable {X:Cx} {sc:Scope} {own:List Str} {fr:List Nat} {pins:List (Addr × Obj)} {σ:St} {H:Hp} {s:Shared} {y:Str}
end
section
variable {X:Cx} {sc:Scope} {own:List Str} {fr:List Nat} {e tg iter:Expr} {ifs:List Expr} {emit:Env->Addr->Sem Unit} {wi:TI} {g:TG} {tc:TT} {tm:TM} {acc:HO} {y:Str}
end
section
variable {X:Cx} {sc:Scope} {own:List Str} {fr:List Nat} {e tg iter:Expr} {ifs:List Expr} {emit:Env->Addr->Sem Unit} {wi:TI} {g:TG} {tc:TT} {tm:TM} {acc:HO} {y:Str} {newAcc:Sem Value} {pos:Pos}
end
section
variable {X:Cx} {sc:Scope} {own:List Str} {fr:List Nat} {elt tg iter:Expr} {ifs:List Expr} {wi:TI} {g:TG} {tc:TT} {te:TE} {pos:Pos} {y:Str}
end
end L2
end
section
namespace L2
open PySem PySem.Spec PyProof.Rows PySem.W
end L2
end
section
namespace L2
open PySem PySem.Spec PyProof.Rows PySem.W
section
variable {prog:Program} {w:World} {A:Around} {E:Value->Shared->Prop} {s:Shared}
end
section
variable {prog:Program} {w:World} {A:Around} {s:Shared} {R:Result->Shared->Prop} {its:Array Value}
end
section
variable {prog:Program} {w:World} {A:Around} {E:Value->Shared->Prop} {s:Shared} {its:Array Value}
end
section
variable {prog:Program} {w:World} {A:Around} {E:Value->Shared->Prop} {s:Shared}
end
section
variable {X:Cx} {K:PySem.W.Frag}
end
end L2
end
section
set_option autoImplicit true
open PySem
namespace L2
end L2
end
section
set_option autoImplicit true
open PySem
namespace L2
end L2
end
section
set_option autoImplicit false
open PySem PySem.Spec PyProof.Rows
namespace L2
structure znO (e:Expr) (d:Nat) (tg iter:Expr) (ifs:List Expr) (emit:Env->Addr->Sem Unit):Prop where
 under:∀ (A:Around) it acc env,A.under (.compLoop e d it acc env)=A
 den:∀ (prog:Program) (w:World) it acc env,(model prog w).den (.compLoop e d it acc env)=((compTurn e d it acc env).onRaise (fun x=>do noteFrame x env;theTreesLotGoes x))
 turn:∀ it D env,compTurn e d it (.ref D) env=(do
   standAt iter.pos
   match ← pyNext it with
   | none=>pure (.done .next)
   | some v =>
    letOwnedTupleGo tg it v
    assign tg env v
    let mut ok:=true
    for c in ifs do
     if ok then ok ← isTrue c env (eval c env)
    if ok then
     emit env D
    again (.compLoop e d it (.ref D) env))
 start:∀ (prog:Program) (w:World) (A:Around) (R:Result->Shared->Prop) (s:Shared) it acc env,codeAny (model prog w) A (.compLoop e d it acc env) R s ->
  wpAny (model prog w) A (pyIter it) (fun it' s'=>codeAny (model prog w) A (.compLoop e d it' acc env) R s') (notedBy (model prog w) A env fun x s'=>R (.error x) s') s ->
  codeAny (model prog w) A (.compStart e d it acc env) R s
section
variable {Y:Cx} {e tg iter:Expr} {d:Nat} {ifs:List Expr} {emit:Env->Addr->Sem Unit} {wi:TI} {g:TG} {tc:TT} {tm:TM}
theorem zjL (F:znO e d tg iter ifs emit) (hc:Y.calm=true) (hx:Y.xe=fun _ _=>False) {fp:List Addr} {it D:Addr} {tn:Nat->Heap->Prop} {J:It} {R:Result->Shared->Prop} {s:Shared} {pins:List (Addr × Obj)}
  (hg:PG Y tg g) (ht:PTs Y ifs tc) (hm:PM Y emit tm)
  (T:znf Y.prog Y.w Y.K tg J fp it tn) (hfp:∀ b∈fp,∀ H':Hp,H' b=none->zkj Y pins H' b)
  (W:Nat->Nat->St->Hp->Prop) {Q:St->Hp->Prop} (turn:∀ i m σ' H',W i m σ' H'->(J.stop i H'/\Q σ' H')\/(J.go i H'/\∃ N:St->Hp->Prop,(∀ σ2 H2,N σ2 H2->∃ m',m'<m/\W (i+1) m' σ2 H2)/\∀ x H2,J.yld i H' x H2->g x σ' H2 fun σ3 H3=>tc σ3 H3 fun b H4 =>
   if b=true then tm D σ3 H4 (N σ3) else N σ3 H4))
  (hR:∀ σ' H' s',Inv Y pins σ' H' s'->Q σ' H'->R (.ok .next) s')
  {m0:Nat} {σ0:St} {H0:Hp} (I0:Inv Y pins σ0 H0 s) (st0:tn 0 s.heap) (fr0:∀ b∈fp,H0 b=none) (w0:W 0 m0 σ0 H0) :
  codeAny (model Y.prog Y.w) Y.A (.compLoop e d (.ref it) (.ref D) Y.env) R s:=by
 have stat:∀ {H':Hp},(∀ b∈fp,H' b=none)->∀ b∈fp,zkj Y pins H' b:=fun hn b hb=>hfp b hb _ (hn b hb)
 refine codeAny_loop rfl (fun n s'=>∃ i σ' H',Inv Y pins σ' H' s'/\tn i s'.heap/\(∀ b∈fp,H' b=none)/\W i n σ' H') (fun n s hI=>?_) m0 ⟨0,σ0,H0,I0,st0,fr0,w0⟩;rw [F.under,F.den];refine wpAny_noted ?_;rw [F.turn];obtain⟨i,σ3,H3,I3,st3,fr3,w3⟩:=hI;have lift:∀ {α:Type} {t:Sem α} {Q':α->Shared->Prop} {E:Value->Shared->Prop} {s:Shared},wpAny (model Y.prog Y.w) Y.A t Q' Y.xe s->wpAny (model Y.prog Y.w) Y.A t Q' E s:=fun h=>wpAny_mono h (fun _ _ q=>q) fun _ _ z=>by rw [hx] at z;exact z.elim
 refine wpAny_bind (wpAny_standAt (wpAny_bind ?_));rcases turn i n σ3 H3 w3 with ⟨stop,qn⟩ | ⟨go,N,hN,step⟩
 ·refine lift (thn (T.done Y rfl rfl rfl hc i pins s σ3 H3 Y.xe I3 (stat fr3) st3 stop) fun r s4 ⟨hr,I4⟩=>?_);subst hr;exact wpAny_pure (hR σ3 H3 s4 I4 qn)
 ·refine lift (thn (T.item Y rfl rfl rfl hc i pins s σ3 H3 Y.xe I3 (stat fr3) st3 go) fun r s4 ⟨u,hr,h4⟩=>?_);subst hr;refine wpAny_bind (lift (thn h4 fun _ s5 ⟨x,H5,I5,r5,y5,st5,fr5⟩=>?_));have I5':=I5.pinned (stat fr5) (T.obj _ _ st5);refine wpAny_bind (lift (thn (hg _ s5 σ3 H5 x u _ I5' r5 (step x H5 y5)) fun _ s6 ⟨σ6,H6,I6,q6⟩=>?_));refine wpAny_bind (lift (thn (ht _ s6 σ6 H6 _ I6 q6) fun ok s7 ⟨H7,I7,q7⟩=>?_));have again:∀ {σ8:St} {H8:Hp} {s8:Shared},Inv Y (pins++zfR fp s5.heap) σ8 H8 s8->(∃ m',m'<n/\W (i+1) m' σ8 H8)->∃ m,m<n/\∃ i σ' H',Inv Y pins σ' H' s8/\tn i s8.heap/\(∀ b∈fp,H' b=none)/\W i m σ' H':=fun {σ8 H8 s8} I8 ⟨m',hm',w8⟩=>by
   refine⟨m',hm',i+1,σ8,H8,I8.unpinned,T.keep _ _ _ st5 fun b hb o e=>(I8.pin (b,o) (zsv _ (zsv _ (zbX hb e)))).1,fun b hb=>?_,w8⟩;obtain⟨o,e,_⟩:=T.obj _ _ st5 b hb;exact (I8.pin (b,o) (zsv _ (zsv _ (zbX hb e)))).2.1
  cases ok with
  | false=>exact wpAny_pure ⟨rfl,again I7 (hN _ _ q7)⟩
  | true =>
   refine wpAny_bind (lift (thn (hm _ s7 σ6 H7 D _ I7 q7) fun _ s8 ⟨H8,I8,q8⟩=>?_));exact wpAny_pure ⟨rfl,again I8 (hN _ _ q8)⟩
def zmz (e:Expr) (d:Nat) (iter:Expr):Env->Addr->Sem Unit:=fun env D=>do
 let x ← eval iter env
 standAt iter.pos
 let x ← foldedSetIterable iter env x
 let _ ← runOwn (.compStart e d (← holding [x] (pyIter x)) (.ref D) env) env
def Wkn (σ σ':St):Prop:=σ.length=σ'.length/\∀ (i:Nat) v,σ[i]?=some (some v)->σ'[i]?=some (some v)
def zpr (wi:TI) (g:TG) (tc:TT) (tm:TM):TM:=fun p σ H Q=>wi σ H fun J H1=>∃ W:Nat->Nat->St->Hp->Prop,(∃ m,W 0 m σ H1) /\
 ∀ i m σ' H',W i m σ' H'->(J.stop i H'/\Wkn σ σ'/\Q H')\/(J.go i H'/\∃ N:St->Hp->Prop,(∀ σ2 H2,N σ2 H2->∃ m',m'<m/\W (i+1) m' σ2 H2)/\∀ x H2,J.yld i H' x H2->g x σ' H2 fun σ3 H3=>tc σ3 H3 fun b H4 =>
   if b=true then tm p σ3 H4 (N σ3) else N σ3 H4)
theorem zoF (F:znO e d tg iter ifs emit) (hc:Y.calm=true) (hx:Y.xe=fun _ _=>False) (hi:PI Y tg iter wi) (hg:PG Y tg g) (ht:PTs Y ifs tc) (hm:PM Y emit tm) (hs:∀ x,foldedSetIterable iter Y.env x=pure x):PM Y (zmz e d iter) (zpr wi g tc tm):=by
 intro pins s σ H D Q I h;unfold zmz;refine wpAny_bind (thn (hi pins s σ H _ I h) fun v s1 h1=>?_);refine wpAny_bind (wpAny_standAt ?_);rw [hs];refine wpAny_bind (wpAny_pure ?_);refine wpAny_bind (wpAny_holding (thn h1 fun itv s2 h2=>?_));obtain⟨it,fp,tn,J,H2,e2,I2,T,st2,f2,W,⟨m0,w0⟩,turn⟩:=h2;subst e2;refine wpAny_bind (wpAny_runOwn ?_);have loop:codeAny (model Y.prog Y.w) Y.A (.compLoop e d (.ref it) (.ref D) Y.env) (fun r s'=>match r with | .ok f=>wpAny (model Y.prog Y.w) Y.A (pure ()) (fun _ s'=>∃ H',Inv Y pins σ H' s'/\Q H') Y.xe s' | .error x=>cameBackBy (model Y.prog Y.w) Y.A Y.env Y.xe x s') s2 :=
  zjL F hc hx hg ht hm T (fun b hb H' hn=>⟨hn,(f2 b hb).2⟩) W (Q:=fun σ' H'=>Wkn σ σ'/\Q H') turn (fun σ' H' s' I' ⟨wk,q⟩=>wpAny_pure ⟨H',I'.weak wk.1 wk.2,q⟩) I2 st2 (fun b hb=>(f2 b hb).1) w0
 exact F.start _ _ _ _ _ _ _ _ loop (T.self _ _ _ _ _ st2 loop)
end
theorem zeo {prog:Program} {w:World} {A:Around} {R:Result->Shared->Prop} {s:Shared} {elt:Expr} {gs:List Comprehension} {sc:Scope} {pos:Pos} {d:Nat} {it acc:Value} {env:Env} {g0:Comprehension} (hd:gs[d]?=some g0) (ha:g0.is_async=0)
  (h0:codeAny (model prog w) A (.compLoop (.ListComp elt gs sc pos) d it acc env) R s)
  (h:wpAny (model prog w) A (pyIter it) (fun it' s'=>codeAny (model prog w) A (.compLoop (.ListComp elt gs sc pos) d it' acc env) R s') (notedBy (model prog w) A env fun x s'=>R (.error x) s') s) :
  codeAny (model prog w) A (.compStart (.ListComp elt gs sc pos) d it acc env) R s:=by
 refine codeAny_of_tree ?_;show wpAny _ _ ((compStart (.ListComp elt gs sc pos) d it acc env).onRaise (fun x=>do noteFrame x env;standAt theWindowsPlace)) _ _ s;refine wpAny_notedAt ?_;unfold compStart;have hcl:(clausesOf (.ListComp elt gs sc pos))[d]?=some g0:=hd;rw [hcl];have hz:((some g0:Option Comprehension).elim false fun x=>x.is_async != 0)=false:=by
  show (g0.is_async != 0)=false;rw [ha]
  rfl
 rw [hz];simp only [Bool.false_eq_true,if_false];refine wpAny_bind (wpAny_askSetting (wpAny_ite ?_));split
 ·first
   | exact wpAny_pure ⟨rfl,h0⟩
   | exact wpAny_bind (wpAny_pure (wpAny_pure ⟨rfl,h0⟩))
 ·refine wpAny_bind (wpAny_rule ?_);refine wpAny_bind (wpAny_standAt ?_);exact wpAny_bind (wpAny_mono h (fun it' s' q=>wpAny_pure ⟨rfl,q⟩) fun _ _ z=>z)
theorem zjS {elt tg iter tg2 iter2:Expr} {ifs ifs2:List Expr} {more:List Comprehension} {sc:Scope} {pos:Pos} :
  zcp (.ListComp elt (⟨tg,iter,ifs,0⟩::⟨tg2,iter2,ifs2,0⟩::more) sc pos) tg iter ifs (zmz (.ListComp elt (⟨tg,iter,ifs,0⟩::⟨tg2,iter2,ifs2,0⟩::more) sc pos) 1 iter2) :=
 ⟨⟨_,rfl⟩,fun _ _ _ _=>rfl,fun _ _ _ _ _=>rfl,fun it D env=>by
  unfold compTurn zmz;simp only [List.getElem?_cons_zero,List.getElem?_cons_succ,bind_assoc,pure_bind]
  rfl,fun _ _ _ _ _ _ _ _ h0 h=>zeo rfl rfl h0 h⟩
theorem zj4 {elt tg2 iter2:Expr} {ifs2:List Expr} {gs:List Comprehension} {sc:Scope} {pos:Pos} {d:Nat} (hd:gs[d]?=some ⟨tg2,iter2,ifs2,0⟩) (hl:gs[d+1]?=none) :
  znO (.ListComp elt gs sc pos) d tg2 iter2 ifs2 (zmx elt) :=
 ⟨fun _ _ _ _=>rfl,fun _ _ _ _ _=>rfl,fun it D env=>by
  unfold compTurn;simp only [hd,hl]
  rfl,fun _ _ _ _ _ _ _ _ h0 h=>zeo hd rfl h0 h⟩
def tLC2 (wi:TI) (n:Nat) (fr:List Nat) (g:TG) (tc:TT) (tm:TM):TE:=fun σ H Q=>zf0 (.lst []) wi n fr g tc tm σ H fun p H'=>Q (.ref p) H'
section
variable {X:Cx} {sc:Scope} {own:List Str} {fr:List Nat} {elt tg iter tg2 iter2 tg3 iter3:Expr} {ifs ifs2 ifs3:List Expr} {wi wi2 wi3:TI} {g g2 g3:TG} {tc tc2 tc3:TT} {te:TE} {pos:Pos}
theorem zpt (hc:X.calm=true) (S:zaU X sc fr) (hi:PI X tg iter wi)
  (hg:∀ C s₀ H₀ fp,PG (zaE X sc own fr C s₀ H₀ fp) tg g) (ht:∀ C s₀ H₀ fp,PTs (zaE X sc own fr C s₀ H₀ fp) ifs tc)
  (hi2:∀ C s₀ H₀ fp,PI (zaE X sc own fr C s₀ H₀ fp) tg2 iter2 wi2) (hg2:∀ C s₀ H₀ fp,PG (zaE X sc own fr C s₀ H₀ fp) tg2 g2) (ht2:∀ C s₀ H₀ fp,PTs (zaE X sc own fr C s₀ H₀ fp) ifs2 tc2)
  (he:∀ C s₀ H₀ fp,PE (zaE X sc own fr C s₀ H₀ fp) elt te)
  (hs:∀ x,foldedSetIterable iter X.env x=pure x:=by intro _;rfl) (hs2:∀ (env:Env) x,foldedSetIterable iter2 env x=pure x:=by intro _ _;rfl) :
  PE X (.ListComp elt [⟨tg,iter,ifs,0⟩,⟨tg2,iter2,ifs2,0⟩] sc pos) (tLC2 wi own.length fr g tc (zpr wi2 g2 tc2 (zqY te))):=by
 intro pins s σ H Q I h;rw [eval_ListComp];exact zea zjS hc S hi ze0 hg ht (fun _ _ _ _=>zoF (zj4 rfl rfl) hc rfl (hi2 _ _ _ _) (hg2 _ _ _ _) (ht2 _ _ _ _) (zib (he _ _ _ _)) (hs2 _)) hs I h
end
end L2
end
section
namespace L2
open PySem PySem.Spec PyProof.Rows PySem.W
section
variable {X:Cx}
end
section
variable {prog:Program} {w:World} {A:Around} {E:Value->Shared->Prop} {s:Shared}
end
section
variable {X:Cx} {K:PySem.W.Frag}
theorem zmV {a:Expr} {ta:TA} {p pos:Pos} {elts:List Expr} {x1:Nat} {tp:Pos} (hK:X.K=K) (hg:Gl X "enumerate") (hm:X.mg "enumerate"=none) (ha:PA X [a] ta) (hs:starEach [a] X.env=[(false,eval a X.env)]:=by rfl):PI X (.Tuple elts x1 tp) (.Call (.Name "enumerate" p) [a] [] pos) (zqD K ta):=by
 subst hK;exact zd6 hg hm ha hs
end
section
variable {K:PySem.W.Frag} {a:Addr} {xs:List V} {g:TG} {tc:TT} {tm:TM} {σ:St} {H:Hp} {p:Addr} {Q:Hp->Prop}
theorem zld (Pv:Nat->St->Hp->Prop) (h0:Pv 0 σ H) (hl:∀ i σ H,i<=xs.length->Pv i σ H->SqL K H a xs)
  (hs:∀ i x σ H pp,xs[i]?=some x->Pv i σ H->H pp=none->g (.ref pp) σ (upd H pp (.tup [.int i,x])) fun σ3 H3=>tc σ3 H3 fun b H4=>if b=true then tm p σ3 H4 (Pv (i+1) σ3) else Pv (i+1) σ3 H4) (hd:∀ σ' H',Pv xs.length σ' H'->Wkn σ σ'/\Q H') :
  ∃ W:Nat->Nat->St->Hp->Prop,(∃ m,W 0 m σ H) /\
  ∀ i m σ' H',W i m σ' H'->((Ite K a).stop i H'/\Wkn σ σ'/\Q H')\/((Ite K a).go i H'/\∃ N:St->Hp->Prop,(∀ σ2 H2,N σ2 H2->∃ m',m'<m/\W (i+1) m' σ2 H2)/\∀ x H2,(Ite K a).yld i H' x H2->g x σ' H2 fun σ3 H3=>tc σ3 H3 fun b H4 =>
   if b=true then tm p σ3 H4 (N σ3) else N σ3 H4):=by
 refine⟨fun i m σ H=>m=xs.length-i/\i<=xs.length/\Pv i σ H,⟨xs.length,by simp,Nat.zero_le _,h0⟩,?_⟩;rintro i m σ' H' ⟨rfl,hi,pv⟩;have q:=hl i σ' H' hi pv;by_cases hlt:i<xs.length
 ·refine .inr ⟨⟨xs,xs[i],q,by simp [hlt]⟩,Pv (i+1),fun σ2 H2 p'=>⟨xs.length-(i+1),by omega,rfl,hlt,p'⟩,fun x H2 y=>?_⟩;obtain⟨pp,z,hn,rfl,rfl,hy⟩:=y;exact hs i z σ' H' pp (hy xs q) pv hn
 ·have e:i=xs.length:=by omega
  subst e;exact .inl ⟨⟨xs,q,zse _⟩,hd σ' H' pv⟩
theorem zli (Pv:Nat->St->Hp->Prop) (h0:Pv 0 σ H) (hl:∀ i σ H,i<=xs.length->Pv i σ H->SqL K H a xs)
  (hs:∀ i x σ H pp,xs[i]?=some x->Pv i σ H->H pp=none->g (.ref pp) σ (upd H pp (.tup [.int i,x])) fun σ3 H3=>tc σ3 H3 fun b H4=>if b=true then tm p σ3 H4 (Pv (i+1) σ3) else Pv (i+1) σ3 H4) (hd:∀ σ' H',Pv xs.length σ' H'->Q H') :
  ∃ W:Nat->Nat->St->Hp->Prop,(∃ m,W 0 m σ H) /\
  ∀ i m σ' H',W i m σ' H'->((Ite K a).stop i H'/\Q H')\/((Ite K a).go i H'/\∃ N:St->Hp->Prop,(∀ σ2 H2,N σ2 H2->∃ m',m'<m/\W (i+1) m' σ2 H2)/\∀ x H2,(Ite K a).yld i H' x H2->g x σ' H2 fun σ3 H3=>tc σ3 H3 fun b H4 =>
   if b=true then tm p σ3 H4 (N σ3) else N σ3 H4):=by
 refine⟨fun i m σ H=>m=xs.length-i/\i<=xs.length/\Pv i σ H,⟨xs.length,by simp,Nat.zero_le _,h0⟩,?_⟩;rintro i m σ' H' ⟨rfl,hi,pv⟩;have q:=hl i σ' H' hi pv;by_cases hlt:i<xs.length
 ·refine .inr ⟨⟨xs,xs[i],q,by simp [hlt]⟩,Pv (i+1),fun σ2 H2 p'=>⟨xs.length-(i+1),by omega,rfl,hlt,p'⟩,fun x H2 y=>?_⟩;obtain⟨pp,z,hn,rfl,rfl,hy⟩:=y;exact hs i z σ' H' pp (hy xs q) pv hn
 ·have e:i=xs.length:=by omega
  subst e;exact .inl ⟨⟨xs,q,zse _⟩,hd σ' H' pv⟩
end
end L2
end
section
namespace L2
open PySem PySem.Spec PyProof.Rows PySem.W
def zki (h:Heap) (d:Addr) (es:Array DictEntry) (ep:Nat):Prop:=∃ o,h.get? d=some o/\o.ExactDict/\o.data=.dict es ep
theorem zki.at {h h1:Heap} {d:Addr} {es:Array DictEntry} {ep:Nat} (x:zki h d es ep) (k:∀ o,h.get? d=some o->h1.get? d=some o):zki h1 d es ep:=let ⟨o,e,r⟩:=x;⟨o,k o e,r⟩
section
variable {prog:Program} {w:World} {A:Around} {E:Value->Shared->Prop} {s:Shared} {es:Array DictEntry} {ep:Nat}
theorem zki.ty {d:Addr} (x:zki s.heap d es ep):s.TypeIs (.ref d) "dict":=let ⟨o,e,c,_⟩:=x;⟨o,e,c.1⟩
theorem zlY {d:Addr} {Q:Value->Shared->Prop} (hd:(d == sysModules)=false) (hm:zki s.heap d es ep) (q:Q (.ref s.heap.objs.size) { s with heap:=s.heap.push { cls:=.type "dict_keyiterator",data:=.fields #[.ref d,.int 0 0,.int es.size 0,.int ep 0] } }) :
  wpAny (model prog w) A (pyIter (.ref d)) Q E s:=by
 have hT:=hm.ty;obtain⟨o,ho,hc,hdat⟩:=id hm;refine wpAny_pyIter_slot hT F.slot_dict_iter (wpAny_call_entry F.slot_dict_iter hT F.entry_dict_iter ?_ (F.args_dict_iter_1 _));unfold Builtin.«dict.__iter__» Builtin.Dict.dictSlotNone;refine wpAny_bind (wpAny_bind (wpAny_notOrdered_dict hT ?_));show wpAny (model prog w) _ (pure (Value.ref d)) _ _ s;refine wpAny_pure ?_;show wpAny (model prog w) _ (Builtin.Dict.showsAll d >>= _) _ _ s;unfold Builtin.Dict.showsAll;rw [hd];refine wpAny_bind (wpAny_pure (wpAny_bind (wpAny_dictEntries ho hdat (wpAny_bind (wpAny_dictEpoch ho hdat ?_)))));exact wpAny_bind (wpAny_newObj_type (wpAny_pure ⟨_,rfl,"dict_keyiterator",_,⟨_,zsx _ rfl,rfl⟩,F.slot_dict_keyiterator_next.lookup,by simpa [rawInt] using q⟩))
theorem zm9 {j d:Addr} {i:Nat} {x:DictEntry} {Q:Option Value->Shared->Prop} (hit:s.heap.IsKeyIter j d i es.size ep) (hm:zki s.heap d es ep) (hx:es[i]?=some x) (q:∀ h1,h1.IsKeyIter j d (i+1) es.size ep->Heap.SameBut j s.heap h1->Q (some x.key) { s with heap:=h1 }) :
  wpAny (model prog w) A (pyNext (.ref j)) Q E s:=by
 obtain⟨o,ho,hc,hd⟩:=id hit;obtain⟨od,hod,hcd,hdd⟩:=id hm;unfold pyNext;refine wpAny_bind (wpAny_attempt (wpAny_callSpecial?_slot (name:=Str.ofString "__next__") hit.typeIs F.slot_dict_keyiterator_next (wpAny_call_entry F.slot_dict_keyiterator_next hit.typeIs F.entry_dict_keyiterator_next ?_ (F.args_dict_keyiterator_next_1 _))));refine wpAny_bind (wpAny_pure (wpAny_bind (wpAny_bind ?_)))
 first | refine wpAny_bind (wpAny_typeNameOfWhole_keyiter hit.typeIs (wpAny_pure (wpAny_bind (wpAny_fieldsOf ho hd ?_)))) | refine wpAny_bind (wpAny_typeNameOf_keyiter hit.typeIs (wpAny_pure (wpAny_bind (wpAny_fieldsOf ho hd ?_))))
 simp only [show Builtin.Dict_items.ownsTuple "dict_keyiterator"=false from by decide,Bool.false_eq_true,if_false];show wpAny _ _ (if (Value.ref d == Value.none)=true then _ else _) _ _ s;rw [zsA (by intro z;exact zsI z)];refine wpAny_bind (wpAny_pure (wpAny_bind (wpAny_dictEntries hod hdd ?_)));rw [zsA (by simp)];refine wpAny_bind (wpAny_pure (wpAny_bind (wpAny_dictEpoch hod hdd ?_)));rw [zsA (by simp)];refine wpAny_pure ?_;have hlt:i<es.size:=(Array.getElem?_eq_some_iff.1 hx).1;have hxe:es[i]=x:=(Array.getElem?_eq_some_iff.1 hx).2;simp only [show ¬ ((i:Int)<0) from by omega,if_false,Int.toNat_natCast,Array.getElem?_eq_getElem hlt];refine wpAny_bind ?_
 first | refine wpAny_bind (wpAny_typeNameOfWhole_keyiter hit.typeIs (wpAny_pure (wpAny_bind (wpAny_isOneOf_keyiter hit.typeIs ?_)))) | refine wpAny_bind (wpAny_typeNameOf_keyiter hit.typeIs (wpAny_pure (wpAny_bind (wpAny_isOneOf_keyiter hit.typeIs ?_))))
 show wpAny _ _ (setField (.ref j) 1 (rawInt ((i:Int)+1)) >>= _) _ _ s;refine wpAny_bind (wpAny_setField ho hd (by simp) ?_);have hit1:(s.heap.update j (Obj.mapFields (·.setIfInBounds 1 (rawInt ((i:Int)+1))))).IsKeyIter j d (i+1) es.size ep :=
  ⟨_,Heap.get?_update_self _ ho (Obj.isFreed_of_fields (Obj.data_mapFields hd _)),(Obj.cls_mapFields ..).trans hc,by rw [Obj.data_mapFields hd];simp [rawInt]⟩
 refine wpAny_bind (wpAny_holding (wpAny_bind (wpAny_isOneOf_keyiter (s:={ s with heap:=s.heap.update j (Obj.mapFields (·.setIfInBounds 1 (rawInt ((i:Int)+1)))) }) hit1.typeIs ?_)))
 show wpAny (model prog w) _ (pure es[i].key) _ _ _;rw [hxe];exact wpAny_pure (wpAny_pure ⟨_,rfl,wpAny_pure (q _ hit1 (Heap.SameBut.update ..))⟩)
theorem znZ {j d:Addr} {i:Nat} {Q:Option Value->Shared->Prop} (hh:A.handled=none) (hit:s.heap.IsKeyIter j d i es.size ep) (hm:zki s.heap d es ep) (hx:es.size<=i) (q:∀ h1,Heap.ExtBut j s.heap h1->Q none { s with heap:=h1 }) :
  wpAny (model prog w) A (pyNext (.ref j)) Q E s:=by
 obtain⟨o,ho,hc,hd⟩:=id hit;obtain⟨od,hod,hcd,hdd⟩:=id hm;unfold pyNext;refine wpAny_bind (wpAny_attempt (wpAny_callSpecial?_slot (name:=Str.ofString "__next__") hit.typeIs F.slot_dict_keyiterator_next (wpAny_call_entry F.slot_dict_keyiterator_next hit.typeIs F.entry_dict_keyiterator_next ?_ (F.args_dict_keyiterator_next_1 _))));refine wpAny_bind (wpAny_pure (wpAny_bind (wpAny_bind ?_)))
 first | refine wpAny_bind (wpAny_typeNameOfWhole_keyiter hit.typeIs (wpAny_pure (wpAny_bind (wpAny_fieldsOf ho hd ?_)))) | refine wpAny_bind (wpAny_typeNameOf_keyiter hit.typeIs (wpAny_pure (wpAny_bind (wpAny_fieldsOf ho hd ?_))))
 simp only [show Builtin.Dict_items.ownsTuple "dict_keyiterator"=false from by decide,Bool.false_eq_true,if_false];show wpAny _ _ (if (Value.ref d == Value.none)=true then _ else _) _ _ s;rw [zsA (by intro z;exact zsI z)];refine wpAny_bind (wpAny_pure (wpAny_bind (wpAny_dictEntries hod hdd ?_)));rw [zsA (by simp)];refine wpAny_bind (wpAny_pure (wpAny_bind (wpAny_dictEpoch hod hdd ?_)));rw [zsA (by simp)];refine wpAny_pure ?_;simp only [show ¬ ((i:Int)<0) from by omega,if_false,Int.toNat_natCast,Array.getElem?_eq_none hx];refine wpAny_bind ?_
 first | refine wpAny_bind (wpAny_typeNameOfWhole_keyiter hit.typeIs (wpAny_pure ?_)) | refine wpAny_bind (wpAny_typeNameOf_keyiter hit.typeIs (wpAny_pure ?_))
 show wpAny _ _ (setField (.ref j) 0 .none >>= _) _ _ s;refine wpAny_bind (wpAny_setField ho hd (by simp) ?_);show wpAny (model prog w) _ (newExc (.type "StopIteration") [] >>= _) _ _ _;refine wpAny_bind ?_;simp only [newExc,newTuple];refine wpAny_bind (wpAny_newObj_type (?_:_) (by size_fits));refine wpAny_bind (m:=firstArgMember _ _) (wpAny_of_eq (a:=Value.none) (by first | rfl | (with_unfolding_all rfl)) ?_);refine wpAny_newObj_type (?_:_) (by size_fits);simp only [raiseNew];refine wpAny_bind (wpAny_handled ?_)
 first | rw [show A.in1.handled=none from hh] | rw [hh]
 refine wpAny_bind (wpAny_pure (wpAny_throw ?_));refine wpAny_bind (wpAny_isInstance (b:=true) (T:="StopIteration") ⟨_,zsx _ rfl,rfl⟩ isSubtype_stop ?_);exact wpAny_pure (q _ (((Heap.SameBut.update ..).extBut.push _).push _))
theorem zku (hh:A.handled=none) (I d:Addr) (hne:d≠I):Walks prog w A I [I,d] [I] es.size (fun i v=>∃ x,es[i]?=some x/\x.key=v) (fun i h=>h.IsKeyIter I d i es.size ep/\zki h d es ep) where
 sub:=fun b hb=>by simp at hb;simp [hb]
 frame:=fun _ _ _ st hk=>⟨let ⟨o,e,r⟩:=st.1;⟨o,hk I (by simp) o e,r⟩,st.2.at fun o e=>hk d (by simp) o e⟩
 item:=fun i s Q E hi st hQ=>zm9 st.1 st.2 (x:=es[i]) (by simp [hi]) fun h1 hit1 hs1=>hQ _ h1 s.toks ⟨es[i],by simp [hi],rfl⟩ ⟨hit1,st.2.at fun o e=>hs1.extBut d o hne e⟩ fun b o hb e=>hs1.extBut b o (fun z=>hb (by simp [z])) e
 done:=fun s Q E st hQ=>znZ hh st.1 st.2 (zse _) fun h1 he=>hQ h1 s.toks fun b o hb e=>he b o (fun z=>hb (by simp [z])) e
 self:=fun _ _ _ _ st hQ=>wpAny_pyIter_keyiter st.1 hQ
theorem zlK {d:Addr} (lo:(d == sysModules)=false):KdlSrc prog w "dict" d d es.size (fun i v=>∃ x,es[i]?=some x/\x.key=v) (fun h=>zki h d es ep) where
 type:=fun _ hm=>hm.ty
 there:=fun h hm=>let ⟨o,e,_⟩:=hm;⟨zso e,zso e⟩
 keep:=fun _ _ hm hk=>hm.at fun o e=>hk d (.inl rfl) o e
 notList:=by decide
 notTuple:=by decide
 hint:=fun _ _ _ _ hm hq=>kdl_hint_dict hm.ty hq
 iter:=fun _ s hh hm=>⟨_,_,(fun _ _ hq=>zlY lo hm hq),zku hh _ d (by obtain⟨o,e,_⟩:=hm;exact zsG (zso e)),⟨⟨_,zsx _ rfl,rfl,rfl⟩,hm.at fun o e=>zsb _ e⟩⟩
end
section
variable {X:Cx} {pos:Pos}
def zne:List V->Hp->VK->Prop:=fun xs H Q=>match xs with
 | [.ref d]=>∃ kvs:List (NK × Addr × V),DNx H d kvs/\∀ p,H p=none->Q (.ref p) (upd H p (.lst (kvs.map fun q=>V.ref q.2.1)))
 | _=>False
theorem zoM (hc:X.calm=true):za9 X (.type "list") zne:=by
 intro pins s σ H xs us Q I r h;unfold zne at h;split at h
 ·rename_i d;obtain⟨kvs,D,q⟩:=h;cases r with
  | cons r rr =>
  cases rr;cases r;obtain⟨xs,e,hks,hv,dd⟩:=zka I D;obtain⟨o,es,ep,g1,g2,g3,g4,_⟩:=id dd;have hraw:zki s.heap d es ep:=⟨o,g1,g2,g3⟩;have hxl:xs.length=kvs.length:=by have:=congrArg List.length hks;simpa using this
  have hel:es.size=kvs.length:=by rw [← zsC,g4,zrY,hxl]
  refine kdl_call (zlK D.sm) (I.ok.hd hc) hraw (by rw [hel];exact D.sz) fun h' tk acc c hk hg hi=>?_
  refine⟨.ref s.heap.objs.size,_,I.laid (a:=s.heap.objs.size) (o:=.lst (kvs.map fun q=>V.ref q.2.1)) (t':=tk) hk (zse _) ⟨by rw [zrY];exact D.sz,acc.toList,c,?_,by simpa using hg⟩,rfl,q _ (I.hok.fresh (zse _))⟩;refine zkZ (by rw [zrY,← hel,← hi.1,zsC]) fun i x u hx hu=>?_
  rw [zsD] at hu;obtain⟨y,hy,hyu⟩:=hi.2 i u hu;rw [← zsD,g4,zrZ] at hy;obtain⟨z,hz,rfl⟩:=zr1.1 hy;rw [zrZ] at hx;obtain⟨qv,hq,rfl⟩:=zr1.1 hx
  have:=congrArg (fun l=>l[i]?) hks
  simp only [zrZ,hz,hq,Option.map_some] at this;injection this with this
  injection this with _ this
  subst hyu;show Value.ref z.2.1=Value.ref qv.2.1;rw [this]
 ·exact h.elim
noncomputable def zo4 (kvs:List (NK × Addr × V)) (k:NK) (b:Addr) (v:V):List (NK × Addr × V):=if k∈kvs.map (·.1) then kvs.map (fun q=>if q.1=k then (q.1,q.2.1,v) else q) else kvs++[(k,b,v)]
def zq4 (td ty tv:TE):TS:=fun D σ H=>tv σ H fun v H1=>td σ H1 fun x H2=>ty σ H2 fun y H3=>∃ d b k kvs,x=.ref d/\y=.ref b/\k.dep<=7/\zbU H3 k (.ref b)/\DNx H3 d kvs/\kvs.length<sizeLine /\
 ∀ H4:Hp,(∀ c u,H3 c=some u->c≠d->H4 c=some u)->(∀ c,H3 c=none->H4 c=none)->DNx H4 d (zo4 kvs k b v)->D.nx σ H4
theorem ziO {r:Nat} {o i value:Expr} {td ty tv:TE} {pos':Pos} (hr:zcQ r X.A) (ho:PE X o td) (hi:PE X i ty) (hv:PE X value tv) (hs:swapsWith value (some (.Subscript o i pos')) pos.line X.env=pure false) :
  PS X (.Assign [.Subscript o i pos'] value pos) (zq4 td ty tv):=by
 intro pins s σ H D I h;refine wpAny_Assign_Subscript (thn (hv pins s σ H _ I h) fun rr s1 ⟨v,H1,I1,rv,q1⟩=>thn (ho pins s1 σ H1 _ I1 q1) fun u s2 ⟨x,H2,I2,rx,q2⟩=>thn (hi pins s2 σ H2 _ I2 q2) fun iv s3 ⟨y,H3,I3,ry,d,b,k,kvs,ex,ey,hk,hb,DD,hl,q3⟩=>?_) hs;subst ex;subst ey;obtain rfl:u=Value.ref d:=rx;obtain rfl:iv=Value.ref b:=ry;obtain⟨xs,e,hks,hvv,dd⟩:=zka I3 DD;have hxl:xs.length=kvs.length:=by have:=congrArg List.length hks;simpa using this
 have hkk:=zlx hks;refine wpAny_setItem_heap (knd:=zit X.prog X.w) (by show X.A.units+1+8<cLine;have:=hr.units;omega) ⟨hk,zfW I3 7 k _ _ hk hb rfl⟩ dd (fun h' dd' hsb=>?_) (by omega);obtain⟨o',es,ep,g1,g2,g3,g4,g5,g6⟩:=dd';have new:zaQ X.prog X.w (upd H3 d (.ext (zj1 d (storedH xs k b rr)))) h' d (.ext (zj1 d (storedH xs k b rr))):=zks ⟨o',es,ep,g1,g2,g3,g4⟩;have I4:=zef (t':=s3.toks+(zit X.prog X.w).draws k) I3 (by rw [e];exact True.intro) hsb ⟨o',g1⟩ new;refine⟨σ,_,I4,q3 _ (fun c u' ec ne=>by rw [zao ne];exact ec) (fun c ec=>by rw [zao (by rintro rfl;rw [e] at ec;cases ec)];exact ec) ?_⟩;have kp:∀ a xs',H3 a=some (.tup xs')->(upd H3 d (.ext (zj1 d (storedH xs k b rr)))) a=some (.tup xs'):=fun a xs' ea=>by rw [zao (by rintro rfl;rw [e] at ea;cases ea)];exact ea
 unfold zo4;by_cases hn:k∈kvs.map (·.1)
 ·have hst:storedH xs k b rr=xs.map (putAt k rr):=by
   unfold storedH;rw [zc1,hkk,zsB (zr4 hn)]
  rw [zsB hn];rw [hst] at kp ⊢;refine⟨⟨_,zah,?_,?_⟩,fun q hq=>?_,?_,by rw [zrY];exact DD.sz,DD.sm⟩
  ·rw [zsp,zsp];have e1:xs.map ((fun x:NK × Addr × Value=>(x.1,x.2.1)) ∘ putAt k rr)=xs.map (fun x=>(x.1,x.2.1)):=zsL fun x _=>by
    show ((putAt k rr x).1,(putAt k rr x).2.1)=_;unfold putAt;split <;> rfl
   have e2:kvs.map ((fun q:NK × Addr × V=>(q.1,q.2.1)) ∘ fun q=>if q.1=k then (q.1,q.2.1,v) else q)=kvs.map (fun q=>(q.1,q.2.1)):=zsL fun x _=>by
    show ((if x.1=k then (x.1,x.2.1,v) else x).1,(if x.1=k then (x.1,x.2.1,v) else x).2.1)=_;split <;> rfl
   rw [e1,e2,hks]
  ·have key:∀ (xs:List (NK × Addr × Value)) (kvs:List (NK × Addr × V)),xs.map (fun x=>(x.1,x.2.1))=kvs.map (fun q=>(q.1,q.2.1))->zaV (kvs.map (·.2.2)) (xs.map (·.2.2)) -> zaV ((kvs.map fun q=>if q.1=k then (q.1,q.2.1,v) else q).map (·.2.2)) ((xs.map (putAt k rr)).map (·.2.2)):=by
    intro xs
    induction xs with
    | nil=>intro kvs h1 h2;cases kvs with
     | nil=>exact .nil
     | cons q kvs=>cases h1
    | cons x xs ih=>intro kvs h1 h2;cases kvs with
     | nil=>cases h1
     | cons q kvs =>
      rw [zsq,zsq] at h1;injection h1 with h3 h4
      injection h3 with h3 _
      rw [zsq,zsq] at h2;cases h2 with
      | cons r1 r2 =>
      rw [zsq,zsq,zsq,zsq];refine .cons ?_ (ih kvs h4 r2);unfold putAt;by_cases c:x.1=k
      ·rw [zsB c,zsB (h3.symm.trans c)];exact rv
      ·rw [zsA c,zsA (fun z=>c (h3.trans z))];exact r1
   exact key xs kvs hks hvv
  ·obtain⟨q0,hq0,rfl⟩:=zsg.1 hq
   have:=DD.ks q0 hq0
   have e1:(if q0.1=k then (q0.1,q0.2.1,v) else q0).1=q0.1:=by split <;> rfl
   have e2:(if q0.1=k then (q0.1,q0.2.1,v) else q0).2.1=q0.2.1:=by split <;> rfl
   rw [e1,e2];exact⟨this.1,zbU.mono kp 7 _ _ this.1 this.2⟩
  ·rw [zsp];have e2:kvs.map ((fun q:NK × Addr × V=>q.1) ∘ fun q=>if q.1=k then (q.1,q.2.1,v) else q)=kvs.map (·.1):=zsL fun x _=>by
    show (if x.1=k then (x.1,x.2.1,v) else x).1=_;split <;> rfl
   rw [show (fun q:NK × Addr × V=>q.1)=(·.1) from rfl] at e2
   rw [e2];exact DD.nd
 ·have hst:storedH xs k b rr=xs++[(k,b,rr)]:=by
   unfold storedH;rw [zc1,hkk,zr5 hn,zsA zsI]
  rw [zsA hn];rw [hst] at kp ⊢;refine⟨⟨_,zah,by rw [zr6,zr6,hks];rfl,?_⟩,fun q hq=>?_,?_,by rw [zr8];show kvs.length+1<=_;omega,DD.sm⟩
  ·rw [zr6,zr6];exact hvv.append (.cons rv .nil)
  ·rcases zr9.1 hq with hq | hq
   ·exact⟨(DD.ks q hq).1,zbU.mono kp 7 _ _ (DD.ks q hq).1 (DD.ks q hq).2⟩
   ·simp at hq
    subst hq;exact⟨hk,zbU.mono kp 7 _ _ hk hb⟩
  ·rw [zr6];exact List.nodup_append.2 ⟨DD.nd,by simp,fun a ha c hc=>by simp at hc;subst hc;rintro rfl;exact hn ha⟩
theorem zdz {H:Hp}:∀ {l:List NK} {vs:List V},zaP H l vs->vs.length=l.length
 | [],vs,h=>by rw [zaP] at h;rw [h];rfl
 | _::l,vs,h=>by rw [zaP] at h;obtain⟨u,us,rfl,_,h2⟩:=h;rw [zsz,zsz,zdz h2]
theorem zeJ {H:Hp}:∀ {l:List NK} {vs:List V} {i:Nat} {v:V},zaP H l vs->vs[i]?=some v->∃ k,l[i]?=some k/\zbU H k v
 | [],vs,i,v,h,hv=>by rw [zaP] at h;rw [h] at hv;simp at hv
 | k::l,vs,0,v,h,hv=>by rw [zaP] at h;obtain⟨u,us,rfl,h1,h2⟩:=h;cases hv;exact⟨k,rfl,h1⟩
 | k::l,vs,i+1,v,h,hv=>by rw [zaP] at h;obtain⟨u,us,rfl,h1,h2⟩:=h;exact zeJ (l:=l) (i:=i) h2 (by simpa using hv)
end
end L2
end
section
namespace L2
open PySem PySem.Spec PyProof.Rows PySem.W
mutual
noncomputable def ltN:NK->NK->Bool
 | .int i,.int j=>decide (i<j)
 | .int _,.tup _=>true
 | .tup _,.int _=>false
 | .tup l,.tup l'=>zcX l l'
noncomputable def zcX:List NK->List NK->Bool
 | [],[]=>false
 | [],_::_=>true
 | _::_,[]=>false
 | x::xs,y::ys=>if x=y then zcX xs ys else ltN x y
end
mutual
def zhM:NK->NK->Prop
 | .int _,.int _=>True
 | .int _,.tup _=>False
 | .tup _,.int _=>False
 | .tup l,.tup l'=>zcH l l'
def zcH:List NK->List NK->Prop
 | [],_=>True
 | _::_,[]=>True
 | x::xs,y::ys=>zhM x y/\zcH xs ys
end
theorem zcj (x y:NK) (xs ys:List NK):zcX (x::xs) (y::ys)=if x=y then zcX xs ys else ltN x y:=by rw [zcX]
theorem zgS:∀ (n:Nat) (x:NK),x.dep<=n->ltN x x=false:=by
 have lst:∀ (l:List NK),zcX l l=false:=by
  intro l
  induction l with
  | nil=>rw [zcX]
  | cons x l ih=>rw [zcX,zsB rfl];exact ih
 intro n x _;cases x with
 | int i=>rw [ltN];exact zr5 (Int.lt_irrefl i)
 | tup l=>rw [ltN];exact lst l
theorem zkL:∀ (n:Nat) (x y:NK),x.dep<=n->x≠y->ltN x y=false->ltN y x=true:=by
 intro n
 induction n with
 | zero =>
  intro x y hd ne h;cases x with
  | int i =>
   cases y with
   | int j =>
    rw [ltN] at h ⊢
    have:=of_decide_eq_false h
    exact zr4 (by have:i≠j:=(fun e=>ne (by rw [e]));omega)
   | tup l=>rw [ltN] at h;cases h
  | tup l=>rw [NK.dep] at hd;omega
 | succ n ih =>
  intro x y hd ne h;cases x with
  | int i =>
   cases y with
   | int j =>
    rw [ltN] at h ⊢
    have:=of_decide_eq_false h
    exact zr4 (by have:i≠j:=(fun e=>ne (by rw [e]));omega)
   | tup l=>rw [ltN] at h;cases h
  | tup l =>
   cases y with
   | int j=>rw [ltN]
   | tup l' =>
    rw [NK.dep] at hd;rw [ltN] at h ⊢;have key:∀ (l l':List NK),NK.depL l<=n->l≠l'->zcX l l'=false->zcX l' l=true:=by
     intro l
     induction l with
     | nil =>
      intro l' _ ne h;cases l' with
      | nil=>exact (ne rfl).elim
      | cons y ys=>rw [zcX] at h;cases h
     | cons x xs ihl =>
      intro l' hd ne h;rw [NK.depL] at hd;cases l' with
      | nil=>rw [zcX]
      | cons y ys =>
       rw [zcX] at h ⊢;by_cases e:x=y
       ·subst e;rw [zsB rfl] at h ⊢;exact ihl ys (by omega) (fun z=>ne (by rw [z])) h
       ·rw [zsA e] at h;rw [zsA (Ne.symm e)];exact ih x y (by omega) e h
    exact key l l' (by omega) (fun z=>ne (by rw [z])) h
theorem zfe:∀ (n:Nat) (x y z:NK),x.dep<=n->ltN x y=true->ltN y z=true->ltN x z=true:=by
 intro n
 induction n with
 | zero =>
  intro x y z hd h1 h2;cases x with
  | int i =>
   cases z with
   | int k =>
    cases y with
    | int j =>
     rw [ltN] at h1 h2 ⊢
     have:=zsH h1
     have:=zsH h2
     exact zr4 (by omega)
    | tup l=>rw [ltN] at h2;cases h2
   | tup l=>rw [ltN]
  | tup l=>rw [NK.dep] at hd;omega
 | succ n ih =>
  intro x y z hd h1 h2;cases x with
  | int i =>
   cases z with
   | int k =>
    cases y with
    | int j =>
     rw [ltN] at h1 h2 ⊢
     have:=zsH h1
     have:=zsH h2
     exact zr4 (by omega)
    | tup l=>rw [ltN] at h2;cases h2
   | tup l=>rw [ltN]
  | tup l =>
   cases y with
   | int j=>rw [ltN] at h1;cases h1
   | tup l' =>
    cases z with
    | int k=>rw [ltN] at h2;cases h2
    | tup l'' =>
     rw [NK.dep] at hd;rw [ltN] at h1 h2 ⊢;have key:∀ (l l' l'':List NK),NK.depL l<=n->zcX l l'=true->zcX l' l''=true->zcX l l''=true:=by
      intro l
      induction l with
      | nil =>
       intro l' l'' _ h1 h2;cases l'' with
       | nil=>cases l' <;> (rw [zcX] at h2;cases h2)
       | cons z zs=>rw [zcX]
      | cons x xs ihl =>
       intro l' l'' hd h1 h2;rw [NK.depL] at hd;cases l' with
       | nil=>rw [zcX] at h1;cases h1
       | cons y ys =>
        cases l'' with
        | nil=>rw [zcX] at h2;cases h2
        | cons z zs =>
         rw [zcX] at h1 h2 ⊢;by_cases e1:x=y
         ·subst e1;rw [zsB rfl] at h1;by_cases e2:x=z
          ·subst e2;rw [zsB rfl] at h2 ⊢;exact ihl ys zs (by omega) h1 h2
          ·rw [zsA e2] at h2 ⊢;exact h2
         ·rw [zsA e1] at h1;by_cases e2:y=z
          ·subst e2;rw [zsA e1];exact h1
          ·rw [zsA e2] at h2;have h3:=ih x y z (by omega) h1 h2;rw [zsA (fun e=>by subst e;rw [zgS n x (by omega)] at h3;cases h3)];exact h3
     exact key l l' l'' (by omega) h1 h2
theorem znC {x y:NK} (h:ltN x y=true):x≠y:=fun e=>by subst e;rw [zgS _ x (zse _)] at h;cases h
theorem zmT {x y:NK} (h:ltN x y=true):ltN y x=false:=by
 cases e:ltN y x with
 | false=>rfl
 | true=>have:=zfe _ x y x (zse _) h e;rw [zgS _ x (zse _)] at this;cases this
theorem zi0:∀ {l l':List NK},l.Pairwise (fun a b=>ltN a b=true)->l'.Pairwise (fun a b=>ltN a b=true)->(∀ x,x∈l↔x∈l')->l=l'
 | [],[],_,_,_=>rfl
 | [],y::ys,_,_,h=>by have:=(h y).2 (zsw ..);cases this
 | x::xs,[],_,_,h=>by have:=(h x).1 (zsw ..);cases this
 | x::xs,y::ys,p,q,h=>by
  have p1:=List.pairwise_cons.1 p;have q1:=List.pairwise_cons.1 q;have exy:x=y:=by
   rcases zsF.1 ((h x).1 (zsw ..)) with e | e
   ·exact e
   ·rcases zsF.1 ((h y).2 (zsw ..)) with e' | e'
    ·exact e'.symm
    ·have a:=zmT (q1.1 x e);rw [p1.1 y e'] at a;cases a
  subst exy;rw [zi0 p1.2 q1.2 fun z=>⟨fun hz=>?_,fun hz=>?_⟩]
  ·rcases zsF.1 ((h z).1 (zsh _ hz)) with e | e
   ·subst e;exact (znC (p1.1 z hz) rfl).elim
   ·exact e
  ·rcases zsF.1 ((h z).2 (zsh _ hz)) with e | e
   ·subst e;exact (znC (q1.1 z hz) rfl).elim
   ·exact e
noncomputable def zlQ (l:List NK) (x:NK):Nat:=l.countP fun y=>ltN y x
theorem zga {l:List NK} {x y:NK} (hx:x∈l) (h:ltN x y=true):zlQ l x<zlQ l y:=by
 unfold zlQ;have mono:∀ l:List NK,l.countP (fun z=>ltN z x)<=l.countP fun z=>ltN z y:=fun l=>List.countP_mono_left fun z _ hz=>zfe _ z x y (zse _) hz h
 induction l with
 | nil=>cases hx
 | cons z l ih =>
  rw [List.countP_cons,List.countP_cons];rcases zsF.1 hx with e | hx
  ·subst e;rw [zgS _ x (zse _),h]
   have:=mono l
   simp
   omega
  ·have:=ih hx
   have:(if ltN z x=true then 1 else 0)<=(if ltN z y=true then 1 else 0):=by
    by_cases c:ltN z x=true
    ·rw [zsB c,zsB (zfe _ z x y (zse _) c h)];exact zse _
    ·rw [zsA c];exact Nat.zero_le _
   omega
theorem ziU {l:List NK} {x y:NK} (hx:x∈l) (hy:y∈l) (ne:x≠y):ltN x y=decide ((zlQ l x:Int)<zlQ l y):=by
 cases e:ltN x y with
 | true=>exact (zr4 (by have:=zga hx e;omega)).symm
 | false =>
  have:=zga hy (zkL _ x y (zse _) ne e)
  exact (zr5 (by omega)).symm
theorem zoq {l:List NK} {x y:NK} (hx:x∈l) (hy:y∈l) (ne:x≠y):(zlQ l x:Int)≠zlQ l y:=fun z=>by
 cases e:ltN x y with
 | true=>have:=zga hx e;omega
 | false=>have:=zga hy (zkL _ x y (zse _) ne e);omega
def zrI (A:Around) (s:Shared) (y x:Value) (b:Bool):Prop:=∀ (prog:Program) (w:World) (E:Value->Shared->Prop) (Q:Value->Shared->Prop),Q (.bool b) s->wpAny (model prog w) A (richCompare .Lt y x) Q E s
section
open PySem.SeqAt
open PySem.AutoSeq1 (wpAny_loadPart')
open PySem.MeetsSeq PySem.MeetsSeq2 PySem.MeetsSeq3
theorem zjx (l b:Addr) (items items2:List Value) (n n2:Nat) (dd dd2:Option Addr) (sl sl2:Array (Option Value)) (ns ms:List NK) (h1:items.length=ns.length) (h2:items2.length=ms.length) :
  Meets (Builtin.«tuple.__lt__» ⟨[.ref l,.ref b],[]⟩)
   (fun A R s=>s.heap.get? l=some { cls:=.type "tuple",dict:=dd,data:=.seq items.toArray n,slots:=sl }/\s.heap.get? b=some { cls:=.type "tuple",dict:=dd2,data:=.seq items2.toArray n2,slots:=sl2 } /\
    (∀ (i:Nat) (k j:NK) (p q:Value),ns[i]?=some k->ms[i]?=some j->items[i]?=some p->items2[i]?=some q->EqAt A.in1 s p q (decide (k=j))/\zrI A.in1 s p q (ltN k j)) /\
    R (.ok (.ret (.bool (zcX ns ms)))) s) :=
 .of_wp fun prog w A R s h=>by
  obtain⟨hp,g,d,tk,os⟩:=s;obtain⟨hl,hb,hel,h⟩:=h;have f2:=AutoSeq1.sub_tuple_tuple
  wp_walk using wpAny_loadPart' hl,wpAny_loadPart' hb,wpAny_forIn_list _ (fun rest b s'=>b.1=none/\s'=⟨hp,g,d,tk,os⟩/\∃ i:Nat,(i<=items.length/\i<=items2.length)/\rest=(items.drop i).zip (items2.drop i)/\R (.ok (.ret (.bool (zcX (ns.drop i) (ms.drop i))))) ⟨hp,g,d,tk,os⟩) _
  case turn =>
   rintro ⟨y,x⟩ rest b s' ⟨hb',rfl,i,hil,hz,hR⟩;have c1:i<items.length:=by
    refine Classical.byContradiction fun c=>?_
    rw [List.drop_eq_nil_of_le (by omega),List.zip_nil_left] at hz;cases hz
   have c2:i<items2.length:=by
    refine Classical.byContradiction fun c=>?_
    rw [List.drop_eq_nil_of_le (as:=items2) (by omega),List.zip_nil_right] at hz;cases hz
   have d1:i<ns.length:=by omega
   have d2:i<ms.length:=by omega
   rw [zsK c1,zsK c2,List.zip_cons_cons] at hz;injection hz with hyx hrest
   injection hyx with hy hx
   subst hy hx;rw [zsK d1,zsK d2,zcj] at hR;obtain⟨he,hlt⟩:=hel i ns[i] ms[i] items[i] items2[i] (zr0 d1) (zr0 d2) (zr0 c1) (zr0 c2);refine wpAny_bind (he prog w _ _ ?_);by_cases e:ns[i]=ms[i]
   ·rw [zsB e] at hR;rw [zr4 e]
    wp_walk
    exact⟨rfl,rfl,i+1,⟨c1,c2⟩,hrest,hR⟩
   ·rw [zsA e] at hR;rw [zr5 e];have hri:=hlt prog w
    wp_walk using hri
    exact⟨_,rfl,by simpa using hR⟩
  case fin =>
   rintro ⟨b1,b2⟩ s' ⟨hb',rfl,i,hil,hz,hR⟩;simp only at hb';subst hb';have hv:zcX (ns.drop i) (ms.drop i)=decide (items.toArray.size<items2.toArray.size):=by
    rw [zsy,zsy,h1,h2];by_cases c1:i<items.length
    ·by_cases c2:i<items2.length
     ·rw [zsK c1,zsK c2,List.zip_cons_cons] at hz;cases hz
     ·rw [List.drop_eq_nil_of_le (as:=ms) (by omega),zsK (show i<ns.length by omega),zcX];exact (zr5 (by omega)).symm
    ·by_cases c2:i<items2.length
     ·rw [List.drop_eq_nil_of_le (as:=ns) (by omega),zsK (show i<ms.length by omega),zcX];exact (zr4 (by omega)).symm
     ·rw [List.drop_eq_nil_of_le (as:=ns) (by omega),List.drop_eq_nil_of_le (as:=ms) (by omega),zcX];exact (zr5 (by omega)).symm
   rw [hv] at hR
   wp_walk
   exact⟨_,rfl,by simpa [Builtin.Tuple.tupleCompareSizes] using hR⟩
  case h =>
   exact⟨rfl,rfl,0,⟨Nat.zero_le _,Nat.zero_le _⟩,by simp,h⟩
end
theorem zjt:∀ {l l':List NK} {i:Nat} {k j:NK},zcH l l'->l[i]?=some k->l'[i]?=some j->zhM k j
 | [],_,i,k,j,_,h,_=>by cases h
 | x::xs,[],i,k,j,_,_,h=>by cases h
 | x::xs,y::ys,0,k,j,c,h,h'=>by cases h;cases h';rw [zcH] at c;exact c.1
 | x::xs,y::ys,i+1,k,j,c,h,h'=>by rw [zcH] at c;exact zjt (i:=i) c.2 h h'
theorem zgG {h:Heap} {l:List NK} {vs:List Value} {j:Nat} {k:NK} {v:Value} (h1:zbQ h l vs) (hk:l[j]?=some k) (hv:vs[j]?=some v):IsN h k v:=by
 obtain⟨hj,e⟩:=zr2.1 hv;obtain⟨k',e1,e2⟩:=zgv hj h1;rw [hk] at e1;cases e1;rw [← e];exact e2
theorem lt_n {s:Shared}:∀ (n:Nat) (x y:NK) (A:Around) (u v:Value),x.dep<=n->A.units+n<cLine->IsN s.heap x u->IsN s.heap y v->zhM x y->zrI A s u v (ltN x y):=by
 have intsL:∀ (i:Int) (y:NK) (A:Around) (u v:Value),IsN s.heap (.int i) u->IsN s.heap y v->zhM (.int i) y->zrI A s u v (ltN (.int i) y):=by
  intro i y A u v hx hy hc;cases y with
  | int j =>
   rw [IsN] at hx hy;obtain⟨t,rfl⟩:=hx;obtain⟨t',rfl⟩:=hy;intro prog w E Q q;rw [ltN] at q;exact HT.rcLt_int A s i t j t' prog w E Q q
  | tup l=>rw [zhM] at hc;exact hc.elim
 intro n
 induction n with
 | zero =>
  intro x y A u v hd hu hx hy hc;cases x with
  | int i=>exact intsL i y A u v hx hy hc
  | tup l=>rw [NK.dep] at hd;omega
 | succ n ih =>
  intro x y A u v hd hu hx hy hc;cases x with
  | int i=>exact intsL i y A u v hx hy hc
  | tup l =>
   cases y with
   | int j=>rw [zhM] at hc;exact hc.elim
   | tup l' =>
    rw [NK.dep] at hd;rw [zhM] at hc;rw [IsN] at hx hy;obtain⟨a,its,rfl,ht,hi⟩:=hx;obtain⟨b,its',rfl,ht',hi'⟩:=hy;obtain⟨⟨cls,dd,data,sl⟩,ho,hcl,n1,hd1⟩:=id ht;obtain⟨⟨cls2,dd2,data2,sl2⟩,ho2,hcl2,n2,hd2⟩:=id ht';simp only at hcl hd1 hcl2 hd2;subst hcl hd1 hcl2 hd2;intro prog w E Q q;rw [ltN] at q;refine richCompare_meets_room (op:=.Lt) ⟨_,ho,rfl⟩ ⟨_,ho2,rfl⟩ PySem.F.slot_tuple_lt PySem.F.entry_tuple_lt (PySem.F.args_tuple_lt_2 _ _) (zjx a b its its' n1 n2 dd dd2 sl sl2 l l' (zb8 hi) (zb8 hi'))
     ⟨ho,ho2,fun i k j p r hk hj hp hr=>?_,show Value.bool (zcX l l')≠Value.notImplemented/\Q (.bool (zcX l l')) s from ⟨(fun x=>nomatch x),q⟩⟩ (by omega)
    have k1:=zgG hi hk hp;have k2:=zgG hi' hj hr;have kd:=zii (n:=n) (by omega) hk;exact⟨zq1 n k j A.in1 p r kd (by show A.units+1+n<_;omega) k1 k2,ih k j A.in1 p r kd (by show A.units+1+n<_;omega) k1 k2 (zjt hc hk hj)⟩
section
variable {prog:Program} {w:World} {A:Around} {E:Value->Shared->Prop} {s:Shared}
def zny (b:Bool) (k:NK):Prop:=match b with
 | true=>∃ i r,k=.tup (.int i::r)
 | false=>∃ m r,k=.tup (.tup m::r)
theorem zpR {b:Bool} {X Y:Nat} {Q:Bool->Shared->Prop} (hu:A.units+8<cLine):∀ (ns ms:List NK) (vs ws:List Value) (i:Nat),NK.depL ns<=6->zbQ s.heap ns vs->zbQ s.heap ms ws->zcH ns ms->ns.length+Y=ms.length+X->(b=true->i=0->∃ k r,ns=.int k::r)->Q (zcX ns ms) s->KatLex prog w A b (decide (X<Y)) Q (vs.zip ws) i s
 | [],ms,vs,ws,i,_,h1,h2,_,hl,hb,q=>by
  rw [zbQ] at h1;subst h1;rw [List.zip_nil_left];refine kat_nil ?_;cases ms with
  | nil=>rw [zcX] at q;rw [zr5 (by simp at hl;omega)];exact q
  | cons y ys=>rw [zcX] at q;rw [zr4 (by simp at hl;omega)];exact q
 | x::xs,[],vs,ws,i,_,h1,h2,_,hl,hb,q=>by
  rw [zbQ] at h2;subst h2;rw [List.zip_nil_right];refine kat_nil ?_;rw [zcX] at q;rw [zr5 (by simp at hl;omega)];exact q
 | x::xs,y::ys,vs,ws,i,hd,h1,h2,hc,hl,hb,q=>by
  rw [NK.depL] at hd;rw [zbQ] at h1 h2;rw [zcH] at hc;obtain⟨u,us,rfl,hu1,hr1⟩:=h1;obtain⟨v,vs',rfl,hv1,hr2⟩:=h2;rw [zcX] at q;rw [List.zip_cons_cons];refine kat_cons (zq1 6 x y A u v (by omega) (by omega) hu1 hv1 _ _ _ _ ?_);by_cases e:x=y
  ·rw [zr4 e];rw [zsB e] at q;exact kat_yes (zpR hu xs ys us vs' (i+1) (by omega) hr1 hr2 hc.2 (by simp only [zsz] at hl;omega) (fun _ z=>by omega) q)
  ·rw [zr5 e];rw [zsA e] at q;refine kat_no ?_;cases hbi:(b && i == 0) with
   | false=>exact kat_one _ _ (lt_n 6 x y A u v (by omega) (by omega) hu1 hv1 hc.1 _ _ _ _ q)
   | true =>
    have hb':b=true:=by revert hbi;cases b <;> simp
    have hi':i=0:=by subst hb';simpa using hbi
    obtain⟨k,r,er⟩:=hb hb' hi';injection er with er _
    subst er;cases y with
    | tup l=>have:=hc.1;rw [zhM] at this;exact this.elim
    | int j =>
     rw [IsN] at hu1 hv1;obtain⟨t,rfl⟩:=hu1;obtain⟨t',rfl⟩:=hv1;rw [ltN] at q;exact oneLt_int q
structure zl7 (b:Bool) (l:List NK):Prop where
 nd:l.Nodup
 dp:∀ k∈l,k.dep<=7
 fk:∀ k∈l,zny b k
 cm:∀ k∈l,∀ j∈l,zhM k j
open Classical in
noncomputable def zmY (l:List NK) (h:Heap) (x:Keyed):Int:=if c:∃ k,k∈l/\IsN h k x.1 then zlQ l c.choose else 0
theorem zgE {l:List NK} {h:Heap} {x:Keyed} {k:NK} (hd:k.dep<=7) (hk:k∈l) (hx:IsN h k x.1):zmY l h x=zlQ l k:=by
 have c:∃ k,k∈l/\IsN h k x.1:=⟨k,hk,hx⟩;unfold zmY;rw [dif_pos c];rw [zhO 7 k c.choose x.1 hd hx c.choose_spec.2]
theorem zry {b:Bool} {l:List NK} (S:zl7 b l) (hu:A.units+8<cLine):Cmp (model prog w) A E s (zmY l s.heap) (fun x=>∃ k,k∈l/\IsN s.heap k x.1) (tuples' b):=fun x y st Q hx hy ne hk hQ=>by
 obtain⟨k,k1,k2⟩:=hx;obtain⟨j,j1,j2⟩:=hy;rw [zgE (S.dp k k1) k1 k2,zgE (S.dp j j1) j1 j2] at hQ ne;have nkj:k≠j:=fun e=>ne (by rw [e])
 rw [← ziU k1 j1 nkj] at hQ;have hc:=S.cm k k1 j j1;have dk:=S.dp k k1;have fk:=S.fk k k1;rw [lt'_eq];refine wpS_bind (wpS_get (wpS_bind (wpS_lift (wpAny_attempt ?_))));cases k with
 | int i=>cases b <;> (obtain⟨_,_,e⟩:=fk;cases e)
 | tup ns =>
  cases j with
  | int i=>rw [zhM] at hc;exact hc.elim
  | tup ms =>
   rw [NK.dep] at dk;rw [zhM] at hc;rw [IsN] at k2 j2;obtain⟨c,its,e1,⟨o,g1,g2,n1,g3⟩,hi⟩:=k2;obtain⟨c',its',e1',⟨o',g1',g2',n1',g3'⟩,hi'⟩:=j2;rw [hk,e1,e1'];refine kat_lt g1 g3 g1' g3' ?_;refine zpR hu ns ms its its' 0 (by omega) hi hi' hc (by rw [zsy,zsy,zb8 hi,zb8 hi'];omega) (fun hb _=>?_) ?_
   ·subst hb;obtain⟨i,r,e⟩:=fk;injection e with e
    exact⟨i,r,e⟩
   ·rw [ltN] at hQ;exact⟨rfl,wpS_pure hQ⟩
theorem zhD {h:Heap} {b:Bool}:∀ {vs:List Value} {l:List NK},zbQ h l vs->(∀ k∈l,zny b k)->∃ fs,KatTups h vs fs/\fs.length=vs.length/\∀ v∈fs,Looks (model prog w) h (typeOf v) (if b=true then .type "int" else .type "tuple")
 | vs,[],h1,_=>by
  rw [zbQ] at h1;subst h1;exact⟨[],.nil,rfl,fun v hv=>by cases hv⟩
 | vs,k::l,h1,hf=>by
  rw [zbQ] at h1;obtain⟨u,us,rfl,hu,hr⟩:=h1;obtain⟨fs,f1,f2,f3⟩:=zhD hr fun k' hk'=>hf k' (zsh _ hk')
  have fk:=hf k (zsw ..);cases k with
  | int i=>cases b <;> (obtain⟨_,_,e⟩:=fk;cases e)
  | tup ns =>
   rw [IsN] at hu;obtain⟨a,its,rfl,⟨o,g1,g2,n1,g3⟩,hi⟩:=hu
   have:∃ f,its[0]?=some f/\Looks (model prog w) h (typeOf f) (if b=true then .type "int" else .type "tuple"):=by
    cases b with
    | true =>
     obtain⟨i,r,e⟩:=fk;injection e with e
     subst e;rw [zbQ] at hi;obtain⟨u,us',rfl,hu,_⟩:=hi;rw [IsN] at hu;obtain⟨t,rfl⟩:=hu;exact⟨_,rfl,.now⟩
    | false =>
     obtain⟨m,r,e⟩:=fk;injection e with e
     subst e;rw [zbQ] at hi;obtain⟨u,us',rfl,hu,_⟩:=hi;rw [IsN] at hu;obtain⟨a',its',rfl,⟨o',q1,q2,_⟩,_⟩:=hu;refine⟨_,rfl,?_⟩
     have:Looks (model prog w) h (typeOf (.ref a')) o'.cls:=(Looks.ld q1).andThen .now
     rw [q2] at this;exact this
   obtain⟨f,e1,e2⟩:=this;refine⟨f::fs,.cons g1 g2 g3 (by rw [← e1];simp) f1,by rw [zsz,zsz,f2],fun v hv=>?_⟩;rcases zsF.1 hv with e | hv
   ·subst e;exact e2
   ·exact f3 v hv
theorem zfm {h h':Heap} (kp:∀ (a:Addr) (its:List Value),IsTup h a its.toArray->IsTup h' a its.toArray):∀ {l:List NK} {vs:List Value},(∀ k∈l,k.dep<=7)->zbQ h l vs->zbQ h' l vs
 | [],vs,_,h1=>by rw [zbQ] at h1 ⊢;exact h1
 | k::r,vs,hd,h1=>by
  rw [zbQ] at h1 ⊢;obtain⟨u,us,rfl,hu,hr⟩:=h1;exact⟨u,us,rfl,zi9 kp 7 k u (hd k (zsw ..)) hu,zfm kp (fun k' hk'=>hd k' (zsh _ hk')) hr⟩
theorem zrA {a:Addr} {vs:List Value} {n:Nat} {b:Bool} {l:List NK} {P:PySem.Fin->Shared->Prop} (ho:s.heap.get? a=some (seqObj "list" vs.toArray n)) (h64:vs.length<65536) (hl:zbQ s.heap l vs) (S:zl7 b l) (hu:A.units+8<cLine)
  (h:∀ (p:List Nat) (h':Heap) (c:Nat),p.Perm (List.range vs.length)->(p.map fun i=>l.getD i (.int 0)).Pairwise (fun x y=>ltN x y=true)->(∀ b o,b≠a->s.heap.get? b=some o->h'.get? b=some o) ->
   h'.get? a=some (seqObj "list" (p.map fun i=>vs.getD i Value.none).toArray c)->P (.done (.ret .none)) { s with heap:=h' }) :
  wpAny (model prog w) A (Builtin.«list.sort» ⟨[.ref a],[]⟩) P E s:=by
 have hvl:=zb8 hl;have up:∀ h6:Heap,(∀ b o,b≠a->s.heap.get? b=some o->h6.get? b=some o)->zbQ h6 l vs:=fun h6 keep=>zfm (fun c its ⟨o,e1,e2,r⟩=>⟨o,keep c o (fun z=>by rw [z,ho] at e1;cases e1;injection e2 with e2;exact absurd e2 (by decide)) e1,e2,r⟩) S.dp hl
 have mem:∀ i,i<vs.length->l.getD i (.int 0)∈l:=fun i hi=>by
  rw [zsE,zr0 (show i<l.length by omega)];exact List.getElem_mem _
 have inj:∀ i j,i<vs.length->j<vs.length->i≠j->l.getD i (.int 0)≠l.getD j (.int 0):=fun i j hi hj ne e=>by
  rw [zsE,zsE,zr0 (show i<l.length by omega),zr0 (show j<l.length by omega)] at e;exact ne ((List.getElem_inj S.nd).1 e)
 refine zpa (κ:=tuples' b) (kf:=fun h6=>zmY l h6) (G:=fun h6 x=>∃ k,k∈l/\IsN h6 k x.1) (ky:=fun i=>zlQ l (l.getD i (.int 0))) ho h64 (fun h6 keep h2 Q q=>?_) (fun h6 keep=>zry (s:={ s with heap:=h6 }) S hu) (fun h6 keep i v hv=>?_) (fun i j hi hj ne=>zoq (mem i hi) (mem j hj) (inj i j hi hj ne)) (fun p h' c hp hs hk hg=>h p h' c hp ?_ hk hg)
 ·obtain⟨fs,kt,fl,fi⟩:=zhD (prog:=prog) (w:=w) (up h6 keep) S.fk;refine kat_kind (s:={ s with heap:=h6 }) (T:=if b=true then .type "int" else .type "tuple") kt (by omega) fi (by cases b <;> rfl) ?_;cases b
  ·exact q
  ·exact q
 ·obtain⟨hi,e⟩:=zr2.1 hv;have hk:l[i]?=some (l.getD i (.int 0)):=by rw [zsE,zr0 (show i<l.length by omega)];rfl
  have hx:=zgG (up h6 keep) hk hv;exact⟨⟨_,mem i hi,hx⟩,zgE (S.dp _ (mem i hi)) (mem i hi) hx⟩
 ·have hpl:p.length=vs.length:=by have:=hp.length_eq;rw [List.length_range] at this;exact this
  refine List.pairwise_iff_getElem.2 fun i j hi hj hij=>?_
  rw [zrY] at hi hj
  have:=hs i j hij (by omega)
  have plt:∀ i (hi:i<p.length),p[i]<vs.length:=fun i hi=>List.mem_range.1 (hp.mem_iff.1 (List.getElem_mem hi))
  simp only [List.getElem_map];rw [show p.getD i 0=p[i] by rw [zsE,zr0 hi];rfl,show p.getD j 0=p[j] by rw [zsE,zr0 hj];rfl] at this;have ne:p[i]≠p[j]:=fun e=>by rw [e] at this;omega
  have:=ziU (mem _ (plt i hi)) (mem _ (plt j hj)) (inj _ _ (plt i hi) (plt j hj) ne)
  rw [this];exact zr4 (by assumption)
end
end L2
end
section
namespace L2
open PySem PySem.Spec PyProof.Rows PySem.W
theorem zlk {X:Cx} {pins:List (Addr × Obj)} {σ:St} {H:Hp} {s:Shared} (I:Inv X pins σ H s):∀ {l:List NK} {vs:List V} {us:List Value},(∀ k∈l,k.dep<=7)->zaP H l vs->zaV vs us->zbQ s.heap l us
 | [],vs,us,_,h1,r=>by rw [zaP] at h1;subst h1;rw [zbQ];cases r;rfl
 | k::q,vs,us,hd,h1,r=>by
  rw [zaP] at h1;rw [zbQ];obtain⟨u,ws,rfl,hu,hr⟩:=h1;cases r with
  | @cons _ b _ bs h t=>exact⟨b,bs,rfl,zfW I 7 k u b (hd k (zsw ..)) hu h,zlk I (fun k' hk'=>hd k' (zsh _ hk')) hr t⟩
theorem zeF {H:Hp}:∀ {l:List NK} {vs:List V},l.length=vs.length->(∀ (i:Nat) (k:NK) (v:V),l[i]?=some k->vs[i]?=some v->zbU H k v)->zaP H l vs
 | [],[],_,_=>by rw [zaP]
 | [],v::vs,h,_=>by cases h
 | k::l,[],h,_=>by cases h
 | k::l,v::vs,h,f=>by
  rw [zaP];exact⟨v,vs,rfl,f 0 k v rfl rfl,zeF (by simpa using h) fun i k' v' a b=>f (i+1) k' v' a b⟩
theorem zjM {H:Hp} {ks:List NK} {as:List Addr} {p:List Nat} (hp:p.Perm (List.range ks.length)) (hA:zaP H ks (as.map V.ref)):zaP H (p.map fun i=>ks.getD i (.int 0)) ((p.map fun i=>as.getD i 0).map V.ref):=by
 have hal:as.length=ks.length:=by have:=zdz hA;rw [zrY] at this;exact this
 refine zeF (by rw [zrY,zrY,zrY]) fun i k v hk hv=>?_
 rw [zrZ] at hk;rw [zrZ,zrZ] at hv;obtain⟨j,hj,rfl⟩:=zr1.1 hk;rw [hj] at hv;cases hv;have hlt:j<ks.length:=List.mem_range.1 (hp.mem_iff.1 (zr3 hj));have e:(as.map V.ref)[j]?=some (V.ref (as.getD j 0)):=by rw [zrZ,zsE,zr0 (show j<as.length by omega)];rfl
 obtain⟨k',e1,e2⟩:=zeJ hA e;rw [zsE,e1];exact e2
theorem zk9 {ks:List NK} {p:List Nat} (hp:p.Perm (List.range ks.length)):(p.map fun i=>ks.getD i (.int 0)).Perm ks:=by
 have:=hp.map fun i=>ks.getD i (.int 0)
 rwa [zfJ] at this
theorem zox {as:List Addr} {p:List Nat} (hp:p.Perm (List.range as.length)):(p.map fun i=>(as.map Value.ref).getD i Value.none)=(p.map fun i=>as.getD i 0).map Value.ref:=by
 rw [zsp];refine zsL fun i hi=>?_
 have hlt:i<as.length:=List.mem_range.1 (hp.mem_iff.1 hi);show (as.map Value.ref).getD i Value.none=Value.ref (as.getD i 0);rw [zsE,zsE,zrZ,zr0 hlt]
 rfl
section
variable {X:Cx}
def zno:List V->Hp->VK->Prop:=fun xs H Q=>match xs with
 | [.ref d]=>∃ (b:Bool) (kvs:List (NK × Addr × V)),DNx H d kvs/\zl7 b (kvs.map (·.1))/\kvs.length<65536/\∀ (js:List NK) (bs:List Addr) (l:Addr),js.Perm (kvs.map (·.1))->js.Pairwise (fun x y=>ltN x y=true)->zaP H js (bs.map V.ref)->H l=none->Q (.ref l) (upd H l (.lst (bs.map V.ref)))
 | _=>False
theorem zj8 {H:Hp} {d:Addr} {kvs:List (NK × Addr × V)} (D:DNx H d kvs):zaP H (kvs.map (·.1)) ((kvs.map (·.2.1)).map V.ref):=by
 refine zeF (by rw [zrY,zrY,zrY]) fun i k v hk hv=>?_
 rw [zrZ] at hk;rw [zrZ,zrZ] at hv;obtain⟨q,hq,rfl⟩:=zr1.1 hk;rw [hq] at hv;cases hv;exact (D.ks q (zr3 hq)).2
theorem znR {r:Nat} (hr:zcQ r X.A) (hc:X.calm=true):za9 X (.builtin "sorted") zno:=by
 intro pins s σ H xs us Q I r h;unfold zno at h;split at h
 ·rename_i d;obtain⟨b,kvs,D,S,h64,q⟩:=h;cases r with
  | cons r rr =>
  cases rr;cases r;obtain⟨xs,e,hks,hv,dd⟩:=zka I D;obtain⟨o,es,ep,g1,g2,g3,g4,_⟩:=id dd;have hraw:zki s.heap d es ep:=⟨o,g1,g2,g3⟩;have hxl:xs.length=kvs.length:=by have:=congrArg List.length hks;simpa using this
  have hel:es.size=kvs.length:=by rw [← zsC,g4,zrY,hxl]
  have hA:=zj8 D;refine Calls.call_function_entry kind_sorted plain_sorted entry_sorted (args_sorted1 _) ?_;unfold Builtin.«sorted»;refine wpAny_bind (m:=checkCount "sorted" 1 1 _) (wpAny_pure ?_);refine wpAny_bind (kdu_collect (A:=X.A.in1) (zlK D.sm) (I.ok.hd hc) hraw (by rw [hel,sizeLine_eq];omega) fun h' tk vs hk hi=>?_);have hvs:vs.toList=(kvs.map (·.2.1)).map Value.ref:=by
   refine List.ext_getElem? fun i=>?_
   rw [zsD,zrZ,zrZ];cases hu:vs[i]? with
   | none =>
    have h1:=Array.getElem?_eq_none_iff.1 hu;have h2:=hi.1;rw [List.getElem?_eq_none (by omega)]
    rfl
   | some u =>
    obtain⟨y,hy,hyu⟩:=hi.2 i u hu;rw [← zsD,g4,zrZ] at hy;obtain⟨z,hz,rfl⟩:=zr1.1 hy
    have:=congrArg (fun l=>l[i]?) hks
    simp only [zrZ,hz,Option.map_some] at this;cases hq:kvs[i]? with
    | none=>rw [hq] at this;cases this
    | some qv =>
     rw [hq] at this;injection this with this
     injection this with _ this
     subst hyu;show some (Value.ref z.2.1)=some (Value.ref qv.2.1);rw [this]
  generalize has:kvs.map (·.2.1)=as at hvs hA
  generalize hkk:kvs.map (·.1)=ks at hA S q
  have hkl:ks.length=kvs.length:=by rw [← hkk,zrY]
  have hal:as.length=kvs.length:=by rw [← has,zrY]
  have hvl:vs.toList.length=ks.length:=by rw [hvs,zrY,hkl,hal]
  refine wpAny_bind (wpAny_newList ?_ (by rw [hvl,hkl,sizeLine_eq];omega));have hB:(h'.push { cls:=.type "list",data:=.seq vs.toList.toArray }).get? h'.objs.size=some (seqObj "list" vs.toList.toArray 0):=zsx _ rfl;have hN:zbQ s.heap ks vs.toList:=by rw [hvs];exact zlk I S.dp hA (zdH as)
  have hN':zbQ (h'.push { cls:=.type "list",data:=.seq vs.toList.toArray }) ks vs.toList:=zfm (fun c its ⟨o,e1,e2⟩=>⟨o,zsb _ (hk c o e1),e2⟩) S.dp hN;refine wpAny_bind (wpAny_holding (wpAny_call_entry slot_list_sort ⟨_,hB,rfl⟩ entry_list_sort (zrA (s:={ s with heap:=h'.push { cls:=.type "list",data:=.seq vs.toList.toArray },toks:=tk }) hB (by rw [hvl,hkl];exact h64) hN' S (by have:=hr.units;show X.A.units+1+1+8<cLine;omega)
   fun p h2 c hp hs hkeep hB2=>⟨_,rfl,?_⟩) (args_list_sort _)))
  rw [hvl] at hp;refine wpAny_pure ⟨_,rfl,?_⟩;have noneB:s.heap.get? h'.objs.size=none:=by
   cases e:s.heap.get? h'.objs.size with
   | none=>rfl
   | some o=>exact absurd (zso (hk _ _ e)) (Nat.lt_irrefl _)
  have keep2:∀ b o,s.heap.get? b=some o->h2.get? b=some o:=fun b o e=>hkeep b o (fun z=>by rw [z,noneB] at e;cases e) (zsb _ (hk b o e))
  have hpl:p.length=ks.length:=by have:=hp.length_eq;rw [List.length_range] at this;exact this
  have fr:=I.noneAt noneB;rw [hvs,zox (by rw [hal,← hkl];exact hp)] at hB2;refine⟨.ref h'.objs.size,_,I.more (t':=tk) (H':=upd H h'.objs.size (.lst ((p.map fun i=>as.getD i 0).map V.ref))) keep2 (Sub.new fr) (fun b o ho hn=>?_),rfl,q _ _ _ (zk9 hp) hs (zjM hp hA) fr⟩;have hb:b=h'.objs.size:=by
   refine Classical.byContradiction fun c=>?_
   rw [zao c,hn] at ho;cases ho
  subst hb;rw [zah] at ho;cases ho;exact⟨noneB,by rw [zrY,zrY,hpl,hkl,sizeLine_eq];omega,_,c,zdH _,hB2⟩
 ·exact h.elim
def zo7 (te:TE):TI:=fun σ H R=>te σ H fun x H1=>match x with
 | .ref d=>∃ kvs,H1 d=some (.dK (dcI kvs))/\∀ o:Obj,R (Itk d o kvs) (upd H1 d (.frz o (.dK (dcI kvs))))
 | _=>False
theorem zmC {tg e:Expr} {te:TE} (he:PE X e te):PI X tg e (zo7 te):=by
 intro pins s σ H R I h;refine thn (he pins s σ H _ I h) fun u s1 ⟨x,H1,I1,r1,q1⟩=>?_
 obtain⟨d,rfl,kvs,hd,q⟩:∃ d,x=.ref d/\∃ kvs,H1 d=some (.dK (dcI kvs))/\∀ o:Obj,R (Itk d o kvs) (upd H1 d (.frz o (.dK (dcI kvs)))):=by
  dsimp only at q1;split at q1
  ·exact⟨_,rfl,q1⟩
  ·exact q1.elim
 cases r1;obtain⟨z,hsys,ws,rel,o,es,ep,e1,e2,e3,e4⟩:=ziv I1.hok hd;have hat:s1.heap.DictAt (zaB X.prog X.w) d ws ep:=⟨o,es,e1,e2,e3,e4⟩;have hl:kvs.length=ws.length:=by rw [← zjo rel,zrY]
 refine wpAny_pyIter_dict hsys hat ?_;have I2:=(I1.freeze hd e1).kept (t':=s1.toks) (h':=s1.heap.push { cls:=.type "dict_keyiterator",data:=.fields #[.ref d,.int 0 0,.int ws.length 0,.int ep 0] }) fun b o e=>zsb _ e
 refine⟨s1.heap.objs.size,[s1.heap.objs.size],_,_,_,rfl,I2,zlc e3,⟨_,zsx _ rfl,rfl,by rw [hl];rfl⟩,fun b hb=>?_,q o⟩;have e:b=s1.heap.objs.size:=by simpa using hb
 subst e;have nd:s1.heap.objs.size≠d:=Nat.ne_of_gt (zso e1);exact (I1.freeze hd e1).fpOk (zse _) (by rw [zao nd];exact I1.hok.fresh (zse _))
end
end L2
end
section
namespace PySem
end PySem
namespace L2
open PySem PySem.Spec PyProof.Rows PySem.W HT
section
variable {X:Cx} {K:PySem.W.Frag}
end
end L2
end
section
set_option autoImplicit true
open PySem PySem.Spec PyProof.Rows
namespace L2
section
variable {X:Cx} {pos:Pos}
end
end L2
end
section
set_option autoImplicit true
open PySem
namespace L2
end L2
end
section
namespace L2
open PySem PySem.Spec PyProof.Rows PySem.W
def zjz (r:Int) (es:List En):List (Int × Int × En):=es.zipIdx.map fun y=>(r,(y.2:Int),y.1)
def zbZ (m:Ma):List (List (Int × Int × En)):=m.zipIdx.map fun x=>zjz x.2 x.1
def zgF (m:Ma):List (Int × Int × En):=(zbZ m).flatten
theorem zkT {r:Int} {es:List En} {j:Nat} {e:En} (h:es[j]?=some e):(zjz r es)[j]?=some (r,(j:Int),e):=by
 unfold zjz;rw [zrZ,List.getElem?_zipIdx,h];simp
theorem zhq {m:Ma} {i:Nat} {es:List En} (h:m[i]?=some es):(zbZ m)[i]?=some (zjz i es):=by
 unfold zbZ;rw [zrZ,List.getElem?_zipIdx,h];simp
theorem zeH (r:Int) (es:List En):(zjz r es).length=es.length:=by unfold zjz;rw [zrY,List.length_zipIdx]
theorem zed (m:Ma):(zbZ m).length=m.length:=by unfold zbZ;rw [zrY,List.length_zipIdx]
theorem zf6 {α:Type} {n:Nat}:∀ {xs:List (List α)},(∀ x∈xs,x.length<=n)->xs.flatten.length<=xs.length*n
 | [],_=>by simp
 | x::xs,h=>by
  have:=zf6 (xs:=xs) fun y hy=>h y (zsh _ hy)
  have h1:=h x (zsw ..);rw [List.flatten_cons,zr8,zsz,Nat.succ_mul];omega
def zoo (H:Hp) (p:Addr) (x:Int × Int × En):Prop:=∃ a,H p=some (.tup [.int x.1,.int x.2.1,.ref a])/\Ent H a x.2.2
theorem zoo.keep {H H':Hp} (k:∀ a us,H a=some (.tup us)->H' a=some (.tup us)) {p:Addr} {x:Int × Int × En} (h:zoo H p x):zoo H' p x:=by
 obtain⟨a,h1,h2⟩:=h;exact⟨a,k _ _ h1,k _ _ h2⟩
def PrA (H:Hp) (p:Addr) (x:Int × Mk2):Prop:=∃ (q:Addr) (as:List Addr),H p=some (.tup [.int x.1,.ref q])/\H q=some (.tup (as.map V.ref))/\za6 (fun b z=>H b=some (tI z)) as (iv x.2)
theorem PrA.keep {H H':Hp} (k:∀ a us,H a=some (.tup us)->H' a=some (.tup us)) {p:Addr} {x:Int × Mk2} (h:PrA H p x):PrA H' p x:=by
 obtain⟨q,as,h1,h2,h3⟩:=h;exact⟨q,as,k _ _ h1,k _ _ h2,h3.mono fun _ _ _ z=>k _ _ z⟩
def zey (x:Int × Int × En):Option (Int × Mk2):=if x.2.2=[] then some (x.1,[(0,x.2.1)]) else none
def zl9 (m:Ma):List (Int × Mk2):=(zgF m).filterMap zey
theorem zf5 {m:Ma} (M:OkM m):(zgF m).length<=16:=by
 have h1:=zf6 (n:=4) (xs:=zbZ m) fun x hx=>by
  obtain⟨y,hy,rfl⟩:=zsg.1 hx;rw [zeH];obtain⟨_,_,hy3⟩:=List.mem_zipIdx hy
  have:=M.len y.1 (by rw [hy3];exact List.getElem_mem _)
  have:=M.s4
  omega
 rw [zed] at h1
 have:=M.n4
 unfold zgF;omega
def zlV (l:Mk2):Mk2:=l.mergeSort fun a b=>decide (a.1<=b.1)
theorem ze7 (l:Mk2):(zlV l).Perm l:=List.mergeSort_perm l _
theorem ziW {l:Mk2} (nd:(l.map (·.1)).Nodup):Srt (zlV l):=by
 have h:=List.pairwise_mergeSort (le:=fun a b:Int × Int=>decide (a.1<=b.1)) (fun a b c h1 h2=>by simp only [decide_eq_true_eq] at h1 h2 ⊢;omega) (fun a b=>by simp only [Bool.or_eq_true,decide_eq_true_eq];omega) l;have n2:((zlV l).map (·.1)).Nodup:=((ze7 l).map (·.1)).nodup_iff.2 nd
 refine List.pairwise_map.2 ?_
 have:=List.pairwise_map.1 n2
 refine (h.and this).imp fun ⟨a,b⟩=>?_
 simp only [decide_eq_true_eq] at a;omega
theorem zlZ {l js:Mk2} (nd:(l.map (·.1)).Nodup) (p:js.Perm l) (s:Srt js):js=zlV l:=zoa (p.trans (ze7 l).symm) s (ziW nd)
abbrev Pt:=Int × Mk2
def zko (ks:Mk2) (w s:Int):Mk2:=(zfy ks (0-w) s).map fun q=>(q.1+w,q.2)
theorem zlp {ks:Mk2} (nd:(ks.map (·.1)).Nodup) (w s:Int):((zko ks w s).map (·.1)).Nodup:=by
 unfold zko;rw [zsp]
 have:=zdJ (k:=0-w) (s:=s) nd
 have e:((zfy ks (0-w) s).map ((fun q:Int × Int=>q.1) ∘ fun q=>(q.1+w,q.2)))=((zfy ks (0-w) s).map (·.1)).map (·+w):=by rw [zsp];rfl
 rw [e];exact List.pairwise_map.2 (this.imp fun h z=>h (by omega))
theorem zi3 (ks:Mk2) (w s:Int):(zko ks w s).length<=ks.length+1:=by
 unfold zko;rw [zrY];exact zgR ks (0-w) s
def zjH (x:Pt) (e:Int × Int × En):Option Pt:=match e.2.2 with
 | [put,way,goal]=>if goal=x.1/\(zcd x.2 (0-way)).getD put=put then some (e.1,zlV (zko x.2 way e.2.1)) else none
 | _=>none
def ahd (m:Ma) (x:Pt):List Pt:=(zgF m).filterMap (zjH x)
def zoc (n:Nat) (x:Pt):Prop:=x.2.length<=n/\Srt x.2
theorem zn9 {n:Nat} {x y:Pt} {e:Int × Int × En} (h:zoc n x) (he:zjH x e=some y):zoc (n+1) y:=by
 unfold zjH at he;split at he
 ·rename_i put way goal _;split at he
  ·cases he;refine⟨?_,ziW (zlp (zdR h.2) _ _)⟩;show (zlV (zko x.2 way e.2.1)).length<=n+1;rw [(ze7 _).length_eq]
   have:=zi3 x.2 way e.2.1
   have:=h.1
   omega
  ·cases he
 ·cases he
theorem zpe {n:Nat} {m:Ma} {x y:Pt} (h:zoc n x) (hy:y∈ahd m x):zoc (n+1) y:=by
 obtain⟨e,_,he⟩:=List.mem_filterMap.1 hy;exact zn9 h he
def nkM (ks:Mk2):List NK:=ks.map fun q=>.tup [.int q.1,.int q.2]
def nkP (x:Pt):NK:=.tup [.int x.1,.tup (nkM x.2)]
theorem zlh:∀ {ks js:Mk2},nkM ks=nkM js->ks=js
 | [],[],_=>rfl
 | [],_::_,h=>by cases h
 | _::_,[],h=>by cases h
 | (a,b)::ks,(c,d)::js,h=>by
  have h:NK.tup [.int a,.int b]::nkM ks=NK.tup [.int c,.int d]::nkM js:=h;injection h with h1 h2
  injection h1 with h1
  injection h1 with h3 h4
  injection h3 with h3
  injection h4 with h4 _
  injection h4 with h4
  rw [h3,h4,zlh h2]
theorem zhP {x y:Pt} (h:nkP x=nkP y):x=y:=by
 unfold nkP at h;injection h with h
 injection h with h1 h2
 injection h1 with h1
 injection h2 with h2 _
 injection h2 with h2
 exact Prod.ext h1 (zlh h2)
theorem zoR (ks:Mk2):NK.depL (nkM ks)<=1:=by
 induction ks with
 | nil=>exact Nat.zero_le _
 | cons q ks ih =>
  show NK.depL (NK.tup [.int q.1,.int q.2]::nkM ks)<=1;rw [NK.depL]
  have:(NK.tup [.int q.1,.int q.2]).dep=1:=by simp [NK.dep,NK.depL]
  omega
theorem zk4 (x:Pt):(nkP x).dep<=7:=by
 have:=zoR x.2
 unfold nkP;simp only [NK.dep,NK.depL];omega
theorem cmpM:∀ ks js:Mk2,zcH (nkM ks) (nkM js)
 | [],_=>by show zcH [] _;rw [zcH];exact True.intro
 | q::ks,[]=>by show zcH (_::_) [];rw [zcH];exact True.intro
 | q::ks,r::js=>by
  show zcH (NK.tup [.int q.1,.int q.2]::nkM ks) (NK.tup [.int r.1,.int r.2]::nkM js);rw [zcH];exact⟨by simp [zhM,zcH],cmpM ks js⟩
theorem cmpP (x y:Pt):zhM (nkP x) (nkP y):=by
 unfold nkP;rw [zhM,zcH,zcH,zhM,zhM,zcH];exact⟨True.intro,cmpM x.2 y.2,True.intro⟩
theorem zps {ps:List Pt} (nd:ps.Nodup):zl7 true (ps.map nkP) :=
 ⟨List.pairwise_map.2 (nd.imp fun h e=>h (zhP e)),fun k hk=>by obtain⟨x,_,rfl⟩:=zsg.1 hk;exact zk4 x,fun k hk=>by obtain⟨x,_,rfl⟩:=zsg.1 hk;exact⟨x.1,_,rfl⟩,
  fun k hk j hj=>by obtain⟨x,_,rfl⟩:=zsg.1 hk;obtain⟨y,_,rfl⟩:=zsg.1 hj;exact cmpP x y⟩
def ltP (x y:Pt):Prop:=ltN (nkP x) (nkP y)=true
theorem ziD {α β:Type} {f:α->β} (hf:∀ a b,f a=f b->a=b):∀ {l l':List α},l.map f=l'.map f->l=l'
 | [],[],_=>rfl
 | [],_::_,h=>by cases h
 | _::_,[],h=>by cases h
 | x::xs,y::ys,h=>by
  rw [zsq,zsq] at h;injection h with h1 h2
  rw [hf _ _ h1,ziD hf h2]
theorem zkR {ps qs:List Pt} (h1:ps.Pairwise ltP) (h2:qs.Pairwise ltP) (h:∀ x,x∈ps↔x∈qs):ps=qs:=by
 have:=zi0 (l:=ps.map nkP) (l':=qs.map nkP) (List.pairwise_map.2 h1) (List.pairwise_map.2 h2) fun k=>by
  constructor
  ·intro hk;obtain⟨x,hx,rfl⟩:=zsg.1 hk;exact zsg.2 ⟨x,(h x).1 hx,rfl⟩
  ·intro hk;obtain⟨x,hx,rfl⟩:=zsg.1 hk;exact zsg.2 ⟨x,(h x).2 hx,rfl⟩
 exact ziD (fun a b e=>zhP e) this
theorem zmb {js:List NK} {ps:List Pt} (p:js.Perm (ps.map nkP)):∃ qs:List Pt,js=qs.map nkP/\qs.Perm ps:=by
 have hj:∀ k∈js,∃ x,nkP x=k:=fun k hk=>by obtain⟨x,_,e⟩:=zsg.1 (p.mem_iff.1 hk);exact⟨x,e⟩
 have mk:∀ l:List NK,(∀ k∈l,∃ x,nkP x=k)->∃ qs:List Pt,l=qs.map nkP:=by
  intro l
  induction l with
  | nil=>intro _;exact⟨[],rfl⟩
  | cons k l ih =>
   intro h;obtain⟨qs,e⟩:=ih fun k' hk'=>h k' (zsh _ hk')
   obtain⟨x,hx⟩:=h k (zsw ..);exact⟨x::qs,by rw [zsq,hx,e]⟩
 obtain⟨qs,rfl⟩:=mk js hj;refine⟨qs,rfl,?_⟩;have inv:∃ g:NK->Pt,∀ x,g (nkP x)=x:=by
  refine⟨fun k=>match k with | .tup [.int i,.tup l]=>(i,l.filterMap fun z=>match z with | .tup [.int a,.int b]=>some (a,b) | _=>none) | _=>(0,[]),fun x=>?_⟩;unfold nkP;dsimp only;refine Prod.ext rfl ?_;show (nkM x.2).filterMap _=x.2;generalize x.2=ks
  induction ks with
  | nil=>rfl
  | cons q ks ih =>
   show (NK.tup [.int q.1,.int q.2]::nkM ks).filterMap _=_;rw [List.filterMap_cons];dsimp only;rw [ih]
 obtain⟨g,hg⟩:=inv
 have:=p.map g
 rw [zsp,zsp] at this;have e:∀ l:List Pt,l.map (g ∘ nkP)=l:=fun l=>by
  conv=>rhs;rw [← List.map_id l]
  exact zsL fun x _=>hg x
 rwa [e,e] at this
theorem PrA.den {H:Hp} {p:Addr} {x:Pt} (h:PrA H p x):zbU H (nkP x) (.ref p):=by
 obtain⟨q,as,h1,h2,h3⟩:=h;unfold nkP;rw [zbU];refine⟨p,_,rfl,h1,?_⟩;rw [zaP];refine⟨_,_,rfl,by rw [zbU],?_⟩;rw [zaP];refine⟨_,_,rfl,?_,by rw [zaP]⟩;rw [zbU];refine⟨q,_,rfl,h2,zeF ?_ fun i k v hk hv=>?_⟩
 ·unfold nkM;rw [zrY,zrY,h3.1,zrY]
 ·unfold nkM at hk;rw [zrZ] at hk hv;obtain⟨z,hz,rfl⟩:=zr1.1 hk;obtain⟨b,hb,rfl⟩:=zr1.1 hv
  have:=h3.2 i b (z.1,V.int z.2) hb (by rw [zrZ,hz];rfl)
  rw [zbU];refine⟨b,_,rfl,this,?_⟩;rw [zaP];refine⟨_,_,rfl,by rw [zbU],?_⟩;rw [zaP];exact⟨_,_,rfl,by rw [zbU],by rw [zaP]⟩
theorem PrA.of_den {H:Hp} {p:Addr} {x:Pt} (h:zbU H (nkP x) (.ref p)):PrA H p x:=by
 unfold nkP at h;rw [zbU] at h;obtain⟨a,xs,e,h1,h2⟩:=h;cases e;rw [zaP] at h2;obtain⟨u,us,rfl,hu,h2⟩:=h2;rw [zbU] at hu;subst hu;rw [zaP] at h2;obtain⟨u,us,rfl,hu,h2⟩:=h2;rw [zaP] at h2;subst h2;rw [zbU] at hu;obtain⟨q,ys,rfl,hq,h3⟩:=hu;have hl:=zdz h3;have each:∀ (i:Nat) (v:V),ys[i]?=some v->∃ (b:Addr) (z:Int × Int),v=.ref b/\x.2[i]?=some z/\H b=some (tI (z.1,V.int z.2)):=fun i v hv=>by
  obtain⟨k,hk,hd⟩:=zeJ h3 hv;unfold nkM at hk;rw [zrZ] at hk;obtain⟨z,hz,rfl⟩:=zr1.1 hk;rw [zbU] at hd;obtain⟨b,zs,rfl,hb,h4⟩:=hd;rw [zaP] at h4;obtain⟨u,us,rfl,hu,h4⟩:=h4;rw [zbU] at hu;subst hu;rw [zaP] at h4;obtain⟨u,us,rfl,hu,h4⟩:=h4;rw [zbU] at hu;subst hu;rw [zaP] at h4;subst h4;exact⟨b,z,rfl,hz,hb⟩
 have refs:∃ as:List Addr,ys=as.map V.ref:=by
  have:∀ l:List V,(∀ v∈l,∃ b,v=V.ref b)->∃ as:List Addr,l=as.map V.ref:=by
   intro l
   induction l with
   | nil=>intro _;exact⟨[],rfl⟩
   | cons v l ih =>
    intro h;obtain⟨as,e⟩:=ih fun v' hv'=>h v' (zsh _ hv')
    obtain⟨b,rfl⟩:=h v (zsw ..);exact⟨b::as,by rw [zsq,e]⟩
  refine this ys fun v hv=>?_
  obtain⟨i,hi⟩:=List.getElem?_of_mem hv;obtain⟨b,_,e,_⟩:=each i v hi;exact⟨b,e⟩
 obtain⟨as,rfl⟩:=refs;refine⟨q,as,h1,hq,?_,fun i b z hb hz=>?_⟩
 ·unfold nkM at hl;rw [zrY,zrY] at hl;rw [hl,zrY]
 ·obtain⟨b',z',e1,e2,e3⟩:=each i (.ref b) (by rw [zrZ,hb];rfl);cases e1;rw [zrZ,e2] at hz;cases hz;exact e3
theorem PrA.of_dens {H:Hp} {as:List Addr} {ps:List Pt} (h:zaP H (ps.map nkP) (as.map V.ref)):za6 (PrA H) as ps:=by
 have hl:=zdz h;rw [zrY,zrY] at hl;refine⟨hl,fun i b x hb hx=>?_⟩;obtain⟨k,hk,hd⟩:=zeJ h (i:=i) (v:=.ref b) (by rw [zrZ,hb];rfl);rw [zrZ,hx] at hk;cases hk;exact .of_den hd
def Lev (m:Ma):Nat->List Pt->Prop
 | 0,ps=>ps.Pairwise ltP/\∀ x,x∈ps↔x∈zl9 m
 | n+1,ps=>ps.Pairwise ltP/\∃ qs,Lev m n qs/\∀ x,x∈ps↔∃ q∈qs,x∈ahd m q
theorem Lev.one {m:Ma}:∀ {n:Nat} {ps qs:List Pt},Lev m n ps->Lev m n qs->ps=qs
 | 0,ps,qs,h,h'=>zkR h.1 h'.1 fun x=>(h.2 x).trans (h'.2 x).symm
 | n+1,ps,qs,⟨h1,a,h2,h3⟩,⟨h1',a',h2',h3'⟩=>by
  have e:=Lev.one h2 h2';subst e;exact zkR h1 h1' fun x=>(h3 x).trans (h3' x).symm
theorem zoO {m:Ma} {x:Pt} (h:x∈zl9 m):zoc 1 x:=by
 obtain⟨e,_,he⟩:=List.mem_filterMap.1 h;unfold zey at he;split at he
 ·cases he;exact⟨zse _,by simp [Srt]⟩
 ·cases he
theorem Lev.ok {m:Ma}:∀ {n:Nat} {ps:List Pt},Lev m n ps->∀ x∈ps,zoc (n+1) x
 | 0,ps,h,x,hx=>zoO ((h.2 x).1 hx)
 | n+1,ps,⟨_,qs,h2,h3⟩,x,hx=>by
  obtain⟨q,hq,hx⟩:=(h3 x).1 hx;exact zpe (Lev.ok h2 q hq) hx
def znV (qs:List Pt) (x:Pt):List Pt:=if x∈qs then qs else qs++[x]
theorem zmZ {qs:List Pt} {x y:Pt}:y∈znV qs x↔y∈qs\/y=x:=by
 unfold znV;by_cases c:x∈qs
 ·rw [zsB c];exact⟨.inl,fun h=>h.elim id fun e=>by rw [e];exact c⟩
 ·rw [zsA c,zr9,zr7]
theorem zmo (qs:List Pt) (x:Pt):(znV qs x).length<=qs.length+1:=by
 unfold znV;split
 ·omega
 ·rw [zr8];exact zse _
theorem zmL {kvs:List (NK × Addr × V)} {qs:List Pt} (e:kvs.map (·.1)=qs.map nkP) (x:Pt) (b:Addr) (v:V):(zo4 kvs (nkP x) b v).map (·.1)=(znV qs x).map nkP:=by
 have iff:nkP x∈kvs.map (·.1)↔x∈qs:=by
  rw [e];exact⟨fun h=>by obtain⟨y,hy,e⟩:=zsg.1 h;rw [← zhP e];exact hy,fun h=>zsg.2 ⟨x,h,rfl⟩⟩
 unfold zo4 znV;by_cases c:x∈qs
 ·rw [zsB (iff.2 c),zsB c,zsp,← e];refine zsL fun q hq=>?_
  show (if q.1=nkP x then (q.1,q.2.1,v) else q).1=q.1;split <;> rfl
 ·rw [zsA (fun h=>c (iff.1 h)),zsA c,zr6,zr6,e]
  rfl
def TdP (H:Hp) (d:Addr) (qs:List Pt):Prop:=∃ kvs,DNx H d kvs/\kvs.map (·.1)=qs.map nkP
theorem TdP.nd {H:Hp} {d:Addr} {qs:List Pt} (h:TdP H d qs):qs.Nodup:=by
 obtain⟨kvs,D,e⟩:=h
 have:=D.nd
 rw [e] at this;exact (List.pairwise_map.1 this).imp fun h z=>h (by rw [z])
theorem TdP.ext {H:Hp} {d:Addr} {qs:List Pt} (h:TdP H d qs):∃ φ,H d=some (.ext φ):=by
 obtain⟨kvs,D,e⟩:=h;obtain⟨xs,e,_⟩:=D.ex;exact⟨_,e⟩
def Bar (d:Addr) (H H':Hp):Prop:=∀ c u,H c=some u->c≠d->H' c=some u
theorem Bar.refl {d:Addr} {H:Hp}:Bar d H H:=fun _ _ e _=>e
theorem Bar.of {d:Addr} {H H':Hp} (S:Sub H H'):Bar d H H':=fun c u e _=>S c u e
theorem Bar.trans {d:Addr} {H H1 H2:Hp} (a:Bar d H H1) (b:Bar d H1 H2):Bar d H H2:=fun c u e n=>b c u (a c u e n) n
theorem Bar.sub {d:Addr} {H H1:Hp} (a:Bar d H H1) (n:H d=none):Sub H H1:=fun c u e=>a c u e (fun z=>by rw [z,n] at e;cases e)
theorem Bar.tup {d:Addr} {H H1:Hp} {φ:Heap->Prop} (a:Bar d H H1) (e:H d=some (.ext φ)):∀ c us,H c=some (.tup us)->H1 c=some (.tup us):=fun c us q=>a c _ q (fun z=>by rw [z,e] at q;cases q)
theorem Bar.lst {d:Addr} {H H1:Hp} {φ:Heap->Prop} (a:Bar d H H1) (e:H d=some (.ext φ)):∀ c us,H c=some (.lst us)->H1 c=some (.lst us):=fun c us q=>a c _ q (fun z=>by rw [z,e] at q;cases q)
theorem TdP.sub {H H':Hp} {d:Addr} {qs:List Pt} (S:Sub H H') (h:TdP H d qs):TdP H' d qs:=let ⟨k,D,e⟩:=h;⟨k,D.sub S,e⟩
theorem zme {m:Ma} {x:Int × Int × En}:x∈zgF m↔∃ (i j:Nat) (es:List En),m[i]?=some es/\es[j]?=some x.2.2/\x.1=i/\x.2.1=j:=by
 constructor
 ·intro h;unfold zgF zbZ at h;obtain⟨l,hl,hx⟩:=List.mem_flatten.1 h;obtain⟨⟨es,i⟩,hy,rfl⟩:=zsg.1 hl;have hy:=List.mem_zipIdx_iff_getElem?.1 hy;unfold zjz at hx;obtain⟨⟨e,j⟩,hz,rfl⟩:=zsg.1 hx;have hz:=List.mem_zipIdx_iff_getElem?.1 hz;exact⟨i,j,es,hy,hz,rfl,rfl⟩
 ·rintro ⟨i,j,es,h1,h2,h3,h4⟩;unfold zgF;refine List.mem_flatten.2 ⟨zjz i es,zr3 (zhq h1),?_⟩
  have:=zr3 (zkT (r:=(i:Int)) h2)
  have e:x=((i:Int),(j:Int),x.2.2):=Prod.ext h3 (Prod.ext h4 rfl);rw [e];exact this
theorem zkd {m:Ma} (M:OkM m) {x:Int × Int × En} (h:x∈zgF m):zaM m.length (sgn m) x.2.2=true:=by
 obtain⟨i,j,es,h1,h2,_⟩:=zme.1 h;exact M.ent es (zr3 h1) _ (zr3 h2)
theorem zmA (m:Ma):(zgF m).Pairwise fun a b=>a.1<b.1\/a.1=b.1/\a.2.1<b.2.1:=by
 unfold zgF;refine List.pairwise_flatten.2 ⟨fun l hl=>?_,?_⟩
 ·unfold zbZ at hl;obtain⟨y,_,rfl⟩:=zsg.1 hl;unfold zjz;refine List.pairwise_map.2 (List.pairwise_iff_getElem.2 fun i j hi hj hij=>?_);rw [List.getElem_zipIdx,List.getElem_zipIdx];exact .inr ⟨rfl,by show ((0+i:Nat):Int)<((0+j:Nat):Int);omega⟩
 ·unfold zbZ;refine List.pairwise_map.2 (List.pairwise_iff_getElem.2 fun i j hi hj hij x hx y hy=>?_);rw [List.getElem_zipIdx] at hx hy;unfold zjz at hx hy;obtain⟨a,_,rfl⟩:=zsg.1 hx;obtain⟨b,_,rfl⟩:=zsg.1 hy;exact .inl (by show ((0+i:Nat):Int)<((0+j:Nat):Int);omega)
theorem zio {a b:Int}:NK.int a=NK.int b↔a=b:=⟨fun h=>by injection h,fun h=>by rw [h]⟩
theorem zp3 {r s r' s':Int} (h:r<r'\/r=r'/\s<s'):ltP (r,[(0,s)]) (r',[(0,s')]):=by
 unfold ltP nkP nkM;show ltN (.tup [.int r,.tup [.tup [.int 0,.int s]]]) (.tup [.int r',.tup [.tup [.int 0,.int s']]])=true;rw [ltN,zcj];rcases h with h | ⟨rfl,h⟩
 ·rw [zsA (fun z=>by have:=zio.1 z;omega),ltN];exact zr4 h
 ·have ne:¬ NK.tup [NK.int 0,NK.int s]=NK.tup [NK.int 0,NK.int s']:=fun z=>by
   injection z with z
   injection z with _ z
   injection z with z _
   have:=zio.1 z
   omega
  rw [zsB rfl,zcj,zsA (fun z=>by injection z with z;injection z with z _;exact ne z),ltN,zcj,zsA ne,ltN,zcj,zsB rfl,zcj,zsA (fun z=>by have:=zio.1 z;omega),ltN];exact zr4 h
theorem zmn (m:Ma):(zl9 m).Pairwise ltP:=by
 unfold zl9;refine List.pairwise_filterMap.2 ((zmA m).imp fun {a b} h x hx y hy=>?_);unfold zey at hx hy;split at hx
 ·split at hy
  ·cases hx;cases hy;exact zp3 h
  ·cases hy
 ·cases hx
theorem zrr (m:Ma):Lev m 0 (zl9 m):=⟨zmn m,fun _=>Iff.rfl⟩
theorem zju {m:Ma} (M:OkM m):(zl9 m).length<=16:=zsd (List.length_filterMap_le _ _) (zf5 M)
def Low (m:Ma) (n:Nat):Prop:=∀ k,k<n->∀ ps,Lev m k ps->ps.length<=300
def PlA (H:Hp) (p:Addr) (z:Addr × Pt):Prop:=∃ as,H p=some (.tup [.int z.2.1,.ref z.1])/\H z.1=some (.lst (as.map V.ref))/\za6 (fun b w=>H b=some (tI w)) as (iv z.2.2)
def LvA (H:Hp) (p:Addr) (ps:List Pt):Prop:=∃ as,H p=some (.lst (as.map V.ref))/\za6 (PrA H) as ps
end L2
end
section
namespace L2
open PySem PySem.Spec PyProof.Rows PySem.W
end L2
end
section
namespace L2
open PySem PySem.Spec PyProof.Rows PySem.W
section
variable {X:Cx}
end
def dPt (x:Pt):DD:=.tup [.int x.1,.tup (x.2.map dP)]
theorem PrA.denD {H:Hp} {p:Addr} {x:Pt} (h:PrA H p x):Den H (.ref p) (dPt x):=by
 obtain⟨q,as,h1,h2,h3⟩:=h;unfold dPt;rw [Den];refine⟨_,_,rfl,h1,⟨_,_,rfl,by rw [Den],⟨_,_,rfl,?_,rfl⟩⟩⟩;rw [Den];refine⟨_,_,rfl,h2,zfo (R:=fun b q=>H b=some (tI (q.1,V.int q.2))) (f:=dP) (fun a q z=>?_) ⟨by rw [h3.1,zrY],fun i a q ha hq=>h3.2 i a _ ha (by rw [zrZ,hq];rfl)⟩⟩;rw [dP,Den];refine⟨_,_,rfl,z,?_⟩;rw [zcy];refine⟨_,_,rfl,by rw [Den],?_⟩;rw [zcy];exact⟨_,_,rfl,by rw [Den],by rw [zcy]⟩
theorem LvA.den {H:Hp} {l:Addr} {ps:List Pt} (h:LvA H l ps):Den H (.ref l) (.lst (ps.map dPt)):=by
 obtain⟨as,h1,h2⟩:=h;rw [Den];exact⟨_,_,rfl,h1,zfo (f:=dPt) (fun a z q=>q.denD) h2⟩
theorem zl8 (ps:List Pt):dep (.lst (ps.map dPt))<=60:=by
 rw [dep]
 have:depL (ps.map dPt)<=5:=zbt fun d hd=>by
  obtain⟨x,_,rfl⟩:=zsg.1 hd;unfold dPt;rw [dep]
  have:depL [DD.int x.1,.tup (x.2.map dP)]<=3:=zbt fun d hd=>by
   rcases zsF.1 hd with rfl | hd
   ·exact Nat.zero_le _
   ·rw [zr7.1 hd,dep]
    have:depL (x.2.map dP)<=2:=zbt fun d hd=>by
     obtain⟨q,_,rfl⟩:=zsg.1 hd;show dep (.tup [.int q.1,.int q.2])<=2;rw [dep]
     have:depL [DD.int q.1,DD.int q.2]<=1:=zbt fun d hd=>by
      rcases zsF.1 hd with rfl | hd
      ·exact Nat.zero_le _
      ·rw [zr7.1 hd];exact Nat.zero_le _
     omega
    omega
  omega
 omega
theorem zoj (ps:List Pt):eqD (.lst (ps.map dPt)) (.lst [])=decide (ps=[]):=by
 rw [eqD];cases ps with
 | nil=>rw [zsr,zhK];rfl
 | cons x ps=>rw [zsq,zhK];rfl;all_goals (intros;first | contradiction | simp_all)
end L2
end
section
namespace L2
open PySem PySem.Spec PyProof.Rows PySem.W
end L2
end
section
set_option autoImplicit true
open PySem PySem.Spec PyProof.Rows
namespace L2
theorem zaC.or0 {P:Program} {w:World} {K:PySem.W.Frag} {mg:Str->Option Value} {base:Heap} {j k l:Nat} {f:Addr} {fd:FuncData} {ps:List Str} {sp sp':Sp} (F:zaC P w K mg base CX0 j f fd ps sp) (G:zaC P w K mg base (CXE P w) k f fd ps sp') (h1:j<=l) (h2:k<=l) :
  zaC P w K mg base (CXE P w) l f fd ps (fun vs H Q E=>sp vs H Q E\/sp' vs H Q E) :=
 ⟨fun vs H Q E h=>h.elim (F.len vs H Q E) (G.len vs H Q E),fun A outer s H args us vs Q E hr he hb hv hs=>by
  rcases hs with hs | hs
  ·refine codeAny_mono (F.run A outer s H args us vs Q E (hr.mono h1) he hb hv hs) fun r s' hq=>?_
   cases r with
   | ok fl=>cases fl <;> exact hq
   | error e=>exact hq.elim
  ·exact G.run A outer s H args us vs Q E (hr.mono h2) he hb hv hs⟩
section
variable {X:Cx} {tg:Expr}
def zrK (wi:TI):TS:=fun _ σ H=>wi σ H fun _ _=>False
theorem zg0 {iter:Expr} {body:List Stmt} {wi:TI} {pos:Pos} (hi:PI X tg iter wi) (hs:∀ x,foldedSetIterable iter X.env x=pure x:=by intro _;rfl):PS X (.For tg iter body [] pos) (zrK wi):=by
 intro pins s σ H D I h;refine wpAny_For (thn (hi pins s σ H _ I h) fun v s1 h1=>thn h1 fun itv s2 h2=>?_) hs;obtain⟨it,fp,tn,J,H2,e,I2,T,st2,f2,z⟩:=h2;exact z.elim
end
end L2
end
namespace Law
open PySem PySem.Spec PyProof.Rows L2
local macro_rules | `(tactic| walk_at "o") => `(tactic| first | exact Or.inl rfl | exact Or.inr rfl)
local macro_rules | `(tactic| walk_at "w") => `(tactic| conv => whnf)
local macro_rules | `(tactic| walk_at "hp") => `(tactic| (repeat (first | assumption | exact zah | refine zpQ ?_ (by assumption))))
local macro_rules | `(tactic| walk_at "frees") => `(tactic| (repeat ((conv => whnf); first | exact True.intro | refine ⟨Or.inl rfl, ?_⟩ | refine ⟨Or.inr rfl, ?_⟩ | refine ⟨⟨rfl, Or.inl rfl⟩, ?_⟩ | refine ⟨⟨rfl, Or.inr rfl⟩, ?_⟩)))
local macro_rules | `(tactic| walk_at "s") => `(tactic| exact ⟨rfl, rfl, rfl, by decide +kernel, rfl, by decide +kernel, by decide +kernel⟩)
local macro_rules | `(tactic| walk_at "comp_ok") => `(tactic| exact ⟨rfl, by decide +kernel, by decide +kernel, by walk_at "frees", by walk_at "frees"⟩)
def top (i:Nat):Stmt:=PySem.Challenge.pw_endnever_k06_no_machine_at_every_door.main.body.getD i (.Pass ⟨0,0,0,0⟩)
abbrev zcf:Stmt:=top 73
abbrev zc0:Stmt:=top 75
abbrev zcg:Stmt:=top 74
abbrev zbW:Stmt:=top 17
abbrev zcZ:Stmt:=top 18
abbrev zbk:Stmt:=top 19
abbrev zaW:Stmt:=top 20
abbrev za0:Stmt:=zd8 (top 15) 0
abbrev zbI:Stmt:=zd8 (top 15) 1
abbrev zbo:Stmt:=zd8 (top 15) 2
abbrev zbJ:Stmt:=zd8 (top 15) 4
abbrev zbF:Stmt:=zd8 (top 15) 3
abbrev zbj:Stmt:=zd8 (top 15) 5
abbrev zbf:Stmt:=top 16
abbrev zdu:Stmt:=top 24
abbrev zb6:Stmt:=top 21
abbrev zia:Stmt:=top 25
abbrev zcB:Stmt:=top 26
abbrev zdk:Stmt:=top 27
abbrev zb7:Stmt:=top 28
abbrev zbD:Stmt:=top 40
abbrev zeU:Stmt:=top 41
abbrev za8:Stmt:=top 42
abbrev zbd:Stmt:=top 43
abbrev zds:Stmt:=top 44
abbrev zbl:Stmt:=top 32
abbrev zbH:Stmt:=top 33
abbrev zbp:Stmt:=top 34
abbrev zbc:Stmt:=top 35
abbrev zbC:Stmt:=top 36
abbrev zb0:Stmt:=top 37
abbrev zcY:Stmt:=top 45
abbrev zcl:Stmt:=top 46
abbrev zbm:Stmt:=top 47
abbrev zbe:Stmt:=top 48
abbrev zbB:Stmt:=top 59
abbrev zbq:Stmt:=top 38
abbrev zbs:Stmt:=top 57
abbrev zdj:Stmt:=top 60
abbrev zbr:Stmt:=top 70
abbrev zaX:Stmt:=top 71
abbrev za7:Stmt:=top 62
abbrev zcu:Stmt:=top 63
abbrev zbY:Stmt:=top 64
abbrev zbb:Stmt:=top 65
abbrev zbG:Stmt:=top 76
abbrev zeh:Stmt:=top 77
abbrev zch:Stmt:=top 78
abbrev zbV:Stmt:=top 79
abbrev zd5:Stmt:=top 80
abbrev zke:Stmt:=top 81
theorem us0 {P:List Value->Prop} (h:Unit->P []):∀ us:List Value,us.length=0->P us
 | [],_=>h ()
theorem us1 {P:List Value->Prop} (h:∀ v0,P [v0]):∀ us:List Value,us.length=1->P us
 | [v0],_=>h v0
theorem us2 {P:List Value->Prop} (h:∀ v0 v1,P [v0,v1]):∀ us:List Value,us.length=2->P us
 | [v0,v1],_=>h v0 v1
theorem us3 {P:List Value->Prop} (h:∀ v0 v1 v2,P [v0,v1,v2]):∀ us:List Value,us.length=3->P us
 | [v0,v1,v2],_=>h v0 v1 v2
theorem us4 {P:List Value->Prop} (h:∀ v0 v1 v2 v3,P [v0,v1,v2,v3]):∀ us:List Value,us.length=4->P us
 | [v0,v1,v2,v3],_=>h v0 v1 v2 v3
theorem us5 {P:List Value->Prop} (h:∀ v0 v1 v2 v3 v4,P [v0,v1,v2,v3,v4]):∀ us:List Value,us.length=5->P us
 | [v0,v1,v2,v3,v4],_=>h v0 v1 v2 v3 v4
set_option genInjectivity false in
set_option genSizeOf false in
structure Ad where
 l_mixed:Addr
 l_mixed_d:FuncData
 l_draw:Addr
 l_draw_d:FuncData
 l_purse:Addr
 l_purse_d:FuncData
 is_entry:Addr
 is_entry_d:FuncData
 is_row:Addr
 is_row_d:FuncData
 is_machine:Addr
 is_machine_d:FuncData
 must_machine:Addr
 must_machine_d:FuncData
 Walk___init__:Addr
 Walk___init___d:FuncData
 Walk_look:Addr
 Walk_look_d:FuncData
 Walk_entry:Addr
 Walk_entry_d:FuncData
 Walk_mark:Addr
 Walk_mark_d:FuncData
 Walk_step:Addr
 Walk_step_d:FuncData
 Walk_setup:Addr
 Walk_setup_d:FuncData
 first_setup:Addr
 first_setup_d:FuncData
 begun:Addr
 begun_d:FuncData
 stepped:Addr
 stepped_d:FuncData
 run:Addr
 run_d:FuncData
 setups:Addr
 setups_d:FuncData
 looks:Addr
 looks_d:FuncData
 touched:Addr
 touched_d:FuncData
 setup_key:Addr
 setup_key_d:FuncData
 ring:Addr
 ring_d:FuncData
 is_led_along:Addr
 is_led_along_d:FuncData
 first_drift:Addr
 first_drift_d:FuncData
 drift:Addr
 drift_d:FuncData
 entries_in:Addr
 entries_in_d:FuncData
 end_parts:Addr
 end_parts_d:FuncData
 part_ahead:Addr
 part_ahead_d:FuncData
 parts_ahead:Addr
 parts_ahead_d:FuncData
 parts_at:Addr
 parts_at_d:FuncData
 no_back:Addr
 no_back_d:FuncData
 walked:Addr
 walked_d:FuncData
 between:Addr
 between_d:FuncData
 shows_ring:Addr
 shows_ring_d:FuncData
 shows_drift:Addr
 shows_drift_d:FuncData
 shows_end:Addr
 shows_end_d:FuncData
 shows_back:Addr
 shows_back_d:FuncData
 shows_shut:Addr
 shows_shut_d:FuncData
 shows:Addr
 shows_d:FuncData
 show_entry:Addr
 show_entry_d:FuncData
 show_machine:Addr
 show_machine_d:FuncData
 met_entries:Addr
 met_entries_d:FuncData
 visits:Addr
 visits_d:FuncData
 records:Addr
 records_d:FuncData
 parts_from:Addr
 parts_from_d:FuncData
 l_machine:Addr
 l_machine_d:FuncData
 l_met:Addr
 l_met_d:FuncData
 l_asked:Addr
 l_asked_d:FuncData
 l_caught:Addr
 l_caught_d:FuncData
 l_odd:Addr
 l_odd_d:FuncData
 law:Addr
 law_d:FuncData
 MillError:Addr
 Full:Addr
 NoDeed:Addr
 NoMachine:Addr
 NoName:Addr
 NoPaper:Addr
 NoSize:Addr
 NoSuch:Addr
 NoText:Addr
 Twice:Addr
 Walk:Addr
 WAYS:Addr
 ROWS:Addr
structure Tx (K:PySem.W.Frag) (mg:Str->Option Value) (a:Ad):Prop where
 f_l_mixed:Fun K "_law_mixed" "_law_mixed" zcf a.l_mixed a.l_mixed_d
 b_l_mixed:zaA K a.l_mixed_d ["_law_cell","_law_k"] []
 g_l_mixed:mg "_law_mixed"=some (.ref a.l_mixed)
 f_l_draw:Fun K "_law_draw" "_law_draw" zc0 a.l_draw a.l_draw_d
 b_l_draw:zaA K a.l_draw_d ["_law_purse_here","_law_out_of"] []
 g_l_draw:mg "_law_draw"=some (.ref a.l_draw)
 f_l_purse:Fun K "_law_purse" "_law_purse" zcg a.l_purse a.l_purse_d
 b_l_purse:zaA K a.l_purse_d ["_law_script"] []
 g_l_purse:mg "_law_purse"=some (.ref a.l_purse)
 f_is_entry:Fun K "is_entry" "is_entry" zbW a.is_entry a.is_entry_d
 b_is_entry:zaA K a.is_entry_d ["entry","rows","signs"] []
 g_is_entry:mg "is_entry"=some (.ref a.is_entry)
 f_is_row:Fun K "is_row" "is_row" zcZ a.is_row a.is_row_d
 b_is_row:zaA K a.is_row_d ["row","rows","signs"] []
 g_is_row:mg "is_row"=some (.ref a.is_row)
 f_is_machine:Fun K "is_machine" "is_machine" zbk a.is_machine a.is_machine_d
 b_is_machine:zaA K a.is_machine_d ["machine"] []
 g_is_machine:mg "is_machine"=some (.ref a.is_machine)
 f_must_machine:Fun K "must_machine" "must_machine" zaW a.must_machine a.must_machine_d
 b_must_machine:zaA K a.must_machine_d ["machine"] []
 g_must_machine:mg "must_machine"=some (.ref a.must_machine)
 f_Walk___init__:Fun K "__init__" "Walk.__init__" za0 a.Walk___init__ a.Walk___init___d
 b_Walk___init__:zaA K a.Walk___init___d ["self","table","begin"] []
 mk_Walk:Mk K a.Walk a.Walk___init__
 f_Walk_look:Fun K "look" "Walk.look" zbI a.Walk_look a.Walk_look_d
 b_Walk_look:zaA K a.Walk_look_d ["self"] []
 m_Walk_look:znv K a.Walk "look" a.Walk_look
 f_Walk_entry:Fun K "entry" "Walk.entry" zbo a.Walk_entry a.Walk_entry_d
 b_Walk_entry:zaA K a.Walk_entry_d ["self"] []
 m_Walk_entry:znv K a.Walk "entry" a.Walk_entry
 f_Walk_mark:Fun K "mark" "Walk.mark" zbJ a.Walk_mark a.Walk_mark_d
 b_Walk_mark:zaA K a.Walk_mark_d ["self","sign"] []
 m_Walk_mark:znv K a.Walk "mark" a.Walk_mark
 f_Walk_step:Fun K "step" "Walk.step" zbF a.Walk_step a.Walk_step_d
 b_Walk_step:zaA K a.Walk_step_d ["self"] []
 m_Walk_step:znv K a.Walk "step" a.Walk_step
 f_Walk_setup:Fun K "setup" "Walk.setup" zbj a.Walk_setup a.Walk_setup_d
 b_Walk_setup:zaA K a.Walk_setup_d ["self"] []
 m_Walk_setup:znv K a.Walk "setup" a.Walk_setup
 f_first_setup:Fun K "first_setup" "first_setup" zbf a.first_setup a.first_setup_d
 b_first_setup:zaA K a.first_setup_d [] []
 g_first_setup:mg "first_setup"=some (.ref a.first_setup)
 f_begun:Fun K "begun" "begun" zdu a.begun a.begun_d
 b_begun:zaA K a.begun_d ["machine"] []
 g_begun:mg "begun"=some (.ref a.begun)
 f_stepped:Fun K "stepped" "stepped" zb6 a.stepped a.stepped_d
 b_stepped:zaA K a.stepped_d ["machine","setup"] []
 g_stepped:mg "stepped"=some (.ref a.stepped)
 f_run:Fun K "run" "run" zia a.run a.run_d
 b_run:zaA K a.run_d ["machine","most"] []
 g_run:mg "run"=some (.ref a.run)
 f_setups:Fun K "setups" "setups" zcB a.setups a.setups_d
 b_setups:zaA K a.setups_d ["machine","most"] []
 g_setups:mg "setups"=some (.ref a.setups)
 f_looks:Fun K "looks" "looks" zdk a.looks a.looks_d
 b_looks:zaA K a.looks_d ["machine","most"] []
 g_looks:mg "looks"=some (.ref a.looks)
 f_touched:Fun K "touched" "touched" zb7 a.touched a.touched_d
 b_touched:zaA K a.touched_d ["machine","most"] []
 g_touched:mg "touched"=some (.ref a.touched)
 f_setup_key:Fun K "setup_key" "setup_key" zbD a.setup_key a.setup_key_d
 b_setup_key:zaA K a.setup_key_d ["setup"] []
 g_setup_key:mg "setup_key"=some (.ref a.setup_key)
 f_ring:Fun K "ring" "ring" zeU a.ring a.ring_d
 b_ring:zaA K a.ring_d ["machine","most"] []
 g_ring:mg "ring"=some (.ref a.ring)
 f_is_led_along:Fun K "is_led_along" "is_led_along" za8 a.is_led_along a.is_led_along_d
 b_is_led_along:zaA K a.is_led_along_d ["early","late","low","high"] []
 g_is_led_along:mg "is_led_along"=some (.ref a.is_led_along)
 f_first_drift:Fun K "first_drift" "first_drift" zbd a.first_drift a.first_drift_d
 b_first_drift:zaA K a.first_drift_d ["trail","late"] []
 g_first_drift:mg "first_drift"=some (.ref a.first_drift)
 f_drift:Fun K "drift" "drift" zds a.drift a.drift_d
 b_drift:zaA K a.drift_d ["machine","most"] []
 g_drift:mg "drift"=some (.ref a.drift)
 f_entries_in:Fun K "entries_in" "entries_in" zbl a.entries_in a.entries_in_d
 b_entries_in:zaA K a.entries_in_d ["machine"] []
 g_entries_in:mg "entries_in"=some (.ref a.entries_in)
 f_end_parts:Fun K "end_parts" "end_parts" zbH a.end_parts a.end_parts_d
 b_end_parts:zaA K a.end_parts_d ["machine"] []
 g_end_parts:mg "end_parts"=some (.ref a.end_parts)
 f_part_ahead:Fun K "part_ahead" "part_ahead" zbp a.part_ahead a.part_ahead_d
 b_part_ahead:zaA K a.part_ahead_d ["signs","row","sign","put","way"] []
 g_part_ahead:mg "part_ahead"=some (.ref a.part_ahead)
 f_parts_ahead:Fun K "parts_ahead" "parts_ahead" zbc a.parts_ahead a.parts_ahead_d
 b_parts_ahead:zaA K a.parts_ahead_d ["machine","parts"] []
 g_parts_ahead:mg "parts_ahead"=some (.ref a.parts_ahead)
 f_parts_at:Fun K "parts_at" "parts_at" zbC a.parts_at a.parts_at_d
 b_parts_at:zaA K a.parts_at_d ["machine","depth"] []
 g_parts_at:mg "parts_at"=some (.ref a.parts_at)
 f_no_back:Fun K "no_back" "no_back" zb0 a.no_back a.no_back_d
 b_no_back:zaA K a.no_back_d ["machine","most"] []
 g_no_back:mg "no_back"=some (.ref a.no_back)
 f_walked:Fun K "walked" "walked" zcY a.walked a.walked_d
 b_walked:zaA K a.walked_d ["walk","steps"] []
 g_walked:mg "walked"=some (.ref a.walked)
 f_between:Fun K "between" "between" zcl a.between a.between_d
 b_between:zaA K a.between_d ["machine","early","late"] []
 g_between:mg "between"=some (.ref a.between)
 f_shows_ring:Fun K "shows_ring" "shows_ring" zbm a.shows_ring a.shows_ring_d
 b_shows_ring:zaA K a.shows_ring_d ["machine","early","late"] []
 g_shows_ring:mg "shows_ring"=some (.ref a.shows_ring)
 f_shows_drift:Fun K "shows_drift" "shows_drift" zbe a.shows_drift a.shows_drift_d
 b_shows_drift:zaA K a.shows_drift_d ["machine","early","late"] []
 g_shows_drift:mg "shows_drift"=some (.ref a.shows_drift)
 f_shows_end:Fun K "shows_end" "shows_end" zbB a.shows_end a.shows_end_d
 b_shows_end:zaA K a.shows_end_d ["machine","steps"] []
 g_shows_end:mg "shows_end"=some (.ref a.shows_end)
 f_shows_back:Fun K "shows_back" "shows_back" zbq a.shows_back a.shows_back_d
 b_shows_back:zaA K a.shows_back_d ["machine","depth"] []
 g_shows_back:mg "shows_back"=some (.ref a.shows_back)
 f_shows_shut:Fun K "shows_shut" "shows_shut" zbs a.shows_shut a.shows_shut_d
 b_shows_shut:zaA K a.shows_shut_d ["machine","paper"] []
 g_shows_shut:mg "shows_shut"=some (.ref a.shows_shut)
 f_shows:Fun K "shows" "shows" zdj a.shows a.shows_d
 b_shows:zaA K a.shows_d ["machine","paper"] []
 g_shows:mg "shows"=some (.ref a.shows)
 f_show_entry:Fun K "show_entry" "show_entry" zbr a.show_entry a.show_entry_d
 b_show_entry:zaA K a.show_entry_d ["entry"] []
 g_show_entry:mg "show_entry"=some (.ref a.show_entry)
 f_show_machine:Fun K "show_machine" "show_machine" zaX a.show_machine a.show_machine_d
 b_show_machine:zaA K a.show_machine_d ["machine"] []
 g_show_machine:mg "show_machine"=some (.ref a.show_machine)
 f_met_entries:Fun K "met_entries" "met_entries" za7 a.met_entries a.met_entries_d
 b_met_entries:zaA K a.met_entries_d ["machine","most"] []
 g_met_entries:mg "met_entries"=some (.ref a.met_entries)
 f_visits:Fun K "visits" "visits" zcu a.visits a.visits_d
 b_visits:zaA K a.visits_d ["machine","most"] []
 g_visits:mg "visits"=some (.ref a.visits)
 f_records:Fun K "records" "records" zbY a.records a.records_d
 b_records:zaA K a.records_d ["machine","most"] []
 g_records:mg "records"=some (.ref a.records)
 f_parts_from:Fun K "parts_from" "parts_from" zbb a.parts_from a.parts_from_d
 b_parts_from:zaA K a.parts_from_d ["one","other","most"] []
 g_parts_from:mg "parts_from"=some (.ref a.parts_from)
 f_l_machine:Fun K "_law_machine" "_law_machine" zbG a.l_machine a.l_machine_d
 b_l_machine:zaA K a.l_machine_d ["_law_purse_here"] []
 g_l_machine:mg "_law_machine"=some (.ref a.l_machine)
 f_l_met:Fun K "_law_met" "_law_met" zeh a.l_met a.l_met_d
 b_l_met:zaA K a.l_met_d ["_law_way","_law_machine_here"] []
 g_l_met:mg "_law_met"=some (.ref a.l_met)
 f_l_asked:Fun K "_law_asked" "_law_asked" zch a.l_asked a.l_asked_d
 b_l_asked:zaA K a.l_asked_d ["_law_way","_law_machine_here"] []
 g_l_asked:mg "_law_asked"=some (.ref a.l_asked)
 f_l_caught:Fun K "_law_caught" "_law_caught" zbV a.l_caught a.l_caught_d
 b_l_caught:zaA K a.l_caught_d ["_law_way","_law_machine_here"] []
 g_l_caught:mg "_law_caught"=some (.ref a.l_caught)
 f_l_odd:Fun K "_law_odd" "_law_odd" zd5 a.l_odd a.l_odd_d
 b_l_odd:zaA K a.l_odd_d ["_law_purse_here","_law_machine_here"] []
 g_l_odd:mg "_law_odd"=some (.ref a.l_odd)
 f_law:Fun K "law" "law" zke a.law a.law_d
 b_law:zaA K a.law_d ["_law_script"] []
 g_law:mg "law"=some (.ref a.law)
 e_MillError:ExK K a.MillError
 t_MillError:ExC K a.MillError
 g_MillError:mg "MillError"=some (.ref a.MillError)
 m_MillError:ExM K a.MillError ([.ref a.MillError])
 e_Full:ExK K a.Full
 t_Full:ExC K a.Full
 g_Full:mg "Full"=some (.ref a.Full)
 m_Full:ExM K a.Full ([.ref a.Full,.ref a.MillError])
 e_NoDeed:ExK K a.NoDeed
 t_NoDeed:ExC K a.NoDeed
 g_NoDeed:mg "NoDeed"=some (.ref a.NoDeed)
 m_NoDeed:ExM K a.NoDeed ([.ref a.NoDeed,.ref a.MillError])
 e_NoMachine:ExK K a.NoMachine
 t_NoMachine:ExC K a.NoMachine
 g_NoMachine:mg "NoMachine"=some (.ref a.NoMachine)
 m_NoMachine:ExM K a.NoMachine ([.ref a.NoMachine,.ref a.MillError])
 e_NoName:ExK K a.NoName
 t_NoName:ExC K a.NoName
 g_NoName:mg "NoName"=some (.ref a.NoName)
 m_NoName:ExM K a.NoName ([.ref a.NoName,.ref a.MillError])
 e_NoPaper:ExK K a.NoPaper
 t_NoPaper:ExC K a.NoPaper
 g_NoPaper:mg "NoPaper"=some (.ref a.NoPaper)
 m_NoPaper:ExM K a.NoPaper ([.ref a.NoPaper,.ref a.MillError])
 e_NoSize:ExK K a.NoSize
 t_NoSize:ExC K a.NoSize
 g_NoSize:mg "NoSize"=some (.ref a.NoSize)
 m_NoSize:ExM K a.NoSize ([.ref a.NoSize,.ref a.MillError])
 e_NoSuch:ExK K a.NoSuch
 t_NoSuch:ExC K a.NoSuch
 g_NoSuch:mg "NoSuch"=some (.ref a.NoSuch)
 m_NoSuch:ExM K a.NoSuch ([.ref a.NoSuch,.ref a.MillError])
 e_NoText:ExK K a.NoText
 t_NoText:ExC K a.NoText
 g_NoText:mg "NoText"=some (.ref a.NoText)
 m_NoText:ExM K a.NoText ([.ref a.NoText,.ref a.MillError])
 e_Twice:ExK K a.Twice
 t_Twice:ExC K a.Twice
 g_Twice:mg "Twice"=some (.ref a.Twice)
 m_Twice:ExM K a.Twice ([.ref a.Twice,.ref a.MillError])
 k_Walk:Cls K a.Walk
 g_Walk:mg "Walk"=some (.ref a.Walk)
 n_Walk_table:zcL K a.Walk "table"
 n_Walk_row:zcL K a.Walk "row"
 n_Walk_place:zcL K a.Walk "place"
 n_Walk_marks:zcL K a.Walk "marks"
 c_MOST_ROWS:CV mg "MOST_ROWS" (.int 4)
 c_LEAST_SIGNS:CV mg "LEAST_SIGNS" (.int 2)
 c_MOST_SIGNS:CV mg "MOST_SIGNS" (.int 4)
 c_MOST_MOMENT:CV mg "MOST_MOMENT" (.int 1000)
 c_MOST_PARTS:CV mg "MOST_PARTS" (.int 300)
 c_MOST_DEPTH:CV mg "MOST_DEPTH" (.int 8)
 c_NO_ENTRY:CV mg "NO_ENTRY" (.str "---")
 g_WAYS:mg "WAYS"=some (.ref a.WAYS)
 d_WAYS:StD K a.WAYS [(-1,"L"),(1,"R")]
 g_ROWS:mg "ROWS"=some (.ref a.ROWS)
 d_ROWS:∀ H,SqT K H a.ROWS [V.str "A",V.str "B",V.str "C",V.str "D"]
 z_ValueError:mg "ValueError"=none
 z_abs:mg "abs"=none
 z_all:mg "all"=none
 z_bool:mg "bool"=none
 z_dict:mg "dict"=none
 z_enumerate:mg "enumerate"=none
 z_int:mg "int"=none
 z_isinstance:mg "isinstance"=none
 z_len:mg "len"=none
 z_list:mg "list"=none
 z_max:mg "max"=none
 z_min:mg "min"=none
 z_range:mg "range"=none
 z_reversed:mg "reversed"=none
 z_sorted:mg "sorted"=none
 z_str:mg "str"=none
 z_sum:mg "sum"=none
 z_tuple:mg "tuple"=none
 z_zip:mg "zip"=none
 ex_nd:[a.MillError,a.Full,a.NoDeed,a.NoMachine,a.NoName,a.NoPaper,a.NoSize,a.NoSuch,a.NoText,a.Twice].Nodup
section
variable {P:Program} {w:World} {K:PySem.W.Frag} {mg:Str->Option Value} {base:Heap} {a:Ad}
theorem zfU:zal ["_law_cell","_law_k","_law_rest","_law_number"] ["_law_cell","_law_k"] (zad zcf):=by walk_at "s"
def zgB:Sp:=fun vs H Q _=>match vs with
 | [.int _,.int k]=>(0<=k/\k<=1000)/\∀ (n:Int),0<=n->n<2147483587->Q (.int n) H
 | _=>False
theorem zj9 (T:Tx K mg a):zaC P w K mg base CX0 1 a.l_mixed a.l_mixed_d ["_law_cell","_law_k"] (zgB):=by
 refine T.f_l_mixed.ok zfU (fun vs H Q E h=>?_) (fun cdv A outer s H vs Q E hr h=>?_)
 ·unfold zgB at h;split at h
  ·rfl
  ·exact h.elim
 ·unfold zgB at h;split at h
  ·have nd:=zfU.nd;have hu:=zaz hr;rename_i c k;refine⟨_,(zab (zaq (i:=2) nd rfl (by walk_at "o") (zaZ zkK (qv 0) (zaZ zpJ zaf zaf)))
  (zab (zaq (i:=3) nd rfl (by walk_at "o") (zaZ zkK (zaZ zhz (zaZ zc6 (zaZ zc6 (zaZ zc6 (zaZ zhz (qv 2) (qv 2)) (zaZ zhz zaf (qv 2))) (zaZ zhz zaf (qv 1))) zaf) zaf) zaf))
  (zae (zam (zaZ zkK (zaZ zc6 (zaZ zhz (qv 3) (qv 3)) zaf) zaf))))),?_⟩
   refine⟨cpow (by decide),fun p hp _=>?_⟩;have hp:p=1000000000000000:=by rw [hp];decide
   refine⟨by show (0:Int)<_;omega,fun r _ ⟨r0,r1⟩=>?_⟩;refine⟨.inl ⟨by omega,by omega⟩,fun m1 _ _=>?_⟩;refine⟨.inl ⟨by omega,by omega⟩,fun m2 _ _=>?_⟩;refine⟨.inl ⟨by omega,by omega⟩,fun m3 _ _=>?_⟩;refine⟨.inr ⟨by omega,by omega⟩,fun m4 _ _=>?_⟩;refine⟨by show (0:Int)<_;decide,fun m5 _ ⟨a0,a1⟩=>?_⟩;refine⟨.inl ⟨by omega,by omega⟩,fun m6 _ _=>?_⟩;refine⟨by show (0:Int)<_;decide,fun m7 _ ⟨b0,b1⟩=>?_⟩;exact h.2 _ b0 b1
  ·exact h.elim
theorem zg6:zal ["_law_purse_here","_law_out_of","_law_drawn"] ["_law_purse_here","_law_out_of"] (zad zc0):=by walk_at "s"
def zhQ:Sp:=fun vs H Q _=>match vs with
 | [.ref b,.int k]=>(0<k/\k.natAbs.log2<9000)/\∃ n m,H b=some (.lst [.int n,.int m])/\∀ d n':Int,0<=d->d<k->Q (.int d) (upd H b (.lst [.int n',.int m]))
 | _=>False
theorem zhk (T:Tx K mg a):zaC P w K mg base CX0 1 a.l_draw a.l_draw_d ["_law_purse_here","_law_out_of"] (zhQ):=by
 refine T.f_l_draw.ok zg6 (fun vs H Q E h=>?_) (fun cdv A outer s H vs Q E hr h=>?_)
 ·unfold zhQ at h;split at h
  ·rfl
  ·exact h.elim
 ·unfold zhQ at h;split at h
  ·have nd:=zg6.nd;have hu:=zaz hr;rename_i b k;obtain⟨hk,n,m,hb,h⟩:=h;refine⟨_,(zab (zbA (zbv zdl (zba (zbx (K:=K) rfl) (qv 0) zaf (fun _ _=>rfl)) zaf) (zae (zck (zba (zbx (K:=K) rfl) (qv 0) zaf (fun _ _=>rfl)) (zi6 (qv 0) zaf zjs))) zas)
  (zab (zaq (i:=2) nd rfl (by walk_at "o") (zaZ zkK (zba (zbx (K:=K) rfl) (qv 0) zaf (fun _ _=>rfl)) (qv 1)))
  (zab (zck (zaZ zqe (zba (zbx (K:=K) rfl) (qv 0) zaf (fun _ _=>rfl)) (qv 1)) (zi6 (qv 0) zaf zjs))
  (zae (zam (qv 2)))))),?_⟩
   refine⟨_,_,SqL.of hb,rfl,?_⟩;walk_at "w";have fin:∀ (n1:Int) (H1:Hp),H1 b=some (.lst [.int n1,.int m])->(∀ n',upd H1 b (.lst [.int n',.int m])=upd H b (.lst [.int n',.int m])) ->
     ∃ xs v,SqL K H1 b xs/\atI xs 0=some v/\(cL CMod (fun i j=>i % j) fun _ j m=>0<=m/\m<j) v (.int k) H1 fun x H2 =>
      ∃ xs v,SqL K H2 b xs/\atI xs 0=some v/\(cL zqd (fun i j=>i / j) fun _ _ _=>True) v (.int k) H2 fun y H3=>zoW (.ref b) (.int 0) y H3 fun H4=>Q x H4:=by
    intro n1 H1 h1 he;refine⟨_,_,SqL.of h1,rfl,hk.1,fun d _ ⟨d0,d1⟩=>⟨_,_,SqL.of h1,rfl,hk,fun q _ _=>⟨_,0,h1,rfl,?_⟩⟩⟩;show Q (.int d) (upd H1 b (.lst [.int q,.int m]));rw [he];exact h d q d0 d1
   refine ifB.mk (fun _=>?_) (fun _=>?_)
   ·walk_at "w";refine⟨_,_,SqL.of hb,rfl,?_⟩;refine⟨_,0,hb,rfl,?_⟩;exact fin m _ zah fun n'=>znW
   ·exact fin n H hb fun n'=>rfl
  ·exact h.elim
theorem zf1:zal ["_law_script","_law_cells","_law_number","_law_k"] ["_law_script"] (zad zcg):=by walk_at "s"
def zge (K:PySem.W.Frag):Sp:=fun vs H Q _=>match vs with
 | [.ref b]=>∃ ns:List Int,SqL K H b (ns.map V.int)/\ns.length<=63/\∀ (p:Addr) (H':Hp) (n m:Int),Sub H H'->H p=none->H' p=some (.lst [.int n,.int m])->Q (.ref p) H'
 | _=>False
theorem zq7 (ns:List Int):∃ ms:List Int,zoi (ns.map V.int) none (some 63)=ms.map V.int/\ms.length<=63:=by
 unfold zoi;rw [zrY];refine⟨(ns.drop (HT.sIx ns.length 0 none)).take (HT.sIx ns.length ns.length (some 63)-HT.sIx ns.length 0 none),?_,?_⟩
 ·rw [List.map_take,List.map_drop]
 ·rw [zsm]
  have:HT.sIx ns.length ns.length (some ((63:Nat):Int))=min 63 ns.length:=HT.sIx_nat _ _ _
  have e:((63:Nat):Int)=(63:Int):=rfl;rw [e] at this;rw [this];omega
theorem zlt {vs:List V} {ns:List Int} (e:vs=ns.map V.int) {i:Int} (h0:0<=i) (h1:i<vs.length):∃ n:Int,atI vs i=some (.int n):=by
 subst e;unfold atI ixN;rw [zsB h0,zsB h1,Option.bind_some];have hl:i.toNat<ns.length:=by rw [zrY] at h1;omega
 exact⟨ns[i.toNat],by rw [zrZ,zr0 hl];rfl⟩
theorem zj2 (T:Tx K mg a):zaC P w K mg base CX0 2 a.l_purse a.l_purse_d ["_law_script"] (zge K):=by
 have G_l_mixed:=zj9 (P:=P) (w:=w) (base:=base) T;refine T.f_l_purse.ok zf1 (fun vs H Q E h=>?_) (fun cdv A outer s H vs Q E hr h=>?_)
 ·unfold zge at h;split at h
  ·rfl
  ·exact h.elim
 ·unfold zge at h;split at h
  ·have nd:=zf1.nd;have hu:=zaz hr;rename_i b;obtain⟨ns,hS,hlen,h⟩:=h;obtain⟨ms,hms,hml⟩:=zq7 ns;refine⟨_,(zab (zaq (i:=1) nd rfl (by walk_at "o") (zaZ zpA (zm0 (zqi (K:=K) rfl) (qv 0) zoY (znU zaf)) (zaL (zaa zaf zac))))
  (zab (zaq (i:=2) nd rfl (by walk_at "o") zaf)
  (zab (zby PassesOwn.never rfl (zb3 rfl T.z_range (zaa zaf zac)) (zai (i:=3) nd rfl (by walk_at "o")) (zae (zaq (i:=2) nd rfl (by walk_at "o") (zaZ zc6 (zaZ zhz (qv 2) zaf) (zaj G_l_mixed (hr.mono (by decide)) rfl T.g_l_mixed T.f_l_mixed.kp T.b_l_mixed .nil zav (zaa (zba (zbx (K:=K) rfl) (qv 1) (zaZ zkK (qv 3) (zaw (zco (K:=K) rfl) rfl T.z_len zcn (zaa (qv 1) zac))) (fun _ _=>rfl)) (zaa (qv 3) zac)))))))
  (zab (zbA (zbv zrS (zaw zpH rfl T.z_abs zng (zaa (zba (zbx (K:=K) rfl) (qv 1) zaf (fun _ _=>rfl)) zac)) (zaZ zpJ zaf zaf)) (zae (zam (zaL (zaa (zaw zpH rfl T.z_abs zng (zaa (zba (zbx (K:=K) rfl) (qv 1) zaf (fun _ _=>rfl)) zac)) (zaa (qv 2) zac))))) zas)
  (zae (zam (zaL (zaa (qv 2) (zaa (qv 2) zac))))))))),?_⟩
   refine⟨_,hS,fun p1 n1=>?_⟩;rw [hms];refine⟨by show 1<=sizeLine;decide,fun p2 n2=>?_⟩;refine⟨_,_,zpQ zah n2,zah,by rw [zrY];show ms.length+1<=sizeLine;exact zsd (Nat.add_le_add_right hml 1) (by decide),fun p3 n3=>?_⟩;have e3:ms.map V.int++[.int 0]=(ms++[0]).map V.int:=by rw [zr6];rfl
   have el:((ms++[0]).map V.int).length=ms.length+1:=by simp
   rw [e3];have sub3:Sub H (upd (upd (upd H p1 (.lst (ms.map V.int))) p2 (.lst [.int 0])) p3 (.lst ((ms++[0]).map V.int))) :=
    ((Sub.new n1).trans (Sub.new n2)).trans (Sub.new n3)
   have h3:(upd (upd (upd H p1 (.lst (ms.map V.int))) p2 (.lst [.int 0])) p3 (.lst ((ms++[0]).map V.int))) p3=some (.lst ((ms++[0]).map V.int)):=zah;generalize (upd (upd (upd H p1 (.lst (ms.map V.int))) p2 (.lst [.int 0])) p3 (.lst ((ms++[0]).map V.int)))=H3 at sub3 h3 ⊢;refine⟨⟨by decide,by decide⟩,?_⟩;refine zbh (lo:=0) (n:=(64:Int).toNat) (fun _ σ H4=>∃ (n:Int) (v:Option V),σ=[some (.ref b),some (.ref p3),some (.int n),v]/\H4=H3) ⟨1,none,rfl,rfl⟩ ?_ ?_
   ·rintro i σ H4 hi ⟨n,v,rfl,rfl⟩;have hi:i<64:=hi;refine⟨.inr ⟨by decide,by decide⟩,fun m1 _ _=>?_⟩;refine⟨_,.inl (SqL.of h3),?_⟩;walk_at "w";rw [el];refine⟨by show (0:Int)<_;omega,fun r _ ⟨r0,r1⟩=>?_⟩;obtain⟨c,hc⟩:=zlt (i:=r) (rfl:(ms++[0]).map V.int=_) r0 (by rw [el];omega);refine⟨_,_,SqL.of h3,hc,?_⟩;refine⟨⟨by omega,by omega⟩,fun k _ _=>?_⟩;exact⟨_,_,rfl,rfl⟩
   ·rintro σ H4 ⟨n,v,rfl,rfl⟩;obtain⟨c,hc⟩:=zlt (i:=0) (rfl:(ms++[0]).map V.int=_) (by decide) (by rw [el];omega);refine⟨_,_,SqL.of h3,hc,?_⟩;walk_at "w";intro m1 _;refine⟨cpow (by decide),fun m2 _ _=>?_⟩;walk_at "w";refine ifB.mk (fun _=>?_) (fun _=>?_)
    ·walk_at "w";refine⟨_,_,SqL.of h3,hc,?_⟩;walk_at "w";intro m3 _;refine⟨by show 2<=sizeLine;decide,fun p4 n4=>?_⟩;exact h p4 _ _ _ (sub3.trans (Sub.new n4)) (sub3.free n4) zah
    ·walk_at "w";refine⟨by show 2<=sizeLine;decide,fun p4 n4=>?_⟩;exact h p4 _ _ _ (sub3.trans (Sub.new n4)) (sub3.free n4) zah
  ·exact h.elim
theorem zfg:zal ["entry","rows","signs","sign","way","row"] ["entry","rows","signs"] (zad zbW):=by walk_at "s"
def zdp:Sp:=fun vs H Q _=>match vs with
 | [.ref b,.int rows,.int signs]=>∃ e:En,Ent H b e/\∀ H',Sub H H'->Q (.bl (zaM rows signs e)) H'
 | _=>False
theorem zlq {K:PySem.W.Frag} {H:Hp} {b:Addr} {e:En} (h:Ent H b e):SqT K H b (e.map V.int):=SqT.of h
theorem znA {y:Int}:(decide (y=-1) || decide (y=1))=inV (.int y) [.int (-1),.int 1]:=by
 unfold inV;simp only [List.any_cons,List.any_nil,eqV,Bool.or_false];by_cases h1:y=-1
 ·subst h1;rfl
 ·by_cases h2:y=1
  ·subst h2;rfl
  ·have h3:¬ (-1=y):=fun e=>h1 e.symm
   have h4:¬ (1=y):=fun e=>h2 e.symm
   simp [h1,h2,h3,h4]
theorem zie (T:Tx K mg a):zaC P w K mg base CX0 1 a.is_entry a.is_entry_d ["entry","rows","signs"] (zdp):=by
 refine T.f_is_entry.ok zfg (fun vs H Q E h=>?_) (fun cdv A outer s H vs Q E hr h=>?_)
 ·unfold zdp at h;split at h
  ·rfl
  ·exact h.elim
 ·unfold zdp at h;split at h
  ·have nd:=zfg.nd;have hu:=zaz hr;rename_i b rows signs;obtain⟨e,hb,h⟩:=h;refine⟨_,(zab (zbA (zbv zdl (zaw (zco (K:=K) rfl) rfl T.z_len zcn (zaa (qv 0) zac)) zaf) (zae (zam zcG)) zas)
  (zab (zbA (zbv zqS (zaw (zco (K:=K) rfl) rfl T.z_len zcn (zaa (qv 0) zac)) zaf) (zae (zam zcG)) zas)
  (zab (zck (qv 0) (zaG (K:=K) (n:=3) rfl rfl (zak (zai (i:=3) nd rfl (by walk_at "o")) (zak (zai (i:=4) nd rfl (by walk_at "o")) (zak (zai (i:=5) nd rfl (by walk_at "o")) zaH)))))
  (zae (zam (zfb (zpG zhN zqO zaf (qv 3) (qv 2)) (zfb (zcx (zrG (K:=K) rfl) (qv 4) (zau (zaa (zjy zkb zaf) (zaa zaf zac))) (by first | exact zda _ | rfl)) (ziF (zpG zhN zqO zaf (qv 5) (qv 1)))))))))),?_⟩
   refine⟨_,.inr (zlq hb),?_⟩;walk_at "w";refine ifB.dec (fun h0=>?_) (fun h0=>?_)
   ·have e0:e=[]:=by cases e with
     | nil=>rfl
     | cons x r=>simp at h0;omega
    subst e0;exact h H Sub.refl
   ·walk_at "w";refine⟨_,.inr (zlq hb),?_⟩;walk_at "w";refine ifB.mk (fun h3=>?_) (fun h3=>?_)
    ·have:zaM rows signs e=false:=by
      match e,h0,h3 with
      | [],h0,_=>simp at h0
      | [_],_,_=>rfl
      | [_,_],_,_=>rfl
      | [_,_,_],_,h3=>simp at h3
      | _::_::_::_::_,_,_=>rfl
     have h:=h H Sub.refl;rw [this] at h;exact h
    ·obtain⟨x,y,z,rfl⟩:∃ x y z,e=[x,y,z]:=by
      match e,h3 with
      | [],h3=>simp at h3
      | [_],h3=>simp at h3
      | [_,_],h3=>simp at h3
      | [x,y,z],_=>exact⟨x,y,z,rfl⟩
      | _::_::_::_::_,h3=>simp at h3;omega
     refine⟨_,zlq hb,rfl,?_⟩;walk_at "w";have fin:∀ (c:Bool) (H':Hp),Sub H H'->zaM rows signs [x,y,z]=c->Q (.bl c) H':=fun c H' S e=>e ▸ h H' S
     have hd:zaM rows signs [x,y,z]=((decide (0<=x) && decide (x<signs)) && (decide (y=-1) || decide (y=1)) && (decide (0<=z) && decide (z<rows))):=rfl;refine ifB.dec (fun h1=>?_) (fun h1=>?_)
     ·walk_at "w";refine ifB.dec (fun h2=>?_) (fun h2=>?_)
      ·walk_at "w";refine⟨by show 2<=sizeLine;decide,?_⟩;intro p1 n1;generalize U':upd _ p1 _=H1;obtain ⟨S1,e1⟩:=zag n1 U';clear U';refine⟨_,.inr (SqT.of e1),rfl,rfl,?_⟩;walk_at "w";refine ifB.mk (fun h3=>?_) (fun h3=>?_)
       ·have h3:(decide (y=-1) || decide (y=1))=true:=by rw [← h3];exact znA
        walk_at "w";refine ifB.dec (fun h4=>?_) (fun h4=>?_)
        ·exact fin _ _ S1 (by rw [hd,h3];simp [h1,h2,h4])
        ·exact fin _ _ S1 (by rw [hd,h3];simp [h1,h2,h4])
       ·have h3:(decide (y=-1) || decide (y=1))=false:=by rw [← h3];exact znA
        exact fin _ _ S1 (by rw [hd,h3];simp)
      ·exact fin _ _ Sub.refl (by rw [hd];simp [h2])
     ·walk_at "w";refine ifB.no rfl ?_;exact fin false _ Sub.refl (by rw [hd];simp [h1])
  ·exact h.elim
theorem zhc:zal ["row","rows","signs"] ["row","rows","signs"] (zad zcZ):=by walk_at "s"
def zfc:Sp:=fun vs H Q _=>match vs with
 | [.ref b,.int rows,.int signs]=>∃ es:List En,Row H b es/\es.length<=100/\∀ H',Sub H H'->Q (.bl (zfA rows signs es)) H'
 | _=>False
theorem znz (f:α->Bool) (l:List α):(l.map f).all id=l.all f:=by rw [List.all_map];rfl
theorem zlE (T:Tx K mg a):zaC P w K mg base CX0 2 a.is_row a.is_row_d ["row","rows","signs"] (zfc):=by
 have G_is_entry:=zie (P:=P) (w:=w) (base:=base) T;refine T.f_is_row.ok zhc (fun vs H Q E h=>?_) (fun cdv A outer s H vs Q E hr h=>?_)
 ·unfold zfc at h;split at h
  ·rfl
  ·exact h.elim
 ·unfold zfc at h;split at h
  ·have nd:=zhc.nd;have hu:=zaz hr;rename_i b rows signs;obtain⟨es,⟨as,hb,ha⟩,hlen,h⟩:=h;refine⟨_,(zae (zam (zfb (zcx zdl (zaw (zco (K:=K) rfl) rfl T.z_len zcn (zaa (qv 0) zac)) (qv 2) (by first | exact zda _ | rfl)) (ziF (zaw (zna (K:=K) rfl rfl) rfl T.z_all znb (zaa (zgd (own:=["entry"]) (fr:=[1,2]) rfl (by walk_at "comp_ok") (zaJ (K:=K) rfl (qv 0)) (fun _ _ _ _=>(zai (i:=0) (show List.Nodup (α:=Str) ["entry","rows","signs"] from by decide +kernel) rfl (by walk_at "o"))) (fun _ _ _ _=>zbP) (fun _ _ _ _=>(zaj G_is_entry (hr.mono (by decide)) rfl T.g_is_entry T.f_is_entry.kp T.b_is_entry .nil zav (zaa (qv 0) (zaa (qv 1) (zaa (qv 2) zac)))))) zac)))))),?_⟩;refine⟨_,.inl (SqL.of hb),?_⟩;walk_at "w";have el:((as.map V.ref).length:Int)=es.length:=by rw [zrY,ha.1]
   rw [el];refine ifB.dec (fun h1=>?_) (fun h1=>?_)
   ·walk_at "w";refine⟨⟨_,SqL.of hb⟩,?_⟩;intro p1 n1;refine za3 (K:=K) (a:=b) (xs:=as.map V.ref) (fun i σ H4=>∃ v:Option V,σ=[v,some (.int rows),some (.int signs)]/\Sub H H4/\H4 p1=some (.lst (((es.take i).map (zaM rows signs)).map V.bl))) ?_ ?_ ?_ ?_
    ·exact⟨none,rfl,Sub.new n1,by rw [zah];rfl⟩
    ·rintro i σ H4 _ ⟨v,rfl,S4,_⟩;exact SqL.of (S4 _ _ hb)
    ·rintro i x σ H4 hi ⟨v,rfl,S4,g4⟩;rw [zrZ] at hi;obtain⟨c,hc,rfl⟩:=zr1.1 hi;obtain⟨e,he,hE⟩:=ha.at hc;refine⟨e,S4 _ _ hE,fun H5 S5=>?_⟩;refine⟨_,S5 _ _ g4,?_,_,rfl,(S4.trans S5).upd n1,?_⟩
     ·rw [zrY,zrY,zsm];exact zsc (Nat.min_le_right _ _) (zsc hlen (by decide))
     ·rw [zah,zsk,he,zr6,zr6];rfl
    ·rintro σ H4 ⟨v,rfl,S4,g4⟩;rw [zrY,ha.1,zsj] at g4;refine⟨_,SqL.of g4,?_⟩;rw [znz];have h:=h H4 S4;unfold zfA at h;rw [zr4 h1,Bool.true_and] at h;exact h
   ·have h:=h H Sub.refl;unfold zfA at h;rw [zr5 h1,Bool.false_and] at h;exact h
  ·exact h.elim
theorem zdK:zal ["machine","rows","signs"] ["machine"] (zad zbk):=by walk_at "s"
def Bd (k:Nat) (m:Ma):Prop:=m.length<=k/\∀ r∈m,r.length<=k
def MaU (H:Hp) (t:Addr) (m:Ma):Prop:=∃ rs:List Addr,H t=some (.lst (rs.map V.ref))/\za6 (Row H) rs m
theorem zcE.u {H:Hp} {t:Addr} {m:Ma} (h:zcE H t m):MaU H t m:=by
 obtain⟨rs,h1,_,h2⟩:=h;exact⟨rs,h1,h2⟩
theorem MaU.sub {H H':Hp} {t:Addr} {m:Ma} (h:MaU H t m) (S:Sub H H'):MaU H' t m:=by
 obtain⟨rs,h1,h2⟩:=h;exact⟨rs,S _ _ h1,h2.mono fun _ _ _ z=>z.stay (.sub S)⟩
def zcr:Sp:=fun vs H Q _=>match vs with
 | [.ref b]=>∃ m:Ma,MaU H b m/\Bd 100 m/\∀ H',Sub H H'->Q (.bl (isM m)) H'
 | _=>False
theorem zmS {m:Ma} (h:¬ m.length<=4):isM m=false:=by
 unfold isM;cases m with
 | nil=>rfl
 | cons r m=>simp only;rw [zr5 h];rfl
theorem zdG (T:Tx K mg a):zaC P w K mg base CX0 3 a.is_machine a.is_machine_d ["machine"] (zcr):=by
 have G_is_row:=zlE (P:=P) (w:=w) (base:=base) T;refine T.f_is_machine.ok zdK (fun vs H Q E h=>?_) (fun cdv A outer s H vs Q E hr h=>?_)
 ·unfold zcr at h;split at h
  ·rfl
  ·exact h.elim
 ·unfold zcr at h;split at h
  ·have nd:=zdK.nd;have hu:=zaz hr;rename_i b;obtain⟨m,⟨rs,hb,hrw⟩,⟨hl1,hl2⟩,h⟩:=h;refine⟨_,(zab (zaq (i:=1) nd rfl (by walk_at "o") (zaw (zco (K:=K) rfl) rfl T.z_len zcn (zaa (qv 0) zac)))
  (zab (zbA (zc9 (zmD zhN zhN zaf (qv 1) (zg3 rfl T.c_MOST_ROWS))) (zae (zam zcG)) zas)
  (zab (zaq (i:=2) nd rfl (by walk_at "o") (zaw (zco (K:=K) rfl) rfl T.z_len zcn (zaa (zba (zbx (K:=K) rfl) (qv 0) zaf (fun _ _=>rfl)) zac)))
  (zab (zbA (zc9 (zmD zhN zhN (zg3 rfl T.c_LEAST_SIGNS) (qv 2) (zg3 rfl T.c_MOST_SIGNS))) (zae (zam zcG)) zas)
  (zae (zam (zaw (zna (K:=K) rfl rfl) rfl T.z_all znb (zaa (zgd (own:=["row"]) (fr:=[1,2]) rfl (by walk_at "comp_ok") (zaJ (K:=K) rfl (qv 0)) (fun _ _ _ _=>(zai (i:=0) (show List.Nodup (α:=Str) ["row","rows","signs"] from by decide +kernel) rfl (by walk_at "o"))) (fun _ _ _ _=>zbP) (fun _ _ _ _=>(zaj G_is_row (hr.mono (by decide)) rfl T.g_is_row T.f_is_row.kp T.b_is_row .nil zav (zaa (qv 0) (zaa (qv 1) (zaa (qv 2) zac)))))) zac)))))))),?_⟩
   refine⟨_,.inl (SqL.of hb),?_⟩;walk_at "w";have el:((rs.map V.ref).length:Int)=m.length:=by rw [zrY,hrw.1]
   rw [el];have fin:∀ (c:Bool) (H':Hp),Sub H H'->isM m=c->Q (.bl c) H':=fun c H' S e=>e ▸ h H' S
   refine ifB.dec (fun h1=>?_) (fun h1=>?_)
   ·walk_at "w";refine ifB.ndec (fun h2=>?_) (fun h2=>?_)
    ·obtain⟨r0,m',rfl⟩:∃ r0 m',m=r0::m':=by
      cases m with
      | nil=>simp at h1
      | cons r m=>exact⟨r,m,rfl⟩
     obtain⟨q0,rs',rfl⟩:∃ q0 rs',rs=q0::rs':=by
      cases rs with
      | nil=>have:=hrw.1;simp at this
      | cons r rs=>exact⟨r,rs,rfl⟩
     obtain⟨as0,hq0,ha0⟩:=hrw.2 0 q0 r0 rfl rfl;refine⟨_,_,SqL.of hb,zbi (j:=0) rfl,?_⟩;refine⟨_,.inl (SqL.of hq0),?_⟩;walk_at "w";have el0:((as0.map V.ref).length:Int)=r0.length:=by rw [zrY,ha0.1]
     rw [el0];have hd:isM (r0::m')=(decide ((r0::m').length<=4) && decide (2<=r0.length) && decide (r0.length<=4) && (r0::m').all (zfA (r0::m').length r0.length)):=rfl;refine ifB.dec (fun h3=>?_) (fun h3=>?_)
     ·walk_at "w";refine ifB.ndec (fun h4=>?_) (fun h4=>?_)
      ·walk_at "w";refine⟨⟨_,SqL.of hb⟩,?_⟩;intro p1 n1;refine za3 (K:=K) (a:=b) (xs:=(q0::rs').map V.ref) (fun i σ H4=>∃ v:Option V,σ=[v,some (.int (r0::m').length),some (.int r0.length)]/\Sub H H4/\H4 p1=some (.lst ((((r0::m').take i).map (zfA (r0::m').length r0.length)).map V.bl))) ?_ ?_ ?_ ?_
       ·exact⟨none,rfl,Sub.new n1,by rw [zah];rfl⟩
       ·rintro i σ H4 _ ⟨v,rfl,S4,_⟩;exact SqL.of (S4 _ _ hb)
       ·rintro i x σ H4 hi ⟨v,rfl,S4,g4⟩;rw [zrZ] at hi;obtain⟨c,hc,rfl⟩:=zr1.1 hi;obtain⟨e,he,hE⟩:=hrw.at hc;refine⟨e,hE.stay (.sub S4),hl2 e (zr3 he),fun H5 S5=>?_⟩;refine⟨_,S5 _ _ g4,?_,_,rfl,(S4.trans S5).upd n1,?_⟩
        ·rw [zrY,zrY,zsm];exact zsc (Nat.min_le_right _ _) (zsc hl1 (by decide))
        ·rw [zah,zsk,he,zr6,zr6];rfl
       ·rintro σ H4 ⟨v,rfl,S4,g4⟩;rw [zrY,hrw.1,zsj] at g4;refine⟨_,SqL.of g4,?_⟩;rw [znz];refine fin _ _ S4 ?_;rw [hd,zr4 (show (r0::m').length<=4 by omega),zr4 (show 2<=r0.length by omega),zr4 (show r0.length<=4 by omega)]
        rfl
      ·exact fin false _ Sub.refl (by rw [hd,zr5 (show ¬ r0.length<=4 by omega)];simp)
     ·walk_at "w";refine ifB.yes rfl ?_;exact fin false _ Sub.refl (by rw [hd,zr5 (show ¬ 2<=r0.length by omega)];simp)
    ·exact fin false _ Sub.refl (zmS (by omega))
   ·walk_at "w";refine ifB.yes rfl ?_;exact fin false _ Sub.refl (by cases m with
     | nil=>rfl
     | cons r m=>simp at h1;omega)
  ·exact h.elim
theorem zcJ:zal ["machine"] ["machine"] (zad zaW):=by walk_at "s"
def zb1 (a:Ad):Sp:=fun vs H Q E=>match vs with
 | [.ref b]=>∃ m:Ma,zcE H b m/\Bd 100 m/\(isM m=true->∀ H',Sub H H'->Q .non H')/\(isM m=false->∀ H',Sub H H'->E (.ref a.NoMachine) none H')
 | _=>False
theorem za4 (T:Tx K mg a):zaC P w K mg base (CXE P w) 4 a.must_machine a.must_machine_d ["machine"] (zb1 a):=by
 have G_is_machine:=zdG (P:=P) (w:=w) (base:=base) T;refine T.f_must_machine.okE zcJ (fun vs H Q E h=>?_) (fun cdv A outer s H vs Q E hr h=>?_)
 ·unfold zb1 at h;split at h
  ·rfl
  ·exact h.elim
 ·unfold zb1 at h;split at h
  ·have nd:=zcJ.nd;have hu:=zaz hr;rename_i b;obtain⟨m,hm,hb,h1,h2⟩:=h;refine⟨_,(zae (zbA (zc9 (zlT (zaj G_is_machine (hr.mono (by decide)) rfl T.g_is_machine T.f_is_machine.kp T.b_is_machine .nil zav (zaa (qv 0) zac)))) (zae (zjm rfl T.e_NoMachine rfl T.g_NoMachine ziM (zaa zbz zac))) zas)),?_⟩;refine⟨m,zcE.u hm,hb,fun H1 S1=>?_⟩;walk_at "w";refine ifB.mk (fun e=>?_) (fun e=>?_)
   ·have e:isM m=false:=by simpa using e
    walk_at "w";exact⟨by show 1<=sizeLine;decide,h2 e H1 S1⟩
   ·have e:isM m=true:=by simpa using e
    exact h1 e H1 S1
  ·exact h.elim
theorem zb9:zal ["machine"] ["machine"] (zad zaW):=by walk_at "s"
def NoM (a:Ad) (H:Hp) (t:Addr) (E:XK):Prop:=∃ m:Ma,MaU H t m/\Bd 100 m/\isM m=false/\∀ H',Sub H H'->E (.ref a.NoMachine) none H'
theorem NoM.sub {a:Ad} {H H':Hp} {t:Addr} {E:XK} (h:NoM a H t E) (S:Sub H H'):NoM a H' t E:=by
 obtain⟨m,h1,h2,h3,h4⟩:=h;exact⟨m,h1.sub S,h2,h3,fun H2 S2=>h4 H2 (S.trans S2)⟩
def zcT (a:Ad):Sp:=fun vs H _ E=>match vs with
 | [.ref t]=>NoM a H t E
 | _=>False
def zax (a:Ad):Sp:=fun vs H _ E=>match vs with
 | [.ref t,_]=>NoM a H t E
 | _=>False
theorem zaN (T:Tx K mg a):zaC P w K mg base (CXE P w) 4 a.must_machine a.must_machine_d ["machine"] (zcT a):=by
 have G_is_machine:=zdG (P:=P) (w:=w) (base:=base) T;refine T.f_must_machine.okE zb9 (fun vs H Q E h=>?_) (fun cdv A outer s H vs Q E hr h=>?_)
 ·unfold zcT at h;split at h
  ·rfl
  ·exact h.elim
 ·unfold zcT at h;split at h
  ·have nd:=zb9.nd;have hu:=zaz hr;rename_i t;obtain⟨m,hm,hb,hF,h⟩:=h;refine⟨_,(zae (zbA (zc9 (zlT (zaj G_is_machine (hr.mono (by decide)) rfl T.g_is_machine T.f_is_machine.kp T.b_is_machine .nil zav (zaa (qv 0) zac)))) (zae (zjm rfl T.e_NoMachine rfl T.g_NoMachine ziM (zaa zbz zac))) zas)),?_⟩;refine⟨m,hm,hb,fun H1 S1=>?_⟩;walk_at "w";refine ifB.yes (by rw [hF];rfl) ?_;walk_at "w";exact⟨by show 1<=sizeLine;decide,h H1 S1⟩
  ·exact h.elim
theorem zcF:zal ["self","table","begin","row","place","strip"] ["self","table","begin"] (zad za0):=by walk_at "s"
def zh4 (a:Ad):Sp:=fun vs H Q _=>match vs with
 | [.ref o,.ref t,.ref b]=>∃ (dx:Addr) (r p:Int) (ks:Mk2),H o=some (.ins a.Walk dx [])/\SU H b r p ks/\(ks.map (·.1)).Nodup/\ks.length<=10000/\∀ (d:Addr) (H':Hp),H d=none->WK a.Walk H' o t d r p ks->(∀ c u,H c=some u->c≠o->H' c=some u)->Q .non H'
 | _=>False
theorem zcC (T:Tx K mg a):zaC P w K mg base CX0 1 a.Walk___init__ a.Walk___init___d ["self","table","begin"] (zh4 a):=by
 refine T.f_Walk___init__.ok zcF (fun vs H Q E h=>?_) (fun cdv A outer s H vs Q E hr h=>?_)
 ·unfold zh4 at h;split at h
  ·rfl
  ·exact h.elim
 ·unfold zh4 at h;split at h
  ·have nd:=zcF.nd;have hu:=zaz hr;rename_i o t b;obtain⟨dx,r,p,ks,ho,⟨l,hb,as,hl,hA⟩,hnd,hlen,h⟩:=h;refine⟨_,(zab (zck (qv 2) (zaG (K:=K) (n:=3) rfl rfl (zak (zai (i:=3) nd rfl (by walk_at "o")) (zak (zai (i:=4) nd rfl (by walk_at "o")) (zak (zai (i:=5) nd rfl (by walk_at "o")) zaH)))))
  (zab (zhA (qv 0) (qv 1) rfl)
  (zab (zhA (qv 0) (qv 3) rfl)
  (zab (zhA (qv 0) (qv 4) rfl)
  (zae (zhA (qv 0) (zqP (own:=["where","sign"]) (fr:=[]) rfl (by walk_at "comp_ok") (zaJ (K:=K) rfl (qv 5)) (fun _ _ _ _=>(zaG (K:=K) (n:=2) rfl rfl (zak (zai (i:=0) (show List.Nodup (α:=Str) ["where","sign"] from by decide +kernel) rfl (by walk_at "o")) (zak (zai (i:=1) (show List.Nodup (α:=Str) ["where","sign"] from by decide +kernel) rfl (by walk_at "o")) zaH)))) (fun _ _ _ _=>zbP) (fun _ _ _ _=>(qv 0)) (fun _ _ _ _=>(qv 1))) rfl)))))),?_⟩
   refine⟨_,SqT.of hb,rfl,?_⟩;refine⟨_,_,_,_,rfl,ho,T.k_Walk,T.n_Walk_table,by show 0<1000;decide,?_⟩;generalize U':upd _ o _=H1;have f1:∀ c u,H c=some u->c≠o->H1 c=some u:=fun c u e ne=>by rw [← U',zao ne];exact e
   have ho1:H1 o=some (.ins a.Walk dx (zde "table" (.ref t) [])):=by rw [← U'];exact zah
   clear U';refine⟨_,_,_,_,rfl,ho1,T.k_Walk,T.n_Walk_row,by show 1<1000;decide,?_⟩;generalize U':upd _ o _=H2;have f2:∀ c u,H c=some u->c≠o->H2 c=some u:=fun c u e ne=>by rw [← U',zao ne];exact f1 c u e ne
   have ho2:H2 o=some (.ins a.Walk dx (zde "row" (.int r) (zde "table" (.ref t) []))):=by rw [← U'];exact zah
   clear U';refine⟨_,_,_,_,rfl,ho2,T.k_Walk,T.n_Walk_place,by show 2<1000;decide,?_⟩;generalize U':upd _ o _=H3;have f3:∀ c u,H c=some u->c≠o->H3 c=some u:=fun c u e ne=>by rw [← U',zao ne];exact f2 c u e ne
   have ho3:H3 o=some (.ins a.Walk dx (zde "place" (.int p) (zde "row" (.int r) (zde "table" (.ref t) [])))):=by rw [← U'];exact zah
   clear U';walk_at "w";have nl:l≠o:=fun z=>by rw [z,ho] at hl;cases hl
   refine⟨⟨_,SqL.of (f3 _ _ hl nl)⟩,?_⟩;intro d nd;have nH:H d=none:=by
    cases e:H d with
    | none=>rfl
    | some u =>
     by_cases z:d=o
     ·rw [z,ho3] at nd;cases nd
     ·rw [f3 _ _ e z] at nd;cases nd
   refine za3 (K:=K) (a:=l) (xs:=as.map V.ref) (fun i σ H4=>∃ v w:Option V,σ=[v,w]/\Sub H3 H4/\H4 d=some (.dK (dcI (iv (ks.take i))))) ?_ ?_ ?_ ?_
   ·exact⟨none,none,rfl,Sub.new nd,zah⟩
   ·rintro i σ H4 _ ⟨v,w,rfl,S4,_⟩;exact SqL.of (S4 _ _ (f3 _ _ hl nl))
   ·rintro i x σ H4 hi ⟨v,w,rfl,S4,g4⟩;rw [zrZ] at hi;obtain⟨c,hc,rfl⟩:=zr1.1 hi;obtain⟨q',hq,hE⟩:=hA.at hc;rw [zrZ] at hq;obtain⟨q,hq1,rfl⟩:=zr1.1 hq;have nc:c≠o:=fun z=>by rw [z,ho] at hE;cases hE
    refine⟨_,SqT.of (S4 _ _ (f3 _ _ hE nc)),rfl,?_⟩;refine⟨_,.inl q.1,g4,rfl,?_,_,_,rfl,S4.upd nd,?_⟩
    ·rw [zrY,zrY,zsm];exact zsc (Nat.min_le_right _ _) (zsc hlen (by decide))
    ·rw [zah,zm7,zm1 hnd hq1]
   ·rintro σ H4 ⟨v,w,rfl,S4,g4⟩;rw [zrY,hA.1,zrY,zsj] at g4;refine⟨_,_,_,_,rfl,S4 _ _ ho3,T.k_Walk,T.n_Walk_marks,by show 3<1000;decide,?_⟩;rw [zqQ];have ndo:d≠o:=fun z=>by rw [z,ho3] at nd;cases nd
    exact h d _ nH ⟨⟨dx,zah⟩,by rw [zao ndo];exact g4⟩ fun c u e ne=>by rw [zao ne];exact S4 _ _ (f3 c u e ne)
  ·exact h.elim
theorem zei:zal ["self"] ["self"] (zad zbI):=by walk_at "s"
def zh3 (a:Ad):Sp:=fun vs H Q _=>match vs with
 | [.ref o]=>∃ (t d:Addr) (r p:Int) (ks:Mk2),WK a.Walk H o t d r p ks/\∀ (q:Addr) (H':Hp),Sub H H'->H' q=some (.tup [.int r,.int p,.int ((zcd ks p).getD 0)])->H q=none->Q (.ref q) H'
 | _=>False
theorem zen (T:Tx K mg a):zaC P w K mg base CX0 1 a.Walk_look a.Walk_look_d ["self"] (zh3 a):=by
 refine T.f_Walk_look.ok zei (fun vs H Q E h=>?_) (fun cdv A outer s H vs Q E hr h=>?_)
 ·unfold zh3 at h;split at h
  ·rfl
  ·exact h.elim
 ·unfold zh3 at h;split at h
  ·have nd:=zei.nd;have hu:=zaz hr;rename_i o;obtain⟨t,d,r,p,ks,⟨⟨dx,ho⟩,hd⟩,h⟩:=h;refine⟨_,(zae (zam (zau (zaa (zb2 (qv 0) rfl) (zaa (zb2 (qv 0) rfl) (zaa (zgj hu (zb2 (qv 0) rfl) (zb2 (qv 0) rfl) zaf ⟨rfl,rfl,rfl,rfl⟩) zac)))))),?_⟩;refine⟨_,_,_,_,_,rfl,ho,T.k_Walk,T.n_Walk_row,zpX _ _ _ _,?_⟩;refine⟨_,_,_,_,_,rfl,ho,T.k_Walk,T.n_Walk_place,zgV _ _ _ _,?_⟩;refine⟨_,_,_,_,_,rfl,ho,T.k_Walk,T.n_Walk_marks,zmN _ _ _ _,?_⟩;refine⟨_,rfl,.inl ⟨_,.inl hd⟩,?_⟩;refine⟨_,_,_,_,_,rfl,ho,T.k_Walk,T.n_Walk_place,zgV _ _ _ _,?_⟩;refine⟨_,zmQ.k (k:=.inl p) hd,?_⟩;rw [zj7,show ((zcd ks p).map V.int).getD (V.int 0)=V.int ((zcd ks p).getD 0) by cases zcd ks p <;> rfl];refine⟨by show 3<=sizeLine;decide,?_⟩;intro p1 n1;generalize U':upd _ p1 _=H1;obtain ⟨S1,e1⟩:=zag n1 U';clear U';exact h p1 H1 S1 e1 n1
  ·exact h.elim
theorem zdE:zal ["self","row","place","sign"] ["self"] (zad zbo):=by walk_at "s"
def zgy (a:Ad):Sp:=fun vs H Q _=>match vs with
 | [.ref o]=>∃ (t d:Addr) (r p:Int) (ks:Mk2) (m:Ma),WK a.Walk H o t d r p ks/\zcE H t m/\OkM m/\OkS m r ks/\∀ (b:Addr) (e:En) (H':Hp),Sub H H'->ent m r p ks=some e->zaM m.length (sgn m) e=true->Ent H' b e->Q (.ref b) H'
 | _=>False
theorem zbS (T:Tx K mg a):zaC P w K mg base CX0 2 a.Walk_entry a.Walk_entry_d ["self"] (zgy a):=by
 have G_Walk_look:=zen (P:=P) (w:=w) (base:=base) T;refine T.f_Walk_entry.ok zdE (fun vs H Q E h=>?_) (fun cdv A outer s H vs Q E hr h=>?_)
 ·unfold zgy at h;split at h
  ·rfl
  ·exact h.elim
 ·unfold zgy at h;split at h
  ·have nd:=zdE.nd;have hu:=zaz hr;rename_i o;obtain⟨t,d,r,p,ks,m,W,hm,M,S,h⟩:=h;refine⟨_,(zab (zck (zaI (qv 0) T.k_Walk T.m_Walk_look G_Walk_look (hr.mono (by decide)) T.b_Walk_look .nil zav) (zaG (K:=K) (n:=3) rfl rfl (zak (zai (i:=1) nd rfl (by walk_at "o")) (zak (zai (i:=2) nd rfl (by walk_at "o")) (zak (zai (i:=3) nd rfl (by walk_at "o")) zaH)))))
  (zae (zam (zba (zbx (K:=K) rfl) (zba (zbx (K:=K) rfl) (zb2 (qv 0) rfl) (qv 1) (fun _ _=>rfl)) (qv 3) (fun _ _=>rfl))))),?_⟩
   obtain⟨⟨dx,ho⟩,hd⟩:=id W;refine⟨_,_,_,rfl,ho,rfl,?_⟩;refine⟨t,d,r,p,ks,W,fun q H1 S1 hq nq=>?_⟩;have hm1:=hm.stay (.sub S1);obtain⟨rs,hm1,hnd,hrw⟩:=hm1;obtain⟨es,e,h1,h2,h3,h4,h5⟩:=S.at M p;have hv:=S.val M p;refine⟨_,SqT.of hq,rfl,?_⟩;refine⟨_,_,_,_,_,rfl,S1 _ _ ho,T.k_Walk,T.n_Walk_table,zq8 _ _ _ _,?_⟩;walk_at "w";have hlt:r.toNat<rs.length:=by rw [hrw.1];have:=S.r0;have:=S.r1;omega
   have hrd:rs[r.toNat]?=some rs[r.toNat]:=zr0 hlt;obtain⟨es',he',as,hra⟩:=hrw.at hrd;rw [h1] at he';cases he';refine⟨_,_,SqL.of hm1,zce (v:=V.ref rs[r.toNat]) S.r0 (by rw [zrZ,hrd];rfl),?_⟩;walk_at "w";have hlt2:((zcd ks p).getD 0).toNat<as.length:=by rw [hra.2.1,h5];omega
   have had:as[((zcd ks p).getD 0).toNat]?=some as[((zcd ks p).getD 0).toNat]:=zr0 hlt2;obtain⟨e',hee,heb⟩:=hra.2.at had;rw [h2] at hee;cases hee;refine⟨_,_,SqL.of hra.1,zce (v:=V.ref as[((zcd ks p).getD 0).toNat]) hv.1 (by rw [zrZ,had];rfl),?_⟩;exact h _ e H1 S1 h3 h4 heb
  ·exact h.elim
theorem zep:zal ["self","sign"] ["self","sign"] (zad zbJ):=by walk_at "s"
def zhT (a:Ad):Sp:=fun vs H Q _=>match vs with
 | [.ref o,.int s]=>∃ (t d:Addr) (r p:Int) (ks:Mk2),WK a.Walk H o t d r p ks/\ks.length<=10000/\∀ H':Hp,H' d=some (.dK (dcI (iv (nxt ks p s))))->(∀ c u,H c=some u->c≠d->H' c=some u)->Q .non H'
 | _=>False
theorem zhE (T:Tx K mg a):zaC P w K mg base CX0 1 a.Walk_mark a.Walk_mark_d ["self","sign"] (zhT a):=by
 refine T.f_Walk_mark.ok zep (fun vs H Q E h=>?_) (fun cdv A outer s H vs Q E hr h=>?_)
 ·unfold zhT at h;split at h
  ·rfl
  ·exact h.elim
 ·unfold zhT at h;split at h
  ·have nd:=zep.nd;have hu:=zaz hr;rename_i o s';obtain⟨t,d,r,p,ks,⟨⟨dx,ho⟩,hd⟩,hlen,h⟩:=h;refine⟨_,(zae (zbA (zbv zdl (qv 1) zaf) (zae (zaS (zmt (zb2 (qv 0) rfl) (zb2 (qv 0) rfl) zaf ⟨rfl,rfl,rfl,rfl⟩))) (zae (ziy hu (zb2 (qv 0) rfl) (zb2 (qv 0) rfl) (qv 1) rfl)))),?_⟩;walk_at "w";refine ifB.mk (fun hs=>?_) (fun hs=>?_)
   ·walk_at "w";refine⟨_,_,_,_,_,rfl,ho,T.k_Walk,T.n_Walk_marks,zmN _ _ _ _,?_⟩;refine⟨_,rfl,.inl ⟨_,.inl hd⟩,?_⟩;refine⟨_,_,_,_,_,rfl,ho,T.k_Walk,T.n_Walk_place,zgV _ _ _ _,?_⟩;have hs:s'=0:=zsH hs;refine⟨_,.inl p,hd,rfl,fun v _=>?_,fun hn=>?_⟩
    ·rw [zpC];exact h _ (by rw [zah];unfold nxt;rw [zsB hs]) fun c u e ne=>by rw [zao ne];exact e
    ·rw [zj7] at hn;have hn:zcd ks p=none:=by
      cases e:zcd ks p with
      | none=>rfl
      | some z=>rw [e] at hn;cases hn
     exact h H (by unfold nxt;rw [zsB hs,zkn hn];exact hd) fun c u e ne=>e
   ·walk_at "w";refine⟨_,_,_,_,_,rfl,ho,T.k_Walk,T.n_Walk_marks,zmN _ _ _ _,?_⟩;refine⟨_,_,_,_,_,rfl,ho,T.k_Walk,T.n_Walk_place,zgV _ _ _ _,?_⟩;have hs:¬ s'=0:=of_decide_eq_false hs;refine⟨_,_,rfl,zoL.k (k:=.inl p) hd ?_,?_⟩
    ·rw [zrY,zrY];exact zsc hlen (by decide)
    ·rw [zm7];exact h _ (by rw [zah];unfold nxt;rw [zsA hs]) fun c u e ne=>by rw [zao ne];exact e
  ·exact h.elim
theorem zeu:zal ["self","entry","sign","way","row"] ["self"] (zad zbF):=by walk_at "s"
def zix (a:Ad):Sp:=fun vs H Q _=>match vs with
 | [.ref o]=>∃ (t d:Addr) (r p:Int) (ks:Mk2) (m:Ma),WK a.Walk H o t d r p ks/\zcE H t m/\OkM m/\OkS m r ks/\ks.length<=10000 /\
   (ent m r p ks=some []->∀ H',Sub H H'->Q (.bl false) H') /\
   ∀ (s w r':Int) (H':Hp),ent m r p ks=some [s,w,r']->zaM m.length (sgn m) [s,w,r']=true->WK a.Walk H' o t d r' (p+w) (nxt ks p s)->(∀ c u,H c=some u->c≠o->c≠d->H' c=some u)->Q (.bl true) H'
 | _=>False
theorem zbn (T:Tx K mg a):zaC P w K mg base CX0 3 a.Walk_step a.Walk_step_d ["self"] (zix a):=by
 have G_Walk_entry:=zbS (P:=P) (w:=w) (base:=base) T;have G_Walk_mark:=zhE (P:=P) (w:=w) (base:=base) T;refine T.f_Walk_step.ok zeu (fun vs H Q E h=>?_) (fun cdv A outer s H vs Q E hr h=>?_)
 ·unfold zix at h;split at h
  ·rfl
  ·exact h.elim
 ·unfold zix at h;split at h
  ·have nd:=zeu.nd;have hu:=zaz hr;rename_i o;obtain⟨t,d,r,p,ks,m,W,hm,M,S,hlen,h0,h1⟩:=h;refine⟨_,(zab (zaq (i:=1) nd rfl (by walk_at "o") (zaI (qv 0) T.k_Walk T.m_Walk_entry G_Walk_entry (hr.mono (by decide)) T.b_Walk_entry .nil zav))
  (zab (zbA (zbv (zdT hr) (qv 1) (zau zac)) (zae (zam zcG)) zas)
  (zab (zck (qv 1) (zaG (K:=K) (n:=3) rfl rfl (zak (zai (i:=2) nd rfl (by walk_at "o")) (zak (zai (i:=3) nd rfl (by walk_at "o")) (zak (zai (i:=4) nd rfl (by walk_at "o")) zaH)))))
  (zab (zaS (znN (qv 0) T.k_Walk T.m_Walk_mark G_Walk_mark (hr.mono (by decide)) T.b_Walk_mark .nil zav (zaa (qv 2) zac)))
  (zab (zkX (qv 0) (qv 3) zpb)
  (zab (zhA (qv 0) (qv 4) rfl)
  (zae (zam zcG)))))))),?_⟩
   obtain⟨⟨dx,ho⟩,hd⟩:=id W;refine⟨_,_,_,rfl,ho,rfl,?_⟩;refine⟨t,d,r,p,ks,m,W,hm,M,S,fun b e H0 S0 he hok hE=>?_⟩;refine⟨by show 0<=sizeLine;decide,?_⟩;intro p1 n1;generalize U':upd _ p1 _=H1;obtain ⟨S1,e1⟩:=zag n1 U';clear U';have W1:=(W.sub S0).sub S1;obtain⟨⟨dx1,ho1⟩,hd1⟩:=id W1;refine⟨_,_,(Ent.den (e:=e) (S1 _ _ hE)),(Ent.den (e:=[]) e1),zcU _,?_⟩;rw [ze3];walk_at "w";refine ifB.dec (fun z=>?_) (fun z=>?_)
   ·subst z;exact h0 he H1 (S0.trans S1)
   ·obtain⟨s',w',r',rfl,a0,a1,a2,a3,a4⟩:=zaD hok z;refine⟨_,SqT.of (S1 _ _ hE),rfl,?_⟩;refine⟨_,_,_,rfl,ho1,rfl,?_⟩;refine⟨t,d,r,p,ks,W1,hlen,fun H2 g2 k2=>?_⟩;have nod:o≠d:=fun q=>by rw [q,hd1] at ho1;cases ho1
    have ho2:=k2 _ _ ho1 nod;refine⟨_,_,_,_,_,rfl,ho2,T.k_Walk,T.n_Walk_place,zgV _ _ _ _,?_⟩;refine⟨_,_,rfl,rfl,?_⟩;refine⟨_,_,ho2,znH _ _ _ _,?_⟩;rw [zms];refine⟨_,_,_,_,rfl,zah,T.k_Walk,T.n_Walk_row,znH _ _ _ _,?_⟩;rw [zpN];walk_at "w";refine h1 s' w' r' _ he hok ⟨⟨_,zah⟩,by rw [zao nod.symm,zao nod.symm];exact g2⟩ fun c u e hc1 hc2=>by rw [zao hc1,zao hc1];exact k2 _ _ ((S0.trans S1) _ _ e) hc2
  ·exact h.elim
theorem zdM:zal ["self"] ["self"] (zad zbj):=by walk_at "s"
def zgi (a:Ad):Sp:=fun vs H Q _=>match vs with
 | [.ref o]=>∃ (t d:Addr) (r p:Int) (ks:Mk2),WK a.Walk H o t d r p ks/\ks.length<65536/\∀ (q l:Addr) (js:Mk2) (H':Hp),Sub H H'->js.Perm ks->Srt js->H' q=some (.tup [.int r,.int p,.ref l])->zec H' l js->H l=none->Q (.ref q) H'
 | _=>False
theorem zbR (T:Tx K mg a):zaC P w K mg base CX0 1 a.Walk_setup a.Walk_setup_d ["self"] (zgi a):=by
 refine T.f_Walk_setup.ok zdM (fun vs H Q E h=>?_) (fun cdv A outer s H vs Q E hr h=>?_)
 ·unfold zgi at h;split at h
  ·rfl
  ·exact h.elim
 ·unfold zgi at h;split at h
  ·have nd:=zdM.nd;have hu:=zaz hr;rename_i o;obtain⟨t,d,r,p,ks,W,h64,h⟩:=h;refine⟨_,(zae (zam (zau (zaa (zb2 (qv 0) rfl) (zaa (zb2 (qv 0) rfl) (zaa (zaw (znx rfl) rfl T.z_sorted zdP (zaa (znu PySem.F.plainAttrs_dict PySem.F.slot_dict_items PySem.F.type_dict_items zkr (zb2 (qv 0) rfl)) zac)) zac)))))),?_⟩;obtain⟨⟨dx,ho⟩,hd⟩:=id W;refine⟨_,_,_,_,_,rfl,ho,T.k_Walk,T.n_Walk_row,zpX _ _ _ _,?_⟩;refine⟨_,_,_,_,_,rfl,ho,T.k_Walk,T.n_Walk_place,zgV _ _ _ _,?_⟩;refine⟨_,_,_,_,_,rfl,ho,T.k_Walk,T.n_Walk_marks,zmN _ _ _ _,?_⟩;refine⟨.inr (.inr (.inl ⟨rfl,.inl ⟨_,hd⟩⟩)),?_⟩;refine⟨⟨_,hd⟩,?_⟩;intro p1 n1;generalize U':upd _ p1 _=H1;obtain ⟨S1,e1⟩:=zag n1 U';clear U';refine⟨d,iv ks,e1,S1 _ _ hd,by rw [zrY];exact h64,fun ps bs l H2 S2 hp hs hA hl nl _=>?_⟩;obtain⟨js,rfl,pj,sj⟩:=zih hp hs;refine⟨by show 3<=sizeLine;decide,?_⟩;intro p3 n3;generalize U':upd _ p3 _=H3;obtain ⟨S3,e3⟩:=zag n3 U';clear U';exact h p3 l js H3 ((S1.trans S2).trans S3) pj sj e3 ⟨bs,S3 _ _ hl,hA.mono fun _ _ _ z=>S3 _ _ z⟩ (S1.free nl)
  ·exact h.elim
theorem zdc:zal [] [] (zad zbf):=by walk_at "s"
def zgK:Sp:=fun vs H Q _=>match vs with
 | []=>∀ (q:Addr) (H':Hp),Sub H H'->SU H' q 0 0 []->Q (.ref q) H'
 | _=>False
theorem zfv (T:Tx K mg a):zaC P w K mg base CX0 1 a.first_setup a.first_setup_d [] (zgK):=by
 refine T.f_first_setup.ok zdc (fun vs H Q E h=>?_) (fun cdv A outer s H vs Q E hr h=>?_)
 ·unfold zgK at h;split at h
  ·rfl
  ·exact h.elim
 ·unfold zgK at h;split at h
  ·have nd:=zdc.nd;have hu:=zaz hr;refine⟨_,(zae (zam (zau (zaa zaf (zaa zaf (zaa (zaL zac) zac)))))),?_⟩;refine⟨by decide,?_⟩;intro p1 n1;generalize U':upd _ p1 _=H1;obtain ⟨S1,e1⟩:=zag n1 U';clear U';refine⟨by show 3<=sizeLine;decide,?_⟩;intro p2 n2;generalize U':upd _ p2 _=H2;obtain ⟨S2,e2⟩:=zag n2 U';clear U';exact h p2 H2 (S1.trans S2) ⟨p1,e2,[],S2 _ _ e1,.nil⟩
  ·exact h.elim
theorem zja:zal ["machine"] ["machine"] (zad zdu):=by walk_at "s"
def zeE (a:Ad):Sp:=fun vs H Q _=>match vs with
 | [.ref t]=>∃ m:Ma,zcE H t m/\isM m=true/\∀ (o d:Addr) (H':Hp),Sub H H'->WK a.Walk H' o t d 0 0 []->H o=none->H d=none->Q (.ref o) H'
 | _=>False
theorem zly {m:Ma} (h:isM m=true):Bd 100 m:=by
 have M:=OkM.of h;exact⟨zsd M.n4 (by decide),fun r hr=>by have:=M.len r hr;have:=M.s4;omega⟩
theorem zc3 (T:Tx K mg a):zaC P w K mg base CX0 5 a.begun a.begun_d ["machine"] (zeE a):=by
 have G_Walk___init__:=zcC (P:=P) (w:=w) (base:=base) T;have G_first_setup:=zfv (P:=P) (w:=w) (base:=base) T;have G_must_machine:=(za4 (P:=P) (w:=w) (base:=base) T).noE;refine T.f_begun.ok zja (fun vs H Q E h=>?_) (fun cdv A outer s H vs Q E hr h=>?_)
 ·unfold zeE at h;split at h
  ·rfl
  ·exact h.elim
 ·unfold zeE at h;split at h
  ·have nd:=zja.nd;have hu:=zaz hr;rename_i t;obtain⟨m,hm,hM,h⟩:=h;refine⟨_,(zab (zaS (zaj G_must_machine (hr.mono (by decide)) rfl T.g_must_machine T.f_must_machine.kp T.b_must_machine .nil zav (zaa (qv 0) zac)))
  (zae (zam (zlw T.mk_Walk G_Walk___init__ (hr.mono (by decide)) rfl T.g_Walk T.b_Walk___init__ .nil zav (zaa (qv 0) (zaa (zmM G_first_setup (hr.mono (by decide)) rfl T.g_first_setup T.f_first_setup.kp T.b_first_setup .nil zav) zac)))))),?_⟩
   refine⟨m,hm,zly hM,fun _ H1 S1=>?_,fun z=>by rw [hM] at z;cases z⟩;walk_at "w";intro q H2 S2 hS;walk_at "w";intro o dx n1 n2 ne;have T2:Sub H2 (upd (upd H2 dx (.own o)) o (.ins a.Walk dx [])):=(Sub.new n2).upd n1;refine⟨dx,0,0,[],zah,hS.sub T2,by simp,by simp,fun d H3 nd W3 k3=>⟨rfl,?_⟩⟩;have S23:Sub H2 H3:=fun c u e=>k3 c u (T2 _ _ e) (zan e n1)
   exact h o d H3 ((S1.trans S2).trans S23) W3 (S1.free (S2.free n1)) (S1.free (S2.free (T2.free nd)))
  ·exact h.elim
theorem zfk:zal ["machine"] ["machine"] (zad zdu):=by walk_at "s"
theorem zcz (T:Tx K mg a):zaC P w K mg base (CXE P w) 5 a.begun a.begun_d ["machine"] (zcT a):=by
 have G_must_machine:=zaN (P:=P) (w:=w) (base:=base) T;refine T.f_begun.okE zfk (fun vs H Q E h=>?_) (fun cdv A outer s H vs Q E hr h=>?_)
 ·unfold zcT at h;split at h
  ·rfl
  ·exact h.elim
 ·unfold zcT at h;split at h
  ·have nd:=zfk.nd;have hu:=zaz hr;rename_i t;refine⟨_,(zab (zaS (zaj G_must_machine (hr.mono (by decide)) rfl T.g_must_machine T.f_must_machine.kp T.b_must_machine .nil zat (zaa (qv 0) zac)))
  zaO),?_⟩
   walk_at "w";exact h
  ·exact h.elim
theorem zmF:True:=True.intro
theorem zgx (T:Tx K mg a):zaC P w K mg base (CXE P w) 5 a.begun a.begun_d ["machine"] (fun vs H Q E=>(zeE a) vs H Q E\/(zcT a) vs H Q E):=zaC.or0 (zc3 T) (zcz T) (by decide) (by decide)
theorem zfZ:zal ["machine","setup","walk"] ["machine","setup"] (zad zb6):=by walk_at "s"
def zcW:Sp:=fun vs H Q _=>match vs with
 | [.ref t,.ref b]=>∃ (m:Ma) (r p:Int) (ks:Mk2),zcE H t m/\isM m=true/\SU H b r p ks/\OkS m r ks/\ks.length<9000 /\
   (ent m r p ks=some []->∀ H',Sub H H'->Q .non H') /\
   ∀ (s w r':Int) (q l:Addr) (js:Mk2) (H':Hp),ent m r p ks=some [s,w,r']->zaM m.length (sgn m) [s,w,r']=true->Sub H H'->js.Perm (nxt ks p s)->Srt js->H' q=some (.tup [.int r',.int (p+w),.ref l])->zec H' l js->H l=none->Q (.ref q) H'
 | _=>False
theorem zpI {m:Ma} (h:isM m=true):Bd 100 m:=by
 have M:=OkM.of h;exact⟨zsd M.n4 (by decide),fun r hr=>by have:=M.len r hr;have:=M.s4;omega⟩
theorem zjC (T:Tx K mg a):zaC P w K mg base CX0 5 a.stepped a.stepped_d ["machine","setup"] (zcW):=by
 have G_Walk___init__:=zcC (P:=P) (w:=w) (base:=base) T;have G_Walk_step:=zbn (P:=P) (w:=w) (base:=base) T;have G_Walk_setup:=zbR (P:=P) (w:=w) (base:=base) T;have G_must_machine:=(za4 (P:=P) (w:=w) (base:=base) T).noE;refine T.f_stepped.ok zfZ (fun vs H Q E h=>?_) (fun cdv A outer s H vs Q E hr h=>?_)
 ·unfold zcW at h;split at h
  ·rfl
  ·exact h.elim
 ·unfold zcW at h;split at h
  ·have nd:=zfZ.nd;have hu:=zaz hr;rename_i t b;obtain⟨m,r,p,ks,hm,hM,hS,hok,hlen,h0,h1⟩:=h;refine⟨_,(zab (zaS (zaj G_must_machine (hr.mono (by decide)) rfl T.g_must_machine T.f_must_machine.kp T.b_must_machine .nil zav (zaa (qv 0) zac)))
  (zab (zaq (i:=2) nd rfl (by walk_at "o") (zlw T.mk_Walk G_Walk___init__ (hr.mono (by decide)) rfl T.g_Walk T.b_Walk___init__ .nil zav (zaa (qv 0) (zaa (qv 1) zac))))
  (zab (zbA (zc9 (zlT (zaI (qv 2) T.k_Walk T.m_Walk_step G_Walk_step (hr.mono (by decide)) T.b_Walk_step .nil zav))) (zae (zam zbg)) zas)
  (zae (zam (zaI (qv 2) T.k_Walk T.m_Walk_setup G_Walk_setup (hr.mono (by decide)) T.b_Walk_setup .nil zav)))))),?_⟩
   refine⟨m,hm,zpI hM,fun _ H1 S1=>?_,fun z=>by rw [hM] at z;cases z⟩;walk_at "w";intro o dx n1 n2 ne;have T2:Sub H1 (upd (upd H1 dx (.own o)) o (.ins a.Walk dx [])):=(Sub.new n2).upd n1;refine⟨dx,r,p,ks,zah,(hS.sub S1).sub T2,hok.nd,by omega,fun d H2 nd W2 k2=>⟨rfl,?_⟩⟩;have S12:Sub H1 H2:=fun c u e=>k2 c u (T2 _ _ e) (zan e n1)
   have hm2:zcE H2 t m:=hm.stay (.sub (S1.trans S12));obtain⟨⟨dx2,ho2⟩,hd2⟩:=id W2;have nd1:H1 d=none:=T2.free nd;have nod:o≠d:=fun q=>by rw [q,hd2] at ho2;cases ho2
   refine⟨_,_,_,rfl,ho2,rfl,?_⟩;refine⟨t,d,r,p,ks,m,W2,hm2,OkM.of hM,hok,by omega,fun he H3 S3=>?_,fun s' w' r' H3 he hE W3 k3=>?_⟩
   ·walk_at "w";refine ifB.yes rfl ?_;exact h0 he H3 ((S1.trans S12).trans S3)
   ·walk_at "w";refine ifB.no rfl ?_;have S13:Sub H1 H3:=fun c u e=>k3 c u (S12 _ _ e) (zan e n1) (zan e nd1)
    obtain⟨⟨dx3,ho3⟩,hd3⟩:=id W3;refine⟨_,_,_,rfl,ho3,rfl,?_⟩;refine⟨t,d,r',p+w',nxt ks p s',W3,by have:=zdn ks p s';omega,fun q l js H4 S4 hp hs hq hl nl=>?_⟩;exact h1 s' w' r' q l js H4 he hE ((S1.trans S13).trans S4) hp hs hq hl (S1.free (S13.free nl))
  ·exact h.elim
theorem zdv:zal ["machine","setup","walk"] ["machine","setup"] (zad zb6):=by walk_at "s"
theorem zgO (T:Tx K mg a):zaC P w K mg base (CXE P w) 5 a.stepped a.stepped_d ["machine","setup"] (zax a):=by
 have G_must_machine:=zaN (P:=P) (w:=w) (base:=base) T;refine T.f_stepped.okE zdv (fun vs H Q E h=>?_) (fun cdv A outer s H vs Q E hr h=>?_)
 ·unfold zax at h;split at h
  ·rfl
  ·exact h.elim
 ·unfold zax at h;split at h
  ·have nd:=zdv.nd;have hu:=zaz hr;rename_i t v;refine⟨_,(zab (zaS (zaj G_must_machine (hr.mono (by decide)) rfl T.g_must_machine T.f_must_machine.kp T.b_must_machine .nil zat (zaa (qv 0) zac)))
  zaO),?_⟩
   walk_at "w";exact h
  ·exact h.elim
theorem zk8:True:=True.intro
theorem zeV (T:Tx K mg a):zaC P w K mg base (CXE P w) 5 a.stepped a.stepped_d ["machine","setup"] (fun vs H Q E=>(zcW) vs H Q E\/(zax a) vs H Q E):=zaC.or0 (zjC T) (zgO T) (by decide) (by decide)
theorem znd:zal ["machine","most","walk","steps","word"] ["machine","most"] (zad zia):=by walk_at "s"
def ziS:Sp:=fun vs H Q _=>match vs with
 | [.ref t,.int most]=>∃ m:Ma,zcE H t m/\isM m=true/\0<=most/\most<=1000/\∀ (q l:Addr) (x:St3) (js:Mk2) (H':Hp),Sub H H'->(tr m most.toNat (0,0,[])).getLast?=some x->RU H' q (wd m x) ((tr m most.toNat (0,0,[])).length-1) (l,(x.1,x.2.1,js))->js.Perm x.2.2->Srt js->H l=none->Q (.ref q) H'
 | _=>False
theorem zlJ (T:Tx K mg a):zaC P w K mg base CX0 6 a.run a.run_d ["machine","most"] (ziS):=by
 have G_begun:=zc3 (P:=P) (w:=w) (base:=base) T;have G_Walk_step:=zbn (P:=P) (w:=w) (base:=base) T;have G_Walk_entry:=zbS (P:=P) (w:=w) (base:=base) T;have G_Walk_setup:=zbR (P:=P) (w:=w) (base:=base) T;refine T.f_run.ok znd (fun vs H Q E h=>?_) (fun cdv A outer s H vs Q E hr h=>?_)
 ·unfold ziS at h;split at h
  ·rfl
  ·exact h.elim
 ·unfold ziS at h;split at h
  ·have nd:=znd.nd;have hu:=zaz hr;rename_i t most;obtain⟨m,hm,hM,hm0,hm60,h⟩:=h;have M:=OkM.of hM;refine⟨_,(zab (zaq (i:=2) nd rfl (by walk_at "o") (zaj G_begun (hr.mono (by decide)) rfl T.g_begun T.f_begun.kp T.b_begun .nil zav (zaa (qv 0) zac)))
  (zab (zaq (i:=3) nd rfl (by walk_at "o") zaf)
  (zab (zgp PassesOwn.never (PW.pt (zeZ (zbv zqO (qv 3) (qv 1)) (zeP (zlT (zaI (qv 2) T.k_Walk T.m_Walk_step G_Walk_step (hr.mono (by decide)) T.b_Walk_step .nil zav))))) (zae (zqh (i:=3) nd rfl (by walk_at "o") zaf zpD)))
  (zab (zaq (i:=4) nd rfl (by walk_at "o") (znp (zbv (zdT hr) (zaI (qv 2) T.k_Walk T.m_Walk_entry G_Walk_entry (hr.mono (by decide)) T.b_Walk_entry .nil zav) (zau zac)) zbz zbz))
  (zae (zam (zau (zaa (qv 4) (zaa (qv 3) (zaa (zaI (qv 2) T.k_Walk T.m_Walk_setup G_Walk_setup (hr.mono (by decide)) T.b_Walk_setup .nil zav) zac)))))))))),?_⟩
   refine⟨m,hm,hM,fun o d H1 S1 W1 no nd=>?_⟩;refine⟨fun k σ H5=>∃ (sts:List St3) (x:St3) (v4:Option V),k=most.toNat+1-sts.length/\σ=[some (.ref t),some (.int most),some (.ref o),some (.int (sts.length-1)),v4]/\Sub H H5/\WK a.Walk H5 o t d x.1 x.2.1 x.2.2/\At m most.toNat (0,0,[]) sts x/\OkS m x.1 x.2.2/\x.2.2.length<=sts.length,
    ⟨_,[(0,0,[])],(0,0,[]),none,rfl,rfl,S1,W1,At.start,⟨by decide,by have:=M.n1;omega,by simp,by simp⟩,by simp⟩,?_⟩
   rintro k σ H5 ⟨sts,x,v4,rfl,rfl,S5,W5,hAt,hok,hxl⟩;have hl5:=hAt.len;obtain⟨⟨dx5,ho5⟩,hd5⟩:=id W5;walk_at "w";refine ifB.dec (fun z=>?_) (fun z=>?_)
   ·have z:(sts.length:Int)-1<most:=z;refine⟨_,_,_,rfl,ho5,rfl,?_⟩;refine⟨t,d,x.1,x.2.1,x.2.2,m,W5,hm.stay (.sub S5),M,hok,by omega,fun he H6 S6=>?_,fun s' w' r' H6 he hE W6 k6=>?_⟩
    ·have hst:=hAt.done (.inl (zhe he));have S06:=S5.trans S6;have W6:=W5.sub S6;obtain⟨⟨dx6,ho6⟩,hd6⟩:=id W6;refine⟨_,_,_,rfl,ho6,rfl,?_⟩;refine⟨t,d,x.1,x.2.1,x.2.2,m,W6,hm.stay (.sub S06),M,hok,fun b e HQ SQ he hoke hE=>?_⟩;refine⟨by show 0<=sizeLine;decide,?_⟩;intro p7 n7;generalize U':upd _ p7 _=H7;obtain ⟨S7,e7⟩:=zag n7 U';clear U';refine⟨_,_,(Ent.den (e:=e) (S7 _ _ hE)),(Ent.den (e:=[]) e7),zcU _,?_⟩;rw [ze3];walk_at "w";have W7:=(W6.sub SQ).sub S7;obtain⟨⟨dx7,ho7⟩,hd7⟩:=id W7;have S07:=(S06.trans SQ).trans S7;refine ifB.dec (fun z=>?_) (fun z=>?_)
     ·have hw:wd m x="ends":=by unfold wd;rw [he,z,zsB rfl]
      refine⟨_,_,_,rfl,ho7,rfl,?_⟩;refine⟨t,d,x.1,x.2.1,x.2.2,W7,by omega,fun q l js H8 S8 pj sj hq hl nl=>?_⟩;refine⟨by show 3<=sizeLine;decide,?_⟩;intro p9 n9;generalize U':upd _ p9 _=H9;obtain ⟨S9,e9⟩:=zag n9 U';clear U';rw [hst] at hAt e9;exact h p9 l x js H9 ((S07.trans S8).trans S9) hAt.last ⟨q,by rw [hw];exact e9,S9 _ _ hq,hl.sub S9⟩ pj sj (S07.free nl)
     ·have hw:wd m x="on":=by unfold wd;rw [he,zsA (fun q=>z (zsJ q))]
      refine⟨_,_,_,rfl,ho7,rfl,?_⟩;refine⟨t,d,x.1,x.2.1,x.2.2,W7,by omega,fun q l js H8 S8 pj sj hq hl nl=>?_⟩;refine⟨by show 3<=sizeLine;decide,?_⟩;intro p9 n9;generalize U':upd _ p9 _=H9;obtain ⟨S9,e9⟩:=zag n9 U';clear U';rw [hst] at hAt e9;exact h p9 l x js H9 ((S07.trans S8).trans S9) hAt.last ⟨q,by rw [hw];exact e9,S9 _ _ hq,hl.sub S9⟩ pj sj (S07.free nl)
    ·obtain⟨s2,w2,r2,e2,a0,a1,a2,a3,a4⟩:=zaD hE (by simp);cases e2;have S06:Sub H H6:=fun c u e=>k6 c u (S5 _ _ e) (zan e no) (zan e nd)
     have hnl:=zdn x.2.2 x.2.1 s';refine⟨_,fun σ' H' z=>z,?_⟩;refine⟨_,rfl,?_⟩;refine⟨_,_,rfl,rfl,?_⟩;refine⟨_,?_,sts++[(r',x.2.1+w',nxt x.2.2 x.2.1 s')],(r',x.2.1+w',nxt x.2.2 x.2.1 s'),v4,rfl,?_,S06,W6,hAt.step (zhp he) (by omega),hok.nxt a0 a1 a3 a4,?_⟩
     ·rw [zr8];show most.toNat+1-(sts.length+1)<_;omega
     ·have:((sts++[(r',x.2.1+w',nxt x.2.2 x.2.1 s')]).length:Int)-1=(sts.length:Int)-1+1:=by rw [zr8];show ((sts.length+1:Nat):Int)-1=_;omega
      rw [this]
      rfl
     ·rw [zr8];show (nxt x.2.2 x.2.1 s').length<=sts.length+1;omega
   ·have hst:=hAt.done (.inr (by omega));have S06:=S5;have W6:=W5;have ho6:=ho5;refine⟨_,_,_,rfl,ho6,rfl,?_⟩;refine⟨t,d,x.1,x.2.1,x.2.2,m,W6,hm.stay (.sub S06),M,hok,fun b e HQ SQ he hoke hE=>?_⟩;refine⟨by show 0<=sizeLine;decide,?_⟩;intro p7 n7;generalize U':upd _ p7 _=H7;obtain ⟨S7,e7⟩:=zag n7 U';clear U';refine⟨_,_,(Ent.den (e:=e) (S7 _ _ hE)),(Ent.den (e:=[]) e7),zcU _,?_⟩;rw [ze3];walk_at "w";have W7:=(W6.sub SQ).sub S7;obtain⟨⟨dx7,ho7⟩,hd7⟩:=id W7;have S07:=(S06.trans SQ).trans S7;refine ifB.dec (fun z=>?_) (fun z=>?_)
    ·have hw:wd m x="ends":=by unfold wd;rw [he,z,zsB rfl]
     refine⟨_,_,_,rfl,ho7,rfl,?_⟩;refine⟨t,d,x.1,x.2.1,x.2.2,W7,by omega,fun q l js H8 S8 pj sj hq hl nl=>?_⟩;refine⟨by show 3<=sizeLine;decide,?_⟩;intro p9 n9;generalize U':upd _ p9 _=H9;obtain ⟨S9,e9⟩:=zag n9 U';clear U';rw [hst] at hAt e9;exact h p9 l x js H9 ((S07.trans S8).trans S9) hAt.last ⟨q,by rw [hw];exact e9,S9 _ _ hq,hl.sub S9⟩ pj sj (S07.free nl)
    ·have hw:wd m x="on":=by unfold wd;rw [he,zsA (fun q=>z (zsJ q))]
     refine⟨_,_,_,rfl,ho7,rfl,?_⟩;refine⟨t,d,x.1,x.2.1,x.2.2,W7,by omega,fun q l js H8 S8 pj sj hq hl nl=>?_⟩;refine⟨by show 3<=sizeLine;decide,?_⟩;intro p9 n9;generalize U':upd _ p9 _=H9;obtain ⟨S9,e9⟩:=zag n9 U';clear U';rw [hst] at hAt e9;exact h p9 l x js H9 ((S07.trans S8).trans S9) hAt.last ⟨q,by rw [hw];exact e9,S9 _ _ hq,hl.sub S9⟩ pj sj (S07.free nl)
  ·exact h.elim
theorem zhn:zal ["machine","most","walk","steps","word"] ["machine","most"] (zad zia):=by walk_at "s"
theorem zkI (T:Tx K mg a):zaC P w K mg base (CXE P w) 6 a.run a.run_d ["machine","most"] (zax a):=by
 have G_begun:=zcz (P:=P) (w:=w) (base:=base) T;refine T.f_run.okE zhn (fun vs H Q E h=>?_) (fun cdv A outer s H vs Q E hr h=>?_)
 ·unfold zax at h;split at h
  ·rfl
  ·exact h.elim
 ·unfold zax at h;split at h
  ·have nd:=zhn.nd;have hu:=zaz hr;rename_i t v;refine⟨_,(zab (zaq (i:=2) nd rfl (by walk_at "o") (zaj G_begun (hr.mono (by decide)) rfl T.g_begun T.f_begun.kp T.b_begun .nil zat (zaa (qv 0) zac)))
  zaO),?_⟩
   walk_at "w";exact h
  ·exact h.elim
theorem zoZ:True:=True.intro
theorem zh2 (T:Tx K mg a):zaC P w K mg base (CXE P w) 6 a.run a.run_d ["machine","most"] (fun vs H Q E=>(ziS) vs H Q E\/(zax a) vs H Q E):=zaC.or0 (zlJ T) (zkI T) (by decide) (by decide)
theorem zht:zal ["machine","most","walk","told"] ["machine","most"] (zad zcB):=by walk_at "s"
def zdY:Sp:=fun vs H Q _=>match vs with
 | [.ref t,.int most]=>∃ m:Ma,zcE H t m/\isM m=true/\0<=most/\most<=1000/\∀ (f:Addr) (ts:List Addr) (zs:List (Addr × St3)) (H':Hp),Sub H H'->H' f=some (.lst (ts.map V.ref))->za6 (SZ H') ts zs->(zs.map (·.1)).Nodup->(∀ z∈zs,H z.1=none) ->
   zlU (zs.map (·.2)) (tr m most.toNat (0,0,[]))->H f=none->(∀ z∈zs,z.1≠f)->Q (.ref f) H'
 | _=>False
theorem zeX (T:Tx K mg a):zaC P w K mg base CX0 6 a.setups a.setups_d ["machine","most"] (zdY):=by
 have G_begun:=zc3 (P:=P) (w:=w) (base:=base) T;have G_Walk_step:=zbn (P:=P) (w:=w) (base:=base) T;have G_Walk_setup:=zbR (P:=P) (w:=w) (base:=base) T;refine T.f_setups.ok zht (fun vs H Q E h=>?_) (fun cdv A outer s H vs Q E hr h=>?_)
 ·unfold zdY at h;split at h
  ·rfl
  ·exact h.elim
 ·unfold zdY at h;split at h
  ·have nd:=zht.nd;have hu:=zaz hr;rename_i t most;obtain⟨m,hm,hM,hm0,hm60,h⟩:=h;have M:=OkM.of hM;refine⟨_,(zab (zaq (i:=2) nd rfl (by walk_at "o") (zaj G_begun (hr.mono (by decide)) rfl T.g_begun T.f_begun.kp T.b_begun .nil zav (zaa (qv 0) zac)))
  (zab (zaq (i:=3) nd rfl (by walk_at "o") (zaL (zaa (zaI (qv 2) T.k_Walk T.m_Walk_setup G_Walk_setup (hr.mono (by decide)) T.b_Walk_setup .nil zav) zac)))
  (zab (zgp PassesOwn.never (PW.pt (zeZ (zbv zhN (zaw (zco (K:=K) rfl) rfl T.z_len zcn (zaa (qv 3) zac)) (qv 1)) (zeP (zlT (zaI (qv 2) T.k_Walk T.m_Walk_step G_Walk_step (hr.mono (by decide)) T.b_Walk_step .nil zav))))) (zae (zaS (zhR PySem.F.plainAttrs_list PySem.F.slot_list_append PySem.F.type_list_append zjW (qv 3) (zaa (zaI (qv 2) T.k_Walk T.m_Walk_setup G_Walk_setup (hr.mono (by decide)) T.b_Walk_setup .nil zav) zac)))))
  (zae (zam (qv 3)))))),?_⟩
   refine⟨m,hm,hM,fun o d H1 S1 W1 no nd=>?_⟩;obtain⟨⟨dx,ho1⟩,hd1⟩:=id W1;have nod:o≠d:=fun q=>by rw [q,hd1] at ho1;cases ho1
   refine⟨_,_,_,rfl,ho1,rfl,?_⟩;refine⟨t,d,0,0,[],W1,by simp,fun q l js H2 S2 pj sj hq hl nl=>?_⟩;refine⟨by show 1<=sizeLine;decide,?_⟩;intro p3 n3;generalize U':upd _ p3 _=H3;obtain ⟨S3,e3⟩:=zag n3 U';clear U';have S13:=S2.trans S3;have S03:=S1.trans S13;walk_at "w";have hpj:js=[]:=pj.eq_nil;subst hpj;refine⟨fun k σ H5=>∃ (ts:List Addr) (zs:List (Addr × St3)) (sts:List St3) (x:St3),k=most.toNat+1-sts.length/\σ=[some (.ref t),some (.int most),some (.ref o),some (.ref p3)]/\Sub H H5/\WK a.Walk H5 o t d x.1 x.2.1 x.2.2/\H5 p3=some (.lst (ts.map V.ref))/\za6 (SZ H5) ts zs /\
    (zs.map (·.1)).Nodup/\(∀ z∈zs,H z.1=none)/\(∀ z∈zs,z.1≠p3)/\zlU (zs.map (·.2)) sts/\At m most.toNat (0,0,[]) sts x/\OkS m x.1 x.2.2/\x.2.2.length<=sts.length,⟨_,[q],[(l,(0,0,[]))],[(0,0,[])],(0,0,[]),rfl,rfl,S03,W1.sub S13,e3,za6.app .nil ⟨S3 _ _ hq,hl.sub S3⟩,by simp,?_,?_,zlU.nil.app rfl rfl (List.Perm.refl _) List.Pairwise.nil,At.start,⟨by decide,by have:=M.n1;omega,by simp,by simp⟩,by simp⟩,?_⟩
   ·intro z hz;rw [zr7.1 hz];exact S1.free nl
   ·intro z hz;rw [zr7.1 hz];obtain⟨as,hla,_⟩:=hl;exact zan hla n3
   ·rintro k σ H5 ⟨ts,zs,sts,x,rfl,rfl,S5,W5,hf5,hA5,hnd,hfr,hne,hT,hAt,hok,hxl⟩;have nf:H p3=none:=S1.free (S2.free n3);have hl5:=hAt.len;have hzl:zs.length=sts.length:=by have:=hT.1;rw [zrY] at this;exact this
    have hfl:((ts.map V.ref).length:Int)=sts.length:=by rw [zrY,hA5.1,hzl]
    obtain⟨⟨dx5,ho5⟩,hd5⟩:=id W5;refine⟨_,.inl (SqL.of hf5),?_⟩;rw [hfl];walk_at "w";refine ifB.dec (fun z=>?_) (fun z=>?_)
    ·have z:(sts.length:Int)<=most:=z;refine⟨_,_,_,rfl,ho5,rfl,?_⟩;refine⟨t,d,x.1,x.2.1,x.2.2,m,W5,hm.stay (.sub S5),M,hok,by omega,fun he H6 S6=>?_,fun s' w' r' H6 he hE W6 k6=>?_⟩
     ·have hst:=hAt.done (.inl (zhe he));rw [hst] at hT;exact h p3 ts zs H6 (S5.trans S6) (S6 _ _ hf5) (hA5.mono fun _ _ _ z=>z.sub S6) hnd hfr hT nf hne
     ·obtain⟨s2,w2,r2,e2,a0,a1,a2,a3,a4⟩:=zaD hE (by simp);cases e2;have S06:Sub H H6:=fun c u e=>k6 c u (S5 _ _ e) (zan e no) (zan e nd)
      have st6:=zfP.two W5 k6;have hf6:=st6.refs _ _ hf5;have hA6:=hA5.mono fun _ _ _ z=>SZ.stay st6 z
      obtain⟨⟨dx6,ho6⟩,hd6⟩:=id W6;have hnl:=zdn x.2.2 x.2.1 s';refine⟨_,fun σ' H' z=>z,?_⟩;refine⟨.inl ⟨rfl,_,SqL.of hf6⟩,?_⟩;refine⟨_,_,_,rfl,ho6,rfl,?_⟩;refine⟨t,d,r',x.2.1+w',nxt x.2.2 x.2.1 s',W6,by omega,fun q7 l7 js7 H7 S7 pj7 sj7 hq7 hl7 nl7=>?_⟩;refine⟨_,S7 _ _ hf6,?_,?_⟩
      ·rw [zrY,hA6.1,hzl];exact zsc (show sts.length<=1100 by omega) (by decide)
      have n7:l7≠p3:=fun e=>by rw [e,hf6] at nl7;cases nl7
      have nz:l7 ∉ zs.map (·.1):=fun hm=>by
       obtain⟨z,hz,e⟩:=zsg.1 hm;obtain⟨i,hi⟩:=List.mem_iff_getElem?.1 hz;have hi':i<ts.length:=by rw [hA6.1];exact (zr2.1 hi).1
       obtain⟨_,as,hla,_⟩:=hA6.2 i _ z (zr0 hi') hi;rw [e,nl7] at hla;cases hla
      have hA7:za6 (SZ (upd H7 p3 (.lst (ts.map V.ref++[V.ref q7])))) (ts++[q7]) (zs++[(l7,(r',x.2.1+w',js7))]):=by
       refine (za6.monoM hA6 fun b z hb hzm hz=>?_).app ?_
       ·exact (hz.sub S7).lst (S7 _ _ hf6) (hne z hzm)
       ·exact (show SZ H7 q7 (l7,(r',x.2.1+w',js7)) from ⟨hq7,hl7⟩).lst (S7 _ _ hf6) n7
      have S07:Sub H (upd H7 p3 (.lst (ts.map V.ref++[V.ref q7]))):=(S06.trans S7).upd nf;have nop:o≠p3:=fun e=>by rw [e,hf6] at ho6;cases ho6
      have ndp:d≠p3:=fun e=>by rw [e,hf6] at hd6;cases hd6
      refine⟨_,?_,ts++[q7],zs++[(l7,(r',x.2.1+w',js7))],sts++[(r',x.2.1+w',nxt x.2.2 x.2.1 s')],(r',x.2.1+w',nxt x.2.2 x.2.1 s'),rfl,rfl,S07,⟨⟨dx6,by rw [zao nop];exact S7 _ _ ho6⟩,by rw [zao ndp];exact S7 _ _ hd6⟩,by rw [zah,zr6];rfl,hA7,?_,?_,?_,?_,hAt.step (zhp he) (by omega),hok.nxt a0 a1 a3 a4,?_⟩
      ·rw [zr8];show most.toNat+1-(sts.length+1)<_;omega
      ·rw [zr6,List.nodup_append];exact⟨hnd,by simp,fun a ha b hb=>by rw [zr7.1 hb];rintro rfl;exact nz ha⟩
      ·intro z hz;rcases zr9.1 hz with hz | hz
       ·exact hfr z hz
       ·rw [zr7.1 hz];exact S06.free nl7
      ·intro z hz;rcases zr9.1 hz with hz | hz
       ·exact hne z hz
       ·rw [zr7.1 hz];exact n7
      ·rw [zr6];exact hT.app rfl rfl pj7 sj7
      ·rw [zr8];show (nxt x.2.2 x.2.1 s').length<=sts.length+1;omega
    ·have hst:=hAt.done (.inr (by omega));rw [hst] at hT;exact h p3 ts zs H5 S5 hf5 hA5 hnd hfr hT nf hne
  ·exact h.elim
theorem zeq:zal ["machine","most","walk","told"] ["machine","most"] (zad zcB):=by walk_at "s"
theorem zcP (T:Tx K mg a):zaC P w K mg base (CXE P w) 6 a.setups a.setups_d ["machine","most"] (zax a):=by
 have G_begun:=zcz (P:=P) (w:=w) (base:=base) T;refine T.f_setups.okE zeq (fun vs H Q E h=>?_) (fun cdv A outer s H vs Q E hr h=>?_)
 ·unfold zax at h;split at h
  ·rfl
  ·exact h.elim
 ·unfold zax at h;split at h
  ·have nd:=zeq.nd;have hu:=zaz hr;rename_i t v;refine⟨_,(zab (zaq (i:=2) nd rfl (by walk_at "o") (zaj G_begun (hr.mono (by decide)) rfl T.g_begun T.f_begun.kp T.b_begun .nil zat (zaa (qv 0) zac)))
  zaO),?_⟩
   walk_at "w";exact h
  ·exact h.elim
theorem zlP:True:=True.intro
theorem zfs (T:Tx K mg a):zaC P w K mg base (CXE P w) 6 a.setups a.setups_d ["machine","most"] (fun vs H Q E=>(zdY) vs H Q E\/(zax a) vs H Q E):=zaC.or0 (zeX T) (zcP T) (by decide) (by decide)
theorem ziE:zal ["machine","most","walk","told"] ["machine","most"] (zad zdk):=by walk_at "s"
def zl3 (H:Hp) (t:Addr) (x:St3):Prop:=H t=some (.tup [.int x.1,.int x.2.1,.int ((zcd x.2.2 x.2.1).getD 0)])
def zgz:Sp:=fun vs H Q _=>match vs with
 | [.ref t,.int most]=>∃ m:Ma,zcE H t m/\isM m=true/\0<=most/\most<=1000/\∀ (f:Addr) (ts:List Addr) (H':Hp),Sub H H'->H' f=some (.lst (ts.map V.ref))->za6 (zl3 H') ts (tr m most.toNat (0,0,[]))->H f=none->Q (.ref f) H'
 | _=>False
theorem zeD (T:Tx K mg a):zaC P w K mg base CX0 6 a.looks a.looks_d ["machine","most"] (zgz):=by
 have G_begun:=zc3 (P:=P) (w:=w) (base:=base) T;have G_Walk_look:=zen (P:=P) (w:=w) (base:=base) T;have G_Walk_step:=zbn (P:=P) (w:=w) (base:=base) T;refine T.f_looks.ok ziE (fun vs H Q E h=>?_) (fun cdv A outer s H vs Q E hr h=>?_)
 ·unfold zgz at h;split at h
  ·rfl
  ·exact h.elim
 ·unfold zgz at h;split at h
  ·have nd:=ziE.nd;have hu:=zaz hr;rename_i t most;obtain⟨m,hm,hM,hm0,hm60,h⟩:=h;have M:=OkM.of hM;refine⟨_,(zab (zaq (i:=2) nd rfl (by walk_at "o") (zaj G_begun (hr.mono (by decide)) rfl T.g_begun T.f_begun.kp T.b_begun .nil zav (zaa (qv 0) zac)))
  (zab (zaq (i:=3) nd rfl (by walk_at "o") (zaL (zaa (zaI (qv 2) T.k_Walk T.m_Walk_look G_Walk_look (hr.mono (by decide)) T.b_Walk_look .nil zav) zac)))
  (zab (zgp PassesOwn.never (PW.pt (zeZ (zbv zhN (zaw (zco (K:=K) rfl) rfl T.z_len zcn (zaa (qv 3) zac)) (qv 1)) (zeP (zlT (zaI (qv 2) T.k_Walk T.m_Walk_step G_Walk_step (hr.mono (by decide)) T.b_Walk_step .nil zav))))) (zae (zaS (zhR PySem.F.plainAttrs_list PySem.F.slot_list_append PySem.F.type_list_append zjW (qv 3) (zaa (zaI (qv 2) T.k_Walk T.m_Walk_look G_Walk_look (hr.mono (by decide)) T.b_Walk_look .nil zav) zac)))))
  (zae (zam (qv 3)))))),?_⟩
   refine⟨m,hm,hM,fun o d H1 S1 W1 no nd=>?_⟩;obtain⟨⟨dx,ho1⟩,hd1⟩:=id W1;refine⟨_,_,_,rfl,ho1,rfl,?_⟩;refine⟨t,d,0,0,[],W1,fun q H2 S2 hq nq=>?_⟩;refine⟨by show 1<=sizeLine;decide,?_⟩;intro p3 n3;generalize U':upd _ p3 _=H3;obtain ⟨S3,e3⟩:=zag n3 U';clear U';have S13:=S2.trans S3;have S03:=S1.trans S13;have nf:H p3=none:=S1.free (S2.free n3);refine⟨fun k σ H5=>∃ (ts:List Addr) (sts:List St3) (x:St3),k=most.toNat+1-sts.length/\σ=[some (.ref t),some (.int most),some (.ref o),some (.ref p3)]/\Sub H H5/\WK a.Walk H5 o t d x.1 x.2.1 x.2.2/\H5 p3=some (.lst (ts.map V.ref))/\za6 (zl3 H5) ts sts/\At m most.toNat (0,0,[]) sts x/\OkS m x.1 x.2.2/\x.2.2.length<=sts.length,⟨_,[q],[(0,0,[])],(0,0,[]),rfl,rfl,S03,W1.sub S13,e3,za6.app .nil (S3 _ _ hq),At.start,⟨by decide,by have:=M.n1;omega,by simp,by simp⟩,by simp⟩,?_⟩;rintro k σ H5 ⟨ts,sts,x,rfl,rfl,S5,W5,hf5,hA5,hAt,hok,hxl⟩;have hl5:=hAt.len;have hfl:((ts.map V.ref).length:Int)=sts.length:=by rw [zrY,hA5.1]
   obtain⟨⟨dx5,ho5⟩,hd5⟩:=id W5;refine⟨_,.inl (SqL.of hf5),?_⟩;rw [hfl];walk_at "w";refine ifB.dec (fun z=>?_) (fun z=>?_)
   ·have z:(sts.length:Int)<=most:=z;refine⟨_,_,_,rfl,ho5,rfl,?_⟩;refine⟨t,d,x.1,x.2.1,x.2.2,m,W5,hm.stay (.sub S5),M,hok,by omega,fun he H6 S6=>?_,fun s' w' r' H6 he hE W6 k6=>?_⟩
    ·have hst:=hAt.done (.inl (zhe he));rw [hst] at hA5;exact h p3 ts H6 (S5.trans S6) (S6 _ _ hf5) (hA5.mono fun _ _ _ z=>S6 _ _ z) nf
    ·obtain⟨s2,w2,r2,e2,a0,a1,a2,a3,a4⟩:=zaD hE (by simp);cases e2;have S06:Sub H H6:=fun c u e=>k6 c u (S5 _ _ e) (zan e no) (zan e nd)
     have st6:=zfP.two W5 k6;have hf6:=st6.refs _ _ hf5;have hA6:za6 (zl3 H6) ts sts:=hA5.mono fun _ _ _ z=>st6.tup _ _ z
     obtain⟨⟨dx6,ho6⟩,hd6⟩:=id W6;have hnl:=zdn x.2.2 x.2.1 s';refine⟨_,fun σ' H' z=>z,?_⟩;refine⟨.inl ⟨rfl,_,SqL.of hf6⟩,?_⟩;refine⟨_,_,_,rfl,ho6,rfl,?_⟩;refine⟨t,d,r',x.2.1+w',nxt x.2.2 x.2.1 s',W6,fun q7 H7 S7 hq7 nq7=>?_⟩;refine⟨_,S7 _ _ hf6,?_,?_⟩
     ·rw [zrY,hA6.1];exact zsc (show sts.length<=1100 by omega) (by decide)
     have hf7:=S7 _ _ hf6;have lk:∀ (b:Addr) (y:St3),zl3 H7 b y->zl3 (upd H7 p3 (.lst (ts.map V.ref++[V.ref q7]))) b y:=fun b y z=>by
      show upd H7 p3 _ b=_;rw [zao (fun e=>by rw [zl3,e,hf7] at z;cases z)];exact z
     have nop:o≠p3:=fun e=>by rw [e,hf6] at ho6;cases ho6
     have ndp:d≠p3:=fun e=>by rw [e,hf6] at hd6;cases hd6
     refine⟨_,?_,ts++[q7],sts++[(r',x.2.1+w',nxt x.2.2 x.2.1 s')],(r',x.2.1+w',nxt x.2.2 x.2.1 s'),rfl,rfl,(S06.trans S7).upd nf,⟨⟨dx6,by rw [zao nop];exact S7 _ _ ho6⟩,by rw [zao ndp];exact S7 _ _ hd6⟩,by rw [zah,zr6];rfl,(hA6.mono fun b y _ z=>lk b y (S7 _ _ z)).app (lk _ _ hq7),hAt.step (zhp he) (by omega),hok.nxt a0 a1 a3 a4,?_⟩
     ·rw [zr8];show most.toNat+1-(sts.length+1)<_;omega
     ·rw [zr8];show (nxt x.2.2 x.2.1 s').length<=sts.length+1;omega
   ·have hst:=hAt.done (.inr (by omega));rw [hst] at hA5;exact h p3 ts H5 S5 hf5 hA5 nf
  ·exact h.elim
theorem ze1:zal ["machine","most","walk","told"] ["machine","most"] (zad zdk):=by walk_at "s"
theorem zcs (T:Tx K mg a):zaC P w K mg base (CXE P w) 6 a.looks a.looks_d ["machine","most"] (zax a):=by
 have G_begun:=zcz (P:=P) (w:=w) (base:=base) T;refine T.f_looks.okE ze1 (fun vs H Q E h=>?_) (fun cdv A outer s H vs Q E hr h=>?_)
 ·unfold zax at h;split at h
  ·rfl
  ·exact h.elim
 ·unfold zax at h;split at h
  ·have nd:=ze1.nd;have hu:=zaz hr;rename_i t v;refine⟨_,(zab (zaq (i:=2) nd rfl (by walk_at "o") (zaj G_begun (hr.mono (by decide)) rfl T.g_begun T.f_begun.kp T.b_begun .nil zat (zaa (qv 0) zac)))
  zaO),?_⟩
   walk_at "w";exact h
  ·exact h.elim
theorem zfM:zal ["machine","most","places"] ["machine","most"] (zad zb7):=by walk_at "s"
def zc4:Sp:=fun vs H Q _=>match vs with
 | [.ref t,.int most]=>∃ m:Ma,zcE H t m/\isM m=true/\0<=most/\most<=1000/\∀ (q:Addr) (lo hi:Int) (H':Hp),Sub H H'->H' q=some (.tup [.int lo,.int hi])->IsLo lo ((tr m most.toNat (0,0,[])).map fun x=>x.2.1)->IsHi hi ((tr m most.toNat (0,0,[])).map fun x=>x.2.1)->Q (.ref q) H'
 | _=>False
theorem zjY (T:Tx K mg a):zaC P w K mg base CX0 7 a.touched a.touched_d ["machine","most"] (zc4):=by
 have G_looks:=zeD (P:=P) (w:=w) (base:=base) T;refine T.f_touched.ok zfM (fun vs H Q E h=>?_) (fun cdv A outer s H vs Q E hr h=>?_)
 ·unfold zc4 at h;split at h
  ·rfl
  ·exact h.elim
 ·unfold zc4 at h;split at h
  ·have nd:=zfM.nd;have hu:=zaz hr;rename_i t most;obtain⟨m,hm,hM,hm0,hm60,h⟩:=h;refine⟨_,(zab (zkv (j:=2) rfl nd rfl (by walk_at "o") (own:=["row","place","sign"]) (fr:=[]) (by walk_at "comp_ok") (zaJ (K:=K) rfl (zaj G_looks (hr.mono (by decide)) rfl T.g_looks T.f_looks.kp T.b_looks .nil zav (zaa (qv 0) (zaa (qv 1) zac)))) (fun _ _ _ _=>(zaG (K:=K) (n:=3) rfl rfl (zak (zai (i:=0) (show List.Nodup (α:=Str) ["row","place","sign"] from by decide +kernel) rfl (by walk_at "o")) (zak (zai (i:=1) (show List.Nodup (α:=Str) ["row","place","sign"] from by decide +kernel) rfl (by walk_at "o")) (zak (zai (i:=2) (show List.Nodup (α:=Str) ["row","place","sign"] from by decide +kernel) rfl (by walk_at "o")) zaH))))) (fun _ _ _ _=>zbP) (fun _ _ _ _=>(qv 1)))
  (zae (zam (zau (zaa (zaw (zov (K:=K) rfl rfl) rfl T.z_min zg8 (zaa (qv 2) zac)) (zaa (zaw (zoU (K:=K) rfl rfl) rfl T.z_max zjc (zaa (qv 2) zac)) zac)))))),?_⟩
   refine⟨m,hm,hM,hm0,hm60,fun f ts H1 S1 hf hA nf=>?_⟩;have hXl:=zfj m most.toNat (0,0,[]);have hXn:=zrJ m most.toNat (0,0,[]);generalize tr m most.toNat (0,0,[])=X at hXl hXn hA h;refine⟨⟨_,SqL.of hf⟩,?_⟩;intro pc npc;refine za3 (K:=K) (a:=f) (xs:=ts.map V.ref) (fun i σ H5=>∃ v1 v2 v3,σ=[v1,v2,v3]/\Sub H1 H5/\H5 pc=some (.lst (((X.take i).map fun x=>x.2.1).map V.int))) ?_ ?_ ?_ ?_
   ·exact⟨none,none,none,rfl,Sub.new npc,zah⟩
   ·rintro i σ H5 _ ⟨v1,v2,v3,rfl,S5,_⟩;exact SqL.of (S5 _ _ hf)
   ·rintro i w σ H5 hi ⟨v1,v2,v3,rfl,S5,g5⟩;rw [zrZ] at hi;obtain⟨b,hb,rfl⟩:=zr1.1 hi;obtain⟨x,hx,hbx⟩:=hA.at hb;have hil:i<1100:=by have:=(zr2.1 hx).1;omega
    refine⟨_,SqT.of (S5 _ _ hbx),rfl,?_⟩;refine⟨_,g5,?_,_,_,_,rfl,S5.upd npc,?_⟩
    ·rw [zrY,zrY];exact zsc (List.length_take_le _ _) (Nat.lt_trans hil (by decide))
    ·rw [zah,zsk,hx,zr6,zr6];rfl
   ·rintro σ H5 ⟨v1,v2,v3,rfl,S5,g5⟩;rw [zrY,hA.1,zsj] at g5;have hne:X.map (fun x=>x.2.1)≠[]:=fun e=>hXn (List.map_eq_nil_iff.1 e)
    refine⟨_,SqL.of g5,hne,fun lo l1 l2=>?_⟩;refine⟨_,SqL.of g5,hne,fun hi h1 h2=>?_⟩;refine⟨by show 2<=sizeLine;decide,?_⟩;intro p6 n6;generalize U':upd _ p6 _=H6;obtain ⟨S6,e6⟩:=zag n6 U';clear U';exact h p6 lo hi H6 ((S1.trans S5).trans S6) e6 ⟨l1,l2⟩ ⟨h1,h2⟩
  ·exact h.elim
theorem zdZ:zal ["machine","most","places"] ["machine","most"] (zad zb7):=by walk_at "s"
theorem zgc (T:Tx K mg a):zaC P w K mg base (CXE P w) 7 a.touched a.touched_d ["machine","most"] (zax a):=by
 have G_looks:=zcs (P:=P) (w:=w) (base:=base) T;refine T.f_touched.okE zdZ (fun vs H Q E h=>?_) (fun cdv A outer s H vs Q E hr h=>?_)
 ·unfold zax at h;split at h
  ·rfl
  ·exact h.elim
 ·unfold zax at h;split at h
  ·have nd:=zdZ.nd;have hu:=zaz hr;rename_i t v;refine⟨_,(zab (zkv (j:=2) rfl nd rfl (by walk_at "o") (own:=["row","place","sign"]) (fr:=[]) (by walk_at "comp_ok") (zaJ (K:=K) rfl (zaj G_looks (hr.mono (by decide)) rfl T.g_looks T.f_looks.kp T.b_looks .nil zat (zaa (qv 0) (zaa (qv 1) zac)))) (fun _ _ _ _=>(zaG (K:=K) (n:=3) rfl rfl (zak (zai (i:=0) (show List.Nodup (α:=Str) ["row","place","sign"] from by decide +kernel) rfl (by walk_at "o")) (zak (zai (i:=1) (show List.Nodup (α:=Str) ["row","place","sign"] from by decide +kernel) rfl (by walk_at "o")) (zak (zai (i:=2) (show List.Nodup (α:=Str) ["row","place","sign"] from by decide +kernel) rfl (by walk_at "o")) zaH))))) (fun _ _ _ _=>zbP) (fun _ _ _ _=>(qv 1)))
  zaO),?_⟩
   walk_at "w";exact h
  ·exact h.elim
theorem zlg:True:=True.intro
theorem zfd (T:Tx K mg a):zaC P w K mg base (CXE P w) 7 a.touched a.touched_d ["machine","most"] (fun vs H Q E=>(zc4) vs H Q E\/(zax a) vs H Q E):=zaC.or0 (zjY T) (zgc T) (by decide) (by decide)
theorem zev:zal ["setup","row","place","strip"] ["setup"] (zad zbD):=by walk_at "s"
def zgT (q:Int × Int):NK:=.tup [.int q.1,.int q.2]
def zmX (x:St3):NK:=.tup [.int x.1,.int x.2.1,.tup (x.2.2.map zgT)]
theorem zqM {x y:St3} (h:zmX x=zmX y):x=y:=by
 unfold zmX at h;injection h with h
 injection h with h1 h
 injection h with h2 h
 injection h with h3 _
 injection h1 with h1
 injection h2 with h2
 injection h3 with h3
 have:∀ (A B:Mk2),A.map zgT=B.map zgT->A=B:=by
  intro A
  induction A with
  | nil=>intro B hB;cases B with
   | nil=>rfl
   | cons b B=>cases hB
  | cons a A ih=>intro B hB;cases B with
   | nil=>cases hB
   | cons b B =>
    rw [zsq,zsq] at hB;injection hB with e1 e2
    rw [ih B e2];unfold zgT at e1;injection e1 with e1
    injection e1 with f1 e1
    injection e1 with f2 _
    injection f1 with f1
    injection f2 with f2
    rw [Prod.ext f1 f2]
 exact Prod.ext h1 (Prod.ext h2 (this _ _ h3))
theorem zjb:∀ A:Mk2,NK.depL (A.map zgT)<=1
 | []=>by rw [zsr,NK.depL];omega
 | q::A=>by
  rw [zsq,NK.depL]
  have:=zjb A
  have h2:(zgT q).dep=1:=by
   unfold zgT;simp [NK.dep,NK.depL]
  omega
theorem zjq (x:St3):(zmX x).dep<=7:=by
 have:=zjb x.2.2
 unfold zmX;simp only [NK.dep,NK.depL];omega
theorem ziI {H:Hp}:∀ {as:List Addr} {A:Mk2},za6 (fun b q=>H b=some (tI q)) as (iv A)->zaP H (A.map zgT) (as.map V.ref)
 | [],[],_=>by rw [zsr,zsr,zaP]
 | [],q::A,h=>by have:=h.1;simp at this
 | a::as,[],h=>by have:=h.1;simp at this
 | a::as,q::A,h=>by
  rw [zsq,zsq,zaP];refine⟨_,_,rfl,?_,ziI (as:=as) (A:=A) ⟨by have:=h.1;simpa using this,fun i b x hb hx=>h.2 (i+1) b x hb hx⟩⟩;have h0:=h.2 0 a (q.1,V.int q.2) rfl rfl;unfold zgT;rw [zbU];refine⟨a,_,rfl,h0,?_⟩;rw [zaP];refine⟨_,_,rfl,by rw [zbU],?_⟩;rw [zaP];exact⟨_,_,rfl,by rw [zbU],by rw [zaP]⟩
def zcR:Sp:=fun vs H Q _=>match vs with
 | [.ref q]=>∃ z:Addr × St3,SZ H q z/\∀ (p:Addr) (H':Hp),Sub H H'->zbU H' (zmX z.2) (.ref p)->Q (.ref p) H'
 | _=>False
theorem zhm (T:Tx K mg a):zaC P w K mg base CX0 1 a.setup_key a.setup_key_d ["setup"] (zcR):=by
 refine T.f_setup_key.ok zev (fun vs H Q E h=>?_) (fun cdv A outer s H vs Q E hr h=>?_)
 ·unfold zcR at h;split at h
  ·rfl
  ·exact h.elim
 ·unfold zcR at h;split at h
  ·have nd:=zev.nd;have hu:=zaz hr;rename_i q;obtain⟨z,⟨hq,as,hl,hA⟩,h⟩:=h;refine⟨_,(zab (zck (qv 0) (zaG (K:=K) (n:=3) rfl rfl (zak (zai (i:=1) nd rfl (by walk_at "o")) (zak (zai (i:=2) nd rfl (by walk_at "o")) (zak (zai (i:=3) nd rfl (by walk_at "o")) zaH)))))
  (zae (zam (zau (zaa (qv 1) (zaa (qv 2) (zaa (zb5 (zkm (K:=K) rfl) rfl T.z_tuple ziQ (zaa (qv 3) zac)) zac))))))),?_⟩
   refine⟨_,SqT.of hq,rfl,?_⟩;refine⟨_,SqL.of hl,?_⟩;intro p1 n1;generalize U':upd _ p1 _=H1;obtain ⟨S1,e1⟩:=zag n1 U';clear U';refine⟨by show 3<=sizeLine;decide,?_⟩;intro p2 n2;generalize U':upd _ p2 _=H2;obtain ⟨S2,e2⟩:=zag n2 U';clear U';refine h p2 H2 (S1.trans S2) ?_;unfold zmX;rw [zbU];refine⟨p2,_,rfl,e2,?_⟩;rw [zaP];refine⟨_,_,rfl,by rw [zbU],?_⟩;rw [zaP];refine⟨_,_,rfl,by rw [zbU],?_⟩;rw [zaP];refine⟨_,_,rfl,?_,by rw [zaP]⟩;rw [zbU];exact⟨p1,_,rfl,S2 _ _ e1,ziI (hA.mono fun _ _ _ z=>S2 _ _ (S1 _ _ z))⟩
  ·exact h.elim
theorem zkt:zal ["machine","most","moments","late","setup","key"] ["machine","most"] (zad zeU):=by walk_at "s"
def za2:Sp:=fun vs H Q _=>match vs with
 | [.ref t,.int most]=>∃ m:Ma,zcE H t m/\isM m=true/\0<=most/\most<=1000/\∀ v H',Sub H H'->Q v H'
 | _=>False
theorem zob (T:Tx K mg a):zaC P w K mg base CX0 7 a.ring a.ring_d ["machine","most"] (za2):=by
 have G_setups:=zeX (P:=P) (w:=w) (base:=base) T;have G_setup_key:=zhm (P:=P) (w:=w) (base:=base) T;refine T.f_ring.ok zkt (fun vs H Q E h=>?_) (fun cdv A outer s H vs Q E hr h=>?_)
 ·unfold za2 at h;split at h
  ·rfl
  ·exact h.elim
 ·unfold za2 at h;split at h
  ·have nd:=zkt.nd;have hu:=zaz hr;rename_i t most;obtain⟨m,hm,hM,hm0,hm60,h⟩:=h;refine⟨_,(zab (zaq (i:=2) nd rfl (by walk_at "o") zdF)
  (zab (zby PassesOwn.never rfl (zd6 rfl T.z_enumerate (zaa (zaj G_setups (hr.mono (by decide)) rfl T.g_setups T.f_setups.kp T.b_setups .nil zav (zaa (qv 0) (zaa (qv 1) zac))) zac)) (zaG (K:=K) (n:=2) rfl rfl (zak (zai (i:=3) nd rfl (by walk_at "o")) (zak (zai (i:=4) nd rfl (by walk_at "o")) zaH))) (zab (zaq (i:=5) nd rfl (by walk_at "o") (zaj G_setup_key (hr.mono (by decide)) rfl T.g_setup_key T.f_setup_key.kp T.b_setup_key .nil zav (zaa (qv 4) zac)))
    (zab (zbA (zbv (zp5 hr) (qv 5) (qv 2)) (zae (zam (zau (zaa zbz (zaa (zm5 hr (qv 2) (qv 5) (fun _ _=>rfl)) (zaa (qv 3) zac)))))) zas)
    (zae (zmP hr (qv 2) (qv 5) (qv 3) rfl)))))
  (zae (zam zbg)))),?_⟩
   walk_at "w";intro d H1 nd1 hH1 D1;have S1:Sub H H1:=by rw [hH1];exact Sub.new nd1
   clear hH1;refine⟨m,hm.stay (.sub S1),hM,hm0,hm60,fun f ts zs H2 S2 hf hA hnd hfr hT nf hne=>?_⟩;have hXl:=zfj m most.toNat (0,0,[]);have hzl:zs.length=(tr m most.toNat (0,0,[])).length:=by have:=hT.1;rw [zrY] at this;exact this
   have D2:=D1.sub S2;obtain⟨xs2,hd2,_⟩:=D2.ex;have nfd:f≠d:=by rintro rfl;rw [hf] at hd2;cases hd2
   refine⟨⟨_,SqL.of hf⟩,?_⟩;refine ziJ (K:=K) (a:=f) (xs:=ts.map V.ref) (fun i σ H5=>∃ (v3 v4 v5:Option V) (kvs:List (NK × Addr × V)),σ=[some (.ref t),some (.int most),some (.ref d),v3,v4,v5]/\(∀ c u,H2 c=some u->c≠d->H5 c=some u)/\DNx H5 d kvs/\kvs.length<=i) ?_ ?_ ?_ ?_
   ·exact⟨none,none,none,[],rfl,fun c u e _=>e,D2,zse _⟩
   ·rintro i σ H5 _ ⟨v3,v4,v5,kvs,rfl,k5,_⟩;exact SqL.of (k5 _ _ hf nfd)
   ·rintro i x σ H5 p hi ⟨v3,v4,v5,kvs,rfl,k5,D5,kl⟩ np;rw [zrZ] at hi;obtain⟨c,hc,rfl⟩:=zr1.1 hi;obtain⟨z,hz,hSZ⟩:=hA.at hc;have hil:i<zs.length:=(zr2.1 hz).1;generalize U':upd H5 p _=H6;obtain⟨S6,e6⟩:=zag np U';clear U';have SZ6:SZ H6 c z:=by
     obtain⟨q1,as,q2,q3⟩:=hSZ;have kd:∀ c u,H2 c=some u->c≠d->H6 c=some u:=fun c u e ne=>S6 _ _ (k5 c u e ne)
     exact⟨kd _ _ q1 (by rintro rfl;rw [hd2] at q1;cases q1),as,kd _ _ q2 (by intro e;rw [e,hd2] at q2;cases q2),q3.mono fun b _ _ e=>kd _ _ e (by rintro rfl;rw [hd2] at e;cases e)⟩
    refine⟨_,SqT.of e6,rfl,?_⟩;refine⟨z,SZ6,fun pk H7 S7 hk=>?_⟩;have D7:=(D5.sub S6).sub S7;have k7:∀ c u,H2 c=some u->c≠d->H7 c=some u:=fun c u e ne=>S7 _ _ (S6 _ _ (k5 c u e ne))
    have U7:∀ c u,H c=some u->H7 c=some u:=fun c u e=>k7 _ _ (S2 _ _ (S1 _ _ e)) (by rintro rfl;rw [nd1] at e;cases e)
    refine⟨pk,d,zmX z.2,kvs,rfl,rfl,zjq _,hk,D7,?_⟩;walk_at "w";refine ifB.dec (fun hin=>?_) (fun hin=>?_)
    ·obtain⟨q,hq,hqk⟩:=zsg.1 hin;refine⟨d,pk,kvs,q,rfl,rfl,D7,hq,by rw [hqk];exact hk,?_⟩;refine⟨by show 3<=sizeLine;decide,?_⟩;intro p8 n8;generalize U':upd _ p8 _=H8;obtain ⟨S8,e8⟩:=zag n8 U';clear U';exact h _ H8 fun c u e=>S8 _ _ (U7 c u e)
    ·walk_at "w";refine⟨d,pk,zmX z.2,kvs,rfl,rfl,zjq _,hk,D7,hin,zsc (show kvs.length<=1001 by omega) (by decide),fun H8 k8 _ D8=>?_⟩;exact⟨_,_,_,_,rfl,fun c u e ne=>k8 _ _ (k7 c u e ne) ne,D8,by rw [zr8];exact Nat.succ_le_succ kl⟩
   ·rintro σ H5 ⟨v3,v4,v5,kvs,rfl,k5,_⟩;exact h _ H5 fun c u e=>k5 _ _ (S2 _ _ (S1 _ _ e)) (by rintro rfl;rw [nd1] at e;cases e)
  ·exact h.elim
theorem zfH:zal ["machine","most","moments","late","setup","key"] ["machine","most"] (zad zeU):=by walk_at "s"
theorem zj0 (T:Tx K mg a):zaC P w K mg base (CXE P w) 7 a.ring a.ring_d ["machine","most"] (zax a):=by
 have G_setups:=zcP (P:=P) (w:=w) (base:=base) T;refine T.f_ring.okE zfH (fun vs H Q E h=>?_) (fun cdv A outer s H vs Q E hr h=>?_)
 ·unfold zax at h;split at h
  ·rfl
  ·exact h.elim
 ·unfold zax at h;split at h
  ·have nd:=zfH.nd;have hu:=zaz hr;rename_i t v;refine⟨_,(zab (zaq (i:=2) nd rfl (by walk_at "o") zdF)
  (zab (zg0 (zd6 rfl T.z_enumerate (zaa (zaj G_setups (hr.mono (by decide)) rfl T.g_setups T.f_setups.kp T.b_setups .nil zat (zaa (qv 0) (zaa (qv 1) zac))) zac)))
  zaO)),?_⟩
   walk_at "w";intro d H1 nd1 hH1 D1;have S1:Sub H H1:=by rw [hH1];exact Sub.new nd1
   clear hH1;walk_at "w";exact h.sub S1
  ·exact h.elim
theorem znG:True:=True.intro
theorem zho (T:Tx K mg a):zaC P w K mg base (CXE P w) 7 a.ring a.ring_d ["machine","most"] (fun vs H Q E=>(za2) vs H Q E\/(zax a) vs H Q E):=zaC.or0 (zob T) (zj0 T) (by decide) (by decide)
theorem zcM:zal ["early","late","low","high","row","place","strip","late_row","late_place","late_strip","way","led"] ["early","late","low","high"] (zad za8):=by walk_at "s"
def zf8:Sp:=fun vs H Q _=>match vs with
 | [.ref q1,.ref q2,.int lo,.int hi]=>∃ z1 z2:Addr × St3,SZ H q1 z1/\SZ H q2 z2/\(z1.2.2.2.length<=2000/\z2.2.2.2.length<=2000)/\∀ b H',Sub H H'->Q (.bl b) H'
 | _=>False
theorem ze9 (T:Tx K mg a):zaC P w K mg base CX0 1 a.is_led_along a.is_led_along_d ["early","late","low","high"] (zf8):=by
 refine T.f_is_led_along.ok zcM (fun vs H Q E h=>?_) (fun cdv A outer s H vs Q E hr h=>?_)
 ·unfold zf8 at h;split at h
  ·rfl
  ·exact h.elim
 ·unfold zf8 at h;split at h
  ·have nd:=zcM.nd;have hu:=zaz hr;rename_i q1 q2 lo hi;obtain⟨z1,z2,⟨hq1,as1,hl1,hA1⟩,⟨hq2,as2,hl2,hA2⟩,⟨b1,b2⟩,h⟩:=h;have la1:=hA1.1;have la2:=hA2.1;rw [zrY] at la1 la2;refine⟨_,(zab (zck (qv 0) (zaG (K:=K) (n:=3) rfl rfl (zak (zai (i:=4) nd rfl (by walk_at "o")) (zak (zai (i:=5) nd rfl (by walk_at "o")) (zak (zai (i:=6) nd rfl (by walk_at "o")) zaH)))))
  (zab (zck (qv 1) (zaG (K:=K) (n:=3) rfl rfl (zak (zai (i:=7) nd rfl (by walk_at "o")) (zak (zai (i:=8) nd rfl (by walk_at "o")) (zak (zai (i:=9) nd rfl (by walk_at "o")) zaH)))))
  (zab (zaq (i:=10) nd rfl (by walk_at "o") (zaZ zjV (qv 8) (qv 5)))
  (zab (zbA (PW.pt (znq (zbv zqS (qv 4) (qv 7)) (znK (zbv zdl (qv 10) zaf)))) (zae (zam zcG)) zas)
  (zab (zbA (zbv zrP (qv 10) zaf) (zab (zkv (j:=11) rfl nd rfl (by walk_at "o") (own:=["where","sign"]) (fr:=[10,2]) (by walk_at "comp_ok") (zaJ (K:=K) rfl (qv 6)) (fun _ _ _ _=>(zaG (K:=K) (n:=2) rfl rfl (zak (zai (i:=0) (show List.Nodup (α:=Str) ["where","sign","way","low"] from by decide +kernel) rfl (by walk_at "o")) (zak (zai (i:=1) (show List.Nodup (α:=Str) ["where","sign","way","low"] from by decide +kernel) rfl (by walk_at "o")) zaH)))) (fun _ _ _ _=>(zeM (zbv zrS (qv 0) (qv 3)))) (fun _ _ _ _=>(zau (zaa (zaZ zc6 (qv 0) (qv 2)) (zaa (qv 1) zac)))))
    (zae (zam (zcx (zdT hr) (qv 11) (zgd (own:=["where","sign"]) (fr:=[2,10]) rfl (by walk_at "comp_ok") (zaJ (K:=K) rfl (qv 9)) (fun _ _ _ _=>(zaG (K:=K) (n:=2) rfl rfl (zak (zai (i:=0) (show List.Nodup (α:=Str) ["where","sign","low","way"] from by decide +kernel) rfl (by walk_at "o")) (zak (zai (i:=1) (show List.Nodup (α:=Str) ["where","sign","low","way"] from by decide +kernel) rfl (by walk_at "o")) zaH)))) (fun _ _ _ _=>(zeM (zbv zrS (qv 0) (zaZ zc6 (qv 2) (qv 3))))) (fun _ _ _ _=>(zau (zaa (qv 0) (zaa (qv 1) zac))))) (by first | exact zda _ | rfl))))) zas)
  (zab (zkv (j:=11) rfl nd rfl (by walk_at "o") (own:=["where","sign"]) (fr:=[10,3]) (by walk_at "comp_ok") (zaJ (K:=K) rfl (qv 6)) (fun _ _ _ _=>(zaG (K:=K) (n:=2) rfl rfl (zak (zai (i:=0) (show List.Nodup (α:=Str) ["where","sign","way","high"] from by decide +kernel) rfl (by walk_at "o")) (zak (zai (i:=1) (show List.Nodup (α:=Str) ["where","sign","way","high"] from by decide +kernel) rfl (by walk_at "o")) zaH)))) (fun _ _ _ _=>(zeM (zbv zhN (qv 0) (qv 3)))) (fun _ _ _ _=>(zau (zaa (zaZ zc6 (qv 0) (qv 2)) (zaa (qv 1) zac)))))
  (zae (zam (zcx (zdT hr) (qv 11) (zgd (own:=["where","sign"]) (fr:=[3,10]) rfl (by walk_at "comp_ok") (zaJ (K:=K) rfl (qv 9)) (fun _ _ _ _=>(zaG (K:=K) (n:=2) rfl rfl (zak (zai (i:=0) (show List.Nodup (α:=Str) ["where","sign","high","way"] from by decide +kernel) rfl (by walk_at "o")) (zak (zai (i:=1) (show List.Nodup (α:=Str) ["where","sign","high","way"] from by decide +kernel) rfl (by walk_at "o")) zaH)))) (fun _ _ _ _=>(zeM (zbv zhN (qv 0) (zaZ zc6 (qv 2) (qv 3))))) (fun _ _ _ _=>(zau (zaa (qv 0) (zaa (qv 1) zac))))) (by first | exact zda _ | rfl)))))))))),?_⟩
   refine⟨_,SqT.of hq1,rfl,?_⟩;refine⟨_,SqT.of hq2,rfl,?_⟩;walk_at "w";refine ifB.mk (fun z=>?_) (fun z=>?_)
   ·walk_at "w";refine ifB.yes rfl ?_;exact h _ H Sub.refl
   walk_at "w";refine ifB.mk (fun z=>?_) (fun z=>?_)
   ·exact h _ H Sub.refl
   walk_at "w";refine ifB.dec (fun zp=>?_) (fun zp=>?_)
   ·skip
    refine⟨⟨_,SqL.of hl1⟩,?_⟩;intro pc1 npc1;refine za3 (K:=K) (a:=z1.1) (xs:=as1.map V.ref) (fun i σ H5=>∃ (v1 v2:Option V) (as':List Addr) (es:List En),σ=[v1,v2,some (.int (z2.2.2.1-z1.2.2.1)),some (.int lo)]/\Sub H H5/\zgk H5 pc1 as' es/\es.length<=i) ?_ ?_ ?_ ?_
    ·exact⟨none,none,[],[],rfl,Sub.new npc1,⟨zah,.nil⟩,zse _⟩
    ·rintro i σ H5 _ ⟨v1,v2,as',es,rfl,S5,_⟩;exact SqL.of (S5 _ _ hl1)
    ·rintro i x σ H5 hix ⟨v1,v2,as',es,rfl,S5,R5,l5⟩;have hil:i<as1.length:=by have:=(zr2.1 hix).1;rwa [zrY] at this
     rw [zrZ] at hix;obtain⟨b,hb,rfl⟩:=zr1.1 hix;obtain⟨y,hy,hby⟩:=hA1.at hb;rw [zrZ] at hy;obtain⟨q,hq,rfl⟩:=zr1.1 hy;have hby:=S5 _ _ hby;refine⟨_,SqT.of hby,rfl,?_⟩;walk_at "w";by_cases zc:lo<=q.1
     ·refine zgL (c:=lo<=q.1) zc ?_;refine⟨by show 2<=sizeLine;decide,?_⟩;intro p6 n6;generalize U':upd _ p6 _=H6;obtain ⟨S6,e6⟩:=zag n6 U';clear U';have R6:=R5.stay (.sub S6);exact⟨_,R6.1,by rw [zrY,R6.2.1];exact zsc (show es.length<=2000 by omega) (by decide),_,_,as'++[p6],es++[[q.1+(z2.2.2.1-z1.2.2.1),q.2]],rfl,(S5.trans S6).upd npc1,R6.app' e6,by rw [zr8];exact Nat.succ_le_succ l5⟩
     ·refine zgo (c:=lo<=q.1) zc ?_;exact⟨_,_,as',es,rfl,S5,R5,by omega⟩
    rintro σ HK1 ⟨v1,v2,as1',es1,rfl,SK1,RK1,_⟩;have hl2':=SK1 _ _ hl2;have hA2':za6 (fun b q=>HK1 b=some (tI q)) as2 (iv z2.2.2.2):=hA2.mono fun _ _ _ z=>SK1 _ _ z
    refine⟨⟨_,SqL.of hl2'⟩,?_⟩;intro pc2 npc2;refine za3 (K:=K) (a:=z2.1) (xs:=as2.map V.ref) (fun i σ H5=>∃ (v1 v2:Option V) (as':List Addr) (es:List En),σ=[v1,v2,some (.int lo),some (.int (z2.2.2.1-z1.2.2.1))]/\Sub HK1 H5/\zgk H5 pc2 as' es/\es.length<=i) ?_ ?_ ?_ ?_
    ·exact⟨none,none,[],[],rfl,Sub.new npc2,⟨zah,.nil⟩,zse _⟩
    ·rintro i σ H5 _ ⟨v1,v2,as',es,rfl,S5,_⟩;exact SqL.of (S5 _ _ hl2')
    ·rintro i x σ H5 hix ⟨v1,v2,as',es,rfl,S5,R5,l5⟩;have hil:i<as2.length:=by have:=(zr2.1 hix).1;rwa [zrY] at this
     rw [zrZ] at hix;obtain⟨b,hb,rfl⟩:=zr1.1 hix;obtain⟨y,hy,hby⟩:=hA2'.at hb;rw [zrZ] at hy;obtain⟨q,hq,rfl⟩:=zr1.1 hy;have hby:=S5 _ _ hby;refine⟨_,SqT.of hby,rfl,?_⟩;walk_at "w";by_cases zc:lo+(z2.2.2.1-z1.2.2.1)<=q.1
     ·refine zgL (c:=lo+(z2.2.2.1-z1.2.2.1)<=q.1) zc ?_;refine⟨by show 2<=sizeLine;decide,?_⟩;intro p6 n6;generalize U':upd _ p6 _=H6;obtain ⟨S6,e6⟩:=zag n6 U';clear U';have R6:=R5.stay (.sub S6);exact⟨_,R6.1,by rw [zrY,R6.2.1];exact zsc (show es.length<=2000 by omega) (by decide),_,_,as'++[p6],es++[[q.1,q.2]],rfl,(S5.trans S6).upd npc2,R6.app' e6,by rw [zr8];exact Nat.succ_le_succ l5⟩
     ·refine zgo (c:=lo+(z2.2.2.1-z1.2.2.1)<=q.1) zc ?_;exact⟨_,_,as',es,rfl,S5,R5,by omega⟩
    rintro σ HK2 ⟨v1,v2,as2',es2,rfl,SK2,RK2,_⟩;refine⟨_,_,Row.den ⟨_,RK1.stay (.sub SK2)⟩,Row.den ⟨_,RK2⟩,zsd znB (by decide),?_⟩;exact h _ HK2 (SK1.trans SK2)
   ·skip
    refine⟨⟨_,SqL.of hl1⟩,?_⟩;intro pc1 npc1;refine za3 (K:=K) (a:=z1.1) (xs:=as1.map V.ref) (fun i σ H5=>∃ (v1 v2:Option V) (as':List Addr) (es:List En),σ=[v1,v2,some (.int (z2.2.2.1-z1.2.2.1)),some (.int hi)]/\Sub H H5/\zgk H5 pc1 as' es/\es.length<=i) ?_ ?_ ?_ ?_
    ·exact⟨none,none,[],[],rfl,Sub.new npc1,⟨zah,.nil⟩,zse _⟩
    ·rintro i σ H5 _ ⟨v1,v2,as',es,rfl,S5,_⟩;exact SqL.of (S5 _ _ hl1)
    ·rintro i x σ H5 hix ⟨v1,v2,as',es,rfl,S5,R5,l5⟩;have hil:i<as1.length:=by have:=(zr2.1 hix).1;rwa [zrY] at this
     rw [zrZ] at hix;obtain⟨b,hb,rfl⟩:=zr1.1 hix;obtain⟨y,hy,hby⟩:=hA1.at hb;rw [zrZ] at hy;obtain⟨q,hq,rfl⟩:=zr1.1 hy;have hby:=S5 _ _ hby;refine⟨_,SqT.of hby,rfl,?_⟩;walk_at "w";by_cases zc:q.1<=hi
     ·refine zgL (c:=q.1<=hi) zc ?_;refine⟨by show 2<=sizeLine;decide,?_⟩;intro p6 n6;generalize U':upd _ p6 _=H6;obtain ⟨S6,e6⟩:=zag n6 U';clear U';have R6:=R5.stay (.sub S6);exact⟨_,R6.1,by rw [zrY,R6.2.1];exact zsc (show es.length<=2000 by omega) (by decide),_,_,as'++[p6],es++[[q.1+(z2.2.2.1-z1.2.2.1),q.2]],rfl,(S5.trans S6).upd npc1,R6.app' e6,by rw [zr8];exact Nat.succ_le_succ l5⟩
     ·refine zgo (c:=q.1<=hi) zc ?_;exact⟨_,_,as',es,rfl,S5,R5,by omega⟩
    rintro σ HK1 ⟨v1,v2,as1',es1,rfl,SK1,RK1,_⟩;have hl2':=SK1 _ _ hl2;have hA2':za6 (fun b q=>HK1 b=some (tI q)) as2 (iv z2.2.2.2):=hA2.mono fun _ _ _ z=>SK1 _ _ z
    refine⟨⟨_,SqL.of hl2'⟩,?_⟩;intro pc2 npc2;refine za3 (K:=K) (a:=z2.1) (xs:=as2.map V.ref) (fun i σ H5=>∃ (v1 v2:Option V) (as':List Addr) (es:List En),σ=[v1,v2,some (.int hi),some (.int (z2.2.2.1-z1.2.2.1))]/\Sub HK1 H5/\zgk H5 pc2 as' es/\es.length<=i) ?_ ?_ ?_ ?_
    ·exact⟨none,none,[],[],rfl,Sub.new npc2,⟨zah,.nil⟩,zse _⟩
    ·rintro i σ H5 _ ⟨v1,v2,as',es,rfl,S5,_⟩;exact SqL.of (S5 _ _ hl2')
    ·rintro i x σ H5 hix ⟨v1,v2,as',es,rfl,S5,R5,l5⟩;have hil:i<as2.length:=by have:=(zr2.1 hix).1;rwa [zrY] at this
     rw [zrZ] at hix;obtain⟨b,hb,rfl⟩:=zr1.1 hix;obtain⟨y,hy,hby⟩:=hA2'.at hb;rw [zrZ] at hy;obtain⟨q,hq,rfl⟩:=zr1.1 hy;have hby:=S5 _ _ hby;refine⟨_,SqT.of hby,rfl,?_⟩;walk_at "w";by_cases zc:q.1<=hi+(z2.2.2.1-z1.2.2.1)
     ·refine zgL (c:=q.1<=hi+(z2.2.2.1-z1.2.2.1)) zc ?_;refine⟨by show 2<=sizeLine;decide,?_⟩;intro p6 n6;generalize U':upd _ p6 _=H6;obtain ⟨S6,e6⟩:=zag n6 U';clear U';have R6:=R5.stay (.sub S6);exact⟨_,R6.1,by rw [zrY,R6.2.1];exact zsc (show es.length<=2000 by omega) (by decide),_,_,as'++[p6],es++[[q.1,q.2]],rfl,(S5.trans S6).upd npc2,R6.app' e6,by rw [zr8];exact Nat.succ_le_succ l5⟩
     ·refine zgo (c:=q.1<=hi+(z2.2.2.1-z1.2.2.1)) zc ?_;exact⟨_,_,as',es,rfl,S5,R5,by omega⟩
    rintro σ HK2 ⟨v1,v2,as2',es2,rfl,SK2,RK2,_⟩;refine⟨_,_,Row.den ⟨_,RK1.stay (.sub SK2)⟩,Row.den ⟨_,RK2⟩,zsd znB (by decide),?_⟩;exact h _ HK2 (SK1.trans SK2)
  ·exact h.elim
theorem zc8:zal ["trail","late","told","low","high","early","place"] ["trail","late"] (zad zbd):=by walk_at "s"
def zd3:Sp:=fun vs H Q _=>match vs with
 | [.ref f,.int l]=>∃ (ts:List Addr) (zs:List (Addr × St3)) (ln:Nat),l=ln/\H f=some (.lst (ts.map V.ref))/\za6 (SZ H) ts zs/\(∀ z∈zs,z.2.2.2.length<=2000)/\(1<=ln/\ln<ts.length)/\ts.length<=2000/\∀ v H',(v=.non\/∃ n,v=.int n)->Sub H H'->Q v H'
 | _=>False
theorem zfE (T:Tx K mg a):zaC P w K mg base CX0 2 a.first_drift a.first_drift_d ["trail","late"] (zd3):=by
 have G_is_led_along:=ze9 (P:=P) (w:=w) (base:=base) T;refine T.f_first_drift.ok zc8 (fun vs H Q E h=>?_) (fun cdv A outer s H vs Q E hr h=>?_)
 ·unfold zd3 at h;split at h
  ·rfl
  ·exact h.elim
 ·unfold zd3 at h;split at h
  ·have nd:=zc8.nd;have hu:=zaz hr;rename_i f l;obtain⟨ts,zs,ln,rfl,hf,hA,hz,⟨l1,lX⟩,hl,h⟩:=h;refine⟨_,(zab (zaq (i:=2) nd rfl (by walk_at "o") zbg)
  (zab (zgI (zba (zbw (K:=K) rfl) (zba (zbx (K:=K) rfl) (qv 0) (zaZ zjV (qv 1) zaf) (fun _ _=>rfl)) zaf (fun _ _=>rfl)) (zai (i:=3) nd rfl (by walk_at "o")) (zai (i:=4) nd rfl (by walk_at "o")))
  (zab (zby PassesOwn.never rfl (zn5 rfl T.z_reversed (zaa (zb5 zqb rfl T.z_range boot_range (zaa (qv 1) zac)) zac)) (zai (i:=5) nd rfl (by walk_at "o")) (zab (zaq (i:=6) nd rfl (by walk_at "o") (zba (zbw (K:=K) rfl) (zba (zbx (K:=K) rfl) (qv 0) (qv 5) (fun _ _=>rfl)) zaf (fun _ _=>rfl)))
    (zab (zaq (i:=3) nd rfl (by walk_at "o") (zaw (zjl rfl) rfl T.z_min zg8 (zaa (qv 3) (zaa (qv 6) zac))))
    (zab (zaq (i:=4) nd rfl (by walk_at "o") (zaw (zkW rfl) rfl T.z_max zjc (zaa (qv 4) (zaa (qv 6) zac))))
    (zae (zbA (zlT (zaj G_is_led_along (hr.mono (by decide)) rfl T.g_is_led_along T.f_is_led_along.kp T.b_is_led_along .nil zav (zaa (zba (zbx (K:=K) rfl) (qv 0) (qv 5) (fun _ _=>rfl)) (zaa (zba (zbx (K:=K) rfl) (qv 0) (qv 1) (fun _ _=>rfl)) (zaa (qv 3) (zaa (qv 4) zac)))))) (zae (zaq (i:=2) nd rfl (by walk_at "o") (qv 5))) zas))))))
  (zae (zam (qv 2)))))),?_⟩
   have get:∀ i,i<ts.length->∃ c z,atI (ts.map V.ref) (i:Int)=some (V.ref c)/\SZ H c z/\z.2.2.2.length<=2000:=fun i hi=>by
    obtain⟨c,hc⟩:∃ c,ts[i]?=some c:=⟨_,zr0 hi⟩;obtain⟨z,hz',hs⟩:=hA.at hc;exact⟨c,z,zbi (by rw [zrZ,hc];rfl),hs,hz z (zr3 hz')⟩
   obtain⟨c0,z0,at0,hs0,_⟩:=get (ln-1) (by omega);obtain⟨c9,z9,at9,hs9,b9⟩:=get ln lX;refine⟨_,_,SqL.of hf,(by rw [show (ln:Int)-1=((ln-1:Nat):Int) by omega];exact at0:atI (ts.map V.ref) ((ln:Int)-1)=some (V.ref c0)),?_⟩;refine⟨_,_,SqT.of hs0.1,zbi (j:=1) rfl,?_⟩;walk_at "w";intro p1 n1;generalize U':upd _ p1 _=H1;obtain ⟨S1,e1⟩:=zag n1 U';clear U';refine⟨_,e1,⟨by omega,by omega⟩,?_⟩;rw [show ((ln:Int)).toNat=ln from rfl];refine zmE (hi:=(ln:Int)-1) (n:=ln) (fun i σ H5=>∃ (v2:V) (lo hi:Int) (v5 v6:Option V),σ=[some (.ref f),some (.int ln),some v2,some (.int lo),some (.int hi),v5,v6]/\Sub H H5/\(v2=.non\/∃ n,v2=.int n)) ?_ ?_ ?_
   ·exact⟨.non,_,_,_,_,rfl,S1,.inl rfl⟩
   ·rintro i σ H5 hi5 ⟨v2,lo,hi,v5,v6,rfl,S5,hv⟩;obtain⟨c,z,hat,hs,bz⟩:=get (ln-(i+1)) (by omega);have hat:atI (ts.map V.ref) ((ln:Int)-1-(i:Int))=some (V.ref c):=by rw [show (ln:Int)-1-(i:Int)=((ln-(i+1):Nat):Int) by omega];exact hat
    refine⟨_,_,SqL.of (S5 _ _ hf),hat,?_⟩;refine⟨_,_,SqT.of (S5 _ _ hs.1),zbi (j:=1) rfl,?_⟩;walk_at "w";intro mlo hmlo;walk_at "w";intro mhi hmhi;refine⟨_,_,SqL.of (S5 _ _ hf),hat,?_⟩;refine⟨_,_,SqL.of (S5 _ _ hf),at9,?_⟩;refine⟨z,z9,hs.sub S5,hs9.sub S5,⟨bz,b9⟩,fun b H6 S6=>?_⟩;walk_at "w";refine ifB.mk (fun _=>?_) (fun _=>?_)
    ·exact⟨_,_,_,_,_,rfl,S5.trans S6,.inr ⟨_,rfl⟩⟩
    ·exact⟨_,_,_,_,_,rfl,S5.trans S6,hv⟩
   ·rintro σ H5 ⟨v2,lo,hi,v5,v6,rfl,S5,hv⟩;exact h _ H5 hv S5
  ·exact h.elim
theorem ziH:zal ["machine","most","trail","late","early"] ["machine","most"] (zad zds):=by walk_at "s"
theorem zmr (T:Tx K mg a):zaC P w K mg base CX0 7 a.drift a.drift_d ["machine","most"] (za2):=by
 have G_setups:=zeX (P:=P) (w:=w) (base:=base) T;have G_first_drift:=zfE (P:=P) (w:=w) (base:=base) T;refine T.f_drift.ok ziH (fun vs H Q E h=>?_) (fun cdv A outer s H vs Q E hr h=>?_)
 ·unfold za2 at h;split at h
  ·rfl
  ·exact h.elim
 ·unfold za2 at h;split at h
  ·have nd:=ziH.nd;have hu:=zaz hr;rename_i t most;obtain⟨m,hm,hM,hm0,hm60,h⟩:=h;refine⟨_,(zab (zaq (i:=2) nd rfl (by walk_at "o") (zaj G_setups (hr.mono (by decide)) rfl T.g_setups T.f_setups.kp T.b_setups .nil zav (zaa (qv 0) (zaa (qv 1) zac))))
  (zab (zby PassesOwn.never rfl (zeO rfl T.z_range (zaa zaf (zaa (zaw (zco (K:=K) rfl) rfl T.z_len zcn (zaa (qv 2) zac)) zac))) (zai (i:=3) nd rfl (by walk_at "o")) (zab (zaq (i:=4) nd rfl (by walk_at "o") (zaj G_first_drift (hr.mono (by decide)) rfl T.g_first_drift T.f_first_drift.kp T.b_first_drift .nil zav (zaa (qv 2) (zaa (qv 3) zac))))
    (zae (zbA (zbv ziw (qv 4) zbg) (zae (zam (zau (zaa zbz (zaa (qv 4) (zaa (qv 3) zac)))))) zas))))
  (zae (zam zbg)))),?_⟩
   refine⟨m,hm,hM,hm0,hm60,fun f ts zs H1 S1 hf hA hnd hfr hT nf hne=>?_⟩;have hXl:=zfj m most.toNat (0,0,[]);have hzl:zs.length=(tr m most.toNat (0,0,[])).length:=by have:=hT.1;rw [zrY] at this;exact this
   have hb:∀ z∈zs,z.2.2.2.length<=2000:=fun z hz=>by
    obtain⟨i,hi⟩:=List.getElem?_of_mem hz;obtain⟨x,hx,h1⟩:=hT.at (i:=i) (y:=z.2) (by rw [zrZ,hi];rfl)
    have:=ziK _ _ _ (zr3 hx)
    rw [h1.2.2.1.length_eq];simp at this
    omega
   have hal:=hA.1;have htl:((ts.map V.ref).length:Int)=ts.length:=by rw [zrY]
   have h1:1<=ts.length:=by
    obtain⟨r,hr⟩:=zkY m most.toNat (0,0,[]);rw [hal,hzl,hr];simp
   refine⟨_,.inl (SqL.of hf),?_⟩;rw [htl];refine⟨⟨by decide,by decide,by omega,by omega⟩,?_⟩;rw [show ((ts.length:Int)-1).toNat=ts.length-1 by omega];refine zbh (lo:=1) (n:=ts.length-1) (fun i σ H5=>∃ (v3 v4:Option V),σ=[some (.ref t),some (.int most),some (.ref f),v3,v4]/\Sub H1 H5) ?_ ?_ ?_
   ·exact⟨_,_,rfl,Sub.refl⟩
   ·rintro i σ H5 hi ⟨v3,v4,rfl,S5⟩;rw [show (1:Int)+(i:Int)=((i+1:Nat):Int) by omega];refine⟨ts,zs,i+1,rfl,S5 _ _ hf,hA.mono fun _ _ _ z=>z.sub S5,hb,⟨by omega,by omega⟩,by omega,fun v H6 hv S6=>?_⟩;rcases hv with rfl | ⟨n,rfl⟩
    ·walk_at "w";refine⟨rfl,?_⟩;walk_at "w";refine ifB.no rfl ?_;exact⟨_,_,rfl,S5.trans S6⟩
    ·walk_at "w";refine⟨rfl,?_⟩;walk_at "w";refine ifB.yes rfl ?_;refine⟨by show 3<=sizeLine;decide,?_⟩;intro p7 n7;generalize U':upd _ p7 _=H7;obtain ⟨S7,e7⟩:=zag n7 U';clear U';exact h _ H7 (S1.trans ((S5.trans S6).trans S7))
   ·rintro σ H5 ⟨v3,v4,rfl,S5⟩;exact h _ H5 (S1.trans S5)
  ·exact h.elim
theorem zeY:zal ["machine","most","trail","late","early"] ["machine","most"] (zad zds):=by walk_at "s"
theorem ziB (T:Tx K mg a):zaC P w K mg base (CXE P w) 7 a.drift a.drift_d ["machine","most"] (zax a):=by
 have G_setups:=zcP (P:=P) (w:=w) (base:=base) T;refine T.f_drift.okE zeY (fun vs H Q E h=>?_) (fun cdv A outer s H vs Q E hr h=>?_)
 ·unfold zax at h;split at h
  ·rfl
  ·exact h.elim
 ·unfold zax at h;split at h
  ·have nd:=zeY.nd;have hu:=zaz hr;rename_i t v;refine⟨_,(zab (zaq (i:=2) nd rfl (by walk_at "o") (zaj G_setups (hr.mono (by decide)) rfl T.g_setups T.f_setups.kp T.b_setups .nil zat (zaa (qv 0) (zaa (qv 1) zac))))
  zaO),?_⟩
   walk_at "w";exact h
  ·exact h.elim
theorem zm3:True:=True.intro
theorem zgC (T:Tx K mg a):zaC P w K mg base (CXE P w) 7 a.drift a.drift_d ["machine","most"] (fun vs H Q E=>(za2) vs H Q E\/(zax a) vs H Q E):=zaC.or0 (zmr T) (ziB T) (by decide) (by decide)
theorem zdL:zal ["machine"] ["machine"] (zad zbl):=by walk_at "s"
def zcq:Sp:=fun vs H Q _=>match vs with
 | [.ref t]=>∃ m:Ma,zcE H t m/\isM m=true/\∀ (l:Addr) (as:List Addr) (H':Hp),Sub H H'->H' l=some (.lst (as.map V.ref))->za6 (zoo H') as (zgF m)->H l=none->Q (.ref l) H'
 | _=>False
theorem zdV (T:Tx K mg a):zaC P w K mg base CX0 1 a.entries_in a.entries_in_d ["machine"] (zcq):=by
 refine T.f_entries_in.ok zdL (fun vs H Q E h=>?_) (fun cdv A outer s H vs Q E hr h=>?_)
 ·unfold zcq at h;split at h
  ·rfl
  ·exact h.elim
 ·unfold zcq at h;split at h
  ·have nd:=zdL.nd;have hu:=zaz hr;rename_i t;obtain⟨m,⟨rs,hm,hnd,hrw⟩,hM,h⟩:=h;have M:=OkM.of hM;have mn4:=M.n4;have ms4:=M.s4;refine⟨_,(zae (zam (zpt (own:=["row","entries","sign","entry"]) (fr:=[]) rfl (by walk_at "comp_ok") (zd6 rfl T.z_enumerate (zaa (qv 0) zac)) (fun _ _ _ _=>(zaG (K:=K) (n:=2) rfl rfl (zak (zai (i:=0) (show List.Nodup (α:=Str) ["row","entries","sign","entry"] from by decide +kernel) rfl (by walk_at "o")) (zak (zai (i:=1) (show List.Nodup (α:=Str) ["row","entries","sign","entry"] from by decide +kernel) rfl (by walk_at "o")) zaH)))) (fun _ _ _ _=>zbP) (fun _ _ _ _=>(zmV (K:=K) rfl rfl T.z_enumerate (zaa (qv 1) zac))) (fun _ _ _ _=>(zaG (K:=K) (n:=2) rfl rfl (zak (zai (i:=2) (show List.Nodup (α:=Str) ["row","entries","sign","entry"] from by decide +kernel) rfl (by walk_at "o")) (zak (zai (i:=3) (show List.Nodup (α:=Str) ["row","entries","sign","entry"] from by decide +kernel) rfl (by walk_at "o")) zaH)))) (fun _ _ _ _=>zbP) (fun _ _ _ _=>(zau (zaa (qv 0) (zaa (qv 2) (zaa (qv 3) zac)))))))),?_⟩;refine⟨⟨_,SqL.of hm⟩,?_⟩;intro pt npt;refine zli (K:=K) (a:=t) (xs:=rs.map V.ref) (fun i σ H1=>∃ (v1 v2:Option V) (as:List Addr),σ=[v1,v2,none,none]/\Sub H H1/\H1 pt=some (.lst (as.map V.ref))/\za6 (zoo H1) as ((zbZ m).take i).flatten) ?_ ?_ ?_ ?_
   ·exact⟨none,none,[],rfl,Sub.new npt,zah,.nil⟩
   ·rintro i σ H1 _ ⟨v1,v2,as,rfl,S1,_⟩;exact SqL.of (S1 _ _ hm)
   ·rintro i x σ H1 pp hi ⟨v1,v2,as,rfl,S1,g1,A1⟩ npp;rw [zrZ] at hi;obtain⟨r,hr,rfl⟩:=zr1.1 hi;obtain⟨es,hes,bs,hra,haa⟩:=hrw.at hr;have hil:i<m.length:=(zr2.1 hes).1;have hel:=M.len es (zr3 hes);have S2:Sub H1 (upd H1 pp (.tup [.int i,.ref r])):=Sub.new npp;have e2:(upd H1 pp (.tup [.int i,.ref r])) pp=some (.tup [.int i,.ref r]):=zah;generalize upd H1 pp (.tup [.int i,.ref r])=H2 at S2 e2 ⊢;have S02:=S1.trans S2;refine⟨_,SqT.of e2,rfl,?_⟩;refine⟨⟨_,SqL.of (S02 _ _ hra)⟩,?_⟩;have hbound:∀ k,((zbZ m).take k).flatten.length<=4*4:=fun k=>by
     have h1:=zf6 (n:=4) (xs:=(zbZ m).take k) fun x hx=>by
      obtain⟨y,hy,rfl⟩:=zsg.1 (List.mem_of_mem_take hx);rw [zeH];obtain⟨_,_,hy3⟩:=List.mem_zipIdx hy
      have:=M.len y.1 (by rw [hy3];exact List.getElem_mem _)
      omega
     have h2:((zbZ m).take k).length<=4:=by rw [zsm,zed];omega
     exact zsd h1 (Nat.mul_le_mul_right 4 h2)
    refine zld (K:=K) (a:=r) (xs:=bs.map V.ref) (fun j σ H3=>∃ (v3 v4:Option V) (cs:List Addr),σ=[some (.int i),some (.ref r),v3,v4]/\Sub H H3/\H3 pt=some (.lst (cs.map V.ref))/\za6 (zoo H3) cs (((zbZ m).take i).flatten++(zjz i es).take j)) ?_ ?_ ?_ ?_
    ·exact⟨none,none,as,rfl,S02,S2 _ _ g1,by rw [List.take_zero,zsa];exact A1.mono fun _ _ _ z=>z.keep fun _ _ e=>S2 _ _ e⟩
    ·rintro j σ H3 _ ⟨v3,v4,cs,rfl,S3,_⟩;exact SqL.of (S3 _ _ hra)
    ·rintro j x σ H3 pq hj ⟨v3,v4,cs,rfl,S3,g3,A3⟩ npq;rw [zrZ] at hj;obtain⟨ea,hea,rfl⟩:=zr1.1 hj;obtain⟨en,hen,hE⟩:=haa.at hea;have S4:Sub H3 (upd H3 pq (.tup [.int j,.ref ea])):=Sub.new npq;have e4:(upd H3 pq (.tup [.int j,.ref ea])) pq=some (.tup [.int j,.ref ea]):=zah;generalize upd H3 pq (.tup [.int j,.ref ea])=H4 at S4 e4 ⊢;refine⟨_,SqT.of e4,rfl,?_⟩;refine⟨by show 3<=sizeLine;decide,?_⟩;intro p5 n5;generalize U':upd _ p5 _=H5;obtain ⟨S5,e5⟩:=zag n5 U';clear U';have S05:=(S3.trans S4).trans S5;have g5:=(S4.trans S5) _ _ g3;have hcl:cs.length<=20:=by
      have h1:=hbound i;have h2:((zjz i es).take j).length<=4:=by rw [zsm,zeH];omega
      rw [A3.1,zr8];omega
     have t6:∀ c us,H5 c=some (.tup us)->(upd H5 pt (.lst (cs.map V.ref++[V.ref p5]))) c=some (.tup us):=fun c us e=>by
      rw [zao (by rintro rfl;rw [g5] at e;cases e)];exact e
     refine⟨_,g5,by rw [zrY];exact zsc hcl (by decide),_,_,cs++[p5],rfl,S05.upd npt,by rw [zah,zr6];rfl,?_⟩
     ·rw [zsk,zkT hen,← zsi];exact (A3.mono fun _ _ _ z=>z.keep fun _ _ e=>t6 _ _ ((S4.trans S5) _ _ e)).app ⟨ea,t6 _ _ e5,t6 _ _ (S05 _ _ hE)⟩
    ·rintro σ H3 ⟨v3,v4,cs,rfl,S3,g3,A3⟩;rw [zrY,haa.1,← zeH (i:Int) es,zsj] at A3;refine⟨⟨rfl,by rintro (_ | _ | _ | _ | i) v hv <;> simp at hv ⊢ <;> exact hv⟩,_,_,cs,rfl,S3,g3,?_⟩;rw [zsk,zhq hes,List.flatten_append];show za6 (zoo H3) cs (((zbZ m).take i).flatten++[zjz i es].flatten);rw [List.flatten_cons,List.flatten_nil,zsa];exact A3
   rintro σ H1 ⟨v1,v2,as,rfl,S1,g1,A1⟩;rw [zrY,hrw.1,List.take_of_length_le (by rw [zed];exact zse _)] at A1;exact h pt as H1 S1 g1 A1 npt
  ·exact h.elim
theorem zej:zal ["machine"] ["machine"] (zad zbH):=by walk_at "s"
def zcS:Sp:=fun vs H Q _=>match vs with
 | [.ref t]=>∃ m:Ma,zcE H t m/\isM m=true/\∀ (l:Addr) (as:List Addr) (H':Hp),Sub H H'->H' l=some (.lst (as.map V.ref))->za6 (PrA H') as (zl9 m)->H l=none->Q (.ref l) H'
 | _=>False
theorem zem (T:Tx K mg a):zaC P w K mg base CX0 2 a.end_parts a.end_parts_d ["machine"] (zcS):=by
 have G_entries_in:=zdV (P:=P) (w:=w) (base:=base) T;refine T.f_end_parts.ok zej (fun vs H Q E h=>?_) (fun cdv A outer s H vs Q E hr h=>?_)
 ·unfold zcS at h;split at h
  ·rfl
  ·exact h.elim
 ·unfold zcS at h;split at h
  ·have nd:=zej.nd;have hu:=zaz hr;rename_i t;obtain⟨m,hm,hM,h⟩:=h;have M:=OkM.of hM;refine⟨_,(zae (zam (zgd (own:=["row","sign","entry"]) (fr:=[]) rfl (by walk_at "comp_ok") (zaJ (K:=K) rfl (zaj G_entries_in (hr.mono (by decide)) rfl T.g_entries_in T.f_entries_in.kp T.b_entries_in .nil zav (zaa (qv 0) zac))) (fun _ _ _ _=>(zaG (K:=K) (n:=3) rfl rfl (zak (zai (i:=0) (show List.Nodup (α:=Str) ["row","sign","entry"] from by decide +kernel) rfl (by walk_at "o")) (zak (zai (i:=1) (show List.Nodup (α:=Str) ["row","sign","entry"] from by decide +kernel) rfl (by walk_at "o")) (zak (zai (i:=2) (show List.Nodup (α:=Str) ["row","sign","entry"] from by decide +kernel) rfl (by walk_at "o")) zaH))))) (fun _ _ _ _=>(zeM (zbv (zdT hr) (qv 2) (zau zac)))) (fun _ _ _ _=>(zau (zaa (qv 0) (zaa (zau (zaa (zau (zaa zaf (zaa (qv 1) zac))) zac)) zac))))))),?_⟩;refine⟨m,hm,hM,fun l es H1 S1 hl hA nl=>?_⟩;refine⟨⟨_,SqL.of hl⟩,?_⟩;intro pt npt;refine za3 (K:=K) (a:=l) (xs:=es.map V.ref) (fun i σ H2=>∃ (v1 v2 v3:Option V) (as:List Addr),σ=[v1,v2,v3]/\Sub H1 H2/\H2 pt=some (.lst (as.map V.ref))/\za6 (PrA H2) as (((zgF m).take i).filterMap zey)) ?_ ?_ ?_ ?_
   ·exact⟨none,none,none,[],rfl,Sub.new npt,zah,.nil⟩
   ·rintro i σ H2 _ ⟨v1,v2,v3,as,rfl,S2,_⟩;exact SqL.of (S2 _ _ hl)
   ·rintro i x σ H2 hi ⟨v1,v2,v3,as,rfl,S2,g2,A2⟩;rw [zrZ] at hi;obtain⟨e,he,rfl⟩:=zr1.1 hi;obtain⟨⟨row,sign,en⟩,hx,ea,hea,hE⟩:=hA.at he;have hea:H1 e=some (.tup [.int row,.int sign,.ref ea]):=hea;have hE:Ent H1 ea en:=hE;refine⟨_,SqT.of (S2 _ _ hea),rfl,?_⟩;refine⟨by show 0<=sizeLine;decide,?_⟩;intro p3 n3;generalize U':upd _ p3 _=H3;obtain ⟨S3,e3⟩:=zag n3 U';clear U';refine⟨_,_,(Ent.den (e:=en) (S3 _ _ (S2 _ _ hE))),(Ent.den (e:=[]) e3),zcU _,?_⟩;rw [ze3,zsk,hx,List.filterMap_append];have g3:=S3 _ _ g2;have A3:za6 (PrA H3) as (((zgF m).take i).filterMap zey):=A2.mono fun _ _ _ z=>z.keep fun _ _ e=>S3 _ _ e
    walk_at "w";by_cases zc:en=[]
    ·have hz:decide (en=[])=true:=zr4 zc;generalize decide (en=[])=z at hz ⊢;subst hz;rw [show (some (row,sign,en)).toList.filterMap zey=[(row,[(0,sign)])] by show [(row,sign,en)].filterMap zey=_;rw [List.filterMap_cons,show zey (row,sign,en)=some (row,[(0,sign)]) from zsB zc];rfl];refine⟨by show 2<=sizeLine;decide,?_⟩;intro p4 n4;generalize U':upd _ p4 _=H4;obtain ⟨S4,e4⟩:=zag n4 U';clear U';refine⟨by show 1<=sizeLine;decide,?_⟩;intro p5 n5;generalize U':upd _ p5 _=H5;obtain ⟨S5,e5⟩:=zag n5 U';clear U';refine⟨by show 2<=sizeLine;decide,?_⟩;intro p6 n6;generalize U':upd _ p6 _=H6;obtain ⟨S6,e6⟩:=zag n6 U';clear U';have S36:=(S4.trans S5).trans S6;have g6:=S36 _ _ g3;have hil:i<(zgF m).length:=(zr2.1 hx).1;have hl16:=zf5 M;have hcl:as.length<=16:=by
      rw [A3.1];have h1:=List.length_filterMap_le zey ((zgF m).take i);have h2:=List.length_take_le i (zgF m);omega
     have t7:∀ c us,H6 c=some (.tup us)->(upd H6 pt (.lst (as.map V.ref++[V.ref p6]))) c=some (.tup us):=fun c us e=>by
      rw [zao (by rintro rfl;rw [g6] at e;cases e)];exact e
     refine⟨_,g6,by rw [zrY];exact zsc hcl (by decide),_,_,_,as++[p6],rfl,((S2.trans S3).trans S36).upd npt,by rw [zah,zr6];rfl,?_⟩;exact (A3.mono fun _ _ _ z=>z.keep fun _ _ e=>t7 _ _ (S36 _ _ e)).app ⟨p5,[p4],t7 _ _ e6,t7 _ _ (S6 _ _ e5),za6.nil.app (t7 _ _ (S6 _ _ (S5 _ _ e4)))⟩
    ·have hz:decide (en=[])=false:=zr5 zc;generalize decide (en=[])=z at hz ⊢;subst hz;rw [show (some (row,sign,en)).toList.filterMap zey=[] by show [(row,sign,en)].filterMap zey=_;rw [List.filterMap_cons,show zey (row,sign,en)=none from zsA zc];rfl,zsa];exact⟨_,_,_,as,rfl,S2.trans S3,g3,A3⟩
   rintro σ H2 ⟨v1,v2,v3,as,rfl,S2,g2,A2⟩;rw [zrY,hA.1,zsj] at A2;exact h pt as H2 (S1.trans S2) g2 A2 (S1.free npt)
  ·exact h.elim
theorem zd1:zal ["signs","row","sign","put","way","there"] ["signs","row","sign","put","way"] (zad zbp):=by walk_at "s"
def zct:Sp:=fun vs H Q _=>match vs with
 | [.ref t,.int row,.int sign,.int put,.int way]=>∃ (as:List Addr) (ks:Mk2),H t=some (.tup (as.map V.ref))/\za6 (fun b z=>H b=some (tI z)) as (iv ks)/\Srt ks/\ks.length<=1000 /\
   ((zcd ks (0-way)).getD put≠put->∀ H':Hp,Sub H H'->Q .non H') /\
   ((zcd ks (0-way)).getD put=put->∀ (p:Addr) (H':Hp),Sub H H'->H p=none->PrA H' p (row,zlV (zko ks way sign))->Q (.ref p) H')
 | _=>False
theorem zgu (T:Tx K mg a):zaC P w K mg base CX0 1 a.part_ahead a.part_ahead_d ["signs","row","sign","put","way"] (zct):=by
 refine T.f_part_ahead.ok zd1 (fun vs H Q E h=>?_) (fun cdv A outer s H vs Q E hr h=>?_)
 ·unfold zct at h;split at h
  ·rfl
  ·exact h.elim
 ·unfold zct at h;split at h
  ·have nd:=zd1.nd;have hu:=zaz hr;rename_i t row sign put way;obtain⟨as,ks,ht,hA,hS,hL,h1,h2⟩:=h;refine⟨_,(zab (zaq (i:=5) nd rfl (by walk_at "o") (zb5 (zoK rfl) rfl T.z_dict zoV (zaa (qv 0) zac)))
  (zab (zbA (zbv zqS (zgj hu (qv 5) (zjy zkb (qv 4)) (qv 3) ⟨rfl,rfl,rfl,rfl⟩) (qv 3)) (zae (zam zbg)) zas)
  (zab (ziy hu (qv 5) (zjy zkb (qv 4)) (qv 2) rfl)
  (zae (zam (zau (zaa (qv 1) (zaa (zb5 (zkm (K:=K) rfl) rfl T.z_tuple ziQ (zaa (zaw zpq rfl T.z_sorted zdP (zaa (zgd (own:=["place"]) (fr:=[4,5]) rfl (by walk_at "comp_ok") (zmC (qv 5)) (fun _ _ _ _=>(zai (i:=0) (show List.Nodup (α:=Str) ["place","way","there"] from by decide +kernel) rfl (by walk_at "o"))) (fun _ _ _ _=>zbP) (fun _ _ _ _=>(zau (zaa (zaZ zc6 (qv 0) (qv 1)) (zaa (zn6 hu (qv 2) (qv 0) (fun _ _=>rfl)) zac))))) zac)) zac)) zac)))))))),?_⟩
   refine⟨as,iv ks,ht,hA,by rw [zsp];exact zdR hS,fun d nd'=>?_⟩;have ed:(upd H d (.dK (dcI (iv ks)))) d=some (.dK (dcI (iv ks))):=zah;have S1:Sub H (upd H d (.dK (dcI (iv ks)))):=Sub.new nd';generalize upd H d (.dK (dcI (iv ks)))=H1 at ed S1 ⊢;refine⟨d,rfl,.inl ⟨_,.inl ed⟩,?_⟩;refine⟨_,.inl ⟨_,.inl (-way),.inl ed,rfl,rfl⟩,?_⟩;rw [zj7,show -way=0-way by omega];have ev:((zcd ks (0-way)).map V.int).getD (V.int put)=V.int ((zcd ks (0-way)).getD put):=by cases zcd ks (0-way) <;> rfl
   rw [ev];walk_at "w";refine ifB.mk (fun hz=>?_) (fun hz=>?_)
   ·walk_at "w";exact h1 (by simpa using hz) H1 S1
   ·have hz:(zcd ks (0-way)).getD put=put:=by simpa using hz
    refine⟨d,_,rfl,zoL.k (k:=.inl (-way)) ed ?_,?_⟩
    ·rw [zrY,zrY];exact zsc hL (by decide)
    rw [zm7,show -way=0-way by omega];have ndp:=zdJ (k:=0-way) (s:=sign) (zdR hS);have lnp:=zgR ks (0-way) sign;have eR:zko ks way sign=(zfy ks (0-way) sign).map fun q=>(q.1+way,q.2):=rfl
    generalize zfy ks (0-way) sign=ms at ndp lnp eR ⊢;have e2:(upd H1 d (.dK (dcI (iv ms)))) d=some (.dK (dcI (iv ms))):=zah;have S2:Sub H (upd H1 d (.dK (dcI (iv ms)))):=S1.upd nd';generalize upd H1 d (.dK (dcI (iv ms)))=H2 at e2 S2 ⊢;refine⟨iv ms,e2,fun o=>?_⟩;have e3:(upd H2 d (.frz o (.dK (dcI (iv ms))))) d=some (.frz o (.dK (dcI (iv ms)))):=zah;have S3:Sub H (upd H2 d (.frz o (.dK (dcI (iv ms))))):=S2.upd nd';generalize upd H2 d (.frz o (.dK (dcI (iv ms))))=H3 at e3 S3 ⊢;intro pt npt;refine zkO (d:=d) (o:=o) (kvs:=iv ms) (fun i σ H4=>∃ (v1:Option V) (bs:List Addr),σ=[v1,some (.int way),some (.ref d)]/\Sub H3 H4/\H4 pt=some (.lst (bs.map V.ref))/\za6 (fun b z=>H4 b=some (tI z)) bs (iv ((ms.map fun q=>(q.1+way,q.2)).take i))) ?_ ?_ ?_ ?_
    ·exact⟨none,[],rfl,Sub.new npt,zah,.nil⟩
    ·rintro i σ H4 _ ⟨v1,bs,rfl,S4,_⟩;exact S4 _ _ e3
    ·rintro i q σ H4 hi ⟨v1,bs,rfl,S4,g4,A4⟩;rw [zrZ] at hi;obtain⟨z,hz',rfl⟩:=zr1.1 hi;refine⟨d,.int z.2,rfl,.inl ⟨_,.inl z.1,.inr ⟨o,S4 _ _ e3⟩,rfl,?_⟩,?_⟩
     ·rw [zj7,(zoA ndp).2 (zr3 hz')];rfl
     refine⟨by show 2<=sizeLine;decide,?_⟩;intro p5 n5;generalize U':upd _ p5 _=H5;obtain ⟨S5,e5⟩:=zag n5 U';clear U';have g5:=S5 _ _ g4;have t6:∀ c us,H5 c=some (.tup us)->(upd H5 pt (.lst (bs.map V.ref++[V.ref p5]))) c=some (.tup us):=fun c us e=>by
      rw [zao (by rintro rfl;rw [g5] at e;cases e)];exact e
     have hcl:bs.length<=1001:=by
      rw [A4.1,zrY,zsm,zrY];omega
     refine⟨_,g5,by rw [zrY];exact zsc hcl (by decide),_,bs++[p5],rfl,(S4.trans S5).upd npt,by rw [zah,zr6];rfl,?_⟩;rw [zsk,zrZ,hz'];show za6 _ _ (List.map _ (_++[(z.1+way,z.2)]));rw [zr6];exact (A4.mono fun _ _ _ e=>t6 _ _ (S5 _ _ e)).app (t6 _ _ e5)
    ·rintro σ H4 ⟨v1,bs,rfl,S4,g4,A4⟩;rw [zrY,List.take_of_length_le (by rw [zrY];exact zse _),← eR] at A4;walk_at "w";have ndm:=zlp (zdR hS) way sign;have lm:=zi3 ks way sign;refine⟨bs,_,g4,A4,by rw [zsp];exact ndm,by rw [zrY];omega,fun ps cs l hp hs hc nl=>?_⟩;obtain⟨js,rfl,j1,j2⟩:=zih hp hs
     have:=zlZ ndm j1 j2
     subst this;have S5:Sub H4 (upd H4 l (.lst (cs.map V.ref))):=Sub.new nl;have e5:(upd H4 l (.lst (cs.map V.ref))) l=some (.lst (cs.map V.ref)):=zah;generalize upd H4 l (.lst (cs.map V.ref))=H5 at S5 e5 ⊢;refine⟨_,SqL.of e5,?_⟩;intro p6 n6;generalize U':upd _ p6 _=H6;obtain ⟨S6,e6⟩:=zag n6 U';clear U';refine⟨by show 2<=sizeLine;decide,?_⟩;intro p7 n7;generalize U':upd _ p7 _=H7;obtain ⟨S7,e7⟩:=zag n7 U';clear U';have S37:=((S4.trans S5).trans S6).trans S7;have n7':=((S3.trans S4).trans (S5.trans S6)).free n7;exact h2 hz p7 H7 (S3.trans S37) n7' ⟨p6,cs,e7,S7 _ _ e6,hc.mono fun _ _ _ e=>S7 _ _ (S6 _ _ (S5 _ _ e))⟩
  ·exact h.elim
theorem zdb:zal ["machine","parts","told","goal","signs","row","sign","entry","part"] ["machine","parts"] (zad zbc):=by walk_at "s"
def zcc:Sp:=fun vs H Q _=>match vs with
 | [.ref t,.ref l]=>∃ (m:Ma) (ps:List Pt) (as:List Addr) (n:Nat),zcE H t m/\isM m=true/\H l=some (.lst (as.map V.ref))/\za6 (PrA H) as ps/\(∀ x∈ps,zoc n x)/\n<=1000/\ps.length<=300 /\
   ∀ (l':Addr) (bs:List Addr) (qs:List Pt) (H':Hp),Sub H H'->H' l'=some (.lst (bs.map V.ref))->za6 (PrA H') bs qs->qs.Pairwise ltP->(∀ y,y∈qs↔∃ x∈ps,y∈ahd m x)->qs.length<=16*ps.length->H l'=none->Q (.ref l') H'
 | _=>False
theorem zdh (T:Tx K mg a):zaC P w K mg base CX0 2 a.parts_ahead a.parts_ahead_d ["machine","parts"] (zcc):=by
 have G_entries_in:=zdV (P:=P) (w:=w) (base:=base) T;have G_part_ahead:=zgu (P:=P) (w:=w) (base:=base) T;refine T.f_parts_ahead.ok zdb (fun vs H Q E h=>?_) (fun cdv A outer s H vs Q E hr h=>?_)
 ·unfold zcc at h;split at h
  ·rfl
  ·exact h.elim
 ·unfold zcc at h;split at h
  ·have nd:=zdb.nd;have hu:=zaz hr;rename_i t l;obtain⟨m,ps,as,n,hm,hM,hl,hA,hO,hn,hL,h⟩:=h;have M:=OkM.of hM;have hel:=zf5 M;refine⟨_,(zab (zaq (i:=2) nd rfl (by walk_at "o") zdF)
  (zab (zby PassesOwn.never rfl (zaJ (K:=K) rfl (qv 1)) (zaG (K:=K) (n:=2) rfl rfl (zak (zai (i:=3) nd rfl (by walk_at "o")) (zak (zai (i:=4) nd rfl (by walk_at "o")) zaH))) (zae (zby PassesOwn.never rfl (zaJ (K:=K) rfl (zaj G_entries_in (hr.mono (by decide)) rfl T.g_entries_in T.f_entries_in.kp T.b_entries_in .nil zav (zaa (qv 0) zac))) (zaG (K:=K) (n:=3) rfl rfl (zak (zai (i:=5) nd rfl (by walk_at "o")) (zak (zai (i:=6) nd rfl (by walk_at "o")) (zak (zai (i:=7) nd rfl (by walk_at "o")) zaH)))) (zae (zbA (PW.pt (zeZ (zbv (zi7 hr) (qv 7) (zau zac)) (zeP (zbv zdl (zba (zbw (K:=K) rfl) (qv 7) zaf (fun _ _=>rfl)) (qv 3))))) (zab (zaq (i:=8) nd rfl (by walk_at "o") (zaj G_part_ahead (hr.mono (by decide)) rfl T.g_part_ahead T.f_part_ahead.kp T.b_part_ahead .nil zav (zaa (qv 4) (zaa (qv 5) (zaa (qv 6) (zaa (zba (zbw (K:=K) rfl) (qv 7) zaf (fun _ _=>rfl)) (zaa (zba (zbw (K:=K) rfl) (qv 7) zaf (fun _ _=>rfl)) zac))))))) (zae (zbA (zbv ziw (qv 8) zbg) (zae (ziO hr (qv 2) (qv 8) zcG rfl)) zas))) zas)))))
  (zae (zam (zaw (znR hr rfl) rfl T.z_sorted zdP (zaa (qv 2) zac)))))),?_⟩
   walk_at "w";intro d H1 nd' eH1 D0;have S1:Sub H H1:=by rw [eH1];exact Sub.new nd'
   clear eH1;refine⟨⟨_,SqL.of (S1 _ _ hl)⟩,?_⟩;refine zd0 (K:=K) (a:=l) (xs:=as.map V.ref) (fun i σ H2=>∃ (v3 v4 v5 v6 v7 v8:Option V) (qs:List Pt),σ=[some (.ref t),some (.ref l),some (.ref d),v3,v4,v5,v6,v7,v8]/\Sub H H2/\TdP H2 d qs/\qs.length<=16*i/\∀ y,y∈qs↔∃ x∈ps.take i,y∈ahd m x) ?_ ?_ ?_ ?_
   ·exact⟨none,none,none,none,none,none,[],rfl,S1,⟨[],D0,rfl⟩,zse _,fun y=>by simp⟩
   ·rintro i σ H2 _ ⟨v3,v4,v5,v6,v7,v8,qs,rfl,S2,_⟩;exact SqL.of (S2 _ _ hl)
   ·rintro i x σ H2 hi ⟨v3,v4,v5,v6,v7,v8,qs,rfl,S2,T2,L2',Y2⟩;rw [zrZ] at hi;obtain⟨pa,hpa,rfl⟩:=zr1.1 hi;obtain⟨⟨goal,ks⟩,hx,sa,ba,hp1,hp2,hp3⟩:=hA.at hpa;have hi300:i<ps.length:=(zr2.1 hx).1;have hok:=hO _ (zr3 hx);refine⟨_,SqT.of (S2 _ _ hp1),rfl,?_⟩;refine⟨m,hm.stay (.sub S2),hM,fun le es H3 S3 hle hE nle=>?_⟩;refine⟨⟨_,SqL.of hle⟩,?_⟩;have T3:=T2.sub S3;obtain⟨φ,eφ⟩:=T3.ext;have S03:=S2.trans S3;refine zd0 (K:=K) (a:=le) (xs:=es.map V.ref) (fun j σ H4=>∃ (v5 v6 v7 v8:Option V) (rs:List Pt),σ=[some (.ref t),some (.ref l),some (.ref d),some (.int goal),some (.ref sa),v5,v6,v7,v8]/\Bar d H3 H4/\TdP H4 d rs/\rs.length<=16*i+j/\∀ y,y∈rs↔(∃ x∈ps.take i,y∈ahd m x)\/y∈((zgF m).take j).filterMap (zjH (goal,ks))) ?_ ?_ ?_ ?_
    ·exact⟨v5,v6,v7,v8,qs,rfl,Bar.refl,T3,L2',fun y=>by rw [Y2 y];simp⟩
    ·rintro j σ H4 _ ⟨v5,v6,v7,v8,rs,rfl,B4,_⟩;exact SqL.of (B4.lst eφ _ _ hle)
    ·rintro j x σ H4 hj ⟨v5,v6,v7,v8,rs,rfl,B4,T4,L4,Y4⟩;rw [zrZ] at hj;obtain⟨e,he,rfl⟩:=zr1.1 hj;obtain⟨⟨row,sign,en⟩,hx2,ea,hea,hEn⟩:=hE.at he;have tu:=B4.tup eφ;have hea:H4 e=some (.tup [.int row,.int sign,.ref ea]):=tu _ _ hea;have hEn:Ent H4 ea en:=tu _ _ hEn;have hj16:j<(zgF m).length:=(zr2.1 hx2).1;refine⟨_,SqT.of hea,rfl,?_⟩;refine⟨by show 0<=sizeLine;decide,?_⟩;intro p5 n5;generalize U':upd _ p5 _=H5;obtain ⟨S5,e5⟩:=zag n5 U';clear U';have B5:=B4.trans (Bar.of S5);have T5:=T4.sub S5;have hok':=zkd M (zr3 hx2);refine⟨_,_,(Ent.den (e:=en) (S5 _ _ hEn)),(Ent.den (e:=[]) e5),zcU _,?_⟩;rw [ze3];have Y5:∀ y,zjH (goal,ks) (row,sign,en)=none->(y∈rs↔(∃ x∈ps.take i,y∈ahd m x)\/y∈((zgF m).take (j+1)).filterMap (zjH (goal,ks))):=fun y hy=>by
      rw [Y4 y,zsk,hx2,List.filterMap_append];show _↔_\/y∈_++[(row,sign,en)].filterMap (zjH (goal,ks));rw [List.filterMap_cons,hy];simp
     walk_at "w";by_cases zc:en=[]
     ·refine ifB.no (by rw [zr4 zc];rfl) (ifB.no rfl ?_);walk_at "w";exact⟨_,_,_,_,rs,rfl,B5,T5,by omega,fun y=>Y5 y (by unfold zjH;rw [zc])⟩
     ·refine ifB.yes (by rw [zr5 zc];rfl) ?_;obtain⟨put,way,goal',rfl,a0,a1,a2,a3,a4⟩:=zaD hok' zc;have hEn5:H5 ea=some (.tup [.int put,.int way,.int goal']):=S5 _ _ hEn;refine⟨_,_,SqT.of hEn5,rfl,?_⟩;walk_at "w";refine ifB.dec (fun zg=>?_) (fun zg=>?_)
      ·have zg:goal'=goal:=by simpa using zg
       subst zg;refine⟨_,_,SqT.of hEn5,rfl,?_⟩;refine⟨_,_,SqT.of hEn5,rfl,?_⟩;walk_at "w";have tu5:∀ c us,H c=some (.tup us)->H5 c=some (.tup us):=fun c us e=>S5 _ _ (tu _ _ (S03 _ _ e))
       refine⟨ba,ks,tu5 _ _ hp2,hp3.mono fun _ _ _ e=>tu5 _ _ e,hok.2,zsd hok.1 hn,fun hv H6 S6=>?_,fun hv p6 H6 S6 np6 hp6=>?_⟩
       ·walk_at "w";refine⟨rfl,ifB.no rfl ?_⟩;walk_at "w";exact⟨_,_,_,_,rs,rfl,B5.trans (Bar.of S6),T5.sub S6,by omega,fun y=>Y5 y (by unfold zjH;dsimp only;rw [zsA (fun z=>hv z.2)])⟩
       ·walk_at "w";refine⟨rfl,ifB.yes rfl ?_⟩;obtain⟨kvs,D6,ek⟩:=T5.sub S6;have hkl:kvs.length=rs.length:=by have:=congrArg List.length ek;rw [zrY,zrY] at this;exact this
        refine⟨d,p6,nkP _,kvs,rfl,rfl,zk4 _,hp6.den,D6,by rw [hkl,sizeLine_eq];omega,fun H7 k7 n7 D7=>?_⟩;have hE7:zjH (goal',ks) (row,sign,[put,way,goal'])=some (row,zlV (zko ks way sign)):=by unfold zjH;dsimp only;rw [zsB ⟨rfl,hv⟩]
        have al:=zmo rs (row,zlV (zko ks way sign));refine⟨_,_,_,_,znV rs (row,zlV (zko ks way sign)),rfl,(B5.trans (Bar.of S6)).trans k7,⟨_,D7,zmL ek _ _ _⟩,by omega,fun y=>?_⟩;rw [zmZ,Y4 y,zsk,hx2,List.filterMap_append];show _↔_\/y∈_++[(row,sign,[put,way,goal'])].filterMap (zjH (goal',ks));rw [List.filterMap_cons,hE7];simp [or_assoc]
      ·walk_at "w";exact⟨_,_,_,_,rs,rfl,B5,T5,by omega,fun y=>Y5 y (by unfold zjH;dsimp only;rw [zsA (fun z=>zg (by simpa using z.1))])⟩
    ·rintro σ H4 ⟨v5,v6,v7,v8,rs,rfl,B4,T4,L4,Y4⟩;rw [zrY,hE.1,zsj] at Y4;refine⟨_,_,_,_,_,_,rs,rfl,(Bar.trans (Bar.of S03) B4).sub nd',T4,?_,fun y=>?_⟩
     ·rw [zrY,hE.1] at L4;omega
     ·rw [Y4 y,zsk,hx];show _↔∃ x∈ps.take i++[(goal,ks)],y∈ahd m x
      constructor
      ·rintro (⟨x,h1,h2⟩ | h1)
       ·exact⟨x,zsu _ h1,h2⟩
       ·exact⟨(goal,ks),zsv _ (zr7.2 rfl),h1⟩
      ·rintro ⟨x,h1,h2⟩;rcases zr9.1 h1 with h1 | h1
       ·exact .inl ⟨x,h1,h2⟩
       ·rw [zr7.1 h1] at h2;exact .inr h2
   ·rintro σ H2 ⟨v3,v4,v5,v6,v7,v8,qs,rfl,S2,T2,L2',Y2⟩;rw [zrY,hA.1,zsj] at Y2;rw [zrY,hA.1] at L2';obtain⟨kvs,D2,ek⟩:=id T2;have hkl:kvs.length=qs.length:=by have:=congrArg List.length ek;rw [zrY,zrY] at this;exact this
    refine⟨true,kvs,D2,by rw [ek];exact zps T2.nd,by omega,fun js bs l' hp hs hd nl=>?_⟩;rw [ek] at hp;obtain⟨rs,rfl,pr⟩:=zmb hp;have S3:Sub H2 (upd H2 l' (.lst (bs.map V.ref))):=Sub.new nl;exact h l' bs rs _ (S2.trans S3) zah ((PrA.of_dens hd).mono fun _ _ _ z=>z.keep fun _ _ e=>S3 _ _ e) (show rs.Pairwise (fun a b=>ltN (nkP a) (nkP b)=true) from List.pairwise_map.1 hs) (fun y=>by rw [pr.mem_iff];exact Y2 y) (by rw [pr.length_eq];exact L2') (S2.free nl)
  ·exact h.elim
theorem zfq:zal ["machine","depth","parts","deeper"] ["machine","depth"] (zad zbC):=by walk_at "s"
theorem zqA {m:Ma} (h:isM m=true):Bd 100 m:=by
 have M:=OkM.of h;exact⟨zsd M.n4 (by decide),fun r hr=>by have:=M.len r hr;have:=M.s4;omega⟩
def zcA:Sp:=fun vs H Q _=>match vs with
 | [.ref t,.int dep]=>∃ (m:Ma) (n:Nat),dep=n/\n<=8/\zcE H t m/\isM m=true/\Low m n /\
   ∀ (l:Addr) (bs:List Addr) (zs:List (Addr × Pt)) (H':Hp),Sub H H'->H' l=some (.lst (bs.map V.ref))->za6 (PlA H') bs zs->(zs.map (·.1)).Nodup->(∀ z∈zs,H z.1=none/\z.1≠l)->Lev m n (zs.map (·.2))->H l=none->Q (.ref l) H'
 | _=>False
theorem zhU (T:Tx K mg a):zaC P w K mg base CX0 5 a.parts_at a.parts_at_d ["machine","depth"] (zcA):=by
 have G_end_parts:=zem (P:=P) (w:=w) (base:=base) T;have G_parts_ahead:=zdh (P:=P) (w:=w) (base:=base) T;have G_must_machine:=(za4 (P:=P) (w:=w) (base:=base) T).noE;refine T.f_parts_at.ok zfq (fun vs H Q E h=>?_) (fun cdv A outer s H vs Q E hr h=>?_)
 ·unfold zcA at h;split at h
  ·rfl
  ·exact h.elim
 ·unfold zcA at h;split at h
  ·have nd:=zfq.nd;have hu:=zaz hr;rename_i t dep;obtain⟨m,n,rfl,hn8,hm,hM,hLow,h⟩:=h;have M:=OkM.of hM;refine⟨_,(zab (zaS (zaj G_must_machine (hr.mono (by decide)) rfl T.g_must_machine T.f_must_machine.kp T.b_must_machine .nil zav (zaa (qv 0) zac)))
  (zab (zaq (i:=2) nd rfl (by walk_at "o") (zaj G_end_parts (hr.mono (by decide)) rfl T.g_end_parts T.f_end_parts.kp T.b_end_parts .nil zav (zaa (qv 0) zac)))
  (zab (zby PassesOwn.never rfl (zb3 rfl T.z_range (zaa (qv 1) zac)) (zai (i:=3) nd rfl (by walk_at "o")) (zae (zaq (i:=2) nd rfl (by walk_at "o") (zaj G_parts_ahead (hr.mono (by decide)) rfl T.g_parts_ahead T.f_parts_ahead.kp T.b_parts_ahead .nil zav (zaa (qv 0) (zaa (qv 2) zac))))))
  (zae (zam (zgd (own:=["row","signs"]) (fr:=[]) rfl (by walk_at "comp_ok") (zaJ (K:=K) rfl (qv 2)) (fun _ _ _ _=>(zaG (K:=K) (n:=2) rfl rfl (zak (zai (i:=0) (show List.Nodup (α:=Str) ["row","signs"] from by decide +kernel) rfl (by walk_at "o")) (zak (zai (i:=1) (show List.Nodup (α:=Str) ["row","signs"] from by decide +kernel) rfl (by walk_at "o")) zaH)))) (fun _ _ _ _=>zbP) (fun _ _ _ _=>(zau (zaa (qv 0) (zaa (zb5 (zhx (K:=K) rfl) rfl T.z_list zim (zaa (qv 1) zac)) zac)))))))))),?_⟩
   refine⟨m,hm,zqA hM,fun _ H1 S1=>?_,fun z=>by rw [hM] at z;cases z⟩;refine⟨m,hm.stay (.sub S1),hM,fun l2 as2 H2 S2 hl2 hA2 nl2=>?_⟩;have S02:=S1.trans S2;refine⟨⟨by omega,by omega⟩,?_⟩;refine zbh (lo:=0) (n:=((n:Nat):Int).toNat) (fun i σ H3=>∃ (l3:Addr) (v3:Option V) (as3:List Addr) (ps:List Pt),σ=[some (.ref t),some (.int (n:Int)),some (.ref l3),v3]/\Sub H H3/\H3 l3=some (.lst (as3.map V.ref))/\za6 (PrA H3) as3 ps/\Lev m i ps/\ps.length<=4800) ?_ ?_ ?_
   ·exact⟨l2,none,as2,zl9 m,rfl,S02,hl2,hA2,zrr m,zsd (zju M) (by decide)⟩
   ·rintro i σ H3 hi ⟨l3,v3,as3,ps,rfl,S3,hl3,hA3,hLv,hpl⟩;refine⟨m,ps,as3,i+1,hm.stay (.sub S3),hM,hl3,hA3,hLv.ok,by omega,hLow i (by omega) ps hLv,fun l4 bs qs H4 S4 hl4 hA4 hs hy hq nl4=>?_⟩
    have:=hLow i (by omega) ps hLv
    exact⟨l4,_,bs,qs,rfl,S3.trans S4,hl4,hA4,⟨hs,ps,hLv,hy⟩,by omega⟩
   ·rintro σ H3 ⟨l3,v3,as3,ps,rfl,S3,hl3,hA3,hLv,hpl⟩;rw [Int.toNat_natCast] at hLv;refine⟨⟨_,SqL.of hl3⟩,?_⟩;intro pt npt;have npt0:=S3.free npt;refine za3 (K:=K) (a:=l3) (xs:=as3.map V.ref) (fun i σ H4=>∃ (v1 v2:Option V) (bs:List Addr) (zs:List (Addr × Pt)),σ=[v1,v2]/\Sub H3 H4/\H4 pt=some (.lst (bs.map V.ref))/\za6 (PlA H4) bs zs/\(zs.map (·.1)).Nodup/\(∀ z∈zs,H3 z.1=none/\z.1≠pt)/\zs.map (·.2)=ps.take i) ?_ ?_ ?_ ?_
    ·exact⟨none,none,[],[],rfl,Sub.new npt,zah,.nil,List.nodup_nil,by simp,rfl⟩
    ·rintro i σ H4 _ ⟨v1,v2,bs,zs,rfl,S4,_⟩;exact SqL.of (S4 _ _ hl3)
    ·rintro i x σ H4 hi ⟨v1,v2,bs,zs,rfl,S4,g4,A4,N4,F4,E4⟩;rw [zrZ] at hi;obtain⟨pa,hpa,rfl⟩:=zr1.1 hi;obtain⟨⟨goal,ks⟩,hx,sa,ba,hp1,hp2,hp3⟩:=hA3.at hpa;refine⟨_,SqT.of (S4 _ _ hp1),rfl,?_⟩;refine⟨_,.inr (SqT.of (S4 _ _ hp2)),?_⟩;intro p5 n5;generalize U':upd _ p5 _=H5;obtain ⟨S5,e5⟩:=zag n5 U';clear U';refine⟨by show 2<=sizeLine;decide,?_⟩;intro p6 n6;generalize U':upd _ p6 _=H6;obtain ⟨S6,e6⟩:=zag n6 U';clear U';have S46:=S5.trans S6;have g6:=S46 _ _ g4;have n5':=S4.free n5;have np5:p5≠pt:=fun z=>by rw [z,g4] at n5;cases n5
     have hk7:∀ c u,H6 c=some u->c≠pt->(upd H6 pt (.lst (bs.map V.ref++[V.ref p6]))) c=some u:=fun c u e ne=>by rw [zao ne];exact e
     have pl:∀ (b:Addr) (z:Addr × Pt),z.1≠pt->PlA H6 b z->PlA (upd H6 pt (.lst (bs.map V.ref++[V.ref p6]))) b z:=fun b z ne ⟨as,h1,h2,h3⟩ =>
      ⟨as,hk7 _ _ h1 (fun q=>by rw [q,g6] at h1;cases h1),hk7 _ _ h2 ne,h3.mono fun c w _ e=>hk7 _ _ e (fun q=>by rw [q,g6] at e;cases e)⟩
     have n5z:p5 ∉ zs.map (·.1):=fun hz=>by
      obtain⟨z,hz,e⟩:=zsg.1 hz;obtain⟨j,hj⟩:=List.getElem?_of_mem hz;have hjb:j<bs.length:=by rw [A4.1];exact (zr2.1 hj).1
      obtain⟨as,_,h2,_⟩:=A4.2 j bs[j] z (zr0 hjb) hj;rw [e,n5] at h2;cases h2
     refine⟨_,g6,?_,_,_,bs++[p6],zs++[(p5,(goal,ks))],rfl,(S4.trans S46).upd npt,by rw [zah,zr6];rfl,?_,?_,?_,?_⟩
     ·have hl:=A4.1
      have:=congrArg List.length E4
      rw [zrY,zsm] at this
      have:=hA3.1
      rw [zrY,hl,sizeLine_eq];omega
     ·refine (A4.monoM fun b z _ hz q=>?_).app ?_
      ·obtain⟨as,h1,h2,h3⟩:=q;exact pl b z (F4 z hz).2 ⟨as,S46 _ _ h1,S46 _ _ h2,h3.mono fun _ _ _ e=>S46 _ _ e⟩
      ·exact pl p6 (p5,goal,ks) np5 ⟨ba,e6,S6 _ _ e5,hp3.mono fun _ _ _ e=>S46 _ _ (S4 _ _ e)⟩
     ·rw [zr6];exact List.nodup_append.2 ⟨N4,by simp,fun a ha b hb=>by simp at hb;subst hb;rintro rfl;exact n5z ha⟩
     ·intro z hz;rcases zr9.1 hz with hz | hz
      ·exact F4 z hz
      ·rw [zr7.1 hz];exact⟨n5',np5⟩
     ·rw [zr6,E4,zsk,hx]
      rfl
    ·rintro σ H4 ⟨v1,v2,bs,zs,rfl,S4,g4,A4,N4,F4,E4⟩;rw [zrY,hA3.1,zsj] at E4;exact h pt bs zs H4 (S3.trans S4) g4 A4 N4 (fun z hz=>⟨S3.free (F4 z hz).1,(F4 z hz).2⟩) (by rw [E4];exact hLv) npt0
  ·exact h.elim
theorem zdd:zal ["machine","depth","parts","deeper"] ["machine","depth"] (zad zbC):=by walk_at "s"
theorem zfw (T:Tx K mg a):zaC P w K mg base (CXE P w) 5 a.parts_at a.parts_at_d ["machine","depth"] (zax a):=by
 have G_must_machine:=zaN (P:=P) (w:=w) (base:=base) T;refine T.f_parts_at.okE zdd (fun vs H Q E h=>?_) (fun cdv A outer s H vs Q E hr h=>?_)
 ·unfold zax at h;split at h
  ·rfl
  ·exact h.elim
 ·unfold zax at h;split at h
  ·have nd:=zdd.nd;have hu:=zaz hr;rename_i t v;refine⟨_,(zab (zaS (zaj G_must_machine (hr.mono (by decide)) rfl T.g_must_machine T.f_must_machine.kp T.b_must_machine .nil zat (zaa (qv 0) zac)))
  zaO),?_⟩
   walk_at "w";exact h
  ·exact h.elim
theorem zkk:True:=True.intro
theorem zex (T:Tx K mg a):zaC P w K mg base (CXE P w) 6 a.parts_at a.parts_at_d ["machine","depth"] (fun vs H Q E=>(zcA) vs H Q E\/(zax a) vs H Q E):=zaC.or0 (zhU T) (zfw T) (by decide) (by decide)
theorem zfK:zal ["machine","most","parts","depth"] ["machine","most"] (zad zb0):=by walk_at "s"
theorem zjO (T:Tx K mg a):zaC P w K mg base CX0 7 a.no_back a.no_back_d ["machine","most"] (za2):=by
 have G_end_parts:=zem (P:=P) (w:=w) (base:=base) T;have G_parts_ahead:=zdh (P:=P) (w:=w) (base:=base) T;have G_run:=zlJ (P:=P) (w:=w) (base:=base) T;have G_must_machine:=(za4 (P:=P) (w:=w) (base:=base) T).noE;refine T.f_no_back.ok zfK (fun vs H Q E h=>?_) (fun cdv A outer s H vs Q E hr h=>?_)
 ·unfold za2 at h;split at h
  ·rfl
  ·exact h.elim
 ·unfold za2 at h;split at h
  ·have nd:=zfK.nd;have hu:=zaz hr;rename_i t most;obtain⟨m,hm,hM,n0,hN,h⟩:=h;obtain⟨N,rfl⟩:=Int.eq_ofNat_of_zero_le n0;have M:=OkM.of hM;refine⟨_,(zab (zaS (zaj G_must_machine (hr.mono (by decide)) rfl T.g_must_machine T.f_must_machine.kp T.b_must_machine .nil zav (zaa (qv 0) zac)))
  (zab (zaq (i:=2) nd rfl (by walk_at "o") (zaj G_end_parts (hr.mono (by decide)) rfl T.g_end_parts T.f_end_parts.kp T.b_end_parts .nil zav (zaa (qv 0) zac)))
  (zab (zby PassesOwn.never rfl (zeO rfl T.z_range (zaa zaf (zaa (zaZ zc6 (zaw (zjl rfl) rfl T.z_min zg8 (zaa (qv 1) (zaa (zg3 rfl T.c_MOST_DEPTH) zac))) zaf) zac))) (zai (i:=3) nd rfl (by walk_at "o")) (zab (zbA (zbv zrP (zaw (zco (K:=K) rfl) rfl T.z_len zcn (zaa (qv 2) zac)) (zg3 rfl T.c_MOST_PARTS)) (zae (zam zbg)) zas)
    (zab (zaq (i:=2) nd rfl (by walk_at "o") (zaj G_parts_ahead (hr.mono (by decide)) rfl T.g_parts_ahead T.f_parts_ahead.kp T.b_parts_ahead .nil zav (zaa (qv 0) (zaa (qv 2) zac))))
    (zae (zbA (zbv (zdT hr) (qv 2) (zaL zac)) (zae (zam (znp (zbv zdl (zba (zbw (K:=K) rfl) (zaj G_run (hr.mono (by decide)) rfl T.g_run T.f_run.kp T.b_run .nil zav (zaa (qv 0) (zaa (zaZ zjV (qv 3) zaf) zac))) zaf (fun _ _=>rfl)) zbz) zbg (zau (zaa zbz (zaa (qv 3) zac)))))) zas)))))
  (zae (zam zbg))))),?_⟩
   refine⟨m,hm,zly hM,fun _ H1 S1=>?_,fun z=>by rw [hM] at z;cases z⟩;refine⟨m,hm.stay (.sub S1),hM,fun l2 as2 H2 S2 hl2 hA2 nl2=>?_⟩;have S02:=S1.trans S2;walk_at "w";intro mn hmn;have hmn:mn<=8/\mn<=N/\0<=mn/\(mn=8\/mn=N):=by split at hmn <;> omega
   refine⟨⟨by decide,by decide,by omega,by omega⟩,?_⟩;refine zbh (lo:=1) (n:=(mn+1-1).toNat) (fun i σ H3=>∃ (l3:Addr) (v3:Option V) (as3:List Addr) (ps:List Pt),σ=[some (.ref t),some (.int (N:Int)),some (.ref l3),v3]/\Sub H H3/\H3 l3=some (.lst (as3.map V.ref))/\za6 (PrA H3) as3 ps/\Lev m i ps) ?_ ?_ ?_
   ·exact⟨l2,none,as2,zl9 m,rfl,S02,hl2,hA2,zrr m⟩
   ·rintro i σ H3 hi ⟨l3,v3,as3,ps,rfl,S3,hl3,hA3,hLv⟩;refine⟨_,.inl (SqL.of hl3),?_⟩;rw [zrY,hA3.1];walk_at "w";refine ifB.mk (fun hc=>?_) (fun hc=>?_)
    ·have hc:(300:Int)<ps.length:=zsH hc;walk_at "w";exact h _ H3 S3
    have hc:¬ (300:Int)<ps.length:=of_decide_eq_false hc;have hm3:=hm.stay (.sub S3);refine⟨m,ps,as3,i+1,hm3,hM,hl3,hA3,hLv.ok,by omega,by omega,fun l4 bs qs H4 S4 hl4 hA4 hs hy hq nl4=>?_⟩;have hLv4:Lev m (i+1) qs:=⟨hs,ps,hLv,hy⟩;refine⟨by show 0<=sizeLine;decide,?_⟩;intro p5 n5;generalize U':upd _ p5 _=H5;obtain ⟨S5,e5⟩:=zag n5 U';clear U';have L5:LvA H5 l4 qs:=⟨bs,S5 _ _ hl4,hA4.mono fun _ _ _ z=>z.keep fun _ _ e=>S5 _ _ e⟩;have S05:=(S3.trans S4).trans S5;refine⟨_,_,L5.den,zod e5,zl8 _,?_⟩;rw [zoj];walk_at "w";refine ifB.dec (fun hz=>?_) (fun hz=>?_)
    ·subst hz;refine⟨m,hm.stay (.sub S05),hM,by omega,by omega,fun q l x js H6 S6 hla hRU hpj hsj nl=>?_⟩;obtain⟨s6,hq6,_⟩:=hRU;have S06:=S05.trans S6;refine⟨_,_,SqT.of hq6,zbi (j:=0) rfl,?_⟩;walk_at "w";refine ifB.mk (fun _=>?_) (fun _=>?_)
     ·exact h _ H6 S06
     ·walk_at "w";refine⟨by show 2<=sizeLine;decide,?_⟩;intro p7 n7;generalize U':upd _ p7 _=H7;obtain ⟨S7,e7⟩:=zag n7 U';clear U';exact h _ H7 (S06.trans S7)
    ·walk_at "w";exact⟨l4,_,bs,qs,rfl,S05,S5 _ _ hl4,hA4.mono (fun _ _ _ z=>z.keep fun _ _ e=>S5 _ _ e),hLv4⟩
   ·rintro σ H3 ⟨l3,v3,as3,ps,rfl,S3,hl3,hA3,hLv⟩;walk_at "w";exact h _ H3 S3
  ·exact h.elim
theorem zdO:zal ["machine","most","parts","depth"] ["machine","most"] (zad zb0):=by walk_at "s"
theorem zgQ (T:Tx K mg a):zaC P w K mg base (CXE P w) 5 a.no_back a.no_back_d ["machine","most"] (zax a):=by
 have G_must_machine:=zaN (P:=P) (w:=w) (base:=base) T;refine T.f_no_back.okE zdO (fun vs H Q E h=>?_) (fun cdv A outer s H vs Q E hr h=>?_)
 ·unfold zax at h;split at h
  ·rfl
  ·exact h.elim
 ·unfold zax at h;split at h
  ·have nd:=zdO.nd;have hu:=zaz hr;rename_i t v;refine⟨_,(zab (zaS (zaj G_must_machine (hr.mono (by decide)) rfl T.g_must_machine T.f_must_machine.kp T.b_must_machine .nil zat (zaa (qv 0) zac)))
  zaO),?_⟩
   walk_at "w";exact h
  ·exact h.elim
theorem zkH:True:=True.intro
theorem ze5 (T:Tx K mg a):zaC P w K mg base (CXE P w) 7 a.no_back a.no_back_d ["machine","most"] (fun vs H Q E=>(za2) vs H Q E\/(zax a) vs H Q E):=zaC.or0 (zjO T) (zgQ T) (by decide) (by decide)
theorem zhy:zal ["walk","steps","low","high","moment"] ["walk","steps"] (zad zcY):=by walk_at "s"
def ze2 (a:Ad):Sp:=fun vs H Q _=>match vs with
 | [.ref o,.int n]=>∃ (t d:Addr) (m:Ma) (x:St3),WK a.Walk H o t d x.1 x.2.1 x.2.2/\zcE H t m/\OkM m/\OkS m x.1 x.2.2/\x.2.2.length<=3000/\(0<=n/\n<=1000) /\
   ((tr m n.toNat x).length≠n.toNat+1->∀ H',(∀ c u,H c=some u->c≠o->c≠d->H' c=some u)->Q .non H') /\
   ((tr m n.toNat x).length=n.toNat+1->∀ (q:Addr) (lo hi:Int) (y:St3) (H':Hp),(tr m n.toNat x).getLast?=some y->WK a.Walk H' o t d y.1 y.2.1 y.2.2->OkS m y.1 y.2.2->y.2.2.length<=x.2.2.length+n.toNat->(∀ c u,H c=some u->c≠o->c≠d->H' c=some u)->H q=none->H' q=some (.tup [.int lo,.int hi])->Q (.ref q) H')
 | _=>False
theorem zkV (T:Tx K mg a):zaC P w K mg base CX0 4 a.walked a.walked_d ["walk","steps"] (ze2 a):=by
 have G_Walk_step:=zbn (P:=P) (w:=w) (base:=base) T;refine T.f_walked.ok zhy (fun vs H Q E h=>?_) (fun cdv A outer s H vs Q E hr h=>?_)
 ·unfold ze2 at h;split at h
  ·rfl
  ·exact h.elim
 ·unfold ze2 at h;split at h
  ·have nd:=zhy.nd;have hu:=zaz hr;rename_i o n;obtain⟨t,d,m,x,W,hm,M,hok,hxl,⟨n0,n1⟩,h0,h1⟩:=h;refine⟨_,(zab (zgI (zb2 (qv 0) rfl) (zai (i:=2) nd rfl (by walk_at "o")) (zai (i:=3) nd rfl (by walk_at "o")))
  (zab (zby PassesOwn.never rfl (zb3 rfl T.z_range (zaa (qv 1) zac)) (zai (i:=4) nd rfl (by walk_at "o")) (zab (zaq (i:=2) nd rfl (by walk_at "o") (zaw (zjl rfl) rfl T.z_min zg8 (zaa (qv 2) (zaa (zb2 (qv 0) rfl) zac))))
    (zab (zaq (i:=3) nd rfl (by walk_at "o") (zaw (zkW rfl) rfl T.z_max zjc (zaa (qv 3) (zaa (zb2 (qv 0) rfl) zac))))
    (zae (zbA (zc9 (zlT (zaI (qv 0) T.k_Walk T.m_Walk_step G_Walk_step (hr.mono (by decide)) T.b_Walk_step .nil zav))) (zae (zam zbg)) zas)))))
  (zae (zam (zau (zaa (qv 2) (zaa (qv 3) zac))))))),?_⟩
   obtain⟨⟨dx,ho⟩,hd⟩:=id W;refine⟨_,_,_,_,_,rfl,ho,T.k_Walk,T.n_Walk_place,zgV _ _ _ _,?_⟩;refine⟨⟨by omega,by omega⟩,?_⟩;refine zbh (lo:=0) (n:=n.toNat) (fun i σ H5=>∃ (v4:Option V) (sts:List St3) (y:St3) (lo hi:Int),σ=[some (.ref o),some (.int n),some (.int lo),some (.int hi),v4]/\WK a.Walk H5 o t d y.1 y.2.1 y.2.2/\(∀ c u,H c=some u->c≠o->c≠d->H5 c=some u)/\At m n.toNat x (sts++[y]) y/\sts.length=i/\OkS m y.1 y.2.2/\y.2.2.length<=x.2.2.length+i) ?_ ?_ ?_
   ·exact⟨_,[],x,x.2.1,x.2.1,rfl,W,fun c u e _ _=>e,At.start,rfl,hok,by omega⟩
   ·rintro i σ H5 hi5 ⟨v4,sts,y,lo,hi,rfl,W5,k5,hAt,hsl,hok5,hyl⟩;obtain⟨⟨dx5,ho5⟩,hd5⟩:=id W5;have hm5:zcE H5 t m:=hm.stay (zfP.two W k5);have hlen:=hAt.len;refine⟨_,_,_,_,_,rfl,ho5,T.k_Walk,T.n_Walk_place,zgV _ _ _ _,?_⟩;walk_at "w";intro mlo hmlo;refine⟨_,_,_,_,_,rfl,ho5,T.k_Walk,T.n_Walk_place,zgV _ _ _ _,?_⟩;walk_at "w";intro mhi hmhi;refine⟨_,_,_,rfl,ho5,rfl,?_⟩;refine⟨t,d,y.1,y.2.1,y.2.2,m,W5,hm5,M,hok5,by omega,fun he H6 S6=>?_,fun s' w' r' H6 he hE W6 k6=>?_⟩
    ·walk_at "w";refine ifB.yes rfl ?_;refine h0 ?_ H6 fun c u e c1 c2=>S6 _ _ (k5 c u e c1 c2)
     have:=hAt.done (.inl (zhe he))
     rw [← this,zr8];simp;omega
    ·obtain⟨s2,w2,r2,e2,a0,a1,a2,a3,a4⟩:=zaD hE (by simp);cases e2;have hnl:=zdn y.2.2 y.2.1 s';walk_at "w";refine ifB.no rfl ?_;exact⟨_,sts++[y],(r',y.2.1+w',nxt y.2.2 y.2.1 s'),mlo,mhi,rfl,W6,fun c u e c1 c2=>k6 c u (k5 c u e c1 c2) c1 c2,hAt.step (zhp he) (by rw [zr8];simp;omega),by simp [hsl],hok5.nxt a0 a1 a3 a4,by show (nxt y.2.2 y.2.1 s').length<=_;omega⟩
   ·rintro σ H5 ⟨v4,sts,y,lo,hi,rfl,W5,k5,hAt,hsl,hok5,hyl⟩;have hst:=hAt.done (.inr (by rw [zr8,hsl];simp));refine⟨by show 2<=sizeLine;decide,?_⟩;intro p6 n6;generalize U':upd _ p6 _=H6;obtain ⟨S6,e6⟩:=zag n6 U';clear U';have hla:(tr m n.toNat x).getLast?=some y:=by rw [← hst];simp
    have hln:(tr m n.toNat x).length=n.toNat+1:=by rw [← hst,zr8,hsl];rfl
    have hnq:H p6=none:=by
     cases e:H p6 with
     | none=>rfl
     | some u =>
      by_cases c1:p6=o
      ·obtain⟨⟨dx5,ho5⟩,hd5⟩:=id W5;rw [c1,ho5] at n6;cases n6
      ·by_cases c2:p6=d
       ·obtain⟨⟨dx5,ho5⟩,hd5⟩:=id W5;rw [c2,hd5] at n6;cases n6
       ·have:=k5 _ _ e c1 c2
        rw [n6] at this;cases this
    exact h1 hln p6 lo hi y H6 hla (W5.sub S6) hok5 hyl (fun c u e c1 c2=>S6 _ _ (k5 c u e c1 c2)) hnq e6
  ·exact h.elim
theorem zfY:zal ["machine","early","late","walk","first","stretch"] ["machine","early","late"] (zad zcl):=by walk_at "s"
def zd9:Sp:=fun vs H Q _=>match vs with
 | [.ref t,.int e,.int l]=>∃ m:Ma,zcE H t m/\isM m=true/\(0<=e/\e<=1000)/\(0<=l/\l<=1000) /\
   (∀ H',Sub H H'->Q .non H')/\∀ (q q1 q2:Addr) (z1 z2:Addr × St3) (lo hi:Int) (H':Hp),Sub H H'->H' q=some (.tup [.ref q1,.ref q2,.int lo,.int hi])->SZ H' q1 z1->SZ H' q2 z2->Q (.ref q) H'
 | _=>False
theorem zjD (T:Tx K mg a):zaC P w K mg base CX0 6 a.between a.between_d ["machine","early","late"] (zd9):=by
 have G_begun:=zc3 (P:=P) (w:=w) (base:=base) T;have G_walked:=zkV (P:=P) (w:=w) (base:=base) T;have G_Walk_setup:=zbR (P:=P) (w:=w) (base:=base) T;have G_Walk_entry:=zbS (P:=P) (w:=w) (base:=base) T;refine T.f_between.ok zfY (fun vs H Q E h=>?_) (fun cdv A outer s H vs Q E hr h=>?_)
 ·unfold zd9 at h;split at h
  ·rfl
  ·exact h.elim
 ·unfold zd9 at h;split at h
  ·have nd:=zfY.nd;have hu:=zaz hr;rename_i t e l;obtain⟨m,hm,hM,⟨e0,e1⟩,⟨l0,l1⟩,h0,h1⟩:=h;have M:=OkM.of hM;refine⟨_,(zab (zaq (i:=3) nd rfl (by walk_at "o") (zaj G_begun (hr.mono (by decide)) rfl T.g_begun T.f_begun.kp T.b_begun .nil zav (zaa (qv 0) zac)))
  (zab (zbA (zc9 (zqE zhN zqO zhN zaf (qv 1) (qv 2) (zg3 rfl T.c_MOST_MOMENT))) (zae (zam zbg)) zas)
  (zab (zbA (zbv zll (zaj G_walked (hr.mono (by decide)) rfl T.g_walked T.f_walked.kp T.b_walked .nil zav (zaa (qv 3) (zaa (qv 1) zac))) zbg) (zae (zam zbg)) zas)
  (zab (zaq (i:=4) nd rfl (by walk_at "o") (zaI (qv 3) T.k_Walk T.m_Walk_setup G_Walk_setup (hr.mono (by decide)) T.b_Walk_setup .nil zav))
  (zab (zaq (i:=5) nd rfl (by walk_at "o") (zaj G_walked (hr.mono (by decide)) rfl T.g_walked T.f_walked.kp T.b_walked .nil zav (zaa (qv 3) (zaa (zaZ zjV (qv 2) (qv 1)) zac))))
  (zab (zbA (PW.pt (znq (zbv zll (qv 5) zbg) (znK (zbv (zdT hr) (zaI (qv 3) T.k_Walk T.m_Walk_entry G_Walk_entry (hr.mono (by decide)) T.b_Walk_entry .nil zav) (zau zac))))) (zae (zam zbg)) zas)
  (zae (zam (zau (zaa (qv 4) (zaa (zaI (qv 3) T.k_Walk T.m_Walk_setup G_Walk_setup (hr.mono (by decide)) T.b_Walk_setup .nil zav) (zaa (zba (zbw (K:=K) rfl) (qv 5) zaf (fun _ _=>rfl)) (zaa (zba (zbw (K:=K) rfl) (qv 5) zaf (fun _ _=>rfl)) zac))))))))))))),?_⟩
   refine⟨m,hm,hM,fun o d H1 S1 W1 no nd=>?_⟩;have ok0:OkS m s00.1 s00.2.2:=⟨by decide,by have:=M.n1;show (0:Int)<m.length;omega,by simp,by simp⟩;walk_at "w";refine ifB.yes (zr4 e0) ?_;walk_at "w";refine ifB.dec (fun zl=>?_) (fun zl=>?_)
   ·have zl:e<l:=zl;walk_at "w";refine ifB.no (by rw [zr4 (show l<=1000 from l1)];rfl) ?_;refine⟨t,d,m,s00,W1,hm.stay (.sub S1),M,ok0,by simp,⟨e0,e1⟩,fun hA H2 k2=>?_,fun hA q2 lo2 hi2 y2 H2 la2 W2 ok2 yl2 k2 nq2 hq2=>?_⟩
    ·walk_at "w";refine⟨rfl,?_⟩;walk_at "w";refine ifB.yes rfl ?_;exact h0 H2 fun c u e=>k2 c u (S1 _ _ e) (zan e no) (zan e nd)
    ·have S02:Sub H H2:=fun c u e=>k2 c u (S1 _ _ e) (zan e no) (zan e nd)
     obtain⟨⟨dx2,ho2⟩,hd2⟩:=id W2;have yl2:y2.2.2.length<=e.toNat:=by simpa using yl2
     refine⟨rfl,?_⟩;walk_at "w";refine ifB.no rfl ?_;refine⟨_,_,_,rfl,ho2,rfl,?_⟩;refine⟨t,d,y2.1,y2.2.1,y2.2.2,W2,by omega,fun qa la ja H3 S3 pj sj hqa hla nla=>?_⟩;have W3:=W2.sub S3;refine⟨t,d,m,y2,W3,hm.stay (.sub (S02.trans S3)),M,ok2,by omega,⟨by omega,by omega⟩,fun hB H4 k4=>?_,fun hB q4 lo hi y4 H4 la4 W4 ok4 yl4 k4 nq4 hq4=>?_⟩
     ·have S04:Sub H H4:=fun c u e=>k4 c u (S3 _ _ (S02 _ _ e)) (zan e no) (zan e nd)
      refine⟨rfl,?_⟩;walk_at "w";refine ifB.yes rfl ?_;walk_at "w";refine ifB.yes rfl ?_;exact h0 H4 S04
     ·have S04:Sub H H4:=fun c u e=>k4 c u (S3 _ _ (S02 _ _ e)) (zan e no) (zan e nd)
      have st4:zfP H3 H4:=zfP.two W3 k4;obtain⟨⟨dx4,ho4⟩,hd4⟩:=id W4;refine⟨rfl,?_⟩;walk_at "w";refine ifB.no rfl ?_;refine⟨_,_,_,rfl,ho4,rfl,?_⟩;refine⟨t,d,y4.1,y4.2.1,y4.2.2,m,W4,hm.stay (.sub S04),M,ok4,fun b en H5 S5 he hoke hE=>?_⟩;refine⟨by show 0<=sizeLine;decide,?_⟩;intro p6 n6;generalize U':upd _ p6 _=H6;obtain ⟨S6,e6⟩:=zag n6 U';clear U';have S46:=S5.trans S6;refine⟨_,_,(Ent.den (e:=en) (S6 _ _ hE)),(Ent.den (e:=[]) e6),zcU _,?_⟩;rw [ze3];walk_at "w";refine ifB.dec (fun z=>?_) (fun z=>?_)
      ·subst z;exact h0 H6 (S04.trans S46)
      ·have W6:=W4.sub S46;obtain⟨⟨dx6,ho6⟩,hd6⟩:=id W6;refine⟨_,_,_,rfl,ho6,rfl,?_⟩;refine⟨t,d,y4.1,y4.2.1,y4.2.2,W6,by omega,fun qb lb jb H7 S7 pjb sjb hqb hlb nlb=>?_⟩;have S47:=S46.trans S7;refine⟨_,_,SqT.of (S47 _ _ hq4),zbi (j:=0) rfl,?_⟩;refine⟨_,_,SqT.of (S47 _ _ hq4),zbi (j:=1) rfl,?_⟩;refine⟨by show 4<=sizeLine;decide,?_⟩;intro p8 n8;generalize U':upd _ p8 _=H8;obtain ⟨S8,e8⟩:=zag n8 U';clear U';have S48:=S47.trans S8;exact h1 p8 qa qb (la,(y2.1,y2.2.1,ja)) (lb,(y4.1,y4.2.1,jb)) _ _ H8 (S04.trans S48) e8 ⟨S48 _ _ (st4.tup _ _ hqa),(hla.stay st4).sub S48⟩ ⟨S8 _ _ hqb,hlb.sub S8⟩
   ·walk_at "w";refine ifB.yes rfl ?_;exact h0 H1 S1
  ·exact h.elim
theorem zdB:zal ["machine","early","late","both"] ["machine","early","late"] (zad zbm):=by walk_at "s"
def endP (m:Ma) (s:Nat):Prop:=(tr m s s00).length=s+1/\∃ y,(tr m s s00).getLast?=some y/\ent m y.1 y.2.1 y.2.2=some []
noncomputable abbrev dB (p:Prop):Bool:=@decide p (Classical.propDecidable p)
theorem zpY {p:Prop} {b:Bool} (h:p↔b=true):dB p=b:=by
 cases b with
 | true=>exact @zr4 _ (Classical.propDecidable _) (h.2 rfl)
 | false=>exact @zr5 _ (Classical.propDecidable _) fun hp=>by cases h.1 hp
theorem zrf {p:Prop} (h:¬ p):dB p=false:=@zr5 _ (Classical.propDecidable _) h
def zeg:Sp:=fun vs H Q _=>match vs with
 | [.ref t,.int e,.int l]=>∃ m:Ma,zcE H t m/\isM m=true/\(0<=e/\e<=1000)/\(0<=l/\l<=1000)/\∀ b H',Sub H H'->Q (.bl b) H'
 | _=>False
theorem zf9 (T:Tx K mg a):zaC P w K mg base CX0 7 a.shows_ring a.shows_ring_d ["machine","early","late"] (zeg):=by
 have G_between:=zjD (P:=P) (w:=w) (base:=base) T;refine T.f_shows_ring.ok zdB (fun vs H Q E h=>?_) (fun cdv A outer s H vs Q E hr h=>?_)
 ·unfold zeg at h;split at h
  ·rfl
  ·exact h.elim
 ·unfold zeg at h;split at h
  ·have nd:=zdB.nd;have hu:=zaz hr;rename_i t e l;obtain⟨m,hm,hM,he,hl,h⟩:=h;refine⟨_,(zab (zaq (i:=3) nd rfl (by walk_at "o") (zaj G_between (hr.mono (by decide)) rfl T.g_between T.f_between.kp T.b_between .nil zav (zaa (qv 0) (zaa (qv 1) (zaa (qv 2) zac)))))
  (zae (zam (zfb (zcx ziw (qv 3) zbg (by first | exact zda _ | rfl)) (ziF (zcx (zdT hr) (zba (zbw (K:=K) rfl) (qv 3) zaf (fun _ _=>rfl)) (zba (zbw (K:=K) rfl) (qv 3) zaf (fun _ _=>rfl)) (by first | exact zda _ | rfl))))))),?_⟩
   refine⟨m,hm,hM,he,hl,fun H1 S1=>?_,fun q q1 q2 z1 z2 lo hi H1 S1 hq hz1 hz2=>?_⟩
   ·walk_at "w";refine⟨rfl,?_⟩;walk_at "w";refine ifB.no rfl ?_;exact h _ H1 S1
   ·walk_at "w";refine⟨rfl,?_⟩;walk_at "w";refine ifB.yes rfl ?_;refine⟨_,_,SqT.of hq,zbi (j:=0) rfl,?_⟩;refine⟨_,_,SqT.of hq,zbi (j:=1) rfl,?_⟩;refine⟨_,_,hz1.den,hz2.den,?_,?_⟩
    ·have:=zl5 (xs:=[z1.2])
     rw [zsq,dep,depL] at this;omega
    exact h _ H1 S1
  ·exact h.elim
theorem zdg:zal ["machine","early","late","both"] ["machine","early","late"] (zad zbe):=by walk_at "s"
def zfh:Sp:=fun vs _ _ _=>match vs with
 | [.ref _,.int _,.int _]=>False
 | _=>False
theorem zfx (T:Tx K mg a):zaC P w K mg base CX0 1 a.shows_drift a.shows_drift_d ["machine","early","late"] (zfh):=by
 refine T.f_shows_drift.ok zdg (fun vs H Q E h=>?_) (fun cdv A outer s H vs Q E hr h=>?_)
 ·unfold zfh at h;split at h
  ·rfl
  ·exact h.elim
 ·unfold zfh at h;split at h
  ·have nd:=zdg.nd;have hu:=zaz hr;exact h.elim
  ·exact h.elim
theorem zel:zal ["machine","steps","word","done","setup"] ["machine","steps"] (zad zbB):=by walk_at "s"
def zcO:Sp:=fun vs H Q _=>match vs with
 | [.ref t,.int s]=>∃ m:Ma,zcE H t m/\isM m=true/\(0<=s/\s<=1000)/\∀ H',Sub H H'->Q (.bl (dB (endP m s.toNat))) H'
 | _=>False
theorem zg7 (T:Tx K mg a):zaC P w K mg base CX0 7 a.shows_end a.shows_end_d ["machine","steps"] (zcO):=by
 have G_run:=zlJ (P:=P) (w:=w) (base:=base) T;refine T.f_shows_end.ok zel (fun vs H Q E h=>?_) (fun cdv A outer s H vs Q E hr h=>?_)
 ·unfold zcO at h;split at h
  ·rfl
  ·exact h.elim
 ·unfold zcO at h;split at h
  ·have nd:=zel.nd;have hu:=zaz hr;rename_i t st;obtain⟨m,hm,hM,⟨s0,s1⟩,h⟩:=h;refine⟨_,(zab (zbA (zc9 (zmD zhN zhN zaf (qv 1) (zg3 rfl T.c_MOST_MOMENT))) (zae (zam zcG)) zas)
  (zab (zck (zaj G_run (hr.mono (by decide)) rfl T.g_run T.f_run.kp T.b_run .nil zav (zaa (qv 0) (zaa (qv 1) zac))) (zaG (K:=K) (n:=3) rfl rfl (zak (zai (i:=2) nd rfl (by walk_at "o")) (zak (zai (i:=3) nd rfl (by walk_at "o")) (zak (zai (i:=4) nd rfl (by walk_at "o")) zaH)))))
  (zae (zam (zfb (zcx zdl (qv 2) zbz (by first | exact zda _ | rfl)) (ziF (zcx zdl (qv 3) (qv 1) (by first | exact zda _ | rfl)))))))),?_⟩
   walk_at "w";refine ifB.yes (zr4 s0) ?_;walk_at "w";refine ifB.no (by rw [zr4 (show st<=1000 from s1)];rfl) ?_;refine⟨m,hm,hM,s0,s1,fun q l x js H1 S1 hla ⟨q2,hq,_⟩ pj sj nl=>?_⟩;have hX1:1<=(tr m st.toNat (0,0,[])).length:=by
    obtain⟨r,hr⟩:=zkY m st.toNat (0,0,[]);rw [hr];simp
   refine⟨_,SqT.of hq,rfl,?_⟩;walk_at "w";by_cases z:ent m x.1 x.2.1 x.2.2=some []
   ·have hw:wd m x="ends":=by unfold wd;rw [zsB z]
    rw [hw];refine ifB.yes (by decide +kernel) ?_;have hh:=h H1 S1;rw [zpY (b:=decide ((((tr m st.toNat (0,0,[])).length:Int)-1)=st)) ⟨fun hp=>zr4 (by have:(tr m st.toNat (0,0,[])).length=st.toNat+1:=hp.1;omega),fun hb=>⟨by have:=zsH hb;show (tr m st.toNat (0,0,[])).length=_;omega,x,hla,z⟩⟩] at hh;exact hh
   ·have hw:wd m x="on":=by unfold wd;rw [zsA z]
    rw [hw];refine ifB.no (by decide +kernel) ?_;have hh:=h H1 S1;rw [zrf (fun hp=>by obtain⟨_,y,hy,hz⟩:=hp;rw [hla] at hy;cases hy;exact z hz)] at hh;exact hh
  ·exact h.elim
theorem zdS:zal ["machine","depth"] ["machine","depth"] (zad zbq):=by walk_at "s"
def zgb:Sp:=fun vs _ _ _=>match vs with
 | [.ref _,.int _]=>False
 | _=>False
theorem zgw (T:Tx K mg a):zaC P w K mg base CX0 1 a.shows_back a.shows_back_d ["machine","depth"] (zgb):=by
 refine T.f_shows_back.ok zdS (fun vs H Q E h=>?_) (fun cdv A outer s H vs Q E hr h=>?_)
 ·unfold zgb at h;split at h
  ·rfl
  ·exact h.elim
 ·unfold zgb at h;split at h
  ·have nd:=zdS.nd;have hu:=zaz hr;exact h.elim
  ·exact h.elim
theorem zdy:zal ["machine","paper","kind","width","lefts","rights","middles","noughts","left_words","right_words","all_middles"] ["machine","paper"] (zad zbs):=by walk_at "s"
def zgZ:Sp:=fun vs _ _ _=>match vs with
 | [.ref _,.ref _]=>False
 | _=>False
theorem zgq (T:Tx K mg a):zaC P w K mg base CX0 1 a.shows_shut a.shows_shut_d ["machine","paper"] (zgZ):=by
 refine T.f_shows_shut.ok zdy (fun vs H Q E h=>?_) (fun cdv A outer s H vs Q E hr h=>?_)
 ·unfold zgZ at h;split at h
  ·rfl
  ·exact h.elim
 ·unfold zgZ at h;split at h
  ·have nd:=zdy.nd;have hu:=zaz hr;exact h.elim
  ·exact h.elim
theorem zi4:zal ["machine","paper","kind"] ["machine","paper"] (zad zdj):=by walk_at "s"
def zeG:Sp:=fun vs H Q _=>match vs with
 | [.ref t,.ref p]=>∃ m:Ma,zcE H t m/\isM m=true /\
   ((∃ e l:Int,H p=some (.tup [.str "ring",.int e,.int l])/\(0<=e/\e<=1000)/\(0<=l/\l<=1000)/\∀ b H',Sub H H'->Q (.bl b) H') \/ (∃ s:Int,H p=some (.tup [.str "ends",.int s])/\(0<=s/\s<=1000)/\∀ H',Sub H H'->Q (.bl (dB (endP m s.toNat))) H'))
 | _=>False
theorem zmh (T:Tx K mg a):zaC P w K mg base CX0 8 a.shows a.shows_d ["machine","paper"] (zeG):=by
 have G_shows_end:=zg7 (P:=P) (w:=w) (base:=base) T;have G_shows_ring:=zf9 (P:=P) (w:=w) (base:=base) T;have G_shows_drift:=zfx (P:=P) (w:=w) (base:=base) T;have G_shows_back:=zgw (P:=P) (w:=w) (base:=base) T;have G_shows_shut:=zgq (P:=P) (w:=w) (base:=base) T;have G_must_machine:=(za4 (P:=P) (w:=w) (base:=base) T).noE;refine T.f_shows.ok zi4 (fun vs H Q E h=>?_) (fun cdv A outer s H vs Q E hr h=>?_)
 ·unfold zeG at h;split at h
  ·rfl
  ·exact h.elim
 ·unfold zeG at h;split at h
  ·have nd:=zi4.nd;have hu:=zaz hr;rename_i t p;obtain⟨m,hm,hM,h⟩:=h;refine⟨_,(zab (zaS (zaj G_must_machine (hr.mono (by decide)) rfl T.g_must_machine T.f_must_machine.kp T.b_must_machine .nil zav (zaa (qv 0) zac)))
  (zab (zaq (i:=2) nd rfl (by walk_at "o") (zba (zbw (K:=K) rfl) (qv 1) zaf (fun _ _=>rfl)))
  (zab (zbA (zbv zdl (qv 2) zbz) (zae (zam (zaj G_shows_end (hr.mono (by decide)) rfl T.g_shows_end T.f_shows_end.kp T.b_shows_end .nil zav (zaa (qv 0) (zaa (zba (zbw (K:=K) rfl) (qv 1) zaf (fun _ _=>rfl)) zac))))) zas)
  (zab (zbA (zbv zdl (qv 2) zbz) (zae (zam (zaj G_shows_ring (hr.mono (by decide)) rfl T.g_shows_ring T.f_shows_ring.kp T.b_shows_ring .nil zav (zaa (qv 0) (zaa (zba (zbw (K:=K) rfl) (qv 1) zaf (fun _ _=>rfl)) (zaa (zba (zbw (K:=K) rfl) (qv 1) zaf (fun _ _=>rfl)) zac)))))) zas)
  (zab (zbA (zbv zdl (qv 2) zbz) (zae (zam (zaj G_shows_drift (hr.mono (by decide)) rfl T.g_shows_drift T.f_shows_drift.kp T.b_shows_drift .nil zav (zaa (qv 0) (zaa (zba (zbw (K:=K) rfl) (qv 1) zaf (fun _ _=>rfl)) (zaa (zba (zbw (K:=K) rfl) (qv 1) zaf (fun _ _=>rfl)) zac)))))) zas)
  (zab (zbA (zbv zdl (qv 2) zbz) (zae (zam (zaj G_shows_back (hr.mono (by decide)) rfl T.g_shows_back T.f_shows_back.kp T.b_shows_back .nil zav (zaa (qv 0) (zaa (zba (zbw (K:=K) rfl) (qv 1) zaf (fun _ _=>rfl)) zac))))) zas)
  (zab (zbA (zbv zdl (qv 2) zbz) (zae (zam (zaj G_shows_shut (hr.mono (by decide)) rfl T.g_shows_shut T.f_shows_shut.kp T.b_shows_shut .nil zav (zaa (qv 0) (zaa (qv 1) zac))))) zas)
  (zae (zam zcG))))))))),?_⟩
   refine⟨m,hm,zly hM,fun _ H1 S1=>?_,fun z=>by rw [hM] at z;cases z⟩;have hm1:=hm.stay (.sub S1);rcases h with ⟨e,l,hp,he,hl,h⟩ | ⟨st,hp,hs,h⟩
   ·have hp:=S1 _ _ hp;obtain⟨wd,hwd⟩:∃ wd:Str,wd="ring":=⟨_,rfl⟩;rw [← hwd] at hp;refine⟨_,_,SqT.of hp,zbi (j:=0) rfl,?_⟩;walk_at "w";refine ifB.no (by rw [hwd];decide +kernel) ?_;walk_at "w";refine ifB.yes (by rw [hwd];decide +kernel) ?_;refine⟨_,_,SqT.of hp,zbi (j:=1) rfl,?_⟩;refine⟨_,_,SqT.of hp,zbi (j:=2) rfl,?_⟩;walk_at "w";exact⟨m,hm1,hM,he,hl,fun b H2 S2=>h b H2 (S1.trans S2)⟩
   ·have hp:=S1 _ _ hp;obtain⟨wd,hwd⟩:∃ wd:Str,wd="ends":=⟨_,rfl⟩;rw [← hwd] at hp;refine⟨_,_,SqT.of hp,zbi (j:=0) rfl,?_⟩;walk_at "w";refine ifB.yes (by rw [hwd];decide +kernel) ?_;refine⟨_,_,SqT.of hp,zbi (j:=1) rfl,?_⟩;walk_at "w";exact⟨m,hm1,hM,hs,fun H2 S2=>h H2 (S1.trans S2)⟩
  ·exact h.elim
theorem zeN:zal ["machine","paper","kind"] ["machine","paper"] (zad zdj):=by walk_at "s"
theorem zh5 (T:Tx K mg a):zaC P w K mg base (CXE P w) 5 a.shows a.shows_d ["machine","paper"] (zax a):=by
 have G_must_machine:=zaN (P:=P) (w:=w) (base:=base) T;refine T.f_shows.okE zeN (fun vs H Q E h=>?_) (fun cdv A outer s H vs Q E hr h=>?_)
 ·unfold zax at h;split at h
  ·rfl
  ·exact h.elim
 ·unfold zax at h;split at h
  ·have nd:=zeN.nd;have hu:=zaz hr;rename_i t v;refine⟨_,(zab (zaS (zaj G_must_machine (hr.mono (by decide)) rfl T.g_must_machine T.f_must_machine.kp T.b_must_machine .nil zat (zaa (qv 0) zac)))
  zaO),?_⟩
   walk_at "w";exact h
  ·exact h.elim
theorem zma:True:=True.intro
theorem zgA (T:Tx K mg a):zaC P w K mg base (CXE P w) 9 a.shows a.shows_d ["machine","paper"] (fun vs H Q E=>(zeG) vs H Q E\/(zax a) vs H Q E):=zaC.or0 (zmh T) (zh5 T) (by decide) (by decide)
theorem zdI:zal ["entry","sign","way","row"] ["entry"] (zad zbr):=by walk_at "s"
abbrev wS (w:Int):Str:=if w=1 then "R" else "L"
abbrev rS (r:Int):Str:=if r=0 then "A" else if r=1 then "B" else if r=2 then "C" else "D"
def zlN:En->Str
 | [s,w,r]=>(Str.ofString (toString s)++wS w)++rS r
 | _=>"---"
def zcv:Sp:=fun vs H Q _=>match vs with
 | [.ref b]=>∃ e:En,Ent H b e/\zaM 4 4 e=true/\∀ H',Sub H H'->Q (.str (zlN e)) H'
 | _=>False
theorem zmH {i:Int} (h0:0<=i) (h1:i<4):i.natAbs.log2<1920:=by
 by_cases z:i.natAbs=0
 ·rw [z];decide
 ·exact Nat.lt_trans ((Nat.log2_lt z).2 (show _<2 ^ 10 by show _<1024;omega)) (by decide)
theorem zn3 (w:Int):(wS w).length<=1:=by
 unfold wS;split
 ·decide +kernel
 ·decide +kernel
theorem znS (r:Int):(rS r).length<=1:=by
 unfold rS;split
 ·decide +kernel
 ·split
  ·decide +kernel
  ·split
   ·decide +kernel
   ·decide +kernel
theorem zgh (T:Tx K mg a):zaC P w K mg base CX0 1 a.show_entry a.show_entry_d ["entry"] (zcv):=by
 refine T.f_show_entry.ok zdI (fun vs H Q E h=>?_) (fun cdv A outer s H vs Q E hr h=>?_)
 ·unfold zcv at h;split at h
  ·rfl
  ·exact h.elim
 ·unfold zcv at h;split at h
  ·have nd:=zdI.nd;have hu:=zaz hr;rename_i b;obtain⟨e,hb,hok,h⟩:=h;refine⟨_,(zab (zbA (zbv (zdT hr) (qv 0) (zau zac)) (zae (zam (zg3 rfl T.c_NO_ENTRY))) zas)
  (zab (zck (qv 0) (zaG (K:=K) (n:=3) rfl rfl (zak (zai (i:=1) nd rfl (by walk_at "o")) (zak (zai (i:=2) nd rfl (by walk_at "o")) (zak (zai (i:=3) nd rfl (by walk_at "o")) zaH)))))
  (zae (zam (zrm (znQ (qv 1)) (znQ (zlX (K:=K) rfl (zbO (v:=V.ref a.WAYS) rfl T.g_WAYS rfl) (qv 2) (fun _ _=>rfl))) (znQ (zba (zbw (K:=K) rfl) (zbO (v:=V.ref a.ROWS) rfl T.g_ROWS rfl) (qv 3) (fun _ _=>rfl)))))))),?_⟩
   refine⟨by show 0<=sizeLine;decide,?_⟩;intro p1 n1;generalize U':upd _ p1 _=H1;obtain ⟨S1,e1⟩:=zag n1 U';clear U';refine⟨_,_,(Ent.den (e:=e) (S1 _ _ hb)),(Ent.den (e:=[]) e1),zcU _,?_⟩;rw [ze3];walk_at "w";refine ifB.dec (fun z=>?_) (fun z=>?_)
   ·subst z;exact h H1 S1
   ·obtain⟨s',w',r',rfl,a0,a1,a2,a3,a4⟩:=zaD hok z;refine⟨_,SqT.of (S1 _ _ hb),rfl,?_⟩;refine⟨zmH a0 a1,?_⟩;refine⟨zsd (zlF a0 (by omega)) (by decide),?_⟩;refine⟨_,wS w',T.d_WAYS,?_,?_⟩
    ·rcases a2 with rfl | rfl <;> rfl
    refine⟨zsd (zn3 w') (by decide),?_⟩;refine⟨zsd (zn3 w') (by decide),?_⟩;refine⟨_,.str (rS r'),T.d_ROWS _,?_,?_⟩
    ·have:r'=0\/r'=1\/r'=2\/r'=3:=by omega
     rcases this with rfl | rfl | rfl | rfl <;> rfl
    refine⟨zsd (znS r') (by decide),?_⟩;refine⟨zsd (znS r') (by decide),?_⟩;exact h H1 S1
  ·exact h.elim
theorem zcV:zal ["machine"] ["machine"] (zad zaX):=by walk_at "s"
abbrev zlO (es:List En):Str:=Txt.join "," (es.map zlN)
abbrev txtM (m:Ma):Str:=Txt.join " " (m.map zlO)
def zbu (a:Ad):Sp:=fun vs H Q E=>match vs with
 | [.ref b]=>∃ m:Ma,zcE H b m/\Bd 100 m/\(isM m=true->∀ H',Sub H H'->Q (.str (txtM m)) H')/\(isM m=false->∀ H',Sub H H'->E (.ref a.NoMachine) none H')
 | _=>False
theorem zfp:∀ l:List Str,zjU (l.map V.str)=some l
 | []=>rfl
 | x::l=>by
  show (zjU (l.map V.str)).map (x::·)=_
  rw [zfp l]
  rfl
theorem zlD (k:Nat):∀ l:List Str,(∀ x∈l,x.length<=k)->(l.map (·.length)).sum<=k*l.length
 | [],_=>by simp
 | x::l,h=>by
  have h1:=h x (by simp);have h2:=zlD k l fun y hy=>h y (by simp [hy])
  rw [zsq,List.sum_cons,zsz,Nat.mul_succ];omega
theorem zd4 {m:Ma} (M:OkM m) {es:List En} (h:es∈m) {e:En} (he:e∈es):zaM 4 4 e=true:=by
 have:=M.ent es h e he
 have h1:=M.n4;have h2:=M.s4;by_cases z:e=[]
 ·subst z;rfl
 ·obtain⟨s,w,r,rfl,a0,a1,a2,a3,a4⟩:=zaD this z;show ((decide (0<=s) && decide (s<4)) && (decide (w=-1) || decide (w=1)) && (decide (0<=r) && decide (r<4)))=true;have b1:s<4:=by omega
  have b2:r<4:=by omega
  simp [a0,b1,a2,a3,b2]
theorem zqV {e:En} (h:zaM 4 4 e=true):(zlN e).length<=6:=by
 by_cases z:e=[]
 ·subst z;decide +kernel
 ·obtain⟨s,w,r,rfl,a0,a1,a2,a3,a4⟩:=zaD h z;show ((Str.ofString (toString s)++wS w)++rS r).length<=6;rw [zdr,zdr]
  have:=zlF a0 (by omega:s<=1000)
  have:=zn3 w
  have:=znS r
  omega
theorem zlv {es:List En} (h:∀ e∈es,zaM 4 4 e=true) (hl:es.length<=4):((es.map zlN).map (·.length)).sum+(es.map zlN).length*(Str.ofString ",").length<=28:=by
 have h1:=zlD 6 (es.map zlN) fun x hx=>by
  obtain⟨e,he,rfl⟩:=zsg.1 hx;exact zqV (h e he)
 have h2:(Str.ofString ",").length=1:=by decide +kernel
 rw [zrY] at h1 ⊢;rw [h2];omega
theorem zoT {es:List En} (h:∀ e∈es,zaM 4 4 e=true) (hl:es.length<=4):(zlO es).length<=28:=zsd (zkB _ _) (zlv h hl)
theorem zmu {m:Ma} (M:OkM m):((m.map zlO).map (·.length)).sum+(m.map zlO).length*(Str.ofString " ").length<=16777216:=by
 have h1:=zlD 28 (m.map zlO) fun x hx=>by
  obtain⟨es,he,rfl⟩:=zsg.1 hx;exact zoT (fun e hee=>zd4 M he hee) (by rw [M.len es he];exact M.s4)
 have h2:(Str.ofString " ").length=1:=by decide +kernel
 have h3:=M.n4;rw [zrY] at h1 ⊢;rw [h2];omega
theorem zeW (T:Tx K mg a):zaC P w K mg base (CXE P w) 5 a.show_machine a.show_machine_d ["machine"] (zbu a):=by
 have G_must_machine:=za4 (P:=P) (w:=w) (base:=base) T;have G_show_entry:=zgh (P:=P) (w:=w) (base:=base) T;refine T.f_show_machine.okE zcV (fun vs H Q E h=>?_) (fun cdv A outer s H vs Q E hr h=>?_)
 ·unfold zbu at h;split at h
  ·rfl
  ·exact h.elim
 ·unfold zbu at h;split at h
  ·have nd:=zcV.nd;have hu:=zaz hr;rename_i b;obtain⟨m,hm,hb,h1,h2⟩:=h;refine⟨_,(zab (zaS (zaj G_must_machine (hr.mono (by decide)) rfl T.g_must_machine T.f_must_machine.kp T.b_must_machine .nil zat (zaa (qv 0) zac)))
  (zae (zam (znl (K:=K) rfl PySem.F.plainAttrs_str PySem.F.slot_str_join PySem.F.type_str_join (zjp (K:=K) rfl) zbz (zaa (zgd (own:=["row"]) (fr:=[]) rfl (by walk_at "comp_ok") (zaJ (K:=K) rfl (qv 0)) (fun _ _ _ _=>(zai (i:=0) (show List.Nodup (α:=Str) ["row"] from by decide +kernel) rfl (by walk_at "o"))) (fun _ _ _ _=>zbP) (fun _ _ _ _=>(znl (K:=K) rfl PySem.F.plainAttrs_str PySem.F.slot_str_join PySem.F.type_str_join (zjp (K:=K) rfl) zbz (zaa (zgd (own:=["entry"]) (fr:=[]) rfl (by walk_at "comp_ok") (zaJ (K:=K) rfl (qv 0)) (fun _ _ _ _=>(zai (i:=0) (show List.Nodup (α:=Str) ["entry"] from by decide +kernel) rfl (by walk_at "o"))) (fun _ _ _ _=>zbP) (fun _ _ _ _=>(zaj G_show_entry (hr.mono (by decide)) rfl T.g_show_entry T.f_show_entry.kp T.b_show_entry .nil zav (zaa (qv 0) zac)))) zac)))) zac))))),?_⟩
   refine⟨m,hm,hb,fun hM H1 S1=>?_,h2⟩;have M:=OkM.of hM;obtain⟨rs,hr⟩:=zcE.stay (.sub S1) hm;have hn4:=M.n4;have hs4:=M.s4;refine⟨rfl,?_⟩;refine⟨⟨_,SqL.of hr.1⟩,?_⟩;intro pc npc;refine za3 (K:=K) (a:=b) (xs:=rs.map V.ref) (fun i σ H4=>∃ v,σ=[v]/\Sub H1 H4/\H4 pc=some (.lst (((m.map zlO).take i).map V.str))) ?_ ?_ ?_ ?_
   ·exact⟨none,rfl,Sub.new npc,zah⟩
   ·rintro i σ H4 _ ⟨v,rfl,S4,_⟩;exact SqL.of (S4 _ _ hr.1)
   ·rintro i x σ H4 hi ⟨v,rfl,S4,g4⟩;rw [zrZ] at hi;obtain⟨c,hc,rfl⟩:=zr1.1 hi;obtain⟨es,he,as,hE,hA⟩:=hr.2.2.at hc;have hem:=zr3 he;have hel:=M.len es hem;have hil:i<m.length:=(zr2.1 he).1;refine⟨rfl,?_⟩;refine⟨⟨_,SqL.of (S4 _ _ hE)⟩,?_⟩;intro pd npd;refine za3 (K:=K) (a:=c) (xs:=as.map V.ref) (fun j σ H5=>∃ v,σ=[v]/\Sub H4 H5/\H5 pd=some (.lst (((es.map zlN).take j).map V.str))) ?_ ?_ ?_ ?_
    ·exact⟨none,rfl,Sub.new npd,zah⟩
    ·rintro j σ H5 _ ⟨v,rfl,S5,_⟩;exact SqL.of ((S4.trans S5) _ _ hE)
    ·rintro j x σ H5 hj ⟨v,rfl,S5,g5⟩;rw [zrZ] at hj;obtain⟨d,hd,rfl⟩:=zr1.1 hj;obtain⟨e,hee,hEe⟩:=hA.at hd;have hjl:j<es.length:=(zr2.1 hee).1;refine⟨e,(S4.trans S5) _ _ hEe,zd4 M hem (zr3 hee),fun H6 S6=>?_⟩;refine⟨_,S6 _ _ g5,?_,_,rfl,(S5.trans S6).upd npd,?_⟩
     ·rw [zrY,zsm];exact zsc (Nat.min_le_left _ _) (Nat.lt_trans hjl (zsc (show es.length<=4 by omega) (by decide)))
     ·rw [zah,zsk,show (es.map zlN)[j]?=some (zlN e) by rw [zrZ,hee];rfl,zr6]
      rfl
    ·rintro σ H5 ⟨v,rfl,S5,g5⟩;rw [zrY,hA.1,← zrY (f:=zlN),zsj] at g5;refine⟨_,_,SqL.of g5,zfp _,zsd (zlv (fun e hee=>zd4 M hem hee) (by omega)) (by decide),?_⟩;have npc5:H5 pc=some (.lst (((m.map zlO).take i).map V.str)):=S5 _ _ g4;refine⟨_,npc5,?_,_,rfl,(S4.trans S5).upd npc,?_⟩
     ·rw [zrY,zsm];exact zsc (Nat.min_le_left _ _) (zsf hil (zsd hn4 (by decide)))
     ·rw [zah,zsk,show (m.map zlO)[i]?=some (zlO es) by rw [zrZ,he];rfl,zr6]
      rfl
   ·rintro σ H4 ⟨v,rfl,S4,g4⟩;rw [zrY,hr.2.2.1,← zrY (f:=zlO),zsj] at g4;refine⟨_,_,SqL.of g4,zfp _,zmu M,?_⟩;exact h1 hM H4 (S1.trans S4)
  ·exact h.elim
theorem zcb:zal ["machine"] ["machine"] (zad zaX):=by walk_at "s"
theorem zdN (T:Tx K mg a):zaC P w K mg base (CXE P w) 5 a.show_machine a.show_machine_d ["machine"] (zcT a):=by
 have G_must_machine:=zaN (P:=P) (w:=w) (base:=base) T;refine T.f_show_machine.okE zcb (fun vs H Q E h=>?_) (fun cdv A outer s H vs Q E hr h=>?_)
 ·unfold zcT at h;split at h
  ·rfl
  ·exact h.elim
 ·unfold zcT at h;split at h
  ·have nd:=zcb.nd;have hu:=zaz hr;rename_i t;refine⟨_,(zab (zaS (zaj G_must_machine (hr.mono (by decide)) rfl T.g_must_machine T.f_must_machine.kp T.b_must_machine .nil zat (zaa (qv 0) zac)))
  zaO),?_⟩
   walk_at "w";exact h
  ·exact h.elim
theorem zhL:True:=True.intro
theorem zc5 (T:Tx K mg a):zaC P w K mg base (CXE P w) 6 a.show_machine a.show_machine_d ["machine"] (fun vs H Q E=>(zbu a) vs H Q (fun _ _ _=>False)\/(zcT a) vs H Q E):=zaC.or0 (zeW T).noE (zdN T) (by decide) (by decide)
theorem zdi:zal ["machine","most","met","row","place","sign"] ["machine","most"] (zad za7):=by walk_at "s"
def zoC (q:Int × Int):NK:=.tup [.int q.1,.int q.2]
theorem zmc (kvs:List (NK × Addr × V)) (k:NK) (b:Addr) (v:V):(zo4 kvs k b v).length<=kvs.length+1:=by
 unfold zo4;split
 ·rw [zrY];omega
 ·rw [zr8];exact zse _
theorem zfz (T:Tx K mg a):zaC P w K mg base CX0 7 a.met_entries a.met_entries_d ["machine","most"] (za2):=by
 have G_looks:=zeD (P:=P) (w:=w) (base:=base) T;refine T.f_met_entries.ok zdi (fun vs H Q E h=>?_) (fun cdv A outer s H vs Q E hr h=>?_)
 ·unfold za2 at h;split at h
  ·rfl
  ·exact h.elim
 ·unfold za2 at h;split at h
  ·have nd:=zdi.nd;have hu:=zaz hr;rename_i t most;obtain⟨m,hm,hM,hm0,hm1,h⟩:=h;refine⟨_,(zab (zaq (i:=2) nd rfl (by walk_at "o") zdF)
  (zab (zby PassesOwn.never rfl (zaJ (K:=K) rfl (zaj G_looks (hr.mono (by decide)) rfl T.g_looks T.f_looks.kp T.b_looks .nil zav (zaa (qv 0) (zaa (qv 1) zac)))) (zaG (K:=K) (n:=3) rfl rfl (zak (zai (i:=3) nd rfl (by walk_at "o")) (zak (zai (i:=4) nd rfl (by walk_at "o")) (zak (zai (i:=5) nd rfl (by walk_at "o")) zaH)))) (zae (ziO hr (qv 2) (zau (zaa (qv 3) (zaa (qv 5) zac))) zcG rfl)))
  (zae (zam (zb5 (zoM rfl) rfl T.z_list zim (zaa (qv 2) zac)))))),?_⟩
   walk_at "w";intro d H1 nd1 hH1 D1;have S1:Sub H H1:=by rw [hH1];exact Sub.new nd1
   clear hH1;refine⟨m,hm.stay (.sub S1),hM,hm0,hm1,fun f ts H2 S2 hf hA nf=>?_⟩;refine⟨⟨_,SqL.of hf⟩,?_⟩;obtain⟨xs1,hd1,_⟩:=D1.ex;have nfd:f≠d:=by rintro rfl;rw [hd1] at nf;cases nf
   have hXl:=zfj m most.toNat (0,0,[]);refine zd0 (K:=K) (a:=f) (xs:=ts.map V.ref) (fun i σ H5=>∃ (v3 v4 v5:Option V) (kvs:List (NK × Addr × V)),σ=[some (.ref t),some (.int most),some (.ref d),v3,v4,v5]/\(∀ c u,H2 c=some u->c≠d->H5 c=some u)/\DNx H5 d kvs/\kvs.length<=i) ?_ ?_ ?_ ?_
   ·exact⟨none,none,none,[],rfl,fun c u e _=>e,D1.sub S2,zse _⟩
   ·rintro i σ H5 _ ⟨v3,v4,v5,kvs,rfl,k5,_⟩;exact SqL.of (k5 _ _ hf nfd)
   ·rintro i x σ H5 hi ⟨v3,v4,v5,kvs,rfl,k5,D5,hkl⟩;rw [zrZ] at hi;obtain⟨c,hc,rfl⟩:=zr1.1 hi;obtain⟨z,hz,hL⟩:=hA.at hc;have hil:=(zr2.1 hz).1;obtain⟨xs2,hd2,_⟩:=(D1.sub S2).ex;have hc5:H5 c=some (.tup [.int z.1,.int z.2.1,.int ((zcd z.2.2 z.2.1).getD 0)]):=k5 _ _ hL (by rintro rfl;rw [zl3,hd2] at hL;cases hL);refine⟨_,SqT.of hc5,rfl,?_⟩;refine⟨by show 2<=sizeLine;decide,?_⟩;intro p6 n6;generalize U':upd _ p6 _=H6;obtain ⟨S6,e6⟩:=zag n6 U';clear U';refine⟨d,p6,zoC (z.1,(zcd z.2.2 z.2.1).getD 0),kvs,rfl,rfl,by unfold zoC;simp [NK.dep,NK.depL],?_,D5.sub S6,zsc (show kvs.length<=1001 by omega) (by decide),fun H7 k7 _ D7=>?_⟩
    ·unfold zoC;rw [zbU];exact⟨p6,_,rfl,e6,⟨_,_,rfl,by rw [zbU],⟨_,_,rfl,by rw [zbU],rfl⟩⟩⟩
    ·exact⟨_,_,_,_,rfl,fun c u e ne=>k7 _ _ (S6 _ _ (k5 c u e ne)) ne,D7,zsd (zmc _ _ _ _) (Nat.succ_le_succ hkl)⟩
   ·rintro σ H5 ⟨v3,v4,v5,kvs,rfl,k5,D5,hkl⟩;refine⟨kvs,D5,?_⟩;intro p6 n6;generalize U':upd _ p6 _=H6;obtain ⟨S6,e6⟩:=zag n6 U';clear U';have S05:Sub H H5:=fun c u e=>k5 _ _ (S2 _ _ (S1 _ _ e)) (by rintro rfl;rw [nd1] at e;cases e)
    exact h _ H6 (S05.trans S6)
  ·exact h.elim
theorem zci:zal ["machine","most","met","row","place","sign"] ["machine","most"] (zad za7):=by walk_at "s"
theorem zee (T:Tx K mg a):zaC P w K mg base (CXE P w) 7 a.met_entries a.met_entries_d ["machine","most"] (zax a):=by
 have G_looks:=zcs (P:=P) (w:=w) (base:=base) T;refine T.f_met_entries.okE zci (fun vs H Q E h=>?_) (fun cdv A outer s H vs Q E hr h=>?_)
 ·unfold zax at h;split at h
  ·rfl
  ·exact h.elim
 ·unfold zax at h;split at h
  ·have nd:=zci.nd;have hu:=zaz hr;rename_i t v;refine⟨_,(zab (zaq (i:=2) nd rfl (by walk_at "o") zdF)
  (zab (zg0 (zaJ (K:=K) rfl (zaj G_looks (hr.mono (by decide)) rfl T.g_looks T.f_looks.kp T.b_looks .nil zat (zaa (qv 0) (zaa (qv 1) zac)))))
  zaO)),?_⟩
   walk_at "w";intro d H1 nd1 hH1 D1;have S1:Sub H H1:=by rw [hH1];exact Sub.new nd1
   clear hH1;walk_at "w";exact h.sub S1
  ·exact h.elim
theorem zis:True:=True.intro
theorem zdo (T:Tx K mg a):zaC P w K mg base (CXE P w) 7 a.met_entries a.met_entries_d ["machine","most"] (fun vs H Q E=>(za2) vs H Q E\/(zax a) vs H Q E):=zaC.or0 (zfz T) (zee T) (by decide) (by decide)
theorem zg9:zal ["machine","most","counts","row","place","sign"] ["machine","most"] (zad zcu):=by walk_at "s"
def zlS (ks:Mk2) (p:Int):Mk2:=zfy ks p ((zcd ks p).getD 0+1)
def zrt (m:Ma) (N:Nat):Mk2:=((tr m N s00).map (·.2.1)).foldl zlS []
theorem zpK:∀ (l:List Int) (ks:Mk2),(ks.map (·.1)).Nodup->((l.foldl zlS ks).map (·.1)).Nodup
 | [],ks,h=>h
 | p::l,ks,h=>zpK l _ (zdJ h)
theorem ziz:∀ (l:List Int) (ks:Mk2),(l.foldl zlS ks).length<=ks.length+l.length
 | [],ks=>zse _
 | p::l,ks=>by
  have:=ziz l (zlS ks p)
  have h2:=zgR ks p ((zcd ks p).getD 0+1);rw [List.foldl_cons,zsz];unfold zlS at this ⊢;omega
def zdQ:Sp:=fun vs H Q _=>match vs with
 | [.ref t,.int most]=>∃ m:Ma,zcE H t m/\isM m=true/\0<=most/\most<=1000/\∀ (l:Addr) (js:Mk2) (H':Hp),Sub H H'->H l=none->zec H' l js->js.Perm (zrt m most.toNat)->Srt js->Q (.ref l) H'
 | _=>False
theorem zkq (T:Tx K mg a):zaC P w K mg base CX0 7 a.visits a.visits_d ["machine","most"] (zdQ):=by
 have G_looks:=zeD (P:=P) (w:=w) (base:=base) T;refine T.f_visits.ok zg9 (fun vs H Q E h=>?_) (fun cdv A outer s H vs Q E hr h=>?_)
 ·unfold zdQ at h;split at h
  ·rfl
  ·exact h.elim
 ·unfold zdQ at h;split at h
  ·have nd:=zg9.nd;have hu:=zaz hr;rename_i t most;obtain⟨m,hm,hM,hm0,hm1,h⟩:=h;have M:=OkM.of hM;refine⟨_,(zab (zaq (i:=2) nd rfl (by walk_at "o") zi8)
  (zab (zby PassesOwn.never rfl (zaJ (K:=K) rfl (zaj G_looks (hr.mono (by decide)) rfl T.g_looks T.f_looks.kp T.b_looks .nil zav (zaa (qv 0) (zaa (qv 1) zac)))) (zaG (K:=K) (n:=3) rfl rfl (zak (zai (i:=3) nd rfl (by walk_at "o")) (zak (zai (i:=4) nd rfl (by walk_at "o")) (zak (zai (i:=5) nd rfl (by walk_at "o")) zaH)))) (zae (ziy hu (qv 2) (qv 4) (zaZ zc6 (zgj hu (qv 2) (qv 4) zaf ⟨rfl,rfl,rfl,rfl⟩) zaf) rfl)))
  (zae (zam (zaw (znx rfl) rfl T.z_sorted zdP (zaa (znu PySem.F.plainAttrs_dict PySem.F.slot_dict_items PySem.F.type_dict_items zkr (qv 2)) zac)))))),?_⟩
   walk_at "w";intro d nd1;have S1:Sub H (upd H d (.dK [])):=Sub.new nd1;have hd1:(upd H d (.dK [])) d=some (.dK (dcI (iv []))):=zah;generalize upd H d (.dK [])=H1 at S1 hd1;refine⟨m,hm.stay (.sub S1),hM,hm0,hm1,fun f ts H2 S2 hf hA nf=>?_⟩;refine⟨⟨_,SqL.of hf⟩,?_⟩;have nfd:f≠d:=by rintro rfl;rw [hd1] at nf;cases nf
   have hXl:(tr m most.toNat s00).length<=most.toNat+1:=zfj m most.toNat (0,0,[]);refine zd0 (K:=K) (a:=f) (xs:=ts.map V.ref) (fun i σ H5=>∃ (v3 v4 v5:Option V),σ=[some (.ref t),some (.int most),some (.ref d),v3,v4,v5]/\(∀ c u,H2 c=some u->c≠d->H5 c=some u)/\H5 d=some (.dK (dcI (iv ((((tr m most.toNat s00).take i).map (·.2.1)).foldl zlS []))))) ?_ ?_ ?_ ?_
   ·exact⟨none,none,none,rfl,fun c u e _=>e,S2 _ _ hd1⟩
   ·rintro i σ H5 _ ⟨v3,v4,v5,rfl,k5,_⟩;exact SqL.of (k5 _ _ hf nfd)
   ·rintro i x σ H5 hi ⟨v3,v4,v5,rfl,k5,hd5⟩;rw [zrZ] at hi;obtain⟨c,hc,rfl⟩:=zr1.1 hi;obtain⟨z,hz,hL⟩:=hA.at hc;have hz:(tr m most.toNat s00)[i]?=some z:=hz;have hil:i<(tr m most.toNat s00).length:=(zr2.1 hz).1;have hc5:H5 c=some (.tup [.int z.1,.int z.2.1,.int ((zcd z.2.2 z.2.1).getD 0)]):=k5 _ _ hL (by rintro rfl;rw [zl3,S2 _ _ hd1] at hL;cases hL);have hvl:=ziz (((tr m most.toNat s00).take i).map (·.2.1)) []
    rw [zrY,zsm] at hvl;have hst:(((tr m most.toNat s00).take (i+1)).map (·.2.1)).foldl zlS []=zlS ((((tr m most.toNat s00).take i).map (·.2.1)).foldl zlS []) z.2.1:=by
     rw [zsk,hz,zr6,List.foldl_append];rfl
    generalize (((tr m most.toNat s00).take i).map (·.2.1)).foldl zlS []=ks at hd5 hvl hst
    refine⟨_,SqT.of hc5,rfl,?_⟩;refine⟨_,rfl,.inl ⟨_,.inl hd5⟩,?_⟩;refine⟨_,zmQ.k (k:=.inl z.2.1) hd5,?_⟩;rw [zj7,show ((zcd ks z.2.1).map V.int).getD (V.int 0)=V.int ((zcd ks z.2.1).getD 0) by cases zcd ks z.2.1 <;> rfl];refine⟨_,_,rfl,zoL.k (k:=.inl z.2.1) hd5 ?_,?_⟩
    ·rw [zrY,zrY];exact zsc (show ks.length<=1001 by simp at hvl;omega) (by decide)
    rw [zm7];refine⟨_,_,_,rfl,fun c u e ne=>by rw [zao ne];exact k5 c u e ne,?_⟩;rw [zah,hst]
    rfl
   ·rintro σ H5 ⟨v3,v4,v5,rfl,k5,hd5⟩;have hall:ts.length=(tr m most.toNat s00).length:=hA.1;rw [zrY,hall,zsj] at hd5;have hvl:=ziz ((tr m most.toNat s00).map (·.2.1)) []
    rw [zrY] at hvl;have S05:Sub H H5:=fun c u e=>k5 _ _ (S2 _ _ (S1 _ _ e)) (by rintro rfl;rw [nd1] at e;cases e)
    refine⟨.inr (.inr (.inl ⟨rfl,.inl ⟨_,hd5⟩⟩)),?_⟩;refine⟨⟨_,hd5⟩,?_⟩;intro v nv;have S6:Sub H5 (upd H5 v (zhJ v d)):=Sub.new nv;have hv6:(upd H5 v (zhJ v d)) v=some (zhJ v d):=zah;generalize upd H5 v (zhJ v d)=H6 at S6 hv6;refine⟨d,_,hv6,S6 _ _ hd5,?_,fun ps bs l H7 S7 hp hs hA7 hl nl nb=>?_⟩
    ·rw [zrY];simp at hvl;show (zrt m most.toNat).length<65536;unfold zrt;omega
    ·obtain⟨js,rfl,pj,sj⟩:=zih hp hs;exact h l js H7 ((S05.trans S6).trans S7) ((S05.trans S6).free nl) ⟨bs,hl,hA7⟩ pj sj
  ·exact h.elim
theorem zet:zal ["machine","most","counts","row","place","sign"] ["machine","most"] (zad zcu):=by walk_at "s"
theorem zhj (T:Tx K mg a):zaC P w K mg base (CXE P w) 7 a.visits a.visits_d ["machine","most"] (zax a):=by
 have G_looks:=zcs (P:=P) (w:=w) (base:=base) T;refine T.f_visits.okE zet (fun vs H Q E h=>?_) (fun cdv A outer s H vs Q E hr h=>?_)
 ·unfold zax at h;split at h
  ·rfl
  ·exact h.elim
 ·unfold zax at h;split at h
  ·have nd:=zet.nd;have hu:=zaz hr;rename_i t v;refine⟨_,(zab (zaq (i:=2) nd rfl (by walk_at "o") zi8)
  (zab (zg0 (zaJ (K:=K) rfl (zaj G_looks (hr.mono (by decide)) rfl T.g_looks T.f_looks.kp T.b_looks .nil zat (zaa (qv 0) (zaa (qv 1) zac)))))
  zaO)),?_⟩
   walk_at "w";intro d nd1;walk_at "w";exact h.sub (Sub.new nd1)
  ·exact h.elim
theorem zlR:True:=True.intro
theorem zfC (T:Tx K mg a):zaC P w K mg base (CXE P w) 7 a.visits a.visits_d ["machine","most"] (fun vs H Q E=>(zdQ) vs H Q E\/(zax a) vs H Q E):=zaC.or0 (zkq T) (zhj T) (by decide) (by decide)
theorem zfV:zal ["machine","most","told","low","high","moment","row","place","sign"] ["machine","most"] (zad zbY):=by walk_at "s"
theorem zjB (T:Tx K mg a):zaC P w K mg base CX0 7 a.records a.records_d ["machine","most"] (za2):=by
 have G_looks:=zeD (P:=P) (w:=w) (base:=base) T;refine T.f_records.ok zfV (fun vs H Q E h=>?_) (fun cdv A outer s H vs Q E hr h=>?_)
 ·unfold za2 at h;split at h
  ·rfl
  ·exact h.elim
 ·unfold za2 at h;split at h
  ·have nd:=zfV.nd;have hu:=zaz hr;rename_i t most;obtain⟨m,hm,hM,hm0,hm1,h⟩:=h;refine⟨_,(zab (zaq (i:=2) nd rfl (by walk_at "o") (zaL (zaa (zau (zaa zaf (zaa zaf zac))) zac)))
  (zab (zgI zaf (zai (i:=3) nd rfl (by walk_at "o")) (zai (i:=4) nd rfl (by walk_at "o")))
  (zab (zby PassesOwn.never rfl (zd6 rfl T.z_enumerate (zaa (zaj G_looks (hr.mono (by decide)) rfl T.g_looks T.f_looks.kp T.b_looks .nil zav (zaa (qv 0) (zaa (qv 1) zac))) zac)) (zaG (K:=K) (n:=2) rfl rfl (zak (zai (i:=5) nd rfl (by walk_at "o")) (zak (zaG (K:=K) (n:=3) rfl rfl (zak (zai (i:=6) nd rfl (by walk_at "o")) (zak (zai (i:=7) nd rfl (by walk_at "o")) (zak (zai (i:=8) nd rfl (by walk_at "o")) zaH)))) zaH))) (zae (zbA (zo9 (zc9 (zmD zhN zhN (qv 3) (qv 7) (qv 4)))) (zab (zaS (zhR PySem.F.plainAttrs_list PySem.F.slot_list_append PySem.F.type_list_append zjW (qv 2) (zaa (zau (zaa (qv 5) (zaa (qv 7) zac))) zac))) (zab (zaq (i:=3) nd rfl (by walk_at "o") (zaw (zjl rfl) rfl T.z_min zg8 (zaa (qv 3) (zaa (qv 7) zac)))) (zae (zaq (i:=4) nd rfl (by walk_at "o") (zaw (zkW rfl) rfl T.z_max zjc (zaa (qv 4) (zaa (qv 7) zac))))))) zas)))
  (zae (zam (qv 2)))))),?_⟩
   refine⟨by show 2<=sizeLine;decide,?_⟩;intro p1 n1;generalize U':upd _ p1 _=H1;obtain ⟨S1,e1⟩:=zag n1 U';clear U';refine⟨by show 1<=sizeLine;decide,?_⟩;intro p2 n2;generalize U':upd _ p2 _=H2;obtain ⟨S2,e2⟩:=zag n2 U';clear U';have S02:=S1.trans S2;refine⟨m,hm.stay (.sub S02),hM,hm0,hm1,fun f ts H3 S3 hf hA nf=>?_⟩;refine⟨⟨_,SqL.of hf⟩,?_⟩;have hp3:H3 p2=some (.lst ([p1].map V.ref)):=S3 _ _ e2;have nfp:f≠p2:=by rintro rfl;rw [e2] at nf;cases nf
   have np2:H p2=none:=S1.free n2;have hXl:=zfj m most.toNat (0,0,[]);refine ziJ (K:=K) (a:=f) (xs:=ts.map V.ref) (fun i σ H5=>∃ (v5 v6 v7 v8:Option V) (lo hi:Int) (as:List Addr),σ=[some (.ref t),some (.int most),some (.ref p2),some (.int lo),some (.int hi),v5,v6,v7,v8]/\(∀ c u,H3 c=some u->c≠p2->H5 c=some u)/\H5 p2=some (.lst (as.map V.ref))/\as.length<=i+1) ?_ ?_ ?_ ?_
   ·exact⟨none,none,none,none,0,0,[p1],rfl,fun c u e _=>e,hp3,zse _⟩
   ·rintro i σ H5 _ ⟨v5,v6,v7,v8,lo,hi,as,rfl,k5,_⟩;exact SqL.of (k5 _ _ hf nfp)
   ·rintro i x σ H5 q hi ⟨v5,v6,v7,v8,lo,hi',as,rfl,k5,hp5,hdl⟩ nq;rw [zrZ] at hi;obtain⟨c,hc,rfl⟩:=zr1.1 hi;obtain⟨z,hz,hL⟩:=hA.at hc;have hil:=(zr2.1 hz).1;have hc5:H5 c=some (.tup [.int z.1,.int z.2.1,.int ((zcd z.2.2 z.2.1).getD 0)]):=k5 _ _ hL (by rintro rfl;rw [zl3,hp3] at hL;cases hL);generalize U':upd H5 q _=H6;obtain⟨S6,e6⟩:=zag nq U';clear U';refine⟨_,SqT.of e6,rfl,?_⟩;refine⟨_,SqT.of (S6 _ _ hc5),rfl,?_⟩;have hp6:=S6 _ _ hp5;have k6:∀ c u,H3 c=some u->c≠p2->H6 c=some u:=fun c u e ne=>S6 _ _ (k5 c u e ne)
    refine⟨fun _ Hx=>Hx=H6,?_,?_⟩
    ·walk_at "w";refine ifB.mk (fun _=>?_) (fun _=>?_)
     ·rfl
     ·rfl
    rintro b Hx rfl;walk_at "w";refine ifB.mk (fun _=>?_) (fun _=>?_)
    ·walk_at "w";refine⟨.inl ⟨rfl,_,SqL.of hp6⟩,?_⟩;refine⟨by show 2<=sizeLine;decide,?_⟩;intro p7 n7;generalize U':upd _ p7 _=H7;obtain ⟨S7,e7⟩:=zag n7 U';clear U';refine⟨_,S7 _ _ hp6,by rw [zrY];exact zsc (show as.length<=1003 by omega) (by decide),?_⟩;walk_at "w";intro mn hmn;walk_at "w";intro mx hmx;exact⟨_,_,_,_,_,_,as++[p7],rfl,fun c u e ne=>by rw [zao ne];exact S7 _ _ (k6 c u e ne),by rw [zah,zr6];rfl,by rw [zr8];exact Nat.succ_le_succ hdl⟩
    ·exact⟨_,_,_,_,lo,hi',as,rfl,k6,hp6,by omega⟩
   ·rintro σ H5 ⟨v5,v6,v7,v8,lo,hi',as,rfl,k5,hp5,hdl⟩;exact h _ H5 (fun c u e=>k5 _ _ (S3 _ _ (S02 _ _ e)) (zan e np2))
  ·exact h.elim
theorem zdD:zal ["machine","most","told","low","high","moment","row","place","sign"] ["machine","most"] (zad zbY):=by walk_at "s"
theorem zf7 (T:Tx K mg a):zaC P w K mg base (CXE P w) 7 a.records a.records_d ["machine","most"] (zax a):=by
 have G_looks:=zcs (P:=P) (w:=w) (base:=base) T;refine T.f_records.okE zdD (fun vs H Q E h=>?_) (fun cdv A outer s H vs Q E hr h=>?_)
 ·unfold zax at h;split at h
  ·rfl
  ·exact h.elim
 ·unfold zax at h;split at h
  ·have nd:=zdD.nd;have hu:=zaz hr;rename_i t v;refine⟨_,(zab (zaq (i:=2) nd rfl (by walk_at "o") (zaL (zaa (zau (zaa zaf (zaa zaf zac))) zac)))
  (zab (zgI zaf (zai (i:=3) nd rfl (by walk_at "o")) (zai (i:=4) nd rfl (by walk_at "o")))
  (zab (zg0 (zd6 rfl T.z_enumerate (zaa (zaj G_looks (hr.mono (by decide)) rfl T.g_looks T.f_looks.kp T.b_looks .nil zat (zaa (qv 0) (zaa (qv 1) zac))) zac)))
  zaO))),?_⟩
   refine⟨by show 2<=sizeLine;decide,?_⟩;intro p1 n1;generalize U':upd _ p1 _=H1;obtain ⟨S1,e1⟩:=zag n1 U';clear U';refine⟨by show 1<=sizeLine;decide,?_⟩;intro p2 n2;generalize U':upd _ p2 _=H2;obtain ⟨S2,e2⟩:=zag n2 U';clear U';walk_at "w";exact h.sub (S1.trans S2)
  ·exact h.elim
theorem zlI:True:=True.intro
theorem zfn (T:Tx K mg a):zaC P w K mg base (CXE P w) 7 a.records a.records_d ["machine","most"] (fun vs H Q E=>(za2) vs H Q E\/(zax a) vs H Q E):=zaC.or0 (zjB T) (zf7 T) (by decide) (by decide)
theorem zd2:zal ["one","other","most","walk","partner","moment"] ["one","other","most"] (zad zbb):=by walk_at "s"
def optV:Option Int->V
 | none=>.non
 | some i=>.int i
def zbT:Sp:=fun vs H Q _=>match vs with
 | [.ref t,.ref t',.int most]=>∃ m m':Ma,zcE H t m/\isM m=true/\zcE H t' m'/\isM m'=true/\0<=most/\most<=1000/\∀ H',Sub H H'->Q (optV (pf m m' most.toNat 1 (0,0,[]))) H'
 | _=>False
theorem zpk {m m':Ma} {k:Nat} {i:Int} {x y:St3} (h:en3 m x=en3 m' x) (hs:stN m x=some y):pf m m' (k+1) i x=pf m m' k (i+1) y:=by
 rw [pf,zsB h,hs]
theorem zgP (T:Tx K mg a):zaC P w K mg base CX0 6 a.parts_from a.parts_from_d ["one","other","most"] (zbT):=by
 have G_begun:=zc3 (P:=P) (w:=w) (base:=base) T;have G_Walk_step:=zbn (P:=P) (w:=w) (base:=base) T;have G_Walk_entry:=zbS (P:=P) (w:=w) (base:=base) T;refine T.f_parts_from.ok zd2 (fun vs H Q E h=>?_) (fun cdv A outer s H vs Q E hr h=>?_)
 ·unfold zbT at h;split at h
  ·rfl
  ·exact h.elim
 ·unfold zbT at h;split at h
  ·have nd:=zd2.nd;have hu:=zaz hr;rename_i t t' most;obtain⟨m,m',hm,hM,hm',hM',hm0,hm1,h⟩:=h;have M:=OkM.of hM;have M':=OkM.of hM';refine⟨_,(zab (zaq (i:=3) nd rfl (by walk_at "o") (zaj G_begun (hr.mono (by decide)) rfl T.g_begun T.f_begun.kp T.b_begun .nil zav (zaa (qv 0) zac)))
  (zab (zaq (i:=4) nd rfl (by walk_at "o") (zaj G_begun (hr.mono (by decide)) rfl T.g_begun T.f_begun.kp T.b_begun .nil zav (zaa (qv 1) zac)))
  (zab (zby PassesOwn.never rfl (zeO rfl T.z_range (zaa zaf (zaa (zaZ zc6 (qv 2) zaf) zac))) (zai (i:=5) nd rfl (by walk_at "o")) (zab (zbA (zbv (zi7 hr) (zaI (qv 3) T.k_Walk T.m_Walk_entry G_Walk_entry (hr.mono (by decide)) T.b_Walk_entry .nil zav) (zaI (qv 4) T.k_Walk T.m_Walk_entry G_Walk_entry (hr.mono (by decide)) T.b_Walk_entry .nil zav)) (zae (zam (qv 5))) zas)
    (zab (zbA (zc9 (zlT (zaI (qv 3) T.k_Walk T.m_Walk_step G_Walk_step (hr.mono (by decide)) T.b_Walk_step .nil zav))) (zae (zam zbg)) zas)
    (zae (zaS (zaI (qv 4) T.k_Walk T.m_Walk_step G_Walk_step (hr.mono (by decide)) T.b_Walk_step .nil zav))))))
  (zae (zam zbg))))),?_⟩
   refine⟨m,hm,hM,fun o d H1 S1 W1 no nd=>?_⟩;refine⟨m',hm'.stay (.sub S1),hM',fun o' d' H2 S2 W2 no' nd'=>?_⟩;walk_at "w";have S02:=S1.trans S2;obtain⟨⟨dx1,ho1⟩,hd1⟩:=id W1;have q1:o'≠o:=fun e=>by rw [e,ho1] at no';cases no'
   have q2:o'≠d:=fun e=>by rw [e,hd1] at no';cases no'
   have q3:d'≠o:=fun e=>by rw [e,ho1] at nd';cases nd'
   have q4:d'≠d:=fun e=>by rw [e,hd1] at nd';cases nd'
   have ok0:∀ {m},OkM m->OkS m 0 []:=fun M=>⟨by decide,by have:=M.n1;omega,by simp,by simp⟩
   refine⟨⟨by decide,by decide,by omega,by omega⟩,?_⟩;rw [show (most+1-1).toNat=most.toNat by omega];refine zbh (lo:=1) (n:=most.toNat) (fun i σ H5=>∃ (v5:Option V) (x:St3),σ=[some (.ref t),some (.ref t'),some (.int most),some (.ref o),some (.ref o'),v5]/\Sub H H5/\WK a.Walk H5 o t d x.1 x.2.1 x.2.2/\WK a.Walk H5 o' t' d' x.1 x.2.1 x.2.2/\OkS m x.1 x.2.2/\OkS m' x.1 x.2.2/\x.2.2.length<=i/\pf m m' most.toNat 1 (0,0,[])=pf m m' (most.toNat-i) (1+i) x) ?_ ?_ ?_
   ·exact⟨none,(0,0,[]),rfl,S02,W1.sub S2,W2,ok0 M,ok0 M',zse _,rfl⟩
   ·rintro i σ H5 hi ⟨v5,x,rfl,S5,W5,W5',k5,k5',hl5,hp⟩;obtain⟨⟨dx5,ho5⟩,hd5⟩:=id W5;obtain⟨⟨dx5',ho5'⟩,hd5'⟩:=id W5';have hpi:pf m m' (most.toNat-i) (1+i) x=pf m m' (most.toNat-(i+1)+1) (1+i) x:=by rw [show most.toNat-i=most.toNat-(i+1)+1 by omega]
    refine⟨_,_,_,rfl,ho5,rfl,?_⟩;refine⟨t,d,x.1,x.2.1,x.2.2,m,W5,hm.stay (.sub S5),M,k5,fun b e H6 S6 he hE hb=>?_⟩;refine⟨_,_,_,rfl,S6 _ _ ho5',rfl,?_⟩;refine⟨t',d',x.1,x.2.1,x.2.2,m',W5'.sub S6,hm'.stay (.sub (S5.trans S6)),M',k5',fun b' e' H7 S7 he' hE' hb'=>?_⟩;have S57:=S6.trans S7;have S07:=S5.trans S57;refine⟨_,_,(Ent.den (e:=e) (S7 _ _ hb)),(Ent.den (e:=e') hb'),zcU _,?_⟩;rw [zpp];walk_at "w";refine ifB.ndec (fun z=>?_) (fun z=>?_)
    ·subst z;have hee:en3 m x=en3 m' x:=he.trans he'.symm;have W7:=W5.sub S57;have W7':=W5'.sub S57;obtain⟨⟨dx7,ho7⟩,hd7⟩:=id W7;obtain⟨⟨dx7',ho7'⟩,hd7'⟩:=id W7';refine⟨_,_,_,rfl,ho7,rfl,?_⟩;refine⟨t,d,x.1,x.2.1,x.2.2,m,W7,hm.stay (.sub S07),M,k5,by omega,fun hz H8 S8=>?_,fun s' w' r' H8 hz hE8 W8 k8=>?_⟩
     ·walk_at "w";refine ifB.yes rfl ?_;rw [hp,hpi,pf,zsB hee,zhe hz] at h;exact h H8 (S07.trans S8)
     ·obtain⟨s2,w2,r2,e2,a0,a1,a2,a3,a4⟩:=zaD hE8 (by simp);cases e2;have hz':ent m' x.1 x.2.1 x.2.2=some [s',w',r']:=hee.symm.trans hz;rw [he'] at hz';cases hz';obtain⟨s3,w3,r3,e3,b0,b1,b2,b3,b4⟩:=zaD hE' (by simp);cases e3;have W8':WK a.Walk H8 o' t' d' x.1 x.2.1 x.2.2:=⟨⟨dx7',k8 _ _ ho7' q1 q2⟩,k8 _ _ hd7' q3 q4⟩;obtain⟨⟨dx8',ho8'⟩,hd8'⟩:=id W8';have S08:Sub H H8:=fun c u e=>k8 c u (S07 _ _ e) (zan e no) (zan e nd)
      walk_at "w";refine ifB.no rfl ?_;refine⟨_,_,_,rfl,ho8',rfl,?_⟩;refine⟨t',d',x.1,x.2.1,x.2.2,m',W8',hm'.stay (.sub S08),M',k5',by omega,fun hz9 H9 S9=>?_,fun s9 w9 r9 H9 hz9 hE9 W9 k9=>?_⟩
      ·rw [he'] at hz9;cases hz9
      ·rw [he'] at hz9;cases hz9;obtain⟨⟨dx8,ho8⟩,hd8⟩:=id W8;have hnl:=zdn x.2.2 x.2.1 s';refine⟨_,(r',x.2.1+w',nxt x.2.2 x.2.1 s'),rfl,fun c u e=>k9 c u (S08 _ _ e) (zan e (S1.free no')) (zan e (S1.free nd')),⟨⟨dx8,k9 _ _ ho8 q1.symm q3.symm⟩,k9 _ _ hd8 q2.symm q4.symm⟩,W9,k5.nxt a0 a1 a3 a4,k5'.nxt b0 b1 b3 b4,by show (nxt x.2.2 x.2.1 s').length<=i+1;omega,?_⟩;rw [hp,hpi,zpk hee (zhp hz),show (1:Int)+(i:Int)+1=1+((i+1:Nat):Int) by omega]
    ·have hne:¬ en3 m x=en3 m' x:=fun q=>z (zsJ (he.symm.trans (q.trans he')))
     walk_at "w";rw [hp,hpi,pf,zsA hne] at h;exact h H7 S07
   ·rintro σ H5 ⟨v5,x,rfl,S5,W5,W5',k5,k5',hl5,hp⟩;rw [hp,show most.toNat-most.toNat=0 by omega] at h;exact h H5 S5
  ·exact h.elim
theorem zcD:zal ["one","other","most","walk","partner","moment"] ["one","other","most"] (zad zbb):=by walk_at "s"
def zcw (a:Ad):Sp:=fun vs H _ E=>match vs with
 | [.ref t,.ref t',_]=>NoM a H t E\/(∃ m:Ma,zcE H t m/\isM m=true/\NoM a H t' E)
 | _=>False
theorem zew (T:Tx K mg a):zaC P w K mg base (CXE P w) 6 a.parts_from a.parts_from_d ["one","other","most"] (zcw a):=by
 have G_begun:=zgx (P:=P) (w:=w) (base:=base) T;refine T.f_parts_from.okE zcD (fun vs H Q E h=>?_) (fun cdv A outer s H vs Q E hr h=>?_)
 ·unfold zcw at h;split at h
  ·rfl
  ·exact h.elim
 ·unfold zcw at h;split at h
  ·have nd:=zcD.nd;have hu:=zaz hr;rename_i t t' v;refine⟨_,(zab (zaq (i:=3) nd rfl (by walk_at "o") (zaj G_begun (hr.mono (by decide)) rfl T.g_begun T.f_begun.kp T.b_begun .nil zat (zaa (qv 0) zac)))
  (zab (zaq (i:=4) nd rfl (by walk_at "o") (zaj G_begun (hr.mono (by decide)) rfl T.g_begun T.f_begun.kp T.b_begun .nil zat (zaa (qv 1) zac)))
  zaO)),?_⟩
   rcases h with h | ⟨m,hm,hM,h⟩
   ·walk_at "w";exact .inr h
   walk_at "w";refine .inl ⟨m,hm,hM,fun o d H1 S1 W1 no nd=>?_⟩;walk_at "w";exact .inr (h.sub S1)
  ·exact h.elim
theorem zi1:True:=True.intro
theorem zdA (T:Tx K mg a):zaC P w K mg base (CXE P w) 6 a.parts_from a.parts_from_d ["one","other","most"] (fun vs H Q E=>(zbT) vs H Q E\/(zcw a) vs H Q E):=zaC.or0 (zgP T) (zew T) (by decide) (by decide)
theorem zek:zal ["_law_purse_here","_law_rows","_law_signs","_law_kind","_law_found","_law_k","_law_row","_law_j","_law_entry"] ["_law_purse_here"] (zad zbG):=by walk_at "s"
theorem zbL {j:Int} (h0:0<j) (h1:j<=1000):0<j/\j.natAbs.log2<9000:=by
 refine⟨h0,?_⟩
 have:j.natAbs.log2<10:=(Nat.log2_lt (by omega)).2 (by show _<1024;omega)
 omega
def zd7:Sp:=fun vs H Q _=>match vs with
 | [.ref pp]=>∃ n k:Int,H pp=some (.lst [.int n,.int k])/\∀ (q:Addr) (m:Ma) (H':Hp),Pu pp k H H'->H q=none->zcE H' q m->isM m=true->Q (.ref q) H'
 | _=>False
theorem znJ {m:Ma} {rows signs:Int} (h1:(m.length:Int)=rows) (h2:1<=rows) (h3:rows<=4) (h4:2<=signs) (h5:signs<=4)
  (h:∀ r∈m,(r.length:Int)=signs/\∀ e∈r,zaM rows signs e=true):isM m=true:=by
 cases m with
 | nil=>simp at h1;omega
 | cons r0 m' =>
  have h0:=(h r0 (by simp)).1;refine zp7 (by omega) (by omega) (by omega) fun r hr=>⟨by have:=(h r hr).1;omega,?_⟩
  unfold zmk;rw [h1,h0];exact zsn.2 (h r hr).2
theorem zhG (T:Tx K mg a):zaC P w K mg base CX0 2 a.l_machine a.l_machine_d ["_law_purse_here"] (zd7):=by
 have G_l_draw:=zhk (P:=P) (w:=w) (base:=base) T;refine T.f_l_machine.ok zek (fun vs H Q E h=>?_) (fun cdv A outer s H vs Q E hr h=>?_)
 ·unfold zd7 at h;split at h
  ·rfl
  ·exact h.elim
 ·unfold zd7 at h;split at h
  ·have nd:=zek.nd;have hu:=zaz hr;rename_i pp;obtain⟨n,k,hp,h⟩:=h;have P0:Pu pp k H H:=Pu.refl ⟨n,hp⟩;have e0:=hp;refine⟨_,(zab (zaq (i:=1) nd rfl (by walk_at "o") (zaZ zc6 zaf (zaj G_l_draw (hr.mono (by decide)) rfl T.g_l_draw T.f_l_draw.kp T.b_l_draw .nil zav (zaa (qv 0) (zaa zaf zac)))))
  (zab (zaq (i:=2) nd rfl (by walk_at "o") (zaZ zc6 zaf (zaj G_l_draw (hr.mono (by decide)) rfl T.g_l_draw T.f_l_draw.kp T.b_l_draw .nil zav (zaa (qv 0) (zaa zaf zac)))))
  (zab (zaq (i:=3) nd rfl (by walk_at "o") (zaj G_l_draw (hr.mono (by decide)) rfl T.g_l_draw T.f_l_draw.kp T.b_l_draw .nil zav (zaa (qv 0) (zaa zaf zac))))
  (zab (zaq (i:=4) nd rfl (by walk_at "o") (zaL zac))
  (zab (zby PassesOwn.never rfl (zb3 rfl T.z_range (zaa (qv 1) zac)) (zai (i:=5) nd rfl (by walk_at "o")) (zab (zaq (i:=6) nd rfl (by walk_at "o") (zaL zac))
    (zab (zby PassesOwn.never rfl (zb3 rfl T.z_range (zaa (qv 2) zac)) (zai (i:=7) nd rfl (by walk_at "o")) (zab (zaq (i:=8) nd rfl (by walk_at "o") (zau (zaa (zaj G_l_draw (hr.mono (by decide)) rfl T.g_l_draw T.f_l_draw.kp T.b_l_draw .nil zav (zaa (qv 0) (zaa (qv 2) zac))) (zaa (zaZ zjV (zaZ zhz zaf (zaj G_l_draw (hr.mono (by decide)) rfl T.g_l_draw T.f_l_draw.kp T.b_l_draw .nil zav (zaa (qv 0) (zaa zaf zac)))) zaf) (zaa (zaj G_l_draw (hr.mono (by decide)) rfl T.g_l_draw T.f_l_draw.kp T.b_l_draw .nil zav (zaa (qv 0) (zaa (qv 1) zac))) zac)))))
      (zab (zbA (PW.pt (zeZ (zbv zrP (qv 3) zaf) (zeP (zbv zdl (zaj G_l_draw (hr.mono (by decide)) rfl T.g_l_draw T.f_l_draw.kp T.b_l_draw .nil zav (zaa (qv 0) (zaa (zaZ zc6 zaf (zaZ zhz zaf (qv 3))) zac))) zaf)))) (zae (zaq (i:=8) nd rfl (by walk_at "o") (zau zac))) zas)
      (zae (zaS (zhR PySem.F.plainAttrs_list PySem.F.slot_list_append PySem.F.type_list_append zjW (qv 6) (zaa (qv 8) zac)))))))
    (zae (zaS (zhR PySem.F.plainAttrs_list PySem.F.slot_list_append PySem.F.type_list_append zjW (qv 4) (zaa (qv 6) zac)))))))
  (zab (zbA (zbv zdl (qv 3) zaf) (zae (zck (zau zac) (zi6 (zba (zbx (K:=K) rfl) (qv 4) (zaj G_l_draw (hr.mono (by decide)) rfl T.g_l_draw T.f_l_draw.kp T.b_l_draw .nil zav (zaa (qv 0) (zaa (qv 1) zac))) (fun _ _=>rfl)) (zaj G_l_draw (hr.mono (by decide)) rfl T.g_l_draw T.f_l_draw.kp T.b_l_draw .nil zav (zaa (qv 0) (zaa (qv 2) zac))) zjs))) zas)
  (zae (zam (qv 4))))))))),?_⟩
   walk_at "w";refine⟨by decide,_,_,e0,fun d1 n1 d10 d11=>?_⟩;have P1:=P0.draw n1;have Q1:=Pu.of_draw n1 e0;generalize hg1:upd _ pp _=H1 at P1 Q1 ⊢;have e1:H1 pp=some (.lst [.int n1,.int k]):=by rw [← hg1];exact zah
   clear hg1;walk_at "w";refine⟨by decide,_,_,e1,fun d2 n2 d20 d21=>?_⟩;have P2:=P1.draw n2;have Q2:=Pu.of_draw n2 e1;generalize hg2:upd _ pp _=H2 at P2 Q2 ⊢;have e2:H2 pp=some (.lst [.int n2,.int k]):=by rw [← hg2];exact zah
   clear hg2;walk_at "w";refine⟨by decide,_,_,e2,fun d3 n3 d30 d31=>?_⟩;have P3:=P2.draw n3;have Q3:=Pu.of_draw n3 e2;generalize hg3:upd _ pp _=H3 at P3 Q3 ⊢;have e3:H3 pp=some (.lst [.int n3,.int k]):=by rw [← hg3];exact zah
   clear hg3;walk_at "w";refine⟨by decide,?_⟩;intro p4 n4;generalize U':upd _ p4 _=H4;obtain ⟨S4,e4⟩:=zag n4 U';clear U';have P4:=P3.sub S4;have nf:H p4=none:=P3.free n4;refine⟨⟨by omega,by omega⟩,?_⟩;refine zbh (lo:=0) (n:=(1+d1).toNat) (fun i σ H5=>∃ (v5 v6 v7 v8:Option V) (rs:List Addr) (m:Ma),σ=[some (.ref pp),some (.int (1+d1)),some (.int (2+d2)),some (.int d3),some (.ref p4),v5,v6,v7,v8]/\Pu pp k H H5/\MaR H5 p4 rs m/\m.length=i/\(∀ r∈rs,H r=none)/\∀ r∈m,(r.length:Int)=2+d2/\∀ e∈r,zaM (1+d1) (2+d2) e=true) ?_ ?_ ?_
   ·exact⟨none,none,none,none,[],[],rfl,P4,⟨e4,by simp,.nil⟩,rfl,by simp,by simp⟩
   ·rintro i σ H5 hi ⟨v5,v6,v7,v8,rs,m,rfl,P5,hm,hml,hrs,hme⟩;refine⟨by decide,?_⟩;intro p6 n6;generalize U':upd _ p6 _=H6;obtain ⟨S6,e6⟩:=zag n6 U';clear U';have P6:=P5.sub S6;have hm6:=hm.stay (.sub S6);have nr:H p6=none:=P5.free n6;have nrs:p6 ∉ rs:=fun z=>by
     obtain⟨j,hj,e⟩:=List.getElem_of_mem z;obtain⟨es,_,as,h1,_⟩:=hm.2.2.at (zr2.2 ⟨hj,e⟩);rw [n6] at h1;cases h1
    have npf:p6≠p4:=fun z=>by
     have:=hm.1
     rw [← z,n6] at this;cases this
    refine⟨⟨by omega,by omega⟩,?_⟩;refine zbh (lo:=0) (n:=(2+d2).toNat) (fun j σ H7=>∃ (v7 v8:Option V) (as:List Addr) (es:List En),σ=[some (.ref pp),some (.int (1+d1)),some (.int (2+d2)),some (.int d3),some (.ref p4),some (.int (0+i)),some (.ref p6),v7,v8]/\Pu pp k H H7/\MaR H7 p4 rs m/\zgk H7 p6 as es/\es.length=j/\∀ e∈es,zaM (1+d1) (2+d2) e=true) ?_ ?_ ?_
    ·exact⟨v7,v8,[],[],rfl,P6,hm6,⟨e6,.nil⟩,rfl,by simp⟩
    ·rintro j σ H7 hj ⟨v7,v8,as,es,rfl,P7,hm7,hr7,hel,hes⟩;obtain⟨n7,e7⟩:=P7.has;walk_at "w";refine⟨zbL (by omega) (by omega),_,_,e7,fun d8 n8 d80 d81=>?_⟩;have P8:=P7.draw n8;have Q8:=Pu.of_draw n8 e7;generalize hg8:upd _ pp _=H8 at P8 Q8 ⊢;have e8:H8 pp=some (.lst [.int n8,.int k]):=by rw [← hg8];exact zah
     clear hg8;walk_at "w";refine⟨by decide,_,_,e8,fun d9 n9 d90 d91=>?_⟩;have P9:=P8.draw n9;have Q9:=Pu.of_draw n9 e8;generalize hg9:upd _ pp _=H9 at P9 Q9 ⊢;have e9:H9 pp=some (.lst [.int n9,.int k]):=by rw [← hg9];exact zah
     clear hg9;walk_at "w";refine⟨.inl ⟨by omega,by omega⟩,fun m9 hm9 _=>?_⟩;have hm9:m9=2*d9:=hm9;walk_at "w";refine⟨zbL (by omega) (by omega),_,_,e9,fun d10 n10 d100 d101=>?_⟩;have P10:=P9.draw n10;have Q10:=Pu.of_draw n10 e9;generalize hg10:upd _ pp _=H10 at P10 Q10 ⊢;have e10:H10 pp=some (.lst [.int n10,.int k]):=by rw [← hg10];exact zah
     clear hg10;walk_at "w";refine⟨by show 3<=sizeLine;decide,?_⟩;intro p11 n11;generalize U':upd _ p11 _=H11;obtain ⟨S11,e11⟩:=zag n11 U';clear U';have P11:=P10.sub S11;have E11:Ent H11 p11 [d8,m9-1,d10]:=e11;have st11:zfP H7 H11:=⟨fun a xs z=>S11 _ _ (((Q8.trans Q9).trans Q10).stay.tup a xs z),fun a xs z=>S11 _ _ (((Q8.trans Q9).trans Q10).stay.refs a xs z)⟩;have hr11:=hr7.stay st11;have hm11:=hm7.stay st11;have ok11:zaM (1+d1) (2+d2) [d8,m9-1,d10]=true:=by
      show ((decide (0<=d8) && decide (d8<2+d2)) && (decide (m9-1=-1) || decide (m9-1=1)) && (decide (0<=d10) && decide (d10<1+d1)))=true
      have:m9-1=-1\/m9-1=1:=by omega
      simp [d80,d81,d100,d101,this]
     walk_at "w";refine ifB.dec (fun hk=>?_) (fun hk=>?_)
     ·walk_at "w";refine⟨.inl ⟨by omega,by omega⟩,fun m12 hm12 _=>?_⟩;have hm12:m12=2*d3:=hm12;obtain⟨n11,f11⟩:=P11.has;have e11:=f11;walk_at "w";refine⟨zbL (by omega) (by omega),_,_,e11,fun d13 n13 d130 d131=>?_⟩;have P13:=P11.draw n13;have Q13:=Pu.of_draw n13 e11;generalize hg13:upd _ pp _=H13 at P13 Q13 ⊢;have e13:H13 pp=some (.lst [.int n13,.int k]):=by rw [← hg13];exact zah
      clear hg13;walk_at "w";have st13:zfP H11 H13:=(Q13:Pu pp k H11 H13).stay;have hr13:=hr11.stay st13;have hm13:=hm11.stay st13;have E13:=E11.stay st13;refine ifB.mk (fun hz=>?_) (fun hz=>?_)
      ·walk_at "w";refine⟨by show 0<=sizeLine;decide,?_⟩;intro p14 n14;generalize U':upd _ p14 _=H14;obtain ⟨S14,e14⟩:=zag n14 U';clear U';have P14:=P13.sub S14;have hr14:=hr13.stay (.sub S14);have hm14:=hm13.stay (.sub S14);have E14:Ent H14 p14 []:=e14;refine⟨.inl ⟨rfl,_,SqL.of hr14.1⟩,?_⟩;refine⟨_,hr14.1,?_,_,_,as++[p14],es++[[]],rfl,P14.set nr,hm14.other hr14.1 npf nrs,hr14.app' E14,by simp [hel],?_⟩
       ·rw [zrY,hr14.2.1,hel];exact Nat.lt_trans hj (zsc (show (2+d2).toNat<=4 by omega) (by decide))
       ·intro y hy;rcases zr9.1 hy with hy | hy
        ·exact hes y hy
        ·rw [zr7.1 hy]
         rfl
      ·skip
       refine⟨.inl ⟨rfl,_,SqL.of hr13.1⟩,?_⟩;refine⟨_,hr13.1,?_,_,_,as++[p11],es++[[d8,m9-1,d10]],rfl,P13.set nr,hm13.other hr13.1 npf nrs,hr13.app' E13,by simp [hel],?_⟩
       ·rw [zrY,hr13.2.1,hel];exact Nat.lt_trans hj (zsc (show (2+d2).toNat<=4 by omega) (by decide))
       ·intro y hy;rcases zr9.1 hy with hy | hy
        ·exact hes y hy
        ·rw [zr7.1 hy];exact ok11
     ·walk_at "w";refine ifB.no rfl ?_;refine⟨.inl ⟨rfl,_,SqL.of hr11.1⟩,?_⟩;refine⟨_,hr11.1,?_,_,_,as++[p11],es++[[d8,m9-1,d10]],rfl,P11.set nr,hm11.other hr11.1 npf nrs,hr11.app' E11,by simp [hel],?_⟩
      ·rw [zrY,hr11.2.1,hel];exact Nat.lt_trans hj (zsc (show (2+d2).toNat<=4 by omega) (by decide))
      ·intro y hy;rcases zr9.1 hy with hy | hy
       ·exact hes y hy
       ·rw [zr7.1 hy];exact ok11
    ·rintro σ H7 ⟨v7,v8,as,es,rfl,P7,hm7,hr7,hel,hes⟩;refine⟨.inl ⟨rfl,_,SqL.of hm7.1⟩,?_⟩;refine⟨_,hm7.1,?_,_,_,_,_,rs++[p6],m++[es],rfl,P7.set nf,hm7.app' ⟨as,hr7⟩ nrs npf,by simp [hml],?_,?_⟩
     ·rw [zrY,hm7.2.2.1,hml];exact Nat.lt_trans hi (zsc (show (1+d1).toNat<=4 by omega) (by decide))
     ·intro r hr;rcases zr9.1 hr with hr | hr
      ·exact hrs r hr
      ·rw [zr7.1 hr];exact nr
     ·intro r hr;rcases zr9.1 hr with hr | hr
      ·exact hme r hr
      ·rw [zr7.1 hr];exact⟨by omega,hes⟩
   ·rintro σ H5 ⟨v5,v6,v7,v8,rs,m,rfl,P5,hm,hml,hrs,hme⟩;walk_at "w";refine ifB.mk (fun _=>?_) (fun _=>?_)
    ·walk_at "w";refine⟨by show 0<=sizeLine;decide,?_⟩;intro p6 n6;generalize U':upd _ p6 _=H6;obtain ⟨S6,e6⟩:=zag n6 U';clear U';have P6:=P5.sub S6;obtain⟨n6',e6'⟩:=P6.has;have E6:Ent H6 p6 []:=e6;have e6:=e6';have hm6:=hm.stay (.sub S6);walk_at "w";refine⟨zbL (by omega) (by omega),_,_,e6,fun d7 n7 d70 d71=>?_⟩;have P7:=P6.draw n7;have Q7:=Pu.of_draw n7 e6;generalize hg7:upd _ pp _=H7 at P7 Q7 ⊢;have e7:H7 pp=some (.lst [.int n7,.int k]):=by rw [← hg7];exact zah
     clear hg7;walk_at "w";have hm7:=hm6.stay (Q7:Pu pp k H6 H7).stay;have E7:=E6.stay Q7.stay;have hlt:d7.toNat<rs.length:=by rw [hm7.2.2.1,hml];omega
     have hrd:rs[d7.toNat]?=some rs[d7.toNat]:=zr0 hlt;refine⟨_,_,SqL.of hm7.1,zce (v:=V.ref rs[d7.toNat]) d70 (by rw [zrZ,hrd];rfl),?_⟩;walk_at "w";refine⟨zbL (by omega) (by omega),_,_,e7,fun d8 n8 d80 d81=>?_⟩;have P8:=P7.draw n8;have Q8:=Pu.of_draw n8 e7;generalize hg8:upd _ pp _=H8 at P8 Q8 ⊢;have e8:H8 pp=some (.lst [.int n8,.int k]):=by rw [← hg8];exact zah
     clear hg8;walk_at "w";have hm8:=hm7.stay (Q8:Pu pp k H7 H8).stay;have E8:=E7.stay Q8.stay;obtain⟨es,hes,as,hra⟩:=hm8.2.2.at hrd;have hel:=(hme es (zr3 hes)).1;refine⟨_,d8.toNat,hra.1,?_,?_⟩
     ·exact zhs d80 (by rw [zrY,hra.2.1];omega)
     ·refine h p4 (m.set d7.toNat (es.set d8.toNat [])) _ (P8.set (hrs _ (zr3 hrd))) nf ⟨rs,hm8.rowSet hrd hra E8⟩ ?_;refine znJ (rows:=1+d1) (signs:=2+d2) (by rw [zsl];omega) (by omega) (by omega) (by omega) (by omega) fun r hr=>?_
      rcases List.mem_or_eq_of_mem_set hr with hr | rfl
      ·exact hme r hr
      ·refine⟨by rw [zsl];exact hel,fun e he=>?_⟩;rcases List.mem_or_eq_of_mem_set he with he | rfl
       ·exact (hme es (zr3 hes)).2 e he
       ·rfl
    ·exact h p4 m H5 P5 nf ⟨rs,hm⟩ (znJ (rows:=1+d1) (signs:=2+d2) (by omega) (by omega) (by omega) (by omega) (by omega) hme)
  ·exact h.elim
theorem ziZ:zal ["_law_way","_law_machine_here","_law_good"] ["_law_way","_law_machine_here"] (zad zeh):=by walk_at "s"
def zqk (a:Ad) (H:Hp) (t:Addr) (Q:VK) (E:XK):Prop:=(∃ m:Ma,zcE H t m/\isM m=true/\∀ v H',Sub H H'->Q v H')\/NoM a H t E
theorem zqk.sub {a:Ad} {H H':Hp} {t:Addr} {Q:VK} {E:XK} (S:Sub H H'):zqk a H t Q E->zqk a H' t Q E
 | .inl ⟨m,h1,h2,h3⟩=>.inl ⟨m,h1.stay (.sub S),h2,fun v H2 S2=>h3 v H2 (S.trans S2)⟩
 | .inr h=>.inr (h.sub S)
def zh8 (a:Ad):Sp:=fun vs H Q E=>match vs with
 | [.int way,.ref t]=>(0<=way/\way<=4)/\zqk a H t Q E
 | _=>False
theorem zl2 (T:Tx K mg a):zaC P w K mg base (CXE P w) 8 a.l_met a.l_met_d ["_law_way","_law_machine_here"] (zh8 a):=by
 have G_met_entries:=zdo (P:=P) (w:=w) (base:=base) T;have G_visits:=zfC (P:=P) (w:=w) (base:=base) T;have G_records:=zfn (P:=P) (w:=w) (base:=base) T;have G_parts_from:=zdA (P:=P) (w:=w) (base:=base) T;refine T.f_l_met.okE ziZ (fun vs H Q E h=>?_) (fun cdv A outer s H vs Q E hr h=>?_)
 ·unfold zh8 at h;split at h
  ·rfl
  ·exact h.elim
 ·unfold zh8 at h;split at h
  ·have nd:=ziZ.nd;have hu:=zaz hr;rename_i way t;obtain⟨⟨w0,w4⟩,h⟩:=h;refine⟨_,(zab (zaq (i:=2) nd rfl (by walk_at "o") (zaL (zaa (zaL (zaa (zau zac) (zaa (zau zac) zac))) zac)))
  (zab (zbA (zbv zdl (qv 0) zaf) (zae (zam (zaj G_met_entries (hr.mono (by decide)) rfl T.g_met_entries T.f_met_entries.kp T.b_met_entries .nil zat (zaa (qv 1) (zaa zaf zac))))) zas)
  (zab (zbA (zbv zdl (qv 0) zaf) (zae (zam (zaj G_visits (hr.mono (by decide)) rfl T.g_visits T.f_visits.kp T.b_visits .nil zat (zaa (qv 1) (zaa zaf zac))))) zas)
  (zab (zbA (zbv zdl (qv 0) zaf) (zae (zam (zaj G_records (hr.mono (by decide)) rfl T.g_records T.f_records.kp T.b_records .nil zat (zaa (qv 1) (zaa zaf zac))))) zas)
  (zab (zbA (zbv zdl (qv 0) zaf) (zae (zam (zaj G_parts_from (hr.mono (by decide)) rfl T.g_parts_from T.f_parts_from.kp T.b_parts_from .nil zat (zaa (qv 1) (zaa (qv 2) (zaa zaf zac)))))) zas)
  (zae (zam (zaj G_parts_from (hr.mono (by decide)) rfl T.g_parts_from T.f_parts_from.kp T.b_parts_from .nil zat (zaa (qv 2) (zaa (qv 1) (zaa zaf zac))))))))))),?_⟩
   refine⟨by show 0<=sizeLine;decide,?_⟩;intro p1 n1;generalize U':upd _ p1 _=H1;obtain ⟨S1,e1⟩:=zag n1 U';clear U';refine⟨by show 0<=sizeLine;decide,?_⟩;intro p2 n2;generalize U':upd _ p2 _=H2;obtain ⟨S2,e2⟩:=zag n2 U';clear U';refine⟨by show 2<=sizeLine;decide,?_⟩;intro p3 n3;generalize U':upd _ p3 _=H3;obtain ⟨S3,e3⟩:=zag n3 U';clear U';refine⟨by show 1<=sizeLine;decide,?_⟩;intro p4 n4;generalize U':upd _ p4 _=H4;obtain ⟨S4,e4⟩:=zag n4 U';clear U';have T4:=((S1.trans S2).trans S3).trans S4;have hgood:zcE H4 p4 [[[],[]]]:=⟨[p3],e4,by simp,za6.app (as:=[]) (xs:=[]) .nil ⟨[p1,p2],S4 _ _ e3,⟨rfl,fun k a x ha hx=>by
    rcases k with _ | _ | k
    ·cases ha;cases hx;exact S4 _ _ (S3 _ _ (S2 _ _ e1))
    ·cases ha;cases hx;exact S4 _ _ (S3 _ _ e2)
    ·cases ha⟩⟩⟩
   have hg:isM [[[],[]]]=true:=by decide
   have h:=h.sub T4;walk_at "w";refine ifB.dec (fun c0=>?_) (fun c0=>?_)
   ·walk_at "w";rcases h with ⟨m,hm,hM,hQ⟩ | h
    ·exact .inl ⟨m,hm,hM,by decide,by decide,by intros;exact hQ _ _ (by assumption)⟩
    ·exact .inr h
   walk_at "w";refine ifB.dec (fun c1=>?_) (fun c1=>?_)
   ·walk_at "w";rcases h with ⟨m,hm,hM,hQ⟩ | h
    ·exact .inl ⟨m,hm,hM,by decide,by decide,by intros;exact hQ _ _ (by assumption)⟩
    ·exact .inr h
   walk_at "w";refine ifB.dec (fun c2=>?_) (fun c2=>?_)
   ·walk_at "w";rcases h with ⟨m,hm,hM,hQ⟩ | h
    ·exact .inl ⟨m,hm,hM,by decide,by decide,by intros;exact hQ _ _ (by assumption)⟩
    ·exact .inr h
   walk_at "w";refine ifB.dec (fun c3=>?_) (fun c3=>?_)
   ·walk_at "w";rcases h with ⟨m,hm,hM,hQ⟩ | h
    ·exact .inl ⟨m,_,hm,hM,hgood,hg,by decide,by decide,by intros;exact hQ _ _ (by assumption)⟩
    ·exact .inr (.inl h)
   walk_at "w";rcases h with ⟨m,hm,hM,hQ⟩ | h
   ·exact .inl ⟨_,m,hgood,hg,hm,hM,by decide,by decide,by intros;exact hQ _ _ (by assumption)⟩
   ·exact .inr (.inr ⟨_,hgood,hg,h⟩)
  ·exact h.elim
theorem zfX:zal ["_law_way","_law_machine_here"] ["_law_way","_law_machine_here"] (zad zch):=by walk_at "s"
def zeS (a:Ad):Sp:=fun vs H Q E=>match vs with
 | [.int way,.ref t]=>(0<=way/\way<=15)/\zqk a H t Q E
 | _=>False
theorem low1 {m:Ma} (M:OkM m):Low m 1:=fun k hk ps h=>by
 obtain rfl:k=0:=by omega
 rw [Lev.one h (zrr m)];exact zsd (zju M) (by decide)
theorem zo6 {m:Ma} (h:isM m=true):Bd 100 m:=by
 have M:=OkM.of h;exact⟨zsd M.n4 (by decide),fun r hr=>by have:=M.len r hr;have:=M.s4;omega⟩
theorem zjG (T:Tx K mg a):zaC P w K mg base (CXE P w) 10 a.l_asked a.l_asked_d ["_law_way","_law_machine_here"] (zeS a):=by
 have G_stepped:=zeV (P:=P) (w:=w) (base:=base) T;have G_run:=zh2 (P:=P) (w:=w) (base:=base) T;have G_setups:=zfs (P:=P) (w:=w) (base:=base) T;have G_touched:=zfd (P:=P) (w:=w) (base:=base) T;have G_ring:=zho (P:=P) (w:=w) (base:=base) T;have G_drift:=zgC (P:=P) (w:=w) (base:=base) T;have G_parts_at:=zex (P:=P) (w:=w) (base:=base) T;have G_no_back:=ze5 (P:=P) (w:=w) (base:=base) T;have G_shows:=zgA (P:=P) (w:=w) (base:=base) T;have G_show_machine:=zc5 (P:=P) (w:=w) (base:=base) T;have G_l_met:=zl2 (P:=P) (w:=w) (base:=base) T;refine T.f_l_asked.okE zfX (fun vs H Q E h=>?_) (fun cdv A outer s H vs Q E hr h=>?_)
 ·unfold zeS at h;split at h
  ·rfl
  ·exact h.elim
 ·unfold zeS at h;split at h
  ·have nd:=zfX.nd;have hu:=zaz hr;rename_i way t;obtain⟨⟨w0,w15⟩,h⟩:=h;refine⟨_,(zab (zbA (zbv zdl (qv 0) zaf) (zae (zam (zaj G_stepped (hr.mono (by decide)) rfl T.g_stepped T.f_stepped.kp T.b_stepped .nil zat (zaa (qv 1) (zaa (zau (zaa zaf (zaa zaf (zaa (zaL zac) zac)))) zac))))) zas)
  (zab (zbA (zbv zdl (qv 0) zaf) (zae (zam (zaj G_run (hr.mono (by decide)) rfl T.g_run T.f_run.kp T.b_run .nil zat (zaa (qv 1) (zaa zaf zac))))) zas)
  (zab (zbA (zbv zdl (qv 0) zaf) (zae (zam (zaj G_setups (hr.mono (by decide)) rfl T.g_setups T.f_setups.kp T.b_setups .nil zat (zaa (qv 1) (zaa zaf zac))))) zas)
  (zab (zbA (zbv zdl (qv 0) zaf) (zae (zam (zaj G_touched (hr.mono (by decide)) rfl T.g_touched T.f_touched.kp T.b_touched .nil zat (zaa (qv 1) (zaa zaf zac))))) zas)
  (zab (zbA (zbv zdl (qv 0) zaf) (zae (zam (zaj G_ring (hr.mono (by decide)) rfl T.g_ring T.f_ring.kp T.b_ring .nil zat (zaa (qv 1) (zaa zaf zac))))) zas)
  (zab (zbA (zbv zdl (qv 0) zaf) (zae (zam (zaj G_drift (hr.mono (by decide)) rfl T.g_drift T.f_drift.kp T.b_drift .nil zat (zaa (qv 1) (zaa zaf zac))))) zas)
  (zab (zbA (zbv zdl (qv 0) zaf) (zae (zam (zaj G_parts_at (hr.mono (by decide)) rfl T.g_parts_at T.f_parts_at.kp T.b_parts_at .nil zat (zaa (qv 1) (zaa zaf zac))))) zas)
  (zab (zbA (zbv zdl (qv 0) zaf) (zae (zam (zaj G_no_back (hr.mono (by decide)) rfl T.g_no_back T.f_no_back.kp T.b_no_back .nil zat (zaa (qv 1) (zaa zaf zac))))) zas)
  (zab (zbA (zbv zdl (qv 0) zaf) (zae (zam (zaj G_shows (hr.mono (by decide)) rfl T.g_shows T.f_shows.kp T.b_shows .nil zat (zaa (qv 1) (zaa (zau (zaa zbz (zaa zaf zac))) zac))))) zas)
  (zab (zbA (zbv zdl (qv 0) zaf) (zae (zam (zaj G_shows (hr.mono (by decide)) rfl T.g_shows T.f_shows.kp T.b_shows .nil zat (zaa (qv 1) (zaa (zau (zaa zbz (zaa zaf (zaa zaf zac)))) zac))))) zas)
  (zab (zbA (zbv zdl (qv 0) zaf) (zae (zam (zaj G_show_machine (hr.mono (by decide)) rfl T.g_show_machine T.f_show_machine.kp T.b_show_machine .nil zat (zaa (qv 1) zac)))) zas)
  (zae (zam (zaj G_l_met (hr.mono (by decide)) rfl T.g_l_met T.f_l_met.kp T.b_l_met .nil zat (zaa (zaZ zjV (qv 0) zaf) (zaa (qv 1) zac)))))))))))))))),?_⟩
   walk_at "w";refine ifB.dec (fun c0=>?_) (fun c0=>?_)
   ·walk_at "w";refine⟨by show 0<=sizeLine;decide,?_⟩;intro p1 n1;generalize U':upd _ p1 _=H1;obtain ⟨S1,e1⟩:=zag n1 U';clear U';refine⟨by show 3<=sizeLine;decide,?_⟩;intro p2 n2;generalize U':upd _ p2 _=H2;obtain ⟨S2,e2⟩:=zag n2 U';clear U';walk_at "w";rcases h.sub (S1.trans S2) with ⟨m,hm,hM,hQ⟩ | h
    ·have M:=OkM.of hM;exact .inl ⟨m,0,0,[],hm,hM,⟨p1,e2,[],S2 _ _ e1,.nil⟩,⟨by decide,by have:=M.n1;omega,by simp,by simp⟩,by show 0<9000;decide,by intros;exact hQ _ _ (by assumption),by intros;exact hQ _ _ (by assumption)⟩
    ·exact .inr h
   walk_at "w";refine ifB.dec (fun c1=>?_) (fun c1=>?_)
   ·walk_at "w";rcases h with ⟨m,hm,hM,hQ⟩ | h
    ·exact .inl ⟨m,hm,hM,by decide,by decide,by intros;exact hQ _ _ (by assumption)⟩
    ·exact .inr h
   walk_at "w";refine ifB.dec (fun c2=>?_) (fun c2=>?_)
   ·walk_at "w";rcases h with ⟨m,hm,hM,hQ⟩ | h
    ·exact .inl ⟨m,hm,hM,by decide,by decide,by intros;exact hQ _ _ (by assumption)⟩
    ·exact .inr h
   walk_at "w";refine ifB.dec (fun c3=>?_) (fun c3=>?_)
   ·walk_at "w";rcases h with ⟨m,hm,hM,hQ⟩ | h
    ·exact .inl ⟨m,hm,hM,by decide,by decide,by intros;exact hQ _ _ (by assumption)⟩
    ·exact .inr h
   walk_at "w";refine ifB.dec (fun c4=>?_) (fun c4=>?_)
   ·walk_at "w";rcases h with ⟨m,hm,hM,hQ⟩ | h
    ·exact .inl ⟨m,hm,hM,by decide,by decide,by intros;exact hQ _ _ (by assumption)⟩
    ·exact .inr h
   walk_at "w";refine ifB.dec (fun c5=>?_) (fun c5=>?_)
   ·walk_at "w";rcases h with ⟨m,hm,hM,hQ⟩ | h
    ·exact .inl ⟨m,hm,hM,by decide,by decide,by intros;exact hQ _ _ (by assumption)⟩
    ·exact .inr h
   walk_at "w";refine ifB.dec (fun c6=>?_) (fun c6=>?_)
   ·walk_at "w";rcases h with ⟨m,hm,hM,hQ⟩ | h
    ·exact .inl ⟨m,1,rfl,by decide,hm,hM,low1 (OkM.of hM),by intros;exact hQ _ _ (by assumption)⟩
    ·exact .inr h
   walk_at "w";refine ifB.dec (fun c7=>?_) (fun c7=>?_)
   ·walk_at "w";rcases h with ⟨m,hm,hM,hQ⟩ | h
    ·exact .inl ⟨m,hm,hM,by decide,by decide,by intros;exact hQ _ _ (by assumption)⟩
    ·exact .inr h
   walk_at "w";refine ifB.dec (fun c8=>?_) (fun c8=>?_)
   ·walk_at "w";refine⟨by show 2<=sizeLine;decide,?_⟩;intro p1 n1;generalize U':upd _ p1 _=H1;obtain ⟨S1,e1⟩:=zag n1 U';clear U';walk_at "w";rcases h.sub S1 with ⟨m,hm,hM,hQ⟩ | h
    ·exact .inl ⟨m,hm,hM,.inr ⟨2,e1,⟨by decide,by decide⟩,by intros;exact hQ _ _ (by assumption)⟩⟩
    ·exact .inr h
   walk_at "w";refine ifB.dec (fun c9=>?_) (fun c9=>?_)
   ·walk_at "w";refine⟨by show 3<=sizeLine;decide,?_⟩;intro p1 n1;generalize U':upd _ p1 _=H1;obtain ⟨S1,e1⟩:=zag n1 U';clear U';walk_at "w";rcases h.sub S1 with ⟨m,hm,hM,hQ⟩ | h
    ·exact .inl ⟨m,hm,hM,.inl ⟨2,4,e1,⟨by decide,by decide⟩,⟨by decide,by decide⟩,by intros;exact hQ _ _ (by assumption)⟩⟩
    ·exact .inr h
   walk_at "w";refine ifB.dec (fun c10=>?_) (fun c10=>?_)
   ·walk_at "w";rcases h with ⟨m,hm,hM,hQ⟩ | h
    ·exact .inl ⟨m,hm,zo6 hM,by intros;exact hQ _ _ (by assumption),fun z=>by rw [hM] at z;cases z⟩
    ·exact .inr h
   walk_at "w";exact⟨⟨by omega,by omega⟩,h⟩
  ·exact h.elim
theorem zff:zal ["_law_way","_law_machine_here","_law_caught_here","e"] ["_law_way","_law_machine_here"] (zad zbV):=by walk_at "s"
def zjE (a:Ad):List Addr:=[a.Full,a.NoDeed,a.NoName,a.NoPaper,a.NoSize,a.NoSuch,a.NoText,a.Twice]
theorem exm8 (T:Tx K mg a) {D:Addr} (h:D∈zjE a):ExM K D [.ref D,.ref a.MillError]/\D≠a.NoMachine/\D≠a.MillError:=by
 have nd:=T.ex_nd;simp only [zjE,zsF,List.not_mem_nil,or_false] at h;simp only [List.nodup_cons,zsF,List.not_mem_nil,or_false,not_or] at nd;rcases h with rfl | rfl | rfl | rfl | rfl | rfl | rfl | rfl
 ·exact⟨T.m_Full,nd.2.1.2.1,fun e=>nd.1.1 e.symm⟩
 ·exact⟨T.m_NoDeed,nd.2.2.1.1,fun e=>nd.1.2.1 e.symm⟩
 ·exact⟨T.m_NoName,fun e=>nd.2.2.2.1.1 e.symm,fun e=>nd.1.2.2.2.1 e.symm⟩
 ·exact⟨T.m_NoPaper,fun e=>nd.2.2.2.1.2.1 e.symm,fun e=>nd.1.2.2.2.2.1 e.symm⟩
 ·exact⟨T.m_NoSize,fun e=>nd.2.2.2.1.2.2.1 e.symm,fun e=>nd.1.2.2.2.2.2.1 e.symm⟩
 ·exact⟨T.m_NoSuch,fun e=>nd.2.2.2.1.2.2.2.1 e.symm,fun e=>nd.1.2.2.2.2.2.2.1 e.symm⟩
 ·exact⟨T.m_NoText,fun e=>nd.2.2.2.1.2.2.2.2.1 e.symm,fun e=>nd.1.2.2.2.2.2.2.2.1 e.symm⟩
 ·exact⟨T.m_Twice,fun e=>nd.2.2.2.1.2.2.2.2.2 e.symm,fun e=>nd.1.2.2.2.2.2.2.2.2 e.symm⟩
theorem zkC {t:Value}:∀ {l:List Addr},(∀ D∈l,PySem.W.kitOne K t (.ref D)=some false)->PySem.W.kitAny K t ((l.map V.ref).map zlf)=some false
 | [],_=>rfl
 | D::l,h=>by
  show (match PySem.W.kitOne K t (.ref D) with | some true=>some true | some false=>PySem.W.kitAny K t ((l.map V.ref).map zlf) | none=>none)=_;rw [h D (by simp)];exact zkC fun x hx=>h x (by simp [hx])
theorem zji {D:Addr} {pre:List Value} (h:ExM K D pre):PySem.W.kitOne K (.type "NoneType") (.ref D)=some false:=by
 unfold PySem.W.kitOne;rw [zsA (by simp)];unfold PySem.W.kitCls;obtain⟨cd,h1,_⟩:=h.mro;have e:((PySem.W.clsIn K D).isSome && PySem.W.typeIn K (.ref D) == some (.type "type"))=true:=by rw [h1,h.ty];rfl
 show (if ((PySem.W.clsIn K D).isSome && PySem.W.typeIn K (.ref D) == some (.type "type"))=true then PySem.W.subIn K (.type "NoneType") (.ref D) else none)=_;rw [zsB e]
 rfl
theorem zrL (T:Tx K mg a):PySem.W.kitAny K (.type "NoneType") (((zjE a).map V.ref).map zlf)=some false:=zkC fun D hD=>zji (exm8 T hD).1
theorem zrB (T:Tx K mg a):PySem.W.kitAny K (.ref a.NoMachine) (((zjE a).map V.ref).map zlf)=some false:=zkC fun D hD=>by
 obtain⟨h1,h2,h3⟩:=exm8 T hD;rw [zkF T.m_NoMachine h1 (by simp)];simp [h2,h3]
theorem zrM (T:Tx K mg a):PySem.W.kitOne K (.ref a.NoMachine) (.ref a.NoMachine)=some true:=by
 rw [zkF T.m_NoMachine T.m_NoMachine (by simp)];simp
def zfa:Sp:=fun vs H Q _=>match vs with
 | [.int way,.ref t]=>(0<=way/\way<=15)/\((∃ m:Ma,zcE H t m/\isM m=true/\∀ (q:Addr) (H':Hp),Sub H H'->H' q=some (.lst [.bl false,.bl true])->Q (.ref q) H')\/(∃ m:Ma,MaU H t m/\Bd 100 m/\isM m=false/\∀ (q:Addr) (H':Hp),Sub H H'->H' q=some (.lst [.bl true,.bl false])->Q (.ref q) H'))
 | _=>False
theorem zhW (T:Tx K mg a):zaC P w K mg base CX0 11 a.l_caught a.l_caught_d ["_law_way","_law_machine_here"] (zfa):=by
 have G_l_asked:=zjG (P:=P) (w:=w) (base:=base) T;refine T.f_l_caught.ok zff (fun vs H Q E h=>?_) (fun cdv A outer s H vs Q E hr h=>?_)
 ·unfold zfa at h;split at h
  ·rfl
  ·exact h.elim
 ·unfold zfa at h;split at h
  ·have nd:=zff.nd;have hu:=zaz hr;rename_i way t;obtain⟨hw,h⟩:=h;refine⟨_,(zab (zaq (i:=2) nd rfl (by walk_at "o") zbg)
  (zab (zqC (i:=3) rfl rfl rfl rfl nd rfl rfl rfl T.g_MillError (fun _ _=>(zae (zaS (zmI G_l_asked (hr.mono (by decide)) rfl T.g_l_asked T.f_l_asked.kp T.b_l_asked .nil (zkf rfl rfl) (zaa (qv 0) (zaa (qv 1) zac)))))) (fun _ _=>(zae (zaq (i:=2) nd rfl (by walk_at "o") (qv 3)))))
  (zab (zbA (zlT (zaw (zjv (K:=K) rfl) rfl T.z_isinstance zdx (zaa (qv 2) (zaa (zau (zaa (zbO (v:=V.ref a.Full) rfl T.g_Full rfl) (zaa (zbO (v:=V.ref a.NoDeed) rfl T.g_NoDeed rfl) (zaa (zbO (v:=V.ref a.NoName) rfl T.g_NoName rfl) (zaa (zbO (v:=V.ref a.NoPaper) rfl T.g_NoPaper rfl) (zaa (zbO (v:=V.ref a.NoSize) rfl T.g_NoSize rfl) (zaa (zbO (v:=V.ref a.NoSuch) rfl T.g_NoSuch rfl) (zaa (zbO (v:=V.ref a.NoText) rfl T.g_NoText rfl) (zaa (zbO (v:=V.ref a.Twice) rfl T.g_Twice rfl) zac))))))))) zac)))) (zae (zam zbg)) zas)
  (zae (zam (zaL (zaa (zaw (zqa (K:=K) rfl) rfl T.z_isinstance zdx (zaa (qv 2) (zaa (zbO (v:=V.ref a.NoMachine) rfl T.g_NoMachine rfl) zac))) (zaa (zcx zll (qv 2) zbg (by first | exact zda _ | rfl)) zac)))))))),?_⟩
   rcases h with ⟨m,hm,hM,h⟩ | ⟨m,hm,hb,hF,h⟩
   ·walk_at "w";refine⟨hw,.inl ⟨m,hm,hM,fun v H1 S1=>?_⟩⟩;refine⟨by show 8<=sizeLine;decide,?_⟩;intro p4 n4;generalize U':upd _ p4 _=H4;obtain ⟨S4,e4⟩:=zag n4 U';clear U';refine⟨_,_,(zjE a).map V.ref,false,rfl,e4,rfl,.inr ⟨rfl,zrL T⟩,?_⟩;walk_at "w";refine ifB.no rfl ?_;refine⟨_,false,.of .non,rfl,zji T.m_NoMachine,?_⟩;refine⟨rfl,?_⟩;refine⟨by show 2<=sizeLine;decide,?_⟩;intro p5 n5;generalize U':upd _ p5 _=H5;obtain ⟨S5,e5⟩:=zag n5 U';clear U';exact h p5 _ ((S1.trans S4).trans S5) e5
   ·walk_at "w";refine⟨hw,.inr ⟨m,hm,hb,hF,fun H1 S1=>?_⟩⟩;refine⟨_,rfl,(zoD T.m_NoMachine T.m_MillError).trans (by simp),?_⟩;intro px nx;generalize U':upd _ px _=Hx;obtain ⟨Sx,ex⟩:=zag nx U';clear U';refine⟨by show 8<=sizeLine;decide,?_⟩;intro p4 n4;generalize U':upd _ p4 _=H4;obtain ⟨S4,e4⟩:=zag n4 U';clear U';have ex4:=S4 _ _ ex;refine⟨_,_,(zjE a).map V.ref,false,rfl,e4,rfl,.inl ⟨_,_,rfl,ex4,T.t_NoMachine,zrB T⟩,?_⟩;walk_at "w";refine ifB.no rfl ?_;refine⟨_,true,.exc ex4 T.t_NoMachine,rfl,zrM T,?_⟩;refine⟨rfl,?_⟩;refine⟨by show 2<=sizeLine;decide,?_⟩;intro p5 n5;generalize U':upd _ p5 _=H5;obtain ⟨S5,e5⟩:=zag n5 U';clear U';exact h p5 _ (((S1.trans Sx).trans S4).trans S5) e5
  ·exact h.elim
theorem zjh:zal ["_law_purse_here","_law_machine_here","_law_signs","_law_rows","_law_some","_law_bad","_law_k","_law_rows_of"] ["_law_purse_here","_law_machine_here"] (zad zd5):=by walk_at "s"
theorem a2c {α:Type} {R:Addr->α->Prop} {a:Addr} {x:α} {as:List Addr} {xs:List α} (h:R a x) (t:za6 R as xs):za6 R (a::as) (x::xs) :=
 ⟨by rw [zsz,zsz,t.1],fun k b y hb hy=>by
  cases k with
  | zero=>cases hb;cases hy;exact h
  | succ k=>exact t.2 k b y hb hy⟩
def MaN (ps:Addr) (H:Hp) (c:Addr):Prop:=∃ (rs:List Addr) (m:Ma),H c=some (.lst (rs.map V.ref))/\c≠ps/\(∀ r∈rs,r≠ps)/\za6 (Row H) rs m/\Bd 100 m/\isM m=false
theorem MaN.stay {ps:Addr} {H H':Hp} {c:Addr} (S:zfP H H'):MaN ps H c->MaN ps H' c:=fun ⟨rs,m,h1,h2,h3,h4,h5⟩=>⟨rs,m,S.refs _ _ h1,h2,h3,h4.mono fun _ _ _ z=>z.stay S,h5⟩
theorem MaN.upd {ps:Addr} {H:Hp} {us vs:List V} (hp:H ps=some (.lst us)) {c:Addr}:MaN ps H c->MaN ps (L2.upd H ps (.lst vs)) c:=fun ⟨rs,m,h1,h2,h3,h4,h5⟩=>by
 refine⟨rs,m,by rw [zao h2];exact h1,h2,h3,⟨h4.1,fun k r x hr hx=>?_⟩,h5⟩;obtain⟨as,g1,g2⟩:=h4.2 k r x hr hx;have hne:=h3 r (zr3 hr);exact⟨as,by rw [zao hne];exact g1,g2.mono fun _ _ _ z=>by
  have z:H _=some _:=z;show (L2.upd H ps (.lst vs)) _=_;rw [zao (by rintro rfl;rw [hp] at z;cases z)];exact z⟩
theorem MaN.u {ps:Addr} {H:Hp} {c:Addr}:MaN ps H c->∃ m:Ma,MaU H c m/\Bd 100 m/\isM m=false:=fun ⟨rs,m,h1,_,_,h4,h5,h6⟩=>⟨m,⟨rs,h1,h4⟩,h5,h6⟩
def Odd (H:Hp) (q:Addr):Prop:=∃ as:List Addr,as.length<=20/\H q=some (.lst (as.map V.ref))/\∀ c∈as,∃ m:Ma,MaU H c m/\Bd 100 m/\isM m=false
def zlm:Sp:=fun vs H Q _=>match vs with
 | [.ref pp,.ref p]=>∃ (n k:Int) (m:Ma),H pp=some (.lst [.int n,.int k])/\zcE H p m/\isM m=true/\∀ (q:Addr) (H':Hp),Pu pp k H H'->Odd H' q->Q (.ref q) H'
 | _=>False
theorem zoH {m:Ma} {i j:Nat} {es:List En} {e:En} (hi:m[i]?=some es):sgn (m.set i (es.set j e))=sgn m:=by
 unfold sgn;cases m with
 | nil=>rfl
 | cons r m =>
  cases i with
  | zero =>
   have:r=es:=by simpa using hi
   subst this;show (r.set j e).length=r.length;rw [zsl]
  | succ i=>rfl
theorem zot {m:Ma} {i j:Nat} {es:List En} {e:En} (hi:m[i]?=some es) (hj:j<es.length) (he:zaM m.length (sgn m) e=false):isM (m.set i (es.set j e))=false:=by
 rw [← Bool.not_eq_true];intro h;have M:=OkM.of h;have hil:i<m.length:=(zr2.1 hi).1
 have:=M.ent (es.set j e) (zr3 (List.getElem?_set_self hil)) e (zr3 (List.getElem?_set_self hj))
 rw [zsl,zoH hi,he] at this;cases this
theorem zqp {m:Ma} (M:OkM m) {i j:Nat} {es:List En} {e:En} (hi:m[i]?=some es):Bd 100 (m.set i (es.set j e)):=by
 have h4:=M.n4;have s4:=M.s4;refine⟨by rw [zsl];omega,fun r hr=>?_⟩;rcases List.mem_or_eq_of_mem_set hr with hr | rfl
 ·have:=M.len r hr;omega
 ·rw [zsl,M.len es (zr3 hi)];omega
def zjT (sg:Int):List En:=[[0],[0,1],[0,1,0,0],[sg,1,0],[-1,1,0],[0,0,0],[0,2,0]]
def zk5 (rows:Int):List En:=[[0,-2,0],[0,1,rows],[0,1,-1]]
theorem zpg {rows sg:Int} {e:En} (h:e∈zjT sg++zk5 rows):zaM rows sg e=false:=by
 simp only [zjT,zk5,zr9,zsF,List.not_mem_nil,or_false] at h;rcases h with (rfl | rfl | rfl | rfl | rfl | rfl | rfl) | (rfl | rfl | rfl) <;> simp [zaM]
theorem zl6 (T:Tx K mg a):zaC P w K mg base CX0 2 a.l_odd a.l_odd_d ["_law_purse_here","_law_machine_here"] (zlm):=by
 have G_l_draw:=zhk (P:=P) (w:=w) (base:=base) T;refine T.f_l_odd.ok zjh (fun vs H Q E h=>?_) (fun cdv A outer s H vs Q E hr h=>?_)
 ·unfold zlm at h;split at h
  ·rfl
  ·exact h.elim
 ·unfold zlm at h;split at h
  ·have nd:=zjh.nd;have hu:=zaz hr;rename_i pp p;obtain⟨n,k,m,hp,hMa,hM,h⟩:=h;have hMa':=hMa;obtain⟨rs0,hm,hnd,hrw⟩:=hMa';have P0:Pu pp k H H:=Pu.refl ⟨n,hp⟩;have M:=OkM.of hM;have hn1:=M.n1;have hn4:=M.n4;have hs2:=M.s2;have hs4:=M.s4;obtain⟨r0,hr0⟩:∃ r0,rs0[0]?=some r0:=⟨_,zr0 (by rw [hrw.1];omega)⟩;obtain⟨es0,g5,as0,g3,g4⟩:=hrw.at hr0;have hel0:=M.len es0 (zr3 g5);have hl0:((as0.map V.ref).length:Int)=sgn m:=by rw [zrY,g4.1,hel0]
   have at0:atI (rs0.map V.ref) 0=some (V.ref r0):=zce (Int.le_refl 0) (by rw [zrZ];show Option.map V.ref rs0[0]?=_;rw [hr0];rfl);have elr:((rs0.map V.ref).length:Int)=m.length:=by rw [zrY,hrw.1]
   refine⟨_,(@zab _ _ _ _ _ (@zaq _ _ 2 _ _ _ _ nd rfl (by walk_at "o") (@zaw _ _ _ _ _ _ _ _ _ (@zco _ K rfl) rfl T.z_len zcn (@zaa _ _ _ _ _ (@zba _ _ _ _ _ _ _ (@zbx _ K rfl) (qv 1) zaf (fun _ _=>rfl)) zac (by rfl)) (by decide) (by decide) (by rfl) (by rfl)) (by rfl) (by first | exact .inl rfl | exact .inr rfl | assumption)) (@zab _ _ _ _ _ (@zaq _ _ 3 _ _ _ _ nd rfl (by walk_at "o") (@zaw _ _ _ _ _ _ _ _ _ (@zco _ K rfl) rfl T.z_len zcn (@zaa _ _ _ _ _ (qv 1) zac (by rfl)) (by decide) (by decide) (by rfl) (by rfl)) (by rfl) (by first | exact .inl rfl | exact .inr rfl | assumption)) (@ziu _ _ _ _ _ (@zaq _ _ 4 _ _ _ _ nd rfl (by walk_at "o") (@zaL _ _ _ _ (@zaa _ _ _ _ _ (@zaL _ _ _ _ zac) (@zaa _ _ _ _ _ (@zaL _ _ _ _ (@zaa _ _ _ _ _ (@zaL _ _ _ _ zac) zac (by rfl))) (@zaa _ _ _ _ _ (@zaL _ _ _ _ (@zaa _ _ _ _ _ (@zaL _ _ _ _ (@zaa _ _ _ _ _ (@zau _ _ _ _ _ zac) zac (by rfl))) zac (by rfl))) (@zaa _ _ _ _ _ (@zaZ _ _ _ _ _ _ _ _ zqr (@zaL _ _ _ _ (@zaa _ _ _ _ _ (@zaL _ _ _ _ (@zaa _ _ _ _ _ (@zau _ _ _ _ _ zac) (@zaa _ _ _ _ _ (@zau _ _ _ _ _ zac) zac (by rfl)) (by rfl))) zac (by rfl))) zaf) (@zaa _ _ _ _ _ (@zaL _ _ _ _ (@zaa _ _ _ _ _ (@zaL _ _ _ _ (@zaa _ _ _ _ _ (@zau _ _ _ _ _ zac) (@zaa _ _ _ _ _ (@zau _ _ _ _ _ zac) zac (by rfl)) (by rfl))) (@zaa _ _ _ _ _ (@zaL _ _ _ _ (@zaa _ _ _ _ _ (@zau _ _ _ _ _ zac) (@zaa _ _ _ _ _ (@zau _ _ _ _ _ zac) (@zaa _ _ _ _ _ (@zau _ _ _ _ _ zac) zac (by rfl)) (by rfl)) (by rfl))) zac (by rfl)) (by rfl))) (@zaa _ _ _ _ _ (@zaL _ _ _ _ (@zaa _ _ _ _ _ (@zaZ _ _ _ _ _ _ _ _ zqr (@zaL _ _ _ _ (@zaa _ _ _ _ _ (@zau _ _ _ _ _ zac) zac (by rfl))) zaf) zac (by rfl))) (@zaa _ _ _ _ _ (@zaL _ _ _ _ (@zaa _ _ _ _ _ (@zaL _ _ _ _ (@zaa _ _ _ _ _ (@zau _ _ _ _ _ zac) (@zaa _ _ _ _ _ (@zau _ _ _ _ _ zac) zac (by rfl)) (by rfl))) (@zaa _ _ _ _ _ (@zaL _ _ _ _ zac) zac (by rfl)) (by rfl))) zac (by rfl)) (by rfl)) (by rfl)) (by rfl)) (by rfl)) (by rfl)) (by rfl))) (by rfl) (by first | exact .inl rfl | exact .inr rfl | assumption)) (@ziu _ _ _ _ _ (@zaq _ _ 5 _ _ _ _ nd rfl (by walk_at "o") (@zaL _ _ _ _ (@zaa _ _ _ _ _ (@zau _ _ _ _ _ (@zaa _ _ _ _ _ zaf zac (by rfl))) (@zaa _ _ _ _ _ (@zau _ _ _ _ _ (@zaa _ _ _ _ _ zaf (@zaa _ _ _ _ _ zaf zac (by rfl)) (by rfl))) (@zaa _ _ _ _ _ (@zau _ _ _ _ _ (@zaa _ _ _ _ _ zaf (@zaa _ _ _ _ _ zaf (@zaa _ _ _ _ _ zaf (@zaa _ _ _ _ _ zaf zac (by rfl)) (by rfl)) (by rfl)) (by rfl))) (@zaa _ _ _ _ _ (@zau _ _ _ _ _ (@zaa _ _ _ _ _ (qv 2) (@zaa _ _ _ _ _ zaf (@zaa _ _ _ _ _ zaf zac (by rfl)) (by rfl)) (by rfl))) (@zaa _ _ _ _ _ (@zau _ _ _ _ _ (@zaa _ _ _ _ _ (@zjy _ _ _ _ _ _ zkb zaf) (@zaa _ _ _ _ _ zaf (@zaa _ _ _ _ _ zaf zac (by rfl)) (by rfl)) (by rfl))) (@zaa _ _ _ _ _ (@zau _ _ _ _ _ (@zaa _ _ _ _ _ zaf (@zaa _ _ _ _ _ zaf (@zaa _ _ _ _ _ zaf zac (by rfl)) (by rfl)) (by rfl))) (@zaa _ _ _ _ _ (@zau _ _ _ _ _ (@zaa _ _ _ _ _ zaf (@zaa _ _ _ _ _ zaf (@zaa _ _ _ _ _ zaf zac (by rfl)) (by rfl)) (by rfl))) zac (by rfl)) (by rfl)) (by rfl)) (by rfl)) (by rfl)) (by rfl)) (by rfl))) (by rfl) (by first | exact .inl rfl | exact .inr rfl | assumption)) (@ziu _ _ _ _ _ (@zaq _ _ 5 _ _ _ _ nd rfl (by walk_at "o") (@zaZ _ _ _ _ _ _ _ _ zpA (qv 5) (@zaL _ _ _ _ (@zaa _ _ _ _ _ (@zau _ _ _ _ _ (@zaa _ _ _ _ _ zaf (@zaa _ _ _ _ _ (@zjy _ _ _ _ _ _ zkb zaf) (@zaa _ _ _ _ _ zaf zac (by rfl)) (by rfl)) (by rfl))) (@zaa _ _ _ _ _ (@zau _ _ _ _ _ (@zaa _ _ _ _ _ zaf (@zaa _ _ _ _ _ zaf (@zaa _ _ _ _ _ (qv 3) zac (by rfl)) (by rfl)) (by rfl))) (@zaa _ _ _ _ _ (@zau _ _ _ _ _ (@zaa _ _ _ _ _ zaf (@zaa _ _ _ _ _ zaf (@zaa _ _ _ _ _ (@zjy _ _ _ _ _ _ zkb zaf) zac (by rfl)) (by rfl)) (by rfl))) zac (by rfl)) (by rfl)) (by rfl)))) (by rfl) (by first | exact .inl rfl | exact .inr rfl | assumption)) (@zab _ _ _ _ _ (@zby _ _ _ _ _ _ _ _ PassesOwn.never rfl (@zb3 _ _ _ _ _ _ rfl T.z_range (@zaa _ _ _ _ _ zaf zac (by rfl)) (by rfl)) (@zai _ _ 6 _ nd rfl (by walk_at "o") (by first | exact .inl rfl | exact .inr rfl | assumption)) (@zab _ _ _ _ _ (@zkv _ _ ["_law_row"] [] _ _ _ _ _ _ _ _ _ 7 _ _ _ rfl nd rfl (by walk_at "o") (by walk_at "comp_ok") (@zaJ _ K _ _ _ rfl (qv 1)) (fun _ _ _ _=>(@zai _ _ 0 _ (show List.Nodup (α:=Str) ["_law_row"] from by decide +kernel) rfl (by walk_at "o") (by first | exact .inl rfl | exact .inr rfl | assumption))) (fun _ _ _ _=>zbP) (fun _ _ _ _=>(@zb5 _ _ _ _ _ _ _ _ _ (@zhx _ K rfl) rfl T.z_list zim (@zaa _ _ _ _ _ (qv 0) zac (by rfl)) (by decide) (by decide) (by rfl) (by rfl))) (by rfl) (by first | exact .inl rfl | exact .inr rfl | assumption) (by intro _ ;rfl)) (@zab _ _ _ _ _ (@zck _ _ _ _ _ _ (@zba _ _ _ _ _ _ _ (@zbx _ K rfl) (qv 5) (@zaj _ _ _ _ _ _ _ _ _ _ _ _ _ _ _ _ G_l_draw (hr.mono (by decide)) rfl T.g_l_draw T.f_l_draw.kp T.b_l_draw .nil zav (@zaa _ _ _ _ _ (qv 0) (@zaa _ _ _ _ _ (@zaw _ _ _ _ _ _ _ _ _ (@zco _ K rfl) rfl T.z_len zcn (@zaa _ _ _ _ _ (qv 5) zac (by rfl)) (by decide) (by decide) (by rfl) (by rfl)) zac (by rfl)) (by rfl)) (by decide) (by rfl) (by rfl)) (fun _ _=>rfl)) (@zi6 _ _ _ _ _ _ _ (@zba _ _ _ _ _ _ _ (@zbx _ K rfl) (qv 7) (@zaj _ _ _ _ _ _ _ _ _ _ _ _ _ _ _ _ G_l_draw (hr.mono (by decide)) rfl T.g_l_draw T.f_l_draw.kp T.b_l_draw .nil zav (@zaa _ _ _ _ _ (qv 0) (@zaa _ _ _ _ _ (qv 3) zac (by rfl)) (by rfl)) (by decide) (by rfl) (by rfl)) (fun _ _=>rfl)) (@zaj _ _ _ _ _ _ _ _ _ _ _ _ _ _ _ _ G_l_draw (hr.mono (by decide)) rfl T.g_l_draw T.f_l_draw.kp T.b_l_draw .nil zav (@zaa _ _ _ _ _ (qv 0) (@zaa _ _ _ _ _ (qv 2) zac (by rfl)) (by rfl)) (by decide) (by rfl) (by rfl)) zjs (by intro _ ;rfl)) (by rfl) (by rfl) (by rfl)) (@zae _ _ _ (@zaS _ _ _ _ (@zhR _ _ _ _ _ _ _ _ _ _ _ _ PySem.F.plainAttrs_list PySem.F.slot_list_append PySem.F.type_list_append zjW (qv 4) (@zaa _ _ _ _ _ (qv 7) zac (by rfl)) (by rfl) (by rfl) (by rfl) (by rfl) (by rfl)) (by rfl))))) (by intro _ ;rfl)) (@zae _ _ _ (@zam _ _ _ _ (qv 4))))))))),?_⟩;refine⟨_,_,SqL.of hm,at0,?_⟩;refine⟨_,.inl (SqL.of g3),?_⟩;rw [hl0];refine⟨_,.inl (SqL.of hm),?_⟩;rw [elr];refine⟨fun σ H'=>∃ (ps:Addr) (as:List Addr),σ=[some (.ref pp),some (.ref p),some (.int (sgn m)),some (.int m.length),some (.ref ps),none,none,none]/\Sub H H'/\H ps=none/\as.length=7/\H' ps=some (.lst (as.map V.ref))/\(∀ c∈as,MaN ps H' c),?_,?_⟩
   ·skip
    refine⟨by show 0<=sizeLine;decide,?_⟩;intro p1 n1;generalize U':upd _ p1 _=H1;obtain ⟨S1,e1⟩:=zag n1 U';clear U';refine⟨by show 0<=sizeLine;decide,?_⟩;intro p2 n2;generalize U':upd _ p2 _=H2;obtain ⟨S2,e2⟩:=zag n2 U';clear U';refine⟨by show 1<=sizeLine;decide,?_⟩;intro p3 n3;generalize U':upd _ p3 _=H3;obtain ⟨S3,e3⟩:=zag n3 U';clear U';refine⟨by show 0<=sizeLine;decide,?_⟩;intro p4 n4;generalize U':upd _ p4 _=H4;obtain ⟨S4,e4⟩:=zag n4 U';clear U';refine⟨by show 1<=sizeLine;decide,?_⟩;intro p5 n5;generalize U':upd _ p5 _=H5;obtain ⟨S5,e5⟩:=zag n5 U';clear U';refine⟨by show 1<=sizeLine;decide,?_⟩;intro p6 n6;generalize U':upd _ p6 _=H6;obtain ⟨S6,e6⟩:=zag n6 U';clear U';refine⟨by show 0<=sizeLine;decide,?_⟩;intro p7 n7;generalize U':upd _ p7 _=H7;obtain ⟨S7,e7⟩:=zag n7 U';clear U';refine⟨by show 0<=sizeLine;decide,?_⟩;intro p8 n8;generalize U':upd _ p8 _=H8;obtain ⟨S8,e8⟩:=zag n8 U';clear U';refine⟨by show 2<=sizeLine;decide,?_⟩;intro p9 n9;generalize U':upd _ p9 _=H9;obtain ⟨S9,e9⟩:=zag n9 U';clear U';refine⟨by show 1<=sizeLine;decide,?_⟩;intro p10 n10;generalize U':upd _ p10 _=H10;obtain ⟨S10,e10⟩:=zag n10 U';clear U';refine⟨_,e10,by decide,by decide,by show 1*5<=sizeLine;decide,?_⟩;intro p11 n11;generalize U':upd _ p11 _=H11;obtain ⟨S11,e11⟩:=zag n11 U';clear U';refine⟨by show 0<=sizeLine;decide,?_⟩;intro p12 n12;generalize U':upd _ p12 _=H12;obtain ⟨S12,e12⟩:=zag n12 U';clear U';refine⟨by show 0<=sizeLine;decide,?_⟩;intro p13 n13;generalize U':upd _ p13 _=H13;obtain ⟨S13,e13⟩:=zag n13 U';clear U';refine⟨by show 2<=sizeLine;decide,?_⟩;intro p14 n14;generalize U':upd _ p14 _=H14;obtain ⟨S14,e14⟩:=zag n14 U';clear U';refine⟨by show 0<=sizeLine;decide,?_⟩;intro p15 n15;generalize U':upd _ p15 _=H15;obtain ⟨S15,e15⟩:=zag n15 U';clear U';refine⟨by show 0<=sizeLine;decide,?_⟩;intro p16 n16;generalize U':upd _ p16 _=H16;obtain ⟨S16,e16⟩:=zag n16 U';clear U';refine⟨by show 0<=sizeLine;decide,?_⟩;intro p17 n17;generalize U':upd _ p17 _=H17;obtain ⟨S17,e17⟩:=zag n17 U';clear U';refine⟨by show 3<=sizeLine;decide,?_⟩;intro p18 n18;generalize U':upd _ p18 _=H18;obtain ⟨S18,e18⟩:=zag n18 U';clear U';refine⟨by show 2<=sizeLine;decide,?_⟩;intro p19 n19;generalize U':upd _ p19 _=H19;obtain ⟨S19,e19⟩:=zag n19 U';clear U';refine⟨by show 0<=sizeLine;decide,?_⟩;intro p20 n20;generalize U':upd _ p20 _=H20;obtain ⟨S20,e20⟩:=zag n20 U';clear U';refine⟨by show 1<=sizeLine;decide,?_⟩;intro p21 n21;generalize U':upd _ p21 _=H21;obtain ⟨S21,e21⟩:=zag n21 U';clear U';refine⟨_,e21,by decide,by decide,by show 1*5<=sizeLine;decide,?_⟩;intro p22 n22;generalize U':upd _ p22 _=H22;obtain ⟨S22,e22⟩:=zag n22 U';clear U';refine⟨by show 1<=sizeLine;decide,?_⟩;intro p23 n23;generalize U':upd _ p23 _=H23;obtain ⟨S23,e23⟩:=zag n23 U';clear U';refine⟨by show 0<=sizeLine;decide,?_⟩;intro p24 n24;generalize U':upd _ p24 _=H24;obtain ⟨S24,e24⟩:=zag n24 U';clear U';refine⟨by show 0<=sizeLine;decide,?_⟩;intro p25 n25;generalize U':upd _ p25 _=H25;obtain ⟨S25,e25⟩:=zag n25 U';clear U';refine⟨by show 2<=sizeLine;decide,?_⟩;intro p26 n26;generalize U':upd _ p26 _=H26;obtain ⟨S26,e26⟩:=zag n26 U';clear U';refine⟨by show 0<=sizeLine;decide,?_⟩;intro p27 n27;generalize U':upd _ p27 _=H27;obtain ⟨S27,e27⟩:=zag n27 U';clear U';refine⟨by show 2<=sizeLine;decide,?_⟩;intro p28 n28;generalize U':upd _ p28 _=H28;obtain ⟨S28,e28⟩:=zag n28 U';clear U';refine⟨by show 7<=sizeLine;decide,?_⟩;intro p29 n29;generalize U':upd _ p29 _=H29;obtain ⟨S29,e29⟩:=zag n29 U';clear U';have U29:Sub H29 H29:=Sub.refl;have U28:=S29.trans U29;have U27:=S28.trans U28;have U26:=S27.trans U27;have U25:=S26.trans U26;have U24:=S25.trans U25;have U23:=S24.trans U24;have U22:=S23.trans U23;have U21:=S22.trans U22;have U20:=S21.trans U21;have U19:=S20.trans U20;have U18:=S19.trans U19;have U17:=S18.trans U18;have U16:=S17.trans U17;have U15:=S16.trans U16;have U14:=S15.trans U15;have U13:=S14.trans U14;have U12:=S13.trans U13;have U11:=S12.trans U12;have U10:=S11.trans U11;have U9:=S10.trans U10;have U8:=S9.trans U9;have U7:=S8.trans U8;have U6:=S7.trans U7;have U5:=S6.trans U6;have U4:=S5.trans U5;have U3:=S4.trans U4;have U2:=S3.trans U3;have U1:=S2.trans U2;have ne:∀ {Hk:Hp} {c:Addr} {u:HO},Sub Hk H28->Hk c=some u->c≠p29:=fun S e z=>by rw [← z,S _ _ e] at n29;cases n29
    have V28:Sub H28 H28:=Sub.refl;have V27:=S28.trans V28;have V26:=S27.trans V27;have V25:=S26.trans V26;have V24:=S25.trans V25;have V23:=S24.trans V24;have V22:=S23.trans V23;have V21:=S22.trans V22;have V20:=S21.trans V21;have V19:=S20.trans V20;have V18:=S19.trans V19;have V17:=S18.trans V18;have V16:=S17.trans V17;have V15:=S16.trans V16;have V14:=S15.trans V15;have V13:=S14.trans V14;have V12:=S13.trans V13;have V11:=S12.trans V12;have V10:=S11.trans V11;have V9:=S10.trans V10;have V8:=S9.trans V9;have V7:=S8.trans V8;have V6:=S7.trans V7;have V5:=S6.trans V6;have V4:=S5.trans V5;have V3:=S4.trans V4;have V2:=S3.trans V3;have V1:=S2.trans V2;refine⟨p29,[p1,p3,p6,p11,p19,p23,p28],rfl,S1.trans U1,(S1.trans V1).free n29,rfl,e29,fun c hc=>?_⟩;simp only [zsF,List.not_mem_nil,or_false] at hc;rcases hc with rfl | rfl | rfl | rfl | rfl | rfl | rfl
    ·exact⟨[],[],(U1 _ _ e1),ne V1 e1,by simp,.nil,⟨by decide,by decide⟩,by decide⟩
    ·exact⟨[p2],[[]],(U3 _ _ e3),ne V3 e3,fun r hr=>by simp only [zsF,List.not_mem_nil,or_false] at hr;rcases hr with rfl <;> first | exact ne V2 e2,(a2c ⟨[],(U2 _ _ e2),.nil⟩ .nil),⟨by decide,by decide⟩,by decide⟩
    ·exact⟨[p5],[[[]]],(U6 _ _ e6),ne V6 e6,fun r hr=>by simp only [zsF,List.not_mem_nil,or_false] at hr;rcases hr with rfl <;> first | exact ne V5 e5,(a2c ⟨[p4],(U5 _ _ e5),(a2c (U4 _ _ e4) .nil)⟩ .nil),⟨by decide,by decide⟩,by decide⟩
    ·exact⟨[p9,p9,p9,p9,p9],[[[],[]],[[],[]],[[],[]],[[],[]],[[],[]]],(U11 _ _ e11),ne V11 e11,fun r hr=>by simp only [zsF,List.not_mem_nil,or_false] at hr;rcases hr with rfl | rfl | rfl | rfl | rfl <;> first | exact ne V9 e9,(a2c ⟨[p7,p8],(U9 _ _ e9),(a2c (U7 _ _ e7) (a2c (U8 _ _ e8) .nil))⟩ (a2c ⟨[p7,p8],(U9 _ _ e9),(a2c (U7 _ _ e7) (a2c (U8 _ _ e8) .nil))⟩ (a2c ⟨[p7,p8],(U9 _ _ e9),(a2c (U7 _ _ e7) (a2c (U8 _ _ e8) .nil))⟩ (a2c ⟨[p7,p8],(U9 _ _ e9),(a2c (U7 _ _ e7) (a2c (U8 _ _ e8) .nil))⟩ (a2c ⟨[p7,p8],(U9 _ _ e9),(a2c (U7 _ _ e7) (a2c (U8 _ _ e8) .nil))⟩ .nil))))),⟨by decide,by decide⟩,by decide⟩
    ·exact⟨[p14,p18],[[[],[]],[[],[],[]]],(U19 _ _ e19),ne V19 e19,fun r hr=>by simp only [zsF,List.not_mem_nil,or_false] at hr;rcases hr with rfl | rfl <;> first | exact ne V14 e14 | exact ne V18 e18,(a2c ⟨[p12,p13],(U14 _ _ e14),(a2c (U12 _ _ e12) (a2c (U13 _ _ e13) .nil))⟩ (a2c ⟨[p15,p16,p17],(U18 _ _ e18),(a2c (U15 _ _ e15) (a2c (U16 _ _ e16) (a2c (U17 _ _ e17) .nil)))⟩ .nil)),⟨by decide,by decide⟩,by decide⟩
    ·exact⟨[p22],[[[],[],[],[],[]]],(U23 _ _ e23),ne V23 e23,fun r hr=>by simp only [zsF,List.not_mem_nil,or_false] at hr;rcases hr with rfl <;> first | exact ne V22 e22,(a2c ⟨[p20,p20,p20,p20,p20],(U22 _ _ e22),(a2c (U20 _ _ e20) (a2c (U20 _ _ e20) (a2c (U20 _ _ e20) (a2c (U20 _ _ e20) (a2c (U20 _ _ e20) .nil)))))⟩ .nil),⟨by decide,by decide⟩,by decide⟩
    ·exact⟨[p26,p27],[[[],[]],[]],(U28 _ _ e28),ne V28 e28,fun r hr=>by simp only [zsF,List.not_mem_nil,or_false] at hr;rcases hr with rfl | rfl <;> first | exact ne V26 e26 | exact ne V27 e27,(a2c ⟨[p24,p25],(U26 _ _ e26),(a2c (U24 _ _ e24) (a2c (U25 _ _ e25) .nil))⟩ (a2c ⟨[],(U27 _ _ e27),.nil⟩ .nil)),⟨by decide,by decide⟩,by decide⟩
   rintro σ H1 ⟨ps,as,rfl,S1,nps,l1,g1,x1⟩;refine⟨fun σ H'=>∃ (pb:Addr) (bs:List Addr),σ=[some (.ref pp),some (.ref p),some (.int (sgn m)),some (.int m.length),some (.ref ps),some (.ref pb),none,none]/\Sub H1 H'/\H' pb=some (.lst (bs.map V.ref))/\za6 (Ent H') bs (zjT (sgn m)),?_,?_⟩
   ·skip
    refine⟨by show 1<=sizeLine;decide,?_⟩;intro p2 n2;generalize U':upd _ p2 _=H2;obtain ⟨S2,e2⟩:=zag n2 U';clear U';refine⟨by show 2<=sizeLine;decide,?_⟩;intro p3 n3;generalize U':upd _ p3 _=H3;obtain ⟨S3,e3⟩:=zag n3 U';clear U';refine⟨by show 4<=sizeLine;decide,?_⟩;intro p4 n4;generalize U':upd _ p4 _=H4;obtain ⟨S4,e4⟩:=zag n4 U';clear U';refine⟨by show 3<=sizeLine;decide,?_⟩;intro p5 n5;generalize U':upd _ p5 _=H5;obtain ⟨S5,e5⟩:=zag n5 U';clear U';refine⟨by show 3<=sizeLine;decide,?_⟩;intro p6 n6;generalize U':upd _ p6 _=H6;obtain ⟨S6,e6⟩:=zag n6 U';clear U';refine⟨by show 3<=sizeLine;decide,?_⟩;intro p7 n7;generalize U':upd _ p7 _=H7;obtain ⟨S7,e7⟩:=zag n7 U';clear U';refine⟨by show 3<=sizeLine;decide,?_⟩;intro p8 n8;generalize U':upd _ p8 _=H8;obtain ⟨S8,e8⟩:=zag n8 U';clear U';refine⟨by show 7<=sizeLine;decide,?_⟩;intro p9 n9;generalize U':upd _ p9 _=H9;obtain ⟨S9,e9⟩:=zag n9 U';clear U';have U9:Sub H9 H9:=Sub.refl;have U8:=S9.trans U9;have U7:=S8.trans U8;have U6:=S7.trans U7;have U5:=S6.trans U6;have U4:=S5.trans U5;have U3:=S4.trans U4;have U2:=S3.trans U3;exact⟨p9,[p2,p3,p4,p5,p6,p7,p8],rfl,S2.trans U2,e9,(a2c (U2 _ _ e2) (a2c (U3 _ _ e3) (a2c (U4 _ _ e4) (a2c (U5 _ _ e5) (a2c (U6 _ _ e6) (a2c (U7 _ _ e7) (a2c (U8 _ _ e8) .nil)))))))⟩
   rintro σ H2 ⟨pb1,bs1,rfl,S2,g2,x2⟩;refine⟨fun σ H'=>∃ (pb:Addr) (bs:List Addr),σ=[some (.ref pp),some (.ref p),some (.int (sgn m)),some (.int m.length),some (.ref ps),some (.ref pb),none,none]/\Sub H2 H'/\H' pb=some (.lst (bs.map V.ref))/\za6 (Ent H') bs (zjT (sgn m)++zk5 m.length)/\pb≠ps,?_,?_⟩
   ·skip
    refine⟨by show 3<=sizeLine;decide,?_⟩;intro p3 n3;generalize U':upd _ p3 _=H3;obtain ⟨S3,e3⟩:=zag n3 U';clear U';refine⟨by show 3<=sizeLine;decide,?_⟩;intro p4 n4;generalize U':upd _ p4 _=H4;obtain ⟨S4,e4⟩:=zag n4 U';clear U';refine⟨by show 3<=sizeLine;decide,?_⟩;intro p5 n5;generalize U':upd _ p5 _=H5;obtain ⟨S5,e5⟩:=zag n5 U';clear U';refine⟨by show 3<=sizeLine;decide,?_⟩;intro p6 n6;generalize U':upd _ p6 _=H6;obtain ⟨S6,e6⟩:=zag n6 U';clear U';have l2:=x2.1;refine⟨_,_,S6 _ _ (S5 _ _ (S4 _ _ (S3 _ _ g2))),e6,by rw [zrY,l2];show 7+3<=sizeLine;decide,?_⟩;intro p7 n7;generalize U':upd _ p7 _=H7;obtain ⟨S7,e7⟩:=zag n7 U';clear U';have U6:=S7;have U5:=S6.trans U6;have U4:=S5.trans U5;have U3:=S4.trans U4;exact⟨p7,bs1++[p3,p4,p5],rfl,S3.trans U3,by rw [zr6];exact e7,(x2.mono fun _ _ _ z=>(S3.trans U3) _ _ z).append (a2c (U3 _ _ e3) (a2c (U4 _ _ e4) (a2c (U5 _ _ e5) .nil))),by rintro rfl;rw [S6 _ _ (S5 _ _ (S4 _ _ (S3 _ _ (S2 _ _ g1))))] at n7;cases n7⟩
   rintro σ H3 ⟨pb,bs,rfl,S3,g3,x3,nbs⟩;have S13:=S2.trans S3;have S03:=S1.trans S13;have P3:=P0.sub S03;have gs3:=S13 _ _ g1;have xs3:∀ c∈as,MaN ps H3 c:=fun c hc=>(x1 c hc).stay (.sub S13)
   have lb:bs.length=10:=x3.1;have npp:ps≠pp:=by rintro rfl;rw [hp] at nps;cases nps
   refine⟨⟨by decide,by decide⟩,?_⟩;refine zbh (lo:=0) (n:=4) (fun i σ H4=>∃ (v6 v7:Option V) (as:List Addr),σ=[some (.ref pp),some (.ref p),some (.int (sgn m)),some (.int m.length),some (.ref ps),some (.ref pb),v6,v7]/\Pu pp k H H4/\H4 pb=some (.lst (bs.map V.ref))/\za6 (Ent H4) bs (zjT (sgn m)++zk5 m.length)/\as.length=7+i/\H4 ps=some (.lst (as.map V.ref))/\pb≠ps/\∀ c∈as,MaN ps H4 c) ?_ ?_ ?_
   ·exact⟨_,_,as,rfl,P3,g3,x3,l1,gs3,nbs,xs3⟩
   ·rintro i σ H4 hi ⟨v6,v7,as,rfl,P4,g4,x4,l4,gs4,nbs,xs4⟩;have hm4:=P4.stay.refs _ _ hm;have hrw4:za6 (Row H4) rs0 m:=hrw.mono fun _ _ _ z=>z.stay P4.stay
    refine⟨⟨_,SqL.of hm4⟩,?_⟩;intro p1 n1;refine za3 (K:=K) (a:=p) (xs:=rs0.map V.ref) (fun i σ H5=>∃ (v:Option V) (rs:List Addr),σ=[v]/\Sub H4 H5/\MaR H5 p1 rs (m.take i)/\∀ r∈rs,H4 r=none) ?_ ?_ ?_ ?_
    ·exact⟨none,[],rfl,Sub.new n1,⟨zah,by simp,.nil⟩,by simp⟩
    ·rintro j σ H5 _ ⟨v,rs,rfl,S5,_⟩;exact SqL.of (S5 _ _ hm4)
    ·rintro j x σ H5 hj ⟨v,rs,rfl,S5,M5,f5⟩;rw [zrZ] at hj;obtain⟨c',hc',rfl⟩:=zr1.1 hj;obtain⟨es,he,as',hE,hA⟩:=hrw4.at hc';refine⟨_,.inl (SqL.of (S5 _ _ hE)),?_⟩;intro p6 n6;generalize U':upd _ p6 _=H6;obtain ⟨S6,e6⟩:=zag n6 U';clear U';have M6:=M5.stay (.sub S6);have R6:Row H6 p6 es:=⟨as',e6,hA.mono fun _ _ _ z=>S6 _ _ (S5 _ _ z)⟩;refine⟨_,M6.1,?_,_,rs++[p6],rfl,(S5.trans S6).upd n1,?_,?_⟩
     ·rw [zrY,M6.2.2.1,zsm];exact zsc (Nat.min_le_right _ _) (zsc hn4 (by decide))
     ·rw [zsk,he];exact M6.app' R6 (M5.out n6) (M5.outp n6)
     ·intro r hr;rcases zr9.1 hr with hr | hr
      ·exact f5 r hr
      ·rw [zr7.1 hr];exact S5.free n6
    rintro σ H5 ⟨v,rs,rfl,S5,M5,f5⟩;rw [zrY,hrw4.1,zsj] at M5;have P5:=P4.sub S5;have R5:Pu pp k H4 H5:=(Pu.refl P4.has).sub S5;obtain⟨c5,e5⟩:=P5.has;refine⟨_,.inl (SqL.of (S5 _ _ g4)),?_⟩;rw [show (((bs.map V.ref).length:Nat):Int)=10 by rw [zrY,lb];rfl];walk_at "w";refine⟨zbL (by decide) (by decide),_,_,e5,fun d6 n6 d60 d61=>?_⟩;have P6:=P5.draw n6;have Q6:=Pu.of_draw n6 e5;generalize hg6:upd _ pp _=H6 at P6 Q6 ⊢;have e6:H6 pp=some (.lst [.int n6,.int k]):=by rw [← hg6];exact zah
    clear hg6;walk_at "w";have R6:=R5.trans Q6;have g6:H6 pb=some (.lst (bs.map V.ref)):=R6.stay.refs _ _ g4;have x6:za6 (Ent H6) bs (zjT (sgn m)++zk5 m.length):=x4.mono fun _ _ _ z=>z.stay R6.stay
    obtain⟨pe,hpe⟩:∃ pe,bs[d6.toNat]?=some pe:=⟨_,zr0 (by omega)⟩;obtain⟨e,he,hE⟩:=x6.at hpe;have hno:=zpg (zr3 he);refine⟨_,_,SqL.of g6,zce d60 (by rw [zrZ,hpe];rfl),?_⟩;walk_at "w";refine⟨zbL (by omega) (by omega),_,_,e6,fun d7 n7 d70 d71=>?_⟩;have P7:=P6.draw n7;have Q7:=Pu.of_draw n7 e6;generalize hg7:upd _ pp _=H7 at P7 Q7 ⊢;have e7:H7 pp=some (.lst [.int n7,.int k]):=by rw [← hg7];exact zah
    clear hg7;walk_at "w";have R7:=R6.trans Q7;have M7:MaR H7 p1 rs m:=(M5.stay Q6.stay).stay Q7.stay;have hlt:d7.toNat<rs.length:=by rw [M7.2.2.1];omega
    obtain⟨rr,hrd⟩:∃ rr,rs[d7.toNat]?=some rr:=⟨_,zr0 hlt⟩;have fr4:=f5 rr (zr3 hrd);refine⟨_,_,SqL.of M7.1,zce d70 (by rw [zrZ,hrd];rfl),?_⟩;walk_at "w";refine⟨zbL (by omega) (by omega),_,_,e7,fun d8 n8 d80 d81=>?_⟩;have P8:=P7.draw n8;have Q8:=Pu.of_draw n8 e7;generalize hg8:upd _ pp _=H8 at P8 Q8 ⊢;have e8:H8 pp=some (.lst [.int n8,.int k]):=by rw [← hg8];exact zah
    clear hg8;walk_at "w";have R8:=R7.trans Q8;have M8:=M7.stay Q8.stay;obtain⟨es,hes,as',hra⟩:=M8.2.2.at hrd;have hesl:es.length=sgn m:=M.len es (zr3 hes);have hel:((as'.map V.ref).length:Int)=sgn m:=by rw [zrY,hra.2.1,hesl]
    have hE8:Ent H8 pe e:=(hE.stay Q7.stay).stay Q8.stay;refine⟨_,d8.toNat,hra.1,zhs d80 (by rw [hel];exact d81),?_⟩;have M9:=M8.rowSet (j:=d8.toNat) hrd hra hE8;have R9:Pu pp k H4 (upd H8 rr (.lst ((as'.map V.ref).set d8.toNat (V.ref pe)))):=R8.set fr4;generalize upd H8 rr (.lst ((as'.map V.ref).set d8.toNat (V.ref pe)))=H9 at M9 R9;have gs9:H9 ps=some (.lst (as.map V.ref)):=R9.stay.refs _ _ gs4;have ne1:p1≠ps:=by rintro rfl;rw [gs4] at n1;cases n1
    have nrs:∀ r∈rs,r≠ps:=fun r hr=>by rintro rfl;have:=f5 r hr;rw [gs4] at this;cases this
    have new:MaN ps H9 p1:=⟨rs,_,M9.1,ne1,nrs,M9.2.2,zqp M hes,zot hes (by omega) hno⟩;refine⟨.inl ⟨rfl,_,SqL.of gs9⟩,?_⟩;refine⟨_,gs9,by rw [zrY,l4];exact zsf (show 7+i<20 by omega) (by decide),_,_,as++[p1],rfl,(P4.trans R9).set nps,by rw [zao nbs];exact R9.stay.refs _ _ g4,?_,by rw [zr8,l4];rfl,by rw [zah,zr6];rfl,nbs,fun c hc=>?_⟩
    ·refine x4.mono fun _ _ _ z=>?_
     have z:H9 _=some _:=z.stay R9.stay;show (upd H9 ps _) _=_;rw [zao (by rintro rfl;rw [gs9] at z;cases z)];exact z
    ·rcases zr9.1 hc with hc | hc
     ·exact ((xs4 c hc).stay R9.stay).upd gs9
     ·rw [zr7.1 hc];exact new.upd gs9
   rintro σ H4 ⟨v6,v7,as,rfl,P4,g4,x4,l4,gs4,nbs,xs4⟩;walk_at "w";exact h ps H4 P4 ⟨as,by omega,gs4,fun c hc=>(xs4 c hc).u⟩
  ·exact h.elim
theorem znr:zal ["_law_script","_law_purse_here","_law_machine_here","_law_way","_law_odd_here"] ["_law_script"] (zad zke):=by walk_at "s"
def zfS (K:PySem.W.Frag):Sp:=fun vs H Q _=>match vs with
 | [.ref b]=>∃ ns:List Int,SqL K H b (ns.map V.int)/\ns.length<=63/\∀ H',Q (.bl true) H'
 | _=>False
theorem zgr {H:Hp} {q:Addr} {x y:Bool} (h:H q=some (.lst [.bl x,.bl y])):Den H (.ref q) (.lst [.bl x,.bl y]):=by
 rw [Den];exact⟨_,_,rfl,h,⟨_,_,rfl,by rw [Den],⟨_,_,rfl,by rw [Den],rfl⟩⟩⟩
theorem zp6 (T:Tx K mg a):zaC P w K mg base CX0 12 a.law a.law_d ["_law_script"] (zfS K):=by
 have G_l_purse:=zj2 (P:=P) (w:=w) (base:=base) T;have G_l_machine:=zhG (P:=P) (w:=w) (base:=base) T;have G_l_caught:=zhW (P:=P) (w:=w) (base:=base) T;have G_l_odd:=zl6 (P:=P) (w:=w) (base:=base) T;refine T.f_law.ok znr (fun vs H Q E h=>?_) (fun cdv A outer s H vs Q E hr h=>?_)
 ·unfold zfS at h;split at h
  ·rfl
  ·exact h.elim
 ·unfold zfS at h;split at h
  ·have nd:=znr.nd;have hu:=zaz hr;rename_i b;obtain⟨ns,hb,hl,h⟩:=h;refine⟨_,(zab (zaq (i:=1) nd rfl (by walk_at "o") (zaj G_l_purse (hr.mono (by decide)) rfl T.g_l_purse T.f_l_purse.kp T.b_l_purse .nil zav (zaa (qv 0) zac)))
  (zab (zaq (i:=2) nd rfl (by walk_at "o") (zaj G_l_machine (hr.mono (by decide)) rfl T.g_l_machine T.f_l_machine.kp T.b_l_machine .nil zav (zaa (qv 1) zac)))
  (zab (zby PassesOwn.never rfl (zb3 rfl T.z_range (zaa zaf zac)) (zai (i:=3) nd rfl (by walk_at "o")) (zab (zbA (zbv (zi7 hr) (zaj G_l_caught (hr.mono (by decide)) rfl T.g_l_caught T.f_l_caught.kp T.b_l_caught .nil zav (zaa (qv 3) (zaa (qv 2) zac))) (zaL (zaa zcG (zaa zcG zac)))) (zae (zam zcG)) zas)
    (zae (zby PassesOwn.never rfl (zaJ (K:=K) rfl (zaj G_l_odd (hr.mono (by decide)) rfl T.g_l_odd T.f_l_odd.kp T.b_l_odd .nil zav (zaa (qv 1) (zaa (qv 2) zac)))) (zai (i:=4) nd rfl (by walk_at "o")) (zae (zbA (zbv (zi7 hr) (zaj G_l_caught (hr.mono (by decide)) rfl T.g_l_caught T.f_l_caught.kp T.b_l_caught .nil zav (zaa (qv 3) (zaa (qv 4) zac))) (zaL (zaa zcG (zaa zcG zac)))) (zae (zam zcG)) zas))))))
  (zae (zam zcG))))),?_⟩
   refine⟨ns,hb,hl,fun pp H1 n k S1 n1 e1=>?_⟩;refine⟨n,k,e1,fun tm m H2 P2 nt hm hM=>?_⟩;refine⟨⟨by decide,by decide⟩,?_⟩;refine zbh (lo:=0) (n:=16) (fun i σ H3=>∃ (v3 v4:Option V),σ=[some (.ref b),some (.ref pp),some (.ref tm),v3,v4]/\Pu pp k H2 H3) ?_ ?_ ?_
   ·exact⟨_,_,rfl,Pu.refl P2.has⟩
   ·rintro i σ H3 hi ⟨v3,v4,rfl,P3⟩;have hm3:=hm.stay P3.stay;refine⟨⟨by omega,by omega⟩,.inl ⟨m,hm3,hM,fun q H4 S4 hq=>?_⟩⟩;refine⟨by show 2<=sizeLine;decide,?_⟩;intro p5 n5;generalize U':upd _ p5 _=H5;obtain ⟨S5,e5⟩:=zag n5 U';clear U';refine⟨_,_,zgr (S5 _ _ hq),zgr e5,by decide,?_⟩;rw [zc2];walk_at "w";refine ifB.no rfl ?_;have P5:=(P3.sub S4).sub S5;obtain⟨n5,e5'⟩:=P5.has;refine⟨n5,k,m,e5',hm.stay P5.stay,hM,fun po H6 P6 ho=>?_⟩;obtain⟨as,la,g6,x6⟩:=ho;have P06:=P5.trans P6;refine⟨⟨_,SqL.of g6⟩,?_⟩;refine zd0 (K:=K) (a:=po) (xs:=as.map V.ref) (fun j σ H7=>∃ (v4:Option V),σ=[some (.ref b),some (.ref pp),some (.ref tm),some (.int (0+(i:Int))),v4]/\Sub H6 H7) ?_ ?_ ?_ ?_
    ·exact⟨_,rfl,Sub.refl⟩
    ·rintro j σ H7 _ ⟨v4,rfl,S7⟩;exact SqL.of (S7 _ _ g6)
    ·rintro j x σ H7 hj ⟨v4,rfl,S7⟩;rw [zrZ] at hj;obtain⟨c,hc,rfl⟩:=zr1.1 hj;obtain⟨mo,hmo,hbo,hFo⟩:=x6 c (zr3 hc);refine⟨⟨by omega,by omega⟩,.inr ⟨mo,hmo.sub S7,hbo,hFo,fun q H8 S8 hq=>?_⟩⟩;refine⟨by show 2<=sizeLine;decide,?_⟩;intro p9 n9;generalize U':upd _ p9 _=H9;obtain ⟨S9,e9⟩:=zag n9 U';clear U';refine⟨_,_,zgr (S9 _ _ hq),zgr e9,by decide,?_⟩;rw [zc2];walk_at "w";refine ifB.no rfl ?_;exact⟨_,rfl,(S7.trans S8).trans S9⟩
    rintro σ H7 ⟨v4,rfl,S7⟩;exact⟨_,_,rfl,P06.sub S7⟩
   rintro σ H3 ⟨v3,v4,rfl,P3⟩;walk_at "w";exact h _
  ·exact h.elim
end
open PySem.W in
theorem all_mk {l:OpenLaw} {w:World} {K:Frag} {h:Heap} {mg:Str->Option Value} {fa:Addr} {tk_MOST_ROWS tk_LEAST_SIGNS tk_MOST_SIGNS tk_MOST_MOMENT tk_MOST_PARTS tk_MOST_DEPTH tk_NO_ENTRY:Tok} {h0_WAYS:Int} {tk0_WAYS tv0_WAYS:Tok} {h1_WAYS:Int} {tk1_WAYS tv1_WAYS:Tok} {ep_WAYS:Nat} {od_ROWS:Option Addr} {n_ROWS:Nat} {sl_ROWS:Array (Option Value)} {tv0_ROWS tv1_ROWS tv2_ROWS tv3_ROWS:Tok} {xZ0 xZ1 xZ2 xZ3 xZ4 xZ5 xZ7 xZ8 xZ9 xZ10 xZ11 xZ12 xZ13 xZ14 xZ17 xZ20 xZ23 xZ26 xZ28 xZ31 xZ32 xZ35 xZ36 xZ37 xZ40 xZ41 xZ42 xZ43 xZ44 xZ47 xZ50 xZ51 xZ52 xZ53 xZ54 xZ55 xZ56 xZ57 xZ60 xZ61 xZ64 xZ67 xZ70 xZ73 xZ76 xZ77 xZ78 xZ79 xZ80 xZ81 xZ82 x_MillError x_Full x_NoDeed x_NoMachine x_NoName x_NoPaper x_NoSize x_NoSuch x_NoText x_Twice x_Walk x_WAYS x_ROWS:Addr} (X:K.In h) (G:h.Ns mainGlobals mg) (hfa:mg "law"=some (.ref fa))
  {odZ0 anZ0 odZ1 anZ1 odZ2 anZ2 odZ3 anZ3 odZ4 anZ4 odZ5 anZ5 odZ7 anZ7 odZ8 anZ8 odZ9 anZ9 odZ10 anZ10 odZ11 anZ11 odZ12 anZ12 odZ13 anZ13 odZ14 anZ14 odZ17 anZ17 odZ20 anZ20 odZ23 anZ23 odZ26 anZ26 odZ28 anZ28 odZ31 anZ31 odZ32 anZ32 odZ35 anZ35 odZ36 anZ36 odZ37 anZ37 odZ40 anZ40 odZ41 anZ41 odZ42 anZ42 odZ43 anZ43 odZ44 anZ44 odZ47 anZ47 odZ50 anZ50 odZ51 anZ51 odZ52 anZ52 odZ53 anZ53 odZ54 anZ54 odZ55 anZ55 odZ56 anZ56 odZ57 anZ57 odZ60 anZ60 odZ61 anZ61 odZ64 anZ64 odZ67 anZ67 odZ70 anZ70 odZ73 anZ73 odZ76 anZ76 odZ77 anZ77 odZ78 anZ78 odZ79 anZ79 odZ80 anZ80 odZ81 anZ81 odZ82 anZ82:Option Addr} {slZ0 slZ1 slZ2 slZ3 slZ4 slZ5 slZ7 slZ8 slZ9 slZ10 slZ11 slZ12 slZ13 slZ14 slZ17 slZ20 slZ23 slZ26 slZ28 slZ31 slZ32 slZ35 slZ36 slZ37 slZ40 slZ41 slZ42 slZ43 slZ44 slZ47 slZ50 slZ51 slZ52 slZ53 slZ54 slZ55 slZ56 slZ57 slZ60 slZ61 slZ64 slZ67 slZ70 slZ73 slZ76 slZ77 slZ78 slZ79 slZ80 slZ81 slZ82:Array (Option Value)} {ocZ0 kVZ0 dcZ0 pmZ0 cdZ0 ctZ0 ocZ1 kVZ1 dcZ1 pmZ1 cdZ1 ctZ1 ocZ2 kVZ2 dcZ2 pmZ2 cdZ2 ctZ2 ocZ3 kVZ3 dcZ3 pmZ3 cdZ3 ctZ3 ocZ4 kVZ4 dcZ4 pmZ4 cdZ4 ctZ4 ocZ5 kVZ5 dcZ5 pmZ5 cdZ5 ctZ5 ocZ7 kVZ7 dcZ7 pmZ7 cdZ7 ctZ7 ocZ8 kVZ8 dcZ8 pmZ8 cdZ8 ctZ8 ocZ9 kVZ9 dcZ9 pmZ9 cdZ9 ctZ9 ocZ10 kVZ10 dcZ10 pmZ10 cdZ10 ctZ10 ocZ11 kVZ11 dcZ11 pmZ11 cdZ11 ctZ11 ocZ12 kVZ12 dcZ12 pmZ12 cdZ12 ctZ12 ocZ13 kVZ13 dcZ13 pmZ13 cdZ13 ctZ13 ocZ14 kVZ14 dcZ14 pmZ14 cdZ14 ctZ14 ocZ17 kVZ17 dcZ17 pmZ17 cdZ17 ctZ17 ocZ20 kVZ20 dcZ20 pmZ20 cdZ20 ctZ20 ocZ23 kVZ23 dcZ23 pmZ23 cdZ23 ctZ23 ocZ26 kVZ26 dcZ26 pmZ26 cdZ26 ctZ26 ocZ28 kVZ28 dcZ28 pmZ28 cdZ28 ctZ28 ocZ31 kVZ31 dcZ31 pmZ31 cdZ31 ctZ31 ocZ32 kVZ32 dcZ32 pmZ32 cdZ32 ctZ32 ocZ35 kVZ35 dcZ35 pmZ35 cdZ35 ctZ35 ocZ36 kVZ36 dcZ36 pmZ36 cdZ36 ctZ36 ocZ37 kVZ37 dcZ37 pmZ37 cdZ37 ctZ37 ocZ40 kVZ40 dcZ40 pmZ40 cdZ40 ctZ40 ocZ41 kVZ41 dcZ41 pmZ41 cdZ41 ctZ41 ocZ42 kVZ42 dcZ42 pmZ42 cdZ42 ctZ42 ocZ43 kVZ43 dcZ43 pmZ43 cdZ43 ctZ43 ocZ44 kVZ44 dcZ44 pmZ44 cdZ44 ctZ44 ocZ47 kVZ47 dcZ47 pmZ47 cdZ47 ctZ47 ocZ50 kVZ50 dcZ50 pmZ50 cdZ50 ctZ50 ocZ51 kVZ51 dcZ51 pmZ51 cdZ51 ctZ51 ocZ52 kVZ52 dcZ52 pmZ52 cdZ52 ctZ52 ocZ53 kVZ53 dcZ53 pmZ53 cdZ53 ctZ53 ocZ54 kVZ54 dcZ54 pmZ54 cdZ54 ctZ54 ocZ55 kVZ55 dcZ55 pmZ55 cdZ55 ctZ55 ocZ56 kVZ56 dcZ56 pmZ56 cdZ56 ctZ56 ocZ57 kVZ57 dcZ57 pmZ57 cdZ57 ctZ57 ocZ60 kVZ60 dcZ60 pmZ60 cdZ60 ctZ60 ocZ61 kVZ61 dcZ61 pmZ61 cdZ61 ctZ61 ocZ64 kVZ64 dcZ64 pmZ64 cdZ64 ctZ64 ocZ67 kVZ67 dcZ67 pmZ67 cdZ67 ctZ67 ocZ70 kVZ70 dcZ70 pmZ70 cdZ70 ctZ70 ocZ73 kVZ73 dcZ73 pmZ73 cdZ73 ctZ73 ocZ76 kVZ76 dcZ76 pmZ76 cdZ76 ctZ76 ocZ77 kVZ77 dcZ77 pmZ77 cdZ77 ctZ77 ocZ78 kVZ78 dcZ78 pmZ78 cdZ78 ctZ78 ocZ79 kVZ79 dcZ79 pmZ79 cdZ79 ctZ79 ocZ80 kVZ80 dcZ80 pmZ80 cdZ80 ctZ80 ocZ81 kVZ81 dcZ81 pmZ81 cdZ81 ctZ81 ocZ82 kVZ82 dcZ82 pmZ82 cdZ82 ctZ82:Value}
  {cx_MillError cx_Full cx_NoDeed cx_NoMachine cx_NoName cx_NoPaper cx_NoSize cx_NoSuch cx_NoText cx_Twice:ClassData}
  (a_Walk:nsIn K mainGlobals "Walk"=some (some (.ref x_Walk)))
  (pg_Walk:plainGet K x_Walk Str.empty=true)
  (hd_Walk:hasDictIn K x_Walk=true)
  (po_Walk:plainOver K x_Walk=true)
  (sa_Walk:findIn K (.ref x_Walk) "__setattr__"=some (some (.builtin "object.__setattr__")))
  (mk_Walk:makesIn K x_Walk=true)
  (kc_Walk:keepIn K (.ref x_Walk)=true)
  (n_Walk_table:findIn K (.ref x_Walk) "table"=some none)
  (n_Walk_row:findIn K (.ref x_Walk) "row"=some none)
  (n_Walk_place:findIn K (.ref x_Walk) "place"=some none)
  (n_Walk_marks:findIn K (.ref x_Walk) "marks"=some none)
  (aZ0:nsIn K mainGlobals "_law_mixed"=some (some (.ref xZ0)))
  (lZ0:K.lookup xZ0=some ⟨ocZ0,odZ0,.func (fnOf "_law_mixed" "_law_mixed" (zar zcf) (zap zcf) (zad zcf) .none kVZ0 dcZ0 pmZ0 anZ0 cdZ0 ctZ0),slZ0⟩)
  (cZ0:codeIn K cdZ0 "_law_mixed"=true)
  (kZ0:keepIn K (.ref xZ0)=true)
  (aZ1:nsIn K mainGlobals "_law_draw"=some (some (.ref xZ1)))
  (lZ1:K.lookup xZ1=some ⟨ocZ1,odZ1,.func (fnOf "_law_draw" "_law_draw" (zar zc0) (zap zc0) (zad zc0) .none kVZ1 dcZ1 pmZ1 anZ1 cdZ1 ctZ1),slZ1⟩)
  (cZ1:codeIn K cdZ1 "_law_draw"=true)
  (kZ1:keepIn K (.ref xZ1)=true)
  (aZ2:nsIn K mainGlobals "_law_purse"=some (some (.ref xZ2)))
  (lZ2:K.lookup xZ2=some ⟨ocZ2,odZ2,.func (fnOf "_law_purse" "_law_purse" (zar zcg) (zap zcg) (zad zcg) .none kVZ2 dcZ2 pmZ2 anZ2 cdZ2 ctZ2),slZ2⟩)
  (cZ2:codeIn K cdZ2 "_law_purse"=true)
  (kZ2:keepIn K (.ref xZ2)=true)
  (aZ3:nsIn K mainGlobals "is_entry"=some (some (.ref xZ3)))
  (lZ3:K.lookup xZ3=some ⟨ocZ3,odZ3,.func (fnOf "is_entry" "is_entry" (zar zbW) (zap zbW) (zad zbW) .none kVZ3 dcZ3 pmZ3 anZ3 cdZ3 ctZ3),slZ3⟩)
  (cZ3:codeIn K cdZ3 "is_entry"=true)
  (kZ3:keepIn K (.ref xZ3)=true)
  (aZ4:nsIn K mainGlobals "is_row"=some (some (.ref xZ4)))
  (lZ4:K.lookup xZ4=some ⟨ocZ4,odZ4,.func (fnOf "is_row" "is_row" (zar zcZ) (zap zcZ) (zad zcZ) .none kVZ4 dcZ4 pmZ4 anZ4 cdZ4 ctZ4),slZ4⟩)
  (cZ4:codeIn K cdZ4 "is_row"=true)
  (kZ4:keepIn K (.ref xZ4)=true)
  (aZ5:nsIn K mainGlobals "is_machine"=some (some (.ref xZ5)))
  (lZ5:K.lookup xZ5=some ⟨ocZ5,odZ5,.func (fnOf "is_machine" "is_machine" (zar zbk) (zap zbk) (zad zbk) .none kVZ5 dcZ5 pmZ5 anZ5 cdZ5 ctZ5),slZ5⟩)
  (cZ5:codeIn K cdZ5 "is_machine"=true)
  (kZ5:keepIn K (.ref xZ5)=true)
  (aZ7:nsIn K mainGlobals "must_machine"=some (some (.ref xZ7)))
  (lZ7:K.lookup xZ7=some ⟨ocZ7,odZ7,.func (fnOf "must_machine" "must_machine" (zar zaW) (zap zaW) (zad zaW) .none kVZ7 dcZ7 pmZ7 anZ7 cdZ7 ctZ7),slZ7⟩)
  (cZ7:codeIn K cdZ7 "must_machine"=true)
  (kZ7:keepIn K (.ref xZ7)=true)
  (aZ8:findIn K (.ref x_Walk) "__init__"=some (some (.ref xZ8)))
  (iZ8:isFn K (.ref xZ8)=true)
  (lZ8:K.lookup xZ8=some ⟨ocZ8,odZ8,.func (fnOf "__init__" "Walk.__init__" (zar za0) (zap za0) (zad za0) .none kVZ8 dcZ8 pmZ8 anZ8 cdZ8 ctZ8),slZ8⟩)
  (cZ8:codeIn K cdZ8 "Walk.__init__"=true)
  (kZ8:keepIn K (.ref xZ8)=true)
  (aZ9:findIn K (.ref x_Walk) "look"=some (some (.ref xZ9)))
  (iZ9:isFn K (.ref xZ9)=true)
  (lZ9:K.lookup xZ9=some ⟨ocZ9,odZ9,.func (fnOf "look" "Walk.look" (zar zbI) (zap zbI) (zad zbI) .none kVZ9 dcZ9 pmZ9 anZ9 cdZ9 ctZ9),slZ9⟩)
  (cZ9:codeIn K cdZ9 "Walk.look"=true)
  (kZ9:keepIn K (.ref xZ9)=true)
  (aZ10:findIn K (.ref x_Walk) "entry"=some (some (.ref xZ10)))
  (iZ10:isFn K (.ref xZ10)=true)
  (lZ10:K.lookup xZ10=some ⟨ocZ10,odZ10,.func (fnOf "entry" "Walk.entry" (zar zbo) (zap zbo) (zad zbo) .none kVZ10 dcZ10 pmZ10 anZ10 cdZ10 ctZ10),slZ10⟩)
  (cZ10:codeIn K cdZ10 "Walk.entry"=true)
  (kZ10:keepIn K (.ref xZ10)=true)
  (aZ11:findIn K (.ref x_Walk) "mark"=some (some (.ref xZ11)))
  (iZ11:isFn K (.ref xZ11)=true)
  (lZ11:K.lookup xZ11=some ⟨ocZ11,odZ11,.func (fnOf "mark" "Walk.mark" (zar zbJ) (zap zbJ) (zad zbJ) .none kVZ11 dcZ11 pmZ11 anZ11 cdZ11 ctZ11),slZ11⟩)
  (cZ11:codeIn K cdZ11 "Walk.mark"=true)
  (kZ11:keepIn K (.ref xZ11)=true)
  (aZ12:findIn K (.ref x_Walk) "step"=some (some (.ref xZ12)))
  (iZ12:isFn K (.ref xZ12)=true)
  (lZ12:K.lookup xZ12=some ⟨ocZ12,odZ12,.func (fnOf "step" "Walk.step" (zar zbF) (zap zbF) (zad zbF) .none kVZ12 dcZ12 pmZ12 anZ12 cdZ12 ctZ12),slZ12⟩)
  (cZ12:codeIn K cdZ12 "Walk.step"=true)
  (kZ12:keepIn K (.ref xZ12)=true)
  (aZ13:findIn K (.ref x_Walk) "setup"=some (some (.ref xZ13)))
  (iZ13:isFn K (.ref xZ13)=true)
  (lZ13:K.lookup xZ13=some ⟨ocZ13,odZ13,.func (fnOf "setup" "Walk.setup" (zar zbj) (zap zbj) (zad zbj) .none kVZ13 dcZ13 pmZ13 anZ13 cdZ13 ctZ13),slZ13⟩)
  (cZ13:codeIn K cdZ13 "Walk.setup"=true)
  (kZ13:keepIn K (.ref xZ13)=true)
  (aZ14:nsIn K mainGlobals "first_setup"=some (some (.ref xZ14)))
  (lZ14:K.lookup xZ14=some ⟨ocZ14,odZ14,.func (fnOf "first_setup" "first_setup" (zar zbf) (zap zbf) (zad zbf) .none kVZ14 dcZ14 pmZ14 anZ14 cdZ14 ctZ14),slZ14⟩)
  (cZ14:codeIn K cdZ14 "first_setup"=true)
  (kZ14:keepIn K (.ref xZ14)=true)
  (aZ17:nsIn K mainGlobals "begun"=some (some (.ref xZ17)))
  (lZ17:K.lookup xZ17=some ⟨ocZ17,odZ17,.func (fnOf "begun" "begun" (zar zdu) (zap zdu) (zad zdu) .none kVZ17 dcZ17 pmZ17 anZ17 cdZ17 ctZ17),slZ17⟩)
  (cZ17:codeIn K cdZ17 "begun"=true)
  (kZ17:keepIn K (.ref xZ17)=true)
  (aZ20:nsIn K mainGlobals "stepped"=some (some (.ref xZ20)))
  (lZ20:K.lookup xZ20=some ⟨ocZ20,odZ20,.func (fnOf "stepped" "stepped" (zar zb6) (zap zb6) (zad zb6) .none kVZ20 dcZ20 pmZ20 anZ20 cdZ20 ctZ20),slZ20⟩)
  (cZ20:codeIn K cdZ20 "stepped"=true)
  (kZ20:keepIn K (.ref xZ20)=true)
  (aZ23:nsIn K mainGlobals "run"=some (some (.ref xZ23)))
  (lZ23:K.lookup xZ23=some ⟨ocZ23,odZ23,.func (fnOf "run" "run" (zar zia) (zap zia) (zad zia) .none kVZ23 dcZ23 pmZ23 anZ23 cdZ23 ctZ23),slZ23⟩)
  (cZ23:codeIn K cdZ23 "run"=true)
  (kZ23:keepIn K (.ref xZ23)=true)
  (aZ26:nsIn K mainGlobals "setups"=some (some (.ref xZ26)))
  (lZ26:K.lookup xZ26=some ⟨ocZ26,odZ26,.func (fnOf "setups" "setups" (zar zcB) (zap zcB) (zad zcB) .none kVZ26 dcZ26 pmZ26 anZ26 cdZ26 ctZ26),slZ26⟩)
  (cZ26:codeIn K cdZ26 "setups"=true)
  (kZ26:keepIn K (.ref xZ26)=true)
  (aZ28:nsIn K mainGlobals "looks"=some (some (.ref xZ28)))
  (lZ28:K.lookup xZ28=some ⟨ocZ28,odZ28,.func (fnOf "looks" "looks" (zar zdk) (zap zdk) (zad zdk) .none kVZ28 dcZ28 pmZ28 anZ28 cdZ28 ctZ28),slZ28⟩)
  (cZ28:codeIn K cdZ28 "looks"=true)
  (kZ28:keepIn K (.ref xZ28)=true)
  (aZ31:nsIn K mainGlobals "touched"=some (some (.ref xZ31)))
  (lZ31:K.lookup xZ31=some ⟨ocZ31,odZ31,.func (fnOf "touched" "touched" (zar zb7) (zap zb7) (zad zb7) .none kVZ31 dcZ31 pmZ31 anZ31 cdZ31 ctZ31),slZ31⟩)
  (cZ31:codeIn K cdZ31 "touched"=true)
  (kZ31:keepIn K (.ref xZ31)=true)
  (aZ32:nsIn K mainGlobals "setup_key"=some (some (.ref xZ32)))
  (lZ32:K.lookup xZ32=some ⟨ocZ32,odZ32,.func (fnOf "setup_key" "setup_key" (zar zbD) (zap zbD) (zad zbD) .none kVZ32 dcZ32 pmZ32 anZ32 cdZ32 ctZ32),slZ32⟩)
  (cZ32:codeIn K cdZ32 "setup_key"=true)
  (kZ32:keepIn K (.ref xZ32)=true)
  (aZ35:nsIn K mainGlobals "ring"=some (some (.ref xZ35)))
  (lZ35:K.lookup xZ35=some ⟨ocZ35,odZ35,.func (fnOf "ring" "ring" (zar zeU) (zap zeU) (zad zeU) .none kVZ35 dcZ35 pmZ35 anZ35 cdZ35 ctZ35),slZ35⟩)
  (cZ35:codeIn K cdZ35 "ring"=true)
  (kZ35:keepIn K (.ref xZ35)=true)
  (aZ36:nsIn K mainGlobals "is_led_along"=some (some (.ref xZ36)))
  (lZ36:K.lookup xZ36=some ⟨ocZ36,odZ36,.func (fnOf "is_led_along" "is_led_along" (zar za8) (zap za8) (zad za8) .none kVZ36 dcZ36 pmZ36 anZ36 cdZ36 ctZ36),slZ36⟩)
  (cZ36:codeIn K cdZ36 "is_led_along"=true)
  (kZ36:keepIn K (.ref xZ36)=true)
  (aZ37:nsIn K mainGlobals "first_drift"=some (some (.ref xZ37)))
  (lZ37:K.lookup xZ37=some ⟨ocZ37,odZ37,.func (fnOf "first_drift" "first_drift" (zar zbd) (zap zbd) (zad zbd) .none kVZ37 dcZ37 pmZ37 anZ37 cdZ37 ctZ37),slZ37⟩)
  (cZ37:codeIn K cdZ37 "first_drift"=true)
  (kZ37:keepIn K (.ref xZ37)=true)
  (aZ40:nsIn K mainGlobals "drift"=some (some (.ref xZ40)))
  (lZ40:K.lookup xZ40=some ⟨ocZ40,odZ40,.func (fnOf "drift" "drift" (zar zds) (zap zds) (zad zds) .none kVZ40 dcZ40 pmZ40 anZ40 cdZ40 ctZ40),slZ40⟩)
  (cZ40:codeIn K cdZ40 "drift"=true)
  (kZ40:keepIn K (.ref xZ40)=true)
  (aZ41:nsIn K mainGlobals "entries_in"=some (some (.ref xZ41)))
  (lZ41:K.lookup xZ41=some ⟨ocZ41,odZ41,.func (fnOf "entries_in" "entries_in" (zar zbl) (zap zbl) (zad zbl) .none kVZ41 dcZ41 pmZ41 anZ41 cdZ41 ctZ41),slZ41⟩)
  (cZ41:codeIn K cdZ41 "entries_in"=true)
  (kZ41:keepIn K (.ref xZ41)=true)
  (aZ42:nsIn K mainGlobals "end_parts"=some (some (.ref xZ42)))
  (lZ42:K.lookup xZ42=some ⟨ocZ42,odZ42,.func (fnOf "end_parts" "end_parts" (zar zbH) (zap zbH) (zad zbH) .none kVZ42 dcZ42 pmZ42 anZ42 cdZ42 ctZ42),slZ42⟩)
  (cZ42:codeIn K cdZ42 "end_parts"=true)
  (kZ42:keepIn K (.ref xZ42)=true)
  (aZ43:nsIn K mainGlobals "part_ahead"=some (some (.ref xZ43)))
  (lZ43:K.lookup xZ43=some ⟨ocZ43,odZ43,.func (fnOf "part_ahead" "part_ahead" (zar zbp) (zap zbp) (zad zbp) .none kVZ43 dcZ43 pmZ43 anZ43 cdZ43 ctZ43),slZ43⟩)
  (cZ43:codeIn K cdZ43 "part_ahead"=true)
  (kZ43:keepIn K (.ref xZ43)=true)
  (aZ44:nsIn K mainGlobals "parts_ahead"=some (some (.ref xZ44)))
  (lZ44:K.lookup xZ44=some ⟨ocZ44,odZ44,.func (fnOf "parts_ahead" "parts_ahead" (zar zbc) (zap zbc) (zad zbc) .none kVZ44 dcZ44 pmZ44 anZ44 cdZ44 ctZ44),slZ44⟩)
  (cZ44:codeIn K cdZ44 "parts_ahead"=true)
  (kZ44:keepIn K (.ref xZ44)=true)
  (aZ47:nsIn K mainGlobals "parts_at"=some (some (.ref xZ47)))
  (lZ47:K.lookup xZ47=some ⟨ocZ47,odZ47,.func (fnOf "parts_at" "parts_at" (zar zbC) (zap zbC) (zad zbC) .none kVZ47 dcZ47 pmZ47 anZ47 cdZ47 ctZ47),slZ47⟩)
  (cZ47:codeIn K cdZ47 "parts_at"=true)
  (kZ47:keepIn K (.ref xZ47)=true)
  (aZ50:nsIn K mainGlobals "no_back"=some (some (.ref xZ50)))
  (lZ50:K.lookup xZ50=some ⟨ocZ50,odZ50,.func (fnOf "no_back" "no_back" (zar zb0) (zap zb0) (zad zb0) .none kVZ50 dcZ50 pmZ50 anZ50 cdZ50 ctZ50),slZ50⟩)
  (cZ50:codeIn K cdZ50 "no_back"=true)
  (kZ50:keepIn K (.ref xZ50)=true)
  (aZ51:nsIn K mainGlobals "walked"=some (some (.ref xZ51)))
  (lZ51:K.lookup xZ51=some ⟨ocZ51,odZ51,.func (fnOf "walked" "walked" (zar zcY) (zap zcY) (zad zcY) .none kVZ51 dcZ51 pmZ51 anZ51 cdZ51 ctZ51),slZ51⟩)
  (cZ51:codeIn K cdZ51 "walked"=true)
  (kZ51:keepIn K (.ref xZ51)=true)
  (aZ52:nsIn K mainGlobals "between"=some (some (.ref xZ52)))
  (lZ52:K.lookup xZ52=some ⟨ocZ52,odZ52,.func (fnOf "between" "between" (zar zcl) (zap zcl) (zad zcl) .none kVZ52 dcZ52 pmZ52 anZ52 cdZ52 ctZ52),slZ52⟩)
  (cZ52:codeIn K cdZ52 "between"=true)
  (kZ52:keepIn K (.ref xZ52)=true)
  (aZ53:nsIn K mainGlobals "shows_ring"=some (some (.ref xZ53)))
  (lZ53:K.lookup xZ53=some ⟨ocZ53,odZ53,.func (fnOf "shows_ring" "shows_ring" (zar zbm) (zap zbm) (zad zbm) .none kVZ53 dcZ53 pmZ53 anZ53 cdZ53 ctZ53),slZ53⟩)
  (cZ53:codeIn K cdZ53 "shows_ring"=true)
  (kZ53:keepIn K (.ref xZ53)=true)
  (aZ54:nsIn K mainGlobals "shows_drift"=some (some (.ref xZ54)))
  (lZ54:K.lookup xZ54=some ⟨ocZ54,odZ54,.func (fnOf "shows_drift" "shows_drift" (zar zbe) (zap zbe) (zad zbe) .none kVZ54 dcZ54 pmZ54 anZ54 cdZ54 ctZ54),slZ54⟩)
  (cZ54:codeIn K cdZ54 "shows_drift"=true)
  (kZ54:keepIn K (.ref xZ54)=true)
  (aZ55:nsIn K mainGlobals "shows_end"=some (some (.ref xZ55)))
  (lZ55:K.lookup xZ55=some ⟨ocZ55,odZ55,.func (fnOf "shows_end" "shows_end" (zar zbB) (zap zbB) (zad zbB) .none kVZ55 dcZ55 pmZ55 anZ55 cdZ55 ctZ55),slZ55⟩)
  (cZ55:codeIn K cdZ55 "shows_end"=true)
  (kZ55:keepIn K (.ref xZ55)=true)
  (aZ56:nsIn K mainGlobals "shows_back"=some (some (.ref xZ56)))
  (lZ56:K.lookup xZ56=some ⟨ocZ56,odZ56,.func (fnOf "shows_back" "shows_back" (zar zbq) (zap zbq) (zad zbq) .none kVZ56 dcZ56 pmZ56 anZ56 cdZ56 ctZ56),slZ56⟩)
  (cZ56:codeIn K cdZ56 "shows_back"=true)
  (kZ56:keepIn K (.ref xZ56)=true)
  (aZ57:nsIn K mainGlobals "shows_shut"=some (some (.ref xZ57)))
  (lZ57:K.lookup xZ57=some ⟨ocZ57,odZ57,.func (fnOf "shows_shut" "shows_shut" (zar zbs) (zap zbs) (zad zbs) .none kVZ57 dcZ57 pmZ57 anZ57 cdZ57 ctZ57),slZ57⟩)
  (cZ57:codeIn K cdZ57 "shows_shut"=true)
  (kZ57:keepIn K (.ref xZ57)=true)
  (aZ60:nsIn K mainGlobals "shows"=some (some (.ref xZ60)))
  (lZ60:K.lookup xZ60=some ⟨ocZ60,odZ60,.func (fnOf "shows" "shows" (zar zdj) (zap zdj) (zad zdj) .none kVZ60 dcZ60 pmZ60 anZ60 cdZ60 ctZ60),slZ60⟩)
  (cZ60:codeIn K cdZ60 "shows"=true)
  (kZ60:keepIn K (.ref xZ60)=true)
  (aZ61:nsIn K mainGlobals "show_entry"=some (some (.ref xZ61)))
  (lZ61:K.lookup xZ61=some ⟨ocZ61,odZ61,.func (fnOf "show_entry" "show_entry" (zar zbr) (zap zbr) (zad zbr) .none kVZ61 dcZ61 pmZ61 anZ61 cdZ61 ctZ61),slZ61⟩)
  (cZ61:codeIn K cdZ61 "show_entry"=true)
  (kZ61:keepIn K (.ref xZ61)=true)
  (aZ64:nsIn K mainGlobals "show_machine"=some (some (.ref xZ64)))
  (lZ64:K.lookup xZ64=some ⟨ocZ64,odZ64,.func (fnOf "show_machine" "show_machine" (zar zaX) (zap zaX) (zad zaX) .none kVZ64 dcZ64 pmZ64 anZ64 cdZ64 ctZ64),slZ64⟩)
  (cZ64:codeIn K cdZ64 "show_machine"=true)
  (kZ64:keepIn K (.ref xZ64)=true)
  (aZ67:nsIn K mainGlobals "met_entries"=some (some (.ref xZ67)))
  (lZ67:K.lookup xZ67=some ⟨ocZ67,odZ67,.func (fnOf "met_entries" "met_entries" (zar za7) (zap za7) (zad za7) .none kVZ67 dcZ67 pmZ67 anZ67 cdZ67 ctZ67),slZ67⟩)
  (cZ67:codeIn K cdZ67 "met_entries"=true)
  (kZ67:keepIn K (.ref xZ67)=true)
  (aZ70:nsIn K mainGlobals "visits"=some (some (.ref xZ70)))
  (lZ70:K.lookup xZ70=some ⟨ocZ70,odZ70,.func (fnOf "visits" "visits" (zar zcu) (zap zcu) (zad zcu) .none kVZ70 dcZ70 pmZ70 anZ70 cdZ70 ctZ70),slZ70⟩)
  (cZ70:codeIn K cdZ70 "visits"=true)
  (kZ70:keepIn K (.ref xZ70)=true)
  (aZ73:nsIn K mainGlobals "records"=some (some (.ref xZ73)))
  (lZ73:K.lookup xZ73=some ⟨ocZ73,odZ73,.func (fnOf "records" "records" (zar zbY) (zap zbY) (zad zbY) .none kVZ73 dcZ73 pmZ73 anZ73 cdZ73 ctZ73),slZ73⟩)
  (cZ73:codeIn K cdZ73 "records"=true)
  (kZ73:keepIn K (.ref xZ73)=true)
  (aZ76:nsIn K mainGlobals "parts_from"=some (some (.ref xZ76)))
  (lZ76:K.lookup xZ76=some ⟨ocZ76,odZ76,.func (fnOf "parts_from" "parts_from" (zar zbb) (zap zbb) (zad zbb) .none kVZ76 dcZ76 pmZ76 anZ76 cdZ76 ctZ76),slZ76⟩)
  (cZ76:codeIn K cdZ76 "parts_from"=true)
  (kZ76:keepIn K (.ref xZ76)=true)
  (aZ77:nsIn K mainGlobals "_law_machine"=some (some (.ref xZ77)))
  (lZ77:K.lookup xZ77=some ⟨ocZ77,odZ77,.func (fnOf "_law_machine" "_law_machine" (zar zbG) (zap zbG) (zad zbG) .none kVZ77 dcZ77 pmZ77 anZ77 cdZ77 ctZ77),slZ77⟩)
  (cZ77:codeIn K cdZ77 "_law_machine"=true)
  (kZ77:keepIn K (.ref xZ77)=true)
  (aZ78:nsIn K mainGlobals "_law_met"=some (some (.ref xZ78)))
  (lZ78:K.lookup xZ78=some ⟨ocZ78,odZ78,.func (fnOf "_law_met" "_law_met" (zar zeh) (zap zeh) (zad zeh) .none kVZ78 dcZ78 pmZ78 anZ78 cdZ78 ctZ78),slZ78⟩)
  (cZ78:codeIn K cdZ78 "_law_met"=true)
  (kZ78:keepIn K (.ref xZ78)=true)
  (aZ79:nsIn K mainGlobals "_law_asked"=some (some (.ref xZ79)))
  (lZ79:K.lookup xZ79=some ⟨ocZ79,odZ79,.func (fnOf "_law_asked" "_law_asked" (zar zch) (zap zch) (zad zch) .none kVZ79 dcZ79 pmZ79 anZ79 cdZ79 ctZ79),slZ79⟩)
  (cZ79:codeIn K cdZ79 "_law_asked"=true)
  (kZ79:keepIn K (.ref xZ79)=true)
  (aZ80:nsIn K mainGlobals "_law_caught"=some (some (.ref xZ80)))
  (lZ80:K.lookup xZ80=some ⟨ocZ80,odZ80,.func (fnOf "_law_caught" "_law_caught" (zar zbV) (zap zbV) (zad zbV) .none kVZ80 dcZ80 pmZ80 anZ80 cdZ80 ctZ80),slZ80⟩)
  (cZ80:codeIn K cdZ80 "_law_caught"=true)
  (kZ80:keepIn K (.ref xZ80)=true)
  (aZ81:nsIn K mainGlobals "_law_odd"=some (some (.ref xZ81)))
  (lZ81:K.lookup xZ81=some ⟨ocZ81,odZ81,.func (fnOf "_law_odd" "_law_odd" (zar zd5) (zap zd5) (zad zd5) .none kVZ81 dcZ81 pmZ81 anZ81 cdZ81 ctZ81),slZ81⟩)
  (cZ81:codeIn K cdZ81 "_law_odd"=true)
  (kZ81:keepIn K (.ref xZ81)=true)
  (aZ82:nsIn K mainGlobals "law"=some (some (.ref xZ82)))
  (lZ82:K.lookup xZ82=some ⟨ocZ82,odZ82,.func (fnOf "law" "law" (zar zke) (zap zke) (zad zke) .none kVZ82 dcZ82 pmZ82 anZ82 cdZ82 ctZ82),slZ82⟩)
  (cZ82:codeIn K cdZ82 "law"=true)
  (kZ82:keepIn K (.ref xZ82)=true)
  (gt:specialIn K (.builtin "object.__class__") "__get__"=some (some (.builtin "getset_descriptor.__get__")))
  (tk:takesIn K (.builtin "object.__class__")=some true)
  (a_MillError:nsIn K mainGlobals "MillError"=some (some (.ref x_MillError)))
  (i_MillError:excIn K x_MillError zbN "ValueError.__new__"=true)
  (k_MillError:keepIn K (.ref x_MillError)=true)
  (ga_MillError:findIn K (.ref x_MillError) "__getattribute__"=some (some (.builtin "BaseException.__getattribute__")))
  (na_MillError:findIn K (.ref x_MillError) "__getattr__"=some none)
  (cl_MillError:findIn K (.ref x_MillError) "__class__"=some (some (.builtin "object.__class__")))
  (mo_MillError:mroIn K x_MillError (.type "object")=some true)
  (mb_MillError:mroIn K x_MillError (.type "BaseException")=some true)
  (ci_MillError:clsIn K x_MillError=some cx_MillError)
  (mr_MillError:cx_MillError.mro=[.ref x_MillError]++zbN)
  (ty_MillError:typeIn K (.ref x_MillError)=some (.type "type"))
  (a_Full:nsIn K mainGlobals "Full"=some (some (.ref x_Full)))
  (i_Full:excIn K x_Full zbN "ValueError.__new__"=true)
  (k_Full:keepIn K (.ref x_Full)=true)
  (ga_Full:findIn K (.ref x_Full) "__getattribute__"=some (some (.builtin "BaseException.__getattribute__")))
  (na_Full:findIn K (.ref x_Full) "__getattr__"=some none)
  (cl_Full:findIn K (.ref x_Full) "__class__"=some (some (.builtin "object.__class__")))
  (mo_Full:mroIn K x_Full (.type "object")=some true)
  (mb_Full:mroIn K x_Full (.type "BaseException")=some true)
  (ci_Full:clsIn K x_Full=some cx_Full)
  (mr_Full:cx_Full.mro=[.ref x_Full,.ref x_MillError]++zbN)
  (ty_Full:typeIn K (.ref x_Full)=some (.type "type"))
  (a_NoDeed:nsIn K mainGlobals "NoDeed"=some (some (.ref x_NoDeed)))
  (i_NoDeed:excIn K x_NoDeed zbN "ValueError.__new__"=true)
  (k_NoDeed:keepIn K (.ref x_NoDeed)=true)
  (ga_NoDeed:findIn K (.ref x_NoDeed) "__getattribute__"=some (some (.builtin "BaseException.__getattribute__")))
  (na_NoDeed:findIn K (.ref x_NoDeed) "__getattr__"=some none)
  (cl_NoDeed:findIn K (.ref x_NoDeed) "__class__"=some (some (.builtin "object.__class__")))
  (mo_NoDeed:mroIn K x_NoDeed (.type "object")=some true)
  (mb_NoDeed:mroIn K x_NoDeed (.type "BaseException")=some true)
  (ci_NoDeed:clsIn K x_NoDeed=some cx_NoDeed)
  (mr_NoDeed:cx_NoDeed.mro=[.ref x_NoDeed,.ref x_MillError]++zbN)
  (ty_NoDeed:typeIn K (.ref x_NoDeed)=some (.type "type"))
  (a_NoMachine:nsIn K mainGlobals "NoMachine"=some (some (.ref x_NoMachine)))
  (i_NoMachine:excIn K x_NoMachine zbN "ValueError.__new__"=true)
  (k_NoMachine:keepIn K (.ref x_NoMachine)=true)
  (ga_NoMachine:findIn K (.ref x_NoMachine) "__getattribute__"=some (some (.builtin "BaseException.__getattribute__")))
  (na_NoMachine:findIn K (.ref x_NoMachine) "__getattr__"=some none)
  (cl_NoMachine:findIn K (.ref x_NoMachine) "__class__"=some (some (.builtin "object.__class__")))
  (mo_NoMachine:mroIn K x_NoMachine (.type "object")=some true)
  (mb_NoMachine:mroIn K x_NoMachine (.type "BaseException")=some true)
  (ci_NoMachine:clsIn K x_NoMachine=some cx_NoMachine)
  (mr_NoMachine:cx_NoMachine.mro=[.ref x_NoMachine,.ref x_MillError]++zbN)
  (ty_NoMachine:typeIn K (.ref x_NoMachine)=some (.type "type"))
  (a_NoName:nsIn K mainGlobals "NoName"=some (some (.ref x_NoName)))
  (i_NoName:excIn K x_NoName zbN "ValueError.__new__"=true)
  (k_NoName:keepIn K (.ref x_NoName)=true)
  (ga_NoName:findIn K (.ref x_NoName) "__getattribute__"=some (some (.builtin "BaseException.__getattribute__")))
  (na_NoName:findIn K (.ref x_NoName) "__getattr__"=some none)
  (cl_NoName:findIn K (.ref x_NoName) "__class__"=some (some (.builtin "object.__class__")))
  (mo_NoName:mroIn K x_NoName (.type "object")=some true)
  (mb_NoName:mroIn K x_NoName (.type "BaseException")=some true)
  (ci_NoName:clsIn K x_NoName=some cx_NoName)
  (mr_NoName:cx_NoName.mro=[.ref x_NoName,.ref x_MillError]++zbN)
  (ty_NoName:typeIn K (.ref x_NoName)=some (.type "type"))
  (a_NoPaper:nsIn K mainGlobals "NoPaper"=some (some (.ref x_NoPaper)))
  (i_NoPaper:excIn K x_NoPaper zbN "ValueError.__new__"=true)
  (k_NoPaper:keepIn K (.ref x_NoPaper)=true)
  (ga_NoPaper:findIn K (.ref x_NoPaper) "__getattribute__"=some (some (.builtin "BaseException.__getattribute__")))
  (na_NoPaper:findIn K (.ref x_NoPaper) "__getattr__"=some none)
  (cl_NoPaper:findIn K (.ref x_NoPaper) "__class__"=some (some (.builtin "object.__class__")))
  (mo_NoPaper:mroIn K x_NoPaper (.type "object")=some true)
  (mb_NoPaper:mroIn K x_NoPaper (.type "BaseException")=some true)
  (ci_NoPaper:clsIn K x_NoPaper=some cx_NoPaper)
  (mr_NoPaper:cx_NoPaper.mro=[.ref x_NoPaper,.ref x_MillError]++zbN)
  (ty_NoPaper:typeIn K (.ref x_NoPaper)=some (.type "type"))
  (a_NoSize:nsIn K mainGlobals "NoSize"=some (some (.ref x_NoSize)))
  (i_NoSize:excIn K x_NoSize zbN "ValueError.__new__"=true)
  (k_NoSize:keepIn K (.ref x_NoSize)=true)
  (ga_NoSize:findIn K (.ref x_NoSize) "__getattribute__"=some (some (.builtin "BaseException.__getattribute__")))
  (na_NoSize:findIn K (.ref x_NoSize) "__getattr__"=some none)
  (cl_NoSize:findIn K (.ref x_NoSize) "__class__"=some (some (.builtin "object.__class__")))
  (mo_NoSize:mroIn K x_NoSize (.type "object")=some true)
  (mb_NoSize:mroIn K x_NoSize (.type "BaseException")=some true)
  (ci_NoSize:clsIn K x_NoSize=some cx_NoSize)
  (mr_NoSize:cx_NoSize.mro=[.ref x_NoSize,.ref x_MillError]++zbN)
  (ty_NoSize:typeIn K (.ref x_NoSize)=some (.type "type"))
  (a_NoSuch:nsIn K mainGlobals "NoSuch"=some (some (.ref x_NoSuch)))
  (i_NoSuch:excIn K x_NoSuch zbN "ValueError.__new__"=true)
  (k_NoSuch:keepIn K (.ref x_NoSuch)=true)
  (ga_NoSuch:findIn K (.ref x_NoSuch) "__getattribute__"=some (some (.builtin "BaseException.__getattribute__")))
  (na_NoSuch:findIn K (.ref x_NoSuch) "__getattr__"=some none)
  (cl_NoSuch:findIn K (.ref x_NoSuch) "__class__"=some (some (.builtin "object.__class__")))
  (mo_NoSuch:mroIn K x_NoSuch (.type "object")=some true)
  (mb_NoSuch:mroIn K x_NoSuch (.type "BaseException")=some true)
  (ci_NoSuch:clsIn K x_NoSuch=some cx_NoSuch)
  (mr_NoSuch:cx_NoSuch.mro=[.ref x_NoSuch,.ref x_MillError]++zbN)
  (ty_NoSuch:typeIn K (.ref x_NoSuch)=some (.type "type"))
  (a_NoText:nsIn K mainGlobals "NoText"=some (some (.ref x_NoText)))
  (i_NoText:excIn K x_NoText zbN "ValueError.__new__"=true)
  (k_NoText:keepIn K (.ref x_NoText)=true)
  (ga_NoText:findIn K (.ref x_NoText) "__getattribute__"=some (some (.builtin "BaseException.__getattribute__")))
  (na_NoText:findIn K (.ref x_NoText) "__getattr__"=some none)
  (cl_NoText:findIn K (.ref x_NoText) "__class__"=some (some (.builtin "object.__class__")))
  (mo_NoText:mroIn K x_NoText (.type "object")=some true)
  (mb_NoText:mroIn K x_NoText (.type "BaseException")=some true)
  (ci_NoText:clsIn K x_NoText=some cx_NoText)
  (mr_NoText:cx_NoText.mro=[.ref x_NoText,.ref x_MillError]++zbN)
  (ty_NoText:typeIn K (.ref x_NoText)=some (.type "type"))
  (a_Twice:nsIn K mainGlobals "Twice"=some (some (.ref x_Twice)))
  (i_Twice:excIn K x_Twice zbN "ValueError.__new__"=true)
  (k_Twice:keepIn K (.ref x_Twice)=true)
  (ga_Twice:findIn K (.ref x_Twice) "__getattribute__"=some (some (.builtin "BaseException.__getattribute__")))
  (na_Twice:findIn K (.ref x_Twice) "__getattr__"=some none)
  (cl_Twice:findIn K (.ref x_Twice) "__class__"=some (some (.builtin "object.__class__")))
  (mo_Twice:mroIn K x_Twice (.type "object")=some true)
  (mb_Twice:mroIn K x_Twice (.type "BaseException")=some true)
  (ci_Twice:clsIn K x_Twice=some cx_Twice)
  (mr_Twice:cx_Twice.mro=[.ref x_Twice,.ref x_MillError]++zbN)
  (ty_Twice:typeIn K (.ref x_Twice)=some (.type "type"))
  (a_WAYS:nsIn K mainGlobals "WAYS"=some (some (.ref x_WAYS)))
  (l_WAYS:K.lookup x_WAYS=some ⟨.type "dict",none,.dict #[⟨h0_WAYS,.int (-1) tk0_WAYS,.str "L" tv0_WAYS⟩,⟨h1_WAYS,.int (1) tk1_WAYS,.str "R" tv1_WAYS⟩] ep_WAYS,#[]⟩)
  (hh0_WAYS:h0_WAYS=hashInt (-1))
  (hh1_WAYS:h1_WAYS=hashInt (1))
  (a_ROWS:nsIn K mainGlobals "ROWS"=some (some (.ref x_ROWS)))
  (l_ROWS:K.lookup x_ROWS=some ⟨.type "tuple",od_ROWS,.seq #[.str "A" tv0_ROWS,.str "B" tv1_ROWS,.str "C" tv2_ROWS,.str "D" tv3_ROWS] n_ROWS,sl_ROWS⟩)
  (z_ValueError:nsIn K mainGlobals "ValueError"=some none)
  (z_abs:nsIn K mainGlobals "abs"=some none)
  (z_all:nsIn K mainGlobals "all"=some none)
  (z_bool:nsIn K mainGlobals "bool"=some none)
  (z_dict:nsIn K mainGlobals "dict"=some none)
  (z_enumerate:nsIn K mainGlobals "enumerate"=some none)
  (z_int:nsIn K mainGlobals "int"=some none)
  (z_isinstance:nsIn K mainGlobals "isinstance"=some none)
  (z_len:nsIn K mainGlobals "len"=some none)
  (z_list:nsIn K mainGlobals "list"=some none)
  (z_max:nsIn K mainGlobals "max"=some none)
  (z_min:nsIn K mainGlobals "min"=some none)
  (z_range:nsIn K mainGlobals "range"=some none)
  (z_reversed:nsIn K mainGlobals "reversed"=some none)
  (z_sorted:nsIn K mainGlobals "sorted"=some none)
  (z_str:nsIn K mainGlobals "str"=some none)
  (z_sum:nsIn K mainGlobals "sum"=some none)
  (z_tuple:nsIn K mainGlobals "tuple"=some none)
  (z_zip:nsIn K mainGlobals "zip"=some none)
  (nd:[x_MillError,x_Full,x_NoDeed,x_NoMachine,x_NoName,x_NoPaper,x_NoSize,x_NoSuch,x_NoText,x_Twice].Nodup)
  (q_MOST_ROWS:nsIn K mainGlobals "MOST_ROWS"=some (some (.int 4 tk_MOST_ROWS)))
  (q_LEAST_SIGNS:nsIn K mainGlobals "LEAST_SIGNS"=some (some (.int 2 tk_LEAST_SIGNS)))
  (q_MOST_SIGNS:nsIn K mainGlobals "MOST_SIGNS"=some (some (.int 4 tk_MOST_SIGNS)))
  (q_MOST_MOMENT:nsIn K mainGlobals "MOST_MOMENT"=some (some (.int 1000 tk_MOST_MOMENT)))
  (q_MOST_PARTS:nsIn K mainGlobals "MOST_PARTS"=some (some (.int 300 tk_MOST_PARTS)))
  (q_MOST_DEPTH:nsIn K mainGlobals "MOST_DEPTH"=some (some (.int 8 tk_MOST_DEPTH)))
  (q_NO_ENTRY:nsIn K mainGlobals "NO_ENTRY"=some (some (.str "---" tk_NO_ENTRY)))
  : ∃ fd:FuncData,(∀ (s:Shared) (v:Value),BindsTo s fd ⟨[v],[]⟩ [("_law_script",v)])/\∀ base:Heap,K.In base->base.Ns mainGlobals mg->zaC l.prog w K mg base CX0 12 fa fd ["_law_script"] (zfS K):=by
 have e:=hfa.symm.trans (mg_of X G aZ82);have e':xZ82=fa:=by cases e;rfl
 subst e';have FZ0:=zay (st:=zcf) lZ0 cZ0 kZ0;have bZ0:=FZ0.binds (ps:=["_law_cell","_law_k"]) fun _ _ _ _ _ _=>us2 (fun _ _=>rfl)
 have FZ1:=zay (st:=zc0) lZ1 cZ1 kZ1;have bZ1:=FZ1.binds (ps:=["_law_purse_here","_law_out_of"]) fun _ _ _ _ _ _=>us2 (fun _ _=>rfl)
 have FZ2:=zay (st:=zcg) lZ2 cZ2 kZ2;have bZ2:=FZ2.binds (ps:=["_law_script"]) fun _ _ _ _ _ _=>us1 (fun _=>rfl)
 have FZ3:=zay (st:=zbW) lZ3 cZ3 kZ3;have bZ3:=FZ3.binds (ps:=["entry","rows","signs"]) fun _ _ _ _ _ _=>us3 (fun _ _ _=>rfl)
 have FZ4:=zay (st:=zcZ) lZ4 cZ4 kZ4;have bZ4:=FZ4.binds (ps:=["row","rows","signs"]) fun _ _ _ _ _ _=>us3 (fun _ _ _=>rfl)
 have FZ5:=zay (st:=zbk) lZ5 cZ5 kZ5;have bZ5:=FZ5.binds (ps:=["machine"]) fun _ _ _ _ _ _=>us1 (fun _=>rfl)
 have FZ7:=zay (st:=zaW) lZ7 cZ7 kZ7;have bZ7:=FZ7.binds (ps:=["machine"]) fun _ _ _ _ _ _=>us1 (fun _=>rfl)
 have FZ8:=zay (st:=za0) lZ8 cZ8 kZ8;have bZ8:=FZ8.binds (ps:=["self","table","begin"]) fun _ _ _ _ _ _=>us3 (fun _ _ _=>rfl)
 have FZ9:=zay (st:=zbI) lZ9 cZ9 kZ9;have bZ9:=FZ9.binds (ps:=["self"]) fun _ _ _ _ _ _=>us1 (fun _=>rfl)
 have FZ10:=zay (st:=zbo) lZ10 cZ10 kZ10;have bZ10:=FZ10.binds (ps:=["self"]) fun _ _ _ _ _ _=>us1 (fun _=>rfl)
 have FZ11:=zay (st:=zbJ) lZ11 cZ11 kZ11;have bZ11:=FZ11.binds (ps:=["self","sign"]) fun _ _ _ _ _ _=>us2 (fun _ _=>rfl)
 have FZ12:=zay (st:=zbF) lZ12 cZ12 kZ12;have bZ12:=FZ12.binds (ps:=["self"]) fun _ _ _ _ _ _=>us1 (fun _=>rfl)
 have FZ13:=zay (st:=zbj) lZ13 cZ13 kZ13;have bZ13:=FZ13.binds (ps:=["self"]) fun _ _ _ _ _ _=>us1 (fun _=>rfl)
 have FZ14:=zay (st:=zbf) lZ14 cZ14 kZ14;have bZ14:=FZ14.binds (ps:=[]) fun _ _ _ _ _ _=>us0 (fun _=>rfl)
 have FZ17:=zay (st:=zdu) lZ17 cZ17 kZ17;have bZ17:=FZ17.binds (ps:=["machine"]) fun _ _ _ _ _ _=>us1 (fun _=>rfl)
 have FZ20:=zay (st:=zb6) lZ20 cZ20 kZ20;have bZ20:=FZ20.binds (ps:=["machine","setup"]) fun _ _ _ _ _ _=>us2 (fun _ _=>rfl)
 have FZ23:=zay (st:=zia) lZ23 cZ23 kZ23;have bZ23:=FZ23.binds (ps:=["machine","most"]) fun _ _ _ _ _ _=>us2 (fun _ _=>rfl)
 have FZ26:=zay (st:=zcB) lZ26 cZ26 kZ26;have bZ26:=FZ26.binds (ps:=["machine","most"]) fun _ _ _ _ _ _=>us2 (fun _ _=>rfl)
 have FZ28:=zay (st:=zdk) lZ28 cZ28 kZ28;have bZ28:=FZ28.binds (ps:=["machine","most"]) fun _ _ _ _ _ _=>us2 (fun _ _=>rfl)
 have FZ31:=zay (st:=zb7) lZ31 cZ31 kZ31;have bZ31:=FZ31.binds (ps:=["machine","most"]) fun _ _ _ _ _ _=>us2 (fun _ _=>rfl)
 have FZ32:=zay (st:=zbD) lZ32 cZ32 kZ32;have bZ32:=FZ32.binds (ps:=["setup"]) fun _ _ _ _ _ _=>us1 (fun _=>rfl)
 have FZ35:=zay (st:=zeU) lZ35 cZ35 kZ35;have bZ35:=FZ35.binds (ps:=["machine","most"]) fun _ _ _ _ _ _=>us2 (fun _ _=>rfl)
 have FZ36:=zay (st:=za8) lZ36 cZ36 kZ36;have bZ36:=FZ36.binds (ps:=["early","late","low","high"]) fun _ _ _ _ _ _=>us4 (fun _ _ _ _=>rfl)
 have FZ37:=zay (st:=zbd) lZ37 cZ37 kZ37;have bZ37:=FZ37.binds (ps:=["trail","late"]) fun _ _ _ _ _ _=>us2 (fun _ _=>rfl)
 have FZ40:=zay (st:=zds) lZ40 cZ40 kZ40;have bZ40:=FZ40.binds (ps:=["machine","most"]) fun _ _ _ _ _ _=>us2 (fun _ _=>rfl)
 have FZ41:=zay (st:=zbl) lZ41 cZ41 kZ41;have bZ41:=FZ41.binds (ps:=["machine"]) fun _ _ _ _ _ _=>us1 (fun _=>rfl)
 have FZ42:=zay (st:=zbH) lZ42 cZ42 kZ42;have bZ42:=FZ42.binds (ps:=["machine"]) fun _ _ _ _ _ _=>us1 (fun _=>rfl)
 have FZ43:=zay (st:=zbp) lZ43 cZ43 kZ43;have bZ43:=FZ43.binds (ps:=["signs","row","sign","put","way"]) fun _ _ _ _ _ _=>us5 (fun _ _ _ _ _=>rfl)
 have FZ44:=zay (st:=zbc) lZ44 cZ44 kZ44;have bZ44:=FZ44.binds (ps:=["machine","parts"]) fun _ _ _ _ _ _=>us2 (fun _ _=>rfl)
 have FZ47:=zay (st:=zbC) lZ47 cZ47 kZ47;have bZ47:=FZ47.binds (ps:=["machine","depth"]) fun _ _ _ _ _ _=>us2 (fun _ _=>rfl)
 have FZ50:=zay (st:=zb0) lZ50 cZ50 kZ50;have bZ50:=FZ50.binds (ps:=["machine","most"]) fun _ _ _ _ _ _=>us2 (fun _ _=>rfl)
 have FZ51:=zay (st:=zcY) lZ51 cZ51 kZ51;have bZ51:=FZ51.binds (ps:=["walk","steps"]) fun _ _ _ _ _ _=>us2 (fun _ _=>rfl)
 have FZ52:=zay (st:=zcl) lZ52 cZ52 kZ52;have bZ52:=FZ52.binds (ps:=["machine","early","late"]) fun _ _ _ _ _ _=>us3 (fun _ _ _=>rfl)
 have FZ53:=zay (st:=zbm) lZ53 cZ53 kZ53;have bZ53:=FZ53.binds (ps:=["machine","early","late"]) fun _ _ _ _ _ _=>us3 (fun _ _ _=>rfl)
 have FZ54:=zay (st:=zbe) lZ54 cZ54 kZ54;have bZ54:=FZ54.binds (ps:=["machine","early","late"]) fun _ _ _ _ _ _=>us3 (fun _ _ _=>rfl)
 have FZ55:=zay (st:=zbB) lZ55 cZ55 kZ55;have bZ55:=FZ55.binds (ps:=["machine","steps"]) fun _ _ _ _ _ _=>us2 (fun _ _=>rfl)
 have FZ56:=zay (st:=zbq) lZ56 cZ56 kZ56;have bZ56:=FZ56.binds (ps:=["machine","depth"]) fun _ _ _ _ _ _=>us2 (fun _ _=>rfl)
 have FZ57:=zay (st:=zbs) lZ57 cZ57 kZ57;have bZ57:=FZ57.binds (ps:=["machine","paper"]) fun _ _ _ _ _ _=>us2 (fun _ _=>rfl)
 have FZ60:=zay (st:=zdj) lZ60 cZ60 kZ60;have bZ60:=FZ60.binds (ps:=["machine","paper"]) fun _ _ _ _ _ _=>us2 (fun _ _=>rfl)
 have FZ61:=zay (st:=zbr) lZ61 cZ61 kZ61;have bZ61:=FZ61.binds (ps:=["entry"]) fun _ _ _ _ _ _=>us1 (fun _=>rfl)
 have FZ64:=zay (st:=zaX) lZ64 cZ64 kZ64;have bZ64:=FZ64.binds (ps:=["machine"]) fun _ _ _ _ _ _=>us1 (fun _=>rfl)
 have FZ67:=zay (st:=za7) lZ67 cZ67 kZ67;have bZ67:=FZ67.binds (ps:=["machine","most"]) fun _ _ _ _ _ _=>us2 (fun _ _=>rfl)
 have FZ70:=zay (st:=zcu) lZ70 cZ70 kZ70;have bZ70:=FZ70.binds (ps:=["machine","most"]) fun _ _ _ _ _ _=>us2 (fun _ _=>rfl)
 have FZ73:=zay (st:=zbY) lZ73 cZ73 kZ73;have bZ73:=FZ73.binds (ps:=["machine","most"]) fun _ _ _ _ _ _=>us2 (fun _ _=>rfl)
 have FZ76:=zay (st:=zbb) lZ76 cZ76 kZ76;have bZ76:=FZ76.binds (ps:=["one","other","most"]) fun _ _ _ _ _ _=>us3 (fun _ _ _=>rfl)
 have FZ77:=zay (st:=zbG) lZ77 cZ77 kZ77;have bZ77:=FZ77.binds (ps:=["_law_purse_here"]) fun _ _ _ _ _ _=>us1 (fun _=>rfl)
 have FZ78:=zay (st:=zeh) lZ78 cZ78 kZ78;have bZ78:=FZ78.binds (ps:=["_law_way","_law_machine_here"]) fun _ _ _ _ _ _=>us2 (fun _ _=>rfl)
 have FZ79:=zay (st:=zch) lZ79 cZ79 kZ79;have bZ79:=FZ79.binds (ps:=["_law_way","_law_machine_here"]) fun _ _ _ _ _ _=>us2 (fun _ _=>rfl)
 have FZ80:=zay (st:=zbV) lZ80 cZ80 kZ80;have bZ80:=FZ80.binds (ps:=["_law_way","_law_machine_here"]) fun _ _ _ _ _ _=>us2 (fun _ _=>rfl)
 have FZ81:=zay (st:=zd5) lZ81 cZ81 kZ81;have bZ81:=FZ81.binds (ps:=["_law_purse_here","_law_machine_here"]) fun _ _ _ _ _ _=>us2 (fun _ _=>rfl)
 have FZ82:=zay (st:=zke) lZ82 cZ82 kZ82;have bZ82:=FZ82.binds (ps:=["_law_script"]) fun _ _ _ _ _ _=>us1 (fun _=>rfl)
 have T:Tx K mg ⟨xZ0,_,xZ1,_,xZ2,_,xZ3,_,xZ4,_,xZ5,_,xZ7,_,xZ8,_,xZ9,_,xZ10,_,xZ11,_,xZ12,_,xZ13,_,xZ14,_,xZ17,_,xZ20,_,xZ23,_,xZ26,_,xZ28,_,xZ31,_,xZ32,_,xZ35,_,xZ36,_,xZ37,_,xZ40,_,xZ41,_,xZ42,_,xZ43,_,xZ44,_,xZ47,_,xZ50,_,xZ51,_,xZ52,_,xZ53,_,xZ54,_,xZ55,_,xZ56,_,xZ57,_,xZ60,_,xZ61,_,xZ64,_,xZ67,_,xZ70,_,xZ73,_,xZ76,_,xZ77,_,xZ78,_,xZ79,_,xZ80,_,xZ81,_,xZ82,_,x_MillError,x_Full,x_NoDeed,x_NoMachine,x_NoName,x_NoPaper,x_NoSize,x_NoSuch,x_NoText,x_Twice,x_Walk,x_WAYS,x_ROWS⟩:=⟨FZ0,bZ0,mg_of X G aZ0,FZ1,bZ1,mg_of X G aZ1,FZ2,bZ2,mg_of X G aZ2,FZ3,bZ3,mg_of X G aZ3,FZ4,bZ4,mg_of X G aZ4,FZ5,bZ5,mg_of X G aZ5,FZ7,bZ7,mg_of X G aZ7,FZ8,bZ8,⟨mk_Walk,aZ8,iZ8,kc_Walk⟩,FZ9,bZ9,⟨aZ9,iZ9,kZ9⟩,FZ10,bZ10,⟨aZ10,iZ10,kZ10⟩,FZ11,bZ11,⟨aZ11,iZ11,kZ11⟩,FZ12,bZ12,⟨aZ12,iZ12,kZ12⟩,FZ13,bZ13,⟨aZ13,iZ13,kZ13⟩,FZ14,bZ14,mg_of X G aZ14,FZ17,bZ17,mg_of X G aZ17,FZ20,bZ20,mg_of X G aZ20,FZ23,bZ23,mg_of X G aZ23,FZ26,bZ26,mg_of X G aZ26,FZ28,bZ28,mg_of X G aZ28,FZ31,bZ31,mg_of X G aZ31,FZ32,bZ32,mg_of X G aZ32,FZ35,bZ35,mg_of X G aZ35,FZ36,bZ36,mg_of X G aZ36,FZ37,bZ37,mg_of X G aZ37,FZ40,bZ40,mg_of X G aZ40,FZ41,bZ41,mg_of X G aZ41,FZ42,bZ42,mg_of X G aZ42,FZ43,bZ43,mg_of X G aZ43,FZ44,bZ44,mg_of X G aZ44,FZ47,bZ47,mg_of X G aZ47,FZ50,bZ50,mg_of X G aZ50,FZ51,bZ51,mg_of X G aZ51,FZ52,bZ52,mg_of X G aZ52,FZ53,bZ53,mg_of X G aZ53,FZ54,bZ54,mg_of X G aZ54,FZ55,bZ55,mg_of X G aZ55,FZ56,bZ56,mg_of X G aZ56,FZ57,bZ57,mg_of X G aZ57,FZ60,bZ60,mg_of X G aZ60,FZ61,bZ61,mg_of X G aZ61,FZ64,bZ64,mg_of X G aZ64,FZ67,bZ67,mg_of X G aZ67,FZ70,bZ70,mg_of X G aZ70,FZ73,bZ73,mg_of X G aZ73,FZ76,bZ76,mg_of X G aZ76,FZ77,bZ77,mg_of X G aZ77,FZ78,bZ78,mg_of X G aZ78,FZ79,bZ79,mg_of X G aZ79,FZ80,bZ80,mg_of X G aZ80,FZ81,bZ81,mg_of X G aZ81,FZ82,bZ82,mg_of X G aZ82,⟨i_MillError,k_MillError⟩,⟨ga_MillError,na_MillError,cl_MillError,gt,tk,mo_MillError,mb_MillError,by rw [ci_MillError];rfl⟩,mg_of X G a_MillError,⟨⟨_,ci_MillError,mr_MillError⟩,ty_MillError⟩,⟨i_Full,k_Full⟩,⟨ga_Full,na_Full,cl_Full,gt,tk,mo_Full,mb_Full,by rw [ci_Full];rfl⟩,mg_of X G a_Full,⟨⟨_,ci_Full,mr_Full⟩,ty_Full⟩,⟨i_NoDeed,k_NoDeed⟩,⟨ga_NoDeed,na_NoDeed,cl_NoDeed,gt,tk,mo_NoDeed,mb_NoDeed,by rw [ci_NoDeed];rfl⟩,mg_of X G a_NoDeed,⟨⟨_,ci_NoDeed,mr_NoDeed⟩,ty_NoDeed⟩,⟨i_NoMachine,k_NoMachine⟩,⟨ga_NoMachine,na_NoMachine,cl_NoMachine,gt,tk,mo_NoMachine,mb_NoMachine,by rw [ci_NoMachine];rfl⟩,mg_of X G a_NoMachine,⟨⟨_,ci_NoMachine,mr_NoMachine⟩,ty_NoMachine⟩,⟨i_NoName,k_NoName⟩,⟨ga_NoName,na_NoName,cl_NoName,gt,tk,mo_NoName,mb_NoName,by rw [ci_NoName];rfl⟩,mg_of X G a_NoName,⟨⟨_,ci_NoName,mr_NoName⟩,ty_NoName⟩,⟨i_NoPaper,k_NoPaper⟩,⟨ga_NoPaper,na_NoPaper,cl_NoPaper,gt,tk,mo_NoPaper,mb_NoPaper,by rw [ci_NoPaper];rfl⟩,mg_of X G a_NoPaper,⟨⟨_,ci_NoPaper,mr_NoPaper⟩,ty_NoPaper⟩,⟨i_NoSize,k_NoSize⟩,⟨ga_NoSize,na_NoSize,cl_NoSize,gt,tk,mo_NoSize,mb_NoSize,by rw [ci_NoSize];rfl⟩,mg_of X G a_NoSize,⟨⟨_,ci_NoSize,mr_NoSize⟩,ty_NoSize⟩,⟨i_NoSuch,k_NoSuch⟩,⟨ga_NoSuch,na_NoSuch,cl_NoSuch,gt,tk,mo_NoSuch,mb_NoSuch,by rw [ci_NoSuch];rfl⟩,mg_of X G a_NoSuch,⟨⟨_,ci_NoSuch,mr_NoSuch⟩,ty_NoSuch⟩,⟨i_NoText,k_NoText⟩,⟨ga_NoText,na_NoText,cl_NoText,gt,tk,mo_NoText,mb_NoText,by rw [ci_NoText];rfl⟩,mg_of X G a_NoText,⟨⟨_,ci_NoText,mr_NoText⟩,ty_NoText⟩,⟨i_Twice,k_Twice⟩,⟨ga_Twice,na_Twice,cl_Twice,gt,tk,mo_Twice,mb_Twice,by rw [ci_Twice];rfl⟩,mg_of X G a_Twice,⟨⟨_,ci_Twice,mr_Twice⟩,ty_Twice⟩,⟨pg_Walk,hd_Walk,po_Walk,sa_Walk⟩,mg_of X G a_Walk,n_Walk_table,n_Walk_row,n_Walk_place,n_Walk_marks,⟨_,mg_of X G q_MOST_ROWS,⟨_,rfl⟩⟩,⟨_,mg_of X G q_LEAST_SIGNS,⟨_,rfl⟩⟩,⟨_,mg_of X G q_MOST_SIGNS,⟨_,rfl⟩⟩,⟨_,mg_of X G q_MOST_MOMENT,⟨_,rfl⟩⟩,⟨_,mg_of X G q_MOST_PARTS,⟨_,rfl⟩⟩,⟨_,mg_of X G q_MOST_DEPTH,⟨_,rfl⟩⟩,⟨_,mg_of X G q_NO_ENTRY,⟨_,rfl⟩⟩,mg_of X G a_WAYS,⟨_,_,_,l_WAYS,⟨rfl,rfl,rfl⟩,rfl,(.cons ⟨⟨_,rfl⟩,fun w=>hh0_WAYS.trans rfl,⟨_,rfl⟩⟩ (.cons ⟨⟨_,rfl⟩,fun w=>hh1_WAYS.trans rfl,⟨_,rfl⟩⟩ .nil)),by decide⟩,mg_of X G a_ROWS,fun _=>.inr ⟨_,_,_,l_ROWS,rfl,rfl,by show 4<=sizeLine;decide,(.cons ⟨_,rfl⟩ (.cons ⟨_,rfl⟩ (.cons ⟨_,rfl⟩ (.cons ⟨_,rfl⟩ .nil))))⟩,mg_none_of X G z_ValueError,mg_none_of X G z_abs,mg_none_of X G z_all,mg_none_of X G z_bool,mg_none_of X G z_dict,mg_none_of X G z_enumerate,mg_none_of X G z_int,mg_none_of X G z_isinstance,mg_none_of X G z_len,mg_none_of X G z_list,mg_none_of X G z_max,mg_none_of X G z_min,mg_none_of X G z_range,mg_none_of X G z_reversed,mg_none_of X G z_sorted,mg_none_of X G z_str,mg_none_of X G z_sum,mg_none_of X G z_tuple,mg_none_of X G z_zip,nd⟩;exact⟨_,fun s v=>.of_eq rfl,fun base _ _=>zp6 T⟩
theorem walk {l:PySem.W.OpenLaw} {q:Program} {loose:List Str} {XP:(Str->Option Value)->Heap->Prop} {YP:World->Heap->Prop} {d:DefRec} {K:Params->PySem.W.Frag} (hn:l.most=some 63) (hdf:d.params.defaults=[])
  (hY:∀ (w:World) (h:Heap),YP w h->(K w.params).In h)
  (F:∀ (w:World) (mg:Str->Option Value) (fa:Addr) (h:Heap),(K w.params).In h->h.Ns mainGlobals mg->mg d.name=some (.ref fa) ->
   ∃ fd:FuncData,(∀ (s:Shared) (u:Value),BindsTo s fd ⟨[u],[]⟩ [("_law_script",u)])/\∀ base:Heap,(K w.params).In base->base.Ns mainGlobals mg->zaC l.prog w (K w.params) mg base CX0 12 fa fd ["_law_script"] (zfS (K w.params))) :
  PySem.W.WalkO q loose XP YP l.row.toRowW d [] (fun f vs=>PySem.call f vs) :=
 L2.walk_of (n:=63) (k:=12) (x:="_law_script") (CX:=fun _=>CX0) (sp:=fun w=>zfS (K w.params)) hn (by decide) hdf ⟨rfl,by decide,by decide⟩ hY F (fun _ _ a ns hl _ hS=>⟨ns,hS,hl,fun _=>rfl⟩) fun _ _ _ _ _ z=>z
end Law
namespace PySem.W.Fast
def tw12317245054872633401:=()
def tw11502277492590690294:=()
def tw11447653528945935348:=()
def tw5087785956325629146:=()
def tw7922980552828245984:=()
def tw4246878598092820907:=()
def tw15694901282734297487:=()
def tw6294694285518724623:=()
def tw16141824160121242230:=()
def tw4346278047059086834:=()
def tw11663280297201732836:=()
def tw6350993398918413227:=()
def tw646522450918323299:=()
def tw15279555072845107566:=()
def tw14439710851276473036:=()
def tw10609034271517707201:=()
def tw1406761640056466198:=()
def tw11633813334769849027:=()
def tw5026333903630427671:=()
def tw4846415121491713825:=()
def tw10060489087117906695:=()
def tw994734384650684104:=()
def tw13701017244243104291:=()
def tw10444639322811362927:=()
def tw12711385943693269704:=()
def tw17200074475376396695:=()
def tw8650321718729946243:=()
def tw11636977200922604279:=()
def tw9540320014124869674:=()
def tw16823067365074948188:=()
def tw11062670737194967840:=()
def tw13211913225187947023:=()
def tw8582825759791308423:=()
def tw1153052566366048063:=()
def tw2602152180845999232:=()
def tw1348743659487551621:=()
def tw12984820223927876096:=()
def tw15934036948728538479:=()
def tw11425833802528319214:=()
def tw9892930775748038778:=()
def tw10407859647485862035:=()
def tw8794834442596005767:=()
def tw8100530591736891714:=()
def tw18107886910109168953:=()
def tw2647162991029579136:=()
def tw18052932327764411552:=()
def tw13567878714013566746:=()
def tw10107373980917008568:=()
def tw14620834372933811345:=()
def tw14806280375648411281:=()
def tw980041865494092016:=()
def tw11297613284682951015:=()
def tw6541912813095610125:=()
def tw11167952167362625699:=()
def tw10131996533125887557:=()
def tw10626904340814101914:=()
def tw5198003180007662102:=()
def tw1452126717555720303:=()
def tw12862853108497438954:=()
def tw8663261282912967205:=()
def tw17946086008639641379:=()
def tw2217438137168653212:=()
def tw15967748037383591042:=()
def tw3509603788117052258:=()
def tw14337587847368619645:=()
def tw7304010609111743711:=()
def tw9524901000100678959:=()
def tw13775218790642093486:=()
def tw10882492994997699256:=()
def tw16454252190567792829:=()
def tw5581936207940847489:=()
def tw3433985621759523753:=()
def tw14745976147991540321:=()
def tw11112298064642482248:=()
def tw13660717559132893141:=()
def tw962539048133572612:=()
def tw7074319972698146710:=()
def tw5977773180461033321:=()
def tw7699216173663234588:=()
def tw9007132981134782567:=()
def tw9724379552356157708:=()
def tw4048351158162458242:=()
def tw16402890673731934295:=()
def tw9608449784641636704:=()
def tw9062612654481839185:=()
def tw2340450849200119130:=()
def tw16875053206206797227:=()
def tw18294621001278957398:=()
def tw182631397560624900:=()
def tw5077891066771199413:=()
def tw6740990369422834417:=()
def tw8575270470414961940:=()
def tw12537615402091350102:=()
def tw6199483513712054855:=()
def tw4715343074006303118:=()
def tw16163519796060440282:=()
def tw241330057319148764:=()
def tw11602156551862627370:=()
def tw11342521497745017613:=()
def tw8323864266170729399:=()
def tw17792830640971411553:=()
def tw10783384833895607134:=()
def tw1701795118647301607:=()
def tw3546669997195309000:=()
def tw6765479081013733347:=()
def tw17182277437376890715:=()
def tw8391240182851563006:=()
def tw17299771233930144454:=()
def tw6766850458656244868:=()
def tw4198808855781276366:=()
def tw9085638482225333847:=()
def tw13562590349327152792:=()
def tw4277657448684360506:=()
def tw11519140638749727817:=()
def tw17878959500505719593:=()
def tw14167208873249716185:=()
def tw12910770407458491016:=()
def tw14203219445295104333:=()
def tw10789079026841499895:=()
def tw6151330740468317513:=()
def tw12150652848146876270:=()
def tw2780805409906542900:=()
def tw3082518786199839812:=()
def tw6388879371268357051:=()
def tw10047871720430424288:=()
def tw14214281264259413858:=()
def tw10778566720951369400:=()
def tw15176179103794709437:=()
def tw869718704459694440:=()
def tw5823847178818930461:=()
def tw7357151861758729375:=()
def tw10181015087233631562:=()
def tw8513469762588271677:=()
def tw9156611662830034078:=()
def tw4031961010118071807:=()
def tw7808040989326673438:=()
def tw15888214575110035679:=()
def tw10113228662160005208:=()
def tw17116255683057100347:=()
def tw9122263162037962143:=()
def tw19558146818668581:=()
def tw14848982270482500982:=()
def tw14127165982857670267:=()
def tw914887331515402047:=()
def tw18038587052296339539:=()
def tw6811119599617683537:=()
def tw11424066968863133822:=()
def tw16356454180218138824:=()
def tw16884973187556563567:=()
def tw17706998913652278204:=()
def tw7708758700863437335:=()
def tw5156622959215996572:=()
def tw3324124921003919338:=()
def tw17859494732842888495:=()
def tw13020224077060594802:=()
def tw10177159959726251393:=()
def tw14347969570402891019:=()
def tw12758488102138773381:=()
def tw3182344175468268739:=()
def tw15187640538963931088:=()
def tw7426156482095603683:=()
def tw2544645058923362293:=()
def tw13697309838066653957:=()
def tw4606504932773360175:=()
def tw6320993773005346026:=()
def tw11947171683161605631:=()
def tw2617653727276749909:=()
def tw2421085313019999026:=()
def tw8712145824070442268:=()
def tw13950096142197948781:=()
def tw7167070437200519302:=()
def tw14957236980807825128:=()
def tw3706450771486794264:=()
def tw14957199727362299503:=()
def tw14637059453021022877:=()
def tw4500370890402391734:=()
def tw17423612119803608867:=()
def tw12015536114605467594:=()
def tw11597500134184658622:=()
def tw9565772701952547039:=()
def tw10738896661361531835:=()
def tw3876924023916983379:=()
def tw9749191461369403959:=()
def tw11489511815964052430:=()
def tw12310485852746912305:=()
def tw8027155229961476902:=()
def tw13182632923528984157:=()
def tw14852405964029782597:=()
def tw7187561016739961207:=()
def tw17412450161386944780:=()
def tw17507495729664587974:=()
def tw5622611575941135326:=()
def tw15155559912558433401:=()
def tw1799756924017258121:=()
def tw13219721879238381287:=()
def tw14723777299321088807:=()
def tw8820415879866190564:=()
def tw10895049384608763016:=()
def tw3923161206790363037:=()
def tw6970389631322075103:=()
def tw222882597038391247:=()
def tw4472285750016594019:=()
def tw10265116020542515369:=()
def tw10645799771998116621:=()
def tw5663755183316599978:=()
def tw12326518128207438133:=()
def tw13817971501182138477:=()
def tw8958828507938189741:=()
def tw4969121988280196036:=()
def tw10369325538518479786:=()
def tw5444883327255097689:=()
def tw2913953326786562626:=()
def tw10462268090068459115:=()
def tw15810811694819891550:=()
def tw2333286418374445166:=()
def tw13155609380206427129:=()
def tw12518014686780888958:=()
def tw12254163020072366897:=()
def tw14744664558609297708:=()
def tw14208503206287638692:=()
def tw2024900295167425554:=()
def tw674291696462148921:=()
def tw18223435054949712347:=()
def tw334123699519903454:=()
def tw10830078087765918799:=()
def tw12650451174486603233:=()
def tw490575830725426160:=()
def tw7520704187217996524:=()
def tw10318306694992794746:=()
def tw16340930636481294912:=()
def tw16184367342269397561:=()
def tw4918452672405980800:=()
def tw537112977012033817:=()
def tw14370773606360312082:=()
def tw17272845777467262299:=()
def tw16825231462588956435:=()
def tw5274537464444830596:=()
def tw8987958258589921536:=()
def tw530900637206394560:=()
def tw12469435637534007253:=()
def tw2541595181508874077:=()
def tw11208884088993644498:=()
def tw1063932469281467300:=()
def tw14419088530543642806:=()
def tw1824175586904999701:=()
def tw1324321747609460591:=()
def tw7249582888248974898:=()
def tw8744125321464164515:=()
def tw9781724896341369276:=()
def tw4572670099957712634:=()
def tw8329253509505845714:=()
def tw4339026044297593179:=()
def tw16721838784151036542:=()
def tw1436749691116927662:=()
def tw17573403339665732137:=()
def tw5312151805988935112:=()
def tw16013939192135912221:=()
def tw9147366335855715569:=()
def tw7531617246132159813:=()
def tw10414406405957329321:=()
def tw17321453670628634367:=()
def tw8920019759196716206:=()
def tw9069931618547109806:=()
def tw16410758530674914444:=()
def tw13280593262462026840:=()
def tw17076290806103732672:=()
def tw15679188055153690095:=()
def tw7033573268919752688:=()
def tw15805712786123345976:=()
def tw4473712210967838375:=()
def tw10465593023618070778:=()
def tw15081962548432202676:=()
def tw3814079187337239623:=()
def tw10519005226018199673:=()
def tw2515765200995102999:=()
def tw15664870380100398169:=()
def tw16852272474798601054:=()
def tw8098217405950393620:=()
def tw2543361596664023775:=()
def tw17056006562348543438:=()
def tw11415057621597064803:=()
def tw13399864845522657660:=()
def tw18101916245909767533:=()
def tw2522163835391454106:=()
def tw9117613368583672536:=()
def tw14736620949114160016:=()
def tw393300142204796567:=()
def tw9431321588985016505:=()
def tw15713861562150743622:=()
def tw6232036129327024873:=()
def tw8707507582292106470:=()
def tw6032637740219005206:=()
def tw11863796933180109225:=()
def tw8073181994529257693:=()
def tw4090187571458810506:=()
def tw119338785528987728:=()
def tw11477296155182869436:=()
def tw4218584405101002694:=()
def tw969060182349221990:=()
def tw8875400203984233646:=()
def tw17389213531120497885:=()
end PySem.W.Fast
open PySem PySem.W PyProof.Rows
set_option maxRecDepth 100000 in
set_option maxHeartbeats 0 in
theorem PySem.Challenge.cw_endnever_k06_no_machine_at_every_door_holds : PySem.Challenge.rw_endnever_k06_no_machine_at_every_door.Holds := by
 w_on;o_law;k_head;(case hw=>w_witness2)
 k_fill
 refine Law.walk (l:=PySem.Challenge.rw_endnever_k06_no_machine_at_every_door) rfl rfl (fun w h Y=>PySem.W.kIn_of Y) ?F
 case F =>
  intro w mg fa h KX G hmg
  refine' Law.all_mk KX G hmg ?a_Walk ?pg_Walk ?hd_Walk ?po_Walk ?sa_Walk ?mk_Walk ?kc_Walk ?n_Walk_table ?n_Walk_row ?n_Walk_place ?n_Walk_marks ?aZ0 ?lZ0 ?cZ0 ?kZ0 ?aZ1 ?lZ1 ?cZ1 ?kZ1 ?aZ2 ?lZ2 ?cZ2 ?kZ2 ?aZ3 ?lZ3 ?cZ3 ?kZ3 ?aZ4 ?lZ4 ?cZ4 ?kZ4 ?aZ5 ?lZ5 ?cZ5 ?kZ5 ?aZ7 ?lZ7 ?cZ7 ?kZ7 ?aZ8 ?iZ8 ?lZ8 ?cZ8 ?kZ8 ?aZ9 ?iZ9 ?lZ9 ?cZ9 ?kZ9 ?aZ10 ?iZ10 ?lZ10 ?cZ10 ?kZ10 ?aZ11 ?iZ11 ?lZ11 ?cZ11 ?kZ11 ?aZ12 ?iZ12 ?lZ12 ?cZ12 ?kZ12 ?aZ13 ?iZ13 ?lZ13 ?cZ13 ?kZ13 ?aZ14 ?lZ14 ?cZ14 ?kZ14 ?aZ17 ?lZ17 ?cZ17 ?kZ17 ?aZ20 ?lZ20 ?cZ20 ?kZ20 ?aZ23 ?lZ23 ?cZ23 ?kZ23 ?aZ26 ?lZ26 ?cZ26 ?kZ26 ?aZ28 ?lZ28 ?cZ28 ?kZ28 ?aZ31 ?lZ31 ?cZ31 ?kZ31 ?aZ32 ?lZ32 ?cZ32 ?kZ32 ?aZ35 ?lZ35 ?cZ35 ?kZ35 ?aZ36 ?lZ36 ?cZ36 ?kZ36 ?aZ37 ?lZ37 ?cZ37 ?kZ37 ?aZ40 ?lZ40 ?cZ40 ?kZ40 ?aZ41 ?lZ41 ?cZ41 ?kZ41 ?aZ42 ?lZ42 ?cZ42 ?kZ42 ?aZ43 ?lZ43 ?cZ43 ?kZ43 ?aZ44 ?lZ44 ?cZ44 ?kZ44 ?aZ47 ?lZ47 ?cZ47 ?kZ47 ?aZ50 ?lZ50 ?cZ50 ?kZ50 ?aZ51 ?lZ51 ?cZ51 ?kZ51 ?aZ52 ?lZ52 ?cZ52 ?kZ52 ?aZ53 ?lZ53 ?cZ53 ?kZ53 ?aZ54 ?lZ54 ?cZ54 ?kZ54 ?aZ55 ?lZ55 ?cZ55 ?kZ55 ?aZ56 ?lZ56 ?cZ56 ?kZ56 ?aZ57 ?lZ57 ?cZ57 ?kZ57 ?aZ60 ?lZ60 ?cZ60 ?kZ60 ?aZ61 ?lZ61 ?cZ61 ?kZ61 ?aZ64 ?lZ64 ?cZ64 ?kZ64 ?aZ67 ?lZ67 ?cZ67 ?kZ67 ?aZ70 ?lZ70 ?cZ70 ?kZ70 ?aZ73 ?lZ73 ?cZ73 ?kZ73 ?aZ76 ?lZ76 ?cZ76 ?kZ76 ?aZ77 ?lZ77 ?cZ77 ?kZ77 ?aZ78 ?lZ78 ?cZ78 ?kZ78 ?aZ79 ?lZ79 ?cZ79 ?kZ79 ?aZ80 ?lZ80 ?cZ80 ?kZ80 ?aZ81 ?lZ81 ?cZ81 ?kZ81 ?aZ82 ?lZ82 ?cZ82 ?kZ82 ?gt ?tk ?a_MillError ?i_MillError ?k_MillError ?ga_MillError ?na_MillError ?cl_MillError ?mo_MillError ?mb_MillError ?ci_MillError ?mr_MillError ?ty_MillError ?a_Full ?i_Full ?k_Full ?ga_Full ?na_Full ?cl_Full ?mo_Full ?mb_Full ?ci_Full ?mr_Full ?ty_Full ?a_NoDeed ?i_NoDeed ?k_NoDeed ?ga_NoDeed ?na_NoDeed ?cl_NoDeed ?mo_NoDeed ?mb_NoDeed ?ci_NoDeed ?mr_NoDeed ?ty_NoDeed ?a_NoMachine ?i_NoMachine ?k_NoMachine ?ga_NoMachine ?na_NoMachine ?cl_NoMachine ?mo_NoMachine ?mb_NoMachine ?ci_NoMachine ?mr_NoMachine ?ty_NoMachine ?a_NoName ?i_NoName ?k_NoName ?ga_NoName ?na_NoName ?cl_NoName ?mo_NoName ?mb_NoName ?ci_NoName ?mr_NoName ?ty_NoName ?a_NoPaper ?i_NoPaper ?k_NoPaper ?ga_NoPaper ?na_NoPaper ?cl_NoPaper ?mo_NoPaper ?mb_NoPaper ?ci_NoPaper ?mr_NoPaper ?ty_NoPaper ?a_NoSize ?i_NoSize ?k_NoSize ?ga_NoSize ?na_NoSize ?cl_NoSize ?mo_NoSize ?mb_NoSize ?ci_NoSize ?mr_NoSize ?ty_NoSize ?a_NoSuch ?i_NoSuch ?k_NoSuch ?ga_NoSuch ?na_NoSuch ?cl_NoSuch ?mo_NoSuch ?mb_NoSuch ?ci_NoSuch ?mr_NoSuch ?ty_NoSuch ?a_NoText ?i_NoText ?k_NoText ?ga_NoText ?na_NoText ?cl_NoText ?mo_NoText ?mb_NoText ?ci_NoText ?mr_NoText ?ty_NoText ?a_Twice ?i_Twice ?k_Twice ?ga_Twice ?na_Twice ?cl_Twice ?mo_Twice ?mb_Twice ?ci_Twice ?mr_Twice ?ty_Twice ?a_WAYS ?l_WAYS ?hh0_WAYS ?hh1_WAYS ?a_ROWS ?l_ROWS ?z_ValueError ?z_abs ?z_all ?z_bool ?z_dict ?z_enumerate ?z_int ?z_isinstance ?z_len ?z_list ?z_max ?z_min ?z_range ?z_reversed ?z_sorted ?z_str ?z_sum ?z_tuple ?z_zip ?nd ?q_MOST_ROWS ?q_LEAST_SIGNS ?q_MOST_SIGNS ?q_MOST_MOMENT ?q_MOST_PARTS ?q_MOST_DEPTH ?q_NO_ENTRY
  (case a_Walk=>k_is)
  (case pg_Walk=>k_is)
  (case hd_Walk=>k_is)
  (case po_Walk=>k_is)
  (case sa_Walk=>k_is)
  (case mk_Walk=>k_is)
  (case kc_Walk=>k_is)
  (case n_Walk_table=>k_is)
  (case n_Walk_row=>k_is)
  (case n_Walk_place=>k_is)
  (case n_Walk_marks=>k_is)
  (case aZ0=>k_is)
  (case lZ0=>k_is)
  (case cZ0=>k_is)
  (case kZ0=>k_is)
  (case aZ1=>k_is)
  (case lZ1=>k_is)
  (case cZ1=>k_is)
  (case kZ1=>k_is)
  (case aZ2=>k_is)
  (case lZ2=>k_is)
  (case cZ2=>k_is)
  (case kZ2=>k_is)
  (case aZ3=>k_is)
  (case lZ3=>k_is)
  (case cZ3=>k_is)
  (case kZ3=>k_is)
  (case aZ4=>k_is)
  (case lZ4=>k_is)
  (case cZ4=>k_is)
  (case kZ4=>k_is)
  (case aZ5=>k_is)
  (case lZ5=>k_is)
  (case cZ5=>k_is)
  (case kZ5=>k_is)
  (case aZ7=>k_is)
  (case lZ7=>k_is)
  (case cZ7=>k_is)
  (case kZ7=>k_is)
  (case aZ8=>k_is)
  (case iZ8=>k_is)
  (case lZ8=>k_is)
  (case cZ8=>k_is)
  (case kZ8=>k_is)
  (case aZ9=>k_is)
  (case iZ9=>k_is)
  (case lZ9=>k_is)
  (case cZ9=>k_is)
  (case kZ9=>k_is)
  (case aZ10=>k_is)
  (case iZ10=>k_is)
  (case lZ10=>k_is)
  (case cZ10=>k_is)
  (case kZ10=>k_is)
  (case aZ11=>k_is)
  (case iZ11=>k_is)
  (case lZ11=>k_is)
  (case cZ11=>k_is)
  (case kZ11=>k_is)
  (case aZ12=>k_is)
  (case iZ12=>k_is)
  (case lZ12=>k_is)
  (case cZ12=>k_is)
  (case kZ12=>k_is)
  (case aZ13=>k_is)
  (case iZ13=>k_is)
  (case lZ13=>k_is)
  (case cZ13=>k_is)
  (case kZ13=>k_is)
  (case aZ14=>k_is)
  (case lZ14=>k_is)
  (case cZ14=>k_is)
  (case kZ14=>k_is)
  (case aZ17=>k_is)
  (case lZ17=>k_is)
  (case cZ17=>k_is)
  (case kZ17=>k_is)
  (case aZ20=>k_is)
  (case lZ20=>k_is)
  (case cZ20=>k_is)
  (case kZ20=>k_is)
  (case aZ23=>k_is)
  (case lZ23=>k_is)
  (case cZ23=>k_is)
  (case kZ23=>k_is)
  (case aZ26=>k_is)
  (case lZ26=>k_is)
  (case cZ26=>k_is)
  (case kZ26=>k_is)
  (case aZ28=>k_is)
  (case lZ28=>k_is)
  (case cZ28=>k_is)
  (case kZ28=>k_is)
  (case aZ31=>k_is)
  (case lZ31=>k_is)
  (case cZ31=>k_is)
  (case kZ31=>k_is)
  (case aZ32=>k_is)
  (case lZ32=>k_is)
  (case cZ32=>k_is)
  (case kZ32=>k_is)
  (case aZ35=>k_is)
  (case lZ35=>k_is)
  (case cZ35=>k_is)
  (case kZ35=>k_is)
  (case aZ36=>k_is)
  (case lZ36=>k_is)
  (case cZ36=>k_is)
  (case kZ36=>k_is)
  (case aZ37=>k_is)
  (case lZ37=>k_is)
  (case cZ37=>k_is)
  (case kZ37=>k_is)
  (case aZ40=>k_is)
  (case lZ40=>k_is)
  (case cZ40=>k_is)
  (case kZ40=>k_is)
  (case aZ41=>k_is)
  (case lZ41=>k_is)
  (case cZ41=>k_is)
  (case kZ41=>k_is)
  (case aZ42=>k_is)
  (case lZ42=>k_is)
  (case cZ42=>k_is)
  (case kZ42=>k_is)
  (case aZ43=>k_is)
  (case lZ43=>k_is)
  (case cZ43=>k_is)
  (case kZ43=>k_is)
  (case aZ44=>k_is)
  (case lZ44=>k_is)
  (case cZ44=>k_is)
  (case kZ44=>k_is)
  (case aZ47=>k_is)
  (case lZ47=>k_is)
  (case cZ47=>k_is)
  (case kZ47=>k_is)
  (case aZ50=>k_is)
  (case lZ50=>k_is)
  (case cZ50=>k_is)
  (case kZ50=>k_is)
  (case aZ51=>k_is)
  (case lZ51=>k_is)
  (case cZ51=>k_is)
  (case kZ51=>k_is)
  (case aZ52=>k_is)
  (case lZ52=>k_is)
  (case cZ52=>k_is)
  (case kZ52=>k_is)
  (case aZ53=>k_is)
  (case lZ53=>k_is)
  (case cZ53=>k_is)
  (case kZ53=>k_is)
  (case aZ54=>k_is)
  (case lZ54=>k_is)
  (case cZ54=>k_is)
  (case kZ54=>k_is)
  (case aZ55=>k_is)
  (case lZ55=>k_is)
  (case cZ55=>k_is)
  (case kZ55=>k_is)
  (case aZ56=>k_is)
  (case lZ56=>k_is)
  (case cZ56=>k_is)
  (case kZ56=>k_is)
  (case aZ57=>k_is)
  (case lZ57=>k_is)
  (case cZ57=>k_is)
  (case kZ57=>k_is)
  (case aZ60=>k_is)
  (case lZ60=>k_is)
  (case cZ60=>k_is)
  (case kZ60=>k_is)
  (case aZ61=>k_is)
  (case lZ61=>k_is)
  (case cZ61=>k_is)
  (case kZ61=>k_is)
  (case aZ64=>k_is)
  (case lZ64=>k_is)
  (case cZ64=>k_is)
  (case kZ64=>k_is)
  (case aZ67=>k_is)
  (case lZ67=>k_is)
  (case cZ67=>k_is)
  (case kZ67=>k_is)
  (case aZ70=>k_is)
  (case lZ70=>k_is)
  (case cZ70=>k_is)
  (case kZ70=>k_is)
  (case aZ73=>k_is)
  (case lZ73=>k_is)
  (case cZ73=>k_is)
  (case kZ73=>k_is)
  (case aZ76=>k_is)
  (case lZ76=>k_is)
  (case cZ76=>k_is)
  (case kZ76=>k_is)
  (case aZ77=>k_is)
  (case lZ77=>k_is)
  (case cZ77=>k_is)
  (case kZ77=>k_is)
  (case aZ78=>k_is)
  (case lZ78=>k_is)
  (case cZ78=>k_is)
  (case kZ78=>k_is)
  (case aZ79=>k_is)
  (case lZ79=>k_is)
  (case cZ79=>k_is)
  (case kZ79=>k_is)
  (case aZ80=>k_is)
  (case lZ80=>k_is)
  (case cZ80=>k_is)
  (case kZ80=>k_is)
  (case aZ81=>k_is)
  (case lZ81=>k_is)
  (case cZ81=>k_is)
  (case kZ81=>k_is)
  (case aZ82=>k_is)
  (case lZ82=>k_is)
  (case cZ82=>k_is)
  (case kZ82=>k_is)
  (case gt=>k_is)
  (case tk=>k_is)
  (case a_MillError=>k_is)
  (case i_MillError=>k_exc)
  (case k_MillError=>k_is)
  (case ga_MillError=>k_is)
  (case na_MillError=>k_is)
  (case cl_MillError=>k_is)
  (case mo_MillError=>k_is)
  (case mb_MillError=>k_is)
  (case ci_MillError=>k_is)
  (case mr_MillError=>rfl)
  (case ty_MillError=>k_is)
  (case a_Full=>k_is)
  (case i_Full=>k_exc)
  (case k_Full=>k_is)
  (case ga_Full=>k_is)
  (case na_Full=>k_is)
  (case cl_Full=>k_is)
  (case mo_Full=>k_is)
  (case mb_Full=>k_is)
  (case ci_Full=>k_is)
  (case mr_Full=>rfl)
  (case ty_Full=>k_is)
  (case a_NoDeed=>k_is)
  (case i_NoDeed=>k_exc)
  (case k_NoDeed=>k_is)
  (case ga_NoDeed=>k_is)
  (case na_NoDeed=>k_is)
  (case cl_NoDeed=>k_is)
  (case mo_NoDeed=>k_is)
  (case mb_NoDeed=>k_is)
  (case ci_NoDeed=>k_is)
  (case mr_NoDeed=>rfl)
  (case ty_NoDeed=>k_is)
  (case a_NoMachine=>k_is)
  (case i_NoMachine=>k_exc)
  (case k_NoMachine=>k_is)
  (case ga_NoMachine=>k_is)
  (case na_NoMachine=>k_is)
  (case cl_NoMachine=>k_is)
  (case mo_NoMachine=>k_is)
  (case mb_NoMachine=>k_is)
  (case ci_NoMachine=>k_is)
  (case mr_NoMachine=>rfl)
  (case ty_NoMachine=>k_is)
  (case a_NoName=>k_is)
  (case i_NoName=>k_exc)
  (case k_NoName=>k_is)
  (case ga_NoName=>k_is)
  (case na_NoName=>k_is)
  (case cl_NoName=>k_is)
  (case mo_NoName=>k_is)
  (case mb_NoName=>k_is)
  (case ci_NoName=>k_is)
  (case mr_NoName=>rfl)
  (case ty_NoName=>k_is)
  (case a_NoPaper=>k_is)
  (case i_NoPaper=>k_exc)
  (case k_NoPaper=>k_is)
  (case ga_NoPaper=>k_is)
  (case na_NoPaper=>k_is)
  (case cl_NoPaper=>k_is)
  (case mo_NoPaper=>k_is)
  (case mb_NoPaper=>k_is)
  (case ci_NoPaper=>k_is)
  (case mr_NoPaper=>rfl)
  (case ty_NoPaper=>k_is)
  (case a_NoSize=>k_is)
  (case i_NoSize=>k_exc)
  (case k_NoSize=>k_is)
  (case ga_NoSize=>k_is)
  (case na_NoSize=>k_is)
  (case cl_NoSize=>k_is)
  (case mo_NoSize=>k_is)
  (case mb_NoSize=>k_is)
  (case ci_NoSize=>k_is)
  (case mr_NoSize=>rfl)
  (case ty_NoSize=>k_is)
  (case a_NoSuch=>k_is)
  (case i_NoSuch=>k_exc)
  (case k_NoSuch=>k_is)
  (case ga_NoSuch=>k_is)
  (case na_NoSuch=>k_is)
  (case cl_NoSuch=>k_is)
  (case mo_NoSuch=>k_is)
  (case mb_NoSuch=>k_is)
  (case ci_NoSuch=>k_is)
  (case mr_NoSuch=>rfl)
  (case ty_NoSuch=>k_is)
  (case a_NoText=>k_is)
  (case i_NoText=>k_exc)
  (case k_NoText=>k_is)
  (case ga_NoText=>k_is)
  (case na_NoText=>k_is)
  (case cl_NoText=>k_is)
  (case mo_NoText=>k_is)
  (case mb_NoText=>k_is)
  (case ci_NoText=>k_is)
  (case mr_NoText=>rfl)
  (case ty_NoText=>k_is)
  (case a_Twice=>k_is)
  (case i_Twice=>k_exc)
  (case k_Twice=>k_is)
  (case ga_Twice=>k_is)
  (case na_Twice=>k_is)
  (case cl_Twice=>k_is)
  (case mo_Twice=>k_is)
  (case mb_Twice=>k_is)
  (case ci_Twice=>k_is)
  (case mr_Twice=>rfl)
  (case ty_Twice=>k_is)
  (case a_WAYS=>k_is)
  (case l_WAYS=>k_is)
  (case hh0_WAYS=>decide)
  (case hh1_WAYS=>decide)
  (case a_ROWS=>k_is)
  (case l_ROWS=>k_is)
  (case z_ValueError=>k_is)
  (case z_abs=>k_is)
  (case z_all=>k_is)
  (case z_bool=>k_is)
  (case z_dict=>k_is)
  (case z_enumerate=>k_is)
  (case z_int=>k_is)
  (case z_isinstance=>k_is)
  (case z_len=>k_is)
  (case z_list=>k_is)
  (case z_max=>k_is)
  (case z_min=>k_is)
  (case z_range=>k_is)
  (case z_reversed=>k_is)
  (case z_sorted=>k_is)
  (case z_str=>k_is)
  (case z_sum=>k_is)
  (case z_tuple=>k_is)
  (case z_zip=>k_is)
  (case nd=>decide)
  (case q_MOST_ROWS=>k_is)
  (case q_LEAST_SIGNS=>k_is)
  (case q_MOST_SIGNS=>k_is)
  (case q_MOST_MOMENT=>k_is)
  (case q_MOST_PARTS=>k_is)
  (case q_MOST_DEPTH=>k_is)
  (case q_NO_ENTRY=>k_is)
