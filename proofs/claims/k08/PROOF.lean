import PyProof.Rows.All
import Wide.All
import OpenK.AllK
import Wide.FinOn
import Lean
import PyProof.EqAt
import PyProof.EqKinds
import PyProof.TupleCall
import KE.KTryMore
import PySem.Challenge.RW_greyhall_k08_whole_hall_by_hand
set_option maxHeartbeats 4000000
set_option Elab.async false
set_option linter.all false
set_option maxRecDepth 100000
namespace L2
open PySem PySem.Spec PyProof.Rows
abbrev Key:=Sum Int Str
def keyIs : Key -> Value -> Bool
 | .inl k,v=>Value.isInt k v
 | .inr x,v=>Value.isStrOf x v
def keyH (w : World) : Key -> Int
 | .inl k=>hashInt k
 | .inr x=>hashStr w x
theorem keyIs_shape : ∀ {k : Key} {v : Value},keyIs k v = true -> (∃ i t,k = Sum.inl i /\ v = Value.int i t) \/ (∃ x t,k = Sum.inr x /\ v = Value.str x t)
 | .inl i,v,h=>by
  obtain ⟨t,e⟩:=Value.isInt_shape (k:=i) (v:=v) h
  exact .inl ⟨i,t,rfl,e⟩
 | .inr x,v,h=>by
  obtain ⟨t,e⟩:=Value.isStrOf_shape (x:=x) (v:=v) h
  exact .inr ⟨x,t,rfl,e⟩
theorem keyIs_int (i : Int) (t : Tok) : keyIs (.inl i) (.int i t) = true:=by simp [keyIs,Value.isInt]
theorem keyIs_str (x : Str) (t : Tok) : keyIs (.inr x) (.str x t) = true:=by simp [keyIs,Value.isStrOf]
theorem key_ll (a b : Int) : decide ((Sum.inl a : Key) = Sum.inl b) = (a == b):=by
 by_cases e : a = b
 ·subst e; simp
 ·have h : ¬ (Sum.inl a : Key) = Sum.inl b:=fun q=>e (Sum.inl.inj q)
  rw [decide_eq_false h]
  exact (beq_eq_false_iff_ne.mpr e).symm
theorem key_rr (a b : Str) : decide ((Sum.inr a : Key) = Sum.inr b) = decide (a = b):=by
 by_cases e : a = b
 ·subst e; simp
 ·have h : ¬ (Sum.inr a : Key) = Sum.inr b:=fun q=>e (Sum.inr.inj q)
  rw [decide_eq_false h,decide_eq_false e]
theorem key_lr (a : Int) (b : Str) : decide ((Sum.inl a : Key) = Sum.inr b) = false:=decide_eq_false (fun q=>nomatch q)
theorem key_rl (a : Str) (b : Int) : decide ((Sum.inr a : Key) = Sum.inl b) = false:=decide_eq_false (fun q=>nomatch q)
def mixKind (prog : Program) (w : World) : PySem.KeyKind prog w Key where
 is:=keyIs
 hash:=keyH w
 inj:=fun v a b ha hb=>by
  rcases keyIs_shape ha with ⟨i,t,rfl,rfl⟩ | ⟨x,t,rfl,rfl⟩
  ·rcases keyIs_shape hb with ⟨j,u,rfl,e⟩ | ⟨y,u,rfl,e⟩
   ·injection e with e1 _; rw [e1]
   ·exact nomatch e
  ·rcases keyIs_shape hb with ⟨j,u,rfl,e⟩ | ⟨y,u,rfl,e⟩
   ·exact nomatch e
   ·injection e with e1 _; rw [e1]
 byValue:=fun k v h=>by
  rcases keyIs_shape h with ⟨i,t,rfl,rfl⟩ | ⟨x,t,rfl,rfl⟩ <;> rfl
 pyHash:=fun hv h=>by
  rcases keyIs_shape hv with ⟨i,t,rfl,rfl⟩ | ⟨x,t,rfl,rfl⟩
  ·exact wpAny_pyHash_int h
  ·exact wpAny_pyHash_str h
 eqBool:=fun hu hv h=>by
  rcases keyIs_shape hu with ⟨i,t,rfl,rfl⟩ | ⟨x,t,rfl,rfl⟩
  ·rcases keyIs_shape hv with ⟨j,u,rfl,rfl⟩ | ⟨y,u,rfl,rfl⟩
   ·rw [key_ll] at h; exact wpAny_eqBool_int h
   ·rw [key_lr] at h; exact SeqAt.EqAt.int_str i t y u _ _ _ _ h
  ·rcases keyIs_shape hv with ⟨j,u,rfl,rfl⟩ | ⟨y,u,rfl,rfl⟩
   ·rw [key_rl] at h; exact SeqAt.EqAt.str_int x t j u _ _ _ _ h
   ·rw [key_rr] at h; exact wpAny_eqBool_str h
 «strs»:=fun k x t v h=>by
  rcases keyIs_shape h with ⟨i,u,rfl,e⟩ | ⟨y,u,rfl,e⟩
  ·exact nomatch e
  ·injection e with e1 _
   subst e1
   cases v <;> rfl
theorem mixKind_int (prog : Program) (w : World) (i : Int) (t : Tok) : (mixKind prog w).is (.inl i) (.int i t) = true:=keyIs_int i t
theorem mixKind_str (prog : Program) (w : World) (x : Str) (t : Tok) : (mixKind prog w).is (.inr x) (.str x t) = true:=keyIs_str x t
end L2
namespace L2
open PySem PySem.Spec PyProof.Rows
inductive V where
 | non | bl (b : Bool) | int (i : Int) | str (x : Str) | byt (b : Array UInt8) | flt (b : UInt64) | ref (a : Addr) | ty (n : String)
 deriving DecidableEq
def RelV : V -> Value -> Prop
 | .non,u=>u = Value.none
 | .bl b,u=>u = Value.bool b
 | .int i,u=>∃ t,u = Value.int i t
 | .str x,u=>∃ t,u = Value.str x t
 | .byt b,u=>∃ t,u = Value.bytes b t
 | .flt b,u=>∃ t,u = Value.float b t
 | .ref a,u=>u = Value.ref a
 | .ty n,u=>u = Value.type n
abbrev Vals : List V -> List Value -> Prop:=Paired RelV
theorem Vals.length {xs : List V} {us : List Value} (r : Vals xs us) : xs.length = us.length:=Paired.length r
theorem Vals.get : ∀ {xs : List V} {us : List Value} {i : Nat} {x : V},Vals xs us -> xs[i]? = some x -> ∃ u,us[i]? = some u /\ RelV x u
 | _,_,_,_,.nil,e=>by simp at e
 | _,_,0,_,.cons r _,e=>by simp at e; subst e; exact ⟨_,rfl,r⟩
 | _,_,i + 1,x,.cons _ t,e=>by
  obtain ⟨u,h1,h2⟩:=Vals.get (i:=i) (x:=x) t (by simpa using e)
  exact ⟨u,by simpa using h1,h2⟩
theorem Vals.set {x : V} {u : Value} (r : RelV x u) : ∀ {xs : List V} {us : List Value} (i : Nat),Vals xs us -> Vals (xs.set i x) (us.set i u)
 | _,_,_,.nil=>.nil
 | _,_,0,.cons _ t=>.cons r t
 | _,_,i + 1,.cons q t=>.cons q (Vals.set r i t)
theorem Vals.append : ∀ {xs ys : List V} {us ws : List Value},Vals xs us -> Vals ys ws -> Vals (xs ++ ys) (us ++ ws)
 | _,_,_,_,.nil,s=>s
 | _,_,_,_,.cons r t,s=>.cons r (Vals.append t s)
theorem Vals.take : ∀ {xs : List V} {us : List Value} (n : Nat),Vals xs us -> Vals (xs.take n) (us.take n)
 | _,_,0,_=>.nil
 | _,_,_ + 1,.nil=>.nil
 | _,_,n + 1,.cons r t=>.cons r (Vals.take n t)
theorem Vals.drop : ∀ {xs : List V} {us : List Value} (n : Nat),Vals xs us -> Vals (xs.drop n) (us.drop n)
 | _,_,0,r=>r
 | _,_,_ + 1,.nil=>.nil
 | _,_,n + 1,.cons _ t=>Vals.drop n t
def RelO : Option V -> Option Value -> Prop
 | some v,some u=>RelV v u
 | none,none=>True
 | _,_=>False
def KV {κ : Type} : List (κ × V) -> List (κ × Value) -> Prop:=Paired fun (p : κ × V) (q : κ × Value)=>p.1 = q.1 /\ RelV p.2 q.2
def kV : Key -> V
 | .inl i=>.int i
 | .inr x=>.str x
inductive HO where
 /-- a list -/
 | lst (xs : List V)
 /-- a tuple (never changes) -/
 | tup (xs : List V)
 /-- a dict whose keys are ints and texts; one whose keys are tuples of ints and texts (the empty one is both) -/
 | dK (kvs : List (Key × V)) | dT (kvs : List (List Key × V))
 /-- a set of ints: its members,its size -/
 | set (S : Int -> Bool) (n : Nat)
 /-- an instance of the class at C,its dict at dx,its attributes -/
 | ins (C dx : Addr) (fs : List (Str × V))
 /-- the dict of the instance at x -/
 | own (x : Addr)
 /-- the dict of an exception -/
 | xd (fs : List (Str × V))
 /-- a bound method,f of x -/
 | met (f x : Addr)
 /-- a range object lo,lo + 1,.. below hi -/
 | rng (lo hi : Int)
 /-- a thing that is known to the object (the script; a dict while a loop walks it): read,never written while it is so -/
 | frz (o : Obj) (u : HO)
 /-- a code object's table -/
 | tbl (ps : Array Value)
 /-- any other thing,by what is true of its one object (a def of one's own: SetO a S n:=HO.ext fun h=>..) -/
 | ext (φ : Heap -> Prop)
abbrev Hp:=Addr -> Option HO
def upd (H : Hp) (a : Addr) (o : HO) : Hp:=fun b=>if b = a then some o else H b
theorem upd_same {H : Hp} {a : Addr} {o : HO} : upd H a o a = some o:=by unfold upd; rw [if_pos rfl]
theorem upd_ne {H : Hp} {a b : Addr} {o : HO} (h : b ≠ a) : upd H a o b = H b:=by unfold upd; rw [if_neg h]
theorem upd_upd {H : Hp} {a : Addr} {o u : HO} : upd (upd H a o) a u = upd H a u:=by
 funext b; unfold upd; split <;> rfl
theorem ne_of {H : Hp} {a b : Addr} {o u : HO} (h : H a = some o) (h' : H b = some u) (d : o ≠ u) : a ≠ b:=by
 intro e; subst e; rw [h] at h'; exact d (Option.some.inj h')
theorem ne_of_none {H : Hp} {a b : Addr} {o : HO} (h : H a = some o) (h' : H b = none) : a ≠ b:=by
 intro e; subst e; rw [h] at h'; cases h'
section
variable (P : Program) (w : World)
def ObjOk (H : Hp) (h : Heap) (a : Addr) : HO -> Prop
 | .lst xs=>xs.length <= sizeLine /\ ∃ (its : List Value) (n : Nat),Vals xs its /\ h.get? a = some { cls:=.type "list",data:=.seq its.toArray n }
 | .tup xs=>xs.length <= sizeLine /\ ∃ its : List Value,Vals xs its /\ IsTup h a its.toArray
 | .dK kvs=>kvs.length <= sizeLine /\ (a == sysModules) = false /\ ∃ vs,KV kvs vs /\ h.DictOf (mixKind P w) a vs
 | .dT kvs=>kvs.length <= sizeLine /\ (a == sysModules) = false /\ ∃ xs : List (List Key × Addr × Value),
   Paired (fun (p : List Key × V) (q : List Key × Addr × Value)=>p.1 = q.1 /\ H q.2.1 = some (.tup (p.1.map kV)) /\ RelV p.2 q.2.2) kvs xs /\
   ∃ o es ep,h.get? a = some o /\ o.ExactDict /\ o.data = .dict es ep /\ es.toList = xs.map (entryOfKey (tupleKind (mixKind P w))) /\ (xs.map (·.1)).Nodup
 | .set S n=>h.SetOf (intKind P w) a S n
 | .ins C dx fs=>H dx = some (.own a) /\ fs.length <= 1000 /\ dx ≠ a /\ h.get? a = some (PySem.W.instObj C dx) /\
   ∃ mA,h.Ns1 dx mA /\ (∀ f,RelO (fs.lookup f) (mA f)) /\ PySem.Within mA (fs.map (·.1))
 | .own _=>∃ o,h.get? a = some o
 | .xd fs=>∃ mA,h.Ns1 a mA /\ ∀ f,RelO (fs.lookup f) (mA f)
 | .rng lo hi=>∃ t u v,h.get? a = some { cls:=.type "range",data:=.fields #[.int lo t,.int hi u,.int 1 v] }
 | .frz o u=>h.get? a = some o /\ ObjOk H h a u
 | .tbl ps=>h.get? a = some { cls:=.none,data:=.fields ps }
 | .met f x=>h.get? a = some (PySem.W.methodObj (.ref f) (.ref x))
 | .ext φ=>φ h /\ (∃ o,h.get? a = some o) /\ ∀ h1 h2 : Heap,φ h1 -> (∀ o,h1.get? a = some o -> h2.get? a = some o) -> φ h2
def HOk (H : Hp) (h : Heap) : Prop:=∀ a o,H a = some o -> ObjOk P w H h a o
end
section
variable {P : Program} {w : World} {H H' : Hp} {h h' : Heap} {a : Addr} {o : HO}
theorem ObjOk.lt (x : ObjOk P w H h a o) : a < h.objs.size:=by
 cases o with
 | lst xs=>obtain ⟨_,_,_,_,e⟩:=x; exact Heap.lt_size e
 | tup xs=>obtain ⟨_,_,_,p⟩:=x; exact p.lt
 | dK kvs=>obtain ⟨_,_,_,_,o,_,_,e,_⟩:=x; exact Heap.lt_size e
 | dT kvs=>obtain ⟨_,_,_,_,o,_,_,e,_⟩:=x; exact Heap.lt_size e
 | set S n=>obtain ⟨o,_,_,_,e,_⟩:=x; exact Heap.lt_size e
 | ins C dx fs=>obtain ⟨_,_,_,e,_⟩:=x; exact Heap.lt_size e
 | own y=>obtain ⟨_,e⟩:=x; exact Heap.lt_size e
 | xd fs=>obtain ⟨_,⟨_,_,_,e,_⟩,_⟩:=x; exact Heap.lt_size e
 | rng lo hi=>obtain ⟨_,_,_,e⟩:=x; exact Heap.lt_size e
 | frz ob u=>obtain ⟨e,_⟩:=x; exact Heap.lt_size e
 | tbl ps=>exact Heap.lt_size (show h.get? a = some _ from x)
 | met f y=>exact Heap.lt_size (show h.get? a = some _ from x)
 | ext φ=>obtain ⟨_,⟨_,e⟩,_⟩:=x; exact Heap.lt_size e
theorem Paired.mapP {α β : Type} {F G : α -> β -> Prop} : ∀ {l₁ : List α} {l₂ : List β},Paired F l₁ l₂ -> (∀ a b,F a b -> G a b) -> Paired G l₁ l₂
 | _,_,.nil,_=>.nil
 | _,_,.cons r t,f=>.cons (f _ _ r) (Paired.mapP t f)
theorem ObjOk.stay (x : ObjOk P w H h a o) (k : ∀ b u,(b = a \/ H b = some (.own a)) -> h.get? b = some u -> h'.get? b = some u)
  (ho : ∀ b,H b = some (.own a) -> H' b = some (.own a)) (ht : ∀ b xs,H b = some (.tup xs) -> H' b = some (.tup xs)) : ObjOk P w H' h' a o:=by
 induction o with
 | lst xs=>obtain ⟨z,its,n,r,e⟩:=x; exact ⟨z,its,n,r,k _ _ (.inl rfl) e⟩
 | tup xs=>obtain ⟨z,its,r,ob,e,c⟩:=x; exact ⟨z,its,r,ob,k _ _ (.inl rfl) e,c⟩
 | dK kvs=>obtain ⟨z,y,vs,r,ob,es,ep,e,c⟩:=x; exact ⟨z,y,vs,r,ob,es,ep,k _ _ (.inl rfl) e,c⟩
 | dT kvs =>
  obtain ⟨z,y,xs,r,ob,es,ep,e,c⟩:=x
  exact ⟨z,y,xs,Paired.mapP r fun p q z=>⟨z.1,ht _ _ z.2.1,z.2.2⟩,ob,es,ep,k _ _ (.inl rfl) e,c⟩
 | set S n=>obtain ⟨ob,es,ep,t,e,c⟩:=x; exact ⟨ob,es,ep,t,k _ _ (.inl rfl) e,c⟩
 | ins C dx fs =>
  obtain ⟨d,z,ne,e,mA,⟨od,es,ep,e2,c⟩,r⟩:=x
  exact ⟨ho _ d,z,ne,k _ _ (.inl rfl) e,mA,⟨od,es,ep,k _ _ (.inr d) e2,c⟩,r⟩
 | own y=>obtain ⟨ob,e⟩:=x; exact ⟨ob,k _ _ (.inl rfl) e⟩
 | xd fs=>obtain ⟨mA,⟨od,es,ep,e,c⟩,r⟩:=x; exact ⟨mA,⟨od,es,ep,k _ _ (.inl rfl) e,c⟩,r⟩
 | rng lo hi=>obtain ⟨t,u,v,e⟩:=x; exact ⟨t,u,v,k _ _ (.inl rfl) e⟩
 | frz ob u ih=>obtain ⟨e,q⟩:=x; exact ⟨k _ _ (.inl rfl) e,ih q⟩
 | tbl ps =>
  have e : h.get? a = some { cls:=.none,data:=.fields ps }:=x
  show h'.get? a = some { cls:=.none,data:=.fields ps }
  exact k a _ (.inl rfl) e
 | met f y =>
  have e : h.get? a = some (PySem.W.methodObj (.ref f) (.ref y)):=x
  show h'.get? a = some (PySem.W.methodObj (.ref f) (.ref y))
  exact k a _ (.inl rfl) e
 | ext φ=>obtain ⟨p,⟨o,e⟩,st⟩:=x; exact ⟨st _ _ p fun o q=>k _ _ (.inl rfl) q,⟨o,k _ _ (.inl rfl) e⟩,st⟩
theorem HOk.lt (x : HOk P w H h) (e : H a = some o) : a < h.objs.size:=(x a o e).lt
theorem HOk.fresh (x : HOk P w H h) (e : h.objs.size <= a) : H a = none:=by
 cases q : H a with
 | none=>rfl
 | some u=>exact absurd (Nat.lt_of_lt_of_le (x.lt q) e) (Nat.lt_irrefl _)
theorem HOk.kept (x : HOk P w H h) (k : ∀ b u,h.get? b = some u -> h'.get? b = some u) : HOk P w H h':=fun a o e =>
 (x a o e).stay (fun b u _ q=>k b u q) (fun _ q=>q) fun _ _ q=>q
theorem HOk.laid (x : HOk P w H h) (k : ∀ b u,h.get? b = some u -> h'.get? b = some u) (hp : h.objs.size <= a) (new : ObjOk P w (upd H a o) h' a o) : HOk P w (upd H a o) h':=fun b u e=>by
 have hn:=x.fresh hp
 by_cases hb : b = a
 ·subst hb; rw [upd_same] at e; cases e; exact new
 ·rw [upd_ne hb] at e
  exact (x b u e).stay (fun c v _ q=>k c v q) (fun c q=>by rw [upd_ne (ne_of_none q hn)]; exact q) fun c xs q=>by rw [upd_ne (ne_of_none q hn)]; exact q
end
def Rd (H : Hp) (a : Addr) (u : HO) : Prop:=H a = some u \/ ∃ o,H a = some (.frz o u)
theorem Rd.ok {P : Program} {w : World} {H : Hp} {h : Heap} {a : Addr} {u : HO} (r : Rd H a u) (x : HOk P w H h) : ObjOk P w H h a u:=by
 rcases r with r | ⟨o,r⟩
 ·exact x a u r
 ·obtain ⟨_,q⟩:=x a _ r
  exact q
def Mut : Option HO -> Prop
 | some (.lst _)=>True
 | some (.dK _)=>True
 | some (.dT _)=>True
 | some (.set _ _)=>True
 | some (.ins _ _ _)=>True
 | some (.ext _)=>True
 | _=>False
section
variable {P : Program} {w : World} {H : Hp} {h h' : Heap} {x e : Addr} {o' : HO}
theorem HOk.write (ok : HOk P w H h) (mu : Mut (H x)) (he : e = x \/ H e = some (.own x)) (k : ∀ b u,b ≠ e -> h.get? b = some u -> h'.get? b = some u) (heo : ∃ u,h'.get? e = some u)
  (new : ObjOk P w (upd H x o') h' x o') : HOk P w (upd H x o') h':=fun b u q=>by
 have nown : ∀ c y,H c = some (.own y) -> c ≠ x:=fun c y r z=>by subst z; rw [r] at mu; exact mu
 have ntup : ∀ c xs,H c = some (.tup xs) -> c ≠ x:=fun c xs r z=>by subst z; rw [r] at mu; exact mu
 by_cases hb : b = x
 ·subst hb; rw [upd_same] at q; cases q; exact new
 ·rw [upd_ne hb] at q
  by_cases hbe : b = e
  ·have q' : H b = some (.own x):=by
    rcases he with z | z
    ·exact absurd (hbe.trans z) hb
    ·rw [hbe]; exact z
   rw [q] at q'; cases q'
   obtain ⟨v,hv⟩:=heo
   exact ⟨v,by rw [hbe]; exact hv⟩
  ·refine (ok b u q).stay (fun c v hc r=>k c v ?_ r) (fun c r=>by rw [upd_ne (nown c b r)]; exact r) fun c xs r=>by rw [upd_ne (ntup c xs r)]; exact r
   rcases hc with rfl | hc
   ·exact hbe
   ·rintro rfl
    rcases he with z | z
    ·exact nown c b hc z
    ·rw [hc] at z; cases z; exact hb rfl
end
structure Un (fs ex : List Addr) (H H' : Hp) (h h' : Heap) : Prop where
 keep : ∀ b o,h.get? b = some o -> H b = none -> b ∉ fs -> b ∉ ex -> h'.get? b = some o
 slot : ∀ b o,h.get? b = some o -> H b = none -> b ∈ fs -> b ∉ ex -> ∃ sl,h'.get? b = some { o with slots:=sl }
 free : ∀ b o,h.get? b = some o -> H b = none -> b ∉ ex -> H' b = none
 there : ∀ b o,h.get? b = some o -> b ∉ ex -> ∃ o',h'.get? b = some o'
 tups : ∀ b xs,H b = some (.tup xs) -> H' b = some (.tup xs)
 frzs : ∀ b o u,H b = some (.frz o u) -> H' b = some (.frz o u)
 tbls : ∀ b ps,H b = some (.tbl ps) -> ∃ more,H' b = some (.tbl (ps ++ more))
section
variable {fs fs' ex ex' : List Addr} {H H1 H2 : Hp} {h h1 h2 h' : Heap} {a x e : Addr} {o : HO}
theorem Un.any (u : Un fs ex H H1 h h1) {b : Addr} {ob : Obj} (q : h.get? b = some ob) (n : H b = none) (hx : b ∉ ex) : ∃ sl,h1.get? b = some { ob with slots:=sl }:=by
 by_cases hb : b ∈ fs
 ·exact u.slot b ob q n hb hx
 ·exact ⟨ob.slots,u.keep b ob q n hb hx⟩
theorem Un.kept (k : ∀ b u,h.get? b = some u -> h'.get? b = some u) : Un fs ex H H h h' :=
 ⟨fun b ob q _ _ _=>k b ob q,fun b ob q _ _ _=>⟨ob.slots,k b ob q⟩,fun _ _ _ n _=>n,fun b ob q _=>⟨ob,k b ob q⟩,fun _ _ q=>q,fun _ _ _ q=>q,fun _ ps q=>⟨#[],by rw [q]; simp⟩⟩
theorem Un.refl : Un fs ex H H h h:=Un.kept fun _ _ q=>q
theorem Un.laid (k : ∀ b u,h.get? b = some u -> h'.get? b = some u) (hp : h.objs.size <= a) (hn : H a = none) : Un fs ex H (upd H a o) h h' where
 keep:=fun b u q _ _ _=>k b u q
 slot:=fun b u q _ _ _=>⟨u.slots,k b u q⟩
 free:=fun b u q n _=>by rw [upd_ne (Nat.ne_of_lt (Nat.lt_of_lt_of_le (Heap.lt_size q) hp))]; exact n
 there:=fun b u q _=>⟨u,k b u q⟩
 tups:=fun b xs q=>by rw [upd_ne (ne_of_none q hn)]; exact q
 frzs:=fun b u xs q=>by rw [upd_ne (ne_of_none q hn)]; exact q
 tbls:=fun b ps q=>⟨#[],by rw [upd_ne (ne_of_none q hn),q]; simp⟩
theorem Un.write (mu : Mut (H x)) (he : e = x \/ H e = some (.own x)) (k : ∀ b u,b ≠ e -> h.get? b = some u -> h'.get? b = some u) (heo : ∃ u,h'.get? e = some u) : Un fs ex H (upd H x o) h h':=by
 have hx : ∀ b,H b = none -> b ≠ x:=fun b n z=>by subst z; rw [n] at mu; exact mu
 have hb : ∀ b,H b = none -> b ≠ e:=fun b n z=>by
  subst z
  rcases he with r | r
  ·exact hx b n r
  ·rw [n] at r; cases r
 have hm : ∀ b u,H b = some u -> ¬ Mut (some u) -> b ≠ x:=fun b u q nm z=>by subst z; rw [q] at mu; exact nm mu
 refine ⟨fun b u q n _ _=>k b u (hb b n) q,fun b u q n _ _=>⟨u.slots,k b u (hb b n) q⟩,fun b u q n _=>by rw [upd_ne (hx b n)]; exact n,fun b u q _=>?_,
  fun b xs q=>by rw [upd_ne (hm b _ q fun z=>z)]; exact q,fun b u xs q=>by rw [upd_ne (hm b _ q fun z=>z)]; exact q,fun b ps q=>⟨#[],by rw [upd_ne (hm b _ q fun z=>z),q]; simp⟩⟩
 by_cases hbe : b = e
 ·subst hbe; exact heo
 ·exact ⟨u,k b u hbe q⟩
end
def trk (h : Heap) (H : Hp) : List Addr:=(List.range h.objs.size).filter fun a=>(H a).isSome
def hidT (h : Heap) (H : Hp) : Heap:=PySem.W.hideAll h (trk h H)
theorem hidT_size (h : Heap) (H : Hp) : (hidT h H).objs.size = h.objs.size:=PySem.W.hideAll_size _ _
theorem hidT_get {h : Heap} {H : Hp} {b : Addr} {o : Obj} (e : h.get? b = some o) (n : H b = none) : (hidT h H).get? b = some o :=
 PySem.W.hideAll_get _ e fun hm=>by
  have q : (H b).isSome = true:=(List.mem_filter.mp hm).2
  rw [n] at q; simp at q
theorem of_hidT {h : Heap} {H : Hp} {b : Addr} {o : Obj} (e : (hidT h H).get? b = some o) : h.get? b = some o /\ H b = none:=by
 have e' : h.get? b = some o:=PySem.W.of_hideAll (trk h H) e
 refine ⟨e',?_⟩
 cases q : H b with
 | none=>rfl
 | some x =>
  have hm : b ∈ trk h H:=List.mem_filter.mpr ⟨List.mem_range.mpr (Heap.lt_size e'),by simp [q]⟩
  have z : (hidT h H).get? b = none:=PySem.W.hideAll_none (trk h H) hm
  rw [z] at e; cases e
end L2
namespace L2
open PySem PySem.Spec PyProof.Rows
structure Mod (K : PySem.W.Frag) (mg : Str -> Option Value) (base : Heap) : Prop where
 kin : K.In base
 glob : base.Ns mainGlobals mg
 blt : ∃ mb,base.Ns builtinsNs mb /\ ∀ x : Str,x ≠ "__name__" -> mb x = bootBuiltins x
 nolimit : base.NoLimit
structure Cx where
 prog : Program
 w : World
 K : PySem.W.Frag
 mg : Str -> Option Value
 base : Heap
 A : Around
 N : List Str
 s₀ : Shared
 H₀ : Hp
 env : Env
 outer : List Env
 stack : List Env
 ex : List Addr
 fn : Str -> Bool
 calm : Bool
 pn : List (Addr × Obj)
 xe : Value -> Shared -> Prop
def frs (l : List Env) : List Addr:=l.filterMap (·.frame)
abbrev Cx.fs (X : Cx) : List Addr:=frs X.outer
def Vis (sc : Scope) (x : Str) : Prop:=sc.names.lookup x = some .local \/ sc.names.lookup x = some .cell \/ sc.names.lookup x = some .free
def Loc (sc : Scope) (x : Str) : Prop:=sc.names.lookup x = some .local \/ sc.names.lookup x = some .cell
def Look (env : Env) (h : Heap) (m : Str -> Option Value) (x : Str) (u : Value) : Prop :=
 (env.kindOf x = some .local /\ m x = some u) \/ ((env.kindOf x = some .cell \/ env.kindOf x = some .free) /\ ∃ c,env.cells.lookup x = some c /\ h.IsCell c (some u))
structure Cx.Ok (X : Cx) : Prop where
 mod : Mod X.K X.mg X.base
 kind : X.env.scope.kind = .function
 glob : X.env.globals = mainGlobals
 blt : X.env.builtins = builtinsNs
 above : X.s₀.heap.objs.size <= X.env.locals
 inj : ∀ x y c,X.env.cells.lookup x = some c -> X.env.cells.lookup y = some c -> x = y
 has : ∀ x,(X.env.kindOf x = some .cell \/ X.env.kindOf x = some .free) -> ∃ c,X.env.cells.lookup x = some c
 cab : ∀ x c,X.fn x = true -> X.env.cells.lookup x = some c -> X.s₀.heap.objs.size <= c
 hd : X.calm = true -> X.A.handled = none
 frames : X.A.frames = some X.stack
 stk : X.stack = X.outer \/ (X.stack = X.env :: X.outer /\ X.env.frame = some X.env.locals)
 exf : ∀ b ∈ X.ex,b ≠ X.env.locals /\ ∀ x c,X.env.cells.lookup x = some c -> c ≠ b
 bs : ∀ b o,X.base.get? b = some o -> X.s₀.heap.get? b = some o /\ X.H₀ b = none
 bsz : X.base.objs.size <= X.s₀.heap.objs.size
 noex : ∀ b o,X.base.get? b = some o -> b ∉ X.ex
 exfs : ∀ b ∈ X.ex,b ∉ X.fs
 funs : X.s₀.heap.FunFrames X.base X.outer
 frf : ∀ b ∈ X.fs,X.H₀ b = none
structure Inv (X : Cx) (pins : List (Addr × Obj)) (σ : List (Option V)) (H : Hp) (s : Shared) : Prop where
 ok : X.Ok
 os : s.os = X.s₀.os
 bare : AllBare s.gens
 base : Un X.fs X.ex X.H₀ H X.s₀.heap s.heap
 loc : ∃ m,s.heap.Ns X.env.locals m /\ ∀ (i : Nat) (x : Str) (v : V),X.N[i]? = some x -> σ[i]? = some (some v) -> Vis X.env.scope x -> ∃ u,RelV v u /\ Look X.env s.heap m x u
 cell : ∀ x c,X.env.cells.lookup x = some c -> ∃ v,s.heap.IsCell c v
 free : H X.env.locals = none
 freeC : ∀ x c,X.env.cells.lookup x = some c -> H c = none
 pin : ∀ p ∈ X.pn ++ pins,s.heap.get? p.1 = some p.2 /\ H p.1 = none /\ p.1 ≠ X.env.locals /\ p.1 ∉ X.fs /\ ∀ v,p.2.data ≠ .cell v
 hok : HOk X.prog X.w H s.heap
 len : σ.length = X.N.length
section
variable {X : Cx} {pins : List (Addr × Obj)} {σ : List (Option V)} {H H' : Hp} {s : Shared} {h' : Heap}
theorem Cx.Ok.nofr (ok : X.Ok) {b : Addr} {o : Obj} (e : X.base.get? b = some o) : b ∉ X.fs:=fun hb=>by
 have:=(ok.funs.mem hb).1
 rw [e] at this; cases this
theorem Inv.bs (I : Inv X pins σ H s) : ∀ b o,X.base.get? b = some o -> s.heap.get? b = some o /\ H b = none:=fun b o e =>
 ⟨I.base.keep b o (I.ok.bs b o e).1 (I.ok.bs b o e).2 (I.ok.nofr e) (I.ok.noex b o e),I.base.free b o (I.ok.bs b o e).1 (I.ok.bs b o e).2 (I.ok.noex b o e)⟩
theorem Inv.bk (I : Inv X pins σ H s) : ∀ b o,X.base.get? b = some o -> s.heap.get? b = some o:=fun b o e=>(I.bs b o e).1
theorem Inv.mod (I : Inv X pins σ H s) : Mod X.K X.mg X.base:=I.ok.mod
theorem Inv.kIn (I : Inv X pins σ H s) : X.K.In s.heap:=I.ok.mod.kin.keeps I.bk
theorem Inv.lt (I : Inv X pins σ H s) : X.env.locals < s.heap.objs.size:=let ⟨_,hn,_⟩:=I.loc; hn.lt
theorem Inv.sz (I : Inv X pins σ H s) : X.s₀.heap.objs.size <= s.heap.objs.size:=Nat.le_trans I.ok.above (Nat.le_of_lt I.lt)
theorem Inv.nofs (I : Inv X pins σ H s) {a : Addr} (h : s.heap.objs.size <= a) : a ∉ X.fs:=fun hb=>by
 obtain ⟨_,o,ho,_⟩:=I.ok.funs.mem hb
 exact absurd (Nat.lt_of_lt_of_le (Heap.lt_size ho) (Nat.le_trans I.sz h)) (Nat.lt_irrefl _)
theorem Inv.cne (I : Inv X pins σ H s) : ∀ x c,X.env.cells.lookup x = some c -> c ≠ X.env.locals:=fun x c e z=>by
 obtain ⟨v,o,ho,hd⟩:=I.cell x c e
 obtain ⟨m,⟨o',es,ep,ho',hd',_⟩,_⟩:=I.loc
 rw [z,ho'] at ho; cases ho; rw [hd'] at hd; cases hd
theorem Inv.funs (I : Inv X pins σ H s) : s.heap.FunFrames X.base X.outer:=by
 have all : ∀ (l : List Env),(∀ b ∈ frs l,b ∈ X.fs) -> X.s₀.heap.FunFrames X.base l -> s.heap.FunFrames X.base l:=by
  intro l
  induction l with
  | nil=>intro _ _; trivial
  | cons env r ih =>
   intro hs hl
   obtain ⟨hk,⟨L,o,hf,hn,ho,hd⟩,hr⟩:=hl
   have hL : L ∈ X.fs:=hs L (by unfold frs; rw [List.filterMap_cons,hf]; exact List.mem_cons_self)
   obtain ⟨sl,e⟩:=I.base.slot L o ho (I.ok.frf L hL) hL fun z=>I.ok.exfs L z hL
   exact ⟨hk,⟨L,_,hf,hn,e,hd⟩,ih (fun b hb=>hs b (by unfold frs; rw [List.filterMap_cons,hf]; exact List.mem_cons_of_mem _ hb)) hr⟩
 exact all X.outer (fun _ hb=>hb) I.ok.funs
theorem Inv.stack (I : Inv X pins σ H s) : s.heap.FunFrames X.base X.stack:=by
 rcases I.ok.stk with e | ⟨e,hf⟩
 ·rw [e]; exact I.funs
 ·rw [e]
  obtain ⟨m,hn,_⟩:=I.loc
  refine .cons (by rw [I.ok.kind]; decide) hf hn ?_ I.funs
  exact Heap.get?_none_of_le (Nat.le_trans I.ok.bsz I.ok.above)
theorem Inv.stkSub (I : Inv X pins σ H s) : ∀ b ∈ frs X.stack,b ∈ X.env.locals :: X.fs:=fun b hb=>by
 rcases I.ok.stk with e | ⟨e,hf⟩
 ·rw [e] at hb; exact List.mem_cons_of_mem _ hb
 ·rw [e] at hb
  unfold frs at hb
  rw [List.filterMap_cons,hf] at hb
  exact hb
theorem Inv.stkFree (I : Inv X pins σ H s) : ∀ b ∈ frs X.stack,H b = none:=fun b hb=>by
 rcases List.mem_cons.mp (I.stkSub b hb) with e | hb
 ·rw [e]; exact I.free
 ·obtain ⟨_,o,ho,_⟩:=I.ok.funs.mem hb
  exact I.base.free b o ho (I.ok.frf b hb) fun z=>I.ok.exfs b z hb
theorem Inv.step {g' : Array GenState} {t' : Nat} {d' : Drawn} {ch : List Addr} (I : Inv X pins σ H s)
  (hch : ∀ b ∈ ch,(b ∈ X.ex \/ X.s₀.heap.objs.size <= b) /\ b ≠ X.env.locals /\ (∀ x c,X.env.cells.lookup x = some c -> c ≠ b) /\ ∀ p ∈ X.pn ++ pins,p.1 ≠ b)
  (keep : ∀ b o,b ≠ X.env.locals -> b ∉ X.fs -> b ∉ ch -> s.heap.get? b = some o -> H b = none -> h'.get? b = some o)
  (slot : ∀ b o,b ≠ X.env.locals -> b ∈ X.fs -> b ∉ ch -> s.heap.get? b = some o -> H b = none -> ∃ sl,h'.get? b = some { o with slots:=sl }) (free : ∀ b o,b ∉ ch -> s.heap.get? b = some o -> H b = none -> H' b = none)
  (there : ∀ b o,b ∉ ch -> s.heap.get? b = some o -> ∃ o',h'.get? b = some o')
  (tups : ∀ b xs,H b = some (.tup xs) -> H' b = some (.tup xs)) (frzs : ∀ b o u,H b = some (.frz o u) -> H' b = some (.frz o u)) (tbls : ∀ b ps,H b = some (.tbl ps) -> ∃ more,H' b = some (.tbl (ps ++ more)))
  (ns : ∀ m,s.heap.Ns X.env.locals m -> h'.Ns X.env.locals m) (hok : HOk X.prog X.w H' h') (hg : AllBare g') :
  Inv X pins σ H' { s with heap:=h',gens:=g',drawn:=d',toks:=t' }:=by
 have neL : ∀ b o,X.s₀.heap.get? b = some o -> b ≠ X.env.locals:=fun b o e=>Nat.ne_of_lt (Nat.lt_of_lt_of_le (Heap.lt_size e) I.ok.above)
 have neC : ∀ b o,X.s₀.heap.get? b = some o -> b ∉ X.ex -> b ∉ ch:=fun b o e hx hb=>by
  rcases (hch b hb).1 with z | z
  ·exact hx z
  ·exact absurd (Nat.lt_of_lt_of_le (Heap.lt_size e) z) (Nat.lt_irrefl _)
 have cellK : ∀ x c,X.env.cells.lookup x = some c -> ∀ v,s.heap.IsCell c v -> h'.IsCell c v:=fun x c e v ⟨o,ho,hd⟩=>by
  have nch : c ∉ ch:=fun z=>(hch c z).2.2.1 x c e rfl
  by_cases hc : c ∈ X.fs
  ·obtain ⟨sl,q⟩:=slot c o (I.cne x c e) hc nch ho (I.freeC x c e)
   exact ⟨_,q,hd⟩
  ·exact ⟨o,keep c o (I.cne x c e) hc nch ho (I.freeC x c e),hd⟩
 refine ⟨I.ok,I.os,hg,⟨fun b o e n hb hx=>?_,fun b o e n hb hx=>?_,fun b o e n hx=>?_,fun b o e hx=>?_,fun b xs e=>tups b xs (I.base.tups b xs e),fun b o xs e=>frzs b o xs (I.base.frzs b o xs e),fun b ps e=>?_⟩,?_,fun x c e=>?_,?_,fun x c e=>?_,fun p hp=>?_,hok,I.len⟩
 ·exact keep b o (neL b o e) hb (neC b o e hx) (I.base.keep b o e n hb hx) (I.base.free b o e n hx)
 ·obtain ⟨sl,e1⟩:=I.base.slot b o e n hb hx
  obtain ⟨sl',e2⟩:=slot b _ (neL b o e) hb (neC b o e hx) e1 (I.base.free b o e n hx)
  exact ⟨sl',e2⟩
 ·obtain ⟨o',e1⟩:=I.base.there b o e hx
  exact free b o' (neC b o e hx) e1 (I.base.free b o e n hx)
 ·obtain ⟨o',e1⟩:=I.base.there b o e hx
  exact there b o' (neC b o e hx) e1
 ·obtain ⟨m1,e1⟩:=I.base.tbls b ps e
  obtain ⟨m2,e2⟩:=tbls b _ e1
  exact ⟨m1 ++ m2,by rw [e2,Array.append_assoc]⟩
 ·obtain ⟨m,hn,hl⟩:=I.loc
  refine ⟨m,ns m hn,fun i x v e1 e2 e3=>?_⟩
  obtain ⟨u,r,l⟩:=hl i x v e1 e2 e3
  refine ⟨u,r,?_⟩
  rcases l with l | ⟨k,c,e,z⟩
  ·exact .inl l
  ·exact .inr ⟨k,c,e,cellK x c e _ z⟩
 ·obtain ⟨v,z⟩:=I.cell x c e
  exact ⟨v,cellK x c e v z⟩
 ·obtain ⟨m,⟨o,_,_,ho,_⟩,_⟩:=I.loc
  exact free _ o (fun z=>(hch _ z).2.1 rfl) ho I.free
 ·obtain ⟨v,o,ho,hd⟩:=I.cell x c e
  exact free c o (fun z=>(hch c z).2.2.1 x c e rfl) ho (I.freeC x c e)
 ·obtain ⟨e,n,ne,nf,d⟩:=I.pin p hp
  have nch : p.1 ∉ ch:=fun z=>(hch p.1 z).2.2.2 p hp rfl
  exact ⟨keep p.1 p.2 ne nf nch e n,free p.1 p.2 nch e n,ne,nf,d⟩
theorem Inv.un {t' : Nat} (I : Inv X pins σ H s) (u : Un X.fs [] H H' s.heap h') (hok : HOk X.prog X.w H' h') : Inv X pins σ H' { s with heap:=h',toks:=t' }:=by
 obtain ⟨m,⟨o,es,ep,ho,r⟩,_⟩:=id I.loc
 obtain ⟨sl,hL⟩:=u.any ho I.free (by simp)
 exact I.step (g':=s.gens) (d':=s.drawn) (ch:=[]) (fun _ z=>nomatch z) (fun b o _ hb _ e n=>u.keep b o e n hb (by simp)) (fun b o _ hb _ e n=>u.slot b o e n hb (by simp)) (fun b o _ e n=>u.free b o e n (by simp)) (fun b o _ e=>u.there b o e (by simp)) u.tups u.frzs u.tbls (fun m' hm=>by
  obtain ⟨o',es',ep',ho',r'⟩:=hm
  rw [ho] at ho'; cases ho'
  exact ⟨_,es',ep',hL,r'⟩) hok I.bare
theorem Inv.call {g' : Array GenState} {t' : Nat} {d' : Drawn} {ch : List Addr} (I : Inv X pins σ H s) (u : Un (frs X.stack) ch H H' s.heap h') (hok : HOk X.prog X.w H' h') (hg : AllBare g')
  (hch : ∀ b ∈ ch,(b ∈ X.ex \/ X.s₀.heap.objs.size <= b) /\ b ≠ X.env.locals /\ (∀ x c,X.env.cells.lookup x = some c -> c ≠ b) /\ ∀ p ∈ X.pn ++ pins,p.1 ≠ b) :
  Inv X pins σ H' { s with heap:=h',gens:=g',drawn:=d',toks:=t' }:=by
 obtain ⟨m,⟨o,es,ep,ho,r⟩,_⟩:=id I.loc
 obtain ⟨sl,hL⟩:=u.any ho I.free fun z=>(hch _ z).2.1 rfl
 exact I.step (ch:=ch) hch (fun b o hL hb hc e n=>u.keep b o e n (fun z=>(List.mem_cons.mp (I.stkSub b z)).elim hL hb) hc) (fun b o _ _ hc e n=>u.any e n hc) (fun b o hc e n=>u.free b o e n hc) (fun b o hc e=>u.there b o e hc) u.tups u.frzs u.tbls (fun m' hm=>by
  obtain ⟨o',es',ep',ho',r'⟩:=hm
  rw [ho] at ho'; cases ho'
  exact ⟨_,es',ep',hL,r'⟩) hok hg
theorem Inv.turned {t' : Nat} {it : Addr} (I : Inv X pins σ H s) (k : ∀ b o,b ≠ it -> s.heap.get? b = some o -> h'.get? b = some o) (hn : H it = none) (hL : it ≠ X.env.locals)
  (h1 : it ∈ X.ex \/ X.s₀.heap.objs.size <= it) (h2 : ∀ x c,X.env.cells.lookup x = some c -> c ≠ it) (h3 : ∀ p ∈ X.pn ++ pins,p.1 ≠ it) : Inv X pins σ H { s with heap:=h',toks:=t' }:=by
 have nit : ∀ b u,H b = some u -> b ≠ it:=fun b u e z=>by rw [z,hn] at e; cases e
 refine I.step (g':=s.gens) (d':=s.drawn) (ch:=[it]) (fun b hb=>?_) (fun b o _ _ hc e _=>k b o (fun z=>hc (by simp [z])) e) (fun b o _ _ hc e _=>⟨o.slots,k b o (fun z=>hc (by simp [z])) e⟩) (fun _ _ _ _ n=>n)
  (fun b o hc e=>⟨o,k b o (fun z=>hc (by simp [z])) e⟩) (fun _ _ e=>e) (fun _ _ _ e=>e) (fun b ps e=>⟨#[],by rw [e]; simp⟩) (fun m hm=>?_) (fun b u e=>?_) I.bare
 ·have e : b = it:=by simpa using hb
  subst e
  exact ⟨h1,hL,h2,h3⟩
 ·obtain ⟨o,es,ep,ho,r⟩:=hm
  exact ⟨o,es,ep,k _ o (Ne.symm hL) ho,r⟩
 ·refine (I.hok b u e).stay (fun c v hc q=>k c v ?_ q) (fun _ q=>q) fun _ _ q=>q
  rcases hc with z | z
  ·rw [z]; exact nit b u e
  ·exact nit c _ z
theorem Inv.tok (I : Inv X pins σ H s) (t : Nat) : Inv X pins σ H { s with toks:=t }:=I.un (h':=s.heap) (t':=t) Un.refl I.hok
theorem Inv.kept {t' : Nat} (I : Inv X pins σ H s) (k : ∀ b u,s.heap.get? b = some u -> h'.get? b = some u) : Inv X pins σ H { s with heap:=h',toks:=t' }:=I.un (Un.kept k) (I.hok.kept k)
theorem Inv.laid {a : Addr} {o : HO} {t' : Nat} (I : Inv X pins σ H s) (k : ∀ b u,s.heap.get? b = some u -> h'.get? b = some u) (hp : s.heap.objs.size <= a) (new : ObjOk X.prog X.w (upd H a o) h' a o) :
  Inv X pins σ (upd H a o) { s with heap:=h',toks:=t' }:=I.un (Un.laid k hp (I.hok.fresh hp)) (I.hok.laid k hp new)
theorem Inv.write {x e : Addr} {o : HO} {t' : Nat} (I : Inv X pins σ H s) (mu : Mut (H x)) (he : e = x \/ H e = some (.own x)) (k : ∀ b u,b ≠ e -> s.heap.get? b = some u -> h'.get? b = some u) (heo : ∃ u,h'.get? e = some u)
  (new : ObjOk X.prog X.w (upd H x o) h' x o) : Inv X pins σ (upd H x o) { s with heap:=h',toks:=t' }:=I.un (Un.write mu he k heo) (I.hok.write mu he k heo new)
theorem Inv.pins_of {pins' : List (Addr × Obj)} (I : Inv X pins σ H s) (h : ∀ p ∈ pins',s.heap.get? p.1 = some p.2 /\ H p.1 = none /\ p.1 ≠ X.env.locals /\ p.1 ∉ X.fs /\ ∀ v,p.2.data ≠ .cell v) : Inv X pins' σ H s :=
 ⟨I.ok,I.os,I.bare,I.base,I.loc,I.cell,I.free,I.freeC,fun p hp=>(List.mem_append.mp hp).elim (fun z=>I.pin p (List.mem_append_left _ z)) (h p),I.hok,I.len⟩
theorem nodup_ix {N : List Str} (hN : N.Nodup) {i j : Nat} {x : Str} (a : N[i]? = some x) (b : N[j]? = some x) : i = j:=by
 obtain ⟨h1,e1⟩:=List.getElem?_eq_some_iff.mp a
 obtain ⟨h2,e2⟩:=List.getElem?_eq_some_iff.mp b
 exact (List.getElem_inj hN).mp (e1.trans e2.symm)
theorem store_ok2 {M : Model} {A : Around} {E : Value -> Shared -> Prop} {i : Nat} {x : Str} {v : V} {u : Value} {Q : Unit -> Shared -> Prop} (I : Inv X pins σ H s) (hN : X.N.Nodup) (hi : X.N[i]? = some x) (hx : Loc X.env.scope x) (r : RelV v u)
  (h : ∀ s',Inv X pins (σ.set i (some v)) H s' -> (∃ a,Heap.SameBut a s.heap s'.heap /\ (a = X.env.locals \/ X.env.cells.lookup x = some a)) -> Q () s') (hf : X.fn x = true \/ X.env.scope.names.lookup x = some .local:=by first | exact .inl rfl | exact .inr rfl | assumption) : wpAny M A (storeName X.env x u) Q E s:=by
 obtain ⟨m,hn,hl⟩:=id I.loc
 have hcls : (X.env.scope.kind == .class || (X.env.scope.kind == .module && X.env.locals != X.env.globals)) = false:=by rw [I.ok.kind]; rfl
 have hiσ : i < σ.length:=by rw [I.len]; exact (List.getElem?_eq_some_iff.mp hi).1
 have cne:=I.cne
 have tracked : ∀ {a : Addr} {h' : Heap},(∃ o,s.heap.get? a = some o /\ H a = none) -> Heap.SameBut a s.heap h' -> HOk X.prog X.w H h':=fun {a h'} ha hs b ob e=>by
  obtain ⟨_,_,hfree⟩:=ha
  refine (I.hok b ob e).stay (fun c w' hc q=>(hs.2 c ?_).trans q) (fun _ q=>q) fun _ _ q=>q
  rintro rfl
  rcases hc with rfl | hc
  ·rw [hfree] at e; cases e
  ·rw [hfree] at hc; cases hc
 rcases hx with hk | hk
 ·refine wpAny_storeName_local hk hn (fun h' hn' hs=>?_) hcls
  obtain ⟨oL,_,_,hoL,_⟩:=id hn
  refine h _ ⟨I.ok,I.os,I.bare,⟨fun b o e n hb hx=>?_,fun b o e n hb hx=>?_,I.base.free,fun b o e hx=>?_,I.base.tups,I.base.frzs,I.base.tbls⟩,⟨_,hn',fun j y v' e1 e2 e3=>?_⟩,fun y c e=>?_,I.free,I.freeC,fun p hp=>?_,tracked ⟨oL,hoL,I.free⟩ hs,by simpa using I.len⟩ ⟨_,hs,.inl rfl⟩
  ·exact (hs.2 b (Nat.ne_of_lt (Nat.lt_of_lt_of_le (Heap.lt_size e) I.ok.above))).trans (I.base.keep b o e n hb hx)
  ·obtain ⟨sl,e1⟩:=I.base.slot b o e n hb hx
   exact ⟨sl,(hs.2 b (Nat.ne_of_lt (Nat.lt_of_lt_of_le (Heap.lt_size e) I.ok.above))).trans e1⟩
  ·obtain ⟨o',e1⟩:=I.base.there b o e hx
   exact ⟨o',(hs.2 b (Nat.ne_of_lt (Nat.lt_of_lt_of_le (Heap.lt_size e) I.ok.above))).trans e1⟩
  ·by_cases hj : j = i
   ·subst hj
    rw [hi] at e1; cases e1
    rw [List.getElem?_set_self hiσ] at e2
    cases e2
    exact ⟨u,r,.inl ⟨hk,by simp⟩⟩
   ·rw [List.getElem?_set_ne (Ne.symm hj)] at e2
    obtain ⟨u',r',q⟩:=hl j y v' e1 e2 e3
    refine ⟨u',r',?_⟩
    rcases q with ⟨k,e⟩ | ⟨k,c,e,z⟩
    ·refine .inl ⟨k,?_⟩
     have : y ≠ x:=fun e=>hj (nodup_ix hN e1 (e ▸ hi))
     simp [this,e]
    ·exact .inr ⟨k,c,e,z.sameBut hs (cne y c e)⟩
  ·obtain ⟨w',z⟩:=I.cell y c e
   exact ⟨w',z.sameBut hs (cne y c e)⟩
  ·obtain ⟨e,n,ne,nf,d⟩:=I.pin p hp
   exact ⟨(hs.2 p.1 ne).trans e,n,ne,nf,d⟩
 ·have hfn : X.fn x = true:=by
   rcases hf with z | z
   ·exact z
   ·rw [z] at hk; cases hk
  obtain ⟨c,hc⟩:=I.ok.has x (.inl hk)
  obtain ⟨w',z⟩:=I.cell x c hc
  refine wpAny_storeName_cell I.ok.kind hk hc z (fun h' hc' hs=>?_)
  obtain ⟨oc,hoc,hocd⟩:=id z
  refine h { s with heap:=h' } ⟨I.ok,I.os,I.bare,⟨fun b o e n hb hx=>?_,fun b o e n hb hx=>?_,I.base.free,fun b o e hx=>?_,I.base.tups,I.base.frzs,I.base.tbls⟩,⟨m,hn.sameBut hs (Ne.symm (cne x c hc)),fun j y v' e1 e2 e3=>?_⟩,fun y c' e=>?_,I.free,I.freeC,fun p hp=>?_,tracked ⟨oc,hoc,I.freeC x c hc⟩ hs,by simpa using I.len⟩ ⟨c,hs,.inr hc⟩
  ·exact (hs.2 b (Nat.ne_of_lt (Nat.lt_of_lt_of_le (Heap.lt_size e) (I.ok.cab x c hfn hc)))).trans (I.base.keep b o e n hb hx)
  ·obtain ⟨sl,e1⟩:=I.base.slot b o e n hb hx
   exact ⟨sl,(hs.2 b (Nat.ne_of_lt (Nat.lt_of_lt_of_le (Heap.lt_size e) (I.ok.cab x c hfn hc)))).trans e1⟩
  ·obtain ⟨o',e1⟩:=I.base.there b o e hx
   exact ⟨o',(hs.2 b (Nat.ne_of_lt (Nat.lt_of_lt_of_le (Heap.lt_size e) (I.ok.cab x c hfn hc)))).trans e1⟩
  ·by_cases hj : j = i
   ·subst hj
    rw [hi] at e1; cases e1
    rw [List.getElem?_set_self hiσ] at e2
    cases e2
    exact ⟨u,r,.inr ⟨.inl hk,c,hc,hc'⟩⟩
   ·rw [List.getElem?_set_ne (Ne.symm hj)] at e2
    obtain ⟨u',r',q⟩:=hl j y v' e1 e2 e3
    refine ⟨u',r',?_⟩
    rcases q with q | ⟨k,c',e,z'⟩
    ·exact .inl q
    ·refine .inr ⟨k,c',e,z'.sameBut hs ?_⟩
     rintro rfl
     exact hj (nodup_ix hN e1 (I.ok.inj _ _ _ e hc ▸ hi))
  ·by_cases hcc : c' = c
   ·subst hcc; exact ⟨_,hc'⟩
   ·obtain ⟨w2,z2⟩:=I.cell y c' e
    exact ⟨w2,z2.sameBut hs hcc⟩
  ·obtain ⟨e,n,ne,nf,d⟩:=I.pin p hp
   refine ⟨(hs.2 p.1 ?_).trans e,n,ne,nf,d⟩
   intro q
   rw [q,hoc] at e
   have q' : oc = p.2:=Option.some.inj e
   exact d w' (by rw [<- q']; exact hocd)
theorem store_ok {M : Model} {A : Around} {E : Value -> Shared -> Prop} {i : Nat} {x : Str} {v : V} {u : Value} {Q : Unit -> Shared -> Prop} (I : Inv X pins σ H s) (hN : X.N.Nodup) (hi : X.N[i]? = some x) (hx : Loc X.env.scope x) (r : RelV v u)
  (h : ∀ s',Inv X pins (σ.set i (some v)) H s' -> Q () s') (hf : X.fn x = true \/ X.env.scope.names.lookup x = some .local:=by first | exact .inl rfl | exact .inr rfl | assumption) : wpAny M A (storeName X.env x u) Q E s :=
 store_ok2 I hN hi hx r (fun s' I' _=>h s' I') hf
theorem Inv.call' {s' : Shared} {ch : List Addr} (I : Inv X pins σ H s) (ho : s'.os = s.os) (u : Un (frs X.stack) ch H H' s.heap s'.heap) (hok : HOk X.prog X.w H' s'.heap) (hg : AllBare s'.gens)
  (hch : ∀ b ∈ ch,(b ∈ X.ex \/ X.s₀.heap.objs.size <= b) /\ b ≠ X.env.locals /\ (∀ x c,X.env.cells.lookup x = some c -> c ≠ b) /\ ∀ p ∈ X.pn ++ pins,p.1 ≠ b) : Inv X pins σ H' s':=by
 obtain ⟨h',g',d',t',o'⟩:=s'
 have e : o' = s.os:=ho
 subst e
 exact I.call (g':=g') (t':=t') (d':=d') u hok hg hch
end
abbrev XK:=Value -> Option Addr -> Hp -> Prop
abbrev St:=List (Option V)
abbrev VK:=V -> Hp -> Prop
abbrev TE:=St -> Hp -> VK -> Prop
abbrev TT:=St -> Hp -> (Bool -> Hp -> Prop) -> Prop
abbrev TA:=St -> Hp -> (List V -> Hp -> Prop) -> Prop
structure Ends where
 nx : St -> Hp -> Prop
 rt : VK
 bk : St -> Hp -> Prop:=fun _ _=>False
 ct : St -> Hp -> Prop:=fun _ _=>False
abbrev TS:=Ends -> St -> Hp -> Prop
def EP (X : Cx) (pins : List (Addr × Obj)) (σ : St) (Q : VK) (u : Value) (s' : Shared) : Prop:=∃ v H',Inv X pins σ H' s' /\ RelV v u /\ Q v H'
def TP (X : Cx) (pins : List (Addr × Obj)) (σ : St) (Q : Bool -> Hp -> Prop) (b : Bool) (s' : Shared) : Prop:=∃ H',Inv X pins σ H' s' /\ Q b H'
def AP (X : Cx) (pins : List (Addr × Obj)) (σ : St) (Q : List V -> Hp -> Prop) (us : List Value) (s' : Shared) : Prop:=∃ vs H',Inv X pins σ H' s' /\ Vals vs us /\ Q vs H'
def SP (X : Cx) (pins : List (Addr × Obj)) (D : Ends) (f : Flow) (s' : Shared) : Prop :=
 match f with
 | .next=>∃ σ' H',Inv X pins σ' H' s' /\ D.nx σ' H'
 | .brk=>∃ σ' H',Inv X pins σ' H' s' /\ D.bk σ' H'
 | .cont=>∃ σ' H',Inv X pins σ' H' s' /\ D.ct σ' H'
 | .ret u=>∃ v σ' H',Inv X pins σ' H' s' /\ RelV v u /\ D.rt v H'
def PE (X : Cx) (e : Expr) (t : TE) : Prop :=
 ∀ (pins : List (Addr × Obj)) (s : Shared) (σ : St) (H : Hp) (Q : VK),Inv X pins σ H s -> t σ H Q -> wpAny (model X.prog X.w) X.A (eval e X.env) (EP X pins σ Q) X.xe s
def PT (X : Cx) (e : Expr) (t : TT) : Prop :=
 ∀ (pins : List (Addr × Obj)) (s : Shared) (σ : St) (H : Hp) (Q : Bool -> Hp -> Prop),Inv X pins σ H s -> t σ H Q -> wpAny (model X.prog X.w) X.A (isTrue e X.env (eval e X.env)) (TP X pins σ Q) X.xe s
def PW (X : Cx) (e : Expr) (t : TT) : Prop :=
 ∀ (whole : Sem Value) (pins : List (Addr × Obj)) (s : Shared) (σ : St) (H : Hp) (Q : Bool -> Hp -> Prop),Inv X pins σ H s -> t σ H Q -> wpAny (model X.prog X.w) X.A (isTrue e X.env whole) (TP X pins σ Q) X.xe s
theorem PW.pt {X : Cx} {e : Expr} {t : TT} (h : PW X e t) : PT X e t:=h _
def PA (X : Cx) (es : List Expr) (t : TA) : Prop :=
 ∀ (pos : Pos) (pins : List (Addr × Obj)) (s : Shared) (σ : St) (H : Hp) (Q : List V -> Hp -> Prop),Inv X pins σ H s -> t σ H Q -> wpAny (model X.prog X.w) X.A (spliced (backTo pos (starEach es X.env))) (AP X pins σ Q) X.xe s
def PS (X : Cx) (st : Stmt) (t : TS) : Prop :=
 ∀ (pins : List (Addr × Obj)) (s : Shared) (σ : St) (H : Hp) (D : Ends),Inv X pins σ H s -> t D σ H -> wpAny (model X.prog X.w) X.A (exec st X.env) (SP X pins D) X.xe s
def PSs (X : Cx) (st : List Stmt) (t : TS) : Prop :=
 ∀ (pins : List (Addr × Obj)) (s : Shared) (σ : St) (H : Hp) (D : Ends),Inv X pins σ H s -> t D σ H -> wpAny (model X.prog X.w) X.A (execs st X.env) (SP X pins D) X.xe s
theorem thn {α : Type} {t : Sem α} {Q Q' : α -> Shared -> Prop} {M : Model} {A : Around} {E : Value -> Shared -> Prop} {s : Shared} (h : wpAny M A t Q E s) (hQ : ∀ a s,Q a s -> Q' a s) : wpAny M A t Q' E s:=wpAny_mono h hQ fun _ _ x=>x
end L2
namespace L2
open PySem PySem.Spec PyProof.Rows
section
variable {X : Cx}
def tVar (i : Nat) : TE:=fun σ H Q=>∃ v,σ[i]? = some (some v) /\ Q v H
def tC (v : V) : TE:=fun _ H Q=>Q v H
theorem pe_var {i : Nat} {x : Str} {pos : Pos} (hN : X.N[i]? = some x) (hv : Vis X.env.scope x) (hd : (x == ("__debug__" : Str)) = false:=by decide) (hcd : (x == ("__classdict__" : Str)) = false:=by decide) : PE X (.Name x pos) (tVar i):=by
 intro pins s σ H Q I h
 obtain ⟨v,e,h⟩:=h
 obtain ⟨m,hn,hl⟩:=I.loc
 obtain ⟨u,r,l⟩:=hl i x v hN e hv
 have fin : EP X pins σ Q u s:=⟨v,H,I,r,h⟩
 rcases l with ⟨hk,hm⟩ | ⟨hk,c,hc,hcell⟩
 ·exact wpAny_Name (wpAny_loadName_local I.ok.kind hk hn hm fin) hd
 ·rcases hk with hk | hk
  ·exact wpAny_Name (wpAny_loadName_cell I.ok.kind hk hc hcell fin) hd
  ·exact wpAny_Name (wpAny_loadName_free I.ok.kind hk hc hcell fin hcd) hd
theorem pe_int {i j pos} : PE X (.Constant (.int i) j pos) (tC (.int i)):=fun _ _ _ H _ I h=>wpAny_Constant_int ⟨.int i,H,I.tok _,⟨_,rfl⟩,h⟩
theorem pe_bl {b j pos} : PE X (.Constant (.bool b) j pos) (tC (.bl b)):=fun _ _ _ H _ I h=>Constant_bool ⟨.bl b,H,I,rfl,h⟩
theorem pe_non {j pos} : PE X (.Constant .none j pos) (tC .non):=fun _ _ _ H _ I h=>Constant_none ⟨.non,H,I,rfl,h⟩
theorem pe_str {x j pos} : PE X (.Constant (.str x) j pos) (tC (.str x)):=fun _ _ _ H _ I h=>Calls.Constant_str ⟨.str x,H,I.tok _,⟨_,rfl⟩,h⟩
def Gl (X : Cx) (x : Str) : Prop:=X.env.kindOf x = some .globalImplicit
theorem ld_glob {E : Value -> Shared -> Prop} {pins : List (Addr × Obj)} {s : Shared} {σ : St} {H : Hp} {x : Str} {u : Value} {pos : Pos} {Q : Value -> Shared -> Prop} (I : Inv X pins σ H s) (hg : Gl X x) (hm : X.mg x = some u) (h : Q u s)
  (hd : (x == ("__debug__" : Str)) = false:=by decide) : wpAny (model X.prog X.w) X.A (eval (.Name x pos) X.env) Q E s :=
 Calls.Name_function_global I.ok.kind hg (Calls.loadGlobal_global (by rw [I.ok.glob]; exact I.mod.glob.keeps I.bk) hm h) hd
theorem ld_blt {E : Value -> Shared -> Prop} {pins : List (Addr × Obj)} {s : Shared} {σ : St} {H : Hp} {x : Str} {u : Value} {pos : Pos} {Q : Value -> Shared -> Prop} (I : Inv X pins σ H s) (hg : Gl X x) (hm : X.mg x = none) (hv : bootBuiltins x = some u) (h : Q u s)
  (hn : x ≠ "__name__":=by decide) (hd : (x == ("__debug__" : Str)) = false:=by decide) : wpAny (model X.prog X.w) X.A (eval (.Name x pos) X.env) Q E s:=by
 obtain ⟨mb,h1,h2⟩:=I.mod.blt
 exact Calls.Name_function_global I.ok.kind hg (Calls.loadGlobal_builtin (by rw [I.ok.glob]; exact I.mod.glob.keeps I.bk) hm (by rw [I.ok.blt]; exact h1.keeps I.bk) ((h2 x hn).trans hv) h) hd
theorem pe_glob {x : Str} {v : V} {u : Value} {pos : Pos} (hg : Gl X x) (hm : X.mg x = some u) (r : RelV v u) (hd : (x == ("__debug__" : Str)) = false:=by decide) : PE X (.Name x pos) (tC v) :=
 fun _ _ _ H _ I h=>ld_glob I hg hm ⟨v,H,I,r,h⟩ hd
theorem pe_bltn {x : Str} {v : V} {u : Value} {pos : Pos} (hg : Gl X x) (hm : X.mg x = none) (hv : bootBuiltins x = some u) (r : RelV v u) (hn : x ≠ "__name__":=by decide) (hd : (x == ("__debug__" : Str)) = false:=by decide) : PE X (.Name x pos) (tC v) :=
 fun _ _ _ H _ I h=>ld_blt I hg hm hv ⟨v,H,I,r,h⟩ hn hd
variable {a b : Expr} {ta tb : TE} {pos : Pos}
def PC (X : Cx) (op : CmpOp) (a b : Expr) (t : TE) : Prop :=
 ∀ (pins : List (Addr × Obj)) (s : Shared) (σ : St) (H : Hp) (Q : VK),Inv X pins σ H s -> t σ H Q ->
  wpAny (model X.prog X.w) X.A (eval a X.env) (fun v s₁=>wpAny (model X.prog X.w) X.A (eval b X.env) (fun u s₂=>wpAny (model X.prog X.w) X.A (compareOp op v u) (EP X pins σ Q) X.xe s₂) X.xe s₁) X.xe s
theorem nobehind (b : Expr) {op : CmpOp} (h : op ≠ .In) (h2 : op ≠ .NotIn) : behindInMarks op b = false:=by
 have e1 : (op == CmpOp.In) = false:=by cases op <;> first | rfl | exact absurd rfl h
 have e2 : (op == CmpOp.NotIn) = false:=by cases op <;> first | rfl | exact absurd rfl h2
 cases b <;> simp [behindInMarks,e1,e2]
def tIsN (ta : TE) : TE:=fun σ H Q=>ta σ H fun x H1=>Q (.bl (decide (x = .non))) H1
def tNotN (ta : TE) : TE:=fun σ H Q=>ta σ H fun x H1=>Q (.bl (!decide (x = .non))) H1
theorem RelV.none_iff {x : V} {v : Value} (r : RelV x v) : (v == Value.none) = decide (x = .non):=by
 cases x with
 | non=>cases r; rfl
 | bl _=>cases r; rfl
 | int _=>obtain ⟨t,rfl⟩:=r; rfl
 | str _=>obtain ⟨t,rfl⟩:=r; rfl
 | byt _=>obtain ⟨t,rfl⟩:=r; rfl
 | flt _=>obtain ⟨t,rfl⟩:=r; rfl
 | ref _=>cases r; rfl
 | ty _=>cases r; rfl
theorem pc_isN {j pos'} (ha : PE X a ta) : PC X .Is a (.Constant .none j pos') (tIsN ta):=by
 intro pins s σ H Q I h
 refine thn (ha pins s σ H _ I h) fun v s1 ⟨x,H1,I1,r1,q1⟩=>?_
 exact Constant_none (is_none_gen ⟨.bl _,H1,I1,by rw [r1.none_iff]; rfl,q1⟩)
theorem pc_notN {j pos'} (ha : PE X a ta) : PC X .IsNot a (.Constant .none j pos') (tNotN ta):=by
 intro pins s σ H Q I h
 refine thn (ha pins s σ H _ I h) fun v s1 ⟨x,H1,I1,r1,q1⟩=>?_
 exact Constant_none (isnot_none_gen ⟨.bl _,H1,I1,by rw [r1.none_iff]; rfl,q1⟩)
def tB (t : TE) : TT:=fun σ H Q=>t σ H fun x H1=>∃ c,x = .bl c /\ Q c H1
theorem pt_cmp {op : CmpOp} {t : TE} (h : PC X op a b t) (h1 : behindInMarks op b = false:=by first | exact nobehind _ (by decide) (by decide) | rfl) : PT X (.Compare a [op] [b] pos) (tB t):=by
 intro pins s σ H Q I hw
 refine wpAny_isTrue_Compare1 (thn (h pins s σ H _ I hw) fun v s1 h1=>thn h1 fun u s2 h2=>thn h2 fun c s3 ⟨x,H1,I1,r1,q1⟩=>?_) h1
 obtain ⟨d,rfl,q⟩:=q1
 cases r1
 exact wpAny_truthy_bool ⟨H1,I1,q⟩
theorem pt_val {e : Expr} {t : TE} (h : PE X e t) (he : ∀ whole,isTrue e X.env whole = (do let v <- whole; standAt e.pos; holding [v] (truthy v)):=by intro _; rfl) : PT X e (tB t):=by
 intro pins s σ H Q I hw
 refine isTrue_plain (thn (h pins s σ H _ I hw) fun v s1 ⟨x,H1,I1,r1,q1⟩=>?_) (he _)
 obtain ⟨d,rfl,q⟩:=q1
 cases r1
 exact wpAny_truthy_bool ⟨H1,I1,q⟩
variable {tA tB' : TT} {rest : List Expr}
def tAnd (t u : TT) : TT:=fun σ H Q=>t σ H fun c H1=>if c = true then u σ H1 Q else Q false H1
def tOr (t u : TT) : TT:=fun σ H Q=>t σ H fun c H1=>if c = true then Q true H1 else u σ H1 Q
def tNot (t : TT) : TT:=fun σ H Q=>t σ H fun c H1=>Q (!c) H1
theorem pw_and1 (ha : PT X a tA) : PW X (.BoolOp .And [a] pos) tA:=by
 intro wh pins s σ H Q I h
 refine isTrue_and (thn (ha pins s σ H Q I h) fun c s1 e=>?_)
 cases c with
 | true=>exact isTrue_and_nil e
 | false=>exact e
theorem pw_or1 (ha : PT X a tA) : PW X (.BoolOp .Or [a] pos) tA:=by
 intro wh pins s σ H Q I h
 refine isTrue_or (thn (ha pins s σ H Q I h) fun c s1 e=>?_)
 cases c with
 | false=>exact isTrue_or_nil e
 | true=>exact e
theorem pw_and (ha : PT X a tA) (hb : PW X (.BoolOp .And (b :: rest) pos) tB') : PW X (.BoolOp .And (a :: b :: rest) pos) (tAnd tA tB'):=by
 intro wh pins s σ H Q I h
 refine isTrue_and (thn (ha pins s σ H _ I h) fun c s1 ⟨H1,I1,q1⟩=>?_)
 cases c with
 | true=>exact hb wh pins s1 σ H1 Q I1 q1
 | false=>exact ⟨H1,I1,q1⟩
theorem pw_or (ha : PT X a tA) (hb : PW X (.BoolOp .Or (b :: rest) pos) tB') : PW X (.BoolOp .Or (a :: b :: rest) pos) (tOr tA tB'):=by
 intro wh pins s σ H Q I h
 refine isTrue_or (thn (ha pins s σ H _ I h) fun c s1 ⟨H1,I1,q1⟩=>?_)
 cases c with
 | true=>exact ⟨H1,I1,q1⟩
 | false=>exact hb wh pins s1 σ H1 Q I1 q1
theorem pt_not (ha : PT X a tA) : PT X (.UnaryOp .Not a pos) (tNot tA):=by
 intro pins s σ H Q I h
 exact isTrue_not (ha pins s σ H (fun c H1=>Q (!c) H1) I h)
def tAndV (ta tb : TE) : TE:=fun σ H Q=>ta σ H fun x H1=>∃ c,x = .bl c /\ if c = true then tb σ H1 Q else Q (.bl false) H1
def tNotV (ta : TE) : TE:=fun σ H Q=>ta σ H fun x H1=>∃ c,x = .bl c /\ Q (.bl (!c)) H1
theorem pe_one {op} {t : TE} (h : PE X a t) : PE X (.BoolOp op [a] pos) t:=fun pins s σ H Q I hw=>BoolOp_one (h pins s σ H Q I hw)
theorem pe_and (ha : PE X a ta) (hb : PE X (.BoolOp .And (b :: rest) pos) tb) : PE X (.BoolOp .And (a :: b :: rest) pos) (tAndV ta tb):=by
 intro pins s σ H Q I h
 refine BoolOp_and (thn (ha pins s σ H _ I h) fun v s1 ⟨x,H1,I1,r1,q1⟩=>?_)
 obtain ⟨c,rfl,q1⟩:=q1
 cases r1
 refine wpAny_truthy_bool ?_
 cases c with
 | true=>exact hb pins s1 σ H1 Q I1 q1
 | false=>exact ⟨.bl false,H1,I1,rfl,q1⟩
theorem pe_not (ha : PE X a ta) : PE X (.UnaryOp .Not a pos) (tNotV ta):=by
 intro pins s σ H Q I h
 refine UnaryOp_ (thn (ha pins s σ H _ I h) fun v s1 ⟨x,H1,I1,r1,q1⟩=>?_)
 obtain ⟨c,rfl,q1⟩:=q1
 cases r1
 exact not_of (wpAny_truthy_bool ⟨.bl (!c),H1,I1,rfl,q1⟩)
def tIf (t : TT) (ta tb : TE) : TE:=fun σ H Q=>t σ H fun c H1=>if c = true then ta σ H1 Q else tb σ H1 Q
theorem pe_ifExp {c : Expr} (hc : PT X c tA) (ha : PE X a ta) (hb : PE X b tb) : PE X (.IfExp c a b pos) (tIf tA ta tb):=by
 intro pins s σ H Q I h
 refine wpAny_IfExp (thn (hc pins s σ H _ I h) fun d s1 ⟨H1,I1,q1⟩=>?_)
 cases d with
 | true=>exact ha pins s1 σ H1 Q I1 q1
 | false=>exact hb pins s1 σ H1 Q I1 q1
end
end L2
namespace L2
open PySem PySem.Spec PyProof.Rows
def SqL (K : PySem.W.Frag) (H : Hp) (a : Addr) (xs : List V) : Prop :=
 Rd H a (.lst xs) \/
  ∃ (o : Obj) (its : Array Value) (n : Nat),K.lookup a = some o /\ o.cls = .type "list" /\ o.dict = none /\ o.data = .seq its n /\ its.size <= sizeLine /\ Vals xs its.toList
def SqT (K : PySem.W.Frag) (H : Hp) (a : Addr) (xs : List V) : Prop :=
 Rd H a (.tup xs) \/
  ∃ (o : Obj) (its : Array Value) (n : Nat),K.lookup a = some o /\ o.cls = .type "tuple" /\ o.data = .seq its n /\ its.size <= sizeLine /\ Vals xs its.toList
def absV : Value -> Option V
 | .none=>some .non
 | .bool b=>some (.bl b)
 | .int i _=>some (.int i)
 | .str x _=>some (.str x)
 | .bytes b _=>some (.byt b)
 | .float b _=>some (.flt b)
 | .ref a=>some (.ref a)
 | .type n=>some (.ty n)
 | _=>none
theorem RelV.abs {x : V} {u : Value} (r : RelV x u) : absV u = some x:=by
 cases x with
 | non=>cases r; rfl
 | bl _=>cases r; rfl
 | int _=>obtain ⟨t,rfl⟩:=r; rfl
 | str _=>obtain ⟨t,rfl⟩:=r; rfl
 | byt _=>obtain ⟨t,rfl⟩:=r; rfl
 | flt _=>obtain ⟨t,rfl⟩:=r; rfl
 | ref _=>cases r; rfl
 | ty _=>cases r; rfl
theorem RelV.inj {x y : V} {u : Value} (r : RelV x u) (q : RelV y u) : x = y:=Option.some.inj (r.abs.symm.trans q.abs)
theorem Vals.inj : ∀ {xs ys : List V} {us : List Value},Vals xs us -> Vals ys us -> xs = ys
 | _,_,_,.nil,.nil=>rfl
 | _,_,_,.cons r t,.cons r' t'=>by rw [r.inj r',Vals.inj t t']
section
variable {X : Cx} {pins : List (Addr × Obj)} {σ : St} {H : Hp} {s : Shared} {a : Addr} {xs ys : List V}
theorem SqL.of {K : PySem.W.Frag} (h : H a = some (.lst xs)) : SqL K H a xs:=.inl (.inl h)
theorem SqT.of {K : PySem.W.Frag} (h : H a = some (.tup xs)) : SqT K H a xs:=.inl (.inl h)
theorem Inv.list (I : Inv X pins σ H s) (h : SqL X.K H a xs) : ∃ its : List Value,Vals xs its /\ PlainL s.heap a its.toArray /\ xs.length <= sizeLine:=by
 rcases h with h | ⟨o,its,n,hk,hc,hd,hs,hz,r⟩
 ·obtain ⟨z,its,n,r,e⟩:=h.ok I.hok
  exact ⟨its,r,⟨_,n,e,rfl,rfl,rfl⟩,z⟩
 ·refine ⟨its.toList,r,⟨o,n,I.kIn a o hk,hc,hd,by simpa using hs⟩,?_⟩
  have e:=r.length
  simp only [Array.length_toList] at e
  omega
theorem Inv.tuple (I : Inv X pins σ H s) (h : SqT X.K H a xs) : ∃ its : List Value,Vals xs its /\ IsTup s.heap a its.toArray /\ xs.length <= sizeLine:=by
 rcases h with h | ⟨o,its,n,hk,hc,hs,hz,r⟩
 ·obtain ⟨z,its,r,p⟩:=h.ok I.hok
  exact ⟨its,r,p,z⟩
 ·refine ⟨its.toList,r,⟨o,I.kIn a o hk,hc,n,by simpa using hs⟩,?_⟩
  have e:=r.length
  simp only [Array.length_toList] at e
  omega
theorem Inv.list_inj (I : Inv X pins σ H s) (h : SqL X.K H a xs) (h' : SqL X.K H a ys) : xs = ys:=by
 obtain ⟨its,r,⟨o,n,e,_,_,d⟩,_⟩:=I.list h
 obtain ⟨its',r',⟨o',n',e',_,_,d'⟩,_⟩:=I.list h'
 rw [e] at e'; cases e'
 rw [d] at d'
 injection d' with d1 _
 have : its = its':=by simpa using congrArg Array.toList d1
 subst this
 exact r.inj r'
end
abbrev Cx.wish (X : Cx) (E : Value -> Shared -> Prop) : Cx:={ X with xe:=E }
abbrev Cx.nox (X : Cx) : Cx:=X.wish fun _ _=>False
theorem Cx.Ok.wish {X : Cx} (ok : X.Ok) (E : Value -> Shared -> Prop) : (X.wish E).Ok :=
 ⟨ok.mod,ok.kind,ok.glob,ok.blt,ok.above,ok.inj,ok.has,ok.cab,ok.hd,ok.frames,ok.stk,ok.exf,ok.bs,ok.bsz,ok.noex,ok.exfs,ok.funs,ok.frf⟩
theorem Cx.Ok.unwish {X : Cx} {E : Value -> Shared -> Prop} (ok : (X.wish E).Ok) : X.Ok :=
 ⟨ok.mod,ok.kind,ok.glob,ok.blt,ok.above,ok.inj,ok.has,ok.cab,ok.hd,ok.frames,ok.stk,ok.exf,ok.bs,ok.bsz,ok.noex,ok.exfs,ok.funs,ok.frf⟩
section
variable {X : Cx} {pins : List (Addr × Obj)} {σ : St} {H : Hp} {s : Shared} {E : Value -> Shared -> Prop}
theorem Inv.wish (I : Inv X pins σ H s) (E : Value -> Shared -> Prop) : Inv (X.wish E) pins σ H s:=⟨I.ok.wish E,I.os,I.bare,I.base,I.loc,I.cell,I.free,I.freeC,I.pin,I.hok,I.len⟩
theorem Inv.unwish (I : Inv (X.wish E) pins σ H s) : Inv X pins σ H s:=⟨I.ok.unwish,I.os,I.bare,I.base,I.loc,I.cell,I.free,I.freeC,I.pin,I.hok,I.len⟩
theorem SP.unwish {D : Ends} {f : Flow} {s' : Shared} (h : SP (X.wish E) pins D f s') : SP X pins D f s':=by
 cases f with
 | next=>obtain ⟨σ',H',I,q⟩:=h; exact ⟨σ',H',I.unwish,q⟩
 | brk=>obtain ⟨σ',H',I,q⟩:=h; exact ⟨σ',H',I.unwish,q⟩
 | cont=>obtain ⟨σ',H',I,q⟩:=h; exact ⟨σ',H',I.unwish,q⟩
 | ret u=>obtain ⟨v,σ',H',I,r,q⟩:=h; exact ⟨v,σ',H',I.unwish,r,q⟩
theorem PSs.nox {st : List Stmt} {t : TS} (h : PSs X.nox st t) : PSs X st t:=fun pins s σ H D I hw =>
 wpAny_mono (h pins s σ H D (I.wish _) hw) (fun _ _ q=>q.unwish) fun _ _ z=>False.elim z
end
section
variable {X : Cx} {st : Stmt} {rest : List Stmt} {t u : TS} {e : Expr} {te : TE} {pos : Pos}
def tNext : TS:=fun D σ H=>D.nx σ H
def tSeq (t u : TS) : TS:=fun D σ H=>t { D with nx:=u D } σ H
theorem pss_nil : PSs X [] tNext:=fun _ _ σ H _ I h=>wpAny_execs_nil ⟨σ,H,I,h⟩
theorem pss_cons (h1 : PS X st t) (h2 : PSs X rest u) : PSs X (st :: rest) (tSeq t u):=by
 intro pins s σ H D I h
 refine wpAny_execs_cons (thn (h1 pins s σ H { D with nx:=u D } I h) fun f s1 q=>?_)
 cases f with
 | next =>
  obtain ⟨σ',H',I',q⟩:=q
  exact h2 pins s1 σ' H' D I' q
 | ret v=>exact q
 | brk=>exact q
 | cont=>exact q
theorem pss_one (h1 : PS X st t) : PSs X [st] t:=by
 intro pins s σ H D I h
 refine wpAny_execs_cons (thn (h1 pins s σ H D I h) fun f s1 q=>?_)
 cases f with
 | next=>exact wpAny_execs_nil q
 | ret v=>exact q
 | brk=>exact q
 | cont=>exact q
theorem Inv.quiet {pins : List (Addr × Obj)} {σ : St} {H : Hp} {s : Shared} (I : Inv X pins σ H s) : interactive X.env = false:=by simp [interactive,I.ok.kind]
def tDrop (te : TE) : TS:=fun D σ H=>te σ H fun _ H1=>D.nx σ H1
theorem ps_expr (he : PE X e te) (hs : swapsWith e none pos.line X.env = pure false:=by rfl) : PS X (.Expr e pos) (tDrop te):=by
 intro pins s σ H D I h
 exact wpAny_Expr_any (thn (he pins s σ H _ I h) fun v s1 ⟨x,H1,I1,r1,q1⟩=>⟨σ,H1,I1,q1⟩) I.quiet hs
def tRet (te : TE) : TS:=fun D σ H=>te σ H D.rt
theorem ps_ret (he : PE X e te) : PS X (.Return (some e) pos) (tRet te):=by
 intro pins s σ H D I h
 exact wpAny_Return_some (thn (he pins s σ H _ I h) fun v s1 ⟨x,H1,I1,r1,q1⟩=>⟨x,σ,H1,I1,r1,q1⟩)
def tIfS (c : TT) (t u : TS) : TS:=fun D σ H=>c σ H fun b H1=>if b = true then t D σ H1 else u D σ H1
theorem ps_if {c : Expr} {a b : List Stmt} {tc : TT} (hc : PT X c tc) (ha : PSs X a t) (hb : PSs X b u) : PS X (.If c a b pos) (tIfS tc t u):=by
 intro pins s σ H D I h
 refine wpAny_If (thn (hc pins s σ H _ I h) fun d s1 ⟨H1,I1,q1⟩=>?_)
 cases d with
 | true=>exact ha pins s1 σ H1 D I1 q1
 | false=>exact hb pins s1 σ H1 D I1 q1
end
abbrev TG:=V -> St -> Hp -> (St -> Hp -> Prop) -> Prop
def PG (X : Cx) (target : Expr) (t : TG) : Prop :=
 ∀ (pins : List (Addr × Obj)) (s : Shared) (σ : St) (H : Hp) (v : V) (u : Value) (Q : St -> Hp -> Prop),Inv X pins σ H s -> RelV v u -> t v σ H Q ->
  wpAny (model X.prog X.w) X.A (assign target X.env u) (fun _ s'=>∃ σ' H',Inv X pins σ' H' s' /\ Q σ' H') X.xe s
abbrev TSet:=V -> V -> V -> Hp -> (Hp -> Prop) -> Prop
def PSet (X : Cx) (t : TSet) : Prop :=
 ∀ (pins : List (Addr × Obj)) (s : Shared) (σ : St) (H : Hp) (o i v : V) (ov iv u : Value) (Q : Hp -> Prop),Inv X pins σ H s -> RelV o ov -> RelV i iv -> RelV v u -> t o i v H Q ->
  wpAny (model X.prog X.w) X.A (setItem ov iv u) (fun _ s'=>∃ H',Inv X pins σ H' s' /\ Q H') X.xe s
abbrev TIp:=V -> V -> Hp -> VK -> Prop
def PIp (X : Cx) (op : Operator) (t : TIp) : Prop :=
 ∀ (pins : List (Addr × Obj)) (s : Shared) (σ : St) (H : Hp) (x y : V) (v u : Value) (Q : VK),Inv X pins σ H s -> RelV x v -> RelV y u -> t x y H Q ->
  wpAny (model X.prog X.w) X.A (inplaceOp op v u) (EP X pins σ Q) X.xe s
section
variable {X : Cx} {pos : Pos}
def gName (i : Nat) : TG:=fun v σ H Q=>Q (σ.set i (some v)) H
theorem pg_name {i : Nat} {x : Str} (hN : X.N.Nodup) (hi : X.N[i]? = some x) (hx : Loc X.env.scope x) (hf : X.fn x = true \/ X.env.scope.names.lookup x = some .local:=by first | exact .inl rfl | exact .inr rfl | assumption) : PG X (.Name x pos) (gName i):=by
 intro pins s σ H v u Q I r h
 exact wpAny_assign_Name (store_ok I hN hi hx r (fun s' I'=>⟨_,H,I',h⟩) hf)
def gSub (to ti : TE) (t : TSet) : TG:=fun v σ H Q=>to σ H fun o H1=>ti σ H1 fun i H2=>t o i v H2 fun H3=>Q σ H3
theorem pg_sub {o i : Expr} {to ti : TE} {t : TSet} (ho : PE X o to) (hi : PE X i ti) (hs : PSet X t)
  (ha : ∀ v,assign (.Subscript o i pos) X.env v = (do
   let ov <- holding [v] (eval o X.env)
   let iv <- holding [v,ov] (eval i X.env)
   standAt pos
   holding [v,ov,iv] (setItem ov iv v)
   release [v,ov,iv] []):=by intro _; rfl) : PG X (.Subscript o i pos) (gSub to ti t):=by
 intro pins s σ H v u Q I r h
 rw [ha]
 refine wpAny_bind (wpAny_holding (thn (ho pins s σ H _ I h) fun ov s1 ⟨x,H1,I1,r1,q1⟩=>?_))
 refine wpAny_bind (wpAny_holding (thn (hi pins s1 σ H1 _ I1 q1) fun iv s2 ⟨y,H2,I2,r2,q2⟩=>?_))
 refine wpAny_bind (wpAny_standAt (wpAny_bind (wpAny_holding (thn (hs pins s2 σ H2 x y v ov iv u _ I2 r1 r2 r q2) fun _ s3 ⟨H3,I3,q3⟩=>?_))))
 exact wpAny_release ⟨σ,H3,I3,q3⟩
def tAsg (te : TE) (g : TG) : TS:=fun D σ H=>te σ H fun x H1=>g x σ H1 D.nx
theorem ps_asg {tg e : Expr} {te : TE} {g : TG} (he : PE X e te) (hg : PG X tg g) (hs : swapsWithSole [tg] e pos.line X.env = pure false:=by rfl) (hw : swappedStores [tg] e X.env = pure none:=by rfl)
  (h1 : (assignEach [tg] X.env).map (·.2) = [assign tg X.env]:=by rfl) : PS X (.Assign [tg] e pos) (tAsg te g):=by
 intro pins s σ H D I h
 refine wpAny_Assign_stores (thn (he pins s σ H _ I h) fun v s1 ⟨x,H1,I1,r1,q1⟩=>?_) hs hw
 rw [h1]
 exact thn (hg pins s1 σ H1 x v _ I1 r1 q1) fun _ s2 q=>q
theorem ps_set {i : Nat} {x : Str} {e : Expr} {te : TE} {pos' : Pos} (hN : X.N.Nodup) (hi : X.N[i]? = some x) (hx : Loc X.env.scope x) (he : PE X e te) (hs : swapsWith e (some (.Name x pos')) pos.line X.env = pure false:=by rfl) (hf : X.fn x = true \/ X.env.scope.names.lookup x = some .local:=by first | exact .inl rfl | exact .inr rfl | assumption) :
  PS X (.Assign [.Name x pos'] e pos) (tAsg te (gName i)):=by
 intro pins s σ H D I h
 refine wpAny_Assign_Name (thn (he pins s σ H _ I h) fun v s1 ⟨y,H1,I1,r1,q1⟩=>?_) hs
 exact store_ok I1 hN hi hx r1 (fun s2 I2=>⟨_,H1,I2,q1⟩) hf
def tAug (i : Nat) (te : TE) (ti : TIp) : TS:=fun D σ H=>∃ x,σ[i]? = some (some x) /\ te σ H fun y H1=>ti x y H1 fun z H2=>D.nx (σ.set i (some z)) H2
theorem ps_aug {i : Nat} {x : Str} {e : Expr} {te : TE} {op : Operator} {ti : TIp} {pos' : Pos} (hN : X.N.Nodup) (hi : X.N[i]? = some x) (hx : Loc X.env.scope x) (he : PE X e te) (ho : PIp X op ti) (hf : X.fn x = true \/ X.env.scope.names.lookup x = some .local:=by first | exact .inl rfl | exact .inr rfl | assumption) :
  PS X (.AugAssign (.Name x pos') op e pos) (tAug i te ti):=by
 intro pins s σ H D I h
 obtain ⟨v,e1,h⟩:=h
 obtain ⟨m,hn,hl⟩:=I.loc
 have vis : Vis X.env.scope x:=by rcases hx with k | k; exact .inl k; exact .inr (.inl k)
 obtain ⟨u,r,l⟩:=hl i x v hi e1 vis
 refine wpAny_AugAssign_Name ?_
 have go : wpAny (model X.prog X.w) X.A (eval e X.env) (fun w s₂=>wpAny (model X.prog X.w) X.A (inplaceOp op u w) (fun r s₃=>wpAny (model X.prog X.w) X.A (storeName X.env x r) (fun _=>SP X pins D .next) X.xe s₃) X.xe s₂) X.xe s:=by
  refine thn (he pins s σ H _ I h) fun w s1 ⟨y,H1,I1,r1,q1⟩=>?_
  refine thn (ho pins s1 σ H1 v y u w _ I1 r r1 q1) fun z s2 ⟨zv,H2,I2,r2,q2⟩=>?_
  exact store_ok I2 hN hi hx r2 (fun s3 I3=>⟨_,H2,I3,q2⟩) hf
 rcases l with ⟨hk,hm⟩ | ⟨hk,c,hc,hcell⟩
 ·exact wpAny_loadName_local I.ok.kind hk hn hm go
 ·rcases hk with hk | hk
  ·exact wpAny_loadName_cell I.ok.kind hk hc hcell go
  ·rcases hx with k | k
   ·have : X.env.scope.names.lookup x = some .free:=hk
    rw [k] at this; cases this
   ·have : X.env.scope.names.lookup x = some .free:=hk
    rw [k] at this; cases this
def ipI (f : Int -> Int -> Int) : TIp:=fun x y H Q=>∃ i j,x = .int i /\ y = .int j /\ Q (.int (f i j)) H
theorem ip_add : PIp X .Add (ipI fun i j=>i + j):=by
 intro pins s σ H x y v u Q I r1 r2 h
 obtain ⟨i,j,e1,e2,q⟩:=h
 subst e1; subst e2
 obtain ⟨t,rfl⟩:=r1
 obtain ⟨t',rfl⟩:=r2
 exact iadd_int ⟨.int _,H,I.tok _,⟨_,rfl⟩,q⟩
end
section
variable {X : Cx} {pos : Pos}
def tWhile (c : TT) (tb : TS) : TS:=fun D σ H=>∃ W : Nat -> St -> Hp -> Prop,(∃ m,W m σ H) /\ ∀ m σ H,W m σ H ->
 c σ H fun b H1=>if b = true then ∃ N : St -> Hp -> Prop,(∀ σ' H',N σ' H' -> ∃ m',m' < m /\ W m' σ' H') /\ tb { D with nx:=N,ct:=N,bk:=D.nx } σ H1 else D.nx σ H1
theorem ps_while {c : Expr} {body : List Stmt} {tc : TT} {tb : TS} (hp : PassesOwn (model X.prog X.w) X.A X.env X.xe) (hc : PT X c tc) (hb : PSs X body tb) : PS X (.While c body [] pos) (tWhile tc tb):=by
 intro pins s σ H D I h
 obtain ⟨W,⟨m0,w0⟩,turn⟩:=h
 refine wpAny_While (codeAny_whileLoop (fun n s'=>∃ σ' H',Inv X pins σ' H' s' /\ W n σ' H') ?_ m0 ⟨σ,H,I,w0⟩)
 rintro n s1 ⟨σ1,H1,I1,w1⟩
 refine wpAny_passesOwn hp (thn (hc pins s1 σ1 H1 _ I1 (turn n σ1 H1 w1)) fun b s2 ⟨H2,I2,q2⟩=>?_)
 cases b with
 | true =>
  obtain ⟨N,hN,q2⟩:=q2
  rw [if_pos rfl]
  refine wpAny_passesOwn hp (thn (hb pins s2 σ1 H2 _ I2 q2) fun f s3 q3=>?_)
  cases f with
  | next =>
   obtain ⟨σ3,H3,I3,n3⟩:=q3
   obtain ⟨m',hm,w3⟩:=hN σ3 H3 n3
   exact ⟨m',hm,σ3,H3,I3,w3⟩
  | cont =>
   obtain ⟨σ3,H3,I3,n3⟩:=q3
   obtain ⟨m',hm,w3⟩:=hN σ3 H3 n3
   exact ⟨m',hm,σ3,H3,I3,w3⟩
  | brk=>exact q3
  | ret v=>exact q3
 | false =>
  rw [if_neg Bool.false_ne_true]
  exact wpAny_execs_nil ⟨σ1,H2,I2,q2⟩
end
structure It where
 go : Nat -> Hp -> Prop
 yld : Nat -> Hp -> V -> Hp -> Prop
 stop : Nat -> Hp -> Prop
def FpOk (X : Cx) (pins : List (Addr × Obj)) (H : Hp) (b : Addr) : Prop :=
 H b = none /\ b ≠ X.env.locals /\ b ∉ X.fs /\ (b ∈ X.ex \/ X.s₀.heap.objs.size <= b) /\ (∀ x c,X.env.cells.lookup x = some c -> c ≠ b) /\ ∀ p ∈ X.pn ++ pins,p.1 ≠ b
theorem Inv.fpOk {X : Cx} {pins : List (Addr × Obj)} {σ : St} {H H' : Hp} {s : Shared} {b : Addr} (I : Inv X pins σ H s) (hb : s.heap.objs.size <= b) (hn : H' b = none) : FpOk X pins H' b:=by
 refine ⟨hn,Nat.ne_of_gt (Nat.lt_of_lt_of_le I.lt hb),I.nofs hb,.inr (Nat.le_trans I.sz hb),fun x c e z=>?_,fun p hp z=>?_⟩
 ·obtain ⟨v,q⟩:=I.cell x c e
  exact absurd (Nat.lt_of_lt_of_le q.lt (by rw [z]; exact hb)) (Nat.lt_irrefl _)
 ·exact absurd (Nat.lt_of_lt_of_le (Heap.lt_size (I.pin p hp).1) (by rw [z]; exact hb)) (Nat.lt_irrefl _)
structure Turn (P : Program) (w : World) (K : PySem.W.Frag) (tg : Expr) (J : It) (fp : List Addr) (it : Addr) (tn : Nat -> Heap -> Prop) : Prop where
 mem : it ∈ fp
 obj : ∀ i h,tn i h -> ∀ b ∈ fp,∃ o,h.get? b = some o /\ ∀ v,o.data ≠ .cell v
 keep : ∀ i h h',tn i h -> (∀ b ∈ fp,∀ o,h.get? b = some o -> h'.get? b = some o) -> tn i h'
 item : ∀ (X : Cx),X.prog = P -> X.w = w -> X.K = K -> X.calm = true -> ∀ (i : Nat) (pins : List (Addr × Obj)) (s : Shared) (σ : St) (H : Hp) (E : Value -> Shared -> Prop),Inv X pins σ H s -> (∀ b ∈ fp,FpOk X pins H b) -> tn i s.heap -> J.go i H ->
  wpAny (model P w) X.A (pyNext (.ref it)) (fun r s1=>∃ u,r = some u /\
   wpAny (model P w) X.A (letOwnedTupleGo tg (.ref it) u) (fun _ s2=>∃ x H',Inv X pins σ H' s2 /\ RelV x u /\ J.yld i H x H' /\ tn (i + 1) s2.heap /\ ∀ b ∈ fp,H' b = none) E s1) E s
 done : ∀ (X : Cx),X.prog = P -> X.w = w -> X.K = K -> X.calm = true -> ∀ (i : Nat) (pins : List (Addr × Obj)) (s : Shared) (σ : St) (H : Hp) (E : Value -> Shared -> Prop),Inv X pins σ H s -> (∀ b ∈ fp,FpOk X pins H b) -> tn i s.heap -> J.stop i H ->
  wpAny (model P w) X.A (pyNext (.ref it)) (fun r s1=>r = none /\ Inv X pins σ H s1) E s
 self : ∀ (A : Around) (i : Nat) (s : Shared) (Q : Value -> Shared -> Prop) (E : Value -> Shared -> Prop),tn i s.heap -> Q (.ref it) s -> wpAny (model P w) A (pyIter (.ref it)) Q E s
abbrev TI:=St -> Hp -> (It -> Hp -> Prop) -> Prop
def PIE (X : Cx) (pins : List (Addr × Obj)) (σ : St) (tg : Expr) (R : It -> Hp -> Prop) (itv : Value) (s2 : Shared) : Prop :=
 ∃ (it : Addr) (fp : List Addr) (tn : Nat -> Heap -> Prop) (J : It) (H' : Hp),itv = .ref it /\ Inv X pins σ H' s2 /\ Turn X.prog X.w X.K tg J fp it tn /\ tn 0 s2.heap /\ (∀ b ∈ fp,FpOk X pins H' b) /\ R J H'
def PI (X : Cx) (tg iter : Expr) (wi : TI) : Prop :=
 ∀ (pins : List (Addr × Obj)) (s : Shared) (σ : St) (H : Hp) (R : It -> Hp -> Prop),Inv X pins σ H s -> wi σ H R ->
  wpAny (model X.prog X.w) X.A (eval iter X.env) (fun v s1=>wpAny (model X.prog X.w) X.A (pyIter v) (PIE X pins σ tg R) X.xe s1) X.xe s
theorem go_of {M : Model} {A : Around} {E : Value -> Shared -> Prop} {s : Shared} {tg : Expr} {it : Addr} {u : Value} {o : Obj} {n : String} {vs : Array Value} {Q : Unit -> Shared -> Prop} (ho : s.heap.get? it = some o) (hc : o.cls = .type n) (hd : o.data = .fields vs)
  (hn : ["enumerate","zip","dict_itemiterator","dict_reverseitemiterator","odict_iterator","itertools.zip_longest","itertools.pairwise"].contains n = false) (hQ : Q () s) : wpAny M A (letOwnedTupleGo tg (.ref it) u) Q E s:=by
 unfold letOwnedTupleGo
 cases tg <;> first
  | exact wpAny_pure hQ
  | (cases u <;> first
    | exact wpAny_pure hQ
    | (refine wpAny_bind (wpAny_load ho ?_)
       rw [hc,hd]
       show wpAny M A (if (["enumerate","zip","dict_itemiterator","dict_reverseitemiterator","odict_iterator","itertools.zip_longest","itertools.pairwise"].contains n && vs[0]? == some (rawInt _)) = true then _ else _) Q E s
       rw [if_neg (by intro h; rw [hn,Bool.false_and] at h; cases h)]
       exact wpAny_pure hQ))
def Itl (K : PySem.W.Frag) (a : Addr) : It :=
 ⟨fun i H=>∃ xs x,SqL K H a xs /\ xs[i]? = some x,fun i H x H'=>H' = H /\ ∀ xs,SqL K H a xs -> xs[i]? = some x,fun i H=>∃ xs,SqL K H a xs /\ xs.length <= i⟩
def Itr (lo : Int) (n : Nat) : It:=⟨fun i _=>i < n,fun i H x H'=>H' = H /\ x = .int (lo + i),fun i _=>n <= i⟩
theorem turn_list {P : Program} {w : World} {K : PySem.W.Frag} {tg : Expr} (a it : Addr) : Turn P w K tg (Itl K a) [it] it (fun i h=>h.IsListIter it a i) where
 mem:=by simp
 obj:=fun i h st b hb=>by
  have e : b = it:=by simpa using hb
  subst e
  obtain ⟨o,e,c,d⟩:=st
  exact ⟨o,e,fun v z=>by rw [d] at z; cases z⟩
 keep:=fun i h h' st k=>st.at fun o e=>k it (by simp) o e
 item:=by
  intro X hP hw hK hc i pins s σ H E I hf st hg
  subst hP hw hK
  obtain ⟨xs,x,hq,hx⟩:=hg
  obtain ⟨its,rv,p,hz⟩:=I.list hq
  obtain ⟨u,hu,ru⟩:=rv.get hx
  obtain ⟨f0,f1,f2,f3,f4,f5⟩:=hf it (by simp)
  refine wpAny_pyNext_list_item st p.isList (x:=u) (by simpa using hu) fun h' st' sb=>?_
  have I1 : Inv X pins σ H { s with heap:=h' }:=I.turned (t':=s.toks) (fun b o hb e=>(sb.2 b hb).trans e) f0 f1 f3 f4 f5
  obtain ⟨o,e,c,d⟩:=id st'
  exact ⟨u,rfl,go_of (s:={ s with heap:=h' }) e c d (by decide) ⟨x,H,I1,ru,⟨rfl,fun ys hy=>by rw [I.list_inj hy hq]; exact hx⟩,st',fun b hb=>(hf b hb).1⟩⟩
 done:=by
  intro X hP hw hK hc i pins s σ H E I hf st hg
  subst hP hw hK
  obtain ⟨xs,hq,hx⟩:=hg
  obtain ⟨its,rv,p,hz⟩:=I.list hq
  obtain ⟨f0,f1,f2,f3,f4,f5⟩:=hf it (by simp)
  have hl:=rv.length
  exact wpAny_pyNext_list_end (I.ok.hd hc) st p.isList (by simp; omega) fun h' eb=>⟨rfl,I.turned (t':=s.toks) (fun b o hb e=>eb b o hb e) f0 f1 f3 f4 f5⟩
 self:=fun _ _ _ _ _ st h=>wpAny_pyIter_listiter st h
theorem turn_range {P : Program} {w : World} {K : PySem.W.Frag} {tg : Expr} (it : Addr) (lo : Int) (n : Nat) : Turn P w K tg (Itr lo n) [it] it (fun i h=>IsRangeIter h it (lo + (i : Nat) * 1) ((n : Int) - (i : Nat)) 1) where
 mem:=by simp
 obj:=fun i h st b hb=>by
  have e : b = it:=by simpa using hb
  subst e
  exact ⟨_,st,fun v z=>by
   have z' : Data.fields _ = Data.cell v:=z
   cases z'⟩
 keep:=fun i h h' st k=>k it (by simp) _ st
 item:=by
  intro X hP hw hK hc i pins s σ H E I hf st hg
  subst hP hw hK
  obtain ⟨f0,f1,f2,f3,f4,f5⟩:=hf it (by simp)
  have W:=Walks.range (prog:=X.prog) (w:=X.w) (I.ok.hd hc) it lo 1 n
  refine W.item i s _ _ hg st fun v h' tk hv st' kk=>?_
  obtain ⟨t,rfl⟩:=hv
  have I1 : Inv X pins σ H { s with heap:=h',toks:=tk }:=I.turned (fun b o hb e=>kk b o (by simpa using hb) e) f0 f1 f3 f4 f5
  refine ⟨_,rfl,go_of (s:={ s with heap:=h',toks:=tk }) (n:="range_iterator") st' rfl rfl (by decide) ⟨.int (lo + i),H,I1,⟨t,?_⟩,⟨rfl,rfl⟩,st',fun b hb=>(hf b hb).1⟩⟩
  rw [Int.mul_one]
 done:=by
  intro X hP hw hK hc i pins s σ H E I hf st hg
  subst hP hw hK
  obtain ⟨f0,f1,f2,f3,f4,f5⟩:=hf it (by simp)
  exact wpAny_pyNext_range_end (I.ok.hd hc) st (by have : n <= i:=hg; omega) fun h' eb=>⟨rfl,I.turned (t':=s.toks) (fun b o hb e=>eb b o hb e) f0 f1 f3 f4 f5⟩
 self:=fun _ _ _ _ _ st h=>wpAny_pyIter_rangeiter st h
end L2
namespace L2
open PySem PySem.Spec PyProof.Rows
section
variable {X : Cx} {tg : Expr}
def iList (K : PySem.W.Frag) (tl : TE) : TI:=fun σ H R=>tl σ H fun x H1=>∃ a,x = .ref a /\ (∃ xs,SqL K H1 a xs) /\ R (Itl K a) H1
theorem pi_list {l : Expr} {tl : TE} (hl : PE X l tl) : PI X tg l (iList X.K tl):=by
 intro pins s σ H R I h
 refine thn (hl pins s σ H _ I h) fun v s1 ⟨x,H1,I1,r1,q1⟩=>?_
 obtain ⟨a,e,⟨xs,hq⟩,q⟩:=q1
 subst e
 cases r1
 obtain ⟨its,rv,p,hz⟩:=I1.list hq
 refine wpAny_pyIter_list p.isList ?_
 refine ⟨s1.heap.objs.size,[s1.heap.objs.size],_,_,H1,rfl,I1.kept (t':=s1.toks) fun b o e=>Heap.get?_push_of_some _ e,turn_list a _,⟨_,Heap.get?_push_size _ rfl,rfl,rfl⟩,fun b hb=>?_,q⟩
 have e : b = s1.heap.objs.size:=by simpa using hb
 subst e
 exact I1.fpOk (Nat.le_refl _) (I1.hok.fresh (Nat.le_refl _))
theorem range_it {pins : List (Addr × Obj)} {σ : St} {H : Hp} {s : Shared} {R : It -> Hp -> Prop} {E : Value -> Shared -> Prop} {lo hi : Int} {t u v : Tok} {tk : Nat} (I : Inv X pins σ H s) (h1 : -(2 ^ 62) <= lo) (h2 : lo < 2 ^ 62) (h3 : -(2 ^ 62) <= hi) (h4 : hi < 2 ^ 62)
  (q : R (Itr lo (hi - lo).toNat) H) : wpAny (model X.prog X.w) X.A (pyIter (.ref s.heap.objs.size)) (PIE X pins σ tg R) E { s with heap:=s.heap.push { cls:=.type "range",data:=.fields #[.int lo t,.int hi u,.int 1 v] },toks:=tk }:=by
 refine wpAny_pyIter_range (IsRange.new ..) (small_one h1 h2 h3 h4) ?_
 have I1 : Inv X pins σ H { s with heap:=s.heap.push { cls:=.type "range",data:=.fields #[.int lo t,.int hi u,.int 1 v] },toks:=tk }:=I.kept fun b o e=>Heap.get?_push_of_some _ e
 refine ⟨(s.heap.push { cls:=.type "range",data:=.fields #[.int lo t,.int hi u,.int 1 v] }).objs.size,[(s.heap.push { cls:=.type "range",data:=.fields #[.int lo t,.int hi u,.int 1 v] }).objs.size],_,_,H,rfl,
  I1.kept (t':=tk) fun b o e=>Heap.get?_push_of_some _ e,turn_range _ lo (hi - lo).toNat,?_,fun b hb=>?_,q⟩
 ·have e1 : lo + ((0 : Nat) : Int) * 1 = lo:=by simp
  have e2 : (((hi - lo).toNat : Nat) : Int) - ((0 : Nat) : Int) = Builtin.Range.rangeSize lo hi 1:=by rw [rangeSize_one]; split <;> omega
  show IsRangeIter _ _ (lo + ((0 : Nat) : Int) * 1) ((((hi - lo).toNat : Nat) : Int) - ((0 : Nat) : Int)) 1
  rw [e1,e2]
  exact Heap.get?_push_size _ rfl
 ·have e : b = (s.heap.push { cls:=.type "range",data:=.fields #[.int lo t,.int hi u,.int 1 v] }).objs.size:=by simpa using hb
  subst e
  exact I1.fpOk (Nat.le_refl _) (I1.hok.fresh (Nat.le_refl _))
def iRng1 (ta : TA) : TI:=fun σ H R=>ta σ H fun vs H1=>∃ j : Int,vs = [.int j] /\ -(2 ^ 62) <= j /\ j < 2 ^ 62 /\ R (Itr 0 j.toNat) H1
theorem pi_range1 {a : Expr} {ta : TA} {p pos : Pos} (hg : Gl X "range") (hm : X.mg "range" = none) (ha : PA X [a] ta) (hs : starEach [a] X.env = [(false,eval a X.env)]:=by rfl) : PI X tg (.Call (.Name "range" p) [a] [] pos) (iRng1 ta):=by
 intro pins s σ H R I h
 refine Call_ (ld_blt I hg hm boot_range (PyProof.Rows.callWith_type1 (thn (ha pos pins s σ H _ I h) fun us s1 ⟨vs,H1,I1,r1,q1⟩=>?_) hs rfl))
 obtain ⟨j,e,q1,q2,q⟩:=q1
 subst e
 cases r1 with
 | cons r rr =>
  cases rr
  obtain ⟨t,rfl⟩:=r
  exact call_range_1 (range_it I1 (by omega) (by omega) q1 q2 (by simpa using q))
def tFor (wi : TI) (g : TG) (tb : TS) : TS:=fun D σ H=>wi σ H fun J H1=>∃ W : Nat -> Nat -> St -> Hp -> Prop,(∃ m,W 0 m σ H1) /\ ∀ i m σ H,W i m σ H ->
 (J.stop i H /\ D.nx σ H) \/ (J.go i H /\ ∃ N : St -> Hp -> Prop,(∀ σ' H',N σ' H' -> ∃ m',m' < m /\ W (i + 1) m' σ' H') /\ ∀ x H',J.yld i H x H' -> g x σ H' fun σ2 H2=>tb { D with nx:=N,ct:=N,bk:=D.nx } σ2 H2)
def pinsAt (fp : List Addr) (h : Heap) : List (Addr × Obj):=fp.filterMap fun b=>(h.get? b).map fun o=>(b,o)
theorem mem_pinsAt {fp : List Addr} {h : Heap} {b : Addr} {o : Obj} (hb : b ∈ fp) (e : h.get? b = some o) : (b,o) ∈ pinsAt fp h:=List.mem_filterMap.mpr ⟨b,hb,by rw [e]; rfl⟩
theorem of_pinsAt {fp : List Addr} {h : Heap} {p : Addr × Obj} (hp : p ∈ pinsAt fp h) : p.1 ∈ fp /\ h.get? p.1 = some p.2:=by
 obtain ⟨b,hb,e⟩:=List.mem_filterMap.mp hp
 cases q : h.get? b with
 | none=>rw [q] at e; cases e
 | some o =>
  rw [q] at e
  have e' : (b,o) = p:=Option.some.inj e
  subst e'
  exact ⟨hb,q⟩
theorem Inv.pinned {pins : List (Addr × Obj)} {σ : St} {H : Hp} {s : Shared} {fp : List Addr} (I : Inv X pins σ H s) (hf : ∀ b ∈ fp,FpOk X pins H b) (ho : ∀ b ∈ fp,∃ o,s.heap.get? b = some o /\ ∀ v,o.data ≠ .cell v) : Inv X (pins ++ pinsAt fp s.heap) σ H s :=
 I.pins_of fun p hp=>(List.mem_append.mp hp).elim (fun z=>I.pin p (List.mem_append_right _ z)) fun z=>by
  obtain ⟨hb,e⟩:=of_pinsAt z
  obtain ⟨f0,f1,f2,_⟩:=hf p.1 hb
  obtain ⟨o,e',d⟩:=ho p.1 hb
  rw [e] at e'; cases e'
  exact ⟨e,f0,f1,f2,d⟩
theorem Inv.unpinned {pins pl : List (Addr × Obj)} {σ : St} {H : Hp} {s : Shared} (I : Inv X (pins ++ pl) σ H s) : Inv X pins σ H s:=I.pins_of fun p hp=>I.pin p (List.mem_append_right _ (List.mem_append_left _ hp))
theorem ps_for {iter : Expr} {body : List Stmt} {wi : TI} {g : TG} {tb : TS} {pos : Pos} (hp : PassesOwn (model X.prog X.w) X.A X.env X.xe) (hc : X.calm = true) (hi : PI X tg iter wi) (hg : PG X tg g) (hb : PSs X body tb)
  (hs : ∀ x,foldedSetIterable iter X.env x = pure x:=by intro _; rfl) : PS X (.For tg iter body [] pos) (tFor wi g tb):=by
 intro pins s σ H D I h
 refine wpAny_For (thn (hi pins s σ H _ I h) fun v s1 h1=>thn h1 fun itv s2 h2=>?_) hs
 obtain ⟨it,fp,tn,J,H2,e,I2,T,st2,f2,W,⟨m0,w0⟩,turn⟩:=h2
 subst e
 have stat : ∀ {H' : Hp},(∀ b ∈ fp,H' b = none) -> ∀ b ∈ fp,FpOk X pins H' b:=fun hn b hb=>⟨hn b hb,(f2 b hb).2⟩
 refine codeAny_forLoop_any (fun n s'=>∃ i σ' H',Inv X pins σ' H' s' /\ tn i s'.heap /\ (∀ b ∈ fp,H' b = none) /\ W i n σ' H') ?_ m0 ⟨0,σ,H2,I2,st2,fun b hb=>(f2 b hb).1,w0⟩
 rintro n s3 ⟨i,σ3,H3,I3,st3,fr3,w3⟩
 rcases turn i n σ3 H3 w3 with ⟨stop,qn⟩ | ⟨go,N,hN,step⟩
 ·refine wpAny_passesOwn hp (thn (T.done X rfl rfl rfl hc i pins s3 σ3 H3 X.xe I3 (stat fr3) st3 stop) fun r s4 ⟨hr,I4⟩=>?_)
  subst hr
  exact wpAny_execs_nil ⟨σ3,H3,I4,qn⟩
 ·refine wpAny_passesOwn hp (thn (T.item X rfl rfl rfl hc i pins s3 σ3 H3 X.xe I3 (stat fr3) st3 go) fun r s4 ⟨u,hr,h4⟩=>?_)
  subst hr
  refine wpAny_passesOwn hp (thn h4 fun _ s5 ⟨x,H5,I5,r5,y5,st5,fr5⟩=>?_)
  have I5':=I5.pinned (stat fr5) (T.obj _ _ st5)
  refine wpAny_passesOwn hp (thn (hg _ s5 σ3 H5 x u _ I5' r5 (step x H5 y5)) fun _ s6 ⟨σ6,H6,I6,q6⟩=>?_)
  refine wpAny_passesOwn hp (thn (hb _ s6 σ6 H6 _ I6 q6) fun f s7 q7=>?_)
  have again : ∀ {σ7 : St} {H7 : Hp},Inv X (pins ++ pinsAt fp s5.heap) σ7 H7 s7 -> N σ7 H7 -> ∃ m,m < n /\ ∃ i σ' H',Inv X pins σ' H' s7 /\ tn i s7.heap /\ (∀ b ∈ fp,H' b = none) /\ W i m σ' H':=fun {σ7 H7} I7 n7=>by
   obtain ⟨m',hm,w7⟩:=hN σ7 H7 n7
   refine ⟨m',hm,i + 1,σ7,H7,I7.unpinned,T.keep _ _ _ st5 fun b hb o e=>(I7.pin (b,o) (List.mem_append_right _ (List.mem_append_right _ (mem_pinsAt hb e)))).1,fun b hb=>?_,w7⟩
   obtain ⟨o,e,d⟩:=T.obj _ _ st5 b hb
   exact (I7.pin (b,o) (List.mem_append_right _ (List.mem_append_right _ (mem_pinsAt hb e)))).2.1
  cases f with
  | next=>obtain ⟨σ7,H7,I7,n7⟩:=q7; exact again I7 n7
  | cont=>obtain ⟨σ7,H7,I7,n7⟩:=q7; exact again I7 n7
  | brk=>obtain ⟨σ7,H7,I7,q7⟩:=q7; exact ⟨σ7,H7,I7.unpinned,q7⟩
  | ret v=>obtain ⟨x7,σ7,H7,I7,r7,q7⟩:=q7; exact ⟨x7,σ7,H7,I7.unpinned,r7,q7⟩
end
theorem for_list {K : PySem.W.Frag} {a : Addr} {xs : List V} {g : TG} {tb : TS} {D : Ends} {σ : St} {H : Hp} (Pv : Nat -> St -> Hp -> Prop) (h0 : Pv 0 σ H) (hl : ∀ i σ H,i <= xs.length -> Pv i σ H -> SqL K H a xs)
  (hs : ∀ i x σ H,xs[i]? = some x -> Pv i σ H -> g x σ H fun σ2 H2=>tb { D with nx:=Pv (i + 1),ct:=Pv (i + 1),bk:=D.nx } σ2 H2) (hd : ∀ σ H,Pv xs.length σ H -> D.nx σ H) :
  ∃ W : Nat -> Nat -> St -> Hp -> Prop,(∃ m,W 0 m σ H) /\ ∀ i m σ H,W i m σ H ->
   ((Itl K a).stop i H /\ D.nx σ H) \/ ((Itl K a).go i H /\ ∃ N : St -> Hp -> Prop,(∀ σ' H',N σ' H' -> ∃ m',m' < m /\ W (i + 1) m' σ' H') /\ ∀ x H',(Itl K a).yld i H x H' -> g x σ H' fun σ2 H2=>tb { D with nx:=N,ct:=N,bk:=D.nx } σ2 H2):=by
 refine ⟨fun i m σ H=>m = xs.length - i /\ i <= xs.length /\ Pv i σ H,⟨xs.length,by simp,Nat.zero_le _,h0⟩,?_⟩
 rintro i m σ H ⟨rfl,hi,p⟩
 have q:=hl i σ H hi p
 by_cases hlt : i < xs.length
 ·refine .inr ⟨⟨xs,xs[i],q,by simp [hlt]⟩,Pv (i + 1),fun σ' H' p'=>⟨xs.length - (i + 1),by omega,rfl,hlt,p'⟩,fun x H' y=>?_⟩
  obtain ⟨e,y⟩:=y
  subst e
  exact hs i x σ _ (y xs q) p
 ·have e : i = xs.length:=by omega
  subst e
  exact .inl ⟨⟨xs,q,Nat.le_refl _⟩,hd σ H p⟩
theorem for_range {lo : Int} {n : Nat} {g : TG} {tb : TS} {D : Ends} {σ : St} {H : Hp} (Pv : Nat -> St -> Hp -> Prop) (h0 : Pv 0 σ H)
  (hs : ∀ i σ H,i < n -> Pv i σ H -> g (.int (lo + i)) σ H fun σ2 H2=>tb { D with nx:=Pv (i + 1),ct:=Pv (i + 1),bk:=D.nx } σ2 H2) (hd : ∀ σ H,Pv n σ H -> D.nx σ H) :
  ∃ W : Nat -> Nat -> St -> Hp -> Prop,(∃ m,W 0 m σ H) /\ ∀ i m σ H,W i m σ H ->
   ((Itr lo n).stop i H /\ D.nx σ H) \/ ((Itr lo n).go i H /\ ∃ N : St -> Hp -> Prop,(∀ σ' H',N σ' H' -> ∃ m',m' < m /\ W (i + 1) m' σ' H') /\ ∀ x H',(Itr lo n).yld i H x H' -> g x σ H' fun σ2 H2=>tb { D with nx:=N,ct:=N,bk:=D.nx } σ2 H2):=by
 refine ⟨fun i m σ H=>m = n - i /\ i <= n /\ Pv i σ H,⟨n,by simp,Nat.zero_le _,h0⟩,?_⟩
 rintro i m σ H ⟨rfl,hi,p⟩
 by_cases hlt : i < n
 ·refine .inr ⟨hlt,Pv (i + 1),fun σ' H' p'=>⟨n - (i + 1),by omega,rfl,hlt,p'⟩,fun x H' y=>?_⟩
  obtain ⟨e,y⟩:=y
  subst e y
  exact hs i σ _ hlt p
 ·have e : i = n:=by omega
  subst e
  exact .inl ⟨Nat.le_refl _,hd σ H p⟩
end L2
namespace L2
open PySem PySem.Spec PyProof.Rows
abbrev R2:=V -> V -> Hp -> VK -> Prop
def OpR (X : Cx) (f : Value -> Value -> Sem Value) (r : R2) : Prop :=
 ∀ (pins : List (Addr × Obj)) (s : Shared) (σ : St) (H : Hp) (x y : V) (v u : Value) (Q : VK),Inv X pins σ H s -> RelV x v -> RelV y u -> r x y H Q ->
  wpAny (model X.prog X.w) X.A (f v u) (EP X pins σ Q) X.xe s
def CallR (X : Cx) (f : Value) (r : List V -> Hp -> VK -> Prop) : Prop :=
 ∀ (pins : List (Addr × Obj)) (s : Shared) (σ : St) (H : Hp) (xs : List V) (us : List Value) (Q : VK),Inv X pins σ H s -> Vals xs us -> r xs H Q ->
  wpAny (model X.prog X.w) X.A (call f us) (EP X pins σ Q) X.xe s
def TruR (X : Cx) (r : V -> Hp -> (Bool -> Hp -> Prop) -> Prop) : Prop :=
 ∀ (pins : List (Addr × Obj)) (s : Shared) (σ : St) (H : Hp) (x : V) (v : Value) (Q : Bool -> Hp -> Prop),Inv X pins σ H s -> RelV x v -> r x H Q ->
  wpAny (model X.prog X.w) X.A (truthy v) (TP X pins σ Q) X.xe s
def tOp (r : R2) (ta tb : TE) : TE:=fun σ H Q=>ta σ H fun x H1=>tb σ H1 fun y H2=>r x y H2 Q
def rI (C : Int -> Int -> Prop) (g : Int -> Int -> V) : R2:=fun x y H Q=>∃ i j,x = .int i /\ y = .int j /\ C i j /\ Q (g i j) H
def rI0 (g : Int -> Int -> V) : R2:=fun x y H Q=>∃ i j,x = .int i /\ y = .int j /\ Q (g i j) H
section
variable {X : Cx} {a b c : Expr} {ta tb tc : TE} {pos : Pos}
theorem binT (ha : PE X a ta) (hb : PE X b tb) {pins : List (Addr × Obj)} {s : Shared} {σ : St} {H : Hp} {R : V -> V -> Hp -> Prop} (I : Inv X pins σ H s)
  (h : ta σ H fun x H1=>tb σ H1 fun y H2=>R x y H2) {Q : Value -> Shared -> Prop} {f : Value -> Value -> Sem Value}
  (hf : ∀ v u s2 x y H2,Inv X pins σ H2 s2 -> RelV x v -> RelV y u -> R x y H2 -> wpAny (model X.prog X.w) X.A (f v u) Q X.xe s2) :
  wpAny (model X.prog X.w) X.A (eval a X.env) (fun v s₁=>wpAny (model X.prog X.w) X.A (eval b X.env) (fun u s₂=>wpAny (model X.prog X.w) X.A (f v u) Q X.xe s₂) X.xe s₁) X.xe s:=by
 refine thn (ha pins s σ H _ I h) fun v s1 ⟨x,H1,I1,r1,q1⟩=>?_
 refine thn (hb pins s1 σ H1 _ I1 q1) fun u s2 ⟨y,H2,I2,r2,q2⟩=>?_
 exact hf v u s2 x y H2 I2 r1 r2 q2
theorem pe_op {op : Operator} {r : R2} (ho : OpR X (binaryOp op) r) (ha : PE X a ta) (hb : PE X b tb) : PE X (.BinOp a op b pos) (tOp r ta tb):=by
 intro pins s σ H Q I h
 exact wpAny_BinOp (binT ha hb I h fun v u s2 x y H2 I2 rx ry q=>ho pins s2 σ H2 x y v u Q I2 rx ry q)
theorem opI {f : Value -> Value -> Sem Value} {C : Int -> Int -> Prop} {g : Int -> Int -> Int}
  (rule : ∀ (i j : Int) (t u : Tok) (s : Shared) (Q : Value -> Shared -> Prop) (E : Value -> Shared -> Prop),C i j -> Q (.int (g i j) s.toks) { s with toks:=s.toks + 1 } -> wpAny (model X.prog X.w) X.A (f (.int i t) (.int j u)) Q E s) :
  OpR X f (rI C fun i j=>.int (g i j)):=by
 intro pins s σ H x y v u Q I rx ry h
 obtain ⟨i,j,rfl,rfl,hc,q⟩:=h
 obtain ⟨t,rfl⟩:=rx
 obtain ⟨t',rfl⟩:=ry
 exact rule i j t t' s _ _ hc ⟨.int (g i j),H,I.tok _,⟨_,rfl⟩,q⟩
theorem opI0 {f : Value -> Value -> Sem Value} {g : Int -> Int -> Int}
  (rule : ∀ (i j : Int) (t u : Tok) (s : Shared) (Q : Value -> Shared -> Prop) (E : Value -> Shared -> Prop),Q (.int (g i j) s.toks) { s with toks:=s.toks + 1 } -> wpAny (model X.prog X.w) X.A (f (.int i t) (.int j u)) Q E s) :
  OpR X f (rI0 fun i j=>.int (g i j)):=by
 intro pins s σ H x y v u Q I rx ry h
 obtain ⟨i,j,rfl,rfl,q⟩:=h
 obtain ⟨t,rfl⟩:=rx
 obtain ⟨t',rfl⟩:=ry
 exact rule i j t t' s _ _ ⟨.int (g i j),H,I.tok _,⟨_,rfl⟩,q⟩
theorem opB0 {f : Value -> Value -> Sem Value} {g : Int -> Int -> Bool}
  (rule : ∀ (i j : Int) (t u : Tok) (s : Shared) (Q : Value -> Shared -> Prop) (E : Value -> Shared -> Prop),Q (.bool (g i j)) s -> wpAny (model X.prog X.w) X.A (f (.int i t) (.int j u)) Q E s) :
  OpR X f (rI0 fun i j=>.bl (g i j)):=by
 intro pins s σ H x y v u Q I rx ry h
 obtain ⟨i,j,rfl,rfl,q⟩:=h
 obtain ⟨t,rfl⟩:=rx
 obtain ⟨t',rfl⟩:=ry
 exact rule i j t t' s _ _ ⟨.bl (g i j),H,I,rfl,q⟩
def CPow (i j : Int) : Prop:=0 <= j /\ j <= 1000000 /\ i.natAbs < 2 ^ 64
def CMul (i j : Int) : Prop:=(-(2 ^ 64) < i /\ i < 2 ^ 64) \/ (-(2 ^ 64) < j /\ j < 2 ^ 64)
theorem CMul.ok {i j : Int} (h : CMul i j) : IntMulOk i j:=by
 rcases h with ⟨h1,h2⟩ | ⟨h1,h2⟩
 ·exact .of_left (intBits_le_64 h1 h2)
 ·exact .of_right (intBits_le_64 h1 h2)
theorem op_add : OpR X (binaryOp .Add) (rI0 fun i j=>.int (i + j)):=opI0 fun _ _ _ _ _ _ _ q=>add_int q
theorem op_sub : OpR X (binaryOp .Sub) (rI0 fun i j=>.int (i - j)):=opI0 fun _ _ _ _ _ _ _ q=>sub_int q
theorem op_mul : OpR X (binaryOp .Mult) (rI CMul fun i j=>.int (i * j)):=opI fun _ _ _ _ _ _ _ hc q=>mul_int q hc.ok
theorem op_mod : OpR X (binaryOp .Mod) (rI (fun _ j=>0 < j) fun i j=>.int (i % j)):=opI fun i j _ _ _ _ _ hc q=>by
 have h1 : (0 : Int) < j:=hc
 exact mod_int' (by omega) (by rw [Int.fmod_eq_emod_of_nonneg i (by omega)]; exact q)
theorem op_pow : OpR X (binaryOp .Pow) (rI CPow fun i j=>.int (i ^ j.toNat)):=opI fun _ _ _ _ _ _ _ hc q=>pow_int_small hc.1 hc.2.1 hc.2.2 q
end
def scal : V -> V -> Bool
 | .non,.non=>true | .non,.int _=>true | .int _,.non=>true | .non,.bl _=>true | .bl _,.non=>true | .non,.str _=>true | .str _,.non=>true
 | .int _,.int _=>true | .bl _,.bl _=>true | .str _,.str _=>true | .byt _,.byt _=>true
 | .int _,.str _=>true | .str _,.int _=>true | .bl _,.str _=>true | .str _,.bl _=>true
 | _,_=>false
def rEq : R2:=fun x y H Q=>scal x y = true /\ Q (.bl (decide (x = y))) H
def rNe : R2:=fun x y H Q=>scal x y = true /\ Q (.bl (!decide (x = y))) H
theorem dec_int {i j : Int} : decide (V.int i = V.int j) = (i == j):=by
 rw [Bool.eq_iff_iff]
 simp
theorem dec_bl {i j : Bool} : decide (V.bl i = V.bl j) = (i == j):=by
 rw [Bool.eq_iff_iff]
 simp
theorem dec_str {i j : Str} : decide (V.str i = V.str j) = (i == j):=by
 rw [Bool.eq_iff_iff]
 simp
theorem dec_byt {i j : Array UInt8} : decide (V.byt i = V.byt j) = (i.toList == j.toList):=by
 rw [Bool.eq_iff_iff]
 cases i
 cases j
 simp
section
variable {X : Cx} {a b c : Expr} {ta tb tc : TE} {pos : Pos}
theorem fin_bl {pins : List (Addr × Obj)} {σ : St} {H : Hp} {s : Shared} {Q : VK} {k k' : Bool} (I : Inv X pins σ H s) (q : Q (.bl k) H) (e : k = k') : EP X pins σ Q (.bool k') s:=by
 subst e
 exact ⟨.bl k,H,I,rfl,q⟩
theorem op_eq : OpR X (compareOp .Eq) rEq:=by
 intro pins s σ H x y v u Q I rx ry h
 obtain ⟨hs,q⟩:=h
 cases x with
 | non =>
  cases rx
  cases y with
  | non=>cases ry; exact PySem.EqNone.eq_none_none (fin_bl I q (by simp))
  | bl j=>cases ry; exact PySem.EqNone.eq_none_bool (fin_bl I q (by simp))
  | int j=>obtain ⟨t',rfl⟩:=ry; exact PySem.EqNone.eq_none_int (fin_bl I q (by simp))
  | str j=>obtain ⟨t',rfl⟩:=ry; exact PySem.EqNone.eq_none_str (fin_bl I q (by simp))
  | _=>exact absurd (show false = true from hs) Bool.false_ne_true
 | bl i =>
  cases rx
  cases y with
  | non=>cases ry; exact PySem.EqNone.eq_bool_none (fin_bl I q (by simp))
  | bl j=>cases ry; exact eq_bool (fin_bl I q dec_bl)
  | str j=>obtain ⟨t',rfl⟩:=ry; exact PySem.EqMixed.eq_bool_str (fin_bl I q (by simp))
  | _=>exact absurd (show false = true from hs) Bool.false_ne_true
 | int i =>
  obtain ⟨t,rfl⟩:=rx
  cases y with
  | non=>cases ry; exact PySem.EqNone.eq_int_none (fin_bl I q (by simp))
  | int j=>obtain ⟨t',rfl⟩:=ry; exact eq_int (fin_bl I q dec_int)
  | str j=>obtain ⟨t',rfl⟩:=ry; exact PySem.EqMixed.eq_int_str (fin_bl I q (by simp))
  | _=>exact absurd (show false = true from hs) Bool.false_ne_true
 | str i =>
  obtain ⟨t,rfl⟩:=rx
  cases y with
  | non=>cases ry; exact PySem.EqNone.eq_str_none (fin_bl I q (by simp))
  | bl j=>cases ry; exact PySem.EqMixed.eq_str_bool (fin_bl I q (by simp))
  | int j=>obtain ⟨t',rfl⟩:=ry; exact PySem.EqMixed.eq_str_int (fin_bl I q (by simp))
  | str j=>obtain ⟨t',rfl⟩:=ry; exact eq_str (fin_bl I q dec_str)
  | _=>exact absurd (show false = true from hs) Bool.false_ne_true
 | byt i =>
  obtain ⟨t,rfl⟩:=rx
  cases y with
  | byt j=>obtain ⟨t',rfl⟩:=ry; exact PySem.W.eq_bytes (fin_bl I q dec_byt)
  | _=>exact absurd (show false = true from hs) Bool.false_ne_true
 | _=>cases y <;> exact absurd (show false = true from hs) Bool.false_ne_true
theorem op_ne : OpR X (compareOp .NotEq) rNe:=by
 intro pins s σ H x y v u Q I rx ry h
 obtain ⟨hs,q⟩:=h
 cases x with
 | non =>
  cases rx
  cases y with
  | non=>cases ry; exact PySem.EqNone.ne_none_none (fin_bl I q (by simp))
  | bl j=>cases ry; exact PySem.EqNone.ne_none_bool (fin_bl I q (by simp))
  | int j=>obtain ⟨t',rfl⟩:=ry; exact PySem.EqNone.ne_none_int (fin_bl I q (by simp))
  | str j=>obtain ⟨t',rfl⟩:=ry; exact PySem.EqNone.ne_none_str (fin_bl I q (by simp))
  | _=>exact absurd (show false = true from hs) Bool.false_ne_true
 | bl i =>
  cases rx
  cases y with
  | non=>cases ry; exact PySem.EqNone.ne_bool_none (fin_bl I q (by simp))
  | bl j=>cases ry; exact ne_bool (fin_bl I q (congrArg not dec_bl))
  | str j=>obtain ⟨t',rfl⟩:=ry; exact PySem.EqMixed.ne_bool_str (fin_bl I q (by simp))
  | _=>exact absurd (show false = true from hs) Bool.false_ne_true
 | int i =>
  obtain ⟨t,rfl⟩:=rx
  cases y with
  | non=>cases ry; exact PySem.EqNone.ne_int_none (fin_bl I q (by simp))
  | int j=>obtain ⟨t',rfl⟩:=ry; exact ne_int (fin_bl I q (congrArg not dec_int))
  | str j=>obtain ⟨t',rfl⟩:=ry; exact PySem.EqMixed.ne_int_str (fin_bl I q (by simp))
  | _=>exact absurd (show false = true from hs) Bool.false_ne_true
 | str i =>
  obtain ⟨t,rfl⟩:=rx
  cases y with
  | non=>cases ry; exact PySem.EqNone.ne_str_none (fin_bl I q (by simp))
  | bl j=>cases ry; exact PySem.EqMixed.ne_str_bool (fin_bl I q (by simp))
  | int j=>obtain ⟨t',rfl⟩:=ry; exact PySem.EqMixed.ne_str_int (fin_bl I q (by simp))
  | str j=>obtain ⟨t',rfl⟩:=ry; exact ne_str (fin_bl I q (congrArg not dec_str))
  | _=>exact absurd (show false = true from hs) Bool.false_ne_true
 | byt i =>
  obtain ⟨t,rfl⟩:=rx
  cases y with
  | byt j=>obtain ⟨t',rfl⟩:=ry; exact PySem.W.ne_bytes (fin_bl I q (congrArg not dec_byt))
  | _=>exact absurd (show false = true from hs) Bool.false_ne_true
 | _=>cases y <;> exact absurd (show false = true from hs) Bool.false_ne_true
theorem op_lt : OpR X (compareOp .Lt) (rI0 fun i j=>.bl (decide (i < j))):=opB0 fun _ _ _ _ _ _ _ q=>lt_int q
theorem op_gt : OpR X (compareOp .Gt) (rI0 fun i j=>.bl (decide (j < i))):=opB0 fun _ _ _ _ _ _ _ q=>gt_int q
theorem op_ge : OpR X (compareOp .GtE) (rI0 fun i j=>.bl (decide (j <= i))):=opB0 fun _ _ _ _ _ _ _ q=>ge_int q
theorem nomark (b : Expr) {op : CmpOp} (h : op ≠ .In:=by decide) (h2 : op ≠ .NotIn:=by decide) : behindInMarks op b = false:=by
 have e1 : (op == CmpOp.In) = false:=by cases op <;> first | rfl | exact absurd rfl h
 have e2 : (op == CmpOp.NotIn) = false:=by cases op <;> first | rfl | exact absurd rfl h2
 cases b <;> simp [behindInMarks,e1,e2]
theorem pe_cmpR {op : CmpOp} {r : R2} (ho : OpR X (compareOp op) r) (ha : PE X a ta) (hb : PE X b tb) (hm : behindInMarks op b = false) : PE X (.Compare a [op] [b] pos) (tOp r ta tb):=by
 intro pins s σ H Q I h
 exact wpAny_Compare1 (binT ha hb I h fun v u s2 x y H2 I2 rx ry q=>ho pins s2 σ H2 x y v u Q I2 rx ry q) hm
def tTest (t : TE) : TT:=fun σ H Q=>t σ H fun x H'=>∃ k,x = .bl k /\ Q k H'
theorem pt_cmpR {op : CmpOp} {r : R2} (ho : OpR X (compareOp op) r) (ha : PE X a ta) (hb : PE X b tb) (hm : behindInMarks op b = false) : PT X (.Compare a [op] [b] pos) (tTest (tOp r ta tb)):=by
 intro pins s σ H Q I h
 refine wpAny_isTrue_Compare1 (thn (ha pins s σ H _ I h) fun v s1 ⟨x,H1,I1,r1,q1⟩=>thn (hb pins s1 σ H1 _ I1 q1) fun u s2 ⟨y,H2,I2,r2,q2⟩ =>
  thn (ho pins s2 σ H2 x y v u _ I2 r1 r2 q2) fun c s3 ⟨z,H3,I3,r3,k,e,q3⟩=>?_) hm
 subst e
 cases r3
 exact wpAny_truthy_bool ⟨H3,I3,q3⟩
def TruV (K : PySem.W.Frag) (x : V) (H : Hp) (k : Bool) : Prop :=
 match x with
 | .non=>k = false
 | .bl b=>k = b
 | .int i=>k = (i != 0)
 | .str y=>y.length <= sizeLine /\ k = ((y.length : Int) != 0)
 | .byt y=>y.size <= sizeLine /\ k = ((y.size : Int) != 0)
 | .ref p=>(∃ xs,SqL K H p xs /\ k = !xs.isEmpty) \/ (∃ xs,SqT K H p xs /\ k = !xs.isEmpty) \/ ∃ kvs,H p = some (.dK kvs) /\ k = !kvs.isEmpty
 | _=>False
theorem isEmpty_kv {κ : Type} {kvs : List (κ × V)} {vs : List (κ × Value)} (r : KV kvs vs) : (!vs.isEmpty) = !kvs.isEmpty:=by
 cases r <;> rfl
theorem isEmpty_of {xs : List V} {its : List Value} (r : Vals xs its) : (!its.toArray.isEmpty) = !xs.isEmpty:=by
 cases r <;> simp
theorem line63 : (sizeLine : Nat) < 2 ^ 63:=by rw [sizeLine_eq]; decide
theorem tru_ok : TruR X (fun x H Q=>∃ k,TruV X.K x H k /\ Q k H):=by
 intro pins s σ H x v Q I rx h
 obtain ⟨k,e,q⟩:=h
 have hl:=line63
 have hs : sizeLine = 16777216:=sizeLine_eq
 cases x with
 | non =>
  cases rx
  have e' : k = false:=e
  subst e'
  exact truthy_none ⟨H,I,q⟩
 | bl b =>
  cases rx
  have e' : k = b:=e
  subst e'
  exact wpAny_truthy_bool ⟨H,I,q⟩
 | int i =>
  obtain ⟨t,rfl⟩:=rx
  have e' : k = (i != 0):=e
  subst e'
  exact PySem.P.truthy_int ⟨H,I,q⟩
 | str y =>
  obtain ⟨t,rfl⟩:=rx
  obtain ⟨hy,e'⟩ : y.length <= sizeLine /\ k = ((y.length : Int) != 0):=e
  subst e'
  exact PySem.P.truthy_str (by omega) ⟨H,I.tok _,q⟩
 | byt y =>
  obtain ⟨t,rfl⟩:=rx
  obtain ⟨hy,e'⟩ : y.size <= sizeLine /\ k = ((y.size : Int) != 0):=e
  subst e'
  exact PySem.W.truthy_bytes (by omega) ⟨H,I.tok _,q⟩
 | ref p =>
  cases rx
  have e' : (∃ xs,SqL X.K H p xs /\ k = !xs.isEmpty) \/ (∃ xs,SqT X.K H p xs /\ k = !xs.isEmpty) \/ ∃ kvs,H p = some (.dK kvs) /\ k = !kvs.isEmpty:=e
  rcases e' with ⟨xs,hx,e'⟩ | ⟨xs,hx,e'⟩ | ⟨kvs,hx,e'⟩
  ·subst e'
   obtain ⟨its,r,pl,hz⟩:=I.list hx
   have hlen:=r.length
   exact wpAny_truthy_list pl.isList (by simp only [List.size_toArray]; omega) ⟨H,I.tok _,by rw [isEmpty_of r]; exact q⟩
  ·subst e'
   obtain ⟨its,r,pl,hz⟩:=I.tuple hx
   have hlen:=r.length
   exact truthy_tuple pl (by simp only [List.size_toArray]; omega) ⟨H,I.tok _,by rw [isEmpty_of r]; exact q⟩
  ·subst e'
   obtain ⟨hz,hS,vs,r,m⟩ : kvs.length <= sizeLine /\ (p == sysModules) = false /\ ∃ vs,KV kvs vs /\ s.heap.DictOf (mixKind X.prog X.w) p vs:=I.hok p _ hx
   have hlen : kvs.length = vs.length:=Paired.length r
   exact wpAny_truthy_dict hS m (by omega) ⟨H,I.tok _,by rw [isEmpty_kv r]; exact q⟩
 | _=>exact (show False from e).elim
theorem pt_truth (ha : PE X a ta) (he : ∀ whole,isTrue a X.env whole = (do let v <- whole; standAt a.pos; holding [v] (truthy v))) :
  PT X a (fun σ H Q=>ta σ H fun x H'=>∃ k,TruV X.K x H' k /\ Q k H'):=by
 intro pins s σ H Q I h
 exact isTrue_plain (thn (ha pins s σ H _ I h) fun v s1 ⟨x,H1,I1,r1,q1⟩=>tru_ok pins s1 σ H1 x v Q I1 r1 q1) (he _)
theorem vals1 {x : V} {us : List Value} (r : Vals [x] us) : ∃ u,us = [u] /\ RelV x u:=by
 cases r with
 | cons r1 r2=>cases r2; exact ⟨_,rfl,r1⟩
theorem vals2 {x y : V} {us : List Value} (r : Vals [x,y] us) : ∃ u w',us = [u,w'] /\ RelV x u /\ RelV y w':=by
 cases r with
 | cons r1 r2 =>
  cases r2 with
  | cons r3 r4=>cases r4; exact ⟨_,_,rfl,r1,r3⟩
theorem call_int1 : CallR X (.type "int") (fun xs H Q=>(∃ i,xs = [.int i] /\ Q (.int i) H) \/ ∃ k,xs = [.bl k] /\ Q (.int (if k then 1 else 0)) H):=by
 intro pins s σ H xs us Q I r h
 rcases h with ⟨i,rfl,q⟩ | ⟨k,rfl,q⟩
 ·obtain ⟨u,rfl,t,rfl⟩:=vals1 r
  exact call_int_int ⟨.int i,H,I,⟨_,rfl⟩,q⟩
 ·obtain ⟨u,rfl,r1⟩:=vals1 r
  cases r1
  exact call_int_bool ⟨.int (if k then 1 else 0),H,I.tok _,⟨_,rfl⟩,q⟩
end
end L2
namespace L2
open PySem PySem.Spec PyProof.Rows
structure ObjM (h : Heap) (x dx C : Addr) (mA : Str -> Option Value) : Prop where
 obj : h.get? x = some (PySem.W.instObj C dx)
 ns : h.Ns1 dx mA
 ne : dx ≠ x
theorem lookIn_ns {h : Heap} {dx : Addr} {mA : Str -> Option Value} (n : h.Ns1 dx mA) : ∃ od,h.get? dx = some od /\ ∀ name,PySem.W.lookIn name od = some (mA name):=by
 obtain ⟨o,es,ep,ho,hd,hk,_,hm⟩:=n
 refine ⟨o,ho,fun name=>?_⟩
 have e:=hm name
 unfold nsFind findBy at e
 rw [<- Array.find?_toList] at e
 unfold PySem.W.lookIn
 rw [hd]
 dsimp only
 split
 ·rename_i y q
  rw [q] at e
  exact congrArg some e
 ·rename_i q
  rw [q] at e
  have a : es.toList.any (·.refKey) = false:=by
   rw [List.any_eq_false]
   intro y hy
   obtain ⟨z,t,hkey⟩:=hk y (Array.mem_toList_iff.mp hy)
   simp [DictEntry.refKey,hkey]
  have a' : ¬ es.toList.any (·.refKey) = true:=by rw [a]; exact Bool.false_ne_true
  rw [if_neg a']
  exact congrArg some e
theorem ObjM.look {h : Heap} {x dx C : Addr} {mA : Str -> Option Value} (I : ObjM h x dx C mA) : ∃ od,PySem.W.InstAt h x (PySem.W.instObj C dx) C (some od) /\ ∀ name,PySem.W.lookIn name od = some (mA name) :=
 let ⟨od,ho,hl⟩:=lookIn_ns I.ns
 ⟨od,⟨I.obj,rfl,rfl,ho⟩,hl⟩
section
variable {prog : Program} {w : World} {A : Around} {E : Value -> Shared -> Prop} {s : Shared} {K : PySem.W.Frag} {x dx C f : Addr} {mA : Str -> Option Value} {name : Str} {v : Value}
theorem get_map {expr : Bool} {Q : Value -> Shared -> Prop} (X : K.In s.heap) (I : ObjM s.heap x dx C mA) (hg : PySem.W.plainGet K C name = true) (hh : PySem.W.hasDictIn K C = true)
  (ha : PySem.W.findIn K (.ref C) name = some none) (hv : mA name = some v) (hv' : PySem.W.handedIn v = true) (h : Q v { s with toks:=s.toks + 1 }) :
  wpAny (model prog w) A (getAttr (.ref x) name expr) Q E s:=by
 obtain ⟨od,J,hl⟩:=I.look
 exact PySem.W.get_value X J (PySem.W.plainGet_of hg).1 (PySem.W.findObj_own hh ha rfl (by rw [hl,hv])) hv' h
theorem get_meth {pl : Sem Bool} {Q : Value × List Value -> Shared -> Prop} (X : K.In s.heap) (I : ObjM s.heap x dx C mA) (hg : PySem.W.plainGet K C name = true)
  (hf : PySem.W.findIn K (.ref C) name = some (some (.ref f))) (ht : PySem.W.isFn K (.ref f) = true) (hv : mA name = none) (h : Q (.ref f,[.ref x]) s) :
  wpAny (model prog w) A (getMethod (.ref x) name pl) Q E s:=by
 obtain ⟨od,J,hl⟩:=I.look
 exact PySem.W.method_fn X J (PySem.W.plainGet_of hg).1 (PySem.W.plainGet_of hg).2 hf (beq_iff_eq.mp ht) (by show (PySem.W.lookIn name od).map (·.isSome) = some false; rw [hl,hv]; rfl) h
theorem set_map {ns : List Str} {Q : Unit -> Shared -> Prop} (X : K.In s.heap) (I : ObjM s.heap x dx C mA)
  (hs : PySem.W.findIn K (.ref C) "__setattr__" = some (some (.builtin "object.__setattr__"))) (hp : PySem.W.plainOver K C = true) (ht : PySem.W.takerIn K C name = some none) (hh : PySem.W.hasDictIn K C = true)
  (hw : PySem.Within mA ns) (hsz : ns.length <= sizeLine)
  (h : ∀ h',ObjM h' x dx C (fun y=>if y = name then some v else mA y) -> Heap.SameBut dx s.heap h' -> Q () { s with heap:=h',toks:=s.toks + 2 }) :
  wpAny (model prog w) A (setAttr (.ref x) name v) Q E s:=by
 obtain ⟨od,J,hl⟩:=I.look
 refine PySem.W.set_plain X J hs (PySem.W.osa_open (s:={ s with toks:=s.toks + 1 }) (r:=none) X J hp ht fun b=>?_)
 obtain ⟨cd,hc,hd'⟩:=PySem.W.any_some hh
 have hx : s.heap.get? x = some ⟨.ref C,some dx,.plain,#[]⟩:=I.obj
 refine wpAny_bind (wpAny_pure (wpAny_bind (wpAny_bind (wpAny_loadPart hx (wpAny_bind (PySem.W.Looks.here (s:={ s with toks:=s.toks + 1 }) (PySem.W.looks_clsIn X hc) ?_))))))
 rw [hd']
 refine wpAny_pure (a:=some dx) (wpAny_bind (wpAny_pure (wpAny_bind ?_)))
 refine wpAny_nsSet1 (s:={ s with toks:=s.toks + 1 }) I.ns fun h' hn2 hs2=>?_
 obtain ⟨oD,esD,epD,hoD,hdD,hcD⟩:=hn2.count (PySem.Within.cons name v hw)
 refine wpAny_bind (wpAny_lookBehind hoD (by rw [hdD]; exact pastItsLine_dict (Nat.le_trans hcD (by rw [List.length_cons]; omega))) ?_)
 exact wpAny_pure (h _ ⟨(hs2.2 _ (Ne.symm I.ne)).trans I.obj,hn2,I.ne⟩ hs2)
theorem make_map {R : Result -> Shared -> Prop} {vs : List Value} {kw : List (Str × Value)} (X : K.In s.heap) (hm : PySem.W.makesIn K C = true)
  (hi : PySem.W.findIn K (.ref C) "__init__" = some (some (.ref f))) (hf : PySem.W.typeIn K (.ref f) = some (.type "function"))
  (h : codeAny (model prog w) (A.under (.builtin "type.__call__" ⟨.ref C :: vs,kw⟩)) (.call (.ref f) ⟨.ref (s.heap.objs.size + 1) :: vs,kw⟩) (PySem.W.InitBack (s.heap.objs.size + 1) R)
   { s with heap:=(s.heap.push PySem.W.emptyDict).push (PySem.W.instObj C s.heap.objs.size) }) :
  codeAny (model prog w) A (.call (.ref C) ⟨vs,kw⟩) R s:=by
 obtain ⟨hh,g,d,t,os⟩:=s
 exact PySem.W.make_core (PySem.W.makes_of X hm) (PySem.W.looks_findIn X hi) (fun self=>PySem.W.bind_fn X self hf) (.inl rfl) h
end
def putF (f : Str) (v : V) : List (Str × V) -> List (Str × V)
 | []=>[(f,v)]
 | (g,x) :: r=>if g = f then (g,v) :: r else (g,x) :: putF f v r
theorem lookup_putF (f g : Str) (v : V) : ∀ fs : List (Str × V),(putF f v fs).lookup g = if g = f then some v else fs.lookup g
 | []=>by
  show List.lookup g [(f,v)] = _
  by_cases h : g = f
  ·have hb : (g == f) = true:=beq_iff_eq.mpr h
   simp only [List.lookup,hb,if_pos h]
  ·have hb : (g == f) = false:=beq_eq_false_iff_ne.mpr h
   simp only [List.lookup,hb,if_neg h]
 | (k,x) :: r=>by
  have ih:=lookup_putF f g v r
  rw [show putF f v ((k,x) :: r) = (if k = f then (k,v) :: r else (k,x) :: putF f v r) from rfl]
  by_cases hk : k = f
  ·rw [if_pos hk]
   by_cases h : g = k
   ·have hb : (g == k) = true:=beq_iff_eq.mpr h
    simp only [List.lookup,hb,if_pos (h.trans hk)]
   ·have hb : (g == k) = false:=beq_eq_false_iff_ne.mpr h
    simp only [List.lookup,hb,if_neg (fun e : g = f=>h (e.trans hk.symm))]
  ·rw [if_neg hk]
   by_cases h : g = k
   ·have hb : (g == k) = true:=beq_iff_eq.mpr h
    simp only [List.lookup,hb,if_neg (fun e : g = f=>hk (h.symm.trans e))]
   ·have hb : (g == k) = false:=beq_eq_false_iff_ne.mpr h
    simp only [List.lookup,hb]
    exact ih
theorem keys_putF (f : Str) (v : V) : ∀ fs : List (Str × V),f ∈ (putF f v fs).map (·.1) /\ ∀ g,g ∈ fs.map (·.1) -> g ∈ (putF f v fs).map (·.1)
 | []=>⟨by simp [putF],fun g h=>by simp at h⟩
 | (k,x) :: r=>by
  obtain ⟨i1,i2⟩:=keys_putF f v r
  rw [show putF f v ((k,x) :: r) = (if k = f then (k,v) :: r else (k,x) :: putF f v r) from rfl]
  by_cases hk : k = f
  ·rw [if_pos hk]
   subst hk
   exact ⟨by simp,fun g h=>by simpa using h⟩
  ·rw [if_neg hk]
   refine ⟨?_,fun g h=>?_⟩
   ·rw [List.map_cons]
    exact List.mem_cons_of_mem _ i1
   ·rw [List.map_cons] at h ⊢
    rcases List.mem_cons.mp h with e | e
    ·exact List.mem_cons.mpr (.inl e)
    ·exact List.mem_cons_of_mem _ (i2 g e)
theorem length_putF (f : Str) (v : V) : ∀ fs : List (Str × V),(putF f v fs).length <= fs.length + 1
 | []=>by simp [putF]
 | (k,x) :: r=>by
  have ih:=length_putF f v r
  rw [show putF f v ((k,x) :: r) = (if k = f then (k,v) :: r else (k,x) :: putF f v r) from rfl]
  by_cases hk : k = f
  ·rw [if_pos hk,List.length_cons,List.length_cons]; omega
  ·rw [if_neg hk,List.length_cons,List.length_cons]; omega
theorem RelO.some_of {v : V} {o : Option Value} (r : RelO (some v) o) : ∃ u,o = some u /\ RelV v u:=by
 cases o with
 | none=>exact (show False from r).elim
 | some u=>exact ⟨u,rfl,r⟩
theorem RelO.none_of {o : Option Value} (r : RelO none o) : o = none:=by
 cases o with
 | none=>rfl
 | some u=>exact (show False from r).elim
theorem handed_of {v : V} {u : Value} (r : RelV v u) : PySem.W.handedIn u = true:=by
 cases v with
 | non=>cases (show u = Value.none from r); rfl
 | bl b=>cases (show u = Value.bool b from r); rfl
 | int i=>obtain ⟨t,e⟩:=(show ∃ t,u = Value.int i t from r); cases e; rfl
 | str x=>obtain ⟨t,e⟩:=(show ∃ t,u = Value.str x t from r); cases e; rfl
 | byt b=>obtain ⟨t,e⟩:=(show ∃ t,u = Value.bytes b t from r); cases e; rfl
 | flt b=>obtain ⟨t,e⟩:=(show ∃ t,u = Value.float b t from r); cases e; rfl
 | ref a=>cases (show u = Value.ref a from r); rfl
 | ty n=>cases (show u = Value.type n from r); rfl
section
variable {P : Program} {w : World} {H H' : Hp} {h h' : Heap} {a C dx : Addr} {fs fs' : List (Str × V)}
theorem ins_get (hok : HOk P w H h) (e : H a = some (.ins C dx fs)) : ∃ mA,ObjM h a dx C mA /\ (∀ f,RelO (fs.lookup f) (mA f)) /\ PySem.Within mA (fs.map (·.1)) /\ fs.length <= 1000 /\ H dx = some (.own a):=by
 obtain ⟨d,z,ne,ob,mA,n,r,q⟩:=(show ObjOk P w H h a (.ins C dx fs) from hok a _ e)
 exact ⟨mA,⟨ob,n,ne⟩,r,q,z,d⟩
end
structure Cls (K : PySem.W.Frag) (C : Addr) : Prop where
 pg : PySem.W.plainGet K C Str.empty = true
 hd : PySem.W.hasDictIn K C = true
 po : PySem.W.plainOver K C = true
 sa : PySem.W.findIn K (.ref C) "__setattr__" = some (some (.builtin "object.__setattr__"))
theorem Cls.get {K : PySem.W.Frag} {C : Addr} (c : Cls K C) (f : Str) : PySem.W.plainGet K C f = true:=c.pg
def NoAttr (K : PySem.W.Frag) (C : Addr) (f : Str) : Prop:=PySem.W.findIn K (.ref C) f = some none
theorem NoAttr.taker {K : PySem.W.Frag} {C : Addr} {f : Str} (n : NoAttr K C f) : PySem.W.takerIn K C f = some none:=by
 unfold PySem.W.takerIn
 rw [show PySem.W.findIn K (.ref C) f = some none from n]
 rfl
structure Meth (K : PySem.W.Frag) (C : Addr) (m : Str) (f : Addr) : Prop where
 at_ : PySem.W.findIn K (.ref C) m = some (some (.ref f))
 fn : PySem.W.isFn K (.ref f) = true
 kp : PySem.W.keepIn K (.ref f) = true
section
variable {X : Cx} {pins : List (Addr × Obj)} {σ : St} {H : Hp} {s : Shared} {a C dx : Addr} {fs : List (Str × V)} {f : Str} {v : V} {A : Around} {E : Value -> Shared -> Prop}
theorem getattr_ok {b : Bool} {Q : Value -> Shared -> Prop} (I : Inv X pins σ H s) (e : H a = some (.ins C dx fs)) (c : Cls X.K C) (n : NoAttr X.K C f) (l : fs.lookup f = some v)
  (h : ∀ u s',Inv X pins σ H s' -> RelV v u -> Q u s') : wpAny (model X.prog X.w) A (getAttr (.ref a) f b) Q E s:=by
 obtain ⟨mA,O,r,_,_,_⟩:=ins_get I.hok e
 obtain ⟨u,hu,ru⟩:=RelO.some_of (v:=v) (o:=mA f) (by rw [<- l]; exact r f)
 exact get_map I.kIn O (c.get f) c.hd n hu (handed_of ru) (h u _ (I.tok _) ru)
theorem getmeth_ok {m : Str} {g : Addr} {pl : Sem Bool} {Q : Value × List Value -> Shared -> Prop} (I : Inv X pins σ H s) (e : H a = some (.ins C dx fs)) (c : Cls X.K C) (k : Meth X.K C m g) (l : fs.lookup m = none)
  (h : Q (.ref g,[.ref a]) s) : wpAny (model X.prog X.w) A (getMethod (.ref a) m pl) Q E s:=by
 obtain ⟨mA,O,r,_,_,_⟩:=ins_get I.hok e
 have hn : mA m = none:=RelO.none_of (by rw [<- l]; exact r m)
 exact get_meth I.kIn O (c.get m) k.at_ k.fn hn h
theorem setattr_ok {y : V} {u : Value} {Q : Unit -> Shared -> Prop} (I : Inv X pins σ H s) (e : H a = some (.ins C dx fs)) (c : Cls X.K C) (n : NoAttr X.K C f) (hl : fs.length < 1000) (ry : RelV y u)
  (h : ∀ s',Inv X pins σ (upd H a (.ins C dx (putF f y fs))) s' -> Q () s') : wpAny (model X.prog X.w) A (setAttr (.ref a) f u) Q E s:=by
 obtain ⟨mA,O,r,wi,_,ho⟩:=ins_get I.hok e
 have hz : (fs.map (·.1)).length <= sizeLine:=by rw [List.length_map,sizeLine_eq]; omega
 refine set_map I.kIn O c.sa c.po n.taker c.hd wi hz fun h' O' sb=>h _ ?_
 have hd : ∃ o,h'.get? dx = some o:=let ⟨o,_,_,e',_⟩:=O'.ns; ⟨o,e'⟩
 refine I.write (x:=a) (e:=dx) (by rw [e]; exact True.intro) (.inr ho) (fun b q hb z=>(sb.2 b hb).trans z) hd ?_
 refine ⟨by rw [upd_ne O.ne]; exact ho,?_,O.ne,O'.obj,_,O'.ns,fun g=>?_,fun g hg=>?_⟩
 ·have:=length_putF f y fs; omega
 ·show RelO ((putF f y fs).lookup g) (if g = f then some u else mA g)
  rw [lookup_putF]
  by_cases q : g = f
  ·rw [if_pos q,if_pos q]; exact ry
  ·rw [if_neg q,if_neg q]; exact r g
 ·by_cases q : g = f
  ·rw [q]; exact (keys_putF f y fs).1
  ·refine (keys_putF f y fs).2 g (wi g fun z=>hg ?_)
   show (if g = f then some u else mA g) = none
   rw [if_neg q]; exact z
theorem Inv.made (I : Inv X pins σ H s) : Inv X pins σ (upd (upd H s.heap.objs.size (.own (s.heap.objs.size + 1))) (s.heap.objs.size + 1) (.ins C s.heap.objs.size []))
  { s with heap:=(s.heap.push PySem.W.emptyDict).push (PySem.W.instObj C s.heap.objs.size) }:=by
 have e1 : (s.heap.push PySem.W.emptyDict).get? s.heap.objs.size = some PySem.W.emptyDict:=Heap.get?_push_size s.heap rfl
 have e2 : ((s.heap.push PySem.W.emptyDict).push (PySem.W.instObj C s.heap.objs.size)).get? (s.heap.objs.size + 1) = some (PySem.W.instObj C s.heap.objs.size):=by
  have:=Heap.get?_push_size (s.heap.push PySem.W.emptyDict) (o:=PySem.W.instObj C s.heap.objs.size) rfl
  rwa [Heap.size_push] at this
 have e3 : (s.heap.push PySem.W.emptyDict).Ns s.heap.objs.size (fun _=>none):=⟨PySem.W.emptyDict,#[],_,e1,rfl,(fun e he=>absurd he (by simp)),fun _=>rfl⟩
 have I1:=I.laid (a:=s.heap.objs.size) (o:=.own (s.heap.objs.size + 1)) (h':=s.heap.push PySem.W.emptyDict) (t':=s.toks) (fun b u q=>Heap.get?_push_of_some _ q) (Nat.le_refl _) ⟨_,e1⟩
 refine I1.laid (a:=s.heap.objs.size + 1) (o:=.ins C s.heap.objs.size []) (t':=s.toks) (fun b u q=>Heap.get?_push_of_some _ q) (Nat.le_of_eq (Heap.size_push _ _)) ?_
 have ne : s.heap.objs.size ≠ s.heap.objs.size + 1:=Nat.ne_of_lt (Nat.lt_succ_self _)
 refine ⟨by rw [upd_ne ne,upd_same],Nat.zero_le _,ne,e2,fun _=>none,(Heap.Ns1.of_empty e3).at fun o q=>Heap.get?_push_of_some _ q,fun _=>True.intro,fun y hy=>absurd rfl hy⟩
theorem attr_of {prog : Program} {w : World} {env : Env} {e : Expr} {f : Str} {pos : Pos} {s : Shared} {Q : Value -> Shared -> Prop} (hb : attributeBase e f env (eval e env) = eval e env)
  (h : wpAny (model prog w) A (eval e env) (fun o s₁=>wpAny (model prog w) A (getAttr o f true) Q E s₁) E s) : wpAny (model prog w) A (eval (.Attribute e f pos) env) Q E s :=
 Attribute_any_ h (by rw [arm_eval_Attribute,hb])
end
def tFld (K : PySem.W.Frag) (ta : TE) (f : Str) : TE:=fun σ H Q=>ta σ H fun x H1=>∃ a C dx fs v,x = .ref a /\ H1 a = some (.ins C dx fs) /\ Cls K C /\ NoAttr K C f /\ fs.lookup f = some v /\ Q v H1
def sFld (K : PySem.W.Frag) (ta tv : TE) (f : Str) : TS:=fun D σ H=>tv σ H fun y H1=>ta σ H1 fun x H2=>∃ a C dx fs,x = .ref a /\ H2 a = some (.ins C dx fs) /\ Cls K C /\ NoAttr K C f /\ fs.length < 1000 /\
 D.nx σ (upd H2 a (.ins C dx (putF f y fs)))
section
variable {X : Cx} {o e value : Expr} {f : Str} {pos pos' tpos : Pos} {ta tv : TE}
theorem pe_fld (he : PE X e ta) (hb : attributeBase e f X.env (eval e X.env) = eval e X.env) : PE X (.Attribute e f pos) (tFld X.K ta f):=by
 intro pins s σ H Q I h
 refine attr_of hb (thn (he pins s σ H _ I h) fun u s1 ⟨x,H1,I1,rx,a,C,dx,fs,v,ex,ea,c,n,l,q⟩=>?_)
 subst ex
 obtain rfl : u = Value.ref a:=rx
 exact getattr_ok I1 ea c n l fun u' s2 I2 ru=>⟨v,H1,I2,ru,q⟩
theorem ps_fld (ha : PE X o ta) (hv : PE X value tv) (hs : swapsWith value (some (.Attribute o f pos')) pos.line X.env = pure false) : PS X (.Assign [.Attribute o f pos'] value pos) (sFld X.K ta tv f):=by
 intro pins s σ H D I h
 refine plainObj_wpAny_Assign_Attribute (thn (hv pins s σ H _ I h) fun u s1 ⟨y,H1,I1,ry,q⟩=>thn (ha pins s1 σ H1 _ I1 q) fun ov s2 ⟨x,H2,I2,rx,a,C,dx,fs,ex,ea,c,n,l,q2⟩=>?_) hs
 subst ex
 obtain rfl : ov = Value.ref a:=rx
 exact setattr_ok I2 ea c n l ry fun s3 I3=>⟨σ,_,I3,q2⟩
end
section
variable {X : Cx} {pins : List (Addr × Obj)} {σ : St} {H : Hp} {s : Shared} {A : Around} {E : Value -> Shared -> Prop} {Q : Value -> Shared -> Prop} {c : Value} {b : Bool}
inductive TyOf (K : PySem.W.Frag) (H : Hp) : V -> Value -> Prop where
 | non : TyOf K H .non (.type "NoneType")
 | bl (x : Bool) : TyOf K H (.bl x) (.type "bool")
 | int (i : Int) : TyOf K H (.int i) (.type "int")
 | str (x : Str) : TyOf K H (.str x) (.type "str")
 | flt (x : UInt64) : TyOf K H (.flt x) (.type "float")
 | lst {a : Addr} {xs : List V} (e : H a = some (.lst xs)) : TyOf K H (.ref a) (.type "list")
 | frz {a : Addr} {o : Obj} {xs : List V} (e : H a = some (.frz o (.lst xs))) : TyOf K H (.ref a) (.type "list")
 | tup {a : Addr} {xs : List V} (e : H a = some (.tup xs)) : TyOf K H (.ref a) (.type "tuple")
 | dK {a : Addr} {kvs : List (Key × V)} (e : H a = some (.dK kvs)) : TyOf K H (.ref a) (.type "dict")
 | dT {a : Addr} {kvs : List (List Key × V)} (e : H a = some (.dT kvs)) : TyOf K H (.ref a) (.type "dict")
 | ins {a C dx : Addr} {fs : List (Str × V)} (e : H a = some (.ins C dx fs)) (cl : Cls K C) (ha : PySem.W.findIn K (.ref C) "__class__" = some (some (.builtin "object.__class__")))
   (hn : PySem.W.specialIn K (.builtin "object.__class__") "__get__" = some (some (.builtin "getset_descriptor.__get__"))) (htk : PySem.W.takesIn K (.builtin "object.__class__") = some true)
   (hm : PySem.W.mroIn K C (.type "object") = some true) : TyOf K H (.ref a) (.ref C)
theorem isinst_ok {x : V} {u t : Value} (I : Inv X pins σ H s) (rx : RelV x u) (ty : TyOf X.K H x t) (e : PySem.W.kitOne X.K t c = some b) (h : ∀ tk,Q (.bool b) { s with toks:=tk }) :
  wpAny (model X.prog X.w) A (call (.builtin "isinstance") [u,c]) Q E s:=by
 cases ty with
 | non=>cases (show u = Value.none from rx); exact PySem.W.kia_one PySem.W.kitx_none I.kIn True.intro e (fun z=>nomatch z) h
 | bl y=>cases (show u = Value.bool y from rx); exact PySem.W.kia_one PySem.W.kitx_bool I.kIn True.intro e (fun z=>nomatch z) h
 | int i=>obtain ⟨t,q⟩:=(show ∃ t,u = Value.int i t from rx); cases q; exact PySem.W.kia_one PySem.W.kitx_int I.kIn True.intro e (fun z=>nomatch z) h
 | str y=>obtain ⟨t,q⟩:=(show ∃ t,u = Value.str y t from rx); cases q; exact PySem.W.kia_one PySem.W.kitx_str I.kIn True.intro e (fun z=>nomatch z) h
 | flt y=>obtain ⟨t,q⟩:=(show ∃ t,u = Value.float y t from rx); cases q; exact PySem.W.kia_one PySem.W.kitx_float I.kIn True.intro e (fun z=>nomatch z) h
 | @lst a xs ea =>
  cases (show u = Value.ref a from rx)
  obtain ⟨_,_,n,_,h1⟩:=(show ObjOk X.prog X.w H s.heap a (.lst xs) from I.hok a _ ea)
  exact PySem.W.kia_one PySem.W.kitx_list I.kIn ⟨_,h1,rfl⟩ e (fun z=>nomatch z) h
 | @frz a ob xs ea =>
  cases (show u = Value.ref a from rx)
  obtain ⟨_,_,_,n,_,h1⟩:=(show ObjOk X.prog X.w H s.heap a (.frz ob (.lst xs)) from I.hok a _ ea)
  exact PySem.W.kia_one PySem.W.kitx_list I.kIn ⟨_,h1,rfl⟩ e (fun z=>nomatch z) h
 | @tup a xs ea =>
  cases (show u = Value.ref a from rx)
  obtain ⟨_,_,_,p⟩:=(show ObjOk X.prog X.w H s.heap a (.tup xs) from I.hok a _ ea)
  obtain ⟨o,h1,h2,_⟩:=p
  exact PySem.W.kia_one PySem.W.kitx_tuple I.kIn ⟨o,h1,h2⟩ e (fun z=>nomatch z) h
 | @dK a kvs ea =>
  cases (show u = Value.ref a from rx)
  obtain ⟨_,_,vs,_,p⟩:=(show ObjOk X.prog X.w H s.heap a (.dK kvs) from I.hok a _ ea)
  obtain ⟨o,es,ep,h1,h2,_⟩:=p
  exact PySem.W.kia_one PySem.W.kitx_dict I.kIn ⟨o,h1,h2.1⟩ e (fun z=>nomatch z) h
 | @dT a kvs ea =>
  cases (show u = Value.ref a from rx)
  obtain ⟨_,_,xs,_,o,es,ep,h1,h2,_⟩:=(show ObjOk X.prog X.w H s.heap a (.dT kvs) from I.hok a _ ea)
  exact PySem.W.kia_one PySem.W.kitx_dict I.kIn ⟨o,h1,h2.1⟩ e (fun z=>nomatch z) h
 | @ins a C dx fs ea cl ha hn htk hm =>
  cases (show u = Value.ref a from rx)
  obtain ⟨mA,O,_⟩:=ins_get I.hok ea
  obtain ⟨od,J,_⟩:=O.look
  exact PySem.W.kia_one (PySem.W.kitx_own (cl.get _) cl.hd ha hn htk hm) I.kIn J e (fun z=>nomatch z) h
end
end L2
namespace L2
open PySem PySem.Spec PyProof.Rows
structure Room (k : Nat) (A : Around) : Prop where
 hd : A.handled = none
 dp : A.depth + 3 * k + 5 < recursionLimit
 un : A.units + 16 * k + 200 < cLine
theorem Room.mono {j k : Nat} {A : Around} (r : Room k A) (h : j <= k) : Room j A:=⟨r.hd,by have:=r.dp; omega,by have:=r.un; omega⟩
theorem Room.deeper {k : Nat} {A : Around} (r : Room (k + 1) A) (env : Env) : Room k (A.deeper env) :=
 ⟨r.hd,by have:=r.dp; show A.depth + 1 + 3 * k + 5 < _; omega,by have:=r.un; show A.units + 3 + 16 * k + 200 < _; omega⟩
theorem make_depth {A : Around} {C : Addr} {us : List Value} {kw : List (Str × Value)} : (A.under (.builtin "type.__call__" ⟨.ref C :: us,kw⟩)).depth = A.depth + 1:=by
 first | rfl | simp [Around.under,Code.weight,Code.isCreation,Code.isGuard,Code.isCaller,Code.frames,Code.isFrame,guardIds]
theorem make_units {A : Around} {C : Addr} {us : List Value} {kw : List (Str × Value)} : (A.under (.builtin "type.__call__" ⟨.ref C :: us,kw⟩)).units = A.units + 1:=by
 first | rfl | simp [Around.under,Code.cUnits,Code.frames,Code.isFrame]
theorem Room.make {k : Nat} {A : Around} (r : Room (k + 1) A) (C : Addr) (us : List Value) (kw : List (Str × Value)) : Room k (A.under (.builtin "type.__call__" ⟨.ref C :: us,kw⟩)) :=
 ⟨r.hd,by have:=r.dp; rw [make_depth]; omega,by have:=r.un; rw [make_units]; omega⟩
theorem Room.depth {k : Nat} {A : Around} (r : Room k A) : A.depth < recursionLimit:=by have:=r.dp; omega
theorem Room.units {k : Nat} {A : Around} (r : Room k A) : A.units + 64 < cLine:=by have:=r.un; omega
def tNil : TA:=fun _ H Q=>Q [] H
def tCons (ta : TE) (tr : TA) : TA:=fun σ H Q=>ta σ H fun x H1=>tr σ H1 fun xs H2=>Q (x :: xs) H2
section
variable {X : Cx} {e : Expr} {es : List Expr} {te : TE} {t : TA} {pos : Pos}
theorem pa_nil : PA X [] tNil:=fun _ _ _ _ H Q I h=>Calls.spliced_nil ⟨[],H,I,.nil,h⟩
theorem pa_cons (ha : PE X e te) (hr : PA X es t) (hs : starEach (e :: es) X.env = (false,eval e X.env) :: starEach es X.env:=by rfl) : PA X (e :: es) (tCons te t):=by
 intro pos pins s σ H Q I h
 rw [hs]
 show wpAny _ _ (spliced ((false,eval e X.env) :: backTo pos (starEach es X.env))) _ _ s
 refine Calls.spliced_cons (thn (ha pins s σ H _ I h) fun u s1 ⟨x,H1,I1,r1,q1⟩=>?_)
 exact thn (hr pos pins s1 σ H1 _ I1 q1) fun us s2 ⟨xs,H2,I2,r2,q2⟩=>⟨x :: xs,H2,I2,.cons r1 r2,q2⟩
def tTup (t : TA) : TE:=fun σ H Q=>t σ H fun xs H1=>xs.length <= sizeLine /\ ∀ p,H1 p = none -> Q (.ref p) (upd H1 p (.tup xs))
def tLst (t : TA) : TE:=fun σ H Q=>t σ H fun xs H1=>xs.length <= sizeLine /\ ∀ p,H1 p = none -> Q (.ref p) (upd H1 p (.lst xs))
theorem pe_tup {x1} (h : PA X es t) : PE X (.Tuple es x1 pos) (tTup t):=by
 intro pins s σ H Q I hq
 refine wpAny_Tuple_spliced (thn (h pos pins s σ H _ I hq) fun us s1 ⟨xs,H1,I1,r,z,q⟩=>⟨by rw [<- r.length]; exact z,?_⟩)
 have hf : H1 s1.heap.objs.size = none:=I1.hok.fresh (Nat.le_refl _)
 refine ⟨.ref s1.heap.objs.size,upd H1 s1.heap.objs.size (.tup xs),I1.laid (t':=s1.toks) (fun b u e=>Heap.get?_push_of_some _ e) (Nat.le_refl _) ?_,rfl,q _ hf⟩
 exact ⟨z,us,r,⟨_,Heap.get?_push_size _ rfl,rfl,_,rfl⟩⟩
theorem pe_lst (h : PA X es t) : PE X (.List es pos) (tLst t):=by
 intro pins s σ H Q I hq
 refine wpAny_List_spliced (thn (h pos pins s σ H _ I hq) fun us s1 ⟨xs,H1,I1,r,z,q⟩=>⟨by rw [<- r.length]; exact z,?_⟩)
 have hf : H1 s1.heap.objs.size = none:=I1.hok.fresh (Nat.le_refl _)
 refine ⟨.ref s1.heap.objs.size,upd H1 s1.heap.objs.size (.lst xs),I1.laid (t':=s1.toks) (fun b u e=>Heap.get?_push_of_some _ e) (Nat.le_refl _) ?_,rfl,q _ hf⟩
 exact ⟨z,us,0,r,Heap.get?_push_size _ rfl⟩
end
abbrev Sp:=List V -> Hp -> VK -> XK -> Prop
abbrev CXT:=List Env -> Hp -> Shared -> XK -> Value -> Shared -> Prop
structure Env0 (P : Program) (w : World) (K : PySem.W.Frag) (mg : Str -> Option Value) (base : Heap) (A : Around) (outer : List Env) (s : Shared) (H : Hp) : Prop where
 frames : A.frames = some outer
 mod : Mod K mg base
 bs : ∀ b o,base.get? b = some o -> s.heap.get? b = some o /\ H b = none
 bsz : base.objs.size <= s.heap.objs.size
 funs : s.heap.FunFrames base outer
 frf : ∀ b ∈ frs outer,H b = none
 hok : HOk P w H s.heap
 bare : AllBare s.gens
def CE (outer : List Env) (P : Program) (w : World) (H : Hp) (s : Shared) (Q : VK) (u : Value) (s' : Shared) : Prop :=
 ∃ v H',s'.os = s.os /\ AllBare s'.gens /\ Un (frs outer) [] H H' s.heap s'.heap /\ HOk P w H' s'.heap /\ RelV v u /\ Q v H'
def CR (CX : CXT) (outer : List Env) (P : Program) (w : World) (H : Hp) (s : Shared) (Q : VK) (E : XK) (r : Result) (s' : Shared) : Prop :=
 match r with
 | .ok (.ret u)=>CE outer P w H s Q u s'
 | .ok _=>False
 | .error e=>CX outer H s E e s'
structure FnOk (P : Program) (w : World) (K : PySem.W.Frag) (mg : Str -> Option Value) (base : Heap) (CX : CXT) (k : Nat) (f : Addr) (fd : FuncData) (ps : List Str) (sp : Sp) : Prop where
 len : ∀ vs H Q E,sp vs H Q E -> vs.length = ps.length
 run : ∀ (A : Around) (outer : List Env) (s : Shared) (H : Hp) (args : Args) (us : List Value) (vs : List V) (Q : VK) (E : XK),Room k A -> Env0 P w K mg base A outer s H -> BindsTo s fd args (ps.zip us) -> Vals vs us -> sp vs H Q E ->
  codeAny (model P w) A (.call (.ref f) args) (CR CX outer P w H s Q E) s
theorem Env0.make {P : Program} {w : World} {K : PySem.W.Frag} {mg : Str -> Option Value} {base : Heap} {A : Around} {outer : List Env} {s : Shared} {H : Hp} (e : Env0 P w K mg base A outer s H) (C : Addr) (us : List Value) (kw : List (Str × Value)) :
  Env0 P w K mg base (A.under (.builtin "type.__call__" ⟨.ref C :: us,kw⟩)) outer s H:=⟨by first | exact e.frames | (simpa [Around.under,Code.envs,Code.isFrame,pushEnvs] using e.frames),e.mod,e.bs,e.bsz,e.funs,e.frf,e.hok,e.bare⟩
section
variable {X : Cx} {pins : List (Addr × Obj)} {σ : St} {H : Hp} {s s' : Shared}
theorem Inv.env0 (I : Inv X pins σ H s) : Env0 X.prog X.w X.K X.mg X.base X.A X.stack s H :=
 ⟨I.ok.frames,I.ok.mod,I.bs,Nat.le_trans I.ok.bsz I.sz,I.stack,I.stkFree,I.hok,I.bare⟩
theorem Inv.after {Q : VK} {u : Value} (I : Inv X pins σ H s) (h : CE X.stack X.prog X.w H s Q u s') : EP X pins σ Q u s':=by
 obtain ⟨v,H',os,bare,un,hok,r,q⟩:=h
 obtain ⟨hh,g,d,t,os'⟩:=s'
 obtain rfl : os' = s.os:=os
 exact ⟨v,H',I.call (h':=hh) (g':=g) (d':=d) (t':=t) (ch:=[]) un hok bare (fun b z=>absurd z (by simp)),r,q⟩
end
def tCall (sp : Sp) (dvs : List V) (E : XK) (t : TA) : TE:=fun σ H Q=>t σ H fun vs H1=>sp (vs ++ dvs) H1 Q E
def tMeth (C : Addr) (m : Str) (sp : Sp) (dvs : List V) (E : XK) (ta : TE) (t : TA) : TE:=fun σ H Q=>ta σ H fun x H1=>∃ a dx fs,x = .ref a /\ H1 a = some (.ins C dx fs) /\ fs.lookup m = none /\
 t σ H1 fun vs H2=>sp (x :: (vs ++ dvs)) H2 Q E
def tMake (C : Addr) (sp : Sp) (dvs : List V) (E : XK) (t : TA) : TE:=fun σ H Q=>t σ H fun vs H1=>∀ x dx,H1 x = none -> H1 dx = none -> dx ≠ x ->
 sp (.ref x :: (vs ++ dvs)) (upd (upd H1 dx (.own x)) x (.ins C dx [])) (fun v H2=>v = .non /\ Q (.ref x) H2) E
def Binds (K : PySem.W.Frag) (fd : FuncData) (ps : List Str) (ds : List Value) : Prop :=
 ∀ (s : Shared) (us : List Value),K.In s.heap -> (us ++ ds).length = ps.length -> BindsTo s fd ⟨us,[]⟩ (ps.zip (us ++ ds))
theorem Binds.all {K : PySem.W.Frag} {fd : FuncData} {ps : List Str} (h : ∀ us : List Value,us.length = ps.length -> bindArgs fd ⟨us,[]⟩ = pure (ps.zip us)) : Binds K fd ps []:=fun s us _ hl=>by
 rw [List.append_nil] at hl ⊢
 exact .of_eq (h us hl)
def Passes (CX : CXT) (X : Cx) (E : XK) : Prop:=∀ (pins : List (Addr × Obj)) (σ : St) (H : Hp) (s : Shared) (e : Value) (s' : Shared),Inv X pins σ H s -> CX X.stack H s E e s' -> X.xe e s'
section
variable {X : Cx} {CX : CXT} {k : Nat} {f C : Addr} {fd : FuncData} {ps : List Str} {sp : Sp} {dvs : List V} {ds : List Value} {E : XK} {x m : Str} {p pos apos : Pos} {e o : Expr} {es : List Expr} {ta : TE} {t : TA}
theorem run_fn {pins : List (Addr × Obj)} {σ : St} {H : Hp} {s : Shared} {Q : VK} {us : List Value} {vs : List V} (F : FnOk X.prog X.w X.K X.mg X.base CX k f fd ps sp) (hr : Room k X.A) (hb : Binds X.K fd ps ds) (hd : Vals dvs ds) (hx : Passes CX X E)
  (I : Inv X pins σ H s) (r : Vals vs us) (h : sp (vs ++ dvs) H Q E) : wpAny (model X.prog X.w) X.A (call (.ref f) us) (EP X pins σ Q) X.xe s:=by
 have r2 : Vals (vs ++ dvs) (us ++ ds):=r.append hd
 have hl : (us ++ ds).length = ps.length:=by rw [<- r2.length]; exact F.len _ _ _ _ h
 refine wpAny_call (codeAny_mono (F.run X.A X.stack s H ⟨us,[]⟩ (us ++ ds) (vs ++ dvs) Q E hr I.env0 (hb s us I.kIn hl) r2 h) fun r s' hq=>?_)
 cases r with
 | error e=>exact hx pins σ H s e s' I hq
 | ok fl =>
  cases fl with
  | ret u=>exact I.after hq
  | next=>exact False.elim hq
  | brk=>exact False.elim hq
  | cont=>exact False.elim hq
theorem pe_call (F : FnOk X.prog X.w X.K X.mg X.base CX k f fd ps sp) (hr : Room k X.A) (hg : Gl X x) (hm : X.mg x = some (.ref f)) (hk : PySem.W.keepIn X.K (.ref f) = true) (hb : Binds X.K fd ps ds) (hd : Vals dvs ds) (hx : Passes CX X E)
  (ha : PA X (e :: es) t) (hdb : (x == ("__debug__" : Str)) = false:=by decide) (he : starEach (e :: es) X.env = (false,eval e X.env) :: starEach es X.env:=by rfl) (hpl : (backTo pos (starEach es X.env)).any (·.1) = false:=by rfl) :
  PE X (.Call (.Name x p) (e :: es) [] pos) (tCall sp dvs E t):=by
 intro pins s σ H Q I h
 refine wpAny_Call_Name_kw (ld_glob I hg hm ?_ hdb)
 refine PySem.W.callWith_K (h₀:=X.base) I.ok.mod.kin hk (thn (ha pos pins s σ H _ I h) fun us s1 ⟨vs,H1,I1,r,q⟩=>⟨I1.kIn,?_⟩) he hpl
 exact run_fn F hr hb hd hx I1 r q
theorem pe_meth {pl : Sem Bool} (he : PE X o ta) (c : Cls X.K C) (hm : Meth X.K C m f) (F : FnOk X.prog X.w X.K X.mg X.base CX k f fd ps sp) (hr : Room k X.A) (hb : Binds X.K fd ps ds) (hd : Vals dvs ds) (hx : Passes CX X E) (ha : PA X (e :: es) t)
  (hst : starEach (e :: es) X.env = (false,eval e X.env) :: starEach es X.env:=by rfl) (hpl : (backTo pos (starEach es X.env)).any (·.1) = false:=by rfl)
  (ht : eval (.Call (.Attribute o m apos) (e :: es) [] pos) X.env = (do
   let ov <- eval o X.env
   standAt apos.atName
   let (f,first) <- holding [ov] (getMethod ov m pl)
   callWith pos f first (backTo pos (starEach (e :: es) X.env)) (backToKw pos (keywordEach [] X.env))):=by rfl) :
  PE X (.Call (.Attribute o m apos) (e :: es) [] pos) (tMeth C m sp dvs E ta t):=by
 intro pins s σ H Q I h
 refine PySem.W.methodCall_KW (pl:=pl) (thn (he pins s σ H _ I h) fun u s1 ⟨x,H1,I1,rx,a,dx,fs,ex,ea,l,q⟩=>?_) ht
 subst ex
 obtain rfl : u = Value.ref a:=rx
 refine getmeth_ok I1 ea c hm l ?_
 refine PySem.W.callWith_K (first:=[.ref a]) (h₀:=X.base) I.ok.mod.kin hm.kp (thn (ha pos pins s1 σ H1 _ I1 q) fun us s2 ⟨vs,H2,I2,r,q2⟩=>⟨I2.kIn,?_⟩) hst hpl
 exact run_fn (us:=.ref a :: us) (vs:=.ref a :: vs) F hr hb hd hx I2 (.cons rfl r) q2
theorem pe_meth0 {pl : Sem Bool} (he : PE X o ta) (c : Cls X.K C) (hm : Meth X.K C m f) (F : FnOk X.prog X.w X.K X.mg X.base CX k f fd ps sp) (hr : Room k X.A) (hb : Binds X.K fd ps ds) (hd : Vals dvs ds) (hx : Passes CX X E)
  (ht : eval (.Call (.Attribute o m apos) [] [] pos) X.env = (do
   let ov <- eval o X.env
   standAt apos.atName
   let (f,first) <- holding [ov] (getMethod ov m pl)
   callWith pos f first (backTo pos (starEach [] X.env)) (backToKw pos (keywordEach [] X.env))):=by rfl) :
  PE X (.Call (.Attribute o m apos) [] [] pos) (tMeth C m sp dvs E ta tNil):=by
 intro pins s σ H Q I h
 refine PySem.W.methodCall_KW (pl:=pl) (thn (he pins s σ H _ I h) fun u s1 ⟨x,H1,I1,rx,a,dx,fs,ex,ea,l,q⟩=>?_) ht
 subst ex
 obtain rfl : u = Value.ref a:=rx
 refine getmeth_ok I1 ea c hm l ?_
 exact PySem.W.callWith_K0 (first:=[.ref a]) I1.kIn hm.kp (run_fn (us:=[.ref a]) (vs:=[.ref a]) F hr hb hd hx I1 (.cons rfl .nil) q)
structure Mk (K : PySem.W.Frag) (C f : Addr) : Prop where
 makes : PySem.W.makesIn K C = true
 init : PySem.W.findIn K (.ref C) "__init__" = some (some (.ref f))
 fn : PySem.W.isFn K (.ref f) = true
 kp : PySem.W.keepIn K (.ref C) = true
theorem run_make {pins : List (Addr × Obj)} {σ : St} {H : Hp} {s : Shared} {Q : VK} {us : List Value} {vs : List V} (M : Mk X.K C f) (F : FnOk X.prog X.w X.K X.mg X.base CX k f fd ps sp) (hr : Room (k + 1) X.A) (hb : Binds X.K fd ps ds) (hd : Vals dvs ds)
  (hx : Passes CX X E) (I : Inv X pins σ H s) (r : Vals vs us)
  (h : ∀ x dx,H x = none -> H dx = none -> dx ≠ x -> sp (.ref x :: (vs ++ dvs)) (upd (upd H dx (.own x)) x (.ins C dx [])) (fun v H2=>v = .non /\ Q (.ref x) H2) E) :
  wpAny (model X.prog X.w) X.A (call (.ref C) us) (EP X pins σ Q) X.xe s:=by
 have hq:=h (s.heap.objs.size + 1) s.heap.objs.size (I.hok.fresh (Nat.le_succ _)) (I.hok.fresh (Nat.le_refl _)) (Nat.ne_of_lt (Nat.lt_succ_self _))
 have I2:=Inv.made (C:=C) I
 have r2 : Vals (V.ref (s.heap.objs.size + 1) :: (vs ++ dvs)) (Value.ref (s.heap.objs.size + 1) :: (us ++ ds)):=.cons rfl (r.append hd)
 have hl : (Value.ref (s.heap.objs.size + 1) :: us ++ ds).length = ps.length:=by
  have e:=r2.length
  rw [F.len _ _ _ _ hq] at e
  exact e.symm
 refine wpAny_call (make_map (f:=f) I.kIn M.makes M.init (beq_iff_eq.mp M.fn) (codeAny_mono (F.run _ X.stack _ _ ⟨Value.ref (s.heap.objs.size + 1) :: us,[]⟩ (Value.ref (s.heap.objs.size + 1) :: (us ++ ds)) _ _ E (hr.make C us [])
  (I2.env0.make C us []) (hb _ (Value.ref (s.heap.objs.size + 1) :: us) I2.kIn hl) r2 hq) fun r s' hq'=>?_))
 cases r with
 | error e=>exact hx pins σ _ _ e s' I2 hq'
 | ok fl =>
  cases fl with
  | ret u =>
   obtain ⟨v,H',I3,rv,ev,q3⟩:=I2.after hq'
   subst ev
   exact ⟨rv,⟨V.ref (s.heap.objs.size + 1),H',I3,rfl,q3⟩⟩
  | next=>exact False.elim hq'
  | brk=>exact False.elim hq'
  | cont=>exact False.elim hq'
theorem pe_make (M : Mk X.K C f) (F : FnOk X.prog X.w X.K X.mg X.base CX k f fd ps sp) (hr : Room (k + 1) X.A) (hg : Gl X x) (hm : X.mg x = some (.ref C)) (hb : Binds X.K fd ps ds) (hd : Vals dvs ds) (hx : Passes CX X E)
  (ha : PA X (e :: es) t) (hdb : (x == ("__debug__" : Str)) = false:=by decide) (he : starEach (e :: es) X.env = (false,eval e X.env) :: starEach es X.env:=by rfl) (hpl : (backTo pos (starEach es X.env)).any (·.1) = false:=by rfl) :
  PE X (.Call (.Name x p) (e :: es) [] pos) (tMake C sp dvs E t):=by
 intro pins s σ H Q I h
 refine wpAny_Call_Name_kw (ld_glob I hg hm ?_ hdb)
 refine PySem.W.callWith_K (h₀:=X.base) I.ok.mod.kin M.kp (thn (ha pos pins s σ H _ I h) fun us s1 ⟨vs,H1,I1,r,q⟩=>⟨I1.kIn,?_⟩) he hpl
 exact run_make M F hr hb hd hx I1 r q
end
section
variable {X : Cx} {CX : CXT} {k : Nat} {f C : Addr} {fd : FuncData} {ps ks : List Str} {sp : Sp} {E : XK} {x m : Str} {p pos apos kpos : Pos} {e o : Expr} {es : List Expr} {kws : List Keyword} {te ta : TE} {t tk : TA} {nm : Option Str}
variable {g : List Value -> List Value -> List Value} {gV : List V -> List V -> List V}
end
structure FnScope (N P : List Str) (sc : Scope) : Prop where
 kind : sc.kind = .function
 co : sc.isCoroutine = false
 gen : sc.isGenerator = false
 nd : N.Nodup
 pre : N.take P.length = P
 par : ∀ x ∈ P,sc.names.lookup x = some .local \/ sc.names.lookup x = some .cell
 nofree : ∀ y ∈ sc.names,y.2 ≠ .free
theorem bindL_out {kindOf : Str -> Option NameKind} {x : Str} : ∀ {binds : List (Str × Value)} {m : Str -> Option Value},(∀ v,(x,v) ∉ binds) -> bindL kindOf binds m x = m x
 | [],_,_=>rfl
 | (n,v) :: r,m,h=>by
  unfold bindL
  rw [bindL_out fun w hw=>h w (List.mem_cons_of_mem _ hw)]
  split
  ·have : x ≠ n:=by rintro rfl; exact h v List.mem_cons_self
   simp [this]
  ·rfl
theorem bindC_out {kindOf : Str -> Option NameKind} {x : Str} : ∀ {binds : List (Str × Value)} {m : Str -> Option Value},(∀ v,(x,v) ∉ binds) -> bindC kindOf binds m x = m x
 | [],_,_=>rfl
 | (n,v) :: r,m,h=>by
  unfold bindC
  rw [bindC_out fun w hw=>h w (List.mem_cons_of_mem _ hw)]
  split
  ·rfl
  ·have : x ≠ n:=by rintro rfl; exact h v List.mem_cons_self
   simp [this]
theorem bindL_get {kindOf : Str -> Option NameKind} {x : Str} {v : Value} : ∀ {P : List Str} {vs : List Value} {i : Nat} {m : Str -> Option Value},P.Nodup -> P[i]? = some x -> vs[i]? = some v -> kindOf x = some .local ->
  bindL kindOf (P.zip vs) m x = some v
 | [],_,_,_,_,h,_,_=>by simp at h
 | _ :: _,[],_,_,_,_,h,_=>by simp at h
 | p :: P,w :: vs,0,m,nd,h1,h2,hk=>by
  simp at h1 h2; subst h1; subst h2
  show bindL kindOf ((p,w) :: P.zip vs) m p = _
  unfold bindL
  rw [bindL_out fun v hv=>(List.nodup_cons.mp nd).1 (List.of_mem_zip hv).1,if_pos hk]
  simp
 | p :: P,w :: vs,i + 1,m,nd,h1,h2,hk=>by
  show bindL kindOf ((p,w) :: P.zip vs) m x = _
  unfold bindL
  exact bindL_get (i:=i) (List.nodup_cons.mp nd).2 (by simpa using h1) (by simpa using h2) hk
theorem bindC_get {kindOf : Str -> Option NameKind} {x : Str} {v : Value} : ∀ {P : List Str} {vs : List Value} {i : Nat} {m : Str -> Option Value},P.Nodup -> P[i]? = some x -> vs[i]? = some v -> kindOf x ≠ some .local ->
  bindC kindOf (P.zip vs) m x = some v
 | [],_,_,_,_,h,_,_=>by simp at h
 | _ :: _,[],_,_,_,_,h,_=>by simp at h
 | p :: P,w :: vs,0,m,nd,h1,h2,hk=>by
  simp at h1 h2; subst h1; subst h2
  show bindC kindOf ((p,w) :: P.zip vs) m p = _
  unfold bindC
  rw [bindC_out fun v hv=>(List.nodup_cons.mp nd).1 (List.of_mem_zip hv).1,if_neg hk]
  simp
 | p :: P,w :: vs,i + 1,m,nd,h1,h2,hk=>by
  show bindC kindOf ((p,w) :: P.zip vs) m x = _
  unfold bindC
  exact bindC_get (i:=i) (List.nodup_cons.mp nd).2 (by simpa using h1) (by simpa using h2) hk
def start (N : List Str) (vs : List V) : St:=vs.map some ++ List.replicate (N.length - vs.length) none
def cxOf (CX : CXT) (P : Program) (w : World) (K : PySem.W.Frag) (mg : Str -> Option Value) (base : Heap) (N : List Str) (qual : Str) (scope : Scope) (f : Addr) (cd : Value) (A : Around) (outer : List Env) (s : Shared) (H : Hp) (E : XK) : Cx where
 prog:=P
 w:=w
 K:=K
 mg:=mg
 base:=base
 A:=A.deeper (envOfC qual scope s.heap.objs.size f cd)
 N:=N
 s₀:=s
 H₀:=H
 env:=envOfC qual scope s.heap.objs.size f cd
 outer:=outer
 stack:=envOfC qual scope s.heap.objs.size f cd :: outer
 ex:=[]
 calm:=true
 fn:=fun _=>true
 pn:=[]
 xe:=fun e s'=>wpAny (model P w) (A.deeper (envOfC qual scope s.heap.objs.size f cd)) (leaving (envOfC qual scope s.heap.objs.size f cd) e) (fun _ s''=>CX outer H s E e s'') (fun e' s''=>CX outer H s E e' s'') s'
theorem cell_has {sc : Scope} {n : Nat} {x : Str} (h : sc.names.lookup x = some .cell) : ∃ c,(cellsFrom n sc.names []).lookup x = some c:=by
 have q:=PySem.W.cellsFrom_some sc.names n [] (.inl h)
 exact Option.isSome_iff_exists.mp q
theorem inv_start {CX : CXT} {P : Program} {w : World} {K : PySem.W.Frag} {mg : Str -> Option Value} {base : Heap} {N ps : List Str} {qual : Str} {scope : Scope} {f : Addr} {cd : Value} {A : Around} {outer : List Env} {s s1 : Shared} {H : Hp} {E : XK} {us : List Value} {vs : List V}
  (S : FnScope N ps scope) (hd : A.handled = none) (e0 : Env0 P w K mg base A outer s H) (hl : vs.length = ps.length) (r : Vals vs us)
  (x : InCallC s s.heap.objs.size (bindL (envOfC qual scope s.heap.objs.size f cd).kindOf (ps.zip us) fun _=>none) (cellsFrom (s.heap.objs.size + 1) scope.names []) (bindC (envOfC qual scope s.heap.objs.size f cd).kindOf (ps.zip us) fun _=>none) s1) :
  Inv (cxOf CX P w K mg base N qual scope f cd A outer s H E) [] (start N vs) H s1:=by
 have hpl : ps.length <= N.length:=by have:=congrArg List.length S.pre; rw [List.length_take] at this; omega
 obtain ⟨h1,tk,rfl,hk⟩:=x.done
 have noA : ∀ b : Addr,b ∉ (cxOf CX P w K mg base N qual scope f cd A outer s H E).ex:=fun b z=>absurd (show b ∈ ([] : List Addr) from z) (by simp)
 refine ⟨⟨e0.mod,S.kind,rfl,rfl,Nat.le_refl _,fun y z c h1 h2=>?_,fun y hy=>?_,fun y c _ h=>?_,fun _=>hd,Around.frames_deeper e0.frames,.inr ⟨rfl,rfl⟩,fun b z=>absurd z (noA b),e0.bs,e0.bsz,fun b _ _=>noA b,fun b z=>absurd z (noA b),e0.funs,e0.frf⟩,
  rfl,e0.bare,Un.kept hk,⟨_,x.toInCall.ns,fun i y v h1 h2 h3=>?_⟩,fun y c h=>⟨_,x.cell y c h⟩,e0.hok.fresh (Nat.le_refl _),fun y c h=>?_,fun p hp=>absurd (show p ∈ ([] : List (Addr × Obj)) from hp) (by simp),e0.hok.kept hk,?_⟩
 ·exact name_of_addr x.apart (PySem.mem_of_lookup h1) (PySem.mem_of_lookup h2)
 ·have hy : scope.names.lookup y = some .cell \/ scope.names.lookup y = some .free:=hy
  rcases hy with hy | hy
  ·exact cell_has hy
  ·exact absurd rfl (S.nofree _ (PySem.mem_of_lookup hy))
 ·exact Nat.le_of_lt (x.above y c (PySem.mem_of_lookup h))
 ·have hi : i < vs.length:=by
   unfold start at h2
   by_cases hi : i < vs.length
   ·exact hi
   ·rw [List.getElem?_append_right (by simpa using hi)] at h2
    rw [List.getElem?_replicate] at h2
    split at h2 <;> cases h2
  have ha : vs[i]? = some v:=by
   unfold start at h2
   rw [List.getElem?_append_left (by simpa using hi),List.getElem?_map] at h2
   cases e : vs[i]? with
   | none=>rw [e] at h2; cases h2
   | some a=>rw [e] at h2; cases h2; rfl
  obtain ⟨u,hu,rv⟩:=r.get ha
  have hp : ps[i]? = some y:=by
   rw [<- S.pre,List.getElem?_take_of_lt (by omega)]; exact h1
  have ndP : ps.Nodup:=by rw [<- S.pre]; exact S.nd.sublist (List.take_sublist _ _)
  refine ⟨u,rv,?_⟩
  rcases S.par y (List.mem_of_getElem? hp) with k | k
  ·exact .inl ⟨k,bindL_get ndP hp hu k⟩
  ·obtain ⟨c,e⟩:=cell_has (n:=s.heap.objs.size + 1) k
   refine .inr ⟨.inl k,c,e,?_⟩
   have q:=x.cell y c e
   rw [bindC_get ndP hp hu (by show scope.names.lookup y ≠ _; rw [k]; decide)] at q
   exact q
 ·exact e0.hok.fresh (Nat.le_of_lt (x.above y c (PySem.mem_of_lookup h)))
 ·unfold start
  show _ = N.length
  rw [List.length_append,List.length_map,List.length_replicate]
  omega
theorem fn_of {CX : CXT} {P : Program} {w : World} {K : PySem.W.Frag} {mg : Str -> Option Value} {base : Heap} {k : Nat} {f : Addr} {name qual : Str} {params : Arguments} {body : List Stmt} {scope : Scope} {dV kV doc pm cdv ct oc : Value} {an od : Option Addr}
  {osl : Array (Option Value)} {N ps : List Str} {sp : Sp} (lk : K.lookup f = some ⟨oc,od,.func (PySem.W.fnOf name qual params body scope dV kV doc pm an cdv ct),osl⟩) (hcd : PySem.W.codeIn K cdv qual = true) (S : FnScope N ps scope)
  (len : ∀ vs H Q E,sp vs H Q E -> vs.length = ps.length)
  (hbody : ∀ (A : Around) (outer : List Env) (s : Shared) (H : Hp) (vs : List V) (Q : VK) (E : XK),Room k (A.deeper (envOfC qual scope s.heap.objs.size f cdv)) -> sp vs H Q E ->
   ∃ t,PSs (cxOf CX P w K mg base N qual scope f cdv A outer s H E) body t /\ t { nx:=fun _ H'=>Q .non H',rt:=Q } (start N vs) H) :
  FnOk P w K mg base CX (k + 1) f (PySem.W.fnOf name qual params body scope dV kV doc pm an cdv ct) ps sp:=by
 refine ⟨len,fun A outer s H args us vs Q E hr e0 hb r hsp=>?_⟩
 have hl:=len _ _ _ _ hsp
 have KX : K.In s.heap:=e0.mod.kin.keeps fun b o e=>(e0.bs b o e).1
 have lim : s.heap.NoLimit:=e0.mod.nolimit.keeps fun b o e=>(e0.bs b o e).1
 have hkind : ∀ y ∈ ps.zip us,scope.names.lookup y.1 = some .local \/ (scope.names.lookup y.1 = some .cell /\ ((cellsFrom (s.heap.objs.size + 1) scope.names []).lookup y.1).isSome = true):=fun ⟨n,v⟩ hy=>by
  rcases S.par n (List.of_mem_zip hy).1 with q | q
  ·exact .inl q
  ·exact .inr ⟨q,PySem.W.cellsFrom_some _ _ _ (.inl q)⟩
 refine codeAny_call_function hr.depth (KX _ _ lk) rfl S.co S.gen rfl (PySem.W.codeRec_of KX hcd) (hb _ _ _ _ ?_)
 refine wpAny_newFunctionEnv_cells S.kind hkind fun env he s1 x=>?_
 subst he
 refine ⟨lim.keeps x.toInCall.keep,codeAny_func ?_⟩
 obtain ⟨t,ht,hq⟩:=hbody A outer s H vs Q E (hr.deeper _) hsp
 have I : Inv (cxOf CX P w K mg base N qual scope f cdv A outer s H E) [] (start N vs) H s1:=inv_start S hr.hd e0 hl r x
 refine wpAny_mono (ht [] s1 (start N vs) H _ I hq) (fun fl s' hs=>?_) fun e s' hs=>hs
 have fin : ∀ {σ' : St} {H' : Hp} {v : V} {u : Value},Inv (cxOf CX P w K mg base N qual scope f cdv A outer s H E) [] σ' H' s' -> RelV v u -> Q v H' -> CE outer P w H s Q u s' :=
  fun {σ' H' v u} J rv q=>⟨v,H',J.os,J.bare,J.base,J.hok,rv,q⟩
 cases fl with
 | ret u =>
  obtain ⟨v,σ',H',J,rv,q⟩:=hs
  exact fin J rv q
 | next =>
  obtain ⟨σ',H',J,q⟩:=hs
  exact fin (v:=V.non) (u:=Value.none) J rfl q
 | brk =>
  obtain ⟨_,_,_,q⟩:=hs
  exact False.elim q
 | cont =>
  obtain ⟨_,_,_,q⟩:=hs
  exact False.elim q
end L2
namespace L2
open PySem PySem.Spec PyProof.Rows
section
variable {X : Cx} {x : Str} {p pos : Pos} {e : Expr} {es : List Expr} {t : TA} {id T : String} {r : List V -> Hp -> VK -> Prop}
def tCB (r : List V -> Hp -> VK -> Prop) (t : TA) : TE:=fun σ H Q=>t σ H fun vs H1=>r vs H1 Q
theorem pe_callB (hc : CallR X (.builtin id) r) (hg : Gl X x) (hm : X.mg x = none) (hv : bootBuiltins x = some (.builtin id)) (ha : PA X (e :: es) t) (hn : x ≠ "__name__":=by decide) (hdb : (x == ("__debug__" : Str)) = false:=by decide)
  (he : starEach (e :: es) X.env = (false,eval e X.env) :: starEach es X.env:=by rfl) (hpl : (backTo pos (starEach es X.env)).any (·.1) = false:=by rfl) : PE X (.Call (.Name x p) (e :: es) [] pos) (tCB r t):=by
 intro pins s σ H Q I h
 refine wpAny_Call_Name_kw (ld_blt I hg hm hv ?_ hn hdb)
 exact PyProof.Rows.callWith_builtin1 (thn (ha pos pins s σ H _ I h) fun us s1 ⟨vs,H1,I1,r1,q1⟩=>hc pins s1 σ H1 vs us Q I1 r1 q1) he hpl
theorem pe_callTy (hc : CallR X (.type T) r) (hg : Gl X x) (hm : X.mg x = none) (hv : bootBuiltins x = some (.type T)) (ha : PA X (e :: es) t) (hn : x ≠ "__name__":=by decide) (hdb : (x == ("__debug__" : Str)) = false:=by decide)
  (he : starEach (e :: es) X.env = (false,eval e X.env) :: starEach es X.env:=by rfl) (hpl : (backTo pos (starEach es X.env)).any (·.1) = false:=by rfl) : PE X (.Call (.Name x p) (e :: es) [] pos) (tCB r t):=by
 intro pins s σ H Q I h
 refine wpAny_Call_Name_kw (ld_blt I hg hm hv ?_ hn hdb)
 exact PyProof.Rows.callWith_type1 (thn (ha pos pins s σ H _ I h) fun us s1 ⟨vs,H1,I1,r1,q1⟩=>hc pins s1 σ H1 vs us Q I1 r1 q1) he hpl
end
end L2
namespace HT
open PySem PyProof.Rows
section
open PySem.SeqAt
open PySem.AutoSeq1 (wpAny_loadPart')
open PySem.MeetsSeq PySem.MeetsSeq2 PySem.MeetsSeq3
end
section
variable {prog : Program} {w : World} {A : Around} {E : Value -> Shared -> Prop} {s : Shared}
def sIx (n d : Nat) : Option Int -> Nat
 | none=>d
 | some v=>if v < 0 then (v + (n : Int)).toNat else min v.toNat n
theorem sIx_nat (n d k : Nat) : sIx n d (some (k : Int)) = min k n:=by
 show (if (k : Int) < 0 then ((k : Int) + (n : Int)).toNat else min (k : Int).toNat n) = min k n
 rw [if_neg (by omega),Int.toNat_natCast]
end
end HT
namespace L2
open PySem PySem.Spec PyProof.Rows
abbrev TO:=St -> Hp -> (Option Int -> Hp -> Prop) -> Prop
def PO (X : Cx) (e : Option Expr) (t : TO) : Prop :=
 ∀ (pins : List (Addr × Obj)) (s : Shared) (σ : St) (H : Hp) (Q : Option Int -> Hp -> Prop),Inv X pins σ H s -> t σ H Q ->
  wpAny (model X.prog X.w) X.A (evalPart e X.env) (fun u s'=>∃ o H',Inv X pins σ H' s' /\ IsPart u o /\ Q o H') X.xe s
def tPart (t : TE) : TO:=fun σ H Q=>t σ H fun x H1=>∃ i,x = .int i /\ Q (some i) H1
theorem intsAre_of {ns : List Int} : ∀ {us : List Value},Vals (ns.map V.int) us -> IntsAre us ns:=by
 induction ns with
 | nil=>intro us r; rw [List.map_nil] at r; cases r; exact .nil
 | cons n ns ih =>
  intro us r
  rw [List.map_cons] at r
  cases r with
  | cons r1 r2 =>
   obtain ⟨t,e⟩:=r1
   subst e
   exact .cons n t (ih r2)
section
variable {X : Cx} {e : Expr} {te : TE} {lo hi : Option Expr} {tl th : TO} {pos p2 : Pos}
theorem po_some (h : PE X e te) : PO X (some e) (tPart te):=by
 intro pins s σ H Q I hw
 rw [evalPart_some]
 refine thn (h pins s σ H _ I hw) fun u s1 ⟨x,H1,I1,r1,q1⟩=>?_
 obtain ⟨i,rfl,q⟩:=q1
 obtain ⟨t,rfl⟩:=r1
 exact ⟨some i,H1,I1,.int i t,q⟩
def SlR (X : Cx) (r : V -> Option Int -> Option Int -> Hp -> VK -> Prop) : Prop :=
 ∀ (pins : List (Addr × Obj)) (s : Shared) (σ : St) (H : Hp) (x : V) (v vl vu : Value) (lo hi : Option Int) (sl : Addr) (Q : VK),Inv X pins σ H s -> RelV x v -> s.heap.IsSliceOf sl vl vu .none -> IsPart vl lo -> IsPart vu hi -> r x lo hi H Q ->
  ∃ T id,typeLookup (.type T) "__getitem__" = pure (some (.builtin id)) /\ s.TypeIs v T /\ wpAny (model X.prog X.w) X.A (getItem v (.ref sl)) (EP X pins σ Q) X.xe s
def tSl (r : V -> Option Int -> Option Int -> Hp -> VK -> Prop) (te : TE) (tl th : TO) : TE:=fun σ H Q=>te σ H fun x H1=>tl σ H1 fun l H2=>th σ H2 fun u H3=>r x l u H3 Q
theorem pe_slice {r : V -> Option Int -> Option Int -> Hp -> VK -> Prop} (hr : SlR X r) (he : PE X e te) (hl : PO X lo tl) (hu : PO X hi th) : PE X (.Subscript e (.Slice lo hi none p2) pos) (tSl r te tl th):=by
 intro pins s σ H Q I h
 refine Subscript_ (thn (he pins s σ H _ I h) fun v s1 ⟨x,H1,I1,r1,q1⟩=>?_)
 refine wpAny_Slice (thn (hl pins s1 σ H1 _ I1 q1) fun vl s2 ⟨l,H2,I2,pl,q2⟩=>thn (hu pins s2 σ H2 _ I2 q2) fun vu s3 ⟨u,H3,I3,pu,q3⟩=>?_)
 rw [evalPart_none]
 refine wpAny_pure ?_
 have I4 : Inv X pins σ H3 { s3 with heap:=s3.heap.push { cls:=.type "slice",data:=.fields #[vl,vu,.none] } }:=I3.kept (t':=s3.toks) fun b ob q=>Heap.get?_push_of_some _ q
 obtain ⟨T,id,hT,ht,hg⟩:=hr pins { s3 with heap:=s3.heap.push { cls:=.type "slice",data:=.fields #[vl,vu,.none] } } σ H3 x v vl vu l u s3.heap.objs.size Q I4 r1 (Heap.IsSliceOf.new ..) pl pu q3
 show wpAny (model X.prog X.w) X.A (subscriptTail e (.Slice lo hi none p2) v (.ref s3.heap.objs.size)) (EP X pins σ Q) X.xe { s3 with heap:=s3.heap.push { cls:=.type "slice",data:=.fields #[vl,vu,.none] } }
 exact tail_any (ops:=[.ref s3.heap.objs.size,v]) ht hT hg (by with_unfolding_all rfl)
def cutV (xs : List V) (lo hi : Option Int) : List V:=(xs.drop (HT.sIx xs.length 0 lo)).take (HT.sIx xs.length xs.length hi - HT.sIx xs.length 0 lo)
theorem cutV_length (xs : List V) (lo hi : Option Int) : (cutV xs lo hi).length <= xs.length:=by
 unfold cutV
 rw [List.length_take,List.length_drop]
 omega
end
end L2
namespace L2
open PySem PySem.Spec PyProof.Rows
def ixN (n : Nat) (i : Int) : Option Nat:=if 0 <= i then (if i < n then some i.toNat else none) else if -(n : Int) <= i then some (i + n).toNat else none
def atI {α : Type} (xs : List α) (i : Int) : Option α:=(ixN xs.length i).bind fun j=>xs[j]?
theorem ixN_seq {n : Nat} {i : Int} {j : Nat} (h : ixN n i = some j) : seqIndex? i n = some j /\ j < n /\ -(n : Int) <= i /\ i < n:=by
 unfold ixN at h
 by_cases h0 : 0 <= i
 ·rw [if_pos h0] at h
  by_cases h1 : i < n
  ·rw [if_pos h1] at h
   have e : i.toNat = j:=Option.some.inj h
   exact ⟨by rw [seqIndex_of h0 h1,e],by omega,by omega,h1⟩
  ·rw [if_neg h1] at h; cases h
 ·rw [if_neg h0] at h
  by_cases h1 : -(n : Int) <= i
  ·rw [if_pos h1] at h
   have e : (i + n).toNat = j:=Option.some.inj h
   exact ⟨by rw [seqIndex_neg (by omega) h1,e],by omega,h1,by omega⟩
  ·rw [if_neg h1] at h; cases h
theorem atI_get {α : Type} {xs : List α} {i : Int} {v : α} (h : atI xs i = some v) : ∃ j,seqIndex? i xs.length = some j /\ xs[j]? = some v /\ j < xs.length /\ -(xs.length : Int) <= i /\ i < xs.length:=by
 unfold atI at h
 cases e : ixN xs.length i with
 | none=>rw [e] at h; cases h
 | some j =>
  rw [e] at h
  obtain ⟨h1,h2,h3,h4⟩:=ixN_seq e
  exact ⟨j,h1,h,h2,h3,h4⟩
theorem atI_nat {α : Type} {xs : List α} {j : Nat} {v : α} (h : xs[j]? = some v) : atI xs (j : Int) = some v:=by
 have hj : j < xs.length:=(List.getElem?_eq_some_iff.mp h).1
 have e : ixN xs.length (j : Int) = some j:=by
  unfold ixN
  rw [if_pos (by omega),if_pos (by omega)]; simp
 unfold atI; rw [e]; exact h
def PlainIx (b : Expr) : Prop:=∀ o i,subscripted b false o i = operate [o,i] (getItem o i)
def IxR (X : Cx) (r : R2) : Prop :=
 ∀ (value slice : Expr) (pins : List (Addr × Obj)) (s : Shared) (σ : St) (H : Hp) (x y : V) (v u : Value) (Q : VK),Inv X pins σ H s -> RelV x v -> RelV y u -> r x y H Q ->
  subscripted slice false v u = operate [v,u] (getItem v u) -> wpAny (model X.prog X.w) X.A (subscriptTail value slice v u) (EP X pins σ Q) X.xe s
def MtR (X : Cx) (id : String) (r : V -> List V -> Hp -> VK -> Prop) : Prop :=
 ∀ (pins : List (Addr × Obj)) (s : Shared) (σ : St) (H : Hp) (x : V) (xs : List V) (v : Value) (us : List Value) (Q : VK),Inv X pins σ H s -> RelV x v -> Vals xs us -> r x xs H Q ->
  wpAny (model X.prog X.w) X.A (call (.builtin id) (v :: us)) (EP X pins σ Q) X.xe s
section
variable {X : Cx} {a b : Expr} {ta tb : TE} {pos : Pos}
theorem pe_ix {r : R2} (hr : IxR X r) (ha : PE X a ta) (hb : PE X b tb) (hs : PlainIx b) : PE X (.Subscript a b pos) (tOp r ta tb):=by
 intro pins s σ H Q I h
 exact Subscript_ (binT ha hb I h fun v u s2 x y H2 I2 rx ry q=>hr a b pins s2 σ H2 x y v u Q I2 rx ry q (hs _ _))
def rIxL (K : PySem.W.Frag) : R2:=fun x y H Q=>∃ p xs i v,x = .ref p /\ y = .int i /\ SqL K H p xs /\ atI xs i = some v /\ Q v H
def rIxT (K : PySem.W.Frag) : R2:=fun x y H Q=>∃ p xs i v,x = .ref p /\ y = .int i /\ SqT K H p xs /\ atI xs i = some v /\ Q v H
theorem ix_list : IxR X (rIxL X.K):=by
 intro value slice pins s σ H x y v u Q I rx ry h hs
 obtain ⟨p,xs,i,z,rfl,rfl,hq,he,q⟩:=h
 cases rx
 obtain ⟨t,rfl⟩:=ry
 obtain ⟨its,r,pl,hz⟩:=I.list hq
 obtain ⟨j,h1,h2,h3,h4,h5⟩:=atI_get he
 obtain ⟨w,ew,rw'⟩:=r.get h2
 have hl:=r.length
 have hn:=line63
 have fin : EP X pins σ Q w s:=⟨z,H,I,rw',q⟩
 by_cases h0 : 0 <= i
 ·have hj : i.toNat = j:=by
   rw [seqIndex_of h0 h5] at h1
   exact Option.some.inj h1
  exact item_listR pl.isList h0 (by omega) (by rw [hj]; simpa using ew) fin hs
 ·have hj : (i + (its.toArray.size : Int)).toNat = j:=by
   rw [seqIndex_neg (by omega) h4] at h1
   rw [List.size_toArray,<- hl]
   exact Option.some.inj h1
  exact subscriptTail_builtinR (x:=w) pl.isList.typeIs slot_list_getitem.lookup
   (wpAny_getItem_list_neg (Q:=fun r s'=>r = w /\ EP X pins σ Q r s') pl.isList (by omega) (by rw [List.size_toArray] <;> omega) (by omega) (by rw [hj]; simpa using ew) ⟨rfl,fin⟩) hs
theorem ix_tup : IxR X (rIxT X.K):=by
 intro value slice pins s σ H x y v u Q I rx ry h hs
 obtain ⟨p,xs,i,z,rfl,rfl,hq,he,q⟩:=h
 cases rx
 obtain ⟨t,rfl⟩:=ry
 obtain ⟨its,r,pl,hz⟩:=I.tuple hq
 obtain ⟨j,h1,h2,h3,h4,h5⟩:=atI_get he
 obtain ⟨w,ew,rw'⟩:=r.get h2
 have hl:=r.length
 have hn:=line63
 have fin : EP X pins σ Q w s:=⟨z,H,I,rw',q⟩
 exact subscriptTail_builtinR (x:=w) pl.typeIs slot_tuple_getitem.lookup
  (getItem_tuple (j:=j) (Q:=fun r s'=>r = w /\ EP X pins σ Q r s') pl (by omega) (by omega) (by rw [List.size_toArray,<- hl]; exact h1) (by simpa using ew) ⟨rfl,fin⟩) hs
theorem mapSeq_set (its : List Value) (n j : Nat) (u : Value) : Obj.mapSeq (·.setIfInBounds j u) { cls:=.type "list",data:=.seq its.toArray n } = { cls:=.type "list",data:=.seq (its.set j u).toArray n }:=by
 simp [Obj.mapSeq]
theorem Inv.lst {pins : List (Addr × Obj)} {σ : St} {H : Hp} {s : Shared} {p : Addr} {xs : List V} (I : Inv X pins σ H s) (h : H p = some (.lst xs)) :
  ∃ (its : List Value) (n : Nat),Vals xs its /\ s.heap.get? p = some { cls:=.type "list",data:=.seq its.toArray n } /\ xs.length <= sizeLine:=by
 obtain ⟨z,its,n,r,e⟩:=I.hok p _ h
 exact ⟨its,n,r,e,z⟩
theorem Inv.lstUpd {pins : List (Addr × Obj)} {σ : St} {H : Hp} {s : Shared} {p : Addr} {xs ys : List V} {its its' : List Value} {n n' : Nat} {f : Obj -> Obj} (I : Inv X pins σ H s) (h : H p = some (.lst xs))
  (ho : s.heap.get? p = some { cls:=.type "list",data:=.seq its.toArray n }) (hf : f { cls:=.type "list",data:=.seq its.toArray n } = { cls:=.type "list",data:=.seq its'.toArray n' }) (r : Vals ys its') (hz : ys.length <= sizeLine) (t : Nat) :
  Inv X pins σ (upd H p (.lst ys)) { s with heap:=s.heap.update p f,toks:=t }:=by
 have e : (s.heap.update p f).get? p = some { cls:=.type "list",data:=.seq its'.toArray n' }:=by
  rw [Heap.get?_update_self f ho (by rw [hf] <;> rfl),hf]
 refine I.write (x:=p) (e:=p) (by rw [h]; trivial) (.inl rfl) (fun b u hb q=>(Heap.get?_update_other _ _ (Ne.symm hb)).trans q) ⟨_,e⟩ ?_
 exact ⟨hz,its',n',r,e⟩
def rSetL : V -> V -> V -> Hp -> (Hp -> Prop) -> Prop:=fun o i v H Q=>∃ p xs k j,o = .ref p /\ i = .int k /\ H p = some (.lst xs) /\ ixN xs.length k = some j /\ Q (upd H p (.lst (xs.set j v)))
theorem set_list : PSet X rSetL:=by
 intro pins s σ H o i v ov iv u Q I ro ri rv h
 obtain ⟨p,xs,k,j,rfl,rfl,hp,hj,q⟩:=h
 cases ro
 obtain ⟨t,rfl⟩:=ri
 obtain ⟨its,n,r,ho,hz⟩:=I.lst hp
 obtain ⟨h1,h2,h3,h4⟩:=ixN_seq hj
 have hl:=r.length
 have hn:=line63
 have I' : Inv X pins σ (upd H p (.lst (xs.set j v))) { s with heap:=s.heap.update p (Obj.mapSeq (·.setIfInBounds j u)) } :=
  I.lstUpd hp ho (mapSeq_set its n j u) (r.set rv j) (by rw [List.length_set]; exact hz) s.toks
 by_cases h0 : 0 <= k
 ·have hk : k.toNat = j:=by
   rw [seqIndex_of h0 h4] at h1
   exact Option.some.inj h1
  exact PySem.W.ki_setAt ho h0 (by omega) (by rw [List.size_toArray,<- hl]; exact h4) (by rw [hk]; exact ⟨_,I',q⟩)
 ·have hk : (k + (its.toArray.size : Int)).toNat = j:=by
   rw [seqIndex_neg (by omega) h3] at h1
   rw [List.size_toArray,<- hl]
   exact Option.some.inj h1
  exact PySem.W.ki_setBack ho (by omega) (by rw [List.size_toArray,<- hl]; exact h3) (by omega) (by rw [hk]; exact ⟨_,I',q⟩)
theorem slice_bounds (lo hi : Option Int) (n : Nat) : (sliceBounds lo hi none n).1 = ((HT.sIx n 0 lo : Nat) : Int) /\ (sliceBounds lo hi none n).2.1 = ((HT.sIx n n hi : Nat) : Int) /\ (sliceBounds lo hi none n).2.2 = 1:=by
 refine ⟨?_,?_,rfl⟩
 ·cases lo with
  | none=>simp [sliceBounds,HT.sIx]
  | some i =>
   simp only [sliceBounds,HT.sIx,Option.getD_none,show (1 : Int) > 0 by decide,if_true]
   by_cases h : i < 0
   ·simp only [h,if_true] <;> omega
   ·simp only [h,if_false] <;> omega
 ·cases hi with
  | none=>simp [sliceBounds,HT.sIx]
  | some i =>
   simp only [sliceBounds,HT.sIx,Option.getD_none,show (1 : Int) > 0 by decide,if_true]
   by_cases h : i < 0
   ·simp only [h,if_true] <;> omega
   ·simp only [h,if_false] <;> omega
theorem slicePick_cut (its : List Value) (lo hi : Option Int) : slicePick its.toArray lo hi none = ((its.drop (HT.sIx its.length 0 lo)).take (HT.sIx its.length its.length hi - HT.sIx its.length 0 lo)).toArray:=by
 obtain ⟨h1,h2,h3⟩:=slice_bounds lo hi its.toArray.size
 unfold slicePick
 rw [h1,h2,h3]
 simp only [sliceRange_one,pick_run,List.size_toArray] <;> rfl
def rSlL (K : PySem.W.Frag) : V -> Option Int -> Option Int -> Hp -> VK -> Prop:=fun x lo hi H Q=>∃ a xs,x = .ref a /\ SqL K H a xs /\ ∀ p,H p = none -> Q (.ref p) (upd H p (.lst (cutV xs lo hi)))
theorem sl_list : SlR X (rSlL X.K):=by
 intro pins s σ H x v vl vu lo hi sl Q I rx hs pl pu h
 obtain ⟨a,xs,rfl,hx,q⟩:=h
 cases rx
 obtain ⟨its,r,ht,hz⟩:=I.list hx
 have hlen:=r.length
 refine ⟨"list",_,slot_list_getitem.lookup,ht.isList.typeIs,?_⟩
 refine wpAny_getItem_list_slice ht.isList hs pl pu .none (by simp) ?_ (by rw [List.size_toArray] <;> omega)
 rw [slicePick_cut,<- hlen]
 refine ⟨.ref s.heap.objs.size,_,I.laid (t':=s.toks) (o:=.lst (cutV xs lo hi)) (fun b ob q=>Heap.get?_push_of_some _ q) (Nat.le_refl _) ?_,rfl,q _ (I.hok.fresh (Nat.le_refl _))⟩
 exact ⟨Nat.le_trans (cutV_length xs lo hi) hz,_,0,(r.drop (HT.sIx xs.length 0 lo)).take (HT.sIx xs.length xs.length hi - HT.sIx xs.length 0 lo),Heap.get?_push_size _ rfl⟩
def flatV : V -> Bool
 | .non=>true
 | .bl _=>true
 | .int _=>true
 | .str _=>true
 | _=>false
def eqV : V -> V -> Bool
 | .non,.non=>true
 | .bl a,.bl b=>a == b
 | .bl a,.int b=>(if a then 1 else 0) == b
 | .int a,.bl b=>a == (if b then 1 else 0)
 | .int a,.int b=>a == b
 | .str a,.str b=>a == b
 | _,_=>false
theorem eqAt_V {A : Around} {s : Shared} {y x : V} {u v : Value} (ry : RelV y u) (rx : RelV x v) (fy : flatV y = true) (fx : flatV x = true) : SeqAt.EqAt A s u v (eqV y x):=by
 cases y with
 | non =>
  cases ry
  cases x with
  | non=>cases rx; exact SeqAt.EqAt.same _
  | bl b=>cases rx; exact SeqAt.EqAt.none_bool b
  | int b=>obtain ⟨t,rfl⟩:=rx; exact SeqAt.EqAt.none_int b t
  | str b=>obtain ⟨t,rfl⟩:=rx; exact SeqAt.EqAt.none_str b t
  | _=>exact absurd (show false = true from fx) Bool.false_ne_true
 | bl a =>
  cases ry
  cases x with
  | non=>cases rx; exact SeqAt.EqAt.bool_none a
  | bl b=>cases rx; exact SeqAt.EqAt.bool_bool a b
  | int b=>obtain ⟨t,rfl⟩:=rx; exact SeqAt.EqAt.bool_int a b t
  | str b=>obtain ⟨t,rfl⟩:=rx; exact SeqAt.EqAt.bool_str a b t
  | _=>exact absurd (show false = true from fx) Bool.false_ne_true
 | int a =>
  obtain ⟨t',rfl⟩:=ry
  cases x with
  | non=>cases rx; exact SeqAt.EqAt.int_none a t'
  | bl b=>cases rx; exact SeqAt.EqAt.int_bool a t' b
  | int b=>obtain ⟨t,rfl⟩:=rx; exact SeqAt.EqAt.int_int a t' b t
  | str b=>obtain ⟨t,rfl⟩:=rx; exact SeqAt.EqAt.int_str a t' b t
  | _=>exact absurd (show false = true from fx) Bool.false_ne_true
 | str a =>
  obtain ⟨t',rfl⟩:=ry
  cases x with
  | non=>cases rx; exact SeqAt.EqAt.str_none a t'
  | bl b=>cases rx; exact SeqAt.EqAt.str_bool a t' b
  | int b=>obtain ⟨t,rfl⟩:=rx; exact SeqAt.EqAt.str_int a t' b t
  | str b=>obtain ⟨t,rfl⟩:=rx; exact SeqAt.EqAt.str_str a t' b t
  | _=>exact absurd (show false = true from fx) Bool.false_ne_true
 | _=>exact absurd (show false = true from fy) Bool.false_ne_true
def eqU (x : V) (u : Value) : Bool:=match u with
 | .none=>eqV .non x
 | .bool b=>eqV (.bl b) x
 | .int i _=>eqV (.int i) x
 | .str z _=>eqV (.str z) x
 | _=>false
theorem eqU_of {x y : V} {u : Value} (r : RelV y u) (f : flatV y = true) : eqU x u = eqV y x:=by
 cases y with
 | non=>cases r; rfl
 | bl b=>cases r; rfl
 | int i=>obtain ⟨t,rfl⟩:=r; rfl
 | str z=>obtain ⟨t,rfl⟩:=r; rfl
 | _=>exact absurd (show false = true from f) Bool.false_ne_true
theorem any_eqU {x : V} : ∀ {xs : List V} {us : List Value},Vals xs us -> xs.all flatV = true -> us.any (eqU x) = xs.any fun y=>eqV y x
 | _,_,.nil,_=>rfl
 | y :: xs,u :: us,.cons r t,f=>by
  rw [List.all_cons,Bool.and_eq_true] at f
  rw [List.any_cons,List.any_cons,eqU_of r f.1,any_eqU t f.2]
theorem mem_eqAt {A : Around} {s : Shared} {x : V} {v : Value} (rx : RelV x v) (fx : flatV x = true) : ∀ {xs : List V} {us : List Value},Vals xs us -> xs.all flatV = true -> ∀ u ∈ us,SeqAt.EqAt A s u v (eqU x u)
 | _,_,.nil,_=>fun u hu=>by cases hu
 | y :: xs,u :: us,.cons r t,f=>fun u' hu=>by
  rw [List.all_cons,Bool.and_eq_true] at f
  rcases List.mem_cons.mp hu with rfl | hu
  ·rw [eqU_of r f.1]; exact eqAt_V r rx f.1 fx
  ·exact mem_eqAt rx fx t f.2 u' hu
def inV (x : V) (xs : List V) : Bool:=xs.any fun y=>eqV y x
def rIn (K : PySem.W.Frag) (neg : Bool) : R2:=fun x y H Q=>∃ p xs,y = .ref p /\ (SqL K H p xs \/ SqT K H p xs) /\ flatV x = true /\ xs.all flatV = true /\ Q (.bl (if neg then !inV x xs else inV x xs)) H
theorem op_in_seq : OpR X (compareOp .In) (rIn X.K false):=by
 intro pins s σ H x y v u Q I rx ry h
 obtain ⟨p,xs,rfl,hq,fx,fs,q⟩:=h
 cases ry
 rcases hq with hq | hq
 ·obtain ⟨its,r,pl,hz⟩:=I.list hq
  refine SeqAt.in_listAt (eqU x) pl.isList (fun w hw=>mem_eqAt rx fx r fs w (by simpa using hw)) ⟨.bl _,H,I,rfl,?_⟩
  rw [show its.toArray.any (eqU x) = its.any (eqU x) by simp,any_eqU r fs]
  exact q
 ·obtain ⟨its,r,pl,hz⟩:=I.tuple hq
  refine SeqAt.in_tupleAt (eqU x) pl (fun w hw=>mem_eqAt rx fx r fs w (by simpa using hw)) ⟨.bl _,H,I,rfl,?_⟩
  rw [show its.toArray.any (eqU x) = its.any (eqU x) by simp,any_eqU r fs]
  exact q
theorem call_len_seq : CallR X (.builtin "len") (fun xs H Q=>∃ p ys,xs = [.ref p] /\ (SqL X.K H p ys \/ SqT X.K H p ys) /\ Q (.int ys.length) H):=by
 intro pins s σ H xs us Q I r h
 obtain ⟨p,ys,rfl,hq,q⟩:=h
 obtain ⟨u,rfl,rx⟩:=vals1 r
 cases rx
 have hn:=line63
 rcases hq with hq | hq
 ·obtain ⟨its,r',pl,hz⟩:=I.list hq
  have hlen:=r'.length
  exact Calls.call_len_list pl.isList (by simp only [List.size_toArray] <;> omega) ⟨.int ys.length,H,I.tok _,⟨s.toks + 1,by rw [List.size_toArray,hlen]⟩,q⟩
 ·obtain ⟨its,r',pl,hz⟩:=I.tuple hq
  have hlen:=r'.length
  exact len_tuple pl (by simp only [List.size_toArray] <;> omega) ⟨.int ys.length,H,I.tok _,⟨s.toks + 1,by rw [List.size_toArray,hlen]⟩,q⟩
theorem call_tuple_of : CallR X (.type "tuple") (fun xs H Q=>∃ p ys,xs = [.ref p] /\ ((SqL X.K H p ys /\ ∀ l,H l = none -> Q (.ref l) (upd H l (.tup ys))) \/ (SqT X.K H p ys /\ Q (.ref p) H))):=by
 intro pins s σ H xs us Q I r h
 obtain ⟨p,ys,rfl,h⟩:=h
 obtain ⟨u,rfl,rx⟩:=vals1 r
 cases rx
 rcases h with ⟨hq,q⟩ | ⟨hq,q⟩
 ·obtain ⟨its,r',pl,hz⟩:=I.list hq
  have hlen:=r'.length
  refine call_tuple_list pl.isList (fun h' kp=>?_) (by simp only [List.size_toArray] <;> omega)
  have I1 : Inv X pins σ H { s with heap:=h' }:=I.kept (t':=s.toks) kp
  have I2 : Inv X pins σ (upd H h'.objs.size (.tup ys)) { s with heap:=h'.push { cls:=.type "tuple",data:=.seq its.toArray } } :=
   I1.laid (t':=s.toks) (fun b o e=>Heap.get?_push_of_some _ e) (Nat.le_refl _) (show ObjOk X.prog X.w _ _ _ (.tup ys) from ⟨hz,its,r',IsTup.new _ _⟩)
  exact ⟨.ref h'.objs.size,_,I2,rfl,q _ (I1.hok.fresh (Nat.le_refl _))⟩
 ·obtain ⟨its,r',pl,hz⟩:=I.tuple hq
  exact call_tuple_same pl ⟨.ref p,H,I,rfl,q⟩
def tyV (K : PySem.W.Frag) (T : String) (x : V) (H : Hp) : Prop:=match x with
 | .str _=>T = "str"
 | .int _=>T = "int"
 | .ref p=>(T = "list" /\ ∃ xs,SqL K H p xs) \/ (T = "tuple" /\ ∃ o,K.lookup p = some o /\ o.cls = .type "tuple" /\ o.dict = none) \/
   (T = "dict" /\ ((∃ kvs,H p = some (.dK kvs)) \/ ∃ kvs,H p = some (.dT kvs))) \/ (T = "set" /\ ∃ S n,H p = some (.set S n))
 | _=>False
theorem tyV_is {pins : List (Addr × Obj)} {σ : St} {H : Hp} {s : Shared} {T : String} {x : V} {v : Value} (I : Inv X pins σ H s) (r : RelV x v) (ty : tyV X.K T x H) :
  s.TypeIs v T /\ ∀ a,v = .ref a -> ∃ ob,s.heap.get? a = some ob /\ ob.dict = none:=by
 cases x with
 | str z =>
  obtain ⟨t,rfl⟩:=r
  cases (show T = "str" from ty)
  exact ⟨typeIs_str s z t,fun _ e=>nomatch e⟩
 | int i =>
  obtain ⟨t,rfl⟩:=r
  cases (show T = "int" from ty)
  exact ⟨typeIs_int s i t,fun _ e=>nomatch e⟩
 | ref p =>
  cases r
  rcases ty with ⟨rfl,xs,hq⟩ | ⟨rfl,o,hk,hc,hd⟩ | ⟨rfl,hk⟩ | ⟨rfl,S,n,hk⟩
  ·obtain ⟨its,_,pl,_⟩:=I.list hq
   refine ⟨pl.isList.typeIs,fun a e=>?_⟩
   cases e
   obtain ⟨o,n,e,c,hd,_⟩:=pl
   exact ⟨o,e,hd⟩
  ·refine ⟨⟨o,I.kIn p o hk,hc⟩,fun a e=>?_⟩
   cases e
   exact ⟨o,I.kIn _ o hk,hd⟩
  ·have z : ∃ o,s.heap.get? p = some o /\ o.ExactDict:=by
    rcases hk with ⟨kvs,hk⟩ | ⟨kvs,hk⟩
    ·obtain ⟨_,_,_,_,o,_,_,e,ex,_⟩:=I.hok p _ hk
     exact ⟨o,e,ex⟩
    ·obtain ⟨_,_,_,_,o,_,_,e,ex,_⟩:=I.hok p _ hk
     exact ⟨o,e,ex⟩
   obtain ⟨o,e,ex⟩:=z
   refine ⟨⟨o,e,ex.1⟩,fun a e2=>?_⟩
   cases e2
   exact ⟨o,e,ex.2.1⟩
  ·obtain ⟨o,_,_,_,e,ex,_⟩:=I.hok p _ hk
   refine ⟨⟨o,e,ex.1⟩,fun a e2=>?_⟩
   cases e2
   exact ⟨o,e,ex.2.1⟩
 | _=>exact False.elim ty
def tBM (K : PySem.W.Frag) (T : String) (r : V -> List V -> Hp -> VK -> Prop) (to : TE) (t : TA) : TE:=fun σ H Q=>to σ H fun x H1=>tyV K T x H1 /\ t σ H1 fun xs H2=>r x xs H2 Q
variable {o e : Expr} {es : List Expr} {to : TE} {t : TA} {name : Str} {apos cpos : Pos} {T id : String} {r : V -> List V -> Hp -> VK -> Prop}
theorem pe_bm (pa : PlainAttrs T) (slot : Slot T name id) (hty : typeOf (.builtin id) = pure (.type "method_descriptor")) (hm : MtR X id r) (ho : PE X o to) (ha : PA X (e :: es) t)
  (hbase : attributeBase o name X.env (eval o X.env) = eval o X.env:=by rfl)
  (hfew : ((backTo cpos (starEach (e :: es) X.env)).all (fun x=>!x.1) && (backToKw cpos (keywordEach [] X.env)).all (fun x=>x.1.isSome)
   && decide ((e :: es).length + ([] : List Keyword).length + (if ([] : List Keyword).isEmpty then 0 else 1) < 30)) = true:=by rfl)
  (hline : (apos.endLine == cpos.line) = true:=by rfl) (hs : starEach (e :: es) X.env = (false,eval e X.env) :: starEach es X.env:=by rfl) (hplain : (backTo cpos (starEach es X.env)).any (·.1) = false:=by rfl) :
  PE X (.Call (.Attribute o name apos) (e :: es) [] cpos) (tBM X.K T r to t):=by
 intro pins s σ H Q I h
 refine wpAny_Call_method_late hbase hfew hline rfl (thn (ho pins s σ H _ I h) fun v s1 ⟨x,H1,I1,r1,ty,q1⟩=>?_)
 obtain ⟨h1,h2⟩:=tyV_is I1 r1 ty
 refine ⟨T,id,pa,slot,hty,h1,h2,?_⟩
 have hA:=ha cpos pins s1 σ H1 _ I1 q1
 rw [hs] at hA ⊢
 refine Calls.callWith_builtin (by show (false || (backTo cpos (starEach es X.env)).any (·.1)) = false; rw [hplain] <;> rfl) (Calls.evalArgs_plain ?_)
 exact thn hA fun us s2 ⟨vs,H2,I2,r2,q2⟩=>hm pins s2 σ H2 x vs v us Q I2 r1 r2 q2
end
end L2
namespace L2
open PySem PySem.Spec PyProof.Rows
def MtM (X : Cx) (id : String) (r : V -> List V -> Hp -> VK -> Prop) : Prop :=
 ∀ (pins : List (Addr × Obj)) (s : Shared) (σ : St) (H : Hp) (x : V) (xs : List V) (v : Value) (us : List Value) (Q : VK),Inv X pins σ H s -> RelV x v -> Vals xs us -> r x xs H Q ->
  wpAny (model X.prog X.w) X.A (call (.builtin id) (v :: us)) (EP X pins σ Q) X.xe s
theorem Vals.one : ∀ {x : V} {us : List Value},Vals [x] us -> ∃ u,us = [u] /\ RelV x u
 | _,_,.cons r .nil=>⟨_,rfl,r⟩
theorem Vals.two : ∀ {x y : V} {us : List Value},Vals [x,y] us -> ∃ u v,us = [u,v] /\ RelV x u /\ RelV y v
 | _,_,_,.cons r (.cons q .nil)=>⟨_,_,rfl,r,q⟩
theorem Vals.eraseIdx : ∀ {xs : List V} {us : List Value} (i : Nat),Vals xs us -> Vals (xs.eraseIdx i) (us.eraseIdx i)
 | _,_,_,.nil=>.nil
 | _,_,0,.cons _ t=>t
 | _,_,i + 1,.cons r t=>.cons r (Vals.eraseIdx i t)
theorem Vals.rep {xs : List V} {us : List Value} (h : Vals xs us) : ∀ k : Nat,Vals (List.replicate k xs).flatten (List.replicate k us).flatten
 | 0=>.nil
 | k + 1=>by
  rw [List.replicate_succ,List.replicate_succ,List.flatten_cons,List.flatten_cons]
  exact Vals.append h (Vals.rep h k)
theorem len_erase {α : Type} : ∀ (l : List α) (i : Nat),(l.eraseIdx i).length <= l.length
 | [],_=>Nat.le_refl _
 | _ :: _,0=>Nat.le_succ _
 | _ :: r,i + 1=>Nat.succ_le_succ (len_erase r i)
theorem foldl_rep (its : List Value) : ∀ (k : Nat) (acc : List Value),
  List.foldl (fun x1 x2=>x1 ++ x2) acc.toArray (List.replicate k its.toArray) = (acc ++ (List.replicate k its).flatten).toArray
 | 0,acc=>by simp
 | k + 1,acc=>by
  have e : acc.toArray ++ its.toArray = (acc ++ its).toArray:=by simp
  have e2 : (acc ++ its) ++ (List.replicate k its).flatten = acc ++ (List.replicate (k + 1) its).flatten:=by
   rw [List.replicate_succ,List.flatten_cons,List.append_assoc]
  rw [<- e2,<- foldl_rep its k (acc ++ its),<- e,List.replicate_succ,List.foldl_cons]
section
variable {X : Cx} {pins : List (Addr × Obj)} {σ : St} {H : Hp} {s : Shared} {l b : Addr} {xs ys zs : List V}
theorem Inv.lset {its its' : List Value} {n : Nat} {f : Array Value -> Array Value} {t' : Nat} (I : Inv X pins σ H s) (hH : H l = some (.lst xs))
  (e : s.heap.get? l = some { cls:=.type "list",data:=.seq its.toArray n }) (hf : f its.toArray = its'.toArray) (hv : Vals ys its') (hz : ys.length <= sizeLine) :
  Inv X pins σ (upd H l (.lst ys)) { s with heap:=s.heap.update l (Obj.mapSeq f),toks:=t' }:=by
 have q:=PySem.IsL.update e f
 rw [hf] at q
 refine I.write (x:=l) (e:=l) (by rw [hH]; exact trivial) (.inl rfl) (fun b' u hb hu=>(Heap.get?_update_other s.heap (Obj.mapSeq f) (Ne.symm hb)).trans hu) ⟨_,q⟩ ?_
 exact ⟨hz,its',_,hv,q⟩
theorem Inv.lnew {its : List Value} {t' : Nat} (I : Inv X pins σ H s) (hv : Vals ys its) (hz : ys.length <= sizeLine) :
  Inv X pins σ (upd H s.heap.objs.size (.lst ys)) { s with heap:=s.heap.push { cls:=.type "list",data:=.seq its.toArray },toks:=t' } :=
 I.laid (fun _ _ q=>Heap.get?_push_of_some _ q) (Nat.le_refl _) ⟨hz,its,0,hv,Heap.get?_push_size _ rfl⟩
theorem Inv.fresh (I : Inv X pins σ H s) : H s.heap.objs.size = none:=I.hok.fresh (Nat.le_refl _)
theorem Inv.lstM (I : Inv X pins σ H s) (hH : H l = some (.lst xs)) : xs.length <= sizeLine /\ ∃ (its : List Value) (n : Nat),Vals xs its /\ xs.length = its.length /\ s.heap.get? l = some { cls:=.type "list",data:=.seq its.toArray n }:=by
 obtain ⟨z,its,n,r,e⟩:=I.hok l _ hH
 exact ⟨z,its,n,r,r.length,e⟩
theorem notLongL {n : Nat} (h : n <= sizeLine) : Builtin.List.listTooLong n = false:=by
 unfold Builtin.List.listTooLong
 exact decide_eq_false (by omega)
end
section
variable {X : Cx}
def rAppend : V -> List V -> Hp -> VK -> Prop:=fun x vs H Q=>∃ l xs y,x = .ref l /\ vs = [y] /\ H l = some (.lst xs) /\ xs.length < sizeLine /\ Q .non (upd H l (.lst (xs ++ [y])))
theorem mt_append : MtM X "list.append" rAppend:=by
 intro pins s σ H x vs v us Q I rx rv h
 obtain ⟨l,xs,y,rfl,rfl,hH,hz,q⟩:=h
 cases rx
 obtain ⟨u,rfl,ru⟩:=rv.one
 obtain ⟨z,its,n,r,hl,e⟩:=I.lstM hH
 refine call_meets F.slot_list_append ⟨_,e,rfl⟩ F.entry_list_append (F.args_list_append_2 _ _) (PySem.list_append l its.toArray n u (by rw [List.size_toArray]; omega)) ⟨e,?_⟩
 refine ⟨.non,_,I.lset (its':=its ++ [u]) hH e (by simp) (r.append (.cons ru .nil)) ?_,rfl,q⟩
 rw [List.length_append,List.length_singleton]
 omega
def rRep : R2:=fun x y H Q=>∃ l k xs,x = .ref l /\ y = .int k /\ H l = some (.lst xs) /\ -(2 ^ 63) <= k /\ k < 2 ^ 63 /\ xs.length * k.toNat <= sizeLine /\
 ∀ p,H p = none -> Q (.ref p) (upd H p (.lst (List.replicate k.toNat xs).flatten))
theorem len_rep {α : Type} (xs : List α) (k : Nat) : (List.replicate k xs).flatten.length = k * xs.length:=by
 induction k with
 | zero=>simp
 | succ k ih=>rw [List.replicate_succ,List.flatten_cons,List.length_append,ih,Nat.succ_mul,Nat.add_comm]
theorem op_rep : OpR X (binaryOp .Mult) rRep:=by
 intro pins s σ H x y v u Q I rx ry h
 obtain ⟨l,k,xs,rfl,rfl,hH,h1,h2,hz,q⟩:=h
 cases rx
 obtain ⟨t,rfl⟩:=ry
 obtain ⟨z,its,n,r,hl,e⟩:=I.lstM hH
 have hlen : its.toArray.size * k.toNat <= sizeLine:=by rw [List.size_toArray,<- hl]; exact hz
 have hcap : ¬ its.toArray.size * k.toNat > (2 ^ 63 - 1) / 8:=by
  have : (sizeLine : Nat) <= (2 ^ 63 - 1) / 8:=by decide
  omega
 have hfit : ¬ (!Builtin.List.listFitsIndex k) = true:=by
  rw [fitsIndex_both h1 h2]
  exact Bool.false_ne_true
 have hlong : ¬ Builtin.List.listTooLong (its.toArray.size * k.toNat) = true:=by
  rw [notLongL hlen]
  exact Bool.false_ne_true
 have hnew : List.foldl (fun x1 x2=>x1 ++ x2) #[] (List.replicate (if its.toArray.isEmpty = true then 0 else k.toNat) its.toArray) = (List.replicate k.toNat its).flatten.toArray:=by
  have f0 : ∀ m : Nat,List.foldl (fun x1 x2=>x1 ++ x2) #[] (List.replicate m its.toArray) = (List.replicate m its).flatten.toArray:=fun m=>by
   have:=foldl_rep its m []
   rw [List.nil_append] at this
   exact this
  rw [f0]
  cases its with
  | nil=>simp
  | cons a r'=>rw [if_neg (by simp)]
 refine wpAny_binaryOp_repeat_ref (T:="list") (U:="int") (by decide) ⟨_,e,rfl⟩ (fun s'=>typeIs_int s' k t) noFill_list_mul F.fills_int_mul F.slot_int_rmul repeat_list F.slot_int_index.lookup
  (call_meets F.slot_int_rmul (typeIs_int s k t) F.entry_int_rmul (F.args_int_rmul_2 _ _) (int___rmul___int_list k t l its.toArray n)
   ⟨e,rfl,⟨_,e,rfl⟩,call_meets F.slot_list_mul ⟨_,e,rfl⟩ F.entry_list_mul (F.args_list_mul_2 _ _) (AutoListH.list___mul___list_int_3 l its.toArray n k t hfit hcap hlong) ⟨e,?_⟩⟩)
 rw [hnew]
 exact ⟨.ref _,_,I.lnew (t':=s.toks) (r.rep k.toNat) (by rw [len_rep,Nat.mul_comm]; exact hz),rfl,q _ I.fresh⟩
end
section
variable {prog : Program} {w : World} {A : Around} {E : Value -> Shared -> Prop} {s : Shared}
set_option maxRecDepth 100000 in
end
section
variable {X : Cx}
end
end L2
namespace L2
open PySem PySem.Spec PyProof.Rows
section
variable {κ : Type} [DecidableEq κ]
def valV (kvs : List (κ × V)) (k : κ) : Option V:=(kvs.find? fun kv=>decide (kv.1 = k)).map (·.2)
def putK (kvs : List (κ × V)) (k : κ) (v : V) : List (κ × V) :=
 if (kvs.any fun kv=>decide (kv.1 = k)) = true then kvs.map (fun kv=>if kv.1 = k then (kv.1,v) else kv) else kvs ++ [(k,v)]
def dropK (kvs : List (κ × V)) (k : κ) : List (κ × V):=kvs.filter fun kv=>decide (kv.1 ≠ k)
theorem valV_pos {p : κ × V} {r : List (κ × V)} {k : κ} (e : p.1 = k) : valV (p :: r) k = some p.2:=by simp [valV,List.find?_cons,e]
theorem valV_neg {p : κ × V} {r : List (κ × V)} {k : κ} (e : ¬ p.1 = k) : valV (p :: r) k = valV r k:=by simp [valV,List.find?_cons,e]
theorem valV_any (k : κ) : ∀ kvs : List (κ × V),(kvs.any fun kv=>decide (kv.1 = k)) = (valV kvs k).isSome
 | []=>rfl
 | p :: r=>by
  rw [List.any_cons]
  by_cases e : p.1 = k
  ·simp only [valV_pos e,decide_eq_true e,Bool.true_or,Option.isSome_some]
  ·rw [valV_neg e,decide_eq_false e,Bool.false_or]; exact valV_any k r
theorem length_putK (kvs : List (κ × V)) (k : κ) (v : V) : (putK kvs k v).length <= kvs.length + 1:=by
 unfold putK
 split
 ·rw [List.length_map]; omega
 ·rw [List.length_append,List.length_cons,List.length_nil]; omega
theorem RelO.isSome_eq {o : Option V} {u : Option Value} (r : RelO o u) : o.isSome = u.isSome:=by
 cases o with
 | none=>cases u with
  | none=>rfl
  | some _=>exact (show False from r).elim
 | some _=>cases u with
  | none=>exact (show False from r).elim
  | some _=>rfl
theorem RelO.getD {o : Option V} {u : Option Value} {d : V} {d' : Value} (r : RelO o u) (rd : RelV d d') : RelV (o.getD d) (u.getD d'):=by
 cases o with
 | none=>cases u with
  | none=>exact rd
  | some _=>exact (show False from r).elim
 | some _=>cases u with
  | none=>exact (show False from r).elim
  | some _=>exact r
theorem KV.val {kvs : List (κ × V)} {vs : List (κ × Value)} (r : KV kvs vs) (k : κ) : RelO (valV kvs k) (valueAt vs k):=by
 unfold KV at r
 induction r with
 | nil=>exact True.intro
 | @cons p q ps qs h t ih =>
  obtain ⟨h1,h2⟩:=h
  by_cases e : p.1 = k
  ·have e' : q.1 = k:=h1.symm.trans e
   have b : valueAt (q :: qs) k = some q.2:=by simp [valueAt,List.find?_cons,e']
   rw [valV_pos e,b]; exact h2
  ·have e' : ¬ q.1 = k:=fun z=>e (h1.trans z)
   have b : valueAt (q :: qs) k = valueAt qs k:=by simp [valueAt,List.find?_cons,e']
   rw [valV_neg e,b]; exact ih
theorem KV.any {kvs : List (κ × V)} {vs : List (κ × Value)} (r : KV kvs vs) (k : κ) : (kvs.any fun kv=>decide (kv.1 = k)) = vs.any fun kv=>decide (kv.1 = k):=by
 unfold KV at r
 induction r with
 | nil=>rfl
 | cons h t ih=>rw [List.any_cons,List.any_cons,ih,h.1]
theorem KV.repl {kvs : List (κ × V)} {vs : List (κ × Value)} (r : KV kvs vs) (k : κ) {y : V} {u : Value} (ry : RelV y u) :
  KV (kvs.map fun kv=>if kv.1 = k then (kv.1,y) else kv) (vs.map fun kv=>if kv.1 = k then (kv.1,u) else kv):=by
 unfold KV at r ⊢
 induction r with
 | nil=>exact .nil
 | @cons p q ps qs h t ih =>
  rw [List.map_cons,List.map_cons]
  refine .cons ?_ ih
  obtain ⟨h1,h2⟩:=h
  by_cases e : p.1 = k
  ·rw [if_pos e,if_pos (h1.symm.trans e)]; exact ⟨h1,ry⟩
  ·rw [if_neg e,if_neg (fun z=>e (h1.trans z))]; exact ⟨h1,h2⟩
theorem KV.put {kvs : List (κ × V)} {vs : List (κ × Value)} (r : KV kvs vs) (k : κ) {y : V} {u : Value} (ry : RelV y u) : KV (putK kvs k y) (stored vs k u):=by
 unfold putK stored
 rw [r.any k]
 by_cases e : (vs.any fun kv=>decide (kv.1 = k)) = true
 ·rw [if_pos e,if_pos e]; exact r.repl k ry
 ·rw [if_neg e,if_neg e]; exact Paired.snoc r ⟨rfl,ry⟩
theorem KV.drop {kvs : List (κ × V)} {vs : List (κ × Value)} (r : KV kvs vs) (k : κ) : KV (dropK kvs k) (without vs k):=by
 unfold KV at r ⊢
 unfold dropK without
 induction r with
 | nil=>exact .nil
 | @cons p q ps qs h t ih =>
  obtain ⟨h1,h2⟩:=h
  rw [List.filter_cons,List.filter_cons]
  by_cases e : p.1 = k
  ·have a : ¬ decide (p.1 ≠ k) = true:=by simp [e]
   have b : ¬ decide (q.1 ≠ k) = true:=by simp [h1.symm.trans e]
   rw [if_neg a,if_neg b]; exact ih
  ·have e' : ¬ q.1 = k:=fun z=>e (h1.trans z)
   have a : decide (p.1 ≠ k) = true:=by simp [e]
   have b : decide (q.1 ≠ k) = true:=by simp [e']
   rw [if_pos a,if_pos b]; exact .cons ⟨h1,h2⟩ ih
theorem KV.length {kvs : List (κ × V)} {vs : List (κ × Value)} (r : KV kvs vs) : kvs.length = vs.length:=Paired.length r
theorem dropK_le (kvs : List (κ × V)) (k : κ) : (dropK kvs k).length <= kvs.length:=List.length_filter_le _ _
end
theorem kV_is {P : Program} {w : World} {k : Key} {u : Value} (r : RelV (kV k) u) : (mixKind P w).is k u = true:=by
 cases k with
 | inl i=>obtain ⟨t,e⟩:=(show ∃ t,u = Value.int i t from r); subst e; exact mixKind_int P w i t
 | inr x=>obtain ⟨t,e⟩:=(show ∃ t,u = Value.str x t from r); subst e; exact mixKind_str P w x t
theorem items_are {P : Program} {w : World} : ∀ {ks : List Key} {us : List Value},Vals (ks.map kV) us -> ItemsAre (mixKind P w) ks us
 | [],_,r=>by rw [List.map_nil] at r; cases r; exact .nil
 | k :: ks,_,r=>by
  rw [List.map_cons] at r
  cases r with
  | cons h t=>exact .cons (kV_is h) (items_are t)
abbrev KT (H : Hp) : List (List Key × V) -> List (List Key × Addr × Value) -> Prop:=Paired fun p q=>p.1 = q.1 /\ H q.2.1 = some (.tup (p.1.map kV)) /\ RelV p.2 q.2.2
theorem KT.val {H : Hp} {kvs : List (List Key × V)} {xs : List (List Key × Addr × Value)} (r : KT H kvs xs) (k : List Key) : RelO (valV kvs k) ((atKey xs k).map (·.2)):=by
 induction r with
 | nil=>exact True.intro
 | @cons p q ps qs h t ih =>
  obtain ⟨h1,_,h2⟩:=h
  by_cases e : p.1 = k
  ·have e' : q.1 = k:=h1.symm.trans e
   have b : atKey (q :: qs) k = some q.2:=by simp [atKey,List.find?_cons,e']
   rw [valV_pos e,b]; exact h2
  ·have e' : ¬ q.1 = k:=fun z=>e (h1.trans z)
   have b : atKey (q :: qs) k = atKey qs k:=by simp [atKey,List.find?_cons,e']
   rw [valV_neg e,b]; exact ih
theorem KT.repl {H : Hp} {kvs : List (List Key × V)} {xs : List (List Key × Addr × Value)} (r : KT H kvs xs) (k : List Key) {y : V} {u : Value} (ry : RelV y u) :
  KT H (kvs.map fun kv=>if kv.1 = k then (kv.1,y) else kv) (xs.map (putAt k u)):=by
 induction r with
 | nil=>exact .nil
 | @cons p q ps qs h t ih =>
  rw [List.map_cons,List.map_cons]
  refine .cons ?_ ih
  obtain ⟨h1,h2,h3⟩:=h
  unfold putAt
  by_cases e : p.1 = k
  ·rw [if_pos e,if_pos (h1.symm.trans e)]; exact ⟨h1,h2,ry⟩
  ·rw [if_neg e,if_neg (fun z=>e (h1.trans z))]; exact ⟨h1,h2,h3⟩
theorem KT.put {H : Hp} {kvs : List (List Key × V)} {xs : List (List Key × Addr × Value)} (r : KT H kvs xs) (k : List Key) {b : Addr} {y : V} {u : Value} (hb : H b = some (.tup (k.map kV))) (ry : RelV y u) :
  KT H (putK kvs k y) (storedH xs k b u):=by
 have e : (kvs.any fun kv=>decide (kv.1 = k)) = (atKey xs k).isSome:=by
  rw [valV_any,(r.val k).isSome_eq,Option.isSome_map]
 unfold putK storedH
 rw [e]
 by_cases q : (atKey xs k).isSome = true
 ·rw [if_pos q,if_pos q]; exact r.repl k ry
 ·rw [if_neg q,if_neg q]; exact Paired.snoc r ⟨rfl,hb,ry⟩
theorem KT.keeps {H H' : Hp} {kvs : List (List Key × V)} {xs : List (List Key × Addr × Value)} (r : KT H kvs xs) (ht : ∀ b ys,H b = some (.tup ys) -> H' b = some (.tup ys)) : KT H' kvs xs :=
 Paired.mapP r fun _ _ z=>⟨z.1,ht _ _ z.2.1,z.2.2⟩
section
variable {P : Program} {w : World} {H : Hp} {h : Heap} {a : Addr}
theorem rd_of {u : HO} (ok : HOk P w H h) (e : Rd H a u) : ObjOk P w H h a u:=e.ok ok
theorem dk_rd {kvs : List (Key × V)} (ok : HOk P w H h) (e : Rd H a (.dK kvs)) : kvs.length <= sizeLine /\ (a == sysModules) = false /\ ∃ vs,KV kvs vs /\ h.DictOf (mixKind P w) a vs :=
 show ObjOk P w H h a (.dK kvs) from rd_of ok e
theorem dk_of {kvs : List (Key × V)} (ok : HOk P w H h) (e : H a = some (.dK kvs)) : kvs.length <= sizeLine /\ (a == sysModules) = false /\ ∃ vs,KV kvs vs /\ h.DictOf (mixKind P w) a vs:=dk_rd ok (.inl e)
theorem key_of {ks : List Key} (ok : HOk P w H h) (e : H a = some (.tup (ks.map kV))) : (tupleKind (mixKind P w)).is h ks a:=by
 obtain ⟨_,its,r,o,h1,h2,n,h3⟩:=(show ObjOk P w H h a (.tup (ks.map kV)) from ok a _ e)
 exact ⟨o,its.toArray,n,h1,h2,h3,by simpa using items_are r⟩
theorem dt_rd {kvs : List (List Key × V)} (ok : HOk P w H h) (e : Rd H a (.dT kvs)) : kvs.length <= sizeLine /\ (a == sysModules) = false /\
  ∃ xs,KT H kvs xs /\ h.DictOfH (tupleKind (mixKind P w)) a xs:=by
 obtain ⟨z,y,xs,r,o,es,ep,h1,h2,h3,h4,h5⟩:=(show ObjOk P w H h a (.dT kvs) from rd_of ok e)
 refine ⟨z,y,xs,r,o,es,ep,h1,h2,h3,h4,fun x hx=>?_,h5⟩
 have all : ∀ {l : List (List Key × V)} {m : List (List Key × Addr × Value)},KT H l m -> ∀ x ∈ m,(tupleKind (mixKind P w)).is h x.1 x.2.1:=by
  intro l m q
  induction q with
  | nil=>intro x hx; exact nomatch hx
  | @cons p q ps qs hq t ih =>
   intro x hx
   rcases List.mem_cons.mp hx with e | hx
   ·subst e
    exact key_of ok (by rw [<- hq.1]; exact hq.2.1)
   ·exact ih x hx
 exact all r x hx
theorem dt_of {kvs : List (List Key × V)} (ok : HOk P w H h) (e : H a = some (.dT kvs)) : kvs.length <= sizeLine /\ (a == sysModules) = false /\
  ∃ xs,KT H kvs xs /\ h.DictOfH (tupleKind (mixKind P w)) a xs:=dt_rd ok (.inl e)
end
def DGet (H : Hp) (a : Addr) (y : V) (r : Option V) : Prop :=
 (∃ kvs k,Rd H a (.dK kvs) /\ y = kV k /\ r = valV kvs k) \/ ∃ kvs k b,Rd H a (.dT kvs) /\ y = .ref b /\ H b = some (.tup (k.map kV)) /\ r = valV kvs k
def DPut (H : Hp) (a : Addr) (y v : V) (H' : Hp) : Prop :=
 (∃ kvs k,H a = some (.dK kvs) /\ y = kV k /\ kvs.length < sizeLine /\ H' = upd H a (.dK (putK kvs k v))) \/
 ∃ kvs k b,H a = some (.dT kvs) /\ y = .ref b /\ H b = some (.tup (k.map kV)) /\ kvs.length < sizeLine /\ H' = upd H a (.dT (putK kvs k v))
theorem DGet.k {H : Hp} {a : Addr} {kvs : List (Key × V)} {k : Key} (e : H a = some (.dK kvs)) : DGet H a (kV k) (valV kvs k):=.inl ⟨kvs,k,.inl e,rfl,rfl⟩
theorem DPut.k {H : Hp} {a : Addr} {kvs : List (Key × V)} {k : Key} {v : V} (e : H a = some (.dK kvs)) (hl : kvs.length < sizeLine) : DPut H a (kV k) v (upd H a (.dK (putK kvs k v))):=.inl ⟨kvs,k,e,rfl,hl,rfl⟩
section
variable {X : Cx} {pins : List (Addr × Obj)} {σ : St} {H : Hp} {s : Shared} {a : Addr} {y v : V} {u r : Value} {o : Option V} {A : Around} {E : Value -> Shared -> Prop}
theorem Inv.big (I : Inv X pins σ H s) : sysModules < s.heap.objs.size:=by
 have h : mainGlobals < s.heap.objs.size:=(I.mod.glob.keeps I.bk).lt
 exact Nat.lt_trans (by decide) h
theorem d_getItem {Q : Value -> Shared -> Prop} (hu : A.units + 1 < cLine) (I : Inv X pins σ H s) (g : DGet H a y (some v)) (ry : RelV y u) (h : ∀ w' s',Inv X pins σ H s' -> RelV v w' -> Q w' s') :
  wpAny (model X.prog X.w) A (getItem (.ref a) u) Q E s:=by
 rcases g with ⟨kvs,k,e,ey,l⟩ | ⟨kvs,k,b,e,ey,eb,l⟩
 ·subst ey
  obtain ⟨z,hd,vs,rel,dd⟩:=dk_rd I.hok e
  obtain ⟨w',hw,rw'⟩:=RelO.some_of (v:=v) (o:=valueAt vs k) (by rw [l]; exact rel.val k)
  exact wpAny_getItem_of (kV_is ry) dd.mapOf hw (h w' _ (I.tok _) rw')
 ·subst ey
  cases (show u = Value.ref b from ry)
  obtain ⟨z,hd,xs,rel,dd⟩:=dt_rd I.hok e
  obtain ⟨w',hw,rw'⟩:=RelO.some_of (v:=v) (o:=(atKey xs k).map (·.2)) (by rw [l]; exact rel.val k)
  obtain ⟨p,hp,hp2⟩:=Option.map_eq_some_iff.mp hw
  refine wpAny_getItem_heap (tupleKind_room_in1 hu) (key_of I.hok eb) dd hp ?_
  rw [hp2]
  exact h w' _ (I.tok _) rw'
theorem d_write {h' : Heap} {t' : Nat} {ob : HO} (I : Inv X pins σ H s) (mu : Mut (H a)) (hs : Heap.SameBut a s.heap h') (he : ∃ q,h'.get? a = some q) (new : ObjOk X.prog X.w (upd H a ob) h' a ob) :
  Inv X pins σ (upd H a ob) { s with heap:=h',toks:=t' } :=
 I.write (x:=a) (e:=a) mu (.inl rfl) (fun b q hb z=>(hs.2 b hb).trans z) he new
theorem dk_new {P : Program} {w : World} {H' : Hp} {h' : Heap} {kvs : List (Key × V)} {vs : List (Key × Value)} (z : kvs.length <= sizeLine) (hd : (a == sysModules) = false) (rel : KV kvs vs) (dd : h'.DictOf (mixKind P w) a vs) :
  ObjOk P w H' h' a (.dK kvs):=⟨z,hd,vs,rel,dd⟩
theorem d_setItem {H' : Hp} {Q : Unit -> Shared -> Prop} (hu : A.units + 1 < cLine) (I : Inv X pins σ H s) (g : DPut H a y v H') (ry : RelV y u) (rv : RelV v r) (h : ∀ s',Inv X pins σ H' s' -> Q () s') :
  wpAny (model X.prog X.w) A (setItem (.ref a) u r) Q E s:=by
 rcases g with ⟨kvs,k,e,ey,l,eH⟩ | ⟨kvs,k,b,e,ey,eb,l,eH⟩
 ·subst ey eH
  obtain ⟨z,hd,vs,rel,dd⟩:=dk_of I.hok e
  have hz : vs.length <= sizeLine:=by rw [<- rel.length]; exact z
  have hl : (putK kvs k v).length <= sizeLine:=by have:=length_putK kvs k v; omega
  refine wpAny_setItem_pairs (hsz:=hz) (kV_is ry) dd fun h' dd' hs=>h _ ?_
  have he : ∃ q,h'.get? a = some q:=let ⟨q,_,_,hq,_⟩:=dd'; ⟨q,hq⟩
  exact d_write I (by rw [e]; exact True.intro) hs he (dk_new hl hd (rel.put k rv) dd')
 ·subst ey eH
  cases (show u = Value.ref b from ry)
  obtain ⟨z,hd,xs,rel,dd⟩:=dt_of I.hok e
  have hz : xs.length <= sizeLine:=by rw [<- Paired.length rel]; exact z
  have hl : (putK kvs k v).length <= sizeLine:=by have:=length_putK kvs k v; omega
  refine wpAny_setItem_heap (hsz:=hz) (tupleKind_room_in1 hu) (key_of I.hok eb) dd fun h' dd' hs=>h _ ?_
  obtain ⟨q,es,ep,hq,h2,h3,h4,_,h5⟩:=dd'
  refine d_write I (by rw [e]; exact True.intro) hs ⟨q,hq⟩ ⟨hl,hd,_,(rel.put k eb rv).keeps fun c ys ec=>?_,q,es,ep,hq,h2,h3,h4,h5⟩
  rw [upd_ne (ne_of ec e (fun z=>nomatch z))]
  exact ec
end
section
variable {X : Cx} {pins : List (Addr × Obj)} {σ : St} {H : Hp} {s : Shared} {a : Addr} {kvs : List (Key × V)} {k : Key} {u : Value} {A : Around} {E : Value -> Shared -> Prop}
theorem d_pop {v : V} {more : List Value} {Q : Value -> Shared -> Prop} (I : Inv X pins σ H s) (e : H a = some (.dK kvs)) (ry : RelV (kV k) u) (l : valV kvs k = some v) (hm : more = [] \/ ∃ x,more = [x])
  (h : ∀ w' s',Inv X pins σ (upd H a (.dK (dropK kvs k))) s' -> RelV v w' -> Q w' s') : wpAny (model X.prog X.w) A (call (.builtin "dict.pop") (.ref a :: u :: more)) Q E s:=by
 obtain ⟨z,hd,vs,rel,dd⟩:=dk_of I.hok e
 obtain ⟨w',hw,rw'⟩:=RelO.some_of (v:=v) (o:=valueAt vs k) (by rw [<- l]; exact rel.val k)
 have hp : (keyPart u).isSome = true:=by
  cases k with
  | inl i=>obtain ⟨t,q⟩:=(show ∃ t,u = Value.int i t from ry); subst q; rfl
  | inr x=>obtain ⟨t,q⟩:=(show ∃ t,u = Value.str x t from ry); subst q; rfl
 have ha : argsOk "dict.pop" ⟨.ref a :: u :: more,[]⟩:=by
  rcases hm with q | ⟨x,q⟩
  ·subst q; exact PySem.F.args_dict_pop_2 _ _
  ·subst q; exact PySem.F.args_dict_pop_3 _ _ _
 refine call_meetsIn PySem.F.slot_dict_pop dd.typeIs PySem.F.entry_dict_pop ha (meets_dict_pop_there (mixKind X.prog X.w) a (kV_is ry) more hm hp)
  ⟨vs,w',dd,by rw [<- rel.length]; exact z,hw,fun h' dd' hs=>h w' _ ?_ rw'⟩
 have he : ∃ q,h'.get? a = some q:=let ⟨q,_,_,hq,_⟩:=dd'; ⟨q,hq⟩
 exact d_write I (by rw [e]; exact True.intro) hs he (dk_new (Nat.le_trans (dropK_le kvs k) z) hd (rel.drop k) dd')
end
def NoSl (i : Expr) : Prop:=∀ ov iv,subscripted i false ov iv = operate [ov,iv] (getItem ov iv)
theorem subD_of {prog : Program} {w : World} {A : Around} {E : Value -> Shared -> Prop} {s : Shared} {env : Env} {value slice : Expr} {pos : Pos} {T id : String} {Q : Value -> Shared -> Prop}
  (hl : typeLookup (.type T) "__getitem__" = pure (some (.builtin id))) (hs : NoSl slice)
  (h : wpAny (model prog w) A (eval value env) (fun o s₁=>wpAny (model prog w) A (eval slice env) (fun i s₂=>s₂.TypeIs o T /\ wpAny (model prog w) A (getItem o i) Q E s₂) E s₁) E s) :
  wpAny (model prog w) A (eval (.Subscript value slice pos) env) Q E s:=by
 refine Subscript_ (wpAny_mono h (fun o s₁ h₁=>wpAny_mono h₁ (fun i s₂ h₂=>?_) fun _ _ x=>x) fun _ _ x=>x)
 obtain ⟨hT,h₂⟩:=h₂
 unfold subscriptTail
 refine wpAny_bind ?_
 rw [getitemInPython_of_ne hT.not_modules]
 refine wpAny_bind (wpAny_specialOf hT hl ?_)
 have fin : wpAny (model prog w) A (subscripted slice false o i) (fun r s₃=>wpAny (model prog w) A (letTemporaryGo value o r >>= fun _=>pure r) Q E s₃) E s₂:=by
  rw [hs o i]
  exact wpAny_operating (wpAny_mono h₂ (fun r s₃ h₃=>wpAny_bind (wpAny_letTemporaryGo (wpAny_pure h₃))) fun _ _ x=>x)
 first
  | exact wpAny_pure (wpAny_bind fin)
  | exact wpAny_bind (wpAny_pure (wpAny_bind fin))
  | exact wpAny_bind fin
theorem dict_typeIs {X : Cx} {pins : List (Addr × Obj)} {σ : St} {H : Hp} {s : Shared} {a : Addr} {y : V} {o : Option V} (I : Inv X pins σ H s) (g : DGet H a y o) : s.TypeIs (.ref a) "dict":=by
 rcases g with ⟨kvs,k,e,_,_⟩ | ⟨kvs,k,b,e,_,_,_⟩
 ·obtain ⟨_,_,vs,_,dd⟩:=dk_rd I.hok e
  exact dd.typeIs
 ·obtain ⟨_,_,xs,_,dd⟩:=dt_rd I.hok e
  exact dd.typeIs
def tDGet (td ty : TE) : TE:=fun σ H Q=>td σ H fun x H1=>ty σ H1 fun y H2=>∃ a v,x = .ref a /\ DGet H2 a y (some v) /\ Q v H2
def sDPut (td ty tv : TE) : TS:=fun D σ H=>tv σ H fun v H1=>td σ H1 fun x H2=>ty σ H2 fun y H3=>∃ a H4,x = .ref a /\ DPut H3 a y v H4 /\ D.nx σ H4
section
variable {X : Cx} {o i e value : Expr} {pos pos' tpos : Pos} {td ty tv : TE}
theorem pe_dget (hu : X.A.units + 1 < cLine) (ho : PE X o td) (hi : PE X i ty) (hs : NoSl i) : PE X (.Subscript o i pos) (tDGet td ty):=by
 intro pins s σ H Q I h
 refine subD_of PySem.F.slot_dict_getitem.lookup hs (thn (ho pins s σ H _ I h) fun u s1 ⟨x,H1,I1,rx,q1⟩=>thn (hi pins s1 σ H1 _ I1 q1) fun iv s2 ⟨y,H2,I2,ry,a,v,ex,g,q2⟩=>?_)
 subst ex
 obtain rfl : u = Value.ref a:=rx
 exact ⟨dict_typeIs I2 g,d_getItem hu I2 g ry fun w' s3 I3 rw'=>⟨v,H2,I3,rw',q2⟩⟩
theorem ps_dput (hu : X.A.units + 1 < cLine) (ho : PE X o td) (hi : PE X i ty) (hv : PE X value tv) (hs : swapsWith value (some (.Subscript o i pos')) pos.line X.env = pure false) :
  PS X (.Assign [.Subscript o i pos'] value pos) (sDPut td ty tv):=by
 intro pins s σ H D I h
 refine wpAny_Assign_Subscript (thn (hv pins s σ H _ I h) fun r s1 ⟨v,H1,I1,rv,q1⟩=>thn (ho pins s1 σ H1 _ I1 q1) fun u s2 ⟨x,H2,I2,rx,q2⟩=>thn (hi pins s2 σ H2 _ I2 q2) fun iv s3 ⟨y,H3,I3,ry,a,H4,ex,g,q3⟩=>?_) hs
 subst ex
 obtain rfl : u = Value.ref a:=rx
 exact d_setItem hu I3 g ry rv fun s4 I4=>⟨σ,H4,I4,q3⟩
end
theorem dk_empty {P : Program} {w : World} {H : Hp} (h : Heap) (hb : sysModules < h.objs.size) : ObjOk P w H (h.push { cls:=.type "dict",data:=.dict #[] }) h.objs.size (.dK []) :=
 ⟨Nat.zero_le _,beq_eq_false_iff_ne.mpr (Ne.symm (Nat.ne_of_lt hb)),[],.nil,Heap.DictOf.new h⟩
def tDNewK : TE:=fun _ H Q=>∀ p,H p = none -> Q (.ref p) (upd H p (.dK []))
section
variable {X : Cx} {pos : Pos}
theorem pe_dnewK : PE X (.Dict [] [] pos) tDNewK:=fun pins s σ H Q I h =>
 wpAny_Dict_empty ⟨.ref s.heap.objs.size,_,I.laid (a:=s.heap.objs.size) (o:=.dK []) (t':=s.toks) (fun _ _ q=>Heap.get?_push_of_some _ q) (Nat.le_refl _) (dk_empty s.heap I.big),rfl,h _ (I.hok.fresh (Nat.le_refl _))⟩
end
def tPairs : List (TE × TE) -> St -> Hp -> (List (V × V) -> Hp -> Prop) -> Prop
 | [],_,H,Q=>Q [] H
 | (tk,tv) :: r,σ,H,Q=>tk σ H fun x H1=>tv σ H1 fun y H2=>tPairs r σ H2 fun ps H3=>Q ((x,y) :: ps) H3
abbrev VV : List (V × V) -> List (Value × Value) -> Prop:=Paired fun p q=>RelV p.1 q.1 /\ RelV p.2 q.2
def PPs (X : Cx) (pos : Pos) (keys : List (Option Expr)) (values : List Expr) (trs : List (TE × TE)) : Prop :=
 ∀ (pins : List (Addr × Obj)) (s : Shared) (σ : St) (H : Hp) (Q : List (V × V) -> Hp -> Prop),Inv X pins σ H s -> tPairs trs σ H Q ->
  wpAny (model X.prog X.w) X.A (evalPairs (pairTrees keys values X.env pos)) (fun vs s'=>∃ ps H',Inv X pins σ H' s' /\ VV ps vs /\ Q ps H') X.xe s
theorem pps_nil {X : Cx} {pos : Pos} : PPs X pos [] [] []:=fun pins s σ H Q I h=>pairTrees_nil_walk ⟨[],H,I,.nil,h⟩
theorem pps_cons {X : Cx} {pos : Pos} {k v : Expr} {ks : List (Option Expr)} {vs : List Expr} {tk tv : TE} {trs : List (TE × TE)} (hk : PE X k tk) (hv : PE X v tv) (hr : PPs X pos ks vs trs) :
  PPs X pos (some k :: ks) (v :: vs) ((tk,tv) :: trs):=fun pins s σ H Q I h =>
 pairTrees_cons_walk (thn (hk pins s σ H _ I h) fun u s1 ⟨x,H1,I1,rx,q1⟩=>thn (hv pins s1 σ H1 _ I1 q1) fun w2 s2 ⟨y,H2,I2,ry,q2⟩ =>
  thn (hr pins s2 σ H2 _ I2 q2) fun ws s3 ⟨ps,H3,I3,rel,q3⟩=>⟨(x,y) :: ps,H3,I3,.cons ⟨rx,ry⟩ rel,q3⟩)
def mergeK (kvs more : List (Key × V)) : List (Key × V):=more.foldl (fun acc kv=>putK acc kv.1 kv.2) kvs
theorem KV.merge : ∀ {more : List (Key × V)} {rs : List (Key × Value)} {kvs : List (Key × V)} {vs : List (Key × Value)},KV more rs -> KV kvs vs -> KV (mergeK kvs more) (merged vs rs):=by
 intro more rs kvs vs r
 unfold KV at r
 induction r generalizing kvs vs with
 | nil=>intro q; exact q
 | @cons p q ps qs h t ih =>
  intro r0
  have e : KV (putK kvs p.1 p.2) (stored vs q.1 q.2):=by
   have:=r0.put p.1 h.2
   rw [<- h.1]; exact this
  exact ih e
theorem length_mergeK : ∀ (more kvs : List (Key × V)),(mergeK kvs more).length <= kvs.length + more.length
 | [],kvs=>by show kvs.length <= kvs.length + 0; omega
 | p :: r,kvs=>by
  have h1:=length_mergeK r (putK kvs p.1 p.2)
  have h2:=length_putK kvs p.1 p.2
  show (mergeK (putK kvs p.1 p.2) r).length <= _
  rw [List.length_cons]; omega
theorem carries_of {P : Program} {w : World} : ∀ {kvs : List (Key × V)} {ws : List (Value × Value)},VV (kvs.map fun kv=>(kV kv.1,kv.2)) ws -> ∃ rs,Carries (mixKind P w) ws rs /\ KV kvs rs
 | [],_,r=>by rw [List.map_nil] at r; cases r; exact ⟨[],True.intro,.nil⟩
 | p :: kvs,_,r=>by
  rw [List.map_cons] at r
  cases r with
  | @cons a b as bs h t =>
   obtain ⟨rs,c,q⟩:=carries_of (P:=P) (w:=w) t
   obtain ⟨b1,b2⟩:=b
   exact ⟨(p.1,b2) :: rs,⟨kV_is h.1,rfl,c⟩,.cons ⟨rfl,h.2⟩ q⟩
def tDisp (trs : List (TE × TE)) : TE:=fun σ H Q=>∀ p,H p = none -> tPairs trs σ (upd H p (.dK [])) fun ps H2=>H2 p = some (.dK []) /\ ∃ kvs : List (Key × V),ps = kvs.map (fun kv=>(kV kv.1,kv.2)) /\ kvs.length <= 15 /\ Q (.ref p) (upd H2 p (.dK (mergeK [] kvs)))
theorem pe_disp {X : Cx} {pos : Pos} {keys : List (Option Expr)} {values : List Expr} {trs : List (TE × TE)} (h : PPs X pos keys values trs) (hall : keys.all (·.isSome) = true) (hl : keys.length = values.length) (h0 : keys ≠ [])
  (h15 : keys.length <= 15) : PE X (.Dict keys values pos) (tDisp trs):=by
 intro pins s σ H Q I q
 have hn:=I.hok.fresh (Nat.le_refl s.heap.objs.size)
 have I1:=I.laid (a:=s.heap.objs.size) (o:=.dK []) (h':=s.heap.push { cls:=.type "dict",data:=.dict #[] }) (t':=s.toks) (fun _ _ q=>Heap.get?_push_of_some _ q) (Nat.le_refl _) (dk_empty s.heap I.big)
 refine wpAny_Dict_walk (knd:=mixKind X.prog X.w) hall hl h0 h15 (thn (h pins _ σ _ _ I1 (q _ hn)) fun ws s2 ⟨ps,H2,I2,rel,e,kvs,ep,lk,q2⟩=>?_)
 subst ep
 obtain ⟨rs,c,rk⟩:=carries_of (P:=X.prog) (w:=X.w) rel
 obtain ⟨z,hd,vs0,r0,dd⟩:=dk_of I2.hok e
 cases r0
 refine ⟨rs,c,dd,fun h' dd' hs=>⟨.ref s.heap.objs.size,_,?_,rfl,q2⟩⟩
 have hz : (mergeK [] kvs).length <= sizeLine:=by
  have h1:=length_mergeK kvs []
  rw [List.length_nil] at h1
  rw [sizeLine_eq]; omega
 have he : ∃ q,h'.get? s.heap.objs.size = some q:=let ⟨q,_,_,hq,_⟩:=dd'; ⟨q,hq⟩
 exact d_write I2 (by rw [e]; exact True.intro) hs he (dk_new hz hd (rk.merge .nil) dd')
structure M1 (X : Cx) (o : Expr) (m : Str) (apos : Pos) (e : Expr) (cpos : Pos) : Prop where
 base : attributeBase o m X.env (eval o X.env) = eval o X.env
 few : ((backTo cpos (starEach [e] X.env)).all (fun x=>!x.1) && (backToKw cpos (keywordEach [] X.env)).all (fun x=>x.1.isSome)
  && decide (([e] : List Expr).length + ([] : List Keyword).length + (if ([] : List Keyword).isEmpty then 0 else 1) < 30)) = true
 line : (apos.endLine == cpos.line) = true
 trees : backTo cpos (starEach [e] X.env) = [(false,eval e X.env)]
structure M2 (X : Cx) (o : Expr) (m : Str) (apos : Pos) (e f : Expr) (cpos : Pos) : Prop where
 base : attributeBase o m X.env (eval o X.env) = eval o X.env
 few : ((backTo cpos (starEach [e,f] X.env)).all (fun x=>!x.1) && (backToKw cpos (keywordEach [] X.env)).all (fun x=>x.1.isSome)
  && decide (([e,f] : List Expr).length + ([] : List Keyword).length + (if ([] : List Keyword).isEmpty then 0 else 1) < 30)) = true
 line : (apos.endLine == cpos.line) = true
 trees : backTo cpos (starEach [e,f] X.env) = [(false,eval e X.env),(false,eval f X.env)]
def IsD (H : Hp) (a : Addr) : Prop:=(∃ kvs,Rd H a (.dK kvs)) \/ ∃ kvs,Rd H a (.dT kvs)
theorem isD_at {X : Cx} {pins : List (Addr × Obj)} {σ : St} {H : Hp} {s : Shared} {a : Addr} (I : Inv X pins σ H s) (d : IsD H a) :
  s.TypeIs (.ref a) "dict" /\ (∀ b,Value.ref a = .ref b -> ∃ ob,s.heap.get? b = some ob /\ ob.dict = none) /\ (a == sysModules) = false:=by
 rcases d with ⟨kvs,e⟩ | ⟨kvs,e⟩
 ·obtain ⟨_,hd,vs,_,dd⟩:=dk_rd I.hok e
  refine ⟨dd.typeIs,fun b q=>?_,hd⟩
  cases q
  obtain ⟨ob,_,_,h1,h2,_⟩:=dd
  exact ⟨ob,h1,h2.2.1⟩
 ·obtain ⟨_,hd,xs,_,dd⟩:=dt_rd I.hok e
  refine ⟨dd.typeIs,fun b q=>?_,hd⟩
  cases q
  obtain ⟨ob,_,_,h1,h2,_⟩:=dd
  exact ⟨ob,h1,h2.2.1⟩
section
variable {X : Cx} {pins : List (Addr × Obj)} {σ : St} {H : Hp} {s : Shared} {a : Addr} {y d : V} {u r : Value} {o : Option V} {A : Around} {E : Value -> Shared -> Prop}
theorem d_get2 {Q : Value -> Shared -> Prop} (hu : A.units + 1 < cLine) (I : Inv X pins σ H s) (g : DGet H a y o) (ry : RelV y u) (rd : RelV d r) (h : ∀ w' s',Inv X pins σ H s' -> RelV (o.getD d) w' -> Q w' s') :
  wpAny (model X.prog X.w) A (call (.builtin "dict.get") [.ref a,u,r]) Q E s:=by
 rcases g with ⟨kvs,k,e,ey,l⟩ | ⟨kvs,k,b,e,ey,eb,l⟩
 ·subst ey
  obtain ⟨z,hd,vs,rel,dd⟩:=dk_rd I.hok e
  refine call_meetsIn PySem.F.slot_dict_get dd.typeIs PySem.F.entry_dict_get (PySem.F.args_dict_get_3 _ _ _) (meets_dict_get_default (mixKind X.prog X.w) a (kV_is ry) hd r) ⟨_,dd.mapOf,h _ _ (I.tok _) ?_⟩
  rw [l]
  exact (rel.val k).getD rd
 ·subst ey
  cases (show u = Value.ref b from ry)
  obtain ⟨z,hd,xs,rel,dd⟩:=dt_rd I.hok e
  refine call_meetsIn PySem.F.slot_dict_get dd.typeIs PySem.F.entry_dict_get (PySem.F.args_dict_get_3 _ _ _) (meetsH_dict_get_default (tupleKind (mixKind X.prog X.w)) a b hd r) ⟨tupleKind_room_in1 hu,k,xs,key_of I.hok eb,dd,h _ _ (I.tok _) ?_⟩
  rw [l]
  exact (rel.val k).getD rd
end
def tDGet2 (td ty tx : TE) : TE:=fun σ H Q=>td σ H fun x H1=>∃ a,x = .ref a /\ IsD H1 a /\ ty σ H1 fun y H2=>tx σ H2 fun z H3=>∃ o,DGet H3 a y o /\ Q (o.getD z) H3
def tDPop1 (td ty : TE) : TE:=fun σ H Q=>td σ H fun x H1=>∃ a,x = .ref a /\ IsD H1 a /\ ty σ H1 fun y H2=>∃ kvs k v,H2 a = some (.dK kvs) /\ y = kV k /\ valV kvs k = some v /\ Q v (upd H2 a (.dK (dropK kvs k)))
section
variable {X : Cx} {o e f : Expr} {apos cpos : Pos} {td ty tx : TE}
theorem pe_dget2 (hu : X.A.units + 1 < cLine) (ho : PE X o td) (he : PE X e ty) (hf : PE X f tx) (m : M2 X o "get" apos e f cpos) : PE X (.Call (.Attribute o "get" apos) [e,f] [] cpos) (tDGet2 td ty tx):=by
 intro pins s σ H Q I h
 refine wpAny_Call_method m.base m.few m.line PySem.F.plainAttrs_dict PySem.F.slot_dict_get PySem.F.type_dict_get (thn (ho pins s σ H _ I h) fun u s1 ⟨x,H1,I1,rx,a,ex,d,q1⟩=>?_)
 subst ex
 obtain rfl : u = Value.ref a:=rx
 obtain ⟨t1,t2,_⟩:=isD_at I1 d
 refine ⟨t1,t2,?_⟩
 rw [m.trees]
 refine Calls.callWith_builtin rfl (Calls.evalArgs_plain (Calls.spliced_cons (thn (he pins s1 σ H1 _ I1 q1) fun iv s2 ⟨y,H2,I2,ry,q2⟩ =>
  Calls.spliced_cons (thn (hf pins s2 σ H2 _ I2 q2) fun fv s3 ⟨z,H3,I3,rz,ov,g,q3⟩=>Calls.spliced_nil ?_))))
 exact d_get2 hu I3 g ry rz fun w' s4 I4 rw'=>⟨_,H3,I4,rw',q3⟩
theorem pe_dpop1 (ho : PE X o td) (he : PE X e ty) (m : M1 X o "pop" apos e cpos) : PE X (.Call (.Attribute o "pop" apos) [e] [] cpos) (tDPop1 td ty):=by
 intro pins s σ H Q I h
 refine wpAny_Call_method m.base m.few m.line PySem.F.plainAttrs_dict PySem.F.slot_dict_pop PySem.F.type_dict_pop (thn (ho pins s σ H _ I h) fun u s1 ⟨x,H1,I1,rx,a,ex,d,q1⟩=>?_)
 subst ex
 obtain rfl : u = Value.ref a:=rx
 obtain ⟨t1,t2,_⟩:=isD_at I1 d
 refine ⟨t1,t2,?_⟩
 rw [m.trees]
 refine Calls.callWith_builtin rfl (Calls.evalArgs_plain (Calls.spliced_cons (thn (he pins s1 σ H1 _ I1 q1) fun iv s2 ⟨y,H2,I2,ry,kvs,k,v,ea,ey,l,q2⟩=>Calls.spliced_nil ?_)))
 subst ey
 exact d_pop I2 ea ry l (.inl rfl) fun w' s3 I3 rw'=>⟨v,_,I3,rw',q2⟩
end
section
variable {X : Cx} {pins : List (Addr × Obj)} {σ : St} {H : Hp} {s : Shared} {a : Addr} {kvs : List (Key × V)} {A : Around} {E : Value -> Shared -> Prop}
end
section
variable {X : Cx} {pins : List (Addr × Obj)} {σ : St} {H : Hp} {s : Shared} {a : Addr} {y : V} {u : Value} {A : Around} {E : Value -> Shared -> Prop}
end
end L2
namespace Att
open PySem PySem.W PySem.Calls PyProof.Rows
theorem ints_of_wellAll {P : Params} {h : Heap} : ∀ (ns : List Int) (vs : List Value),WellAll P h vs (ns.map WData.int) -> IntsAre vs ns:=by
 intro ns
 induction ns with
 | nil =>
  intro vs w
  rw [List.map_nil] at w
  cases w
  exact .nil
 | cons n ns ih =>
  intro vs w
  rw [List.map_cons] at w
  cases w with
  | cons a b =>
   cases a
   exact .cons _ _ (ih _ b)
theorem script_of {l : OpenLaw} {n : Nat} (hn : l.most = some n) {P : Params} {h : Heap} {args : List WData} {vals : List Value}
  (hpre : l.row.toRowW.claim.pre args = true) (hwl : WellAll P h vals args) :
  ∃ a vs ns,vals = [Value.ref a] /\ args = [WData.list (ns.map WData.int)] /\ h.get? a = some { cls:=.type "list",data:=.seq vs.toArray } /\ IntsAre vs ns /\ ns.length <= n:=by
 have hsh : WShape.hasAll [] args [.list .int] = true:=(pre_splitW hpre).1
 have hc : l.pre.holds [] { args:=args } = true:=(pre_splitW hpre).2
 obtain ⟨d,r,rfl,h1,h2⟩:=hasAllW_cons hsh
 obtain rfl:=hasAllW_nil h2
 obtain ⟨xs,rfl,h3⟩:=hasW_list h1
 obtain ⟨ns,rfl⟩:=items_int h3
 have hlen : ns.length <= n:=by
  unfold OpenLaw.pre at hc
  have h4 : (WTm.not (.lt (.lit (.int (n : Int))) (.len (.arg 0)))).holds [] { args:=[.list (ns.map .int)] } = true:=by
   have h4:=(holds_andW hc).1
   rw [hn] at h4
   exact h4
  have h5:=condW_of h4 (w_not (w_lt w_lit (w_len_list (w_arg rfl))))
  rw [List.length_map] at h5
  refine Nat.le_of_not_lt fun q=>?_
  have q' : (n : Int) < ((ns.length : Nat) : Int):=by omega
  first
   | (rw [decide_eq_true q'] at h5; exact absurd h5 (by decide))
   | (simp at h5; omega)
 cases hwl with
 | cons w1 w2 =>
  cases w2
  cases w1 with
  | list ho hall=>exact ⟨_,_,ns,rfl,rfl,ho,ints_of_wellAll ns _ hall,hlen⟩
theorem post_true (l : OpenLaw) (args : List WData) : l.row.toRowW.claim.post args (.bool true) args = true :=
 postW_of (r:=l.row.toRowW) (X:=(true == true))
  (show WShape.has [] (.bool true) .bool = true by first | rfl | decide | simp [WShape.has,WShape.arms,WShape.armsAll])
  (show (WTm.eq .res (.lit (.bool true))).value [] { args:=args,res:=some (.bool true),after:=args } = some (.bool (true == true)) from w_eq_bool (w_res rfl) w_lit) rfl
theorem attach_call {l : OpenLaw} {n : Nat} {q : Program} {loose : List Str} {XP : (Str -> Option Value) -> Heap -> Prop} {YP : World -> Heap -> Prop} {d : DefRec}
  (hn : l.most = some n) (hdf : d.params.defaults = [])
  (call : ∀ (w : World) (s₀ s₁ : Shared) (mg mb : Str -> Option Value) (fa : Addr) (o : Obj) (pm cd doc : Value) (a : Addr) (vs : List Value) (ns : List Int),
   Ground q loose [] XP w s₀ mg mb s₁.heap -> YP w s₁.heap ->
   s₁.heap.get? fa = some o -> o.data = .func (docDef d.name d.params d.body d.scope pm cd doc) -> s₁.heap.CodeRec cd d.name -> mg d.name = some (.ref fa) ->
   s₁.heap.get? a = some { cls:=.type "list",data:=.seq vs.toArray } -> IntsAre vs ns -> ns.length <= n -> s₁.gens = #[] ->
   codeAny (model l.prog w) callerA (.call (.ref fa) ⟨[.ref a],[]⟩) (fun r s'=>r = .ok (.ret (.bool true)) /\ OldK s₁.heap s'.heap /\ s'.os = s₁.os /\ AllBare s'.gens) s₁) :
  WalkO q loose XP YP l.row.toRowW d [] (fun f vs=>PySem.call f vs):=by
 intro w s₀ s₁ mg mb G Y fa o pm cd doc dV kV ho hd hcd hD hmg hg args vals as hpre hlay hrd hwl hlo
 obtain rfl : dV = .none:=Dflts.none hD hdf
 obtain rfl : kV = .none:=Dflts.noKw hD
 obtain ⟨a,vs,ns,rfl,rfl,hobj,hints,hlen⟩:=script_of hn hpre hwl
 refine enter_call (codeAny_mono (call w s₀ s₁ mg mb fa o pm cd doc a vs ns G Y ho (fd_plain hd) hcd hmg hobj hints hlen hg) fun r s' hq=>?_)
 obtain ⟨rfl,h2,h3,h4⟩:=hq
 exact ⟨.inl ⟨.bool true,.bool true,[],rfl,fun _=>rfl,.bool true,post_true l _,fun _=>⟨List.Pairwise.nil,fun _ hm=>(nomatch hm)⟩⟩,h2,h3,h4⟩
section
variable {prog : Program} {w : World} {A : Around} {E : Value -> Shared -> Prop} {s : Shared} {K : Frag}
end
end Att
namespace L2
open PySem PySem.Spec PyProof.Rows
theorem vals_ints : ∀ {vs : List Value} {ns : List Int},IntsAre vs ns -> Vals (ns.map V.int) vs
 | _,_,.nil=>.nil
 | _,_,.cons n t h=>.cons ⟨t,rfl⟩ (vals_ints h)
def Only (H : Hp) : Prop:=∀ b,H b = none \/ ∃ o xs,H b = some (.frz o (.lst xs))
theorem law_call {P : Program} {w : World} {K : PySem.W.Frag} {mg mb : Str -> Option Value} {CX : CXT} {k : Nat} {fa a : Addr} {fd : FuncData} {x : Str} {sp : Sp} {s₁ : Shared} {vs : List Value} {ns : List Int}
  (KX : K.In s₁.heap) (hns : s₁.heap.Ns mainGlobals mg) (hb : s₁.heap.Ns builtinsNs mb) (hbb : ∀ x : Str,x ≠ "__name__" -> mb x = bootBuiltins x) (hlim : s₁.heap.NoLimit) (hg : s₁.gens = #[])
  (ha : s₁.heap.get? a = some { cls:=.type "list",data:=.seq vs.toArray }) (hi : IntsAre vs ns) (hl : ns.length <= sizeLine) (hr : Room k callerA)
  (F : ∀ base : Heap,K.In base -> base.Ns mainGlobals mg -> FnOk P w K mg base CX k fa fd [x] sp) (hbind : ∀ (s : Shared) (u : Value),BindsTo s fd ⟨[u],[]⟩ [(x,u)])
  (hsp : ∀ H : Hp,Only H -> SqL K H a (ns.map V.int) -> sp [.ref a] H (fun v _=>v = .bl true) fun _ _ _=>False)
  (hCX : ∀ H e s',CX [] H s₁ (fun _ _ _=>False) e s' -> False) :
  codeAny (model P w) callerA (.call (.ref fa) ⟨[.ref a],[]⟩) (fun r s'=>r = .ok (.ret (.bool true)) /\ OldK s₁.heap s'.heap /\ s'.os = s₁.os /\ AllBare s'.gens) s₁:=by
 have rv:=vals_ints hi
 have lenV:=hi.length
 have core : ∀ H : Hp,Only H -> SqL K H a (ns.map V.int) -> HOk P w H s₁.heap -> (∀ b,H b ≠ none -> b = a) -> (H a ≠ none -> K.lookup a = none) ->
   codeAny (model P w) callerA (.call (.ref fa) ⟨[.ref a],[]⟩) (fun r s'=>r = .ok (.ret (.bool true)) /\ OldK s₁.heap s'.heap /\ s'.os = s₁.os /\ AllBare s'.gens) s₁:=by
  intro H hO hS hok hA hK
  have base_of : ∀ {b : Addr} {o : Obj},s₁.heap.get? b = some o -> H b = none -> (hidT s₁.heap H).get? b = some o:=fun e n=>hidT_get e n
  have noA : ∀ {b : Addr} {o : Obj} {es : Array DictEntry} {ep : Nat},s₁.heap.get? b = some o -> o.data = .dict es ep -> H b = none:=fun {b o es ep} e d=>by
   cases q : H b with
   | none=>rfl
   | some u =>
    have e' : b = a:=hA b (by rw [q]; simp)
    subst e'
    rw [ha] at e; cases e
    have d' : Data.seq vs.toArray _ = Data.dict es ep:=d
    cases d'
  have nsK : ∀ {b : Addr} {m : Str -> Option Value},s₁.heap.Ns b m -> (hidT s₁.heap H).Ns b m:=fun {b m} ⟨o,es,ep,e,d,r⟩=>⟨o,es,ep,base_of e (noA e d),d,r⟩
  have hKb : K.In (hidT s₁.heap H):=fun b o e=>base_of (KX b o e) (by
   cases q : H b with
   | none=>rfl
   | some u =>
    have e' : b = a:=hA b (by rw [q]; simp)
    subst e'
    rw [hK (by rw [q]; simp)] at e; cases e)
  have hM : Mod K mg (hidT s₁.heap H):=⟨hKb,nsK hns,⟨mb,nsK hb,hbb⟩,let ⟨mc,h1,h2⟩:=hlim; ⟨mc,nsK h1,h2⟩⟩
  have e0 : Env0 P w K mg (hidT s₁.heap H) callerA [] s₁ H:=⟨rfl,hM,fun b o e=>of_hidT e,Nat.le_of_eq (hidT_size _ _),trivial,fun b hb=>absurd (show b ∈ ([] : List Addr) from hb) (by simp),hok,.of_eq hg⟩
  refine codeAny_mono ((F _ hKb (nsK hns)).run callerA [] s₁ H ⟨[.ref a],[]⟩ [.ref a] [.ref a] _ _ hr e0 (hbind s₁ (.ref a)) (.cons rfl .nil) (hsp H hO hS)) fun r s' h=>?_
  cases r with
  | error e=>exact (hCX H e s' h).elim
  | ok fl =>
   cases fl with
   | next=>exact False.elim h
   | brk=>exact False.elim h
   | cont=>exact False.elim h
   | ret u =>
    obtain ⟨v,H',os,bare,un,hok',r',q⟩:=h
    have q' : v = .bl true:=q
    subst q'
    obtain rfl : u = Value.bool true:=r'
    refine ⟨rfl,OldK.of_keep fun b o e=>?_,os,bare⟩
    cases q : H b with
    | none=>exact un.keep b o e q (by intro z; exact absurd (show b ∈ ([] : List Addr) from z) (by simp)) (by simp)
    | some u =>
     rcases hO b with z | ⟨ob,xs,z⟩
     ·rw [q] at z; cases z
     ·have z2:=un.frzs b ob _ z
      obtain ⟨e1,_⟩:=hok b _ z
      obtain ⟨e2,_⟩:=hok' b _ z2
      rw [e] at e1; cases e1
      exact e2
 cases hk : K.lookup a with
 | some o =>
  have e:=KX a o hk
  rw [ha] at e
  cases e
  refine core (fun _=>none) (fun _=>.inl rfl) (.inr ⟨_,vs.toArray,_,hk,rfl,rfl,rfl,by rw [List.size_toArray,lenV]; exact hl,by simpa using rv⟩) (fun b u z=>by have z' : (none : Option HO) = some u:=z; cases z') (fun b z=>absurd rfl z) fun z=>absurd rfl z
 | none =>
  refine core (fun b=>if b = a then some (.frz { cls:=.type "list",data:=.seq vs.toArray } (.lst (ns.map V.int))) else none) (fun b=>?_) (.inl (.inr ⟨{ cls:=.type "list",data:=.seq vs.toArray },if_pos rfl⟩)) (fun b u z=>?_) (fun b z=>?_) fun _=>hk
  ·by_cases hb : b = a
   ·exact .inr ⟨_,_,if_pos hb⟩
   ·exact .inl (if_neg hb)
  ·by_cases hb : b = a
   ·have z':=(if_pos hb).symm.trans z
    cases z'
    subst hb
    exact ⟨ha,by rw [List.length_map]; exact hl,vs,_,rv,ha⟩
   ·have z':=(if_neg hb).symm.trans z
    cases z'
  ·by_cases hb : b = a
   ·exact hb
   ·exact absurd (if_neg hb) z
end L2
namespace L2
open PySem PySem.Spec PyProof.Rows
theorem walk_of {l : PySem.W.OpenLaw} {n k : Nat} {q : Program} {loose : List Str} {XP : (Str -> Option Value) -> Heap -> Prop} {YP : World -> Heap -> Prop} {d : DefRec} {K : Params -> PySem.W.Frag} {CX : World -> CXT} {sp : World -> Sp} {x : Str}
  (hn : l.most = some n) (hn2 : n <= sizeLine) (hdf : d.params.defaults = []) (hr : Room k callerA)
  (hY : ∀ (w : World) (h : Heap),YP w h -> (K w.params).In h)
  (F : ∀ (w : World) (mg : Str -> Option Value) (fa : Addr) (h : Heap),(K w.params).In h -> h.Ns mainGlobals mg -> mg d.name = some (.ref fa) ->
   ∃ fd : FuncData,(∀ (s : Shared) (u : Value),BindsTo s fd ⟨[u],[]⟩ [(x,u)]) /\
    ∀ base : Heap,(K w.params).In base -> base.Ns mainGlobals mg -> FnOk l.prog w (K w.params) mg base (CX w) k fa fd [x] (sp w))
  (hsp : ∀ (w : World) (H : Hp) (a : Addr) (ns : List Int),ns.length <= n -> Only H -> SqL (K w.params) H a (ns.map V.int) -> sp w [.ref a] H (fun v _=>v = .bl true) fun _ _ _=>False)
  (hCX : ∀ (w : World) (H : Hp) (s : Shared) (e : Value) (s' : Shared),CX w [] H s (fun _ _ _=>False) e s' -> False) :
  PySem.W.WalkO q loose XP YP l.row.toRowW d [] (fun f vs=>PySem.call f vs):=by
 refine Att.attach_call hn hdf fun w s₀ s₁ mg mb fa o pm cd doc a vs ns G Y ho hd hcd hmg hobj hints hlen hg=>?_
 have KX:=hY w _ Y
 obtain ⟨fd,hb,hF⟩:=F w mg fa _ KX G.T.g hmg
 exact law_call KX G.T.g G.T.b G.T.builtins G.T.nolimit hg hobj hints (Nat.le_trans hlen hn2) hr hF hb (fun H hO hS=>hsp w H a ns hlen hO hS) fun H e s'=>hCX w H s₁ e s'
end L2
namespace L2
open PySem PySem.Spec PyProof.Rows
def inClass (s : Stmt) (j : Nat) : Stmt:=match s with
 | .ClassDef _ _ _ body _ _ _ _ _ _ _=>body.getD j (.Pass ⟨0,0,0,0⟩)
 | _=>.Pass ⟨0,0,0,0⟩
def defArgs (s : Stmt) : Arguments:=match s with
 | .FunctionDef _ a _ _ _ _ _ _ _ _=>a
 | _=>{ posonlyargs:=[],args:=[],vararg:=none,kwonlyargs:=[],kw_defaults:=[],kwarg:=none,defaults:=[] }
def defBody (s : Stmt) : List Stmt:=match s with
 | .FunctionDef _ _ b _ _ _ _ _ _ _=>b
 | _=>[]
def defScope (s : Stmt) : Scope:=match s with
 | .FunctionDef _ _ _ _ _ _ sc _ _ _=>sc
 | _=>{ kind:=.function,names:=[],isGenerator:=false,isCoroutine:=false }
abbrev CX0 : CXT:=fun _ _ _ _ _ _=>False
abbrev E0 : XK:=fun _ _ _=>False
theorem pass0 {X : Cx} : Passes CX0 X E0:=fun _ _ _ _ _ _ _ h=>h.elim
structure Fun (K : PySem.W.Frag) (x qual : Str) (st : Stmt) (f : Addr) (fd : FuncData) : Prop where
 ex : ∃ (oc : Value) (od : Option Addr) (kV doc pm : Value) (an : Option Addr) (cdv ct : Value) (osl : Array (Option Value)),
  fd = PySem.W.fnOf x qual (defArgs st) (defBody st) (defScope st) .none kV doc pm an cdv ct /\ K.lookup f = some ⟨oc,od,.func fd,osl⟩ /\ PySem.W.codeIn K cdv qual = true
 kp : PySem.W.keepIn K (.ref f) = true
section
variable {P : Program} {w : World} {K : PySem.W.Frag} {mg : Str -> Option Value} {base : Heap}
theorem Fun.ok {x qual : Str} {st : Stmt} {f : Addr} {fd : FuncData} {N ps : List Str} {k : Nat} {sp : Sp} (F : Fun K x qual st f fd) (S : FnScope N ps (defScope st)) (len : ∀ vs H Q E,sp vs H Q E -> vs.length = ps.length)
  (hbody : ∀ (cdv : Value) (A : Around) (outer : List Env) (s : Shared) (H : Hp) (vs : List V) (Q : VK) (E : XK),Room k (A.deeper (envOfC qual (defScope st) s.heap.objs.size f cdv)) -> sp vs H Q E ->
   ∃ t,PSs (cxOf CX0 P w K mg base N qual (defScope st) f cdv A outer s H E).nox (defBody st) t /\ t { nx:=fun _ H'=>Q .non H',rt:=Q } (start N vs) H) : FnOk P w K mg base CX0 (k + 1) f fd ps sp:=by
 obtain ⟨oc,od,kV,doc,pm,an,cdv,ct,osl,rfl,lk,hcd⟩:=F.ex
 refine fn_of lk hcd S len fun A outer s H vs Q E hr hsp=>?_
 obtain ⟨t,h,q⟩:=hbody cdv A outer s H vs Q E hr hsp
 exact ⟨t,h.nox,q⟩
theorem Fun.binds {x qual : Str} {st : Stmt} {f : Addr} {fd : FuncData} {ps : List Str} (F : Fun K x qual st f fd)
  (h : ∀ (kV doc pm : Value) (an : Option Addr) (cdv ct : Value) (us : List Value),us.length = ps.length -> bindArgs (PySem.W.fnOf x qual (defArgs st) (defBody st) (defScope st) .none kV doc pm an cdv ct) ⟨us,[]⟩ = pure (ps.zip us)) : Binds K fd ps []:=by
 obtain ⟨oc,od,kV,doc,pm,an,cdv,ct,osl,rfl,lk,hcd⟩:=F.ex
 exact .all (h kV doc pm an cdv ct)
theorem fun_mk {x qual : Str} {st : Stmt} {f : Addr} {oc : Value} {od an : Option Addr} {osl : Array (Option Value)} {kV doc pm cdv ct : Value} (l : K.lookup f = some ⟨oc,od,.func (PySem.W.fnOf x qual (defArgs st) (defBody st) (defScope st) .none kV doc pm an cdv ct),osl⟩)
  (c : PySem.W.codeIn K cdv qual = true) (k : PySem.W.keepIn K (.ref f) = true) : Fun K x qual st f (PySem.W.fnOf x qual (defArgs st) (defBody st) (defScope st) .none kV doc pm an cdv ct):=⟨⟨oc,od,kV,doc,pm,an,cdv,ct,osl,rfl,l,c⟩,k⟩
end
theorem hu_of {A : Around} {k : Nat} (hr : Room k A) : A.units + 1 < cLine:=Nat.lt_of_le_of_lt (Nat.add_le_add_left (by decide : 1 <= 64) _) hr.units
theorem small1000 {n : Nat} (h : n <= 1000) : n < sizeLine:=Nat.lt_of_le_of_lt h (by decide)
section
variable {X : Cx}
theorem pv (i : Nat) {x : Str} {pos : Pos} (hN : X.N[i]? = some x:=by rfl) (hv : Vis X.env.scope x:=by first | exact Or.inl rfl | exact Or.inr (Or.inl rfl) | exact Or.inr (Or.inr rfl)) (hd : (x == ("__debug__" : Str)) = false:=by decide)
  (hcd : (x == ("__classdict__" : Str)) = false:=by decide) : PE X (.Name x pos) (tVar i):=pe_var hN hv hd hcd
end
theorem iteF {A B : Prop} (h : B) : if false = true then A else B:=by
 rw [if_neg Bool.false_ne_true]
 exact h
theorem iteT {A B : Prop} (h : A) : if true = true then A else B:=by
 rw [if_pos rfl]
 exact h
theorem ite2 {c A B : Prop} [Decidable c] (h1 : c -> A) (h2 : ¬ c -> B) : if c then A else B:=by
 by_cases h : c
 ·rw [if_pos h]
  exact h1 h
 ·rw [if_neg h]
  exact h2 h
theorem iteNS {c A B : Prop} [Decidable c] (hc : c) (h : B) : if (!decide c) = true then A else B:=by
 rw [decide_eq_true hc]
 exact iteF h
section
variable {κ : Type} [DecidableEq κ]
end
end L2
namespace L2
open PySem PySem.Spec PyProof.Rows
structure Aw (fs : List Addr) (H H' : Hp) (h B h' : Heap) : Prop where
 stays : ∀ b o,h.get? b = some o -> H b = none -> b ∉ fs -> B.get? b = some o
 slot : ∀ b o,h.get? b = some o -> H b = none -> b ∈ fs -> ∃ sl,h'.get? b = some { o with slots:=sl }
 free : ∀ b o,h.get? b = some o -> H b = none -> H' b = none
 there : ∀ b o,h.get? b = some o -> b ∉ fs -> ∃ o',B.get? b = some o'
 tups : ∀ b xs,H b = some (.tup xs) -> H' b = some (.tup xs)
 frzs : ∀ b o u,H b = some (.frz o u) -> H' b = some (.frz o u)
 tbls : ∀ b ps,H b = some (.tbl ps) -> ∃ more,H' b = some (.tbl (ps ++ more))
theorem Aw.un {fs : List Addr} {H H' : Hp} {h B h' : Heap} (x : Aw fs H H' h B h') (k : B.StaysIn h') (hf : ∀ b ∈ fs,H b = none) : Un fs [] H H' h h' where
 keep:=fun b o e n hb _=>k b o (x.stays b o e n hb)
 slot:=fun b o e n hb _=>x.slot b o e n hb
 free:=fun b o e n _=>x.free b o e n
 there:=fun b o e _=>by
  by_cases hb : b ∈ fs
  ·obtain ⟨sl,q⟩:=x.slot b o e (hf b hb) hb
   exact ⟨_,q⟩
  ·obtain ⟨o',q⟩:=x.there b o e hb
   exact ⟨o',k b o' q⟩
 tups:=x.tups
 frzs:=x.frzs
 tbls:=x.tbls
theorem Aw.next {fs : List Addr} {H H' : Hp} {h B h1 h2 : Heap} (x : Aw fs H H' h B h1) (up : h1.UpToSlots h2) (nf : ∀ b ∈ fs,∀ o,h.get? b = some o -> ∀ vs,o.data ≠ .fields vs) : Aw fs H H' h B h2 :=
 ⟨x.stays,fun b o e n hb=>by
  obtain ⟨sl,q⟩:=x.slot b o e n hb
  obtain ⟨sl',q'⟩:=up b _ q (nf b hb o e)
  exact ⟨sl',q'⟩,x.free,x.there,x.tups,x.frzs,x.tbls⟩
theorem HOk.sub {P : Program} {w : World} {H : Hp} {h B : Heap} (x : HOk P w H h) (k : ∀ b u,H b ≠ none -> h.get? b = some u -> B.get? b = some u) : HOk P w H B:=fun a o e =>
 (x a o e).stay (fun b u hb q=>k b u (by
  rcases hb with rfl | hb
  ·rw [e]; exact fun z=>nomatch z
  ·rw [hb]; exact fun z=>nomatch z) q) (fun _ q=>q) fun _ _ q=>q
def CXE (P : Program) (w : World) : CXT:=fun outer H s E e s' =>
 ∃ (a C : Addr) (a0 : Value) (B : Heap) (H' : Hp),e = .ref a /\ s'.os = s.os /\ AllBare s'.gens /\ Heap.FlyingW B outer a (.ref C) a0 s'.heap /\ Aw (frs outer) H H' s.heap B s'.heap /\ HOk P w H' B /\ E (.ref C) none H'
theorem frs_cons {env : Env} {outer : List Env} {L : Addr} (hf : env.frame = some L) {b : Addr} (hb : b ∈ frs (env :: outer)) : b = L \/ b ∈ frs outer:=by
 unfold frs at hb
 rw [List.filterMap_cons,hf] at hb
 exact List.mem_cons.mp hb
theorem frs_in {l : List Env} : ∀ env ∈ l,∀ a,env.frame = some a -> a ∈ frs l:=fun env he a hf=>List.mem_filterMap.mpr ⟨env,he,hf⟩
def Raises (X : Cx) (E : XK) : Prop:=∀ (pins : List (Addr × Obj)) (σ : St) (H : Hp) (s : Shared) (h' : Heap) (e C : Addr) (us : List Value),Inv X pins σ H s -> Heap.MadeExcOf s.heap h' e (.ref C) us -> E (.ref C) none H -> X.xe (.ref e) { s with heap:=h' }
section
variable {P : Program} {w : World} {K : PySem.W.Frag} {mg : Str -> Option Value} {base : Heap} {N : List Str} {qual : Str} {scope : Scope} {f : Addr} {cd : Value} {A : Around} {outer : List Env} {s0 : Shared} {H0 : Hp} {E : XK}
theorem raises_cx : Raises (cxOf (CXE P w) P w K mg base N qual scope f cd A outer s0 H0 E) E:=by
 intro pins σ H s h' e C us I hx hE
 have hl : s.heap.FunFrames base (envOfC qual scope s0.heap.objs.size f cd :: outer):=I.stack
 have hfr : (A.deeper (envOfC qual scope s0.heap.objs.size f cd)).frames = some (envOfC qual scope s0.heap.objs.size f cd :: outer):=I.ok.frames
 have hL : ∀ b o,s0.heap.get? b = some o -> b ≠ s0.heap.objs.size:=fun b o e=>Nat.ne_of_lt (Heap.lt_size e)
 have hid : ∀ b o,s.heap.get? b = some o -> b ∉ frs (envOfC qual scope s0.heap.objs.size f cd :: outer) -> (PySem.W.hideAll s.heap (frs (envOfC qual scope s0.heap.objs.size f cd :: outer))).get? b = some o:=fun b o e n=>PySem.W.hideAll_get _ e n
 have nin : ∀ b o,s0.heap.get? b = some o -> b ∉ frs outer -> b ∉ frs (envOfC qual scope s0.heap.objs.size f cd :: outer):=fun b o e n hb=>by
  rcases frs_cons rfl hb with z | z
  ·exact hL b o e z
  ·exact n z
 show wpAny (model P w) (A.deeper (envOfC qual scope s0.heap.objs.size f cd)) (leaving (envOfC qual scope s0.heap.objs.size f cd) (.ref e)) _ _ { s with heap:=h' }
 refine wpAny_leaves_madeW (s:={ s with heap:=h' }) (base:=PySem.W.hideAll s.heap (frs (envOfC qual scope s0.heap.objs.size f cd :: outer))) (h:=s.heap) hfr rfl (fun b o q=>PySem.W.of_hideAll _ q) (PySem.W.funFrames_hide hl frs_in) hx fun h2 t fl tup nt up=>?_
 refine ⟨e,C,.ref t,_,H,rfl,I.os,I.bare,fl,⟨fun b o q n hb=>?_,fun b o q n hb=>?_,fun b o q n=>?_,fun b o q hb=>?_,I.base.tups,I.base.frzs,I.base.tbls⟩,?_,hE⟩
 ·exact hid b o (I.base.keep b o q n hb (fun z=>nomatch z)) (nin b o q hb)
 ·obtain ⟨sl,e1⟩:=I.base.slot b o q n hb (fun z=>nomatch z)
  obtain ⟨_,o2,e2,nf⟩:=I.funs.mem hb
  have e3 : s.heap.get? b = some o2:=e2
  rw [e1] at e3
  cases e3
  obtain ⟨sl',e4⟩:=up b _ (hx.keeps _ _ e1) nf
  exact ⟨sl',e4⟩
 ·exact I.base.free b o q n (fun z=>nomatch z)
 ·obtain ⟨o',e1⟩:=I.base.there b o q (fun z=>nomatch z)
  exact ⟨o',hid b o' e1 (nin b o q hb)⟩
 ·refine HOk.sub I.hok fun b u hb q=>hid b u q fun hm=>hb ?_
  exact I.stkFree b hm
theorem passes_cx : Passes (CXE P w) (cxOf (CXE P w) P w K mg base N qual scope f cd A outer s0 H0 E) E:=by
 intro pins σ H s e s' I h
 obtain ⟨a,C,a0,B,H',rfl,hos,bare,fl,aw,hok,hE⟩:=h
 have hfr : (A.deeper (envOfC qual scope s0.heap.objs.size f cd)).frames = some (envOfC qual scope s0.heap.objs.size f cd :: outer):=I.ok.frames
 have nin : ∀ b o,s0.heap.get? b = some o -> b ∉ frs outer -> b ∉ frs (envOfC qual scope s0.heap.objs.size f cd :: outer):=fun b o e n hb=>by
  rcases frs_cons rfl hb with z | z
  ·exact Nat.ne_of_lt (Heap.lt_size e) z
  ·exact n z
 show wpAny (model P w) (A.deeper (envOfC qual scope s0.heap.objs.size f cd)) (leaving (envOfC qual scope s0.heap.objs.size f cd) (.ref a)) _ _ s'
 refine wpAny_leaves_onW hfr rfl fl fun h2 fl2 up=>?_
 refine ⟨a,C,a0,B,H',rfl,hos.trans I.os,bare,fl2,⟨fun b o q n hb=>?_,fun b o q n hb=>?_,fun b o q n=>?_,fun b o q hb=>?_,fun b xs q=>aw.tups b xs (I.base.tups b xs q),fun b o u q=>aw.frzs b o u (I.base.frzs b o u q),fun b ps q=>?_⟩,hok,hE⟩
 ·exact aw.stays b o (I.base.keep b o q n hb (fun z=>nomatch z)) (I.base.free b o q n (fun z=>nomatch z)) (nin b o q hb)
 ·obtain ⟨sl,e1⟩:=I.base.slot b o q n hb (fun z=>nomatch z)
  have hb' : b ∈ frs (envOfC qual scope s0.heap.objs.size f cd :: outer):=by
   unfold frs
   rw [List.filterMap_cons]
   exact List.mem_cons_of_mem _ hb
  obtain ⟨sl1,e2⟩:=aw.slot b _ e1 (I.base.free b o q n (fun z=>nomatch z)) hb'
  obtain ⟨_,o2,e3,nf⟩:=I.funs.mem hb
  have e4 : s.heap.get? b = some o2:=e3
  rw [e1] at e4
  cases e4
  obtain ⟨sl2,e5⟩:=up b _ e2 nf
  exact ⟨sl2,e5⟩
 ·obtain ⟨o',e1⟩:=I.base.there b o q (fun z=>nomatch z)
  exact aw.free b o' e1 (I.base.free b o q n (fun z=>nomatch z))
 ·obtain ⟨o',e1⟩:=I.base.there b o q (fun z=>nomatch z)
  exact aw.there b o' e1 (nin b o q hb)
 ·obtain ⟨m1,e1⟩:=I.base.tbls b ps q
  obtain ⟨m2,e2⟩:=aw.tbls b _ e1
  exact ⟨m1 ++ m2,by rw [e2,Array.append_assoc]⟩
theorem Fun.okE {x qual : Str} {st : Stmt} {f : Addr} {fd : FuncData} {N ps : List Str} {k : Nat} {sp : Sp} (F : Fun K x qual st f fd) (S : FnScope N ps (defScope st)) (len : ∀ vs H Q E,sp vs H Q E -> vs.length = ps.length)
  (hbody : ∀ (cdv : Value) (A : Around) (outer : List Env) (s : Shared) (H : Hp) (vs : List V) (Q : VK) (E : XK),Room k (A.deeper (envOfC qual (defScope st) s.heap.objs.size f cdv)) -> sp vs H Q E ->
   ∃ t,PSs (cxOf (CXE P w) P w K mg base N qual (defScope st) f cdv A outer s H E) (defBody st) t /\ t { nx:=fun _ H'=>Q .non H',rt:=Q } (start N vs) H) : FnOk P w K mg base (CXE P w) (k + 1) f fd ps sp:=by
 obtain ⟨oc,od,kV,doc,pm,an,cdv,ct,osl,rfl,lk,hcd⟩:=F.ex
 exact fn_of lk hcd S len fun A outer s H vs Q E hr hsp=>hbody cdv A outer s H vs Q E hr hsp
end
theorem ownCls_mk {K : PySem.W.Frag} {h : Heap} {mg : Str -> Option Value} {x : Str} {C : Addr} {bmB : List Value} {newId : String} (X : K.In h) (em : mg x = some (.ref C)) (q : PySem.W.excIn K C bmB newId = true) : OwnCls x C bmB newId mg h:=by
 refine ⟨em,?_⟩
 unfold PySem.W.excIn at q
 split at q
 ·rename_i dd cd sl ho
  split at q
  ·rename_i C1 bm k0 k1 k2 k3 n k5 hm hs
   simp only [Bool.and_eq_true,beq_iff_eq,Bool.not_eq_true'] at q
   obtain ⟨⟨⟨⟨⟨z1,z2⟩,hdel⟩,ht⟩,hok⟩,hni⟩:=q
   subst z1 z2
   obtain ⟨nm,bs,mro,ns,qn,hd,sn,sub,ab,col,del⟩:=cd
   dsimp only at hm hdel hok hni
   subst hm hdel
   have hsl : sl = #[k0,k1,k2,k3,some (.builtin n),k5]:=by
    cases sl
    simp only at hs
    rw [hs]
   subst hsl
   exact ⟨bm,ns,nm,qn,bs,hd,sn,sub,ab,col,dd,k0,k1,k2,k3,k5,_,X _ _ ho,.of_isNs (PySem.W.isNs_of_in X hok),PySem.W.nsMap_none_of_in X hok hni,PySem.W.tail_of_in X ht⟩
  ·cases q
 ·cases q
section
variable {X : Cx}
def tRaise (C : Addr) (E : XK) (t : TA) : TS:=fun _ σ H=>t σ H fun vs H1=>vs.length <= sizeLine /\ E (.ref C) none H1
theorem ps_raise {x : Str} {C : Addr} {bmB : List Value} {B newId initId : String} {e : Expr} {es : List Expr} {t : TA} {E : XK} {np cpos pos : Pos} (hc : X.calm = true) (hg : Gl X x) (hm : X.mg x = some (.ref C)) (hq : PySem.W.excIn X.K C bmB newId = true)
  (FB : ExcBaseFacts B newId initId bmB) (hE : Raises X E) (ha : PA X (e :: es) t) (hdb : (x == ("__debug__" : Str)) = false:=by decide)
  (he : starEach (e :: es) X.env = (false,eval e X.env) :: starEach es X.env:=by rfl) (hpl : (backTo cpos (starEach es X.env)).any (·.1) = false:=by rfl) :
  PS X (.Raise (some (.Call (.Name x np) (e :: es) [] cpos)) none pos) (tRaise C E t):=by
 intro pins s σ H D I h
 obtain ⟨tl,N,nm,q,bs,hdct,sn,sub,ab,col,dd,k0,k1,k2,k3,k5,mN,hC,hN,hni,T⟩:=(ownCls_mk I.mod.kin hm hq).obj
 refine wpAny_Raise_call_subT (C:=C) (nm:=nm) (q:=q) (N:=N) (bs:=bs) (bm:=tl) (hdct:=hdct) (sn:=sn) (sub:=sub) (ab:=ab) (col:=col) (dd:=dd) (k0:=k0) (k1:=k1) (k2:=k2) (k3:=k3) (k5:=k5)
  FB (mN:=mN) (T.hasType FB.hasBase) (I.ok.hd hc) (by rw [he]; show (false || (backTo cpos (starEach es X.env)).any (·.1)) = false; rw [hpl]; rfl) hni (ld_glob I hg hm ⟨rfl,?_⟩ hdb)
 have hA:=ha cpos pins s σ H _ I h
 rw [he] at hA ⊢
 refine Calls.evalArgs_plain (thn hA fun us s2 ⟨vs,H1,I1,r,z,qE⟩=>?_)
 exact ⟨rfl,by rw [<- r.length]; exact z,I1.bk _ _ hC,hN.keeps I1.bk,T.keeps I1.bk,fun h' e' hx=>hE pins σ H1 s2 h' e' C us I1 hx qE⟩
end
def PX (X : Cx) (e : Expr) (t : St -> Hp -> VK -> XK -> Prop) : Prop :=
 ∀ (pins : List (Addr × Obj)) (s : Shared) (σ : St) (H : Hp) (Q : VK) (E : XK),Inv X pins σ H s -> t σ H Q E ->
  wpAny (model X.prog X.w) X.A (eval e X.env) (EP X pins σ Q) (fun e' s'=>∃ s1 H1,Inv X pins σ H1 s1 /\ CXE X.prog X.w X.stack H1 s1 E e' s') s
section
variable {X : Cx} {k : Nat} {f C : Addr} {fd : FuncData} {ps : List Str} {sp : Sp} {x m : Str} {p pos apos : Pos} {e o : Expr} {es : List Expr} {ta : TE} {t : TA} {dvs : List V} {ds : List Value}
theorem run_fnE {pins : List (Addr × Obj)} {σ : St} {H : Hp} {s : Shared} {Q : VK} {E : XK} {us : List Value} {vs : List V} (F : FnOk X.prog X.w X.K X.mg X.base (CXE X.prog X.w) k f fd ps sp) (hr : Room k X.A) (hb : Binds X.K fd ps ds) (hd : Vals dvs ds)
  (I : Inv X pins σ H s) (r : Vals vs us) (h : sp (vs ++ dvs) H Q E) : wpAny (model X.prog X.w) X.A (call (.ref f) us) (EP X pins σ Q) (fun e' s'=>∃ s1 H1,Inv X pins σ H1 s1 /\ CXE X.prog X.w X.stack H1 s1 E e' s') s:=by
 have r2 : Vals (vs ++ dvs) (us ++ ds):=r.append hd
 have hl : (us ++ ds).length = ps.length:=by rw [<- r2.length]; exact F.len _ _ _ _ h
 refine wpAny_call (codeAny_mono (F.run X.A X.stack s H ⟨us,[]⟩ (us ++ ds) (vs ++ dvs) Q E hr I.env0 (hb s us I.kIn hl) r2 h) fun r s' hq=>?_)
 cases r with
 | error e=>exact ⟨s,H,I,hq⟩
 | ok fl =>
  cases fl with
  | ret u=>exact I.after hq
  | next=>exact False.elim hq
  | brk=>exact False.elim hq
  | cont=>exact False.elim hq
theorem px_call (F : FnOk X.prog X.w X.K X.mg X.base (CXE X.prog X.w) k f fd ps sp) (hr : Room k X.A) (hg : Gl X x) (hm : X.mg x = some (.ref f)) (hk : PySem.W.keepIn X.K (.ref f) = true) (hb : Binds X.K fd ps ds) (hd : Vals dvs ds)
  (ha : ∀ E',PA (X.wish E') (e :: es) t) (hdb : (x == ("__debug__" : Str)) = false:=by decide) (he : starEach (e :: es) X.env = (false,eval e X.env) :: starEach es X.env:=by rfl) (hpl : (backTo pos (starEach es X.env)).any (·.1) = false:=by rfl) :
  PX X (.Call (.Name x p) (e :: es) [] pos) (fun σ H Q E=>t σ H fun vs H1=>sp (vs ++ dvs) H1 Q E):=by
 intro pins s σ H Q E I h
 refine wpAny_Call_Name_kw (ld_glob I hg hm ?_ hdb)
 have hA:=ha (fun e' s'=>∃ s1 H1,Inv X pins σ H1 s1 /\ CXE X.prog X.w X.stack H1 s1 E e' s') pos pins s σ H _ (I.wish _) h
 refine PySem.W.callWith_K (h₀:=X.base) I.ok.mod.kin hk (wpAny_mono hA (fun us s1 hq=>?_) fun _ _ z=>z) he hpl
 obtain ⟨vs,H1,I1,r,q⟩:=hq
 exact ⟨I1.kIn,run_fnE F hr hb hd I1.unwish r q⟩
abbrev Cx.hold (X : Cx) (a : Addr) : Cx:={ X with A:=X.A.mark (some (.ref a)),calm:=false,xe:=fun _ _=>False }
theorem hold_ok {a : Addr} (ok : X.Ok) : (Cx.hold X a).Ok :=
 ⟨ok.mod,ok.kind,ok.glob,ok.blt,ok.above,ok.inj,ok.has,ok.cab,(fun z=>nomatch z),ok.frames,ok.stk,ok.exf,ok.bs,ok.bsz,ok.noex,ok.exfs,ok.funs,ok.frf⟩
theorem hold_in {pins : List (Addr × Obj)} {σ : St} {H : Hp} {s : Shared} {a : Addr} (I : Inv X pins σ H s) : Inv (Cx.hold X a) pins σ H s:=⟨hold_ok I.ok,I.os,I.bare,I.base,I.loc,I.cell,I.free,I.freeC,I.pin,I.hok,I.len⟩
theorem hold_out {pins : List (Addr × Obj)} {σ : St} {H : Hp} {s : Shared} {a : Addr} (ok : X.Ok) (I : Inv (Cx.hold X a) pins σ H s) : Inv X pins σ H s:=⟨ok,I.os,I.bare,I.base,I.loc,I.cell,I.free,I.freeC,I.pin,I.hok,I.len⟩
theorem hold_SP {pins : List (Addr × Obj)} {D : Ends} {f : Flow} {s' : Shared} {a : Addr} (ok : X.Ok) (h : SP (Cx.hold X a) pins D f s') : SP X pins D f s':=by
 cases f with
 | next=>obtain ⟨σ',H',I,q⟩:=h; exact ⟨σ',H',hold_out ok I,q⟩
 | brk=>obtain ⟨σ',H',I,q⟩:=h; exact ⟨σ',H',hold_out ok I,q⟩
 | cont=>obtain ⟨σ',H',I,q⟩:=h; exact ⟨σ',H',hold_out ok I,q⟩
 | ret u=>obtain ⟨v,σ',H',I,r,q⟩:=h; exact ⟨v,σ',H',hold_out ok I,r,q⟩
def PH (X : Cx) (hs : List ExceptHandler) (t : Value -> TS) : Prop :=
 ∀ (pins : List (Addr × Obj)) (s : Shared) (σ : St) (H : Hp) (s' : Shared) (a C : Addr) (a0 : Value) (B : Heap) (H' : Hp) (D : Ends),Inv X pins σ H s -> s'.os = s.os -> AllBare s'.gens -> Heap.FlyingW B X.stack a (.ref C) a0 s'.heap ->
  Aw (frs X.stack) H H' s.heap B s'.heap -> HOk X.prog X.w H' B -> t (.ref C) D σ H' -> wpAny (model X.prog X.w) X.A (handleBy (.ref a) X.env hs) (SP X pins D) X.xe s'
theorem ph_inv {pins : List (Addr × Obj)} {s : Shared} {σ : St} {H : Hp} {s' : Shared} {a C : Addr} {a0 : Value} {B : Heap} {H' : Hp} (I : Inv X pins σ H s) (ho : s'.os = s.os) (hg : AllBare s'.gens) (fl : Heap.FlyingW B X.stack a (.ref C) a0 s'.heap)
  (aw : Aw (frs X.stack) H H' s.heap B s'.heap) (hok : HOk X.prog X.w H' B) : Inv X pins σ H' s' :=
 I.call' (ch:=[]) ho (aw.un fl.1 I.stkFree) (hok.kept fl.1) hg (fun b z=>nomatch z)
theorem nofields {pins : List (Addr × Obj)} {s : Shared} {σ : St} {H : Hp} (I : Inv X pins σ H s) : ∀ b ∈ frs X.stack,∀ o,s.heap.get? b = some o -> ∀ vs,o.data ≠ .fields vs:=fun b hb o e=>by
 obtain ⟨_,o2,e2,nf⟩:=I.stack.mem hb
 rw [e] at e2
 cases e2
 exact nf
def tHNil : Value -> TS:=fun _ _ _ _=>False
theorem ph_nil : PH X [] tHNil:=fun _ _ _ _ _ _ _ _ _ _ _ _ _ _ _ _ _ h=>h.elim
def tHCons (K : PySem.W.Frag) (C' : Addr) (tb : TS) (tr : Value -> TS) : Value -> TS:=fun cls D σ H=>∃ b,PySem.W.exmOne K cls (.ref C') = some b /\ if b = true then tb D σ H else tr cls D σ H
theorem ph_cons {C' : Addr} {b0 : Stmt} {suite : List Stmt} {hpos np : Pos} {rest : List ExceptHandler} {tb : TS} {tr : Value -> TS} (hg : Gl X x) (hm : X.mg x = some (.ref C')) (hb : ∀ a,PSs (Cx.hold X a) (b0 :: suite) tb) (hr : PH X rest tr)
  (hdb : (x == ("__debug__" : Str)) = false:=by decide) : PH X (.ExceptHandler (some (.Name x np)) none (b0 :: suite) hpos :: rest) (tHCons X.K C' tb tr):=by
 intro pins s σ H s' a C a0 B H' D I ho hgn fl aw hok h
 obtain ⟨b,hx,h⟩:=h
 have I1:=ph_inv I ho hgn fl aw hok
 have I2 : Inv (Cx.hold X a) pins σ H' s':=hold_in I1
 refine wpAny_handleBy_cons (codeAny_handlers_test (ld_glob (X:=Cx.hold X a) I2 hg hm ?_ hdb)) (by intro q; cases q)
 obtain ⟨ob,hob,hobc⟩:=fl.there
 have LT : PySem.W.Looks (model X.prog X.w) s'.heap (typeOf (.ref a)) (.ref C):=by
  rw [<- hobc]
  exact (PySem.W.Looks.ld hob).andThen .now
 refine (PySem.W.exm_one I1.kIn LT hx).here ?_
 cases b with
 | false=>exact hr pins s σ H s' a C a0 B H' D I ho hgn fl aw hok h
 | true =>
  refine codeAny_handlers_suite (lands_againW fl fun h3 fl3 up3=>?_)
  have I3 : Inv X pins σ H' { s' with heap:=h3 }:=ph_inv (s':={ s' with heap:=h3 }) I ho hgn fl3 (aw.next up3 (nofields I)) hok
  refine wpAny_mono (hb a pins _ σ H' D (hold_in I3) h) (fun f s4 q=>?_) (fun _ _ z=>False.elim z)
  exact hold_SP I.ok q
theorem ps_try1 {i : Nat} {te : St -> Hp -> VK -> XK -> Prop} {th : Value -> TS} {h0 : ExceptHandler} {hs : List ExceptHandler} {p1 p2 : Pos} (hst : X.stack = X.env :: X.outer) (hf : X.env.frame = some X.env.locals) (hN : X.N.Nodup) (hi : X.N[i]? = some x) (hx : Loc X.env.scope x)
  (he : PX X e te) (hh : PH X (h0 :: hs) th) (hs' : swapsWith e (some (.Name x p1)) p2.line X.env = pure false:=by rfl)
  (hfn : X.fn x = true \/ X.env.scope.names.lookup x = some .local:=by first | exact .inl rfl | exact .inr rfl | assumption) :
  PS X (.Try [.Assign [.Name x p1] e p2] (h0 :: hs) [] [] pos) (fun D σ H=>te σ H (fun v H1=>D.nx (σ.set i (some v)) H1) (fun cls _ H1=>th cls D σ H1)):=by
 intro pins s σ H D I h
 refine wpAny_Try_except (wpAny_execs_cons (wpAny_Assign_Name (wpAny_mono (he pins s σ H _ _ I h) (fun v s1 ⟨y,H1,I1,r1,q1⟩=>?_) fun e' s' z=>?_) hs'))
 ·exact store_ok I1 hN hi hx r1 (fun s2 I2=>wpAny_execs_nil (wpAny_execs_nil ⟨_,H1,I2,q1⟩)) hfn
 ·obtain ⟨s1,H1,I1,a,C,a0,B,H',z1,hos,bare,fl,aw,hok,hE⟩:=z
  subst z1
  have fr : X.A.frames = some (X.env :: X.outer):=by rw [<- hst]; exact I.ok.frames
  rw [hst] at fl
  refine wpAny_looks_onW fr hf fl fun h2 held up=>wpAny_landsW held fun h3 fl3 up3=>?_
  rw [<- hst] at fl3
  exact hh pins s1 σ H1 { s' with heap:=h3 } a C a0 B H' D I1 hos bare fl3 ((aw.next up (nofields I1)).next up3 (nofields I1)) hok hE
end
end L2
namespace L2
open PySem PySem.Spec PyProof.Rows
section
variable {X : Cx} {pins : List (Addr × Obj)} {σ : St} {H : Hp} {s : Shared} {D : Addr} {ys : List V} {its : List Value} {n : Nat}
theorem nlst {a : Addr} {u : HO} (h : upd H D (.lst ys) a = some u) (hu : ∀ zs,u ≠ .lst zs) : a ≠ D:=fun e=>by
 rw [e,upd_same] at h
 cases h
 exact hu ys rfl
theorem Inv.track (I : Inv X pins σ H s) (f : FpOk X pins H D) (hv : Vals ys its) (e : s.heap.get? D = some { cls:=.type "list",data:=.seq its.toArray n }) (hz : ys.length <= sizeLine) : Inv X pins σ (upd H D (.lst ys)) s:=by
 obtain ⟨f0,f1,f2,f3,f4,f5⟩:=f
 have ne : ∀ b u,H b = some u -> b ≠ D:=fun b u q z=>by rw [z,f0] at q; cases q
 refine I.step (h':=s.heap) (g':=s.gens) (t':=s.toks) (d':=s.drawn) (ch:=[D]) (fun b hb=>?_) (fun b o _ _ _ q _=>q) (fun b o _ _ _ q _=>⟨o.slots,q⟩) (fun b o hb q n=>?_) (fun b o _ q=>⟨o,q⟩)
  (fun b xs q=>by rw [upd_ne (ne b _ q)]; exact q) (fun b o u q=>by rw [upd_ne (ne b _ q)]; exact q) (fun b ps q=>⟨#[],by rw [upd_ne (ne b _ q),q]; simp⟩) (fun m q=>q) (fun b u q=>?_) I.bare
 ·have z : b = D:=by simpa using hb
  subst z
  exact ⟨f3,f1,f4,f5⟩
 ·rw [upd_ne (by intro z; exact hb (by simp [z]))]; exact n
 ·by_cases hb : b = D
  ·subst hb
   rw [upd_same] at q
   cases q
   exact ⟨hz,its,n,hv,e⟩
  ·rw [upd_ne hb] at q
   exact (I.hok b u q).stay (fun c v _ r=>r) (fun c r=>by rw [upd_ne (ne c _ r)]; exact r) fun c xs r=>by rw [upd_ne (ne c _ r)]; exact r
theorem Inv.untrack (I : Inv X pins σ (upd H D (.lst ys)) s) (f0 : H D = none) (f1 : D ≠ X.env.locals) (f3 : D ∈ X.ex \/ X.s₀.heap.objs.size <= D) (f4 : ∀ x c,X.env.cells.lookup x = some c -> c ≠ D) (f5 : ∀ p ∈ X.pn ++ pins,p.1 ≠ D) : Inv X pins σ H s:=by
 refine I.step (h':=s.heap) (g':=s.gens) (t':=s.toks) (d':=s.drawn) (ch:=[D]) (fun b hb=>?_) (fun b o _ _ _ q _=>q) (fun b o _ _ _ q _=>⟨o.slots,q⟩) (fun b o hb q n=>?_) (fun b o _ q=>⟨o,q⟩)
  (fun b xs q=>?_) (fun b o u q=>?_) (fun b ps q=>⟨#[],?_⟩) (fun m q=>q) (fun b u q=>?_) I.bare
 ·have z : b = D:=by simpa using hb
  subst z
  exact ⟨f3,f1,f4,f5⟩
 ·rw [upd_ne (by intro z; exact hb (by simp [z]))] at n; exact n
 ·have hn:=nlst q (fun zs z=>nomatch z); rw [upd_ne hn] at q; exact q
 ·have hn:=nlst q (fun zs z=>nomatch z); rw [upd_ne hn] at q; exact q
 ·have hn:=nlst q (fun zs z=>nomatch z); rw [upd_ne hn] at q; rw [q]; simp
 ·have hb : b ≠ D:=fun z=>by rw [z,f0] at q; cases q
  have q' : upd H D (.lst ys) b = some u:=by rw [upd_ne hb]; exact q
  exact (I.hok b u q').stay (fun c v _ r=>r) (fun c r=>by have hn:=nlst r (fun zs z=>nomatch z); rw [upd_ne hn] at r; exact r) fun c xs r=>by have hn:=nlst r (fun zs z=>nomatch z); rw [upd_ne hn] at r; exact r
end
theorem relabel_free {env : Env} (hk : env.scope.kind = .function) : ∀ {names : List (Str × NameKind)} {x : Str},names.lookup x = some .free -> env.kindOf x = some .cell ->
  (names.map fun (n,k)=>if (k == NameKind.free && env.scope.kind == .function && env.kindOf n == some .cell) then (n,NameKind.cell) else (n,k)).lookup x = some .cell
 | [],_,h,_=>by simp at h
 | (n,k) :: r,x,h,hx=>by
  have ih:=@relabel_free env hk r x
  show List.lookup x ((if (k == NameKind.free && env.scope.kind == .function && env.kindOf n == some .cell) = true then (n,NameKind.cell) else (n,k)) :: _) = _
  cases hxn : x == n with
  | true =>
   simp only [List.lookup_cons,hxn] at h
   cases h
   have e : x = n:=by simpa using hxn
   subst e
   have hc : (NameKind.free == NameKind.free && env.scope.kind == .function && env.kindOf x == some .cell) = true:=by rw [hk,hx]; rfl
   rw [if_pos hc]
   simp [List.lookup_cons]
  | false =>
   simp only [List.lookup_cons,hxn] at h
   by_cases hc : (k == NameKind.free && env.scope.kind == .function && env.kindOf n == some .cell) = true
   ·rw [if_pos hc]; simp only [List.lookup_cons,hxn]; exact ih h hx
   ·rw [if_neg hc]; simp only [List.lookup_cons,hxn]; exact ih h hx
abbrev compCx (X : Cx) (scope : Scope) (cl : List (Str × Addr)) (N : List Str) (C : Addr) (s2 : Shared) (H2 : Hp) (fp : List Addr) : Cx where
 prog:=X.prog
 w:=X.w
 K:=X.K
 mg:=X.mg
 base:=X.base
 A:=X.A
 N:=N
 s₀:=s2
 H₀:=H2
 env:=compEnvC scope cl C X.env
 outer:=X.stack
 stack:=X.stack
 ex:=fp
 fn:=fun _=>false
 calm:=X.calm
 pn:=[]
 xe:=fun _ _=>False
def PTs (X : Cx) (ifs : List Expr) (t : TT) : Prop :=
 ∀ (pins : List (Addr × Obj)) (s : Shared) (σ : St) (H : Hp) (Q : Bool -> Hp -> Prop),Inv X pins σ H s -> t σ H Q ->
  wpAny (model X.prog X.w) X.A (forIn ifs true fun c r=>if r = true then do let ok <- isTrue c X.env (eval c X.env); pure (ForInStep.yield ok) else pure (ForInStep.yield r)) (TP X pins σ Q) X.xe s
def tYes : TT:=fun _ H Q=>Q true H
theorem pts_nil {X : Cx} : PTs X [] tYes:=fun _ _ _ H _ I h=>wpAny_tests_nil ⟨H,I,h⟩
theorem pts_one {X : Cx} {c : Expr} {t : TT} (h : PT X c t) : PTs X [c] t:=fun pins s σ H Q I q=>wpAny_tests_one (h pins s σ H Q I q)
def inner (σ : St) (fv : List (Str × Nat)) (x : Option V) : St:=x :: fv.map fun p=>(σ[p.2]?).join
def tComp (wi : TI) (fv : List (Str × Nat)) (tt : TT) (te : TE) : TE:=fun σ H Q=>wi σ H fun J H1=>∃ W : Nat -> Nat -> List V -> Hp -> Prop,(∃ m,W 0 m [] H1) /\ ∀ i m ys H,W i m ys H -> ys.length < sizeLine /\
 ((J.stop i H /\ ∀ D,H D = none -> Q (.ref D) (upd H D (.lst ys))) \/
  (J.go i H /\ ∀ x H',J.yld i H x H' -> tt (inner σ fv (some x)) H' fun b H2=>if b = true then te (inner σ fv (some x)) H2 fun y H3=>∃ m',m' < m /\ W (i + 1) m' (ys ++ [y]) H3 else ∃ m',m' < m /\ W (i + 1) m' ys H2))
theorem inner_len (σ : St) (fv : List (Str × Nat)) (x : Option V) (n : Str) : (inner σ fv x).length = (n :: fv.map (·.1)).length:=by simp [inner]
theorem inner_set (σ : St) (fv : List (Str × Nat)) (x y : Option V) : (inner σ fv x).set 0 y = inner σ fv y:=rfl
theorem comp_core {X : Cx} {elt iter : Expr} {ifs : List Expr} {x : Str} {px pos : Pos} {scope : Scope} {cl : List (Str × Addr)} {fv : List (Str × Nat)} {wi : TI} {tt : TT} {te : TE}
  (hc : X.calm = true) (hcl : closureFor scope X.env = pure cl) (hfc : ∀ y c,cl.lookup y = some c -> X.env.cells.lookup y = some c)
  (hnc : ∀ y ∈ scope.names,y.2 ≠ .cell) (hkind : scope.kind = .function) (hnames : ∀ y ∈ scope.names,y.2 = .local -> scope.names.lookup y.1 = some .local) (hx : scope.names.lookup x = some .local)
  (hfv : ∀ p ∈ fv,X.N[p.2]? = some p.1 /\ X.env.kindOf p.1 = some .cell /\ scope.names.lookup p.1 = some .free /\ (cl.lookup p.1).isSome = true) (hfr : ∀ y,(relabel scope X.env).names.lookup y = some .cell \/ (relabel scope X.env).names.lookup y = some .free -> (cl.lookup y).isSome = true)
  (hnd : (x :: fv.map (·.1)).Nodup)
  (hi : PI X (.Name x px) iter wi) (ht : ∀ C s2 H2 fp,PTs (compCx X scope cl (x :: fv.map (·.1)) C s2 H2 fp) ifs tt) (he : ∀ C s2 H2 fp,PE (compCx X scope cl (x :: fv.map (·.1)) C s2 H2 fp) elt te)
  (hs : ∀ x,foldedSetIterable iter X.env x = pure x) {use : Option (Value -> Sem Unit)} {QQ : Value -> Shared -> Prop} {Q : VK} {pins : List (Addr × Obj)} {s : Shared} {σ : St} {H : Hp} {cpos : Pos} (I : Inv X pins σ H s) (h : tComp wi fv tt te σ H Q)
  (fin : ∀ (s5 : Shared) (H5 : Hp) (D C : Addr) (mC : Str -> Option Value),Inv X pins σ H5 s5 -> s5.heap.Ns C mC -> FpOk X pins H5 C -> Q (.ref D) H5 -> compPost (model X.prog X.w) X.A X.xe use QQ (.ref D) C (.ok .next) s5) :
  wpAny (model X.prog X.w) X.A (comprehension (.ListComp elt [⟨.Name x px,iter,ifs,0⟩] scope pos) scope X.env cpos (newList []) false (eval iter X.env) use) QQ X.xe s:=by
 refine wpAny_comprehension_free (use:=use) rfl hs hcl hkind hnames (thn (hi pins s σ H _ I h) fun v s1 h1=>thn h1 fun itv s2 h2=>?_)
 obtain ⟨it,fp,tn,J,H2,e,I2,T,st2,f2,W,⟨m0,w0⟩,turn⟩:=h2
 subst e
 refine wpAny_newObj_type (wpAny_newFunctionEnv hnc (by intro y hy; simp at hy) (fun h1 hns hsb=>?_) hkind)
 dsimp only at hns hsb ⊢
 generalize hD : s2.heap.objs.size = D at hns hsb ⊢
 generalize hP : s2.heap.push { cls:=.type "list",dict:=none,data:=.seq ([] : List Value).toArray } = g2 at hns hsb ⊢
 generalize hC : g2.objs.size = C at hns hsb ⊢
 have sC : C = s2.heap.objs.size + 1:=by rw [<- hC,<- hP,Heap.size_push]
 have DC : D ≠ C:=by rw [sC,<- hD]; exact Nat.ne_of_lt (Nat.lt_succ_self _)
 have old : ∀ b o,s2.heap.get? b = some o -> h1.get? b = some o:=fun b o q=>by
  have lt:=Heap.lt_size q
  refine hsb.extBut b o (by rw [sC]; exact Nat.ne_of_lt (Nat.lt_succ_of_lt lt)) (Heap.get?_push_of_some _ ?_)
  rw [<- hP]
  exact Heap.get?_push_of_some _ q
 have oD : h1.get? D = some { cls:=.type "list",data:=.seq ([] : List Value).toArray }:=by
  refine hsb.extBut D _ DC (Heap.get?_push_of_some _ ?_)
  rw [<- hP,<- hD]
  exact Heap.get?_push_size _ rfl
 have fD : H2 D = none:=I2.hok.fresh (Nat.le_of_eq hD)
 have fC : H2 C = none:=I2.hok.fresh (by rw [sC]; exact Nat.le_succ _)
 have fpLt : ∀ b ∈ fp,b < s2.heap.objs.size:=fun b hb=>by
  obtain ⟨o,q,_⟩:=T.obj 0 _ st2 b hb
  exact Heap.lt_size q
 have fpD : ∀ b ∈ fp,b ≠ D /\ b ≠ C:=fun b hb=>by
  have lt:=fpLt b hb
  exact ⟨by rw [<- hD]; exact Nat.ne_of_lt lt,by rw [sC]; exact Nat.ne_of_lt (Nat.lt_succ_of_lt lt)⟩
 have clc : ∀ y c,cl.lookup y = some c -> ∃ v,s2.heap.IsCell c v:=fun y c q=>I2.cell y c (hfc y c q)
 have clLt : ∀ y c,cl.lookup y = some c -> c < s2.heap.objs.size:=fun y c q=>by
  obtain ⟨v,z⟩:=clc y c q
  exact z.lt
 have ok : (compCx X scope cl (x :: fv.map (·.1)) C s2 H2 fp).Ok:=by
  refine ⟨I2.ok.mod,hkind,I2.ok.glob,I2.ok.blt,?_,fun y z c e1 e2=>I2.ok.inj y z c (hfc y c e1) (hfc z c e2),fun y hy=>?_,(fun y c z=>nomatch z),I2.ok.hd,I2.ok.frames,.inl rfl,fun b hb=>⟨(fpD b hb).2,fun y c q=>?_⟩,I2.bs,Nat.le_trans I2.ok.bsz I2.sz,fun b o q hb=>?_,fun b hb hm=>?_,I2.stack,I2.stkFree⟩
  ·show s2.heap.objs.size <= C
   rw [sC]; exact Nat.le_succ _
  ·exact Option.isSome_iff_exists.mp (hfr y hy)
  ·exact (f2 b hb).2.2.2.2.1 y c (hfc y c q)
  ·rcases (f2 b hb).2.2.2.1 with z | z
   ·exact I2.ok.noex b o q z
   ·exact absurd (Nat.lt_of_lt_of_le (Heap.lt_size q) (Nat.le_trans I2.ok.bsz z)) (Nat.lt_irrefl _)
  ·rcases List.mem_cons.mp (I2.stkSub b hm) with z | z
   ·exact (f2 b hb).2.1 z
   ·exact (f2 b hb).2.2.1 z
 have hok1 : HOk X.prog X.w H2 h1:=I2.hok.kept old
 have I3 : Inv (compCx X scope cl (x :: fv.map (·.1)) C s2 H2 fp) [] (inner σ fv none) H2 { s2 with heap:=h1,toks:=s2.toks + ([] : List (Str × Value)).length }:=by
  refine ⟨ok,rfl,I2.bare,Un.kept old,⟨_,hns,fun i y v e1 e2 e3=>?_⟩,fun y c q=>?_,fC,fun y c q=>I2.freeC y c (hfc y c q),(fun p hp=>nomatch hp),hok1,inner_len _ _ _ _⟩
  ·-- the free names
   cases i with
   | zero=>have : (some (none : Option V)) = some (some v):=e2; cases this
   | succ j =>
    have e1' : (fv.map (·.1))[j]? = some y:=e1
    have e2' : (fv.map fun p=>(σ[p.2]?).join)[j]? = some (some v):=e2
    rw [List.getElem?_map] at e1' e2'
    cases ep : fv[j]? with
    | none=>rw [ep] at e1'; cases e1'
    | some p =>
     rw [ep] at e1' e2'
     have ey : p.1 = y:=Option.some.inj e1'
     have ev : (σ[p.2]?).join = some v:=Option.some.inj e2'
     have eσ : σ[p.2]? = some (some v):=by
      cases q : σ[p.2]? with
      | none=>rw [q] at ev; cases ev
      | some z=>rw [q] at ev; exact congrArg some ev
     obtain ⟨g1,g2',g3,g4⟩:=hfv p (List.mem_of_getElem? ep)
     obtain ⟨m,hn,hl⟩:=I2.loc
     obtain ⟨u,ru,lk⟩:=hl p.2 p.1 v g1 eσ (Or.inr (Or.inl g2'))
     refine ⟨u,ru,.inr ⟨.inl ?_,?_⟩⟩
     ·show (relabel scope X.env).names.lookup y = some .cell
      rw [<- ey]
      exact relabel_free I2.ok.kind g3 g2'
     ·obtain ⟨c,hc'⟩:=Option.isSome_iff_exists.mp g4
      rcases lk with ⟨k,_⟩ | ⟨_,c',e4,z⟩
      ·rw [g2'] at k; cases k
      ·have e5:=hfc _ _ hc'
       rw [e4] at e5
       cases e5
       obtain ⟨o,q1,q2⟩:=z
       refine ⟨c,?_,o,old _ _ q1,q2⟩
       show cl.lookup y = some c
       rw [<- ey]; exact hc'
  ·obtain ⟨v,o,q1,q2⟩:=clc y c q
   exact ⟨v,o,old _ _ q1,q2⟩
 have fpOk : ∀ {pp : List (Addr × Obj)} {H' : Hp},(∀ p ∈ pp,p.1 ∉ fp) -> (∀ b ∈ fp,H' b = none) -> ∀ b ∈ fp,FpOk (compCx X scope cl (x :: fv.map (·.1)) C s2 H2 fp) pp H' b:=fun hp hn b hb =>
  ⟨hn b hb,(fpD b hb).2,fun hm=>ok.exfs b hb hm,.inl hb,fun y c q=>(f2 b hb).2.2.2.2.1 y c (hfc y c q),fun p hpm z=>hp p hpm (by rw [z]; exact hb)⟩
 have dOk : ∀ {pp : List (Addr × Obj)} {H' : Hp},(∀ p ∈ pp,p.1 ≠ D) -> H' D = none -> FpOk (compCx X scope cl (x :: fv.map (·.1)) C s2 H2 fp) pp H' D:=fun hp hn =>
  ⟨hn,DC,fun hm=>by
   obtain ⟨_,o,q,_⟩:=ok.funs.mem hm
   exact absurd (Heap.lt_size q) (by rw [<- hD]; exact Nat.lt_irrefl _),.inr (Nat.le_of_eq hD),fun y c q z=>by
   have:=clLt y c q
   rw [z,<- hD] at this
   exact Nat.lt_irrefl _ this,hp⟩
 have loop : ∀ s3 : Shared,s3 = { s2 with heap:=h1,toks:=s2.toks + ([] : List (Str × Value)).length } -> codeAny (model X.prog X.w) X.A (.compLoop (.ListComp elt [⟨.Name x px,iter,ifs,0⟩] scope pos) 0 (.ref it) (.ref D) (compEnvC scope cl C X.env))
   (compPost (model X.prog X.w) X.A X.xe use QQ (.ref D) C) s3:=by
  rintro s3 rfl
  refine codeAny_compLoop_tests (fun m s'=>∃ i ys ov H' its n,Inv (compCx X scope cl (x :: fv.map (·.1)) C s2 H2 fp) [] (inner σ fv ov) H' s' /\ tn i s'.heap /\ (∀ b ∈ fp,H' b = none) /\ H' D = none /\
   s'.heap.get? D = some { cls:=.type "list",data:=.seq (List.toArray its) n } /\ Vals ys its /\ W i m ys H') ?_ m0 ⟨0,[],none,H2,[],0,I3,T.keep _ _ _ st2 (fun b hb o q=>old b o q),fun b hb=>(f2 b hb).1,fD,oD,.nil,w0⟩
  rintro m s4 ⟨i,ys,ov,H4,its,n,I4,st4,n4,d4,o4,v4,w4⟩
  obtain ⟨zl,turn⟩:=turn i m ys H4 w4
  have I4p : Inv (compCx X scope cl (x :: fv.map (·.1)) C s2 H2 fp) [(D,{ cls:=.type "list",data:=.seq (List.toArray its) n })] (inner σ fv ov) H4 s4:=I4.pins_of fun p hp=>by
   obtain ⟨d0,d1,d2,_⟩:=dOk (pp:=[]) (H':=H4) (fun p hp=>nomatch hp) d4
   have z : p = (D,{ cls:=.type "list",data:=.seq (List.toArray its) n }):=by simpa using hp
   subst z
   exact ⟨o4,d0,d1,d2,fun v z=>nomatch z⟩
  have pD : ∀ p ∈ [(D,({ cls:=.type "list",data:=.seq (List.toArray its) n } : Obj))],p.1 ∉ fp:=fun p hp hm=>by
   have z : p = (D,{ cls:=.type "list",data:=.seq (List.toArray its) n }):=by simpa using hp
   subst z
   exact (fpD _ hm).1 rfl
  rcases turn with ⟨stop,qn⟩ | ⟨go,step⟩
  ·refine thn (T.done (compCx X scope cl (x :: fv.map (·.1)) C s2 H2 fp) rfl rfl rfl hc i _ s4 _ H4 _ I4p (fpOk pD n4) st4 stop) fun r s5 ⟨hr,I5⟩=>?_
   subst hr
   obtain ⟨mC,nC,_⟩:=I5.loc
   have un5 : Un (frs X.stack) fp H2 H4 s2.heap s5.heap:=I5.base
   have o5 : s5.heap.get? D = some { cls:=.type "list",data:=.seq (List.toArray its) n }:=(I5.pin (D,_) (by simp)).1
   have I6 : Inv X pins σ H4 s5:=I2.call' (s':=s5) (ch:=fp) I5.os un5 I5.hok I5.bare fun b hb=>⟨(f2 b hb).2.2.2.1,(f2 b hb).2.1,(f2 b hb).2.2.2.2.1,(f2 b hb).2.2.2.2.2⟩
   have I7:=Inv.track (ys:=ys) (its:=its) (n:=n) (D:=D) I6 (I2.fpOk (Nat.le_of_eq hD) d4) v4 o5 (Nat.le_of_lt zl)
   exact fin s5 _ D C mC I7 nC (I2.fpOk (by rw [sC]; exact Nat.le_succ _) (by rw [upd_ne (Ne.symm DC)]; exact I5.free)) (qn D d4)
  ·refine thn (T.item (compCx X scope cl (x :: fv.map (·.1)) C s2 H2 fp) rfl rfl rfl hc i _ s4 _ H4 _ I4p (fpOk pD n4) st4 go) fun r s5 ⟨u,hr,h5⟩=>?_
   subst hr
   show wpAny _ _ (pure () >>= fun _=>assign (.Name x px) (compEnvC scope cl C X.env) u) _ _ s5
   refine wpAny_bind (thn (show wpAny _ _ (pure ()) _ _ s5 from h5) fun _ s6 ⟨y,H6,I6,r6,y6,st6,n6⟩=>?_)
   have I6p:=I6.pinned (fpOk pD n6) (T.obj _ _ st6)
   have hxl : (relabel scope X.env).names.lookup x = some .local:=lookup_relabel_local hx
   refine wpAny_assign_Name (store_ok (i:=0) I6p hnd rfl (.inl hxl) r6 (fun s7 I7=>?_) (.inr hxl))
   rw [inner_set] at I7
   have back : ∀ {H8 : Hp} {s8 : Shared} {ov' : Option V},Inv (compCx X scope cl (x :: fv.map (·.1)) C s2 H2 fp) ([(D,{ cls:=.type "list",data:=.seq (List.toArray its) n })] ++ pinsAt fp s6.heap) (inner σ fv ov') H8 s8 ->
     tn (i + 1) s8.heap /\ (∀ b ∈ fp,H8 b = none) /\ H8 D = none /\ s8.heap.get? D = some { cls:=.type "list",data:=.seq (List.toArray its) n }:=fun {H8 s8 ov'} I8=>by
    have pm : ∀ b ∈ fp,∀ o,s6.heap.get? b = some o -> (b,o) ∈ (compCx X scope cl (x :: fv.map (·.1)) C s2 H2 fp).pn ++ ([(D,{ cls:=.type "list",data:=.seq (List.toArray its) n })] ++ pinsAt fp s6.heap):=fun b hb o q=>List.mem_append_right _ (List.mem_append_right _ (mem_pinsAt hb q))
    refine ⟨T.keep _ _ _ st6 fun b hb o q=>(I8.pin (b,o) (pm b hb o q)).1,fun b hb=>?_,(I8.pin (D,_) (List.mem_append_right _ (List.mem_append_left _ (List.mem_singleton.mpr rfl)))).2.1,(I8.pin (D,_) (List.mem_append_right _ (List.mem_append_left _ (List.mem_singleton.mpr rfl)))).1⟩
    obtain ⟨o,q,_⟩:=T.obj _ _ st6 b hb
    exact (I8.pin (b,o) (pm b hb o q)).2.1
   refine wpAny_mono (ht C s2 H2 fp _ s7 _ H6 _ I7 (step y H6 y6)) (fun ok8 s8 ⟨H8,I8,q8⟩=>?_) (fun _ _ z=>False.elim z)
   obtain ⟨t8,n8,d8,o8⟩:=back I8
   cases ok8 with
   | false =>
    rw [if_neg Bool.false_ne_true] at q8 ⊢
    obtain ⟨m',lt,w8⟩:=q8
    exact ⟨m',lt,i + 1,ys,some y,H8,its,n,I8.pins_of (fun p hp=>nomatch hp),t8,n8,d8,o8,v4,w8⟩
   | true =>
    rw [if_pos rfl] at q8 ⊢
    refine wpAny_mono (he C s2 H2 fp _ s8 _ H8 _ I8 q8) (fun uv s9 ⟨z,H9,I9,r9,q9⟩=>?_) (fun _ _ z=>False.elim z)
    obtain ⟨t9,n9,d9,o9⟩:=back I9
    obtain ⟨m',lt,w9⟩:=q9
    have pF : ∀ p ∈ pinsAt fp s6.heap,p.1 ≠ D:=fun p hp zz=>by
     obtain ⟨hb,_⟩:=of_pinsAt hp
     exact (fpD _ hb).1 zz
    have I9' : Inv (compCx X scope cl (x :: fv.map (·.1)) C s2 H2 fp) (pinsAt fp s6.heap) (inner σ fv (some y)) H9 s9:=I9.pins_of fun p hp=>I9.pin p (List.mem_append_right _ (List.mem_append_right _ hp))
    have dk:=dOk (pp:=pinsAt fp s6.heap) (H':=H9) pF d9
    have I10:=Inv.track (ys:=ys) (its:=its) (n:=n) I9' dk v4 o9 (Nat.le_of_lt zl)
    refine wpAny_mono (mt_append (X:=compCx X scope cl (x :: fv.map (·.1)) C s2 H2 fp) _ s9 _ (upd H9 D (.lst ys)) (.ref D) [z] (.ref D) [uv] (fun _ H'=>H' = upd H9 D (.lst (ys ++ [z]))) I10 rfl (.cons r9 .nil) ⟨D,ys,z,rfl,rfl,upd_same,zl,by rw [upd_upd]⟩)
     (fun _ s10 ⟨v',H10,I11,r',q'⟩=>?_) (fun _ _ z=>False.elim z)
    have q'' : H10 = upd H9 D (.lst (ys ++ [z])):=q'
    subst q''
    obtain ⟨z1,its',n',v'',e'⟩:=I11.hok D _ upd_same
    obtain ⟨dk0,dk1,dk2,dk3,dk4,dk5⟩:=dk
    have I12:=Inv.untrack I11 d9 dk1 dk3 dk4 dk5
    refine ⟨m',lt,i + 1,ys ++ [z],some y,H9,its',n',I12.pins_of (fun p hp=>nomatch hp),T.keep _ _ _ st6 fun b hb o q=>(I12.pin (b,o) (List.mem_append_right _ (mem_pinsAt hb q))).1,n9,d9,e',v'',w9⟩
 exact codeAny_compStart_list (loop _ rfl) (T.self _ 0 _ _ _ (T.keep _ _ _ st2 (fun b hb o q=>old b o q)) (loop _ rfl))
section
variable {X : Cx} {elt iter : Expr} {ifs : List Expr} {x : Str} {px pos : Pos} {scope : Scope} {cl : List (Str × Addr)} {fv : List (Str × Nat)} {wi : TI} {tt : TT} {te : TE}
structure CompOk (X : Cx) (scope : Scope) (x : Str) (cl : List (Str × Addr)) (fv : List (Str × Nat)) : Prop where
 clo : closureFor scope X.env = pure cl
 fc : ∀ y c,cl.lookup y = some c -> X.env.cells.lookup y = some c
 nc : ∀ y ∈ scope.names,y.2 ≠ .cell
 kind : scope.kind = .function
 names : ∀ y ∈ scope.names,y.2 = .local -> scope.names.lookup y.1 = some .local
 var : scope.names.lookup x = some .local
 fvs : ∀ p ∈ fv,X.N[p.2]? = some p.1 /\ X.env.kindOf p.1 = some .cell /\ scope.names.lookup p.1 = some .free /\ (cl.lookup p.1).isSome = true
 fr : ∀ y,(relabel scope X.env).names.lookup y = some .cell \/ (relabel scope X.env).names.lookup y = some .free -> (cl.lookup y).isSome = true
 nd : (x :: fv.map (·.1)).Nodup
theorem gone_C {pins : List (Addr × Obj)} {s : Shared} {σ : St} {H : Hp} {C : Addr} {h' : Heap} (I : Inv X pins σ H s) (f : FpOk X pins H C) (sb : Heap.SameBut C s.heap h') : Inv X pins σ H { s with heap:=h' }:=by
 obtain ⟨f0,f1,f2,f3,f4,f5⟩:=f
 exact I.turned (t':=s.toks) (fun b o hb e=>(sb.2 b hb).trans e) f0 f1 f3 f4 f5
theorem pe_comp (hc : X.calm = true) (K : CompOk X scope x cl fv) (hi : PI X (.Name x px) iter wi) (ht : ∀ C s2 H2 fp,PTs (compCx X scope cl (x :: fv.map (·.1)) C s2 H2 fp) ifs tt) (he : ∀ C s2 H2 fp,PE (compCx X scope cl (x :: fv.map (·.1)) C s2 H2 fp) elt te)
  (hs : ∀ x,foldedSetIterable iter X.env x = pure x:=by intro _; rfl) : PE X (.ListComp elt [⟨.Name x px,iter,ifs,0⟩] scope pos) (tComp wi fv tt te):=by
 intro pins s σ H Q I h
 rw [eval_ListComp]
 refine comp_core hc K.clo K.fc K.nc K.kind K.names K.var K.fvs K.fr K.nd hi ht he hs I h fun s5 H5 D C mC I5 nC f q=>?_
 exact ⟨mC,nC,fun h6 sb=>⟨.ref D,H5,gone_C I5 f sb,rfl,q⟩⟩
theorem ps_setComp {i : Nat} {y : Str} {py spos : Pos} (hc : X.calm = true) (K : CompOk X scope x cl fv) (hN : X.N.Nodup) (hi' : X.N[i]? = some y) (hy : Loc X.env.scope y)
  (hi : PI X (.Name x px) iter wi) (ht : ∀ C s2 H2 fp,PTs (compCx X scope cl (x :: fv.map (·.1)) C s2 H2 fp) ifs tt) (he : ∀ C s2 H2 fp,PE (compCx X scope cl (x :: fv.map (·.1)) C s2 H2 fp) elt te)
  (hsw : swapsWith (.ListComp elt [⟨.Name x px,iter,ifs,0⟩] scope pos) (some (.Name y py)) spos.line X.env = pure true:=by rfl)
  (hs : ∀ x,foldedSetIterable iter X.env x = pure x:=by intro _; rfl) (hf : X.fn y = true \/ X.env.scope.names.lookup y = some .local:=by first | exact .inl rfl | exact .inr rfl | assumption) :
  PS X (.Assign [.Name y py] (.ListComp elt [⟨.Name x px,iter,ifs,0⟩] scope pos) spos) (tAsg (tComp wi fv tt te) (gName i)):=by
 intro pins s σ H D I h
 rw [exec_Assign_Name_used _ _ _ _ hsw]
 refine wpAny_bind (wpAny_standAt (wpAny_bind ?_))
 show wpAny _ X.A (do let _ <- comprehension (.ListComp elt [⟨.Name x px,iter,ifs,0⟩] scope pos) scope X.env _ (newList []) false (eval iter X.env) (some (assign (.Name y py) X.env))) _ _ s
 refine wpAny_bind (thn (comp_core (use:=some (assign (.Name y py) X.env)) (QQ:=fun _ s'=>SP X pins D .next s') hc K.clo K.fc K.nc K.kind K.names K.var K.fvs K.fr K.nd hi ht he hs I h fun s5 H5 A C mC I5 nC f q=>?_) fun _ s' hq=>wpAny_pure (wpAny_pure hq))
 refine wpAny_assign_Name (store_ok2 I5 hN hi' hy (show RelV (.ref A) (.ref A) from rfl) (fun s6 I6 ⟨a,sb,ha⟩=>?_) hf)
 have hCa : C ≠ a:=by
  rcases ha with z | z
  ·rw [z]; exact f.2.1
  ·exact fun q=>f.2.2.2.2.1 _ _ z q.symm
 exact ⟨mC,nC.sameBut sb hCa,fun h7 sb7=>⟨_,H5,gone_C I6 f sb7,q⟩⟩
end
end L2
namespace L2
open PySem PySem.Spec PyProof.Rows
section
variable {X : Cx} {pins : List (Addr × Obj)} {σ : St} {H : Hp} {s : Shared} {d : Addr} {kvs : List (Key × V)} {o : Obj}
theorem Inv.freeze (I : Inv X pins σ H s) (h : H d = some (.dK kvs)) (e : s.heap.get? d = some o) : Inv X pins σ (upd H d (.frz o (.dK kvs))) s:=by
 have mu : Mut (H d):=by rw [h]; exact True.intro
 have x : ObjOk X.prog X.w H s.heap d (.dK kvs):=I.hok d _ h
 exact I.un (h':=s.heap) (t':=s.toks) (Un.write mu (.inl rfl) (fun b u _ q=>q) ⟨o,e⟩) (I.hok.write mu (.inl rfl) (fun b u _ q=>q) ⟨o,e⟩ ⟨e,x⟩)
theorem Inv.thaw (I : Inv X pins σ H s) (h : H d = some (.frz o (.dK kvs))) (h0 : ∀ o' u,X.H₀ d ≠ some (.frz o' u)) : Inv X pins σ (upd H d (.dK kvs)) s:=by
 have ne : ∀ b,H b = none -> b ≠ d:=fun b q z=>by rw [z,h] at q; cases q
 have nt : ∀ b xs,H b = some (.tup xs) -> b ≠ d:=fun b xs q z=>by rw [z,h] at q; cases q
 have nb : ∀ b ps,H b = some (.tbl ps) -> b ≠ d:=fun b xs q z=>by rw [z,h] at q; cases q
 have no : ∀ b y,H b = some (.own y) -> b ≠ d:=fun b y q z=>by rw [z,h] at q; cases q
 refine ⟨I.ok,I.os,I.bare,⟨I.base.keep,I.base.slot,fun b o q n hx=>?_,I.base.there,fun b xs q=>?_,fun b o u q=>?_,fun b ps q=>?_⟩,I.loc,I.cell,?_,fun x c q=>?_,fun p hp=>?_,fun b u q=>?_,I.len⟩
 ·have z:=I.base.free b o q n hx
  rw [upd_ne (ne b z)]; exact z
 ·have z:=I.base.tups b xs q
  rw [upd_ne (nt b xs z)]; exact z
 ·have z:=I.base.frzs b o u q
  rw [upd_ne (fun zz=>h0 o u (by rw [<- zz]; exact q))]; exact z
 ·obtain ⟨more,z⟩:=I.base.tbls b ps q
  exact ⟨more,by rw [upd_ne (nb b _ z)]; exact z⟩
 ·rw [upd_ne (ne _ I.free)]; exact I.free
 ·rw [upd_ne (ne _ (I.freeC x c q))]; exact I.freeC x c q
 ·obtain ⟨a1,a2,a3⟩:=I.pin p hp
  exact ⟨a1,by rw [upd_ne (ne _ a2)]; exact a2,a3⟩
 ·by_cases hb : b = d
  ·subst hb
   rw [upd_same] at q
   cases q
   exact (I.hok b _ h).2
  ·rw [upd_ne hb] at q
   exact (I.hok b u q).stay (fun c v _ r=>r) (fun c r=>by rw [upd_ne (no c _ r)]; exact r) fun c xs r=>by rw [upd_ne (nt c xs r)]; exact r
def tThaw (t : TE) : TE:=fun σ H Q=>∃ d kvs,H d = some (.dK kvs) /\ t σ H fun v H'=>∃ o,H' d = some (.frz o (.dK kvs)) /\ Q v (upd H' d (.dK kvs))
theorem pe_thaw {e : Expr} {t : TE} (h : PE X e t) : PE X e (tThaw t):=by
 intro pins s σ H Q I hw
 obtain ⟨d,kvs,hd,hw⟩:=hw
 have h0 : ∀ o' u,X.H₀ d ≠ some (.frz o' u):=fun o' u q=>by
  have z:=I.base.frzs d o' u q
  rw [hd] at z; cases z
 refine thn (h pins s σ H _ I hw) fun u s1 ⟨v,H1,I1,r1,o,hf,q⟩=>⟨v,_,Inv.thaw I1 hf h0,r1,q⟩
end
def Itv (d : Addr) (o : Obj) (vs : List V) : It :=
 ⟨fun i H=>(∃ u,H d = some (.frz o u)) /\ i < vs.length,fun i H x H'=>H' = H /\ vs[i]? = some x,fun i H=>(∃ u,H d = some (.frz o u)) /\ vs.length <= i⟩
theorem turn_values {P : Program} {w : World} {K : PySem.W.Frag} {tg : Expr} (d it : Addr) (o : Obj) (kvs : List (Key × V)) (us : List (Key × Value)) (ep : Nat) (hr : KV kvs us) (hd : ∀ h : Heap,h.get? d = some o -> h.DictAt (mixKind P w) d us ep) :
  Turn P w K tg (Itv d o (kvs.map (·.2))) [it] it (fun i h=>h.IsValIter it d i us.length ep) where
 mem:=by simp
 obj:=fun i h st b hb=>by
  have e : b = it:=by simpa using hb
  subst e
  obtain ⟨ob,e,c,dd⟩:=st
  exact ⟨ob,e,fun v z=>by rw [dd] at z; cases z⟩
 keep:=fun i h h' st k=>st.at fun o e=>k it (by simp) o e
 item:=by
  intro X hP hw hK hc i pins s σ H E I hf st hg
  subst hP hw hK
  obtain ⟨⟨u,hz⟩,hi⟩:=hg
  obtain ⟨f0,f1,f2,f3,f4,f5⟩:=hf it (by simp)
  have hl : kvs.length = us.length:=Paired.length hr
  have hi' : i < us.length:=by rw [<- hl]; simpa using hi
  obtain ⟨eo,_⟩:=I.hok d _ hz
  obtain ⟨⟨k,x⟩,hx⟩ : ∃ p,us[i]? = some p:=⟨us[i],by simp [hi']⟩
  refine wpAny_pyNext_values_item st (hd _ eo) hx fun h' st' sb=>?_
  have I1 : Inv X pins σ H { s with heap:=h' }:=I.turned (t':=s.toks) (fun b o hb e=>(sb.2 b hb).trans e) f0 f1 f3 f4 f5
  obtain ⟨ob,e,c,dd⟩:=id st'
  have hv : ∃ v,(kvs.map (·.2))[i]? = some v /\ RelV v x:=by
   have aux : ∀ {l : List (Key × V)} {m : List (Key × Value)} (j : Nat),KV l m -> m[j]? = some (k,x) -> ∃ v,(l.map (·.2))[j]? = some v /\ RelV v x:=by
    intro l m j r
    induction r generalizing j with
    | nil=>intro q; simp at q
    | cons r1 r2 ih =>
     intro q
     cases j with
     | zero=>simp at q; subst q; exact ⟨_,rfl,r1.2⟩
     | succ j=>simpa using ih j (by simpa using q)
   exact aux i hr hx
  obtain ⟨v,hv1,hv2⟩:=hv
  exact ⟨x,rfl,go_of (s:={ s with heap:=h' }) e c dd (by decide) ⟨v,H,I1,hv2,⟨rfl,hv1⟩,st',fun b hb=>(hf b hb).1⟩⟩
 done:=by
  intro X hP hw hK hc i pins s σ H E I hf st hg
  subst hP hw hK
  obtain ⟨⟨u,hz⟩,hi⟩:=hg
  obtain ⟨f0,f1,f2,f3,f4,f5⟩:=hf it (by simp)
  have hl : kvs.length = us.length:=Paired.length hr
  obtain ⟨eo,_⟩:=I.hok d _ hz
  exact wpAny_pyNext_values_end (I.ok.hd hc) st (hd _ eo) (by rw [List.length_map,hl] at hi; simpa using hi) fun h' eb=>⟨rfl,I.turned (t':=s.toks) (fun b o hb e=>eb b o hb e) f0 f1 f3 f4 f5⟩
 self:=fun _ _ _ _ _ st h=>wpAny_pyIter_valiter st h
section
variable {X : Cx} {tg : Expr}
def iVals (td : TE) : TI:=fun σ H R=>td σ H fun x H1=>∃ d kvs,x = .ref d /\ H1 d = some (.dK kvs) /\ ∀ o,R (Itv d o (kvs.map (·.2))) (upd H1 d (.frz o (.dK kvs)))
theorem pi_values {o : Expr} {td : TE} {apos cpos : Pos} (ho : PE X o td) (hbase : attributeBase o "values" X.env (eval o X.env) = eval o X.env:=by rfl) (hline : (apos.endLine == cpos.line) = true:=by rfl) :
  PI X tg (.Call (.Attribute o "values" apos) [] [] cpos) (iVals td):=by
 intro pins s σ H R I h
 refine wpAny_Call_method0_late hbase hline (thn (ho pins s σ H _ I h) fun v s1 ⟨x,H1,I1,r1,q1⟩=>?_)
 obtain ⟨d,kvs,e,hd,q⟩:=q1
 subst e
 cases r1
 obtain ⟨hz,hS,us,hr,dd⟩:=I1.hok d _ hd
 obtain ⟨o,es,ep,eo,ex,ed,eks,eps,end'⟩:=id dd
 refine ⟨"dict","dict.values",PySem.F.plainAttrs_dict,PySem.F.slot_dict_values,PySem.F.type_dict_values,dd.typeIs,fun a q=>?_,Calls.callWith_builtin rfl (PySem.evalArgs_none ?_)⟩
 ·cases q
  exact ⟨o,eo,ex.2.1⟩
 refine call_meetsIn PySem.F.slot_dict_values dd.typeIs PySem.F.entry_dict_values (PySem.F.args_dict_values_1 _) (meets_dict_values (mixKind X.prog X.w) d hS) ⟨⟨us,dd⟩,?_⟩
 have I2 : Inv X pins σ H1 { s1 with heap:=s1.heap.push { cls:=.type "dict_values",data:=.fields #[.ref d] } }:=I1.kept (t':=s1.toks) fun b o e=>Heap.get?_push_of_some _ e
 have da : ∀ h : Heap,h.get? d = some o -> h.DictAt (mixKind X.prog X.w) d us ep:=fun h q=>⟨o,es,q,ex,ed,eks,eps,end'⟩
 refine wpAny_pyIter_values (knd:=mixKind X.prog X.w) (kvs:=us) (ep:=ep) ⟨_,Heap.get?_push_size _ rfl,rfl,rfl⟩ (da _ (Heap.get?_push_of_some _ eo)) ?_
 have I3:=Inv.freeze I2 hd (Heap.get?_push_of_some _ eo)
 have I4:=I3.kept (h':=(s1.heap.push { cls:=.type "dict_values",data:=.fields #[.ref d] }).push { cls:=.type "dict_valueiterator",data:=.fields #[.ref d,.int 0 0,.int us.length 0,.int ep 0] }) (t':=s1.toks) fun b o e=>Heap.get?_push_of_some _ e
 refine ⟨_,[_],_,_,_,rfl,I4,turn_values d _ o kvs us ep hr da,⟨_,Heap.get?_push_size _ rfl,rfl,rfl⟩,fun b hb=>?_,q o⟩
 have e : b = (s1.heap.push { cls:=.type "dict_values",data:=.fields #[.ref d] }).objs.size:=by simpa using hb
 subst e
 exact I3.fpOk (Nat.le_refl _) (I3.hok.fresh (Nat.le_refl _))
end
section
variable {X : Cx}
def tIsi (K : PySem.W.Frag) : List V -> Hp -> VK -> Prop:=fun xs H Q=>∃ x c t b,xs = [x,c] /\ ((∃ C,c = .ref C /\ PySem.W.kitOne K t (.ref C) = some b) \/ ∃ n,c = .ty n /\ PySem.W.kitOne K t (.type n) = some b) /\ TyOf K H x t /\ Q (.bl b) H
theorem call_isi : CallR X (.builtin "isinstance") (tIsi X.K):=by
 intro pins s σ H xs us Q I r h
 obtain ⟨x,c,t,b,rfl,hc,ty,q⟩:=h
 obtain ⟨u,w',rfl,ru,rw'⟩:=vals2 r
 rcases hc with ⟨C,rfl,e⟩ | ⟨n,rfl,e⟩
 ·cases rw'
  exact isinst_ok I ru ty e fun tk=>⟨.bl b,H,I.tok _,rfl,q⟩
 ·cases rw'
  exact isinst_ok I ru ty e fun tk=>⟨.bl b,H,I.tok _,rfl,q⟩
end
section
variable {X : Cx}
def PJ (X : Cx) (es : List Expr) (t : St -> Hp -> (Hp -> Prop) -> Prop) : Prop :=
 ∀ (pins : List (Addr × Obj)) (s : Shared) (σ : St) (H : Hp) (Q : Hp -> Prop) (out : Str),Inv X pins σ H s -> out.length + 2000 * es.length <= sizeLine -> t σ H Q ->
  wpAny (model X.prog X.w) X.A (joinParts out (evalEach es X.env)) (fun u s'=>∃ x t' H',u = .str x t' /\ Inv X pins σ H' s' /\ Q H') X.xe s
theorem pj_nil : PJ X [] (fun _ H Q=>Q H):=fun pins s σ H Q out I hz h=>joinParts_nil ⟨out,_,H,rfl,I.tok _,h⟩ (by simpa using hz)
theorem pj_str {x : Str} {k : Nat} {pos : Pos} {es : List Expr} {t : St -> Hp -> (Hp -> Prop) -> Prop} (hr : PJ X es t) (hx : x.length <= 2000:=by decide) : PJ X (.Constant (.str x) k pos :: es) t:=by
 intro pins s σ H Q out I hz h
 rw [List.length_cons] at hz
 refine joinParts_cons (Calls.Constant_str ?_)
 have e : (out ++ x).length = out.length + x.length:=strLen_append _ _
 exact ⟨by rw [e]; omega,hr pins _ σ H Q _ (I.tok _) (by rw [e]; omega) h⟩
theorem pj_int {e : Expr} {te : TE} {p : Pos} {es : List Expr} {t : St -> Hp -> (Hp -> Prop) -> Prop} (he : PE X e te) (hr : PJ X es t) :
  PJ X (.FormattedValue e (-1) none p :: es) (fun σ H Q=>te σ H fun v H1=>∃ i,v = .int i /\ i.natAbs.log2 < 1920 /\ t σ H1 Q):=by
 intro pins s σ H Q out I hz h
 rw [List.length_cons] at hz
 refine joinParts_cons (FormattedValue_plain (thn (he pins s σ H _ I h) fun u s1 ⟨v,H1,I1,r1,i,ev,hi,q⟩=>?_))
 subst ev
 obtain ⟨tk,rfl⟩:=r1
 refine formatField_int_small hi ?_
 have el:=int_text_length_le (k:=1920) (by decide) hi
 have ex : (Str.ofString (toString i)).length = (toString i).length:=PySem.ofString_length _
 have e : (out ++ Str.ofString (toString i)).length = out.length + (Str.ofString (toString i)).length:=strLen_append _ _
 exact ⟨by rw [e]; omega,hr pins _ σ H1 Q _ (I1.tok _) (by rw [e]; omega) q⟩
theorem pe_fstr {v1 v2 : Expr} {es : List Expr} {pos : Pos} {t : St -> Hp -> (Hp -> Prop) -> Prop} (h : PJ X (v1 :: v2 :: es) t) (hz : 2000 * (v1 :: v2 :: es).length <= sizeLine:=by decide) :
  PE X (.JoinedStr (v1 :: v2 :: es) pos) (fun σ H Q=>t σ H fun H'=>∀ x,Q (.str x) H'):=by
 intro pins s σ H Q I hw
 refine JoinedStr_many (thn (h pins s σ H _ Str.empty I (by
  have e : Str.empty.length = 0:=rfl
  rw [e,Nat.zero_add]; exact hz) hw) fun u s' ⟨x,t',H',e,I',q⟩=>?_)
 subst e
 exact ⟨.str x,H',I',⟨t',rfl⟩,q x⟩
end
def cmpIn (K : PySem.W.Frag) (C : Addr) : Bool:=match K.lookup C with
 | some ⟨.type "type",_,.cls cd,sl⟩=>(match cd.mro,sl.toList with
  | [.ref C',.type "object"],[_,_,_,_,some (.builtin _),_]=>C' == C && !cd.hasDel && PySem.W.nsOkIn K cd.ns && PySem.W.nsIn K cd.ns "__eq__" == some none && PySem.W.nsIn K cd.ns "__ne__" == some none
  | _,_=>false)
 | _=>false
theorem cmpInst_mk {K : PySem.W.Frag} {h : Heap} {C x dx : Addr} (X : K.In h) (q : cmpIn K C = true) (hx : h.get? x = some (PySem.W.instObj C dx)) : h.CmpInst x C [.type "object"]:=by
 unfold cmpIn at q
 split at q
 ·rename_i dd cd sl ho
  split at q
  ·rename_i C1 k0 k1 k2 k3 n k5 hm hs
   simp only [Bool.and_eq_true,beq_iff_eq,Bool.not_eq_true'] at q
   obtain ⟨⟨⟨⟨z1,hdel⟩,hok⟩,h1⟩,h2⟩:=q
   subst z1
   obtain ⟨nm,bs,mro,ns,qn,hd,sn,sub,ab,col,del⟩:=cd
   dsimp only at hm hdel hok h1 h2
   subst hm hdel
   have hsl : sl = #[k0,k1,k2,k3,some (.builtin n),k5]:=by
    cases sl
    simp only at hs
    rw [hs]
   subst hsl
   exact ⟨_,nm,qn,ns,bs,hd,sn,sub,ab,col,dd,k0,k1,k2,k3,k5,n,_,hx,rfl,X _ _ ho,.of_isNs (PySem.W.isNs_of_in X hok),PySem.W.nsMap_none_of_in X hok h1,PySem.W.nsMap_none_of_in X hok h2⟩
  ·cases q
 ·cases q
def EqH (P : Program) (w : World) (K : PySem.W.Frag) (H : Hp) (d : Nat) (y x : V) (b : Bool) : Prop:=∀ (s : Shared) (A : Around) (u v : Value),HOk P w H s.heap -> K.In s.heap -> A.units + d < cLine -> RelV y u -> RelV x v -> SeqAt.EqAt A s u v b
section
variable {P : Program} {w : World} {K : PySem.W.Frag} {H : Hp}
theorem eqH_ins {C a b dx dy : Addr} {fs gs : List (Str × V)} (hq : cmpIn K C = true) (ha : H a = some (.ins C dx fs)) (hb : H b = some (.ins C dy gs)) : EqH P w K H 0 (.ref a) (.ref b) (decide (a = b)):=by
 intro s A u v ok kin hu ry rx
 cases ry
 cases rx
 by_cases e : a = b
 ·subst e
  rw [decide_eq_true rfl]
  exact SeqAt.EqAt.same _
 ·rw [decide_eq_false e]
  obtain ⟨_,_,_,oa,_⟩:=ok a _ ha
  obtain ⟨_,_,_,ob,_⟩:=ok b _ hb
  refine SeqAt.EqAt.of_refs e fun prog w' E Q hQ=>?_
  obtain ⟨hh,g,dd,t,os⟩:=s
  exact richCompare_eq_other PySem.F.cmp_object PySem.F.cmp_object (cmpInst_mk kin hq oa) (cmpInst_mk kin hq ob) e hu hQ
end
theorem vals_refs : ∀ {xs : List Addr} {us : List Value},Vals (xs.map V.ref) us -> us = xs.map Value.ref
 | [],_,h=>by cases h; rfl
 | x :: xs,_,h=>by
  cases h with
  | cons r t=>cases r; rw [vals_refs t]; rfl
section
variable {X : Cx}
theorem mem_ref {A : Around} {pins : List (Addr × Obj)} {σ : St} {H : Hp} {s : Shared} {xs : List Addr} {a C : Addr} (I : Inv X pins σ H s) (hu : A.units < cLine) (hq : cmpIn X.K C = true) (hb : ∀ b ∈ a :: xs,∃ dx fs,H b = some (.ins C dx fs)) :
  ∀ y,y ∈ (xs.map Value.ref).toArray -> SeqAt.EqAt A s y (.ref a) (y == Value.ref a):=fun y hy=>by
 have hy' : y ∈ xs.map Value.ref:=by simpa using hy
 obtain ⟨b,hbm,rfl⟩:=List.mem_map.mp hy'
 obtain ⟨dx,fs,ea⟩:=hb a (List.mem_cons_self ..)
 obtain ⟨dy,gs,eb⟩:=hb b (List.mem_cons_of_mem _ hbm)
 have z : (Value.ref b == Value.ref a) = decide (b = a):=by
  by_cases e : b = a
  ·subst e; rw [decide_eq_true rfl]; exact beq_self_eq_true _
  ·rw [decide_eq_false e]; exact beq_eq_false_iff_ne.mpr fun q=>e (by cases q; rfl)
 rw [z]
 exact eqH_ins (P:=X.prog) (w:=X.w) hq eb ea s A _ _ I.hok I.kIn hu rfl rfl
def rInsert : V -> List V -> Hp -> VK -> Prop:=fun x vs H Q=>∃ l xs i k y,x = .ref l /\ vs = [.int i,y] /\ i = (k : Nat) /\ H l = some (.lst xs) /\ k <= xs.length /\ xs.length < sizeLine /\ Q .non (upd H l (.lst (xs.take k ++ y :: xs.drop k)))
theorem mt_insert : MtM X "list.insert" rInsert:=by
 intro pins s σ H x vs v us Q I rx rv h
 obtain ⟨l,xs,i,k,y,rfl,rfl,hi,hH,hk,hz,q⟩:=h
 cases rx
 obtain ⟨u,u2,rfl,⟨t,rfl⟩,ru⟩:=rv.two
 obtain ⟨z,its,n,r,hl,e⟩:=I.lstM hH
 have hn:=line63
 have h1 : -(2 ^ 63) <= i:=by omega
 have h2 : i < 2 ^ 63:=by omega
 have hfit : ¬ (!Builtin.List.listFitsIndex i) = true:=by
  rw [fitsIndex_both h1 h2]
  exact Bool.false_ne_true
 refine call_meets PySem.F.slot_list_insert ⟨_,e,rfl⟩ PySem.F.entry_list_insert (PySem.F.args_list_insert_3 _ _ _)
  (PySem.AutoSeq1.list_insert_list_int_val_1 l its.toArray n i t u2 hfit (by rw [List.size_toArray,<- hl]; exact z)) ⟨e,?_⟩
 refine ⟨.non,_,I.lset (its':=its.take k ++ u2 :: its.drop k) hH e ?_ (Vals.append (r.take _) (.cons ru (r.drop _))) ?_,rfl,q⟩
 ·apply Array.toList_inj.mp
  have h3 : ¬ (i < 0):=by omega
  have h4 : i.toNat = k:=by omega
  have h5 : min k its.length = k:=by omega
  simp only [h3,if_false,h4,List.size_toArray,h5]
  simp
  exact List.take_of_length_le (by simp)
 ·rw [List.length_append,List.length_cons,List.length_take,List.length_drop]
  omega
theorem erase_map {α β : Type} (f : α -> β) : ∀ (l : List α) (i : Nat),(l.map f).eraseIdx i = (l.eraseIdx i).map f
 | [],_=>rfl
 | _ :: _,0=>rfl
 | a :: r,i + 1=>by
  show f a :: (r.map f).eraseIdx i = f a :: (r.eraseIdx i).map f
  rw [erase_map f r i]
def FirstAt (xs : List Addr) (a : Addr) (j : Nat) : Prop:=xs[j]? = some a /\ ∀ m,m < j -> xs[m]? ≠ some a
theorem first_hit {xs : List Addr} {a : Addr} {j : Nat} (h : FirstAt xs a j) : ∃ hj : j < (xs.map Value.ref).toArray.size,((xs.map Value.ref).toArray[j] == Value.ref a) = true /\ ∀ m (hm : m < (xs.map Value.ref).toArray.size),m < j -> ((xs.map Value.ref).toArray[m] == Value.ref a) = false:=by
 obtain ⟨h1,h2⟩:=h
 obtain ⟨hj,e⟩:=List.getElem?_eq_some_iff.mp h1
 refine ⟨by simpa using hj,by simp [e],fun m hm hlt=>?_⟩
 have hm' : m < xs.length:=by simpa using hm
 have hn:=h2 m hlt
 rw [List.getElem?_eq_getElem hm'] at hn
 have hne : xs[m] ≠ a:=fun z=>hn (by rw [z])
 simp [hne]
theorem remove_by (l : Addr) (arr : Array Value) (n : Nat) (x : Value) (eq : Value -> Bool) (j : Nat) (hj : j < arr.size) (hit : eq arr[j] = true) (hz : arr.size <= sizeLine) (k : Nat) :
  ∀ at' : Nat,j - at' = k -> at' <= j -> (∀ m (hm : m < arr.size),at' <= m -> m < j -> eq arr[m] = false) -> Meets (Builtin.«list.remove.loop» ⟨[.ref l,x,rawInt at'],[]⟩)
   (fun A R s=>s.heap.get? l = some { cls:=.type "list",dict:=none,data:=.seq arr n,slots:=#[] } /\ (∀ y,y ∈ arr -> SeqAt.EqAt A.in1 s y x (eq y)) /\
    R (.ok (.ret .none)) { s with heap:=s.heap.update l (Obj.mapSeq fun zs=>zs.eraseIdxIfInBounds j) }):=by
 induction k with
 | zero =>
  intro at' e1 e2 hno prog w A R s hyp
  obtain ⟨hp,g,d,tk,os⟩:=s
  obtain ⟨hl,heq,hyp⟩:=hyp
  obtain rfl : at' = j:=by omega
  wp_walk using PySem.AutoSeq1.wpAny_loadPart' hl
  rw [show arr[((at' : Nat) : Int).toNat]? = some arr[at'] by simp [hj]]
  refine wpAny_bind (heq _ (Array.getElem_mem hj) prog w _ _ ?_)
  rw [hit]
  have hz2 : (arr.eraseIdxIfInBounds at').size <= sizeLine + 1:=Nat.le_trans (PySem.MeetsSeq.size_erased arr _) (Nat.le_succ_of_le hz)
  wp_walk using (wpAny_updateSeq hl rfl (hz:=hz) (_hz':=hz2)),PySem.AutoSeq1.wpAny_loadPart' hl
  simpa using hyp
 | succ k ih =>
  intro at' e1 e2 hno prog w A R s hyp
  obtain ⟨hp,g,d,tk,os⟩:=s
  obtain ⟨hl,heq,hyp⟩:=hyp
  have lt : at' < arr.size:=by omega
  wp_walk using PySem.AutoSeq1.wpAny_loadPart' hl
  rw [show arr[((at' : Nat) : Int).toNat]? = some arr[at'] by simp [lt]]
  refine wpAny_bind (heq _ (Array.getElem_mem lt) prog w _ _ ?_)
  rw [hno at' lt (Nat.le_refl _) (by omega)]
  wp_walk
  rw [show ((at' : Int) + 1) = ((at' + 1 : Nat) : Int) from rfl]
  refine ⟨plainId_quiet PySem.MeetsSeq.plain_remove_loop _,codeAny_builtin PySem.MeetsSeq.entry_remove_loop ?_⟩
  rw [Around.under_plainId PySem.MeetsSeq.plain_remove_loop _]
  exact ih (at' + 1) (by omega) (by omega) (fun m hm h1 h2=>hno m hm (by omega) h2) prog w A R _ ⟨hl,heq,hyp⟩
theorem list_removeBy (l : Addr) (arr : Array Value) (n : Nat) (x : Value) (eq : Value -> Bool) (j : Nat) (hj : j < arr.size) (hit : eq arr[j] = true) (hno : ∀ m (hm : m < arr.size),m < j -> eq arr[m] = false) (hz : arr.size <= sizeLine) :
  Meets (Builtin.«list.remove» ⟨[.ref l,x],[]⟩) (fun A R s=>s.heap.get? l = some { cls:=.type "list",dict:=none,data:=.seq arr n,slots:=#[] } /\ (∀ y,y ∈ arr -> SeqAt.EqAt A.in1 s y x (eq y)) /\
    R (.ok (.ret .none)) { s with heap:=s.heap.update l (Obj.mapSeq fun zs=>zs.eraseIdxIfInBounds j) }):=by
 intro prog w A R s hyp
 obtain ⟨hp,g,d,tk,os⟩:=s
 obtain ⟨hl,heq,hyp⟩:=hyp
 wp_walk using PySem.AutoSeq1.wpAny_loadPart' hl
 refine ⟨plainId_quiet PySem.MeetsSeq.plain_remove_loop _,codeAny_builtin PySem.MeetsSeq.entry_remove_loop ?_⟩
 rw [Around.under_plainId PySem.MeetsSeq.plain_remove_loop _]
 exact remove_by l arr n x eq j hj hit hz _ 0 rfl (Nat.zero_le _) (fun m hm _ h2=>hno m hm h2) prog w A R _ ⟨hl,heq,hyp⟩
def rRemoveR (K : PySem.W.Frag) : V -> List V -> Hp -> VK -> Prop:=fun x vs H Q=>∃ l xs a C j,x = .ref l /\ vs = [.ref a] /\ H l = some (.lst (xs.map V.ref)) /\ cmpIn K C = true /\ (∀ b ∈ a :: xs,∃ dx fs,H b = some (.ins C dx fs)) /\ FirstAt xs a j /\ Q .non (upd H l (.lst ((xs.eraseIdx j).map V.ref)))
theorem mt_removeR (hu : X.A.units + 1 < cLine) : MtM X "list.remove" (rRemoveR X.K):=by
 intro pins s σ H x vs v us Q I rx rv h
 obtain ⟨l,xs,a,C,j,rfl,rfl,hH,hq,hb,hf,q⟩:=h
 cases rx
 obtain ⟨u,rfl,ru⟩:=rv.one
 cases ru
 obtain ⟨z,its,n,r,hl,e⟩:=I.lstM hH
 have e2:=vals_refs r
 obtain ⟨hj,hit,hno⟩:=first_hit hf
 rw [List.length_map] at z
 subst e2
 refine call_meets PySem.F.slot_list_remove ⟨_,e,rfl⟩ PySem.F.entry_list_remove (PySem.F.args_list_remove_2 _ _)
  (list_removeBy l _ n (.ref a) (fun u=>u == Value.ref a) j hj hit hno (by simpa using z)) ⟨e,mem_ref I hu hq hb,?_⟩
 refine ⟨.non,_,I.lset (its':=(xs.map Value.ref).eraseIdx j) hH e ?_ (ys:=(xs.eraseIdx j).map V.ref) ?_ ?_,rfl,q⟩
 ·show (xs.map Value.ref).toArray.eraseIdxIfInBounds j = _
  rw [List.eraseIdxIfInBounds_toArray]
 ·rw [<- erase_map]
  exact r.eraseIdx j
 ·rw [List.length_map]
  have:=len_erase xs j
  omega
end
end L2
namespace L2
open PySem PySem.Spec PyProof.Rows
theorem bt_isinstance : bootBuiltins "isinstance" = some (.builtin "isinstance"):=by decide +kernel
theorem bt_len : bootBuiltins "len" = some (.builtin "len"):=by decide +kernel
theorem bt_sorted : bootBuiltins "sorted" = some (.builtin "sorted"):=by decide +kernel
theorem bt_min : bootBuiltins "min" = some (.builtin "min"):=by decide +kernel
theorem bt_tuple : bootBuiltins "tuple" = some (.type "tuple"):=by decide +kernel
theorem bt_int : bootBuiltins "int" = some (.type "int"):=by decide +kernel
theorem bt_bool : bootBuiltins "bool" = some (.type "bool"):=by decide +kernel
theorem PS_nox {X : Cx} {st : Stmt} {t : TS} (h : PS X.nox st t) : PS X st t:=fun pins s σ H D I hw =>
 wpAny_mono (h pins s σ H D (I.wish _) hw) (fun f s' q=>SP.unwish q) (fun _ _ z=>False.elim z)
def tCut (t u : TS) : TS:=fun D σ H=>∃ J : St -> Hp -> Prop,t { D with nx:=J } σ H /\ ∀ σ' H',J σ' H' -> u D σ' H'
theorem pss_cut {X : Cx} {st : Stmt} {rest : List Stmt} {t u : TS} (h1 : PS X st t) (h2 : PSs X rest u) : PSs X (st :: rest) (tCut t u):=by
 intro pins s σ H D I hw
 obtain ⟨J,a,b⟩:=hw
 refine wpAny_execs_cons (thn (h1 pins s σ H _ I a) fun f s1 q=>?_)
 cases f with
 | next =>
  obtain ⟨σ1,H1,I1,q1⟩:=q
  exact h2 pins s1 σ1 H1 D I1 (b σ1 H1 q1)
 | brk=>exact q
 | cont=>exact q
 | ret v=>exact q
theorem comp_go {J : It} {n : Nat} {fv : List (Str × Nat)} {tt : TT} {te : TE} {σ : St} {H : Hp} {Q : VK} (Pv : Nat -> List V -> Hp -> Prop) (hz : n < sizeLine) (h0 : Pv 0 [] H)
  (hl : ∀ i ys H,i <= n -> Pv i ys H -> ys.length <= i /\ (i < n -> J.go i H) /\ (i = n -> J.stop i H))
  (hs : ∀ i ys H x H',i < n -> Pv i ys H -> J.yld i H x H' -> ∀ R : List V -> Hp -> Prop,(∀ ys' H3,Pv (i + 1) ys' H3 -> R ys' H3) -> tt (inner σ fv (some x)) H' fun b H2=>if b = true then te (inner σ fv (some x)) H2 fun y H3=>R (ys ++ [y]) H3 else R ys H2)
  (hd : ∀ ys H,Pv n ys H -> ∀ D,H D = none -> Q (.ref D) (upd H D (.lst ys))) :
  ∃ W : Nat -> Nat -> List V -> Hp -> Prop,(∃ m,W 0 m [] H) /\ ∀ i m ys H,W i m ys H -> ys.length < sizeLine /\
   ((J.stop i H /\ ∀ D,H D = none -> Q (.ref D) (upd H D (.lst ys))) \/
    (J.go i H /\ ∀ x H',J.yld i H x H' -> tt (inner σ fv (some x)) H' fun b H2=>if b = true then te (inner σ fv (some x)) H2 fun y H3=>∃ m',m' < m /\ W (i + 1) m' (ys ++ [y]) H3 else ∃ m',m' < m /\ W (i + 1) m' ys H2)):=by
 refine ⟨fun i m ys H=>m = n - i /\ i <= n /\ Pv i ys H,⟨n,rfl,Nat.zero_le _,h0⟩,?_⟩
 rintro i m ys H ⟨rfl,hi,p⟩
 obtain ⟨h1,h2,h3⟩:=hl i ys H hi p
 refine ⟨by omega,?_⟩
 by_cases hlt : i < n
 ·refine .inr ⟨h2 hlt,fun x H' y=>?_⟩
  exact hs i ys H x H' hlt p y (fun ys' H3=>∃ m',m' < n - i /\ m' = n - (i + 1) /\ i + 1 <= n /\ Pv (i + 1) ys' H3) fun ys' H3 p'=>⟨n - (i + 1),by omega,rfl,hlt,p'⟩
 ·have e : i = n:=by omega
  exact .inl ⟨h3 e,hd ys H (by rw [<- e]; exact p)⟩
section
variable {X : Cx} {scope : Scope} {x y : Str}
theorem relabel_nofree {env : Env} (h : ∀ p ∈ scope.names,p.2 ≠ NameKind.free) : (relabel scope env).names = scope.names:=by
 show (scope.names.map fun (n,k)=>if (k == NameKind.free && env.scope.kind == .function && env.kindOf n == some .cell) then (n,NameKind.cell) else (n,k)) = scope.names
 conv=>rhs; rw [<- List.map_id scope.names]
 refine List.map_congr_left fun p hp=>?_
 obtain ⟨n,k⟩:=p
 have hk:=h _ hp
 have e : (k == NameKind.free) = false:=by
  cases k <;> first | rfl | exact absurd rfl hk
 show (if (k == NameKind.free && env.scope.kind == .function && env.kindOf n == some .cell) = true then (n,NameKind.cell) else (n,k)) = (n,k)
 rw [e]
 rfl
theorem lookup_mem {l : List (Str × NameKind)} {y : Str} {k : NameKind} (h : l.lookup y = some k) : (y,k) ∈ l:=by
 induction l with
 | nil=>cases h
 | cons p l ih =>
  obtain ⟨n,j⟩:=p
  cases e : y == n with
  | true =>
   simp only [List.lookup_cons,e] at h
   cases h
   have : y = n:=by simpa using e
   subst this
   exact List.mem_cons_self ..
  | false =>
   simp only [List.lookup_cons,e] at h
   exact List.mem_cons_of_mem _ (ih h)
theorem ck0 (clo : closureFor scope X.env = pure []) (nf : ∀ p ∈ scope.names,p.2 ≠ NameKind.free:=by decide +kernel) (nc : ∀ p ∈ scope.names,p.2 ≠ NameKind.cell:=by decide +kernel) (kind : scope.kind = .function:=by rfl)
  (names : ∀ p ∈ scope.names,p.2 = .local -> scope.names.lookup p.1 = some .local:=by decide +kernel) (var : scope.names.lookup x = some .local:=by rfl) : CompOk X scope x [] [] where
 clo:=clo
 fc:=fun y c h=>nomatch h
 nc:=nc
 kind:=kind
 names:=names
 var:=var
 fvs:=fun p hp=>nomatch hp
 fr:=fun y h=>by
  rw [relabel_nofree nf] at h
  rcases h with h | h
  ·exact absurd rfl (nc _ (lookup_mem h))
  ·exact absurd rfl (nf _ (lookup_mem h))
 nd:=by simp
theorem ck1 {i : Nat} {c : Addr} (clo : closureFor scope X.env = pure [(y,c)]) (hc : X.env.cells.lookup y = some c) (hk : X.env.kindOf y = some .cell) (hN : X.N[i]? = some y) (nf : ∀ p ∈ scope.names,p.2 = NameKind.free -> p.1 = y:=by decide +kernel) (hf : scope.names.lookup y = some .free:=by rfl)
  (nc : ∀ p ∈ scope.names,p.2 ≠ NameKind.cell:=by decide +kernel) (kind : scope.kind = .function:=by rfl)
  (names : ∀ p ∈ scope.names,p.2 = .local -> scope.names.lookup p.1 = some .local:=by decide +kernel) (var : scope.names.lookup x = some .local:=by rfl) (ne : ¬ x = y:=by decide +kernel) : CompOk X scope x [(y,c)] [(y,i)] where
 clo:=clo
 fc:=fun z d h=>by
  by_cases e : z = y
  ·subst e
   have h' : some c = some d:=by simpa [List.lookup] using h
   rw [<- h']; exact hc
  ·have : (z == y) = false:=by simpa using e
   simp [List.lookup,this] at h
 nc:=nc
 kind:=kind
 names:=names
 var:=var
 fvs:=fun p hp=>by
  have e : p = (y,i):=by simpa using hp
  subst e
  exact ⟨hN,hk,hf,by simp [List.lookup]⟩
 fr:=fun z h=>by
  have e : z = y:=by
   have key : ∃ k,(z,k) ∈ (relabel scope X.env).names /\ (k = .cell \/ k = .free):=by
    rcases h with h | h
    ·exact ⟨_,lookup_mem h,.inl rfl⟩
    ·exact ⟨_,lookup_mem h,.inr rfl⟩
   obtain ⟨k,hm,hk'⟩:=key
   have hm' : (z,k) ∈ scope.names.map fun (n,k)=>if (k == NameKind.free && X.env.scope.kind == .function && X.env.kindOf n == some .cell) then (n,NameKind.cell) else (n,k):=hm
   obtain ⟨⟨n,j⟩,hp,e⟩:=List.mem_map.mp hm'
   have e' : (if (j == NameKind.free && X.env.scope.kind == .function && X.env.kindOf n == some .cell) = true then (n,NameKind.cell) else (n,j)) = (z,k):=e
   split at e'
   ·rename_i hj
    have hj' : j = .free:=by
     simp only [Bool.and_eq_true] at hj
     have:=hj.1.1
     cases j <;> first | rfl | exact absurd this (by decide)
    have:=nf _ hp hj'
    cases e'
    exact this
   ·cases e'
    rcases hk' with rfl | rfl
    ·exact absurd rfl (nc _ hp)
    ·exact nf _ hp rfl
  subst e
  simp [List.lookup]
 nd:=by simp [ne]
end
section
variable {X : Cx} {K : PySem.W.Frag}
theorem pe_fldK {e : Expr} {ta : TE} {f : Str} {pos : Pos} (hK : X.K = K) (he : PE X e ta) (hb : attributeBase e f X.env (eval e X.env) = eval e X.env) : PE X (.Attribute e f pos) (tFld K ta f):=by
 subst hK; exact pe_fld he hb
theorem call_isiK (hK : X.K = K) : CallR X (.builtin "isinstance") (tIsi K):=by
 subst hK; exact call_isi
theorem ix_listK (hK : X.K = K) : IxR X (rIxL K):=by
 subst hK; exact ix_list
end
end L2
namespace L2
open PySem PySem.Spec PyProof.Rows PyProof.Rows.LSm
section
variable {X : Cx}
end
end L2
namespace GH
inductive Vl where
 | num (i : Int)
 | thing (k : Nat)
 deriving DecidableEq
inductive Col where
 | white | grey | black
 deriving DecidableEq
inductive Stg where
 | idle | mark | sweep
 deriving DecidableEq
structure Th where
 place : Int
 fields : List Vl
 colour : Col
structure Hs where
 size : Int
 hands : List (Int × Vl)
 n : Nat
 th : Nat -> Th
 things : List Nat
 stage : Stg
 finger : Option Int
def look (l : List (Int × Vl)) (h : Int) : Option Vl:=(l.find? fun kv=>decide (kv.1 = h)).map (·.2)
def put (l : List (Int × Vl)) (h : Int) (v : Vl) : List (Int × Vl) :=
 if (l.any fun kv=>decide (kv.1 = h)) = true then l.map (fun kv=>if kv.1 = h then (kv.1,v) else kv) else l ++ [(h,v)]
def Th.words (T : Th) : Int:=2 + (T.fields.length : Int)
def Th.behind (T : Th) : Int:=T.place + T.words
def Hs.held (S : Hs) (h : Int) : Vl:=(look S.hands h).getD (.num 0)
def Hs.hold (S : Hs) (h : Int) (v : Vl) : Hs:={ S with hands:=put S.hands h v }
def Hs.setTh (S : Hs) (k : Nat) (T : Th) : Hs:={ S with th:=fun j=>if j = k then T else S.th j }
def Hs.paint (S : Hs) (k : Nat) (c : Col) : Hs:=S.setTh k { S.th k with colour:=c }
def Hs.makeGrey (S : Hs) (v : Vl) : Hs:=match v with
 | .thing k=>if (S.th k).colour = .white then S.paint k .grey else S
 | .num _=>S
def Hs.shadeAll (S : Hs) (vs : List Vl) : Hs:=vs.foldl Hs.makeGrey S
def Hs.leastGrey (S : Hs) : Option Nat:=S.things.find? fun k=>decide ((S.th k).colour = .grey)
def Hs.leastFrom (S : Hs) (f : Int) : Option Nat:=S.things.find? fun k=>decide (f <= (S.th k).place)
def Hs.fg (S : Hs) : Int:=S.finger.getD 0
def Hs.toSweep (S : Hs) : Hs:=if S.stage = .mark /\ S.leastGrey = none then { S with stage:=.sweep,finger:=some 0 } else S
def Hs.toIdle (S : Hs) : Hs:=if S.stage = .sweep /\ S.leastFrom S.fg = none then { S with stage:=.idle,finger:=none } else S
def Hs.change (S : Hs) : Hs:=S.toSweep.toIdle
def Hs.markThing (S : Hs) (k : Nat) : Hs:=(S.shadeAll (S.th k).fields).paint k .black
def Hs.sweepThing (S : Hs) (k : Nat) : Hs:=if (S.th k).colour = .white then { S with things:=S.things.erase k,finger:=some (S.th k).behind } else { S.paint k .white with finger:=some (S.th k).behind }
def Hs.part0 (S : Hs) : Hs:=if S.stage = .mark then (match S.leastGrey with
  | some k=>S.markThing k
  | none=>S) else (match S.leastFrom S.fg with
  | some k=>S.sweepThing k
  | none=>S)
def Hs.part (S : Hs) : Hs:=S.part0.change
def Hs.steps : Nat -> Hs -> Hs × Nat
 | 0,S=>(S,0)
 | m + 1,S=>if S.stage = .idle then (S,0) else ((Hs.steps m S.part).1,(Hs.steps m S.part).2 + 1)
def Hs.nonBlack (S : Hs) : List Nat:=S.things.filter fun k=>decide ((S.th k).colour ≠ .black)
def Hs.from' (S : Hs) (f : Int) : List Nat:=S.things.filter fun k=>decide (f <= (S.th k).place)
def Hs.left (S : Hs) : Nat:=match S.stage with
 | .idle=>0
 | .mark=>S.nonBlack.length + S.things.length
 | .sweep=>(S.from' S.fg).length
def Hs.finish (S : Hs) : Hs × Nat:=Hs.steps S.left S
def Hs.begin (S : Hs) : Hs:=(Hs.shadeAll { S with stage:=.mark } (S.hands.map (·.2))).change
def slideGo : Int -> List Nat -> (Nat -> Th) -> (Nat -> Th)
 | _,[],t=>t
 | a,k :: r,t=>slideGo (a + (t k).words) r (fun j=>if j = k then { t k with place:=a } else t j)
def Hs.slide (S : Hs) : Hs:={ S with th:=slideGo 0 S.things S.th }
def freeGo (t : Nat -> Th) (size w : Int) : Int -> List Nat -> Option Int
 | a,[]=>if w <= size - a then some a else none
 | a,k :: r=>if w <= (t k).place - a then some a else freeGo t size w (t k).behind r
def Hs.free (S : Hs) (w : Int) : Option Int:=freeGo S.th S.size w 0 S.things
def Hs.before (S : Hs) (p : Int) : List Nat:=S.things.filter fun k=>decide ((S.th k).place < p)
def Hs.lay (S : Hs) (T : Th) : Hs:={ S with th:=(fun j=>if j = S.n then T else S.th j),n:=S.n + 1,things:=S.things.take (S.before T.place).length ++ S.n :: S.things.drop (S.before T.place).length }
def Hs.colourAt (S : Hs) (p : Int) : Col:=if S.stage = .mark then .black else if S.stage = .sweep /\ S.fg <= p then .black else .white
def Hs.swept (S : Hs) : Hs:=(S.finish.1.begin.finish.1).slide
def Hs.made (S : Hs) (h : Int) (m : Nat) (p : Int) : Hs:=(S.lay ⟨p,List.replicate m (.num 0),S.colourAt p⟩).hold h (.thing S.n)
inductive Told where
 | non | int (i : Int) | noThing | noField | noRoom | notNow
 deriving DecidableEq
def Hs.make (S : Hs) (h : Int) (m : Nat) : Hs × Told:=match S.free (2 + m) with
 | some p=>(S.made h m p,.non)
 | none=>match S.swept.free (2 + m) with
  | some p=>(S.swept.made h m p,.non)
  | none=>(S.swept,.noRoom)
def Hs.field (S : Hs) (h f : Int) : Vl ⊕ Told:=match S.held h with
 | .num _=>.inr .noThing
 | .thing k=>if f < 0 then .inr .noField else match (S.th k).fields[f.toNat]? with
  | some v=>.inl v
  | none=>.inr .noField
def Hs.load (S : Hs) (h o f : Int) : Hs × Told:=match S.field o f with
 | .inl v=>(S.hold h v,.non)
 | .inr t=>(S,t)
def Hs.setField (S : Hs) (k : Nat) (f : Nat) (v : Vl) : Hs:=S.setTh k { S.th k with fields:=(S.th k).fields.set f v }
def Hs.store (S : Hs) (h f o : Int) : Hs × Told:=match S.held h,S.field h f with
 | .thing k,.inl v=>((if S.stage = .mark then S.makeGrey v else S).setField k f.toNat (S.held o),.non)
 | .num _,.inl _=>(S,.non)
 | _,.inr t=>(S,t)
inductive Act where
 | make (h : Int) (m : Nat) | store (h f o : Int) | load (h o f : Int) | copy (h o : Int) | number (h n : Int) | begin | slide | finish | step (n : Nat)
def Hs.act (S : Hs) : Act -> Hs × Told
 | .make h m=>S.make h m
 | .store h f o=>S.store h f o
 | .load h o f=>S.load h o f
 | .copy h o=>(S.hold h (S.held o),.non)
 | .number h n=>(S.hold h (.num n),.non)
 | .begin=>if S.stage = .idle then (S.begin,.non) else (S,.notNow)
 | .slide=>if S.stage = .idle then (S.slide,.non) else (S,.notNow)
 | .finish=>(S.finish.1,.int S.finish.2)
 | .step n=>((S.steps n).1,.int (S.steps n).2)
def Hs.new (size : Int) : Hs:=⟨size,[],0,fun _=>⟨0,[],.white⟩,[],.idle,none⟩
end GH
namespace GH
theorem setTh_th (S : Hs) (k : Nat) (T : Th) (j : Nat) : (S.setTh k T).th j = if j = k then T else S.th j:=rfl
theorem paint_th (S : Hs) (k : Nat) (c : Col) (j : Nat) : (S.paint k c).th j = if j = k then { S.th k with colour:=c } else S.th j:=rfl
def shTh (t : Nat -> Th) (vs : List Vl) : Nat -> Th:=fun j=>if (t j).colour = .white /\ Vl.thing j ∈ vs then { t j with colour:=.grey } else t j
theorem makeGrey_eq (S : Hs) (v : Vl) : S.makeGrey v = { S with th:=shTh S.th [v] }:=by
 cases v with
 | num i =>
  have e : shTh S.th [Vl.num i] = S.th:=by
   funext j; unfold shTh; rw [if_neg]; rintro ⟨_,h⟩; simp at h
  rw [e]; rfl
 | thing k =>
  show (if (S.th k).colour = .white then S.paint k .grey else S) = _
  by_cases h : (S.th k).colour = .white
  ·rw [if_pos h]
   have e : (S.paint k .grey).th = shTh S.th [Vl.thing k]:=by
    funext j
    rw [paint_th]
    unfold shTh
    by_cases hj : j = k
    ·subst hj; rw [if_pos rfl,if_pos ⟨h,by simp⟩]
    ·rw [if_neg hj,if_neg]; rintro ⟨_,z⟩; simp at z; exact hj z
   rw [<- e]; rfl
  ·rw [if_neg h]
   have e : shTh S.th [Vl.thing k] = S.th:=by
    funext j; unfold shTh; rw [if_neg]; rintro ⟨z,z2⟩; simp at z2; subst z2; exact h z
   rw [e]
theorem shTh_shTh (t : Nat -> Th) (v : Vl) (vs : List Vl) : shTh (shTh t [v]) vs = shTh t (v :: vs):=by
 funext j
 unfold shTh
 by_cases h : (t j).colour = .white
 ·by_cases h1 : Vl.thing j = v
  ·subst h1; simp [h]
  ·simp [h,h1]
 ·simp [h]
theorem shadeAll_eq (S : Hs) (vs : List Vl) : S.shadeAll vs = { S with th:=shTh S.th vs }:=by
 induction vs generalizing S with
 | nil =>
  have e : shTh S.th [] = S.th:=by
   funext j; unfold shTh; rw [if_neg]; rintro ⟨_,h⟩; simp at h
  rw [e]; rfl
 | cons v vs ih =>
  show (S.makeGrey v).shadeAll vs = _
  rw [ih,makeGrey_eq,shTh_shTh]
theorem shTh_place (t : Nat -> Th) (vs : List Vl) (j : Nat) : (shTh t vs j).place = (t j).place:=by unfold shTh; split <;> rfl
theorem shTh_fields (t : Nat -> Th) (vs : List Vl) (j : Nat) : (shTh t vs j).fields = (t j).fields:=by unfold shTh; split <;> rfl
theorem shTh_colour (t : Nat -> Th) (vs : List Vl) (j : Nat) : (shTh t vs j).colour = if (t j).colour = .white /\ Vl.thing j ∈ vs then .grey else (t j).colour:=by unfold shTh; split <;> rfl
inductive Reach (S : Hs) : Nat -> Prop
 | hand {h : Int} {k : Nat} : (h,Vl.thing k) ∈ S.hands -> Reach S k
 | field {j k : Nat} : Reach S j -> Vl.thing k ∈ (S.th j).fields -> Reach S k
inductive GP (t : Nat -> Th) : Nat -> Prop
 | grey {k : Nat} : (t k).colour = .grey -> GP t k
 | step {j k : Nat} : GP t j -> Vl.thing k ∈ (t j).fields -> (t k).colour = .white -> GP t k
theorem GP.root {t : Nat -> Th} {k : Nat} (h : GP t k) : ∃ g,(t g).colour = .grey:=by
 induction h with
 | grey e=>exact ⟨_,e⟩
 | step _ _ _ ih=>exact ih
structure Laid (S : Hs) : Prop where
 rise : S.things.Pairwise fun j k=>(S.th j).behind <= (S.th k).place
 low : ∀ k ∈ S.things,0 <= (S.th k).place
 high : ∀ k ∈ S.things,(S.th k).behind <= S.size
structure Wf (S : Hs) : Prop where
 hv : ∀ h k,(h,Vl.thing k) ∈ S.hands -> k < S.n
 fv : ∀ j k,j < S.n -> Vl.thing k ∈ (S.th j).fields -> k < S.n
 tv : ∀ k ∈ S.things,k < S.n
 nd : S.things.Nodup
 fl : ∀ k,k < S.n -> (S.th k).fields.length <= 6
 hn : (S.hands.map (·.1)).Nodup
structure Ready (S : Hs) : Prop where
 mr : S.stage = .mark -> S.leastGrey ≠ none
 sw : S.stage = .sweep -> S.leastFrom S.fg ≠ none
 fg : S.stage = .sweep -> ∃ f,S.finger = some f
 no : S.stage ≠ .sweep -> S.finger = none
structure Gc (S : Hs) (U : Nat -> Prop) : Prop where
 hand : ∀ h k,(h,Vl.thing k) ∈ S.hands -> U k
 clo : ∀ j k,U j -> Vl.thing k ∈ (S.th j).fields -> U k
 sub : ∀ k,U k -> k ∈ S.things
 col : ∀ k,(S.th k).colour ≠ .white -> U k
 idle : S.stage = .idle -> ∀ k ∈ S.things,U k /\ (S.th k).colour = .white
 mark : S.stage = .mark -> ∀ k,U k -> (S.th k).colour = .black \/ GP S.th k
 sweep : S.stage = .sweep -> ∀ k ∈ S.things,(S.fg <= (S.th k).place -> U k -> (S.th k).colour = .black) /\ ((S.th k).place < S.fg -> U k /\ (S.th k).colour = .white)
theorem Gc.reach {S : Hs} {U : Nat -> Prop} (g : Gc S U) {k : Nat} (h : Reach S k) : U k:=by
 induction h with
 | hand e=>exact g.hand _ _ e
 | field _ e ih=>exact g.clo _ _ ih e
theorem find_none {p : Nat -> Bool} {l : List Nat} : l.find? p = none ↔ ∀ k ∈ l,p k = false:=by
 rw [List.find?_eq_none]
 constructor
 ·intro h k hk; simpa using h k hk
 ·intro h k hk; simpa using h k hk
theorem leastGrey_none {S : Hs} : S.leastGrey = none ↔ ∀ k ∈ S.things,(S.th k).colour ≠ .grey:=by
 unfold Hs.leastGrey
 rw [find_none]
 constructor
 ·intro h k hk; simpa using h k hk
 ·intro h k hk; simpa using h k hk
theorem leastFrom_none {S : Hs} {f : Int} : S.leastFrom f = none ↔ ∀ k ∈ S.things,(S.th k).place < f:=by
 unfold Hs.leastFrom
 rw [find_none]
 constructor
 ·intro h k hk; have:=h k hk; simp at this; omega
 ·intro h k hk; have:=h k hk; simp; omega
theorem leastGrey_some {S : Hs} {k : Nat} (h : S.leastGrey = some k) : k ∈ S.things /\ (S.th k).colour = .grey:=by
 unfold Hs.leastGrey at h
 exact ⟨List.mem_of_find?_eq_some h,by simpa using List.find?_some h⟩
theorem leastFrom_some {S : Hs} {f : Int} {k : Nat} (h : S.leastFrom f = some k) : k ∈ S.things /\ f <= (S.th k).place:=by
 unfold Hs.leastFrom at h
 exact ⟨List.mem_of_find?_eq_some h,by simpa using List.find?_some h⟩
theorem Gc.change {S : Hs} {U : Nat -> Prop} (g : Gc S U) (low : ∀ k ∈ S.things,0 <= (S.th k).place) : Gc S.change U:=by
 have g1 : Gc S.toSweep U:=by
  unfold Hs.toSweep
  split
  ·rename_i h
   refine ⟨g.hand,g.clo,g.sub,g.col,(fun z=>nomatch z),(fun z=>nomatch z),fun _ k hk=>⟨fun _ u=>?_,fun z=>?_⟩⟩
   ·rcases g.mark h.1 k u with z | z
    ·exact z
    ·obtain ⟨r,hr⟩:=z.root
     exact absurd hr (leastGrey_none.mp h.2 r (g.sub r (g.col r (by rw [hr]; decide))))
   ·have : (S.th k).place < 0:=z
    have:=low k hk
    omega
  ·exact g
 unfold Hs.change Hs.toIdle
 split
 ·rename_i h
  refine ⟨g1.hand,g1.clo,g1.sub,g1.col,fun _ k hk=>?_,(fun z=>nomatch z),(fun z=>nomatch z)⟩
  exact (g1.sweep h.1 k hk).2 (leastFrom_none.mp h.2 k hk)
 ·exact g1
theorem change_hands (S : Hs) : S.change.hands = S.hands:=by unfold Hs.change Hs.toIdle Hs.toSweep; (repeat' split) <;> rfl
theorem change_things (S : Hs) : S.change.things = S.things:=by unfold Hs.change Hs.toIdle Hs.toSweep; (repeat' split) <;> rfl
theorem change_th (S : Hs) : S.change.th = S.th:=by unfold Hs.change Hs.toIdle Hs.toSweep; (repeat' split) <;> rfl
theorem change_n (S : Hs) : S.change.n = S.n:=by unfold Hs.change Hs.toIdle Hs.toSweep; (repeat' split) <;> rfl
theorem change_size (S : Hs) : S.change.size = S.size:=by unfold Hs.change Hs.toIdle Hs.toSweep; (repeat' split) <;> rfl
theorem ready_change {S : Hs} (fg : S.stage = .sweep -> ∃ f,S.finger = some f) (no : S.stage ≠ .sweep -> S.finger = none) : Ready S.change:=by
 unfold Hs.change Hs.toIdle
 split
 ·exact ⟨(fun z=>nomatch z),(fun z=>nomatch z),(fun z=>nomatch z),fun _=>rfl⟩
 ·rename_i h
  refine ⟨fun z=>?_,fun z q=>h ⟨z,q⟩,fun z=>?_,fun z=>?_⟩
  ·unfold Hs.toSweep at z ⊢
   split at z
   ·cases z
   ·rename_i h2
    rw [if_neg h2]
    exact fun q=>h2 ⟨z,q⟩
  ·unfold Hs.toSweep at z ⊢
   split
   ·exact ⟨_,rfl⟩
   ·rename_i h2
    rw [if_neg h2] at z
    exact fg z
  ·unfold Hs.toSweep at z ⊢
   split
   ·rename_i h2
    rw [if_pos h2] at z
    exact absurd rfl z
   ·rename_i h2
    rw [if_neg h2] at z
    exact no z
theorem markThing_eq (S : Hs) (k : Nat) : S.markThing k = { S with th:=fun j=>if j = k then { shTh S.th (S.th k).fields k with colour:=.black } else shTh S.th (S.th k).fields j }:=by
 unfold Hs.markThing Hs.paint Hs.setTh
 rw [shadeAll_eq]
theorem mark_fields (S : Hs) (k j : Nat) : ((S.markThing k).th j).fields = (S.th j).fields:=by
 rw [markThing_eq]
 show (if j = k then _ else _ : Th).fields = _
 split
 ·rename_i h; subst h; exact shTh_fields ..
 ·exact shTh_fields ..
theorem mark_place (S : Hs) (k j : Nat) : ((S.markThing k).th j).place = (S.th j).place:=by
 rw [markThing_eq]
 show (if j = k then _ else _ : Th).place = _
 split
 ·rename_i h; subst h; exact shTh_place ..
 ·exact shTh_place ..
theorem mark_colour (S : Hs) (k j : Nat) : ((S.markThing k).th j).colour = if j = k then .black else if (S.th j).colour = .white /\ Vl.thing j ∈ (S.th k).fields then .grey else (S.th j).colour:=by
 rw [markThing_eq]
 show (if j = k then _ else _ : Th).colour = _
 split
 ·rfl
 ·exact shTh_colour ..
theorem mark_rest (S : Hs) (k : Nat) : (S.markThing k).hands = S.hands /\ (S.markThing k).things = S.things /\ (S.markThing k).n = S.n /\ (S.markThing k).size = S.size /\ (S.markThing k).stage = S.stage /\ (S.markThing k).finger = S.finger:=by
 rw [markThing_eq]; exact ⟨rfl,rfl,rfl,rfl,rfl,rfl⟩
theorem Gc.markThing {S : Hs} {U : Nat -> Prop} (g : Gc S U) {k : Nat} (hs : S.stage = .mark) (hk : (S.th k).colour = .grey) : Gc (S.markThing k) U:=by
 obtain ⟨r1,r2,r3,r4,r5,r6⟩:=mark_rest S k
 have uk : U k:=g.col k (by rw [hk]; decide)
 refine ⟨?_,?_,?_,?_,?_,?_,?_⟩
 ·rw [r1]; exact g.hand
 ·intro j i u e; rw [mark_fields] at e; exact g.clo j i u e
 ·rw [r2]; exact g.sub
 ·intro j e
  rw [mark_colour] at e
  by_cases hj : j = k
  ·subst hj; exact uk
  ·rw [if_neg hj] at e
   by_cases h2 : (S.th j).colour = .white /\ Vl.thing j ∈ (S.th k).fields
   ·exact g.clo k j uk h2.2
   ·rw [if_neg h2] at e; exact g.col j e
 ·rw [r5,hs]; exact fun z=>nomatch z
 ·intro _ j u
  have go : ∀ i,GP S.th i -> i = k \/ GP (S.markThing k).th i:=by
   intro i h
   induction h with
   | @grey i e =>
    by_cases hi : i = k
    ·exact .inl hi
    ·refine .inr (.grey ?_)
     rw [mark_colour,if_neg hi,if_neg (by rw [e]; rintro ⟨z,_⟩; cases z)]
     exact e
   | @step i l h1 h2 h3 ih =>
    by_cases hl : l = k
    ·exact .inl hl
    ·by_cases hm : Vl.thing l ∈ (S.th k).fields
     ·refine .inr (.grey ?_)
      rw [mark_colour,if_neg hl,if_pos ⟨h3,hm⟩]
     ·rcases ih with z | z
      ·subst z; exact absurd h2 hm
      ·refine .inr (.step z ?_ ?_)
       ·rw [mark_fields]; exact h2
       ·rw [mark_colour,if_neg hl,if_neg (fun q=>hm q.2)]; exact h3
  by_cases hj : j = k
  ·left; rw [mark_colour,if_pos hj]
  ·rcases g.mark hs j u with z | z
   ·left
    rw [mark_colour,if_neg hj,if_neg (by rw [z]; rintro ⟨q,_⟩; cases q)]
    exact z
   ·rcases go j z with q | q
    ·exact absurd q hj
    ·exact .inr q
 ·rw [r5,hs]; exact fun z=>nomatch z
theorem words_pos (T : Th) : 2 <= T.words:=by unfold Th.words; omega
theorem Gc.sweepThing {S : Hs} {U : Nat -> Prop} (g : Gc S U) (nd : S.things.Nodup) (rise : S.things.Pairwise fun j k=>(S.th j).behind <= (S.th k).place) {k : Nat} (hs : S.stage = .sweep) (hk : S.leastFrom S.fg = some k) : Gc (S.sweepThing k) U:=by
 obtain ⟨km,kp⟩:=leastFrom_some hk
 have hw:=words_pos (S.th k)
 have tri : ∀ j ∈ S.things,j = k \/ (S.th j).behind <= (S.th k).place \/ (S.th k).behind <= (S.th j).place:=by
  intro j hj
  by_cases e : j = k
  ·exact .inl e
  ·right
   obtain ⟨a,ha,ea⟩:=List.getElem_of_mem hj
   obtain ⟨b,hb,eb⟩:=List.getElem_of_mem km
   have pw:=List.pairwise_iff_getElem.mp rise
   rcases Nat.lt_trichotomy a b with q | q | q
   ·left; have:=pw a b ha hb q; rw [ea,eb] at this; exact this
   ·subst q; rw [ea] at eb; exact absurd eb e
   ·right; have:=pw b a hb ha q; rw [ea,eb] at this; exact this
 have bef : ∀ j ∈ S.things,(S.th j).behind <= (S.th k).place -> (S.th j).place < S.fg:=by
  intro j hj hb
  have hwj:=words_pos (S.th j)
  unfold Hs.leastFrom at hk
  obtain ⟨hp,as,bs,el,hno⟩:=List.find?_eq_some_iff_append.mp hk
  have : j ∈ as:=by
   rw [el] at hj rise
   rcases List.mem_append.mp hj with z | z
   ·exact z
   ·exfalso
    rcases List.mem_cons.mp z with z | z
    ·subst z; unfold Th.behind at hb; omega
    ·have h1:=(List.pairwise_append.mp rise).2.1
     have h2:=(List.pairwise_cons.mp h1).1 j z
     unfold Th.behind at hb h2
     omega
  have:=hno j this
  simp at this
  omega
 unfold Hs.sweepThing
 split
 ·rename_i hc
  have nu : ¬ U k:=fun u=>by
   have:=(g.sweep hs k km).1 kp u
   rw [hc] at this; cases this
  refine ⟨g.hand,g.clo,fun j u=>?_,g.col,?_,?_,?_⟩
  ·exact (List.mem_erase_of_ne (fun e=>nu (by rw [<- e]; exact u))).mpr (g.sub j u)
  ·show S.stage = .idle -> _; rw [hs]; exact fun z=>nomatch z
  ·show S.stage = .mark -> _; rw [hs]; exact fun z=>nomatch z
  ·intro _ j hj
   have hj1 : j ∈ S.things:=List.mem_of_mem_erase hj
   have hne : j ≠ k:=fun e=>by subst e; exact (List.Nodup.not_mem_erase nd) hj
   obtain ⟨c1,c2⟩:=g.sweep hs j hj1
   refine ⟨fun q u=>c1 ?_ u,fun q=>?_⟩
   ·have q' : (S.th k).behind <= (S.th j).place:=q
    unfold Th.behind at q'; omega
   ·have q' : (S.th j).place < (S.th k).behind:=q
    rcases tri j hj1 with z | z | z
    ·exact absurd z hne
    ·exact c2 (bef j hj1 z)
    ·omega
 ·rename_i hc
  have uk : U k:=g.col k hc
  refine ⟨g.hand,fun j i u e=>?_,g.sub,fun j e=>?_,?_,?_,?_⟩
  ·have e' : Vl.thing i ∈ ((S.paint k .white).th j).fields:=e
   rw [paint_th] at e'
   by_cases hj : j = k
   ·rw [if_pos hj] at e'; subst hj; exact g.clo j i u e'
   ·rw [if_neg hj] at e'; exact g.clo j i u e'
  ·have e' : ((S.paint k .white).th j).colour ≠ .white:=e
   rw [paint_th] at e'
   by_cases hj : j = k
   ·rw [if_pos hj] at e'; exact absurd rfl e'
   ·rw [if_neg hj] at e'; exact g.col j e'
  ·show S.stage = .idle -> _; rw [hs]; exact fun z=>nomatch z
  ·show S.stage = .mark -> _; rw [hs]; exact fun z=>nomatch z
  ·intro _ j hj
   have hj1 : j ∈ S.things:=hj
   obtain ⟨c1,c2⟩:=g.sweep hs j hj1
   show (((S.th k).behind <= ((S.paint k .white).th j).place) -> U j -> ((S.paint k .white).th j).colour = .black) /\ (((S.paint k .white).th j).place < (S.th k).behind -> U j /\ ((S.paint k .white).th j).colour = .white)
   rw [paint_th]
   by_cases hjk : j = k
   ·subst hjk
    rw [if_pos rfl]
    refine ⟨fun q=>?_,fun _=>⟨uk,rfl⟩⟩
    have q' : (S.th j).behind <= (S.th j).place:=q
    unfold Th.behind at q'; omega
   ·rw [if_neg hjk]
    refine ⟨fun q u=>c1 (by unfold Th.behind at q; omega) u,fun q=>?_⟩
    rcases tri j hj1 with z | z | z
    ·exact absurd z hjk
    ·exact c2 (bef j hj1 z)
    ·omega
end GH
namespace GH
structure Same (S S' : Hs) : Prop where
 hands : S'.hands = S.hands
 n : S'.n = S.n
 size : S'.size = S.size
 fields : ∀ j,(S'.th j).fields = (S.th j).fields
theorem Same.refl (S : Hs) : Same S S:=⟨rfl,rfl,rfl,fun _=>rfl⟩
theorem Same.trans {S S1 S2 : Hs} (a : Same S S1) (b : Same S1 S2) : Same S S2:=⟨b.hands.trans a.hands,b.n.trans a.n,b.size.trans a.size,fun j=>(b.fields j).trans (a.fields j)⟩
theorem Same.change (S : Hs) : Same S S.change:=⟨change_hands S,change_n S,change_size S,fun j=>by rw [change_th]⟩
theorem words_of {T T' : Th} (h : T'.fields = T.fields) : T'.words = T.words:=by unfold Th.words; rw [h]
theorem behind_of {T T' : Th} (h : T'.fields = T.fields) (p : T'.place = T.place) : T'.behind = T.behind:=by unfold Th.behind; rw [words_of h,p]
theorem Laid.of {S S' : Hs} (l : Laid S) (sz : S'.size = S.size) (f : ∀ j,(S'.th j).fields = (S.th j).fields) (p : ∀ j,(S'.th j).place = (S.th j).place) (sub : S'.things.Sublist S.things) : Laid S':=by
 have b : ∀ j,(S'.th j).behind = (S.th j).behind:=fun j=>behind_of (f j) (p j)
 refine ⟨?_,fun k hk=>?_,fun k hk=>?_⟩
 ·refine List.Pairwise.imp ?_ (l.rise.sublist sub)
  intro j k h; rw [b,p]; exact h
 ·rw [p]; exact l.low k (sub.subset hk)
 ·rw [b,sz]; exact l.high k (sub.subset hk)
theorem Wf.of {S S' : Hs} (w : Wf S) (s : Same S S') (sub : S'.things.Sublist S.things) : Wf S':=by
 refine ⟨fun h k e=>?_,fun j k hj e=>?_,fun k hk=>?_,w.nd.sublist sub,fun k hk=>?_,?_⟩
 ·rw [s.n]; rw [s.hands] at e; exact w.hv h k e
 ·rw [s.n] at hj ⊢; rw [s.fields] at e; exact w.fv j k hj e
 ·rw [s.n]; exact w.tv k (sub.subset hk)
 ·rw [s.n] at hk; rw [s.fields]; exact w.fl k hk
 ·rw [s.hands]; exact w.hn
theorem Same.markThing (S : Hs) (k : Nat) : Same S (S.markThing k) :=
 let ⟨a,_,c,d,_⟩:=mark_rest S k
 ⟨a,c,d,mark_fields S k⟩
theorem sweep_fields (S : Hs) (k j : Nat) : ((S.sweepThing k).th j).fields = (S.th j).fields:=by
 unfold Hs.sweepThing
 split
 ·rfl
 ·show ((S.paint k .white).th j).fields = _
  rw [paint_th]; split
  ·rename_i h; subst h; rfl
  ·rfl
theorem sweep_place (S : Hs) (k j : Nat) : ((S.sweepThing k).th j).place = (S.th j).place:=by
 unfold Hs.sweepThing
 split
 ·rfl
 ·show ((S.paint k .white).th j).place = _
  rw [paint_th]; split
  ·rename_i h; subst h; rfl
  ·rfl
theorem Same.sweepThing (S : Hs) (k : Nat) : Same S (S.sweepThing k):=by
 refine ⟨?_,?_,?_,sweep_fields S k⟩ <;> (unfold Hs.sweepThing; split <;> rfl)
theorem Same.part0 (S : Hs) : Same S S.part0:=by
 unfold Hs.part0
 split
 ·split
  ·exact .markThing ..
  ·exact .refl _
 ·split
  ·exact .sweepThing ..
  ·exact .refl _
theorem part0_place (S : Hs) (j : Nat) : (S.part0.th j).place = (S.th j).place:=by
 unfold Hs.part0
 split
 ·split
  ·exact mark_place ..
  ·rfl
 ·split
  ·exact sweep_place ..
  ·rfl
theorem sweep_sub (S : Hs) (k : Nat) : (S.sweepThing k).things.Sublist S.things:=by
 unfold Hs.sweepThing
 split
 ·exact List.erase_sublist
 ·exact List.Sublist.refl _
theorem part0_sub (S : Hs) : S.part0.things.Sublist S.things:=by
 unfold Hs.part0
 split
 ·split
  ·rw [(mark_rest _ _).2.1]; exact List.Sublist.refl _
  ·exact List.Sublist.refl _
 ·split
  ·exact sweep_sub ..
  ·exact List.Sublist.refl _
theorem Same.part (S : Hs) : Same S S.part:=(Same.part0 S).trans (.change _)
theorem part_place (S : Hs) (j : Nat) : (S.part.th j).place = (S.th j).place:=by unfold Hs.part; rw [change_th]; exact part0_place S j
theorem part_sub (S : Hs) : S.part.things.Sublist S.things:=by unfold Hs.part; rw [change_things]; exact part0_sub S
theorem Wf.part {S : Hs} (w : Wf S) : Wf S.part:=w.of (.part S) (part_sub S)
theorem Laid.part {S : Hs} (l : Laid S) : Laid S.part:=l.of (Same.part S).size (Same.part S).fields (part_place S) (part_sub S)
theorem sweep_stage (S : Hs) (k : Nat) : (S.sweepThing k).stage = S.stage:=by unfold Hs.sweepThing; split <;> rfl
theorem sweep_finger (S : Hs) (k : Nat) : (S.sweepThing k).finger = some (S.th k).behind:=by unfold Hs.sweepThing; split <;> rfl
theorem part0_stage (S : Hs) : S.part0.stage = S.stage:=by
 unfold Hs.part0
 split
 ·split
  ·exact (mark_rest _ _).2.2.2.2.1
  ·rfl
 ·split
  ·exact sweep_stage ..
  ·rfl
theorem Ready.part {S : Hs} (r : Ready S) (hn : S.stage ≠ .idle) : Ready S.part:=by
 refine ready_change (fun h=>?_) (fun h=>?_)
 ·rw [part0_stage] at h
  unfold Hs.part0
  rw [if_neg (by rw [h]; decide)]
  cases e : S.leastFrom S.fg with
  | none=>exact absurd e (r.sw h)
  | some k=>exact ⟨_,sweep_finger S k⟩
 ·rw [part0_stage] at h
  have hm : S.stage = .mark:=by
   cases e : S.stage with
   | idle=>exact absurd e hn
   | mark=>rfl
   | sweep=>exact absurd e h
  unfold Hs.part0
  rw [if_pos hm]
  cases e : S.leastGrey with
  | none=>exact r.no h
  | some k=>show (S.markThing k).finger = none; rw [(mark_rest _ _).2.2.2.2.2]; exact r.no h
theorem Gc.part {S : Hs} {U : Nat -> Prop} (g : Gc S U) (l : Laid S) (w : Wf S) (hn : S.stage ≠ .idle) : Gc S.part U:=by
 refine Gc.change ?_ ?_
 ·unfold Hs.part0
  split
  ·rename_i hm
   cases e : S.leastGrey with
   | none=>exact g
   | some k=>exact g.markThing hm (leastGrey_some e).2
  ·rename_i hm
   have hs : S.stage = .sweep:=by
    cases e : S.stage with
    | idle=>exact absurd e hn
    | mark=>exact absurd e hm
    | sweep=>rfl
   cases e : S.leastFrom S.fg with
   | none=>exact g
   | some k=>exact g.sweepThing w.nd l.rise hs e
 ·intro k hk
  rw [part0_place]
  exact l.low k ((part0_sub S).subset hk)
theorem filter_le {p q : Nat -> Bool} {l : List Nat} (h : ∀ j ∈ l,p j = true -> q j = true) : (l.filter p).length <= (l.filter q).length:=by
 induction l with
 | nil=>exact Nat.le_refl _
 | cons a l ih =>
  have ih':=ih fun j hj=>h j (List.mem_cons_of_mem _ hj)
  have ha:=h a (List.mem_cons_self ..)
  cases hp : p a <;> cases hq : q a <;> simp [hp,hq] <;> first | omega | (rw [hp] at ha; simp [hq] at ha)
theorem filter_lt {p q : Nat -> Bool} {l : List Nat} {k : Nat} (h : ∀ j ∈ l,p j = true -> q j = true) (hk : k ∈ l) (hp : p k = false) (hq : q k = true) : (l.filter p).length < (l.filter q).length:=by
 induction l with
 | nil=>cases hk
 | cons a l ih =>
  have h':=fun j (hj : j ∈ l)=>h j (List.mem_cons_of_mem _ hj)
  have ha:=h a (List.mem_cons_self ..)
  have le:=filter_le h'
  rcases List.mem_cons.mp hk with e | e
  ·subst e; simp [hp,hq]; omega
  ·have ih':=ih h' e
   cases hp' : p a <;> cases hq' : q a <;> simp [hp',hq'] <;> first | omega | (rw [hp'] at ha; simp [hq'] at ha)
theorem change_left (S : Hs) : S.change.left <= S.left:=by
 have h1 : S.toSweep.left <= S.left:=by
  unfold Hs.toSweep
  split
  ·rename_i h
   have a : S.left = S.nonBlack.length + S.things.length:=by unfold Hs.left; rw [h.1]
   rw [a]
   show (List.filter _ S.things).length <= _
   have:=List.length_filter_le (fun k=>decide ((0 : Int) <= (S.th k).place)) S.things
   exact Nat.le_trans this (Nat.le_add_left _ _)
  ·exact Nat.le_refl _
 refine Nat.le_trans ?_ h1
 unfold Hs.change Hs.toIdle
 split
 ·exact Nat.zero_le _
 ·exact Nat.le_refl _
theorem part_left {S : Hs} (r : Ready S) (hn : S.stage ≠ .idle) : S.part.left < S.left:=by
 refine Nat.lt_of_le_of_lt (change_left _) ?_
 cases e : S.stage with
 | idle=>exact absurd e hn
 | mark =>
  cases eg : S.leastGrey with
  | none=>exact absurd eg (r.mr e)
  | some k =>
   obtain ⟨km,kc⟩:=leastGrey_some eg
   have e0 : S.part0 = S.markThing k:=by unfold Hs.part0; rw [if_pos e,eg]
   have e1 : (S.markThing k).stage = .mark:=(mark_rest S k).2.2.2.2.1.trans e
   have a : S.left = S.nonBlack.length + S.things.length:=by unfold Hs.left; rw [e]
   have b : (S.markThing k).left = (S.markThing k).nonBlack.length + (S.markThing k).things.length:=by unfold Hs.left; rw [e1]
   rw [e0,a,b,(mark_rest S k).2.1]
   refine Nat.add_lt_add_right ?_ _
   unfold Hs.nonBlack
   rw [(mark_rest S k).2.1]
   refine filter_lt (k:=k) (fun j _ hp=>?_) km ?_ ?_
   ·rw [mark_colour] at hp
    by_cases hj : j = k
    ·rw [if_pos hj] at hp; simp at hp
    ·rw [if_neg hj] at hp
     by_cases h2 : (S.th j).colour = .white /\ Vl.thing j ∈ (S.th k).fields
     ·rw [h2.1]; rfl
     ·rw [if_neg h2] at hp; exact hp
   ·rw [mark_colour,if_pos rfl]; rfl
   ·rw [kc]; rfl
 | sweep =>
  cases eg : S.leastFrom S.fg with
  | none=>exact absurd eg (r.sw e)
  | some k =>
   obtain ⟨km,kp⟩:=leastFrom_some eg
   have hw:=words_pos (S.th k)
   have e0 : S.part0 = S.sweepThing k:=by unfold Hs.part0; rw [if_neg (by rw [e]; decide),eg]
   have e1 : (S.sweepThing k).stage = .sweep:=(sweep_stage S k).trans e
   have a : S.left = (S.from' S.fg).length:=by unfold Hs.left; rw [e]
   have b : (S.sweepThing k).left = ((S.sweepThing k).from' (S.sweepThing k).fg).length:=by unfold Hs.left; rw [e1]
   have c : (S.sweepThing k).fg = (S.th k).behind:=by unfold Hs.fg; rw [sweep_finger]; rfl
   rw [e0,a,b,c]
   unfold Hs.from'
   refine Nat.lt_of_le_of_lt ((sweep_sub S k).filter _).length_le ?_
   refine filter_lt (k:=k) (fun j _ hp=>?_) km ?_ ?_
   ·rw [sweep_place] at hp; simp at hp ⊢; unfold Th.behind at hp; omega
   ·rw [sweep_place]; simp; unfold Th.behind; omega
   ·simpa using kp
theorem steps_idle {S : Hs} (m : Nat) (h : S.stage = .idle) : S.steps m = (S,0):=by
 cases m with
 | zero=>rfl
 | succ m=>unfold Hs.steps; rw [if_pos h]
theorem steps_go {S : Hs} (m : Nat) (h : S.stage ≠ .idle) : S.steps (m + 1) = ((S.part.steps m).1,(S.part.steps m).2 + 1):=by
 rw [Hs.steps,if_neg h]
theorem left_pos {S : Hs} (r : Ready S) (h : S.stage ≠ .idle) : 0 < S.left:=Nat.lt_of_le_of_lt (Nat.zero_le _) (part_left r h)
theorem steps_succ_of (m : Nat) : ∀ S : Hs,Ready S -> S.left <= m -> S.steps (m + 1) = S.steps m:=by
 induction m with
 | zero =>
  intro S r h
  have hi : S.stage = .idle:=by
   by_cases hi : S.stage = .idle
   ·exact hi
   ·have:=left_pos r hi; omega
  rw [steps_idle _ hi,steps_idle _ hi]
 | succ m ih =>
  intro S r h
  by_cases hi : S.stage = .idle
  ·rw [steps_idle _ hi,steps_idle _ hi]
  ·have lt:=part_left r hi
   rw [steps_go _ hi,steps_go _ hi,ih S.part (r.part hi) (by omega)]
theorem steps_ge (m : Nat) {S : Hs} (r : Ready S) (h : S.left <= m) : S.steps m = S.steps S.left:=by
 obtain ⟨d,rfl⟩ : ∃ d,m = S.left + d:=⟨m - S.left,by omega⟩
 clear h
 induction d with
 | zero=>rfl
 | succ d ih=>rw [<- Nat.add_assoc,steps_succ_of _ S r (by omega)]; exact ih
theorem finish_idle {S : Hs} (h : S.stage = .idle) : S.finish = (S,0):=steps_idle _ h
theorem finish_go {S : Hs} (r : Ready S) (h : S.stage ≠ .idle) : S.finish = (S.part.finish.1,S.part.finish.2 + 1):=by
 have lt:=part_left r h
 unfold Hs.finish
 obtain ⟨q,hq⟩ : ∃ q,S.left = q + 1:=⟨S.left - 1,by omega⟩
 rw [hq,steps_go _ h,steps_ge q (r.part h) (by omega)]
theorem steps_ind {P : Hs -> Prop} (hp : ∀ S,P S -> Ready S -> S.stage ≠ .idle -> P S.part) (m : Nat) : ∀ {S : Hs},P S -> Ready S -> P (S.steps m).1 /\ Ready (S.steps m).1:=by
 induction m with
 | zero=>intro S p r; exact ⟨p,r⟩
 | succ m ih =>
  intro S p r
  by_cases hi : S.stage = .idle
  ·rw [steps_idle _ hi]; exact ⟨p,r⟩
  ·rw [steps_go _ hi]
   exact ih (hp S p r hi) (r.part hi)
theorem finish_end {S : Hs} (r : Ready S) : S.finish.1.stage = .idle:=by
 have go : ∀ m,∀ {S : Hs},Ready S -> S.left <= m -> (S.steps m).1.stage = .idle:=by
  intro m
  induction m with
  | zero =>
   intro S r h
   by_cases hi : S.stage = .idle
   ·exact hi
   ·have:=left_pos r hi; omega
  | succ m ih =>
   intro S r h
   by_cases hi : S.stage = .idle
   ·rw [steps_idle _ hi]; exact hi
   ·have lt:=part_left r hi
    rw [steps_go _ hi]
    exact ih (r.part hi) (by omega)
 exact go _ r (Nat.le_refl _)
theorem steps_add (a b : Nat) : ∀ S : Hs,S.steps (a + b) = (((S.steps a).1.steps b).1,(S.steps a).2 + ((S.steps a).1.steps b).2):=by
 induction a with
 | zero=>intro S; rw [Nat.zero_add]; show _ = ((S.steps b).1,0 + (S.steps b).2); rw [Nat.zero_add]
 | succ a ih =>
  intro S
  by_cases hi : S.stage = .idle
  ·rw [steps_idle _ hi,steps_idle _ hi]; show _ = ((S.steps b).1,0 + (S.steps b).2); rw [steps_idle _ hi]; rfl
  ·rw [Nat.add_right_comm,steps_go _ hi,steps_go _ hi,ih S.part]
   simp only [Nat.add_right_comm]
theorem Same.steps (m : Nat) : ∀ S : Hs,Same S (S.steps m).1:=by
 induction m with
 | zero=>intro S; exact .refl _
 | succ m ih =>
  intro S
  by_cases hi : S.stage = .idle
  ·rw [steps_idle _ hi]; exact .refl _
  ·rw [steps_go _ hi]; exact (Same.part S).trans (ih _)
theorem steps_sub (m : Nat) : ∀ S : Hs,(S.steps m).1.things.Sublist S.things:=by
 induction m with
 | zero=>intro S; exact List.Sublist.refl _
 | succ m ih =>
  intro S
  by_cases hi : S.stage = .idle
  ·rw [steps_idle _ hi]; exact List.Sublist.refl _
  ·rw [steps_go _ hi]; exact (ih _).trans (part_sub S)
theorem begin_eq (S : Hs) : S.begin = Hs.change { S with stage:=.mark,th:=shTh S.th (S.hands.map (·.2)) }:=by
 unfold Hs.begin
 rw [shadeAll_eq]
theorem Same.begin (S : Hs) : Same S S.begin:=by
 rw [begin_eq]
 exact Same.trans (S1:={ S with stage:=.mark,th:=shTh S.th (S.hands.map (·.2)) }) ⟨rfl,rfl,rfl,fun j=>shTh_fields ..⟩ (.change _)
theorem begin_place (S : Hs) (j : Nat) : (S.begin.th j).place = (S.th j).place:=by
 rw [begin_eq,change_th]; exact shTh_place ..
theorem begin_things (S : Hs) : S.begin.things = S.things:=by rw [begin_eq,change_things]
theorem Ready.begin {S : Hs} (h : S.finger = none) : Ready S.begin:=by
 rw [begin_eq]
 exact ready_change (fun z=>nomatch z) fun _=>h
theorem mem_hands {S : Hs} {k : Nat} : Vl.thing k ∈ S.hands.map (·.2) ↔ ∃ h,(h,Vl.thing k) ∈ S.hands:=by
 constructor
 ·intro h
  obtain ⟨⟨a,b⟩,hm,e⟩:=List.mem_map.mp h
  have e' : b = Vl.thing k:=e
  exact ⟨a,by rw [<- e']; exact hm⟩
 ·rintro ⟨h,e⟩
  exact List.mem_map.mpr ⟨_,e,rfl⟩
theorem Gc.begin {S : Hs} {U : Nat -> Prop} (g : Gc S U) (hi : S.stage = .idle) (low : ∀ k ∈ S.things,0 <= (S.th k).place) : Gc S.begin (Reach S):=by
 rw [begin_eq]
 have wh : ∀ k,(S.th k).colour = .white:=fun k=>by
  by_cases h : (S.th k).colour = .white
  ·exact h
  ·exact (g.idle hi k (g.sub k (g.col k h))).2
 have gr : ∀ k,(shTh S.th (S.hands.map (·.2)) k).colour = if Vl.thing k ∈ S.hands.map (·.2) then .grey else .white:=fun k=>by
  rw [shTh_colour]
  by_cases h : Vl.thing k ∈ S.hands.map (·.2)
  ·rw [if_pos ⟨wh k,h⟩,if_pos h]
  ·rw [if_neg (fun z=>h z.2),if_neg h]; exact wh k
 refine Gc.change ⟨fun h k e=>.hand e,fun j k u e=>?_,fun k u=>g.sub k (g.reach u),fun k e=>?_,(fun z=>nomatch z),fun _ k u=>?_,(fun z=>nomatch z)⟩ fun k hk=>?_
 ·have e' : Vl.thing k ∈ (shTh S.th (S.hands.map (·.2)) j).fields:=e
  rw [shTh_fields] at e'; exact .field u e'
 ·have e' : (shTh S.th (S.hands.map (·.2)) k).colour ≠ .white:=e
  rw [gr] at e'
  by_cases h : Vl.thing k ∈ S.hands.map (·.2)
  ·obtain ⟨a,ha⟩:=mem_hands.mp h; exact .hand ha
  ·rw [if_neg h] at e'; exact absurd rfl e'
 ·right
  show GP (shTh S.th (S.hands.map (·.2))) k
  induction u with
  | @hand h k e=>exact .grey (by rw [gr,if_pos (mem_hands.mpr ⟨h,e⟩)])
  | @field j k _ e ih =>
   by_cases h : Vl.thing k ∈ S.hands.map (·.2)
   ·exact .grey (by rw [gr,if_pos h])
   ·exact .step ih (by rw [shTh_fields]; exact e) (by rw [gr,if_neg h])
 ·show 0 <= (shTh S.th (S.hands.map (·.2)) k).place
  rw [shTh_place]; exact low k hk
end GH
namespace GH
structure Ok (S : Hs) : Prop where
 wf : Wf S
 laid : Laid S
 ready : Ready S
 gc : ∃ U,Gc S U
theorem look_mem {l : List (Int × Vl)} {h : Int} {v : Vl} (e : look l h = some v) : (h,v) ∈ l:=by
 unfold look at e
 cases q : l.find? fun kv=>decide (kv.1 = h) with
 | none=>rw [q] at e; cases e
 | some p =>
  rw [q] at e
  have h1:=List.mem_of_find?_eq_some q
  have h2 : p.1 = h:=by simpa using List.find?_some q
  have h3 : p.2 = v:=Option.some.inj e
  obtain ⟨a,b⟩:=p
  dsimp only at h2 h3
  subst h2 h3
  exact h1
theorem held_mem {S : Hs} {h : Int} {k : Nat} (e : S.held h = .thing k) : (h,Vl.thing k) ∈ S.hands:=by
 unfold Hs.held at e
 cases q : look S.hands h with
 | none=>rw [q] at e; cases e
 | some v=>rw [q] at e; have e' : v = Vl.thing k:=e; subst e'; exact look_mem q
theorem put_mem {l : List (Int × Vl)} {h : Int} {v : Vl} {p : Int × Vl} (e : p ∈ put l h v) : p.2 = v \/ p ∈ l:=by
 unfold put at e
 split at e
 ·obtain ⟨q,hq,rfl⟩:=List.mem_map.mp e
  split
  ·exact .inl rfl
  ·exact .inr hq
 ·rcases List.mem_append.mp e with z | z
  ·exact .inr z
  ·left; simp at z; rw [z]
theorem put_keys {l : List (Int × Vl)} {h : Int} {v : Vl} : (put l h v).map (·.1) = if (l.any fun kv=>decide (kv.1 = h)) = true then l.map (·.1) else l.map (·.1) ++ [h]:=by
 unfold put
 split
 ·rw [List.map_map]
  refine List.map_congr_left fun p _=>?_
  show (if p.1 = h then (p.1,v) else p).1 = p.1
  split <;> rfl
 ·simp
theorem put_nodup {l : List (Int × Vl)} {h : Int} {v : Vl} (n : (l.map (·.1)).Nodup) : ((put l h v).map (·.1)).Nodup:=by
 rw [put_keys]
 split
 ·exact n
 ·rename_i z
  refine List.nodup_append.mpr ⟨n,by simp,fun a ha b hb=>?_⟩
  have hb' : b = h:=by simpa using hb
  subst hb'
  intro e
  subst e
  obtain ⟨p,hp,e⟩:=List.mem_map.mp ha
  exact z (List.any_eq_true.mpr ⟨p,hp,by simpa using e⟩)
theorem put_length (l : List (Int × Vl)) (h : Int) (v : Vl) : (put l h v).length <= l.length + 1:=by
 unfold put; split <;> simp
theorem look_put (l : List (Int × Vl)) (h g : Int) (v : Vl) : look (put l h v) g = if g = h then some v else look l g:=by
 unfold put
 split
 ·rename_i z
  induction l with
  | nil=>simp at z
  | cons p l ih =>
   unfold look
   by_cases hp : p.1 = h
   ·by_cases hg : g = h
    ·subst hg; simp [hp]
    ·have h1 : ¬ p.1 = g:=fun e=>hg (by rw [<- e,hp])
     rw [if_neg hg]
     have key : ∀ m : List (Int × Vl),(List.find? (fun kv=>decide (kv.1 = g)) (m.map fun kv=>if kv.1 = h then (kv.1,v) else kv)) = List.find? (fun kv=>decide (kv.1 = g)) m:=by
      intro m
      induction m with
      | nil=>rfl
      | cons q m ihm =>
       by_cases hq : q.1 = h
       ·have h2 : ¬ q.1 = g:=fun e=>hg (by rw [<- e,hq])
        rw [List.map_cons,if_pos hq,List.find?_cons,List.find?_cons,ihm]
        simp [h2]
       ·rw [List.map_cons,if_neg hq,List.find?_cons,List.find?_cons,ihm]
     rw [key]
   ·by_cases hg : p.1 = g
    ·have h2 : ¬ g = h:=fun e=>hp (by rw [hg,e])
     simp [hp,hg,h2]
    ·have z' : (l.any fun kv=>decide (kv.1 = h)) = true:=by simpa [hp] using z
     have:=ih z'
     unfold look at this
     simp [hp,hg]
     simpa using this
 ·rename_i z
  unfold look
  rw [List.find?_append]
  by_cases hg : g = h
  ·subst hg
   rw [if_pos rfl]
   have : l.find? (fun kv=>decide (kv.1 = g)) = none:=by
    rw [List.find?_eq_none]
    intro p hp q
    exact z (List.any_eq_true.mpr ⟨p,hp,q⟩)
   rw [this]; simp
  ·rw [if_neg hg]
   have h3 : ¬ h = g:=fun e=>hg e.symm
   simp [h3]
theorem held_hold (S : Hs) (h g : Int) (v : Vl) : (S.hold h v).held g = if g = h then v else S.held g:=by
 show (look (put S.hands h v) g).getD _ = _
 rw [look_put]
 split <;> rfl
def GoodV (S : Hs) (v : Vl) : Prop:=∀ k,v = .thing k -> k < S.n
theorem Wf.held {S : Hs} (w : Wf S) (h : Int) : GoodV S (S.held h):=fun k e=>w.hv _ _ (held_mem e)
theorem Gc.held {S : Hs} {U : Nat -> Prop} (g : Gc S U) {h : Int} {k : Nat} (e : S.held h = .thing k) : U k:=g.hand _ _ (held_mem e)
theorem Wf.hold {S : Hs} (w : Wf S) {h : Int} {v : Vl} (hv : GoodV S v) : Wf (S.hold h v):=by
 refine ⟨fun g k e=>?_,w.fv,w.tv,w.nd,w.fl,put_nodup w.hn⟩
 rcases put_mem e with z | z
 ·exact hv k z.symm
 ·exact w.hv g k z
theorem Gc.hold {S : Hs} {U : Nat -> Prop} (g : Gc S U) {h : Int} {v : Vl} (hv : ∀ k,v = .thing k -> U k) : Gc (S.hold h v) U:=by
 refine ⟨fun a k e=>?_,g.clo,g.sub,g.col,g.idle,g.mark,g.sweep⟩
 rcases put_mem e with z | z
 ·exact hv k z.symm
 ·exact g.hand a k z
theorem Laid.hold {S : Hs} (l : Laid S) (h : Int) (v : Vl) : Laid (S.hold h v):=⟨l.rise,l.low,l.high⟩
theorem Ready.hold {S : Hs} (r : Ready S) (h : Int) (v : Vl) : Ready (S.hold h v):=⟨r.mr,r.sw,r.fg,r.no⟩
theorem Ok.hold {S : Hs} (o : Ok S) {h : Int} {v : Vl} (hv : GoodV S v) (hu : ∀ U,Gc S U -> ∀ k,v = .thing k -> U k) : Ok (S.hold h v) :=
 ⟨o.wf.hold hv,o.laid.hold h v,o.ready.hold h v,let ⟨U,g⟩:=o.gc; ⟨U,g.hold (hu U g)⟩⟩
theorem field_inl {S : Hs} {h f : Int} {v : Vl} (e : S.field h f = .inl v) : ∃ k,S.held h = .thing k /\ 0 <= f /\ (S.th k).fields[f.toNat]? = some v:=by
 unfold Hs.field at e
 split at e
 ·cases e
 ·rename_i k hk
  by_cases hf : f < 0
  ·rw [if_pos hf] at e; cases e
  ·rw [if_neg hf] at e
   cases q : (S.th k).fields[f.toNat]? with
   | none=>rw [q] at e; cases e
   | some u=>rw [q] at e; cases e; exact ⟨k,hk,by omega,q⟩
theorem Ok.load {S : Hs} (o : Ok S) (h a f : Int) : Ok (S.load h a f).1:=by
 unfold Hs.load
 cases e : S.field a f with
 | inr t=>exact o
 | inl v =>
  obtain ⟨k,hk,_,hf⟩:=field_inl e
  have hm:=List.mem_of_getElem? hf
  exact o.hold (fun j q=>by subst q; exact o.wf.fv k j (o.wf.hv _ _ (held_mem hk)) hm) fun U g j q=>by subst q; exact g.clo k j (g.held hk) hm
theorem Gc.makeGrey {S : Hs} {U : Nat -> Prop} (g : Gc S U) {v : Vl} (hs : S.stage = .mark) (hv : ∀ k,v = .thing k -> U k) : Gc (S.makeGrey v) U:=by
 rw [makeGrey_eq]
 refine ⟨g.hand,fun j k u e=>?_,g.sub,fun k e=>?_,?_,fun _ k u=>?_,?_⟩
 ·have e' : Vl.thing k ∈ (shTh S.th [v] j).fields:=e
  rw [shTh_fields] at e'; exact g.clo j k u e'
 ·have e' : (shTh S.th [v] k).colour ≠ .white:=e
  rw [shTh_colour] at e'
  by_cases h : (S.th k).colour = .white /\ Vl.thing k ∈ [v]
  ·exact hv k (List.mem_singleton.mp h.2).symm
  ·rw [if_neg h] at e'; exact g.col k e'
 ·show S.stage = .idle -> _; rw [hs]; exact fun z=>nomatch z
 ·show (shTh S.th [v] k).colour = .black \/ GP (shTh S.th [v]) k
  rcases g.mark hs k u with z | z
  ·left; rw [shTh_colour,if_neg (by rw [z]; rintro ⟨q,_⟩; cases q)]; exact z
  ·right
   clear u
   induction z with
   | @grey i e=>exact .grey (by rw [shTh_colour,if_neg (by rw [e]; rintro ⟨q,_⟩; cases q)]; exact e)
   | @step i l h1 h2 h3 ih =>
    by_cases h : Vl.thing l ∈ [v]
    ·exact .grey (by rw [shTh_colour,if_pos ⟨h3,h⟩])
    ·exact .step ih (by rw [shTh_fields]; exact h2) (by rw [shTh_colour,if_neg (fun q=>h q.2)]; exact h3)
 ·show S.stage = .sweep -> _; rw [hs]; exact fun z=>nomatch z
theorem setField_th (S : Hs) (k f : Nat) (v : Vl) (j : Nat) : (S.setField k f v).th j = if j = k then { S.th k with fields:=(S.th k).fields.set f v } else S.th j:=rfl
theorem setField_colour (S : Hs) (k f : Nat) (v : Vl) (j : Nat) : ((S.setField k f v).th j).colour = (S.th j).colour:=by
 rw [setField_th]; split
 ·rename_i h; subst h; rfl
 ·rfl
theorem setField_place (S : Hs) (k f : Nat) (v : Vl) (j : Nat) : ((S.setField k f v).th j).place = (S.th j).place:=by
 rw [setField_th]; split
 ·rename_i h; subst h; rfl
 ·rfl
theorem setField_len (S : Hs) (k f : Nat) (v : Vl) (j : Nat) : ((S.setField k f v).th j).fields.length = (S.th j).fields.length:=by
 rw [setField_th]; split
 ·rename_i h; subst h; simp
 ·rfl
theorem setField_mem {S : Hs} {k f : Nat} {v u : Vl} {j : Nat} (h : u ∈ ((S.setField k f v).th j).fields) : (j = k /\ u = v) \/ u ∈ (S.th j).fields:=by
 rw [setField_th] at h
 split at h
 ·rename_i e; subst e
  rcases List.mem_or_eq_of_mem_set h with z | z
  ·exact .inr z
  ·exact .inl ⟨rfl,z⟩
 ·exact .inr h
theorem Gc.setField {S : Hs} {U : Nat -> Prop} (g : Gc S U) {k f : Nat} {v old : Vl} (hv : ∀ j,v = .thing j -> U j) (ho : (S.th k).fields[f]? = some old) (hm : S.stage = .mark -> ∀ j,old = .thing j -> (S.th j).colour ≠ .white) : Gc (S.setField k f v) U:=by
 refine ⟨g.hand,fun j i u e=>?_,g.sub,fun j e=>?_,fun hs j hj=>?_,fun hs j u=>?_,fun hs j hj=>?_⟩
 ·rcases setField_mem e with ⟨_,z⟩ | z
  ·exact hv i z.symm
  ·exact g.clo j i u z
 ·rw [setField_colour] at e; exact g.col j e
 ·rw [setField_colour]; exact g.idle hs j hj
 ·rw [setField_colour]
  rcases g.mark hs j u with z | z
  ·exact .inl z
  ·right
   clear u
   induction z with
   | @grey i e=>exact .grey (by rw [setField_colour]; exact e)
   | @step i l h1 h2 h3 ih =>
    refine .step ih ?_ (by rw [setField_colour]; exact h3)
    rw [setField_th]
    split
    ·rename_i e
     subst e
     obtain ⟨x,hx⟩:=List.getElem?_of_mem h2
     have hne : x ≠ f:=fun q=>by
      subst q
      rw [ho] at hx
      exact hm hs l (Option.some.inj hx) h3
     refine List.mem_of_getElem? (i:=x) ?_
     rw [List.getElem?_set]
     rw [if_neg (fun q=>hne q.symm)]
     exact hx
    ·exact h2
 ·rw [setField_place,setField_colour]; exact g.sweep hs j hj
theorem Wf.setField {S : Hs} (w : Wf S) {k f : Nat} {v : Vl} (hv : GoodV S v) : Wf (S.setField k f v):=by
 refine ⟨w.hv,fun j i hj e=>?_,w.tv,w.nd,fun j hj=>?_,w.hn⟩
 ·rcases setField_mem e with ⟨_,z⟩ | z
  ·exact hv i z.symm
  ·exact w.fv j i hj z
 ·rw [setField_len]; exact w.fl j hj
theorem setField_behind (S : Hs) (k f : Nat) (v : Vl) (j : Nat) : ((S.setField k f v).th j).behind = (S.th j).behind:=by
 unfold Th.behind Th.words; rw [setField_len,setField_place]
theorem Laid.setField {S : Hs} (l : Laid S) (k f : Nat) (v : Vl) : Laid (S.setField k f v):=by
 refine ⟨l.rise.imp fun {a b} h=>?_,fun j hj=>?_,fun j hj=>?_⟩
 ·rw [setField_behind,setField_place]; exact h
 ·rw [setField_place]; exact l.low j hj
 ·rw [setField_behind]; exact l.high j hj
theorem Ready.setField {S : Hs} (r : Ready S) (k f : Nat) (v : Vl) : Ready (S.setField k f v):=by
 refine ⟨fun h=>?_,fun h=>?_,r.fg,r.no⟩
 ·intro e
  refine r.mr h (leastGrey_none.mpr fun j hj=>?_)
  have:=leastGrey_none.mp e j hj
  rw [setField_colour] at this; exact this
 ·intro e
  refine r.sw h (leastFrom_none.mpr fun j hj=>?_)
  have:=leastFrom_none.mp e j hj
  rw [setField_place] at this; exact this
theorem Ready.makeGrey {S : Hs} (r : Ready S) (hs : S.stage = .mark) (v : Vl) : Ready (S.makeGrey v):=by
 rw [makeGrey_eq]
 refine ⟨fun h e=>?_,fun h=>?_,r.fg,r.no⟩
 ·refine r.mr hs (leastGrey_none.mpr fun j hj=>?_)
  have:=leastGrey_none.mp e j hj
  have t : (shTh S.th [v] j).colour ≠ .grey:=this
  rw [shTh_colour] at t
  intro q
  rw [if_neg (by rw [q]; rintro ⟨z,_⟩; cases z)] at t
  exact t q
 ·have h' : S.stage = .sweep:=h
  rw [hs] at h'; cases h'
theorem Same.makeGrey (S : Hs) (v : Vl) : Same S (S.makeGrey v):=by rw [makeGrey_eq]; exact ⟨rfl,rfl,rfl,fun j=>shTh_fields ..⟩
theorem makeGrey_place (S : Hs) (v : Vl) (j : Nat) : ((S.makeGrey v).th j).place = (S.th j).place:=by rw [makeGrey_eq]; exact shTh_place ..
theorem makeGrey_things (S : Hs) (v : Vl) : (S.makeGrey v).things = S.things:=by rw [makeGrey_eq]
theorem Same.held {S S' : Hs} (s : Same S S') (h : Int) : S'.held h = S.held h:=by unfold Hs.held; rw [s.hands]
theorem store_eq {S : Hs} {h f a : Int} {k : Nat} {v : Vl} (hk : S.held h = .thing k) (e : S.field h f = .inl v) : S.store h f a = ((if S.stage = .mark then S.makeGrey v else S).setField k f.toNat (S.held a),.non):=by
 unfold Hs.store; rw [hk,e]
theorem Ok.store {S : Hs} (o : Ok S) (h f a : Int) : Ok (S.store h f a).1:=by
 cases e : S.field h f with
 | inr t =>
  have : (S.store h f a).1 = S:=by unfold Hs.store; rw [e]; cases S.held h <;> rfl
  rw [this]; exact o
 | inl v =>
  obtain ⟨k,hk,h0,hf⟩:=field_inl e
  rw [store_eq hk e]
  obtain ⟨U,g⟩:=o.gc
  have uv : ∀ j,v = .thing j -> U j:=fun j q=>g.clo k j (g.held hk) (by rw [<- q]; exact List.mem_of_getElem? hf)
  have ua : ∀ j,S.held a = .thing j -> U j:=fun j q=>g.held q
  by_cases hs : S.stage = .mark
  ·rw [if_pos hs]
   have s1:=Same.makeGrey S v
   have o1 : Ok (S.makeGrey v):=⟨o.wf.of s1 (by rw [makeGrey_things]; exact List.Sublist.refl _),o.laid.of s1.size s1.fields (makeGrey_place S v) (by rw [makeGrey_things]; exact List.Sublist.refl _),o.ready.makeGrey hs v,U,g.makeGrey hs uv⟩
   refine ⟨o1.wf.setField ?_,o1.laid.setField ..,o1.ready.setField ..,U,(g.makeGrey hs uv).setField ua (old:=v) ?_ ?_⟩
   ·intro j q; rw [s1.n]; exact o.wf.held a j q
   ·rw [s1.fields]; exact hf
   ·intro _ j q
    subst q
    rw [makeGrey_eq]
    show (shTh S.th [Vl.thing j] j).colour ≠ .white
    rw [shTh_colour]
    by_cases z : (S.th j).colour = .white
    ·rw [if_pos ⟨z,by simp⟩]; decide
    ·rw [if_neg (fun q=>z q.1)]; exact z
  ·rw [if_neg hs]
   exact ⟨o.wf.setField (o.wf.held a),o.laid.setField ..,o.ready.setField ..,U,g.setField ua hf fun z=>absurd z hs⟩
theorem sl_out {j : Nat} : ∀ {l : List Nat} {a : Int} {t : Nat -> Th},j ∉ l -> slideGo a l t j = t j
 | [],_,_,_=>rfl
 | k :: r,a,t,h=>by
  have h1 : j ≠ k:=fun e=>h (by rw [e]; exact List.mem_cons_self ..)
  have h2 : j ∉ r:=fun e=>h (List.mem_cons_of_mem _ e)
  show slideGo _ r _ j = _
  rw [sl_out h2,if_neg h1]
theorem sl_fields (j : Nat) : ∀ (l : List Nat) (a : Int) (t : Nat -> Th),(slideGo a l t j).fields = (t j).fields
 | [],_,_=>rfl
 | k :: r,a,t=>by
  show (slideGo _ r _ j).fields = _
  rw [sl_fields j r]
  split
  ·rename_i e; subst e; rfl
  ·rfl
theorem sl_colour (j : Nat) : ∀ (l : List Nat) (a : Int) (t : Nat -> Th),(slideGo a l t j).colour = (t j).colour
 | [],_,_=>rfl
 | k :: r,a,t=>by
  show (slideGo _ r _ j).colour = _
  rw [sl_colour j r]
  split
  ·rename_i e; subst e; rfl
  ·rfl
theorem sl_head {k : Nat} {r : List Nat} {a : Int} {t : Nat -> Th} (h : k ∉ r) : (slideGo a (k :: r) t k).place = a:=by
 show (slideGo _ r _ k).place = a
 rw [sl_out h,if_pos rfl]
theorem sl_low : ∀ {l : List Nat} {a : Int} {t : Nat -> Th},l.Nodup -> ∀ k ∈ l,a <= (slideGo a l t k).place
 | [],_,_,_,k,h=>nomatch h
 | j :: r,a,t,nd,k,hk=>by
  have hw:=words_pos (t j)
  obtain ⟨n1,n2⟩:=List.nodup_cons.mp nd
  rcases List.mem_cons.mp hk with e | e
  ·subst e; rw [sl_head n1]; exact Int.le_refl _
  ·have:=sl_low (a:=a + (t j).words) (t:=fun i=>if i = j then { t j with place:=a } else t i) n2 k e
   show a <= (slideGo _ r _ k).place
   omega
theorem sl_rise : ∀ {l : List Nat} {a : Int} {t : Nat -> Th},l.Nodup -> l.Pairwise fun j k=>(slideGo a l t j).behind <= (slideGo a l t k).place
 | [],_,_,_=>.nil
 | j :: r,a,t,nd=>by
  obtain ⟨n1,n2⟩:=List.nodup_cons.mp nd
  refine List.pairwise_cons.mpr ⟨fun k hk=>?_,sl_rise (a:=a + (t j).words) (t:=fun i=>if i = j then { t j with place:=a } else t i) n2⟩
  have h1:=sl_low (a:=a + (t j).words) (t:=fun i=>if i = j then { t j with place:=a } else t i) n2 k hk
  unfold Th.behind Th.words
  rw [sl_head n1,sl_fields]
  exact h1
theorem sl_le : ∀ {l : List Nat} {a : Int} {t : Nat -> Th},l.Nodup -> l.Pairwise (fun j k=>(t j).behind <= (t k).place) -> (∀ k ∈ l,a <= (t k).place) -> ∀ k ∈ l,(slideGo a l t k).place <= (t k).place
 | [],_,_,_,_,_,k,h=>nomatch h
 | j :: r,a,t,nd,pw,lo,k,hk=>by
  obtain ⟨n1,n2⟩:=List.nodup_cons.mp nd
  obtain ⟨p1,p2⟩:=List.pairwise_cons.mp pw
  have ne : ∀ i ∈ r,i ≠ j:=fun i hi e=>n1 (by rw [<- e]; exact hi)
  rcases List.mem_cons.mp hk with e | e
  ·subst e; rw [sl_head n1]; exact lo k (List.mem_cons_self ..)
  ·have:=sl_le (a:=a + (t j).words) (t:=fun i=>if i = j then { t j with place:=a } else t i) n2 (by
    refine List.Pairwise.imp_of_mem ?_ p2
    intro x y hx hy h
    dsimp only
    rw [if_neg (ne x hx),if_neg (ne y hy)]; exact h) (fun x hx=>by
    dsimp only
    rw [if_neg (ne x hx)]
    have:=p1 x hx
    have h2:=lo j (List.mem_cons_self ..)
    unfold Th.behind at this
    omega) k e
   show (slideGo _ r _ k).place <= _
   dsimp only at this
   rw [if_neg (ne k e)] at this
   exact this
theorem Same.slide (S : Hs) : Same S S.slide:=⟨rfl,rfl,rfl,fun j=>sl_fields j ..⟩
theorem Ok.slide {S : Hs} (o : Ok S) (hi : S.stage = .idle) : Ok S.slide:=by
 obtain ⟨U,g⟩:=o.gc
 refine ⟨o.wf.of (.slide S) (List.Sublist.refl _),⟨sl_rise o.wf.nd,sl_low o.wf.nd,fun k hk=>?_⟩,?_,U,?_⟩
 ·have h1:=sl_le (a:=0) o.wf.nd o.laid.rise o.laid.low k hk
  have h2:=o.laid.high k hk
  show (slideGo 0 S.things S.th k).behind <= S.size
  unfold Th.behind Th.words at h2 ⊢
  rw [sl_fields]
  omega
 ·refine ⟨?_,?_,?_,o.ready.no⟩ <;> (intro h; have h' : S.stage = _:=h; rw [hi] at h'; cases h')
 ·refine ⟨g.hand,fun j k u e=>?_,g.sub,fun k e=>?_,fun _ k hk=>?_,?_,?_⟩
  ·have e' : Vl.thing k ∈ (slideGo 0 S.things S.th j).fields:=e
   rw [sl_fields] at e'; exact g.clo j k u e'
  ·have e' : (slideGo 0 S.things S.th k).colour ≠ .white:=e
   rw [sl_colour] at e'; exact g.col k e'
  ·show U k /\ (slideGo 0 S.things S.th k).colour = .white
   rw [sl_colour]; exact g.idle hi k hk
  ·intro h; have h' : S.stage = _:=h; rw [hi] at h'; cases h'
  ·intro h; have h' : S.stage = _:=h; rw [hi] at h'; cases h'
theorem Ok.begin {S : Hs} (o : Ok S) (hi : S.stage = .idle) : Ok S.begin:=by
 obtain ⟨U,g⟩:=o.gc
 exact ⟨o.wf.of (.begin S) (by rw [begin_things]; exact List.Sublist.refl _),o.laid.of (Same.begin S).size (Same.begin S).fields (begin_place S) (by rw [begin_things]; exact List.Sublist.refl _),.begin (o.ready.no (by rw [hi]; decide)),_,g.begin hi o.laid.low⟩
theorem Ok.part {S : Hs} (o : Ok S) (hn : S.stage ≠ .idle) : Ok S.part:=by
 obtain ⟨U,g⟩:=o.gc
 exact ⟨o.wf.part,o.laid.part,o.ready.part hn,U,g.part o.laid o.wf hn⟩
theorem Ok.steps {S : Hs} (o : Ok S) (m : Nat) : Ok (S.steps m).1:=(steps_ind (P:=Ok) (fun S o _ hn=>o.part hn) m o o.ready).1
theorem Ok.finish {S : Hs} (o : Ok S) : Ok S.finish.1:=o.steps _
theorem Ok.swept {S : Hs} (o : Ok S) : Ok S.swept:=by
 have h1:=finish_end o.ready
 have o2:=o.finish.begin h1
 exact o2.finish.slide (finish_end o2.ready)
theorem Same.swept (S : Hs) : Same S S.swept:=(Same.steps _ S).trans ((Same.begin _).trans ((Same.steps _ _).trans (Same.slide _)))
theorem freeGo_some {t : Nat -> Th} {size w p : Int} : ∀ (l1 l2 : List Nat) (a : Int),freeGo t size w a l2 = some p -> (l1 ++ l2).Pairwise (fun j k=>(t j).behind <= (t k).place) -> (∀ k ∈ l1,(t k).behind <= a) -> (∀ k ∈ l2,(t k).behind <= size) -> 0 <= a -> (∀ k ∈ l2,0 <= (t k).place) ->
  ∃ m1 m2,l1 ++ l2 = m1 ++ m2 /\ (∀ k ∈ m1,(t k).behind <= p) /\ (∀ k ∈ m2,p + w <= (t k).place) /\ p + w <= size /\ 0 <= p:=by
 intro l1 l2
 induction l2 generalizing l1 with
 | nil =>
  intro a e pw h1 _ h0 _
  unfold freeGo at e
  split at e
  ·cases e
   exact ⟨l1,[],rfl,h1,(fun k hk=>nomatch hk),by omega,h0⟩
  ·cases e
 | cons k r ih =>
  intro a e pw h1 hz h0 hl
  unfold freeGo at e
  split at e
  ·rename_i hw
   cases e
   refine ⟨l1,k :: r,rfl,h1,fun j hj=>?_,?_,h0⟩
   ·rcases List.mem_cons.mp hj with z | z
    ·subst z; omega
    ·have:=(List.pairwise_cons.mp (List.pairwise_append.mp pw).2.1).1 j z
     have hwk:=words_pos (t k)
     unfold Th.behind at this
     omega
   ·have:=hz k (List.mem_cons_self ..)
    have hwk:=words_pos (t k)
    unfold Th.behind at this
    omega
  ·have hwk:=words_pos (t k)
   have e2 : l1 ++ k :: r = (l1 ++ [k]) ++ r:=by simp
   have h0k:=hl k (List.mem_cons_self ..)
   obtain ⟨m1,m2,q1,q2,q3,q4,q5⟩:=ih (l1 ++ [k]) (t k).behind e (by rw [<- e2]; exact pw) (fun j hj=>by
    rcases List.mem_append.mp hj with z | z
    ·have:=(List.pairwise_append.mp pw).2.2 j z k (List.mem_cons_self ..)
     unfold Th.behind at this ⊢
     omega
    ·have z' : j = k:=by simpa using z
     subst z'; exact Int.le_refl _) (fun j hj=>hz j (List.mem_cons_of_mem _ hj)) (by unfold Th.behind; omega) (fun j hj=>hl j (List.mem_cons_of_mem _ hj))
   exact ⟨m1,m2,by rw [e2]; exact q1,q2,q3,q4,q5⟩
theorem free_some {S : Hs} (l : Laid S) {w p : Int} (h : S.free w = some p) (hw : 0 < w) : ∃ m1 m2,S.things = m1 ++ m2 /\ S.things.take (S.before p).length = m1 /\ S.things.drop (S.before p).length = m2 /\ (∀ k ∈ m1,(S.th k).behind <= p) /\ (∀ k ∈ m2,p + w <= (S.th k).place) /\ p + w <= S.size /\ 0 <= p:=by
 obtain ⟨m1,m2,q1,q2,q3,q4,q5⟩:=freeGo_some [] S.things 0 h l.rise (fun k hk=>nomatch hk) l.high (Int.le_refl _) l.low
 rw [List.nil_append] at q1
 have e : (S.before p).length = m1.length:=by
  unfold Hs.before
  rw [q1,List.filter_append]
  have a : m1.filter (fun k=>decide ((S.th k).place < p)) = m1:=by
   rw [List.filter_eq_self]
   intro k hk
   have h1:=q2 k hk
   have h2:=words_pos (S.th k)
   unfold Th.behind at h1
   simp; omega
  have b : m2.filter (fun k=>decide ((S.th k).place < p)) = []:=by
   rw [List.filter_eq_nil_iff]
   intro k hk
   have h1:=q3 k hk
   simp; omega
  rw [a,b,List.append_nil]
 refine ⟨m1,m2,q1,?_,?_,q2,q3,q4,q5⟩
 ·rw [e,q1]; exact List.take_left
 ·rw [e,q1]; exact List.drop_left
theorem made_th (S : Hs) (h : Int) (m : Nat) (p : Int) (j : Nat) : ((S.made h m p).th j) = if j = S.n then ⟨p,List.replicate m (.num 0),S.colourAt p⟩ else S.th j:=rfl
theorem made_mem {S : Hs} {h : Int} {m : Nat} {p : Int} {k : Nat} : k ∈ (S.made h m p).things ↔ k = S.n \/ k ∈ S.things:=by
 show k ∈ S.things.take _ ++ S.n :: S.things.drop _ ↔ _
 constructor
 ·intro z
  rcases List.mem_append.mp z with z | z
  ·exact .inr (List.mem_of_mem_take z)
  ·rcases List.mem_cons.mp z with z | z
   ·exact .inl z
   ·exact .inr (List.mem_of_mem_drop z)
 ·intro z
  rcases z with z | z
  ·exact List.mem_append_right _ (by rw [z]; exact List.mem_cons_self ..)
  ·rw [<- List.take_append_drop (S.before p).length S.things] at z
   rcases List.mem_append.mp z with z | z
   ·exact List.mem_append_left _ z
   ·exact List.mem_append_right _ (List.mem_cons_of_mem _ z)
theorem Ok.made {S : Hs} (o : Ok S) {h : Int} {m : Nat} {p : Int} (hm : m <= 6) (hp : S.free (2 + m) = some p) : Ok (S.made h m p):=by
 obtain ⟨U,g⟩:=o.gc
 have lt : ∀ k,U k -> k < S.n:=fun k u=>o.wf.tv k (g.sub k u)
 have ne : ∀ k,U k -> k ≠ S.n:=fun k u e=>by have:=lt k u; omega
 have tne : ∀ k ∈ S.things,k ≠ S.n:=fun k u e=>by have:=o.wf.tv k u; omega
 obtain ⟨m1,m2,q1,q2,q3,q4,q5,q6,q7⟩:=free_some o.laid hp (by omega)
 have eth : (S.made h m p).things = m1 ++ S.n :: m2:=by
  show S.things.take _ ++ S.n :: S.things.drop _ = _
  rw [show (Th.place ⟨p,List.replicate m (.num 0),S.colourAt p⟩) = p from rfl,q2,q3]
 have bn : ((S.made h m p).th S.n).behind = p + (2 + m):=by
  rw [made_th,if_pos rfl]; unfold Th.behind Th.words; simp
 have pn : ((S.made h m p).th S.n).place = p:=by rw [made_th,if_pos rfl]
 have old : ∀ k ∈ S.things,(S.made h m p).th k = S.th k:=fun k hk=>by rw [made_th,if_neg (tne k hk)]
 have i1 : ∀ k ∈ m1,k ∈ S.things:=fun k hk=>by rw [q1]; exact List.mem_append_left _ hk
 have i2 : ∀ k ∈ m2,k ∈ S.things:=fun k hk=>by rw [q1]; exact List.mem_append_right _ hk
 have hfld : ∀ j k,Vl.thing k ∈ ((S.made h m p).th j).fields -> j ≠ S.n /\ Vl.thing k ∈ (S.th j).fields:=fun j k e=>by
  rw [made_th] at e
  by_cases hj : j = S.n
  ·rw [if_pos hj] at e
   have e' : Vl.thing k ∈ List.replicate m (Vl.num 0):=e
   have:=(List.mem_replicate.mp e').2
   cases this
  ·rw [if_neg hj] at e; exact ⟨hj,e⟩
 have hnd:=o.wf.nd
 have rise:=o.laid.rise
 refine ⟨⟨fun a k e=>?_,fun j k hj e=>?_,fun k hk=>?_,?_,fun k hk=>?_,put_nodup o.wf.hn⟩,⟨?_,fun k hk=>?_,fun k hk=>?_⟩,⟨fun hs e=>?_,fun hs e=>?_,o.ready.fg,o.ready.no⟩,fun k=>k = S.n \/ U k,⟨fun a k e=>?_,fun j k u e=>?_,fun k u=>?_,fun k e=>?_,fun hs k hk=>?_,fun hs k u=>?_,fun hs k hk=>?_⟩⟩
 ·show k < S.n + 1
  rcases put_mem e with z | z
  ·have z' : Vl.thing k = Vl.thing S.n:=z
   cases z'; exact Nat.lt_succ_self _
  ·exact Nat.lt_succ_of_lt (o.wf.hv a k z)
 ·show k < S.n + 1
  obtain ⟨hne,e'⟩:=hfld j k e
  have hj' : j < S.n + 1:=hj
  exact Nat.lt_succ_of_lt (o.wf.fv j k (by omega) e')
 ·show k < S.n + 1
  rcases made_mem.mp hk with z | z
  ·omega
  ·exact Nat.lt_succ_of_lt (o.wf.tv k z)
 ·rw [eth]
  rw [q1] at hnd
  obtain ⟨n1,n2,n3⟩:=List.nodup_append.mp hnd
  refine List.nodup_append.mpr ⟨n1,List.nodup_cons.mpr ⟨fun z=>tne _ (i2 _ z) rfl,n2⟩,fun a ha b hb=>?_⟩
  rcases List.mem_cons.mp hb with z | z
  ·subst z; exact tne a (i1 a ha)
  ·exact n3 a ha b z
 ·rw [made_th]
  split
  ·show (List.replicate m (Vl.num 0)).length <= 6; rw [List.length_replicate]; exact hm
  ·rename_i hne
   have hk' : k < S.n + 1:=hk
   exact o.wf.fl k (by omega)
 ·rw [eth]
  rw [q1] at rise
  obtain ⟨r1,r2,r3⟩:=List.pairwise_append.mp rise
  refine List.pairwise_append.mpr ⟨r1.imp_of_mem ?_,List.pairwise_cons.mpr ⟨fun k hk=>?_,r2.imp_of_mem ?_⟩,fun a ha b hb=>?_⟩
  ·intro a b ha hb hab; rw [old a (i1 a ha),old b (i1 b hb)]; exact hab
  ·rw [bn,old k (i2 k hk)]; exact q5 k hk
  ·intro a b ha hb hab; rw [old a (i2 a ha),old b (i2 b hb)]; exact hab
  ·rcases List.mem_cons.mp hb with z | z
   ·subst z; rw [pn,old a (i1 a ha)]; exact q4 a ha
   ·rw [old a (i1 a ha),old b (i2 b z)]; exact r3 a ha b z
 ·rcases made_mem.mp hk with z | z
  ·subst z; rw [pn]; exact q7
  ·rw [old k z]; exact o.laid.low k z
 ·show _ <= S.size
  rcases made_mem.mp hk with z | z
  ·subst z; rw [bn]; exact q6
  ·rw [old k z]; exact o.laid.high k z
 ·refine o.ready.mr hs (leastGrey_none.mpr fun j hj=>?_)
  have:=leastGrey_none.mp e j (made_mem.mpr (.inr hj))
  rw [old j hj] at this; exact this
 ·refine o.ready.sw hs (leastFrom_none.mpr fun j hj=>?_)
  have:=leastFrom_none.mp e j (made_mem.mpr (.inr hj))
  rw [old j hj] at this; exact this
 ·rcases put_mem e with z | z
  ·left
   have z' : Vl.thing k = Vl.thing S.n:=z
   cases z'; rfl
  ·exact .inr (g.hand a k z)
 ·obtain ⟨hne,e'⟩:=hfld j k e
  rcases u with u | u
  ·exact absurd u hne
  ·exact .inr (g.clo j k u e')
 ·exact made_mem.mpr (u.imp id (g.sub k))
 ·by_cases hk : k = S.n
  ·exact .inl hk
  ·rw [made_th,if_neg hk] at e; exact .inr (g.col k e)
 ·have hs' : S.stage = .idle:=hs
  rcases made_mem.mp hk with z | z
  ·subst z
   refine ⟨.inl rfl,?_⟩
   rw [made_th,if_pos rfl]
   show S.colourAt p = .white
   unfold Hs.colourAt
   rw [if_neg (by rw [hs']; decide),if_neg (by rw [hs']; rintro ⟨z,_⟩; cases z)]
  ·obtain ⟨c1,c2⟩:=g.idle hs' k z
   exact ⟨.inr c1,by rw [old k z]; exact c2⟩
 ·have hs' : S.stage = .mark:=hs
  rcases u with u | u
  ·left
   subst u
   rw [made_th,if_pos rfl]
   show S.colourAt p = .black
   unfold Hs.colourAt
   rw [if_pos hs']
  ·have gpU : ∀ j,GP S.th j -> U j /\ GP (S.made h m p).th j:=by
    intro j z
    induction z with
    | @grey i e =>
     have ui : U i:=g.col i (by rw [e]; decide)
     exact ⟨ui,.grey (by rw [made_th,if_neg (ne i ui)]; exact e)⟩
    | @step i l h1 h2 h3 ih =>
     obtain ⟨ui,gi⟩:=ih
     have ul:=g.clo i l ui h2
     exact ⟨ul,.step gi (by rw [made_th,if_neg (ne i ui)]; exact h2) (by rw [made_th,if_neg (ne l ul)]; exact h3)⟩
   rcases g.mark hs' k u with z | z
   ·left; rw [made_th,if_neg (ne k u)]; exact z
   ·exact .inr (gpU k z).2
 ·have hs' : S.stage = .sweep:=hs
  show (S.fg <= ((S.made h m p).th k).place -> _ -> _) /\ (((S.made h m p).th k).place < S.fg -> _)
  rcases made_mem.mp hk with z | z
  ·subst z
   rw [made_th,if_pos rfl]
   show (S.fg <= p -> _ -> S.colourAt p = .black) /\ (p < S.fg -> _ /\ S.colourAt p = .white)
   unfold Hs.colourAt
   rw [if_neg (by rw [hs']; decide)]
   refine ⟨fun q _=>by rw [if_pos ⟨hs',q⟩],fun q=>⟨.inl rfl,by rw [if_neg (by rintro ⟨_,z⟩; omega)]⟩⟩
  ·rw [old k z]
   obtain ⟨c1,c2⟩:=g.sweep hs' k z
   refine ⟨fun q u=>c1 q ?_,fun q=>⟨.inr (c2 q).1,(c2 q).2⟩⟩
   rcases u with u | u
   ·exact absurd u (tne k z)
   ·exact u
theorem Ok.make {S : Hs} (o : Ok S) (h : Int) {m : Nat} (hm : m <= 6) : Ok (S.make h m).1:=by
 unfold Hs.make
 cases e : S.free (2 + m) with
 | some p=>exact o.made hm e
 | none =>
  dsimp only
  cases e2 : S.swept.free (2 + m) with
  | some p=>exact o.swept.made hm e2
  | none=>exact o.swept
def Act.small : Act -> Prop
 | .make _ m=>m <= 6
 | _=>True
theorem Ok.act {S : Hs} (o : Ok S) (a : Act) (ha : a.small) : Ok (S.act a).1:=by
 cases a with
 | make h m=>exact o.make h ha
 | store h f a=>exact o.store h f a
 | load h a f=>exact o.load h a f
 | copy h a=>exact o.hold (o.wf.held a) fun U g k q=>g.held q
 | number h n=>exact o.hold (fun k q=>nomatch q) fun U g k q=>nomatch q
 | begin =>
  show Ok (if S.stage = .idle then (S.begin,Told.non) else (S,.notNow)).1
  split
  ·rename_i h; exact o.begin h
  ·exact o
 | slide =>
  show Ok (if S.stage = .idle then (S.slide,Told.non) else (S,.notNow)).1
  split
  ·rename_i h; exact o.slide h
  ·exact o
 | finish=>exact o.finish
 | step n=>exact o.steps n
theorem Ok.new (size : Int) : Ok (Hs.new size):=by
 refine ⟨⟨?_,?_,?_,.nil,?_,.nil⟩,⟨.nil,?_,?_⟩,⟨?_,?_,?_,fun _=>rfl⟩,fun _=>False,⟨?_,?_,?_,?_,?_,?_,?_⟩⟩
 ·intro h k e; exact nomatch e
 ·intro j k hj; exact absurd hj (Nat.not_lt_zero _)
 ·intro k e; exact nomatch e
 ·intro k hk; exact absurd hk (Nat.not_lt_zero _)
 ·intro k e; exact nomatch e
 ·intro k e; exact nomatch e
 ·intro h; exact nomatch h
 ·intro h; exact nomatch h
 ·intro h; exact nomatch h
 ·intro h k e; exact nomatch e
 ·intro j k u; exact u.elim
 ·intro k u; exact u.elim
 ·intro k e; exact absurd rfl e
 ·intro h k e; exact nomatch e
 ·intro h; exact nomatch h
 ·intro h; exact nomatch h
end GH
namespace GH
theorem nodup_le : ∀ (n : Nat) (l : List Nat),l.Nodup -> (∀ k ∈ l,k < n) -> l.length <= n
 | 0,l,_,h=>by
  cases l with
  | nil=>exact Nat.le_refl _
  | cons a l=>exact absurd (h a (List.mem_cons_self ..)) (Nat.not_lt_zero _)
 | n + 1,l,nd,h=>by
  have h1 : ∀ k ∈ l.erase n,k < n:=fun k hk=>by
   have a:=h k (List.mem_of_mem_erase hk)
   have b : k ≠ n:=fun e=>by subst e; exact (List.Nodup.not_mem_erase nd) hk
   omega
  have ih:=nodup_le n (l.erase n) (nd.erase n) h1
  have:=List.length_erase (a:=n) (l:=l)
  split at this <;> omega
theorem Wf.len {S : Hs} (w : Wf S) : S.things.length <= S.n:=nodup_le _ _ w.nd w.tv
end GH
namespace GH
open PySem L2
def Col.s : Col -> Str
 | .white=>"white"
 | .grey=>"grey"
 | .black=>"black"
def Stg.s : Stg -> Str
 | .idle=>"idle"
 | .mark=>"mark"
 | .sweep=>"sweep"
theorem Col.s_inj {a b : Col} : V.str a.s = V.str b.s ↔ a = b:=by
 constructor
 ·intro h
  have h' : a.s = b.s:=by injection h
  revert h'
  cases a <;> cases b <;> first | (intro _; rfl) | (intro h'; exact absurd h' (by decide +kernel))
 ·rintro rfl; rfl
theorem Stg.s_inj {a b : Stg} : V.str a.s = V.str b.s ↔ a = b:=by
 constructor
 ·intro h
  have h' : a.s = b.s:=by injection h
  revert h'
  cases a <;> cases b <;> first | (intro _; rfl) | (intro h'; exact absurd h' (by decide +kernel))
 ·rintro rfl; rfl
theorem dec_col (a b : Col) : decide (V.str a.s = V.str b.s) = decide (a = b):=by
 rw [Bool.eq_iff_iff,decide_eq_true_iff,decide_eq_true_iff]; exact Col.s_inj
theorem dec_stg (a b : Stg) : decide (V.str a.s = V.str b.s) = decide (a = b):=by
 rw [Bool.eq_iff_iff,decide_eq_true_iff,decide_eq_true_iff]; exact Stg.s_inj
structure CA where
 T : Addr
 M : Addr
 S : Addr
 H : Addr
 he : Addr
 nt : Addr
 nf : Addr
 nr : Addr
 nn : Addr
structure CA.Ne (c : CA) : Prop where
 TM : c.T ≠ c.M
 TS : c.T ≠ c.S
 MS : c.M ≠ c.S
 HT : c.H ≠ c.T
 HM : c.H ≠ c.M
 HS : c.H ≠ c.S
structure Pl where
 m : Addr
 s : Addr
 d : Addr
 l : Addr
 ad : Nat -> Addr
 fl : Nat -> Addr
def Pl.v (P : Pl) : Vl -> V
 | .num i=>.int i
 | .thing k=>.ref (P.ad k)
def Pl.kv (P : Pl) (p : Int × Vl) : Key × V:=(Sum.inl p.1,P.v p.2)
def fgV : Option Int -> V
 | none=>.non
 | some i=>.int i
def tfl (fl : Addr) (p : V) (c : Col) : List (Str × V):=[("place",p),("fields",.ref fl),("colour",.str c.s)]
def mfl (P : Pl) (z : Int) : List (Str × V):=[("size",.int z),("hands",.ref P.d),("things",.ref P.l)]
def sfl (P : Pl) (g : Stg) (f : Option Int) : List (Str × V):=[("memory",.ref P.m),("stage",.str g.s),("finger_place",fgV f)]
def hfl (P : Pl) : List (Str × V):=[("memory",.ref P.m),("sweeper",.ref P.s)]
section
theorem ne_fp : ¬ ("fields" : Str) = "place":=by decide +kernel
theorem ne_pf : ¬ ("place" : Str) = "fields":=by decide +kernel
theorem ne_pc : ¬ ("place" : Str) = "colour":=by decide +kernel
theorem ne_fc : ¬ ("fields" : Str) = "colour":=by decide +kernel
theorem lk0 {f : Str} {v : V} {r : List (Str × V)} : ((f,v) :: r).lookup f = some v:=by simp [List.lookup]
theorem lk1 {f g : Str} {v : V} {r : List (Str × V)} (h : ¬ g = f) : ((f,v) :: r).lookup g = r.lookup g:=by
 have : (g == f) = false:=by simpa using h
 simp [List.lookup,this]
theorem tfl_place (a p c) : (tfl a p c).lookup ("place" : Str) = some p:=lk0
theorem tfl_fields (a p c) : (tfl a p c).lookup ("fields" : Str) = some (V.ref a):=(lk1 ne_fp).trans lk0
theorem tfl_colour (a p c) : (tfl a p c).lookup ("colour" : Str) = some (.str c.s):=(lk1 (by decide +kernel)).trans ((lk1 (by decide +kernel)).trans lk0)
theorem tfl_no (a p c) {m : Str} (h1 : ¬ m = "place") (h2 : ¬ m = "fields") (h3 : ¬ m = "colour") : (tfl a p c).lookup m = none:=(lk1 h1).trans ((lk1 h2).trans ((lk1 h3).trans rfl))
theorem mfl_size (P z) : (mfl P z).lookup ("size" : Str) = some (.int z):=lk0
theorem mfl_hands (P z) : (mfl P z).lookup ("hands" : Str) = some (.ref P.d):=(lk1 (by decide +kernel)).trans lk0
theorem mfl_things (P z) : (mfl P z).lookup ("things" : Str) = some (.ref P.l):=(lk1 (by decide +kernel)).trans ((lk1 (by decide +kernel)).trans lk0)
theorem mfl_no (P z) {m : Str} (h1 : ¬ m = "size") (h2 : ¬ m = "hands") (h3 : ¬ m = "things") : (mfl P z).lookup m = none:=(lk1 h1).trans ((lk1 h2).trans ((lk1 h3).trans rfl))
theorem sfl_memory (P g f) : (sfl P g f).lookup ("memory" : Str) = some (.ref P.m):=lk0
theorem sfl_stage (P g f) : (sfl P g f).lookup ("stage" : Str) = some (.str g.s):=(lk1 (by decide +kernel)).trans lk0
theorem sfl_finger (P g f) : (sfl P g f).lookup ("finger_place" : Str) = some (fgV f):=(lk1 (by decide +kernel)).trans ((lk1 (by decide +kernel)).trans lk0)
theorem sfl_no (P g f) {m : Str} (h1 : ¬ m = "memory") (h2 : ¬ m = "stage") (h3 : ¬ m = "finger_place") : (sfl P g f).lookup m = none:=(lk1 h1).trans ((lk1 h2).trans ((lk1 h3).trans rfl))
theorem hfl_memory (P) : (hfl P).lookup ("memory" : Str) = some (.ref P.m):=lk0
theorem hfl_sweeper (P) : (hfl P).lookup ("sweeper" : Str) = some (.ref P.s):=(lk1 (by decide +kernel)).trans lk0
theorem hfl_no (P) {m : Str} (h1 : ¬ m = "memory") (h2 : ¬ m = "sweeper") : (hfl P).lookup m = none:=(lk1 h1).trans ((lk1 h2).trans rfl)
theorem pF0 {f : Str} {v x : V} {r : List (Str × V)} : putF f v ((f,x) :: r) = (f,v) :: r:=by simp [putF]
theorem pF1 {f g : Str} {v x : V} {r : List (Str × V)} (h : ¬ g = f) : putF f v ((g,x) :: r) = (g,x) :: putF f v r:=by simp [putF,h]
theorem put_place (a p c q) : putF "place" q (tfl a p c) = tfl a q c:=pF0
theorem put_colour (a p c) (e : Col) : putF "colour" (.str e.s) (tfl a p c) = tfl a p e:=by
 unfold tfl; rw [pF1 (by decide +kernel),pF1 (by decide +kernel),pF0]
theorem put_stage (P g f) (e : Stg) : putF "stage" (.str e.s) (sfl P g f) = sfl P e f:=by
 unfold sfl; rw [pF1 (by decide +kernel),pF0]
theorem put_finger (P g f) (e : Option Int) : putF "finger_place" (fgV e) (sfl P g f) = sfl P g e:=by
 unfold sfl; rw [pF1 (by decide +kernel),pF1 (by decide +kernel),pF0]
end
structure At (c : CA) (H : Hp) (P : Pl) (S : Hs) : Prop where
 ne : c.Ne
 mem : ∃ dx,H P.m = some (.ins c.M dx (mfl P S.size))
 sw : ∃ dx,H P.s = some (.ins c.S dx (sfl P S.stage S.finger))
 hd : H P.d = some (.dK (S.hands.map P.kv))
 ls : H P.l = some (.lst (S.things.map fun k=>.ref (P.ad k)))
 th : ∀ k,k < S.n -> ∃ dx,H (P.ad k) = some (.ins c.T dx (tfl (P.fl k) (.int (S.th k).place) (S.th k).colour))
 fl : ∀ k,k < S.n -> H (P.fl k) = some (.lst ((S.th k).fields.map P.v))
 adi : ∀ j k,j < S.n -> k < S.n -> P.ad j = P.ad k -> j = k
 fli : ∀ j k,j < S.n -> k < S.n -> P.fl j = P.fl k -> j = k
 lf : ∀ k,k < S.n -> P.l ≠ P.fl k
def Own (P : Pl) (n : Nat) (b : Addr) : Prop:=b = P.m \/ b = P.s \/ b = P.d \/ b = P.l \/ ∃ k,k < n /\ (b = P.ad k \/ b = P.fl k)
def Kp (P : Pl) (n : Nat) (H H' : Hp) : Prop:=∀ b o,H b = some o -> ¬ Own P n b -> H' b = some o
theorem Kp.rfl {P : Pl} {n : Nat} {H : Hp} : Kp P n H H:=fun _ _ h _=>h
theorem Kp.trans {P : Pl} {n : Nat} {H H1 H2 : Hp} (a : Kp P n H H1) (b : Kp P n H1 H2) : Kp P n H H2:=fun x o e no=>b x o (a x o e no) no
theorem Kp.upd {P : Pl} {n : Nat} {H : Hp} {b : Addr} {o : HO} (h : Own P n b \/ H b = none) : Kp P n H (upd H b o):=fun x u e no=>by
 rw [upd_ne]; · exact e
 rintro rfl
 rcases h with h | h
 ·exact no h
 ·rw [h] at e; cases e
section
variable {c : CA} {H H' : Hp} {P : Pl} {S : Hs}
theorem At.there (M : At c H P S) {b : Addr} (h : Own P S.n b) : ∃ o,H b = some o:=by
 rcases h with rfl | rfl | rfl | rfl | ⟨k,hk,rfl | rfl⟩
 ·obtain ⟨dx,e⟩:=M.mem; exact ⟨_,e⟩
 ·obtain ⟨dx,e⟩:=M.sw; exact ⟨_,e⟩
 ·exact ⟨_,M.hd⟩
 ·exact ⟨_,M.ls⟩
 ·obtain ⟨dx,e⟩:=M.th k hk; exact ⟨_,e⟩
 ·exact ⟨_,M.fl k hk⟩
theorem At.fresh (M : At c H P S) {b : Addr} (h : H b = none) : ¬ Own P S.n b:=fun z=>by
 obtain ⟨o,e⟩:=M.there z
 rw [h] at e; cases e
theorem At.ms (M : At c H P S) : P.m ≠ P.s:=by
 obtain ⟨a,e⟩:=M.mem; obtain ⟨b,e'⟩:=M.sw
 exact ne_of e e' (by intro z; injection z with z1; exact M.ne.MS z1)
theorem At.md (M : At c H P S) : P.m ≠ P.d:=by
 obtain ⟨a,e⟩:=M.mem; exact ne_of e M.hd (by intro z; cases z)
theorem At.ml (M : At c H P S) : P.m ≠ P.l:=by
 obtain ⟨a,e⟩:=M.mem; exact ne_of e M.ls (by intro z; cases z)
theorem At.sd (M : At c H P S) : P.s ≠ P.d:=by
 obtain ⟨a,e⟩:=M.sw; exact ne_of e M.hd (by intro z; cases z)
theorem At.sl (M : At c H P S) : P.s ≠ P.l:=by
 obtain ⟨a,e⟩:=M.sw; exact ne_of e M.ls (by intro z; cases z)
theorem At.dl (M : At c H P S) : P.d ≠ P.l:=ne_of M.hd M.ls (by intro z; cases z)
theorem At.am (M : At c H P S) {k : Nat} (hk : k < S.n) : P.ad k ≠ P.m:=by
 obtain ⟨a,e⟩:=M.mem; obtain ⟨b,e'⟩:=M.th k hk
 exact ne_of e' e (by intro z; injection z with z1; exact M.ne.TM z1)
theorem At.as (M : At c H P S) {k : Nat} (hk : k < S.n) : P.ad k ≠ P.s:=by
 obtain ⟨a,e⟩:=M.sw; obtain ⟨b,e'⟩:=M.th k hk
 exact ne_of e' e (by intro z; injection z with z1; exact M.ne.TS z1)
theorem At.adn (M : At c H P S) {k : Nat} (hk : k < S.n) : P.ad k ≠ P.d:=by
 obtain ⟨b,e'⟩:=M.th k hk; exact ne_of e' M.hd (by intro z; cases z)
theorem At.al (M : At c H P S) {k : Nat} (hk : k < S.n) : P.ad k ≠ P.l:=by
 obtain ⟨b,e'⟩:=M.th k hk; exact ne_of e' M.ls (by intro z; cases z)
theorem At.af (M : At c H P S) {k j : Nat} (hk : k < S.n) (hj : j < S.n) : P.ad k ≠ P.fl j:=by
 obtain ⟨b,e'⟩:=M.th k hk; exact ne_of e' (M.fl j hj) (by intro z; cases z)
theorem At.fm (M : At c H P S) {k : Nat} (hk : k < S.n) : P.fl k ≠ P.m:=by
 obtain ⟨a,e⟩:=M.mem; exact ne_of (M.fl k hk) e (by intro z; cases z)
theorem At.fs (M : At c H P S) {k : Nat} (hk : k < S.n) : P.fl k ≠ P.s:=by
 obtain ⟨a,e⟩:=M.sw; exact ne_of (M.fl k hk) e (by intro z; cases z)
theorem At.fd (M : At c H P S) {k : Nat} (hk : k < S.n) : P.fl k ≠ P.d:=ne_of (M.fl k hk) M.hd (by intro z; cases z)
theorem At.other (M : At c H P S) (h : ∀ b,Own P S.n b -> H' b = H b) : At c H' P S:=by
 refine ⟨M.ne,?_,?_,?_,?_,fun k hk=>?_,fun k hk=>?_,M.adi,M.fli,M.lf⟩
 ·rw [h _ (.inl rfl)]; exact M.mem
 ·rw [h _ (.inr (.inl rfl))]; exact M.sw
 ·rw [h _ (.inr (.inr (.inl rfl)))]; exact M.hd
 ·rw [h _ (.inr (.inr (.inr (.inl rfl))))]; exact M.ls
 ·rw [h _ (.inr (.inr (.inr (.inr ⟨k,hk,.inl rfl⟩))))]; exact M.th k hk
 ·rw [h _ (.inr (.inr (.inr (.inr ⟨k,hk,.inr rfl⟩))))]; exact M.fl k hk
theorem At.beside (M : At c H P S) {b : Addr} {o : HO} (h : ¬ Own P S.n b) : At c (upd H b o) P S:=M.other fun x hx=>upd_ne fun e=>h (by rw [<- e]; exact hx)
theorem At.new (M : At c H P S) {b : Addr} {o : HO} (h : H b = none) : At c (upd H b o) P S:=M.beside (M.fresh h)
theorem At.stage (M : At c H P S) (g : Stg) (f : Option Int) {dx : Addr} : At c (upd H P.s (.ins c.S dx (sfl P g f))) P { S with stage:=g,finger:=f }:=by
 refine ⟨M.ne,?_,⟨dx,upd_same⟩,?_,?_,fun k hk=>?_,fun k hk=>?_,M.adi,M.fli,M.lf⟩
 ·rw [upd_ne M.ms]; exact M.mem
 ·rw [upd_ne M.sd.symm]; exact M.hd
 ·rw [upd_ne M.sl.symm]; exact M.ls
 ·rw [upd_ne (M.as hk)]; exact M.th k hk
 ·rw [upd_ne (M.fs hk)]; exact M.fl k hk
theorem At.hands (M : At c H P S) (l : List (Int × Vl)) : At c (upd H P.d (.dK (l.map P.kv))) P { S with hands:=l }:=by
 refine ⟨M.ne,?_,?_,upd_same,?_,fun k hk=>?_,fun k hk=>?_,M.adi,M.fli,M.lf⟩
 ·rw [upd_ne M.md]; exact M.mem
 ·rw [upd_ne M.sd]; exact M.sw
 ·rw [upd_ne M.dl.symm]; exact M.ls
 ·rw [upd_ne (M.adn hk)]; exact M.th k hk
 ·rw [upd_ne (M.fd hk)]; exact M.fl k hk
theorem At.things (M : At c H P S) (l : List Nat) : At c (upd H P.l (.lst (l.map fun k=>.ref (P.ad k)))) P { S with things:=l }:=by
 refine ⟨M.ne,?_,?_,?_,upd_same,fun k hk=>?_,fun k hk=>?_,M.adi,M.fli,M.lf⟩
 ·rw [upd_ne M.ml]; exact M.mem
 ·rw [upd_ne M.sl]; exact M.sw
 ·rw [upd_ne M.dl]; exact M.hd
 ·rw [upd_ne (M.al hk)]; exact M.th k hk
 ·rw [upd_ne (M.lf k hk).symm]; exact M.fl k hk
theorem At.thing (M : At c H P S) {k : Nat} (hk : k < S.n) {T : Th} {dx : Addr} (hf : T.fields = (S.th k).fields) : At c (upd H (P.ad k) (.ins c.T dx (tfl (P.fl k) (.int T.place) T.colour))) P (S.setTh k T):=by
 refine ⟨M.ne,?_,?_,?_,?_,fun j hj=>?_,fun j hj=>?_,M.adi,M.fli,M.lf⟩
 ·rw [upd_ne (M.am hk).symm]; exact M.mem
 ·rw [upd_ne (M.as hk).symm]; exact M.sw
 ·rw [upd_ne (M.adn hk).symm]; exact M.hd
 ·rw [upd_ne (M.al hk).symm]; exact M.ls
 ·rw [setTh_th]
  by_cases e : j = k
  ·subst e; rw [if_pos rfl]; exact ⟨dx,upd_same⟩
  ·rw [if_neg e,upd_ne fun z=>e (M.adi j k hj hk z)]; exact M.th j hj
 ·rw [upd_ne (M.af hk hj).symm,setTh_th]
  split
  ·rename_i e; subst e; rw [hf]; exact M.fl j hj
  ·exact M.fl j hj
theorem At.fields (M : At c H P S) {k : Nat} (hk : k < S.n) (l : List Vl) : At c (upd H (P.fl k) (.lst (l.map P.v))) P (S.setTh k { S.th k with fields:=l }):=by
 refine ⟨M.ne,?_,?_,?_,?_,fun j hj=>?_,fun j hj=>?_,M.adi,M.fli,M.lf⟩
 ·rw [upd_ne (M.fm hk).symm]; exact M.mem
 ·rw [upd_ne (M.fs hk).symm]; exact M.sw
 ·rw [upd_ne (M.fd hk).symm]; exact M.hd
 ·rw [upd_ne (M.lf k hk)]; exact M.ls
 ·rw [upd_ne (M.af hj hk),setTh_th]
  split
  ·rename_i e; subst e; exact M.th j hj
  ·exact M.th j hj
 ·rw [setTh_th]
  by_cases e : j = k
  ·subst e; rw [if_pos rfl]; exact upd_same
  ·rw [if_neg e,upd_ne fun z=>e (M.fli j k hj hk z)]; exact M.fl j hj
theorem own_s : Own P S.n P.s:=.inr (.inl rfl)
theorem own_d : Own P S.n P.d:=.inr (.inr (.inl rfl))
theorem own_l : Own P S.n P.l:=.inr (.inr (.inr (.inl rfl)))
theorem own_a {k n : Nat} (hk : k < n) : Own P n (P.ad k):=.inr (.inr (.inr (.inr ⟨k,hk,.inl rfl⟩)))
theorem own_f {k n : Nat} (hk : k < n) : Own P n (P.fl k):=.inr (.inr (.inr (.inr ⟨k,hk,.inr rfl⟩)))
theorem put_kv (l : List (Int × Vl)) (h : Int) (v : Vl) : putK (l.map P.kv) (Sum.inl h : Key) (P.v v) = (put l h v).map P.kv:=by
 unfold putK put
 have e : ((l.map P.kv).any fun kv=>decide (kv.1 = (Sum.inl h : Key))) = l.any fun kv=>decide (kv.1 = h):=by
  rw [List.any_map]
  congr 1
  funext p
  show decide ((Sum.inl p.1 : Key) = Sum.inl h) = decide (p.1 = h)
  rw [Bool.eq_iff_iff,decide_eq_true_iff,decide_eq_true_iff]
  exact ⟨fun z=>Sum.inl.inj z,fun z=>by rw [z]⟩
 rw [e]
 split
 ·rw [List.map_map,List.map_map]
  refine List.map_congr_left fun p _=>?_
  show (if (Sum.inl p.1 : Key) = Sum.inl h then ((Sum.inl p.1 : Key),P.v v) else P.kv p) = P.kv (if p.1 = h then (p.1,v) else p)
  by_cases z : p.1 = h
  ·rw [if_pos z,if_pos (by rw [z])]; rfl
  ·rw [if_neg z,if_neg (fun q=>z (Sum.inl.inj q))]
 ·rw [List.map_append]; rfl
theorem val_kv (l : List (Int × Vl)) (h : Int) : valV (l.map P.kv) (Sum.inl h : Key) = (look l h).map P.v:=by
 unfold valV look
 induction l with
 | nil=>rfl
 | cons p l ih =>
  rw [List.map_cons,List.find?_cons,List.find?_cons]
  have e : decide ((P.kv p).1 = (Sum.inl h : Key)) = decide (p.1 = h):=by
   show decide ((Sum.inl p.1 : Key) = Sum.inl h) = decide (p.1 = h)
   rw [Bool.eq_iff_iff,decide_eq_true_iff,decide_eq_true_iff]
   exact ⟨fun z=>Sum.inl.inj z,fun z=>by rw [z]⟩
  rw [e]
  cases decide (p.1 = h) with
  | true=>rfl
  | false=>exact ih
def Pl.add (P : Pl) (n : Nat) (t f : Addr) : Pl:={ P with ad:=fun k=>if k = n then t else P.ad k,fl:=fun k=>if k = n then f else P.fl k }
theorem add_v {n : Nat} {t f : Addr} {v : Vl} (h : ∀ k,v = .thing k -> k < n) : (P.add n t f).v v = P.v v:=by
 cases v with
 | num i=>rfl
 | thing k =>
  have:=h k rfl
  show V.ref (if k = n then t else P.ad k) = _
  rw [if_neg (by omega)]; rfl
theorem At.lay (M : At c H P S) (w : Wf S) {t f dx : Addr} {p : Int} {m : Nat} {col : Col} (ht : H t = some (.ins c.T dx (tfl f (.int p) col))) (hf : H f = some (.lst (List.replicate m (.int 0)))) (nt : ¬ Own P S.n t) (nf : ¬ Own P S.n f) :
  At c (L2.upd H P.l (.lst ((S.things.take (S.before p).length).map (fun k=>V.ref (P.ad k)) ++ V.ref t :: (S.things.drop (S.before p).length).map fun k=>V.ref (P.ad k)))) (P.add S.n t f) (S.lay ⟨p,List.replicate m (.num 0),col⟩):=by
 have ea : ∀ k,k < S.n -> (P.add S.n t f).ad k = P.ad k:=fun k hk=>by
  show (if k = S.n then t else P.ad k) = _; rw [if_neg (by omega)]
 have ef : ∀ k,k < S.n -> (P.add S.n t f).fl k = P.fl k:=fun k hk=>by
  show (if k = S.n then f else P.fl k) = _; rw [if_neg (by omega)]
 have ean : (P.add S.n t f).ad S.n = t:=by show (if S.n = S.n then t else _) = _; rw [if_pos rfl]
 have efn : (P.add S.n t f).fl S.n = f:=by show (if S.n = S.n then f else _) = _; rw [if_pos rfl]
 have tl : t ≠ P.l:=fun e=>nt (by rw [e]; exact own_l (S:=S))
 have fl' : f ≠ P.l:=fun e=>nf (by rw [e]; exact own_l (S:=S))
 have eT : ∀ k,k < S.n -> (S.lay ⟨p,List.replicate m (.num 0),col⟩).th k = S.th k:=fun k hk=>by
  show (if k = S.n then _ else S.th k) = _; rw [if_neg (by omega)]
 have eTn : (S.lay ⟨p,List.replicate m (.num 0),col⟩).th S.n = ⟨p,List.replicate m (.num 0),col⟩:=by
  show (if S.n = S.n then _ else S.th S.n) = _; rw [if_pos rfl]
 have ev : ∀ l : List Vl,(∀ k,Vl.thing k ∈ l -> k < S.n) -> l.map (P.add S.n t f).v = l.map P.v:=fun l hl =>
  List.map_congr_left fun v hv=>add_v fun k e=>hl k (by rw [<- e]; exact hv)
 refine ⟨M.ne,?_,?_,?_,?_,fun k hk=>?_,fun k hk=>?_,fun j k hj hk e=>?_,fun j k hj hk e=>?_,fun k hk=>?_⟩
 ·show ∃ dx,L2.upd H P.l _ P.m = _; rw [upd_ne M.ml]; exact M.mem
 ·show ∃ dx,L2.upd H P.l _ P.s = _; rw [upd_ne M.sl]; exact M.sw
 ·show L2.upd H P.l _ P.d = _
  rw [upd_ne M.dl,M.hd]
  refine congrArg (fun z=>some (HO.dK z)) (List.map_congr_left fun q hq=>?_)
  show (_,P.v q.2) = (_,(P.add S.n t f).v q.2)
  rw [add_v fun k e=>w.hv q.1 k (by rw [<- e]; exact hq)]
 ·show L2.upd H P.l _ P.l = _
  rw [upd_same]
  refine congrArg (fun z=>some (HO.lst z)) ?_
  show _ = (S.things.take _ ++ S.n :: S.things.drop _).map _
  rw [List.map_append,List.map_cons,ean]
  have g : ∀ l : List Nat,(∀ k ∈ l,k < S.n) -> l.map (fun k=>V.ref ((P.add S.n t f).ad k)) = l.map fun k=>V.ref (P.ad k):=fun l hl =>
   List.map_congr_left fun k hk=>by rw [ea k (hl k hk)]
  rw [g _ fun k hk=>w.tv k (List.mem_of_mem_take hk),g _ fun k hk=>w.tv k (List.mem_of_mem_drop hk)]
 ·by_cases e : k = S.n
  ·subst e; rw [ean,efn,eTn,upd_ne tl]; exact ⟨dx,ht⟩
  ·have hk' : k < S.n:=by have : k < S.n + 1:=hk; omega
   rw [ea k hk',ef k hk',eT k hk',upd_ne (M.al hk')]; exact M.th k hk'
 ·by_cases e : k = S.n
  ·subst e; rw [efn,eTn,upd_ne fl',hf]; simp [Pl.v]
  ·have hk' : k < S.n:=by have : k < S.n + 1:=hk; omega
   rw [ef k hk',eT k hk',upd_ne (M.lf k hk').symm,ev _ fun j hj=>w.fv k j hk' hj]; exact M.fl k hk'
 ·have hj' : j < S.n + 1:=hj
  have hk' : k < S.n + 1:=hk
  by_cases ej : j = S.n <;> by_cases ek : k = S.n
  ·omega
  ·subst ej; rw [ean,ea k (by omega)] at e; exact absurd (own_a (P:=P) (show k < S.n by omega)) (by rw [<- e]; exact nt)
  ·subst ek; rw [ean,ea j (by omega)] at e; exact absurd (own_a (P:=P) (show j < S.n by omega)) (by rw [e]; exact nt)
  ·rw [ea j (by omega),ea k (by omega)] at e; exact M.adi j k (by omega) (by omega) e
 ·have hj' : j < S.n + 1:=hj
  have hk' : k < S.n + 1:=hk
  by_cases ej : j = S.n <;> by_cases ek : k = S.n
  ·omega
  ·subst ej; rw [efn,ef k (by omega)] at e; exact absurd (own_f (P:=P) (show k < S.n by omega)) (by rw [<- e]; exact nf)
  ·subst ek; rw [efn,ef j (by omega)] at e; exact absurd (own_f (P:=P) (show j < S.n by omega)) (by rw [e]; exact nf)
  ·rw [ef j (by omega),ef k (by omega)] at e; exact M.fli j k (by omega) (by omega) e
 ·have hk' : k < S.n + 1:=hk
  show P.l ≠ _
  by_cases ek : k = S.n
  ·subst ek; rw [efn]; exact fl'.symm
  ·rw [ef k (by omega)]; exact M.lf k (by omega)
theorem own_add {n : Nat} {t f b : Addr} (h : Own (P.add n t f) (n + 1) b) : b = t \/ b = f \/ Own P n b:=by
 rcases h with h | h | h | h | ⟨k,hk,h⟩
 ·exact .inr (.inr (.inl h))
 ·exact .inr (.inr (.inr (.inl h)))
 ·exact .inr (.inr (.inr (.inr (.inl h))))
 ·exact .inr (.inr (.inr (.inr (.inr (.inl h)))))
 ·by_cases e : k = n
  ·subst e
   rcases h with h | h
   ·left; rw [h]; show (if k = k then t else _) = t; rw [if_pos rfl]
   ·right; left; rw [h]; show (if k = k then f else _) = f; rw [if_pos rfl]
  ·right; right; right; right; right; right
   refine ⟨k,by omega,?_⟩
   rcases h with h | h
   ·left; rw [h]; show (if k = n then t else _) = _; rw [if_neg e]
   ·right; rw [h]; show (if k = n then f else _) = _; rw [if_neg e]
end
end GH
namespace L2
open PySem PySem.Spec PyProof.Rows PyProof.Rows.LSm
theorem pass0E {P : Program} {w : World} {X : Cx} : Passes (CXE P w) X E0:=fun _ _ _ _ _ _ _ h=>by
 obtain ⟨a,C,a0,B,H',rfl,hos,bare,fl,aw,hok,hE⟩:=h
 exact hE.elim
section
variable {prog : Program} {w : World} {A : Around} {E : Value -> Shared -> Prop} {h : Heap} {g : Array GenState} {d : Drawn} {t : Nat} {os : OsState}
variable {C D x y : Addr} {bm bm' : List Value} {B B' : String}
end
section
variable {X : Cx}
end
end L2
namespace L2
open PySem PySem.Spec PyProof.Rows PyProof.Rows.LSm
section
variable {X : Cx}
end
end L2
namespace L2
open PySem PySem.Spec PyProof.Rows PyProof.Rows.LSm
section
variable {X : Cx} {pins : List (Addr × Obj)} {σ : List (Option V)} {H H' : Hp} {s : Shared} {h' : Heap}
end
section
variable {X : Cx}
end
end L2
namespace L2
open PySem PySem.Spec PyProof.Rows PyProof.Rows.LSm
section
variable {X : Cx}
end
end L2
namespace L2
open PySem PySem.Spec PyProof.Rows PyProof.Rows.LSm
section
variable {X : Cx} {K : PySem.W.Frag}
end
end L2
namespace L2
open PySem PySem.Spec PyProof.Rows PyProof.Rows.LSm
section
variable {prog : Program} {w : World} {A : Around} {E : Value -> Shared -> Prop} {s : Shared} {K : PySem.W.Frag} {x D : Addr} {ox : Obj}
end
end L2
namespace L2
open PySem PySem.Spec PyProof.Rows PyProof.Rows.LSm
section
variable {X : Cx} {pins : List (Addr × Obj)} {σ : St} {H : Hp} {s : Shared}
end
section
variable {X : Cx} {k : Nat} {f C : Addr} {fd : FuncData} {ps : List Str} {sp : Sp} {x m : Str} {p pos apos : Pos} {e o : Expr} {es : List Expr} {ta : TE} {t : TA} {dvs : List V} {ds : List Value}
end
end L2
namespace L2
open PySem PySem.Spec PyProof.Rows PyProof.Rows.LSm
section
variable {X : Cx} {x n : Str}
end
end L2
namespace L2
open PySem PySem.Spec PyProof.Rows PyProof.Rows.LSm
section
variable {M : Model} {A : Around} {E : Value -> Shared -> Prop}
end
end L2
namespace L2
open PySem PySem.Spec PyProof.Rows PyProof.Rows.LSm
section
variable {prog : Program} {w : World} {A : Around} {E : Value -> Shared -> Prop} {s : Shared}
end
section
variable {prog : Program} {w : World} {A : Around} {R : Result -> Shared -> Prop} {I : Addr} {fp wr : List Addr} {G : Array GenState -> Array GenState -> Prop} {n : Nat} {P : Nat -> Value -> Prop} {St : Nat -> Shared -> Prop}
end
section
variable {prog : Program} {w : World} {A : Around} {E : Value -> Shared -> Prop} {s : Shared}
set_option maxHeartbeats 3200000 in
end
end L2
namespace L2
open PySem PySem.Spec PyProof.Rows PyProof.Rows.LSm
section
variable {prog : Program} {w : World} {A : Around} {E : Value -> Shared -> Prop} {s : Shared}
end
end L2
namespace L2
open PySem PySem.Spec PyProof.Rows PyProof.Rows.LSm
section
variable {prog : Program} {w : World} {A : Around} {E : Value -> Shared -> Prop} {s : Shared}
end
section
variable {prog : Program} {w : World} {A : Around} {E : Value -> Shared -> Prop} {s : Shared}
end
end L2
namespace L2
open PySem PySem.Spec PyProof.Rows PyProof.Rows.LSm
section
variable {prog : Program} {w : World} {A : Around} {E : Value -> Shared -> Prop} {s : Shared}
end
end L2
namespace L2
open PySem PySem.Spec PyProof.Rows PyProof.Rows.LSm
section
variable {X : Cx} {pins : List (Addr × Obj)} {σ : St} {H : Hp} {s : Shared}
end
end L2
namespace L2
open PySem PySem.Spec PyProof.Rows PyProof.Rows.LSm
theorem sub_dict_self' : isSubtype (.type "dict") (.type "dict") = pure true:=by rw [isSubtype_type]; kernel_rfl
section
variable {prog : Program} {w : World} {A : Around} {E : Value -> Shared -> Prop} {s : Shared}
theorem hint_dict {a : Addr} {Q : Bool -> Shared -> Prop} (hT : s.TypeIs (.ref a) "dict") (h : Q false s) : wpAny (model prog w) A (Builtin.List.listLengthHint (.ref a)) Q E s:=by
 unfold Builtin.List.listLengthHint
 refine wpAny_bind (wpAny_specialOf hT F.slot_dict_len.lookup ?_)
 dsimp only
 have hs : splitId "dict.__len__" = some ("dict","__len__"):=by decide +kernel
 rw [hs]
 dsimp only
 refine wpAny_bind (wpAny_isInstance hT sub_dict_self' ?_)
 rw [if_neg (by simp),if_pos (by decide +kernel)]
 refine wpAny_bind (wpAny_typeOf hT ?_)
 exact wpAny_pure h
theorem collect_keys (hh : A.handled = none) {a : Addr} {kvs : List (Key × Value)} {ep : Nat} {Q : List Value -> Shared -> Prop} (hm : s.heap.DictAt (mixKind prog w) a kvs ep) (hns : (a == sysModules) = false) (hz : kvs.length <= sizeLine)
  (hQ : ∀ (ys : List Value) (h' : Heap) (tk : Nat),ys.length = kvs.length -> (∀ (i : Nat) k v,kvs[i]? = some (k,v) -> ∃ y,ys[i]? = some y /\ (mixKind prog w).is k y = true) -> (∀ b ob,s.heap.get? b = some ob -> h'.get? b = some ob) -> Q ys { s with heap:=h',toks:=tk }) : wpAny (model prog w) A (collect (.ref a)) Q E s:=by
 have hT : s.TypeIs (.ref a) "dict":=hm.dictOf.typeIs
 obtain ⟨o,es,ho,hrest⟩:=id hm
 have haN : @LT.lt Nat _ a s.heap.objs.size:=Heap.lt_size ho
 have hSI : s.heap.objs.size ≠ a:=Nat.ne_of_gt haN
 unfold collect
 refine wpAny_bind (wpAny_runValue (codeAny_builtin F.entry_proto_collect ?_))
 rw [Around.under_plainId F.plain_proto_collect _]
 show wpAny _ A.in1 (newList [] >>= fun l=>again (.builtin "list.__iadd__" ⟨[l,.ref a],[]⟩)) _ _ s
 refine wpAny_bind (wpAny_newObj_type ?_)
 refine wpAny_pure ⟨plainId_quiet F.plain_list_iadd _,codeAny_builtin F.entry_list_iadd ?_⟩
 rw [Around.under_plainId F.plain_list_iadd _]
 show wpAny _ A.in1 (Builtin.List.listExtendWith (.ref s.heap.objs.size) (.ref a) (.ref s.heap.objs.size)) _ _ _
 unfold Builtin.List.listExtendWith
 have ho1 : (s.heap.push { cls:=.type "list",data:=.seq ([] : List Value).toArray }).get? a = some o:=Heap.get?_push_of_some _ ho
 have hm1 : (s.heap.push { cls:=.type "list",data:=.seq ([] : List Value).toArray }).DictAt (mixKind prog w) a kvs ep:=⟨o,es,ho1,hrest⟩
 have hT1 : Shared.TypeIs { s with heap:=s.heap.push { cls:=.type "list",data:=.seq ([] : List Value).toArray } } (.ref a) "dict":=hm1.dictOf.typeIs
 refine wpAny_bind (wpAny_typeOf hT1 ?_)
 have h1 : Builtin.List.listSameRef (.ref s.heap.objs.size) (.ref a) = false:=by simp [Builtin.List.listSameRef,hSI]
 have h2 : (Value.type "dict" == Value.type "list") = false:=by decide
 have h3 : (Value.type "dict" == Value.type "tuple") = false:=by decide
 simp only [h1,h2,h3,Bool.or_false,Bool.false_eq_true,if_false]
 refine wpAny_bind (wpAny_pyIter_dict hns hm1 ?_)
 have hpushN : (s.heap.push { cls:=.type "list",data:=.seq ([] : List Value).toArray }).objs.size = s.heap.objs.size + 1:=by rw [Heap.size_push]
 obtain ⟨I,hI⟩ : ∃ I,(s.heap.push { cls:=.type "list",data:=.seq ([] : List Value).toArray }).objs.size = I:=⟨_,rfl⟩
 have hIN : s.heap.objs.size < I:=by rw [<- hI,hpushN]; exact Nat.lt_succ_self _
 have eI : ((s.heap.push { cls:=.type "list",data:=.seq ([] : List Value).toArray }).push { cls:=.type "dict_keyiterator",data:=.fields #[.ref a,.int 0 0,.int kvs.length 0,.int ep 0] }).IsKeyIter I a 0 kvs.length ep:=by
  rw [<- hI]
  exact ⟨_,Heap.get?_push_size _ rfl,rfl,rfl⟩
 have keep : ∀ b ob,(s.heap.push { cls:=.type "list",data:=.seq ([] : List Value).toArray }).get? b = some ob -> ((s.heap.push { cls:=.type "list",data:=.seq ([] : List Value).toArray }).push { cls:=.type "dict_keyiterator",data:=.fields #[.ref a,.int 0 0,.int kvs.length 0,.int ep 0] }).get? b = some ob:=fun b ob e=>Heap.get?_push_of_some _ e
 have hIv : (Value.ref (s.heap.push { cls:=.type "list",data:=.seq ([] : List Value).toArray }).objs.size) = .ref I:=by rw [hI]
 show wpAny _ _ _ _ _ { s with heap:=(s.heap.push { cls:=.type "list",data:=.seq ([] : List Value).toArray }).push { cls:=.type "dict_keyiterator",data:=.fields #[.ref a,.int 0 0,.int kvs.length 0,.int ep 0] } }
 rw [hIv]
 have hL0 : (s.heap.push { cls:=.type "list",data:=.seq ([] : List Value).toArray }).get? s.heap.objs.size = some { cls:=.type "list",data:=.seq ([] : List Value).toArray }:=Heap.get?_push_size _ rfl
 generalize ((s.heap.push { cls:=.type "list",data:=.seq ([] : List Value).toArray }).push { cls:=.type "dict_keyiterator",data:=.fields #[.ref a,.int 0 0,.int kvs.length 0,.int ep 0] }) = h' at eI keep ⊢
 have oa : h'.DictAt (mixKind prog w) a kvs ep:=⟨o,es,keep _ _ ho1,hrest⟩
 have hS₁ : h'.get? s.heap.objs.size = some { cls:=.type "list",data:=.seq ([] : List Value).toArray }:=keep _ _ hL0
 refine wpAny_bind (wpAny_holding (hint_dict (s:={ s with heap:=h' }) oa.dictOf.typeIs ?_))
 split
 ·refine wpAny_bind (wpAny_rule ?_)
  refine wpAny_bind ?_
  show wpAny _ A.in1 (updateSeq s.heap.objs.size (·.push .none) >>= fun _=>updateSeq s.heap.objs.size (·.pop)) _ _ _
  refine wpAny_bind (wpAny_updateSeq hS₁ rfl ?_)
  have hS₂:=Heap.get?_update_self (Obj.mapSeq (·.push Value.none)) hS₁ rfl
  refine wpAny_updateSeq hS₂ rfl ?_
  have hS₃:=Heap.get?_update_self (Obj.mapSeq (·.pop)) hS₂ rfl
  have oth : ∀ b ob,b ≠ s.heap.objs.size -> h'.get? b = some ob -> ((h'.update s.heap.objs.size (Obj.mapSeq (·.push Value.none))).update s.heap.objs.size (Obj.mapSeq (·.pop))).get? b = some ob :=
   fun b ob hb e=>(Heap.get?_update_other _ _ (Ne.symm hb)).trans ((Heap.get?_update_other _ _ (Ne.symm hb)).trans e)
  have hne : a ≠ I:=Nat.ne_of_lt (Nat.lt_trans haN hIN)
  have hSf : s.heap.objs.size ∉ [I,a]:=by
   intro hm
   rcases List.mem_cons.mp hm with q | hm
   ·exact Nat.ne_of_lt hIN q
   ·exact hSI (List.mem_singleton.mp hm)
  have W:=(Walks.dictKeys (prog:=prog) (w:=w) (knd:=mixKind prog w) (A:=A.in1) (by simpa using hh) I a hne kvs ep).toS
  refine wpAny_pure ⟨plainId_quiet F.plain_extend_loop _,codeAny_extend_loopS W hz _ hSf _ kvs.length 0 _ _ _ rfl (Nat.zero_le _)
   ⟨eI.at fun o e=>oth I o (Nat.ne_of_gt hIN) e,oa.at' fun o e=>oth a o (Ne.symm hSI) e⟩ hS₃ (ItemsOf.nil _) fun s' acc' c' hm hS' hacc=>?_⟩
  show wpAny _ A (load s.heap.objs.size >>= _) _ _ s'
  refine wpAny_bind (wpAny_load hS' ?_)
  obtain ⟨h2',g',d',tk',os'⟩:=s'
  have eg : g' = s.gens:=hm.gens
  have ed : d' = s.drawn:=hm.drawn
  have eo : os' = s.os:=hm.os
  subst eg ed eo
  refine wpAny_pure ?_
  show Q acc'.toList _
  refine hQ acc'.toList h2' tk' (by rw [Array.length_toList]; exact hacc.1) (fun i k v e=>?_) fun b ob e=>?_
  ·have hlt : i < acc'.size:=by rw [hacc.1]; exact (List.getElem?_eq_some_iff.mp e).1
   obtain ⟨k2,x2,e2,hk2⟩:=hacc.2 i acc'[i] (Array.getElem?_eq_getElem hlt)
   rw [e] at e2
   cases e2
   exact ⟨acc'[i],by rw [Array.getElem?_toList]; exact Array.getElem?_eq_getElem hlt,hk2⟩
  ·have hb : @LT.lt Nat _ b s.heap.objs.size:=Heap.lt_size e
   refine hm.heap b ob ?_ (oth b ob (Nat.ne_of_lt hb) (keep b ob (Heap.get?_push_of_some _ e)))
   intro z2
   rcases List.mem_cons.mp z2 with q | q
   ·exact Nat.ne_of_lt hb q
   ·exact Nat.ne_of_lt (Nat.lt_trans hb hIN) (List.mem_singleton.mp q)
 ·rename_i hn
  exact absurd (by decide +kernel) hn
end
theorem ints_at : ∀ {ys : List Value} {ns : List Int},ys.length = ns.length -> (∀ (i : Nat) n,ns[i]? = some n -> ∃ t,ys[i]? = some (.int n t)) -> IntsAre ys ns
 | [],[],_,_=>.nil
 | y :: ys,n :: ns,e,h=>by
  obtain ⟨t,e0⟩:=h 0 n rfl
  have e1 : y = .int n t:=by simpa using e0
  subst e1
  exact .cons n t (ints_at (by simpa using e) fun i m hm=>by simpa using h (i + 1) m (by simpa using hm))
theorem key_rel {P : Program} {w : World} {k : Key} {u : Value} (h : (mixKind P w).is k u = true) : RelV (kV k) u:=by
 cases k with
 | inl n =>
  obtain ⟨t,e⟩:=Value.isInt_shape (show (intKind P w).is n u = true from h)
  exact ⟨t,e⟩
 | inr x =>
  have h' : (PySem.strKind P w).is x u = true:=h
  cases u <;> simp [PySem.strKind,Value.isStrOf] at h'
  subst h'
  exact ⟨_,rfl⟩
theorem turn_keys {P : Program} {w : World} {K : PySem.W.Frag} {tg : Expr} (d it : Addr) (o : Obj) (kvs : List (Key × V)) (us : List (Key × Value)) (ep : Nat) (hr : KV kvs us) (hd : ∀ h : Heap,h.get? d = some o -> h.DictAt (mixKind P w) d us ep) :
  Turn P w K tg (Itv d o (kvs.map fun p=>kV p.1)) [it] it (fun i h=>h.IsKeyIter it d i us.length ep) where
 mem:=by simp
 obj:=fun i h st b hb=>by
  have e : b = it:=by simpa using hb
  subst e
  obtain ⟨ob,e,c,dd⟩:=st
  exact ⟨ob,e,fun v z=>by rw [dd] at z; cases z⟩
 keep:=fun i h h' st k=>st.at fun o e=>k it (by simp) o e
 item:=by
  intro X hP hw hK hc i pins s σ H E I hf st hg
  subst hP hw hK
  obtain ⟨⟨u,hz⟩,hi⟩:=hg
  obtain ⟨f0,f1,f2,f3,f4,f5⟩:=hf it (by simp)
  have hl : kvs.length = us.length:=Paired.length hr
  have hi' : i < us.length:=by rw [<- hl]; simpa using hi
  obtain ⟨eo,_⟩:=I.hok d _ hz
  obtain ⟨⟨k,x⟩,hx⟩ : ∃ p,us[i]? = some p:=⟨us[i],by simp [hi']⟩
  refine wpAny_pyNext_dict_item st (hd _ eo) hx fun key h' hkey st' sb=>?_
  have I1 : Inv X pins σ H { s with heap:=h' }:=I.turned (t':=s.toks) (fun b o hb e=>(sb.2 b hb).trans e) f0 f1 f3 f4 f5
  obtain ⟨ob,e,c,dd⟩:=id st'
  have hv : (kvs.map fun p=>kV p.1)[i]? = some (kV k):=by
   have aux : ∀ {l : List (Key × V)} {m : List (Key × Value)} (j : Nat),KV l m -> m[j]? = some (k,x) -> (l.map fun p=>kV p.1)[j]? = some (kV k):=by
    intro l m j r
    induction r generalizing j with
    | nil=>intro q; simp at q
    | cons r1 r2 ih =>
     intro q
     cases j with
     | zero=>simp at q; subst q; simp [r1.1]
     | succ j=>simpa using ih j (by simpa using q)
   exact aux i hr hx
  exact ⟨key,rfl,go_of (s:={ s with heap:=h' }) e c dd (by decide) ⟨kV k,H,I1,key_rel hkey,⟨rfl,hv⟩,st',fun b hb=>(hf b hb).1⟩⟩
 done:=by
  intro X hP hw hK hc i pins s σ H E I hf st hg
  subst hP hw hK
  obtain ⟨⟨u,hz⟩,hi⟩:=hg
  obtain ⟨f0,f1,f2,f3,f4,f5⟩:=hf it (by simp)
  have hl : kvs.length = us.length:=Paired.length hr
  obtain ⟨eo,_⟩:=I.hok d _ hz
  exact wpAny_pyNext_dict_end (I.ok.hd hc) st (hd _ eo) (by rw [List.length_map,hl] at hi; simpa using hi) fun h' eb=>⟨rfl,I.turned (t':=s.toks) (fun b o hb e=>eb b o hb e) f0 f1 f3 f4 f5⟩
 self:=fun _ _ _ _ _ st h=>wpAny_pyIter_keyiter st h
section
variable {X : Cx} {tg : Expr}
def iKeys (td : TE) : TI:=fun σ H R=>td σ H fun x H1=>∃ d kvs,x = .ref d /\ H1 d = some (.dK kvs) /\ ∀ o,R (Itv d o (kvs.map fun p=>kV p.1)) (upd H1 d (.frz o (.dK kvs)))
theorem pi_keys {e : Expr} {td : TE} (he : PE X e td) : PI X tg e (iKeys td):=by
 intro pins s σ H R I h
 refine thn (he pins s σ H _ I h) fun v s1 ⟨x,H1,I1,r1,q1⟩=>?_
 obtain ⟨d,kvs,e,hd,q⟩:=q1
 subst e
 cases r1
 obtain ⟨hz,hS,us,hr,dd⟩:=I1.hok d _ hd
 obtain ⟨o,es,ep,eo,ex,ed,eks,eps,end'⟩:=id dd
 have da : ∀ h : Heap,h.get? d = some o -> h.DictAt (mixKind X.prog X.w) d us ep:=fun h q=>⟨o,es,q,ex,ed,eks,eps,end'⟩
 refine wpAny_pyIter_dict (knd:=mixKind X.prog X.w) (kvs:=us) (ep:=ep) hS (da _ eo) ?_
 have I3:=Inv.freeze I1 hd eo
 have I4:=I3.kept (h':=s1.heap.push { cls:=.type "dict_keyiterator",data:=.fields #[.ref d,.int 0 0,.int us.length 0,.int ep 0] }) (t':=s1.toks) fun b o e=>Heap.get?_push_of_some _ e
 refine ⟨_,[_],_,_,_,rfl,I4,turn_keys d _ o kvs us ep hr da,⟨_,Heap.get?_push_size _ rfl,rfl,rfl⟩,fun b hb=>?_,q o⟩
 have e : b = s1.heap.objs.size:=by simpa using hb
 subst e
 exact I3.fpOk (Nat.le_refl _) (I3.hok.fresh (Nat.le_refl _))
end
end L2
namespace L2
open PySem PySem.Spec PyProof.Rows PyProof.Rows.LSm
theorem ints_items : ∀ {vs : List Value} {ns : List Int},IntsAre vs ns -> ∃ zs : List (Int × Tok),vs = zs.map (fun p=>Value.int p.1 p.2) /\ zs.map (·.1) = ns
 | _,_,.nil=>⟨[],rfl,rfl⟩
 | _,_,.cons n t h=>by
  obtain ⟨zs,e1,e2⟩:=ints_items h
  exact ⟨(n,t) :: zs,by rw [e1]; rfl,by rw [List.map_cons,e2]⟩
section
variable {X : Cx}
theorem call_minI (hc : X.calm = true) : CallR X (.builtin "min") (fun xs H Q=>∃ (l : Addr) (ns : List Int),xs = [.ref l] /\ H l = some (.lst (ns.map V.int)) /\ ns ≠ [] /\ ∀ m,m ∈ ns -> (∀ k ∈ ns,m <= k) -> Q (.int m) H):=by
 intro pins s σ H xs us Q I r h
 obtain ⟨l,ns,rfl,hH,hne,q⟩:=h
 obtain ⟨u,rfl,ru⟩:=vals1 r
 cases ru
 obtain ⟨z,its,n,rv,hl,e⟩:=I.lstM hH
 obtain ⟨zs,e1,e2⟩:=ints_items (intsAre_of rv)
 have hL : s.heap.IsList l (intItems zs.toArray):=⟨_,e,rfl,n,by rw [e1]; simp [intItems]⟩
 have hlen : zs.length = ns.length:=by rw [<- e2,List.length_map]
 have hsz : 0 < zs.toArray.size:=by
  rw [List.size_toArray,hlen]
  exact List.length_pos_iff.mpr hne
 refine min_intList (I.ok.hd hc) hL hsz fun v h' tk hv hk=>?_
 obtain ⟨t,rfl⟩:=intItems_at hv
 obtain ⟨h1,h2⟩:=argBest_lt (numAt zs.toArray) (zs.toArray.size - 1)
 have hnum : ∀ j,j < zs.toArray.size -> numAt zs.toArray j ∈ ns:=fun j hj=>by
  rw [numAt_eq,<- e2]
  have : (zs.toArray.toList.map (·.1)) = zs.map (·.1):=by simp
  rw [this]
  exact getD_mem (by rw [List.length_map]; simpa using hj)
 refine ⟨.int _,H,(I.kept (t':=tk) hk),⟨t,rfl⟩,q _ (hnum _ (by omega)) fun k hk2=>?_⟩
 rw [<- e2] at hk2
 obtain ⟨j,hj,rfl⟩:=mem_getD hk2
 rw [List.length_map] at hj
 have:=h2 j (by rw [List.size_toArray]; omega)
 have e3 : numAt zs.toArray j = (zs.map (·.1)).getD j 0:=by rw [numAt_eq]
 rw [e3] at this
 exact this
end
def tThawS (t : TS) : TS:=fun D σ H=>∃ d kvs,H d = some (.dK kvs) /\ t ⟨fun σ' H'=>∃ o,H' d = some (.frz o (.dK kvs)) /\ D.nx σ' (upd H' d (.dK kvs)),fun _ _=>False,fun _ _=>False,fun _ _=>False⟩ σ H
theorem ps_thaw {X : Cx} {st : Stmt} {t : TS} (h : PS X st t) : PS X st (tThawS t):=by
 intro pins s σ H D I hw
 obtain ⟨d,kvs,hd,hw⟩:=hw
 have h0 : ∀ o' u,X.H₀ d ≠ some (.frz o' u):=fun o' u q=>by
  have z:=I.base.frzs d o' u q
  rw [hd] at z; cases z
 refine wpAny_mono (h pins s σ H _ I hw) (fun f s1 q=>?_) (fun _ _ z=>z)
 cases f with
 | next=>obtain ⟨σ1,H1,I1,o,hf,q1⟩:=q; exact ⟨σ1,_,Inv.thaw I1 hf h0,q1⟩
 | brk=>obtain ⟨_,_,_,q1⟩:=q; exact q1.elim
 | cont=>obtain ⟨_,_,_,q1⟩:=q; exact q1.elim
 | ret u=>obtain ⟨_,_,_,_,_,q1⟩:=q; exact q1.elim
end L2
namespace L2
open PySem PySem.Spec PyProof.Rows PyProof.Rows.LSm
section
variable {prog : Program} {w : World} {A : Around} {E : Value -> Shared -> Prop} {s : Shared} {a₀ : Array Keyed}
theorem asc_all {st : SortSt} {nrem : Nat} {Q : Option Nat -> SortSt -> Prop} (h0 : IntKeys a₀) (hn : nrem <= a₀.size) (h1 : 1 <= nrem) (hB : SBase a₀ st) (hs : SortedTo (arrOf st) nrem) (h : Q (some nrem) st) : wpS (model prog w) A E s (countRun' 0 nrem) Q st:=by
 rw [countRun0_eq]
 refine wpS_bind (wpS_ascLoop h0 hn (Nat.le_refl 1) h1 hB (fun i j a b=>hs i j a (by omega)) fun n n1 n2 _ hor=>?_)
 have e : n = nrem:=by
  rcases hor with z | z
  ·exact z
  ·by_cases q : n = nrem
   ·exact q
   ·have:=hs (n - 1) n (by omega) (by omega)
    omega
 subst e
 dsimp only; rw [if_pos (by simp)]; exact wpS_pure h
theorem runs_all {st : SortSt} {Q : Unit -> SortSt -> Prop} (h0 : IntKeys a₀) (hB : SBase a₀ st) (h64 : a₀.size = 64) (hs : SortedTo (arrOf st) a₀.size) (h : ∀ st',(arrOf st').Perm a₀ -> failedOf st' = none -> SortedTo (arrOf st') a₀.size -> Q () st') : wpS (model prog w) A E s sortRuns' Q st:=by
 rw [sortRuns'_eq]
 refine wpS_bind (wpS_get ?_); dsimp only
 have hmr : minRun' a₀.size a₀.size 0 = 32:=by rw [h64]; rfl
 have hz : (arrOf st).size = a₀.size:=hB.size
 simp only [hz,hmr]
 refine wpS_bind (wpS_mono (wpS_forRange (I:=fun x c st'=>(x = 0 /\ c = (none,0) /\ st' = st) \/ (1 <= x /\ c = (none,a₀.size) /\ SDone a₀ st')) (Q:=fun c st'=>c = (none,a₀.size) /\ SDone a₀ st') ?st1 ?fi1 (.inl ⟨rfl,rfl,rfl⟩)) ?po1)
 case fi1 =>
  rintro c st' (⟨hx,_,_⟩ | ⟨_,hc,hD⟩)
  ·omega
  ·exact ⟨hc,hD⟩
 case st1 =>
  rintro x c st' _ hx (⟨rfl,rfl,rfl⟩ | ⟨hx1,rfl,hD⟩)
  ·dsimp only
   rw [if_neg (by omega)]; simp only [Nat.sub_zero,Nat.zero_add]
   refine wpS_bind (asc_all h0 (Nat.le_refl _) (by omega) hB hs ?_)
   dsimp only; rw [if_neg (by omega)]; refine wpS_bind (wpS_get ?_)
   have hb : (pendingOf st').back? = none:=by rw [hB.pend]; rfl
   rw [hb]; dsimp only; exact wpS_bind (wpS_modify (wpS_pure (.inr ⟨by omega,rfl,hB.done hs⟩)))
  ·dsimp only; rw [if_pos (Nat.le_refl _)]; exact wpS_pure ⟨rfl,hD⟩
 case po1 =>
  rintro c st' ⟨rfl,hD⟩
  dsimp only
  refine wpS_bind (wpS_mono (wpS_forRange (I:=fun _ c s2=>s2 = st' /\ c = (none,())) (Q:=fun c s2=>s2 = st' /\ c = (none,())) ?_ (fun _ _ z=>z) ⟨rfl,rfl⟩) ?_)
  ·rintro x c s2 _ _ ⟨rfl,rfl⟩; refine wpS_bind (wpS_get ?_); rw [if_pos (by rw [hD.2.2.1]; exact Nat.le_refl 1)]; exact wpS_pure ⟨rfl,rfl⟩
  ·rintro c s2 ⟨rfl,rfl⟩; exact wpS_pure (h _ hD.1 hD.2.1 hD.2.2.2)
theorem ints_K : ∀ {vs : List Value} {ns : List Int},IntsAre vs ns -> ∀ i,i < vs.length -> K (pairsOf vs) i = ns.getD i 0:=by
 intro vs ns h i hi
 have e : (pairsOf vs)[i]? = some (vs[i],vs[i]):=by
  show (vs.toArray.zip vs.toArray)[i]? = _
  simp [hi]
 unfold K
 rw [e]
 dsimp only
 clear e
 induction h generalizing i with
 | nil=>simp at hi
 | cons n t h ih =>
  cases i with
  | zero=>rfl
  | succ i=>simpa using ih i (by simpa using hi)
theorem sort_all {a : Addr} {vs : List Value} {ns : List Int} {n : Nat} {P : Fin -> Shared -> Prop} (ho : s.heap.get? a = some (seqObj "list" vs.toArray n)) (hI : IntsAre vs ns) (h64 : vs.length = 64) (hp : ns.Pairwise (· <= ·))
  (h : ∀ (out : Array Value) (ns' : List Int),IntsAre out.toList ns' -> ns'.Perm ns -> ns'.Pairwise (· <= ·) -> P (.done (.ret .none)) { s with heap:=sortedHeap s.heap a vs out }) : wpAny (model prog w) A (Builtin.«list.sort» ⟨[.ref a],[]⟩) P E s:=by
 rw [list_sort_plain]
 have ha : a < s.heap.objs.size:=Heap.lt_size ho
 refine wpAny_bind (listItems_at ho rfl ?_); refine wpAny_bind (listUpdate_at ho rfl ?_)
 obtain ⟨e1,ho1⟩ : ∃ e1,(s.heap.update a (Obj.mapSeq fun _=>#[])).get? a = some (seqObj "list" #[] e1):=⟨_,get?_update_seq ho (fun _=>#[])⟩
 refine wpAny_bind (seqEpoch_at ho1 rfl ?_); refine wpAny_bind (wpAny_newTuple ?_); refine wpAny_bind (wpAny_newList ?_); refine wpAny_holding ?_
 have ho6 : (((s.heap.update a (Obj.mapSeq fun _=>#[])).push (seqObj "tuple" vs.toArray 0)).push (seqObj "list" #[] 0)).get? a = some (seqObj "list" #[] e1):=by
  rw [Heap.get?_push_ne _ _ _ (by rw [size_push',Heap.size_update]; exact Nat.ne_of_lt (Nat.lt_succ_of_lt ha)),Heap.get?_push_ne _ _ _ (by rw [Heap.size_update]; exact Nat.ne_of_lt ha),ho1]
 show wpAny (model prog w) A _ P E { s with heap:=((s.heap.update a (Obj.mapSeq fun _=>#[])).push (seqObj "tuple" vs.toArray 0)).push (seqObj "list" #[] 0) }
 dsimp only
 have hsz : vs.toArray.size = vs.length:=by simp
 have h2 : ¬ vs.toArray.size < 2:=by rw [hsz,h64]; decide
 rw [if_neg h2,if_neg h2]
 obtain ⟨v₁,v₂,rest,rfl⟩ : ∃ v₁ v₂ rest,vs = v₁ :: v₂ :: rest:=by
  rcases vs with _ | ⟨x,_ | ⟨y,r⟩⟩
  ·cases h64
  ·cases h64
  ·exact ⟨x,y,r,rfl⟩
 rw [keyKind_ints hI]; refine wpAny_bind (wpAny_pure ?_)
 have hs : SortedTo (pairsOf (v₁ :: v₂ :: rest)) (pairsOf (v₁ :: v₂ :: rest)).size:=fun i j hij hj=>by
  rw [pairsOf_size] at hj
  rw [ints_K hI i (by omega),ints_K hI j hj]
  have hl : ns.length = (v₁ :: v₂ :: rest).length:=hI.length.symm
  by_cases e : i = j
  ·subst e; exact Int.le_refl _
  ·have:=List.pairwise_iff_getElem.mp hp i j (by omega) (by omega) (by omega)
   rw [List.getD_eq_getElem?_getD,List.getD_eq_getElem?_getD,List.getElem?_eq_getElem (by omega),List.getElem?_eq_getElem (by omega)]; exact this
 refine wpAny_bind (wpAny_mono (runs_all (a₀:=pairsOf (v₁ :: v₂ :: rest)) (st:=SortSt.mk' oneType' ((v₁ :: v₂ :: rest).toArray.zip (v₁ :: v₂ :: rest).toArray) #[] 7 none) (Q:=fun _ st'=>(arrOf st').Perm (pairsOf (v₁ :: v₂ :: rest)) /\ failedOf st' = none /\ SortedTo (arrOf st') (pairsOf (v₁ :: v₂ :: rest)).size) hI.intKeys ⟨Array.Perm.refl _,rfl,rfl,rfl⟩ (by rw [pairsOf_size]; exact h64) hs fun st' a1 a2 a3=>⟨a1,a2,a3⟩) ?_ fun _ _ e=>e)
 rintro ⟨⟨⟩,st'⟩ s' ⟨rfl,hp',hf,hs'⟩
 dsimp only
 refine wpAny_bind (seqEpoch_at ho6 rfl ?_)
 refine wpAny_bind (listUpdate_at ho6 rfl ?_ (hsz2:=by refine Nat.le_trans (Nat.le_of_eq ((Array.size_map ..).trans (hp'.size_eq.trans (pairsOf_size _)))) ?_; rw [h64,sizeLine_eq]; decide))
 rw [hf]; simp only [bne_self_eq_false,Bool.false_eq_true,if_false]
 obtain ⟨ns',h1,h2',h3⟩:=sorted_out hI hp' hs'
 exact wpAny_pure (h _ ns' h1 h2' h3)
theorem sort_any {a : Addr} {vs : List Value} {ns : List Int} {n : Nat} {P : Fin -> Shared -> Prop} (ho : s.heap.get? a = some (seqObj "list" vs.toArray n)) (hI : IntsAre vs ns) (h64 : vs.length < 64 \/ vs.length = 64 /\ ns.Pairwise (· <= ·))
  (h : ∀ (out : Array Value) (ns' : List Int),IntsAre out.toList ns' -> ns'.Perm ns -> ns'.Pairwise (· <= ·) -> P (.done (.ret .none)) { s with heap:=sortedHeap s.heap a vs out }) : wpAny (model prog w) A (Builtin.«list.sort» ⟨[.ref a],[]⟩) P E s:=by
 rcases h64 with z | ⟨z,p⟩
 ·exact list_sort_tree ho hI z h
 ·exact sort_all ho hI z p h
end
section
variable {X : Cx}
theorem call_sortedD (hc : X.calm = true) : CallR X (.builtin "sorted") (fun xs H Q=>∃ (d : Addr) (kvs : List (Key × V)) (ns : List Int),xs = [.ref d] /\ H d = some (.dK kvs) /\ kvs.map (·.1) = ns.map Sum.inl /\ (ns.length < 64 \/ ns.length = 64 /\ ns.Pairwise (· <= ·)) /\ ∀ (ns' : List Int) (D : Addr),ns'.Perm ns -> ns'.Pairwise (· <= ·) -> H D = none -> Q (.ref D) (upd H D (.lst (ns'.map V.int)))):=by
 intro pins s σ H xs us Q I r h
 obtain ⟨d,kvs,ns,rfl,hd,hk,h64,q⟩:=h
 obtain ⟨u,rfl,ru⟩:=vals1 r
 cases ru
 obtain ⟨hz,hS,vs,hr,dd⟩:=I.hok d _ hd
 obtain ⟨o,es,ep,eo,ex,ed,eks,eps,end'⟩:=id dd
 have hlen : kvs.length = vs.length:=Paired.length hr
 have hln : kvs.length = ns.length:=by have:=congrArg List.length hk; simpa using this
 have keys : ∀ (i : Nat) n,ns[i]? = some n -> ∃ v,vs[i]? = some (Sum.inl n,v):=by
  have aux : ∀ {l : List (Key × V)} {m : List (Key × Value)} (j : Nat) (k : Key),KV l m -> (l.map (·.1))[j]? = some k -> ∃ v,m[j]? = some (k,v):=by
   intro l m j k r
   induction r generalizing j with
   | nil=>intro q; simp at q
   | @cons a b _ _ r1 r2 ih =>
    intro q
    cases j with
    | zero =>
     have : a.1 = k:=by simpa using q
     exact ⟨b.2,by rw [<- this,r1.1]; rfl⟩
    | succ j=>simpa using ih j (by simpa using q)
  intro i n hn
  exact aux i _ hr (by rw [hk,List.getElem?_map,hn]; rfl)
 refine Calls.call_function_entry kind_sorted plain_sorted entry_sorted (args_sorted1 _) ?_
 unfold Builtin.«sorted»
 refine wpAny_bind (m:=checkCount "sorted" 1 1 _) (wpAny_pure ?_)
 refine wpAny_bind (collect_keys (by simpa using I.ok.hd hc) (⟨o,es,eo,ex,ed,eks,eps,end'⟩ : s.heap.DictAt (mixKind X.prog X.w) d vs ep) hS (by rw [<- hlen]; exact hz) fun ys h' tk hyl hyk keep=>?_)
 have hj : IntsAre ys ns:=ints_at (by omega) fun i n hn=>by
  obtain ⟨v,hv⟩:=keys i n hn
  obtain ⟨y,hy,hk2⟩:=hyk i _ v hv
  have hk3 : (intKind X.prog X.w).is n y = true:=hk2
  obtain ⟨t,e2⟩:=Value.isInt_shape hk3
  exact ⟨t,by rw [hy,e2]⟩
 have hyl2 : ys.length < 64 \/ ys.length = 64 /\ ns.Pairwise (· <= ·):=h64.imp (by omega) fun z=>⟨by omega,z.2⟩
 have hyl3 : ys.length <= 64:=by omega
 have I1 : Inv X pins σ H { s with heap:=h',toks:=tk }:=I.kept (t':=tk) keep
 refine wpAny_bind (wpAny_newList ?_ (by rw [sizeLine_eq]; omega))
 have hoL : (h'.push (seqObj "list" ys.toArray 0)).get? h'.objs.size = some (seqObj "list" ys.toArray 0):=Heap.get?_push_size _ rfl
 show wpAny _ _ _ _ _ { s with heap:=h'.push (seqObj "list" ys.toArray 0),toks:=tk }
 refine wpAny_bind (wpAny_holding (wpAny_call_entry slot_list_sort ⟨_,hoL,rfl⟩ entry_list_sort (sort_any hoL hj hyl2 fun out ns' a1 a2 a3=>⟨_,rfl,?_⟩) (args_list_sort _)))
 refine wpAny_pure ⟨_,rfl,?_⟩
 obtain ⟨c,he⟩:=sortedHeap_at (out:=out) hoL
 have hf : H h'.objs.size = none:=I1.hok.fresh (Nat.le_refl _)
 have hz2 : (ns'.map V.int).length <= sizeLine:=by
  have:=a2.length_eq
  rw [List.length_map,sizeLine_eq]; omega
 refine ⟨.ref h'.objs.size,upd H h'.objs.size (.lst (ns'.map V.int)),I1.laid (t':=tk) (fun b u x=>?_) (Nat.le_refl _) ?_,rfl,q ns' _ a2 a3 hf⟩
 ·have hlt : @LT.lt Nat _ b h'.objs.size:=Heap.lt_size x
  rw [sortedHeap_old (Nat.ne_of_lt hlt) (by rw [Heap.size_push]; exact Nat.lt_succ_of_lt hlt)]
  exact Heap.get?_push_of_some _ x
 ·exact ⟨hz2,out.toList,c,vals_ints a1,by rw [Array.toArray_toList]; exact he⟩
end
end L2
namespace GH
open PySem L2
def top (i : Nat) : Stmt:=PySem.Challenge.pw_greyhall_k08_whole_hall_by_hand.main.body.getD i (.Pass ⟨0,0,0,0⟩)
abbrev sT___init__ : Stmt:=inClass (top 10) 0
abbrev sT_words : Stmt:=inClass (top 10) 1
abbrev sT_behind : Stmt:=inClass (top 10) 2
abbrev sM___init__ : Stmt:=inClass (top 11) 0
abbrev sM_held : Stmt:=inClass (top 11) 1
abbrev sM_hold : Stmt:=inClass (top 11) 2
abbrev sM_things_held : Stmt:=inClass (top 11) 3
abbrev sM_thing_in : Stmt:=inClass (top 11) 4
abbrev sM_thing_with_field : Stmt:=inClass (top 11) 5
abbrev sM_field_value : Stmt:=inClass (top 11) 6
abbrev sM_number : Stmt:=inClass (top 11) 7
abbrev sM_copy : Stmt:=inClass (top 11) 8
abbrev sM_load : Stmt:=inClass (top 11) 9
abbrev sM_store : Stmt:=inClass (top 11) 10
abbrev sM_place_of : Stmt:=inClass (top 11) 14
abbrev sM_free_place : Stmt:=inClass (top 11) 15
abbrev sM_lay : Stmt:=inClass (top 11) 16
abbrev sM_take_away : Stmt:=inClass (top 11) 17
abbrev sM_blocks : Stmt:=inClass (top 11) 18
abbrev sM_slide : Stmt:=inClass (top 11) 19
abbrev smake_grey : Stmt:=top 18
abbrev sS___init__ : Stmt:=inClass (top 19) 0
abbrev sS_phase : Stmt:=inClass (top 19) 1
abbrev sS_finger : Stmt:=inClass (top 19) 2
abbrev sS_colours : Stmt:=inClass (top 19) 3
abbrev sS_refuse_during_sweep : Stmt:=inClass (top 19) 4
abbrev sS_begin : Stmt:=inClass (top 19) 5
abbrev sS_step : Stmt:=inClass (top 19) 6
abbrev sS_finish : Stmt:=inClass (top 19) 7
abbrev sS_do_part : Stmt:=inClass (top 19) 8
abbrev sS_least_grey : Stmt:=inClass (top 19) 9
abbrev sS_least_from_finger : Stmt:=inClass (top 19) 10
abbrev sS_mark_thing : Stmt:=inClass (top 19) 11
abbrev sS_sweep_thing : Stmt:=inClass (top 19) 12
abbrev sS_change_stage : Stmt:=inClass (top 19) 13
abbrev sS_store : Stmt:=inClass (top 19) 14
abbrev sS_make : Stmt:=inClass (top 19) 15
abbrev sS_colour_at : Stmt:=inClass (top 19) 16
abbrev sS_room_behind_all : Stmt:=inClass (top 19) 17
abbrev sS_slide : Stmt:=inClass (top 19) 18
abbrev sH___init__ : Stmt:=inClass (top 21) 0
abbrev sH_number : Stmt:=inClass (top 21) 1
abbrev sH_copy : Stmt:=inClass (top 21) 2
abbrev sH_make : Stmt:=inClass (top 21) 3
abbrev sH_load : Stmt:=inClass (top 21) 4
abbrev sH_store : Stmt:=inClass (top 21) 5
abbrev sH_blocks : Stmt:=inClass (top 21) 9
abbrev sH_place_of : Stmt:=inClass (top 21) 10
abbrev sH_slide : Stmt:=inClass (top 21) 11
abbrev sH_begin : Stmt:=inClass (top 21) 12
abbrev sH_step : Stmt:=inClass (top 21) 13
abbrev sH_finish : Stmt:=inClass (top 21) 14
abbrev sH_phase : Stmt:=inClass (top 21) 15
abbrev sH_colours : Stmt:=inClass (top 21) 16
abbrev sH_finger : Stmt:=inClass (top 21) 17
abbrev s_law_cell : Stmt:=top 23
abbrev s_law_mix : Stmt:=top 24
abbrev s_law_whole : Stmt:=top 25
abbrev s_law_act : Stmt:=top 26
abbrev s_law_acts : Stmt:=top 27
abbrev s_law_size : Stmt:=top 28
abbrev s_law_call : Stmt:=top 29
abbrev s_law_do : Stmt:=top 30
abbrev s_law_new : Stmt:=top 31
abbrev s_law_gap : Stmt:=top 32
abbrev s_law_shade : Stmt:=top 33
abbrev s_law_grey : Stmt:=top 34
abbrev s_law_settle : Stmt:=top 35
abbrev s_law_begin : Stmt:=top 36
abbrev s_law_part : Stmt:=top 37
abbrev s_law_steps : Stmt:=top 38
abbrev s_law_moved : Stmt:=top 39
abbrev s_law_slide : Stmt:=top 40
abbrev s_law_made : Stmt:=top 41
abbrev s_law_field : Stmt:=top 42
abbrev s_law_touch : Stmt:=top 43
abbrev s_law_by_hand : Stmt:=top 44
abbrev s_law_blocks : Stmt:=top 45
abbrev s_law_alike : Stmt:=top 46
abbrev slaw : Stmt:=top 47
set_option genInjectivity false
set_option genSizeOf false
set_option genSizeOfSpec false
structure FnL (K : PySem.W.Frag) (C : Addr) (x qual : Str) (st : Stmt) (ps : List Str) where
 f : Addr
 d : FuncData
 F : Fun K x qual st f d
 b : Binds K d ps []
 m : Meth K C x f
structure FnG (K : PySem.W.Frag) (mg : Str -> Option Value) (x : Str) (st : Stmt) (ps : List Str) where
 f : Addr
 d : FuncData
 F : Fun K x x st f d
 b : Binds K d ps []
 g : mg x = some (.ref f)
structure Lk (K : PySem.W.Frag) (mg : Str -> Option Value) where
 c : CA
 ne : c.Ne
 gT : mg "Thing" = some (.ref c.T)
 cT : Cls K c.T
 nT_place : NoAttr K c.T "place"
 nT_fields : NoAttr K c.T "fields"
 nT_colour : NoAttr K c.T "colour"
 gM : mg "Memory" = some (.ref c.M)
 cM : Cls K c.M
 nM_size : NoAttr K c.M "size"
 nM_hands : NoAttr K c.M "hands"
 nM_things : NoAttr K c.M "things"
 gS : mg "Sweeper" = some (.ref c.S)
 cS : Cls K c.S
 nS_memory : NoAttr K c.S "memory"
 nS_stage : NoAttr K c.S "stage"
 nS_finger_place : NoAttr K c.S "finger_place"
 gH : mg "Hall" = some (.ref c.H)
 cH : Cls K c.H
 nH_memory : NoAttr K c.H "memory"
 nH_sweeper : NoAttr K c.H "sweeper"
 ghe : mg "HallError" = some (.ref c.he)
 gnt : mg "NoThing" = some (.ref c.nt)
 gnf : mg "NoField" = some (.ref c.nf)
 gnr : mg "NoRoom" = some (.ref c.nr)
 gnn : mg "NotNow" = some (.ref c.nn)
 xnt : PySem.W.excIn K c.nt [.type "ValueError",.type "Exception",.type "BaseException",.type "object"] "ValueError.__new__" = true
 xnf : PySem.W.excIn K c.nf [.type "ValueError",.type "Exception",.type "BaseException",.type "object"] "ValueError.__new__" = true
 xnr : PySem.W.excIn K c.nr [.type "ValueError",.type "Exception",.type "BaseException",.type "object"] "ValueError.__new__" = true
 xnn : PySem.W.excIn K c.nn [.type "ValueError",.type "Exception",.type "BaseException",.type "object"] "ValueError.__new__" = true
 ent_nt : PySem.W.exmOne K (.ref c.nt) (.ref c.nt) = some true
 ent_nf : PySem.W.exmOne K (.ref c.nt) (.ref c.nf) = some false
 ent_nr : PySem.W.exmOne K (.ref c.nt) (.ref c.nr) = some false
 ent_nn : PySem.W.exmOne K (.ref c.nt) (.ref c.nn) = some false
 enf_nt : PySem.W.exmOne K (.ref c.nf) (.ref c.nt) = some false
 enf_nf : PySem.W.exmOne K (.ref c.nf) (.ref c.nf) = some true
 enf_nr : PySem.W.exmOne K (.ref c.nf) (.ref c.nr) = some false
 enf_nn : PySem.W.exmOne K (.ref c.nf) (.ref c.nn) = some false
 enr_nt : PySem.W.exmOne K (.ref c.nr) (.ref c.nt) = some false
 enr_nf : PySem.W.exmOne K (.ref c.nr) (.ref c.nf) = some false
 enr_nr : PySem.W.exmOne K (.ref c.nr) (.ref c.nr) = some true
 enr_nn : PySem.W.exmOne K (.ref c.nr) (.ref c.nn) = some false
 enn_nt : PySem.W.exmOne K (.ref c.nn) (.ref c.nt) = some false
 enn_nf : PySem.W.exmOne K (.ref c.nn) (.ref c.nf) = some false
 enn_nr : PySem.W.exmOne K (.ref c.nn) (.ref c.nr) = some false
 enn_nn : PySem.W.exmOne K (.ref c.nn) (.ref c.nn) = some true
 tWHITE : Tok
 gWHITE : mg "WHITE" = some (.str "white" tWHITE)
 tGREY : Tok
 gGREY : mg "GREY" = some (.str "grey" tGREY)
 tBLACK : Tok
 gBLACK : mg "BLACK" = some (.str "black" tBLACK)
 tIDLE : Tok
 gIDLE : mg "IDLE" = some (.str "idle" tIDLE)
 tMARK : Tok
 gMARK : mg "MARK" = some (.str "mark" tMARK)
 tSWEEP : Tok
 gSWEEP : mg "SWEEP" = some (.str "sweep" tSWEEP)
 tHEAD_WORDS : Tok
 gHEAD_WORDS : mg "HEAD_WORDS" = some (.int 2 tHEAD_WORDS)
 zisinstance : mg "isinstance" = none
 zlen : mg "len" = none
 ztuple : mg "tuple" = none
 zint : mg "int" = none
 zbool : mg "bool" = none
 zsorted : mg "sorted" = none
 zrange : mg "range" = none
 zmin : mg "min" = none
 kint : PySem.W.kitOne K (.type "int") (.ref c.T) = some false
 kTT : PySem.W.kitOne K (.ref c.T) (.ref c.T) = some true
 tha : PySem.W.findIn K (.ref c.T) "__class__" = some (some (.builtin "object.__class__"))
 thn : PySem.W.specialIn K (.builtin "object.__class__") "__get__" = some (some (.builtin "getset_descriptor.__get__"))
 thk : PySem.W.takesIn K (.builtin "object.__class__") = some true
 thm : PySem.W.mroIn K c.T (.type "object") = some true
 cmp : cmpIn K c.T = true
 k_int_int : PySem.W.kitOne K (.type "int") (.type "int") = some true
 k_int_bool : PySem.W.kitOne K (.type "int") (.type "bool") = some false
 k_int_tuple : PySem.W.kitOne K (.type "int") (.type "tuple") = some false
 k_bool_int : PySem.W.kitOne K (.type "bool") (.type "int") = some true
 k_bool_bool : PySem.W.kitOne K (.type "bool") (.type "bool") = some true
 k_bool_tuple : PySem.W.kitOne K (.type "bool") (.type "tuple") = some false
 k_str_int : PySem.W.kitOne K (.type "str") (.type "int") = some false
 k_str_bool : PySem.W.kitOne K (.type "str") (.type "bool") = some false
 k_str_tuple : PySem.W.kitOne K (.type "str") (.type "tuple") = some false
 k_NoneType_int : PySem.W.kitOne K (.type "NoneType") (.type "int") = some false
 k_NoneType_bool : PySem.W.kitOne K (.type "NoneType") (.type "bool") = some false
 k_NoneType_tuple : PySem.W.kitOne K (.type "NoneType") (.type "tuple") = some false
 k_tuple_int : PySem.W.kitOne K (.type "tuple") (.type "int") = some false
 k_tuple_bool : PySem.W.kitOne K (.type "tuple") (.type "bool") = some false
 k_tuple_tuple : PySem.W.kitOne K (.type "tuple") (.type "tuple") = some true
 k_list_int : PySem.W.kitOne K (.type "list") (.type "int") = some false
 k_list_bool : PySem.W.kitOne K (.type "list") (.type "bool") = some false
 k_list_tuple : PySem.W.kitOne K (.type "list") (.type "tuple") = some false
 T___init__ : FnL K c.T "__init__" "Thing.__init__" sT___init__ ["self","many"]
 T_words : FnL K c.T "words" "Thing.words" sT_words ["self"]
 T_behind : FnL K c.T "behind" "Thing.behind" sT_behind ["self"]
 M___init__ : FnL K c.M "__init__" "Memory.__init__" sM___init__ ["self","size"]
 M_held : FnL K c.M "held" "Memory.held" sM_held ["self","hand"]
 M_hold : FnL K c.M "hold" "Memory.hold" sM_hold ["self","hand","value"]
 M_things_held : FnL K c.M "things_held" "Memory.things_held" sM_things_held ["self"]
 M_thing_in : FnL K c.M "thing_in" "Memory.thing_in" sM_thing_in ["self","hand"]
 M_thing_with_field : FnL K c.M "thing_with_field" "Memory.thing_with_field" sM_thing_with_field ["self","hand","field"]
 M_field_value : FnL K c.M "field_value" "Memory.field_value" sM_field_value ["self","hand","field"]
 M_number : FnL K c.M "number" "Memory.number" sM_number ["self","hand","n"]
 M_copy : FnL K c.M "copy" "Memory.copy" sM_copy ["self","hand","other"]
 M_load : FnL K c.M "load" "Memory.load" sM_load ["self","hand","other","field"]
 M_store : FnL K c.M "store" "Memory.store" sM_store ["self","hand","field","other"]
 M_place_of : FnL K c.M "place_of" "Memory.place_of" sM_place_of ["self","hand"]
 M_free_place : FnL K c.M "free_place" "Memory.free_place" sM_free_place ["self","words"]
 M_lay : FnL K c.M "lay" "Memory.lay" sM_lay ["self","thing","place"]
 M_take_away : FnL K c.M "take_away" "Memory.take_away" sM_take_away ["self","thing"]
 M_blocks : FnL K c.M "blocks" "Memory.blocks" sM_blocks ["self"]
 M_slide : FnL K c.M "slide" "Memory.slide" sM_slide ["self"]
 make_grey : FnG K mg "make_grey" smake_grey ["value"]
 S___init__ : FnL K c.S "__init__" "Sweeper.__init__" sS___init__ ["self","memory"]
 S_phase : FnL K c.S "phase" "Sweeper.phase" sS_phase ["self"]
 S_finger : FnL K c.S "finger" "Sweeper.finger" sS_finger ["self"]
 S_colours : FnL K c.S "colours" "Sweeper.colours" sS_colours ["self"]
 S_refuse_during_sweep : FnL K c.S "refuse_during_sweep" "Sweeper.refuse_during_sweep" sS_refuse_during_sweep ["self"]
 S_begin : FnL K c.S "begin" "Sweeper.begin" sS_begin ["self"]
 S_step : FnL K c.S "step" "Sweeper.step" sS_step ["self","n"]
 S_finish : FnL K c.S "finish" "Sweeper.finish" sS_finish ["self"]
 S_do_part : FnL K c.S "do_part" "Sweeper.do_part" sS_do_part ["self"]
 S_least_grey : FnL K c.S "least_grey" "Sweeper.least_grey" sS_least_grey ["self"]
 S_least_from_finger : FnL K c.S "least_from_finger" "Sweeper.least_from_finger" sS_least_from_finger ["self"]
 S_mark_thing : FnL K c.S "mark_thing" "Sweeper.mark_thing" sS_mark_thing ["self","thing"]
 S_sweep_thing : FnL K c.S "sweep_thing" "Sweeper.sweep_thing" sS_sweep_thing ["self","thing"]
 S_change_stage : FnL K c.S "change_stage" "Sweeper.change_stage" sS_change_stage ["self"]
 S_store : FnL K c.S "store" "Sweeper.store" sS_store ["self","hand","field","other"]
 S_make : FnL K c.S "make" "Sweeper.make" sS_make ["self","hand","many"]
 S_colour_at : FnL K c.S "colour_at" "Sweeper.colour_at" sS_colour_at ["self","place"]
 S_room_behind_all : FnL K c.S "room_behind_all" "Sweeper.room_behind_all" sS_room_behind_all ["self","words"]
 S_slide : FnL K c.S "slide" "Sweeper.slide" sS_slide ["self"]
 H___init__ : FnL K c.H "__init__" "Hall.__init__" sH___init__ ["self","size"]
 H_number : FnL K c.H "number" "Hall.number" sH_number ["self","hand","n"]
 H_copy : FnL K c.H "copy" "Hall.copy" sH_copy ["self","hand","other"]
 H_make : FnL K c.H "make" "Hall.make" sH_make ["self","hand","many"]
 H_load : FnL K c.H "load" "Hall.load" sH_load ["self","hand","other","field"]
 H_store : FnL K c.H "store" "Hall.store" sH_store ["self","hand","field","other"]
 H_blocks : FnL K c.H "blocks" "Hall.blocks" sH_blocks ["self"]
 H_place_of : FnL K c.H "place_of" "Hall.place_of" sH_place_of ["self","hand"]
 H_slide : FnL K c.H "slide" "Hall.slide" sH_slide ["self"]
 H_begin : FnL K c.H "begin" "Hall.begin" sH_begin ["self"]
 H_step : FnL K c.H "step" "Hall.step" sH_step ["self","n"]
 H_finish : FnL K c.H "finish" "Hall.finish" sH_finish ["self"]
 H_phase : FnL K c.H "phase" "Hall.phase" sH_phase ["self"]
 H_colours : FnL K c.H "colours" "Hall.colours" sH_colours ["self"]
 H_finger : FnL K c.H "finger" "Hall.finger" sH_finger ["self"]
 _law_cell : FnG K mg "_law_cell" s_law_cell ["_law_script","_law_k"]
 _law_mix : FnG K mg "_law_mix" s_law_mix ["_law_cell_here","_law_prime","_law_many"]
 _law_whole : FnG K mg "_law_whole" s_law_whole ["_law_found"]
 _law_act : FnG K mg "_law_act" s_law_act ["_law_cell_here","_law_sweeps"]
 _law_acts : FnG K mg "_law_acts" s_law_acts ["_law_script","_law_sweeps"]
 _law_size : FnG K mg "_law_size" s_law_size ["_law_script"]
 _law_call : FnG K mg "_law_call" s_law_call ["_law_hall","_law_act_here"]
 _law_do : FnG K mg "_law_do" s_law_do ["_law_hall","_law_act_here"]
 _law_new : FnG K mg "_law_new" s_law_new ["_law_size_here"]
 _law_gap : FnG K mg "_law_gap" s_law_gap ["_law_hand","_law_words"]
 _law_shade : FnG K mg "_law_shade" s_law_shade ["_law_hand","_law_value"]
 _law_grey : FnG K mg "_law_grey" s_law_grey ["_law_hand"]
 _law_settle : FnG K mg "_law_settle" s_law_settle ["_law_hand"]
 _law_begin : FnG K mg "_law_begin" s_law_begin ["_law_hand"]
 _law_part : FnG K mg "_law_part" s_law_part ["_law_hand"]
 _law_steps : FnG K mg "_law_steps" s_law_steps ["_law_hand","_law_n"]
 _law_moved : FnG K mg "_law_moved" s_law_moved ["_law_value","_law_places"]
 _law_slide : FnG K mg "_law_slide" s_law_slide ["_law_hand"]
 _law_made : FnG K mg "_law_made" s_law_made ["_law_hand","_law_which","_law_many"]
 _law_field : FnG K mg "_law_field" s_law_field ["_law_hand","_law_which","_law_field_here"]
 _law_touch : FnG K mg "_law_touch" s_law_touch ["_law_hand","_law_act_here"]
 _law_by_hand : FnG K mg "_law_by_hand" s_law_by_hand ["_law_hand","_law_act_here"]
 _law_blocks : FnG K mg "_law_blocks" s_law_blocks ["_law_hand"]
 _law_alike : FnG K mg "_law_alike" s_law_alike ["_law_hall","_law_hand"]
 law : FnG K mg "law" slaw ["_law_script"]
 kT : L2.Mk K c.T T___init__.f
 kM : L2.Mk K c.M M___init__.f
 kS : L2.Mk K c.S S___init__.f
 kH : L2.Mk K c.H H___init__.f
set_option genInjectivity true
set_option genSizeOf true
set_option genSizeOfSpec true
end GH
section
variable {PR : PySem.Program} {w : PySem.World} {K : PySem.W.Frag} {mg : PySem.Str -> Option PySem.Value} {base : PySem.Heap}
namespace GH
open PySem L2
section
def Go (c : CA) (P : Pl) (n : Nat) (H : Hp) (S' : Hs) (Q : Hp -> Prop) : Prop:=∀ H',At c H' P S' -> Kp P n H H' -> Q H'
def CA.ex (c : CA) : Told -> Addr
 | .noThing=>c.nt
 | .noField=>c.nf
 | .noRoom=>c.nr
 | _=>c.nn
def optV : Option Int -> V
 | none=>.non
 | some i=>.int i
def optR (P : Pl) : Option Nat -> V
 | none=>.non
 | some k=>.ref (P.ad k)
theorem drop_at {α : Type} {l : List α} {i : Nat} {x : α} (h : l[i]? = some x) : l.drop i = x :: l.drop (i + 1):=by
 have hlt : i < l.length:=(List.getElem?_eq_some_iff.mp h).1
 rw [List.drop_eq_getElem_cons hlt]
 congr 1
 exact (List.getElem?_eq_some_iff.mp h).2
theorem get_map {α β : Type} {f : α -> β} {l : List α} {i : Nat} {y : β} (h : (l.map f)[i]? = some y) : ∃ x,l[i]? = some x /\ y = f x:=by
 rw [List.getElem?_map] at h
 cases e : l[i]? with
 | none=>rw [e] at h; cases h
 | some x=>rw [e] at h; exact ⟨x,rfl,(Option.some.inj h).symm⟩
theorem tyes {σ : St} {H : Hp} {Q : Bool -> Hp -> Prop} (h : Q true H) : tYes σ H Q:=h
theorem small (n : Nat) (h : n <= 1000) : n <= sizeLine:=Nat.le_of_lt (small1000 h)
end
end GH
namespace GH
open PySem L2
section
def isTh : Vl -> Bool
 | .thing _=>true
 | .num _=>false
theorem Lk.tyT {K : PySem.W.Frag} {mg : Str -> Option Value} (L : Lk K mg) {H : Hp} {a dx : Addr} {fs : List (Str × V)} (h : H a = some (.ins L.c.T dx fs)) : TyOf K H (.ref a) (.ref L.c.T):=.ins h L.cT L.tha L.thn L.thk L.thm
theorem Lk.isTy' {K : PySem.W.Frag} {mg : Str -> Option Value} (L : Lk K mg) {H : Hp} {P : Pl} {v : Vl} (hv : ∀ k,v = .thing k -> ∃ dx fs,H (P.ad k) = some (.ins L.c.T dx fs)) : ∃ t,PySem.W.kitOne K t (.ref L.c.T) = some (isTh v) /\ TyOf K H (P.v v) t:=by
 cases v with
 | num i=>exact ⟨_,L.kint,.int i⟩
 | thing k =>
  obtain ⟨dx,fs,e⟩:=hv k rfl
  exact ⟨_,L.kTT,L.tyT e⟩
theorem Lk.isTy {K : PySem.W.Frag} {mg : Str -> Option Value} (L : Lk K mg) {H : Hp} {P : Pl} {S : Hs} (M : At L.c H P S) {v : Vl} (hv : GoodV S v) : ∃ t,PySem.W.kitOne K t (.ref L.c.T) = some (isTh v) /\ TyOf K H (P.v v) t :=
 L.isTy' fun k e=>let ⟨dx,h⟩:=M.th k (hv k e); ⟨dx,_,h⟩
end
end GH
namespace GH
open PySem L2
section
theorem atI_field {P : Pl} {l : List Vl} {f : Int} {v : Vl} (h0 : 0 <= f) (h : l[f.toNat]? = some v) : atI (l.map P.v) f = some (P.v v):=by
 have e : f = ((f.toNat : Nat) : Int):=by omega
 rw [e]
 exact atI_nat (by rw [List.getElem?_map,h]; rfl)
end
end GH
namespace GH
open PySem L2
section
end
end GH
namespace GH
open PySem L2
section
inductive Dt where
 | f (v : V)
 | t (ds : List Dt)
 | l (ds : List Dt)
mutual
inductive Rep (H : Hp) : V -> Dt -> Prop
 | f {v : V} : flatV v = true -> Rep H v (.f v)
 | t {a : Addr} {vs : List V} {ds : List Dt} : H a = some (.tup vs) -> Reps H vs ds -> Rep H (.ref a) (.t ds)
 | l {a : Addr} {vs : List V} {ds : List Dt} : H a = some (.lst vs) -> Reps H vs ds -> Rep H (.ref a) (.l ds)
inductive Reps (H : Hp) : List V -> List Dt -> Prop
 | nil : Reps H [] []
 | cons {v : V} {d : Dt} {vs : List V} {ds : List Dt} : Rep H v d -> Reps H vs ds -> Reps H (v :: vs) (d :: ds)
end
inductive Dt.pure : Dt -> Prop
 | f (v : V) : Dt.pure (.f v)
 | t {ds : List Dt} : (∀ d ∈ ds,Dt.pure d) -> Dt.pure (.t ds)
mutual
theorem Rep.mono {H H' : Hp} (h : ∀ b o,H b = some o -> H' b = some o) : ∀ {v : V} {d : Dt},Rep H v d -> Rep H' v d
 | _,_,.f e=>.f e
 | _,_,.t e r=>.t (h _ _ e) (Reps.mono h r)
 | _,_,.l e r=>.l (h _ _ e) (Reps.mono h r)
theorem Reps.mono {H H' : Hp} (h : ∀ b o,H b = some o -> H' b = some o) : ∀ {vs : List V} {ds : List Dt},Reps H vs ds -> Reps H' vs ds
 | _,_,.nil=>.nil
 | _,_,.cons r rs=>.cons (Rep.mono h r) (Reps.mono h rs)
end
mutual
theorem Rep.tups {H H' : Hp} (h : ∀ b xs,H b = some (.tup xs) -> H' b = some (.tup xs)) : ∀ {v : V} {d : Dt},Rep H v d -> d.pure -> Rep H' v d
 | _,_,.f e,_=>.f e
 | _,_,.t e r,.t p=>.t (h _ _ e) (Reps.tups h r p)
theorem Reps.tups {H H' : Hp} (h : ∀ b xs,H b = some (.tup xs) -> H' b = some (.tup xs)) : ∀ {vs : List V} {ds : List Dt},Reps H vs ds -> (∀ d ∈ ds,d.pure) -> Reps H' vs ds
 | _,_,.nil,_=>.nil
 | _,_,.cons r rs,p=>.cons (Rep.tups h r (p _ (List.mem_cons_self ..))) (Reps.tups h rs fun d hd=>p d (List.mem_cons_of_mem _ hd))
end
theorem Reps.append {H : Hp} : ∀ {vs ws : List V} {ds es : List Dt},Reps H vs ds -> Reps H ws es -> Reps H (vs ++ ws) (ds ++ es)
 | _,_,_,_,.nil,q=>q
 | _,_,_,_,.cons r rs,q=>.cons r (rs.append q)
theorem Reps.len {H : Hp} : ∀ {vs : List V} {ds : List Dt},Reps H vs ds -> vs.length = ds.length
 | _,_,.nil=>rfl
 | _,_,.cons _ rs=>congrArg (· + 1) rs.len
theorem Reps.get {H : Hp} : ∀ {vs : List V} {ds : List Dt} {i : Nat} {v : V},Reps H vs ds -> vs[i]? = some v -> ∃ d,ds[i]? = some d /\ Rep H v d
 | _,_,_,_,.nil,e=>by simp at e
 | _,_,0,_,.cons r _,e=>by simp at e; subst e; exact ⟨_,rfl,r⟩
 | _,_,i + 1,v,.cons _ rs,e=>by
  obtain ⟨d,h1,h2⟩:=Reps.get (i:=i) (v:=v) rs (by simpa using e)
  exact ⟨d,by simpa using h1,h2⟩
theorem Reps.get' {H : Hp} : ∀ {vs : List V} {ds : List Dt} {i : Nat} {d : Dt},Reps H vs ds -> ds[i]? = some d -> ∃ v,vs[i]? = some v /\ Rep H v d
 | _,_,_,_,.nil,e=>by simp at e
 | _,_,0,_,.cons r _,e=>by simp at e; subst e; exact ⟨_,rfl,r⟩
 | _,_,i + 1,d,.cons _ rs,e=>by
  obtain ⟨v,h1,h2⟩:=Reps.get' (i:=i) (d:=d) rs (by simpa using e)
  exact ⟨v,by simpa using h1,h2⟩
theorem reps_flat {H : Hp} : ∀ {vs : List V},vs.all flatV = true -> Reps H vs (vs.map .f)
 | [],_=>.nil
 | v :: vs,h=>by
  rw [List.all_cons,Bool.and_eq_true] at h
  exact .cons (.f h.1) (reps_flat h.2)
def blocksGo (t : Nat -> Th) (size : Int) : Int -> List Nat -> List (Int × Int × Int)
 | a,[]=>if a < size then [(a,size - a,0)] else []
 | a,k :: r=>(if a < (t k).place then [(a,(t k).place - a,0)] else []) ++ ((t k).place,(t k).words,1) :: blocksGo t size (t k).behind r
def Hs.blocks (S : Hs) : List (Int × Int × Int):=blocksGo S.th S.size 0 S.things
def triD (b : Int × Int × Int) : Dt:=.t [.f (.int b.1),.f (.int b.2.1),.f (.int b.2.2)]
theorem triD_pure (b : Int × Int × Int) : (triD b).pure:=.t fun d hd=>by
 simp at hd; rcases hd with rfl | rfl | rfl <;> exact .f _
theorem rep_tri {H : Hp} {a : Addr} {p w u : Int} (h : H a = some (.tup [.int p,.int w,.int u])) : Rep H (.ref a) (triD (p,w,u)):=.t h (.cons (.f rfl) (.cons (.f rfl) (.cons (.f rfl) .nil)))
end
end GH
namespace GH
open PySem L2
section
theorem shade_filter (vs : List Vl) : ∀ S : Hs,S.shadeAll (vs.filter isTh) = S.shadeAll vs:=by
 induction vs with
 | nil=>intro S; rfl
 | cons v vs ih =>
  intro S
  cases v with
  | num i=>exact ih S
  | thing k=>exact ih (S.makeGrey (.thing k))
end
end GH
namespace GH
open PySem L2
section
structure Fm (P : Pl) (n : Nat) (P' : Pl) (n' : Nat) (H H' : Hp) : Prop where
 keep : ∀ b o,H b = some o -> ¬ Own P n b -> H' b = some o
 grow : ∀ b,Own P' n' b -> Own P n b \/ H b = none
theorem Kp.fm {P : Pl} {n : Nat} {H H' : Hp} (k : Kp P n H H') : Fm P n P n H H':=⟨k,fun _ h=>.inl h⟩
end
end GH
namespace GH
open PySem L2
section
theorem make_1 {S : Hs} {h : Int} {m : Nat} {p : Int} (e : S.free (2 + m) = some p) : S.make h m = (S.made h m p,.non):=by unfold Hs.make; rw [e]
theorem make_2 {S : Hs} {h : Int} {m : Nat} {p : Int} (e : S.free (2 + m) = none) (e2 : S.swept.free (2 + m) = some p) : S.make h m = (S.swept.made h m p,.non):=by unfold Hs.make; rw [e]; dsimp only; rw [e2]
theorem make_3 {S : Hs} {h : Int} {m : Nat} (e : S.free (2 + m) = none) (e2 : S.swept.free (2 + m) = none) : S.make h m = (S.swept,.noRoom):=by unfold Hs.make; rw [e]; dsimp only; rw [e2]
end
end GH
namespace GH
open PySem L2
section
structure HAt (c : CA) (H : Hp) (hh : Addr) (P : Pl) (S : Hs) : Prop where
 at_ : At c H P S
 hall : ∃ dx,H hh = some (.ins c.H dx (hfl P))
theorem HAt.no {c : CA} {H : Hp} {hh : Addr} {P : Pl} {S : Hs} (h : HAt c H hh P S) : ¬ Own P S.n hh:=fun z=>by
 obtain ⟨dx,e⟩:=h.hall
 have ne:=h.at_.ne
 rcases z with rfl | rfl | rfl | rfl | ⟨j,hj,rfl | rfl⟩
 ·obtain ⟨d,q⟩:=h.at_.mem; rw [e] at q; injection q with q; injection q with q; exact ne.HM q
 ·obtain ⟨d,q⟩:=h.at_.sw; rw [e] at q; injection q with q; injection q with q; exact ne.HS q
 ·have q:=h.at_.hd; rw [e] at q; cases q
 ·have q:=h.at_.ls; rw [e] at q; cases q
 ·obtain ⟨d,q⟩:=h.at_.th j hj; rw [e] at q; injection q with q; injection q with q; exact ne.HT q
 ·have q:=h.at_.fl j hj; rw [e] at q; cases q
theorem HAt.go {c : CA} {H H' : Hp} {hh : Addr} {P : Pl} {S S' : Hs} (h : HAt c H hh P S) (M : At c H' P S') (k : Kp P S.n H H') : HAt c H' hh P S' :=
 ⟨M,let ⟨dx,e⟩:=h.hall; ⟨dx,k hh _ e h.no⟩⟩
theorem HAt.ext {c : CA} {H H' : Hp} {hh : Addr} {P : Pl} {S : Hs} (M : HAt c H hh P S) (s : ∀ b o,H b = some o -> H' b = some o) : HAt c H' hh P S :=
 ⟨M.at_.other fun b hb=>by
  obtain ⟨o,e⟩:=M.at_.there hb
  rw [e]; exact s b o e,let ⟨d,e⟩:=M.hall; ⟨d,s _ _ e⟩⟩
def HGo (c : CA) (hh : Addr) (P : Pl) (n : Nat) (H : Hp) (S' : Hs) (Q : Hp -> Prop) : Prop:=∀ H',HAt c H' hh P S' -> Kp P n H H' -> Q H'
end
end GH
namespace GH
open PySem L2
section
mutual
def eqD : Dt -> Dt -> Bool
 | .f a,.f b=>eqV a b
 | .t as,.t bs=>eqDs as bs
 | .l as,.l bs=>eqDs as bs
 | _,_=>false
def eqDs : List Dt -> List Dt -> Bool
 | [],[]=>true
 | a :: as,b :: bs=>eqD a b && eqDs as bs
 | _,_=>false
end
mutual
def dep : Dt -> Nat
 | .f _=>0
 | .t ds=>deps ds + 1
 | .l ds=>deps ds + 1
def deps : List Dt -> Nat
 | []=>0
 | d :: ds=>max (dep d) (deps ds)
end
theorem dep_mem : ∀ {ds : List Dt} {d : Dt},d ∈ ds -> dep d <= deps ds
 | [],d,h=>nomatch h
 | x :: ds,d,h=>by
  rw [deps]
  rcases List.mem_cons.mp h with e | e
  ·rw [e]; exact Nat.le_max_left _ _
  ·exact Nat.le_trans (dep_mem e) (Nat.le_max_right _ _)
theorem eqV_refl {v : V} (h : flatV v = true) : eqV v v = true:=by
 cases v with
 | non=>rfl
 | bl b=>exact beq_self_eq_true b
 | int i=>exact beq_self_eq_true i
 | str x=>exact beq_self_eq_true x
 | _=>cases h
mutual
theorem Rep.fn {H : Hp} : ∀ {v : V} {d e : Dt},Rep H v d -> Rep H v e -> d = e
 | _,_,_,.f _,.f _=>rfl
 | _,_,_,.f h,.t _ _=>by cases h
 | _,_,_,.f h,.l _ _=>by cases h
 | _,_,_,.t _ _,.f h=>by cases h
 | _,_,_,.l _ _,.f h=>by cases h
 | _,_,_,.t e r,.t e' r'=>by
  rw [e] at e'
  cases e'
  rw [Reps.fn r r']
 | _,_,_,.t e r,.l e' r'=>by rw [e] at e'; cases e'
 | _,_,_,.l e r,.t e' r'=>by rw [e] at e'; cases e'
 | _,_,_,.l e r,.l e' r'=>by
  rw [e] at e'
  cases e'
  rw [Reps.fn r r']
theorem Reps.fn {H : Hp} : ∀ {vs : List V} {ds es : List Dt},Reps H vs ds -> Reps H vs es -> ds = es
 | _,_,_,.nil,.nil=>rfl
 | _,_,_,.cons r rs,.cons r' rs'=>by rw [Rep.fn r r',Reps.fn rs rs']
end
mutual
theorem Rep.refl {H : Hp} : ∀ {v : V} {d : Dt},Rep H v d -> eqD d d = true
 | _,_,.f h=>by rw [eqD]; exact eqV_refl h
 | _,_,.t _ r=>by rw [eqD]; exact Reps.refl r
 | _,_,.l _ r=>by rw [eqD]; exact Reps.refl r
theorem Reps.refl {H : Hp} : ∀ {vs : List V} {ds : List Dt},Reps H vs ds -> eqDs ds ds = true
 | _,_,.nil=>by rw [eqDs]
 | _,_,.cons r rs=>by rw [eqDs,Rep.refl r,Reps.refl rs]; rfl
end
theorem eqDs_len : ∀ {ds es : List Dt},eqDs ds es = true -> ds.length = es.length
 | [],[],_=>rfl
 | [],_ :: _,h=>by rw [eqDs] at h; cases h; all_goals (intros; contradiction)
 | _ :: _,[],h=>by rw [eqDs] at h; cases h; all_goals (intros; contradiction)
 | a :: ds,b :: es,h=>by
  rw [eqDs,Bool.and_eq_true] at h
  rw [List.length_cons,List.length_cons,eqDs_len h.2]
def at2 (ds es : List Dt) (j : Nat) : Bool:=match ds[j]?,es[j]? with
 | some d,some e=>eqD d e
 | _,_=>true
theorem range_all2 : ∀ (ds es : List Dt),((List.range (min ds.length es.length)).all (at2 ds es) && ds.length == es.length) = eqDs ds es
 | [],[]=>by rw [eqDs]; rfl
 | [],b :: es=>by
  rw [eqDs]
  ·show (_ && (0 == es.length + 1)) = false
   have : (0 == es.length + 1) = false:=rfl
   rw [this,Bool.and_false]
  all_goals (intros; contradiction)
 | a :: ds,[]=>by
  rw [eqDs]
  ·show (_ && (ds.length + 1 == 0)) = false
   have : (ds.length + 1 == 0) = false:=rfl
   rw [this,Bool.and_false]
  all_goals (intros; contradiction)
 | a :: ds,b :: es=>by
  rw [eqDs,<- range_all2 ds es]
  have e1 : min (a :: ds).length (b :: es).length = min ds.length es.length + 1:=by rw [List.length_cons,List.length_cons]; omega
  rw [e1,List.range_succ_eq_map,List.all_cons,List.all_map]
  have e2 : ((a :: ds).length == (b :: es).length) = (ds.length == es.length):=by
   rw [List.length_cons,List.length_cons,Bool.eq_iff_iff]; simp
  rw [e2,Bool.and_assoc]
  rfl
theorem range_all1 {ds es : List Dt} (h : ds.length = es.length) : (List.range ds.length).all (at2 ds es) = eqDs ds es:=by
 have:=range_all2 ds es
 rw [<- h,Nat.min_self,beq_self_eq_true,Bool.and_true] at this
 exact this
section
variable {PR : Program} {w : World} {H : Hp} {s : Shared}
theorem isTup_of (ok : HOk PR w H s.heap) {a : Addr} {vs : List V} (e : H a = some (.tup vs)) : ∃ its : List Value,Vals vs its /\ s.heap.IsTuple a its.toArray:=by
 obtain ⟨_,its,r,p⟩:=ok a _ e
 exact ⟨its,r,p⟩
theorem isList_of (ok : HOk PR w H s.heap) {a : Addr} {vs : List V} (e : H a = some (.lst vs)) : ∃ its : List Value,Vals vs its /\ s.heap.IsList a its.toArray:=by
 obtain ⟨_,its,n,r,p⟩:=ok a _ e
 exact ⟨its,r,⟨_,p,rfl,n,rfl⟩⟩
theorem get_vals {vs : List V} {its : List Value} (r : Vals vs its) {ds : List Dt} (rs : Reps H vs ds) {j : Nat} (hj : j < its.toArray.size) : ∃ v d,vs[j]? = some v /\ ds[j]? = some d /\ RelV v its.toArray[j] /\ Rep H v d:=by
 have hj2 : j < vs.length:=by rw [List.size_toArray,<- r.length] at hj; exact hj
 obtain ⟨v,hv⟩ : ∃ v,vs[j]? = some v:=⟨_,List.getElem?_eq_getElem hj2⟩
 obtain ⟨u,hu,rv⟩:=r.get hv
 obtain ⟨d,hd,rd⟩:=rs.get hv
 refine ⟨v,d,hv,hd,?_,rd⟩
 have h2 : its.toArray[j]? = some u:=by simpa using hu
 rw [Array.getElem?_eq_getElem hj] at h2
 have e:=Option.some.inj h2
 rw [e]
 exact rv
theorem rep_eqAt (ok : HOk PR w H s.heap) : ∀ (n : Nat) {A : Around} {v u : V} {d e : Dt} {v' u' : Value},A.units + n < cLine -> dep d <= n -> Rep H v d -> Rep H u e -> RelV v v' -> RelV u u' -> SeqAt.EqAt A s v' u' (eqD d e):=by
 intro n
 induction n with
 | zero =>
  intro A v u d e v' u' hu hd rd re rv ru
  have hu' : A.units < cLine:=by omega
  cases rd with
  | f fv =>
   cases re with
   | f fu=>rw [eqD]; exact eqAt_V rv ru fv fu
   | t eu ru' =>
    cases ru
    obtain ⟨its,_,p⟩:=isTup_of ok eu
    rw [eqD]
    ·cases v with
     | non=>cases rv; exact SeqAt.EqAt.none_tuple p hu'
     | bl b=>cases rv; exact SeqAt.EqAt.bool_tuple b p hu'
     | int i=>obtain ⟨t,rfl⟩:=rv; exact SeqAt.EqAt.int_tuple i t p hu'
     | str x=>obtain ⟨t,rfl⟩:=rv; exact SeqAt.EqAt.str_tuple x t p hu'
     | _=>cases fv
    all_goals (intros; contradiction)
   | l eu ru' =>
    cases ru
    obtain ⟨its,_,p⟩:=isList_of ok eu
    rw [eqD]
    ·cases v with
     | non=>cases rv; exact SeqAt.EqAt.none_list p hu'
     | bl b=>cases rv; exact SeqAt.EqAt.bool_list b p hu'
     | int i=>obtain ⟨t,rfl⟩:=rv; exact SeqAt.EqAt.int_list i t p hu'
     | str x=>obtain ⟨t,rfl⟩:=rv; exact SeqAt.EqAt.str_list x t p hu'
     | _=>cases fv
    all_goals (intros; contradiction)
  | t _ _=>rw [dep] at hd; omega
  | l _ _=>rw [dep] at hd; omega
 | succ n ih =>
  intro A v u d e v' u' hu hd rd re rv ru
  have hu' : A.units < cLine:=by omega
  have hin : A.in1.units + n < cLine:=by
   have : A.in1.units = A.units + 1:=rfl
   omega
  have deep : ∀ {ds es : List Dt} {vs us : List V} {its its2 : List Value},deps ds <= n -> Reps H vs ds -> Reps H us es -> Vals vs its -> Vals us its2 -> ∀ j (h1 : j < its.toArray.size) (h2 : j < its2.toArray.size),SeqAt.EqAt A.in1 s its.toArray[j] its2.toArray[j] (at2 ds es j):=by
   intro ds es vs us its its2 hds r1 r2 v1 v2 j h1 h2
   obtain ⟨x,dx,_,hdx,rx,px⟩:=get_vals v1 r1 h1
   obtain ⟨y,dy,_,hdy,ry,py⟩:=get_vals v2 r2 h2
   have : at2 ds es j = eqD dx dy:=by unfold at2; rw [hdx,hdy]
   rw [this]
   exact ih hin (Nat.le_trans (dep_mem (List.mem_of_getElem? hdx)) hds) px py rx ry
  cases rd with
  | f fv=>exact ih (by omega) (Nat.zero_le _) (.f fv) re rv ru
  | @t a vs ds ea rs =>
   cases rv
   obtain ⟨its,r1,p1⟩:=isTup_of ok ea
   rw [dep] at hd
   cases re with
   | f fu =>
    rw [eqD]
    ·cases u with
     | non=>cases ru; exact SeqAt.EqAt.tuple_none p1 hu'
     | bl b=>cases ru; exact SeqAt.EqAt.tuple_bool b p1 hu'
     | int i=>obtain ⟨t,rfl⟩:=ru; exact SeqAt.EqAt.tuple_int i t p1 hu'
     | str x=>obtain ⟨t,rfl⟩:=ru; exact SeqAt.EqAt.tuple_str x t p1 hu'
     | _=>cases fu
    all_goals (intros; contradiction)
   | @t b us es eb rs2 =>
    cases ru
    by_cases hab : a = b
    ·subst hab
     have he:=(Rep.t ea rs).fn (Rep.t eb rs2)
     rw [<- he,(Rep.t ea rs).refl]
     exact SeqAt.EqAt.same _
    ·obtain ⟨its2,r2,p2⟩:=isTup_of ok eb
     have h:=SeqAt.EqAt.of_refs hab (SeqAt.RcAt.tuples (e:=at2 ds es) p1 p2 hu' (deep (by omega) rs rs2 r1 r2))
     rw [List.size_toArray,List.size_toArray,<- r1.length,<- r2.length,rs.len,rs2.len,range_all2] at h
     rw [eqD]
     exact h
   | @l b us es eb rs2 =>
    cases ru
    obtain ⟨its2,r2,p2⟩:=isList_of ok eb
    rw [eqD]
    ·exact SeqAt.EqAt.tuple_list p1 p2 hu'
    all_goals (intros; contradiction)
  | @l a vs ds ea rs =>
   cases rv
   obtain ⟨its,r1,p1⟩:=isList_of ok ea
   rw [dep] at hd
   cases re with
   | f fu =>
    rw [eqD]
    ·cases u with
     | non=>cases ru; exact SeqAt.EqAt.list_none p1 hu'
     | bl b=>cases ru; exact SeqAt.EqAt.list_bool b p1 hu'
     | int i=>obtain ⟨t,rfl⟩:=ru; exact SeqAt.EqAt.list_int i t p1 hu'
     | str x=>obtain ⟨t,rfl⟩:=ru; exact SeqAt.EqAt.list_str x t p1 hu'
     | _=>cases fu
    all_goals (intros; contradiction)
   | @t b us es eb rs2 =>
    cases ru
    obtain ⟨its2,r2,p2⟩:=isTup_of ok eb
    rw [eqD]
    ·exact SeqAt.EqAt.list_tuple p1 p2 hu'
    all_goals (intros; contradiction)
   | @l b us es eb rs2 =>
    cases ru
    by_cases hab : a = b
    ·subst hab
     have he:=(Rep.l ea rs).fn (Rep.l eb rs2)
     rw [<- he,(Rep.l ea rs).refl]
     exact SeqAt.EqAt.same _
    ·obtain ⟨its2,r2,p2⟩:=isList_of ok eb
     rw [eqD]
     by_cases hl : ds.length = es.length
     ·have hs : its.toArray.size = its2.toArray.size:=by rw [List.size_toArray,List.size_toArray,<- r1.length,<- r2.length,rs.len,rs2.len,hl]
      have h:=SeqAt.EqAt.of_refs hab (SeqAt.RcAt.lists (e:=at2 ds es) p1 p2 hs hu' (deep (by omega) rs rs2 r1 r2))
      rw [List.size_toArray,<- r1.length,rs.len,range_all1 hl] at h
      exact h
     ·have hs : (its.toArray.size != its2.toArray.size) = true:=by
       rw [List.size_toArray,List.size_toArray,<- r1.length,<- r2.length,rs.len,rs2.len]; simpa using hl
      have e0 : eqDs ds es = false:=by
       cases q : eqDs ds es with
       | false=>rfl
       | true=>exact absurd (eqDs_len q) hl
      rw [e0]
      exact SeqAt.EqAt.of_refs hab (SeqAt.RcAt.lists_lengths p1 p2 hs hu')
end
section
variable {X : Cx}
theorem in1_units (A : Around) : A.in1.units = A.units + 1:=rfl
def rEqD (neg : Bool) : R2:=fun x y H Q=>∃ d e,Rep H x d /\ Rep H y e /\ dep d <= 20 /\ (isSeq d = true /\ isSeq e = true) /\ Q (.bl (if neg then !eqD d e else eqD d e)) H
where isSeq : Dt -> Bool
 | .f _=>false
 | _=>true
theorem deepAt {pins : List (Addr × Obj)} {σ : St} {H : Hp} {s : Shared} (I : Inv X pins σ H s) {A : Around} {n : Nat} (hu : A.units + 1 + n < cLine) {ds es : List Dt} {vs us : List V} {its its2 : List Value} (hds : deps ds <= n) (r1 : Reps H vs ds) (r2 : Reps H us es) (v1 : Vals vs its) (v2 : Vals us its2) :
  ∀ j (h1 : j < its.toArray.size) (h2 : j < its2.toArray.size),SeqAt.EqAt A.in1 s its.toArray[j] its2.toArray[j] (at2 ds es j):=by
 intro j h1 h2
 obtain ⟨x,dx,_,hdx,rx,px⟩:=get_vals v1 r1 h1
 obtain ⟨y,dy,_,hdy,ry,py⟩:=get_vals v2 r2 h2
 have : at2 ds es j = eqD dx dy:=by unfold at2; rw [hdx,hdy]
 rw [this]
 exact rep_eqAt I.hok n (by rw [in1_units]; omega) (Nat.le_trans (dep_mem (List.mem_of_getElem? hdx)) hds) px py rx ry
theorem op_neD (hu : X.A.units + 64 < cLine) : OpR X (compareOp .NotEq) (rEqD true):=by
 intro pins s σ H x y v u Q I rx ry h
 obtain ⟨d,e,rd,re,hd,⟨sd,se⟩,q⟩:=h
 have hu' : X.A.units < cLine:=by omega
 have fin : EP X pins σ Q (.bool (!eqD d e)) s:=⟨.bl _,H,I,rfl,q⟩
 cases rd with
 | f _=>cases sd
 | @t a vs ds ea rs =>
  cases rx
  obtain ⟨its,r1,p1⟩:=isTup_of I.hok ea
  rw [dep] at hd
  cases re with
  | f _=>cases se
  | @t b us es eb rs2 =>
   cases ry
   obtain ⟨its2,r2,p2⟩:=isTup_of I.hok eb
   have h:=SeqAt.RcNeAt.tuples (e:=at2 ds es) p1 p2 hu' (deepAt I (n:=20) (by omega) (by omega) rs rs2 r1 r2)
   rw [List.size_toArray,List.size_toArray,<- r1.length,<- r2.length,rs.len,rs2.len,range_all2] at h
   rw [eqD] at fin
   exact h _ _ _ _ fin
  | @l b us es eb rs2 =>
   cases ry
   obtain ⟨its2,r2,p2⟩:=isList_of I.hok eb
   rw [eqD] at fin
   ·exact SeqAt.RcNeAt.tuple_list p1 p2 hu' _ _ _ _ fin
   all_goals (intros; contradiction)
 | @l a vs ds ea rs =>
  cases rx
  obtain ⟨its,r1,p1⟩:=isList_of I.hok ea
  rw [dep] at hd
  cases re with
  | f _=>cases se
  | @t b us es eb rs2 =>
   cases ry
   obtain ⟨its2,r2,p2⟩:=isTup_of I.hok eb
   rw [eqD] at fin
   ·exact SeqAt.RcNeAt.list_tuple p1 p2 hu' _ _ _ _ fin
   all_goals (intros; contradiction)
  | @l b us es eb rs2 =>
   cases ry
   obtain ⟨its2,r2,p2⟩:=isList_of I.hok eb
   rw [eqD] at fin
   by_cases hl : ds.length = es.length
   ·have hs : its.toArray.size = its2.toArray.size:=by rw [List.size_toArray,List.size_toArray,<- r1.length,<- r2.length,rs.len,rs2.len,hl]
    have h:=SeqAt.RcNeAt.lists (e:=at2 ds es) p1 p2 hs hu' (deepAt I (n:=20) (by omega) (by omega) rs rs2 r1 r2)
    rw [List.size_toArray,<- r1.length,rs.len,range_all1 hl] at h
    exact h _ _ _ _ fin
   ·have hs : (its.toArray.size != its2.toArray.size) = true:=by
     rw [List.size_toArray,List.size_toArray,<- r1.length,<- r2.length,rs.len,rs2.len]; simpa using hl
    have e0 : eqDs ds es = false:=by
     cases q : eqDs ds es with
     | false=>rfl
     | true=>exact absurd (eqDs_len q) hl
    rw [e0] at fin
    exact SeqAt.RcNeAt.lists_lengths p1 p2 hs hu' _ _ _ _ fin
end
end
end GH
namespace GH
open PySem L2
section
def mix (c p m : Int) : Int:=c * 48271 % p % m
def actH (c : Int) : Int:=mix c 9973 (if c % 3 = 0 then 8 else 5)
def actO (c : Int) : Int:=mix c 9967 (if c % 3 = 1 then 8 else 5)
def actF (c : Int) : Int:=mix c 9931 (if c % 2 = 0 then 4 else 6)
def actT (c : Int) : Int:=mix c 9949 17
def actOf (c : Int) (sw : Bool) : Act :=
 if actT c < 4 then .make (actH c) (mix c 9941 7).toNat
 else if actT c < 8 then .store (actH c) (actF c) (actO c)
 else if actT c < 10 then .load (actH c) (actO c) (actF c)
 else if actT c = 10 then .copy (actH c) (actO c)
 else if actT c = 11 \/ sw = false then .number (actH c) c
 else if actT c = 12 then .begin
 else if actT c = 13 then .slide
 else if actT c = 14 then .finish
 else .step (mix c 9929 (if c % 8 = 0 then 41 else 7)).toNat
def actsOf (ns : List Int) (sw : Bool) : List Act:=.make 0 3 :: .make 1 2 :: ((ns.drop 1).take 62).map fun c=>actOf c sw
def actV : Act -> List V
 | .make h m=>[.str "make",.int h,.int m]
 | .store h f o=>[.str "store",.int h,.int f,.int o]
 | .load h o f=>[.str "load",.int h,.int o,.int f]
 | .copy h o=>[.str "copy",.int h,.int o]
 | .number h n=>[.str "number",.int h,.int n]
 | .begin=>[.str "begin"]
 | .slide=>[.str "slide"]
 | .finish=>[.str "finish"]
 | .step n=>[.str "step",.int n]
def actD (a : Act) : Dt:=.t ((actV a).map .f)
theorem actD_pure (a : Act) : (actD a).pure:=.t fun d hd=>by
 obtain ⟨v,_,rfl⟩:=List.mem_map.mp hd; exact .f v
theorem rep_act {H : Hp} {r : Addr} {a : Act} (h : H r = some (.tup (actV a))) : Rep H (.ref r) (actD a):=.t h (reps_flat (by cases a <;> rfl))
theorem flat_inv {H : Hp} : ∀ {vs ws : List V},Reps H vs (ws.map .f) -> vs = ws
 | [],[],_=>rfl
 | [],_ :: _,h=>by cases h
 | v :: vs,[],h=>by cases h
 | v :: vs,w :: ws,h=>by
  rw [List.map_cons] at h
  cases h with
  | cons r rs=>cases r; rw [flat_inv rs]
theorem act_rep {H : Hp} {v : V} {a : Act} (h : Rep H v (actD a)) : ∃ r,v = .ref r /\ H r = some (.tup (actV a)):=by
 unfold actD at h
 cases h with
 | t e r=>rw [flat_inv r] at e; exact ⟨_,rfl,e⟩
theorem mix_lo {c p m : Int} (h : 0 < m) : 0 <= mix c p m:=Int.emod_nonneg _ (by omega)
theorem mix_hi {c p m : Int} (h : 0 < m) : mix c p m < m:=Int.emod_lt_of_pos _ h
structure Fit (a : Act) : Prop where
 make : ∀ h m,a = .make h m -> m <= 6
 store : ∀ h f o,a = .store h f o -> h.natAbs <= 1000 /\ f.natAbs <= 1000
 load : ∀ h o f,a = .load h o f -> o.natAbs <= 1000 /\ f.natAbs <= 1000
theorem fit_actOf (c : Int) (sw : Bool) : Fit (actOf c sw):=by
 have h1 : 0 <= actH c /\ actH c < 8:=by unfold actH; split <;> exact ⟨mix_lo (by decide),Int.lt_of_lt_of_le (mix_hi (by decide)) (by decide)⟩
 have h2 : 0 <= actO c /\ actO c < 8:=by unfold actO; split <;> exact ⟨mix_lo (by decide),Int.lt_of_lt_of_le (mix_hi (by decide)) (by decide)⟩
 have h3 : 0 <= actF c /\ actF c < 8:=by unfold actF; split <;> exact ⟨mix_lo (by decide),Int.lt_of_lt_of_le (mix_hi (by decide)) (by decide)⟩
 have h4 : 0 <= mix c 9941 7 /\ mix c 9941 7 < 7:=⟨mix_lo (by decide),mix_hi (by decide)⟩
 unfold actOf
 refine ⟨?_,?_,?_⟩ <;> intros <;> (repeat' split at *) <;> (rename_i e; first | (cases e; omega) | (cases e; constructor <;> omega) | cases e)
theorem Fit.small {a : Act} (f : Fit a) : a.small:=by
 cases a with
 | make h m=>exact f.make h m rfl
 | _=>trivial
theorem log_small {i : Int} (h : i.natAbs <= 1000) : i.natAbs.log2 < 1920:=Nat.lt_of_le_of_lt (Nat.log2_le_self _) (by omega)
def Told.v : Told -> V
 | .non=>.non
 | .int i=>.int i
 | .noThing=>.str "no thing"
 | .noField=>.str "no field"
 | .noRoom=>.str "no room"
 | .notNow=>.str "not now"
def Told.ok : Told -> Bool
 | .non=>true
 | .int _=>true
 | _=>false
theorem sql_keep {K : PySem.W.Frag} {H H' : Hp} {a : Addr} {xs : List V} (h : SqL K H a xs) (k : ∀ o,H a = some o -> H' a = some o) : SqL K H' a xs:=by
 rcases h with (h | ⟨o,h⟩) | h
 ·exact .inl (.inl (k _ h))
 ·exact .inl (.inr ⟨o,k _ h⟩)
 ·exact .inr h
theorem act_n (S : Hs) (a : Act) : (S.act a).1.n <= S.n + 1:=by
 cases a with
 | make h m =>
  show (S.make h m).1.n <= _
  unfold Hs.make
  cases S.free (2 + m) with
  | some p=>exact Nat.le_refl _
  | none =>
   dsimp only
   have:=(Same.swept S).n
   cases S.swept.free (2 + m) with
   | some p=>show S.swept.n + 1 <= _; omega
   | none=>show S.swept.n <= _; omega
 | store h f o =>
  show (S.store h f o).1.n <= _
  unfold Hs.store
  split
  ·show (if S.stage = .mark then _ else S).n <= _
   split
   ·rw [(Same.makeGrey S _).n]; omega
   ·omega
  ·exact Nat.le_succ _
  ·exact Nat.le_succ _
 | load h o f=>show (S.load h o f).1.n <= _; unfold Hs.load; split <;> exact Nat.le_succ _
 | copy h o=>exact Nat.le_succ _
 | number h n=>exact Nat.le_succ _
 | begin=>show (if S.stage = .idle then (S.begin,Told.non) else (S,.notNow)).1.n <= _; split
          ·show S.begin.n <= _; rw [(Same.begin S).n]; omega
          ·exact Nat.le_succ _
 | slide=>show (if S.stage = .idle then (S.slide,Told.non) else (S,.notNow)).1.n <= _; split <;> exact Nat.le_succ _
 | finish=>show S.finish.1.n <= _; rw [show S.finish.1.n = S.n from (Same.steps _ S).n]; omega
 | step n=>show (S.steps n).1.n <= _; rw [(Same.steps n S).n]; omega
theorem act_hands (S : Hs) (a : Act) : (S.act a).1.hands.length <= S.hands.length + 1:=by
 cases a with
 | make h m =>
  show (S.make h m).1.hands.length <= _
  unfold Hs.make
  cases S.free (2 + m) with
  | some p=>exact put_length _ _ _
  | none =>
   dsimp only
   have:=(Same.swept S).hands
   cases S.swept.free (2 + m) with
   | some p=>show (put S.swept.hands h _).length <= _; rw [this]; exact put_length _ _ _
   | none=>show S.swept.hands.length <= _; rw [this]; omega
 | store h f o =>
  show (S.store h f o).1.hands.length <= _
  unfold Hs.store
  split
  ·show (if S.stage = .mark then _ else S).hands.length <= _
   split
   ·rw [(Same.makeGrey S _).hands]; omega
   ·omega
  ·exact Nat.le_succ _
  ·exact Nat.le_succ _
 | load h o f=>show (S.load h o f).1.hands.length <= _; unfold Hs.load; split
               ·exact put_length _ _ _
               ·exact Nat.le_succ _
 | copy h o=>exact put_length _ _ _
 | number h n=>exact put_length _ _ _
 | begin=>show (if S.stage = .idle then (S.begin,Told.non) else (S,.notNow)).1.hands.length <= _; split
          ·show S.begin.hands.length <= _; rw [(Same.begin S).hands]; omega
          ·exact Nat.le_succ _
 | slide=>show (if S.stage = .idle then (S.slide,Told.non) else (S,.notNow)).1.hands.length <= _; split <;> exact Nat.le_succ _
 | finish=>show S.finish.1.hands.length <= _; rw [show S.finish.1.hands = S.hands from (Same.steps _ S).hands]; omega
 | step n=>show (S.steps n).1.hands.length <= _; rw [(Same.steps n S).hands]; omega
end
end GH
namespace GH
open PySem L2
section
def tyN : Dt -> String
 | .f (.bl _)=>"bool"
 | .f (.int _)=>"int"
 | .f (.str _)=>"str"
 | .f _=>"NoneType"
 | .t _=>"tuple"
 | .l _=>"list"
theorem Rep.ty {K : PySem.W.Frag} {H : Hp} {v : V} {d : Dt} (h : Rep H v d) : TyOf K H v (.type (tyN d)):=by
 cases h with
 | f e =>
  cases v with
  | non=>exact .non
  | bl b=>exact .bl b
  | int i=>exact .int i
  | str x=>exact .str x
  | _=>cases e
 | t e _=>exact .tup e
 | l e _=>exact .lst e
def isI : Dt -> Bool
 | .f (.int _)=>true
 | .f (.bl _)=>true
 | _=>false
def isB : Dt -> Bool
 | .f (.bl _)=>true
 | _=>false
def isTu : Dt -> Bool
 | .t _=>true
 | _=>false
theorem Lk.yI {K : PySem.W.Frag} {mg : Str -> Option Value} (L : Lk K mg) {H : Hp} {v : V} {d : Dt} (h : Rep H v d) : PySem.W.kitOne K (.type (tyN d)) (.type "int") = some (isI d):=by
 cases h with
 | f e =>
  cases v with
  | non=>exact L.k_NoneType_int
  | bl b=>exact L.k_bool_int
  | int i=>exact L.k_int_int
  | str x=>exact L.k_str_int
  | _=>cases e
 | t e _=>exact L.k_tuple_int
 | l e _=>exact L.k_list_int
theorem Lk.yB {K : PySem.W.Frag} {mg : Str -> Option Value} (L : Lk K mg) {H : Hp} {v : V} {d : Dt} (h : Rep H v d) : PySem.W.kitOne K (.type (tyN d)) (.type "bool") = some (isB d):=by
 cases h with
 | f e =>
  cases v with
  | non=>exact L.k_NoneType_bool
  | bl b=>exact L.k_bool_bool
  | int i=>exact L.k_int_bool
  | str x=>exact L.k_str_bool
  | _=>cases e
 | t e _=>exact L.k_tuple_bool
 | l e _=>exact L.k_list_bool
theorem Lk.yT {K : PySem.W.Frag} {mg : Str -> Option Value} (L : Lk K mg) {H : Hp} {v : V} {d : Dt} (h : Rep H v d) : PySem.W.kitOne K (.type (tyN d)) (.type "tuple") = some (isTu d):=by
 cases h with
 | f e =>
  cases v with
  | non=>exact L.k_NoneType_tuple
  | bl b=>exact L.k_bool_tuple
  | int i=>exact L.k_int_tuple
  | str x=>exact L.k_str_tuple
  | _=>cases e
 | t e _=>exact L.k_tuple_tuple
 | l e _=>exact L.k_list_tuple
def wholeD : Dt -> Bool
 | .f (.int _)=>true
 | _=>false
theorem wholeD_eq (d : Dt) : wholeD d = if isI d = true then !isB d else false:=by
 cases d with
 | f v=>cases v <;> rfl
 | t _=>rfl
 | l _=>rfl
end
end GH
namespace GH
open PySem L2
section
theorem mkL {H H' : Hp} {p : Addr} {xs : List V} (hp : H p = none) (e : upd H p (.lst xs) = H') : (∀ b o,H b = some o -> H' b = some o) /\ H' p = some (.lst xs):=by
 subst e
 exact ⟨fun b o e=>by rw [upd_ne (ne_of_none e hp)]; exact e,upd_same⟩
theorem fit_acts {ns : List Int} {sw : Bool} {a : Act} (h : a ∈ actsOf ns sw) : Fit a:=by
 unfold actsOf at h
 rcases List.mem_cons.mp h with rfl | h
 ·exact ⟨fun h m e=>by cases e; decide,(fun h f o e=>nomatch e),(fun h o f e=>nomatch e)⟩
 rcases List.mem_cons.mp h with rfl | h
 ·exact ⟨fun h m e=>by cases e; decide,(fun h f o e=>nomatch e),(fun h o f e=>nomatch e)⟩
 obtain ⟨c,_,rfl⟩:=List.mem_map.mp h
 exact fit_actOf c sw
theorem acts_len (ns : List Int) (sw : Bool) : (actsOf ns sw).length <= 64:=by
 unfold actsOf
 rw [List.length_cons,List.length_cons,List.length_map,List.length_take]
 omega
end
end GH
namespace GH
open PySem L2
section
theorem ix2 (x y : Int) (b : Bool) : atI [V.int x,V.int y] (if b = true then 1 else 0) = some (.int (if b = true then y else x)):=by cases b <;> rfl
theorem ix2m (x y c : Int) : atI [V.int x,V.int y] (c % 2) = some (.int (if c % 2 = 0 then x else y)):=by
 have hc : c % 2 = 0 \/ c % 2 = 1:=by omega
 rcases hc with h | h
 ·rw [h]; rfl
 ·rw [h]; rfl
theorem dec_if (i j x y : Int) : (if decide (V.int i = V.int j) = true then x else y) = if i = j then x else y:=by
 by_cases h : i = j
 ·subst h; simp
 ·rw [if_neg h,if_neg]; intro z; have:=of_decide_eq_true z; injection this with this; exact h this
theorem dec_iff {i j : Int} : decide (V.int i = V.int j) = true ↔ i = j:=by
 rw [decide_eq_true_iff]; exact ⟨fun h=>by injection h,fun h=>by rw [h]⟩
end
end GH
namespace GH
open PySem L2
section
theorem strT {x : Str} : decide (V.str x = V.str x) = true:=decide_eq_true rfl
theorem nm_store_make : decide (V.str "store" = V.str "make") = false:=by decide +kernel
theorem nm_load_make : decide (V.str "load" = V.str "make") = false:=by decide +kernel
theorem nm_load_store : decide (V.str "load" = V.str "store") = false:=by decide +kernel
theorem nm_copy_make : decide (V.str "copy" = V.str "make") = false:=by decide +kernel
theorem nm_copy_store : decide (V.str "copy" = V.str "store") = false:=by decide +kernel
theorem nm_copy_load : decide (V.str "copy" = V.str "load") = false:=by decide +kernel
theorem nm_number_make : decide (V.str "number" = V.str "make") = false:=by decide +kernel
theorem nm_number_store : decide (V.str "number" = V.str "store") = false:=by decide +kernel
theorem nm_number_load : decide (V.str "number" = V.str "load") = false:=by decide +kernel
theorem nm_number_copy : decide (V.str "number" = V.str "copy") = false:=by decide +kernel
theorem nm_begin_make : decide (V.str "begin" = V.str "make") = false:=by decide +kernel
theorem nm_begin_store : decide (V.str "begin" = V.str "store") = false:=by decide +kernel
theorem nm_begin_load : decide (V.str "begin" = V.str "load") = false:=by decide +kernel
theorem nm_begin_copy : decide (V.str "begin" = V.str "copy") = false:=by decide +kernel
theorem nm_begin_number : decide (V.str "begin" = V.str "number") = false:=by decide +kernel
theorem nm_slide_make : decide (V.str "slide" = V.str "make") = false:=by decide +kernel
theorem nm_slide_store : decide (V.str "slide" = V.str "store") = false:=by decide +kernel
theorem nm_slide_load : decide (V.str "slide" = V.str "load") = false:=by decide +kernel
theorem nm_slide_copy : decide (V.str "slide" = V.str "copy") = false:=by decide +kernel
theorem nm_slide_number : decide (V.str "slide" = V.str "number") = false:=by decide +kernel
theorem nm_slide_begin : decide (V.str "slide" = V.str "begin") = false:=by decide +kernel
theorem nm_finish_make : decide (V.str "finish" = V.str "make") = false:=by decide +kernel
theorem nm_finish_store : decide (V.str "finish" = V.str "store") = false:=by decide +kernel
theorem nm_finish_load : decide (V.str "finish" = V.str "load") = false:=by decide +kernel
theorem nm_finish_copy : decide (V.str "finish" = V.str "copy") = false:=by decide +kernel
theorem nm_finish_number : decide (V.str "finish" = V.str "number") = false:=by decide +kernel
theorem nm_finish_begin : decide (V.str "finish" = V.str "begin") = false:=by decide +kernel
theorem nm_finish_slide : decide (V.str "finish" = V.str "slide") = false:=by decide +kernel
theorem nm_step_make : decide (V.str "step" = V.str "make") = false:=by decide +kernel
theorem nm_step_store : decide (V.str "step" = V.str "store") = false:=by decide +kernel
theorem nm_step_load : decide (V.str "step" = V.str "load") = false:=by decide +kernel
theorem nm_step_copy : decide (V.str "step" = V.str "copy") = false:=by decide +kernel
theorem nm_step_number : decide (V.str "step" = V.str "number") = false:=by decide +kernel
theorem nm_step_begin : decide (V.str "step" = V.str "begin") = false:=by decide +kernel
theorem nm_step_slide : decide (V.str "step" = V.str "slide") = false:=by decide +kernel
theorem nm_step_finish : decide (V.str "step" = V.str "finish") = false:=by decide +kernel
end
end GH
namespace GH
open PySem L2
section
end
end GH
namespace GH
open PySem L2
section
end
end GH
namespace GH
open PySem L2
section
def Act.plain : Act -> Bool
 | .begin=>false
 | .slide=>false
 | .finish=>false
 | .step _=>false
 | _=>true
theorem act_same {S : Hs} {c : Act} (hp : c.plain = false) : Same S (S.act c).1:=by
 cases c with
 | begin=>show Same S (if S.stage = .idle then (S.begin,Told.non) else (S,.notNow)).1; split
          ·exact .begin S
          ·exact .refl S
 | slide=>show Same S (if S.stage = .idle then (S.slide,Told.non) else (S,.notNow)).1; split
          ·exact .slide S
          ·exact .refl S
 | finish=>exact .steps _ S
 | step n=>exact .steps _ S
 | _=>cases hp
end
end GH
namespace GH
open PySem L2
section
end
end GH
namespace GH
open PySem L2
section
theorem held_in {S : Hs} (ok : Ok S) {h : Int} {k : Nat} (e : S.held h = .thing k) : k ∈ S.things:=by
 obtain ⟨U,g⟩:=ok.gc
 exact g.sub k (g.held e)
theorem place_lt {t : Nat -> Th} {l : List Nat} (h : l.Pairwise fun j k=>(t j).behind <= (t k).place) : ∀ {j k : Nat},j ∈ l -> k ∈ l -> (t j).place = (t k).place -> j = k:=by
 intro j k hj hk e
 induction l with
 | nil=>cases hj
 | cons x r ih =>
  rw [List.pairwise_cons] at h
  have w : ∀ y ∈ r,(t x).place ≠ (t y).place:=fun y hy q=>by
   have:=h.1 y hy
   have:=words_pos (t x)
   unfold Th.behind at *
   omega
  rcases List.mem_cons.mp hj with z | hj'
  ·rcases List.mem_cons.mp hk with z2 | hk'
   ·rw [z,z2]
   ·rw [z] at e; exact absurd e (w k hk')
  ·rcases List.mem_cons.mp hk with z2 | hk'
   ·rw [z2] at e; exact absurd e.symm (w j hj')
   ·exact ih h.2 hj' hk'
theorem deps_le {n : Nat} : ∀ {ds : List Dt},(∀ d ∈ ds,dep d <= n) -> deps ds <= n
 | [],_=>by rw [deps]; omega
 | d :: ds,h=>by
  rw [deps]
  have h1:=h d (List.mem_cons_self ..)
  have h2:=deps_le (ds:=ds) fun x hx=>h x (List.mem_cons_of_mem _ hx)
  omega
theorem dep_tri (b : Int × Int × Int) : dep (triD b) <= 1:=by
 unfold triD
 rw [dep,deps,deps,deps,deps,dep,dep,dep]
 decide
theorem nm_number_thing : decide (V.str "number" = V.str "thing") = false:=by
 rw [decide_eq_false_iff_not]; intro e; injection e with e; revert e; decide +kernel
theorem At.notTup {c : CA} {H : Hp} {P : Pl} {S : Hs} (M : At c H P S) {b : Addr} {xs : List V} (e : H b = some (.tup xs)) : ¬ Own P S.n b:=fun z=>by
 rcases z with rfl | rfl | rfl | rfl | ⟨j,hj,rfl | rfl⟩
 ·obtain ⟨d,q⟩:=M.mem; rw [e] at q; cases q
 ·obtain ⟨d,q⟩:=M.sw; rw [e] at q; cases q
 ·have q:=M.hd; rw [e] at q; cases q
 ·have q:=M.ls; rw [e] at q; cases q
 ·obtain ⟨d,q⟩:=M.th j hj; rw [e] at q; cases q
 ·have q:=M.fl j hj; rw [e] at q; cases q
theorem told_self (t : Told) : scal t.v t.v = true:=by cases t <;> rfl
def Hs.coloursD (S : Hs) : Dt:=.t (S.things.map fun k=>.f (.str (S.th k).colour.s))
theorem colours_dep (S : Hs) : dep S.coloursD <= 1:=by
 unfold Hs.coloursD
 rw [dep]
 have:=deps_le (n:=0) (ds:=S.things.map fun k=>Dt.f (.str (S.th k).colour.s)) fun d hd=>by
  obtain ⟨i,_,rfl⟩:=List.mem_map.mp hd
  rw [dep]; omega
 omega
theorem blocks_dep (bl : List (Int × Int × Int)) : dep (.t (bl.map triD)) <= 2:=by
 rw [dep]
 have:=deps_le (n:=1) (ds:=bl.map triD) fun d hd=>by
  obtain ⟨b,_,rfl⟩:=List.mem_map.mp hd
  exact dep_tri b
 omega
def CompGo (J : It) (fv : List (Str × Nat)) (tt : TT) (te : TE) (σ : St) (Q : VK) (H : Hp) : Prop:=∃ W : Nat -> Nat -> List V -> Hp -> Prop,(∃ m,W 0 m [] H) /\ ∀ i m ys H,W i m ys H -> ys.length < sizeLine /\
 ((J.stop i H /\ ∀ D,H D = none -> Q (.ref D) (upd H D (.lst ys))) \/
  (J.go i H /\ ∀ x H',J.yld i H x H' -> tt (inner σ fv (some x)) H' fun b H2=>if b = true then te (inner σ fv (some x)) H2 fun y H3=>∃ m',m' < m /\ W (i + 1) m' (ys ++ [y]) H3 else ∃ m',m' < m /\ W (i + 1) m' ys H2))
@[irreducible] def tCompS (wi : TI) (fv : List (Str × Nat)) (tt : TT) (te : TE) : TE:=tComp wi fv tt te
theorem tCompS_eq (wi : TI) (fv : List (Str × Nat)) (tt : TT) (te : TE) : tCompS wi fv tt te = tComp wi fv tt te:=by unfold tCompS; rfl
theorem tcomp_of {wi : TI} {fv : List (Str × Nat)} {tt : TT} {te : TE} {σ : St} {H : Hp} {Q : VK} (h : wi σ H fun J H1=>CompGo J fv tt te σ Q H1) : tCompS wi fv tt te σ H Q:=by rw [tCompS_eq]; exact h
theorem pe_compS {X : Cx} {elt iter : Expr} {ifs : List Expr} {x : Str} {px pos : Pos} {scope : Scope} {cl : List (Str × Addr)} {fv : List (Str × Nat)} {wi : TI} {tt : TT} {te : TE} (hc : X.calm = true) (K : CompOk X scope x cl fv) (hi : PI X (.Name x px) iter wi) (ht : ∀ C s2 H2 fp,PTs (compCx X scope cl (x :: fv.map (·.1)) C s2 H2 fp) ifs tt) (he : ∀ C s2 H2 fp,PE (compCx X scope cl (x :: fv.map (·.1)) C s2 H2 fp) elt te)
  (hs : ∀ x,foldedSetIterable iter X.env x = pure x:=by intro _; rfl) : PE X (.ListComp elt [⟨.Name x px,iter,ifs,0⟩] scope pos) (tCompS wi fv tt te):=by rw [tCompS_eq]; exact pe_comp hc K hi ht he hs
theorem ps_setCompS {X : Cx} {elt iter : Expr} {ifs : List Expr} {x : Str} {px pos : Pos} {scope : Scope} {cl : List (Str × Addr)} {fv : List (Str × Nat)} {wi : TI} {tt : TT} {te : TE} {i : Nat} {y : Str} {py spos : Pos} (hc : X.calm = true) (K : CompOk X scope x cl fv) (hN : X.N.Nodup) (hi' : X.N[i]? = some y) (hy : Loc X.env.scope y)
  (hi : PI X (.Name x px) iter wi) (ht : ∀ C s2 H2 fp,PTs (compCx X scope cl (x :: fv.map (·.1)) C s2 H2 fp) ifs tt) (he : ∀ C s2 H2 fp,PE (compCx X scope cl (x :: fv.map (·.1)) C s2 H2 fp) elt te)
  (hsw : swapsWith (.ListComp elt [⟨.Name x px,iter,ifs,0⟩] scope pos) (some (.Name y py)) spos.line X.env = pure true:=by rfl)
  (hs : ∀ x,foldedSetIterable iter X.env x = pure x:=by intro _; rfl) (hf : X.fn y = true \/ X.env.scope.names.lookup y = some .local:=by first | exact .inl rfl | exact .inr rfl | assumption) :
  PS X (.Assign [.Name y py] (.ListComp elt [⟨.Name x px,iter,ifs,0⟩] scope pos) spos) (tAsg (tCompS wi fv tt te) (gName i)):=by rw [tCompS_eq]; exact ps_setComp hc K hN hi' hy hi ht he hsw hs hf
theorem comp_range {n : Nat} (hn : n <= 900) {σ : St} {fv : List (Str × Nat)} {te : TE} {Q : VK} {H : Hp} (f : Nat -> Dt)
  (step : ∀ (i : Nat) (H1 : Hp) (R : VK),i < n -> (∀ b o,H b = some o -> H1 b = some o) -> (∀ y H2,Rep H2 y (f i) -> (∀ b o,H1 b = some o -> H2 b = some o) -> R y H2) -> te (inner σ fv (some (.int i))) H1 R)
  (fin : ∀ ys H1 D,Reps H1 ys ((List.range n).map f) -> (∀ b o,H b = some o -> H1 b = some o) -> H1 D = none -> Q (.ref D) (upd H1 D (.lst ys))) :
  CompGo (Itr 0 n) fv tYes te σ Q H:=by
 refine comp_go (J:=Itr 0 n) (n:=n) (fun i ys H2=>(∀ b o,H b = some o -> H2 b = some o) /\ Reps H2 ys ((List.range i).map f)) (small1000 (by omega)) ⟨fun _ _ e=>e,.nil⟩ ?_ ?_ ?_
 ·rintro i ys H2 hi ⟨s2,ry⟩
  have:=ry.len
  rw [List.length_map,List.length_range] at this
  exact ⟨Nat.le_of_eq this,fun h=>h,fun h=>Nat.le_of_eq h.symm⟩
 ·rintro i ys H2 x H' hi ⟨s2,ry⟩ ⟨rfl,rfl⟩ R hR
  rw [Int.zero_add]
  refine tyes (iteT ?_)
  refine step i H' (fun y H3=>R (ys ++ [y]) H3) hi s2 fun y H3 r3 s3=>hR _ _ ⟨fun b o e=>s3 b o (s2 b o e),?_⟩
  rw [List.range_succ,List.map_append]
  exact .append (ry.mono s3) (.cons r3 .nil)
 ·rintro ys H2 ⟨s2,ry⟩ D hD
  exact fin ys H2 D ry s2 hD
def actName (a : Act) : Str:=match a with
 | .make _ _=>"make"
 | .store _ _ _=>"store"
 | .load _ _ _=>"load"
 | .copy _ _=>"copy"
 | .number _ _=>"number"
 | .begin=>"begin"
 | .slide=>"slide"
 | .finish=>"finish"
 | .step _=>"step"
theorem actV_name (a : Act) : (actV a)[0]? = some (.str (actName a)):=by cases a <;> rfl
end
end GH
namespace GH
open PySem L2
section
theorem nm3_store : decide (V.str "store" = V.str "make") = false:=by decide +kernel
theorem nm3_load : decide (V.str "load" = V.str "make") = false:=by decide +kernel
theorem nm3_copy : decide (V.str "copy" = V.str "make") = false:=by decide +kernel
theorem nm3_number : decide (V.str "number" = V.str "make") = false:=by decide +kernel
theorem nm3_begin : decide (V.str "begin" = V.str "make") = false:=by decide +kernel
theorem nm3_slide : decide (V.str "slide" = V.str "make") = false:=by decide +kernel
theorem nm3_finish : decide (V.str "finish" = V.str "make") = false:=by decide +kernel
theorem nm3_step : decide (V.str "step" = V.str "make") = false:=by decide +kernel
def Act.isMake : Act -> Bool
 | .make _ _=>true
 | _=>false
theorem is_make (a : Act) : decide (V.str (actName a) = V.str "make") = a.isMake:=by
 cases a with
 | make _ _=>exact strT
 | store _ _ _=>exact nm3_store
 | load _ _ _=>exact nm3_load
 | copy _ _=>exact nm3_copy
 | number _ _=>exact nm3_number
 | begin=>exact nm3_begin
 | slide=>exact nm3_slide
 | finish=>exact nm3_finish
 | step _=>exact nm3_step
end
end GH
namespace GH
open PySem L2
section
theorem rise_le {t : Nat -> Th} : ∀ {l : List Nat},l.Pairwise (fun j k=>(t j).behind <= (t k).place) -> (l.map fun k=>(t k).place).Pairwise (· < ·)
 | [],_=>.nil
 | k :: r,h=>by
  rw [List.pairwise_cons] at h
  rw [List.map_cons,List.pairwise_cons]
  refine ⟨fun p hp=>?_,rise_le h.2⟩
  obtain ⟨j,hj,rfl⟩:=List.mem_map.mp hp
  have:=h.1 j hj
  have:=words_pos (t k)
  unfold Th.behind at *
  omega
theorem sorted_eq : ∀ {a b : List Int},a.Perm b -> a.Pairwise (· <= ·) -> b.Pairwise (· < ·) -> a = b
 | [],b,p,_,_=>by rw [List.nil_perm.mp p]
 | x :: a,[],p,_,_=>by have:=p.length_eq; simp at this
 | x :: a,y :: b,p,h1,h2=>by
  rw [List.pairwise_cons] at h1 h2
  have e : x = y:=by
   have hx : x ∈ y :: b:=p.mem_iff.mp (List.mem_cons_self ..)
   have hy : y ∈ x :: a:=p.mem_iff.mpr (List.mem_cons_self ..)
   rcases List.mem_cons.mp hx with z | z
   ·exact z
   ·rcases List.mem_cons.mp hy with q | q
    ·exact q.symm
    ·have:=h2.1 x z
     have:=h1.1 y q
     omega
  subst e
  rw [sorted_eq ((List.perm_cons x).mp p) h1.2 h2.2]
theorem Reps.set {H : Hp} : ∀ {vs : List V} {ds : List Dt} (i : Nat) {v : V} {d : Dt},Reps H vs ds -> Rep H v d -> Reps H (vs.set i v) (ds.set i d)
 | _,_,_,_,_,.nil,_=>.nil
 | _,_,0,_,_,.cons _ rs,r=>.cons r rs
 | _,_,i + 1,_,_,.cons r rs,r'=>.cons r (rs.set i r')
def refV (S : Hs) (h f : Int) : V:=match S.field h f with
 | .inr t=>t.v
 | .inl _=>.non
theorem nm_thing_number : decide (V.str "thing" = V.str "number") = false:=by
 rw [decide_eq_false_iff_not]; intro e; injection e with e; revert e; decide +kernel
theorem ixN_nat {n h : Nat} (e : h < n) : ixN n (h : Int) = some h:=by
 unfold ixN
 rw [if_pos (by omega),if_pos (by omega)]; simp
structure Fit2 (a : Act) : Prop where
 make : ∀ h m,a = .make h m -> (0 <= h /\ h < 8) /\ m <= 6
 store : ∀ h f o,a = .store h f o -> (0 <= h /\ h < 8) /\ (0 <= f /\ f < 8) /\ (0 <= o /\ o < 8)
 load : ∀ h o f,a = .load h o f -> (0 <= h /\ h < 8) /\ (0 <= o /\ o < 8) /\ (0 <= f /\ f < 8)
 copy : ∀ h o,a = .copy h o -> (0 <= h /\ h < 8) /\ (0 <= o /\ o < 8)
 number : ∀ h n,a = .number h n -> 0 <= h /\ h < 8
theorem fit2_actOf (c : Int) (sw : Bool) : Fit2 (actOf c sw):=by
 have h1 : 0 <= actH c /\ actH c < 8:=by unfold actH; split <;> exact ⟨mix_lo (by decide),Int.lt_of_lt_of_le (mix_hi (by decide)) (by decide)⟩
 have h2 : 0 <= actO c /\ actO c < 8:=by unfold actO; split <;> exact ⟨mix_lo (by decide),Int.lt_of_lt_of_le (mix_hi (by decide)) (by decide)⟩
 have h3 : 0 <= actF c /\ actF c < 8:=by unfold actF; split <;> exact ⟨mix_lo (by decide),Int.lt_of_lt_of_le (mix_hi (by decide)) (by decide)⟩
 have h4 : 0 <= mix c 9941 7 /\ mix c 9941 7 < 7:=⟨mix_lo (by decide),mix_hi (by decide)⟩
 unfold actOf
 refine ⟨?_,?_,?_,?_,?_⟩ <;> intros <;> (repeat' split at *) <;> (rename_i e; first | (cases e; exact ⟨h1,by omega⟩) | (cases e; exact ⟨h1,h3,h2⟩) | (cases e; exact ⟨h1,h2,h3⟩) | (cases e; exact ⟨h1,h2⟩) | (cases e; exact h1) | cases e)
theorem fit2_acts {ns : List Int} {sw : Bool} {a : Act} (h : a ∈ actsOf ns sw) : Fit2 a:=by
 unfold actsOf at h
 rcases List.mem_cons.mp h with rfl | h
 ·exact ⟨fun h m e=>by cases e; decide,(fun h f o e=>nomatch e),(fun h o f e=>nomatch e),(fun h o e=>nomatch e),(fun h n e=>nomatch e)⟩
 rcases List.mem_cons.mp h with rfl | h
 ·exact ⟨fun h m e=>by cases e; decide,(fun h f o e=>nomatch e),(fun h o f e=>nomatch e),(fun h o e=>nomatch e),(fun h n e=>nomatch e)⟩
 obtain ⟨c,_,rfl⟩:=List.mem_map.mp h
 exact fit2_actOf c sw
theorem field_inr {S : Hs} {h f : Int} {t : Told} (e : S.field h f = .inr t) : t = .noThing \/ t = .noField:=by
 unfold Hs.field at e
 split at e
 ·cases e; exact .inl rfl
 ·split at e
  ·cases e; exact .inr rfl
  ·split at e
   ·cases e
   ·cases e; exact .inr rfl
def HIn (S : Hs) : Prop:=∀ p ∈ S.hands,0 <= p.1 /\ p.1 < 8
theorem hin_put {l : List (Int × Vl)} {h : Int} {v : Vl} (w : ∀ p ∈ l,0 <= p.1 /\ p.1 < 8) (hh : 0 <= h /\ h < 8) : ∀ p ∈ put l h v,0 <= p.1 /\ p.1 < 8:=by
 intro q hq
 unfold put at hq
 split at hq
 ·obtain ⟨q0,hq0,e0⟩:=List.mem_map.mp hq
  have:=w q0 hq0
  split at e0 <;> (rw [<- e0]; exact this)
 ·rcases List.mem_append.mp hq with z | z
  ·exact w q z
  ·rw [List.mem_singleton.mp z]; exact hh
theorem hin_same {S T : Hs} (w : HIn S) (e : T.hands = S.hands) : HIn T:=by unfold HIn; rw [e]; exact w
theorem hin_act {S : Hs} (w : HIn S) {c : Act} (f : Fit2 c) : HIn (S.act c).1:=by
 cases c with
 | make h m =>
  show HIn (S.make h m).1
  have hh:=(f.make h m rfl).1
  cases ef : S.free (2 + m) with
  | some p=>rw [make_1 ef]; exact hin_put w hh
  | none =>
   cases ef2 : S.swept.free (2 + m) with
   | some p=>rw [make_2 ef ef2]; exact hin_put (hin_same w (Same.swept S).hands) hh
   | none=>rw [make_3 ef ef2]; exact hin_same w (Same.swept S).hands
 | store h f' o =>
  refine hin_same w ?_
  show (S.store h f' o).1.hands = _
  unfold Hs.store
  split
  ·show (if S.stage = .mark then _ else S).hands = _
   split
   ·exact (Same.makeGrey S _).hands
   ·rfl
  ·rfl
  ·rfl
 | load h o f' =>
  show HIn (S.load h o f').1
  unfold Hs.load
  split
  ·exact hin_put w (f.load h o f' rfl).1
  ·exact w
 | copy h o=>exact hin_put w (f.copy h o rfl).1
 | number h n=>exact hin_put w (f.number h n rfl)
 | begin=>exact hin_same w (act_same (S:=S) (c:=.begin) rfl).hands
 | slide=>exact hin_same w (act_same (S:=S) (c:=.slide) rfl).hands
 | finish=>exact hin_same w (act_same (S:=S) (c:=.finish) rfl).hands
 | step n=>exact hin_same w (act_same (S:=S) (c:=.step n) rfl).hands
theorem look_of {l : List (Int × Vl)} {h : Int} {v : Vl} (nd : (l.map (·.1)).Nodup) (e : (h,v) ∈ l) : look l h = some v:=by
 induction l with
 | nil=>cases e
 | cons p r ih =>
  rw [List.map_cons,List.nodup_cons] at nd
  unfold look
  rw [List.find?_cons]
  rcases List.mem_cons.mp e with z | z
  ·rw [<- z]; simp
  ·have : p.1 ≠ h:=fun q=>nd.1 (by rw [q]; exact List.mem_map.mpr ⟨_,z,rfl⟩)
   rw [decide_eq_false this]
   exact ih nd.2 z
def hands8 (S : Hs) : List Vl:=(List.range 8).map fun i=>S.held (i : Nat)
theorem hands8_lt {S : Hs} (wf : Wf S) : ∀ k,Vl.thing k ∈ hands8 S -> k < S.n:=by
 intro k hk
 obtain ⟨i,_,e⟩:=List.mem_map.mp hk
 exact wf.hv _ k (held_mem e)
end
end GH
namespace GH
open PySem L2
section
def Hs.pl (S : Hs) (k : Nat) : Int:=(S.th k).place
def vP (p : Nat -> Int) : Vl -> Dt
 | .num i=>.t [.f (.str "number"),.f (.int i)]
 | .thing k=>.t [.f (.str "thing"),.f (.int (p k))]
def vQ (p : Nat -> Int) : Vl -> List V
 | .num i=>[.str "number",.int i]
 | .thing k=>[.str "thing",.int (p k)]
theorem vP_eq (p : Nat -> Int) (v : Vl) : vP p v = .t ((vQ p v).map .f):=by cases v <;> rfl
theorem vP_pure (p : Nat -> Int) (v : Vl) : (vP p v).pure:=by
 rw [vP_eq]
 exact .t fun d hd=>by obtain ⟨x,_,rfl⟩:=List.mem_map.mp hd; exact .f x
theorem vPs_pure (p : Nat -> Int) (l : List Vl) : ∀ d ∈ l.map (vP p),d.pure:=fun d hd=>by
 obtain ⟨i,_,rfl⟩:=List.mem_map.mp hd; exact vP_pure _ _
theorem vP_rep {p : Nat -> Int} {H : Hp} {v : V} {x : Vl} (h : Rep H v (vP p x)) : ∃ r,v = .ref r /\ H r = some (.tup (vQ p x)):=by
 rw [vP_eq] at h
 cases h with
 | t e r=>rw [flat_inv r] at e; exact ⟨_,rfl,e⟩
theorem rep_vP {p : Nat -> Int} {H : Hp} {r : Addr} {x : Vl} (h : H r = some (.tup (vQ p x))) : Rep H (.ref r) (vP p x):=by
 rw [vP_eq]; exact .t h (reps_flat (by cases x <;> rfl))
theorem vP_congr {p q : Nat -> Int} {l : List Vl} (h : ∀ k,Vl.thing k ∈ l -> p k = q k) : l.map (vP p) = l.map (vP q):=List.map_congr_left fun v hv=>by
 cases v with
 | num i=>rfl
 | thing k=>show Dt.t [_,.f (.int (p k))] = .t [_,.f (.int (q k))]; rw [h k hv]
theorem kne {a b : Str} (h : decide (a = b) = false) : ¬ (Sum.inr a : Key) = Sum.inr b:=fun e=>by
 injection e with e
 rw [decide_eq_true e] at h; cases h
def hdK (z : Int) (td lh : Addr) (g : Stg) (f : Int) : List (Key × V):=[((Sum.inr ("size" : Str) : Key),.int z),((Sum.inr ("things" : Str) : Key),.ref td),((Sum.inr ("hands" : Str) : Key),.ref lh),((Sum.inr ("phase" : Str) : Key),.str g.s),((Sum.inr ("finger" : Str) : Key),.int f)]
section
variable {z : Int} {td lh : Addr} {g : Stg} {f : Int}
theorem hd_size : valV (hdK z td lh g f) (Sum.inr ("size" : Str) : Key) = some (.int z):=valV_pos rfl
theorem hd_things : valV (hdK z td lh g f) (Sum.inr ("things" : Str) : Key) = some (.ref td):=(valV_neg (kne (by decide +kernel))).trans (valV_pos rfl)
theorem hd_hands : valV (hdK z td lh g f) (Sum.inr ("hands" : Str) : Key) = some (.ref lh):=(valV_neg (kne (by decide +kernel))).trans ((valV_neg (kne (by decide +kernel))).trans (valV_pos rfl))
theorem hd_phase : valV (hdK z td lh g f) (Sum.inr ("phase" : Str) : Key) = some (.str g.s):=(valV_neg (kne (by decide +kernel))).trans ((valV_neg (kne (by decide +kernel))).trans ((valV_neg (kne (by decide +kernel))).trans (valV_pos rfl)))
theorem hd_finger : valV (hdK z td lh g f) (Sum.inr ("finger" : Str) : Key) = some (.int f):=(valV_neg (kne (by decide +kernel))).trans ((valV_neg (kne (by decide +kernel))).trans ((valV_neg (kne (by decide +kernel))).trans ((valV_neg (kne (by decide +kernel))).trans (valV_pos rfl))))
theorem putK_at {k : Key} {v v' : V} : ∀ {l r : List (Key × V)},(∀ q ∈ l,¬ q.1 = k) -> (∀ q ∈ r,¬ q.1 = k) -> putK (l ++ (k,v) :: r) k v' = l ++ (k,v') :: r:=by
 intro l r hl hr
 have m : ∀ {s : List (Key × V)},(∀ q ∈ s,¬ q.1 = k) -> s.map (fun kv=>if kv.1 = k then (kv.1,v') else kv) = s:=fun {s} hs=>by
  exact (List.map_congr_left (g:=id) fun q hq=>if_neg (hs q hq)).trans (List.map_id _)
 unfold putK
 rw [if_pos (by rw [List.any_append,List.any_cons]; simp)]
 rw [List.map_append,List.map_cons,m hl,m hr,if_pos rfl]
theorem putK_phase (g' : Stg) : putK (hdK z td lh g f) (Sum.inr ("phase" : Str) : Key) (.str g'.s) = hdK z td lh g' f:=by
 refine putK_at (l:=[((Sum.inr ("size" : Str) : Key),.int z),((Sum.inr ("things" : Str) : Key),.ref td),((Sum.inr ("hands" : Str) : Key),.ref lh)]) (r:=[((Sum.inr ("finger" : Str) : Key),.int f)]) ?_ ?_ <;> intro q hq
 ·simp only [List.mem_cons,List.not_mem_nil,or_false] at hq
  rcases hq with rfl | rfl | rfl <;> exact kne (by decide +kernel)
 ·rw [List.mem_singleton.mp hq]; exact kne (by decide +kernel)
theorem putK_finger (f' : Int) : putK (hdK z td lh g f) (Sum.inr ("finger" : Str) : Key) (.int f') = hdK z td lh g f':=by
 refine putK_at (l:=[((Sum.inr ("size" : Str) : Key),.int z),((Sum.inr ("things" : Str) : Key),.ref td),((Sum.inr ("hands" : Str) : Key),.ref lh),((Sum.inr ("phase" : Str) : Key),.str g.s)]) (r:=[]) ?_ ?_ <;> intro q hq
 ·simp only [List.mem_cons,List.not_mem_nil,or_false] at hq
  rcases hq with rfl | rfl | rfl | rfl <;> exact kne (by decide +kernel)
 ·cases hq
theorem putK_things (t' : Addr) : putK (hdK z td lh g f) (Sum.inr ("things" : Str) : Key) (.ref t') = hdK z t' lh g f:=by
 refine putK_at (l:=[((Sum.inr ("size" : Str) : Key),.int z)]) (r:=[((Sum.inr ("hands" : Str) : Key),.ref lh),((Sum.inr ("phase" : Str) : Key),.str g.s),((Sum.inr ("finger" : Str) : Key),.int f)]) ?_ ?_ <;> intro q hq
 ·rw [List.mem_singleton.mp hq]; exact kne (by decide +kernel)
 ·simp only [List.mem_cons,List.not_mem_nil,or_false] at hq
  rcases hq with rfl | rfl | rfl <;> exact kne (by decide +kernel)
theorem putK_hands (l' : Addr) : putK (hdK z td lh g f) (Sum.inr ("hands" : Str) : Key) (.ref l') = hdK z td l' g f:=by
 refine putK_at (l:=[((Sum.inr ("size" : Str) : Key),.int z),((Sum.inr ("things" : Str) : Key),.ref td)]) (r:=[((Sum.inr ("phase" : Str) : Key),.str g.s),((Sum.inr ("finger" : Str) : Key),.int f)]) ?_ ?_ <;> intro q hq
 ·simp only [List.mem_cons,List.not_mem_nil,or_false] at hq
  rcases hq with rfl | rfl <;> exact kne (by decide +kernel)
 ·simp only [List.mem_cons,List.not_mem_nil,or_false] at hq
  rcases hq with rfl | rfl <;> exact kne (by decide +kernel)
end
structure HP where
 td : Addr
 lh : Addr
 en : Nat -> Addr
 ft : Nat -> Addr
 ks : List Nat
 fg : Int
def thK (ks : List Nat) (p : Nat -> Int) (en : Nat -> Addr) : List (Key × V):=ks.map fun k=>((Sum.inl (p k) : Key),V.ref (en k))
theorem thK_keys (ks : List Nat) (p : Nat -> Int) (en : Nat -> Addr) : (thK ks p en).map (·.1) = (ks.map p).map Sum.inl:=by
 unfold thK; rw [List.map_map,List.map_map]; rfl
theorem thK_val {p : Nat -> Int} {en : Nat -> Addr} {k : Nat} : ∀ {ks : List Nat},k ∈ ks -> (∀ j ∈ ks,p j = p k -> j = k) -> valV (thK ks p en) (Sum.inl (p k) : Key) = some (.ref (en k))
 | [],h,_=>nomatch h
 | j :: r,h,u=>by
  by_cases e : j = k
  ·subst e; exact valV_pos rfl
  ·have : ¬ (Sum.inl (p j) : Key) = Sum.inl (p k):=fun z=>e (u j (List.mem_cons_self ..) (Sum.inl.inj z))
   exact (valV_neg this).trans (thK_val ((List.mem_cons.mp h).resolve_left fun z=>e z.symm) fun i hi=>u i (List.mem_cons_of_mem _ hi))
structure Hnd (H : Hp) (d : Addr) (I : HP) (S : Hs) : Prop where
 dic : H d = some (.dK (hdK S.size I.td I.lh S.stage I.fg))
 fge : S.stage = .sweep -> I.fg = S.fg
 tds : H I.td = some (.dK (thK I.ks S.pl I.en))
 prm : I.ks.Perm S.things
 ent : ∀ k ∈ S.things,H (I.en k) = some (.lst [.ref (I.ft k),.str (S.th k).colour.s])
 fld : ∀ k ∈ S.things,∃ fv,H (I.ft k) = some (.lst fv) /\ Reps H fv ((S.th k).fields.map (vP S.pl))
 hnd : ∃ hv,H I.lh = some (.lst hv) /\ Reps H hv ((hands8 S).map (vP S.pl))
 ndt : I.td ≠ d
 neh : ∀ k ∈ S.things,I.en k ≠ I.lh
 nfh : ∀ k ∈ S.things,I.ft k ≠ I.lh
 nef : ∀ j ∈ S.things,∀ k ∈ S.things,I.en j ≠ I.ft k
 ein : ∀ j ∈ S.things,∀ k ∈ S.things,I.en j = I.en k -> j = k
 fin : ∀ j ∈ S.things,∀ k ∈ S.things,I.ft j = I.ft k -> j = k
def HOwn (I : HP) (d : Addr) (T : List Nat) (b : Addr) : Prop:=b = d \/ b = I.td \/ b = I.lh \/ ∃ k,k ∈ T /\ (b = I.en k \/ b = I.ft k)
structure HFm (d : Addr) (I : HP) (T : List Nat) (I' : HP) (T' : List Nat) (H H' : Hp) : Prop where
 keep : ∀ b o,H b = some o -> ¬ HOwn I d T b -> H' b = some o
 grow : ∀ b,HOwn I' d T' b -> HOwn I d T b \/ H b = none
theorem HFm.ext {d : Addr} {I : HP} {T : List Nat} {H H' : Hp} (s : ∀ b o,H b = some o -> H' b = some o) : HFm d I T I T H H':=⟨fun b o e _=>s b o e,fun b hb=>.inl hb⟩
theorem HFm.one {d : Addr} {I : HP} {T : List Nat} {H : Hp} {b : Addr} {o : HO} (hb : HOwn I d T b) : HFm d I T I T H (upd H b o):=⟨fun x u e no=>by rw [upd_ne (fun z=>no (by rw [z]; exact hb))]; exact e,fun x hx=>.inl hx⟩
theorem HFm.trans {d : Addr} {I I1 I2 : HP} {T T1 T2 : List Nat} {H H1 H2 : Hp} (a : HFm d I T I1 T1 H H1) (b : HFm d I1 T1 I2 T2 H1 H2) : HFm d I T I2 T2 H H2:=by
 refine ⟨fun x o e no=>b.keep x o (a.keep x o e no) fun z=>?_,fun x hx=>?_⟩
 ·rcases a.grow x z with q | q
  ·exact no q
  ·rw [e] at q; cases q
 ·rcases b.grow x hx with z | z
  ·exact a.grow x z
  ·by_cases no : HOwn I d T x
   ·exact .inl no
   ·right
    cases e : H x with
    | none=>rfl
    | some o=>rw [a.keep x o e no] at z; cases z
theorem HFm.sub {d : Addr} {I I' : HP} {T T' : List Nat} {H : Hp} (s : ∀ b,HOwn I' d T' b -> HOwn I d T b) : HFm d I T I' T' H H:=⟨fun _ _ e _=>e,fun b hb=>.inl (s b hb)⟩
theorem paint_pl (S : Hs) (k : Nat) (c : Col) : (S.paint k c).pl = S.pl:=by
 funext j
 show ((S.paint k c).th j).place = _
 rw [paint_th]; split
 ·rename_i e; subst e; rfl
 ·rfl
theorem paint_fl (S : Hs) (k : Nat) (c : Col) (j : Nat) : ((S.paint k c).th j).fields = (S.th j).fields:=by
 rw [paint_th]; split
 ·rename_i e; subst e; rfl
 ·rfl
theorem hands8_set (S : Hs) (h : Nat) (v : Vl) : (hands8 S).set h v = hands8 (S.hold h v):=by
 unfold hands8
 apply List.ext_getElem?
 intro i
 rw [List.getElem?_set,List.getElem?_map,List.getElem?_map]
 by_cases e : h = i
 ·subst e
  rw [if_pos rfl,List.length_map,List.length_range]
  by_cases h8 : h < 8
  ·rw [if_pos h8,List.getElem?_range h8]
   show some v = some ((S.hold (h : Nat) v).held (h : Nat))
   rw [held_hold,if_pos rfl]
  ·rw [if_neg h8,List.getElem?_eq_none (by rw [List.length_range]; omega)]; rfl
 ·rw [if_neg e]
  cases q : (List.range 8)[i]? with
  | none=>rfl
  | some j =>
   have : j = i:=by
    have:=List.getElem?_eq_some_iff.mp q
    obtain ⟨_,z⟩:=this
    rw [List.getElem_range] at z; exact z.symm
   subst this
   show some (S.held (j : Nat)) = some ((S.hold (h : Nat) v).held (j : Nat))
   rw [held_hold,if_neg (by omega)]
section
variable {H H' : Hp} {d : Addr} {I : HP} {S : Hs}
theorem Hnd.gS (J : Hnd H d I S) : DGet H d (.str "size") (some (.int S.size)):=by
 have:=DGet.k (k:=(Sum.inr ("size" : Str) : Key)) J.dic
 rw [hd_size] at this; exact this
theorem Hnd.gT (J : Hnd H d I S) : DGet H d (.str "things") (some (.ref I.td)):=by
 have:=DGet.k (k:=(Sum.inr ("things" : Str) : Key)) J.dic
 rw [hd_things] at this; exact this
theorem Hnd.gH (J : Hnd H d I S) : DGet H d (.str "hands") (some (.ref I.lh)):=by
 have:=DGet.k (k:=(Sum.inr ("hands" : Str) : Key)) J.dic
 rw [hd_hands] at this; exact this
theorem Hnd.gP (J : Hnd H d I S) : DGet H d (.str "phase") (some (.str S.stage.s)):=by
 have:=DGet.k (k:=(Sum.inr ("phase" : Str) : Key)) J.dic
 rw [hd_phase] at this; exact this
theorem Hnd.gF (J : Hnd H d I S) : DGet H d (.str "finger") (some (.int I.fg)):=by
 have:=DGet.k (k:=(Sum.inr ("finger" : Str) : Key)) J.dic
 rw [hd_finger] at this; exact this
theorem Hnd.uni (J : Hnd H d I S) (l : Laid S) {k : Nat} (hk : k ∈ S.things) : ∀ j ∈ I.ks,S.pl j = S.pl k -> j = k:=fun j hj e=>place_lt l.rise (J.prm.mem_iff.mp hj) hk e
theorem Hnd.vE (J : Hnd H d I S) (l : Laid S) {k : Nat} (hk : k ∈ S.things) : valV (thK I.ks S.pl I.en) (Sum.inl (S.pl k) : Key) = some (.ref (I.en k)):=thK_val (J.prm.mem_iff.mpr hk) (J.uni l hk)
theorem Hnd.gE (J : Hnd H d I S) (l : Laid S) {k : Nat} (hk : k ∈ S.things) : DGet H I.td (.int (S.pl k)) (some (.ref (I.en k))):=by
 have:=DGet.k (k:=(Sum.inl (S.pl k) : Key)) J.tds
 rw [J.vE l hk] at this; exact this
theorem Hnd.there (J : Hnd H d I S) {b : Addr} (h : HOwn I d S.things b) : ∃ o,H b = some o:=by
 rcases h with rfl | rfl | rfl | ⟨k,hk,rfl | rfl⟩
 ·exact ⟨_,J.dic⟩
 ·exact ⟨_,J.tds⟩
 ·obtain ⟨hv,e,_⟩:=J.hnd; exact ⟨_,e⟩
 ·exact ⟨_,J.ent k hk⟩
 ·obtain ⟨fv,e,_⟩:=J.fld k hk; exact ⟨_,e⟩
theorem Hnd.fresh (J : Hnd H d I S) {b : Addr} (h : H b = none) : ¬ HOwn I d S.things b:=fun z=>by
 obtain ⟨o,e⟩:=J.there z
 rw [h] at e; cases e
theorem Hnd.notTup (J : Hnd H d I S) {b : Addr} {xs : List V} (e : H b = some (.tup xs)) : ¬ HOwn I d S.things b:=fun z=>by
 rcases z with rfl | rfl | rfl | ⟨k,hk,rfl | rfl⟩
 ·have:=J.dic; rw [e] at this; cases this
 ·have:=J.tds; rw [e] at this; cases this
 ·obtain ⟨hv,e',_⟩:=J.hnd; rw [e] at e'; cases e'
 ·have:=J.ent k hk; rw [e] at this; cases this
 ·obtain ⟨fv,e',_⟩:=J.fld k hk; rw [e] at e'; cases e'
theorem own_e {k : Nat} (hk : k ∈ S.things) : HOwn I d S.things (I.en k):=.inr (.inr (.inr ⟨k,hk,.inl rfl⟩))
theorem own_t {k : Nat} (hk : k ∈ S.things) : HOwn I d S.things (I.ft k):=.inr (.inr (.inr ⟨k,hk,.inr rfl⟩))
theorem Hnd.keep (J : Hnd H d I S) (k : ∀ b,HOwn I d S.things b -> ∀ o,H b = some o -> H' b = some o) (t : ∀ b xs,H b = some (.tup xs) -> H' b = some (.tup xs)) : Hnd H' d I S where
 dic:=k _ (.inl rfl) _ J.dic
 fge:=J.fge
 tds:=k _ (.inr (.inl rfl)) _ J.tds
 prm:=J.prm
 ent:=fun j hj=>k _ (own_e hj) _ (J.ent j hj)
 fld:=fun j hj=>by
  obtain ⟨fv,e,r⟩:=J.fld j hj
  exact ⟨fv,k _ (own_t hj) _ e,r.tups t (vPs_pure _ _)⟩
 hnd:=by
  obtain ⟨hv,e,r⟩:=J.hnd
  exact ⟨hv,k _ (.inr (.inr (.inl rfl))) _ e,r.tups t (vPs_pure _ _)⟩
 ndt:=J.ndt
 neh:=J.neh
 nfh:=J.nfh
 nef:=J.nef
 ein:=J.ein
 fin:=J.fin
theorem Hnd.ext (J : Hnd H d I S) (s : ∀ b o,H b = some o -> H' b = some o) : Hnd H' d I S:=J.keep (fun b _ o e=>s b o e) fun b xs e=>s b _ e
theorem Hnd.phase (J : Hnd H d I S) (g : Stg) (f : Int) (fi : Option Int) (hf : g = .sweep -> f = fi.getD 0) : Hnd (upd H d (.dK (hdK S.size I.td I.lh g f))) d { I with fg:=f } { S with stage:=g,finger:=fi }:=by
 have tk : ∀ b xs,H b = some (.tup xs) -> upd H d (.dK (hdK S.size I.td I.lh g f)) b = some (.tup xs):=fun b xs e=>(upd_ne (ne_of e J.dic (fun z=>nomatch z))).trans e
 refine ⟨upd_same,hf,(upd_ne J.ndt).trans J.tds,J.prm,fun k hk=>(upd_ne (ne_of (J.ent k hk) J.dic (fun z=>nomatch z))).trans (J.ent k hk),fun k hk=>?_,?_,J.ndt,J.neh,J.nfh,J.nef,J.ein,J.fin⟩
 ·obtain ⟨fv,e,r⟩:=J.fld k hk
  exact ⟨fv,(upd_ne (ne_of e J.dic (fun z=>nomatch z))).trans e,r.tups tk (vPs_pure _ _)⟩
 ·obtain ⟨hv,e,r⟩:=J.hnd
  exact ⟨hv,(upd_ne (ne_of e J.dic (fun z=>nomatch z))).trans e,r.tups tk (vPs_pure _ _)⟩
theorem Hnd.paint (J : Hnd H d I S) {k : Nat} (hk : k ∈ S.things) (c : Col) : Hnd (upd H (I.en k) (.lst [.ref (I.ft k),.str c.s])) d I (S.paint k c):=by
 have tk : ∀ b xs,H b = some (.tup xs) -> upd H (I.en k) (.lst [.ref (I.ft k),.str c.s]) b = some (.tup xs):=fun b xs e=>(upd_ne (ne_of e (J.ent k hk) (fun z=>nomatch z))).trans e
 refine ⟨(upd_ne (ne_of J.dic (J.ent k hk) (fun z=>nomatch z))).trans J.dic,J.fge,?_,J.prm,fun j hj=>?_,fun j hj=>?_,?_,J.ndt,J.neh,J.nfh,J.nef,J.ein,J.fin⟩
 ·rw [paint_pl]; exact (upd_ne (ne_of J.tds (J.ent k hk) (fun z=>nomatch z))).trans J.tds
 ·rw [paint_th]
  by_cases e : j = k
  ·subst e; rw [if_pos rfl]; exact upd_same
  ·rw [if_neg e]; exact (upd_ne (fun z=>e (J.ein j hj k hk z))).trans (J.ent j hj)
 ·obtain ⟨fv,e,r⟩:=J.fld j hj
  refine ⟨fv,(upd_ne (fun z=>J.nef k hk j hj z.symm)).trans e,?_⟩
  rw [paint_fl,paint_pl]; exact r.tups tk (vPs_pure _ _)
 ·obtain ⟨hv,e,r⟩:=J.hnd
  refine ⟨hv,(upd_ne (fun z=>J.neh k hk z.symm)).trans e,?_⟩
  rw [paint_pl]; exact r.tups tk (vPs_pure _ _)
theorem Hnd.hold (J : Hnd H d I S) {h : Nat} {x : V} {v : Vl} (rx : Rep H x (vP S.pl v)) {hv : List V} (e : H I.lh = some (.lst hv)) (r : Reps H hv ((hands8 S).map (vP S.pl))) : Hnd (upd H I.lh (.lst (hv.set h x))) d I (S.hold h v):=by
 have tk : ∀ b xs,H b = some (.tup xs) -> upd H I.lh (.lst (hv.set h x)) b = some (.tup xs):=fun b xs eb=>(upd_ne (ne_of eb e (fun z=>nomatch z))).trans eb
 refine ⟨(upd_ne (ne_of J.dic e (fun z=>nomatch z))).trans J.dic,J.fge,(upd_ne (ne_of J.tds e (fun z=>nomatch z))).trans J.tds,J.prm,fun k hk=>(upd_ne (J.neh k hk)).trans (J.ent k hk),fun k hk=>?_,⟨_,upd_same,?_⟩,J.ndt,J.neh,J.nfh,J.nef,J.ein,J.fin⟩
 ·obtain ⟨fv,ef,rf⟩:=J.fld k hk
  exact ⟨fv,(upd_ne (J.nfh k hk)).trans ef,rf.tups tk (vPs_pure _ _)⟩
 ·rw [<- hands8_set S h v,List.map_set]
  exact (r.tups tk (vPs_pure _ _)).set h (rx.tups tk (vP_pure _ v))
theorem setField_pl (S : Hs) (k f : Nat) (v : Vl) : (S.setField k f v).pl = S.pl:=funext fun j=>setField_place S k f v j
theorem Hnd.setField (J : Hnd H d I S) {k f : Nat} (hk : k ∈ S.things) {x : V} {v : Vl} (rx : Rep H x (vP S.pl v)) {fv : List V} (e : H (I.ft k) = some (.lst fv)) (r : Reps H fv ((S.th k).fields.map (vP S.pl))) : Hnd (upd H (I.ft k) (.lst (fv.set f x))) d I (S.setField k f v):=by
 have tk : ∀ b xs,H b = some (.tup xs) -> upd H (I.ft k) (.lst (fv.set f x)) b = some (.tup xs):=fun b xs eb=>(upd_ne (ne_of eb e (fun z=>nomatch z))).trans eb
 refine ⟨(upd_ne (ne_of J.dic e (fun z=>nomatch z))).trans J.dic,J.fge,?_,J.prm,fun j hj=>?_,fun j hj=>?_,?_,J.ndt,J.neh,J.nfh,J.nef,J.ein,J.fin⟩
 ·rw [setField_pl]; exact (upd_ne (ne_of J.tds e (fun z=>nomatch z))).trans J.tds
 ·rw [setField_colour]; exact (upd_ne (J.nef j hj k hk)).trans (J.ent j hj)
 ·rw [setField_pl,setField_th]
  by_cases ejk : j = k
  ·subst ejk
   rw [if_pos rfl]
   refine ⟨_,upd_same,?_⟩
   show Reps _ _ (((S.th j).fields.set f v).map (vP S.pl))
   rw [List.map_set]
   exact (r.tups tk (vPs_pure _ _)).set f (rx.tups tk (vP_pure _ v))
  ·rw [if_neg ejk]
   obtain ⟨gv,eg,rg⟩:=J.fld j hj
   exact ⟨gv,(upd_ne (fun z=>ejk (J.fin j hj k hk z))).trans eg,rg.tups tk (vPs_pure _ _)⟩
 ·rw [setField_pl]
  obtain ⟨hv,eh,rh⟩:=J.hnd
  exact ⟨hv,(upd_ne (fun z=>J.nfh k hk z.symm)).trans eh,rh.tups tk (vPs_pure _ _)⟩
theorem Hnd.pop (J : Hnd H d I S) (l : Laid S) (nd : S.things.Nodup) {k : Nat} (hk : k ∈ S.things) : Hnd (upd H I.td (.dK (dropK (thK I.ks S.pl I.en) (Sum.inl (S.pl k) : Key)))) d { I with ks:=I.ks.erase k } { S with things:=S.things.erase k }:=by
 have e0 : dropK (thK I.ks S.pl I.en) (Sum.inl (S.pl k) : Key) = thK (I.ks.erase k) S.pl I.en:=by
  unfold dropK thK
  rw [List.filter_map,(J.prm.nodup_iff.mpr nd).erase_eq_filter]
  congr 1
  refine List.filter_congr fun j hj=>?_
  show decide (¬ (Sum.inl (S.pl j) : Key) = Sum.inl (S.pl k)) = (j != k)
  by_cases e : j = k
  ·subst e; simp
  ·have : ¬ (Sum.inl (S.pl j) : Key) = Sum.inl (S.pl k):=fun z=>e (J.uni l hk j hj (Sum.inl.inj z))
   rw [decide_eq_true this]; simp [e]
 rw [e0]
 have sb : ∀ j ∈ S.things.erase k,j ∈ S.things:=fun j hj=>List.mem_of_mem_erase hj
 have tk : ∀ b xs,H b = some (.tup xs) -> upd H I.td (.dK (thK (I.ks.erase k) S.pl I.en)) b = some (.tup xs):=fun b xs e=>(upd_ne (ne_of e J.tds (fun z=>nomatch z))).trans e
 refine ⟨(upd_ne J.ndt.symm).trans J.dic,J.fge,upd_same,J.prm.erase k,fun j hj=>(upd_ne (ne_of (J.ent j (sb j hj)) J.tds (fun z=>nomatch z))).trans (J.ent j (sb j hj)),fun j hj=>?_,?_,J.ndt,fun j hj=>J.neh j (sb j hj),fun j hj=>J.nfh j (sb j hj),fun i hi j hj=>J.nef i (sb i hi) j (sb j hj),fun i hi j hj=>J.ein i (sb i hi) j (sb j hj),fun i hi j hj=>J.fin i (sb i hi) j (sb j hj)⟩
 ·obtain ⟨fv,e,r⟩:=J.fld j (sb j hj)
  exact ⟨fv,(upd_ne (ne_of e J.tds (fun z=>nomatch z))).trans e,r.tups tk (vPs_pure _ _)⟩
 ·obtain ⟨hv,e,r⟩:=J.hnd
  exact ⟨hv,(upd_ne (ne_of e J.tds (fun z=>nomatch z))).trans e,r.tups tk (vPs_pure _ _)⟩
theorem Hnd.srt (J : Hnd H d I S) (l : Laid S) {ns : List Int} (hp : ns.Perm (I.ks.map S.pl)) (hs : ns.Pairwise (· <= ·)) : ns = S.things.map S.pl:=sorted_eq (hp.trans (J.prm.map _)) hs (rise_le l.rise)
def Few (I : HP) (S : Hs) : Prop:=S.things.length < 64 \/ S.things.length = 64 /\ I.ks = S.things
theorem Hnd.few (J : Hnd H d I S) (l : Laid S) (w : Few I S) : (I.ks.map S.pl).length < 64 \/ (I.ks.map S.pl).length = 64 /\ (I.ks.map S.pl).Pairwise (· <= ·):=by
 have hl:=J.prm.length_eq
 rw [List.length_map]
 rcases w with w | ⟨w,e⟩
 ·exact .inl (by omega)
 ·refine .inr ⟨by omega,?_⟩
  rw [e]
  exact (rise_le l.rise).imp fun h=>Int.le_of_lt h
theorem Few.le {w : Few I S} : S.things.length <= 64:=by
 rcases w with w | w
 ·omega
 ·omega
theorem Hnd.hand (J : Hnd H d I S) {h : Nat} (hh : h < 8) : ∃ hv r,H I.lh = some (.lst hv) /\ Reps H hv ((hands8 S).map (vP S.pl)) /\ hv[h]? = some (.ref r) /\ H r = some (.tup (vQ S.pl (S.held h))) /\ hv.length = 8:=by
 obtain ⟨hv,e,r⟩:=J.hnd
 have hl:=r.len
 unfold hands8 at hl
 rw [List.length_map,List.length_map,List.length_range] at hl
 obtain ⟨x,hx,rx⟩:=r.get' (i:=h) (d:=vP S.pl (S.held h)) (by unfold hands8; rw [List.getElem?_map,List.getElem?_map,List.getElem?_range hh]; rfl)
 obtain ⟨p,rfl,ep⟩:=vP_rep rx
 exact ⟨hv,p,e,r,hx,ep,hl⟩
end
end
end GH
namespace GH
open PySem L2
section
theorem putK_new {k : Key} {v : V} {l : List (Key × V)} (h : ∀ q ∈ l,¬ q.1 = k) : putK l k v = l ++ [(k,v)]:=by
 unfold putK
 rw [if_neg]
 intro z
 obtain ⟨q,hq,e⟩:=List.any_eq_true.mp z
 exact h q hq (of_decide_eq_true e)
theorem merge_hd (z : Int) (td lh : Addr) (g : Stg) (f : Int) : mergeK [] (hdK z td lh g f) = hdK z td lh g f:=by
 show putK (putK (putK (putK (putK [] (Sum.inr ("size" : Str) : Key) (.int z)) (Sum.inr ("things" : Str) : Key) (.ref td)) (Sum.inr ("hands" : Str) : Key) (.ref lh)) (Sum.inr ("phase" : Str) : Key) (.str g.s)) (Sum.inr ("finger" : Str) : Key) (.int f) = _
 rw [putK_new (l:=[]) (fun q hq=>nomatch hq)]
 rw [putK_new (k:=(Sum.inr ("things" : Str) : Key)) (fun q hq=>by rw [List.mem_singleton.mp hq]; exact kne (by decide +kernel))]
 rw [putK_new (k:=(Sum.inr ("hands" : Str) : Key)) (fun q hq=>by
  simp only [List.nil_append,List.cons_append,List.mem_cons,List.not_mem_nil,or_false] at hq
  rcases hq with rfl | rfl <;> exact kne (by decide +kernel))]
 rw [putK_new (k:=(Sum.inr ("phase" : Str) : Key)) (fun q hq=>by
  simp only [List.nil_append,List.cons_append,List.mem_cons,List.not_mem_nil,or_false] at hq
  rcases hq with rfl | rfl | rfl <;> exact kne (by decide +kernel))]
 rw [putK_new (k:=(Sum.inr ("finger" : Str) : Key)) (fun q hq=>by
  simp only [List.nil_append,List.cons_append,List.mem_cons,List.not_mem_nil,or_false] at hq
  rcases hq with rfl | rfl | rfl | rfl <;> exact kne (by decide +kernel))]
 rfl
theorem pl_behind (S : Hs) (j : Nat) {fv : List V} (h : fv.length = (S.th j).fields.length) : S.pl j + 2 + (fv.length : Int) = (S.th j).behind:=by
 rw [h]; show (S.th j).place + 2 + _ = (S.th j).place + (2 + _); omega
theorem Hnd.fldL {H : Hp} {d : Addr} {I : HP} {S : Hs} (J : Hnd H d I S) {k : Nat} (hk : k ∈ S.things) : ∃ fv,H (I.ft k) = some (.lst fv) /\ Reps H fv ((S.th k).fields.map (vP S.pl)) /\ fv.length = (S.th k).fields.length:=by
 obtain ⟨fv,e,r⟩:=J.fld k hk
 exact ⟨fv,e,r,by have:=r.len; rw [List.length_map] at this; exact this⟩
def EK (I : HP) (T : List Nat) (H H' : Hp) : Prop:=∀ b o,H b = some o -> (∀ k ∈ T,b ≠ I.en k) -> H' b = some o
theorem EK.trans {I : HP} {T : List Nat} {H H1 H2 : Hp} (a : EK I T H H1) (b : EK I T H1 H2) : EK I T H H2:=fun x o e n=>b x o (a x o e n) n
theorem EK.hfm {d : Addr} {I : HP} {T : List Nat} {H H' : Hp} (a : EK I T H H') : HFm d I T I T H H':=⟨fun b o e no=>a b o e fun k hk z=>no (.inr (.inr (.inr ⟨k,hk,.inl z⟩))),fun b hb=>.inl hb⟩
theorem EK.tup {d : Addr} {I : HP} {S : Hs} {H H' : Hp} (J : Hnd H d I S) (a : EK I S.things H H') : ∀ b xs,H b = some (.tup xs) -> H' b = some (.tup xs):=fun b xs e=>a b _ e fun k hk=>ne_of e (J.ent k hk) (fun z=>nomatch z)
def Hs.greys (S : Hs) : List Nat:=S.things.filter fun k=>decide ((S.th k).colour = .grey)
theorem comp_placesG {J : It} {S : Hs} {ks : List Nat} {fv : List (Str × Nat)} {tt : TT} {te : TE} {σ : St} {H : Hp} {Q : VK} (p : Nat -> Bool) (g : Nat -> V) (hz : ks.length <= 900) (hg : ∀ i,i < ks.length -> J.go i H) (hst : J.stop ks.length H) (hy : ∀ i x H',J.yld i H x H' -> H' = H /\ ((ks.map S.pl).map V.int)[i]? = some x)
  (hs : ∀ k ∈ ks,∀ R : Option V -> Hp -> Prop,R (if p k = true then some (g k) else none) H -> tt (inner σ fv (some (.int (S.pl k)))) H fun b H2=>if b = true then te (inner σ fv (some (.int (S.pl k)))) H2 fun y H3=>R (some y) H3 else R none H2)
  (hd : ∀ D,H D = none -> Q (.ref D) (upd H D (.lst ((ks.filter p).map g)))) : CompGo J fv tt te σ Q H:=by
 refine comp_go (J:=J) (n:=ks.length) (fun i ys H2=>H2 = H /\ ys = ((ks.take i).filter p).map g) (small1000 (by omega)) ⟨rfl,rfl⟩ ?_ ?_ ?_
 ·rintro i ys H2 hi ⟨rfl,rfl⟩
  refine ⟨?_,fun h=>hg i h,fun h=>by rw [h]; exact hst⟩
  rw [List.length_map]
  refine Nat.le_trans (List.length_filter_le _ _) ?_
  rw [List.length_take]; omega
 ·rintro i ys H2 x H' hi ⟨rfl,rfl⟩ hyl R hR
  obtain ⟨rfl,hx⟩:=hy i x H' hyl
  rw [List.map_map] at hx
  obtain ⟨k,ek,rfl⟩:=get_map hx
  have et : ks.take (i + 1) = ks.take i ++ [k]:=by rw [List.take_add_one,ek]; rfl
  refine hs k (List.mem_of_getElem? ek) (fun o H3=>match o with
   | some y=>R (((ks.take i).filter p).map g ++ [y]) H3
   | none=>R (((ks.take i).filter p).map g) H3) ?_
  cases hu : p k with
  | true =>
   rw [if_pos rfl]
   refine hR _ _ ⟨rfl,?_⟩
   rw [et,List.filter_append,List.filter_cons,hu,List.map_append]; rfl
  | false =>
   rw [if_neg Bool.false_ne_true]
   refine hR _ _ ⟨rfl,?_⟩
   rw [et,List.filter_append,List.filter_cons,hu,List.map_append]
   exact (List.append_nil _).symm
 ·rintro ys H2 ⟨rfl,rfl⟩ D hD
  rw [List.take_length]
  exact hd D hD
theorem comp_places {J : It} {S : Hs} {ks : List Nat} {fv : List (Str × Nat)} {tt : TT} {te : TE} {σ : St} {H : Hp} {Q : VK} (p : Nat -> Bool) (hz : ks.length <= 900) (hg : ∀ i,i < ks.length -> J.go i H) (hst : J.stop ks.length H) (hy : ∀ i x H',J.yld i H x H' -> H' = H /\ ((ks.map S.pl).map V.int)[i]? = some x)
  (hs : ∀ k ∈ ks,∀ R : Option V -> Hp -> Prop,R (if p k = true then some (.int (S.pl k)) else none) H -> tt (inner σ fv (some (.int (S.pl k)))) H fun b H2=>if b = true then te (inner σ fv (some (.int (S.pl k)))) H2 fun y H3=>R (some y) H3 else R none H2)
  (hd : ∀ D,H D = none -> Q (.ref D) (upd H D (.lst (((ks.filter p).map S.pl).map V.int)))) : CompGo J fv tt te σ Q H :=
 comp_placesG p (fun k=>.int (S.pl k)) hz hg hst hy hs fun D hD=>by
  have:=hd D hD
  rw [List.map_map] at this; exact this
end
end GH
namespace GH
open PySem L2
section
theorem dpP {H : Hp} {d : Addr} {z : Int} {td lh : Addr} {g : Stg} {f : Int} (e : H d = some (.dK (hdK z td lh g f))) (g' : Stg) : DPut H d (.str "phase") (.str g'.s) (upd H d (.dK (hdK z td lh g' f))):=by
 have:=DPut.k (k:=(Sum.inr ("phase" : Str) : Key)) (v:=.str g'.s) e (small1000 (by show 5 <= 1000; decide))
 rw [putK_phase] at this; exact this
theorem dpF {H : Hp} {d : Addr} {z : Int} {td lh : Addr} {g : Stg} {f : Int} (e : H d = some (.dK (hdK z td lh g f))) (f' : Int) : DPut H d (.str "finger") (.int f') (upd H d (.dK (hdK z td lh g f'))):=by
 have:=DPut.k (k:=(Sum.inr ("finger" : Str) : Key)) (v:=.int f') e (small1000 (by show 5 <= 1000; decide))
 rw [putK_finger] at this; exact this
theorem dpT {H : Hp} {d : Addr} {z : Int} {td lh : Addr} {g : Stg} {f : Int} (e : H d = some (.dK (hdK z td lh g f))) (t' : Addr) : DPut H d (.str "things") (.ref t') (upd H d (.dK (hdK z t' lh g f))):=by
 have:=DPut.k (k:=(Sum.inr ("things" : Str) : Key)) (v:=.ref t') e (small1000 (by show 5 <= 1000; decide))
 rw [putK_things] at this; exact this
theorem dpH {H : Hp} {d : Addr} {z : Int} {td lh : Addr} {g : Stg} {f : Int} (e : H d = some (.dK (hdK z td lh g f))) (l' : Addr) : DPut H d (.str "hands") (.ref l') (upd H d (.dK (hdK z td l' g f))):=by
 have:=DPut.k (k:=(Sum.inr ("hands" : Str) : Key)) (v:=.ref l') e (small1000 (by show 5 <= 1000; decide))
 rw [putK_hands] at this; exact this
theorem dgF {H : Hp} {d : Addr} {z : Int} {td lh : Addr} {g : Stg} {f : Int} (e : H d = some (.dK (hdK z td lh g f))) : DGet H d (.str "finger") (some (.int f)):=by
 have:=DGet.k (k:=(Sum.inr ("finger" : Str) : Key)) e
 rw [hd_finger] at this; exact this
theorem thaw_eq {H : Hp} {t D : Addr} {k : List (Key × V)} {o : Obj} {u x : HO} (e : H t = some (.dK k)) (n : D ≠ t) : upd (upd (upd H t (.frz o u)) D x) t (.dK k) = upd H D x:=by
 funext b
 by_cases h : b = t
 ·subst h; rw [upd_same,upd_ne n.symm,e]
 ·rw [upd_ne h]
  by_cases h2 : b = D
  ·subst h2; rw [upd_same,upd_same]
  ·rw [upd_ne h2,upd_ne h2,upd_ne h]
theorem thK_kv (ks : List Nat) (S : Hs) (en : Nat -> Addr) : (thK ks S.pl en).map (fun p=>kV p.1) = (ks.map S.pl).map V.int:=by
 unfold thK; rw [List.map_map,List.map_map]; rfl
theorem grey_empty (S : Hs) : ((S.greys.map S.pl).map V.int).isEmpty = decide (S.leastGrey = none):=by
 rw [List.isEmpty_map,List.isEmpty_map,Bool.eq_iff_iff,List.isEmpty_iff,decide_eq_true_iff,leastGrey_none]
 unfold Hs.greys
 rw [List.filter_eq_nil_iff]
 constructor
 ·intro h k hk z; exact h k hk (decide_eq_true z)
 ·intro h k hk z; exact h k hk (of_decide_eq_true z)
theorem from_empty {S : Hs} {ks : List Nat} (p : ks.Perm S.things) (f : Int) : (((ks.filter fun k=>decide (f <= S.pl k)).map S.pl).map V.int).isEmpty = decide (S.leastFrom f = none):=by
 rw [List.isEmpty_map,List.isEmpty_map,Bool.eq_iff_iff,List.isEmpty_iff,decide_eq_true_iff,leastFrom_none,List.filter_eq_nil_iff]
 constructor
 ·intro h k hk
  have:=h k (p.mem_iff.mpr hk)
  rw [decide_eq_true_iff] at this
  show S.pl k < f
  omega
 ·intro h k hk z
  have h1 : S.pl k < f:=h k (p.mem_iff.mp hk)
  have h2 : f <= S.pl k:=of_decide_eq_true z
  omega
theorem leastFrom_min {S : Hs} (l : Laid S) {f : Int} {k : Nat} (h : S.leastFrom f = some k) : ∀ j ∈ S.things,f <= S.pl j -> S.pl k <= S.pl j:=by
 intro j hj hf
 unfold Hs.leastFrom at h
 obtain ⟨hp,as,bs,el,hno⟩:=List.find?_eq_some_iff_append.mp h
 have rise:=l.rise
 rw [el] at hj rise
 rcases List.mem_append.mp hj with z | z
 ·have:=hno j z
  simp at this
  have h2 : f <= (S.th j).place:=hf
  omega
 ·rcases List.mem_cons.mp z with z | z
  ·rw [z]; exact Int.le_refl _
  ·have h1:=(List.pairwise_append.mp rise).2.1
   have h2:=(List.pairwise_cons.mp h1).1 j z
   have:=words_pos (S.th k)
   show (S.th k).place <= (S.th j).place
   unfold Th.behind at h2
   omega
theorem shadeAll_snoc {S : Hs} {l : List Vl} {i : Nat} {v : Vl} (h : l[i]? = some v) : S.shadeAll (l.take (i + 1)) = (S.shadeAll (l.take i)).makeGrey v:=by
 unfold Hs.shadeAll
 rw [List.take_add_one,h,List.foldl_append]; rfl
theorem shadeAll_things (S : Hs) (l : List Vl) : (S.shadeAll l).things = S.things:=by rw [shadeAll_eq]
theorem shadeAll_pl (S : Hs) (l : List Vl) : (S.shadeAll l).pl = S.pl:=by rw [shadeAll_eq]; exact funext fun j=>shTh_place ..
theorem Laid.shadeAll {S : Hs} (l : Laid S) (vs : List Vl) : Laid (S.shadeAll vs):=l.of (by rw [shadeAll_eq]) (fun j=>by rw [shadeAll_eq]; exact shTh_fields ..) (fun j=>by rw [shadeAll_eq]; exact shTh_place ..) (by rw [shadeAll_eq]; exact List.Sublist.refl _)
theorem makeGrey_pl (S : Hs) (v : Vl) : (S.makeGrey v).pl = S.pl:=funext fun j=>makeGrey_place S v j
end
end GH
namespace GH
open PySem L2
section
theorem hands_mem {S : Hs} (wf : Wf S) (w : HIn S) {k : Nat} : Vl.thing k ∈ hands8 S ↔ Vl.thing k ∈ S.hands.map (·.2):=by
 constructor
 ·intro h
  obtain ⟨i,_,e⟩:=List.mem_map.mp h
  exact List.mem_map.mpr ⟨_,held_mem e,rfl⟩
 ·intro h
  obtain ⟨p,hp,e⟩:=List.mem_map.mp h
  obtain ⟨a,b⟩:=w p hp
  refine List.mem_map.mpr ⟨p.1.toNat,List.mem_range.mpr (by omega),?_⟩
  rw [Int.toNat_of_nonneg a]
  unfold Hs.held
  rw [look_of wf.hn (v:=.thing k) (by rw [<- e]; exact hp)]; rfl
theorem begin8 {S : Hs} (wf : Wf S) (w : HIn S) : S.begin = (Hs.shadeAll { S with stage:=.mark } (hands8 S)).change:=by
 unfold Hs.begin
 rw [shadeAll_eq,shadeAll_eq]
 have : shTh S.th (S.hands.map (·.2)) = shTh S.th (hands8 S):=by
  funext j
  unfold shTh
  by_cases h : (S.th j).colour = .white /\ Vl.thing j ∈ hands8 S
  ·rw [if_pos h,if_pos ⟨h.1,(hands_mem wf w).mp h.2⟩]
  ·rw [if_neg h,if_neg fun z=>h ⟨z.1,(hands_mem wf w).mpr z.2⟩]
 rw [this]
end
end GH
namespace GH
open PySem L2
section
theorem ge_const (S : Hs) (k : Nat) (h : S.leastGrey = some k) : ((S.greys.map S.pl).map V.int)[0]? = some (.int (S.pl k)):=by
 have : S.greys.head? = some k:=by unfold Hs.greys; rw [List.head?_filter]; exact h
 rw [<- List.head?_eq_getElem?,List.head?_map,List.head?_map,this]; rfl
theorem Laid.part0 {S : Hs} (l : Laid S) : Laid S.part0:=l.of (Same.part0 S).size (Same.part0 S).fields (part0_place S) (part0_sub S)
end
end GH
namespace GH
open PySem L2
section
def off (t : Nat -> Th) : List Nat -> Int
 | []=>0
 | k :: r=>(t k).words + off t r
theorem off_snoc (t : Nat -> Th) (k : Nat) : ∀ l : List Nat,off t (l ++ [k]) = off t l + (t k).words
 | []=>by show (t k).words + 0 = 0 + (t k).words; omega
 | j :: r=>by show (t j).words + off t (r ++ [k]) = (t j).words + off t r + (t k).words; rw [off_snoc t k r]; omega
theorem off_congr {t u : Nat -> Th} : ∀ {l : List Nat},(∀ k ∈ l,(t k).words = (u k).words) -> off t l = off u l
 | [],_=>rfl
 | k :: r,h=>by show (t k).words + off t r = (u k).words + off u r; rw [h k (List.mem_cons_self ..),off_congr fun j hj=>h j (List.mem_cons_of_mem _ hj)]
theorem slide_at : ∀ {l : List Nat} {a : Int} {t : Nat -> Th} {i k : Nat},l.Nodup -> l[i]? = some k -> (slideGo a l t k).place = a + off t (l.take i)
 | [],_,_,_,_,_,h=>by simp at h
 | j :: r,a,t,i,k,nd,h=>by
  rw [List.nodup_cons] at nd
  cases i with
  | zero =>
   have : j = k:=by simpa using h
   subst this
   rw [sl_head nd.1]; show a = a + 0; omega
  | succ i =>
   have h' : r[i]? = some k:=by simpa using h
   have e:=slide_at (a:=a + (t j).words) (t:=fun m=>if m = j then { t j with place:=a } else t m) nd.2 h'
   have hw : off (fun m=>if m = j then { t j with place:=a } else t m) (r.take i) = off t (r.take i):=off_congr fun m hm=>by
    by_cases q : m = j
    ·rw [if_pos q,q]; rfl
    ·rw [if_neg q]
   rw [hw] at e
   show (slideGo (a + (t j).words) r (fun m=>if m = j then { t j with place:=a } else t m) k).place = a + ((t j).words + off t (r.take i))
   rw [e]; omega
theorem slide_pl {S : Hs} (nd : S.things.Nodup) {i k : Nat} (h : S.things[i]? = some k) : S.slide.pl k = off S.th (S.things.take i):=by
 show (slideGo 0 S.things S.th k).place = _
 rw [slide_at nd h]; omega
def plK (l : List Nat) (p q : Nat -> Int) : List (Key × V):=l.map fun k=>((Sum.inl (p k) : Key),V.int (q k))
theorem plK_val {p q : Nat -> Int} {k : Nat} : ∀ {ks : List Nat},k ∈ ks -> (∀ j ∈ ks,p j = p k -> j = k) -> valV (plK ks p q) (Sum.inl (p k) : Key) = some (.int (q k))
 | [],h,_=>nomatch h
 | j :: r,h,u=>by
  by_cases e : j = k
  ·subst e; exact valV_pos rfl
  ·have : ¬ (Sum.inl (p j) : Key) = Sum.inl (p k):=fun z=>e (u j (List.mem_cons_self ..) (Sum.inl.inj z))
   exact (valV_neg this).trans (plK_val ((List.mem_cons.mp h).resolve_left fun z=>e z.symm) fun i hi=>u i (List.mem_cons_of_mem _ hi))
theorem plK_snoc {p q : Nat -> Int} {l : List Nat} {k : Nat} (h : ∀ j ∈ l,p j ≠ p k) : putK (plK l p q) (Sum.inl (p k) : Key) (.int (q k)) = plK (l ++ [k]) p q:=by
 rw [putK_new]
 ·unfold plK; rw [List.map_append]; rfl
 ·intro x hx
  obtain ⟨j,hj,rfl⟩:=List.mem_map.mp hx
  exact fun z=>h j hj (Sum.inl.inj z)
theorem plK_kv (ks : List Nat) (S : Hs) (q : Nat -> Int) : (plK ks S.pl q).map (fun p=>kV p.1) = (ks.map S.pl).map V.int:=by
 unfold plK; rw [List.map_map,List.map_map]; rfl
theorem thK_snoc {p : Nat -> Int} {en : Nat -> Addr} {l : List Nat} {k : Nat} {e : Addr} (h : ∀ j ∈ l,p j ≠ p k) (hk : k ∉ l) : putK (thK l p en) (Sum.inl (p k) : Key) (.ref e) = thK (l ++ [k]) p (fun j=>if j = k then e else en j):=by
 rw [putK_new]
 ·unfold thK
  rw [List.map_append]
  congr 1
  ·refine List.map_congr_left fun j hj=>?_
   dsimp only
   rw [if_neg (show ¬ j = k from fun z=>hk (by rw [<- z]; exact hj))]
  ·show [((Sum.inl (p k) : Key),V.ref e)] = [((Sum.inl (p k) : Key),V.ref (if k = k then e else en k))]
   rw [if_pos rfl]
 ·intro x hx
  obtain ⟨j,hj,rfl⟩:=List.mem_map.mp hx
  exact fun z=>h j hj (Sum.inl.inj z)
theorem for_keys {d : Addr} {o : Obj} {xs : List V} {g : TG} {tb : TS} {D : Ends} {σ : St} {H : Hp} (Pv : Nat -> St -> Hp -> Prop) (h0 : Pv 0 σ H) (hl : ∀ i σ H,i <= xs.length -> Pv i σ H -> ∃ u,H d = some (.frz o u))
  (hs : ∀ i x σ H,xs[i]? = some x -> Pv i σ H -> g x σ H fun σ2 H2=>tb { D with nx:=Pv (i + 1),ct:=Pv (i + 1),bk:=D.nx } σ2 H2) (hd : ∀ σ H,Pv xs.length σ H -> D.nx σ H) :
  ∃ W : Nat -> Nat -> St -> Hp -> Prop,(∃ m,W 0 m σ H) /\ ∀ i m σ H,W i m σ H ->
   ((Itv d o xs).stop i H /\ D.nx σ H) \/ ((Itv d o xs).go i H /\ ∃ N : St -> Hp -> Prop,(∀ σ' H',N σ' H' -> ∃ m',m' < m /\ W (i + 1) m' σ' H') /\ ∀ x H',(Itv d o xs).yld i H x H' -> g x σ H' fun σ2 H2=>tb { D with nx:=N,ct:=N,bk:=D.nx } σ2 H2):=by
 refine ⟨fun i m σ H=>m = xs.length - i /\ i <= xs.length /\ Pv i σ H,⟨xs.length,by simp,Nat.zero_le _,h0⟩,?_⟩
 rintro i m σ H ⟨rfl,hi,p⟩
 have q:=hl i σ H hi p
 by_cases hlt : i < xs.length
 ·refine .inr ⟨⟨q,hlt⟩,Pv (i + 1),fun σ' H' p'=>⟨xs.length - (i + 1),by omega,rfl,hlt,p'⟩,fun x H' y=>?_⟩
  obtain ⟨rfl,hy⟩:=y
  exact hs i x σ H' hy p
 ·have e : i = xs.length:=by omega
  subst e
  exact .inl ⟨⟨q,Nat.le_refl _⟩,hd σ H p⟩
theorem comp_vals {K : PySem.W.Frag} {a : Addr} {vs : List V} {l : List Vl} {p q : Nat -> Int} {σ : St} {fv : List (Str × Nat)} {te : TE} {Q : VK} {H : Hp} (ea : H a = some (.lst vs)) (rs : Reps H vs (l.map (vP p))) (hl : l.length <= 900)
  (hs : ∀ (r : Addr) (v : Vl) (H1 : Hp) (R : VK),v ∈ l -> (∀ b o,H b = some o -> H1 b = some o) -> H1 r = some (.tup (vQ p v)) -> (∀ r' H2,H2 r' = some (.tup (vQ q v)) -> (∀ b o,H1 b = some o -> H2 b = some o) -> R (.ref r') H2) -> te (inner σ fv (some (.ref r))) H1 R)
  (fin : ∀ ys H1 D,Reps H1 ys (l.map (vP q)) -> (∀ b o,H b = some o -> H1 b = some o) -> H1 D = none -> Q (.ref D) (upd H1 D (.lst ys))) : CompGo (Itl K a) fv tYes te σ Q H:=by
 have hlen:=rs.len
 rw [List.length_map] at hlen
 refine comp_go (J:=Itl K a) (n:=l.length) (fun i ys H2=>(∀ b o,H b = some o -> H2 b = some o) /\ Reps H2 ys ((l.take i).map (vP q))) (small1000 (by omega)) ⟨fun _ _ e=>e,.nil⟩ ?_ ?_ ?_
 ·rintro i ys H2 hi ⟨s2,ry⟩
  have:=ry.len
  rw [List.length_map,List.length_take] at this
  exact ⟨by omega,fun h=>⟨vs,vs[i],SqL.of (s2 _ _ ea),by simp⟩,fun h=>⟨vs,SqL.of (s2 _ _ ea),by omega⟩⟩
 ·rintro i ys H2 x H' hi ⟨s2,ry⟩ ⟨rfl,hx⟩ R hR
  obtain ⟨dx,hdx,rx⟩:=rs.get (hx _ (SqL.of (s2 _ _ ea)))
  obtain ⟨v,hv,rfl⟩:=get_map hdx
  obtain ⟨r,rfl,er⟩:=vP_rep rx
  refine tyes (iteT ?_)
  refine hs r v H' (fun y H3=>R (ys ++ [y]) H3) (List.mem_of_getElem? hv) s2 (s2 _ _ er) fun r' H3 e3 s3=>hR _ _ ⟨fun b o e=>s3 b o (s2 b o e),?_⟩
  rw [List.take_add_one,hv,List.map_append]
  exact .append (ry.mono s3) (.cons (rep_vP e3) .nil)
 ·rintro ys H2 ⟨s2,ry⟩ D hD
  rw [List.take_length] at ry
  exact fin ys H2 D ry s2 hD
structure Anew (B H : Hp) (S : Hs) (t : Addr) (en ft : Nat -> Addr) (l : List Nat) : Prop where
 tds : H t = some (.dK (thK l S.slide.pl en))
 ent : ∀ k ∈ l,H (en k) = some (.lst [.ref (ft k),.str (S.th k).colour.s])
 fld : ∀ k ∈ l,∃ fv,H (ft k) = some (.lst fv) /\ Reps H fv ((S.th k).fields.map (vP S.slide.pl))
 fe : ∀ k ∈ l,B (en k) = none
 ff : ∀ k ∈ l,B (ft k) = none
 nef : ∀ j ∈ l,∀ k ∈ l,en j ≠ ft k
 ein : ∀ j ∈ l,∀ k ∈ l,en j = en k -> j = k
 fin : ∀ j ∈ l,∀ k ∈ l,ft j = ft k -> j = k
theorem Anew.ext {B H H' : Hp} {S : Hs} {t : Addr} {en ft : Nat -> Addr} {l : List Nat} (A : Anew B H S t en ft l) (s : ∀ b o,H b = some o -> H' b = some o) : Anew B H' S t en ft l :=
 ⟨s _ _ A.tds,fun k hk=>s _ _ (A.ent k hk),fun k hk=>by obtain ⟨fv,e,r⟩:=A.fld k hk; exact ⟨fv,s _ _ e,r.mono s⟩,A.fe,A.ff,A.nef,A.ein,A.fin⟩
theorem Anew.add {B H : Hp} {S : Hs} {t D E : Addr} {en ft : Nat -> Addr} {l : List Nat} {k : Nat} {ys : List V} (A : Anew B H S t en ft l) (hk : k ∉ l) (hp : ∀ j ∈ l,S.slide.pl j ≠ S.slide.pl k)
  (hD : H D = none) (ry : Reps H ys ((S.th k).fields.map (vP S.slide.pl))) (hE : upd H D (.lst ys) E = none) (bD : B D = none) (bE : B E = none) :
  Anew B (upd (upd (upd H D (.lst ys)) E (.lst [.ref D,.str (S.th k).colour.s])) t (.dK (putK (thK l S.slide.pl en) (Sum.inl (S.slide.pl k) : Key) (.ref E)))) S t (fun j=>if j = k then E else en j) (fun j=>if j = k then D else ft j) (l ++ [k]):=by
 have nE : E ≠ D:=fun z=>by rw [z,upd_same] at hE; cases hE
 have hE' : H E = none:=by rw [upd_ne nE] at hE; exact hE
 have s1 : ∀ b o,H b = some o -> b ≠ t -> upd (upd (upd H D (.lst ys)) E (.lst [.ref D,.str (S.th k).colour.s])) t (.dK (putK (thK l S.slide.pl en) (Sum.inl (S.slide.pl k) : Key) (.ref E))) b = some o:=fun b o e hb=>by
  rw [upd_ne hb,upd_ne (ne_of_none e hE'),upd_ne (ne_of_none e hD)]; exact e
 have tk : ∀ b xs,H b = some (.tup xs) -> _:=fun b xs e=>s1 b (.tup xs) e (ne_of e A.tds (fun z=>nomatch z))
 have nDt : D ≠ t:=(ne_of_none A.tds hD).symm
 have nEt : E ≠ t:=(ne_of_none A.tds hE').symm
 have e0 : ∀ j ∈ l,(if j = k then E else en j) = en j:=fun j hj=>if_neg fun z=>hk (by rw [<- z]; exact hj)
 have f0 : ∀ j ∈ l,(if j = k then D else ft j) = ft j:=fun j hj=>if_neg fun z=>hk (by rw [<- z]; exact hj)
 have ek : (if k = k then E else en k) = E:=if_pos rfl
 have fk : (if k = k then D else ft k) = D:=if_pos rfl
 have cs : ∀ {P : Nat -> Prop},(∀ j ∈ l,P j) -> P k -> ∀ j ∈ l ++ [k],P j:=fun h1 h2 j hj=>by
  rcases List.mem_append.mp hj with z | z
  ·exact h1 j z
  ·rw [List.mem_singleton.mp z]; exact h2
 have ne : ∀ j ∈ l,en j ≠ E /\ en j ≠ D:=fun j hj=>⟨ne_of_none (A.ent j hj) hE',ne_of_none (A.ent j hj) hD⟩
 have nf : ∀ j ∈ l,ft j ≠ E /\ ft j ≠ D:=fun j hj=>by
  obtain ⟨fv,e,_⟩:=A.fld j hj
  exact ⟨ne_of_none e hE',ne_of_none e hD⟩
 refine ⟨?_,cs (fun j hj=>?_) ?_,cs (fun j hj=>?_) ?_,cs (fun j hj=>?_) ?_,cs (fun j hj=>?_) ?_,cs (fun i hi=>cs (fun j hj=>?_) ?_) (cs (fun j hj=>?_) ?_),cs (fun i hi=>cs (fun j hj=>?_) ?_) (cs (fun j hj=>?_) ?_),cs (fun i hi=>cs (fun j hj=>?_) ?_) (cs (fun j hj=>?_) ?_)⟩
 ·rw [upd_same,thK_snoc hp hk]
 ·rw [e0 j hj,f0 j hj]; exact s1 _ _ (A.ent j hj) (ne_of (A.ent j hj) A.tds (fun z=>nomatch z))
 ·rw [ek,fk,upd_ne nEt,upd_same]
 ·rw [f0 j hj]
  obtain ⟨fv,e,r⟩:=A.fld j hj
  exact ⟨fv,s1 _ _ e (ne_of e A.tds (fun z=>nomatch z)),r.tups tk (vPs_pure _ _)⟩
 ·rw [fk]
  exact ⟨ys,by rw [upd_ne nDt,upd_ne nE.symm,upd_same],ry.tups tk (vPs_pure _ _)⟩
 ·rw [e0 j hj]; exact A.fe j hj
 ·rw [ek]; exact bE
 ·rw [f0 j hj]; exact A.ff j hj
 ·rw [fk]; exact bD
 ·rw [e0 i hi,f0 j hj]; exact A.nef i hi j hj
 ·rw [e0 i hi,fk]; exact (ne i hi).2
 ·rw [ek,f0 j hj]; exact (nf j hj).1.symm
 ·rw [ek,fk]; exact nE
 ·rw [e0 i hi,e0 j hj]; exact A.ein i hi j hj
 ·rw [e0 i hi,ek]; exact fun z=>absurd z (ne i hi).1
 ·rw [ek,e0 j hj]; exact fun z=>absurd z.symm (ne j hj).1
 ·intro _; rfl
 ·rw [f0 i hi,f0 j hj]; exact A.fin i hi j hj
 ·rw [f0 i hi,fk]; exact fun z=>absurd z (nf i hi).2
 ·rw [fk,f0 j hj]; exact fun z=>absurd z.symm (nf j hj).2
 ·intro _; rfl
end
end GH
namespace GH
open PySem L2
section
theorem lay_mem {S : Hs} {T : Th} {k : Nat} : k ∈ (S.lay T).things ↔ k = S.n \/ k ∈ S.things:=by
 show k ∈ S.things.take (S.before T.place).length ++ S.n :: S.things.drop (S.before T.place).length ↔ _
 have : k ∈ S.things ↔ k ∈ S.things.take (S.before T.place).length \/ k ∈ S.things.drop (S.before T.place).length:=by
  rw [<- List.mem_append,List.take_append_drop]
 rw [List.mem_append,List.mem_cons,this]
 constructor
 ·rintro (h | h | h)
  ·exact .inr (.inl h)
  ·exact .inl h
  ·exact .inr (.inr h)
 ·rintro (h | h | h)
  ·exact .inr (.inl h)
  ·exact .inl h
  ·exact .inr (.inr h)
theorem lay_perm (S : Hs) (T : Th) : (S.things ++ [S.n]).Perm (S.lay T).things:=by
 show (S.things ++ [S.n]).Perm (S.things.take (S.before T.place).length ++ S.n :: S.things.drop (S.before T.place).length)
 refine List.Perm.trans ?_ List.perm_middle.symm
 rw [List.take_append_drop]
 exact List.perm_append_comm (l₁:=S.things) (l₂:=[S.n])
theorem lay_th {S : Hs} {T : Th} {k : Nat} (h : k < S.n) : (S.lay T).th k = S.th k:=if_neg (by omega)
theorem lay_thn {S : Hs} {T : Th} : (S.lay T).th S.n = T:=if_pos rfl
def HP.add (I : HP) (n : Nat) (E D : Addr) : HP:={ I with en:=fun k=>if k = n then E else I.en k,ft:=fun k=>if k = n then D else I.ft k,ks:=I.ks ++ [n] }
theorem Hnd.lay {H : Hp} {d : Addr} {I : HP} {S : Hs} (J : Hnd H d I S) (wf : Wf S) {D E : Addr} {ys : List V} {T : Th} (hD : H D = some (.lst ys)) (ry : Reps H ys (T.fields.map (vP S.pl))) (hE : H E = some (.lst [.ref D,.str T.colour.s])) (nD : ¬ HOwn I d S.things D) (nE : ¬ HOwn I d S.things E) (nED : E ≠ D)
  (fT : ∀ k,Vl.thing k ∈ T.fields -> k < S.n) (hp : ∀ k ∈ S.things,S.pl k ≠ T.place) : Hnd (upd H I.td (.dK (putK (thK I.ks S.pl I.en) (Sum.inl T.place : Key) (.ref E)))) d (I.add S.n E D) (S.lay T):=by
 have plk : ∀ k,k < S.n -> (S.lay T).pl k = S.pl k:=fun k hk=>by show ((S.lay T).th k).place = _; rw [lay_th hk]; rfl
 have pln : (S.lay T).pl S.n = T.place:=by show ((S.lay T).th S.n).place = _; rw [lay_thn]
 have kn : ∀ k ∈ I.ks,k < S.n:=fun k hk=>wf.tv k (J.prm.mem_iff.mp hk)
 have e1 : thK I.ks S.pl I.en = thK I.ks (S.lay T).pl I.en:=List.map_congr_left fun k hk=>by rw [plk k (kn k hk)]
 have e2 : putK (thK I.ks S.pl I.en) (Sum.inl T.place : Key) (.ref E) = thK (I.ks ++ [S.n]) (S.lay T).pl (I.add S.n E D).en:=by
  rw [e1,<- pln]
  refine thK_snoc (fun j hj=>?_) fun z=>absurd (kn _ z) (Nat.lt_irrefl _)
  rw [plk j (kn j hj),pln]
  exact hp j (J.prm.mem_iff.mp hj)
 rw [e2]
 generalize ho : (HO.dK (thK (I.ks ++ [S.n]) (S.lay T).pl (I.add S.n E D).en)) = ox
 have tk : ∀ b xs,H b = some (.tup xs) -> upd H I.td ox b = some (.tup xs):=fun b xs e=>(upd_ne (ne_of e J.tds (fun z=>nomatch z))).trans e
 have en0 : ∀ k,k < S.n -> (I.add S.n E D).en k = I.en k:=fun k hk=>if_neg (by omega)
 have ft0 : ∀ k,k < S.n -> (I.add S.n E D).ft k = I.ft k:=fun k hk=>if_neg (by omega)
 have enn : (I.add S.n E D).en S.n = E:=if_pos rfl
 have ftn : (I.add S.n E D).ft S.n = D:=if_pos rfl
 have nEt : E ≠ I.td:=fun z=>nE (.inr (.inl z))
 have nDt : D ≠ I.td:=fun z=>nD (.inr (.inl z))
 have cs : ∀ {P : Nat -> Prop},(∀ k ∈ S.things,k < S.n -> P k) -> P S.n -> ∀ k ∈ (S.lay T).things,P k:=fun h1 h2 k hk=>by
  rcases lay_mem.mp hk with z | z
  ·rw [z]; exact h2
  ·exact h1 k z (wf.tv k z)
 have vv : ∀ l : List Vl,(∀ k,Vl.thing k ∈ l -> k < S.n) -> l.map (vP (S.lay T).pl) = l.map (vP S.pl):=fun l h=>vP_congr fun k hk=>plk k (h k hk)
 refine ⟨(upd_ne J.ndt.symm).trans J.dic,J.fge,by rw [<- ho]; exact upd_same,(J.prm.append_right _).trans (lay_perm S T),cs (fun k hk hn=>?_) ?_,cs (fun k hk hn=>?_) ?_,?_,J.ndt,cs (fun k hk hn=>?_) ?_,cs (fun k hk hn=>?_) ?_,cs (fun i hi ni=>cs (fun j hj nj=>?_) ?_) (cs (fun j hj nj=>?_) ?_),cs (fun i hi ni=>cs (fun j hj nj=>?_) ?_) (cs (fun j hj nj=>?_) ?_),cs (fun i hi ni=>cs (fun j hj nj=>?_) ?_) (cs (fun j hj nj=>?_) ?_)⟩
 ·rw [en0 k hn,ft0 k hn,lay_th hn]; exact (upd_ne (ne_of (J.ent k hk) J.tds (fun z=>nomatch z))).trans (J.ent k hk)
 ·rw [enn,ftn,lay_thn]; exact (upd_ne nEt).trans hE
 ·rw [ft0 k hn,lay_th hn,vv _ fun j hj=>wf.fv k j hn hj]
  obtain ⟨fv,e,r⟩:=J.fld k hk
  exact ⟨fv,(upd_ne (ne_of e J.tds (fun z=>nomatch z))).trans e,r.tups tk (vPs_pure _ _)⟩
 ·rw [ftn,lay_thn,vv _ fT]
  exact ⟨ys,(upd_ne nDt).trans hD,ry.tups tk (vPs_pure _ _)⟩
 ·show ∃ hv,upd H I.td ox I.lh = some (.lst hv) /\ Reps _ hv ((hands8 S).map (vP (S.lay T).pl))
  rw [vv _ (hands8_lt wf)]
  obtain ⟨hv,e,r⟩:=J.hnd
  exact ⟨hv,(upd_ne (ne_of e J.tds (fun z=>nomatch z))).trans e,r.tups tk (vPs_pure _ _)⟩
 ·rw [en0 k hn]; exact J.neh k hk
 ·rw [enn]; exact fun z=>nE (.inr (.inr (.inl z)))
 ·rw [ft0 k hn]; exact J.nfh k hk
 ·rw [ftn]; exact fun z=>nD (.inr (.inr (.inl z)))
 ·rw [en0 i ni,ft0 j nj]; exact J.nef i hi j hj
 ·rw [en0 i ni,ftn]; exact fun z=>nD (by rw [<- z]; exact own_e hi)
 ·rw [enn,ft0 j nj]; exact fun z=>nE (by rw [z]; exact own_t hj)
 ·rw [enn,ftn]; exact nED
 ·rw [en0 i ni,en0 j nj]; exact J.ein i hi j hj
 ·rw [en0 i ni,enn]; exact fun z=>absurd (by rw [<- z]; exact own_e hi) nE
 ·rw [enn,en0 j nj]; exact fun z=>absurd (by rw [z]; exact own_e hj) nE
 ·intro _; rfl
 ·rw [ft0 i ni,ft0 j nj]; exact J.fin i hi j hj
 ·rw [ft0 i ni,ftn]; exact fun z=>absurd (by rw [<- z]; exact own_t hi) nD
 ·rw [ftn,ft0 j nj]; exact fun z=>absurd (by rw [z]; exact own_t hj) nD
 ·intro _; rfl
structure Pk (I : HP) (S : Hs) : Prop where
 ks : I.ks = S.things
 at_ : ∀ i k,S.things[i]? = some k -> S.pl k = off S.th (S.things.take i)
theorem free_packed {t : Nat -> Th} {size w p : Int} (hw : 0 < w) : ∀ {l : List Nat} {a : Int},(∀ i k,l[i]? = some k -> (t k).place = a + off t (l.take i)) -> freeGo t size w a l = some p -> p = a + off t l
 | [],a,_,h=>by
  unfold freeGo at h
  split at h
  ·have:=Option.some.inj h; show p = a + 0; omega
  ·cases h
 | k :: r,a,hp,h=>by
  have h0:=hp 0 k rfl
  have h0' : (t k).place = a:=by rw [h0]; show a + 0 = a; omega
  unfold freeGo at h
  rw [if_neg (by omega)] at h
  have:=free_packed hw (a:=(t k).behind) (fun i j hj=>by
   have:=hp (i + 1) j (by simpa using hj)
   rw [this]
   show a + ((t k).words + off t (r.take i)) = (t k).place + (t k).words + off t (r.take i)
   omega) h
  rw [this]
  show (t k).place + (t k).words + off t r = a + ((t k).words + off t r)
  omega
theorem off_nonneg (t : Nat -> Th) : ∀ l : List Nat,0 <= off t l
 | []=>Int.le_refl _
 | k :: r=>by have:=off_nonneg t r; have:=words_pos (t k); show 0 <= (t k).words + off t r; omega
theorem off_append (t : Nat -> Th) : ∀ l r : List Nat,off t (l ++ r) = off t l + off t r
 | [],r=>by show off t r = 0 + off t r; omega
 | k :: l,r=>by show (t k).words + off t (l ++ r) = (t k).words + off t l + off t r; rw [off_append t l r]; omega
theorem Pk.made {I : HP} {S : Hs} (w : Pk I S) (l : Laid S) (wf : Wf S) {m : Nat} {p : Int} {c : Col} {E D : Addr} (h : S.free (2 + m) = some p) : Pk (I.add S.n E D) (S.lay ⟨p,List.replicate m (.num 0),c⟩):=by
 have hp : p = off S.th S.things:=by
  have:=free_packed (by omega) (fun i k hk=>by have h1 : (S.th k).place = _:=w.at_ i k hk; rw [h1]; omega) h
  omega
 obtain ⟨m1,m2,q1,q2,q3,q4,q5,_⟩:=free_some l h (by omega)
 have e2 : m2 = []:=by
  cases m2 with
  | nil=>rfl
  | cons k r =>
   exfalso
   have h1:=q5 k (List.mem_cons_self ..)
   have hk : k ∈ S.things:=by rw [q1]; simp
   obtain ⟨i,hi⟩:=List.getElem?_of_mem hk
   have h2 : (S.th k).place = _:=w.at_ i k hi
   have h3 : off S.th S.things = off S.th (S.things.take i) + off S.th (S.things.drop i):=by rw [<- off_append,List.take_append_drop]
   have h4:=off_nonneg S.th (S.things.drop i)
   omega
 have et : (S.lay ⟨p,List.replicate m (.num 0),c⟩).things = S.things ++ [S.n]:=by
  show S.things.take (S.before p).length ++ S.n :: S.things.drop (S.before p).length = _
  rw [q2,q3,e2,q1,e2,List.append_nil]
 have wo : ∀ l' : List Nat,(∀ k ∈ l',k < S.n) -> off (S.lay ⟨p,List.replicate m (.num 0),c⟩).th l' = off S.th l':=fun l' hl=>off_congr fun k hk=>by rw [lay_th (hl k hk)]
 refine ⟨by rw [et]; show I.ks ++ [S.n] = _; rw [w.ks],fun i k hk=>?_⟩
 rw [et] at hk ⊢
 by_cases hi : i < S.things.length
 ·rw [List.getElem?_append_left hi] at hk
  have hkm:=List.mem_of_getElem? hk
  rw [List.take_append_of_le_length (Nat.le_of_lt hi),wo _ fun j hj=>wf.tv j (List.mem_of_mem_take hj),<- w.at_ i k hk]
  show ((S.lay _).th k).place = _
  rw [lay_th (wf.tv k hkm)]; rfl
 ·rw [List.getElem?_append_right (by omega)] at hk
  have : i - S.things.length = 0:=by
   cases e : i - S.things.length with
   | zero=>rfl
   | succ j=>rw [e] at hk; simp at hk
  rw [this] at hk
  have hkn : S.n = k:=by simpa using hk
  subst hkn
  have hil : i = S.things.length:=by omega
  rw [hil,List.take_left,wo _ fun j hj=>wf.tv j hj,<- hp]
  show ((S.lay _).th S.n).place = _
  rw [lay_thn]
theorem many_left {S : Hs} (o : Ok S) (h : S.things.length < 64) : S.steps 1000000 = S.finish:=by
 refine steps_ge 1000000 o.ready ?_
 unfold Hs.left
 have h1 : S.nonBlack.length <= S.things.length:=List.length_filter_le _ _
 have h2 : (S.from' S.fg).length <= S.things.length:=List.length_filter_le _ _
 split <;> omega
theorem zerosP (p : Nat -> Int) (m : Nat) : ((List.range m).map fun _=>vP p (.num 0)) = (List.replicate m (Vl.num 0)).map (vP p):=by
 rw [List.map_const',List.length_range,List.map_replicate]
theorem free_ne {S : Hs} (l : Laid S) {w p : Int} (h : S.free w = some p) (hw : 0 < w) : ∀ k ∈ S.things,S.pl k ≠ p:=fun k hk e=>by
 obtain ⟨m1,m2,q1,_,_,q4,q5,_⟩:=free_some l h hw
 have e' : (S.th k).place = p:=e
 have:=words_pos (S.th k)
 rw [q1] at hk
 rcases List.mem_append.mp hk with z | z
 ·have:=q4 k z; unfold Th.behind at this; omega
 ·have:=q5 k z; omega
theorem sub_swept (S : Hs) : S.swept.things.Sublist S.things:=(steps_sub _ _).trans (by rw [show (S.finish.1.begin).things = S.finish.1.things by rw [begin_eq,change_things]]; exact steps_sub _ S)
end
end GH
namespace GH
open PySem L2
section
def Act.touch : Act -> Bool
 | .store _ _ _=>true
 | .load _ _ _=>true
 | .copy _ _=>true
 | .number _ _=>true
 | _=>false
theorem nm5_copy_load : decide (V.str "copy" = V.str "load") = false:=by decide +kernel
theorem nm5_number_load : decide (V.str "number" = V.str "load") = false:=by decide +kernel
theorem nm5_number_copy : decide (V.str "number" = V.str "copy") = false:=by decide +kernel
end
end GH
namespace GH
open PySem L2
section
theorem nm6_store_step : decide (V.str "store" = V.str "step") = false:=by decide +kernel
theorem nm6_load_step : decide (V.str "load" = V.str "step") = false:=by decide +kernel
theorem nm6_copy_step : decide (V.str "copy" = V.str "step") = false:=by decide +kernel
theorem nm6_number_step : decide (V.str "number" = V.str "step") = false:=by decide +kernel
theorem nm6_begin_step : decide (V.str "begin" = V.str "step") = false:=by decide +kernel
theorem nm6_slide_step : decide (V.str "slide" = V.str "step") = false:=by decide +kernel
theorem nm6_finish_step : decide (V.str "finish" = V.str "step") = false:=by decide +kernel
theorem nm6_make_step : decide (V.str "make" = V.str "step") = false:=by decide +kernel
theorem nm6_make_finish : decide (V.str "make" = V.str "finish") = false:=by decide +kernel
theorem nm6_store_finish : decide (V.str "store" = V.str "finish") = false:=by decide +kernel
theorem nm6_load_finish : decide (V.str "load" = V.str "finish") = false:=by decide +kernel
theorem nm6_copy_finish : decide (V.str "copy" = V.str "finish") = false:=by decide +kernel
theorem nm6_number_finish : decide (V.str "number" = V.str "finish") = false:=by decide +kernel
theorem nm6_begin_finish : decide (V.str "begin" = V.str "finish") = false:=by decide +kernel
theorem nm6_slide_finish : decide (V.str "slide" = V.str "finish") = false:=by decide +kernel
theorem nm6_store_begin : decide (V.str "store" = V.str "begin") = false:=by decide +kernel
theorem nm6_load_begin : decide (V.str "load" = V.str "begin") = false:=by decide +kernel
theorem nm6_copy_begin : decide (V.str "copy" = V.str "begin") = false:=by decide +kernel
theorem nm6_number_begin : decide (V.str "number" = V.str "begin") = false:=by decide +kernel
theorem nm6_store_slide : decide (V.str "store" = V.str "slide") = false:=by decide +kernel
theorem nm6_load_slide : decide (V.str "load" = V.str "slide") = false:=by decide +kernel
theorem nm6_copy_slide : decide (V.str "copy" = V.str "slide") = false:=by decide +kernel
theorem nm6_number_slide : decide (V.str "number" = V.str "slide") = false:=by decide +kernel
def Act.isStep : Act -> Bool
 | .step _=>true
 | _=>false
def Act.isFin : Act -> Bool
 | .finish=>true
 | _=>false
def Act.isBeg : Act -> Bool
 | .begin=>true
 | _=>false
theorem is_step (a : Act) : decide (V.str (actName a) = V.str "step") = a.isStep:=by
 cases a with
 | make _ _=>exact nm6_make_step
 | store _ _ _=>exact nm6_store_step
 | load _ _ _=>exact nm6_load_step
 | copy _ _=>exact nm6_copy_step
 | number _ _=>exact nm6_number_step
 | begin=>exact nm6_begin_step
 | slide=>exact nm6_slide_step
 | finish=>exact nm6_finish_step
 | step _=>exact strT
theorem is_fin {a : Act} (h : a.isStep = false) : decide (V.str (actName a) = V.str "finish") = a.isFin:=by
 cases a with
 | make _ _=>exact nm6_make_finish
 | store _ _ _=>exact nm6_store_finish
 | load _ _ _=>exact nm6_load_finish
 | copy _ _=>exact nm6_copy_finish
 | number _ _=>exact nm6_number_finish
 | begin=>exact nm6_begin_finish
 | slide=>exact nm6_slide_finish
 | finish=>exact strT
 | step _=>cases h
theorem is_beg {a : Act} (h : a.touch = true \/ a = .begin \/ a = .slide) : decide (V.str (actName a) = V.str "begin") = a.isBeg:=by
 cases a with
 | make _ _=>rcases h with h | h | h <;> cases h
 | store _ _ _=>exact nm6_store_begin
 | load _ _ _=>exact nm6_load_begin
 | copy _ _=>exact nm6_copy_begin
 | number _ _=>exact nm6_number_begin
 | begin=>exact strT
 | slide=>exact nm_slide_begin
 | finish=>rcases h with h | h | h <;> cases h
 | step _=>rcases h with h | h | h <;> cases h
theorem is_sli {a : Act} (h : a.touch = true) : decide (V.str (actName a) = V.str "slide") = false:=by
 cases a with
 | make _ _=>cases h
 | store _ _ _=>exact nm6_store_slide
 | load _ _ _=>exact nm6_load_slide
 | copy _ _=>exact nm6_copy_slide
 | number _ _=>exact nm6_number_slide
 | begin=>cases h
 | slide=>cases h
 | finish=>cases h
 | step _=>cases h
end
end GH
namespace GH
open PySem L2
section
theorem fg_scal (f : Option Int) : scal (fgV f) (fgV f) = true:=by cases f <;> rfl
theorem fgIf {fi : Option Int} {A B : Prop} (h1 : ∀ f,fi = some f -> A) (h2 : fi = none -> B) : if (!decide (fgV fi = V.non)) = true then A else B:=by
 cases fi with
 | none=>exact iteF (h2 rfl)
 | some f=>exact iteT (h1 f rfl)
theorem ready_fg {S : Hs} (r : Ready S) : S.stage = .sweep -> S.finger = some S.fg:=fun h=>by
 obtain ⟨f,e⟩:=r.fg h
 unfold Hs.fg
 rw [e]; rfl
end
end GH
namespace GH
open PySem L2
section
structure BothH (c : CA) (H0 : Hp) (B : Addr -> Prop) (H : Hp) (x : Addr) (P : Pl) (S : Hs) (d : Addr) (I : HP) (T : Hs) : Prop where
 m : HAt c H x P S
 j : Hnd H d I T
 dj : ∀ b,Own P S.n b -> ¬ HOwn I d T.things b
 nx : ¬ HOwn I d T.things x
 keep : ∀ b o,H0 b = some o -> ¬ B b -> H b = some o
 grow : ∀ b,Own P S.n b \/ HOwn I d T.things b -> B b \/ H0 b = none
section
variable {c : CA} {H0 : Hp} {B : Addr -> Prop} {H H' : Hp} {x : Addr} {P P' : Pl} {S S' : Hs} {d : Addr} {I I' : HP} {T T' : Hs}
theorem BothH.ext (t : BothH c H0 B H x P S d I T) (s : ∀ b o,H b = some o -> H' b = some o) : BothH c H0 B H' x P S d I T :=
 ⟨t.m.ext s,t.j.ext s,t.dj,t.nx,fun b o e nb=>s b o (t.keep b o e nb),t.grow⟩
theorem BothH.hall (t : BothH c H0 B H x P S d I T) (m : HAt c H' x P' S') (f : Fm P S.n P' S'.n H H') : BothH c H0 B H' x P' S' d I T:=by
 refine ⟨m,t.j.keep (fun b hb o e=>f.keep b o e fun z=>t.dj b z hb) (fun b xs e=>f.keep b _ e (t.m.at_.notTup e)),fun b h1 h2=>?_,t.nx,fun b o e nb=>?_,fun b h=>?_⟩
 ·obtain ⟨o,e⟩:=t.j.there h2
  rcases f.grow b h1 with z | z
  ·exact t.dj b z h2
  ·rw [e] at z; cases z
 ·refine f.keep b o (t.keep b o e nb) fun z=>?_
  rcases t.grow b (.inl z) with q | q
  ·exact nb q
  ·rw [e] at q; cases q
 ·rcases h with h | h
  ·rcases f.grow b h with z | z
   ·exact t.grow b (.inl z)
   ·by_cases nb : B b
    ·exact .inl nb
    ·right
     cases e : H0 b with
     | none=>rfl
     | some o=>rw [t.keep b o e nb] at z; cases z
  ·exact t.grow b (.inr h)
theorem BothH.hand (t : BothH c H0 B H x P S d I T) (j : Hnd H' d I' T') (f : HFm d I T.things I' T'.things H H') : BothH c H0 B H' x P S d I' T':=by
 obtain ⟨dx,ex⟩:=t.m.hall
 refine ⟨⟨t.m.at_.other fun b hb=>?_,⟨dx,f.keep _ _ ex t.nx⟩⟩,j,fun b h1 h2=>?_,fun h=>?_,fun b o e nb=>?_,fun b h=>?_⟩
 ·obtain ⟨o,e⟩:=t.m.at_.there hb
  rw [e]; exact f.keep b o e (t.dj b hb)
 ·obtain ⟨o,e⟩:=t.m.at_.there h1
  rcases f.grow b h2 with z | z
  ·exact t.dj b h1 z
  ·rw [e] at z; cases z
 ·rcases f.grow x h with z | z
  ·exact t.nx z
  ·rw [ex] at z; cases z
 ·refine f.keep b o (t.keep b o e nb) fun z=>?_
  rcases t.grow b (.inr z) with q | q
  ·exact nb q
  ·rw [e] at q; cases q
 ·rcases h with h | h
  ·exact t.grow b (.inl h)
  ·rcases f.grow b h with z | z
   ·exact t.grow b (.inr z)
   ·by_cases nb : B b
    ·exact .inl nb
    ·right
     cases e : H0 b with
     | none=>rfl
     | some o=>rw [t.keep b o e nb] at z; cases z
end
theorem in2_make : inV (V.str "make") [.str "step",.str "finish"] = false:=by decide +kernel
theorem in2_store : inV (V.str "store") [.str "step",.str "finish"] = false:=by decide +kernel
theorem in2_load : inV (V.str "load") [.str "step",.str "finish"] = false:=by decide +kernel
theorem in2_copy : inV (V.str "copy") [.str "step",.str "finish"] = false:=by decide +kernel
theorem in2_number : inV (V.str "number") [.str "step",.str "finish"] = false:=by decide +kernel
theorem in2_begin : inV (V.str "begin") [.str "step",.str "finish"] = false:=by decide +kernel
theorem in2_slide : inV (V.str "slide") [.str "step",.str "finish"] = false:=by decide +kernel
theorem in2_finish : inV (V.str "finish") [.str "step",.str "finish"] = true:=by decide +kernel
theorem in2_step : inV (V.str "step") [.str "step",.str "finish"] = true:=by decide +kernel
theorem in_steps (S : Hs) (a : Act) : inV (.str (actName a)) [.str "step",.str "finish"] = false \/ inV (.str (actName a)) [.str "step",.str "finish"] = true /\ ∃ i : Int,(S.act a).2.v = .int i:=by
 cases a with
 | make h m=>exact .inl in2_make
 | store h f o=>exact .inl in2_store
 | load h o f=>exact .inl in2_load
 | copy h o=>exact .inl in2_copy
 | number h n=>exact .inl in2_number
 | begin=>exact .inl in2_begin
 | slide=>exact .inl in2_slide
 | finish=>exact .inr ⟨in2_finish,_,rfl⟩
 | step n=>exact .inr ⟨in2_step,_,rfl⟩
end
end GH
namespace GH
open PySem L2
section
def sp_M___init__ (c : CA) : Sp:=fun vs H Q _=>∃ (m dx : Addr) (z : Int),vs = [.ref m,.int z] /\ H m = some (.ins c.M dx []) /\
 ∀ (d l : Addr) (H' : Hp),H d = none -> H l = none -> d ≠ l -> (∃ dx,H' m = some (.ins c.M dx [("size",.int z),("hands",.ref d),("things",.ref l)])) -> H' d = some (.dK []) -> H' l = some (.lst []) -> (∀ b o,H b = some o -> b ≠ m -> H' b = some o) -> Q .non H'
theorem sc_M___init__ : FnScope ["self","size"] ["self","size"] (defScope sM___init__):=⟨rfl,rfl,rfl,by decide +kernel,rfl,by decide +kernel,by decide +kernel⟩
theorem ok_M___init__ (L : Lk K mg) : FnOk PR w K mg base CX0 1 L.M___init__.f L.M___init__.d ["self","size"] (sp_M___init__ L.c):=by
 refine L.M___init__.F.ok sc_M___init__ (fun vs H Q E h=>?_) (fun cdv A outer s H vs Q E hr h=>?_)
 ·obtain ⟨m,dx,z,rfl,hm,k⟩:=h
  rfl
 ·obtain ⟨m,dx,z,rfl,hm,k⟩:=h
  have hu:=hu_of hr
  refine ⟨_,(pss_cons (ps_fld (pv 0) (pv 1) rfl)
   (pss_cons (ps_fld (pv 0) pe_dnewK rfl)
   (pss_one (ps_fld (pv 0) (pe_lst pa_nil) rfl)))),?_⟩
  refine ⟨_,rfl,_,rfl,m,L.c.M,dx,[],rfl,hm,L.cM,L.nM_size,(by decide),?_⟩
  intro d hd
  have nmd : m ≠ d:=ne_of_none upd_same hd
  have hd0 : H d = none:=by rw [upd_ne nmd.symm] at hd; exact hd
  refine ⟨_,rfl,m,L.c.M,dx,_,rfl,(by rw [upd_ne nmd]; exact upd_same),L.cM,L.nM_hands,(by show 1 < 1000; decide),?_⟩
  refine ⟨(by decide),fun l hl=>?_⟩
  have nml : m ≠ l:=ne_of_none upd_same hl
  rw [upd_ne nml.symm] at hl
  have ndl : d ≠ l:=ne_of_none upd_same hl
  have hl0 : H l = none:=by rw [upd_ne ndl.symm,upd_ne nml.symm] at hl; exact hl
  refine ⟨_,rfl,m,L.c.M,dx,_,rfl,(by rw [upd_ne nml]; exact upd_same),L.cM,L.nM_things,(by show 2 < 1000; decide),?_⟩
  refine k d l _ hd0 hl0 ndl ⟨dx,?_⟩ ?_ ?_ fun b o e hb=>?_
  ·rw [upd_same]
   refine congrArg (fun z=>some (HO.ins L.c.M dx z)) ?_
   show putF "things" _ (putF "hands" _ [(("size" : Str),V.int z)]) = _
   rw [pF1 (by decide +kernel)]; show putF "things" _ [(("size" : Str),V.int z),(("hands" : Str),V.ref d)] = _
   rw [pF1 (by decide +kernel),pF1 (by decide +kernel)]; rfl
  ·rw [upd_ne nmd.symm,upd_ne ndl,upd_ne nmd.symm,upd_same]
  ·rw [upd_ne nml.symm,upd_same]
  ·rw [upd_ne hb,upd_ne (ne_of_none e hl0),upd_ne hb,upd_ne (ne_of_none e hd0),upd_ne hb]; exact e
end
end GH
namespace GH
open PySem L2
section
def sp_S___init__ (c : CA) : Sp:=fun vs H Q _=>∃ (s dx m : Addr),vs = [.ref s,.ref m] /\ H s = some (.ins c.S dx []) /\ (∀ H',H' s = some (.ins c.S dx [("memory",.ref m),("stage",.str "idle"),("finger_place",.non)]) -> (∀ b,b ≠ s -> H' b = H b) -> Q .non H')
theorem sc_S___init__ : FnScope ["self","memory"] ["self","memory"] (defScope sS___init__):=⟨rfl,rfl,rfl,by decide +kernel,rfl,by decide +kernel,by decide +kernel⟩
theorem ok_S___init__ (L : Lk K mg) : FnOk PR w K mg base CX0 1 L.S___init__.f L.S___init__.d ["self","memory"] (sp_S___init__ L.c):=by
 refine L.S___init__.F.ok sc_S___init__ (fun vs H Q E h=>?_) (fun cdv A outer s H vs Q E hr h=>?_)
 ·obtain ⟨s',dx,m,rfl,hs,k⟩:=h
  rfl
 ·obtain ⟨s',dx,m,rfl,hs,k⟩:=h
  have hu:=hu_of hr
  refine ⟨_,(pss_cons (ps_fld (pv 0) (pv 1) rfl)
   (pss_cons (ps_fld (pv 0) (pe_glob (v:=.str "idle") rfl L.gIDLE ⟨_,rfl⟩) rfl)
   (pss_one (ps_fld (pv 0) pe_non rfl)))),?_⟩
  refine ⟨_,rfl,_,rfl,s',L.c.S,dx,[],rfl,hs,L.cS,L.nS_memory,(by decide),?_⟩
  refine ⟨_,rfl,s',L.c.S,dx,_,rfl,upd_same,L.cS,L.nS_stage,(by show 1 < 1000; decide),?_⟩
  refine ⟨_,rfl,s',L.c.S,dx,_,rfl,upd_same,L.cS,L.nS_finger_place,(by show 2 < 1000; decide),?_⟩
  refine k _ ?_ fun b hb=>by rw [upd_ne hb,upd_ne hb,upd_ne hb]
  rw [upd_same]
  refine congrArg (fun z=>some (HO.ins L.c.S dx z)) ?_
  show putF "finger_place" _ (putF "stage" _ [(("memory" : Str),V.ref m)]) = _
  rw [pF1 (by decide +kernel)]; show putF "finger_place" _ [(("memory" : Str),V.ref m),(("stage" : Str),V.str "idle")] = _
  rw [pF1 (by decide +kernel),pF1 (by decide +kernel)]; rfl
end
end GH
namespace GH
open PySem L2
section
def sp_H___init__ (c : CA) : Sp:=fun vs H Q _=>∃ (hh dx : Addr) (z : Int),vs = [.ref hh,.int z] /\ H hh = some (.ins c.H dx []) /\ ∀ (P : Pl) (H' : Hp),HAt c H' hh P (Hs.new z) -> (∀ b o,H b = some o -> b ≠ hh -> H' b = some o) -> (∀ b,Own P 0 b -> H b = none) -> Q .non H'
theorem sc_H___init__ : FnScope ["self","size"] ["self","size"] (defScope sH___init__):=⟨rfl,rfl,rfl,by decide +kernel,rfl,by decide +kernel,by decide +kernel⟩
theorem ok_H___init__ (L : Lk K mg) : FnOk PR w K mg base CX0 3 L.H___init__.f L.H___init__.d ["self","size"] (sp_H___init__ L.c):=by
 refine L.H___init__.F.ok sc_H___init__ (fun vs H Q E h=>?_) (fun cdv A outer s H vs Q E hr h=>?_)
 ·obtain ⟨hh,dx,z,rfl,hh0,k⟩:=h
  rfl
 ·obtain ⟨hh,dx,z,rfl,hh0,k⟩:=h
  have hu:=hu_of hr
  refine ⟨_,(pss_cons (ps_fld (pv 0) (pe_make L.kM (ok_M___init__ L) (hr.mono (by decide)) rfl L.gM L.M___init__.b .nil pass0 (pa_cons (pv 1) pa_nil)) rfl)
   (pss_one (ps_fld (pv 0) (pe_make L.kS (ok_S___init__ L) (hr.mono (by decide)) rfl L.gS L.S___init__.b .nil pass0 (pa_cons (pe_fld (pv 0) rfl) pa_nil)) rfl))),?_⟩
  refine ⟨_,rfl,fun m dm hm hdm nm=>?_⟩
  have s0 : ∀ b o,H b = some o -> upd (upd H dm (.own m)) m (.ins L.c.M dm []) b = some o:=fun b o e=>by
   rw [upd_ne (ne_of_none e hm),upd_ne (ne_of_none e hdm)]; exact e
  refine ⟨m,dm,z,rfl,upd_same,fun d l H1 hd hl ndl ⟨dm1,hm1⟩ hd1 hl1 s1=>⟨rfl,?_⟩⟩
  have s1' : ∀ b o,H b = some o -> H1 b = some o:=fun b o e=>s1 b o (s0 b o e) (ne_of_none e hm)
  have hd0 : H d = none:=by
   cases e : H d with
   | none=>rfl
   | some o=>rw [s0 d o e] at hd; cases hd
  have hl0 : H l = none:=by
   cases e : H l with
   | none=>rfl
   | some o=>rw [s0 l o e] at hl; cases hl
  have nhm : hh ≠ m:=ne_of_none hh0 hm
  refine ⟨_,rfl,hh,L.c.H,dx,[],rfl,s1' _ _ hh0,L.cH,L.nH_memory,(by decide),?_⟩
  generalize hH2 : upd H1 hh (.ins L.c.H dx (putF "memory" (.ref m) [])) = H2
  have h2h : H2 hh = some (.ins L.c.H dx [(("memory" : Str),V.ref m)]):=by rw [<- hH2]; exact upd_same
  have s2 : ∀ b o,H1 b = some o -> b ≠ hh -> H2 b = some o:=fun b o e hb=>by rw [<- hH2,upd_ne hb]; exact e
  refine ⟨_,rfl,hh,L.c.H,dx,_,_,rfl,h2h,L.cH,L.nH_memory,lk0,fun s' ds hs' hds ns=>?_⟩
  have n1 : ∀ b o,H1 b = some o -> b ≠ s':=fun b o e=>by
   by_cases hb : b = hh
   ·subst hb; exact ne_of_none h2h hs'
   ·exact ne_of_none (s2 b o e hb) hs'
  have n1d : ∀ b o,H1 b = some o -> b ≠ ds:=fun b o e=>by
   by_cases hb : b = hh
   ·subst hb; exact ne_of_none h2h hds
   ·exact ne_of_none (s2 b o e hb) hds
  have nsh : hh ≠ s':=ne_of_none h2h hs'
  have ndh : hh ≠ ds:=ne_of_none h2h hds
  refine ⟨s',ds,m,rfl,upd_same,fun H3 hs3 s3=>⟨rfl,?_⟩⟩
  have s3' : ∀ b o,H1 b = some o -> b ≠ hh -> H3 b = some o:=fun b o e hb=>by
   rw [s3 b (n1 b o e),upd_ne (n1 b o e),upd_ne (n1d b o e)]; exact s2 b o e hb
  have h3h : H3 hh = some (.ins L.c.H dx [(("memory" : Str),V.ref m)]):=by
   rw [s3 hh nsh,upd_ne nsh,upd_ne ndh]; exact h2h
  refine ⟨_,rfl,hh,L.c.H,dx,_,rfl,h3h,L.cH,L.nH_sweeper,(by show 1 < 1000; decide),?_⟩
  have ep : putF "sweeper" (.ref s') [(("memory" : Str),V.ref m)] = [(("memory" : Str),V.ref m),(("sweeper" : Str),V.ref s')]:=by rw [pF1 (by decide +kernel)]; rfl
  rw [ep]
  have nhd : d ≠ hh:=fun e=>by rw [e] at hd0; rw [hd0] at hh0; cases hh0
  have nhl : l ≠ hh:=fun e=>by rw [e] at hl0; rw [hl0] at hh0; cases hh0
  refine k ⟨m,s',d,l,fun _=>0,fun _=>0⟩ _ ⟨⟨L.ne,⟨dm1,?_⟩,⟨ds,?_⟩,?_,?_,?_,?_,?_,?_,?_⟩,⟨dx,?_⟩⟩ ?_ ?_
  ·show upd H3 hh _ m = _
   rw [upd_ne nhm.symm]; exact s3' m _ hm1 nhm.symm
  ·show upd H3 hh _ s' = _
   rw [upd_ne nsh.symm]; exact hs3
  ·show upd H3 hh _ d = _
   rw [upd_ne nhd]; exact s3' d _ hd1 nhd
  ·show upd H3 hh _ l = _
   rw [upd_ne nhl]; exact s3' l _ hl1 nhl
  ·intro j hj; exact absurd hj (Nat.not_lt_zero _)
  ·intro j hj; exact absurd hj (Nat.not_lt_zero _)
  ·intro j i hj; exact absurd hj (Nat.not_lt_zero _)
  ·intro j i hj; exact absurd hj (Nat.not_lt_zero _)
  ·intro j hj; exact absurd hj (Nat.not_lt_zero _)
  ·exact upd_same
  ·intro b o e hb
   rw [upd_ne hb]; exact s3' b o (s1' b o e) hb
  ·intro b hb
   rcases hb with hb | hb | hb | hb | ⟨j,hj,_⟩
   ·rw [hb]; exact hm
   ·rw [hb]
    show H s' = none
    cases e : H s' with
    | none=>rfl
    | some o=>exact absurd rfl (n1 s' o (s1' s' o e))
   ·rw [hb]; exact hd0
   ·rw [hb]; exact hl0
   ·exact absurd hj (Nat.not_lt_zero _)
end
end GH
namespace GH
open PySem L2
section
def sp__law_mix : Sp:=fun vs H Q _=>∃ (c p m : Int),vs = [.int c,.int p,.int m] /\ 0 < p /\ 0 < m /\ Q (.int (mix c p m)) H
theorem sc__law_mix : FnScope ["_law_cell_here","_law_prime","_law_many"] ["_law_cell_here","_law_prime","_law_many"] (defScope s_law_mix):=⟨rfl,rfl,rfl,by decide +kernel,rfl,by decide +kernel,by decide +kernel⟩
theorem ok__law_mix (L : Lk K mg) : FnOk PR w K mg base CX0 1 L._law_mix.f L._law_mix.d ["_law_cell_here","_law_prime","_law_many"] (sp__law_mix ):=by
 refine L._law_mix.F.ok sc__law_mix (fun vs H Q E h=>?_) (fun cdv A outer s H vs Q E hr h=>?_)
 ·obtain ⟨c,p,m,rfl,hp,hm,q⟩:=h
  rfl
 ·obtain ⟨c,p,m,rfl,hp,hm,q⟩:=h
  have hu:=hu_of hr
  refine ⟨_,(pss_one (ps_ret (pe_op op_mod (pe_op op_mod (pe_op op_mul (pv 0) pe_int) (pv 1)) (pv 2)))),?_⟩
  exact ⟨_,rfl,_,_,rfl,rfl,.inr ⟨by decide,by decide⟩,_,rfl,_,_,rfl,rfl,hp,_,rfl,_,_,rfl,rfl,hm,q⟩
end
end GH
namespace GH
open PySem L2
section
def sp__law_act : Sp:=fun vs H Q _=>∃ (c : Int) (sw : Bool),vs = [.int c,.bl sw] /\ ∀ r H',H' r = some (.tup (actV (actOf c sw))) -> H r = none -> (∀ b o,H b = some o -> H' b = some o) -> Q (.ref r) H'
theorem sc__law_act : FnScope ["_law_cell_here","_law_sweeps","_law_hand","_law_other","_law_field_here","_law_turn"] ["_law_cell_here","_law_sweeps"] (defScope s_law_act):=⟨rfl,rfl,rfl,by decide +kernel,rfl,by decide +kernel,by decide +kernel⟩
theorem ok__law_act (L : Lk K mg) : FnOk PR w K mg base CX0 2 L._law_act.f L._law_act.d ["_law_cell_here","_law_sweeps"] (sp__law_act ):=by
 refine L._law_act.F.ok sc__law_act (fun vs H Q E h=>?_) (fun cdv A outer s H vs Q E hr h=>?_)
 ·obtain ⟨c,sw,rfl,q⟩:=h
  rfl
 ·obtain ⟨c,sw,rfl,q⟩:=h
  have hu:=hu_of hr
  refine ⟨_,(pss_cons (ps_set (i:=2) sc__law_act.nd rfl (Or.inl rfl) (pe_call (ok__law_mix L) (hr.mono (by decide)) rfl L._law_mix.g L._law_mix.F.kp L._law_mix.b .nil pass0 (pa_cons (pv 0) (pa_cons pe_int (pa_cons (pe_ix ix_list (pe_lst (pa_cons pe_int (pa_cons pe_int pa_nil))) (pe_callTy (T:="int") call_int1 (by rfl) L.zint bt_int (pa_cons (pe_cmpR op_eq (pe_op op_mod (pv 0) pe_int) pe_int (nomark _)) pa_nil)) (fun _ _=>rfl)) pa_nil)))))
   (pss_cons (ps_set (i:=3) sc__law_act.nd rfl (Or.inl rfl) (pe_call (ok__law_mix L) (hr.mono (by decide)) rfl L._law_mix.g L._law_mix.F.kp L._law_mix.b .nil pass0 (pa_cons (pv 0) (pa_cons pe_int (pa_cons (pe_ix ix_list (pe_lst (pa_cons pe_int (pa_cons pe_int pa_nil))) (pe_callTy (T:="int") call_int1 (by rfl) L.zint bt_int (pa_cons (pe_cmpR op_eq (pe_op op_mod (pv 0) pe_int) pe_int (nomark _)) pa_nil)) (fun _ _=>rfl)) pa_nil)))))
   (pss_cons (ps_set (i:=4) sc__law_act.nd rfl (Or.inl rfl) (pe_call (ok__law_mix L) (hr.mono (by decide)) rfl L._law_mix.g L._law_mix.F.kp L._law_mix.b .nil pass0 (pa_cons (pv 0) (pa_cons pe_int (pa_cons (pe_ix ix_list (pe_lst (pa_cons pe_int (pa_cons pe_int pa_nil))) (pe_op op_mod (pv 0) pe_int) (fun _ _=>rfl)) pa_nil)))))
   (pss_cons (ps_set (i:=5) sc__law_act.nd rfl (Or.inl rfl) (pe_call (ok__law_mix L) (hr.mono (by decide)) rfl L._law_mix.g L._law_mix.F.kp L._law_mix.b .nil pass0 (pa_cons (pv 0) (pa_cons pe_int (pa_cons pe_int pa_nil)))))
   (pss_cons (ps_if (pt_cmpR op_lt (pv 5) pe_int (nomark _))
    (pss_one (ps_ret (pe_tup (pa_cons pe_str (pa_cons (pv 2) (pa_cons (pe_call (ok__law_mix L) (hr.mono (by decide)) rfl L._law_mix.g L._law_mix.F.kp L._law_mix.b .nil pass0 (pa_cons (pv 0) (pa_cons pe_int (pa_cons pe_int pa_nil)))) pa_nil))))))
    pss_nil)
   (pss_cons (ps_if (pt_cmpR op_lt (pv 5) pe_int (nomark _))
    (pss_one (ps_ret (pe_tup (pa_cons pe_str (pa_cons (pv 2) (pa_cons (pv 4) (pa_cons (pv 3) pa_nil)))))))
    pss_nil)
   (pss_cons (ps_if (pt_cmpR op_lt (pv 5) pe_int (nomark _))
    (pss_one (ps_ret (pe_tup (pa_cons pe_str (pa_cons (pv 2) (pa_cons (pv 3) (pa_cons (pv 4) pa_nil)))))))
    pss_nil)
   (pss_cons (ps_if (pt_cmpR op_eq (pv 5) pe_int (nomark _))
    (pss_one (ps_ret (pe_tup (pa_cons pe_str (pa_cons (pv 2) (pa_cons (pv 3) pa_nil))))))
    pss_nil)
   (pss_cons (ps_if (PW.pt (pw_or (pt_cmpR op_eq (pv 5) pe_int (nomark _)) (pw_or1 (pt_not (pt_val (pv 1))))))
    (pss_one (ps_ret (pe_tup (pa_cons pe_str (pa_cons (pv 2) (pa_cons (pv 0) pa_nil))))))
    pss_nil)
   (pss_cons (ps_if (pt_cmpR op_eq (pv 5) pe_int (nomark _))
    (pss_one (ps_ret (pe_tup (pa_cons pe_str pa_nil))))
    pss_nil)
   (pss_cons (ps_if (pt_cmpR op_eq (pv 5) pe_int (nomark _))
    (pss_one (ps_ret (pe_tup (pa_cons pe_str pa_nil))))
    pss_nil)
   (pss_cons (ps_if (pt_cmpR op_eq (pv 5) pe_int (nomark _))
    (pss_one (ps_ret (pe_tup (pa_cons pe_str pa_nil))))
    pss_nil)
   (pss_one (ps_ret (pe_tup (pa_cons pe_str (pa_cons (pe_call (ok__law_mix L) (hr.mono (by decide)) rfl L._law_mix.g L._law_mix.F.kp L._law_mix.b .nil pass0 (pa_cons (pv 0) (pa_cons pe_int (pa_cons (pe_ix ix_list (pe_lst (pa_cons pe_int (pa_cons pe_int pa_nil))) (pe_callTy (T:="int") call_int1 (by rfl) L.zint bt_int (pa_cons (pe_cmpR op_eq (pe_op op_mod (pv 0) pe_int) pe_int (nomark _)) pa_nil)) (fun _ _=>rfl)) pa_nil)))) pa_nil))))))))))))))))),?_⟩
  refine ⟨_,rfl,(by show 2 <= sizeLine; decide),fun l1 hl1=>?_⟩
  refine ⟨_,rfl,_,_,rfl,rfl,(by show (0 : Int) < 3; decide),rfl,.inr ⟨_,rfl,l1,_,_,_,rfl,rfl,SqL.of upd_same,ix2 _ _ _,c,9973,_,rfl,(by decide),(by split <;> decide),?_⟩⟩
  rw [dec_if]
  have k1 : ∀ b o,H b = some o -> upd H l1 (.lst [.int 5,.int 8]) b = some o:=fun b o e=>by rw [upd_ne (ne_of_none e hl1)]; exact e
  generalize upd H l1 (.lst [.int 5,.int 8]) = H1 at k1 ⊢
  refine ⟨_,rfl,(by show 2 <= sizeLine; decide),fun l2 hl2=>?_⟩
  refine ⟨_,rfl,_,_,rfl,rfl,(by show (0 : Int) < 3; decide),rfl,.inr ⟨_,rfl,l2,_,_,_,rfl,rfl,SqL.of upd_same,ix2 _ _ _,c,9967,_,rfl,(by decide),(by split <;> decide),?_⟩⟩
  rw [dec_if]
  have k2 : ∀ b o,H b = some o -> upd H1 l2 (.lst [.int 5,.int 8]) b = some o:=fun b o e=>by rw [upd_ne (ne_of_none (k1 b o e) hl2)]; exact k1 b o e
  generalize upd H1 l2 (.lst [.int 5,.int 8]) = H2 at k2 ⊢
  refine ⟨_,rfl,(by show 2 <= sizeLine; decide),fun l3 hl3=>?_⟩
  refine ⟨_,rfl,_,_,rfl,rfl,(by show (0 : Int) < 2; decide),l3,_,_,_,rfl,rfl,SqL.of upd_same,ix2m _ _ _,c,9931,_,rfl,(by decide),(by split <;> decide),?_⟩
  have k3 : ∀ b o,H b = some o -> upd H2 l3 (.lst [.int 4,.int 6]) b = some o:=fun b o e=>by rw [upd_ne (ne_of_none (k2 b o e) hl3)]; exact k2 b o e
  generalize upd H2 l3 (.lst [.int 4,.int 6]) = H3 at k3 ⊢
  refine ⟨_,rfl,c,9949,17,rfl,(by decide),(by decide),?_⟩
  have fr : ∀ r,H3 r = none -> H r = none:=fun r hr=>by
   cases e : H r with
   | none=>rfl
   | some o=>rw [k3 r o e] at hr; cases hr
  have kk : ∀ r o,H3 r = none -> ∀ b u,H b = some u -> upd H3 r o b = some u:=fun r o hr b u e=>by rw [upd_ne (ne_of_none (k3 b u e) hr)]; exact k3 b u e
  have hT : actT c = mix c 9949 17:=rfl
  have hH : actH c = mix c 9973 (if c % 3 = 0 then 8 else 5):=rfl
  have hO : actO c = mix c 9967 (if c % 3 = 1 then 8 else 5):=rfl
  have hF : actF c = mix c 9931 (if c % 2 = 0 then 4 else 6):=rfl
  rw [<- hT,<- hH,<- hO,<- hF]
  unfold actOf at q
  refine ⟨_,rfl,_,_,rfl,rfl,_,rfl,?_⟩
  refine ite2 (fun h1=>?_) (fun h1=>?_)
  ·rw [if_pos (of_decide_eq_true h1)] at q
   refine ⟨_,rfl,_,rfl,c,9941,7,rfl,(by decide),(by decide),(by show 3 <= sizeLine; decide),fun r hr=>q r _ ?_ (fr r hr) (kk r _ hr)⟩
   rw [upd_same]
   show _ = some (HO.tup [V.str "make",V.int (actH c),V.int ((mix c 9941 7).toNat : Int)])
   rw [Int.toNat_of_nonneg (mix_lo (by decide))]
  rw [if_neg (fun z=>h1 (decide_eq_true z))] at q
  refine ⟨_,rfl,_,_,rfl,rfl,_,rfl,?_⟩
  refine ite2 (fun h2=>?_) (fun h2=>?_)
  ·rw [if_pos (of_decide_eq_true h2)] at q
   exact ⟨_,rfl,_,rfl,_,rfl,(by show 4 <= sizeLine; decide),fun r hr=>q r _ upd_same (fr r hr) (kk r _ hr)⟩
  rw [if_neg (fun z=>h2 (decide_eq_true z))] at q
  refine ⟨_,rfl,_,_,rfl,rfl,_,rfl,?_⟩
  refine ite2 (fun h3=>?_) (fun h3=>?_)
  ·rw [if_pos (of_decide_eq_true h3)] at q
   exact ⟨_,rfl,_,rfl,_,rfl,(by show 4 <= sizeLine; decide),fun r hr=>q r _ upd_same (fr r hr) (kk r _ hr)⟩
  rw [if_neg (fun z=>h3 (decide_eq_true z))] at q
  refine ⟨_,rfl,rfl,_,rfl,?_⟩
  refine ite2 (fun h4=>?_) (fun h4=>?_)
  ·rw [if_pos (dec_iff.mp h4)] at q
   exact ⟨_,rfl,_,rfl,(by show 3 <= sizeLine; decide),fun r hr=>q r _ upd_same (fr r hr) (kk r _ hr)⟩
  rw [if_neg (fun z=>h4 (dec_iff.mpr z))] at q
  have num : (∀ r H',H' r = some (.tup [.str "number",.int (actH c),.int c]) -> H r = none -> (∀ b o,H b = some o -> H' b = some o) -> Q (.ref r) H') -> ∀ r,H3 r = none -> Q (.ref r) (upd H3 r (.tup [.str "number",.int (actH c),.int c])):=fun q r hr=>q r _ upd_same (fr r hr) (kk r _ hr)
  refine ⟨_,rfl,rfl,_,rfl,?_⟩
  refine ite2 (fun h5=>?_) (fun h5=>?_)
  ·rw [if_pos (.inl (dec_iff.mp h5))] at q
   exact iteT ⟨_,rfl,_,rfl,(by show 3 <= sizeLine; decide),num q⟩
  refine ⟨_,rfl,_,rfl,?_⟩
  cases sw with
  | false =>
   rw [if_pos (.inr rfl)] at q
   exact iteT ⟨_,rfl,_,rfl,(by show 3 <= sizeLine; decide),num q⟩
  | true =>
   rw [if_neg (fun z=>z.elim (fun z=>h5 (dec_iff.mpr z)) (fun z=>nomatch z))] at q
   refine iteF ?_
   refine ⟨_,rfl,rfl,_,rfl,?_⟩
   refine ite2 (fun h6=>?_) (fun h6=>?_)
   ·rw [if_pos (dec_iff.mp h6)] at q
    exact ⟨(by show 1 <= sizeLine; decide),fun r hr=>q r _ upd_same (fr r hr) (kk r _ hr)⟩
   rw [if_neg (fun z=>h6 (dec_iff.mpr z))] at q
   refine ⟨_,rfl,rfl,_,rfl,?_⟩
   refine ite2 (fun h7=>?_) (fun h7=>?_)
   ·rw [if_pos (dec_iff.mp h7)] at q
    exact ⟨(by show 1 <= sizeLine; decide),fun r hr=>q r _ upd_same (fr r hr) (kk r _ hr)⟩
   rw [if_neg (fun z=>h7 (dec_iff.mpr z))] at q
   refine ⟨_,rfl,rfl,_,rfl,?_⟩
   refine ite2 (fun h8=>?_) (fun h8=>?_)
   ·rw [if_pos (dec_iff.mp h8)] at q
    exact ⟨(by show 1 <= sizeLine; decide),fun r hr=>q r _ upd_same (fr r hr) (kk r _ hr)⟩
   rw [if_neg (fun z=>h8 (dec_iff.mpr z))] at q
   refine ⟨_,rfl,(by show 2 <= sizeLine; decide),fun l4 hl4=>?_⟩
   refine ⟨_,rfl,_,_,rfl,rfl,(by show (0 : Int) < 8; decide),rfl,.inr ⟨_,rfl,l4,_,_,_,rfl,rfl,SqL.of upd_same,ix2 _ _ _,c,9929,_,rfl,(by decide),(by split <;> decide),?_⟩⟩
   rw [dec_if]
   refine ⟨(by show 2 <= sizeLine; decide),fun r hr=>?_⟩
   have hrl : r ≠ l4:=fun e=>by rw [e,upd_same] at hr; cases hr
   rw [upd_ne hrl] at hr
   refine q r _ ?_ (fr r hr) fun b u e=>?_
   ·rw [upd_same]
    show _ = some (HO.tup [V.str "step",V.int ((mix c 9929 (if c % 8 = 0 then 41 else 7)).toNat : Int)])
    rw [Int.toNat_of_nonneg (mix_lo (by split <;> decide))]
   ·rw [upd_ne (ne_of_none (k3 b u e) hr),upd_ne (ne_of_none (k3 b u e) hl4)]; exact k3 b u e
end
end GH
namespace GH
open PySem L2
section
def sp__law_acts (K : PySem.W.Frag) : Sp:=fun vs H Q _=>∃ (a : Addr) (ns : List Int) (sw : Bool),vs = [.ref a,.bl sw] /\ SqL K H a (ns.map V.int) /\ ns.length <= 63 /\ ∀ l us H',H l = none -> H' l = some (.lst us) -> Reps H' us ((actsOf ns sw).map actD) -> (∀ b o,H b = some o -> H' b = some o) -> Q (.ref l) H'
theorem sc__law_acts : FnScope ["_law_script","_law_sweeps","_law_found","_law_cell_here"] ["_law_script","_law_sweeps"] (defScope s_law_acts):=⟨rfl,rfl,rfl,by decide +kernel,rfl,by decide +kernel,by decide +kernel⟩
theorem ok__law_acts (L : Lk K mg) : FnOk PR w K mg base CX0 3 L._law_acts.f L._law_acts.d ["_law_script","_law_sweeps"] (sp__law_acts K):=by
 refine L._law_acts.F.ok sc__law_acts (fun vs H Q E h=>?_) (fun cdv A outer s H vs Q E hr h=>?_)
 ·obtain ⟨a,ns,sw,rfl,hS,hl,q⟩:=h
  rfl
 ·obtain ⟨a,ns,sw,rfl,hS,hl,q⟩:=h
  have hu:=hu_of hr
  refine ⟨_,(pss_cons (ps_set (i:=2) sc__law_acts.nd rfl (Or.inl rfl) (pe_lst (pa_cons (pe_tup (pa_cons pe_str (pa_cons pe_int (pa_cons pe_int pa_nil)))) (pa_cons (pe_tup (pa_cons pe_str (pa_cons pe_int (pa_cons pe_int pa_nil)))) pa_nil))))
   (pss_cons (ps_for PassesOwn.never rfl (pi_list (pe_slice sl_list (pv 0) (po_some pe_int) (po_some pe_int))) (pg_name (i:=3) sc__law_acts.nd rfl (Or.inl rfl))
    (pss_one (ps_expr (pe_bm PySem.F.plainAttrs_list PySem.F.slot_list_append PySem.F.type_list_append mt_append (pv 2) (pa_cons (pe_call (ok__law_act L) (hr.mono (by decide)) rfl L._law_act.g L._law_act.F.kp L._law_act.b .nil pass0 (pa_cons (pv 3) (pa_cons (pv 1) pa_nil))) pa_nil)))))
   (pss_one (ps_ret (pv 2))))),?_⟩
  refine ⟨(by show 3 <= sizeLine; decide),fun t1 h1=>⟨(by show 3 <= sizeLine; decide),fun t2 h2=>⟨(by show 2 <= sizeLine; decide),fun l hl=>?_⟩⟩⟩
  have n21 : t2 ≠ t1:=fun e=>by rw [e,upd_same] at h2; cases h2
  rw [upd_ne n21] at h2
  have nl2 : l ≠ t2:=fun e=>by rw [e,upd_same] at hl; cases hl
  rw [upd_ne nl2] at hl
  have nl1 : l ≠ t1:=fun e=>by rw [e,upd_same] at hl; cases hl
  rw [upd_ne nl1] at hl
  have s0 : ∀ b o,H b = some o -> upd (upd (upd H t1 (.tup [.str "make",.int 0,.int 3])) t2 (.tup [.str "make",.int 1,.int 2])) l (.lst [.ref t1,.ref t2]) b = some o:=fun b o e=>by
   rw [upd_ne (ne_of_none e hl),upd_ne (ne_of_none e h2),upd_ne (ne_of_none e h1)]; exact e
  have r0 : Reps (upd (upd (upd H t1 (.tup [.str "make",.int 0,.int 3])) t2 (.tup [.str "make",.int 1,.int 2])) l (.lst [.ref t1,.ref t2])) [.ref t1,.ref t2] ([Act.make 0 3,.make 1 2].map actD) :=
   .cons (rep_act (by rw [upd_ne nl1.symm,upd_ne n21.symm,upd_same]; rfl)) (.cons (rep_act (by rw [upd_ne nl2.symm,upd_same]; rfl)) .nil)
  have hl0 : upd (upd (upd H t1 (.tup [.str "make",.int 0,.int 3])) t2 (.tup [.str "make",.int 1,.int 2])) l (.lst [.ref t1,.ref t2]) l = some (.lst [.ref t1,.ref t2]):=upd_same
  generalize upd (upd (upd H t1 (.tup [.str "make",.int 0,.int 3])) t2 (.tup [.str "make",.int 1,.int 2])) l (.lst [.ref t1,.ref t2]) = H0 at s0 r0 hl0 ⊢
  have hS0 : SqL K H0 a (ns.map V.int):=sql_keep hS fun o e=>s0 a o e
  have ecut : cutV (ns.map V.int) (some 1) (some 63) = ((ns.drop 1).take 62).map V.int:=by
   unfold cutV
   rw [show (1 : Int) = ((1 : Nat) : Int) from rfl,show (63 : Int) = ((63 : Nat) : Int) from rfl,HT.sIx_nat,HT.sIx_nat,List.length_map,<- List.map_drop,<- List.map_take]
   congr 1
   cases ns with
   | nil=>rfl
   | cons x r =>
    have h1 : min 1 (x :: r).length = 1:=by rw [List.length_cons]; omega
    have h2 : min 63 (x :: r).length = (x :: r).length:=by omega
    rw [h1,h2]
    show List.take _ r = List.take _ r
    rw [List.length_cons] at hl ⊢
    rw [List.take_of_length_le (by omega),List.take_of_length_le (by omega)]
  refine ⟨_,rfl,1,rfl,63,rfl,a,_,rfl,hS0,fun c hc=>?_⟩
  rw [ecut]
  have s1 : ∀ b o,H0 b = some o -> upd H0 c (.lst (((ns.drop 1).take 62).map V.int)) b = some o:=fun b o e=>by rw [upd_ne (ne_of_none e hc)]; exact e
  have hc1 : upd H0 c (.lst (((ns.drop 1).take 62).map V.int)) c = some (.lst (((ns.drop 1).take 62).map V.int)):=upd_same
  have nlc : l ≠ c:=ne_of_none hl0 hc
  have r1:=r0.mono s1
  have hl1:=s1 _ _ hl0
  generalize upd H0 c (.lst (((ns.drop 1).take 62).map V.int)) = H1 at s1 hc1 r1 hl1 ⊢
  have s01 : ∀ b o,H b = some o -> H1 b = some o:=fun b o e=>s1 b o (s0 b o e)
  refine ⟨c,rfl,⟨_,SqL.of hc1⟩,for_list (K:=K) (a:=c) (xs:=((ns.drop 1).take 62).map V.int) (fun i σ H2=>(∀ b o,H1 b = some o -> b ≠ l -> H2 b = some o) /\ ∃ v us,σ = [some (.ref a),some (.bl sw),some (.ref l),v] /\ H2 l = some (.lst us) /\ us.length <= i + 2 /\ Reps H2 us ((Act.make 0 3 :: .make 1 2 :: (((ns.drop 1).take 62).take i).map fun c=>actOf c sw).map actD))
   ⟨fun _ _ e _=>e,none,_,rfl,hl1,Nat.le_refl _,r1⟩ (fun i σ H2 _ ⟨e,_⟩=>SqL.of (e _ _ hc1 nlc.symm)) ?_ ?_⟩
  ·rintro i y σ H2 hi ⟨s2,v,us,rfl,h2,z2,r2⟩
   obtain ⟨x,eg,rfl⟩:=get_map hi
   have hlt : i < ((ns.drop 1).take 62).length:=(List.getElem?_eq_some_iff.mp eg).1
   rw [List.length_take] at hlt
   refine ⟨_,rfl,.inl ⟨rfl,_,SqL.of h2⟩,_,rfl,_,rfl,x,sw,rfl,fun r H3 hr3 hr s3=>?_⟩
   refine ⟨l,us,_,rfl,rfl,s3 _ _ h2,small1000 (by omega),?_⟩
   have nrl : r ≠ l:=(ne_of_none h2 hr).symm
   refine ⟨fun b o e hb=>by rw [upd_ne hb]; exact s3 b o (s2 b o e hb),_,us ++ [.ref r],rfl,upd_same,by rw [List.length_append]; show _ + 1 <= _; omega,?_⟩
   have et : ((ns.drop 1).take 62).take (i + 1) = ((ns.drop 1).take 62).take i ++ [x]:=by rw [List.take_add_one,eg]; rfl
   rw [et,List.map_append]
   show Reps _ _ ((Act.make 0 3 :: .make 1 2 :: (List.map (fun c=>actOf c sw) (((ns.drop 1).take 62).take i) ++ [actOf x sw])).map actD)
   rw [<- List.cons_append,<- List.cons_append,List.map_append]
   refine .append ((r2.mono s3).tups (fun b xs e=>by rw [upd_ne (ne_of e (s3 _ _ h2) (fun z=>nomatch z))]; exact e) fun d hd=>?_) (.cons (rep_act (by rw [upd_ne nrl]; exact hr3)) .nil)
   obtain ⟨b,_,rfl⟩:=List.mem_map.mp hd
   exact actD_pure b
  ·rintro σ H2 ⟨s2,v,us,rfl,h2,z2,r2⟩
   rw [List.length_map,List.take_length] at r2
   exact ⟨_,rfl,q l us H2 hl h2 r2 fun b o e=>s2 b o (s01 b o e) (ne_of_none e hl)⟩
end
end GH
namespace GH
open PySem L2
section
def sp_T_words (c : CA) : Sp:=fun vs H Q _=>∃ (t dx f : Addr) (p : V) (col : Col) (xs : List V),vs = [.ref t] /\ H t = some (.ins c.T dx (tfl f p col)) /\ H f = some (.lst xs) /\ Q (.int (2 + xs.length)) H
theorem sc_T_words : FnScope ["self"] ["self"] (defScope sT_words):=⟨rfl,rfl,rfl,by decide +kernel,rfl,by decide +kernel,by decide +kernel⟩
theorem ok_T_words (L : Lk K mg) : FnOk PR w K mg base CX0 1 L.T_words.f L.T_words.d ["self"] (sp_T_words L.c):=by
 refine L.T_words.F.ok sc_T_words (fun vs H Q E h=>?_) (fun cdv A outer s H vs Q E hr h=>?_)
 ·obtain ⟨t,dx,f,p,col,xs,rfl,ht,hf,k⟩:=h
  rfl
 ·obtain ⟨t,dx,f,p,col,xs,rfl,ht,hf,k⟩:=h
  have hu:=hu_of hr
  refine ⟨_,(pss_one (ps_ret (pe_op op_add (pe_glob (v:=.int 2) rfl L.gHEAD_WORDS ⟨_,rfl⟩) (pe_callB (id:="len") call_len_seq (by rfl) L.zlen bt_len (pa_cons (pe_fld (pv 0) rfl) pa_nil))))),?_⟩
  exact ⟨_,rfl,_,_,_,_,_,rfl,ht,L.cT,L.nT_fields,tfl_fields _ _ _,f,xs,rfl,.inl (SqL.of hf),_,_,rfl,rfl,k⟩
end
end GH
namespace GH
open PySem L2
section
def sp_T_behind (c : CA) : Sp:=fun vs H Q _=>∃ (t dx f : Addr) (p : Int) (col : Col) (xs : List V),vs = [.ref t] /\ H t = some (.ins c.T dx (tfl f (.int p) col)) /\ H f = some (.lst xs) /\ Q (.int (p + (2 + xs.length))) H
theorem sc_T_behind : FnScope ["self"] ["self"] (defScope sT_behind):=⟨rfl,rfl,rfl,by decide +kernel,rfl,by decide +kernel,by decide +kernel⟩
theorem ok_T_behind (L : Lk K mg) : FnOk PR w K mg base CX0 2 L.T_behind.f L.T_behind.d ["self"] (sp_T_behind L.c):=by
 refine L.T_behind.F.ok sc_T_behind (fun vs H Q E h=>?_) (fun cdv A outer s H vs Q E hr h=>?_)
 ·obtain ⟨t,dx,f,p,col,xs,rfl,ht,hf,k⟩:=h
  rfl
 ·obtain ⟨t,dx,f,p,col,xs,rfl,ht,hf,k⟩:=h
  have hu:=hu_of hr
  refine ⟨_,(pss_one (ps_ret (pe_op op_add (pe_fld (pv 0) rfl) (pe_meth0 (pv 0) L.cT L.T_words.m (ok_T_words L) (hr.mono (by decide)) L.T_words.b .nil pass0)))),?_⟩
  exact ⟨_,rfl,_,_,_,_,_,rfl,ht,L.cT,L.nT_place,tfl_place _ _ _,_,rfl,_,_,_,rfl,ht,(tfl_no _ _ _ (by decide +kernel) (by decide +kernel) (by decide +kernel)),t,dx,f,_,col,xs,rfl,ht,hf,_,_,rfl,rfl,k⟩
end
end GH
namespace GH
open PySem L2
section
def sp_M_blocks (c : CA) : Sp:=fun vs H Q _=>∃ (P : Pl) (S : Hs),vs = [.ref P.m] /\ At c H P S /\ Wf S /\ S.things.length <= 400 /\ ∀ (r : V) (H' : Hp),Rep H' r (.t (S.blocks.map triD)) -> (∀ b o,H b = some o -> H' b = some o) -> Q r H'
theorem sc_M_blocks : FnScope ["self","told","at","thing"] ["self"] (defScope sM_blocks):=⟨rfl,rfl,rfl,by decide +kernel,rfl,by decide +kernel,by decide +kernel⟩
theorem ok_M_blocks (L : Lk K mg) : FnOk PR w K mg base CX0 3 L.M_blocks.f L.M_blocks.d ["self"] (sp_M_blocks L.c):=by
 refine L.M_blocks.F.ok sc_M_blocks (fun vs H Q E h=>?_) (fun cdv A outer s H vs Q E hr h=>?_)
 ·obtain ⟨P,S,rfl,M,wf,hn,k⟩:=h
  rfl
 ·obtain ⟨P,S,rfl,M,wf,hn,k⟩:=h
  have hu:=hu_of hr
  refine ⟨_,(pss_cons (ps_set (i:=1) sc_M_blocks.nd rfl (Or.inl rfl) (pe_lst pa_nil))
   (pss_cons (ps_set (i:=2) sc_M_blocks.nd rfl (Or.inl rfl) pe_int)
   (pss_cons (ps_for PassesOwn.never rfl (pi_list (pe_fld (pv 0) rfl)) (pg_name (i:=3) sc_M_blocks.nd rfl (Or.inl rfl))
    (pss_cut (ps_if (pt_cmpR op_lt (pv 2) (pe_fld (pv 3) rfl) (nomark _))
    (pss_one (ps_expr (pe_bm PySem.F.plainAttrs_list PySem.F.slot_list_append PySem.F.type_list_append mt_append (pv 1) (pa_cons (pe_tup (pa_cons (pv 2) (pa_cons (pe_op op_sub (pe_fld (pv 3) rfl) (pv 2)) (pa_cons pe_int pa_nil)))) pa_nil))))
    pss_nil)
   (pss_cons (ps_expr (pe_bm PySem.F.plainAttrs_list PySem.F.slot_list_append PySem.F.type_list_append mt_append (pv 1) (pa_cons (pe_tup (pa_cons (pe_fld (pv 3) rfl) (pa_cons (pe_meth0 (pv 3) L.cT L.T_words.m (ok_T_words L) (hr.mono (by decide)) L.T_words.b .nil pass0) (pa_cons pe_int pa_nil)))) pa_nil)))
   (pss_one (ps_set (i:=2) sc_M_blocks.nd rfl (Or.inl rfl) (pe_meth0 (pv 3) L.cT L.T_behind.m (ok_T_behind L) (hr.mono (by decide)) L.T_behind.b .nil pass0))))))
   (pss_cut (ps_if (pt_cmpR op_lt (pv 2) (pe_fld (pv 0) rfl) (nomark _))
    (pss_one (ps_expr (pe_bm PySem.F.plainAttrs_list PySem.F.slot_list_append PySem.F.type_list_append mt_append (pv 1) (pa_cons (pe_tup (pa_cons (pv 2) (pa_cons (pe_op op_sub (pe_fld (pv 0) rfl) (pv 2)) (pa_cons pe_int pa_nil)))) pa_nil))))
    pss_nil)
   (pss_one (ps_ret (pe_callTy (T:="tuple") call_tuple_of (by rfl) L.ztuple bt_tuple (pa_cons (pv 1) pa_nil)))))))),?_⟩
  obtain ⟨dx,hm⟩:=M.mem
  refine ⟨(by decide),fun l hl=>?_⟩
  have s0 : ∀ b o,H b = some o -> upd H l (.lst []) b = some o:=fun b o e=>by rw [upd_ne (ne_of_none e hl)]; exact e
  refine ⟨_,rfl,_,_,_,_,_,rfl,(s0 _ _ hm),L.cM,L.nM_things,mfl_things _ _,P.l,rfl,⟨_,SqL.of (s0 _ _ M.ls)⟩,for_list (K:=K) (a:=P.l) (xs:=S.things.map fun k=>V.ref (P.ad k)) (fun i σ H2=>(∀ b o,H b = some o -> H2 b = some o) /\ ∃ a v vs ds,σ = [some (.ref P.m),some (.ref l),some (.int a),v] /\ H2 l = some (.lst vs) /\ Reps H2 vs (ds.map triD) /\ ds ++ blocksGo S.th S.size a (S.things.drop i) = S.blocks /\ ds.length <= 2 * i)
   ⟨s0,0,none,[],[],rfl,upd_same,.nil,rfl,Nat.le_refl _⟩ (fun i σ H2 _ ⟨e,_⟩=>SqL.of (e _ _ M.ls)) ?_ ?_⟩
  ·rintro i y σ H2 hi ⟨s2,a,v,vs,ds,rfl,h2,r2,e2,z2⟩
   obtain ⟨j,eg,rfl⟩:=get_map hi
   have hj : j < S.n:=wf.tv j (List.mem_of_getElem? eg)
   have hlt : i < S.things.length:=(List.getElem?_eq_some_iff.mp eg).1
   obtain ⟨dt,ht⟩:=M.th j hj
   have hf:=M.fl j hj
   have ht2:=s2 _ _ ht
   rw [drop_at eg] at e2
   unfold blocksGo at e2
   have vl : vs.length = ds.length:=by rw [r2.len,List.length_map]
   refine ⟨fun σ3 H3=>σ3 = [some (.ref P.m),some (.ref l),some (.int a),some (.ref (P.ad j))] /\ (∀ b o,H b = some o -> H3 b = some o) /\ ∃ vs3 ds3,H3 l = some (.lst vs3) /\ Reps H3 vs3 (ds3.map triD) /\ ds3 ++ ((S.th j).place,(S.th j).words,1) :: blocksGo S.th S.size (S.th j).behind (S.things.drop (i + 1)) = S.blocks /\ ds3.length <= 2 * i + 1,?_,?_⟩
   ·-- the gap
    refine ⟨_,rfl,_,rfl,_,_,_,_,_,rfl,ht2,L.cT,L.nT_place,tfl_place _ _ _,_,_,rfl,rfl,_,rfl,?_⟩
    refine ite2 (fun h1=>?_) (fun h1=>?_)
    ·rw [if_pos (of_decide_eq_true h1)] at e2
     refine ⟨_,rfl,.inl ⟨rfl,_,SqL.of h2⟩,_,rfl,_,rfl,_,_,_,_,_,rfl,ht2,L.cT,L.nT_place,tfl_place _ _ _,_,rfl,_,_,rfl,rfl,(by show 3 <= sizeLine; decide),fun p hp=>⟨l,vs,_,rfl,rfl,(by rw [upd_ne (ne_of_none h2 hp)]; exact h2),small1000 (by omega),?_⟩⟩
     have nlp : p ≠ l:=(ne_of_none h2 hp).symm
     have s3 : ∀ b o,H2 b = some o -> b ≠ l -> upd (upd H2 p (.tup [.int a,.int ((S.th j).place - a),.int 0])) l (.lst (vs ++ [.ref p])) b = some o:=fun b o e hb=>by rw [upd_ne hb,upd_ne (ne_of_none e hp)]; exact e
     refine ⟨rfl,fun b o e=>s3 b o (s2 b o e) (ne_of_none e hl),_,ds ++ [(a,(S.th j).place - a,0)],upd_same,?_,?_,?_⟩
     ·rw [List.map_append]
      refine .append (r2.tups (fun b xs e=>s3 b _ e (ne_of e h2 (fun z=>nomatch z))) fun d hd=>?_) (.cons (rep_tri ?_) .nil)
      ·obtain ⟨b,_,rfl⟩:=List.mem_map.mp hd; exact triD_pure b
      ·rw [upd_ne nlp,upd_same]
     ·rw [<- e2]; simp
     ·simp; omega
    ·rw [if_neg (fun z=>h1 (decide_eq_true z))] at e2
     exact ⟨rfl,s2,vs,ds,h2,r2,by rw [<- e2]; simp,by omega⟩
   ·rintro σ3 H3 ⟨rfl,s3,vs3,ds3,h3,r3,e3,z3⟩
    have ht3:=s3 _ _ ht
    have hf3:=s3 _ _ hf
    have vl3 : vs3.length = ds3.length:=by rw [r3.len,List.length_map]
    refine ⟨_,rfl,.inl ⟨rfl,_,SqL.of h3⟩,_,rfl,_,_,_,_,_,rfl,ht3,L.cT,L.nT_place,tfl_place _ _ _,_,rfl,_,_,_,rfl,ht3,(tfl_no _ _ _ (by decide +kernel) (by decide +kernel) (by decide +kernel)),_,dt,_,_,_,_,rfl,ht3,hf3,(by show 3 <= sizeLine; decide),fun p hp=>⟨l,vs3,_,rfl,rfl,(by rw [upd_ne (ne_of_none h3 hp)]; exact h3),small1000 (by omega),?_⟩⟩
    have nlp : p ≠ l:=(ne_of_none h3 hp).symm
    have s4 : ∀ b o,H3 b = some o -> b ≠ l -> upd (upd H3 p (.tup [.int (S.th j).place,.int (2 + (((S.th j).fields.map P.v).length : Int)),.int 1])) l (.lst (vs3 ++ [.ref p])) b = some o:=fun b o e hb=>by rw [upd_ne hb,upd_ne (ne_of_none e hp)]; exact e
    have s4' : ∀ b o,H b = some o -> _:=fun b o e=>s4 b o (s3 b o e) (ne_of_none e hl)
    refine ⟨_,rfl,_,_,_,rfl,(s4' _ _ ht),(tfl_no _ _ _ (by decide +kernel) (by decide +kernel) (by decide +kernel)),_,dt,_,_,_,_,rfl,s4' _ _ ht,s4' _ _ hf,?_⟩
    have ew : (2 + (((S.th j).fields.map P.v).length : Int)) = (S.th j).words:=by rw [List.length_map]; rfl
    refine ⟨s4',(S.th j).behind,some (.ref (P.ad j)),_,ds3 ++ [((S.th j).place,(S.th j).words,1)],?_,upd_same,?_,?_,?_⟩
    ·rw [ew]; rfl
    ·rw [List.map_append]
     refine .append (r3.tups (fun b xs e=>s4 b _ e (ne_of e h3 (fun z=>nomatch z))) fun d hd=>?_) (.cons (rep_tri ?_) .nil)
     ·obtain ⟨b,_,rfl⟩:=List.mem_map.mp hd; exact triD_pure b
     ·rw [upd_ne nlp,upd_same,ew]
    ·rw [<- e3]; simp
    ·simp; omega
  ·rintro σ H2 ⟨s2,a,v,vs,ds,rfl,h2,r2,e2,z2⟩
   rw [List.length_map] at z2 e2
   rw [List.drop_eq_nil_of_le (Nat.le_refl _)] at e2
   unfold blocksGo at e2
   have hm2:=s2 _ _ hm
   have vl : vs.length = ds.length:=by rw [r2.len,List.length_map]
   refine ⟨fun σ3 H3=>σ3 = [some (.ref P.m),some (.ref l),some (.int a),v] /\ (∀ b o,H b = some o -> H3 b = some o) /\ ∃ vs3,H3 l = some (.lst vs3) /\ Reps H3 vs3 (S.blocks.map triD),?_,?_⟩
   ·refine ⟨_,rfl,_,rfl,_,_,_,_,_,rfl,hm2,L.cM,L.nM_size,mfl_size _ _,_,_,rfl,rfl,_,rfl,?_⟩
    refine ite2 (fun h1=>?_) (fun h1=>?_)
    ·rw [if_pos (of_decide_eq_true h1)] at e2
     refine ⟨_,rfl,.inl ⟨rfl,_,SqL.of h2⟩,_,rfl,_,rfl,_,_,_,_,_,rfl,hm2,L.cM,L.nM_size,mfl_size _ _,_,rfl,_,_,rfl,rfl,(by show 3 <= sizeLine; decide),fun p hp=>⟨l,vs,_,rfl,rfl,(by rw [upd_ne (ne_of_none h2 hp)]; exact h2),small1000 (by omega),?_⟩⟩
     have nlp : p ≠ l:=(ne_of_none h2 hp).symm
     have s3 : ∀ b o,H2 b = some o -> b ≠ l -> upd (upd H2 p (.tup [.int a,.int (S.size - a),.int 0])) l (.lst (vs ++ [.ref p])) b = some o:=fun b o e hb=>by rw [upd_ne hb,upd_ne (ne_of_none e hp)]; exact e
     refine ⟨rfl,fun b o e=>s3 b o (s2 b o e) (ne_of_none e hl),_,upd_same,?_⟩
     rw [<- e2,List.map_append]
     refine .append (r2.tups (fun b xs e=>s3 b _ e (ne_of e h2 (fun z=>nomatch z))) fun d hd=>?_) (.cons (rep_tri ?_) .nil)
     ·obtain ⟨b,_,rfl⟩:=List.mem_map.mp hd; exact triD_pure b
     ·rw [upd_ne nlp,upd_same]
    ·rw [if_neg (fun z=>h1 (decide_eq_true z)),List.append_nil] at e2
     exact ⟨rfl,s2,vs,h2,by rw [<- e2]; exact r2⟩
   ·rintro σ3 H3 ⟨rfl,s3,vs3,h3,r3⟩
    refine ⟨_,rfl,l,vs3,rfl,.inl ⟨SqL.of h3,fun r hr=>?_⟩⟩
    have s4 : ∀ b o,H3 b = some o -> upd H3 r (.tup vs3) b = some o:=fun b o e=>by rw [upd_ne (ne_of_none e hr)]; exact e
    exact k _ _ (.t upd_same (r3.mono s4)) fun b o e=>s4 b o (s3 b o e)
end
end GH
namespace GH
open PySem L2
section
def sp_H_blocks (c : CA) : Sp:=fun vs H Q E=>∃ (hh : Addr) (P : Pl) (S : Hs),vs = [.ref hh] /\ HAt c H hh P S /\ Wf S /\ S.things.length <= 400 /\ ∀ (r : V) (H' : Hp),Rep H' r (.t (S.blocks.map triD)) -> (∀ b o,H b = some o -> H' b = some o) -> Q r H'
theorem sc_H_blocks : FnScope ["self"] ["self"] (defScope sH_blocks):=⟨rfl,rfl,rfl,by decide +kernel,rfl,by decide +kernel,by decide +kernel⟩
theorem ok_H_blocks (L : Lk K mg) : FnOk PR w K mg base CX0 4 L.H_blocks.f L.H_blocks.d ["self"] (sp_H_blocks L.c):=by
 refine L.H_blocks.F.ok sc_H_blocks (fun vs H Q E h=>?_) (fun cdv A outer s H vs Q E hr h=>?_)
 ·obtain ⟨hh,P,S,rfl,M,wf,hn,k⟩:=h
  rfl
 ·obtain ⟨hh,P,S,rfl,M,wf,hn,k⟩:=h
  have hu:=hu_of hr
  refine ⟨_,(pss_one (ps_ret (pe_meth0 (pe_fld (pv 0) rfl) L.cM L.M_blocks.m (ok_M_blocks L) (hr.mono (by decide)) L.M_blocks.b .nil pass0))),?_⟩
  obtain ⟨dh,hh0⟩:=M.hall
  obtain ⟨dx,hm⟩:=M.at_.mem
  obtain ⟨ds,hs⟩:=M.at_.sw
  exact ⟨_,rfl,_,_,_,_,_,rfl,hh0,L.cH,L.nH_memory,hfl_memory _,_,_,_,rfl,hm,(mfl_no _ _ (by decide +kernel) (by decide +kernel) (by decide +kernel)),P,S,rfl,M.at_,wf,hn,k⟩
end
end GH
namespace GH
open PySem L2
section
def sp_S_colours (c : CA) : Sp:=fun vs H Q _=>∃ (P : Pl) (S : Hs),vs = [.ref P.s] /\ At c H P S /\ Wf S /\ S.things.length < 1000 /\ ∀ (r : V) (H' : Hp),Rep H' r (.t (S.things.map fun k=>.f (.str (S.th k).colour.s))) -> (∀ b o,H b = some o -> H' b = some o) -> Q r H'
theorem sc_S_colours : FnScope ["self"] ["self"] (defScope sS_colours):=⟨rfl,rfl,rfl,by decide +kernel,rfl,by decide +kernel,by decide +kernel⟩
theorem ok_S_colours (L : Lk K mg) : FnOk PR w K mg base CX0 1 L.S_colours.f L.S_colours.d ["self"] (sp_S_colours L.c):=by
 refine L.S_colours.F.ok sc_S_colours (fun vs H Q E h=>?_) (fun cdv A outer s H vs Q E hr h=>?_)
 ·obtain ⟨P,S,rfl,M,wf,hz,k⟩:=h
  rfl
 ·obtain ⟨P,S,rfl,M,wf,hz,k⟩:=h
  have hu:=hu_of hr
  refine ⟨_,(pss_one (ps_ret (pe_callTy (T:="tuple") call_tuple_of (by rfl) L.ztuple bt_tuple (pa_cons (pe_comp rfl (ck0 rfl) (pi_list (pe_fld (pe_fld (pv 0) rfl) rfl)) (fun _ _ _ _=>pts_nil) (fun _ _ _ _=>(pe_fldK (K:=K) rfl (pv 0) rfl))) pa_nil)))),?_⟩
  obtain ⟨dx,hm⟩:=M.mem
  obtain ⟨ds,hs⟩:=M.sw
  refine ⟨_,rfl,_,_,_,_,_,rfl,hs,L.cS,L.nS_memory,sfl_memory _ _ _,_,_,_,_,_,rfl,hm,L.cM,L.nM_things,mfl_things _ _,P.l,rfl,⟨_,SqL.of M.ls⟩,?_⟩
  refine ⟨fun i m ys H2=>H2 = H /\ m = S.things.length - i /\ i <= S.things.length /\ ys = (S.things.take i).map fun k=>V.str (S.th k).colour.s,⟨_,rfl,rfl,Nat.zero_le _,rfl⟩,?_⟩
  rintro i m ys H2 ⟨rfl,rfl,hi,rfl⟩
  refine ⟨by rw [List.length_map,List.length_take]; exact small1000 (by omega),?_⟩
  by_cases hlt : i < S.things.length
  ·refine .inr ⟨⟨_,_,SqL.of M.ls,by rw [List.getElem?_eq_getElem (by rw [List.length_map]; exact hlt)]⟩,?_⟩
   rintro x H' ⟨rfl,hx⟩
   obtain ⟨j,eg,rfl⟩:=get_map (hx _ (SqL.of M.ls))
   obtain ⟨dt,ht⟩:=M.th j (wf.tv j (List.mem_of_getElem? eg))
   refine tyes (iteT ?_)
   refine ⟨_,rfl,_,_,_,_,_,rfl,ht,L.cT,L.nT_colour,tfl_colour _ _ _,S.things.length - (i + 1),by omega,rfl,rfl,hlt,?_⟩
   rw [List.take_add_one,eg,List.map_append]; rfl
  ·have hie : i = S.things.length:=by omega
   refine .inl ⟨⟨_,SqL.of M.ls,by rw [List.length_map]; omega⟩,fun D hD=>?_⟩
   rw [hie,List.take_length]
   refine ⟨D,_,rfl,.inl ⟨SqL.of upd_same,fun r hr=>?_⟩⟩
   have s1 : ∀ b o,H2 b = some o -> upd (upd H2 D (.lst (S.things.map fun k=>V.str (S.th k).colour.s))) r (.tup (S.things.map fun k=>V.str (S.th k).colour.s)) b = some o:=fun b o e=>by
    have hr0 : H2 r = none:=by
     by_cases z : r = D
     ·rw [z,upd_same] at hr; cases hr
     ·rw [upd_ne z] at hr; exact hr
    rw [upd_ne (ne_of_none e hr0),upd_ne (ne_of_none e hD)]; exact e
   refine k _ _ (.t upd_same ?_) s1
   have : (S.things.map fun k=>Dt.f (.str (S.th k).colour.s)) = (S.things.map fun k=>V.str (S.th k).colour.s).map .f:=by rw [List.map_map]; rfl
   rw [this]
   refine reps_flat ?_
   rw [List.all_map,List.all_eq_true]
   intro _ _; rfl
end
end GH
namespace GH
open PySem L2
section
def sp_H_colours (c : CA) : Sp:=fun vs H Q E=>∃ (hh : Addr) (P : Pl) (S : Hs),vs = [.ref hh] /\ HAt c H hh P S /\ Wf S /\ S.things.length < 1000 /\ ∀ (r : V) (H' : Hp),Rep H' r (.t (S.things.map fun k=>.f (.str (S.th k).colour.s))) -> (∀ b o,H b = some o -> H' b = some o) -> Q r H'
theorem sc_H_colours : FnScope ["self"] ["self"] (defScope sH_colours):=⟨rfl,rfl,rfl,by decide +kernel,rfl,by decide +kernel,by decide +kernel⟩
theorem ok_H_colours (L : Lk K mg) : FnOk PR w K mg base CX0 2 L.H_colours.f L.H_colours.d ["self"] (sp_H_colours L.c):=by
 refine L.H_colours.F.ok sc_H_colours (fun vs H Q E h=>?_) (fun cdv A outer s H vs Q E hr h=>?_)
 ·obtain ⟨hh,P,S,rfl,M,wf,hz,k⟩:=h
  rfl
 ·obtain ⟨hh,P,S,rfl,M,wf,hz,k⟩:=h
  have hu:=hu_of hr
  refine ⟨_,(pss_one (ps_ret (pe_meth0 (pe_fld (pv 0) rfl) L.cS L.S_colours.m (ok_S_colours L) (hr.mono (by decide)) L.S_colours.b .nil pass0))),?_⟩
  obtain ⟨dh,hh0⟩:=M.hall
  obtain ⟨dx,hm⟩:=M.at_.mem
  obtain ⟨ds,hs⟩:=M.at_.sw
  exact ⟨_,rfl,_,_,_,_,_,rfl,hh0,L.cH,L.nH_sweeper,hfl_sweeper _,_,_,_,rfl,hs,(sfl_no _ _ _ (by decide +kernel) (by decide +kernel) (by decide +kernel)),P,S,rfl,M.at_,wf,hz,k⟩
end
end GH
namespace GH
open PySem L2
section
def sp_S_finger (c : CA) : Sp:=fun vs H Q _=>∃ (P : Pl) (S : Hs),vs = [.ref P.s] /\ At c H P S /\ Q (fgV S.finger) H
theorem sc_S_finger : FnScope ["self"] ["self"] (defScope sS_finger):=⟨rfl,rfl,rfl,by decide +kernel,rfl,by decide +kernel,by decide +kernel⟩
theorem ok_S_finger (L : Lk K mg) : FnOk PR w K mg base CX0 1 L.S_finger.f L.S_finger.d ["self"] (sp_S_finger L.c):=by
 refine L.S_finger.F.ok sc_S_finger (fun vs H Q E h=>?_) (fun cdv A outer s H vs Q E hr h=>?_)
 ·obtain ⟨P,S,rfl,M,k⟩:=h
  rfl
 ·obtain ⟨P,S,rfl,M,k⟩:=h
  have hu:=hu_of hr
  refine ⟨_,(pss_one (ps_ret (pe_fld (pv 0) rfl))),?_⟩
  obtain ⟨ds,hs⟩:=M.sw
  exact ⟨_,rfl,_,_,_,_,_,rfl,hs,L.cS,L.nS_finger_place,sfl_finger _ _ _,k⟩
end
end GH
namespace GH
open PySem L2
section
def sp_H_finger (c : CA) : Sp:=fun vs H Q E=>∃ (hh : Addr) (P : Pl) (S : Hs),vs = [.ref hh] /\ HAt c H hh P S /\ Q (fgV S.finger) H
theorem sc_H_finger : FnScope ["self"] ["self"] (defScope sH_finger):=⟨rfl,rfl,rfl,by decide +kernel,rfl,by decide +kernel,by decide +kernel⟩
theorem ok_H_finger (L : Lk K mg) : FnOk PR w K mg base CX0 2 L.H_finger.f L.H_finger.d ["self"] (sp_H_finger L.c):=by
 refine L.H_finger.F.ok sc_H_finger (fun vs H Q E h=>?_) (fun cdv A outer s H vs Q E hr h=>?_)
 ·obtain ⟨hh,P,S,rfl,M,k⟩:=h
  rfl
 ·obtain ⟨hh,P,S,rfl,M,k⟩:=h
  have hu:=hu_of hr
  refine ⟨_,(pss_one (ps_ret (pe_meth0 (pe_fld (pv 0) rfl) L.cS L.S_finger.m (ok_S_finger L) (hr.mono (by decide)) L.S_finger.b .nil pass0))),?_⟩
  obtain ⟨dh,hh0⟩:=M.hall
  obtain ⟨dx,hm⟩:=M.at_.mem
  obtain ⟨ds,hs⟩:=M.at_.sw
  exact ⟨_,rfl,_,_,_,_,_,rfl,hh0,L.cH,L.nH_sweeper,hfl_sweeper _,_,_,_,rfl,hs,(sfl_no _ _ _ (by decide +kernel) (by decide +kernel) (by decide +kernel)),P,S,rfl,M.at_,k⟩
end
end GH
namespace GH
open PySem L2
section
def sp_S_phase (c : CA) : Sp:=fun vs H Q _=>∃ (P : Pl) (S : Hs),vs = [.ref P.s] /\ At c H P S /\ Q (.str S.stage.s) H
theorem sc_S_phase : FnScope ["self"] ["self"] (defScope sS_phase):=⟨rfl,rfl,rfl,by decide +kernel,rfl,by decide +kernel,by decide +kernel⟩
theorem ok_S_phase (L : Lk K mg) : FnOk PR w K mg base CX0 1 L.S_phase.f L.S_phase.d ["self"] (sp_S_phase L.c):=by
 refine L.S_phase.F.ok sc_S_phase (fun vs H Q E h=>?_) (fun cdv A outer s H vs Q E hr h=>?_)
 ·obtain ⟨P,S,rfl,M,k⟩:=h
  rfl
 ·obtain ⟨P,S,rfl,M,k⟩:=h
  have hu:=hu_of hr
  refine ⟨_,(pss_one (ps_ret (pe_fld (pv 0) rfl))),?_⟩
  obtain ⟨ds,hs⟩:=M.sw
  exact ⟨_,rfl,_,_,_,_,_,rfl,hs,L.cS,L.nS_stage,sfl_stage _ _ _,k⟩
end
end GH
namespace GH
open PySem L2
section
def sp_H_phase (c : CA) : Sp:=fun vs H Q E=>∃ (hh : Addr) (P : Pl) (S : Hs),vs = [.ref hh] /\ HAt c H hh P S /\ Q (.str S.stage.s) H
theorem sc_H_phase : FnScope ["self"] ["self"] (defScope sH_phase):=⟨rfl,rfl,rfl,by decide +kernel,rfl,by decide +kernel,by decide +kernel⟩
theorem ok_H_phase (L : Lk K mg) : FnOk PR w K mg base CX0 2 L.H_phase.f L.H_phase.d ["self"] (sp_H_phase L.c):=by
 refine L.H_phase.F.ok sc_H_phase (fun vs H Q E h=>?_) (fun cdv A outer s H vs Q E hr h=>?_)
 ·obtain ⟨hh,P,S,rfl,M,k⟩:=h
  rfl
 ·obtain ⟨hh,P,S,rfl,M,k⟩:=h
  have hu:=hu_of hr
  refine ⟨_,(pss_one (ps_ret (pe_meth0 (pe_fld (pv 0) rfl) L.cS L.S_phase.m (ok_S_phase L) (hr.mono (by decide)) L.S_phase.b .nil pass0))),?_⟩
  obtain ⟨dh,hh0⟩:=M.hall
  obtain ⟨dx,hm⟩:=M.at_.mem
  obtain ⟨ds,hs⟩:=M.at_.sw
  exact ⟨_,rfl,_,_,_,_,_,rfl,hh0,L.cH,L.nH_sweeper,hfl_sweeper _,_,_,_,rfl,hs,(sfl_no _ _ _ (by decide +kernel) (by decide +kernel) (by decide +kernel)),P,S,rfl,M.at_,k⟩
end
end GH
namespace GH
open PySem L2
section
def sp_M_held (c : CA) : Sp:=fun vs H Q _=>∃ (P : Pl) (S : Hs) (h : Int),vs = [.ref P.m,.int h] /\ At c H P S /\ Q (P.v (S.held h)) H
theorem sc_M_held : FnScope ["self","hand"] ["self","hand"] (defScope sM_held):=⟨rfl,rfl,rfl,by decide +kernel,rfl,by decide +kernel,by decide +kernel⟩
theorem ok_M_held (L : Lk K mg) : FnOk PR w K mg base CX0 1 L.M_held.f L.M_held.d ["self","hand"] (sp_M_held L.c):=by
 refine L.M_held.F.ok sc_M_held (fun vs H Q E h=>?_) (fun cdv A outer s H vs Q E hr h=>?_)
 ·obtain ⟨P,S,h,rfl,M,k⟩:=h
  rfl
 ·obtain ⟨P,S,h,rfl,M,k⟩:=h
  have hu:=hu_of hr
  refine ⟨_,(pss_one (ps_ret (pe_dget2 hu (pe_fld (pv 0) rfl) (pv 1) pe_int ⟨rfl,rfl,rfl,rfl⟩))),?_⟩
  obtain ⟨dx,hm⟩:=M.mem
  refine ⟨_,rfl,_,_,_,_,_,rfl,hm,L.cM,L.nM_hands,mfl_hands _ _,P.d,rfl,.inl ⟨_,.inl M.hd⟩,_,rfl,_,DGet.k (k:=Sum.inl h) M.hd,?_⟩
  rw [val_kv]
  have e : ((look S.hands h).map P.v).getD (V.int 0) = P.v (S.held h):=by
   unfold Hs.held
   cases look S.hands h <;> rfl
  rw [e]
  exact k
end
end GH
namespace GH
open PySem L2
section
def sp_M_thing_in (c : CA) : Sp:=fun vs H Q E=>∃ (P : Pl) (S : Hs) (h : Int),vs = [.ref P.m,.int h] /\ At c H P S /\ Wf S /\ h.natAbs.log2 < 1920 /\ (∀ k,S.held h = .thing k -> Q (.ref (P.ad k)) H) /\ (∀ i,S.held h = .num i -> E (.ref c.nt) none H)
theorem sc_M_thing_in : FnScope ["self","hand","value"] ["self","hand"] (defScope sM_thing_in):=⟨rfl,rfl,rfl,by decide +kernel,rfl,by decide +kernel,by decide +kernel⟩
theorem ok_M_thing_in (L : Lk K mg) : FnOk PR w K mg base (CXE PR w) 2 L.M_thing_in.f L.M_thing_in.d ["self","hand"] (sp_M_thing_in L.c):=by
 refine L.M_thing_in.F.okE sc_M_thing_in (fun vs H Q E h=>?_) (fun cdv A outer s H vs Q E hr h=>?_)
 ·obtain ⟨P,S,h,rfl,M,wf,hh,k1,k2⟩:=h
  rfl
 ·obtain ⟨P,S,h,rfl,M,wf,hh,k1,k2⟩:=h
  have hu:=hu_of hr
  refine ⟨_,(pss_cons (ps_set (i:=2) sc_M_thing_in.nd rfl (Or.inl rfl) (pe_meth (pv 0) L.cM L.M_held.m (ok_M_held L) (hr.mono (by decide)) L.M_held.b .nil pass0 (pa_cons (pv 1) pa_nil)))
   (pss_cons (ps_if (pt_not (pt_val (pe_callB (id:="isinstance") call_isi (by rfl) L.zisinstance bt_isinstance (pa_cons (pv 2) (pa_cons (pe_glob (v:=.ref L.c.T) rfl L.gT rfl) pa_nil)))))
    (pss_one (ps_raise rfl rfl L.gnt L.xnt PySem.F.excBase_ValueError raises_cx (pa_cons (pe_fstr (pj_str (pj_int (pv 1) (pj_str pj_nil)))) pa_nil)))
    pss_nil)
   (pss_one (ps_ret (pv 2))))),?_⟩
  obtain ⟨dx,hm⟩:=M.mem
  refine ⟨_,rfl,_,_,_,rfl,hm,(mfl_no _ _ (by decide +kernel) (by decide +kernel) (by decide +kernel)),_,rfl,P,S,h,rfl,M,?_⟩
  obtain ⟨ty,ty1,ty2⟩:=L.isTy M (wf.held h)
  refine ⟨_,rfl,_,_,ty,_,rfl,.inl ⟨_,rfl,ty1⟩,ty2,_,rfl,?_⟩
  cases e : S.held h with
  | num i =>
   refine iteT ?_
   refine ⟨_,rfl,h,rfl,hh,fun x=>⟨(by show 1 <= sizeLine; decide),k2 i e⟩⟩
  | thing j =>
   refine iteF ?_
   exact ⟨_,rfl,k1 j e⟩
end
end GH
namespace GH
open PySem L2
section
def sp_M_place_of (c : CA) : Sp:=fun vs H Q E=>∃ (P : Pl) (S : Hs) (h : Int),vs = [.ref P.m,.int h] /\ At c H P S /\ Wf S /\ h.natAbs.log2 < 1920 /\ (∀ k,S.held h = .thing k -> Q (.int (S.th k).place) H) /\ (∀ i,S.held h = .num i -> E (.ref c.nt) none H)
theorem sc_M_place_of : FnScope ["self","hand"] ["self","hand"] (defScope sM_place_of):=⟨rfl,rfl,rfl,by decide +kernel,rfl,by decide +kernel,by decide +kernel⟩
theorem ok_M_place_of (L : Lk K mg) : FnOk PR w K mg base (CXE PR w) 3 L.M_place_of.f L.M_place_of.d ["self","hand"] (sp_M_place_of L.c):=by
 refine L.M_place_of.F.okE sc_M_place_of (fun vs H Q E h=>?_) (fun cdv A outer s H vs Q E hr h=>?_)
 ·obtain ⟨P,S,h,rfl,M,wf,hh,k1,k2⟩:=h
  rfl
 ·obtain ⟨P,S,h,rfl,M,wf,hh,k1,k2⟩:=h
  have hu:=hu_of hr
  refine ⟨_,(pss_one (ps_ret (pe_fld (pe_meth (pv 0) L.cM L.M_thing_in.m (ok_M_thing_in L) (hr.mono (by decide)) L.M_thing_in.b .nil passes_cx (pa_cons (pv 1) pa_nil)) rfl))),?_⟩
  obtain ⟨dx,hm⟩:=M.mem
  refine ⟨_,rfl,_,_,_,rfl,hm,(mfl_no _ _ (by decide +kernel) (by decide +kernel) (by decide +kernel)),_,rfl,P,S,h,rfl,M,wf,hh,fun k e=>?_,k2⟩
  obtain ⟨dt,ht⟩:=M.th k (wf.hv _ _ (held_mem e))
  exact ⟨_,_,_,_,_,rfl,ht,L.cT,L.nT_place,tfl_place _ _ _,k1 k e⟩
end
end GH
namespace GH
open PySem L2
section
def sp_H_place_of (c : CA) : Sp:=fun vs H Q E=>∃ (hh : Addr) (P : Pl) (S : Hs) (h : Int),vs = [.ref hh,.int h] /\ HAt c H hh P S /\ Wf S /\ h.natAbs.log2 < 1920 /\ (∀ k,S.held h = .thing k -> Q (.int (S.th k).place) H) /\ (∀ i,S.held h = .num i -> E (.ref c.nt) none H)
theorem sc_H_place_of : FnScope ["self","hand"] ["self","hand"] (defScope sH_place_of):=⟨rfl,rfl,rfl,by decide +kernel,rfl,by decide +kernel,by decide +kernel⟩
theorem ok_H_place_of (L : Lk K mg) : FnOk PR w K mg base (CXE PR w) 4 L.H_place_of.f L.H_place_of.d ["self","hand"] (sp_H_place_of L.c):=by
 refine L.H_place_of.F.okE sc_H_place_of (fun vs H Q E h=>?_) (fun cdv A outer s H vs Q E hr h=>?_)
 ·obtain ⟨hh,P,S,h,rfl,M,wf,hh2,k,k2⟩:=h
  rfl
 ·obtain ⟨hh,P,S,h,rfl,M,wf,hh2,k,k2⟩:=h
  have hu:=hu_of hr
  refine ⟨_,(pss_one (ps_ret (pe_meth (pe_fld (pv 0) rfl) L.cM L.M_place_of.m (ok_M_place_of L) (hr.mono (by decide)) L.M_place_of.b .nil passes_cx (pa_cons (pv 1) pa_nil)))),?_⟩
  obtain ⟨dh,hh0⟩:=M.hall
  obtain ⟨dx,hm⟩:=M.at_.mem
  obtain ⟨ds,hs⟩:=M.at_.sw
  exact ⟨_,rfl,_,_,_,_,_,rfl,hh0,L.cH,L.nH_memory,hfl_memory _,_,_,_,rfl,hm,(mfl_no _ _ (by decide +kernel) (by decide +kernel) (by decide +kernel)),_,rfl,P,S,h,rfl,M.at_,wf,hh2,k,k2⟩
end
end GH
namespace GH
open PySem L2
section
def sp__law_blocks : Sp:=fun vs H Q _=>∃ (d : Addr) (I : HP) (S : Hs),vs = [.ref d] /\ Hnd H d I S /\ Laid S /\ Few I S /\ ∀ (r : V) (H' : Hp),Rep H' r (.t (S.blocks.map triD)) -> (∀ b o,H b = some o -> H' b = some o) -> Q r H'
theorem sc__law_blocks : FnScope ["_law_hand","_law_found","_law_at","_law_place"] ["_law_hand"] (defScope s_law_blocks):=⟨rfl,rfl,rfl,by decide +kernel,rfl,by decide +kernel,by decide +kernel⟩
theorem ok__law_blocks (L : Lk K mg) : FnOk PR w K mg base CX0 1 L._law_blocks.f L._law_blocks.d ["_law_hand"] (sp__law_blocks ):=by
 refine L._law_blocks.F.ok sc__law_blocks (fun vs H Q E h=>?_) (fun cdv A outer s H vs Q E hr h=>?_)
 ·obtain ⟨d,I,S,rfl,J,lay,few,k⟩:=h
  rfl
 ·obtain ⟨d,I,S,rfl,J,lay,few,k⟩:=h
  have hu:=hu_of hr
  refine ⟨_,(pss_cons (ps_set (i:=1) sc__law_blocks.nd rfl (Or.inl rfl) (pe_lst pa_nil))
   (pss_cons (ps_set (i:=2) sc__law_blocks.nd rfl (Or.inl rfl) pe_int)
   (pss_cons (ps_for PassesOwn.never rfl (pi_list (pe_callB (id:="sorted") (call_sortedD rfl) (by rfl) L.zsorted bt_sorted (pa_cons (pe_dget hu (pv 0) pe_str (fun _ _=>rfl)) pa_nil))) (pg_name (i:=3) sc__law_blocks.nd rfl (Or.inl rfl))
    (pss_cut (ps_if (pt_cmpR op_gt (pv 3) (pv 2) (nomark _))
    (pss_one (ps_expr (pe_bm PySem.F.plainAttrs_list PySem.F.slot_list_append PySem.F.type_list_append mt_append (pv 1) (pa_cons (pe_tup (pa_cons (pv 2) (pa_cons (pe_op op_sub (pv 3) (pv 2)) (pa_cons pe_int pa_nil)))) pa_nil))))
    pss_nil)
   (pss_cons (ps_set (i:=2) sc__law_blocks.nd rfl (Or.inl rfl) (pe_op op_add (pe_op op_add (pv 3) pe_int) (pe_callB (id:="len") call_len_seq (by rfl) L.zlen bt_len (pa_cons (pe_ix ix_list (pe_dget hu (pe_dget hu (pv 0) pe_str (fun _ _=>rfl)) (pv 3) (fun _ _=>rfl)) pe_int (fun _ _=>rfl)) pa_nil))))
   (pss_one (ps_expr (pe_bm PySem.F.plainAttrs_list PySem.F.slot_list_append PySem.F.type_list_append mt_append (pv 1) (pa_cons (pe_tup (pa_cons (pv 3) (pa_cons (pe_op op_sub (pv 2) (pv 3)) (pa_cons pe_int pa_nil)))) pa_nil)))))))
   (pss_cut (ps_if (pt_cmpR op_lt (pv 2) (pe_dget hu (pv 0) pe_str (fun _ _=>rfl)) (nomark _))
    (pss_one (ps_expr (pe_bm PySem.F.plainAttrs_list PySem.F.slot_list_append PySem.F.type_list_append mt_append (pv 1) (pa_cons (pe_tup (pa_cons (pv 2) (pa_cons (pe_op op_sub (pe_dget hu (pv 0) pe_str (fun _ _=>rfl)) (pv 2)) (pa_cons pe_int pa_nil)))) pa_nil))))
    pss_nil)
   (pss_one (ps_ret (pe_callTy (T:="tuple") call_tuple_of (by rfl) L.ztuple bt_tuple (pa_cons (pv 1) pa_nil)))))))),?_⟩
  have hle:=Few.le (w:=few)
  refine ⟨(by decide),fun l hl=>?_⟩
  have s0 : ∀ b o,H b = some o -> upd H l (.lst []) b = some o:=fun b o e=>by rw [upd_ne (ne_of_none e hl)]; exact e
  have J0:=J.ext s0
  refine ⟨_,rfl,d,_,rfl,J0.gT,I.td,_,_,rfl,J0.tds,thK_keys _ _ _,J0.few lay few,fun ns' D hp hs hD=>?_⟩
  rw [J0.srt lay hp hs]
  have l0 : upd H l (.lst []) l = some (.lst []):=upd_same
  generalize e1 : upd (upd H l (.lst [])) D _ = H1
  obtain ⟨k1,h1⟩:=mkL hD e1
  have nDl : D ≠ l:=(ne_of_none l0 hD).symm
  have hDH : H D = none:=by
   cases e : H D with
   | none=>rfl
   | some o=>rw [s0 D o e] at hD; cases hD
  refine ⟨D,rfl,⟨_,SqL.of h1⟩,for_list (K:=K) (a:=D) (xs:=(S.things.map S.pl).map V.int) (fun i σ H2=>(∀ b o,H b = some o -> H2 b = some o) /\ H2 D = some (.lst ((S.things.map S.pl).map V.int)) /\ ∃ a v vs ds,σ = [some (.ref d),some (.ref l),some (.int a),v] /\ H2 l = some (.lst vs) /\ Reps H2 vs (ds.map triD) /\ ds ++ blocksGo S.th S.size a (S.things.drop i) = S.blocks /\ ds.length <= 2 * i)
   ⟨fun b o e=>k1 _ _ (s0 b o e),h1,0,none,[],[],rfl,k1 _ _ l0,.nil,rfl,Nat.le_refl _⟩ (fun i σ H2 _ ⟨_,e,_⟩=>SqL.of e) ?_ ?_⟩
  ·rintro i y σ H2 hi ⟨s2,hD2,a,v,vs,ds,rfl,h2,r2,e2,z2⟩
   rw [List.map_map] at hi
   obtain ⟨j,eg,rfl⟩:=get_map hi
   have hj:=List.mem_of_getElem? eg
   have hlt : i < S.things.length:=(List.getElem?_eq_some_iff.mp eg).1
   rw [drop_at eg] at e2
   unfold blocksGo at e2
   have vl : vs.length = ds.length:=by rw [r2.len,List.length_map]
   refine ⟨fun σ3 H3=>σ3 = [some (.ref d),some (.ref l),some (.int a),some (.int (S.pl j))] /\ (∀ b o,H b = some o -> H3 b = some o) /\ H3 D = some (.lst ((S.things.map S.pl).map V.int)) /\ ∃ vs3 ds3,H3 l = some (.lst vs3) /\ Reps H3 vs3 (ds3.map triD) /\ ds3 ++ ((S.th j).place,(S.th j).words,1) :: blocksGo S.th S.size (S.th j).behind (S.things.drop (i + 1)) = S.blocks /\ ds3.length <= 2 * i + 1,?_,?_⟩
   ·refine ⟨_,rfl,_,rfl,_,_,rfl,rfl,_,rfl,?_⟩
    refine ite2 (fun h1=>?_) (fun h1=>?_)
    ·have h1' : a < (S.th j).place:=of_decide_eq_true h1
     rw [if_pos h1'] at e2
     refine ⟨_,rfl,.inl ⟨rfl,_,SqL.of h2⟩,_,rfl,_,rfl,_,rfl,_,_,rfl,rfl,(by show 3 <= sizeLine; decide),fun p hp=>⟨l,vs,_,rfl,rfl,(by rw [upd_ne (ne_of_none h2 hp)]; exact h2),small1000 (by omega),?_⟩⟩
     have nlp : p ≠ l:=(ne_of_none h2 hp).symm
     have s3 : ∀ b o,H2 b = some o -> b ≠ l -> upd (upd H2 p (.tup [.int a,.int (S.pl j - a),.int 0])) l (.lst (vs ++ [.ref p])) b = some o:=fun b o e hb=>by rw [upd_ne hb,upd_ne (ne_of_none e hp)]; exact e
     refine ⟨rfl,fun b o e=>s3 b o (s2 b o e) (ne_of_none e hl),s3 _ _ hD2 nDl,_,ds ++ [(a,(S.th j).place - a,0)],upd_same,?_,?_,?_⟩
     ·rw [List.map_append]
      refine .append (r2.tups (fun b xs e=>s3 b _ e (ne_of e h2 (fun z=>nomatch z))) fun d hd=>?_) (.cons (rep_tri ?_) .nil)
      ·obtain ⟨b,_,rfl⟩:=List.mem_map.mp hd; exact triD_pure b
      ·rw [upd_ne nlp,upd_same]; rfl
     ·rw [<- e2]; simp
     ·simp; omega
    ·have h1' : ¬ a < (S.th j).place:=fun z=>h1 (decide_eq_true z)
     rw [if_neg h1'] at e2
     exact ⟨rfl,s2,hD2,vs,ds,h2,r2,by rw [<- e2]; simp,by omega⟩
   ·rintro σ3 H3 ⟨rfl,s3,hD3,vs3,ds3,h3,r3,e3,z3⟩
    have J3:=J.ext s3
    obtain ⟨fv,ef,rf,lf⟩:=J3.fldL hj
    have vl3 : vs3.length = ds3.length:=by rw [r3.len,List.length_map]
    refine ⟨_,rfl,_,_,rfl,rfl,_,rfl,d,_,rfl,J3.gT,_,rfl,I.td,_,rfl,J3.gE lay hj,I.en j,_,0,_,rfl,rfl,SqL.of (J3.ent j hj),rfl,I.ft j,fv,rfl,.inl (SqL.of ef),_,_,rfl,rfl,?_⟩
    show gName 2 (V.int (S.pl j + 2 + (fv.length : Int))) _ _ _
    rw [pl_behind S j lf]
    refine ⟨_,rfl,.inl ⟨rfl,_,SqL.of h3⟩,_,rfl,_,rfl,_,rfl,_,_,rfl,rfl,(by show 3 <= sizeLine; decide),fun p hp=>⟨l,vs3,_,rfl,rfl,(by rw [upd_ne (ne_of_none h3 hp)]; exact h3),small1000 (by omega),?_⟩⟩
    have nlp : p ≠ l:=(ne_of_none h3 hp).symm
    have s4 : ∀ b o,H3 b = some o -> b ≠ l -> upd (upd H3 p (.tup [.int (S.pl j),.int ((S.th j).behind - S.pl j),.int 1])) l (.lst (vs3 ++ [.ref p])) b = some o:=fun b o e hb=>by rw [upd_ne hb,upd_ne (ne_of_none e hp)]; exact e
    have ew : (S.th j).behind - S.pl j = (S.th j).words:=by show (S.th j).place + (S.th j).words - (S.th j).place = _; omega
    refine ⟨fun b o e=>s4 b o (s3 b o e) (ne_of_none e hl),s4 _ _ hD3 nDl,(S.th j).behind,some (.int (S.pl j)),_,ds3 ++ [((S.th j).place,(S.th j).words,1)],rfl,upd_same,?_,?_,?_⟩
    ·rw [List.map_append]
     refine .append (r3.tups (fun b xs e=>s4 b _ e (ne_of e h3 (fun z=>nomatch z))) fun d hd=>?_) (.cons (rep_tri ?_) .nil)
     ·obtain ⟨b,_,rfl⟩:=List.mem_map.mp hd; exact triD_pure b
     ·rw [upd_ne nlp,upd_same]
      show some (HO.tup [V.int (S.pl j),V.int ((S.th j).behind - S.pl j),V.int 1]) = _
      rw [ew]; rfl
    ·rw [<- e3]; simp
    ·simp; omega
  ·rintro σ H2 ⟨s2,hD2,a,v,vs,ds,rfl,h2,r2,e2,z2⟩
   rw [List.length_map,List.length_map] at z2 e2
   rw [List.drop_eq_nil_of_le (Nat.le_refl _)] at e2
   unfold blocksGo at e2
   have J2:=J.ext s2
   have vl : vs.length = ds.length:=by rw [r2.len,List.length_map]
   refine ⟨fun σ3 H3=>σ3 = [some (.ref d),some (.ref l),some (.int a),v] /\ (∀ b o,H b = some o -> H3 b = some o) /\ ∃ vs3,H3 l = some (.lst vs3) /\ Reps H3 vs3 (S.blocks.map triD),?_,?_⟩
   ·refine ⟨_,rfl,_,rfl,d,_,rfl,J2.gS,_,_,rfl,rfl,_,rfl,?_⟩
    refine ite2 (fun h1=>?_) (fun h1=>?_)
    ·rw [if_pos (of_decide_eq_true h1)] at e2
     refine ⟨_,rfl,.inl ⟨rfl,_,SqL.of h2⟩,_,rfl,_,rfl,d,_,rfl,J2.gS,_,rfl,_,_,rfl,rfl,(by show 3 <= sizeLine; decide),fun p hp=>⟨l,vs,_,rfl,rfl,(by rw [upd_ne (ne_of_none h2 hp)]; exact h2),small1000 (by omega),?_⟩⟩
     have nlp : p ≠ l:=(ne_of_none h2 hp).symm
     have s3 : ∀ b o,H2 b = some o -> b ≠ l -> upd (upd H2 p (.tup [.int a,.int (S.size - a),.int 0])) l (.lst (vs ++ [.ref p])) b = some o:=fun b o e hb=>by rw [upd_ne hb,upd_ne (ne_of_none e hp)]; exact e
     refine ⟨rfl,fun b o e=>s3 b o (s2 b o e) (ne_of_none e hl),_,upd_same,?_⟩
     rw [<- e2,List.map_append]
     refine .append (r2.tups (fun b xs e=>s3 b _ e (ne_of e h2 (fun z=>nomatch z))) fun d hd=>?_) (.cons (rep_tri ?_) .nil)
     ·obtain ⟨b,_,rfl⟩:=List.mem_map.mp hd; exact triD_pure b
     ·rw [upd_ne nlp,upd_same]
    ·rw [if_neg (fun z=>h1 (decide_eq_true z)),List.append_nil] at e2
     exact ⟨rfl,s2,vs,h2,by rw [<- e2]; exact r2⟩
   ·rintro σ3 H3 ⟨rfl,s3,vs3,h3,r3⟩
    refine ⟨_,rfl,l,vs3,rfl,.inl ⟨SqL.of h3,fun r hr=>?_⟩⟩
    have s4 : ∀ b o,H3 b = some o -> upd H3 r (.tup vs3) b = some o:=fun b o e=>by rw [upd_ne (ne_of_none e hr)]; exact e
    exact k _ _ (.t upd_same (r3.mono s4)) fun b o e=>s4 b o (s3 b o e)
end
end GH
namespace GH
open PySem L2
section
def sp__law_whole : Sp:=fun vs H Q _=>∃ (v : V) (d : Dt),vs = [v] /\ Rep H v d /\ Q (.bl (wholeD d)) H
theorem sc__law_whole : FnScope ["_law_found"] ["_law_found"] (defScope s_law_whole):=⟨rfl,rfl,rfl,by decide +kernel,rfl,by decide +kernel,by decide +kernel⟩
theorem ok__law_whole (L : Lk K mg) : FnOk PR w K mg base CX0 1 L._law_whole.f L._law_whole.d ["_law_found"] (sp__law_whole ):=by
 refine L._law_whole.F.ok sc__law_whole (fun vs H Q E h=>?_) (fun cdv A outer s H vs Q E hr h=>?_)
 ·obtain ⟨v,d,rfl,r,q⟩:=h
  rfl
 ·obtain ⟨v,d,rfl,r,q⟩:=h
  have hu:=hu_of hr
  refine ⟨_,(pss_one (ps_ret (pe_and (pe_callB (id:="isinstance") call_isi (by rfl) L.zisinstance bt_isinstance (pa_cons (pv 0) (pa_cons (pe_bltn (v:=.ty "int") rfl L.zint bt_int rfl) pa_nil))) (pe_one (pe_not (pe_callB (id:="isinstance") call_isi (by rfl) L.zisinstance bt_isinstance (pa_cons (pv 0) (pa_cons (pe_bltn (v:=.ty "bool") rfl L.zbool bt_bool rfl) pa_nil)))))))),?_⟩
  refine ⟨_,rfl,_,_,_,_,rfl,.inr ⟨_,rfl,L.yI r⟩,r.ty,_,rfl,?_⟩
  rw [wholeD_eq] at q
  cases e : isI d with
  | false=>rw [e] at q; exact iteF q
  | true =>
   rw [e] at q
   exact iteT ⟨_,rfl,_,_,_,_,rfl,.inr ⟨_,rfl,L.yB r⟩,r.ty,_,rfl,q⟩
end
end GH
namespace GH
open PySem L2
section
def sp__law_alike (c : CA) : Sp:=fun vs H Q _=>∃ (hh d : Addr) (P : Pl) (I : HP) (S : Hs),vs = [.ref hh,.ref d] /\ HAt c H hh P S /\ Hnd H d I S /\ Ok S /\ Few I S /\ ∀ H',(∀ b o,H b = some o -> H' b = some o) -> Q (.bl true) H'
theorem sc__law_alike : FnScope ["_law_hall","_law_hand","_law_colours","_law_due","_law_which","_law_value"] ["_law_hall","_law_hand"] (defScope s_law_alike):=⟨rfl,rfl,rfl,by decide +kernel,rfl,by decide +kernel,by decide +kernel⟩
theorem ok__law_alike (L : Lk K mg) : FnOk PR w K mg base CX0 5 L._law_alike.f L._law_alike.d ["_law_hall","_law_hand"] (sp__law_alike L.c):=by
 refine L._law_alike.F.ok sc__law_alike (fun vs H Q E h=>?_) (fun cdv A outer s H vs Q E hr h=>?_)
 ·obtain ⟨hh,d,P,I,S,rfl,M,J,ok,few,q⟩:=h
  rfl
 ·obtain ⟨hh,d,P,I,S,rfl,M,J,ok,few,q⟩:=h
  have hu:=hu_of hr
  refine ⟨_,(pss_cons (ps_if (PW.pt (pw_or (pt_cmpR (op_neD hr.units) (pe_meth0 (pv 0) L.cH L.H_blocks.m (ok_H_blocks L) (hr.mono (by decide)) L.H_blocks.b .nil pass0) (pe_call (ok__law_blocks L) (hr.mono (by decide)) rfl L._law_blocks.g L._law_blocks.F.kp L._law_blocks.b .nil pass0 (pa_cons (pv 1) pa_nil)) (nomark _)) (pw_or1 (pt_cmpR op_ne (pe_meth0 (pv 0) L.cH L.H_phase.m (ok_H_phase L) (hr.mono (by decide)) L.H_phase.b .nil pass0) (pe_dget hu (pv 1) pe_str (fun _ _=>rfl)) (nomark _)))))
    (pss_one (ps_ret pe_bl))
    pss_nil)
   (pss_cons (ps_set (i:=2) sc__law_alike.nd rfl (Or.inl rfl) (pe_callTy (T:="tuple") call_tuple_of (by rfl) L.ztuple bt_tuple (pa_cons (pe_compS rfl (ck1 (i:=1) rfl rfl rfl rfl) (pi_list (pe_callB (id:="sorted") (call_sortedD rfl) (by rfl) L.zsorted bt_sorted (pa_cons (pe_dget hu (pv 1) pe_str (fun _ _=>rfl)) pa_nil))) (fun _ _ _ _=>pts_nil) (fun _ _ _ _=>(pe_ix (ix_listK (K:=K) rfl) (pe_dget hu (pe_dget hu (pv 1) pe_str (fun _ _=>rfl)) (pv 0) (fun _ _=>rfl)) pe_int (fun _ _=>rfl)))) pa_nil)))
   (pss_cons (ps_if (PW.pt (pw_or (pt_not (pt_val (pe_callB (id:="isinstance") call_isi (by rfl) L.zisinstance bt_isinstance (pa_cons (pe_meth0 (pv 0) L.cH L.H_colours.m (ok_H_colours L) (hr.mono (by decide)) L.H_colours.b .nil pass0) (pa_cons (pe_bltn (v:=.ty "tuple") rfl L.ztuple bt_tuple rfl) pa_nil))))) (pw_or1 (pt_cmpR (op_neD hr.units) (pe_meth0 (pv 0) L.cH L.H_colours.m (ok_H_colours L) (hr.mono (by decide)) L.H_colours.b .nil pass0) (pv 2) (nomark _)))))
    (pss_one (ps_ret pe_bl))
    pss_nil)
   (pss_cons (ps_set (i:=3) sc__law_alike.nd rfl (Or.inl rfl) pe_non)
   (pss_cut (ps_if (pt_cmpR op_eq (pe_dget hu (pv 1) pe_str (fun _ _=>rfl)) pe_str (nomark _))
    (pss_one (ps_set (i:=3) sc__law_alike.nd rfl (Or.inl rfl) (pe_dget hu (pv 1) pe_str (fun _ _=>rfl))))
    pss_nil)
   (pss_cons (ps_if (PW.pt (pw_or (pt_cmpR op_ne (pe_meth0 (pv 0) L.cH L.H_finger.m (ok_H_finger L) (hr.mono (by decide)) L.H_finger.b .nil pass0) (pv 3) (nomark _)) (pw_or1 (PW.pt (pw_and (pt_cmp (pc_notN (pv 3))) (pw_and1 (pt_not (pt_val (pe_call (ok__law_whole L) (hr.mono (by decide)) rfl L._law_whole.g L._law_whole.F.kp L._law_whole.b .nil pass0 (pa_cons (pe_meth0 (pv 0) L.cH L.H_finger.m (ok_H_finger L) (hr.mono (by decide)) L.H_finger.b .nil pass0) pa_nil))))))))))
    (pss_one (ps_ret pe_bl))
    pss_nil)
   (pss_cons (ps_for PassesOwn.never rfl (pi_range1 rfl L.zrange (pa_cons pe_int pa_nil)) (pg_name (i:=4) sc__law_alike.nd rfl (Or.inl rfl))
    (pss_cons (ps_set (i:=5) sc__law_alike.nd rfl (Or.inl rfl) (pe_ix ix_list (pe_dget hu (pv 1) pe_str (fun _ _=>rfl)) (pv 4) (fun _ _=>rfl)))
   (pss_one (ps_if (PW.pt (pw_and (pt_cmpR op_eq (pe_ix ix_tup (pv 5) pe_int (fun _ _=>rfl)) pe_str (nomark _)) (pw_and1 (pt_cmpR op_ne (pe_meth (pv 0) L.cH L.H_place_of.m (ok_H_place_of L) (hr.mono (by decide)) L.H_place_of.b .nil pass0E (pa_cons (pv 4) pa_nil)) (pe_ix ix_tup (pv 5) pe_int (fun _ _=>rfl)) (nomark _)))))
    (pss_one (ps_ret pe_bl))
    pss_nil))))
   (pss_one (ps_ret pe_bl))))))))),?_⟩
  have hle:=Few.le (w:=few)
  have lay:=ok.laid
  have wf:=ok.wf
  obtain ⟨d0,e0⟩:=M.hall
  refine ⟨_,rfl,_,_,_,rfl,e0,(hfl_no _ (by decide +kernel) (by decide +kernel)),hh,P,S,rfl,M,wf,by omega,fun rb H1 R1 s1=>?_⟩
  refine ⟨_,rfl,d,I,S,rfl,J.ext s1,lay,few,fun r2 H2 R2 s2=>?_⟩
  refine ⟨_,_,R1.mono s2,R2,Nat.le_trans (blocks_dep _) (by decide),⟨rfl,rfl⟩,_,rfl,?_⟩
  rw [R2.refl]
  refine iteF ?_
  have k2 : ∀ b o,H b = some o -> H2 b = some o:=fun b o e=>s2 _ _ (s1 _ _ e)
  have M2:=M.ext k2
  have J2:=J.ext k2
  obtain ⟨d2,e2⟩:=M2.hall
  refine ⟨_,rfl,_,_,_,rfl,e2,(hfl_no _ (by decide +kernel) (by decide +kernel)),hh,P,S,rfl,M2,_,rfl,d,_,rfl,J2.gP,rfl,_,rfl,iteNS rfl ?_⟩
  refine tcomp_of ?_
  refine ⟨_,rfl,d,_,rfl,J2.gT,I.td,_,_,rfl,J2.tds,thK_keys _ _ _,J2.few lay few,fun ns' D hp hs hD=>?_⟩
  rw [J2.srt lay hp hs]
  generalize e3 : upd H2 D _ = H3
  obtain ⟨k3,h3⟩:=mkL hD e3
  have J3:=J2.ext k3
  refine ⟨D,rfl,⟨_,SqL.of h3⟩,comp_placesG (S:=S) (ks:=S.things) (fun _=>true) (fun k=>.str (S.th k).colour.s) (by omega) (fun i hi=>⟨_,((S.things.map S.pl).map V.int)[i]'(by rw [List.length_map,List.length_map]; exact hi),SqL.of h3,List.getElem?_eq_getElem _⟩) ⟨_,SqL.of h3,by rw [List.length_map,List.length_map]; exact Nat.le_refl _⟩ (fun i x H' hx=>⟨hx.1,hx.2 _ (SqL.of h3)⟩) (fun k hk R hR=>?_) (fun D2 hD2=>?_)⟩
  ·refine tyes (iteT ?_)
   exact ⟨_,rfl,d,_,rfl,J3.gT,_,rfl,I.td,_,rfl,J3.gE lay hk,I.en k,_,1,_,rfl,rfl,SqL.of (J3.ent k hk),rfl,hR⟩
  rw [show S.things.filter (fun _=>true) = S.things from List.filter_eq_self.mpr fun _ _=>rfl] 
  generalize e4 : upd H3 D2 _ = H4
  obtain ⟨k4,h4⟩:=mkL hD2 e4
  refine ⟨D2,_,rfl,.inl ⟨SqL.of h4,fun t ht=>?_⟩⟩
  generalize e5 : upd H4 t _ = H5
  have k5 : ∀ b o,H4 b = some o -> H5 b = some o:=fun b o e=>by rw [<- e5,upd_ne (ne_of_none e ht)]; exact e
  have t5 : H5 t = some (.tup (S.things.map fun k=>V.str (S.th k).colour.s)):=by rw [<- e5]; exact upd_same
  have rt : Rep H5 (.ref t) (.t (S.things.map fun k=>.f (.str (S.th k).colour.s))):=by
   have:=Rep.t t5 (reps_flat (H:=H5) (vs:=S.things.map fun k=>V.str (S.th k).colour.s) (by rw [List.all_map,List.all_eq_true]; intro _ _; rfl))
   rw [List.map_map] at this; exact this
  have kk5 : ∀ b o,H b = some o -> H5 b = some o:=fun b o e=>k5 _ _ (k4 _ _ (k3 _ _ (k2 _ _ e)))
  have M5:=M.ext kk5
  obtain ⟨d5,e5'⟩:=M5.hall
  refine ⟨_,rfl,_,_,_,rfl,e5',(hfl_no _ (by decide +kernel) (by decide +kernel)),hh,P,S,rfl,M5,wf,by omega,fun rc H6 R6 s6=>⟨_,_,_,_,rfl,.inr ⟨_,rfl,L.yT R6⟩,R6.ty,_,rfl,?_⟩⟩
  have M6:=M5.ext s6
  obtain ⟨d6,e6⟩:=M6.hall
  refine iteF ?_
  refine ⟨_,rfl,_,_,_,rfl,e6,(hfl_no _ (by decide +kernel) (by decide +kernel)),hh,P,S,rfl,M6,wf,by omega,fun rc2 H7 R7 s7=>?_⟩
  refine ⟨_,rfl,_,_,R7,(rt.mono s6).mono s7,Nat.le_trans (colours_dep S) (by decide),⟨rfl,rfl⟩,_,rfl,?_⟩
  rw [R7.refl]
  refine iteF ?_
  have kk7 : ∀ b o,H b = some o -> H7 b = some o:=fun b o e=>s7 _ _ (s6 _ _ (kk5 _ _ e))
  have M7:=M.ext kk7
  have J7:=J.ext kk7
  obtain ⟨d7,e7⟩:=M7.hall
  refine ⟨fun σ' H'=>H' = H7 /\ σ' = [some (.ref hh),some (.ref d),some (.ref t),some (fgV S.finger),none,none],?_,?_⟩
  ·refine ⟨_,rfl,d,_,rfl,J7.gP,rfl,_,rfl,?_⟩
   have e : decide (V.str S.stage.s = V.str "sweep") = decide (S.stage = .sweep):=dec_stg _ .sweep
   rw [e]
   by_cases hm : S.stage = .sweep
   ·rw [decide_eq_true hm]
    refine iteT ⟨_,rfl,d,_,rfl,J7.gF,rfl,?_⟩
    rw [ready_fg ok.ready hm,J7.fge hm]; rfl
   ·rw [decide_eq_false hm]
    refine iteF ⟨rfl,?_⟩
    rw [ok.ready.no hm]; rfl
  ·rintro σ' H' ⟨rfl,rfl⟩
   refine ⟨_,rfl,_,_,_,rfl,e7,(hfl_no _ (by decide +kernel) (by decide +kernel)),hh,P,S,rfl,M7,_,rfl,fg_scal _,_,rfl,iteNS rfl ?_⟩
   refine ⟨_,rfl,_,rfl,?_⟩
   refine fgIf (fun f hf=>?_) (fun hf=>?_)
   rotate_left
   refine iteF ?_
   rotate_left
   refine ⟨_,rfl,_,_,_,rfl,e7,(hfl_no _ (by decide +kernel) (by decide +kernel)),hh,P,S,rfl,M7,_,.f (.int f),rfl,by rw [hf]; exact .f rfl,_,rfl,?_⟩
   refine iteF ?_
   all_goals
    refine ⟨8,rfl,(by decide),(by decide),for_range (lo:=0) (n:=8) (fun i2 σ H8=>H8 = H' /\ ∃ v3 v4 v5,σ = [some (.ref hh),some (.ref d),some (.ref t),v3,v4,v5]) ⟨rfl,_,_,_,rfl⟩ ?_ ?_⟩
    ·rintro i2 σ H8 hi2 ⟨rfl,v3,v4,v5,rfl⟩
     rw [Int.zero_add]
     obtain ⟨hv,r8,eh,rh,hx,er,hl8⟩:=J7.hand (h:=i2) (by omega)
     refine ⟨_,rfl,d,_,rfl,J7.gH,_,rfl,I.lh,hv,(i2 : Int),.ref r8,rfl,rfl,SqL.of eh,atI_nat hx,?_⟩
     cases ev : S.held (i2 : Int) with
     | num z =>
      rw [ev] at er
      refine ⟨_,rfl,r8,_,0,_,rfl,rfl,SqT.of er,rfl,rfl,_,rfl,?_⟩
      rw [nm_number_thing]
      exact iteF (iteF ⟨rfl,_,_,_,rfl⟩)
     | thing k =>
      rw [ev] at er
      refine ⟨_,rfl,r8,_,0,_,rfl,rfl,SqT.of er,rfl,rfl,_,rfl,?_⟩
      rw [strT]
      refine iteT ?_
      refine ⟨_,rfl,_,_,_,rfl,e7,(hfl_no _ (by decide +kernel) (by decide +kernel)),_,rfl,hh,P,S,(i2 : Int),rfl,M7,wf,log_small (by omega),fun k' e'=>?_,fun z e'=>by rw [ev] at e'; cases e'⟩
      rw [ev] at e'
      cases e'
      exact ⟨_,rfl,r8,_,1,_,rfl,rfl,SqT.of er,rfl,rfl,_,rfl,iteNS rfl ⟨rfl,_,_,_,rfl⟩⟩
    ·rintro σ H8 ⟨rfl,_⟩
     exact q _ kk7
end
end GH
namespace GH
open PySem L2
section
def sp__law_grey : Sp:=fun vs H Q _=>∃ (d : Addr) (I : HP) (S : Hs),vs = [.ref d] /\ Hnd H d I S /\ Laid S /\ Few I S /\ ∀ D H',H' D = some (.lst ((S.greys.map S.pl).map V.int)) -> (∀ b o,H b = some o -> H' b = some o) -> Q (.ref D) H'
theorem sc__law_grey : FnScope ["_law_hand"] ["_law_hand"] (defScope s_law_grey):=⟨rfl,rfl,rfl,by decide +kernel,rfl,by decide +kernel,by decide +kernel⟩
theorem ok__law_grey (L : Lk K mg) : FnOk PR w K mg base CX0 1 L._law_grey.f L._law_grey.d ["_law_hand"] (sp__law_grey ):=by
 refine L._law_grey.F.ok sc__law_grey (fun vs H Q E h=>?_) (fun cdv A outer s H vs Q E hr h=>?_)
 ·obtain ⟨d,I,S,rfl,J,l,few,q⟩:=h
  rfl
 ·obtain ⟨d,I,S,rfl,J,l,few,q⟩:=h
  have hu:=hu_of hr
  refine ⟨_,(pss_one (ps_ret (pe_compS rfl (ck1 (i:=0) rfl rfl rfl rfl) (pi_list (pe_callB (id:="sorted") (call_sortedD rfl) (by rfl) L.zsorted bt_sorted (pa_cons (pe_dget hu (pv 0) pe_str (fun _ _=>rfl)) pa_nil))) (fun _ _ _ _=>(pts_one (pt_cmpR op_eq (pe_ix (ix_listK (K:=K) rfl) (pe_dget hu (pe_dget hu (pv 1) pe_str (fun _ _=>rfl)) (pv 0) (fun _ _=>rfl)) pe_int (fun _ _=>rfl)) pe_str (nomark _)))) (fun _ _ _ _=>(pv 0))))),?_⟩
  refine tcomp_of ?_
  refine ⟨_,rfl,d,_,rfl,J.gT,I.td,_,_,rfl,J.tds,thK_keys _ _ _,J.few l few,fun ns' D hp hs hD=>?_⟩
  rw [J.srt l hp hs]
  generalize e1 : upd H D _ = H1
  obtain ⟨k1,h1⟩:=mkL hD e1
  have J1:=J.ext k1
  have hle:=Few.le (w:=few)
  refine ⟨D,rfl,⟨_,SqL.of h1⟩,comp_places (S:=S) (ks:=S.things) (fun k=>decide ((S.th k).colour = .grey)) (by omega) (fun i hi=>⟨_,((S.things.map S.pl).map V.int)[i]'(by rw [List.length_map,List.length_map]; exact hi),SqL.of h1,List.getElem?_eq_getElem _⟩) ⟨_,SqL.of h1,by rw [List.length_map,List.length_map]; exact Nat.le_refl _⟩ (fun i x H' hx=>⟨hx.1,hx.2 _ (SqL.of h1)⟩) (fun k hk R hR=>?_) (fun D2 hD2=>?_)⟩
  ·refine ⟨_,rfl,d,_,rfl,J1.gT,_,rfl,I.td,_,rfl,J1.gE l hk,I.en k,_,1,_,rfl,rfl,SqL.of (J1.ent k hk),rfl,rfl,_,rfl,?_⟩
   have e : decide (V.str (S.th k).colour.s = V.str "grey") = decide ((S.th k).colour = .grey):=dec_col _ .grey
   rw [e]
   cases hc : decide ((S.th k).colour = .grey) with
   | true=>rw [hc] at hR; exact iteT ⟨_,rfl,hR⟩
   | false=>rw [hc] at hR; exact iteF hR
  ·generalize e2 : upd H1 D2 _ = H2
   obtain ⟨k2,h2⟩:=mkL hD2 e2
   exact q D2 H2 h2 fun b o e=>k2 b o (k1 b o e)
end
end GH
namespace GH
open PySem L2
section
def sp__law_settle : Sp:=fun vs H Q _=>∃ (d : Addr) (I : HP) (S : Hs),vs = [.ref d] /\ Hnd H d I S /\ Laid S /\ Few I S /\ ∀ f H',Hnd H' d { I with fg:=f } S.change -> HFm d I S.things I S.things H H' -> Q .non H'
theorem sc__law_settle : FnScope ["_law_hand"] ["_law_hand"] (defScope s_law_settle):=⟨rfl,rfl,rfl,by decide +kernel,rfl,by decide +kernel,by decide +kernel⟩
theorem ok__law_settle (L : Lk K mg) : FnOk PR w K mg base CX0 2 L._law_settle.f L._law_settle.d ["_law_hand"] (sp__law_settle ):=by
 refine L._law_settle.F.ok sc__law_settle (fun vs H Q E h=>?_) (fun cdv A outer s H vs Q E hr h=>?_)
 ·obtain ⟨d,I,S,rfl,J,l,few,q⟩:=h
  rfl
 ·obtain ⟨d,I,S,rfl,J,l,few,q⟩:=h
  have hu:=hu_of hr
  refine ⟨_,(pss_cut (ps_if (PW.pt (pw_and (pt_cmpR op_eq (pe_dget hu (pv 0) pe_str (fun _ _=>rfl)) pe_str (nomark _)) (pw_and1 (pt_not (pt_truth (pe_call (ok__law_grey L) (hr.mono (by decide)) rfl L._law_grey.g L._law_grey.F.kp L._law_grey.b .nil pass0 (pa_cons (pv 0) pa_nil)) (fun _=>rfl))))))
    (pss_cons (ps_dput hu (pv 0) pe_str pe_str rfl)
   (pss_one (ps_dput hu (pv 0) pe_str pe_int rfl)))
    pss_nil)
   (pss_one (ps_if (PW.pt (pw_and (pt_cmpR op_eq (pe_dget hu (pv 0) pe_str (fun _ _=>rfl)) pe_str (nomark _)) (pw_and1 (pt_not (pt_truth (pe_thaw (pe_compS rfl (ck1 (i:=0) rfl rfl rfl rfl) (pi_keys (pe_dget hu (pv 0) pe_str (fun _ _=>rfl))) (fun _ _ _ _=>(pts_one (pt_cmpR op_ge (pv 0) (pe_dget hu (pv 1) pe_str (fun _ _=>rfl)) (nomark _)))) (fun _ _ _ _=>(pv 0)))) (fun _=>rfl))))))
    (pss_one (ps_dput hu (pv 0) pe_str pe_str rfl))
    pss_nil))),?_⟩
  refine ⟨fun σ' H'=>∃ f,σ' = [some (.ref d)] /\ Hnd H' d { I with fg:=f } S.toSweep /\ HFm d I S.things I S.things H H',?_,?_⟩
  ·refine ⟨_,rfl,d,_,rfl,J.gP,rfl,_,rfl,?_⟩
   have e : decide (V.str S.stage.s = V.str "mark") = decide (S.stage = .mark):=dec_stg _ .mark
   rw [e]
   by_cases hm : S.stage = .mark
   ·rw [decide_eq_true hm]
    refine iteT ?_
    refine ⟨_,rfl,d,I,S,rfl,J,l,few,fun D H1 h1 s1=>⟨_,.inl ⟨_,SqL.of h1,rfl⟩,?_⟩⟩
    have J1:=J.ext s1
    show if (!(!((S.greys.map S.pl).map V.int).isEmpty)) = true then _ else _
    rw [Bool.not_not,grey_empty]
    by_cases hg : S.leastGrey = none
    ·rw [decide_eq_true hg]
     have es : S.toSweep = { S with stage:=.sweep,finger:=some 0 }:=by unfold Hs.toSweep; rw [if_pos ⟨hm,hg⟩]
     refine iteT ⟨_,rfl,d,_,rfl,dpP J1.dic .sweep,_,rfl,d,_,rfl,dpF upd_same 0,?_⟩
     rw [upd_upd,es]
     exact ⟨0,rfl,J1.phase .sweep 0 (some 0) (fun _=>rfl),(HFm.ext s1).trans (.one (.inl rfl))⟩
    ·rw [decide_eq_false hg]
     have es : S.toSweep = S:=by unfold Hs.toSweep; rw [if_neg fun z=>hg z.2]
     rw [es]
     exact iteF ⟨I.fg,rfl,J1,.ext s1⟩
   ·rw [decide_eq_false hm]
    have es : S.toSweep = S:=by unfold Hs.toSweep; rw [if_neg fun z=>hm z.1]
    rw [es]
    exact iteF (iteF ⟨I.fg,rfl,J,.ext fun _ _ e=>e⟩)
  ·rintro σ' H1 ⟨f,rfl,J1,f1⟩
   have e1 : S.toSweep.things = S.things:=by unfold Hs.toSweep; split <;> rfl
   have e0 : S.change = S.toSweep.toIdle:=rfl
   rw [e0] at q
   rw [<- e1] at q f1
   have hln : S.toSweep.things.length <= 64:=by rw [e1]; exact Few.le (w:=few)
   generalize S.toSweep = T at J1 q f1 hln
   refine ⟨_,rfl,d,_,rfl,J1.gP,rfl,_,rfl,?_⟩
   have e : decide (V.str T.stage.s = V.str "sweep") = decide (T.stage = .sweep):=dec_stg _ .sweep
   rw [e]
   by_cases hm : T.stage = .sweep
   ·rw [decide_eq_true hm]
    have ef : f = T.fg:=J1.fge hm
    refine iteT ?_
    refine ⟨I.td,_,J1.tds,?_⟩
    refine tcomp_of ?_
    refine ⟨_,rfl,d,_,rfl,J1.gT,I.td,_,rfl,J1.tds,fun o=>?_⟩
    have d2 : upd H1 I.td (.frz o (.dK (thK I.ks T.pl I.en))) d = some (.dK (hdK T.size I.td I.lh T.stage f)):=(upd_ne J1.ndt.symm).trans J1.dic
    have hkl : I.ks.length <= 64:=by have h0:=J1.prm.length_eq; have h1 : I.ks.length = T.things.length:=h0; omega
    have hvl : ((thK I.ks T.pl I.en).map fun p=>kV p.1).length = I.ks.length:=by rw [thK_kv,List.length_map,List.length_map]
    refine comp_places (S:=T) (ks:=I.ks) (fun k=>decide (f <= T.pl k)) (by omega) (fun i hi=>⟨⟨_,upd_same⟩,by rw [hvl]; exact hi⟩) ⟨⟨_,upd_same⟩,by rw [hvl]; exact Nat.le_refl _⟩ (fun i x H' hx=>⟨hx.1,by rw [<- thK_kv _ _ I.en]; exact hx.2⟩) (fun k hk R hR=>?_) (fun D hD=>?_)
    ·refine ⟨_,rfl,_,rfl,d,_,rfl,dgF d2,_,_,rfl,rfl,_,rfl,?_⟩
     cases hc : decide (f <= T.pl k) with
     | true=>rw [hc] at hR; exact iteT ⟨_,rfl,hR⟩
     | false=>rw [hc] at hR; exact iteF hR
    ·have nD : D ≠ I.td:=fun z=>by rw [z,upd_same] at hD; cases hD
     rw [upd_ne nD] at hD
     refine ⟨o,(upd_ne nD.symm).trans upd_same,?_⟩
     rw [thaw_eq (k:=thK I.ks T.pl I.en) J1.tds nD]
     generalize e2 : upd H1 D _ = H2
     obtain ⟨k2,h2⟩:=mkL hD e2
     have J2:=J1.ext k2
     refine ⟨_,.inl ⟨_,SqL.of h2,rfl⟩,?_⟩
     show if (!(!(((I.ks.filter fun k=>decide (f <= T.pl k)).map T.pl).map V.int).isEmpty)) = true then _ else _
     rw [Bool.not_not,from_empty J1.prm]
     by_cases hg : T.leastFrom f = none
     ·rw [decide_eq_true hg]
      have es : T.toIdle = { T with stage:=.idle,finger:=none }:=by unfold Hs.toIdle; rw [if_pos ⟨hm,by rw [<- ef]; exact hg⟩]
      refine iteT ⟨_,rfl,d,_,rfl,dpP J2.dic .idle,?_⟩
      rw [es] at q
      exact q f _ (J2.phase .idle f none (fun z=>nomatch z)) (f1.trans ((HFm.ext k2).trans (.one (.inl rfl))))
     ·rw [decide_eq_false hg]
      have es : T.toIdle = T:=by unfold Hs.toIdle; rw [if_neg fun z=>hg (by rw [ef]; exact z.2)]
      rw [es] at q
      exact iteF (q f _ J2 (f1.trans (.ext k2)))
   ·rw [decide_eq_false hm]
    have es : T.toIdle = T:=by unfold Hs.toIdle; rw [if_neg fun z=>hm z.1]
    rw [es] at q
    exact iteF (iteF (q f _ J1 f1))
end
end GH
namespace GH
open PySem L2
section
def sp__law_shade : Sp:=fun vs H Q _=>∃ (d r : Addr) (I : HP) (S : Hs) (v : Vl),vs = [.ref d,.ref r] /\ Hnd H d I S /\ Laid S /\ H r = some (.tup (vQ S.pl v)) /\ (∀ k,v = .thing k -> k ∈ S.things) /\ ∀ H',Hnd H' d I (S.makeGrey v) -> EK I S.things H H' -> Q .non H'
theorem sc__law_shade : FnScope ["_law_hand","_law_value"] ["_law_hand","_law_value"] (defScope s_law_shade):=⟨rfl,rfl,rfl,by decide +kernel,rfl,by decide +kernel,by decide +kernel⟩
theorem ok__law_shade (L : Lk K mg) : FnOk PR w K mg base CX0 1 L._law_shade.f L._law_shade.d ["_law_hand","_law_value"] (sp__law_shade ):=by
 refine L._law_shade.F.ok sc__law_shade (fun vs H Q E h=>?_) (fun cdv A outer s H vs Q E hr h=>?_)
 ·obtain ⟨d,r,I,S,v,rfl,J,l,er,hv,q⟩:=h
  rfl
 ·obtain ⟨d,r,I,S,v,rfl,J,l,er,hv,q⟩:=h
  have hu:=hu_of hr
  refine ⟨_,(pss_one (ps_if (PW.pt (pw_and (pt_cmpR op_eq (pe_ix ix_tup (pv 1) pe_int (fun _ _=>rfl)) pe_str (nomark _)) (pw_and1 (pt_cmpR op_eq (pe_ix ix_list (pe_dget hu (pe_dget hu (pv 0) pe_str (fun _ _=>rfl)) (pe_ix ix_tup (pv 1) pe_int (fun _ _=>rfl)) (fun _ _=>rfl)) pe_int (fun _ _=>rfl)) pe_str (nomark _)))))
    (pss_one (ps_asg pe_str (pg_sub (pe_dget hu (pe_dget hu (pv 0) pe_str (fun _ _=>rfl)) (pe_ix ix_tup (pv 1) pe_int (fun _ _=>rfl)) (fun _ _=>rfl)) pe_int set_list)))
    pss_nil)),?_⟩
  cases v with
  | num i =>
   refine ⟨_,rfl,r,_,0,_,rfl,rfl,SqT.of er,rfl,rfl,_,rfl,?_⟩
   rw [nm_number_thing]
   exact iteF (iteF (q _ J fun _ _ e _=>e))
  | thing k =>
   have hk:=hv k rfl
   refine ⟨_,rfl,r,_,0,_,rfl,rfl,SqT.of er,rfl,rfl,_,rfl,?_⟩
   rw [strT]
   refine iteT ?_
   refine ⟨_,rfl,d,_,rfl,J.gT,_,rfl,r,_,1,_,rfl,rfl,SqT.of er,rfl,I.td,_,rfl,J.gE l hk,I.en k,_,1,_,rfl,rfl,SqL.of (J.ent k hk),rfl,rfl,_,rfl,?_⟩
   have e : decide (V.str (S.th k).colour.s = V.str "white") = decide ((S.th k).colour = .white):=dec_col _ .white
   rw [e]
   have q' : ∀ H',Hnd H' d I (if (S.th k).colour = .white then S.paint k .grey else S) -> EK I S.things H H' -> Q .non H':=q
   by_cases h : (S.th k).colour = .white
   ·rw [if_pos h] at q'
    rw [decide_eq_true h]
    refine iteT ⟨_,rfl,d,_,rfl,J.gT,_,rfl,r,_,1,_,rfl,rfl,SqT.of er,rfl,I.td,_,rfl,J.gE l hk,I.en k,_,(1 : Int),1,rfl,rfl,J.ent k hk,rfl,?_⟩
    exact q' _ (J.paint hk .grey) fun b o e n=>(upd_ne (n k hk)).trans e
   ·rw [if_neg h] at q'
    rw [decide_eq_false h]
    exact iteF (q' _ J fun _ _ e _=>e)
end
end GH
namespace GH
open PySem L2
section
def sp__law_begin : Sp:=fun vs H Q _=>∃ (d : Addr) (I : HP) (S : Hs),vs = [.ref d] /\ Hnd H d I S /\ Ok S /\ HIn S /\ S.things.length < 64 /\ ∀ f H',Hnd H' d { I with fg:=f } S.begin -> HFm d I S.things I S.things H H' -> Q .non H'
theorem sc__law_begin : FnScope ["_law_hand","_law_value"] ["_law_hand"] (defScope s_law_begin):=⟨rfl,rfl,rfl,by decide +kernel,rfl,by decide +kernel,by decide +kernel⟩
theorem ok__law_begin (L : Lk K mg) : FnOk PR w K mg base CX0 3 L._law_begin.f L._law_begin.d ["_law_hand"] (sp__law_begin ):=by
 refine L._law_begin.F.ok sc__law_begin (fun vs H Q E h=>?_) (fun cdv A outer s H vs Q E hr h=>?_)
 ·obtain ⟨d,I,S,rfl,J,ok,hin,h64,q⟩:=h
  rfl
 ·obtain ⟨d,I,S,rfl,J,ok,hin,h64,q⟩:=h
  have hu:=hu_of hr
  refine ⟨_,(pss_cons (ps_dput hu (pv 0) pe_str pe_str rfl)
   (pss_cons (ps_for PassesOwn.never rfl (pi_list (pe_dget hu (pv 0) pe_str (fun _ _=>rfl))) (pg_name (i:=1) sc__law_begin.nd rfl (Or.inl rfl))
    (pss_one (ps_expr (pe_call (ok__law_shade L) (hr.mono (by decide)) rfl L._law_shade.g L._law_shade.F.kp L._law_shade.b .nil pass0 (pa_cons (pv 0) (pa_cons (pv 1) pa_nil))))))
   (pss_one (ps_expr (pe_call (ok__law_settle L) (hr.mono (by decide)) rfl L._law_settle.g L._law_settle.F.kp L._law_settle.b .nil pass0 (pa_cons (pv 0) pa_nil)))))),?_⟩
  refine ⟨_,rfl,d,_,rfl,dpP J.dic .mark,?_⟩
  have J1 : Hnd _ d I { S with stage:=.mark }:=J.phase .mark I.fg S.finger (fun z=>nomatch z)
  have f1 : HFm d I S.things I S.things H _:=.one (o:=.dK (hdK S.size I.td I.lh .mark I.fg)) (.inl rfl)
  generalize upd H d _ = H1 at J1 f1 ⊢
  rw [begin8 ok.wf hin] at q
  obtain ⟨hv,eh,rh⟩:=J1.hnd
  have l1 : Laid { S with stage:=.mark }:=⟨ok.laid.rise,ok.laid.low,ok.laid.high⟩
  have hgood : ∀ k,Vl.thing k ∈ hands8 S -> k ∈ S.things:=fun k hk=>by
   obtain ⟨i,_,e⟩:=List.mem_map.mp hk
   exact held_in ok e
  have hn8 : hands8 { S with stage:=.mark } = hands8 S:=rfl
  have hvl : hv.length = (hands8 S).length:=by have:=rh.len; rw [List.length_map] at this; exact this
  refine ⟨_,rfl,d,_,rfl,J1.gH,I.lh,rfl,⟨_,SqL.of eh⟩,for_list (K:=K) (a:=I.lh) (xs:=hv) (fun i σ H2=>Hnd H2 d I (Hs.shadeAll { S with stage:=.mark } ((hands8 S).take i)) /\ EK I S.things H1 H2 /\ ∃ v,σ = [some (.ref d),v])
   ⟨J1,fun _ _ e _=>e,none,rfl⟩ (fun i σ H2 _ ⟨_,k2,_⟩=>SqL.of (k2 _ _ eh fun k hk=>(J1.neh k hk).symm)) ?_ ?_⟩
  ·rintro i y σ H2 hi ⟨J2,k2,v,rfl⟩
   obtain ⟨dx,hdx,rx⟩:=rh.get hi
   obtain ⟨x,hx,rfl⟩:=get_map hdx
   obtain ⟨r,rfl,er⟩:=vP_rep rx
   have er2:=k2.tup J1 _ _ er
   have et:=shadeAll_things { S with stage:=.mark } ((hands8 S).take i)
   have ep:=shadeAll_pl { S with stage:=.mark } ((hands8 S).take i)
   refine ⟨_,rfl,_,rfl,d,r,I,_,x,rfl,J2,l1.shadeAll _,by rw [ep]; exact er2,fun k e=>by rw [et]; exact hgood k (by rw [<- e]; exact List.mem_of_getElem? hx),fun H3 J3 k3=>?_⟩
   rw [et] at k3
   refine ⟨?_,k2.trans k3,_,rfl⟩
   rw [shadeAll_snoc (show (hands8 S)[i]? = some x from hx)]; exact J3
  ·rintro σ H2 ⟨J2,k2,v,rfl⟩
   rw [hvl,List.take_length] at J2
   have et:=shadeAll_things { S with stage:=.mark } (hands8 S)
   refine ⟨_,rfl,d,I,_,rfl,J2,l1.shadeAll _,.inl (by rw [et]; exact h64),fun f H3 J3 f3=>?_⟩
   rw [et] at f3
   exact q f H3 J3 (f1.trans (k2.hfm.trans f3))
end
end GH
namespace GH
open PySem L2
section
def sp__law_gap : Sp:=fun vs H Q _=>∃ (d : Addr) (I : HP) (S : Hs) (w : Int),vs = [.ref d,.int w] /\ Hnd H d I S /\ Laid S /\ Few I S /\ ∀ H',(∀ b o,H b = some o -> H' b = some o) -> Q (optV (S.free w)) H'
theorem sc__law_gap : FnScope ["_law_hand","_law_words","_law_at","_law_place"] ["_law_hand","_law_words"] (defScope s_law_gap):=⟨rfl,rfl,rfl,by decide +kernel,rfl,by decide +kernel,by decide +kernel⟩
theorem ok__law_gap (L : Lk K mg) : FnOk PR w K mg base CX0 1 L._law_gap.f L._law_gap.d ["_law_hand","_law_words"] (sp__law_gap ):=by
 refine L._law_gap.F.ok sc__law_gap (fun vs H Q E h=>?_) (fun cdv A outer s H vs Q E hr h=>?_)
 ·obtain ⟨d,I,S,w',rfl,J,l,few,q⟩:=h
  rfl
 ·obtain ⟨d,I,S,w',rfl,J,l,few,q⟩:=h
  have hu:=hu_of hr
  refine ⟨_,(pss_cons (ps_set (i:=2) sc__law_gap.nd rfl (Or.inl rfl) pe_int)
   (pss_cons (ps_for PassesOwn.never rfl (pi_list (pe_callB (id:="sorted") (call_sortedD rfl) (by rfl) L.zsorted bt_sorted (pa_cons (pe_dget hu (pv 0) pe_str (fun _ _=>rfl)) pa_nil))) (pg_name (i:=3) sc__law_gap.nd rfl (Or.inl rfl))
    (pss_cons (ps_if (pt_cmpR op_ge (pe_op op_sub (pv 3) (pv 2)) (pv 1) (nomark _))
    (pss_one (ps_ret (pv 2)))
    pss_nil)
   (pss_one (ps_set (i:=2) sc__law_gap.nd rfl (Or.inl rfl) (pe_op op_add (pe_op op_add (pv 3) pe_int) (pe_callB (id:="len") call_len_seq (by rfl) L.zlen bt_len (pa_cons (pe_ix ix_list (pe_dget hu (pe_dget hu (pv 0) pe_str (fun _ _=>rfl)) (pv 3) (fun _ _=>rfl)) pe_int (fun _ _=>rfl)) pa_nil)))))))
   (pss_cons (ps_if (pt_cmpR op_ge (pe_op op_sub (pe_dget hu (pv 0) pe_str (fun _ _=>rfl)) (pv 2)) (pv 1) (nomark _))
    (pss_one (ps_ret (pv 2)))
    pss_nil)
   (pss_one (ps_ret pe_non))))),?_⟩
  refine ⟨_,rfl,d,_,rfl,J.gT,I.td,_,_,rfl,J.tds,thK_keys _ _ _,J.few l few,fun ns' D hp hs hD=>?_⟩
  rw [J.srt l hp hs]
  generalize e1 : upd H D _ = H1
  obtain ⟨k1,h1⟩:=mkL hD e1
  have J1:=J.ext k1
  refine ⟨D,rfl,⟨_,SqL.of h1⟩,for_list (K:=K) (a:=D) (xs:=(S.things.map S.pl).map V.int) (fun i σ H2=>H2 = H1 /\ ∃ a v,σ = [some (.ref d),some (.int w'),some (.int a),v] /\ freeGo S.th S.size w' a (S.things.drop i) = S.free w')
   ⟨rfl,0,none,rfl,rfl⟩ (fun i σ H2 _ ⟨e,_⟩=>by rw [e]; exact SqL.of h1) ?_ ?_⟩
  ·rintro i y σ H2 hi ⟨rfl,a,v,rfl,e⟩
   rw [List.map_map] at hi
   obtain ⟨j,eg,rfl⟩:=get_map hi
   have hj:=List.mem_of_getElem? eg
   rw [drop_at eg] at e
   obtain ⟨fv,ef,rf,lf⟩:=J1.fldL hj
   refine ⟨_,rfl,_,rfl,_,_,rfl,rfl,_,rfl,_,_,rfl,rfl,_,rfl,?_⟩
   unfold freeGo at e
   refine ite2 (fun h1=>?_) (fun h1=>?_)
   ·have h1' : w' <= (S.th j).place - a:=of_decide_eq_true h1
    rw [if_pos h1'] at e
    refine ⟨_,rfl,?_⟩
    have:=q _ k1
    rw [<- e] at this
    exact this
   ·have h1' : ¬ w' <= (S.th j).place - a:=fun z=>h1 (decide_eq_true z)
    rw [if_neg h1'] at e
    refine ⟨_,rfl,_,_,rfl,rfl,_,rfl,d,_,rfl,J1.gT,_,rfl,I.td,_,rfl,J1.gE l hj,I.en j,_,0,_,rfl,rfl,SqL.of (J1.ent j hj),rfl,I.ft j,fv,rfl,.inl (SqL.of ef),_,_,rfl,rfl,?_⟩
    refine ⟨rfl,(S.th j).behind,some (.int (S.pl j)),?_,e⟩
    rw [<- pl_behind S j lf]; rfl
  ·rintro σ H2 ⟨rfl,a,v,rfl,e⟩
   rw [List.length_map,List.length_map,List.drop_eq_nil_of_le (Nat.le_refl _)] at e
   unfold freeGo at e
   refine ⟨_,rfl,d,_,rfl,J1.gS,_,rfl,_,_,rfl,rfl,_,rfl,_,_,rfl,rfl,_,rfl,?_⟩
   have qq:=q _ k1
   rw [<- e] at qq
   refine ite2 (fun h1=>?_) (fun h1=>?_)
   ·rw [if_pos (of_decide_eq_true h1)] at qq
    exact ⟨_,rfl,qq⟩
   ·rw [if_neg (fun z=>h1 (decide_eq_true z))] at qq
    exact qq
end
end GH
namespace GH
open PySem L2
section
def sp__law_moved : Sp:=fun vs H Q _=>∃ (r pd : Addr) (p p' : Nat -> Int) (v : Vl),vs = [.ref r,.ref pd] /\ H r = some (.tup (vQ p v)) /\ (∀ k,v = .thing k -> DGet H pd (.int (p k)) (some (.int (p' k)))) /\ ∀ r' H',H' r' = some (.tup (vQ p' v)) -> (∀ b o,H b = some o -> H' b = some o) -> Q (.ref r') H'
theorem sc__law_moved : FnScope ["_law_value","_law_places"] ["_law_value","_law_places"] (defScope s_law_moved):=⟨rfl,rfl,rfl,by decide +kernel,rfl,by decide +kernel,by decide +kernel⟩
theorem ok__law_moved (L : Lk K mg) : FnOk PR w K mg base CX0 1 L._law_moved.f L._law_moved.d ["_law_value","_law_places"] (sp__law_moved ):=by
 refine L._law_moved.F.ok sc__law_moved (fun vs H Q E h=>?_) (fun cdv A outer s H vs Q E hr h=>?_)
 ·obtain ⟨r,pd,p,p',v,rfl,er,hg,q⟩:=h
  rfl
 ·obtain ⟨r,pd,p,p',v,rfl,er,hg,q⟩:=h
  have hu:=hu_of hr
  refine ⟨_,(pss_cons (ps_if (pt_cmpR op_eq (pe_ix ix_tup (pv 0) pe_int (fun _ _=>rfl)) pe_str (nomark _))
    (pss_one (ps_ret (pe_tup (pa_cons pe_str (pa_cons (pe_dget hu (pv 1) (pe_ix ix_tup (pv 0) pe_int (fun _ _=>rfl)) (fun _ _=>rfl)) pa_nil)))))
    pss_nil)
   (pss_one (ps_ret (pv 0)))),?_⟩
  cases v with
  | num i =>
   refine ⟨_,rfl,r,_,0,_,rfl,rfl,SqT.of er,rfl,rfl,_,rfl,?_⟩
   rw [nm_number_thing]
   exact iteF ⟨_,rfl,q r H er fun _ _ e=>e⟩
  | thing k =>
   refine ⟨_,rfl,r,_,0,_,rfl,rfl,SqT.of er,rfl,rfl,_,rfl,?_⟩
   rw [strT]
   refine iteT ⟨_,rfl,_,rfl,r,_,1,_,rfl,rfl,SqT.of er,rfl,pd,_,rfl,hg k rfl,(by show 2 <= sizeLine; decide),fun t ht=>?_⟩
   generalize e4 : upd H t _ = H4
   exact q t H4 (by rw [<- e4]; exact upd_same) fun b o e=>by rw [<- e4,upd_ne (ne_of_none e ht)]; exact e
end
end GH
namespace GH
open PySem L2
section
def sp__law_slide : Sp:=fun vs H Q _=>∃ (d : Addr) (I : HP) (S : Hs),vs = [.ref d] /\ Hnd H d I S /\ Ok S /\ S.stage = .idle /\ S.things.length < 64 /\ ∀ I' H',Hnd H' d I' S.slide -> I'.ks = S.things -> HFm d I S.things I' S.things H H' -> Q .non H'
theorem sc__law_slide : FnScope ["_law_hand","_law_places","_law_at","_law_place","_law_things","_law_fields"] ["_law_hand"] (defScope s_law_slide):=⟨rfl,rfl,rfl,by decide +kernel,rfl,by decide +kernel,by decide +kernel⟩
theorem ok__law_slide (L : Lk K mg) : FnOk PR w K mg base CX0 2 L._law_slide.f L._law_slide.d ["_law_hand"] (sp__law_slide ):=by
 refine L._law_slide.F.ok sc__law_slide (fun vs H Q E h=>?_) (fun cdv A outer s H vs Q E hr h=>?_)
 ·obtain ⟨d,I,S,rfl,J,ok,hs,h64,q⟩:=h
  rfl
 ·obtain ⟨d,I,S,rfl,J,ok,hs,h64,q⟩:=h
  have hu:=hu_of hr
  refine ⟨_,(pss_cons (ps_set (i:=1) sc__law_slide.nd rfl (Or.inr rfl) pe_dnewK)
   (pss_cons (ps_set (i:=2) sc__law_slide.nd rfl (Or.inl rfl) pe_int)
   (pss_cons (ps_for PassesOwn.never rfl (pi_list (pe_callB (id:="sorted") (call_sortedD rfl) (by rfl) L.zsorted bt_sorted (pa_cons (pe_dget hu (pv 0) pe_str (fun _ _=>rfl)) pa_nil))) (pg_name (i:=3) sc__law_slide.nd rfl (Or.inl rfl))
    (pss_cons (ps_dput hu (pv 1) (pv 3) (pv 2) rfl)
   (pss_one (ps_set (i:=2) sc__law_slide.nd rfl (Or.inl rfl) (pe_op op_add (pe_op op_add (pv 2) pe_int) (pe_callB (id:="len") call_len_seq (by rfl) L.zlen bt_len (pa_cons (pe_ix ix_list (pe_dget hu (pe_dget hu (pv 0) pe_str (fun _ _=>rfl)) (pv 3) (fun _ _=>rfl)) pe_int (fun _ _=>rfl)) pa_nil)))))))
   (pss_cons (ps_set (i:=4) sc__law_slide.nd rfl (Or.inl rfl) pe_dnewK)
   (pss_cons (ps_thaw (ps_for PassesOwn.never rfl (pi_keys (pv 1)) (pg_name (i:=3) sc__law_slide.nd rfl (Or.inl rfl))
    (pss_cons (ps_setCompS (i:=5) rfl (ck1 (i:=1) rfl rfl rfl rfl) sc__law_slide.nd rfl (Or.inl rfl) (pi_list (pe_ix ix_list (pe_dget hu (pe_dget hu (pv 0) pe_str (fun _ _=>rfl)) (pv 3) (fun _ _=>rfl)) pe_int (fun _ _=>rfl))) (fun _ _ _ _=>pts_nil) (fun _ _ _ _=>(pe_call (ok__law_moved L) (hr.mono (by decide)) rfl L._law_moved.g L._law_moved.F.kp L._law_moved.b .nil pass0 (pa_cons (pv 0) (pa_cons (pv 1) pa_nil)))))
   (pss_one (ps_dput hu (pv 4) (pe_dget hu (pv 1) (pv 3) (fun _ _=>rfl)) (pe_lst (pa_cons (pv 5) (pa_cons (pe_ix ix_list (pe_dget hu (pe_dget hu (pv 0) pe_str (fun _ _=>rfl)) (pv 3) (fun _ _=>rfl)) pe_int (fun _ _=>rfl)) pa_nil))) rfl)))))
   (pss_cons (ps_dput hu (pv 0) pe_str (pv 4) rfl)
   (pss_one (ps_dput hu (pv 0) pe_str (pe_compS rfl (ck1 (i:=1) rfl rfl rfl rfl) (pi_list (pe_dget hu (pv 0) pe_str (fun _ _=>rfl))) (fun _ _ _ _=>pts_nil) (fun _ _ _ _=>(pe_call (ok__law_moved L) (hr.mono (by decide)) rfl L._law_moved.g L._law_moved.F.kp L._law_moved.b .nil pass0 (pa_cons (pv 0) (pa_cons (pv 1) pa_nil))))) rfl)))))))),?_⟩
  obtain ⟨U,g⟩:=ok.gc
  have l:=ok.laid
  have nd:=ok.wf.nd
  have clo : ∀ k ∈ S.things,∀ j,Vl.thing j ∈ (S.th k).fields -> j ∈ S.things:=fun k hk j hj=>g.sub j (g.clo k j (g.idle hs k hk).1 hj)
  have uni : ∀ k ∈ S.things,∀ j ∈ S.things,S.pl j = S.pl k -> j = k:=fun k hk j hj e=>place_lt l.rise hj hk e
  have okS:=ok.slide hs
  have uniS : ∀ k ∈ S.things,∀ j ∈ S.things,S.slide.pl j = S.slide.pl k -> j = k:=fun k hk j hj e=>place_lt okS.laid.rise hj hk e
  intro pd hpd
  generalize e0 : upd H pd _ = H0
  have k0 : ∀ b o,H b = some o -> H0 b = some o:=fun b o e=>by rw [<- e0,upd_ne (ne_of_none e hpd)]; exact e
  have p0 : H0 pd = some (.dK []):=by rw [<- e0]; exact upd_same
  have J0:=J.ext k0
  refine ⟨_,rfl,d,_,rfl,J0.gT,I.td,_,_,rfl,J0.tds,thK_keys _ _ _,J0.few l (.inl h64),fun ns' D hp hs' hD=>?_⟩
  rw [J0.srt l hp hs']
  generalize e1 : upd H0 D _ = H1
  obtain ⟨k1,h1⟩:=mkL hD e1
  have J1:=J0.ext k1
  have p1:=k1 _ _ p0
  have kp : ∀ x b o,H1 b = some o -> b ≠ pd -> upd H1 pd x b = some o:=fun x b o e hb=>(upd_ne hb).trans e
  have nOwn : ¬ HOwn I d S.things pd:=J.fresh hpd
  have Jp : ∀ kvs,Hnd (upd H1 pd (.dK kvs)) d I S:=fun kvs=>J1.keep (fun b hb o e=>kp _ b o e fun z=>nOwn (by rw [<- z]; exact hb)) fun b xs e=>kp _ b _ e (ne_of e p1 (fun z=>nomatch z))
  have nDp : D ≠ pd:=(ne_of_none p0 hD).symm
  refine ⟨D,rfl,⟨_,SqL.of h1⟩,for_list (K:=K) (a:=D) (xs:=(S.things.map S.pl).map V.int) (fun i σ H2=>H2 = upd H1 pd (.dK (plK (S.things.take i) S.pl S.slide.pl)) /\ ∃ v,σ = [some (.ref d),some (.ref pd),some (.int (off S.th (S.things.take i))),v,none,none])
   ⟨(by funext b; by_cases z : b = pd; · rw [z,upd_same]; exact p1
        ·rw [upd_ne z]),none,rfl⟩ (fun i σ H2 _ ⟨e,_⟩=>by rw [e]; exact SqL.of (kp _ _ _ h1 nDp)) ?_ ?_⟩
  ·rintro i y σ H2 hi ⟨rfl,v,rfl⟩
   rw [List.map_map] at hi
   obtain ⟨k,ek,rfl⟩:=get_map hi
   have hk:=List.mem_of_getElem? ek
   have et : S.things.take (i + 1) = S.things.take i ++ [k]:=by rw [List.take_add_one,ek]; rfl
   have nk : k ∉ S.things.take i:=fun z=>by
    have h2:=nd.sublist (List.take_sublist (i + 1) S.things)
    rw [et] at h2
    exact (List.nodup_append.mp h2).2.2 k z k (List.mem_singleton.mpr rfl) rfl
   have es:=slide_pl nd ek
   have hln : (plK (S.things.take i) S.pl S.slide.pl).length <= 64:=by unfold plK; rw [List.length_map,List.length_take]; omega
   refine ⟨_,rfl,_,rfl,_,rfl,pd,_,rfl,DPut.k (k:=(Sum.inl (S.pl k) : Key)) upd_same (small1000 (by omega)),?_⟩
   rw [upd_upd,<- es,plK_snoc fun j hj e=>nk (by rw [<- uni k hk j (List.mem_of_mem_take hj) e]; exact hj),<- et]
   have J2:=Jp (plK (S.things.take (i + 1)) S.pl S.slide.pl)
   obtain ⟨fv,ef,rf,lf⟩:=J2.fldL hk
   refine ⟨_,rfl,_,_,rfl,rfl,_,rfl,d,_,rfl,J2.gT,_,rfl,I.td,_,rfl,J2.gE l hk,I.en k,_,0,_,rfl,rfl,SqL.of (J2.ent k hk),rfl,I.ft k,fv,rfl,.inl (SqL.of ef),_,_,rfl,rfl,?_⟩
   refine ⟨rfl,some (.int (S.pl k)),?_⟩
   have ev : off S.th (S.things.take (i + 1)) = S.slide.pl k + 2 + (fv.length : Int):=by
    rw [et,off_snoc,<- es,lf]
    show S.slide.pl k + (2 + _) = _
    omega
   rw [ev]; rfl
  ·rintro σ H2 ⟨rfl,v,rfl⟩
   rw [List.length_map,List.length_map,List.take_length]
   have J2:=Jp (plK S.things S.pl S.slide.pl)
   have p2 : upd H1 pd (.dK (plK S.things S.pl S.slide.pl)) pd = some (.dK (plK S.things S.pl S.slide.pl)):=upd_same
   have f2 : ∀ b o,H b = some o -> upd H1 pd (.dK (plK S.things S.pl S.slide.pl)) b = some o:=fun b o e=>kp _ _ _ (k1 _ _ (k0 b o e)) (ne_of_none e hpd)
   generalize upd H1 pd (.dK (plK S.things S.pl S.slide.pl)) = H2 at J2 p2 f2 ⊢
   intro t ht
   generalize e3 : upd H2 t _ = H3
   have k3 : ∀ b o,H2 b = some o -> H3 b = some o:=fun b o e=>by rw [<- e3,upd_ne (ne_of_none e ht)]; exact e
   have t3 : H3 t = some (.dK []):=by rw [<- e3]; exact upd_same
   have J3:=J2.ext k3
   have p3:=k3 _ _ p2
   have ntp : t ≠ pd:=(ne_of_none p2 ht).symm
   refine ⟨pd,_,p3,?_⟩
   refine ⟨_,rfl,pd,_,rfl,p3,fun o=>?_⟩
   have kz : ∀ b u,H3 b = some u -> b ≠ pd -> upd H3 pd (.frz o (.dK (plK S.things S.pl S.slide.pl))) b = some u:=fun b u e hb=>(upd_ne hb).trans e
   have J4 : Hnd (upd H3 pd (.frz o (.dK (plK S.things S.pl S.slide.pl)))) d I S:=J3.keep (fun b hb u e=>kz b u e fun z=>nOwn (by rw [<- z]; exact hb)) fun b xs e=>kz b _ e (ne_of e p3 (fun z=>nomatch z))
   have p4 : upd H3 pd (.frz o (.dK (plK S.things S.pl S.slide.pl))) pd = some (.frz o (.dK (plK S.things S.pl S.slide.pl))):=upd_same
   have t4:=kz _ _ t3 ntp
   have f4 : ∀ b u,H b = some u -> upd H3 pd (.frz o (.dK (plK S.things S.pl S.slide.pl))) b = some u:=fun b u e=>kz _ _ (k3 _ _ (f2 b u e)) (ne_of_none e hpd)
   have bk : upd (upd H3 pd (.frz o (.dK (plK S.things S.pl S.slide.pl)))) pd (.dK (plK S.things S.pl S.slide.pl)) = H3:=by
    rw [upd_upd]; funext b; by_cases z : b = pd
    ·rw [z,upd_same,p3]
    ·rw [upd_ne z]
   generalize upd H3 pd (.frz o (.dK (plK S.things S.pl S.slide.pl))) = H4 at J4 p4 t4 f4 bk ⊢
   have hvl : ((plK S.things S.pl S.slide.pl).map fun p=>kV p.1).length = S.things.length:=by rw [plK_kv,List.length_map,List.length_map]
   have gt : ∀ {H' : Hp},H' pd = some (.frz o (.dK (plK S.things S.pl S.slide.pl))) -> ∀ k ∈ S.things,DGet H' pd (.int (S.pl k)) (some (.int (S.slide.pl k))):=fun {H'} e k hk=>.inl ⟨_,(Sum.inl (S.pl k) : Key),.inr ⟨o,e⟩,rfl,(plK_val hk (uni k hk)).symm⟩
   refine for_keys (d:=pd) (o:=o) (xs:=(plK S.things S.pl S.slide.pl).map fun p=>kV p.1) (fun i σ H5=>(∀ b u,H4 b = some u -> b ≠ t -> H5 b = some u) /\ (∃ en ft,Anew H4 H5 S t en ft (S.things.take i)) /\ ∃ v3 v5,σ = [some (.ref d),some (.ref pd),some (.int (off S.th S.things)),v3,some (.ref t),v5])
    ⟨fun _ _ e _=>e,⟨fun _=>0,fun _=>0,⟨t4,(fun k hk=>nomatch hk),(fun k hk=>nomatch hk),(fun k hk=>nomatch hk),(fun k hk=>nomatch hk),(fun k hk=>nomatch hk),(fun k hk=>nomatch hk),(fun k hk=>nomatch hk)⟩⟩,_,_,rfl⟩ (fun i σ H5 _ ⟨k5,_⟩=>⟨_,k5 _ _ p4 ntp.symm⟩) ?_ ?_
   ·rintro i y σ H5 hi ⟨k5,⟨en,ft,A⟩,v3,v5,rfl⟩
    rw [plK_kv,List.map_map] at hi
    obtain ⟨k,ek,rfl⟩:=get_map hi
    have hk:=List.mem_of_getElem? ek
    have et : S.things.take (i + 1) = S.things.take i ++ [k]:=by rw [List.take_add_one,ek]; rfl
    have nk : k ∉ S.things.take i:=fun z=>by
     have h2:=nd.sublist (List.take_sublist (i + 1) S.things)
     rw [et] at h2
     exact (List.nodup_append.mp h2).2.2 k z k (List.mem_singleton.mpr rfl) rfl
    have nOt : ¬ HOwn I d S.things t:=J2.fresh ht
    have J5 : Hnd H5 d I S:=J4.keep (fun b hb u e=>k5 b u e fun z=>nOt (by rw [<- z]; exact hb)) fun b xs e=>k5 b _ e (ne_of e t4 (fun z=>nomatch z))
    obtain ⟨fv,ef,rf,lf⟩:=J5.fldL hk
    have h6:=ok.wf.fl k (ok.wf.tv k hk)
    refine tcomp_of ?_
    refine ⟨_,rfl,d,_,rfl,J5.gT,_,rfl,I.td,_,rfl,J5.gE l hk,I.en k,_,0,_,rfl,rfl,SqL.of (J5.ent k hk),rfl,I.ft k,rfl,⟨_,SqL.of ef⟩,comp_vals (K:=K) (p:=S.pl) (q:=S.slide.pl) ef rf (by omega) (fun r v H6 R hv s6 er k6=>?_) (fun ys H6 D' ry s6 hD'=>?_)⟩
    ·exact ⟨_,rfl,_,rfl,r,pd,S.pl,S.slide.pl,v,rfl,er,fun j e=>gt (s6 _ _ (k5 _ _ p4 ntp.symm)) j (clo k hk j (by rw [<- e]; exact hv)),k6⟩
    ·generalize e7 : upd H6 D' _ = H7
     obtain ⟨k7,h7⟩:=mkL hD' e7
     have J7:=(J5.ext s6).ext k7
     refine ⟨_,rfl,_,rfl,d,_,rfl,J7.gT,_,rfl,I.td,_,rfl,J7.gE l hk,I.en k,_,1,_,rfl,rfl,SqL.of (J7.ent k hk),rfl,(by show 2 <= sizeLine; decide),fun E hE=>?_⟩
     have pz : ∀ x,upd H7 E x pd = some (.frz o (.dK (plK S.things S.pl S.slide.pl))):=fun x=>by
      have e:=k7 _ _ (s6 _ _ (k5 _ _ p4 ntp.symm))
      exact (upd_ne (ne_of_none e hE)).trans e
     have A6:=A.ext s6
     have tz : ∀ x,upd H7 E x t = some (.dK (thK (S.things.take i) S.slide.pl en)):=fun x=>by
      have e:=k7 _ _ A6.tds
      exact (upd_ne (ne_of_none e hE)).trans e
     have hln : (thK (S.things.take i) S.slide.pl en).length <= 64:=by unfold thK; rw [List.length_map,List.length_take]; omega
     refine ⟨_,rfl,_,rfl,_,rfl,pd,_,rfl,gt (pz _) k hk,t,_,rfl,DPut.k (k:=(Sum.inl (S.slide.pl k) : Key)) (tz _) (small1000 (by omega)),?_⟩
     have bN : ∀ b,H6 b = none -> H4 b = none:=fun b hb=>by
      cases e : H4 b with
      | none=>rfl
      | some u =>
       by_cases z : b = t
       ·rw [z,A6.tds] at hb; cases hb
       ·rw [s6 b u (k5 b u e z)] at hb; cases hb
     subst e7
     have nE : E ≠ D':=fun z=>by rw [z,upd_same] at hE; cases hE
     refine ⟨fun b u e hb=>?_,⟨_,_,by rw [et]; exact A6.add nk (fun j hj e=>nk (by rw [<- uniS k hk j (List.mem_of_mem_take hj) e]; exact hj)) hD' ry hE (bN _ hD') (bN _ (by rw [upd_ne nE] at hE; exact hE))⟩,_,_,rfl⟩
     have e6:=s6 b u (k5 b u e hb)
     exact (upd_ne hb).trans ((upd_ne (ne_of_none (k7 _ _ e6) hE)).trans (k7 _ _ e6))
   ·rintro σ H5 ⟨k5,⟨en,ft,A⟩,v3,v5,rfl⟩
    rw [hvl,List.take_length] at A
    refine ⟨o,k5 _ _ p4 ntp.symm,?_⟩
    have kb : ∀ b u,H5 b = some u -> b ≠ pd -> upd H5 pd (.dK (plK S.things S.pl S.slide.pl)) b = some u:=fun b u e hb=>(upd_ne hb).trans e
    have nep : ∀ k ∈ S.things,en k ≠ pd:=fun k hk z=>by have:=A.fe k hk; rw [z,p4] at this; cases this
    have nfp : ∀ k ∈ S.things,ft k ≠ pd:=fun k hk z=>by have:=A.ff k hk; rw [z,p4] at this; cases this
    have tkb : ∀ b xs,H5 b = some (.tup xs) -> upd H5 pd (.dK (plK S.things S.pl S.slide.pl)) b = some (.tup xs):=fun b xs e=>kb b _ e (ne_of e (k5 _ _ p4 ntp.symm) (fun z=>nomatch z))
    have A6 : Anew H4 (upd H5 pd (.dK (plK S.things S.pl S.slide.pl))) S t en ft S.things:=⟨kb _ _ A.tds ntp,fun k hk=>kb _ _ (A.ent k hk) (nep k hk),fun k hk=>by obtain ⟨fv,e,r⟩:=A.fld k hk; exact ⟨fv,kb _ _ e (nfp k hk),r.tups tkb (vPs_pure _ _)⟩,A.fe,A.ff,A.nef,A.ein,A.fin⟩
    have nOt : ¬ HOwn I d S.things t:=J2.fresh ht
    have J5 : Hnd H5 d I S:=J4.keep (fun b hb u e=>k5 b u e fun z=>nOt (by rw [<- z]; exact hb)) fun b xs e=>k5 b _ e (ne_of e t4 (fun z=>nomatch z))
    have J6 : Hnd (upd H5 pd (.dK (plK S.things S.pl S.slide.pl))) d I S:=J5.keep (fun b hb u e=>kb b u e fun z=>nOwn (by rw [<- z]; exact hb)) tkb
    have p6 : upd H5 pd (.dK (plK S.things S.pl S.slide.pl)) pd = some (.dK (plK S.things S.pl S.slide.pl)):=upd_same
    have f6 : ∀ b u,H b = some u -> upd H5 pd (.dK (plK S.things S.pl S.slide.pl)) b = some u:=fun b u e=>kb _ _ (k5 _ _ (f4 b u e) (fun z=>by rw [z] at e; have:=f2 _ _ e; rw [ht] at this; cases this)) (ne_of_none e hpd)
    generalize upd H5 pd (.dK (plK S.things S.pl S.slide.pl)) = H6 at A6 J6 p6 f6 ⊢
    refine ⟨_,rfl,_,rfl,d,_,rfl,dpT J6.dic t,?_⟩
    have nOd : ∀ {b : Addr} {u : HO},H6 b = some u -> (∀ kvs,u ≠ .dK kvs) -> b ≠ d:=fun e n=>ne_of e J6.dic (n _)
    have ntd : t ≠ d:=fun z=>nOt (.inl z)
    have npd : pd ≠ d:=fun z=>nOwn (.inl z)
    obtain ⟨hv,eh,rh⟩:=J6.hnd
    have d7 : upd H6 d (.dK (hdK S.size t I.lh S.stage I.fg)) d = some (.dK (hdK S.size t I.lh S.stage I.fg)):=upd_same
    have k7 : ∀ b u,H6 b = some u -> b ≠ d -> upd H6 d (.dK (hdK S.size t I.lh S.stage I.fg)) b = some u:=fun b u e hb=>(upd_ne hb).trans e
    generalize upd H6 d (.dK (hdK S.size t I.lh S.stage I.fg)) = H7 at d7 k7 ⊢
    have tk7 : ∀ b xs,H6 b = some (.tup xs) -> H7 b = some (.tup xs):=fun b xs e=>k7 b _ e (ne_of e J6.dic (fun z=>nomatch z))
    have A7 : Anew H4 H7 S t en ft S.things:=⟨k7 _ _ A6.tds ntd,fun k hk=>k7 _ _ (A6.ent k hk) (ne_of (A6.ent k hk) J6.dic (fun z=>nomatch z)),fun k hk=>by obtain ⟨fv,e,r⟩:=A6.fld k hk; exact ⟨fv,k7 _ _ e (ne_of e J6.dic (fun z=>nomatch z)),r.tups tk7 (vPs_pure _ _)⟩,A.fe,A.ff,A.nef,A.ein,A.fin⟩
    have g7 : DGet H7 d (.str "hands") (some (.ref I.lh)):=by
     have:=DGet.k (k:=(Sum.inr ("hands" : Str) : Key)) d7
     rw [hd_hands] at this; exact this
    have eh7:=k7 _ _ eh (ne_of eh J6.dic (fun z=>nomatch z))
    refine tcomp_of ?_
    refine ⟨_,rfl,d,_,rfl,g7,I.lh,rfl,⟨_,SqL.of eh7⟩,comp_vals (K:=K) (p:=S.pl) (q:=S.slide.pl) eh7 (rh.tups tk7 (vPs_pure _ _)) (by unfold hands8; rw [List.length_map,List.length_range]; decide) (fun r v H8 R hv' s8 er k8=>?_) (fun ys H8 D' ry s8 hD'=>?_)⟩
    ·refine ⟨_,rfl,_,rfl,r,pd,S.pl,S.slide.pl,v,rfl,er,fun j e=>?_,k8⟩
     have hj : j ∈ S.things:=by
      subst e
      obtain ⟨i,_,e⟩:=List.mem_map.mp hv'
      exact held_in ok e
     exact .inl ⟨_,(Sum.inl (S.pl j) : Key),.inl (s8 _ _ (k7 _ _ p6 npd)),rfl,(plK_val hj (uni j hj)).symm⟩
    ·generalize e9 : upd H8 D' _ = H9
     obtain ⟨k9,h9⟩:=mkL hD' e9
     have d9:=k9 _ _ (s8 _ _ d7)
     have A9:=(A7.ext s8).ext k9
     refine ⟨_,rfl,d,_,rfl,dpH d9 D',?_⟩
     have kk : ∀ b u,H9 b = some u -> b ≠ d -> upd H9 d (.dK (hdK S.size t D' S.stage I.fg)) b = some u:=fun b u e hb=>(upd_ne hb).trans e
     have tkk : ∀ b xs,H9 b = some (.tup xs) -> upd H9 d (.dK (hdK S.size t D' S.stage I.fg)) b = some (.tup xs):=fun b xs e=>kk b _ e (ne_of e d9 (fun z=>nomatch z))
     have nDe : ∀ k ∈ S.things,en k ≠ D':=fun k hk=>ne_of_none ((A7.ext s8).ent k hk) hD'
     have nDf : ∀ k ∈ S.things,ft k ≠ D':=fun k hk=>by
      obtain ⟨fv,e,_⟩:=(A7.ext s8).fld k hk
      exact ne_of_none e hD'
     have hH : ∀ b,H8 b = none -> H b = none:=fun b hb=>by
      cases e : H b with
      | none=>rfl
      | some u =>
       by_cases z : b = d
       ·rw [z,s8 _ _ d7] at hb; cases hb
       ·rw [s8 _ _ (k7 _ _ (f6 b u e) z)] at hb; cases hb
     refine q ⟨t,D',en,ft,S.things,I.fg⟩ _ ⟨upd_same,(fun z=>by rw [show S.slide.stage = S.stage from rfl,hs] at z; cases z),kk _ _ A9.tds ntd,.refl _,fun k hk=>?_,fun k hk=>?_,⟨ys,kk _ _ h9 (ne_of h9 d9 (fun z=>nomatch z)),?_⟩,ntd,nDe,nDf,A9.nef,A9.ein,A9.fin⟩ rfl ⟨fun b u e no=>?_,fun b hb=>?_⟩
     ·show upd _ _ _ _ = some (HO.lst [_,V.str (slideGo 0 S.things S.th k).colour.s])
      rw [sl_colour]
      exact kk _ _ (A9.ent k hk) (ne_of (A9.ent k hk) d9 (fun z=>nomatch z))
     ·obtain ⟨fv,e,r⟩:=A9.fld k hk
      refine ⟨fv,kk _ _ e (ne_of e d9 (fun z=>nomatch z)),?_⟩
      show Reps _ _ ((slideGo 0 S.things S.th k).fields.map _)
      rw [sl_fields]
      exact r.tups tkk (vPs_pure _ _)
     ·show Reps _ _ ((hands8 S).map _)
      exact (ry.mono k9).tups tkk (vPs_pure _ _)
     ·have hb : b ≠ d:=fun z=>no (.inl z)
      exact kk _ _ (k9 _ _ (s8 _ _ (k7 _ _ (f6 b u e) hb))) hb
     ·have fr : ∀ b,H4 b = none -> H b = none:=fun b hb=>by
       cases e : H b with
       | none=>rfl
       | some u=>rw [f4 b u e] at hb; cases hb
      rcases hb with z | z | z | ⟨k,hk,z | z⟩
      ·exact .inl (.inl z)
      ·right
       rw [z]
       cases e : H t with
       | none=>rfl
       | some u=>rw [f2 t u e] at ht; cases ht
      ·right; rw [z]; exact hH _ hD'
      ·right; rw [z]; exact fr _ (A.fe k hk)
      ·right; rw [z]; exact fr _ (A.ff k hk)
end
end GH
namespace GH
open PySem L2
section
def sp__law_part : Sp:=fun vs H Q _=>∃ (d : Addr) (I : HP) (S : Hs),vs = [.ref d] /\ Hnd H d I S /\ Ok S /\ S.stage ≠ .idle /\ S.things.length < 64 /\ ∀ I' H',Hnd H' d I' S.part -> HFm d I S.things I' S.part.things H H' -> Q .non H'
theorem sc__law_part : FnScope ["_law_hand","_law_thing","_law_value","_law_place"] ["_law_hand"] (defScope s_law_part):=⟨rfl,rfl,rfl,by decide +kernel,rfl,by decide +kernel,by decide +kernel⟩
theorem ok__law_part (L : Lk K mg) : FnOk PR w K mg base CX0 3 L._law_part.f L._law_part.d ["_law_hand"] (sp__law_part ):=by
 refine L._law_part.F.ok sc__law_part (fun vs H Q E h=>?_) (fun cdv A outer s H vs Q E hr h=>?_)
 ·obtain ⟨d,I,S,rfl,J,ok,hs,h64,q⟩:=h
  rfl
 ·obtain ⟨d,I,S,rfl,J,ok,hs,h64,q⟩:=h
  have hu:=hu_of hr
  refine ⟨_,(pss_cut (ps_if (pt_cmpR op_eq (pe_dget hu (pv 0) pe_str (fun _ _=>rfl)) pe_str (nomark _))
    (pss_cons (ps_set (i:=1) sc__law_part.nd rfl (Or.inl rfl) (pe_dget hu (pe_dget hu (pv 0) pe_str (fun _ _=>rfl)) (pe_ix ix_list (pe_call (ok__law_grey L) (hr.mono (by decide)) rfl L._law_grey.g L._law_grey.F.kp L._law_grey.b .nil pass0 (pa_cons (pv 0) pa_nil)) pe_int (fun _ _=>rfl)) (fun _ _=>rfl)))
   (pss_cons (ps_for PassesOwn.never rfl (pi_list (pe_ix ix_list (pv 1) pe_int (fun _ _=>rfl))) (pg_name (i:=2) sc__law_part.nd rfl (Or.inl rfl))
    (pss_one (ps_expr (pe_call (ok__law_shade L) (hr.mono (by decide)) rfl L._law_shade.g L._law_shade.F.kp L._law_shade.b .nil pass0 (pa_cons (pv 0) (pa_cons (pv 2) pa_nil))))))
   (pss_one (ps_asg pe_str (pg_sub (pv 1) pe_int set_list)))))
    (pss_cons (ps_set (i:=3) sc__law_part.nd rfl (Or.inl rfl) (pe_callB (id:="min") (call_minI rfl) (by rfl) L.zmin bt_min (pa_cons (pe_thaw (pe_compS rfl (ck1 (i:=0) rfl rfl rfl rfl) (pi_keys (pe_dget hu (pv 0) pe_str (fun _ _=>rfl))) (fun _ _ _ _=>(pts_one (pt_cmpR op_ge (pv 0) (pe_dget hu (pv 1) pe_str (fun _ _=>rfl)) (nomark _)))) (fun _ _ _ _=>(pv 0)))) pa_nil)))
   (pss_cons (ps_dput hu (pv 0) pe_str (pe_op op_add (pe_op op_add (pv 3) pe_int) (pe_callB (id:="len") call_len_seq (by rfl) L.zlen bt_len (pa_cons (pe_ix ix_list (pe_dget hu (pe_dget hu (pv 0) pe_str (fun _ _=>rfl)) (pv 3) (fun _ _=>rfl)) pe_int (fun _ _=>rfl)) pa_nil))) rfl)
   (pss_one (ps_if (pt_cmpR op_eq (pe_ix ix_list (pe_dget hu (pe_dget hu (pv 0) pe_str (fun _ _=>rfl)) (pv 3) (fun _ _=>rfl)) pe_int (fun _ _=>rfl)) pe_str (nomark _))
    (pss_one (ps_expr (pe_dpop1 (pe_dget hu (pv 0) pe_str (fun _ _=>rfl)) (pv 3) ⟨rfl,rfl,rfl,rfl⟩)))
    (pss_one (ps_asg pe_str (pg_sub (pe_dget hu (pe_dget hu (pv 0) pe_str (fun _ _=>rfl)) (pv 3) (fun _ _=>rfl)) pe_int set_list))))))))
   (pss_one (ps_expr (pe_call (ok__law_settle L) (hr.mono (by decide)) rfl L._law_settle.g L._law_settle.F.kp L._law_settle.b .nil pass0 (pa_cons (pv 0) pa_nil))))),?_⟩
  obtain ⟨U,g⟩:=ok.gc
  have l:=ok.laid
  refine ⟨fun σ' H'=>∃ I1 v1 v2 v3,σ' = [some (.ref d),v1,v2,v3] /\ Hnd H' d I1 S.part0 /\ HFm d I S.things I1 S.part0.things H H',?_,?_⟩
  ·refine ⟨_,rfl,d,_,rfl,J.gP,rfl,_,rfl,?_⟩
   have e : decide (V.str S.stage.s = V.str "mark") = decide (S.stage = .mark):=dec_stg _ .mark
   rw [e]
   by_cases hm : S.stage = .mark
   ·rw [decide_eq_true hm]
    refine iteT ?_
    cases eg : S.leastGrey with
    | none=>exact absurd eg (ok.ready.mr hm)
    | some k =>
     obtain ⟨hk,kc⟩:=leastGrey_some eg
     have e0 : S.part0 = S.markThing k:=by unfold Hs.part0; rw [if_pos hm,eg]
     rw [e0,(mark_rest S k).2.1]
     have uk : U k:=g.col k (by rw [kc]; decide)
     refine ⟨_,rfl,d,_,rfl,J.gT,_,rfl,d,I,S,rfl,J,l,.inl h64,fun D H1 h1 s1=>⟨D,_,0,.int (S.pl k),rfl,rfl,SqL.of h1,atI_nat (j:=0) (ge_const S k eg),I.td,_,rfl,(J.ext s1).gE l hk,?_⟩⟩
     have J1:=J.ext s1
     obtain ⟨fv,ef,rf,lf⟩:=J1.fldL hk
     refine ⟨_,rfl,I.en k,_,0,_,rfl,rfl,SqL.of (J1.ent k hk),rfl,I.ft k,rfl,⟨_,SqL.of ef⟩,for_list (K:=K) (a:=I.ft k) (xs:=fv) (fun i σ H2=>Hnd H2 d I (S.shadeAll ((S.th k).fields.take i)) /\ EK I S.things H1 H2 /\ ∃ v,σ = [some (.ref d),some (.ref (I.en k)),v,none])
      ⟨J1,fun _ _ e _=>e,none,rfl⟩ (fun i σ H2 _ ⟨_,k2,_⟩=>SqL.of (k2 _ _ ef fun j hj=>(J1.nef j hj k hk).symm)) ?_ ?_⟩
     ·rintro i y σ H2 hi ⟨J2,k2,v,rfl⟩
      obtain ⟨dx,hdx,rx⟩:=rf.get hi
      obtain ⟨x,hx,rfl⟩:=get_map hdx
      obtain ⟨r,rfl,er⟩:=vP_rep rx
      have er2:=k2.tup J1 _ _ er
      have et:=shadeAll_things S ((S.th k).fields.take i)
      have ep:=shadeAll_pl S ((S.th k).fields.take i)
      refine ⟨_,rfl,_,rfl,d,r,I,_,x,rfl,J2,l.shadeAll _,by rw [ep]; exact er2,fun j e=>by rw [et]; exact g.sub j (g.clo k j uk (by rw [<- e]; exact List.mem_of_getElem? hx)),fun H3 J3 k3=>?_⟩
      rw [et] at k3
      refine ⟨?_,k2.trans k3,_,rfl⟩
      rw [shadeAll_snoc hx]; exact J3
     ·rintro σ H2 ⟨J2,k2,v,rfl⟩
      rw [lf,List.take_length] at J2
      have et:=shadeAll_things S (S.th k).fields
      have hk2 : k ∈ (S.shadeAll (S.th k).fields).things:=by rw [et]; exact hk
      refine ⟨_,rfl,I.en k,_,(1 : Int),1,rfl,rfl,J2.ent k hk2,rfl,?_⟩
      exact ⟨I,_,_,_,rfl,J2.paint hk2 .black,(HFm.ext s1).trans (k2.hfm.trans (.one (own_e hk)))⟩
   ·rw [decide_eq_false hm]
    refine iteF ?_
    have hsw : S.stage = .sweep:=by
     cases e : S.stage with
     | idle=>exact absurd e hs
     | mark=>exact absurd e hm
     | sweep=>rfl
    have hfg:=J.fge hsw
    cases eg : S.leastFrom S.fg with
    | none=>exact absurd eg (ok.ready.sw hsw)
    | some k =>
     obtain ⟨hk,kp⟩:=leastFrom_some eg
     have e0 : S.part0 = S.sweepThing k:=by unfold Hs.part0; rw [if_neg hm,eg]
     refine ⟨I.td,_,J.tds,?_⟩
     refine tcomp_of ?_
     refine ⟨_,rfl,d,_,rfl,J.gT,I.td,_,rfl,J.tds,fun o=>?_⟩
     have d2 : upd H I.td (.frz o (.dK (thK I.ks S.pl I.en))) d = some (.dK (hdK S.size I.td I.lh S.stage I.fg)):=(upd_ne J.ndt.symm).trans J.dic
     have hkl : I.ks.length <= 64:=by have:=J.prm.length_eq; omega
     have hvl : ((thK I.ks S.pl I.en).map fun p=>kV p.1).length = I.ks.length:=by rw [thK_kv,List.length_map,List.length_map]
     refine comp_places (S:=S) (ks:=I.ks) (fun k=>decide (I.fg <= S.pl k)) (by omega) (fun i hi=>⟨⟨_,upd_same⟩,by rw [hvl]; exact hi⟩) ⟨⟨_,upd_same⟩,by rw [hvl]; exact Nat.le_refl _⟩ (fun i x H' hx=>⟨hx.1,by rw [<- thK_kv _ _ I.en]; exact hx.2⟩) (fun k hk R hR=>?_) (fun D hD=>?_)
     ·refine ⟨_,rfl,_,rfl,d,_,rfl,dgF d2,_,_,rfl,rfl,_,rfl,?_⟩
      cases hc : decide (I.fg <= S.pl k) with
      | true=>rw [hc] at hR; exact iteT ⟨_,rfl,hR⟩
      | false=>rw [hc] at hR; exact iteF hR
     have nD : D ≠ I.td:=fun z=>by rw [z,upd_same] at hD; cases hD
     rw [upd_ne nD] at hD
     refine ⟨o,(upd_ne nD.symm).trans upd_same,?_⟩
     rw [thaw_eq (k:=thK I.ks S.pl I.en) J.tds nD]
     generalize e2 : upd H D _ = H2
     obtain ⟨k2,h2⟩:=mkL hD e2
     have J2:=J.ext k2
     have kin : S.pl k ∈ (I.ks.filter fun j=>decide (I.fg <= S.pl j)).map S.pl:=List.mem_map_of_mem (List.mem_filter.mpr ⟨J.prm.mem_iff.mpr hk,decide_eq_true (by rw [hfg]; exact kp)⟩)
     refine ⟨D,_,rfl,h2,List.ne_nil_of_mem kin,fun m hm hmin=>?_⟩
     have em : m = S.pl k:=by
      obtain ⟨j,hj,rfl⟩:=List.mem_map.mp hm
      obtain ⟨hj1,hj2⟩:=List.mem_filter.mp hj
      have h1:=hmin _ kin
      have h2:=leastFrom_min l eg j (J.prm.mem_iff.mp hj1) (by rw [<- hfg]; exact of_decide_eq_true hj2)
      omega
     subst em
     obtain ⟨fv,ef,rf,lf⟩:=J2.fldL hk
     refine ⟨_,rfl,_,_,rfl,rfl,_,rfl,d,_,rfl,J2.gT,_,rfl,I.td,_,rfl,J2.gE l hk,I.en k,_,0,_,rfl,rfl,SqL.of (J2.ent k hk),rfl,I.ft k,fv,rfl,.inl (SqL.of ef),_,_,rfl,rfl,_,rfl,d,_,rfl,dpF J2.dic _,?_⟩
     rw [pl_behind S k lf]
     have J3:=J2.phase S.stage (S.th k).behind (some (S.th k).behind) (fun _=>rfl)
     have f3 : HFm d I S.things I S.things H (upd H2 d (.dK (hdK S.size I.td I.lh S.stage (S.th k).behind))):=(HFm.ext k2).trans (.one (.inl rfl))
     generalize upd H2 d (.dK (hdK S.size I.td I.lh S.stage (S.th k).behind)) = H3 at J3 f3 ⊢
     have l3 : Laid { S with stage:=S.stage,finger:=some (S.th k).behind }:=⟨l.rise,l.low,l.high⟩
     refine ⟨_,rfl,d,_,rfl,J3.gT,_,rfl,I.td,_,rfl,J3.gE l3 hk,I.en k,_,1,_,rfl,rfl,SqL.of (J3.ent k hk),rfl,rfl,_,rfl,?_⟩
     have ec : decide (V.str (S.th k).colour.s = V.str "white") = decide ((S.th k).colour = .white):=dec_col _ .white
     by_cases hc : (S.th k).colour = .white
     ·have e5 : S.part0 = { S with things:=S.things.erase k,finger:=some (S.th k).behind }:=by rw [e0]; unfold Hs.sweepThing; rw [if_pos hc]
      rw [e5]
      show if decide (V.str (S.th k).colour.s = V.str "white") = true then _ else _
      rw [ec,decide_eq_true hc]
      refine iteT ⟨_,rfl,d,_,rfl,J3.gT,I.td,rfl,.inl ⟨_,.inl J3.tds⟩,_,rfl,_,(Sum.inl (S.pl k) : Key),_,J3.tds,rfl,J3.vE l3 hk,?_⟩
      refine ⟨_,_,_,_,rfl,J3.pop l3 ok.wf.nd hk,f3.trans ((HFm.one (.inr (.inl rfl))).trans (.sub fun b hb=>?_))⟩
      rcases hb with z | z | z | ⟨j,hj,z⟩
      ·exact .inl z
      ·exact .inr (.inl z)
      ·exact .inr (.inr (.inl z))
      ·exact .inr (.inr (.inr ⟨j,List.mem_of_mem_erase hj,z⟩))
     ·have e5 : S.part0 = { S.paint k .white with finger:=some (S.th k).behind }:=by rw [e0]; unfold Hs.sweepThing; rw [if_neg hc]
      rw [e5]
      show if decide (V.str (S.th k).colour.s = V.str "white") = true then _ else _
      rw [ec,decide_eq_false hc]
      refine iteF ⟨_,rfl,d,_,rfl,J3.gT,_,rfl,I.td,_,rfl,J3.gE l3 hk,I.en k,_,(1 : Int),1,rfl,rfl,J3.ent k hk,rfl,?_⟩
      exact ⟨_,_,_,_,rfl,J3.paint hk .white,f3.trans ⟨(HFm.one (own_e (I:=I) (d:=d) hk)).keep,fun b hb=>.inl hb⟩⟩
  ·rintro σ' H1 ⟨I1,v1,v2,v3,rfl,J1,f1⟩
   have hl1:=(part0_sub S).length_le
   refine ⟨_,rfl,d,I1,S.part0,rfl,J1,l.part0,.inl (by omega),fun f H2 J2 f2=>q _ H2 J2 ?_⟩
   show HFm d I S.things _ S.part0.change.things H H2
   rw [change_things]
   exact f1.trans ⟨f2.keep,f2.grow⟩
end
end GH
namespace GH
open PySem L2
section
def sp__law_steps : Sp:=fun vs H Q _=>∃ (d : Addr) (I : HP) (S : Hs) (n : Nat),vs = [.ref d,.int n] /\ Hnd H d I S /\ Ok S /\ S.things.length < 64 /\ ∀ I' H',Hnd H' d I' (S.steps n).1 -> HFm d I S.things I' (S.steps n).1.things H H' -> Q (.int (S.steps n).2) H'
theorem sc__law_steps : FnScope ["_law_hand","_law_n","_law_many"] ["_law_hand","_law_n"] (defScope s_law_steps):=⟨rfl,rfl,rfl,by decide +kernel,rfl,by decide +kernel,by decide +kernel⟩
theorem ok__law_steps (L : Lk K mg) : FnOk PR w K mg base CX0 4 L._law_steps.f L._law_steps.d ["_law_hand","_law_n"] (sp__law_steps ):=by
 refine L._law_steps.F.ok sc__law_steps (fun vs H Q E h=>?_) (fun cdv A outer s H vs Q E hr h=>?_)
 ·obtain ⟨d,I,S,n,rfl,J,ok,h64,q⟩:=h
  rfl
 ·obtain ⟨d,I,S,n,rfl,J,ok,h64,q⟩:=h
  have hu:=hu_of hr
  refine ⟨_,(pss_cons (ps_set (i:=2) sc__law_steps.nd rfl (Or.inl rfl) pe_int)
   (pss_cons (ps_while PassesOwn.never (PW.pt (pw_and (pt_cmpR op_lt (pv 2) (pv 1) (nomark _)) (pw_and1 (pt_cmpR op_ne (pe_dget hu (pv 0) pe_str (fun _ _=>rfl)) pe_str (nomark _)))))
    (pss_cons (ps_expr (pe_call (ok__law_part L) (hr.mono (by decide)) rfl L._law_part.g L._law_part.F.kp L._law_part.b .nil pass0 (pa_cons (pv 0) pa_nil)))
   (pss_one (ps_set (i:=2) sc__law_steps.nd rfl (Or.inl rfl) (pe_op op_add (pv 2) pe_int)))))
   (pss_one (ps_ret (pv 2))))),?_⟩
  refine ⟨fun m σ2 H2=>∃ (i : Nat) (I2 : HP),σ2 = [some (.ref d),some (.int n),some (.int i)] /\ i <= n /\ (S.steps i).2 = i /\ Hnd H2 d I2 (S.steps i).1 /\ HFm d I S.things I2 (S.steps i).1.things H H2 /\ m = n - i,
   ⟨_,0,I,rfl,Nat.zero_le _,rfl,J,.ext fun _ _ e=>e,rfl⟩,?_⟩
  rintro m σ2 H2 ⟨i,I2,rfl,hi,ei,J2,f2,rfl⟩
  have ea:=steps_add i (n - i) S
  rw [show i + (n - i) = n by omega] at ea
  refine ⟨_,rfl,_,rfl,_,_,rfl,rfl,_,rfl,?_⟩
  refine ite2 (fun h1=>?_) (fun h1=>?_)
  ·have h1' : (i : Int) < (n : Int):=of_decide_eq_true h1
   refine ⟨_,rfl,d,_,rfl,J2.gP,rfl,_,rfl,?_⟩
   have e : decide (V.str (S.steps i).1.stage.s = V.str "idle") = decide ((S.steps i).1.stage = .idle):=dec_stg _ .idle
   rw [e]
   by_cases hid : (S.steps i).1.stage = .idle
   ·rw [decide_eq_true hid]
    refine iteF ?_
    have eb:=steps_idle (n - i) hid
    rw [ea,eb] at q
    refine ⟨_,rfl,?_⟩
    have:=q I2 H2 J2 f2
    rw [ei] at this
    exact this
   ·rw [decide_eq_false hid]
    refine iteT ?_
    refine ⟨_,fun _ _ h=>h,?_⟩
    have hl:=(steps_sub i S).length_le
    refine ⟨_,rfl,d,I2,_,rfl,J2,ok.steps i,hid,by omega,fun I3 H3 J3 f3=>?_⟩
    have e1:=steps_add i 1 S
    have e2:=steps_go 0 hid
    have e3 : ((S.steps i).1.part.steps 0) = ((S.steps i).1.part,0):=rfl
    rw [e3] at e2
    rw [e2] at e1
    refine ⟨_,rfl,_,_,rfl,rfl,n - (i + 1),by omega,i + 1,I3,rfl,by omega,by rw [e1,ei],by rw [e1]; exact J3,by rw [e1]; exact f2.trans f3,rfl⟩
  ·have h1' : ¬ (i : Int) < (n : Int):=fun z=>h1 (decide_eq_true z)
   have : i = n:=by omega
   subst this
   refine iteF ⟨_,rfl,?_⟩
   have:=q I2 H2 J2 f2
   rw [ei] at this
   exact this
end
end GH
namespace GH
open PySem L2
section
def sp__law_made : Sp:=fun vs H Q _=>∃ (d : Addr) (I : HP) (S : Hs) (h m : Nat),vs = [.ref d,.int h,.int m] /\ Hnd H d I S /\ Ok S /\ HIn S /\ S.things.length < 64 /\ h < 8 /\ m <= 6 /\ ∀ I' H',Hnd H' d I' (S.make h m).1 -> HFm d I S.things I' (S.make h m).1.things H H' -> (Pk I S -> (S.make h m).1.n = S.n \/ Pk I' (S.make h m).1) -> Q (S.make h m).2.v H'
theorem sc__law_made : FnScope ["_law_hand","_law_which","_law_many","_law_place","_law_colour"] ["_law_hand","_law_which","_law_many"] (defScope s_law_made):=⟨rfl,rfl,rfl,by decide +kernel,rfl,by decide +kernel,by decide +kernel⟩
theorem ok__law_made (L : Lk K mg) : FnOk PR w K mg base CX0 5 L._law_made.f L._law_made.d ["_law_hand","_law_which","_law_many"] (sp__law_made ):=by
 refine L._law_made.F.ok sc__law_made (fun vs H Q E h=>?_) (fun cdv A outer s H vs Q E hr h=>?_)
 ·obtain ⟨d,I,S,h,m,rfl,J,ok,hin,h64,hh8,hm6,q⟩:=h
  rfl
 ·obtain ⟨d,I,S,h,m,rfl,J,ok,hin,h64,hh8,hm6,q⟩:=h
  have hu:=hu_of hr
  refine ⟨_,(pss_cons (ps_set (i:=3) sc__law_made.nd rfl (Or.inl rfl) (pe_call (ok__law_gap L) (hr.mono (by decide)) rfl L._law_gap.g L._law_gap.F.kp L._law_gap.b .nil pass0 (pa_cons (pv 0) (pa_cons (pe_op op_add pe_int (pv 2)) pa_nil))))
   (pss_cut (ps_if (pt_cmp (pc_isN (pv 3)))
    (pss_cons (ps_expr (pe_call (ok__law_steps L) (hr.mono (by decide)) rfl L._law_steps.g L._law_steps.F.kp L._law_steps.b .nil pass0 (pa_cons (pv 0) (pa_cons (pe_op op_pow pe_int pe_int) pa_nil))))
   (pss_cons (ps_expr (pe_call (ok__law_begin L) (hr.mono (by decide)) rfl L._law_begin.g L._law_begin.F.kp L._law_begin.b .nil pass0 (pa_cons (pv 0) pa_nil)))
   (pss_cons (ps_expr (pe_call (ok__law_steps L) (hr.mono (by decide)) rfl L._law_steps.g L._law_steps.F.kp L._law_steps.b .nil pass0 (pa_cons (pv 0) (pa_cons (pe_op op_pow pe_int pe_int) pa_nil))))
   (pss_cons (ps_expr (pe_call (ok__law_slide L) (hr.mono (by decide)) rfl L._law_slide.g L._law_slide.F.kp L._law_slide.b .nil pass0 (pa_cons (pv 0) pa_nil)))
   (pss_one (ps_set (i:=3) sc__law_made.nd rfl (Or.inl rfl) (pe_call (ok__law_gap L) (hr.mono (by decide)) rfl L._law_gap.g L._law_gap.F.kp L._law_gap.b .nil pass0 (pa_cons (pv 0) (pa_cons (pe_op op_add pe_int (pv 2)) pa_nil)))))))))
    pss_nil)
   (pss_cons (ps_if (pt_cmp (pc_isN (pv 3)))
    (pss_one (ps_ret pe_str))
    pss_nil)
   (pss_cons (ps_set (i:=4) sc__law_made.nd rfl (Or.inl rfl) pe_str)
   (pss_cut (ps_if (PW.pt (pw_or (pt_cmpR op_eq (pe_dget hu (pv 0) pe_str (fun _ _=>rfl)) pe_str (nomark _)) (pw_or1 (PW.pt (pw_and (pt_cmpR op_eq (pe_dget hu (pv 0) pe_str (fun _ _=>rfl)) pe_str (nomark _)) (pw_and1 (pt_cmpR op_ge (pv 3) (pe_dget hu (pv 0) pe_str (fun _ _=>rfl)) (nomark _))))))))
    (pss_one (ps_set (i:=4) sc__law_made.nd rfl (Or.inl rfl) pe_str))
    pss_nil)
   (pss_cons (ps_dput hu (pe_dget hu (pv 0) pe_str (fun _ _=>rfl)) (pv 3) (pe_lst (pa_cons (pe_compS rfl (ck0 rfl) (pi_range1 rfl L.zrange (pa_cons (pv 2) pa_nil)) (fun _ _ _ _=>pts_nil) (fun _ _ _ _=>(pe_tup (pa_cons pe_str (pa_cons pe_int pa_nil))))) (pa_cons (pv 4) pa_nil))) rfl)
   (pss_cons (ps_asg (pe_tup (pa_cons pe_str (pa_cons (pv 3) pa_nil))) (pg_sub (pe_dget hu (pv 0) pe_str (fun _ _=>rfl)) (pv 1) set_list))
   (pss_one (ps_ret pe_non))))))))),?_⟩
  have en : ∀ x : Option Int,decide (optV x = .non) = x.isNone:=fun x=>by cases x <;> rfl
  refine ⟨_,rfl,_,rfl,_,_,rfl,rfl,d,I,S,2 + (m : Int),rfl,J,ok.laid,.inl h64,fun H1 s1=>?_⟩
  have J1:=J.ext s1
  refine ⟨fun σ' H'=>∃ I1 S1,σ' = [some (.ref d),some (.int h),some (.int m),some (optV (S1.free (2 + (m : Int)))),none] /\ Hnd H' d I1 S1 /\ Ok S1 /\ HFm d I S.things I1 S1.things H H' /\ ((S1 = S /\ S.free (2 + (m : Int)) ≠ none /\ I1 = I) \/ (S.free (2 + (m : Int)) = none /\ S1 = S.swept /\ Pk I1 S1)),?_,?_⟩
  ·refine ⟨_,rfl,_,rfl,?_⟩
   rw [en]
   cases ef : S.free (2 + (m : Int)) with
   | some p=>exact iteF ⟨I,S,by rw [ef]; rfl,J1,ok,.ext s1,.inl ⟨rfl,(fun z=>nomatch z),rfl⟩⟩
   | none =>
    refine iteT ?_
    refine ⟨_,rfl,10,6,rfl,rfl,⟨by decide,by decide,by decide⟩,d,I,S,1000000,rfl,J1,ok,h64,fun I2 H2 J2 f2=>?_⟩
    rw [many_left ok h64] at J2 f2
    have l2 : S.finish.1.things.length <= S.things.length:=(steps_sub _ S).length_le
    have hin2 : HIn S.finish.1:=hin_same hin (Same.steps _ S).hands
    have idl2:=finish_end ok.ready
    refine ⟨_,rfl,d,I2,_,rfl,J2,ok.finish,hin2,by omega,fun f H3 J3 f3=>?_⟩
    have ok3:=ok.finish.begin idl2
    have t3 : S.finish.1.begin.things = S.finish.1.things:=by rw [begin_eq,change_things]
    have f3' : HFm d I2 S.finish.1.things { I2 with fg:=f } S.finish.1.begin.things H2 H3:=by rw [t3]; exact ⟨f3.keep,f3.grow⟩
    refine ⟨_,rfl,10,6,rfl,rfl,⟨by decide,by decide,by decide⟩,d,_,_,1000000,rfl,J3,ok3,by rw [t3]; omega,fun I4 H4 J4 f4=>?_⟩
    rw [many_left ok3 (by rw [t3]; omega)] at J4 f4
    have l4 : S.finish.1.begin.finish.1.things.length <= S.finish.1.begin.things.length:=(steps_sub _ _).length_le
    rw [t3] at l4
    have ok4:=ok3.finish
    have idl4:=finish_end ok3.ready
    refine ⟨_,rfl,d,I4,_,rfl,J4,ok4,idl4,by omega,fun I5 H5 J5 e5 f5=>?_⟩
    have J5' : Hnd H5 d I5 S.swept:=J5
    have l5 : S.swept.things.length <= S.things.length:=(sub_swept S).length_le
    refine ⟨_,rfl,_,rfl,_,_,rfl,rfl,d,I5,S.swept,2 + (m : Int),rfl,J5',ok.swept.laid,.inl (by omega),fun H6 s6=>?_⟩
    refine ⟨I5,S.swept,rfl,J5'.ext s6,ok.swept,(HFm.ext s1).trans (f2.trans (f3'.trans (f4.trans (HFm.trans (T1:=S.swept.things) f5 (.ext s6))))),.inr ⟨rfl,rfl,e5,fun i k hk=>?_⟩⟩
    have hk' : S.finish.1.begin.finish.1.things[i]? = some k:=hk
    have e6:=slide_pl ok4.wf.nd hk'
    show S.finish.1.begin.finish.1.slide.pl k = off S.swept.th (S.swept.things.take i)
    rw [e6]
    exact off_congr fun j _=>words_of (sl_fields j _ _ _).symm
  ·rintro σ' H2 ⟨I1,S1,rfl,J2,ok1,f2,hc⟩
   refine ⟨_,rfl,_,rfl,?_⟩
   rw [en]
   cases ef : S1.free (2 + (m : Int)) with
   | none =>
    rcases hc with ⟨rfl,z,_⟩ | ⟨z,rfl,pk⟩
    ·exact absurd ef z
    ·rw [make_3 z ef] at q
     exact iteT (q I1 H2 J2 f2 fun _=>.inl (Same.swept S).n)
   | some p =>
    have hmk : S.make h m = (S1.made h m p,.non):=by
     rcases hc with ⟨rfl,z,_⟩ | ⟨z,rfl,pk⟩
     ·exact make_1 ef
     ·exact make_2 z ef
    have hpk : Pk I S -> Pk I1 S1:=fun w=>by
     rcases hc with ⟨rfl,z,rfl⟩ | ⟨z,rfl,pk⟩
     ·exact w
     ·exact pk
    rw [hmk] at q
    refine iteF ?_
    refine ⟨fun σ' H'=>H' = H2 /\ σ' = [some (.ref d),some (.int h),some (.int m),some (.int p),some (.str (S1.colourAt p).s)],?_,?_⟩
    ·refine ⟨_,rfl,d,_,rfl,J2.gP,rfl,_,rfl,?_⟩
     have e1 : decide (V.str S1.stage.s = V.str "mark") = decide (S1.stage = .mark):=dec_stg _ .mark
     rw [e1]
     by_cases hm : S1.stage = .mark
     ·rw [decide_eq_true hm]
      refine iteT (iteT ⟨rfl,?_⟩)
      unfold Hs.colourAt; rw [if_pos hm]; rfl
     ·rw [decide_eq_false hm]
      refine iteF ?_
      refine ⟨_,rfl,d,_,rfl,J2.gP,rfl,_,rfl,?_⟩
      have e2 : decide (V.str S1.stage.s = V.str "sweep") = decide (S1.stage = .sweep):=dec_stg _ .sweep
      rw [e2]
      by_cases hsw : S1.stage = .sweep
      ·rw [decide_eq_true hsw]
       refine iteT ?_
       refine ⟨_,rfl,_,rfl,d,_,rfl,J2.gF,_,_,rfl,rfl,_,rfl,?_⟩
       rw [J2.fge hsw]
       refine ite2 (fun z=>?_) (fun z=>?_)
       ·refine ⟨rfl,?_⟩
        unfold Hs.colourAt; rw [if_neg hm,if_pos ⟨hsw,of_decide_eq_true z⟩]; rfl
       ·refine ⟨rfl,?_⟩
        unfold Hs.colourAt; rw [if_neg hm,if_neg fun y=>z (decide_eq_true y.2)]; rfl
      ·rw [decide_eq_false hsw]
       refine iteF (iteF ⟨rfl,?_⟩)
       unfold Hs.colourAt; rw [if_neg hm,if_neg fun y=>hsw y.1]; rfl
    ·rintro σ'' H3 ⟨rfl,rfl⟩
     refine tcomp_of ?_
     refine ⟨_,rfl,(m : Int),rfl,(by omega),(by omega),comp_range (n:=m) (by omega) (fun _=>vP S1.pl (.num 0)) (fun i H4 R hi s4 k=>⟨(by show 2 <= sizeLine; decide),fun r hr=>?_⟩) (fun ys H4 D ry s4 hD=>?_)⟩
     ·generalize er : upd H4 r _ = H5
      have e5 : H5 r = some (.tup (vQ S1.pl (.num 0))):=by rw [<- er]; exact upd_same
      exact k _ _ (rep_vP e5) fun b o e=>by rw [<- er,upd_ne (ne_of_none e hr)]; exact e
     generalize e5 : upd H4 D _ = H5
     obtain ⟨k5,h5⟩:=mkL hD e5
     refine ⟨_,rfl,(by show 2 <= sizeLine; decide),fun E hE=>?_⟩
     generalize e6 : upd H5 E _ = H6
     obtain ⟨k6,h6⟩:=mkL hE e6
     have J6:=((J2.ext s4).ext k5).ext k6
     have nD : ¬ HOwn I1 d S1.things D:=(J2.ext s4).fresh hD
     have nE : ¬ HOwn I1 d S1.things E:=((J2.ext s4).ext k5).fresh hE
     have nED : E ≠ D:=fun z=>by rw [z,h5] at hE; cases hE
     have hkl : (thK I1.ks S1.pl I1.en).length <= 1000:=by
      have h1:=J2.prm.length_eq
      have h2 : S1.things.length <= S.things.length:=by
       rcases hc with ⟨rfl,_,_⟩ | ⟨_,rfl,_⟩
       ·exact Nat.le_refl _
       ·exact (sub_swept S).length_le
      unfold thK; rw [List.length_map]; omega
     refine ⟨_,rfl,d,_,rfl,J6.gT,_,rfl,I1.td,_,rfl,DPut.k (k:=(Sum.inl p : Key)) J6.tds (small1000 hkl),?_⟩
     have J7:=J6.lay ok1.wf (T:=⟨p,List.replicate m (.num 0),S1.colourAt p⟩) (k6 _ _ h5) (by rw [zerosP] at ry; exact (ry.mono k5).mono k6) h6 nD nE nED (fun k hk=>by have:=List.eq_of_mem_replicate hk; cases this) (free_ne ok1.laid ef (by omega))
     have f7 : HFm d I1 S1.things (I1.add S1.n E D) (S1.lay ⟨p,List.replicate m (.num 0),S1.colourAt p⟩).things H3 (upd H6 I1.td (.dK (putK (thK I1.ks S1.pl I1.en) (Sum.inl p : Key) (.ref E)))):=by
      refine ⟨fun b o e no=>(upd_ne (fun z=>no (.inr (.inl z)))).trans (k6 _ _ (k5 _ _ (s4 _ _ e))),fun b hb=>?_⟩
      have fr : ∀ b,H4 b = none -> H3 b = none:=fun b hb=>by
       cases e : H3 b with
       | none=>rfl
       | some o=>rw [s4 _ _ e] at hb; cases hb
      rcases hb with z | z | z | ⟨k,hk,z⟩
      ·exact .inl (.inl z)
      ·exact .inl (.inr (.inl z))
      ·exact .inl (.inr (.inr (.inl z)))
      ·rcases lay_mem.mp hk with y | y
       ·right
        rcases z with z | z
        ·have : b = E:=by rw [z]; show (if k = S1.n then E else _) = E; rw [if_pos y]
         rw [this]
         refine fr _ ?_
         cases e : H4 E with
         | none=>rfl
         | some o=>rw [k5 _ _ e] at hE; cases hE
        ·have : b = D:=by rw [z]; show (if k = S1.n then D else _) = D; rw [if_pos y]
         rw [this]; exact fr _ hD
       ·left
        have hkn:=ok1.wf.tv k y
        refine .inr (.inr (.inr ⟨k,y,?_⟩))
        rcases z with z | z
        ·left; rw [z]; show (if k = S1.n then E else _) = _; rw [if_neg (by omega)]
        ·right; rw [z]; show (if k = S1.n then D else _) = _; rw [if_neg (by omega)]
     generalize upd H6 I1.td _ = H7 at J7 f7 ⊢
     refine ⟨_,rfl,(by show 2 <= sizeLine; decide),fun t ht=>?_⟩
     generalize e8 : upd H7 t _ = H8
     have k8 : ∀ b o,H7 b = some o -> H8 b = some o:=fun b o e=>by rw [<- e8,upd_ne (ne_of_none e ht)]; exact e
     have t8 : H8 t = some (.tup (vQ (S1.lay ⟨p,List.replicate m (.num 0),S1.colourAt p⟩).pl (.thing S1.n))):=by
      rw [<- e8,upd_same]
      show _ = some (HO.tup [V.str "thing",V.int ((S1.lay ⟨p,List.replicate m (.num 0),S1.colourAt p⟩).th S1.n).place])
      rw [lay_thn]
     have J8:=J7.ext k8
     obtain ⟨hv,r8,eh,rh,hx,_,hl8⟩:=J8.hand (h:=h) hh8
     refine ⟨_,rfl,d,_,rfl,J8.gH,_,rfl,(I1.add S1.n E D).lh,hv,(h : Int),h,rfl,rfl,eh,by rw [hl8]; exact ixN_nat (by omega),?_⟩
     exact q _ _ (J8.hold (h:=h) (rep_vP t8) eh rh) (f2.trans (f7.trans ((HFm.ext k8).trans (.one (.inr (.inr (.inl rfl))))))) fun w=>.inr ⟨((hpk w).made ok1.laid ok1.wf ef).ks,((hpk w).made (E:=E) (D:=D) ok1.laid ok1.wf ef).at_⟩
end
end GH
namespace GH
open PySem L2
section
def sp__law_field : Sp:=fun vs H Q _=>∃ (d : Addr) (I : HP) (S : Hs) (h f : Nat),vs = [.ref d,.int h,.int f] /\ Hnd H d I S /\ Ok S /\ h < 8 /\ Q (refV S h f) H
theorem sc__law_field : FnScope ["_law_hand","_law_which","_law_field_here","_law_value"] ["_law_hand","_law_which","_law_field_here"] (defScope s_law_field):=⟨rfl,rfl,rfl,by decide +kernel,rfl,by decide +kernel,by decide +kernel⟩
theorem ok__law_field (L : Lk K mg) : FnOk PR w K mg base CX0 1 L._law_field.f L._law_field.d ["_law_hand","_law_which","_law_field_here"] (sp__law_field ):=by
 refine L._law_field.F.ok sc__law_field (fun vs H Q E h=>?_) (fun cdv A outer s H vs Q E hr h=>?_)
 ·obtain ⟨d,I,S,h,f,rfl,J,ok,hh,q⟩:=h
  rfl
 ·obtain ⟨d,I,S,h,f,rfl,J,ok,hh,q⟩:=h
  have hu:=hu_of hr
  refine ⟨_,(pss_cons (ps_set (i:=3) sc__law_field.nd rfl (Or.inl rfl) (pe_ix ix_list (pe_dget hu (pv 0) pe_str (fun _ _=>rfl)) (pv 1) (fun _ _=>rfl)))
   (pss_cons (ps_if (pt_cmpR op_eq (pe_ix ix_tup (pv 3) pe_int (fun _ _=>rfl)) pe_str (nomark _))
    (pss_one (ps_ret pe_str))
    pss_nil)
   (pss_cons (ps_if (pt_cmpR op_ge (pv 2) (pe_callB (id:="len") call_len_seq (by rfl) L.zlen bt_len (pa_cons (pe_ix ix_list (pe_dget hu (pe_dget hu (pv 0) pe_str (fun _ _=>rfl)) (pe_ix ix_tup (pv 3) pe_int (fun _ _=>rfl)) (fun _ _=>rfl)) pe_int (fun _ _=>rfl)) pa_nil)) (nomark _))
    (pss_one (ps_ret pe_str))
    pss_nil)
   (pss_one (ps_ret pe_non))))),?_⟩
  obtain ⟨hv,r,eh,rh,hx,er,hl8⟩:=J.hand hh
  refine ⟨_,rfl,d,_,rfl,J.gH,_,rfl,I.lh,hv,(h : Int),.ref r,rfl,rfl,SqL.of eh,atI_nat hx,?_⟩
  cases ev : S.held (h : Int) with
  | num z =>
   rw [ev] at er
   refine ⟨_,rfl,r,_,0,_,rfl,rfl,SqT.of er,rfl,rfl,_,rfl,?_⟩
   rw [strT]
   have e : refV S h f = .str "no thing":=by unfold refV Hs.field; rw [ev]; rfl
   rw [e] at q
   exact iteT q
  | thing k =>
   rw [ev] at er
   have hk:=held_in ok ev
   obtain ⟨fv,ef,rf,lf⟩:=J.fldL hk
   refine ⟨_,rfl,r,_,0,_,rfl,rfl,SqT.of er,rfl,rfl,_,rfl,?_⟩
   rw [nm_thing_number]
   refine iteF ?_
   refine ⟨_,rfl,_,rfl,d,_,rfl,J.gT,_,rfl,r,_,1,_,rfl,rfl,SqT.of er,rfl,I.td,_,rfl,J.gE ok.laid hk,I.en k,_,0,_,rfl,rfl,SqL.of (J.ent k hk),rfl,I.ft k,fv,rfl,.inl (SqL.of ef),_,_,rfl,rfl,_,rfl,?_⟩
   rw [lf]
   refine ite2 (fun h1=>?_) (fun h1=>?_)
   ·have h1':=of_decide_eq_true h1
    have e : refV S h f = .str "no field":=by
     unfold refV Hs.field
     rw [ev]
     dsimp only
     rw [if_neg (by omega),List.getElem?_eq_none (by rw [Int.toNat_natCast]; omega)]; rfl
    rw [e] at q
    exact q
   ·have h1' : ¬ ((S.th k).fields.length : Int) <= (f : Int):=fun z=>h1 (decide_eq_true z)
    have hlt : f < (S.th k).fields.length:=by omega
    have e : refV S h f = .non:=by
     unfold refV Hs.field
     rw [ev]
     dsimp only
     rw [if_neg (by omega),Int.toNat_natCast,List.getElem?_eq_getElem hlt]
    rw [e] at q
    exact q
end
end GH
namespace GH
open PySem L2
section
def sp__law_touch : Sp:=fun vs H Q _=>∃ (d at' : Addr) (I : HP) (S : Hs) (c : Act),vs = [.ref d,.ref at'] /\ Hnd H d I S /\ Ok S /\ H at' = some (.tup (actV c)) /\ Fit2 c /\ c.touch = true /\ ∀ H',Hnd H' d I (S.act c).1 -> (S.act c).1.things = S.things -> (S.act c).1.n = S.n -> HFm d I S.things I S.things H H' -> Q (S.act c).2.v H'
theorem sc__law_touch : FnScope ["_law_hand","_law_act_here","_law_hands","_law_fields"] ["_law_hand","_law_act_here"] (defScope s_law_touch):=⟨rfl,rfl,rfl,by decide +kernel,rfl,by decide +kernel,by decide +kernel⟩
theorem ok__law_touch (L : Lk K mg) : FnOk PR w K mg base CX0 2 L._law_touch.f L._law_touch.d ["_law_hand","_law_act_here"] (sp__law_touch ):=by
 refine L._law_touch.F.ok sc__law_touch (fun vs H Q E h=>?_) (fun cdv A outer s H vs Q E hr h=>?_)
 ·obtain ⟨d,at',I,S,c,rfl,J,ok,ht,fit,hto,q⟩:=h
  rfl
 ·obtain ⟨d,at',I,S,c,rfl,J,ok,ht,fit,hto,q⟩:=h
  have hu:=hu_of hr
  refine ⟨_,(pss_cons (ps_set (i:=2) sc__law_touch.nd rfl (Or.inl rfl) (pe_dget hu (pv 0) pe_str (fun _ _=>rfl)))
   (pss_cut (ps_if (pt_cmpR op_eq (pe_ix ix_tup (pv 1) pe_int (fun _ _=>rfl)) pe_str (nomark _))
    (pss_cons (ps_if (pt_cmp (pc_notN (pe_call (ok__law_field L) (hr.mono (by decide)) rfl L._law_field.g L._law_field.F.kp L._law_field.b .nil pass0 (pa_cons (pv 0) (pa_cons (pe_ix ix_tup (pv 1) pe_int (fun _ _=>rfl)) (pa_cons (pe_ix ix_tup (pv 1) pe_int (fun _ _=>rfl)) pa_nil))))))
    (pss_one (ps_ret (pe_call (ok__law_field L) (hr.mono (by decide)) rfl L._law_field.g L._law_field.F.kp L._law_field.b .nil pass0 (pa_cons (pv 0) (pa_cons (pe_ix ix_tup (pv 1) pe_int (fun _ _=>rfl)) (pa_cons (pe_ix ix_tup (pv 1) pe_int (fun _ _=>rfl)) pa_nil))))))
    pss_nil)
   (pss_cons (ps_set (i:=3) sc__law_touch.nd rfl (Or.inl rfl) (pe_ix ix_list (pe_dget hu (pe_dget hu (pv 0) pe_str (fun _ _=>rfl)) (pe_ix ix_tup (pe_ix ix_list (pv 2) (pe_ix ix_tup (pv 1) pe_int (fun _ _=>rfl)) (fun _ _=>rfl)) pe_int (fun _ _=>rfl)) (fun _ _=>rfl)) pe_int (fun _ _=>rfl)))
   (pss_cut (ps_if (pt_cmpR op_eq (pe_dget hu (pv 0) pe_str (fun _ _=>rfl)) pe_str (nomark _))
    (pss_one (ps_expr (pe_call (ok__law_shade L) (hr.mono (by decide)) rfl L._law_shade.g L._law_shade.F.kp L._law_shade.b .nil pass0 (pa_cons (pv 0) (pa_cons (pe_ix ix_list (pv 3) (pe_ix ix_tup (pv 1) pe_int (fun _ _=>rfl)) (fun _ _=>rfl)) pa_nil)))))
    pss_nil)
   (pss_one (ps_asg (pe_ix ix_list (pv 2) (pe_ix ix_tup (pv 1) pe_int (fun _ _=>rfl)) (fun _ _=>rfl)) (pg_sub (pv 3) (pe_ix ix_tup (pv 1) pe_int (fun _ _=>rfl)) set_list))))))
    (pss_one (ps_if (pt_cmpR op_eq (pe_ix ix_tup (pv 1) pe_int (fun _ _=>rfl)) pe_str (nomark _))
    (pss_cons (ps_if (pt_cmp (pc_notN (pe_call (ok__law_field L) (hr.mono (by decide)) rfl L._law_field.g L._law_field.F.kp L._law_field.b .nil pass0 (pa_cons (pv 0) (pa_cons (pe_ix ix_tup (pv 1) pe_int (fun _ _=>rfl)) (pa_cons (pe_ix ix_tup (pv 1) pe_int (fun _ _=>rfl)) pa_nil))))))
    (pss_one (ps_ret (pe_call (ok__law_field L) (hr.mono (by decide)) rfl L._law_field.g L._law_field.F.kp L._law_field.b .nil pass0 (pa_cons (pv 0) (pa_cons (pe_ix ix_tup (pv 1) pe_int (fun _ _=>rfl)) (pa_cons (pe_ix ix_tup (pv 1) pe_int (fun _ _=>rfl)) pa_nil))))))
    pss_nil)
   (pss_one (ps_asg (pe_ix ix_list (pe_ix ix_list (pe_dget hu (pe_dget hu (pv 0) pe_str (fun _ _=>rfl)) (pe_ix ix_tup (pe_ix ix_list (pv 2) (pe_ix ix_tup (pv 1) pe_int (fun _ _=>rfl)) (fun _ _=>rfl)) pe_int (fun _ _=>rfl)) (fun _ _=>rfl)) pe_int (fun _ _=>rfl)) (pe_ix ix_tup (pv 1) pe_int (fun _ _=>rfl)) (fun _ _=>rfl)) (pg_sub (pv 2) (pe_ix ix_tup (pv 1) pe_int (fun _ _=>rfl)) set_list))))
    (pss_one (ps_if (pt_cmpR op_eq (pe_ix ix_tup (pv 1) pe_int (fun _ _=>rfl)) pe_str (nomark _))
    (pss_one (ps_asg (pe_ix ix_list (pv 2) (pe_ix ix_tup (pv 1) pe_int (fun _ _=>rfl)) (fun _ _=>rfl)) (pg_sub (pv 2) (pe_ix ix_tup (pv 1) pe_int (fun _ _=>rfl)) set_list)))
    (pss_one (ps_asg (pe_tup (pa_cons pe_str (pa_cons (pe_ix ix_tup (pv 1) pe_int (fun _ _=>rfl)) pa_nil))) (pg_sub (pv 2) (pe_ix ix_tup (pv 1) pe_int (fun _ _=>rfl)) set_list))))))))
   (pss_one (ps_ret pe_non)))),?_⟩
  refine ⟨_,rfl,d,_,rfl,J.gH,?_⟩
  refine ⟨fun σ' H'=>(S.act c).2.v = .non /\ Hnd H' d I (S.act c).1 /\ (S.act c).1.things = S.things /\ (S.act c).1.n = S.n /\ HFm d I S.things I S.things H H',?_,?_⟩
  ·cases c with
   | store h f o =>
    obtain ⟨⟨h0,h8⟩,⟨f0,f8⟩,o0,o8⟩:=fit.store h f o rfl
    obtain ⟨hN,rfl⟩ : ∃ n : Nat,h = n:=⟨_,(Int.toNat_of_nonneg h0).symm⟩
    obtain ⟨fN,rfl⟩ : ∃ n : Nat,f = n:=⟨_,(Int.toNat_of_nonneg f0).symm⟩
    obtain ⟨oN,rfl⟩ : ∃ n : Nat,o = n:=⟨_,(Int.toNat_of_nonneg o0).symm⟩
    refine ⟨_,rfl,at',_,0,_,rfl,rfl,SqT.of ht,rfl,rfl,_,rfl,?_⟩
    rw [strT]
    refine iteT ?_
    refine ⟨_,rfl,_,rfl,at',_,1,_,rfl,rfl,SqT.of ht,rfl,_,rfl,at',_,2,_,rfl,rfl,SqT.of ht,rfl,d,I,S,hN,fN,rfl,J,ok,by omega,?_⟩
    cases ef : S.field (hN : Int) (fN : Int) with
    | inr t =>
     have tv : t = .noThing \/ t = .noField:=field_inr ef
     have er : refV S hN fN = t.v:=by unfold refV; rw [ef]
     have nn : decide (refV S hN fN = .non) = false:=by rw [er]; rcases tv with rfl | rfl <;> rfl
     rw [nn]
     refine ⟨_,rfl,iteT ?_⟩
     refine ⟨_,rfl,_,rfl,at',_,1,_,rfl,rfl,SqT.of ht,rfl,_,rfl,at',_,2,_,rfl,rfl,SqT.of ht,rfl,d,I,S,hN,fN,rfl,J,ok,by omega,?_⟩
     have es : S.act (.store hN fN oN) = (S,t):=by
      show S.store _ _ _ = _
      unfold Hs.store
      rw [ef]
      cases S.held hN <;> rfl
     rw [es] at q
     rw [er]
     exact q H J rfl rfl (.ext fun _ _ e=>e)
    | inl v =>
     have er : refV S hN fN = .non:=by unfold refV; rw [ef]
     rw [er,decide_eq_true rfl]
     refine ⟨_,rfl,iteF ?_⟩
     obtain ⟨k,hk,_,hf⟩:=field_inl ef
     rw [Int.toNat_natCast] at hf
     have hkn:=held_in ok hk
     have hlt : fN < (S.th k).fields.length:=(List.getElem?_eq_some_iff.mp hf).1
     obtain ⟨hv,ro,eh,rh,hx,ero,hl8⟩:=J.hand (h:=oN) (by omega)
     obtain ⟨hv',rk,eh',rh',hx',erk,_⟩:=J.hand (h:=hN) (by omega)
     rw [eh] at eh'
     cases eh'
     rw [hk] at erk
     obtain ⟨fv,eff,rf,lf⟩:=J.fldL hkn
     obtain ⟨x,hxf,rx⟩:=rf.get' (i:=fN) (d:=vP S.pl v) (by rw [List.getElem?_map,hf]; rfl)
     obtain ⟨rv,rfl,erv⟩:=vP_rep rx
     refine ⟨_,rfl,d,_,rfl,J.gT,_,rfl,_,rfl,at',_,1,_,rfl,rfl,SqT.of ht,rfl,I.lh,hv,(hN : Int),.ref rk,rfl,rfl,SqL.of eh,atI_nat hx',rk,_,1,_,rfl,rfl,SqT.of erk,rfl,I.td,_,rfl,J.gE ok.laid hkn,I.en k,_,0,_,rfl,rfl,SqL.of (J.ent k hkn),rfl,?_⟩
     have est : S.act (.store hN fN oN) = ((if S.stage = .mark then S.makeGrey v else S).setField k fN (S.held oN),.non):=by
      show S.store _ _ _ = _
      rw [store_eq hk ef,Int.toNat_natCast]
     rw [est]
     refine ⟨fun σ' H'=>σ' = [some (.ref d),some (.ref at'),some (.ref I.lh),some (.ref (I.ft k))] /\ Hnd H' d I (if S.stage = .mark then S.makeGrey v else S) /\ EK I S.things H H',?_,?_⟩
     ·refine ⟨_,rfl,d,_,rfl,J.gP,rfl,_,rfl,?_⟩
      have e1 : decide (V.str S.stage.s = V.str "mark") = decide (S.stage = .mark):=dec_stg _ .mark
      rw [e1]
      obtain ⟨U,g⟩:=ok.gc
      by_cases hm : S.stage = .mark
      ·rw [decide_eq_true hm,if_pos hm]
       refine iteT ⟨_,rfl,_,rfl,_,rfl,at',_,2,_,rfl,rfl,SqT.of ht,rfl,I.ft k,fv,(fN : Int),.ref rv,rfl,rfl,SqL.of eff,atI_nat hxf,d,rv,I,S,v,rfl,J,ok.laid,erv,fun j e=>g.sub j (g.clo k j (g.held hk) (by rw [<- e]; exact List.mem_of_getElem? hf)),fun H1 J1 k1=>⟨rfl,J1,k1⟩⟩
      ·rw [decide_eq_false hm,if_neg hm]
       exact iteF ⟨rfl,J,fun _ _ e _=>e⟩
     ·rintro σ' H1 ⟨rfl,J1,k1⟩
      have kt:=k1.tup J
      have eh1:=k1 _ _ eh fun j hj=>(J.neh j hj).symm
      have ef1:=k1 _ _ eff fun j hj=>(J.nef j hj k hkn).symm
      have ht1:=kt _ _ ht
      refine ⟨_,rfl,_,rfl,at',_,3,_,rfl,rfl,SqT.of ht1,rfl,I.lh,hv,(oN : Int),.ref ro,rfl,rfl,SqL.of eh1,atI_nat hx,?_⟩
      refine ⟨_,rfl,_,rfl,at',_,2,_,rfl,rfl,SqT.of ht1,rfl,I.ft k,fv,(fN : Int),fN,rfl,rfl,ef1,by rw [lf]; exact ixN_nat hlt,?_⟩
      have eT : (if S.stage = .mark then S.makeGrey v else S).things = S.things:=by split; exact makeGrey_things S v; rfl
      have eN : (if S.stage = .mark then S.makeGrey v else S).n = S.n:=by split; exact (Same.makeGrey S v).n; rfl
      have eP : (if S.stage = .mark then S.makeGrey v else S).pl = S.pl:=by split; exact makeGrey_pl S v; rfl
      have eF : ((if S.stage = .mark then S.makeGrey v else S).th k).fields = (S.th k).fields:=by split; exact (Same.makeGrey S v).fields k; rfl
      refine ⟨rfl,J1.setField (by rw [eT]; exact hkn) (v:=S.held oN) (by rw [eP]; exact rep_vP (kt _ _ ero)) ef1 (by rw [eP,eF]; exact rf.tups kt (vPs_pure _ _)),eT,eN,k1.hfm.trans (.one (own_t hkn))⟩
   | load h o f =>
    obtain ⟨⟨h0,h8⟩,⟨o0,o8⟩,f0,f8⟩:=fit.load h o f rfl
    obtain ⟨hN,rfl⟩ : ∃ n : Nat,h = n:=⟨_,(Int.toNat_of_nonneg h0).symm⟩
    obtain ⟨fN,rfl⟩ : ∃ n : Nat,f = n:=⟨_,(Int.toNat_of_nonneg f0).symm⟩
    obtain ⟨oN,rfl⟩ : ∃ n : Nat,o = n:=⟨_,(Int.toNat_of_nonneg o0).symm⟩
    refine ⟨_,rfl,at',_,0,_,rfl,rfl,SqT.of ht,rfl,rfl,_,rfl,?_⟩
    rw [nm_load_store]
    refine iteF ?_
    refine ⟨_,rfl,at',_,0,_,rfl,rfl,SqT.of ht,rfl,rfl,_,rfl,?_⟩
    rw [strT]
    refine iteT ?_
    refine ⟨_,rfl,_,rfl,at',_,2,_,rfl,rfl,SqT.of ht,rfl,_,rfl,at',_,3,_,rfl,rfl,SqT.of ht,rfl,d,I,S,oN,fN,rfl,J,ok,by omega,?_⟩
    cases ef : S.field (oN : Int) (fN : Int) with
    | inr t =>
     have tv : t = .noThing \/ t = .noField:=field_inr ef
     have er : refV S oN fN = t.v:=by unfold refV; rw [ef]
     have nn : decide (refV S oN fN = .non) = false:=by rw [er]; rcases tv with rfl | rfl <;> rfl
     rw [nn]
     refine ⟨_,rfl,iteT ?_⟩
     refine ⟨_,rfl,_,rfl,at',_,2,_,rfl,rfl,SqT.of ht,rfl,_,rfl,at',_,3,_,rfl,rfl,SqT.of ht,rfl,d,I,S,oN,fN,rfl,J,ok,by omega,?_⟩
     have es : S.act (.load hN oN fN) = (S,t):=by
      show S.load _ _ _ = _
      unfold Hs.load
      rw [ef]
     rw [es] at q
     rw [er]
     exact q H J rfl rfl (.ext fun _ _ e=>e)
    | inl v =>
     have er : refV S oN fN = .non:=by unfold refV; rw [ef]
     rw [er,decide_eq_true rfl]
     refine ⟨_,rfl,iteF ?_⟩
     obtain ⟨k,hk,_,hf⟩:=field_inl ef
     rw [Int.toNat_natCast] at hf
     have hkn:=held_in ok hk
     obtain ⟨hv,ro,eh,rh,hx,ero,hl8⟩:=J.hand (h:=oN) (by omega)
     rw [hk] at ero
     obtain ⟨fv,eff,rf,lf⟩:=J.fldL hkn
     obtain ⟨x,hxf,rx⟩:=rf.get' (i:=fN) (d:=vP S.pl v) (by rw [List.getElem?_map,hf]; rfl)
     have es : S.act (.load hN oN fN) = (S.hold hN v,.non):=by show S.load _ _ _ = _; unfold Hs.load; rw [ef]
     rw [es]
     refine ⟨_,rfl,d,_,rfl,J.gT,_,rfl,_,rfl,at',_,2,_,rfl,rfl,SqT.of ht,rfl,I.lh,hv,(oN : Int),.ref ro,rfl,rfl,SqL.of eh,atI_nat hx,ro,_,1,_,rfl,rfl,SqT.of ero,rfl,I.td,_,rfl,J.gE ok.laid hkn,I.en k,_,0,_,rfl,rfl,SqL.of (J.ent k hkn),rfl,_,rfl,at',_,3,_,rfl,rfl,SqT.of ht,rfl,I.ft k,fv,(fN : Int),x,rfl,rfl,SqL.of eff,atI_nat hxf,?_⟩
     refine ⟨_,rfl,_,rfl,at',_,1,_,rfl,rfl,SqT.of ht,rfl,I.lh,hv,(hN : Int),hN,rfl,rfl,eh,by rw [hl8]; exact ixN_nat (by omega),?_⟩
     exact ⟨rfl,J.hold (h:=hN) rx eh rh,rfl,rfl,.one (.inr (.inr (.inl rfl)))⟩
   | copy h o =>
    obtain ⟨⟨h0,h8⟩,o0,o8⟩:=fit.copy h o rfl
    obtain ⟨hN,rfl⟩ : ∃ n : Nat,h = n:=⟨_,(Int.toNat_of_nonneg h0).symm⟩
    obtain ⟨oN,rfl⟩ : ∃ n : Nat,o = n:=⟨_,(Int.toNat_of_nonneg o0).symm⟩
    refine ⟨_,rfl,at',_,0,_,rfl,rfl,SqT.of ht,rfl,rfl,_,rfl,?_⟩
    rw [nm_copy_store]
    refine iteF ?_
    refine ⟨_,rfl,at',_,0,_,rfl,rfl,SqT.of ht,rfl,rfl,_,rfl,?_⟩
    rw [nm5_copy_load]
    refine iteF ?_
    refine ⟨_,rfl,at',_,0,_,rfl,rfl,SqT.of ht,rfl,rfl,_,rfl,?_⟩
    rw [strT]
    refine iteT ?_
    obtain ⟨hv,r8,eh,rh,hx,er,hl8⟩:=J.hand (h:=oN) (by omega)
    refine ⟨_,rfl,_,rfl,at',_,2,_,rfl,rfl,SqT.of ht,rfl,I.lh,hv,(oN : Int),.ref r8,rfl,rfl,SqL.of eh,atI_nat hx,?_⟩
    refine ⟨_,rfl,_,rfl,at',_,1,_,rfl,rfl,SqT.of ht,rfl,I.lh,hv,(hN : Int),hN,rfl,rfl,eh,by rw [hl8]; exact ixN_nat (by omega),?_⟩
    exact ⟨rfl,J.hold (h:=hN) (rep_vP er) eh rh,rfl,rfl,.one (.inr (.inr (.inl rfl)))⟩
   | number h n =>
    obtain ⟨h0,h8⟩:=fit.number h n rfl
    obtain ⟨hN,rfl⟩ : ∃ n : Nat,h = n:=⟨_,(Int.toNat_of_nonneg h0).symm⟩
    refine ⟨_,rfl,at',_,0,_,rfl,rfl,SqT.of ht,rfl,rfl,_,rfl,?_⟩
    rw [nm_number_store]
    refine iteF ?_
    refine ⟨_,rfl,at',_,0,_,rfl,rfl,SqT.of ht,rfl,rfl,_,rfl,?_⟩
    rw [nm5_number_load]
    refine iteF ?_
    refine ⟨_,rfl,at',_,0,_,rfl,rfl,SqT.of ht,rfl,rfl,_,rfl,?_⟩
    rw [nm5_number_copy]
    refine iteF ?_
    refine ⟨_,rfl,at',_,2,_,rfl,rfl,SqT.of ht,rfl,(by show 2 <= sizeLine; decide),fun t ht3=>?_⟩
    generalize e4 : upd H t _ = H4
    have k4 : ∀ b o,H b = some o -> H4 b = some o:=fun b o e=>by rw [<- e4,upd_ne (ne_of_none e ht3)]; exact e
    have t4 : H4 t = some (.tup (vQ S.pl (.num n))):=by rw [<- e4]; exact upd_same
    have J4:=J.ext k4
    obtain ⟨hv,r8,eh,rh,hx,er,hl8⟩:=J4.hand (h:=hN) (by omega)
    refine ⟨_,rfl,_,rfl,at',_,1,_,rfl,rfl,SqT.of (k4 _ _ ht),rfl,I.lh,hv,(hN : Int),hN,rfl,rfl,eh,by rw [hl8]; exact ixN_nat (by omega),?_⟩
    exact ⟨rfl,J4.hold (h:=hN) (rep_vP t4) eh rh,rfl,rfl,(HFm.ext k4).trans (.one (.inr (.inr (.inl rfl))))⟩
   | make h m=>cases hto
   | begin=>cases hto
   | slide=>cases hto
   | finish=>cases hto
   | step n=>cases hto
  ·rintro σ' H' ⟨ev,J',e1,e2,f'⟩
   have:=q H' J' e1 e2 f'
   rw [ev] at this
   exact this
end
end GH
namespace GH
open PySem L2
section
def sp__law_by_hand : Sp:=fun vs H Q _=>∃ (d at' : Addr) (I : HP) (S : Hs) (c : Act),vs = [.ref d,.ref at'] /\ Hnd H d I S /\ Ok S /\ HIn S /\ H at' = some (.tup (actV c)) /\ Fit2 c /\ S.things.length < 64 /\ ∀ I' H',Hnd H' d I' (S.act c).1 -> HFm d I S.things I' (S.act c).1.things H H' -> (Pk I S -> (S.act c).1.n = S.n \/ Pk I' (S.act c).1) -> Q (S.act c).2.v H'
theorem sc__law_by_hand : FnScope ["_law_hand","_law_act_here"] ["_law_hand","_law_act_here"] (defScope s_law_by_hand):=⟨rfl,rfl,rfl,by decide +kernel,rfl,by decide +kernel,by decide +kernel⟩
theorem ok__law_by_hand (L : Lk K mg) : FnOk PR w K mg base CX0 6 L._law_by_hand.f L._law_by_hand.d ["_law_hand","_law_act_here"] (sp__law_by_hand ):=by
 refine L._law_by_hand.F.ok sc__law_by_hand (fun vs H Q E h=>?_) (fun cdv A outer s H vs Q E hr h=>?_)
 ·obtain ⟨d,at',I,S,c,rfl,J,ok,hin,ht,fit,h64,q⟩:=h
  rfl
 ·obtain ⟨d,at',I,S,c,rfl,J,ok,hin,ht,fit,h64,q⟩:=h
  have hu:=hu_of hr
  refine ⟨_,(pss_cons (ps_if (pt_cmpR op_eq (pe_ix ix_tup (pv 1) pe_int (fun _ _=>rfl)) pe_str (nomark _))
    (pss_one (ps_ret (pe_call (ok__law_made L) (hr.mono (by decide)) rfl L._law_made.g L._law_made.F.kp L._law_made.b .nil pass0 (pa_cons (pv 0) (pa_cons (pe_ix ix_tup (pv 1) pe_int (fun _ _=>rfl)) (pa_cons (pe_ix ix_tup (pv 1) pe_int (fun _ _=>rfl)) pa_nil))))))
    pss_nil)
   (pss_cons (ps_if (pt_cmpR op_eq (pe_ix ix_tup (pv 1) pe_int (fun _ _=>rfl)) pe_str (nomark _))
    (pss_one (ps_ret (pe_call (ok__law_steps L) (hr.mono (by decide)) rfl L._law_steps.g L._law_steps.F.kp L._law_steps.b .nil pass0 (pa_cons (pv 0) (pa_cons (pe_ix ix_tup (pv 1) pe_int (fun _ _=>rfl)) pa_nil)))))
    pss_nil)
   (pss_cons (ps_if (pt_cmpR op_eq (pe_ix ix_tup (pv 1) pe_int (fun _ _=>rfl)) pe_str (nomark _))
    (pss_one (ps_ret (pe_call (ok__law_steps L) (hr.mono (by decide)) rfl L._law_steps.g L._law_steps.F.kp L._law_steps.b .nil pass0 (pa_cons (pv 0) (pa_cons (pe_op op_pow pe_int pe_int) pa_nil)))))
    pss_nil)
   (pss_cons (ps_if (PW.pt (pw_and (pt_cmpR op_ne (pe_ix ix_tup (pv 1) pe_int (fun _ _=>rfl)) pe_str (nomark _)) (pw_and1 (pt_cmpR op_ne (pe_ix ix_tup (pv 1) pe_int (fun _ _=>rfl)) pe_str (nomark _)))))
    (pss_one (ps_ret (pe_call (ok__law_touch L) (hr.mono (by decide)) rfl L._law_touch.g L._law_touch.F.kp L._law_touch.b .nil pass0 (pa_cons (pv 0) (pa_cons (pv 1) pa_nil)))))
    pss_nil)
   (pss_cons (ps_if (pt_cmpR op_ne (pe_dget hu (pv 0) pe_str (fun _ _=>rfl)) pe_str (nomark _))
    (pss_one (ps_ret pe_str))
    pss_nil)
   (pss_cut (ps_if (pt_cmpR op_eq (pe_ix ix_tup (pv 1) pe_int (fun _ _=>rfl)) pe_str (nomark _))
    (pss_one (ps_expr (pe_call (ok__law_begin L) (hr.mono (by decide)) rfl L._law_begin.g L._law_begin.F.kp L._law_begin.b .nil pass0 (pa_cons (pv 0) pa_nil))))
    (pss_one (ps_expr (pe_call (ok__law_slide L) (hr.mono (by decide)) rfl L._law_slide.g L._law_slide.F.kp L._law_slide.b .nil pass0 (pa_cons (pv 0) pa_nil)))))
   (pss_one (ps_ret pe_non)))))))),?_⟩
  refine ⟨_,rfl,at',_,0,.str (actName c),rfl,rfl,SqT.of ht,atI_nat (j:=0) (actV_name c),rfl,_,rfl,?_⟩
  rw [is_make]
  cases hmk : c.isMake with
  | true =>
   obtain ⟨h,m,rfl⟩ : ∃ h m,c = .make h m:=by cases c <;> first | exact ⟨_,_,rfl⟩ | cases hmk
   obtain ⟨⟨h0,h8⟩,hm6⟩:=fit.make h m rfl
   obtain ⟨hN,rfl⟩ : ∃ n : Nat,h = n:=⟨_,(Int.toNat_of_nonneg h0).symm⟩
   exact iteT ⟨_,rfl,_,rfl,at',_,1,_,rfl,rfl,SqT.of ht,rfl,_,rfl,at',_,2,_,rfl,rfl,SqT.of ht,rfl,d,I,S,hN,m,rfl,J,ok,hin,h64,by omega,hm6,q⟩
  | false =>
   refine iteF ?_
   refine ⟨_,rfl,at',_,0,.str (actName c),rfl,rfl,SqT.of ht,atI_nat (j:=0) (actV_name c),rfl,_,rfl,?_⟩
   rw [is_step]
   cases hst : c.isStep with
   | true =>
    obtain ⟨n,rfl⟩ : ∃ n,c = .step n:=by cases c <;> first | exact ⟨_,rfl⟩ | cases hst
    exact iteT ⟨_,rfl,_,rfl,at',_,1,_,rfl,rfl,SqT.of ht,rfl,d,I,S,n,rfl,J,ok,h64,fun I' H' J' f'=>q I' H' J' f' fun _=>.inl (Same.steps n S).n⟩
   | false =>
    refine iteF ?_
    refine ⟨_,rfl,at',_,0,.str (actName c),rfl,rfl,SqT.of ht,atI_nat (j:=0) (actV_name c),rfl,_,rfl,?_⟩
    rw [is_fin hst]
    cases hfi : c.isFin with
    | true =>
     obtain rfl : c = .finish:=by cases c <;> first | rfl | cases hfi
     refine iteT ⟨_,rfl,10,6,rfl,rfl,⟨by decide,by decide,by decide⟩,d,I,S,1000000,rfl,J,ok,h64,fun I' H' J' f'=>?_⟩
     have em:=many_left ok h64
     rw [em] at J' f' ⊢
     exact q I' H' J' f' fun _=>.inl (Same.steps _ S).n
    | false =>
     refine iteF ?_
     have hk : c.touch = true \/ c = .begin \/ c = .slide:=by
      cases c <;> first | exact .inl rfl | exact .inr (.inl rfl) | exact .inr (.inr rfl) | (cases hmk; done) | (cases hst; done) | (cases hfi; done)
     refine ⟨_,rfl,at',_,0,.str (actName c),rfl,rfl,SqT.of ht,atI_nat (j:=0) (actV_name c),rfl,_,rfl,?_⟩
     rw [is_beg hk]
     cases hbe : c.isBeg with
     | true =>
      obtain rfl : c = .begin:=by cases c <;> first | rfl | cases hbe
      refine iteF (iteF ?_)
      refine ⟨_,rfl,d,_,rfl,J.gP,rfl,_,rfl,?_⟩
      have e : decide (V.str S.stage.s = V.str "idle") = decide (S.stage = .idle):=dec_stg _ .idle
      rw [e]
      by_cases hid : S.stage = .idle
      ·have ea : S.act .begin = (S.begin,.non):=by show (if S.stage = .idle then (S.begin,Told.non) else (S,.notNow)) = _; rw [if_pos hid]
       rw [decide_eq_true hid]
       refine iteF ?_
       refine ⟨fun σ' H'=>∃ I',Hnd H' d I' S.begin /\ HFm d I S.things I' S.begin.things H H',?_,?_⟩
       ·refine ⟨_,rfl,at',_,0,.str (actName .begin),rfl,rfl,SqT.of ht,rfl,rfl,_,rfl,?_⟩
        rw [show decide (V.str (actName .begin) = V.str "begin") = true from strT]
        refine iteT ⟨_,rfl,d,I,S,rfl,J,ok,hin,h64,fun f H' J' f'=>⟨_,J',?_⟩⟩
        rw [show S.begin.things = S.things by rw [begin_eq,change_things]]
        exact ⟨f'.keep,f'.grow⟩
       ·rintro σ' H' ⟨I',J',f'⟩
        rw [ea] at q
        exact q I' H' J' f' fun _=>.inl (Same.begin S).n
      ·have ea : S.act .begin = (S,.notNow):=by show (if S.stage = .idle then (S.begin,Told.non) else (S,.notNow)) = _; rw [if_neg hid]
       rw [decide_eq_false hid]
       rw [ea] at q
       exact iteT (q I H J (.ext fun _ _ e=>e) fun _=>.inl rfl)
     | false =>
      refine iteT ?_
      refine ⟨_,rfl,at',_,0,.str (actName c),rfl,rfl,SqT.of ht,atI_nat (j:=0) (actV_name c),rfl,_,rfl,?_⟩
      rcases hk with hk | hk | hk
      ·rw [is_sli hk]
       refine iteT ⟨_,rfl,_,rfl,d,at',I,S,c,rfl,J,ok,ht,fit,hk,fun H' J' e1 e2 f'=>?_⟩
       exact q I H' J' (by rw [e1]; exact f') fun _=>.inl e2
      ·subst hk; cases hbe
      ·subst hk
       rw [show decide (V.str (actName .slide) = V.str "slide") = true from strT]
       refine iteF ?_
       refine ⟨_,rfl,d,_,rfl,J.gP,rfl,_,rfl,?_⟩
       have e : decide (V.str S.stage.s = V.str "idle") = decide (S.stage = .idle):=dec_stg _ .idle
       rw [e]
       by_cases hid : S.stage = .idle
       ·have ea : S.act .slide = (S.slide,.non):=by show (if S.stage = .idle then (S.slide,Told.non) else (S,.notNow)) = _; rw [if_pos hid]
        rw [decide_eq_true hid]
        refine iteF ?_
        refine ⟨fun σ' H'=>∃ I',Hnd H' d I' S.slide /\ HFm d I S.things I' S.things H H',?_,?_⟩
        ·refine ⟨_,rfl,at',_,0,.str (actName .slide),rfl,rfl,SqT.of ht,rfl,rfl,_,rfl,?_⟩
         rw [show decide (V.str (actName .slide) = V.str "begin") = false from nm_slide_begin]
         exact iteF ⟨_,rfl,d,I,S,rfl,J,ok,hid,h64,fun I' H' J' _ f'=>⟨I',J',f'⟩⟩
        ·rintro σ' H' ⟨I',J',f'⟩
         rw [ea] at q
         exact q I' H' J' f' fun _=>.inl rfl
       ·have ea : S.act .slide = (S,.notNow):=by show (if S.stage = .idle then (S.slide,Told.non) else (S,.notNow)) = _; rw [if_neg hid]
        rw [decide_eq_false hid]
        rw [ea] at q
        exact iteT (q I H J (.ext fun _ _ e=>e) fun _=>.inl rfl)
end
end GH
namespace GH
open PySem L2
section
def sp_M_things_held (c : CA) : Sp:=fun vs H Q _=>∃ (P : Pl) (S : Hs),vs = [.ref P.m] /\ At c H P S /\ Wf S /\ S.hands.length <= 1000 /\ ∀ (r : Addr) (H' : Hp),H r = none -> H' r = some (.lst (((S.hands.map (·.2)).filter isTh).map P.v)) -> (∀ b o,H b = some o -> H' b = some o) -> Q (.ref r) H'
theorem sc_M_things_held : FnScope ["self"] ["self"] (defScope sM_things_held):=⟨rfl,rfl,rfl,by decide +kernel,rfl,by decide +kernel,by decide +kernel⟩
theorem ok_M_things_held (L : Lk K mg) : FnOk PR w K mg base CX0 1 L.M_things_held.f L.M_things_held.d ["self"] (sp_M_things_held L.c):=by
 refine L.M_things_held.F.ok sc_M_things_held (fun vs H Q E h=>?_) (fun cdv A outer s H vs Q E hr h=>?_)
 ·obtain ⟨P,S,rfl,M,wf,hl,k⟩:=h
  rfl
 ·obtain ⟨P,S,rfl,M,wf,hl,k⟩:=h
  have hu:=hu_of hr
  refine ⟨_,(pss_one (ps_ret (pe_thaw (pe_comp rfl (ck0 rfl) (pi_values (pe_fld (pv 0) rfl)) (fun _ _ _ _=>(pts_one (pt_val (pe_callB (id:="isinstance") (call_isiK (K:=K) rfl) (by rfl) L.zisinstance bt_isinstance (pa_cons (pv 0) (pa_cons (pe_glob (v:=.ref L.c.T) rfl L.gT rfl) pa_nil)))))) (fun _ _ _ _=>(pv 0)))))),?_⟩
  obtain ⟨dx,hm⟩:=M.mem
  have ev : (S.hands.map P.kv).map (·.2) = (S.hands.map (·.2)).map P.v:=by rw [List.map_map,List.map_map]; rfl
  refine ⟨P.d,_,M.hd,_,rfl,_,_,_,_,_,rfl,hm,L.cM,L.nM_hands,mfl_hands _ _,P.d,_,rfl,M.hd,fun o=>?_⟩
  have ln : ((S.hands.map P.kv).map (·.2)).length = S.hands.length:=by rw [List.length_map,List.length_map]
  refine ⟨fun i m ys H2=>H2 = upd H P.d (.frz o (.dK (S.hands.map P.kv))) /\ m = S.hands.length - i /\ i <= S.hands.length /\ ys = (((S.hands.map (·.2)).take i).filter isTh).map P.v,⟨_,rfl,rfl,Nat.zero_le _,rfl⟩,?_⟩
  rintro i m ys H2 ⟨rfl,rfl,hi,rfl⟩
  refine ⟨?_,?_⟩
  ·have:=List.length_filter_le isTh ((S.hands.map (·.2)).take i)
   rw [List.length_take,List.length_map] at this
   rw [List.length_map]
   exact small1000 (by omega)
  by_cases hlt : i < S.hands.length
  ·refine .inr ⟨⟨⟨_,upd_same⟩,by rw [ln]; exact hlt⟩,?_⟩
   rintro x H' ⟨rfl,hx⟩
   rw [ev] at hx
   obtain ⟨v,hv,rfl⟩:=get_map hx
   obtain ⟨ty,ty1,ty2⟩:=L.isTy' (H:=upd H P.d (.frz o (.dK (S.hands.map P.kv)))) (P:=P) (v:=v) fun j e=>by
    subst e
    obtain ⟨h',e'⟩:=mem_hands.mp (List.mem_of_getElem? hv)
    have hj:=wf.hv h' j e'
    obtain ⟨dt,ht⟩:=M.th j hj
    exact ⟨dt,_,by rw [upd_ne (M.adn hj)]; exact ht⟩
   refine ⟨_,rfl,_,_,ty,_,rfl,.inl ⟨_,rfl,ty1⟩,ty2,_,rfl,?_⟩
   have et : (S.hands.map (·.2)).take (i + 1) = (S.hands.map (·.2)).take i ++ [v]:=by rw [List.take_add_one,hv]; rfl
   cases v with
   | num z=>exact iteF ⟨S.hands.length - (i + 1),by omega,rfl,rfl,hlt,by rw [et,List.filter_append,List.map_append]; first | rfl | exact (List.append_nil _).symm⟩
   | thing z=>exact iteT ⟨_,rfl,S.hands.length - (i + 1),by omega,rfl,rfl,hlt,by rw [et,List.filter_append,List.map_append]; first | rfl | exact (List.append_nil _).symm⟩
  ·have hie : i = S.hands.length:=by omega
   refine .inl ⟨⟨⟨_,upd_same⟩,by rw [ln]; omega⟩,fun D hD=>?_⟩
   have nD : D ≠ P.d:=fun e=>by rw [e,upd_same] at hD; cases hD
   rw [upd_ne nD] at hD
   refine ⟨o,by rw [upd_ne nD.symm,upd_same],?_⟩
   refine k D _ hD ?_ fun b u e=>?_
   ·rw [upd_ne nD,upd_same]
    have : (S.hands.map (·.2)).take i = S.hands.map (·.2):=by rw [hie]; exact List.take_of_length_le (by rw [List.length_map]; exact Nat.le_refl _)
    rw [this]
   ·by_cases hb : b = P.d
    ·subst hb; rw [upd_same,<- M.hd]; exact e
    ·rw [upd_ne hb,upd_ne (ne_of_none e hD),upd_ne hb]; exact e
end
end GH
namespace GH
open PySem L2
section
def sp_S_least_from_finger (c : CA) : Sp:=fun vs H Q _=>∃ (P : Pl) (S : Hs) (f : Int),vs = [.ref P.s] /\ At c H P S /\ Wf S /\ S.finger = some f /\ Q (optR P (S.leastFrom f)) H
theorem sc_S_least_from_finger : FnScope ["self","thing"] ["self"] (defScope sS_least_from_finger):=⟨rfl,rfl,rfl,by decide +kernel,rfl,by decide +kernel,by decide +kernel⟩
theorem ok_S_least_from_finger (L : Lk K mg) : FnOk PR w K mg base CX0 1 L.S_least_from_finger.f L.S_least_from_finger.d ["self"] (sp_S_least_from_finger L.c):=by
 refine L.S_least_from_finger.F.ok sc_S_least_from_finger (fun vs H Q E h=>?_) (fun cdv A outer s H vs Q E hr h=>?_)
 ·obtain ⟨P,S,f,rfl,M,wf,hf,k⟩:=h
  rfl
 ·obtain ⟨P,S,f,rfl,M,wf,hf,k⟩:=h
  have hu:=hu_of hr
  refine ⟨_,(pss_cons (ps_for PassesOwn.never rfl (pi_list (pe_fld (pe_fld (pv 0) rfl) rfl)) (pg_name (i:=1) sc_S_least_from_finger.nd rfl (Or.inl rfl))
    (pss_one (ps_if (pt_cmpR op_ge (pe_fld (pv 1) rfl) (pe_fld (pv 0) rfl) (nomark _))
    (pss_one (ps_ret (pv 1)))
    pss_nil)))
   (pss_one (ps_ret pe_non))),?_⟩
  obtain ⟨dx,hm⟩:=M.mem
  obtain ⟨ds,hs⟩:=M.sw
  refine ⟨_,rfl,_,_,_,_,_,rfl,hs,L.cS,L.nS_memory,sfl_memory _ _ _,_,_,_,_,_,rfl,hm,L.cM,L.nM_things,mfl_things _ _,P.l,rfl,⟨_,SqL.of M.ls⟩,for_list (K:=K) (a:=P.l) (xs:=S.things.map fun k=>V.ref (P.ad k)) (fun i σ H2=>H2 = H /\ ∃ v,σ = [some (.ref P.s),v] /\ (S.things.drop i).find? (fun k=>decide (f <= (S.th k).place)) = S.leastFrom f)
   ⟨rfl,none,rfl,rfl⟩ (fun i σ H2 _ ⟨e,_⟩=>by rw [e]; exact SqL.of M.ls) ?_ ?_⟩
  ·rintro i y σ H2 hi ⟨rfl,v,rfl,e⟩
   rw [List.getElem?_map] at hi
   cases eg : S.things[i]? with
   | none=>rw [eg] at hi; cases hi
   | some j =>
    rw [eg] at hi
    cases hi
    have hj : j < S.n:=wf.tv j (List.mem_of_getElem? eg)
    obtain ⟨dt,ht⟩:=M.th j hj
    have hlt : i < S.things.length:=(List.getElem?_eq_some_iff.mp eg).1
    have hd : S.things.drop i = j :: S.things.drop (i + 1):=by
     rw [List.drop_eq_getElem_cons hlt]
     congr 1
     exact (List.getElem?_eq_some_iff.mp eg).2
    rw [hd,List.find?_cons] at e
    refine ⟨_,rfl,_,_,_,_,_,rfl,ht,L.cT,L.nT_place,tfl_place _ _ _,_,rfl,_,_,_,_,_,rfl,hs,L.cS,L.nS_finger_place,sfl_finger _ _ _,_,f,rfl,(by rw [hf]; rfl),_,rfl,?_⟩
    cases ec : decide (f <= (S.th j).place) with
    | true =>
     rw [ec] at e
     refine iteT ⟨_,rfl,?_⟩
     rw [<- e] at k
     exact k
    | false =>
     rw [ec] at e
     exact iteF ⟨rfl,_,rfl,e⟩
  ·rintro σ H2 ⟨rfl,v,rfl,e⟩
   rw [List.length_map,List.drop_eq_nil_of_le (Nat.le_refl _)] at e
   rw [<- e] at k
   exact k
end
end GH
namespace GH
open PySem L2
section
def sp_S_least_grey (c : CA) : Sp:=fun vs H Q _=>∃ (P : Pl) (S : Hs),vs = [.ref P.s] /\ At c H P S /\ Wf S /\ Q (optR P S.leastGrey) H
theorem sc_S_least_grey : FnScope ["self","thing"] ["self"] (defScope sS_least_grey):=⟨rfl,rfl,rfl,by decide +kernel,rfl,by decide +kernel,by decide +kernel⟩
theorem ok_S_least_grey (L : Lk K mg) : FnOk PR w K mg base CX0 1 L.S_least_grey.f L.S_least_grey.d ["self"] (sp_S_least_grey L.c):=by
 refine L.S_least_grey.F.ok sc_S_least_grey (fun vs H Q E h=>?_) (fun cdv A outer s H vs Q E hr h=>?_)
 ·obtain ⟨P,S,rfl,M,wf,k⟩:=h
  rfl
 ·obtain ⟨P,S,rfl,M,wf,k⟩:=h
  have hu:=hu_of hr
  refine ⟨_,(pss_cons (ps_for PassesOwn.never rfl (pi_list (pe_fld (pe_fld (pv 0) rfl) rfl)) (pg_name (i:=1) sc_S_least_grey.nd rfl (Or.inl rfl))
    (pss_one (ps_if (pt_cmpR op_eq (pe_fld (pv 1) rfl) (pe_glob (v:=.str "grey") rfl L.gGREY ⟨_,rfl⟩) (nomark _))
    (pss_one (ps_ret (pv 1)))
    pss_nil)))
   (pss_one (ps_ret pe_non))),?_⟩
  obtain ⟨dx,hm⟩:=M.mem
  obtain ⟨ds,hs⟩:=M.sw
  refine ⟨_,rfl,_,_,_,_,_,rfl,hs,L.cS,L.nS_memory,sfl_memory _ _ _,_,_,_,_,_,rfl,hm,L.cM,L.nM_things,mfl_things _ _,P.l,rfl,⟨_,SqL.of M.ls⟩,for_list (K:=K) (a:=P.l) (xs:=S.things.map fun k=>V.ref (P.ad k)) (fun i σ H2=>H2 = H /\ ∃ v,σ = [some (.ref P.s),v] /\ (S.things.drop i).find? (fun k=>decide ((S.th k).colour = .grey)) = S.leastGrey)
   ⟨rfl,none,rfl,rfl⟩ (fun i σ H2 _ ⟨e,_⟩=>by rw [e]; exact SqL.of M.ls) ?_ ?_⟩
  ·rintro i y σ H2 hi ⟨rfl,v,rfl,e⟩
   rw [List.getElem?_map] at hi
   cases eg : S.things[i]? with
   | none=>rw [eg] at hi; cases hi
   | some j =>
    rw [eg] at hi
    cases hi
    have hj : j < S.n:=wf.tv j (List.mem_of_getElem? eg)
    obtain ⟨dt,ht⟩:=M.th j hj
    have hlt : i < S.things.length:=(List.getElem?_eq_some_iff.mp eg).1
    have hd : S.things.drop i = j :: S.things.drop (i + 1):=by
     rw [List.drop_eq_getElem_cons hlt]
     congr 1
     exact (List.getElem?_eq_some_iff.mp eg).2
    rw [hd,List.find?_cons] at e
    refine ⟨_,rfl,_,_,_,_,_,rfl,ht,L.cT,L.nT_colour,tfl_colour _ _ _,rfl,_,rfl,?_⟩
    have e1 : decide (V.str (S.th j).colour.s = V.str "grey") = decide ((S.th j).colour = .grey):=dec_col _ .grey
    rw [e1]
    cases ec : decide ((S.th j).colour = .grey) with
    | true =>
     rw [ec] at e
     refine iteT ⟨_,rfl,?_⟩
     rw [<- e] at k
     exact k
    | false =>
     rw [ec] at e
     exact iteF ⟨rfl,_,rfl,e⟩
  ·rintro σ H2 ⟨rfl,v,rfl,e⟩
   rw [List.length_map,List.drop_eq_nil_of_le (Nat.le_refl _)] at e
   rw [<- e] at k
   exact k
end
end GH
namespace GH
open PySem L2
section
def sp_S_change_stage (c : CA) : Sp:=fun vs H Q _=>∃ (P : Pl) (S : Hs),vs = [.ref P.s] /\ At c H P S /\ Wf S /\ (S.stage = .sweep -> ∃ f,S.finger = some f) /\ Go c P S.n H S.change (Q .non)
theorem sc_S_change_stage : FnScope ["self"] ["self"] (defScope sS_change_stage):=⟨rfl,rfl,rfl,by decide +kernel,rfl,by decide +kernel,by decide +kernel⟩
theorem ok_S_change_stage (L : Lk K mg) : FnOk PR w K mg base CX0 2 L.S_change_stage.f L.S_change_stage.d ["self"] (sp_S_change_stage L.c):=by
 refine L.S_change_stage.F.ok sc_S_change_stage (fun vs H Q E h=>?_) (fun cdv A outer s H vs Q E hr h=>?_)
 ·obtain ⟨P,S,rfl,M,wf,hfg,q⟩:=h
  rfl
 ·obtain ⟨P,S,rfl,M,wf,hfg,q⟩:=h
  have hu:=hu_of hr
  refine ⟨_,(pss_cut (ps_if (PW.pt (pw_and (pt_cmpR op_eq (pe_fld (pv 0) rfl) (pe_glob (v:=.str "mark") rfl L.gMARK ⟨_,rfl⟩) (nomark _)) (pw_and1 (pt_cmp (pc_isN (pe_meth0 (pv 0) L.cS L.S_least_grey.m (ok_S_least_grey L) (hr.mono (by decide)) L.S_least_grey.b .nil pass0))))))
    (pss_cons (ps_fld (pv 0) (pe_glob (v:=.str "sweep") rfl L.gSWEEP ⟨_,rfl⟩) rfl)
   (pss_one (ps_fld (pv 0) pe_int rfl)))
    pss_nil)
   (pss_one (ps_if (PW.pt (pw_and (pt_cmpR op_eq (pe_fld (pv 0) rfl) (pe_glob (v:=.str "sweep") rfl L.gSWEEP ⟨_,rfl⟩) (nomark _)) (pw_and1 (pt_cmp (pc_isN (pe_meth0 (pv 0) L.cS L.S_least_from_finger.m (ok_S_least_from_finger L) (hr.mono (by decide)) L.S_least_from_finger.b .nil pass0))))))
    (pss_cons (ps_fld (pv 0) (pe_glob (v:=.str "idle") rfl L.gIDLE ⟨_,rfl⟩) rfl)
   (pss_one (ps_fld (pv 0) pe_non rfl)))
    pss_nil))),?_⟩
  obtain ⟨ds,hs⟩:=M.sw
  refine ⟨fun σ3 H3=>σ3 = [some (.ref P.s)] /\ At L.c H3 P S.toSweep /\ Kp P S.n H H3,?_,?_⟩
  ·refine ⟨_,rfl,_,_,_,_,_,rfl,hs,L.cS,L.nS_stage,sfl_stage _ _ _,rfl,_,rfl,?_⟩
   have e : decide (V.str S.stage.s = V.str "mark") = decide (S.stage = .mark):=dec_stg _ .mark
   rw [e]
   refine ite2 (fun h1=>?_) (fun h1=>?_)
   ·have h1':=of_decide_eq_true h1
    refine ⟨_,rfl,_,_,_,rfl,hs,(sfl_no _ _ _ (by decide +kernel) (by decide +kernel) (by decide +kernel)),P,S,rfl,M,wf,_,rfl,?_⟩
    cases eg : S.leastGrey with
    | some j =>
     have et : S.toSweep = S:=by unfold Hs.toSweep; rw [if_neg (fun z=>by rw [eg] at z; exact nomatch z.2)]
     rw [et]
     exact iteF ⟨rfl,M,Kp.rfl⟩
    | none =>
     have et : S.toSweep = { S with stage:=.sweep,finger:=some 0 }:=by unfold Hs.toSweep; rw [if_pos ⟨h1',eg⟩]
     rw [et]
     refine iteT ⟨_,rfl,_,_,_,_,rfl,hs,L.cS,L.nS_stage,(by show 3 < 1000; decide),?_⟩
     have e2 : putF "stage" (.str "sweep") (sfl P S.stage S.finger) = sfl P .sweep S.finger:=put_stage _ _ _ .sweep
     rw [e2]
     refine ⟨_,rfl,_,_,_,_,rfl,upd_same,L.cS,L.nS_finger_place,(by show 3 < 1000; decide),?_⟩
     have e3 : putF "finger_place" (.int 0) (sfl P .sweep S.finger) = sfl P .sweep (some 0):=put_finger _ _ _ (some 0)
     rw [e3,upd_upd]
     exact ⟨rfl,M.stage .sweep (some 0),.upd (.inl (own_s (S:=S)))⟩
   ·have et : S.toSweep = S:=by unfold Hs.toSweep; rw [if_neg (fun z=>h1 (decide_eq_true z.1))]
    rw [et]
    exact iteF ⟨rfl,M,Kp.rfl⟩
  ·rintro σ3 H3 ⟨rfl,M3,k3⟩
   obtain ⟨ds3,hs3⟩:=M3.sw
   have hn3 : S.toSweep.n = S.n:=by unfold Hs.toSweep; split <;> rfl
   have ht3 : S.toSweep.things = S.things:=by unfold Hs.toSweep; split <;> rfl
   have wf3 : Wf S.toSweep:=by unfold Hs.toSweep; split <;> exact ⟨wf.hv,wf.fv,wf.tv,wf.nd,wf.fl,wf.hn⟩
   have hfg3 : S.toSweep.stage = .sweep -> ∃ f,S.toSweep.finger = some f:=by
    unfold Hs.toSweep
    split
    ·exact fun _=>⟨0,rfl⟩
    ·exact hfg
   unfold Hs.change at q
   generalize S.toSweep = S3 at *
   refine ⟨_,rfl,_,_,_,_,_,rfl,hs3,L.cS,L.nS_stage,sfl_stage _ _ _,rfl,_,rfl,?_⟩
   have e : decide (V.str S3.stage.s = V.str "sweep") = decide (S3.stage = .sweep):=dec_stg _ .sweep
   rw [e]
   unfold Hs.toIdle at q
   refine ite2 (fun h1=>?_) (fun h1=>?_)
   ·have h1':=of_decide_eq_true h1
    obtain ⟨f,hf⟩:=hfg3 h1'
    have hfgv : S3.fg = f:=by unfold Hs.fg; rw [hf]; rfl
    rw [hfgv] at q
    refine ⟨_,rfl,_,_,_,rfl,hs3,(sfl_no _ _ _ (by decide +kernel) (by decide +kernel) (by decide +kernel)),P,S3,f,rfl,M3,wf3,hf,_,rfl,?_⟩
    cases eg : S3.leastFrom f with
    | some j =>
     rw [if_neg (fun z=>by rw [eg] at z; exact nomatch z.2)] at q
     exact iteF (q _ M3 k3)
    | none =>
     rw [if_pos ⟨h1',eg⟩] at q
     refine iteT ⟨_,rfl,_,_,_,_,rfl,hs3,L.cS,L.nS_stage,(by show 3 < 1000; decide),?_⟩
     have e2 : putF "stage" (.str "idle") (sfl P S3.stage S3.finger) = sfl P .idle S3.finger:=put_stage _ _ _ .idle
     rw [e2]
     refine ⟨_,rfl,_,_,_,_,rfl,upd_same,L.cS,L.nS_finger_place,(by show 3 < 1000; decide),?_⟩
     have e3 : putF "finger_place" .non (sfl P .idle S3.finger) = sfl P .idle none:=put_finger _ _ _ none
     rw [e3,upd_upd]
     exact q _ (M3.stage .idle none) (k3.trans (.upd (.inl (own_s (S:=S)))))
   ·rw [if_neg (fun z=>h1 (decide_eq_true z.1))] at q
    exact iteF (q _ M3 k3)
end
end GH
namespace GH
open PySem L2
section
def sp_S_refuse_during_sweep (c : CA) : Sp:=fun vs H Q E=>∃ (P : Pl) (S : Hs),vs = [.ref P.s] /\ At c H P S /\ (S.stage = .idle -> Q .non H) /\ (S.stage ≠ .idle -> E (.ref c.nn) none H)
theorem sc_S_refuse_during_sweep : FnScope ["self"] ["self"] (defScope sS_refuse_during_sweep):=⟨rfl,rfl,rfl,by decide +kernel,rfl,by decide +kernel,by decide +kernel⟩
theorem ok_S_refuse_during_sweep (L : Lk K mg) : FnOk PR w K mg base (CXE PR w) 1 L.S_refuse_during_sweep.f L.S_refuse_during_sweep.d ["self"] (sp_S_refuse_during_sweep L.c):=by
 refine L.S_refuse_during_sweep.F.okE sc_S_refuse_during_sweep (fun vs H Q E h=>?_) (fun cdv A outer s H vs Q E hr h=>?_)
 ·obtain ⟨P,S,rfl,M,k1,k2⟩:=h
  rfl
 ·obtain ⟨P,S,rfl,M,k1,k2⟩:=h
  have hu:=hu_of hr
  refine ⟨_,(pss_one (ps_if (pt_cmpR op_ne (pe_fld (pv 0) rfl) (pe_glob (v:=.str "idle") rfl L.gIDLE ⟨_,rfl⟩) (nomark _))
    (pss_one (ps_raise rfl rfl L.gnn L.xnn PySem.F.excBase_ValueError raises_cx (pa_cons pe_str pa_nil)))
    pss_nil)),?_⟩
  obtain ⟨ds,hs⟩:=M.sw
  refine ⟨_,rfl,_,_,_,_,_,rfl,hs,L.cS,L.nS_stage,sfl_stage _ _ _,rfl,_,rfl,?_⟩
  have e : decide (V.str S.stage.s = V.str "idle") = decide (S.stage = .idle):=dec_stg _ .idle
  rw [e]
  by_cases h : S.stage = .idle
  ·rw [decide_eq_true h]; exact iteF (k1 h)
  ·rw [decide_eq_false h]; exact iteT ⟨(by decide),k2 h⟩
end
end GH
namespace GH
open PySem L2
section
def sp_make_grey (c : CA) : Sp:=fun vs H Q _=>∃ (P : Pl) (S : Hs) (v : Vl),vs = [P.v v] /\ At c H P S /\ GoodV S v /\ Go c P S.n H (S.makeGrey v) (Q .non)
theorem sc_make_grey : FnScope ["value"] ["value"] (defScope smake_grey):=⟨rfl,rfl,rfl,by decide +kernel,rfl,by decide +kernel,by decide +kernel⟩
theorem ok_make_grey (L : Lk K mg) : FnOk PR w K mg base CX0 1 L.make_grey.f L.make_grey.d ["value"] (sp_make_grey L.c):=by
 refine L.make_grey.F.ok sc_make_grey (fun vs H Q E h=>?_) (fun cdv A outer s H vs Q E hr h=>?_)
 ·obtain ⟨P,S,v,rfl,M,hv,k⟩:=h
  rfl
 ·obtain ⟨P,S,v,rfl,M,hv,k⟩:=h
  have hu:=hu_of hr
  refine ⟨_,(pss_one (ps_if (PW.pt (pw_and (pt_val (pe_callB (id:="isinstance") call_isi (by rfl) L.zisinstance bt_isinstance (pa_cons (pv 0) (pa_cons (pe_glob (v:=.ref L.c.T) rfl L.gT rfl) pa_nil)))) (pw_and1 (pt_cmpR op_eq (pe_fld (pv 0) rfl) (pe_glob (v:=.str "white") rfl L.gWHITE ⟨_,rfl⟩) (nomark _)))))
    (pss_one (ps_fld (pv 0) (pe_glob (v:=.str "grey") rfl L.gGREY ⟨_,rfl⟩) rfl))
    pss_nil)),?_⟩
  obtain ⟨ty,ty1,ty2⟩:=L.isTy M hv
  refine ⟨_,rfl,_,_,ty,_,rfl,.inl ⟨_,rfl,ty1⟩,ty2,_,rfl,?_⟩
  cases v with
  | num i=>exact iteF (iteF (k _ M (Kp.rfl)))
  | thing j =>
   have hj:=hv j rfl
   obtain ⟨dt,ht⟩:=M.th j hj
   refine iteT ?_
   refine ⟨_,rfl,_,_,_,_,_,rfl,ht,L.cT,L.nT_colour,tfl_colour _ _ _,rfl,_,rfl,?_⟩
   have e : decide (V.str (S.th j).colour.s = V.str "white") = decide ((S.th j).colour = .white):=dec_col _ .white
   rw [e]
   unfold Go Hs.makeGrey at k
   dsimp only at k
   refine ite2 (fun h1=>?_) (fun h1=>?_)
   ·rw [if_pos (of_decide_eq_true h1)] at k
    refine ⟨_,rfl,_,_,_,_,rfl,ht,L.cT,L.nT_colour,(by show 3 < 1000; decide),?_⟩
    have e2 : putF "colour" (.str "grey") (tfl (P.fl j) (.int (S.th j).place) (S.th j).colour) = tfl (P.fl j) (.int (S.th j).place) .grey:=put_colour _ _ _ .grey
    rw [e2]
    exact k _ (M.thing (T:={ S.th j with colour:=.grey }) hj rfl) (.upd (.inl (own_a hj)))
   ·rw [if_neg (fun z=>h1 (decide_eq_true z))] at k
    exact k _ M (Kp.rfl)
end
end GH
namespace GH
open PySem L2
section
def sp_S_begin (c : CA) : Sp:=fun vs H Q E=>∃ (P : Pl) (S : Hs),vs = [.ref P.s] /\ At c H P S /\ Ok S /\ S.hands.length <= 1000 /\ (S.stage = .idle -> Go c P S.n H S.begin (Q .non)) /\ (S.stage ≠ .idle -> E (.ref c.nn) none H)
theorem sc_S_begin : FnScope ["self","thing"] ["self"] (defScope sS_begin):=⟨rfl,rfl,rfl,by decide +kernel,rfl,by decide +kernel,by decide +kernel⟩
theorem ok_S_begin (L : Lk K mg) : FnOk PR w K mg base (CXE PR w) 3 L.S_begin.f L.S_begin.d ["self"] (sp_S_begin L.c):=by
 refine L.S_begin.F.okE sc_S_begin (fun vs H Q E h=>?_) (fun cdv A outer s H vs Q E hr h=>?_)
 ·obtain ⟨P,S,rfl,M,ok,hz,q1,q2⟩:=h
  rfl
 ·obtain ⟨P,S,rfl,M,ok,hz,q1,q2⟩:=h
  have hu:=hu_of hr
  refine ⟨_,(pss_cons (ps_expr (pe_meth0 (pv 0) L.cS L.S_refuse_during_sweep.m (ok_S_refuse_during_sweep L) (hr.mono (by decide)) L.S_refuse_during_sweep.b .nil passes_cx))
   (pss_cons (ps_fld (pv 0) (pe_glob (v:=.str "mark") rfl L.gMARK ⟨_,rfl⟩) rfl)
   (pss_cons (PS_nox (ps_for PassesOwn.never rfl (pi_list (pe_meth0 (pe_fld (pv 0) rfl) L.cM L.M_things_held.m (ok_M_things_held L) (hr.mono (by decide)) L.M_things_held.b .nil pass0)) (pg_name (i:=1) sc_S_begin.nd rfl (Or.inl rfl))
    (pss_one (ps_expr (pe_call (ok_make_grey L) (hr.mono (by decide)) rfl L.make_grey.g L.make_grey.F.kp L.make_grey.b .nil pass0 (pa_cons (pv 1) pa_nil))))))
   (pss_one (ps_expr (pe_meth0 (pv 0) L.cS L.S_change_stage.m (ok_S_change_stage L) (hr.mono (by decide)) L.S_change_stage.b .nil pass0)))))),?_⟩
  obtain ⟨ds,hs⟩:=M.sw
  refine ⟨_,rfl,_,_,_,rfl,hs,(sfl_no _ _ _ (by decide +kernel) (by decide +kernel) (by decide +kernel)),P,S,rfl,M,fun hi=>?_,fun hi=>q2 hi⟩
  have q:=q1 hi
  refine ⟨_,rfl,_,_,_,_,rfl,hs,L.cS,L.nS_stage,(by show 3 < 1000; decide),?_⟩
  have e2 : putF "stage" (.str "mark") (sfl P S.stage S.finger) = sfl P .mark S.finger:=put_stage _ _ _ .mark
  rw [e2]
  have M1:=M.stage .mark S.finger (dx:=ds)
  have k1 : Kp P S.n H (upd H P.s (.ins L.c.S ds (sfl P .mark S.finger))):=.upd (.inl (own_s (S:=S)))
  generalize upd H P.s (.ins L.c.S ds (sfl P .mark S.finger)) = H1 at M1 k1 ⊢
  obtain ⟨dx1,hm1⟩:=M1.mem
  obtain ⟨ds1,hs1⟩:=M1.sw
  have wf1 : Wf { S with stage:=.mark,finger:=S.finger }:=⟨ok.wf.hv,ok.wf.fv,ok.wf.tv,ok.wf.nd,ok.wf.fl,ok.wf.hn⟩
  refine ⟨_,rfl,_,_,_,_,_,rfl,hs1,L.cS,L.nS_memory,sfl_memory _ _ _,_,_,_,rfl,hm1,(mfl_no _ _ (by decide +kernel) (by decide +kernel) (by decide +kernel)),P,_,rfl,M1,wf1,hz,fun r H2 hr hr2 s2=>?_⟩
  have nr : ¬ Own P S.n r:=M1.fresh hr
  have M2 : At L.c H2 P { S with stage:=.mark,finger:=S.finger }:=M1.other fun b hb=>by
   obtain ⟨o,e⟩:=M1.there hb
   rw [e]; exact s2 b o e
  have k2 : Kp P S.n H H2:=k1.trans fun b o e _=>s2 b o e
  have shn : ∀ vs,(Hs.shadeAll { S with stage:=.mark,finger:=S.finger } vs).n = S.n:=fun vs=>by rw [shadeAll_eq]
  refine ⟨r,rfl,⟨_,SqL.of hr2⟩,for_list (K:=K) (a:=r) (xs:=((S.hands.map (·.2)).filter isTh).map P.v) (fun i σ H3=>∃ v,σ = [some (.ref P.s),v] /\ At L.c H3 P (Hs.shadeAll { S with stage:=.mark,finger:=S.finger } (((S.hands.map (·.2)).filter isTh).take i)) /\ Kp P S.n H H3 /\ H3 r = some (.lst (((S.hands.map (·.2)).filter isTh).map P.v)))
   ⟨none,rfl,M2,k2,hr2⟩ (fun i σ H3 _ ⟨_,_,_,_,h3⟩=>SqL.of h3) ?_ ?_⟩
  ·rintro i y σ H3 hi ⟨v,rfl,M3,k3,h3⟩
   obtain ⟨u,eg,rfl⟩:=get_map hi
   refine ⟨_,rfl,P,_,u,rfl,M3,fun j e=>?_,fun H4 M4 k4=>?_⟩
   ·subst e
    rw [shn]
    obtain ⟨h',e'⟩:=mem_hands.mp (List.mem_filter.mp (List.mem_of_getElem? eg)).1
    exact ok.wf.hv h' j e'
   ·rw [shn] at k4
    refine ⟨_,rfl,?_,k3.trans k4,k4 r _ h3 nr⟩
    have : ((S.hands.map (·.2)).filter isTh).take (i + 1) = ((S.hands.map (·.2)).filter isTh).take i ++ [u]:=by rw [List.take_add_one,eg]; rfl
    rw [this]
    unfold Hs.shadeAll at M4 ⊢
    rw [List.foldl_append]
    exact M4
  ·rintro σ H3 ⟨v,rfl,M3,k3,h3⟩
   rw [List.length_map,List.take_length,shade_filter] at M3
   obtain ⟨ds3,hs3⟩:=M3.sw
   have hn3:=shn (S.hands.map (·.2))
   have hst3 : (Hs.shadeAll { S with stage:=.mark,finger:=S.finger } (S.hands.map (·.2))).stage = .mark:=by rw [shadeAll_eq]
   have wf3 : Wf (Hs.shadeAll { S with stage:=.mark,finger:=S.finger } (S.hands.map (·.2))):=by
    rw [shadeAll_eq]
    exact wf1.of ⟨rfl,rfl,rfl,fun j=>shTh_fields ..⟩ (List.Sublist.refl _)
   refine ⟨_,rfl,_,_,_,rfl,hs3,(sfl_no _ _ _ (by decide +kernel) (by decide +kernel) (by decide +kernel)),P,_,rfl,M3,wf3,fun h=>?_,fun H4 M4 k4=>?_⟩
   ·rw [hst3] at h; cases h
   ·rw [hn3] at k4
    exact q _ M4 (k3.trans k4)
end
end GH
namespace GH
open PySem L2
section
def sp_H_begin (c : CA) : Sp:=fun vs H Q E=>∃ (hh : Addr) (P : Pl) (S : Hs),vs = [.ref hh] /\ HAt c H hh P S /\ Ok S /\ S.hands.length <= 1000 /\ (S.stage = .idle -> HGo c hh P S.n H S.begin (Q .non)) /\ (S.stage ≠ .idle -> E (.ref c.nn) none H)
theorem sc_H_begin : FnScope ["self"] ["self"] (defScope sH_begin):=⟨rfl,rfl,rfl,by decide +kernel,rfl,by decide +kernel,by decide +kernel⟩
theorem ok_H_begin (L : Lk K mg) : FnOk PR w K mg base (CXE PR w) 4 L.H_begin.f L.H_begin.d ["self"] (sp_H_begin L.c):=by
 refine L.H_begin.F.okE sc_H_begin (fun vs H Q E h=>?_) (fun cdv A outer s H vs Q E hr h=>?_)
 ·obtain ⟨hh,P,S,rfl,M,ok,hz,k,k2⟩:=h
  rfl
 ·obtain ⟨hh,P,S,rfl,M,ok,hz,k,k2⟩:=h
  have hu:=hu_of hr
  refine ⟨_,(pss_one (ps_expr (pe_meth0 (pe_fld (pv 0) rfl) L.cS L.S_begin.m (ok_S_begin L) (hr.mono (by decide)) L.S_begin.b .nil passes_cx))),?_⟩
  obtain ⟨dh,hh0⟩:=M.hall
  obtain ⟨dx,hm⟩:=M.at_.mem
  obtain ⟨ds,hs⟩:=M.at_.sw
  exact ⟨_,rfl,_,_,_,_,_,rfl,hh0,L.cH,L.nH_sweeper,hfl_sweeper _,_,_,_,rfl,hs,(sfl_no _ _ _ (by decide +kernel) (by decide +kernel) (by decide +kernel)),P,S,rfl,M.at_,ok,hz,fun e H1 M1 k1=>k e H1 (M.go M1 k1) k1,k2⟩
end
end GH
namespace GH
open PySem L2
section
def sp_M_hold (c : CA) : Sp:=fun vs H Q _=>∃ (P : Pl) (S : Hs) (h : Int) (v : Vl),vs = [.ref P.m,.int h,P.v v] /\ At c H P S /\ S.hands.length < 1000 /\ Go c P S.n H (S.hold h v) (Q .non)
theorem sc_M_hold : FnScope ["self","hand","value"] ["self","hand","value"] (defScope sM_hold):=⟨rfl,rfl,rfl,by decide +kernel,rfl,by decide +kernel,by decide +kernel⟩
theorem ok_M_hold (L : Lk K mg) : FnOk PR w K mg base CX0 1 L.M_hold.f L.M_hold.d ["self","hand","value"] (sp_M_hold L.c):=by
 refine L.M_hold.F.ok sc_M_hold (fun vs H Q E h=>?_) (fun cdv A outer s H vs Q E hr h=>?_)
 ·obtain ⟨P,S,h,v,rfl,M,hl,k⟩:=h
  rfl
 ·obtain ⟨P,S,h,v,rfl,M,hl,k⟩:=h
  have hu:=hu_of hr
  refine ⟨_,(pss_one (ps_dput hu (pe_fld (pv 0) rfl) (pv 1) (pv 2) rfl)),?_⟩
  obtain ⟨dx,hm⟩:=M.mem
  refine ⟨_,rfl,_,rfl,_,_,_,_,_,rfl,hm,L.cM,L.nM_hands,mfl_hands _ _,_,rfl,P.d,_,rfl,DPut.k (k:=Sum.inl h) M.hd (by rw [List.length_map]; exact small1000 (Nat.le_of_lt hl)),?_⟩
  rw [put_kv]
  exact k _ (M.hands _) (.upd (.inl (own_d (S:=S))))
end
end GH
namespace GH
open PySem L2
section
def sp_M_copy (c : CA) : Sp:=fun vs H Q _=>∃ (P : Pl) (S : Hs) (h o : Int),vs = [.ref P.m,.int h,.int o] /\ At c H P S /\ S.hands.length < 1000 /\ Go c P S.n H (S.hold h (S.held o)) (Q .non)
theorem sc_M_copy : FnScope ["self","hand","other"] ["self","hand","other"] (defScope sM_copy):=⟨rfl,rfl,rfl,by decide +kernel,rfl,by decide +kernel,by decide +kernel⟩
theorem ok_M_copy (L : Lk K mg) : FnOk PR w K mg base CX0 2 L.M_copy.f L.M_copy.d ["self","hand","other"] (sp_M_copy L.c):=by
 refine L.M_copy.F.ok sc_M_copy (fun vs H Q E h=>?_) (fun cdv A outer s H vs Q E hr h=>?_)
 ·obtain ⟨P,S,h,o,rfl,M,hl,k⟩:=h
  rfl
 ·obtain ⟨P,S,h,o,rfl,M,hl,k⟩:=h
  have hu:=hu_of hr
  refine ⟨_,(pss_one (ps_expr (pe_meth (pv 0) L.cM L.M_hold.m (ok_M_hold L) (hr.mono (by decide)) L.M_hold.b .nil pass0 (pa_cons (pv 1) (pa_cons (pe_meth (pv 0) L.cM L.M_held.m (ok_M_held L) (hr.mono (by decide)) L.M_held.b .nil pass0 (pa_cons (pv 2) pa_nil)) pa_nil))))),?_⟩
  obtain ⟨dx,hm⟩:=M.mem
  exact ⟨_,rfl,_,_,_,rfl,hm,(mfl_no _ _ (by decide +kernel) (by decide +kernel) (by decide +kernel)),_,rfl,_,rfl,_,_,_,rfl,hm,(mfl_no _ _ (by decide +kernel) (by decide +kernel) (by decide +kernel)),_,rfl,P,S,o,rfl,M,P,S,h,S.held o,rfl,M,hl,k⟩
end
end GH
namespace GH
open PySem L2
section
def sp_H_copy (c : CA) : Sp:=fun vs H Q E=>∃ (hh : Addr) (P : Pl) (S : Hs) (h o : Int),vs = [.ref hh,.int h,.int o] /\ HAt c H hh P S /\ S.hands.length < 1000 /\ HGo c hh P S.n H (S.hold h (S.held o)) (Q .non)
theorem sc_H_copy : FnScope ["self","hand","other"] ["self","hand","other"] (defScope sH_copy):=⟨rfl,rfl,rfl,by decide +kernel,rfl,by decide +kernel,by decide +kernel⟩
theorem ok_H_copy (L : Lk K mg) : FnOk PR w K mg base CX0 3 L.H_copy.f L.H_copy.d ["self","hand","other"] (sp_H_copy L.c):=by
 refine L.H_copy.F.ok sc_H_copy (fun vs H Q E h=>?_) (fun cdv A outer s H vs Q E hr h=>?_)
 ·obtain ⟨hh,P,S,h,o,rfl,M,hl,k⟩:=h
  rfl
 ·obtain ⟨hh,P,S,h,o,rfl,M,hl,k⟩:=h
  have hu:=hu_of hr
  refine ⟨_,(pss_one (ps_expr (pe_meth (pe_fld (pv 0) rfl) L.cM L.M_copy.m (ok_M_copy L) (hr.mono (by decide)) L.M_copy.b .nil pass0 (pa_cons (pv 1) (pa_cons (pv 2) pa_nil))))),?_⟩
  obtain ⟨dh,hh0⟩:=M.hall
  obtain ⟨dx,hm⟩:=M.at_.mem
  obtain ⟨ds,hs⟩:=M.at_.sw
  exact ⟨_,rfl,_,_,_,_,_,rfl,hh0,L.cH,L.nH_memory,hfl_memory _,_,_,_,rfl,hm,(mfl_no _ _ (by decide +kernel) (by decide +kernel) (by decide +kernel)),_,rfl,_,rfl,P,S,h,o,rfl,M.at_,hl,fun H1 M1 k1=>k H1 (M.go M1 k1) k1⟩
end
end GH
namespace GH
open PySem L2
section
def sp_S_mark_thing (c : CA) : Sp:=fun vs H Q _=>∃ (P : Pl) (S : Hs) (k : Nat),vs = [.ref P.s,.ref (P.ad k)] /\ At c H P S /\ Wf S /\ k < S.n /\ Go c P S.n H (S.markThing k) (Q .non)
theorem sc_S_mark_thing : FnScope ["self","thing","value"] ["self","thing"] (defScope sS_mark_thing):=⟨rfl,rfl,rfl,by decide +kernel,rfl,by decide +kernel,by decide +kernel⟩
theorem ok_S_mark_thing (L : Lk K mg) : FnOk PR w K mg base CX0 2 L.S_mark_thing.f L.S_mark_thing.d ["self","thing"] (sp_S_mark_thing L.c):=by
 refine L.S_mark_thing.F.ok sc_S_mark_thing (fun vs H Q E h=>?_) (fun cdv A outer s H vs Q E hr h=>?_)
 ·obtain ⟨P,S,k,rfl,M,wf,hk,q⟩:=h
  rfl
 ·obtain ⟨P,S,k,rfl,M,wf,hk,q⟩:=h
  have hu:=hu_of hr
  refine ⟨_,(pss_cons (ps_for PassesOwn.never rfl (pi_list (pe_fld (pv 1) rfl)) (pg_name (i:=2) sc_S_mark_thing.nd rfl (Or.inl rfl))
    (pss_one (ps_expr (pe_call (ok_make_grey L) (hr.mono (by decide)) rfl L.make_grey.g L.make_grey.F.kp L.make_grey.b .nil pass0 (pa_cons (pv 2) pa_nil)))))
   (pss_one (ps_fld (pv 1) (pe_glob (v:=.str "black") rfl L.gBLACK ⟨_,rfl⟩) rfl))),?_⟩
  obtain ⟨dt,ht⟩:=M.th k hk
  have hf:=M.fl k hk
  have shf : ∀ vs j,((S.shadeAll vs).th j).fields = (S.th j).fields:=fun vs j=>by rw [shadeAll_eq]; exact shTh_fields ..
  have shn : ∀ vs,(S.shadeAll vs).n = S.n:=fun vs=>by rw [shadeAll_eq]
  refine ⟨_,rfl,_,_,_,_,_,rfl,ht,L.cT,L.nT_fields,tfl_fields _ _ _,P.fl k,rfl,⟨_,SqL.of hf⟩,for_list (K:=K) (a:=P.fl k) (xs:=(S.th k).fields.map P.v) (fun i σ H2=>∃ v,σ = [some (.ref P.s),some (.ref (P.ad k)),v] /\ At L.c H2 P (S.shadeAll ((S.th k).fields.take i)) /\ Kp P S.n H H2)
   ⟨none,rfl,M,Kp.rfl⟩ (fun i σ H2 _ ⟨_,_,M2,_⟩=>?_) ?_ ?_⟩
  ·have:=M2.fl k (by rw [shn]; exact hk)
   rw [shf] at this
   exact SqL.of this
  ·rintro i y σ H2 hi ⟨v,rfl,M2,k2⟩
   obtain ⟨u,eg,rfl⟩:=get_map hi
   refine ⟨_,rfl,P,_,u,rfl,M2,fun j e=>?_,fun H3 M3 k3=>?_⟩
   ·subst e; rw [shn]; exact wf.fv k j hk (List.mem_of_getElem? eg)
   ·rw [shn] at k3
    refine ⟨_,rfl,?_,k2.trans k3⟩
    have : (S.th k).fields.take (i + 1) = (S.th k).fields.take i ++ [u]:=by rw [List.take_add_one,eg]; rfl
    rw [this]
    unfold Hs.shadeAll at M3 ⊢
    rw [List.foldl_append]
    exact M3
  ·rintro σ H2 ⟨v,rfl,M2,k2⟩
   rw [List.length_map,List.take_length] at M2
   have hk2 : k < (S.shadeAll (S.th k).fields).n:=by rw [shn]; exact hk
   obtain ⟨dt2,ht2⟩:=M2.th k hk2
   refine ⟨_,rfl,_,_,_,_,rfl,ht2,L.cT,L.nT_colour,(by show 3 < 1000; decide),?_⟩
   have e2 : putF "colour" (.str "black") (tfl (P.fl k) (.int ((S.shadeAll (S.th k).fields).th k).place) ((S.shadeAll (S.th k).fields).th k).colour) = tfl (P.fl k) (.int ((S.shadeAll (S.th k).fields).th k).place) .black:=put_colour _ _ _ .black
   rw [e2]
   refine q _ (M2.thing (T:={ (S.shadeAll (S.th k).fields).th k with colour:=.black }) hk2 rfl) (k2.trans (.upd (.inl (own_a hk))))
end
end GH
namespace GH
open PySem L2
section
def sp_M_take_away (c : CA) : Sp:=fun vs H Q _=>∃ (P : Pl) (S : Hs) (k : Nat),vs = [.ref P.m,.ref (P.ad k)] /\ At c H P S /\ Wf S /\ k ∈ S.things /\ Go c P S.n H { S with things:=S.things.erase k } (Q .non)
theorem sc_M_take_away : FnScope ["self","thing"] ["self","thing"] (defScope sM_take_away):=⟨rfl,rfl,rfl,by decide +kernel,rfl,by decide +kernel,by decide +kernel⟩
theorem ok_M_take_away (L : Lk K mg) : FnOk PR w K mg base CX0 1 L.M_take_away.f L.M_take_away.d ["self","thing"] (sp_M_take_away L.c):=by
 refine L.M_take_away.F.ok sc_M_take_away (fun vs H Q E h=>?_) (fun cdv A outer s H vs Q E hr h=>?_)
 ·obtain ⟨P,S,k,rfl,M,wf,hk,q⟩:=h
  rfl
 ·obtain ⟨P,S,k,rfl,M,wf,hk,q⟩:=h
  have hu:=hu_of hr
  refine ⟨_,(pss_one (ps_expr (pe_bm PySem.F.plainAttrs_list PySem.F.slot_list_remove PySem.F.type_list_remove (mt_removeR hu) (pe_fld (pv 0) rfl) (pa_cons (pv 1) pa_nil)))),?_⟩
  obtain ⟨dx,hm⟩:=M.mem
  have hls : H P.l = some (.lst ((S.things.map P.ad).map V.ref)):=by rw [M.ls,List.map_map]; rfl
  have hin : ∀ b ∈ P.ad k :: S.things.map P.ad,∃ dx fs,H b = some (.ins L.c.T dx fs):=fun b hb=>by
   rcases List.mem_cons.mp hb with rfl | hb
   ·obtain ⟨d,e⟩:=M.th k (wf.tv k hk); exact ⟨d,_,e⟩
   ·obtain ⟨j,hj,rfl⟩:=List.mem_map.mp hb
    obtain ⟨d,e⟩:=M.th j (wf.tv j hj); exact ⟨d,_,e⟩
  obtain ⟨j,hj,hno⟩ : ∃ j,S.things[j]? = some k /\ ∀ m,m < j -> S.things[m]? ≠ some k:=by
   refine ⟨S.things.idxOf k,?_,fun m hm e=>?_⟩
   ·rw [List.getElem?_eq_getElem (List.idxOf_lt_length_of_mem hk)]; simp
   ·have:=List.not_of_lt_findIdx (p:=(· == k)) hm
    obtain ⟨h1,h2⟩:=List.getElem?_eq_some_iff.mp e
    rw [h2] at this
    simp at this
  refine ⟨_,rfl,_,_,_,_,_,rfl,hm,L.cM,L.nM_things,mfl_things _ _,.inl ⟨rfl,_,SqL.of hls⟩,_,rfl,P.l,S.things.map P.ad,P.ad k,L.c.T,j,rfl,rfl,hls,L.cmp,hin,⟨?_,fun m hm e=>?_⟩,?_⟩
  ·rw [List.getElem?_map,hj]; rfl
  ·rw [List.getElem?_map] at e
   cases eg : S.things[m]? with
   | none=>rw [eg] at e; cases e
   | some i =>
    rw [eg] at e
    have e' : P.ad i = P.ad k:=Option.some.inj e
    have:=M.adi i k (wf.tv i (List.mem_of_getElem? eg)) (wf.tv k hk) e'
    subst this
    exact hno m hm eg
  ·have ee : ((S.things.map P.ad).eraseIdx j).map V.ref = (S.things.erase k).map fun k=>V.ref (P.ad k):=by
    rw [erase_map,List.map_map,List.erase_eq_eraseIdx]
    have hi : List.idxOf? k S.things = some j:=by
     rw [List.idxOf?,List.findIdx?_eq_some_iff_getElem]
     obtain ⟨h1,h2⟩:=List.getElem?_eq_some_iff.mp hj
     refine ⟨h1,by simp [h2],fun m hm=>?_⟩
     have:=hno m hm
     rw [List.getElem?_eq_getElem (by omega)] at this
     simp
     intro z
     exact this (by rw [z])
    rw [hi]
    rfl
   rw [ee]
   exact q _ (M.things _) (.upd (.inl (own_l (S:=S))))
end
end GH
namespace GH
open PySem L2
section
def sp_S_sweep_thing (c : CA) : Sp:=fun vs H Q _=>∃ (P : Pl) (S : Hs) (k : Nat),vs = [.ref P.s,.ref (P.ad k)] /\ At c H P S /\ Wf S /\ k ∈ S.things /\ Go c P S.n H (S.sweepThing k) (Q .non)
theorem sc_S_sweep_thing : FnScope ["self","thing"] ["self","thing"] (defScope sS_sweep_thing):=⟨rfl,rfl,rfl,by decide +kernel,rfl,by decide +kernel,by decide +kernel⟩
theorem ok_S_sweep_thing (L : Lk K mg) : FnOk PR w K mg base CX0 3 L.S_sweep_thing.f L.S_sweep_thing.d ["self","thing"] (sp_S_sweep_thing L.c):=by
 refine L.S_sweep_thing.F.ok sc_S_sweep_thing (fun vs H Q E h=>?_) (fun cdv A outer s H vs Q E hr h=>?_)
 ·obtain ⟨P,S,k,rfl,M,wf,hkm,q⟩:=h
  rfl
 ·obtain ⟨P,S,k,rfl,M,wf,hkm,q⟩:=h
  have hu:=hu_of hr
  refine ⟨_,(pss_cut (ps_if (pt_cmpR op_eq (pe_fld (pv 1) rfl) (pe_glob (v:=.str "white") rfl L.gWHITE ⟨_,rfl⟩) (nomark _))
    (pss_one (ps_expr (pe_meth (pe_fld (pv 0) rfl) L.cM L.M_take_away.m (ok_M_take_away L) (hr.mono (by decide)) L.M_take_away.b .nil pass0 (pa_cons (pv 1) pa_nil))))
    (pss_one (ps_fld (pv 1) (pe_glob (v:=.str "white") rfl L.gWHITE ⟨_,rfl⟩) rfl)))
   (pss_one (ps_fld (pv 0) (pe_meth0 (pv 1) L.cT L.T_behind.m (ok_T_behind L) (hr.mono (by decide)) L.T_behind.b .nil pass0) rfl))),?_⟩
  have hk:=wf.tv k hkm
  obtain ⟨dt,ht⟩:=M.th k hk
  obtain ⟨ds,hs⟩:=M.sw
  obtain ⟨dx,hm⟩:=M.mem
  refine ⟨fun σ3 H3=>σ3 = [some (.ref P.s),some (.ref (P.ad k))] /\ At L.c H3 P (if (S.th k).colour = .white then { S with things:=S.things.erase k } else S.paint k .white) /\ Kp P S.n H H3,?_,?_⟩
  ·refine ⟨_,rfl,_,_,_,_,_,rfl,ht,L.cT,L.nT_colour,tfl_colour _ _ _,rfl,_,rfl,?_⟩
   have e : decide (V.str (S.th k).colour.s = V.str "white") = decide ((S.th k).colour = .white):=dec_col _ .white
   rw [e]
   refine ite2 (fun h1=>?_) (fun h1=>?_)
   ·rw [if_pos (of_decide_eq_true h1)]
    exact ⟨_,rfl,_,_,_,_,_,rfl,hs,L.cS,L.nS_memory,sfl_memory _ _ _,_,_,_,rfl,hm,(mfl_no _ _ (by decide +kernel) (by decide +kernel) (by decide +kernel)),_,rfl,P,S,k,rfl,M,wf,hkm,fun H3 M3 k3=>⟨rfl,M3,k3⟩⟩
   ·rw [if_neg (fun z=>h1 (decide_eq_true z))]
    refine ⟨_,rfl,_,_,_,_,rfl,ht,L.cT,L.nT_colour,(by show 3 < 1000; decide),?_⟩
    have e2 : putF "colour" (.str "white") (tfl (P.fl k) (.int (S.th k).place) (S.th k).colour) = tfl (P.fl k) (.int (S.th k).place) .white:=put_colour _ _ _ .white
    rw [e2]
    exact ⟨rfl,M.thing (T:={ S.th k with colour:=.white }) hk rfl,.upd (.inl (own_a hk))⟩
  ·rintro σ3 H3 ⟨rfl,M3,k3⟩
   have hn3 : (if (S.th k).colour = .white then { S with things:=S.things.erase k } else S.paint k .white).n = S.n:=by split <;> rfl
   have hp3 : ((if (S.th k).colour = .white then { S with things:=S.things.erase k } else S.paint k .white).th k).place = (S.th k).place:=by
    split
    ·rfl
    ·rw [paint_th,if_pos rfl]
   have hf3 : ((if (S.th k).colour = .white then { S with things:=S.things.erase k } else S.paint k .white).th k).fields = (S.th k).fields:=by
    split
    ·rfl
    ·rw [paint_th,if_pos rfl]
   obtain ⟨dt3,ht3⟩:=M3.th k (by rw [hn3]; exact hk)
   have hl3:=M3.fl k (by rw [hn3]; exact hk)
   rw [hp3] at ht3
   rw [hf3] at hl3
   obtain ⟨ds3,hs3⟩:=M3.sw
   refine ⟨_,rfl,_,_,_,rfl,ht3,(tfl_no _ _ _ (by decide +kernel) (by decide +kernel) (by decide +kernel)),_,dt3,_,_,_,_,rfl,ht3,hl3,?_⟩
   refine ⟨_,rfl,_,_,_,_,rfl,hs3,L.cS,L.nS_finger_place,(by show 3 < 1000; decide),?_⟩
   rw [List.length_map]
   have e2 : putF "finger_place" (.int ((S.th k).place + (2 + (((S.th k).fields.length : Nat) : Int)))) (sfl P (if (S.th k).colour = .white then { S with things:=S.things.erase k } else S.paint k .white).stage (if (S.th k).colour = .white then { S with things:=S.things.erase k } else S.paint k .white).finger) = sfl P (if (S.th k).colour = .white then { S with things:=S.things.erase k } else S.paint k .white).stage (some (S.th k).behind):=put_finger _ _ _ (some (S.th k).behind)
   rw [e2]
   have e3 : S.sweepThing k = { (if (S.th k).colour = .white then { S with things:=S.things.erase k } else S.paint k .white) with finger:=some (S.th k).behind }:=by
    unfold Hs.sweepThing; split <;> rfl
   rw [e3] at q
   refine q _ (M3.stage _ _) (k3.trans (.upd (.inl (own_s (S:=S)))))
end
end GH
namespace GH
open PySem L2
section
def sp_S_do_part (c : CA) : Sp:=fun vs H Q _=>∃ (P : Pl) (S : Hs),vs = [.ref P.s] /\ At c H P S /\ Wf S /\ Ready S /\ S.stage ≠ .idle /\ Go c P S.n H S.part (Q .non)
theorem sc_S_do_part : FnScope ["self"] ["self"] (defScope sS_do_part):=⟨rfl,rfl,rfl,by decide +kernel,rfl,by decide +kernel,by decide +kernel⟩
theorem ok_S_do_part (L : Lk K mg) : FnOk PR w K mg base CX0 4 L.S_do_part.f L.S_do_part.d ["self"] (sp_S_do_part L.c):=by
 refine L.S_do_part.F.ok sc_S_do_part (fun vs H Q E h=>?_) (fun cdv A outer s H vs Q E hr h=>?_)
 ·obtain ⟨P,S,rfl,M,wf,rd,hni,q⟩:=h
  rfl
 ·obtain ⟨P,S,rfl,M,wf,rd,hni,q⟩:=h
  have hu:=hu_of hr
  refine ⟨_,(pss_cut (ps_if (pt_cmpR op_eq (pe_fld (pv 0) rfl) (pe_glob (v:=.str "mark") rfl L.gMARK ⟨_,rfl⟩) (nomark _))
    (pss_one (ps_expr (pe_meth (pv 0) L.cS L.S_mark_thing.m (ok_S_mark_thing L) (hr.mono (by decide)) L.S_mark_thing.b .nil pass0 (pa_cons (pe_meth0 (pv 0) L.cS L.S_least_grey.m (ok_S_least_grey L) (hr.mono (by decide)) L.S_least_grey.b .nil pass0) pa_nil))))
    (pss_one (ps_expr (pe_meth (pv 0) L.cS L.S_sweep_thing.m (ok_S_sweep_thing L) (hr.mono (by decide)) L.S_sweep_thing.b .nil pass0 (pa_cons (pe_meth0 (pv 0) L.cS L.S_least_from_finger.m (ok_S_least_from_finger L) (hr.mono (by decide)) L.S_least_from_finger.b .nil pass0) pa_nil)))))
   (pss_one (ps_expr (pe_meth0 (pv 0) L.cS L.S_change_stage.m (ok_S_change_stage L) (hr.mono (by decide)) L.S_change_stage.b .nil pass0)))),?_⟩
  obtain ⟨ds,hs⟩:=M.sw
  refine ⟨fun σ3 H3=>σ3 = [some (.ref P.s)] /\ At L.c H3 P S.part0 /\ Kp P S.n H H3,?_,?_⟩
  ·refine ⟨_,rfl,_,_,_,_,_,rfl,hs,L.cS,L.nS_stage,sfl_stage _ _ _,rfl,_,rfl,?_⟩
   have e : decide (V.str S.stage.s = V.str "mark") = decide (S.stage = .mark):=dec_stg _ .mark
   rw [e]
   unfold Hs.part0
   refine ite2 (fun h1=>?_) (fun h1=>?_)
   ·have h1':=of_decide_eq_true h1
    rw [if_pos h1']
    cases eg : S.leastGrey with
    | none=>exact absurd eg (rd.mr h1')
    | some j =>
     refine ⟨_,rfl,_,_,_,rfl,hs,(sfl_no _ _ _ (by decide +kernel) (by decide +kernel) (by decide +kernel)),_,rfl,_,_,_,rfl,hs,(sfl_no _ _ _ (by decide +kernel) (by decide +kernel) (by decide +kernel)),P,S,rfl,M,wf,?_⟩
     rw [eg]
     exact ⟨P,S,j,rfl,M,wf,wf.tv j (leastGrey_some eg).1,fun H3 M3 k3=>⟨rfl,M3,k3⟩⟩
   ·have h1' : ¬ S.stage = .mark:=fun z=>h1 (decide_eq_true z)
    have hsw : S.stage = .sweep:=by
     cases es : S.stage with
     | idle=>exact absurd es hni
     | mark=>exact absurd es h1'
     | sweep=>rfl
    rw [if_neg h1']
    obtain ⟨f,hf⟩:=rd.fg hsw
    have hfgv : S.fg = f:=by unfold Hs.fg; rw [hf]; rfl
    have r2:=rd.sw hsw
    rw [hfgv] at r2 ⊢
    cases eg : S.leastFrom f with
    | none=>exact absurd eg r2
    | some j =>
     refine ⟨_,rfl,_,_,_,rfl,hs,(sfl_no _ _ _ (by decide +kernel) (by decide +kernel) (by decide +kernel)),_,rfl,_,_,_,rfl,hs,(sfl_no _ _ _ (by decide +kernel) (by decide +kernel) (by decide +kernel)),P,S,f,rfl,M,wf,hf,?_⟩
     rw [eg]
     exact ⟨P,S,j,rfl,M,wf,(leastFrom_some eg).1,fun H3 M3 k3=>⟨rfl,M3,k3⟩⟩
  ·rintro σ3 H3 ⟨rfl,M3,k3⟩
   obtain ⟨ds3,hs3⟩:=M3.sw
   have hn3 : S.part0.n = S.n:=(Same.part0 S).n
   refine ⟨_,rfl,_,_,_,rfl,hs3,(sfl_no _ _ _ (by decide +kernel) (by decide +kernel) (by decide +kernel)),P,S.part0,rfl,M3,wf.of (.part0 S) (part0_sub S),fun h=>?_,fun H4 M4 k4=>?_⟩
   ·rw [part0_stage] at h
    unfold Hs.part0
    rw [if_neg (by rw [h]; decide)]
    cases e : S.leastFrom S.fg with
    | none=>exact absurd e (rd.sw h)
    | some k=>exact ⟨_,sweep_finger S k⟩
   ·rw [hn3] at k4
    exact q _ M4 (k3.trans k4)
end
end GH
namespace GH
open PySem L2
section
def sp_S_step (c : CA) : Sp:=fun vs H Q _=>∃ (P : Pl) (S : Hs) (n : Nat),vs = [.ref P.s,.int n] /\ At c H P S /\ Ok S /\ Go c P S.n H (S.steps n).1 (Q (.int (S.steps n).2))
theorem sc_S_step : FnScope ["self","n","done"] ["self","n"] (defScope sS_step):=⟨rfl,rfl,rfl,by decide +kernel,rfl,by decide +kernel,by decide +kernel⟩
theorem ok_S_step (L : Lk K mg) : FnOk PR w K mg base CX0 5 L.S_step.f L.S_step.d ["self","n"] (sp_S_step L.c):=by
 refine L.S_step.F.ok sc_S_step (fun vs H Q E h=>?_) (fun cdv A outer s H vs Q E hr h=>?_)
 ·obtain ⟨P,S,n,rfl,M,ok,q⟩:=h
  rfl
 ·obtain ⟨P,S,n,rfl,M,ok,q⟩:=h
  have hu:=hu_of hr
  refine ⟨_,(pss_cons (ps_set (i:=2) sc_S_step.nd rfl (Or.inl rfl) pe_int)
   (pss_cons (ps_while PassesOwn.never (PW.pt (pw_and (pt_cmpR op_lt (pv 2) (pv 1) (nomark _)) (pw_and1 (pt_cmpR op_ne (pe_fld (pv 0) rfl) (pe_glob (v:=.str "idle") rfl L.gIDLE ⟨_,rfl⟩) (nomark _)))))
    (pss_cons (ps_expr (pe_meth0 (pv 0) L.cS L.S_do_part.m (ok_S_do_part L) (hr.mono (by decide)) L.S_do_part.b .nil pass0))
   (pss_one (ps_aug (i:=2) sc_S_step.nd rfl (Or.inl rfl) pe_int ip_add))))
   (pss_one (ps_ret (pv 2))))),?_⟩
  refine ⟨fun m σ2 H2=>∃ (S1 : Hs) (d : Nat),σ2 = [some (.ref P.s),some (.int n),some (.int d)] /\ At L.c H2 P S1 /\ Kp P S.n H H2 /\ Ok S1 /\ S1.n = S.n /\ d <= n /\ S.steps n = ((S1.steps (n - d)).1,d + (S1.steps (n - d)).2) /\ m = n - d,
   ⟨n,S,0,rfl,M,Kp.rfl,ok,rfl,Nat.zero_le _,by simp,rfl⟩,?_⟩
  rintro m σ2 H2 ⟨S1,d,rfl,M1,k1,ok1,hn1,hd,es,rfl⟩
  obtain ⟨ds,hs⟩:=M1.sw
  refine ⟨_,rfl,_,rfl,_,_,rfl,rfl,_,rfl,?_⟩
  refine ite2 (fun h1=>?_) (fun h1=>?_)
  ·have h1' : (d : Int) < n:=of_decide_eq_true h1
   refine ⟨_,rfl,_,_,_,_,_,rfl,hs,L.cS,L.nS_stage,sfl_stage _ _ _,rfl,_,rfl,?_⟩
   have e : decide (V.str S1.stage.s = V.str "idle") = decide (S1.stage = .idle):=dec_stg _ .idle
   rw [e]
   by_cases hi : S1.stage = .idle
   ·rw [decide_eq_true hi]
    refine iteF ⟨_,rfl,?_⟩
    rw [steps_idle _ hi] at es
    rw [es] at q
    exact q _ M1 k1
   ·rw [decide_eq_false hi]
    refine iteT ⟨_,fun _ _ h=>h,?_⟩
    refine ⟨_,rfl,_,_,_,rfl,hs,(sfl_no _ _ _ (by decide +kernel) (by decide +kernel) (by decide +kernel)),P,S1,rfl,M1,ok1.wf,ok1.ready,hi,fun H3 M3 k3=>?_⟩
    refine ⟨_,rfl,_,_,rfl,rfl,n - (d + 1),(by omega),S1.part,d + 1,?_,M3,k1.trans (by rw [hn1] at k3; exact k3),ok1.part hi,(Same.part S1).n.trans hn1,(by omega),?_,rfl⟩
    ·simp
    ·obtain ⟨x,hx⟩ : ∃ x,n - d = x + 1:=⟨n - d - 1,by omega⟩
     rw [es,hx,steps_go _ hi,show n - (d + 1) = x by omega]
     simp only [Prod.mk.injEq,true_and]
     omega
  ·have h1' : ¬ (d : Int) < n:=fun z=>h1 (decide_eq_true z)
   refine iteF ⟨_,rfl,?_⟩
   have hd' : n - d = 0:=by omega
   rw [hd'] at es
   rw [es] at q
   exact q _ M1 k1
end
end GH
namespace GH
open PySem L2
section
def sp_S_finish (c : CA) : Sp:=fun vs H Q _=>∃ (P : Pl) (S : Hs),vs = [.ref P.s] /\ At c H P S /\ Ok S /\ Go c P S.n H S.finish.1 (Q (.int S.finish.2))
theorem sc_S_finish : FnScope ["self","done"] ["self"] (defScope sS_finish):=⟨rfl,rfl,rfl,by decide +kernel,rfl,by decide +kernel,by decide +kernel⟩
theorem ok_S_finish (L : Lk K mg) : FnOk PR w K mg base CX0 6 L.S_finish.f L.S_finish.d ["self"] (sp_S_finish L.c):=by
 refine L.S_finish.F.ok sc_S_finish (fun vs H Q E h=>?_) (fun cdv A outer s H vs Q E hr h=>?_)
 ·obtain ⟨P,S,rfl,M,ok,q⟩:=h
  rfl
 ·obtain ⟨P,S,rfl,M,ok,q⟩:=h
  have hu:=hu_of hr
  refine ⟨_,(pss_cons (ps_set (i:=1) sc_S_finish.nd rfl (Or.inl rfl) pe_int)
   (pss_cons (ps_while PassesOwn.never (pt_cmpR op_ne (pe_fld (pv 0) rfl) (pe_glob (v:=.str "idle") rfl L.gIDLE ⟨_,rfl⟩) (nomark _))
    (pss_one (ps_aug (i:=1) sc_S_finish.nd rfl (Or.inl rfl) (pe_meth (pv 0) L.cS L.S_step.m (ok_S_step L) (hr.mono (by decide)) L.S_step.b .nil pass0 (pa_cons pe_int pa_nil)) ip_add)))
   (pss_one (ps_ret (pv 1))))),?_⟩
  refine ⟨fun m σ2 H2=>∃ (S1 : Hs) (d : Nat),σ2 = [some (.ref P.s),some (.int d)] /\ At L.c H2 P S1 /\ Kp P S.n H H2 /\ Ok S1 /\ S1.n = S.n /\ S.finish = (S1.finish.1,d + S1.finish.2) /\ m = S1.left,
   ⟨_,S,0,rfl,M,Kp.rfl,ok,rfl,by simp,rfl⟩,?_⟩
  rintro m σ2 H2 ⟨S1,d,rfl,M1,k1,ok1,hn1,es,rfl⟩
  obtain ⟨ds,hs⟩:=M1.sw
  refine ⟨_,rfl,_,_,_,_,_,rfl,hs,L.cS,L.nS_stage,sfl_stage _ _ _,rfl,_,rfl,?_⟩
  have e : decide (V.str S1.stage.s = V.str "idle") = decide (S1.stage = .idle):=dec_stg _ .idle
  rw [e]
  by_cases hi : S1.stage = .idle
  ·rw [decide_eq_true hi]
   refine iteF ⟨_,rfl,?_⟩
   rw [finish_idle hi] at es
   rw [es] at q
   exact q _ M1 k1
  ·rw [decide_eq_false hi]
   refine iteT ⟨_,fun _ _ h=>h,?_⟩
   have e1 : S1.steps 1 = (S1.part,1):=by rw [steps_go 0 hi]; rfl
   refine ⟨_,rfl,_,rfl,_,_,_,rfl,hs,(sfl_no _ _ _ (by decide +kernel) (by decide +kernel) (by decide +kernel)),P,S1,1,rfl,M1,ok1,fun H3 M3 k3=>?_⟩
   rw [e1] at M3 ⊢
   refine ⟨_,_,rfl,rfl,S1.part.left,part_left ok1.ready hi,S1.part,d + 1,?_,M3,k1.trans (by rw [hn1] at k3; exact k3),ok1.part hi,(Same.part S1).n.trans hn1,?_,rfl⟩
   ·simp
   ·rw [es,finish_go ok1.ready hi]
    simp only [Prod.mk.injEq,true_and]
    omega
end
end GH
namespace GH
open PySem L2
section
def sp_H_finish (c : CA) : Sp:=fun vs H Q E=>∃ (hh : Addr) (P : Pl) (S : Hs),vs = [.ref hh] /\ HAt c H hh P S /\ Ok S /\ HGo c hh P S.n H S.finish.1 (Q (.int S.finish.2))
theorem sc_H_finish : FnScope ["self"] ["self"] (defScope sH_finish):=⟨rfl,rfl,rfl,by decide +kernel,rfl,by decide +kernel,by decide +kernel⟩
theorem ok_H_finish (L : Lk K mg) : FnOk PR w K mg base CX0 7 L.H_finish.f L.H_finish.d ["self"] (sp_H_finish L.c):=by
 refine L.H_finish.F.ok sc_H_finish (fun vs H Q E h=>?_) (fun cdv A outer s H vs Q E hr h=>?_)
 ·obtain ⟨hh,P,S,rfl,M,ok,k⟩:=h
  rfl
 ·obtain ⟨hh,P,S,rfl,M,ok,k⟩:=h
  have hu:=hu_of hr
  refine ⟨_,(pss_one (ps_ret (pe_meth0 (pe_fld (pv 0) rfl) L.cS L.S_finish.m (ok_S_finish L) (hr.mono (by decide)) L.S_finish.b .nil pass0))),?_⟩
  obtain ⟨dh,hh0⟩:=M.hall
  obtain ⟨dx,hm⟩:=M.at_.mem
  obtain ⟨ds,hs⟩:=M.at_.sw
  exact ⟨_,rfl,_,_,_,_,_,rfl,hh0,L.cH,L.nH_sweeper,hfl_sweeper _,_,_,_,rfl,hs,(sfl_no _ _ _ (by decide +kernel) (by decide +kernel) (by decide +kernel)),P,S,rfl,M.at_,ok,fun H1 M1 k1=>k H1 (M.go M1 k1) k1⟩
end
end GH
namespace GH
open PySem L2
section
def sp_M_thing_with_field (c : CA) : Sp:=fun vs H Q E=>∃ (P : Pl) (S : Hs) (h f : Int),vs = [.ref P.m,.int h,.int f] /\ At c H P S /\ Wf S /\ h.natAbs.log2 < 1920 /\ f.natAbs.log2 < 1920 /\
 (∀ k v,S.held h = .thing k -> S.field h f = .inl v -> Q (.ref (P.ad k)) H) /\ (∀ t,S.field h f = .inr t -> E (.ref (c.ex t)) none H)
theorem sc_M_thing_with_field : FnScope ["self","hand","field","thing"] ["self","hand","field"] (defScope sM_thing_with_field):=⟨rfl,rfl,rfl,by decide +kernel,rfl,by decide +kernel,by decide +kernel⟩
theorem ok_M_thing_with_field (L : Lk K mg) : FnOk PR w K mg base (CXE PR w) 3 L.M_thing_with_field.f L.M_thing_with_field.d ["self","hand","field"] (sp_M_thing_with_field L.c):=by
 refine L.M_thing_with_field.F.okE sc_M_thing_with_field (fun vs H Q E h=>?_) (fun cdv A outer s H vs Q E hr h=>?_)
 ·obtain ⟨P,S,h,f,rfl,M,wf,hh,hf,k1,k2⟩:=h
  rfl
 ·obtain ⟨P,S,h,f,rfl,M,wf,hh,hf,k1,k2⟩:=h
  have hu:=hu_of hr
  refine ⟨_,(pss_cons (ps_set (i:=3) sc_M_thing_with_field.nd rfl (Or.inl rfl) (pe_meth (pv 0) L.cM L.M_thing_in.m (ok_M_thing_in L) (hr.mono (by decide)) L.M_thing_in.b .nil passes_cx (pa_cons (pv 1) pa_nil)))
   (pss_cons (ps_if (PW.pt (pw_or (pt_cmpR op_lt (pv 2) pe_int (nomark _)) (pw_or1 (pt_cmpR op_ge (pv 2) (pe_callB (id:="len") call_len_seq (by rfl) L.zlen bt_len (pa_cons (pe_fld (pv 3) rfl) pa_nil)) (nomark _)))))
    (pss_one (ps_raise rfl rfl L.gnf L.xnf PySem.F.excBase_ValueError raises_cx (pa_cons (pe_fstr (pj_str (pj_int (pv 1) (pj_str (pj_int (pv 2) pj_nil))))) pa_nil)))
    pss_nil)
   (pss_one (ps_ret (pv 3))))),?_⟩
  obtain ⟨dx,hm⟩:=M.mem
  refine ⟨_,rfl,_,_,_,rfl,hm,(mfl_no _ _ (by decide +kernel) (by decide +kernel) (by decide +kernel)),_,rfl,P,S,h,rfl,M,wf,hh,fun k e=>?_,fun i e=>?_⟩
  ·obtain ⟨dt,ht⟩:=M.th k (wf.hv _ _ (held_mem e))
   have hl:=M.fl k (wf.hv _ _ (held_mem e))
   refine ⟨_,rfl,_,_,rfl,rfl,_,rfl,?_⟩
   refine ite2 (fun h0=>iteT ?_) (fun h0=>?_)
   ·refine ⟨_,rfl,h,rfl,hh,_,rfl,f,rfl,hf,fun x=>⟨(by show 1 <= sizeLine; decide),k2 .noField ?_⟩⟩
    unfold Hs.field; rw [e]; dsimp only; rw [if_pos (of_decide_eq_true h0)]
   ·have h0' : ¬ f < 0:=fun z=>h0 (decide_eq_true z)
    refine ⟨_,rfl,_,rfl,_,_,_,_,_,rfl,ht,L.cT,L.nT_fields,tfl_fields _ _ _,P.fl k,_,rfl,.inl (SqL.of hl),_,_,rfl,rfl,_,rfl,?_⟩
    rw [List.length_map]
    refine ite2 (fun h1=>?_) (fun h1=>?_)
    ·refine ⟨_,rfl,h,rfl,hh,_,rfl,f,rfl,hf,fun x=>⟨(by show 1 <= sizeLine; decide),k2 .noField ?_⟩⟩
     have h1':=of_decide_eq_true h1
     unfold Hs.field; rw [e]; dsimp only; rw [if_neg h0',List.getElem?_eq_none (by omega)]
    ·have h1' : ¬ ((S.th k).fields.length : Int) <= f:=fun z=>h1 (decide_eq_true z)
     have hlt : f.toNat < (S.th k).fields.length:=by omega
     refine ⟨_,rfl,k1 k ((S.th k).fields[f.toNat]) e ?_⟩
     unfold Hs.field; rw [e]; dsimp only; rw [if_neg h0',List.getElem?_eq_getElem hlt]
  ·refine k2 .noThing ?_
   unfold Hs.field; rw [e]
end
end GH
namespace GH
open PySem L2
section
def sp_M_field_value (c : CA) : Sp:=fun vs H Q E=>∃ (P : Pl) (S : Hs) (h f : Int),vs = [.ref P.m,.int h,.int f] /\ At c H P S /\ Wf S /\ h.natAbs.log2 < 1920 /\ f.natAbs.log2 < 1920 /\
 (∀ v,S.field h f = .inl v -> Q (P.v v) H) /\ (∀ t,S.field h f = .inr t -> E (.ref (c.ex t)) none H)
theorem sc_M_field_value : FnScope ["self","hand","field"] ["self","hand","field"] (defScope sM_field_value):=⟨rfl,rfl,rfl,by decide +kernel,rfl,by decide +kernel,by decide +kernel⟩
theorem ok_M_field_value (L : Lk K mg) : FnOk PR w K mg base (CXE PR w) 4 L.M_field_value.f L.M_field_value.d ["self","hand","field"] (sp_M_field_value L.c):=by
 refine L.M_field_value.F.okE sc_M_field_value (fun vs H Q E h=>?_) (fun cdv A outer s H vs Q E hr h=>?_)
 ·obtain ⟨P,S,h,f,rfl,M,wf,hh,hf,k1,k2⟩:=h
  rfl
 ·obtain ⟨P,S,h,f,rfl,M,wf,hh,hf,k1,k2⟩:=h
  have hu:=hu_of hr
  refine ⟨_,(pss_one (ps_ret (pe_ix ix_list (pe_fld (pe_meth (pv 0) L.cM L.M_thing_with_field.m (ok_M_thing_with_field L) (hr.mono (by decide)) L.M_thing_with_field.b .nil passes_cx (pa_cons (pv 1) (pa_cons (pv 2) pa_nil))) rfl) (pv 2) (fun _ _=>rfl)))),?_⟩
  obtain ⟨dx,hm⟩:=M.mem
  refine ⟨_,rfl,_,_,_,rfl,hm,(mfl_no _ _ (by decide +kernel) (by decide +kernel) (by decide +kernel)),_,rfl,_,rfl,P,S,h,f,rfl,M,wf,hh,hf,fun k v e1 e2=>?_,k2⟩
  obtain ⟨dt,ht⟩:=M.th k (wf.hv _ _ (held_mem e1))
  have hl:=M.fl k (wf.hv _ _ (held_mem e1))
  obtain ⟨k',hk,h0,hg⟩:=field_inl e2
  rw [e1] at hk
  cases hk
  exact ⟨_,_,_,_,_,rfl,ht,L.cT,L.nT_fields,tfl_fields _ _ _,_,rfl,P.fl k,_,f,P.v v,rfl,rfl,SqL.of hl,atI_field h0 hg,k1 v e2⟩
end
end GH
namespace GH
open PySem L2
section
def sp_M_load (c : CA) : Sp:=fun vs H Q E=>∃ (P : Pl) (S : Hs) (h o f : Int),vs = [.ref P.m,.int h,.int o,.int f] /\ At c H P S /\ Wf S /\ o.natAbs.log2 < 1920 /\ f.natAbs.log2 < 1920 /\ S.hands.length < 1000 /\
 (∀ v,S.field o f = .inl v -> Go c P S.n H (S.hold h v) (Q .non)) /\ (∀ t,S.field o f = .inr t -> E (.ref (c.ex t)) none H)
theorem sc_M_load : FnScope ["self","hand","other","field"] ["self","hand","other","field"] (defScope sM_load):=⟨rfl,rfl,rfl,by decide +kernel,rfl,by decide +kernel,by decide +kernel⟩
theorem ok_M_load (L : Lk K mg) : FnOk PR w K mg base (CXE PR w) 5 L.M_load.f L.M_load.d ["self","hand","other","field"] (sp_M_load L.c):=by
 refine L.M_load.F.okE sc_M_load (fun vs H Q E h=>?_) (fun cdv A outer s H vs Q E hr h=>?_)
 ·obtain ⟨P,S,h,o,f,rfl,M,wf,hh,hf,hl,k1,k2⟩:=h
  rfl
 ·obtain ⟨P,S,h,o,f,rfl,M,wf,hh,hf,hl,k1,k2⟩:=h
  have hu:=hu_of hr
  refine ⟨_,(pss_one (ps_expr (pe_meth (pv 0) L.cM L.M_hold.m (ok_M_hold L) (hr.mono (by decide)) L.M_hold.b .nil pass0 (pa_cons (pv 1) (pa_cons (pe_meth (pv 0) L.cM L.M_field_value.m (ok_M_field_value L) (hr.mono (by decide)) L.M_field_value.b .nil passes_cx (pa_cons (pv 2) (pa_cons (pv 3) pa_nil))) pa_nil))))),?_⟩
  obtain ⟨dx,hm⟩:=M.mem
  exact ⟨_,rfl,_,_,_,rfl,hm,(mfl_no _ _ (by decide +kernel) (by decide +kernel) (by decide +kernel)),_,rfl,_,rfl,_,_,_,rfl,hm,(mfl_no _ _ (by decide +kernel) (by decide +kernel) (by decide +kernel)),_,rfl,_,rfl,P,S,o,f,rfl,M,wf,hh,hf,fun v e=>⟨P,S,h,v,rfl,M,hl,k1 v e⟩,k2⟩
end
end GH
namespace GH
open PySem L2
section
def sp_H_load (c : CA) : Sp:=fun vs H Q E=>∃ (hh : Addr) (P : Pl) (S : Hs) (h o f : Int),vs = [.ref hh,.int h,.int o,.int f] /\ HAt c H hh P S /\ Wf S /\ o.natAbs.log2 < 1920 /\ f.natAbs.log2 < 1920 /\ S.hands.length < 1000 /\ (∀ v,S.field o f = .inl v -> HGo c hh P S.n H (S.hold h v) (Q .non)) /\ (∀ t,S.field o f = .inr t -> E (.ref (c.ex t)) none H)
theorem sc_H_load : FnScope ["self","hand","other","field"] ["self","hand","other","field"] (defScope sH_load):=⟨rfl,rfl,rfl,by decide +kernel,rfl,by decide +kernel,by decide +kernel⟩
theorem ok_H_load (L : Lk K mg) : FnOk PR w K mg base (CXE PR w) 6 L.H_load.f L.H_load.d ["self","hand","other","field"] (sp_H_load L.c):=by
 refine L.H_load.F.okE sc_H_load (fun vs H Q E h=>?_) (fun cdv A outer s H vs Q E hr h=>?_)
 ·obtain ⟨hh,P,S,h,o,f,rfl,M,wf,hh2,hf,hl,k,k2⟩:=h
  rfl
 ·obtain ⟨hh,P,S,h,o,f,rfl,M,wf,hh2,hf,hl,k,k2⟩:=h
  have hu:=hu_of hr
  refine ⟨_,(pss_one (ps_expr (pe_meth (pe_fld (pv 0) rfl) L.cM L.M_load.m (ok_M_load L) (hr.mono (by decide)) L.M_load.b .nil passes_cx (pa_cons (pv 1) (pa_cons (pv 2) (pa_cons (pv 3) pa_nil)))))),?_⟩
  obtain ⟨dh,hh0⟩:=M.hall
  obtain ⟨dx,hm⟩:=M.at_.mem
  obtain ⟨ds,hs⟩:=M.at_.sw
  exact ⟨_,rfl,_,_,_,_,_,rfl,hh0,L.cH,L.nH_memory,hfl_memory _,_,_,_,rfl,hm,(mfl_no _ _ (by decide +kernel) (by decide +kernel) (by decide +kernel)),_,rfl,_,rfl,_,rfl,P,S,h,o,f,rfl,M.at_,wf,hh2,hf,hl,fun v e H1 M1 k1=>k v e H1 (M.go M1 k1) k1,k2⟩
end
end GH
namespace GH
open PySem L2
section
def sp_M_free_place (c : CA) : Sp:=fun vs H Q _=>∃ (P : Pl) (S : Hs) (w : Int),vs = [.ref P.m,.int w] /\ At c H P S /\ Wf S /\ Q (optV (S.free w)) H
theorem sc_M_free_place : FnScope ["self","words","at","thing"] ["self","words"] (defScope sM_free_place):=⟨rfl,rfl,rfl,by decide +kernel,rfl,by decide +kernel,by decide +kernel⟩
theorem ok_M_free_place (L : Lk K mg) : FnOk PR w K mg base CX0 3 L.M_free_place.f L.M_free_place.d ["self","words"] (sp_M_free_place L.c):=by
 refine L.M_free_place.F.ok sc_M_free_place (fun vs H Q E h=>?_) (fun cdv A outer s H vs Q E hr h=>?_)
 ·obtain ⟨P,S,w,rfl,M,wf,k⟩:=h
  rfl
 ·obtain ⟨P,S,w,rfl,M,wf,k⟩:=h
  have hu:=hu_of hr
  refine ⟨_,(pss_cons (ps_set (i:=2) sc_M_free_place.nd rfl (Or.inl rfl) pe_int)
   (pss_cons (ps_for PassesOwn.never rfl (pi_list (pe_fld (pv 0) rfl)) (pg_name (i:=3) sc_M_free_place.nd rfl (Or.inl rfl))
    (pss_cons (ps_if (pt_cmpR op_ge (pe_op op_sub (pe_fld (pv 3) rfl) (pv 2)) (pv 1) (nomark _))
    (pss_one (ps_ret (pv 2)))
    pss_nil)
   (pss_one (ps_set (i:=2) sc_M_free_place.nd rfl (Or.inl rfl) (pe_meth0 (pv 3) L.cT L.T_behind.m (ok_T_behind L) (hr.mono (by decide)) L.T_behind.b .nil pass0)))))
   (pss_one (ps_ret (pe_ifExp (pt_cmpR op_ge (pe_op op_sub (pe_fld (pv 0) rfl) (pv 2)) (pv 1) (nomark _)) (pv 2) pe_non))))),?_⟩
  obtain ⟨dx,hm⟩:=M.mem
  refine ⟨_,rfl,_,_,_,_,_,rfl,hm,L.cM,L.nM_things,mfl_things _ _,P.l,rfl,⟨_,SqL.of M.ls⟩,for_list (K:=K) (a:=P.l) (xs:=S.things.map fun k=>V.ref (P.ad k)) (fun i σ H2=>H2 = H /\ ∃ a v,σ = [some (.ref P.m),some (.int w),some (.int a),v] /\ freeGo S.th S.size w a (S.things.drop i) = S.free w)
   ⟨rfl,0,none,rfl,rfl⟩ (fun i σ H2 _ ⟨e,_⟩=>by rw [e]; exact SqL.of M.ls) ?_ ?_⟩
  ·rintro i y σ H2 hi ⟨rfl,a,v,rfl,e⟩
   rw [List.getElem?_map] at hi
   cases eg : S.things[i]? with
   | none=>rw [eg] at hi; cases hi
   | some j =>
    rw [eg] at hi
    cases hi
    have hj : j < S.n:=wf.tv j (List.mem_of_getElem? eg)
    obtain ⟨dt,ht⟩:=M.th j hj
    have hl:=M.fl j hj
    have hlt : i < S.things.length:=(List.getElem?_eq_some_iff.mp eg).1
    have hd : S.things.drop i = j :: S.things.drop (i + 1):=by
     rw [List.drop_eq_getElem_cons hlt]
     congr 1
     exact (List.getElem?_eq_some_iff.mp eg).2
    rw [hd] at e
    refine ⟨_,rfl,_,_,_,_,_,rfl,ht,L.cT,L.nT_place,tfl_place _ _ _,_,rfl,_,_,rfl,rfl,_,rfl,_,_,rfl,rfl,_,rfl,?_⟩
    unfold freeGo at e
    refine ite2 (fun h1=>?_) (fun h1=>?_)
    ·rw [if_pos (of_decide_eq_true h1)] at e
     refine ⟨_,rfl,?_⟩
     rw [<- e] at k
     exact k
    ·rw [if_neg (fun z=>h1 (decide_eq_true z))] at e
     refine ⟨_,rfl,_,_,_,rfl,ht,(tfl_no _ _ _ (by decide +kernel) (by decide +kernel) (by decide +kernel)),_,dt,_,_,_,_,rfl,ht,hl,?_⟩
     refine ⟨rfl,_,_,rfl,?_⟩
     rw [<- e,List.length_map]
     rfl
  ·rintro σ H2 ⟨rfl,a,v,rfl,e⟩
   rw [List.length_map,List.drop_eq_nil_of_le (Nat.le_refl _)] at e
   unfold freeGo at e
   refine ⟨_,rfl,_,_,_,_,_,rfl,hm,L.cM,L.nM_size,mfl_size _ _,_,rfl,_,_,rfl,rfl,_,rfl,_,_,rfl,rfl,_,rfl,?_⟩
   refine ite2 (fun h1=>?_) (fun h1=>?_)
   ·rw [if_pos (of_decide_eq_true h1)] at e
    refine ⟨_,rfl,?_⟩
    rw [<- e] at k
    exact k
   ·rw [if_neg (fun z=>h1 (decide_eq_true z))] at e
    rw [<- e] at k
    exact k
end
end GH
namespace GH
open PySem L2
section
def sp_M_lay (c : CA) : Sp:=fun vs H Q _=>∃ (P : Pl) (S : Hs) (t f dx : Addr) (q : V) (p : Int) (m : Nat) (col : Col),vs = [.ref P.m,.ref t,.int p] /\ At c H P S /\ Wf S /\ S.things.length < 1000 /\ H t = some (.ins c.T dx (tfl f q col)) /\ H f = some (.lst (List.replicate m (.int 0))) /\ ¬ Own P S.n t /\ ¬ Own P S.n f /\
 ∀ H',At c H' (P.add S.n t f) (S.lay ⟨p,List.replicate m (.num 0),col⟩) -> (∀ b o,H b = some o -> ¬ Own P S.n b -> b ≠ t -> H' b = some o) -> Q .non H'
theorem sc_M_lay : FnScope ["self","thing","place","before"] ["self","thing","place"] (defScope sM_lay):=⟨rfl,rfl,rfl,by decide +kernel,rfl,by decide +kernel,by decide +kernel⟩
theorem ok_M_lay (L : Lk K mg) : FnOk PR w K mg base CX0 1 L.M_lay.f L.M_lay.d ["self","thing","place"] (sp_M_lay L.c):=by
 refine L.M_lay.F.ok sc_M_lay (fun vs H Q E h=>?_) (fun cdv A outer s H vs Q E hr h=>?_)
 ·obtain ⟨P,S,t,f,dt,q,p,m,col,rfl,M,wf,hz,ht,hf,nt,nf,k⟩:=h
  rfl
 ·obtain ⟨P,S,t,f,dt,q,p,m,col,rfl,M,wf,hz,ht,hf,nt,nf,k⟩:=h
  have hu:=hu_of hr
  refine ⟨_,(pss_cons (ps_fld (pv 1) (pv 2) rfl)
   (pss_cons (ps_setComp (i:=3) rfl (ck1 (i:=2) rfl rfl rfl rfl) sc_M_lay.nd rfl (Or.inl rfl) (pi_list (pe_fld (pv 0) rfl)) (fun _ _ _ _=>(pts_one (pt_cmpR op_lt (pe_fldK (K:=K) rfl (pv 0) rfl) (pv 1) (nomark _)))) (fun _ _ _ _=>(pv 0)))
   (pss_one (ps_expr (pe_bm PySem.F.plainAttrs_list PySem.F.slot_list_insert PySem.F.type_list_insert mt_insert (pe_fld (pv 0) rfl) (pa_cons (pe_callB (id:="len") call_len_seq (by rfl) L.zlen bt_len (pa_cons (pv 3) pa_nil)) (pa_cons (pv 1) pa_nil))))))),?_⟩
  obtain ⟨dx,hm⟩:=M.mem
  refine ⟨_,rfl,_,rfl,_,_,_,_,rfl,ht,L.cT,L.nT_place,(by show 3 < 1000; decide),?_⟩
  rw [put_place]
  have M1:=M.beside (b:=t) (o:=.ins L.c.T dt (tfl f (.int p) col)) nt
  have tf : f ≠ t:=ne_of hf ht (fun z=>nomatch z)
  generalize hH1 : upd H t (.ins L.c.T dt (tfl f (.int p) col)) = H1 at M1 ⊢
  have h1t : H1 t = some (.ins L.c.T dt (tfl f (.int p) col)):=by rw [<- hH1]; exact upd_same
  have h1f : H1 f = some (.lst (List.replicate m (.int 0))):=by rw [<- hH1,upd_ne tf]; exact hf
  obtain ⟨dx1,hm1⟩:=M1.mem
  refine ⟨_,rfl,_,_,_,_,_,rfl,hm1,L.cM,L.nM_things,mfl_things _ _,P.l,rfl,⟨_,SqL.of M1.ls⟩,?_⟩
  refine ⟨fun i m ys H2=>H2 = H1 /\ m = S.things.length - i /\ i <= S.things.length /\ ys = ((S.things.take i).filter fun k=>decide ((S.th k).place < p)).map fun k=>V.ref (P.ad k),⟨_,rfl,rfl,Nat.zero_le _,rfl⟩,?_⟩
  rintro i m ys H2 ⟨rfl,rfl,hi,rfl⟩
  refine ⟨?_,?_⟩
  ·have:=List.length_filter_le (fun k=>decide ((S.th k).place < p)) (S.things.take i)
   rw [List.length_take] at this
   rw [List.length_map]
   exact small1000 (by omega)
  by_cases hlt : i < S.things.length
  ·refine .inr ⟨⟨_,_,SqL.of M1.ls,by rw [List.getElem?_eq_getElem (by rw [List.length_map]; exact hlt)]⟩,?_⟩
   rintro x H' ⟨rfl,hx⟩
   obtain ⟨j,eg,rfl⟩:=get_map (hx _ (SqL.of M1.ls))
   obtain ⟨dj,hjt⟩:=M1.th j (wf.tv j (List.mem_of_getElem? eg))
   have et : S.things.take (i + 1) = S.things.take i ++ [j]:=by rw [List.take_add_one,eg]; rfl
   refine ⟨_,rfl,_,_,_,_,_,rfl,hjt,L.cT,L.nT_place,tfl_place _ _ _,_,rfl,_,_,rfl,rfl,_,rfl,?_⟩
   refine ite2 (fun h1=>?_) (fun h1=>?_)
   ·exact ⟨_,rfl,S.things.length - (i + 1),by omega,rfl,rfl,hlt,by rw [et,List.filter_append]; simp [of_decide_eq_true h1]⟩
   ·exact ⟨S.things.length - (i + 1),by omega,rfl,rfl,hlt,by rw [et,List.filter_append]; simp [show ¬ (S.th j).place < p from fun z=>h1 (decide_eq_true z)]⟩
  ·have hie : i = S.things.length:=by omega
   refine .inl ⟨⟨_,SqL.of M1.ls,by rw [List.length_map]; omega⟩,fun D hD=>?_⟩
   have el : (((S.things.take i).filter fun k=>decide ((S.th k).place < p)).map fun k=>V.ref (P.ad k)).length = (S.before p).length:=by
    rw [hie,List.take_length,List.length_map]; rfl
   generalize ((S.things.take i).filter fun k=>decide ((S.th k).place < p)).map (fun k=>V.ref (P.ad k)) = bl at el ⊢
   have M2:=M1.new (o:=.lst bl) hD
   have s2 : ∀ b o,H2 b = some o -> upd H2 D (.lst bl) b = some o:=fun b o e=>by rw [upd_ne (ne_of_none e hD)]; exact e
   have hle : (S.before p).length <= S.things.length:=List.length_filter_le _ _
   refine ⟨_,rfl,_,_,_,_,_,rfl,(s2 _ _ hm1),L.cM,L.nM_things,mfl_things _ _,.inl ⟨rfl,_,SqL.of M2.ls⟩,_,rfl,D,bl,rfl,.inl (SqL.of upd_same),_,rfl,P.l,_,_,(S.before p).length,.ref t,rfl,rfl,(by rw [el]),M2.ls,(by rw [List.length_map]; exact hle),(by rw [List.length_map]; exact small1000 (Nat.le_of_lt hz)),?_⟩
   rw [<- List.map_take,<- List.map_drop]
   have M3:=M2.lay wf (t:=t) (f:=f) (dx:=dt) (p:=p) (m:=m) (col:=col) (s2 _ _ h1t) (s2 _ _ h1f) nt nf
   refine k _ M3 fun b o e hb hbt=>?_
   rw [upd_ne (fun z=>hb (by rw [z]; exact own_l (S:=S)))]
   refine s2 b o ?_
   rw [<- hH1,upd_ne hbt]; exact e
end
end GH
namespace GH
open PySem L2
section
def sp_S_colour_at (c : CA) : Sp:=fun vs H Q _=>∃ (P : Pl) (S : Hs) (p : Int),vs = [.ref P.s,.int p] /\ At c H P S /\ (S.stage = .sweep -> ∃ f,S.finger = some f) /\ Q (.str (S.colourAt p).s) H
theorem sc_S_colour_at : FnScope ["self","place"] ["self","place"] (defScope sS_colour_at):=⟨rfl,rfl,rfl,by decide +kernel,rfl,by decide +kernel,by decide +kernel⟩
theorem ok_S_colour_at (L : Lk K mg) : FnOk PR w K mg base CX0 1 L.S_colour_at.f L.S_colour_at.d ["self","place"] (sp_S_colour_at L.c):=by
 refine L.S_colour_at.F.ok sc_S_colour_at (fun vs H Q E h=>?_) (fun cdv A outer s H vs Q E hr h=>?_)
 ·obtain ⟨P,S,p,rfl,M,hfg,q⟩:=h
  rfl
 ·obtain ⟨P,S,p,rfl,M,hfg,q⟩:=h
  have hu:=hu_of hr
  refine ⟨_,(pss_cons (ps_if (pt_cmpR op_eq (pe_fld (pv 0) rfl) (pe_glob (v:=.str "mark") rfl L.gMARK ⟨_,rfl⟩) (nomark _))
    (pss_one (ps_ret (pe_glob (v:=.str "black") rfl L.gBLACK ⟨_,rfl⟩)))
    pss_nil)
   (pss_cons (ps_if (PW.pt (pw_and (pt_cmpR op_eq (pe_fld (pv 0) rfl) (pe_glob (v:=.str "sweep") rfl L.gSWEEP ⟨_,rfl⟩) (nomark _)) (pw_and1 (pt_cmpR op_ge (pv 1) (pe_fld (pv 0) rfl) (nomark _)))))
    (pss_one (ps_ret (pe_glob (v:=.str "black") rfl L.gBLACK ⟨_,rfl⟩)))
    pss_nil)
   (pss_one (ps_ret (pe_glob (v:=.str "white") rfl L.gWHITE ⟨_,rfl⟩))))),?_⟩
  obtain ⟨ds,hs⟩:=M.sw
  refine ⟨_,rfl,_,_,_,_,_,rfl,hs,L.cS,L.nS_stage,sfl_stage _ _ _,rfl,_,rfl,?_⟩
  have e : decide (V.str S.stage.s = V.str "mark") = decide (S.stage = .mark):=dec_stg _ .mark
  rw [e]
  unfold Hs.colourAt at q
  refine ite2 (fun h1=>?_) (fun h1=>?_)
  ·rw [if_pos (of_decide_eq_true h1)] at q
   exact q
  ·rw [if_neg (fun z=>h1 (decide_eq_true z))] at q
   refine ⟨_,rfl,_,_,_,_,_,rfl,hs,L.cS,L.nS_stage,sfl_stage _ _ _,rfl,_,rfl,?_⟩
   have e : decide (V.str S.stage.s = V.str "sweep") = decide (S.stage = .sweep):=dec_stg _ .sweep
   rw [e]
   refine ite2 (fun h2=>?_) (fun h2=>?_)
   ·have h2':=of_decide_eq_true h2
    obtain ⟨f,hf⟩:=hfg h2'
    have hfgv : S.fg = f:=by unfold Hs.fg; rw [hf]; rfl
    rw [hfgv] at q
    refine ⟨_,rfl,_,rfl,_,_,_,_,_,rfl,hs,L.cS,L.nS_finger_place,sfl_finger _ _ _,_,f,rfl,(by rw [hf]; rfl),_,rfl,?_⟩
    refine ite2 (fun h3=>?_) (fun h3=>?_)
    ·rw [if_pos ⟨h2',of_decide_eq_true h3⟩] at q; exact q
    ·rw [if_neg (fun z=>h3 (decide_eq_true z.2))] at q; exact q
   ·rw [if_neg (fun z=>h2 (decide_eq_true z.1))] at q
    exact iteF q
end
end GH
namespace GH
open PySem L2
section
def sp_M_slide (c : CA) : Sp:=fun vs H Q _=>∃ (P : Pl) (S : Hs),vs = [.ref P.m] /\ At c H P S /\ Wf S /\ Go c P S.n H S.slide (Q .non)
theorem sc_M_slide : FnScope ["self","at","thing"] ["self"] (defScope sM_slide):=⟨rfl,rfl,rfl,by decide +kernel,rfl,by decide +kernel,by decide +kernel⟩
theorem ok_M_slide (L : Lk K mg) : FnOk PR w K mg base CX0 3 L.M_slide.f L.M_slide.d ["self"] (sp_M_slide L.c):=by
 refine L.M_slide.F.ok sc_M_slide (fun vs H Q E h=>?_) (fun cdv A outer s H vs Q E hr h=>?_)
 ·obtain ⟨P,S,rfl,M,wf,k⟩:=h
  rfl
 ·obtain ⟨P,S,rfl,M,wf,k⟩:=h
  have hu:=hu_of hr
  refine ⟨_,(pss_cons (ps_set (i:=1) sc_M_slide.nd rfl (Or.inl rfl) pe_int)
   (pss_one (ps_for PassesOwn.never rfl (pi_list (pe_fld (pv 0) rfl)) (pg_name (i:=2) sc_M_slide.nd rfl (Or.inl rfl))
    (pss_cons (ps_fld (pv 2) (pv 1) rfl)
   (pss_one (ps_set (i:=1) sc_M_slide.nd rfl (Or.inl rfl) (pe_meth0 (pv 2) L.cT L.T_behind.m (ok_T_behind L) (hr.mono (by decide)) L.T_behind.b .nil pass0))))))),?_⟩
  obtain ⟨dx,hm⟩:=M.mem
  refine ⟨_,rfl,_,_,_,_,_,rfl,hm,L.cM,L.nM_things,mfl_things _ _,P.l,rfl,⟨_,SqL.of M.ls⟩,for_list (K:=K) (a:=P.l) (xs:=S.things.map fun k=>V.ref (P.ad k)) (fun i σ H2=>∃ a v t,σ = [some (.ref P.m),some (.int a),v] /\ At L.c H2 P { S with th:=t } /\ Kp P S.n H H2 /\ slideGo a (S.things.drop i) t = slideGo 0 S.things S.th)
   ⟨0,none,S.th,rfl,M,Kp.rfl,rfl⟩ (fun i σ H2 _ ⟨_,_,_,_,M2,_⟩=>SqL.of M2.ls) ?_ ?_⟩
  ·rintro i y σ H2 hi ⟨a,v,t,rfl,M2,k2,e2⟩
   obtain ⟨j,eg,rfl⟩:=get_map hi
   have hj : j < S.n:=wf.tv j (List.mem_of_getElem? eg)
   obtain ⟨dt,ht⟩:=M2.th j hj
   have hf:=M2.fl j hj
   rw [drop_at eg] at e2
   have e2' : slideGo (a + (t j).words) (S.things.drop (i + 1)) (fun x=>if x = j then { t j with place:=a } else t x) = slideGo 0 S.things S.th:=e2
   refine ⟨_,rfl,_,rfl,_,_,_,_,rfl,ht,L.cT,L.nT_place,(by show 3 < 1000; decide),?_⟩
   rw [put_place]
   have M3:=M2.thing (T:={ t j with place:=a }) (dx:=dt) hj rfl
   have k3 : Kp P S.n H _:=k2.trans (.upd (o:=.ins L.c.T dt (tfl (P.fl j) (.int a) (t j).colour)) (.inl (own_a hj)))
   refine ⟨_,rfl,_,_,_,rfl,upd_same,(tfl_no _ _ _ (by decide +kernel) (by decide +kernel) (by decide +kernel)),_,dt,_,_,_,_,rfl,upd_same,(by rw [upd_ne (M2.af hj hj).symm]; exact hf),?_⟩
   refine ⟨a + (t j).words,some (.ref (P.ad j)),fun x=>if x = j then { t j with place:=a } else t x,?_,M3,k3,e2'⟩
   rw [List.length_map]; rfl
  ·rintro σ H2 ⟨a,v,t,rfl,M2,k2,e2⟩
   rw [List.length_map,List.drop_eq_nil_of_le (Nat.le_refl _)] at e2
   have e3 : t = slideGo 0 S.things S.th:=e2
   subst e3
   exact k _ M2 k2
end
end GH
namespace GH
open PySem L2
section
def sp_S_room_behind_all (c : CA) : Sp:=fun vs H Q E=>∃ (P : Pl) (S : Hs) (w : Int),vs = [.ref P.s,.int w] /\ At c H P S /\ Ok S /\ S.hands.length <= 1000 /\ w.natAbs.log2 < 1920 /\ (∀ p,S.swept.free w = some p -> Go c P S.n H S.swept (Q (.int p))) /\ (S.swept.free w = none -> Go c P S.n H S.swept (E (.ref c.nr) none))
theorem sc_S_room_behind_all : FnScope ["self","words","place"] ["self","words"] (defScope sS_room_behind_all):=⟨rfl,rfl,rfl,by decide +kernel,rfl,by decide +kernel,by decide +kernel⟩
theorem ok_S_room_behind_all (L : Lk K mg) : FnOk PR w K mg base (CXE PR w) 7 L.S_room_behind_all.f L.S_room_behind_all.d ["self","words"] (sp_S_room_behind_all L.c):=by
 refine L.S_room_behind_all.F.okE sc_S_room_behind_all (fun vs H Q E h=>?_) (fun cdv A outer s H vs Q E hr h=>?_)
 ·obtain ⟨P,S,w,rfl,M,ok,hz,hw,q1,q2⟩:=h
  rfl
 ·obtain ⟨P,S,w,rfl,M,ok,hz,hw,q1,q2⟩:=h
  have hu:=hu_of hr
  refine ⟨_,(pss_cons (ps_expr (pe_meth0 (pv 0) L.cS L.S_finish.m (ok_S_finish L) (hr.mono (by decide)) L.S_finish.b .nil pass0))
   (pss_cons (ps_expr (pe_meth0 (pv 0) L.cS L.S_begin.m (ok_S_begin L) (hr.mono (by decide)) L.S_begin.b .nil passes_cx))
   (pss_cons (ps_expr (pe_meth0 (pv 0) L.cS L.S_finish.m (ok_S_finish L) (hr.mono (by decide)) L.S_finish.b .nil pass0))
   (pss_cons (ps_expr (pe_meth0 (pe_fld (pv 0) rfl) L.cM L.M_slide.m (ok_M_slide L) (hr.mono (by decide)) L.M_slide.b .nil pass0))
   (pss_cons (ps_set (i:=2) sc_S_room_behind_all.nd rfl (Or.inl rfl) (pe_meth (pe_fld (pv 0) rfl) L.cM L.M_free_place.m (ok_M_free_place L) (hr.mono (by decide)) L.M_free_place.b .nil pass0 (pa_cons (pv 1) pa_nil)))
   (pss_cons (ps_if (pt_cmp (pc_isN (pv 2)))
    (pss_one (ps_raise rfl rfl L.gnr L.xnr PySem.F.excBase_ValueError raises_cx (pa_cons (pe_fstr (pj_str (pj_int (pv 1) (pj_str pj_nil)))) pa_nil)))
    pss_nil)
   (pss_one (ps_ret (pv 2))))))))),?_⟩
  obtain ⟨ds,hs⟩:=M.sw
  refine ⟨_,rfl,_,_,_,rfl,hs,(sfl_no _ _ _ (by decide +kernel) (by decide +kernel) (by decide +kernel)),P,S,rfl,M,ok,fun H1 M1 k1=>?_⟩
  have n1 : S.finish.1.n = S.n:=(Same.steps _ S).n
  have i1:=finish_end ok.ready
  have z1 : S.finish.1.hands.length <= 1000:=by
   have e : S.finish.1.hands = S.hands:=(Same.steps _ S).hands
   rw [e]; exact hz
  obtain ⟨ds1,hs1⟩:=M1.sw
  refine ⟨_,rfl,_,_,_,rfl,hs1,(sfl_no _ _ _ (by decide +kernel) (by decide +kernel) (by decide +kernel)),P,_,rfl,M1,ok.finish,z1,fun _ H2 M2 k2=>?_,fun h=>absurd i1 h⟩
  rw [n1] at k2
  have ok2:=ok.finish.begin i1
  obtain ⟨ds2,hs2⟩:=M2.sw
  have n2 : S.finish.1.begin.n = S.n:=(Same.begin _).n.trans n1
  refine ⟨_,rfl,_,_,_,rfl,hs2,(sfl_no _ _ _ (by decide +kernel) (by decide +kernel) (by decide +kernel)),P,_,rfl,M2,ok2,fun H3 M3 k3=>?_⟩
  rw [n2] at k3
  have ok3:=ok2.finish
  have n3 : S.finish.1.begin.finish.1.n = S.n:=(Same.steps _ _).n.trans n2
  obtain ⟨ds3,hs3⟩:=M3.sw
  obtain ⟨dx3,hm3⟩:=M3.mem
  refine ⟨_,rfl,_,_,_,_,_,rfl,hs3,L.cS,L.nS_memory,sfl_memory _ _ _,_,_,_,rfl,hm3,(mfl_no _ _ (by decide +kernel) (by decide +kernel) (by decide +kernel)),P,_,rfl,M3,ok3.wf,fun H4 M4 k4=>?_⟩
  rw [n3] at k4
  have k' : Kp P S.n H H4:=k1.trans (k2.trans (k3.trans k4))
  have M4' : At L.c H4 P S.swept:=M4
  have ok4:=ok.swept
  obtain ⟨ds4,hs4⟩:=M4'.sw
  obtain ⟨dx4,hm4⟩:=M4'.mem
  refine ⟨_,rfl,_,_,_,_,_,rfl,hs4,L.cS,L.nS_memory,sfl_memory _ _ _,_,_,_,rfl,hm4,(mfl_no _ _ (by decide +kernel) (by decide +kernel) (by decide +kernel)),_,rfl,P,S.swept,w,rfl,M4',ok4.wf,?_⟩
  refine ⟨_,rfl,_,rfl,?_⟩
  cases e : S.swept.free w with
  | none=>exact iteT ⟨_,rfl,w,rfl,hw,fun x=>⟨(by show 1 <= sizeLine; decide),q2 e _ M4' k'⟩⟩
  | some p=>exact iteF ⟨_,rfl,q1 p e _ M4' k'⟩
end
end GH
namespace GH
open PySem L2
section
def sp_T___init__ (c : CA) : Sp:=fun vs H Q _=>∃ (t dx : Addr) (m : Nat),vs = [.ref t,.int m] /\ H t = some (.ins c.T dx []) /\ m <= 1000 /\
 ∀ (f : Addr) (H' : Hp),H f = none -> f ≠ t -> (∃ dx,H' t = some (.ins c.T dx (tfl f .non .white))) -> H' f = some (.lst (List.replicate m (.int 0))) -> (∀ b o,H b = some o -> b ≠ t -> H' b = some o) -> Q .non H'
theorem sc_T___init__ : FnScope ["self","many"] ["self","many"] (defScope sT___init__):=⟨rfl,rfl,rfl,by decide +kernel,rfl,by decide +kernel,by decide +kernel⟩
theorem ok_T___init__ (L : Lk K mg) : FnOk PR w K mg base CX0 1 L.T___init__.f L.T___init__.d ["self","many"] (sp_T___init__ L.c):=by
 refine L.T___init__.F.ok sc_T___init__ (fun vs H Q E h=>?_) (fun cdv A outer s H vs Q E hr h=>?_)
 ·obtain ⟨t,dx,m,rfl,ht,hm,k⟩:=h
  rfl
 ·obtain ⟨t,dx,m,rfl,ht,hm,k⟩:=h
  have hu:=hu_of hr
  refine ⟨_,(pss_cons (ps_fld (pv 0) pe_non rfl)
   (pss_cons (ps_fld (pv 0) (pe_op op_rep (pe_lst (pa_cons pe_int pa_nil)) (pv 1)) rfl)
   (pss_one (ps_fld (pv 0) (pe_glob (v:=.str "white") rfl L.gWHITE ⟨_,rfl⟩) rfl)))),?_⟩
  refine ⟨_,rfl,t,L.c.T,dx,[],rfl,ht,L.cT,L.nT_place,(by decide),?_⟩
  refine ⟨(by decide),fun b hb=>?_⟩
  have htb : t ≠ b:=ne_of_none upd_same hb
  refine ⟨_,rfl,b,(m : Int),[.int 0],rfl,rfl,upd_same,(by omega),(by omega),(by show 1 * (m : Int).toNat <= sizeLine; rw [Nat.one_mul,Int.toNat_natCast]; exact small m hm),fun f hf=>?_⟩
  have hfb : f ≠ b:=fun e=>by rw [e,upd_same] at hf; cases hf
  rw [upd_ne hfb] at hf
  have htf : t ≠ f:=ne_of_none upd_same hf
  have hf0 : H f = none:=by rw [upd_ne htf.symm] at hf; exact hf
  have hb0 : H b = none:=by rw [upd_ne htb.symm] at hb; exact hb
  refine ⟨_,rfl,t,L.c.T,dx,_,rfl,(by rw [upd_ne htf,upd_ne htb]; exact upd_same),L.cT,L.nT_fields,(by decide),?_⟩
  refine ⟨_,rfl,t,L.c.T,dx,_,rfl,upd_same,L.cT,L.nT_colour,(by show 2 < 1000; decide),?_⟩
  refine k f _ hf0 htf.symm ⟨dx,?_⟩ ?_ fun b' o e hb'=>?_
  ·rw [upd_same]
   refine congrArg (fun z=>some (HO.ins L.c.T dx z)) ?_
   show putF "colour" _ (putF "fields" _ [(("place" : Str),V.non)]) = _
   rw [pF1 ne_pf]; show putF "colour" _ [(("place" : Str),V.non),(("fields" : Str),V.ref f)] = _
   rw [pF1 ne_pc,pF1 ne_fc]; rfl
  ·rw [upd_ne htf.symm,upd_ne htf.symm,upd_same,Int.toNat_natCast]
   refine congrArg (fun z=>some (HO.lst z)) ?_
   simp [List.flatten_replicate_singleton]
  ·rw [upd_ne hb',upd_ne hb',upd_ne (ne_of_none e hf0),upd_ne (ne_of_none e hb0),upd_ne hb']; exact e
end
end GH
namespace GH
open PySem L2
section
def sp_S_make (c : CA) : Sp:=fun vs H Q E=>∃ (P : Pl) (S : Hs) (h : Int) (m : Nat),vs = [.ref P.s,.int h,.int m] /\ At c H P S /\ Ok S /\ m <= 6 /\ S.hands.length < 1000 /\ S.n < 1000 /\
 ((S.make h m).2 = .non -> ∀ P' H',At c H' P' (S.make h m).1 -> P'.m = P.m -> P'.s = P.s -> Fm P S.n P' (S.n + 1) H H' -> Q .non H') /\ ((S.make h m).2 = .noRoom -> Go c P S.n H (S.make h m).1 (E (.ref c.nr) none))
theorem sc_S_make : FnScope ["self","hand","many","thing","place"] ["self","hand","many"] (defScope sS_make):=⟨rfl,rfl,rfl,by decide +kernel,rfl,by decide +kernel,by decide +kernel⟩
theorem ok_S_make (L : Lk K mg) : FnOk PR w K mg base (CXE PR w) 8 L.S_make.f L.S_make.d ["self","hand","many"] (sp_S_make L.c):=by
 refine L.S_make.F.okE sc_S_make (fun vs H Q E h=>?_) (fun cdv A outer s H vs Q E hr h=>?_)
 ·obtain ⟨P,S,h,m,rfl,M,ok,hm6,hz,hn,q1,q2⟩:=h
  rfl
 ·obtain ⟨P,S,h,m,rfl,M,ok,hm6,hz,hn,q1,q2⟩:=h
  have hu:=hu_of hr
  refine ⟨_,(pss_cons (ps_set (i:=3) sc_S_make.nd rfl (Or.inl rfl) (pe_make L.kT (ok_T___init__ L) (hr.mono (by decide)) rfl L.gT L.T___init__.b .nil pass0 (pa_cons (pv 2) pa_nil)))
   (pss_cons (ps_set (i:=4) sc_S_make.nd rfl (Or.inl rfl) (pe_meth (pe_fld (pv 0) rfl) L.cM L.M_free_place.m (ok_M_free_place L) (hr.mono (by decide)) L.M_free_place.b .nil pass0 (pa_cons (pe_meth0 (pv 3) L.cT L.T_words.m (ok_T_words L) (hr.mono (by decide)) L.T_words.b .nil pass0) pa_nil)))
   (pss_cut (ps_if (pt_cmp (pc_isN (pv 4)))
    (pss_one (ps_set (i:=4) sc_S_make.nd rfl (Or.inl rfl) (pe_meth (pv 0) L.cS L.S_room_behind_all.m (ok_S_room_behind_all L) (hr.mono (by decide)) L.S_room_behind_all.b .nil passes_cx (pa_cons (pe_meth0 (pv 3) L.cT L.T_words.m (ok_T_words L) (hr.mono (by decide)) L.T_words.b .nil pass0) pa_nil))))
    pss_nil)
   (pss_cons (ps_fld (pv 3) (pe_meth (pv 0) L.cS L.S_colour_at.m (ok_S_colour_at L) (hr.mono (by decide)) L.S_colour_at.b .nil pass0 (pa_cons (pv 4) pa_nil)) rfl)
   (pss_cons (ps_expr (pe_meth (pe_fld (pv 0) rfl) L.cM L.M_lay.m (ok_M_lay L) (hr.mono (by decide)) L.M_lay.b .nil pass0 (pa_cons (pv 3) (pa_cons (pv 4) pa_nil))))
   (pss_one (ps_expr (pe_meth (pe_fld (pv 0) rfl) L.cM L.M_hold.m (ok_M_hold L) (hr.mono (by decide)) L.M_hold.b .nil pass0 (pa_cons (pv 1) (pa_cons (pv 3) pa_nil)))))))))),?_⟩
  refine ⟨_,rfl,fun t dx ht hdx ntd=>?_⟩
  have s0 : ∀ b o,H b = some o -> upd (upd H dx (.own t)) t (.ins L.c.T dx []) b = some o:=fun b o e=>by
   rw [upd_ne (ne_of_none e ht),upd_ne (ne_of_none e hdx)]; exact e
  refine ⟨t,dx,m,rfl,upd_same,by omega,fun f H1 hf hft ⟨dt,ht1⟩ hf1 s1=>⟨rfl,?_⟩⟩
  have hf0 : H f = none:=by
   cases e : H f with
   | none=>rfl
   | some o=>rw [s0 f o e] at hf; cases hf
  have s1' : ∀ b o,H b = some o -> H1 b = some o:=fun b o e=>s1 b o (s0 b o e) (ne_of_none e ht)
  have nt : ¬ Own P S.n t:=M.fresh ht
  have nf : ¬ Own P S.n f:=M.fresh hf0
  have M1 : At L.c H1 P S:=M.other fun b hb=>by
   obtain ⟨o,e⟩:=M.there hb
   rw [e]; exact s1' b o e
  have k1 : Kp P S.n H H1:=fun b o e _=>s1' b o e
  obtain ⟨ds1,hs1⟩:=M1.sw
  obtain ⟨dx1,hm1⟩:=M1.mem
  have ew : (2 + ((List.replicate m (V.int 0)).length : Int)) = 2 + m:=by rw [List.length_replicate]
  have len : S.things.length <= S.n:=ok.wf.len
  refine ⟨_,rfl,_,_,_,_,_,rfl,hs1,L.cS,L.nS_memory,sfl_memory _ _ _,_,_,_,rfl,hm1,(mfl_no _ _ (by decide +kernel) (by decide +kernel) (by decide +kernel)),_,rfl,_,_,_,rfl,ht1,(tfl_no _ _ _ (by decide +kernel) (by decide +kernel) (by decide +kernel)),t,dt,f,_,_,_,rfl,ht1,hf1,P,S,_,rfl,M1,ok.wf,?_⟩
  rw [ew]
  refine ⟨fun σ3 H3=>∃ (S3 : Hs) (p : Int),σ3 = [some (.ref P.s),some (.int h),some (.int m),some (.ref t),some (.int p)] /\ At L.c H3 P S3 /\ Kp P S.n H H3 /\ Ok S3 /\ S3.n = S.n /\ S3.hands = S.hands /\ S3.things.length <= S.n /\ S3.free (2 + m) = some p /\ S.make h m = (S3.made h m p,.non) /\ (∃ dt,H3 t = some (.ins L.c.T dt (tfl f .non .white))) /\ H3 f = some (.lst (List.replicate m (.int 0))),?_,?_⟩
  ·refine ⟨_,rfl,_,rfl,?_⟩
   cases e : S.free (2 + m) with
   | some p =>
    exact iteF ⟨S,p,rfl,M1,k1,ok,rfl,rfl,len,e,make_1 e,⟨dt,ht1⟩,hf1⟩
   | none =>
    refine iteT ⟨_,rfl,_,_,_,rfl,hs1,(sfl_no _ _ _ (by decide +kernel) (by decide +kernel) (by decide +kernel)),_,rfl,_,_,_,rfl,ht1,(tfl_no _ _ _ (by decide +kernel) (by decide +kernel) (by decide +kernel)),t,dt,f,_,_,_,rfl,ht1,hf1,P,S,_,rfl,M1,ok,Nat.le_of_lt hz,?_,?_,?_⟩
    ·rw [ew]
     have : (2 + (m : Int)).natAbs <= 8:=by omega
     refine Nat.lt_of_le_of_lt (Nat.log2_le_self _) (by omega)
    ·intro p ep H3 M3 k3
     rw [ew] at ep
     have ht3:=k3 t _ ht1 nt
     have hf3:=k3 f _ hf1 nf
     have l3 : S.swept.things.length <= S.n:=by rw [<- (Same.swept S).n]; exact ok.swept.wf.len
     exact ⟨S.swept,p,rfl,M3,k1.trans k3,ok.swept,(Same.swept S).n,(Same.swept S).hands,l3,ep,make_2 e ep,⟨dt,ht3⟩,hf3⟩
    ·intro en H3 M3 k3
     rw [ew] at en
     rw [make_3 e en] at q2
     exact q2 rfl H3 M3 (k1.trans k3)
  ·rintro σ3 H3 ⟨S3,p,rfl,M3,k3,ok3,n3,h3,l3,ef,em,⟨dt3,ht3⟩,hf3⟩
   obtain ⟨ds3,hs3⟩:=M3.sw
   rw [em] at q1
   refine ⟨_,rfl,_,_,_,rfl,hs3,(sfl_no _ _ _ (by decide +kernel) (by decide +kernel) (by decide +kernel)),_,rfl,P,S3,p,rfl,M3,ok3.ready.fg,?_⟩
   refine ⟨_,rfl,_,_,_,_,rfl,ht3,L.cT,L.nT_colour,(by show 3 < 1000; decide),?_⟩
   rw [put_colour]
   have nt3 : ¬ Own P S3.n t:=by rw [n3]; exact nt
   have nf3 : ¬ Own P S3.n f:=by rw [n3]; exact nf
   have M4:=M3.beside (b:=t) (o:=.ins L.c.T dt3 (tfl f .non (S3.colourAt p))) nt3
   have ft : f ≠ t:=hft
   have h4t : upd H3 t (.ins L.c.T dt3 (tfl f .non (S3.colourAt p))) t = some (.ins L.c.T dt3 (tfl f .non (S3.colourAt p))):=upd_same
   have h4f : upd H3 t (.ins L.c.T dt3 (tfl f .non (S3.colourAt p))) f = some (.lst (List.replicate m (.int 0))):=by rw [upd_ne ft]; exact hf3
   have k4 : ∀ b o,H b = some o -> ¬ Own P S.n b -> upd H3 t (.ins L.c.T dt3 (tfl f .non (S3.colourAt p))) b = some o:=fun b o e hb=>by
    rw [upd_ne (ne_of_none e ht)]; exact k3 b o e hb
   generalize upd H3 t (.ins L.c.T dt3 (tfl f .non (S3.colourAt p))) = H4 at M4 h4t h4f k4 ⊢
   obtain ⟨ds4,hs4⟩:=M4.sw
   obtain ⟨dx4,hm4⟩:=M4.mem
   refine ⟨_,rfl,_,_,_,_,_,rfl,hs4,L.cS,L.nS_memory,sfl_memory _ _ _,_,_,_,rfl,hm4,(mfl_no _ _ (by decide +kernel) (by decide +kernel) (by decide +kernel)),_,rfl,_,rfl,P,S3,t,f,dt3,_,p,m,_,rfl,M4,ok3.wf,(by omega),h4t,h4f,nt3,nf3,fun H5 M5 k5=>?_⟩
   have hs5 : ∃ ds,H5 P.s = some (.ins L.c.S ds (sfl (P.add S3.n t f) (S3.lay ⟨p,List.replicate m (.num 0),S3.colourAt p⟩).stage (S3.lay ⟨p,List.replicate m (.num 0),S3.colourAt p⟩).finger)):=M5.sw
   have hm5 : ∃ dx,H5 P.m = some (.ins L.c.M dx (mfl (P.add S3.n t f) (S3.lay ⟨p,List.replicate m (.num 0),S3.colourAt p⟩).size)):=M5.mem
   obtain ⟨ds5,hs5⟩:=hs5
   obtain ⟨dx5,hm5⟩:=hm5
   have ev : (P.add S3.n t f).v (.thing S3.n) = .ref t:=by show V.ref (if S3.n = S3.n then t else _) = _; rw [if_pos rfl]
   refine ⟨_,rfl,_,_,_,_,_,rfl,hs5,L.cS,L.nS_memory,sfl_memory _ _ _,_,_,_,rfl,hm5,(mfl_no _ _ (by decide +kernel) (by decide +kernel) (by decide +kernel)),_,rfl,_,rfl,P.add S3.n t f,_,h,.thing S3.n,(by rw [ev]; rfl),M5,(by show S3.hands.length < 1000; rw [h3]; exact hz),fun H6 M6 k6=>?_⟩
   refine q1 rfl (P.add S3.n t f) H6 M6 rfl rfl ⟨fun b o e hb=>?_,fun b hb=>?_⟩
   ·have b1 : b ≠ t:=ne_of_none e ht
    have b2 : b ≠ f:=ne_of_none e hf0
    refine k6 b o (k5 b o (k4 b o e hb) (by rw [n3]; exact hb) b1) fun z=>?_
    rcases own_add z with q | q | q
    ·exact b1 q
    ·exact b2 q
    ·exact hb (by rw [<- n3]; exact q)
   ·rw [<- n3] at hb
    rcases own_add hb with q | q | q
    ·right; rw [q]; exact ht
    ·right; rw [q]; exact hf0
    ·left; rw [<- n3]; exact q
end
end GH
namespace GH
open PySem L2
section
def sp_H_make (c : CA) : Sp:=fun vs H Q E=>∃ (hh : Addr) (P : Pl) (S : Hs) (h : Int) (m : Nat),vs = [.ref hh,.int h,.int m] /\ HAt c H hh P S /\ Ok S /\ m <= 6 /\ S.hands.length < 1000 /\ S.n < 1000 /\ ((S.make h m).2 = .non -> ∀ P' H',HAt c H' hh P' (S.make h m).1 -> Fm P S.n P' (S.n + 1) H H' -> Q .non H') /\ ((S.make h m).2 = .noRoom -> HGo c hh P S.n H (S.make h m).1 (E (.ref c.nr) none))
theorem sc_H_make : FnScope ["self","hand","many"] ["self","hand","many"] (defScope sH_make):=⟨rfl,rfl,rfl,by decide +kernel,rfl,by decide +kernel,by decide +kernel⟩
theorem ok_H_make (L : Lk K mg) : FnOk PR w K mg base (CXE PR w) 9 L.H_make.f L.H_make.d ["self","hand","many"] (sp_H_make L.c):=by
 refine L.H_make.F.okE sc_H_make (fun vs H Q E h=>?_) (fun cdv A outer s H vs Q E hr h=>?_)
 ·obtain ⟨hh,P,S,h,m,rfl,M,ok,hm6,hz,hn,k1,k2⟩:=h
  rfl
 ·obtain ⟨hh,P,S,h,m,rfl,M,ok,hm6,hz,hn,k1,k2⟩:=h
  have hu:=hu_of hr
  refine ⟨_,(pss_one (ps_expr (pe_meth (pe_fld (pv 0) rfl) L.cS L.S_make.m (ok_S_make L) (hr.mono (by decide)) L.S_make.b .nil passes_cx (pa_cons (pv 1) (pa_cons (pv 2) pa_nil))))),?_⟩
  obtain ⟨dh,hh0⟩:=M.hall
  obtain ⟨dx,hm⟩:=M.at_.mem
  obtain ⟨ds,hs⟩:=M.at_.sw
  refine ⟨_,rfl,_,_,_,_,_,rfl,hh0,L.cH,L.nH_sweeper,hfl_sweeper _,_,_,_,rfl,hs,(sfl_no _ _ _ (by decide +kernel) (by decide +kernel) (by decide +kernel)),_,rfl,_,rfl,P,S,h,m,rfl,M.at_,ok,hm6,hz,hn,fun e P1 H1 M1 e1 e2 f1=>k1 e P1 H1 ⟨M1,dh,?_⟩ f1,fun e H1 M1 f1=>k2 e H1 (M.go M1 f1) f1⟩
  have : hfl P1 = hfl P:=by unfold hfl; rw [e1,e2]
  rw [this]
  exact f1.keep hh _ hh0 M.no
end
end GH
namespace GH
open PySem L2
section
def sp_M_number (c : CA) : Sp:=fun vs H Q _=>∃ (P : Pl) (S : Hs) (h n : Int),vs = [.ref P.m,.int h,.int n] /\ At c H P S /\ S.hands.length < 1000 /\ Go c P S.n H (S.hold h (.num n)) (Q .non)
theorem sc_M_number : FnScope ["self","hand","n"] ["self","hand","n"] (defScope sM_number):=⟨rfl,rfl,rfl,by decide +kernel,rfl,by decide +kernel,by decide +kernel⟩
theorem ok_M_number (L : Lk K mg) : FnOk PR w K mg base CX0 2 L.M_number.f L.M_number.d ["self","hand","n"] (sp_M_number L.c):=by
 refine L.M_number.F.ok sc_M_number (fun vs H Q E h=>?_) (fun cdv A outer s H vs Q E hr h=>?_)
 ·obtain ⟨P,S,h,n,rfl,M,hl,k⟩:=h
  rfl
 ·obtain ⟨P,S,h,n,rfl,M,hl,k⟩:=h
  have hu:=hu_of hr
  refine ⟨_,(pss_one (ps_expr (pe_meth (pv 0) L.cM L.M_hold.m (ok_M_hold L) (hr.mono (by decide)) L.M_hold.b .nil pass0 (pa_cons (pv 1) (pa_cons (pv 2) pa_nil))))),?_⟩
  obtain ⟨dx,hm⟩:=M.mem
  exact ⟨_,rfl,_,_,_,rfl,hm,(mfl_no _ _ (by decide +kernel) (by decide +kernel) (by decide +kernel)),_,rfl,_,rfl,P,S,h,.num n,rfl,M,hl,k⟩
end
end GH
namespace GH
open PySem L2
section
def sp_H_number (c : CA) : Sp:=fun vs H Q E=>∃ (hh : Addr) (P : Pl) (S : Hs) (h n : Int),vs = [.ref hh,.int h,.int n] /\ HAt c H hh P S /\ S.hands.length < 1000 /\ HGo c hh P S.n H (S.hold h (.num n)) (Q .non)
theorem sc_H_number : FnScope ["self","hand","n"] ["self","hand","n"] (defScope sH_number):=⟨rfl,rfl,rfl,by decide +kernel,rfl,by decide +kernel,by decide +kernel⟩
theorem ok_H_number (L : Lk K mg) : FnOk PR w K mg base CX0 3 L.H_number.f L.H_number.d ["self","hand","n"] (sp_H_number L.c):=by
 refine L.H_number.F.ok sc_H_number (fun vs H Q E h=>?_) (fun cdv A outer s H vs Q E hr h=>?_)
 ·obtain ⟨hh,P,S,h,n,rfl,M,hl,k⟩:=h
  rfl
 ·obtain ⟨hh,P,S,h,n,rfl,M,hl,k⟩:=h
  have hu:=hu_of hr
  refine ⟨_,(pss_one (ps_expr (pe_meth (pe_fld (pv 0) rfl) L.cM L.M_number.m (ok_M_number L) (hr.mono (by decide)) L.M_number.b .nil pass0 (pa_cons (pv 1) (pa_cons (pv 2) pa_nil))))),?_⟩
  obtain ⟨dh,hh0⟩:=M.hall
  obtain ⟨dx,hm⟩:=M.at_.mem
  obtain ⟨ds,hs⟩:=M.at_.sw
  exact ⟨_,rfl,_,_,_,_,_,rfl,hh0,L.cH,L.nH_memory,hfl_memory _,_,_,_,rfl,hm,(mfl_no _ _ (by decide +kernel) (by decide +kernel) (by decide +kernel)),_,rfl,_,rfl,P,S,h,n,rfl,M.at_,hl,fun H1 M1 k1=>k H1 (M.go M1 k1) k1⟩
end
end GH
namespace GH
open PySem L2
section
def sp_S_slide (c : CA) : Sp:=fun vs H Q E=>∃ (P : Pl) (S : Hs),vs = [.ref P.s] /\ At c H P S /\ Wf S /\ (S.stage = .idle -> Go c P S.n H S.slide (Q .non)) /\ (S.stage ≠ .idle -> E (.ref c.nn) none H)
theorem sc_S_slide : FnScope ["self"] ["self"] (defScope sS_slide):=⟨rfl,rfl,rfl,by decide +kernel,rfl,by decide +kernel,by decide +kernel⟩
theorem ok_S_slide (L : Lk K mg) : FnOk PR w K mg base (CXE PR w) 4 L.S_slide.f L.S_slide.d ["self"] (sp_S_slide L.c):=by
 refine L.S_slide.F.okE sc_S_slide (fun vs H Q E h=>?_) (fun cdv A outer s H vs Q E hr h=>?_)
 ·obtain ⟨P,S,rfl,M,wf,q1,q2⟩:=h
  rfl
 ·obtain ⟨P,S,rfl,M,wf,q1,q2⟩:=h
  have hu:=hu_of hr
  refine ⟨_,(pss_cons (ps_expr (pe_meth0 (pv 0) L.cS L.S_refuse_during_sweep.m (ok_S_refuse_during_sweep L) (hr.mono (by decide)) L.S_refuse_during_sweep.b .nil passes_cx))
   (pss_one (ps_expr (pe_meth0 (pe_fld (pv 0) rfl) L.cM L.M_slide.m (ok_M_slide L) (hr.mono (by decide)) L.M_slide.b .nil pass0)))),?_⟩
  obtain ⟨ds,hs⟩:=M.sw
  obtain ⟨dx,hm⟩:=M.mem
  exact ⟨_,rfl,_,_,_,rfl,hs,(sfl_no _ _ _ (by decide +kernel) (by decide +kernel) (by decide +kernel)),P,S,rfl,M,fun hi=>⟨_,rfl,_,_,_,_,_,rfl,hs,L.cS,L.nS_memory,sfl_memory _ _ _,_,_,_,rfl,hm,(mfl_no _ _ (by decide +kernel) (by decide +kernel) (by decide +kernel)),P,S,rfl,M,wf,q1 hi⟩,q2⟩
end
end GH
namespace GH
open PySem L2
section
def sp_H_slide (c : CA) : Sp:=fun vs H Q E=>∃ (hh : Addr) (P : Pl) (S : Hs),vs = [.ref hh] /\ HAt c H hh P S /\ Wf S /\ (S.stage = .idle -> HGo c hh P S.n H S.slide (Q .non)) /\ (S.stage ≠ .idle -> E (.ref c.nn) none H)
theorem sc_H_slide : FnScope ["self"] ["self"] (defScope sH_slide):=⟨rfl,rfl,rfl,by decide +kernel,rfl,by decide +kernel,by decide +kernel⟩
theorem ok_H_slide (L : Lk K mg) : FnOk PR w K mg base (CXE PR w) 5 L.H_slide.f L.H_slide.d ["self"] (sp_H_slide L.c):=by
 refine L.H_slide.F.okE sc_H_slide (fun vs H Q E h=>?_) (fun cdv A outer s H vs Q E hr h=>?_)
 ·obtain ⟨hh,P,S,rfl,M,wf,k,k2⟩:=h
  rfl
 ·obtain ⟨hh,P,S,rfl,M,wf,k,k2⟩:=h
  have hu:=hu_of hr
  refine ⟨_,(pss_one (ps_expr (pe_meth0 (pe_fld (pv 0) rfl) L.cS L.S_slide.m (ok_S_slide L) (hr.mono (by decide)) L.S_slide.b .nil passes_cx))),?_⟩
  obtain ⟨dh,hh0⟩:=M.hall
  obtain ⟨dx,hm⟩:=M.at_.mem
  obtain ⟨ds,hs⟩:=M.at_.sw
  exact ⟨_,rfl,_,_,_,_,_,rfl,hh0,L.cH,L.nH_sweeper,hfl_sweeper _,_,_,_,rfl,hs,(sfl_no _ _ _ (by decide +kernel) (by decide +kernel) (by decide +kernel)),P,S,rfl,M.at_,wf,fun e H1 M1 k1=>k e H1 (M.go M1 k1) k1,k2⟩
end
end GH
namespace GH
open PySem L2
section
def sp_H_step (c : CA) : Sp:=fun vs H Q E=>∃ (hh : Addr) (P : Pl) (S : Hs) (n : Nat),vs = [.ref hh,.int n] /\ HAt c H hh P S /\ Ok S /\ HGo c hh P S.n H (S.steps n).1 (Q (.int (S.steps n).2))
theorem sc_H_step : FnScope ["self","n"] ["self","n"] (defScope sH_step):=⟨rfl,rfl,rfl,by decide +kernel,rfl,by decide +kernel,by decide +kernel⟩
theorem ok_H_step (L : Lk K mg) : FnOk PR w K mg base CX0 6 L.H_step.f L.H_step.d ["self","n"] (sp_H_step L.c):=by
 refine L.H_step.F.ok sc_H_step (fun vs H Q E h=>?_) (fun cdv A outer s H vs Q E hr h=>?_)
 ·obtain ⟨hh,P,S,n,rfl,M,ok,k⟩:=h
  rfl
 ·obtain ⟨hh,P,S,n,rfl,M,ok,k⟩:=h
  have hu:=hu_of hr
  refine ⟨_,(pss_one (ps_ret (pe_meth (pe_fld (pv 0) rfl) L.cS L.S_step.m (ok_S_step L) (hr.mono (by decide)) L.S_step.b .nil pass0 (pa_cons (pv 1) pa_nil)))),?_⟩
  obtain ⟨dh,hh0⟩:=M.hall
  obtain ⟨dx,hm⟩:=M.at_.mem
  obtain ⟨ds,hs⟩:=M.at_.sw
  exact ⟨_,rfl,_,_,_,_,_,rfl,hh0,L.cH,L.nH_sweeper,hfl_sweeper _,_,_,_,rfl,hs,(sfl_no _ _ _ (by decide +kernel) (by decide +kernel) (by decide +kernel)),_,rfl,P,S,n,rfl,M.at_,ok,fun H1 M1 k1=>k H1 (M.go M1 k1) k1⟩
end
end GH
namespace GH
open PySem L2
section
def sp_M_store (c : CA) : Sp:=fun vs H Q _=>∃ (P : Pl) (S : Hs) (h f o : Int) (k : Nat) (v : Vl),vs = [.ref P.m,.int h,.int f,.int o] /\ At c H P S /\ Wf S /\ h.natAbs.log2 < 1920 /\ f.natAbs.log2 < 1920 /\ S.held h = .thing k /\ S.field h f = .inl v /\
 Go c P S.n H (S.setField k f.toNat (S.held o)) (Q .non)
theorem sc_M_store : FnScope ["self","hand","field","other","thing"] ["self","hand","field","other"] (defScope sM_store):=⟨rfl,rfl,rfl,by decide +kernel,rfl,by decide +kernel,by decide +kernel⟩
theorem ok_M_store (L : Lk K mg) : FnOk PR w K mg base (CXE PR w) 4 L.M_store.f L.M_store.d ["self","hand","field","other"] (sp_M_store L.c):=by
 refine L.M_store.F.okE sc_M_store (fun vs H Q E h=>?_) (fun cdv A outer s H vs Q E hr h=>?_)
 ·obtain ⟨P,S,h,f,o,k,v,rfl,M,wf,hh,hf,e1,e2,q⟩:=h
  rfl
 ·obtain ⟨P,S,h,f,o,k,v,rfl,M,wf,hh,hf,e1,e2,q⟩:=h
  have hu:=hu_of hr
  refine ⟨_,(pss_cons (ps_set (i:=4) sc_M_store.nd rfl (Or.inl rfl) (pe_meth (pv 0) L.cM L.M_thing_with_field.m (ok_M_thing_with_field L) (hr.mono (by decide)) L.M_thing_with_field.b .nil passes_cx (pa_cons (pv 1) (pa_cons (pv 2) pa_nil))))
   (pss_one (ps_asg (pe_meth (pv 0) L.cM L.M_held.m (ok_M_held L) (hr.mono (by decide)) L.M_held.b .nil pass0 (pa_cons (pv 3) pa_nil)) (pg_sub (pe_fld (pv 4) rfl) (pv 2) set_list)))),?_⟩
  obtain ⟨dx,hm⟩:=M.mem
  obtain ⟨k',hk,h0,hg⟩:=field_inl e2
  rw [e1] at hk
  cases hk
  have hkn : k < S.n:=wf.hv _ _ (held_mem e1)
  obtain ⟨dt,ht⟩:=M.th k hkn
  have hl:=M.fl k hkn
  refine ⟨_,rfl,_,_,_,rfl,hm,(mfl_no _ _ (by decide +kernel) (by decide +kernel) (by decide +kernel)),_,rfl,_,rfl,P,S,h,f,rfl,M,wf,hh,hf,fun j u e3 e4=>?_,fun t e=>by rw [e2] at e; cases e⟩
  rw [e1] at e3
  cases e3
  have hlt : f.toNat < (S.th k).fields.length:=(List.getElem?_eq_some_iff.mp hg).1
  refine ⟨_,rfl,_,_,_,rfl,hm,(mfl_no _ _ (by decide +kernel) (by decide +kernel) (by decide +kernel)),_,rfl,P,S,o,rfl,M,_,rfl,_,_,_,_,_,rfl,ht,L.cT,L.nT_fields,tfl_fields _ _ _,_,rfl,P.fl k,_,f,f.toNat,rfl,rfl,hl,?_,?_⟩
  ·unfold ixN; rw [if_pos h0,if_pos (by rw [List.length_map]; omega)]
  ·rw [<- List.map_set]
   exact q _ (M.fields hkn _) (.upd (.inl (own_f hkn)))
end
end GH
namespace GH
open PySem L2
section
def sp_S_store (c : CA) : Sp:=fun vs H Q E=>∃ (P : Pl) (S : Hs) (h f o : Int),vs = [.ref P.s,.int h,.int f,.int o] /\ At c H P S /\ Wf S /\ h.natAbs.log2 < 1920 /\ f.natAbs.log2 < 1920 /\
 ((S.store h f o).2 = .non -> Go c P S.n H (S.store h f o).1 (Q .non)) /\ (∀ t,S.field h f = .inr t -> E (.ref (c.ex t)) none H)
theorem sc_S_store : FnScope ["self","hand","field","other","lost"] ["self","hand","field","other"] (defScope sS_store):=⟨rfl,rfl,rfl,by decide +kernel,rfl,by decide +kernel,by decide +kernel⟩
theorem ok_S_store (L : Lk K mg) : FnOk PR w K mg base (CXE PR w) 5 L.S_store.f L.S_store.d ["self","hand","field","other"] (sp_S_store L.c):=by
 refine L.S_store.F.okE sc_S_store (fun vs H Q E h=>?_) (fun cdv A outer s H vs Q E hr h=>?_)
 ·obtain ⟨P,S,h,f,o,rfl,M,wf,hh,hf,q1,q2⟩:=h
  rfl
 ·obtain ⟨P,S,h,f,o,rfl,M,wf,hh,hf,q1,q2⟩:=h
  have hu:=hu_of hr
  refine ⟨_,(pss_cons (ps_set (i:=4) sc_S_store.nd rfl (Or.inl rfl) (pe_meth (pe_fld (pv 0) rfl) L.cM L.M_field_value.m (ok_M_field_value L) (hr.mono (by decide)) L.M_field_value.b .nil passes_cx (pa_cons (pv 1) (pa_cons (pv 2) pa_nil))))
   (pss_cut (ps_if (pt_cmpR op_eq (pe_fld (pv 0) rfl) (pe_glob (v:=.str "mark") rfl L.gMARK ⟨_,rfl⟩) (nomark _))
    (pss_one (ps_expr (pe_call (ok_make_grey L) (hr.mono (by decide)) rfl L.make_grey.g L.make_grey.F.kp L.make_grey.b .nil pass0 (pa_cons (pv 4) pa_nil))))
    pss_nil)
   (pss_one (ps_expr (pe_meth (pe_fld (pv 0) rfl) L.cM L.M_store.m (ok_M_store L) (hr.mono (by decide)) L.M_store.b .nil passes_cx (pa_cons (pv 1) (pa_cons (pv 2) (pa_cons (pv 3) pa_nil)))))))),?_⟩
  obtain ⟨ds,hs⟩:=M.sw
  obtain ⟨dx,hm⟩:=M.mem
  refine ⟨_,rfl,_,_,_,_,_,rfl,hs,L.cS,L.nS_memory,sfl_memory _ _ _,_,_,_,rfl,hm,(mfl_no _ _ (by decide +kernel) (by decide +kernel) (by decide +kernel)),_,rfl,_,rfl,P,S,h,f,rfl,M,wf,hh,hf,fun v ev=>?_,q2⟩
  obtain ⟨k,hk,h0,hg⟩:=field_inl ev
  rw [store_eq hk ev] at q1
  have q:=q1 rfl
  have hkn:=wf.hv _ _ (held_mem hk)
  refine ⟨fun σ3 H3=>σ3 = [some (.ref P.s),some (.int h),some (.int f),some (.int o),some (P.v v)] /\ At L.c H3 P (if S.stage = .mark then S.makeGrey v else S) /\ Kp P S.n H H3,?_,?_⟩
  ·refine ⟨_,rfl,_,_,_,_,_,rfl,hs,L.cS,L.nS_stage,sfl_stage _ _ _,rfl,_,rfl,?_⟩
   have e : decide (V.str S.stage.s = V.str "mark") = decide (S.stage = .mark):=dec_stg _ .mark
   rw [e]
   refine ite2 (fun h1=>?_) (fun h1=>?_)
   ·rw [if_pos (of_decide_eq_true h1)]
    refine ⟨_,rfl,P,S,v,rfl,M,fun j e=>?_,fun H3 M3 k3=>⟨rfl,M3,k3⟩⟩
    subst e; exact wf.fv k j hkn (List.mem_of_getElem? hg)
   ·rw [if_neg (fun z=>h1 (decide_eq_true z))]
    exact ⟨rfl,M,Kp.rfl⟩
  ·rintro σ3 H3 ⟨rfl,M3,k3⟩
   have s3 : Same S (if S.stage = .mark then S.makeGrey v else S):=by
    split
    ·exact .makeGrey S v
    ·exact .refl S
   have t3 : (if S.stage = .mark then S.makeGrey v else S).things = S.things:=by
    split
    ·exact makeGrey_things S v
    ·rfl
   have wf3 : Wf (if S.stage = .mark then S.makeGrey v else S):=wf.of s3 (by rw [t3]; exact List.Sublist.refl _)
   have hh3:=s3.held h
   have ho3:=s3.held o
   have hf3 : (if S.stage = .mark then S.makeGrey v else S).field h f = .inl v:=by
    unfold Hs.field at ev ⊢
    rw [hh3]
    rw [hk] at ev ⊢
    dsimp only at ev ⊢
    rw [s3.fields]
    exact ev
   have hn3:=s3.n
   rw [<- ho3] at q
   rw [hk] at hh3
   generalize (if S.stage = .mark then S.makeGrey v else S) = S3 at *
   obtain ⟨ds3,hs3⟩:=M3.sw
   obtain ⟨dx3,hm3⟩:=M3.mem
   refine ⟨_,rfl,_,_,_,_,_,rfl,hs3,L.cS,L.nS_memory,sfl_memory _ _ _,_,_,_,rfl,hm3,(mfl_no _ _ (by decide +kernel) (by decide +kernel) (by decide +kernel)),_,rfl,_,rfl,_,rfl,P,S3,h,f,o,k,v,rfl,M3,wf3,hh,hf,hh3,hf3,fun H4 M4 k4=>?_⟩
   rw [hn3] at k4
   exact q _ M4 (k3.trans k4)
end
end GH
namespace GH
open PySem L2
section
def sp_H_store (c : CA) : Sp:=fun vs H Q E=>∃ (hh : Addr) (P : Pl) (S : Hs) (h f o : Int),vs = [.ref hh,.int h,.int f,.int o] /\ HAt c H hh P S /\ Wf S /\ h.natAbs.log2 < 1920 /\ f.natAbs.log2 < 1920 /\ ((S.store h f o).2 = .non -> HGo c hh P S.n H (S.store h f o).1 (Q .non)) /\ (∀ t,S.field h f = .inr t -> E (.ref (c.ex t)) none H)
theorem sc_H_store : FnScope ["self","hand","field","other"] ["self","hand","field","other"] (defScope sH_store):=⟨rfl,rfl,rfl,by decide +kernel,rfl,by decide +kernel,by decide +kernel⟩
theorem ok_H_store (L : Lk K mg) : FnOk PR w K mg base (CXE PR w) 6 L.H_store.f L.H_store.d ["self","hand","field","other"] (sp_H_store L.c):=by
 refine L.H_store.F.okE sc_H_store (fun vs H Q E h=>?_) (fun cdv A outer s H vs Q E hr h=>?_)
 ·obtain ⟨hh,P,S,h,f,o,rfl,M,wf,hh2,hf,k,k2⟩:=h
  rfl
 ·obtain ⟨hh,P,S,h,f,o,rfl,M,wf,hh2,hf,k,k2⟩:=h
  have hu:=hu_of hr
  refine ⟨_,(pss_one (ps_expr (pe_meth (pe_fld (pv 0) rfl) L.cS L.S_store.m (ok_S_store L) (hr.mono (by decide)) L.S_store.b .nil passes_cx (pa_cons (pv 1) (pa_cons (pv 2) (pa_cons (pv 3) pa_nil)))))),?_⟩
  obtain ⟨dh,hh0⟩:=M.hall
  obtain ⟨dx,hm⟩:=M.at_.mem
  obtain ⟨ds,hs⟩:=M.at_.sw
  exact ⟨_,rfl,_,_,_,_,_,rfl,hh0,L.cH,L.nH_sweeper,hfl_sweeper _,_,_,_,rfl,hs,(sfl_no _ _ _ (by decide +kernel) (by decide +kernel) (by decide +kernel)),_,rfl,_,rfl,_,rfl,P,S,h,f,o,rfl,M.at_,wf,hh2,hf,fun e H1 M1 k1=>k e H1 (M.go M1 k1) k1,k2⟩
end
end GH
namespace GH
open PySem L2
section
def sp__law_call (c : CA) : Sp:=fun vs H Q E=>∃ (hh at' : Addr) (P : Pl) (S : Hs) (a : Act),vs = [.ref hh,.ref at'] /\ HAt c H hh P S /\ Ok S /\ H at' = some (.tup (actV a)) /\ Fit a /\ S.hands.length < 1000 /\ S.n < 1000 /\
 ((S.act a).2.ok = true -> ∀ P' H',HAt c H' hh P' (S.act a).1 -> Fm P S.n P' (S.act a).1.n H H' -> Q (S.act a).2.v H') /\ ((S.act a).2.ok = false -> HGo c hh P S.n H (S.act a).1 (E (.ref (c.ex (S.act a).2)) none))
theorem sc__law_call : FnScope ["_law_hall","_law_act_here"] ["_law_hall","_law_act_here"] (defScope s_law_call):=⟨rfl,rfl,rfl,by decide +kernel,rfl,by decide +kernel,by decide +kernel⟩
theorem ok__law_call (L : Lk K mg) : FnOk PR w K mg base (CXE PR w) 10 L._law_call.f L._law_call.d ["_law_hall","_law_act_here"] (sp__law_call L.c):=by
 refine L._law_call.F.okE sc__law_call (fun vs H Q E h=>?_) (fun cdv A outer s H vs Q E hr h=>?_)
 ·obtain ⟨hh,at',P,S,a,rfl,M,ok,ht,fit,hz,hn,q1,q2⟩:=h
  rfl
 ·obtain ⟨hh,at',P,S,a,rfl,M,ok,ht,fit,hz,hn,q1,q2⟩:=h
  have hu:=hu_of hr
  refine ⟨_,(pss_cons (ps_if (pt_cmpR op_eq (pe_ix ix_tup (pv 1) pe_int (fun _ _=>rfl)) pe_str (nomark _))
    (pss_one (ps_ret (pe_meth (pv 0) L.cH L.H_make.m (ok_H_make L) (hr.mono (by decide)) L.H_make.b .nil passes_cx (pa_cons (pe_ix ix_tup (pv 1) pe_int (fun _ _=>rfl)) (pa_cons (pe_ix ix_tup (pv 1) pe_int (fun _ _=>rfl)) pa_nil)))))
    pss_nil)
   (pss_cons (ps_if (pt_cmpR op_eq (pe_ix ix_tup (pv 1) pe_int (fun _ _=>rfl)) pe_str (nomark _))
    (pss_one (ps_ret (pe_meth (pv 0) L.cH L.H_store.m (ok_H_store L) (hr.mono (by decide)) L.H_store.b .nil passes_cx (pa_cons (pe_ix ix_tup (pv 1) pe_int (fun _ _=>rfl)) (pa_cons (pe_ix ix_tup (pv 1) pe_int (fun _ _=>rfl)) (pa_cons (pe_ix ix_tup (pv 1) pe_int (fun _ _=>rfl)) pa_nil))))))
    pss_nil)
   (pss_cons (ps_if (pt_cmpR op_eq (pe_ix ix_tup (pv 1) pe_int (fun _ _=>rfl)) pe_str (nomark _))
    (pss_one (ps_ret (pe_meth (pv 0) L.cH L.H_load.m (ok_H_load L) (hr.mono (by decide)) L.H_load.b .nil passes_cx (pa_cons (pe_ix ix_tup (pv 1) pe_int (fun _ _=>rfl)) (pa_cons (pe_ix ix_tup (pv 1) pe_int (fun _ _=>rfl)) (pa_cons (pe_ix ix_tup (pv 1) pe_int (fun _ _=>rfl)) pa_nil))))))
    pss_nil)
   (pss_cons (ps_if (pt_cmpR op_eq (pe_ix ix_tup (pv 1) pe_int (fun _ _=>rfl)) pe_str (nomark _))
    (pss_one (ps_ret (pe_meth (pv 0) L.cH L.H_copy.m (ok_H_copy L) (hr.mono (by decide)) L.H_copy.b .nil pass0 (pa_cons (pe_ix ix_tup (pv 1) pe_int (fun _ _=>rfl)) (pa_cons (pe_ix ix_tup (pv 1) pe_int (fun _ _=>rfl)) pa_nil)))))
    pss_nil)
   (pss_cons (ps_if (pt_cmpR op_eq (pe_ix ix_tup (pv 1) pe_int (fun _ _=>rfl)) pe_str (nomark _))
    (pss_one (ps_ret (pe_meth (pv 0) L.cH L.H_number.m (ok_H_number L) (hr.mono (by decide)) L.H_number.b .nil pass0 (pa_cons (pe_ix ix_tup (pv 1) pe_int (fun _ _=>rfl)) (pa_cons (pe_ix ix_tup (pv 1) pe_int (fun _ _=>rfl)) pa_nil)))))
    pss_nil)
   (pss_cons (ps_if (pt_cmpR op_eq (pe_ix ix_tup (pv 1) pe_int (fun _ _=>rfl)) pe_str (nomark _))
    (pss_one (ps_ret (pe_meth0 (pv 0) L.cH L.H_begin.m (ok_H_begin L) (hr.mono (by decide)) L.H_begin.b .nil passes_cx)))
    pss_nil)
   (pss_cons (ps_if (pt_cmpR op_eq (pe_ix ix_tup (pv 1) pe_int (fun _ _=>rfl)) pe_str (nomark _))
    (pss_one (ps_ret (pe_meth0 (pv 0) L.cH L.H_slide.m (ok_H_slide L) (hr.mono (by decide)) L.H_slide.b .nil passes_cx)))
    pss_nil)
   (pss_cons (ps_if (pt_cmpR op_eq (pe_ix ix_tup (pv 1) pe_int (fun _ _=>rfl)) pe_str (nomark _))
    (pss_one (ps_ret (pe_meth0 (pv 0) L.cH L.H_finish.m (ok_H_finish L) (hr.mono (by decide)) L.H_finish.b .nil pass0)))
    pss_nil)
   (pss_one (ps_ret (pe_meth (pv 0) L.cH L.H_step.m (ok_H_step L) (hr.mono (by decide)) L.H_step.b .nil pass0 (pa_cons (pe_ix ix_tup (pv 1) pe_int (fun _ _=>rfl)) pa_nil)))))))))))),?_⟩
  cases a with
  | make h m =>
   refine ⟨_,rfl,at',_,0,_,rfl,rfl,SqT.of ht,rfl,rfl,_,rfl,?_⟩
   rw [strT]
   refine iteT ?_
   obtain ⟨dh,hh0⟩:=M.hall
   refine ⟨_,rfl,_,_,_,rfl,hh0,(hfl_no _ (by decide +kernel) (by decide +kernel)),_,rfl,at',_,1,_,rfl,rfl,SqT.of ht,rfl,_,rfl,at',_,2,_,rfl,rfl,SqT.of ht,rfl,hh,P,S,h,m,rfl,M,ok,fit.make h m rfl,hz,hn,fun e P1 H1 M1 f1=>?_,fun e H1 M1 k1=>?_⟩
   ·have e' : (S.act (.make h m)).2 = .non:=e
    have en : (S.act (.make h m)).1.n = S.n + 1:=by
     show (S.make h m).1.n = _
     cases ef : S.free (2 + m) with
     | some p=>rw [make_1 ef]; rfl
     | none =>
      cases ef2 : S.swept.free (2 + m) with
      | some p=>rw [make_2 ef ef2]; show S.swept.n + 1 = _; rw [(Same.swept S).n]
      | none=>rw [make_3 ef ef2] at e; cases e
    have q:=q1 (by rw [e']; rfl) P1 H1 M1 (by rw [en]; exact f1)
    rw [e'] at q
    exact q
   ·have e' : (S.act (.make h m)).2 = .noRoom:=e
    have q:=q2 (by rw [e']; rfl) H1 M1 k1
    rw [e'] at q
    exact q
  | store h f o =>
   refine ⟨_,rfl,at',_,0,_,rfl,rfl,SqT.of ht,rfl,rfl,_,rfl,?_⟩
   rw [nm_store_make]
   refine iteF ?_
   refine ⟨_,rfl,at',_,0,_,rfl,rfl,SqT.of ht,rfl,rfl,_,rfl,?_⟩
   rw [strT]
   refine iteT ?_
   obtain ⟨dh,hh0⟩:=M.hall
   refine ⟨_,rfl,_,_,_,rfl,hh0,(hfl_no _ (by decide +kernel) (by decide +kernel)),_,rfl,at',_,1,_,rfl,rfl,SqT.of ht,rfl,_,rfl,at',_,2,_,rfl,rfl,SqT.of ht,rfl,_,rfl,at',_,3,_,rfl,rfl,SqT.of ht,rfl,hh,P,S,h,f,o,rfl,M,ok.wf,log_small (fit.store h f o rfl).1,log_small (fit.store h f o rfl).2,fun e H1 M1 k1=>?_,fun t e=>?_⟩
   ·have e' : (S.act (.store h f o)).2 = .non:=e
    have en : (S.act (.store h f o)).1.n = S.n:=by
     show (S.store h f o).1.n = _
     unfold Hs.store
     split
     ·show (if S.stage = .mark then _ else S).n = _
      split
      ·exact (Same.makeGrey S _).n
      ·rfl
     ·rfl
     ·rfl
    have q:=q1 (by rw [e']; rfl) P H1 M1 (by rw [en]; exact k1.fm)
    rw [e'] at q
    exact q
   ·have e' : S.act (.store h f o) = (S,t):=by
     show S.store h f o = _
     unfold Hs.store
     rw [e]
     cases S.held h <;> rfl
    have tk : t.ok = false:=by
     unfold Hs.field at e
     split at e
     ·cases e; rfl
     ·split at e
      ·cases e; rfl
      ·split at e
       ·cases e
       ·cases e; rfl
    rw [e'] at q2
    exact q2 tk H M (Kp.rfl)
  | load h o f =>
   refine ⟨_,rfl,at',_,0,_,rfl,rfl,SqT.of ht,rfl,rfl,_,rfl,?_⟩
   rw [nm_load_make]
   refine iteF ?_
   refine ⟨_,rfl,at',_,0,_,rfl,rfl,SqT.of ht,rfl,rfl,_,rfl,?_⟩
   rw [nm_load_store]
   refine iteF ?_
   refine ⟨_,rfl,at',_,0,_,rfl,rfl,SqT.of ht,rfl,rfl,_,rfl,?_⟩
   rw [strT]
   refine iteT ?_
   obtain ⟨dh,hh0⟩:=M.hall
   refine ⟨_,rfl,_,_,_,rfl,hh0,(hfl_no _ (by decide +kernel) (by decide +kernel)),_,rfl,at',_,1,_,rfl,rfl,SqT.of ht,rfl,_,rfl,at',_,2,_,rfl,rfl,SqT.of ht,rfl,_,rfl,at',_,3,_,rfl,rfl,SqT.of ht,rfl,hh,P,S,h,o,f,rfl,M,ok.wf,log_small (fit.load h o f rfl).1,log_small (fit.load h o f rfl).2,hz,fun v e H1 M1 k1=>?_,fun t e=>?_⟩
   ·have e' : S.act (.load h o f) = (S.hold h v,.non):=by show S.load h o f = _; unfold Hs.load; rw [e]
    rw [e'] at q1
    exact q1 rfl P H1 M1 k1.fm
   ·have e' : S.act (.load h o f) = (S,t):=by show S.load h o f = _; unfold Hs.load; rw [e]
    have tk : t.ok = false:=by
     unfold Hs.field at e
     split at e
     ·cases e; rfl
     ·split at e
      ·cases e; rfl
      ·split at e
       ·cases e
       ·cases e; rfl
    rw [e'] at q2
    exact q2 tk H M (Kp.rfl)
  | copy h o =>
   refine ⟨_,rfl,at',_,0,_,rfl,rfl,SqT.of ht,rfl,rfl,_,rfl,?_⟩
   rw [nm_copy_make]
   refine iteF ?_
   refine ⟨_,rfl,at',_,0,_,rfl,rfl,SqT.of ht,rfl,rfl,_,rfl,?_⟩
   rw [nm_copy_store]
   refine iteF ?_
   refine ⟨_,rfl,at',_,0,_,rfl,rfl,SqT.of ht,rfl,rfl,_,rfl,?_⟩
   rw [nm_copy_load]
   refine iteF ?_
   refine ⟨_,rfl,at',_,0,_,rfl,rfl,SqT.of ht,rfl,rfl,_,rfl,?_⟩
   rw [strT]
   refine iteT ?_
   obtain ⟨dh,hh0⟩:=M.hall
   exact ⟨_,rfl,_,_,_,rfl,hh0,(hfl_no _ (by decide +kernel) (by decide +kernel)),_,rfl,at',_,1,_,rfl,rfl,SqT.of ht,rfl,_,rfl,at',_,2,_,rfl,rfl,SqT.of ht,rfl,hh,P,S,h,o,rfl,M,hz,fun H1 M1 k1=>q1 rfl P H1 M1 k1.fm⟩
  | number h n =>
   refine ⟨_,rfl,at',_,0,_,rfl,rfl,SqT.of ht,rfl,rfl,_,rfl,?_⟩
   rw [nm_number_make]
   refine iteF ?_
   refine ⟨_,rfl,at',_,0,_,rfl,rfl,SqT.of ht,rfl,rfl,_,rfl,?_⟩
   rw [nm_number_store]
   refine iteF ?_
   refine ⟨_,rfl,at',_,0,_,rfl,rfl,SqT.of ht,rfl,rfl,_,rfl,?_⟩
   rw [nm_number_load]
   refine iteF ?_
   refine ⟨_,rfl,at',_,0,_,rfl,rfl,SqT.of ht,rfl,rfl,_,rfl,?_⟩
   rw [nm_number_copy]
   refine iteF ?_
   refine ⟨_,rfl,at',_,0,_,rfl,rfl,SqT.of ht,rfl,rfl,_,rfl,?_⟩
   rw [strT]
   refine iteT ?_
   obtain ⟨dh,hh0⟩:=M.hall
   exact ⟨_,rfl,_,_,_,rfl,hh0,(hfl_no _ (by decide +kernel) (by decide +kernel)),_,rfl,at',_,1,_,rfl,rfl,SqT.of ht,rfl,_,rfl,at',_,2,_,rfl,rfl,SqT.of ht,rfl,hh,P,S,h,n,rfl,M,hz,fun H1 M1 k1=>q1 rfl P H1 M1 k1.fm⟩
  | begin  =>
   refine ⟨_,rfl,at',_,0,_,rfl,rfl,SqT.of ht,rfl,rfl,_,rfl,?_⟩
   rw [nm_begin_make]
   refine iteF ?_
   refine ⟨_,rfl,at',_,0,_,rfl,rfl,SqT.of ht,rfl,rfl,_,rfl,?_⟩
   rw [nm_begin_store]
   refine iteF ?_
   refine ⟨_,rfl,at',_,0,_,rfl,rfl,SqT.of ht,rfl,rfl,_,rfl,?_⟩
   rw [nm_begin_load]
   refine iteF ?_
   refine ⟨_,rfl,at',_,0,_,rfl,rfl,SqT.of ht,rfl,rfl,_,rfl,?_⟩
   rw [nm_begin_copy]
   refine iteF ?_
   refine ⟨_,rfl,at',_,0,_,rfl,rfl,SqT.of ht,rfl,rfl,_,rfl,?_⟩
   rw [nm_begin_number]
   refine iteF ?_
   refine ⟨_,rfl,at',_,0,_,rfl,rfl,SqT.of ht,rfl,rfl,_,rfl,?_⟩
   rw [strT]
   refine iteT ?_
   obtain ⟨dh,hh0⟩:=M.hall
   refine ⟨_,rfl,_,_,_,rfl,hh0,(hfl_no _ (by decide +kernel) (by decide +kernel)),hh,P,S,rfl,M,ok,Nat.le_of_lt hz,fun e H1 M1 k1=>?_,fun e=>?_⟩
   ·have e' : S.act .begin = (S.begin,.non):=by show (if S.stage = .idle then (S.begin,Told.non) else (S,.notNow)) = _; rw [if_pos e]
    rw [e'] at q1
    refine q1 rfl P H1 M1 ?_
    have : S.begin.n = S.n:=(Same.begin S).n
    rw [this]
    exact k1.fm
   ·have e' : S.act .begin = (S,.notNow):=by show (if S.stage = .idle then (S.begin,Told.non) else (S,.notNow)) = _; rw [if_neg e]
    rw [e'] at q2
    exact q2 rfl H M (Kp.rfl)
  | slide  =>
   refine ⟨_,rfl,at',_,0,_,rfl,rfl,SqT.of ht,rfl,rfl,_,rfl,?_⟩
   rw [nm_slide_make]
   refine iteF ?_
   refine ⟨_,rfl,at',_,0,_,rfl,rfl,SqT.of ht,rfl,rfl,_,rfl,?_⟩
   rw [nm_slide_store]
   refine iteF ?_
   refine ⟨_,rfl,at',_,0,_,rfl,rfl,SqT.of ht,rfl,rfl,_,rfl,?_⟩
   rw [nm_slide_load]
   refine iteF ?_
   refine ⟨_,rfl,at',_,0,_,rfl,rfl,SqT.of ht,rfl,rfl,_,rfl,?_⟩
   rw [nm_slide_copy]
   refine iteF ?_
   refine ⟨_,rfl,at',_,0,_,rfl,rfl,SqT.of ht,rfl,rfl,_,rfl,?_⟩
   rw [nm_slide_number]
   refine iteF ?_
   refine ⟨_,rfl,at',_,0,_,rfl,rfl,SqT.of ht,rfl,rfl,_,rfl,?_⟩
   rw [nm_slide_begin]
   refine iteF ?_
   refine ⟨_,rfl,at',_,0,_,rfl,rfl,SqT.of ht,rfl,rfl,_,rfl,?_⟩
   rw [strT]
   refine iteT ?_
   obtain ⟨dh,hh0⟩:=M.hall
   refine ⟨_,rfl,_,_,_,rfl,hh0,(hfl_no _ (by decide +kernel) (by decide +kernel)),hh,P,S,rfl,M,ok.wf,fun e H1 M1 k1=>?_,fun e=>?_⟩
   ·have e' : S.act .slide = (S.slide,.non):=by show (if S.stage = .idle then (S.slide,Told.non) else (S,.notNow)) = _; rw [if_pos e]
    rw [e'] at q1
    refine q1 rfl P H1 M1 ?_
    have : S.slide.n = S.n:=(Same.slide S).n
    rw [this]
    exact k1.fm
   ·have e' : S.act .slide = (S,.notNow):=by show (if S.stage = .idle then (S.slide,Told.non) else (S,.notNow)) = _; rw [if_neg e]
    rw [e'] at q2
    exact q2 rfl H M (Kp.rfl)
  | finish  =>
   refine ⟨_,rfl,at',_,0,_,rfl,rfl,SqT.of ht,rfl,rfl,_,rfl,?_⟩
   rw [nm_finish_make]
   refine iteF ?_
   refine ⟨_,rfl,at',_,0,_,rfl,rfl,SqT.of ht,rfl,rfl,_,rfl,?_⟩
   rw [nm_finish_store]
   refine iteF ?_
   refine ⟨_,rfl,at',_,0,_,rfl,rfl,SqT.of ht,rfl,rfl,_,rfl,?_⟩
   rw [nm_finish_load]
   refine iteF ?_
   refine ⟨_,rfl,at',_,0,_,rfl,rfl,SqT.of ht,rfl,rfl,_,rfl,?_⟩
   rw [nm_finish_copy]
   refine iteF ?_
   refine ⟨_,rfl,at',_,0,_,rfl,rfl,SqT.of ht,rfl,rfl,_,rfl,?_⟩
   rw [nm_finish_number]
   refine iteF ?_
   refine ⟨_,rfl,at',_,0,_,rfl,rfl,SqT.of ht,rfl,rfl,_,rfl,?_⟩
   rw [nm_finish_begin]
   refine iteF ?_
   refine ⟨_,rfl,at',_,0,_,rfl,rfl,SqT.of ht,rfl,rfl,_,rfl,?_⟩
   rw [nm_finish_slide]
   refine iteF ?_
   refine ⟨_,rfl,at',_,0,_,rfl,rfl,SqT.of ht,rfl,rfl,_,rfl,?_⟩
   rw [strT]
   refine iteT ?_
   obtain ⟨dh,hh0⟩:=M.hall
   refine ⟨_,rfl,_,_,_,rfl,hh0,(hfl_no _ (by decide +kernel) (by decide +kernel)),hh,P,S,rfl,M,ok,fun H1 M1 k1=>q1 rfl P H1 M1 ?_⟩
   have : (S.act .finish).1.n = S.n:=(Same.steps _ S).n
   rw [this]
   exact k1.fm
  | step n =>
   refine ⟨_,rfl,at',_,0,_,rfl,rfl,SqT.of ht,rfl,rfl,_,rfl,?_⟩
   rw [nm_step_make]
   refine iteF ?_
   refine ⟨_,rfl,at',_,0,_,rfl,rfl,SqT.of ht,rfl,rfl,_,rfl,?_⟩
   rw [nm_step_store]
   refine iteF ?_
   refine ⟨_,rfl,at',_,0,_,rfl,rfl,SqT.of ht,rfl,rfl,_,rfl,?_⟩
   rw [nm_step_load]
   refine iteF ?_
   refine ⟨_,rfl,at',_,0,_,rfl,rfl,SqT.of ht,rfl,rfl,_,rfl,?_⟩
   rw [nm_step_copy]
   refine iteF ?_
   refine ⟨_,rfl,at',_,0,_,rfl,rfl,SqT.of ht,rfl,rfl,_,rfl,?_⟩
   rw [nm_step_number]
   refine iteF ?_
   refine ⟨_,rfl,at',_,0,_,rfl,rfl,SqT.of ht,rfl,rfl,_,rfl,?_⟩
   rw [nm_step_begin]
   refine iteF ?_
   refine ⟨_,rfl,at',_,0,_,rfl,rfl,SqT.of ht,rfl,rfl,_,rfl,?_⟩
   rw [nm_step_slide]
   refine iteF ?_
   refine ⟨_,rfl,at',_,0,_,rfl,rfl,SqT.of ht,rfl,rfl,_,rfl,?_⟩
   rw [nm_step_finish]
   refine iteF ?_
   obtain ⟨dh,hh0⟩:=M.hall
   refine ⟨_,rfl,_,_,_,rfl,hh0,(hfl_no _ (by decide +kernel) (by decide +kernel)),_,rfl,at',_,1,_,rfl,rfl,SqT.of ht,rfl,hh,P,S,n,rfl,M,ok,fun H1 M1 k1=>q1 rfl P H1 M1 ?_⟩
   have : (S.act (.step n)).1.n = S.n:=(Same.steps _ S).n
   rw [this]
   exact k1.fm
end
end GH
namespace GH
open PySem L2
section
def sp__law_do (c : CA) : Sp:=fun vs H Q E=>∃ (hh at' : Addr) (P : Pl) (S : Hs) (a : Act),vs = [.ref hh,.ref at'] /\ HAt c H hh P S /\ Ok S /\ H at' = some (.tup (actV a)) /\ Fit a /\ S.hands.length < 1000 /\ S.n < 1000 /\
 ∀ P' H',HAt c H' hh P' (S.act a).1 -> Fm P S.n P' (S.act a).1.n H H' -> Q (S.act a).2.v H'
theorem sc__law_do : FnScope ["_law_hall","_law_act_here","_law_told"] ["_law_hall","_law_act_here"] (defScope s_law_do):=⟨rfl,rfl,rfl,by decide +kernel,rfl,by decide +kernel,by decide +kernel⟩
theorem ok__law_do (L : Lk K mg) : FnOk PR w K mg base CX0 11 L._law_do.f L._law_do.d ["_law_hall","_law_act_here"] (sp__law_do L.c):=by
 refine L._law_do.F.ok sc__law_do (fun vs H Q E h=>?_) (fun cdv A outer s H vs Q E hr h=>?_)
 ·obtain ⟨hh,at',P,S,a,rfl,M,ok,ht,fit,hz,hn,q⟩:=h
  rfl
 ·obtain ⟨hh,at',P,S,a,rfl,M,ok,ht,fit,hz,hn,q⟩:=h
  have hu:=hu_of hr
  refine ⟨_,(pss_cons (ps_set (i:=2) sc__law_do.nd rfl (Or.inl rfl) pe_non)
   (pss_cut (ps_try1 (i:=2) rfl rfl sc__law_do.nd rfl (Or.inl rfl) (px_call (ok__law_call L) (hr.mono (by decide)) rfl L._law_call.g L._law_call.F.kp L._law_call.b .nil (fun _=>(pa_cons (pv 0) (pa_cons (pv 1) pa_nil)))) (ph_cons rfl L.gnt (fun _=>(pss_one (ps_set (i:=2) sc__law_do.nd rfl (Or.inl rfl) pe_str))) (ph_cons rfl L.gnf (fun _=>(pss_one (ps_set (i:=2) sc__law_do.nd rfl (Or.inl rfl) pe_str))) (ph_cons rfl L.gnr (fun _=>(pss_one (ps_set (i:=2) sc__law_do.nd rfl (Or.inl rfl) pe_str))) (ph_cons rfl L.gnn (fun _=>(pss_one (ps_set (i:=2) sc__law_do.nd rfl (Or.inl rfl) pe_str))) ph_nil)))))
   (pss_one (ps_ret (pv 2))))),?_⟩
  refine ⟨fun σ3 H3=>∃ P',σ3 = [some (.ref hh),some (.ref at'),some (S.act a).2.v] /\ HAt L.c H3 hh P' (S.act a).1 /\ Fm P S.n P' (S.act a).1.n H H3,?_,?_⟩
  ·refine ⟨_,rfl,_,rfl,hh,at',P,S,a,rfl,M,ok,ht,fit,hz,hn,fun e P1 H1 M1 f1=>⟨P1,rfl,M1,f1⟩,fun e H1 M1 k1=>?_⟩
   have en : (S.act a).1.n = S.n:=by
    cases a with
    | make h m =>
     show (S.make h m).1.n = _
     have e' : (S.make h m).2.ok = false:=e
     cases ef : S.free (2 + m) with
     | some p=>rw [make_1 ef] at e'; cases e'
     | none =>
      cases ef2 : S.swept.free (2 + m) with
      | some p=>rw [make_2 ef ef2] at e'; cases e'
      | none=>rw [make_3 ef ef2]; exact (Same.swept S).n
    | store h f o =>
     show (S.store h f o).1.n = _
     unfold Hs.store
     split
     ·show (if S.stage = .mark then _ else S).n = _
      split
      ·exact (Same.makeGrey S _).n
      ·rfl
     ·rfl
     ·rfl
    | load h o f=>show (S.load h o f).1.n = _; unfold Hs.load; split <;> rfl
    | copy h o=>rfl
    | number h n=>rfl
    | begin=>show (if S.stage = .idle then (S.begin,Told.non) else (S,.notNow)).1.n = _; split
             ·exact (Same.begin S).n
             ·rfl
    | slide=>show (if S.stage = .idle then (S.slide,Told.non) else (S,.notNow)).1.n = _; split <;> rfl
    | finish=>exact (Same.steps _ S).n
    | step n=>exact (Same.steps _ S).n
   have f1 : Fm P S.n P (S.act a).1.n H H1:=by rw [en]; exact k1.fm
   generalize (S.act a).2 = t at e ⊢
   cases t with
   | non=>cases e
   | int i=>cases e
   | noThing=>exact ⟨_,L.ent_nt,iteT ⟨P,rfl,M1,f1⟩⟩
   | noField=>exact ⟨_,L.enf_nt,iteF ⟨_,L.enf_nf,iteT ⟨P,rfl,M1,f1⟩⟩⟩
   | noRoom=>exact ⟨_,L.enr_nt,iteF ⟨_,L.enr_nf,iteF ⟨_,L.enr_nr,iteT ⟨P,rfl,M1,f1⟩⟩⟩⟩
   | notNow=>exact ⟨_,L.enn_nt,iteF ⟨_,L.enn_nf,iteF ⟨_,L.enn_nr,iteF ⟨_,L.enn_nn,iteT ⟨P,rfl,M1,f1⟩⟩⟩⟩⟩
  ·rintro σ3 H3 ⟨P',rfl,M3,f3⟩
   exact ⟨_,rfl,q P' H3 M3 f3⟩
end
end GH
namespace GH
open PySem L2
section
def sp__law_new : Sp:=fun vs H Q _=>∃ z : Int,vs = [.int z] /\ ∀ d I H',Hnd H' d I (Hs.new z) -> (∀ b o,H b = some o -> H' b = some o) -> (∀ b,HOwn I d [] b -> H b = none) -> I.ks = [] -> Q (.ref d) H'
theorem sc__law_new : FnScope ["_law_size_here"] ["_law_size_here"] (defScope s_law_new):=⟨rfl,rfl,rfl,by decide +kernel,rfl,by decide +kernel,by decide +kernel⟩
theorem ok__law_new (L : Lk K mg) : FnOk PR w K mg base CX0 1 L._law_new.f L._law_new.d ["_law_size_here"] (sp__law_new ):=by
 refine L._law_new.F.ok sc__law_new (fun vs H Q E h=>?_) (fun cdv A outer s H vs Q E hr h=>?_)
 ·obtain ⟨z,rfl,q⟩:=h
  rfl
 ·obtain ⟨z,rfl,q⟩:=h
  have hu:=hu_of hr
  refine ⟨_,(pss_one (ps_ret (pe_disp (pps_cons pe_str (pv 0) (pps_cons pe_str pe_dnewK (pps_cons pe_str (pe_compS rfl (ck0 rfl) (pi_range1 rfl L.zrange (pa_cons pe_int pa_nil)) (fun _ _ _ _=>pts_nil) (fun _ _ _ _=>(pe_tup (pa_cons pe_str (pa_cons pe_int pa_nil))))) (pps_cons pe_str pe_str (pps_cons pe_str pe_int pps_nil))))) rfl rfl (by intro z; cases z) (by decide)))),?_⟩
  intro d hd
  refine ⟨_,rfl,fun l hl=>?_⟩
  refine tcomp_of ?_
  refine ⟨8,rfl,(by decide),(by decide),comp_range (n:=8) (by decide) (fun _=>vP (fun _=>0) (.num 0)) (fun i H1 R hi s1 k=>⟨(by show 2 <= sizeLine; decide),fun r hr=>?_⟩) (fun ys H1 D ry s1 hD=>?_)⟩
  ·generalize er : upd H1 r _ = H2
   have e2 : H2 r = some (.tup (vQ (fun _=>0) (.num 0))):=by rw [<- er]; exact upd_same
   exact k _ _ (rep_vP e2) fun b o e=>by rw [<- er,upd_ne (ne_of_none e hr)]; exact e
  have nld : l ≠ d:=fun e=>by rw [e,upd_same] at hl; cases hl
  rw [upd_ne nld] at hl
  have sH : ∀ b o,H b = some o -> H1 b = some o:=fun b o e=>s1 b o (by rw [upd_ne (ne_of_none e hl),upd_ne (ne_of_none e hd)]; exact e)
  have d1 : H1 d = some (.dK []):=s1 _ _ (by rw [upd_ne nld.symm,upd_same])
  have l1 : H1 l = some (.dK []):=s1 _ _ upd_same
  have nDd : D ≠ d:=(ne_of_none d1 hD).symm
  have nDl : D ≠ l:=(ne_of_none l1 hD).symm
  have hDH : H D = none:=by
   cases e : H D with
   | none=>rfl
   | some o=>rw [sH D o e] at hD; cases hD
  refine ⟨by rw [upd_ne nDd.symm]; exact d1,hdK z l D .idle 0,rfl,(by show 5 <= 15; decide),?_⟩
  rw [merge_hd]
  have k3 : ∀ b o,H1 b = some o -> b ≠ d -> upd (upd H1 D (.lst ys)) d (.dK (hdK z l D .idle 0)) b = some o:=fun b o e hb=>by rw [upd_ne hb,upd_ne (ne_of_none e hD)]; exact e
  refine q d ⟨l,D,fun _=>0,fun _=>0,[],0⟩ _ ⟨upd_same,(fun e=>nomatch e),k3 _ _ l1 nld,.nil,(fun k hk=>nomatch hk),(fun k hk=>nomatch hk),⟨ys,?_,?_⟩,nld,(fun k hk=>nomatch hk),(fun k hk=>nomatch hk),(fun k hk=>nomatch hk),(fun k hk=>nomatch hk),(fun k hk=>nomatch hk)⟩ (fun b o e=>k3 b o (sH b o e) (ne_of_none e hd)) (fun b hb=>?_) rfl
  ·show upd _ d _ D = _
   rw [upd_ne nDd,upd_same]
  ·have : ((hands8 (Hs.new z)).map (vP (Hs.new z).pl)) = (List.range 8).map fun _=>vP (fun _=>0) (.num 0):=by unfold hands8; rw [List.map_map]; rfl
   rw [this]
   exact ry.tups (fun b xs e=>k3 b _ e (fun z=>by rw [z,d1] at e; cases e)) fun x hx=>by obtain ⟨i,_,rfl⟩:=List.mem_map.mp hx; exact vP_pure _ _
  ·rcases hb with rfl | rfl | rfl | ⟨k,hk,_⟩
   ·exact hd
   ·exact hl
   ·exact hDH
   ·cases hk
end
end GH
namespace GH
open PySem L2
section
def cellOf (ns : List Int) (k : Nat) : Int:=ns.getD k 0
def sp__law_cell (K : PySem.W.Frag) : Sp:=fun vs H Q _=>∃ (a : Addr) (ns : List Int) (k : Nat),vs = [.ref a,.int k] /\ SqL K H a (ns.map V.int) /\ Q (.int (cellOf ns k)) H
theorem sc__law_cell : FnScope ["_law_script","_law_k"] ["_law_script","_law_k"] (defScope s_law_cell):=⟨rfl,rfl,rfl,by decide +kernel,rfl,by decide +kernel,by decide +kernel⟩
theorem ok__law_cell (L : Lk K mg) : FnOk PR w K mg base CX0 1 L._law_cell.f L._law_cell.d ["_law_script","_law_k"] (sp__law_cell K):=by
 refine L._law_cell.F.ok sc__law_cell (fun vs H Q E h=>?_) (fun cdv A outer s H vs Q E hr h=>?_)
 ·obtain ⟨a,ns,k,rfl,hS,q⟩:=h
  rfl
 ·obtain ⟨a,ns,k,rfl,hS,q⟩:=h
  have hu:=hu_of hr
  refine ⟨_,(pss_cons (ps_if (pt_cmpR op_lt (pv 1) (pe_callB (id:="len") call_len_seq (by rfl) L.zlen bt_len (pa_cons (pv 0) pa_nil)) (nomark _))
    (pss_one (ps_ret (pe_ix ix_list (pv 0) (pv 1) (fun _ _=>rfl))))
    pss_nil)
   (pss_one (ps_ret pe_int))),?_⟩
  refine ⟨_,rfl,_,rfl,a,_,rfl,.inl hS,_,_,rfl,rfl,_,rfl,?_⟩
  rw [List.length_map]
  refine ite2 (fun h1=>?_) (fun h1=>?_)
  ·have h1' : k < ns.length:=by have:=of_decide_eq_true h1; omega
   refine ⟨_,rfl,_,rfl,a,_,(k : Int),.int (cellOf ns k),rfl,rfl,hS,atI_nat ?_,q⟩
   unfold cellOf
   rw [List.getElem?_map,List.getElem?_eq_getElem h1',List.getD_eq_getElem?_getD,List.getElem?_eq_getElem h1']; rfl
  ·have h1' : ¬ k < ns.length:=fun z=>h1 (decide_eq_true (by omega))
   have e : cellOf ns k = 0:=by unfold cellOf; rw [List.getD_eq_getElem?_getD,List.getElem?_eq_none (by omega)]; rfl
   rw [e] at q
   exact q
end
end GH
namespace GH
open PySem L2
section
def sizeOf' (ns : List Int) : Int:=if cellOf ns 0 % 4 = 0 then 4 + mix (cellOf ns 0) 9923 197 else 20 + mix (cellOf ns 0) 9923 40
def sp__law_size (K : PySem.W.Frag) : Sp:=fun vs H Q _=>∃ (a : Addr) (ns : List Int),vs = [.ref a] /\ SqL K H a (ns.map V.int) /\ Q (.int (sizeOf' ns)) H
theorem sc__law_size : FnScope ["_law_script"] ["_law_script"] (defScope s_law_size):=⟨rfl,rfl,rfl,by decide +kernel,rfl,by decide +kernel,by decide +kernel⟩
theorem ok__law_size (L : Lk K mg) : FnOk PR w K mg base CX0 2 L._law_size.f L._law_size.d ["_law_script"] (sp__law_size K):=by
 refine L._law_size.F.ok sc__law_size (fun vs H Q E h=>?_) (fun cdv A outer s H vs Q E hr h=>?_)
 ·obtain ⟨a,ns,rfl,hS,q⟩:=h
  rfl
 ·obtain ⟨a,ns,rfl,hS,q⟩:=h
  have hu:=hu_of hr
  refine ⟨_,(pss_cons (ps_if (pt_cmpR op_eq (pe_op op_mod (pe_call (ok__law_cell L) (hr.mono (by decide)) rfl L._law_cell.g L._law_cell.F.kp L._law_cell.b .nil pass0 (pa_cons (pv 0) (pa_cons pe_int pa_nil))) pe_int) pe_int (nomark _))
    (pss_one (ps_ret (pe_op op_add pe_int (pe_call (ok__law_mix L) (hr.mono (by decide)) rfl L._law_mix.g L._law_mix.F.kp L._law_mix.b .nil pass0 (pa_cons (pe_call (ok__law_cell L) (hr.mono (by decide)) rfl L._law_cell.g L._law_cell.F.kp L._law_cell.b .nil pass0 (pa_cons (pv 0) (pa_cons pe_int pa_nil))) (pa_cons pe_int (pa_cons pe_int pa_nil)))))))
    pss_nil)
   (pss_one (ps_ret (pe_op op_add pe_int (pe_call (ok__law_mix L) (hr.mono (by decide)) rfl L._law_mix.g L._law_mix.F.kp L._law_mix.b .nil pass0 (pa_cons (pe_call (ok__law_cell L) (hr.mono (by decide)) rfl L._law_cell.g L._law_cell.F.kp L._law_cell.b .nil pass0 (pa_cons (pv 0) (pa_cons pe_int pa_nil))) (pa_cons pe_int (pa_cons pe_int pa_nil)))))))),?_⟩
  unfold sizeOf' at q
  refine ⟨_,rfl,a,ns,0,rfl,hS,_,_,rfl,rfl,(by show (0 : Int) < 4; decide),rfl,_,rfl,?_⟩
  rw [dec_int]
  by_cases h : cellOf ns 0 % 4 = 0
  ·rw [if_pos h] at q
   rw [show (cellOf ns 0 % 4 == 0) = true by simpa using h]
   exact iteT ⟨_,rfl,a,ns,0,rfl,hS,_,_,_,rfl,by decide,by decide,_,_,rfl,rfl,q⟩
  ·rw [if_neg h] at q
   rw [show (cellOf ns 0 % 4 == 0) = false by simpa using h]
   exact iteF ⟨_,rfl,a,ns,0,rfl,hS,_,_,_,rfl,by decide,by decide,_,_,rfl,rfl,q⟩
end
end GH
namespace GH
open PySem L2
section
def sp_law (K : PySem.W.Frag) : Sp:=fun vs H Q _=>∃ (a : Addr) (ns : List Int),vs = [.ref a] /\ SqL K H a (ns.map V.int) /\ ns.length <= 63 /\ ∀ H',Q (.bl true) H'
theorem sc_law : FnScope ["_law_script","_law_size_here","_law_hall","_law_hand","_law_act_here","_law_found"] ["_law_script"] (defScope slaw):=⟨rfl,rfl,rfl,by decide +kernel,rfl,by decide +kernel,by decide +kernel⟩
theorem ok_law (L : Lk K mg) : FnOk PR w K mg base CX0 12 L.law.f L.law.d ["_law_script"] (sp_law K):=by
 refine L.law.F.ok sc_law (fun vs H Q E h=>?_) (fun cdv A outer s H vs Q E hr h=>?_)
 ·obtain ⟨a,ns,rfl,hS,hlen,q⟩:=h
  rfl
 ·obtain ⟨a,ns,rfl,hS,hlen,q⟩:=h
  have hu:=hu_of hr
  refine ⟨_,(pss_cons (ps_set (i:=1) sc_law.nd rfl (Or.inl rfl) (pe_call (ok__law_size L) (hr.mono (by decide)) rfl L._law_size.g L._law_size.F.kp L._law_size.b .nil pass0 (pa_cons (pv 0) pa_nil)))
   (pss_cons (ps_set (i:=2) sc_law.nd rfl (Or.inl rfl) (pe_make L.kH (ok_H___init__ L) (hr.mono (by decide)) rfl L.gH L.H___init__.b .nil pass0 (pa_cons (pv 1) pa_nil)))
   (pss_cons (ps_set (i:=3) sc_law.nd rfl (Or.inl rfl) (pe_call (ok__law_new L) (hr.mono (by decide)) rfl L._law_new.g L._law_new.F.kp L._law_new.b .nil pass0 (pa_cons (pv 1) pa_nil)))
   (pss_cons (ps_for PassesOwn.never rfl (pi_list (pe_call (ok__law_acts L) (hr.mono (by decide)) rfl L._law_acts.g L._law_acts.F.kp L._law_acts.b .nil pass0 (pa_cons (pv 0) (pa_cons pe_bl pa_nil)))) (pg_name (i:=4) sc_law.nd rfl (Or.inl rfl))
    (pss_cons (ps_set (i:=5) sc_law.nd rfl (Or.inl rfl) (pe_call (ok__law_do L) (hr.mono (by decide)) rfl L._law_do.g L._law_do.F.kp L._law_do.b .nil pass0 (pa_cons (pv 2) (pa_cons (pv 4) pa_nil))))
   (pss_cons (ps_if (PW.pt (pw_or (pt_cmpR op_ne (pv 5) (pe_call (ok__law_by_hand L) (hr.mono (by decide)) rfl L._law_by_hand.g L._law_by_hand.F.kp L._law_by_hand.b .nil pass0 (pa_cons (pv 3) (pa_cons (pv 4) pa_nil))) (nomark _)) (pw_or1 (PW.pt (pw_and (pt_cmpR op_in_seq (pe_ix ix_tup (pv 4) pe_int (fun _ _=>rfl)) (pe_lst (pa_cons pe_str (pa_cons pe_str pa_nil))) (by with_unfolding_all rfl)) (pw_and1 (pt_not (pt_val (pe_call (ok__law_whole L) (hr.mono (by decide)) rfl L._law_whole.g L._law_whole.F.kp L._law_whole.b .nil pass0 (pa_cons (pv 5) pa_nil))))))))))
    (pss_one (ps_ret pe_bl))
    pss_nil)
   (pss_one (ps_if (pt_not (pt_val (pe_call (ok__law_alike L) (hr.mono (by decide)) rfl L._law_alike.g L._law_alike.F.kp L._law_alike.b .nil pass0 (pa_cons (pv 2) (pa_cons (pv 3) pa_nil)))))
    (pss_one (ps_ret pe_bl))
    pss_nil)))))
   (pss_one (ps_ret pe_bl)))))),?_⟩
  refine ⟨_,rfl,a,ns,rfl,hS,_,rfl,fun x dx hx hdx nxd=>?_⟩
  have s0 : ∀ b o,H b = some o -> upd (upd H dx (.own x)) x (.ins L.c.H dx []) b = some o:=fun b o e=>by
   rw [upd_ne (ne_of_none e hx),upd_ne (ne_of_none e hdx)]; exact e
  refine ⟨x,dx,sizeOf' ns,rfl,upd_same,fun P H1 M1 k1 o1=>⟨rfl,?_⟩⟩
  have s1 : ∀ b o,H b = some o -> H1 b = some o:=fun b o e=>k1 b o (s0 b o e) (ne_of_none e hx)
  have hS1:=sql_keep hS fun o e=>s1 a o e
  refine ⟨_,rfl,sizeOf' ns,rfl,fun d I H2 J2 s2 o2 ks2=>?_⟩
  have hS2:=sql_keep hS1 fun o e=>s2 a o e
  refine ⟨_,rfl,a,ns,true,rfl,hS2,hlen,fun l us H3 hl hl2 r3 s3=>?_⟩
  have N1 : HAt L.c H2 x P (Hs.new (sizeOf' ns)):=M1.ext s2
  have T0 : BothH L.c H3 (fun b=>Own P 0 b \/ HOwn I d [] b) H3 x P (Hs.new (sizeOf' ns)) d I (Hs.new (sizeOf' ns)):=by
   refine ⟨N1.ext s3,J2.ext s3,fun b h1 h2=>?_,fun h2=>?_,fun _ _ e _=>e,fun b h=>.inl h⟩
   ·obtain ⟨o,e⟩:=M1.at_.there h1
    rw [o2 b h2] at e; cases e
   ·obtain ⟨dd,e⟩:=M1.hall
    rw [o2 x h2] at e; cases e
  have np : ¬ (Own P 0 l \/ HOwn I d [] l):=fun z=>z.elim (N1.at_.fresh hl) (J2.fresh hl)
  have hus : us.length <= 64:=by
   have h1:=r3.len
   rw [List.length_map] at h1
   have:=acts_len ns true
   omega
  refine ⟨l,rfl,⟨_,SqL.of hl2⟩,for_list (K:=K) (a:=l) (xs:=us) (fun i σ H4=>∃ P' I' S v4 v5,σ = [some (.ref a),some (.int (sizeOf' ns)),some (.ref x),some (.ref d),v4,v5] /\ BothH L.c H3 (fun b=>Own P 0 b \/ HOwn I d [] b) H4 x P' S d I' S /\ Ok S /\ HIn S /\ (S.n < i \/ Pk I' S) /\ S.n <= i /\ S.hands.length <= i)
   ⟨P,I,_,none,none,rfl,T0,.new _,(fun p hp=>nomatch hp),.inr ⟨ks2,fun i k hk=>nomatch hk⟩,Nat.le_refl _,Nat.le_refl _⟩ (fun i σ H4 _ ⟨_,_,_,_,_,_,t4,_⟩=>SqL.of (t4.keep _ _ hl2 np)) ?_ ?_⟩
  ·rintro i z σ H4 hi ⟨P',I',S,v4,v5,rfl,t4,ok,hin,hpk,n4,h4⟩
   have hil : i < us.length:=(List.getElem?_eq_some_iff.mp hi).1
   obtain ⟨dd,hd,rd⟩:=r3.get hi
   obtain ⟨ac,hac,rfl⟩:=get_map hd
   obtain ⟨r,rfl,er⟩:=act_rep rd
   have nbr : ¬ (Own P 0 r \/ HOwn I d [] r):=fun z=>z.elim (T0.m.at_.notTup er) (T0.j.notTup er)
   have hmem : ac ∈ actsOf ns true:=List.mem_of_getElem? hac
   have hfit:=fit_acts hmem
   have hfit2:=fit2_acts hmem
   have htl:=ok.wf.len
   refine ⟨_,rfl,_,rfl,x,r,P',S,ac,rfl,t4.m,ok,t4.keep _ _ er nbr,hfit,by omega,by omega,fun P5 H5 M5 f5=>?_⟩
   have t5:=t4.hall M5 f5
   have a1:=act_n S ac
   have a2:=act_hands S ac
   have ok5:=ok.act ac hfit.small
   have hin5:=hin_act hin hfit2
   have er5:=t5.keep _ _ er nbr
   refine ⟨_,rfl,_,rfl,_,rfl,d,r,I',S,ac,rfl,t5.j,ok,hin,er5,hfit2,by omega,fun I6 H6 J6 f6 pk6=>⟨told_self _,_,rfl,iteNS rfl ?_⟩⟩
   have t6:=t5.hand J6 f6
   have er6:=t6.keep _ _ er nbr
   have hpk6 : (S.act ac).1.n < i + 1 \/ Pk I6 (S.act ac).1:=by
    rcases hpk with z | z
    ·exact .inl (by omega)
    ·rcases pk6 z with y | y
     ·exact .inl (by omega)
     ·exact .inr y
   have few6 : Few I6 (S.act ac).1:=by
    have h1:=ok5.wf.len
    by_cases e : (S.act ac).1.things.length < 64
    ·exact .inl e
    ·rcases hpk6 with z | z
     ·omega
     ·exact .inr ⟨by omega,z.ks⟩
   refine ⟨_,rfl,r,_,0,.str (actName ac),rfl,rfl,SqT.of er6,atI_nat (j:=0) (actV_name ac),(by show 2 <= sizeLine; decide),fun lt hlt=>⟨lt,_,rfl,.inl (SqL.of upd_same),rfl,rfl,_,rfl,?_⟩⟩
   generalize el : upd H6 lt _ = H7
   have s7 : ∀ b o,H6 b = some o -> H7 b = some o:=fun b o e=>by rw [<- el,upd_ne (ne_of_none e hlt)]; exact e
   have t7:=t6.ext s7
   rcases in_steps S ac with hs | ⟨hs,n,en⟩
   rw [hs]
   refine iteF (iteF ?_)
   rotate_left
   rw [hs]
   refine iteT ?_
   refine ⟨_,rfl,_,.f (.int n),rfl,by rw [en]; exact .f rfl,_,rfl,?_⟩
   refine iteF ?_
   all_goals
    refine ⟨_,rfl,_,rfl,x,d,P5,I6,(S.act ac).1,rfl,t7.m,t7.j,ok5,few6,fun H8 s8=>⟨_,rfl,?_⟩⟩
    exact iteF ⟨P5,I6,_,_,_,rfl,t7.ext s8,ok5,hin5,hpk6,by omega,by omega⟩
  ·rintro σ H4 ⟨P',I',S,v4,v5,rfl,_⟩
   exact q _
end
end GH
end
namespace GH
open PySem L2
open PySem.W (mg_of mg_none_of)
theorem all_mk {l : PySem.W.OpenLaw} {w : World} {K : PySem.W.Frag} {h : Heap} {mg : Str -> Option Value} {fa cT cM cS cH che cnt cnf cnr cnn : Addr} {tWHITE tGREY tBLACK tIDLE tMARK tSWEEP tHEAD_WORDS : Tok} {f_0 f_1 f_2 f_3 f_4 f_5 f_6 f_7 f_8 f_9 f_10 f_11 f_12 f_13 f_14 f_15 f_16 f_17 f_18 f_19 f_20 f_21 f_22 f_23 f_24 f_25 f_26 f_27 f_28 f_29 f_30 f_31 f_32 f_33 f_34 f_35 f_36 f_37 f_38 f_39 f_40 f_41 f_42 f_43 f_44 f_45 f_46 f_47 f_48 f_49 f_50 f_51 f_52 f_53 f_54 f_55 f_56 f_57 f_58 f_59 f_60 f_61 f_62 f_63 f_64 f_65 f_66 f_67 f_68 f_69 f_70 f_71 f_72 f_73 f_74 f_75 f_76 f_77 f_78 f_79 : Addr} {oc_0 oc_1 oc_2 oc_3 oc_4 oc_5 oc_6 oc_7 oc_8 oc_9 oc_10 oc_11 oc_12 oc_13 oc_14 oc_15 oc_16 oc_17 oc_18 oc_19 oc_20 oc_21 oc_22 oc_23 oc_24 oc_25 oc_26 oc_27 oc_28 oc_29 oc_30 oc_31 oc_32 oc_33 oc_34 oc_35 oc_36 oc_37 oc_38 oc_39 oc_40 oc_41 oc_42 oc_43 oc_44 oc_45 oc_46 oc_47 oc_48 oc_49 oc_50 oc_51 oc_52 oc_53 oc_54 oc_55 oc_56 oc_57 oc_58 oc_59 oc_60 oc_61 oc_62 oc_63 oc_64 oc_65 oc_66 oc_67 oc_68 oc_69 oc_70 oc_71 oc_72 oc_73 oc_74 oc_75 oc_76 oc_77 oc_78 oc_79 : Value} {od_0 od_1 od_2 od_3 od_4 od_5 od_6 od_7 od_8 od_9 od_10 od_11 od_12 od_13 od_14 od_15 od_16 od_17 od_18 od_19 od_20 od_21 od_22 od_23 od_24 od_25 od_26 od_27 od_28 od_29 od_30 od_31 od_32 od_33 od_34 od_35 od_36 od_37 od_38 od_39 od_40 od_41 od_42 od_43 od_44 od_45 od_46 od_47 od_48 od_49 od_50 od_51 od_52 od_53 od_54 od_55 od_56 od_57 od_58 od_59 od_60 od_61 od_62 od_63 od_64 od_65 od_66 od_67 od_68 od_69 od_70 od_71 od_72 od_73 od_74 od_75 od_76 od_77 od_78 od_79 : Option Addr} {an_0 an_1 an_2 an_3 an_4 an_5 an_6 an_7 an_8 an_9 an_10 an_11 an_12 an_13 an_14 an_15 an_16 an_17 an_18 an_19 an_20 an_21 an_22 an_23 an_24 an_25 an_26 an_27 an_28 an_29 an_30 an_31 an_32 an_33 an_34 an_35 an_36 an_37 an_38 an_39 an_40 an_41 an_42 an_43 an_44 an_45 an_46 an_47 an_48 an_49 an_50 an_51 an_52 an_53 an_54 an_55 an_56 an_57 an_58 an_59 an_60 an_61 an_62 an_63 an_64 an_65 an_66 an_67 an_68 an_69 an_70 an_71 an_72 an_73 an_74 an_75 an_76 an_77 an_78 an_79 : Option Addr} {sl_0 sl_1 sl_2 sl_3 sl_4 sl_5 sl_6 sl_7 sl_8 sl_9 sl_10 sl_11 sl_12 sl_13 sl_14 sl_15 sl_16 sl_17 sl_18 sl_19 sl_20 sl_21 sl_22 sl_23 sl_24 sl_25 sl_26 sl_27 sl_28 sl_29 sl_30 sl_31 sl_32 sl_33 sl_34 sl_35 sl_36 sl_37 sl_38 sl_39 sl_40 sl_41 sl_42 sl_43 sl_44 sl_45 sl_46 sl_47 sl_48 sl_49 sl_50 sl_51 sl_52 sl_53 sl_54 sl_55 sl_56 sl_57 sl_58 sl_59 sl_60 sl_61 sl_62 sl_63 sl_64 sl_65 sl_66 sl_67 sl_68 sl_69 sl_70 sl_71 sl_72 sl_73 sl_74 sl_75 sl_76 sl_77 sl_78 sl_79 : Array (Option Value)} {kV_0 kV_1 kV_2 kV_3 kV_4 kV_5 kV_6 kV_7 kV_8 kV_9 kV_10 kV_11 kV_12 kV_13 kV_14 kV_15 kV_16 kV_17 kV_18 kV_19 kV_20 kV_21 kV_22 kV_23 kV_24 kV_25 kV_26 kV_27 kV_28 kV_29 kV_30 kV_31 kV_32 kV_33 kV_34 kV_35 kV_36 kV_37 kV_38 kV_39 kV_40 kV_41 kV_42 kV_43 kV_44 kV_45 kV_46 kV_47 kV_48 kV_49 kV_50 kV_51 kV_52 kV_53 kV_54 kV_55 kV_56 kV_57 kV_58 kV_59 kV_60 kV_61 kV_62 kV_63 kV_64 kV_65 kV_66 kV_67 kV_68 kV_69 kV_70 kV_71 kV_72 kV_73 kV_74 kV_75 kV_76 kV_77 kV_78 kV_79 : Value} {dc_0 dc_1 dc_2 dc_3 dc_4 dc_5 dc_6 dc_7 dc_8 dc_9 dc_10 dc_11 dc_12 dc_13 dc_14 dc_15 dc_16 dc_17 dc_18 dc_19 dc_20 dc_21 dc_22 dc_23 dc_24 dc_25 dc_26 dc_27 dc_28 dc_29 dc_30 dc_31 dc_32 dc_33 dc_34 dc_35 dc_36 dc_37 dc_38 dc_39 dc_40 dc_41 dc_42 dc_43 dc_44 dc_45 dc_46 dc_47 dc_48 dc_49 dc_50 dc_51 dc_52 dc_53 dc_54 dc_55 dc_56 dc_57 dc_58 dc_59 dc_60 dc_61 dc_62 dc_63 dc_64 dc_65 dc_66 dc_67 dc_68 dc_69 dc_70 dc_71 dc_72 dc_73 dc_74 dc_75 dc_76 dc_77 dc_78 dc_79 : Value} {pm_0 pm_1 pm_2 pm_3 pm_4 pm_5 pm_6 pm_7 pm_8 pm_9 pm_10 pm_11 pm_12 pm_13 pm_14 pm_15 pm_16 pm_17 pm_18 pm_19 pm_20 pm_21 pm_22 pm_23 pm_24 pm_25 pm_26 pm_27 pm_28 pm_29 pm_30 pm_31 pm_32 pm_33 pm_34 pm_35 pm_36 pm_37 pm_38 pm_39 pm_40 pm_41 pm_42 pm_43 pm_44 pm_45 pm_46 pm_47 pm_48 pm_49 pm_50 pm_51 pm_52 pm_53 pm_54 pm_55 pm_56 pm_57 pm_58 pm_59 pm_60 pm_61 pm_62 pm_63 pm_64 pm_65 pm_66 pm_67 pm_68 pm_69 pm_70 pm_71 pm_72 pm_73 pm_74 pm_75 pm_76 pm_77 pm_78 pm_79 : Value} {cd_0 cd_1 cd_2 cd_3 cd_4 cd_5 cd_6 cd_7 cd_8 cd_9 cd_10 cd_11 cd_12 cd_13 cd_14 cd_15 cd_16 cd_17 cd_18 cd_19 cd_20 cd_21 cd_22 cd_23 cd_24 cd_25 cd_26 cd_27 cd_28 cd_29 cd_30 cd_31 cd_32 cd_33 cd_34 cd_35 cd_36 cd_37 cd_38 cd_39 cd_40 cd_41 cd_42 cd_43 cd_44 cd_45 cd_46 cd_47 cd_48 cd_49 cd_50 cd_51 cd_52 cd_53 cd_54 cd_55 cd_56 cd_57 cd_58 cd_59 cd_60 cd_61 cd_62 cd_63 cd_64 cd_65 cd_66 cd_67 cd_68 cd_69 cd_70 cd_71 cd_72 cd_73 cd_74 cd_75 cd_76 cd_77 cd_78 cd_79 : Value} {ct_0 ct_1 ct_2 ct_3 ct_4 ct_5 ct_6 ct_7 ct_8 ct_9 ct_10 ct_11 ct_12 ct_13 ct_14 ct_15 ct_16 ct_17 ct_18 ct_19 ct_20 ct_21 ct_22 ct_23 ct_24 ct_25 ct_26 ct_27 ct_28 ct_29 ct_30 ct_31 ct_32 ct_33 ct_34 ct_35 ct_36 ct_37 ct_38 ct_39 ct_40 ct_41 ct_42 ct_43 ct_44 ct_45 ct_46 ct_47 ct_48 ct_49 ct_50 ct_51 ct_52 ct_53 ct_54 ct_55 ct_56 ct_57 ct_58 ct_59 ct_60 ct_61 ct_62 ct_63 ct_64 ct_65 ct_66 ct_67 ct_68 ct_69 ct_70 ct_71 ct_72 ct_73 ct_74 ct_75 ct_76 ct_77 ct_78 ct_79 : Value} (X : K.In h) (G : h.Ns mainGlobals mg) (hfa : mg "law" = some (.ref fa))
  (AT : PySem.W.nsIn K mainGlobals "Thing" = some (some (.ref cT)))
  (AM : PySem.W.nsIn K mainGlobals "Memory" = some (some (.ref cM)))
  (AS : PySem.W.nsIn K mainGlobals "Sweeper" = some (some (.ref cS)))
  (AH : PySem.W.nsIn K mainGlobals "Hall" = some (some (.ref cH)))
  (Ahe : PySem.W.nsIn K mainGlobals "HallError" = some (some (.ref che)))
  (Ant : PySem.W.nsIn K mainGlobals "NoThing" = some (some (.ref cnt)))
  (Anf : PySem.W.nsIn K mainGlobals "NoField" = some (some (.ref cnf)))
  (Anr : PySem.W.nsIn K mainGlobals "NoRoom" = some (some (.ref cnr)))
  (Ann : PySem.W.nsIn K mainGlobals "NotNow" = some (some (.ref cnn)))
  (pgT : PySem.W.plainGet K cT Str.empty = true)
  (hdT : PySem.W.hasDictIn K cT = true)
  (poT : PySem.W.plainOver K cT = true)
  (saT : PySem.W.findIn K (.ref cT) "__setattr__" = some (some (.builtin "object.__setattr__")))
  (mkT : PySem.W.makesIn K cT = true)
  (kcT : PySem.W.keepIn K (.ref cT) = true)
  (pgM : PySem.W.plainGet K cM Str.empty = true)
  (hdM : PySem.W.hasDictIn K cM = true)
  (poM : PySem.W.plainOver K cM = true)
  (saM : PySem.W.findIn K (.ref cM) "__setattr__" = some (some (.builtin "object.__setattr__")))
  (mkM : PySem.W.makesIn K cM = true)
  (kcM : PySem.W.keepIn K (.ref cM) = true)
  (pgS : PySem.W.plainGet K cS Str.empty = true)
  (hdS : PySem.W.hasDictIn K cS = true)
  (poS : PySem.W.plainOver K cS = true)
  (saS : PySem.W.findIn K (.ref cS) "__setattr__" = some (some (.builtin "object.__setattr__")))
  (mkS : PySem.W.makesIn K cS = true)
  (kcS : PySem.W.keepIn K (.ref cS) = true)
  (pgH : PySem.W.plainGet K cH Str.empty = true)
  (hdH : PySem.W.hasDictIn K cH = true)
  (poH : PySem.W.plainOver K cH = true)
  (saH : PySem.W.findIn K (.ref cH) "__setattr__" = some (some (.builtin "object.__setattr__")))
  (mkH : PySem.W.makesIn K cH = true)
  (kcH : PySem.W.keepIn K (.ref cH) = true)
  (FnT_place : PySem.W.findIn K (.ref cT) "place" = some none)
  (FnT_fields : PySem.W.findIn K (.ref cT) "fields" = some none)
  (FnT_colour : PySem.W.findIn K (.ref cT) "colour" = some none)
  (FnM_size : PySem.W.findIn K (.ref cM) "size" = some none)
  (FnM_hands : PySem.W.findIn K (.ref cM) "hands" = some none)
  (FnM_things : PySem.W.findIn K (.ref cM) "things" = some none)
  (FnS_memory : PySem.W.findIn K (.ref cS) "memory" = some none)
  (FnS_stage : PySem.W.findIn K (.ref cS) "stage" = some none)
  (FnS_finger_place : PySem.W.findIn K (.ref cS) "finger_place" = some none)
  (FnH_memory : PySem.W.findIn K (.ref cH) "memory" = some none)
  (FnH_sweeper : PySem.W.findIn K (.ref cH) "sweeper" = some none)
  (Fxnt : PySem.W.excIn K cnt [.type "ValueError",.type "Exception",.type "BaseException",.type "object"] "ValueError.__new__" = true)
  (Fxnf : PySem.W.excIn K cnf [.type "ValueError",.type "Exception",.type "BaseException",.type "object"] "ValueError.__new__" = true)
  (Fxnr : PySem.W.excIn K cnr [.type "ValueError",.type "Exception",.type "BaseException",.type "object"] "ValueError.__new__" = true)
  (Fxnn : PySem.W.excIn K cnn [.type "ValueError",.type "Exception",.type "BaseException",.type "object"] "ValueError.__new__" = true)
  (Fent_nt : PySem.W.exmOne K (.ref cnt) (.ref cnt) = some true)
  (Fent_nf : PySem.W.exmOne K (.ref cnt) (.ref cnf) = some false)
  (Fent_nr : PySem.W.exmOne K (.ref cnt) (.ref cnr) = some false)
  (Fent_nn : PySem.W.exmOne K (.ref cnt) (.ref cnn) = some false)
  (Fenf_nt : PySem.W.exmOne K (.ref cnf) (.ref cnt) = some false)
  (Fenf_nf : PySem.W.exmOne K (.ref cnf) (.ref cnf) = some true)
  (Fenf_nr : PySem.W.exmOne K (.ref cnf) (.ref cnr) = some false)
  (Fenf_nn : PySem.W.exmOne K (.ref cnf) (.ref cnn) = some false)
  (Fenr_nt : PySem.W.exmOne K (.ref cnr) (.ref cnt) = some false)
  (Fenr_nf : PySem.W.exmOne K (.ref cnr) (.ref cnf) = some false)
  (Fenr_nr : PySem.W.exmOne K (.ref cnr) (.ref cnr) = some true)
  (Fenr_nn : PySem.W.exmOne K (.ref cnr) (.ref cnn) = some false)
  (Fenn_nt : PySem.W.exmOne K (.ref cnn) (.ref cnt) = some false)
  (Fenn_nf : PySem.W.exmOne K (.ref cnn) (.ref cnf) = some false)
  (Fenn_nr : PySem.W.exmOne K (.ref cnn) (.ref cnr) = some false)
  (Fenn_nn : PySem.W.exmOne K (.ref cnn) (.ref cnn) = some true)
  (VWHITE : PySem.W.nsIn K mainGlobals "WHITE" = some (some (.str "white" tWHITE)))
  (VGREY : PySem.W.nsIn K mainGlobals "GREY" = some (some (.str "grey" tGREY)))
  (VBLACK : PySem.W.nsIn K mainGlobals "BLACK" = some (some (.str "black" tBLACK)))
  (VIDLE : PySem.W.nsIn K mainGlobals "IDLE" = some (some (.str "idle" tIDLE)))
  (VMARK : PySem.W.nsIn K mainGlobals "MARK" = some (some (.str "mark" tMARK)))
  (VSWEEP : PySem.W.nsIn K mainGlobals "SWEEP" = some (some (.str "sweep" tSWEEP)))
  (VHEAD_WORDS : PySem.W.nsIn K mainGlobals "HEAD_WORDS" = some (some (.int 2 tHEAD_WORDS)))
  (Zisinstance : PySem.W.nsIn K mainGlobals "isinstance" = some none)
  (Zlen : PySem.W.nsIn K mainGlobals "len" = some none)
  (Ztuple : PySem.W.nsIn K mainGlobals "tuple" = some none)
  (Zint : PySem.W.nsIn K mainGlobals "int" = some none)
  (Zbool : PySem.W.nsIn K mainGlobals "bool" = some none)
  (Zsorted : PySem.W.nsIn K mainGlobals "sorted" = some none)
  (Zrange : PySem.W.nsIn K mainGlobals "range" = some none)
  (Zmin : PySem.W.nsIn K mainGlobals "min" = some none)
  (Fkint : PySem.W.kitOne K (.type "int") (.ref cT) = some false)
  (FkTT : PySem.W.kitOne K (.ref cT) (.ref cT) = some true)
  (Ftha : PySem.W.findIn K (.ref cT) "__class__" = some (some (.builtin "object.__class__")))
  (Fthn : PySem.W.specialIn K (.builtin "object.__class__") "__get__" = some (some (.builtin "getset_descriptor.__get__")))
  (Fthk : PySem.W.takesIn K (.builtin "object.__class__") = some true)
  (Fthm : PySem.W.mroIn K cT (.type "object") = some true)
  (Fcmp : cmpIn K cT = true)
  (Fk_int_int : PySem.W.kitOne K (.type "int") (.type "int") = some true)
  (Fk_int_bool : PySem.W.kitOne K (.type "int") (.type "bool") = some false)
  (Fk_int_tuple : PySem.W.kitOne K (.type "int") (.type "tuple") = some false)
  (Fk_bool_int : PySem.W.kitOne K (.type "bool") (.type "int") = some true)
  (Fk_bool_bool : PySem.W.kitOne K (.type "bool") (.type "bool") = some true)
  (Fk_bool_tuple : PySem.W.kitOne K (.type "bool") (.type "tuple") = some false)
  (Fk_str_int : PySem.W.kitOne K (.type "str") (.type "int") = some false)
  (Fk_str_bool : PySem.W.kitOne K (.type "str") (.type "bool") = some false)
  (Fk_str_tuple : PySem.W.kitOne K (.type "str") (.type "tuple") = some false)
  (Fk_NoneType_int : PySem.W.kitOne K (.type "NoneType") (.type "int") = some false)
  (Fk_NoneType_bool : PySem.W.kitOne K (.type "NoneType") (.type "bool") = some false)
  (Fk_NoneType_tuple : PySem.W.kitOne K (.type "NoneType") (.type "tuple") = some false)
  (Fk_tuple_int : PySem.W.kitOne K (.type "tuple") (.type "int") = some false)
  (Fk_tuple_bool : PySem.W.kitOne K (.type "tuple") (.type "bool") = some false)
  (Fk_tuple_tuple : PySem.W.kitOne K (.type "tuple") (.type "tuple") = some true)
  (Fk_list_int : PySem.W.kitOne K (.type "list") (.type "int") = some false)
  (Fk_list_bool : PySem.W.kitOne K (.type "list") (.type "bool") = some false)
  (Fk_list_tuple : PySem.W.kitOne K (.type "list") (.type "tuple") = some false)
  (a_0 : PySem.W.findIn K (.ref cT) "__init__" = some (some (.ref f_0)))
  (i_0 : PySem.W.isFn K (.ref f_0) = true)
  (l_0 : K.lookup f_0 = some ⟨oc_0,od_0,.func (PySem.W.fnOf "__init__" "Thing.__init__" (defArgs sT___init__) (defBody sT___init__) (defScope sT___init__) .none kV_0 dc_0 pm_0 an_0 cd_0 ct_0),sl_0⟩)
  (q_0 : PySem.W.codeIn K cd_0 "Thing.__init__" = true)
  (p_0 : PySem.W.keepIn K (.ref f_0) = true)
  (a_1 : PySem.W.findIn K (.ref cT) "words" = some (some (.ref f_1)))
  (i_1 : PySem.W.isFn K (.ref f_1) = true)
  (l_1 : K.lookup f_1 = some ⟨oc_1,od_1,.func (PySem.W.fnOf "words" "Thing.words" (defArgs sT_words) (defBody sT_words) (defScope sT_words) .none kV_1 dc_1 pm_1 an_1 cd_1 ct_1),sl_1⟩)
  (q_1 : PySem.W.codeIn K cd_1 "Thing.words" = true)
  (p_1 : PySem.W.keepIn K (.ref f_1) = true)
  (a_2 : PySem.W.findIn K (.ref cT) "behind" = some (some (.ref f_2)))
  (i_2 : PySem.W.isFn K (.ref f_2) = true)
  (l_2 : K.lookup f_2 = some ⟨oc_2,od_2,.func (PySem.W.fnOf "behind" "Thing.behind" (defArgs sT_behind) (defBody sT_behind) (defScope sT_behind) .none kV_2 dc_2 pm_2 an_2 cd_2 ct_2),sl_2⟩)
  (q_2 : PySem.W.codeIn K cd_2 "Thing.behind" = true)
  (p_2 : PySem.W.keepIn K (.ref f_2) = true)
  (a_3 : PySem.W.findIn K (.ref cM) "__init__" = some (some (.ref f_3)))
  (i_3 : PySem.W.isFn K (.ref f_3) = true)
  (l_3 : K.lookup f_3 = some ⟨oc_3,od_3,.func (PySem.W.fnOf "__init__" "Memory.__init__" (defArgs sM___init__) (defBody sM___init__) (defScope sM___init__) .none kV_3 dc_3 pm_3 an_3 cd_3 ct_3),sl_3⟩)
  (q_3 : PySem.W.codeIn K cd_3 "Memory.__init__" = true)
  (p_3 : PySem.W.keepIn K (.ref f_3) = true)
  (a_4 : PySem.W.findIn K (.ref cM) "held" = some (some (.ref f_4)))
  (i_4 : PySem.W.isFn K (.ref f_4) = true)
  (l_4 : K.lookup f_4 = some ⟨oc_4,od_4,.func (PySem.W.fnOf "held" "Memory.held" (defArgs sM_held) (defBody sM_held) (defScope sM_held) .none kV_4 dc_4 pm_4 an_4 cd_4 ct_4),sl_4⟩)
  (q_4 : PySem.W.codeIn K cd_4 "Memory.held" = true)
  (p_4 : PySem.W.keepIn K (.ref f_4) = true)
  (a_5 : PySem.W.findIn K (.ref cM) "hold" = some (some (.ref f_5)))
  (i_5 : PySem.W.isFn K (.ref f_5) = true)
  (l_5 : K.lookup f_5 = some ⟨oc_5,od_5,.func (PySem.W.fnOf "hold" "Memory.hold" (defArgs sM_hold) (defBody sM_hold) (defScope sM_hold) .none kV_5 dc_5 pm_5 an_5 cd_5 ct_5),sl_5⟩)
  (q_5 : PySem.W.codeIn K cd_5 "Memory.hold" = true)
  (p_5 : PySem.W.keepIn K (.ref f_5) = true)
  (a_6 : PySem.W.findIn K (.ref cM) "things_held" = some (some (.ref f_6)))
  (i_6 : PySem.W.isFn K (.ref f_6) = true)
  (l_6 : K.lookup f_6 = some ⟨oc_6,od_6,.func (PySem.W.fnOf "things_held" "Memory.things_held" (defArgs sM_things_held) (defBody sM_things_held) (defScope sM_things_held) .none kV_6 dc_6 pm_6 an_6 cd_6 ct_6),sl_6⟩)
  (q_6 : PySem.W.codeIn K cd_6 "Memory.things_held" = true)
  (p_6 : PySem.W.keepIn K (.ref f_6) = true)
  (a_7 : PySem.W.findIn K (.ref cM) "thing_in" = some (some (.ref f_7)))
  (i_7 : PySem.W.isFn K (.ref f_7) = true)
  (l_7 : K.lookup f_7 = some ⟨oc_7,od_7,.func (PySem.W.fnOf "thing_in" "Memory.thing_in" (defArgs sM_thing_in) (defBody sM_thing_in) (defScope sM_thing_in) .none kV_7 dc_7 pm_7 an_7 cd_7 ct_7),sl_7⟩)
  (q_7 : PySem.W.codeIn K cd_7 "Memory.thing_in" = true)
  (p_7 : PySem.W.keepIn K (.ref f_7) = true)
  (a_8 : PySem.W.findIn K (.ref cM) "thing_with_field" = some (some (.ref f_8)))
  (i_8 : PySem.W.isFn K (.ref f_8) = true)
  (l_8 : K.lookup f_8 = some ⟨oc_8,od_8,.func (PySem.W.fnOf "thing_with_field" "Memory.thing_with_field" (defArgs sM_thing_with_field) (defBody sM_thing_with_field) (defScope sM_thing_with_field) .none kV_8 dc_8 pm_8 an_8 cd_8 ct_8),sl_8⟩)
  (q_8 : PySem.W.codeIn K cd_8 "Memory.thing_with_field" = true)
  (p_8 : PySem.W.keepIn K (.ref f_8) = true)
  (a_9 : PySem.W.findIn K (.ref cM) "field_value" = some (some (.ref f_9)))
  (i_9 : PySem.W.isFn K (.ref f_9) = true)
  (l_9 : K.lookup f_9 = some ⟨oc_9,od_9,.func (PySem.W.fnOf "field_value" "Memory.field_value" (defArgs sM_field_value) (defBody sM_field_value) (defScope sM_field_value) .none kV_9 dc_9 pm_9 an_9 cd_9 ct_9),sl_9⟩)
  (q_9 : PySem.W.codeIn K cd_9 "Memory.field_value" = true)
  (p_9 : PySem.W.keepIn K (.ref f_9) = true)
  (a_10 : PySem.W.findIn K (.ref cM) "number" = some (some (.ref f_10)))
  (i_10 : PySem.W.isFn K (.ref f_10) = true)
  (l_10 : K.lookup f_10 = some ⟨oc_10,od_10,.func (PySem.W.fnOf "number" "Memory.number" (defArgs sM_number) (defBody sM_number) (defScope sM_number) .none kV_10 dc_10 pm_10 an_10 cd_10 ct_10),sl_10⟩)
  (q_10 : PySem.W.codeIn K cd_10 "Memory.number" = true)
  (p_10 : PySem.W.keepIn K (.ref f_10) = true)
  (a_11 : PySem.W.findIn K (.ref cM) "copy" = some (some (.ref f_11)))
  (i_11 : PySem.W.isFn K (.ref f_11) = true)
  (l_11 : K.lookup f_11 = some ⟨oc_11,od_11,.func (PySem.W.fnOf "copy" "Memory.copy" (defArgs sM_copy) (defBody sM_copy) (defScope sM_copy) .none kV_11 dc_11 pm_11 an_11 cd_11 ct_11),sl_11⟩)
  (q_11 : PySem.W.codeIn K cd_11 "Memory.copy" = true)
  (p_11 : PySem.W.keepIn K (.ref f_11) = true)
  (a_12 : PySem.W.findIn K (.ref cM) "load" = some (some (.ref f_12)))
  (i_12 : PySem.W.isFn K (.ref f_12) = true)
  (l_12 : K.lookup f_12 = some ⟨oc_12,od_12,.func (PySem.W.fnOf "load" "Memory.load" (defArgs sM_load) (defBody sM_load) (defScope sM_load) .none kV_12 dc_12 pm_12 an_12 cd_12 ct_12),sl_12⟩)
  (q_12 : PySem.W.codeIn K cd_12 "Memory.load" = true)
  (p_12 : PySem.W.keepIn K (.ref f_12) = true)
  (a_13 : PySem.W.findIn K (.ref cM) "store" = some (some (.ref f_13)))
  (i_13 : PySem.W.isFn K (.ref f_13) = true)
  (l_13 : K.lookup f_13 = some ⟨oc_13,od_13,.func (PySem.W.fnOf "store" "Memory.store" (defArgs sM_store) (defBody sM_store) (defScope sM_store) .none kV_13 dc_13 pm_13 an_13 cd_13 ct_13),sl_13⟩)
  (q_13 : PySem.W.codeIn K cd_13 "Memory.store" = true)
  (p_13 : PySem.W.keepIn K (.ref f_13) = true)
  (a_14 : PySem.W.findIn K (.ref cM) "place_of" = some (some (.ref f_14)))
  (i_14 : PySem.W.isFn K (.ref f_14) = true)
  (l_14 : K.lookup f_14 = some ⟨oc_14,od_14,.func (PySem.W.fnOf "place_of" "Memory.place_of" (defArgs sM_place_of) (defBody sM_place_of) (defScope sM_place_of) .none kV_14 dc_14 pm_14 an_14 cd_14 ct_14),sl_14⟩)
  (q_14 : PySem.W.codeIn K cd_14 "Memory.place_of" = true)
  (p_14 : PySem.W.keepIn K (.ref f_14) = true)
  (a_15 : PySem.W.findIn K (.ref cM) "free_place" = some (some (.ref f_15)))
  (i_15 : PySem.W.isFn K (.ref f_15) = true)
  (l_15 : K.lookup f_15 = some ⟨oc_15,od_15,.func (PySem.W.fnOf "free_place" "Memory.free_place" (defArgs sM_free_place) (defBody sM_free_place) (defScope sM_free_place) .none kV_15 dc_15 pm_15 an_15 cd_15 ct_15),sl_15⟩)
  (q_15 : PySem.W.codeIn K cd_15 "Memory.free_place" = true)
  (p_15 : PySem.W.keepIn K (.ref f_15) = true)
  (a_16 : PySem.W.findIn K (.ref cM) "lay" = some (some (.ref f_16)))
  (i_16 : PySem.W.isFn K (.ref f_16) = true)
  (l_16 : K.lookup f_16 = some ⟨oc_16,od_16,.func (PySem.W.fnOf "lay" "Memory.lay" (defArgs sM_lay) (defBody sM_lay) (defScope sM_lay) .none kV_16 dc_16 pm_16 an_16 cd_16 ct_16),sl_16⟩)
  (q_16 : PySem.W.codeIn K cd_16 "Memory.lay" = true)
  (p_16 : PySem.W.keepIn K (.ref f_16) = true)
  (a_17 : PySem.W.findIn K (.ref cM) "take_away" = some (some (.ref f_17)))
  (i_17 : PySem.W.isFn K (.ref f_17) = true)
  (l_17 : K.lookup f_17 = some ⟨oc_17,od_17,.func (PySem.W.fnOf "take_away" "Memory.take_away" (defArgs sM_take_away) (defBody sM_take_away) (defScope sM_take_away) .none kV_17 dc_17 pm_17 an_17 cd_17 ct_17),sl_17⟩)
  (q_17 : PySem.W.codeIn K cd_17 "Memory.take_away" = true)
  (p_17 : PySem.W.keepIn K (.ref f_17) = true)
  (a_18 : PySem.W.findIn K (.ref cM) "blocks" = some (some (.ref f_18)))
  (i_18 : PySem.W.isFn K (.ref f_18) = true)
  (l_18 : K.lookup f_18 = some ⟨oc_18,od_18,.func (PySem.W.fnOf "blocks" "Memory.blocks" (defArgs sM_blocks) (defBody sM_blocks) (defScope sM_blocks) .none kV_18 dc_18 pm_18 an_18 cd_18 ct_18),sl_18⟩)
  (q_18 : PySem.W.codeIn K cd_18 "Memory.blocks" = true)
  (p_18 : PySem.W.keepIn K (.ref f_18) = true)
  (a_19 : PySem.W.findIn K (.ref cM) "slide" = some (some (.ref f_19)))
  (i_19 : PySem.W.isFn K (.ref f_19) = true)
  (l_19 : K.lookup f_19 = some ⟨oc_19,od_19,.func (PySem.W.fnOf "slide" "Memory.slide" (defArgs sM_slide) (defBody sM_slide) (defScope sM_slide) .none kV_19 dc_19 pm_19 an_19 cd_19 ct_19),sl_19⟩)
  (q_19 : PySem.W.codeIn K cd_19 "Memory.slide" = true)
  (p_19 : PySem.W.keepIn K (.ref f_19) = true)
  (a_20 : PySem.W.nsIn K mainGlobals "make_grey" = some (some (.ref f_20)))
  (l_20 : K.lookup f_20 = some ⟨oc_20,od_20,.func (PySem.W.fnOf "make_grey" "make_grey" (defArgs smake_grey) (defBody smake_grey) (defScope smake_grey) .none kV_20 dc_20 pm_20 an_20 cd_20 ct_20),sl_20⟩)
  (q_20 : PySem.W.codeIn K cd_20 "make_grey" = true)
  (p_20 : PySem.W.keepIn K (.ref f_20) = true)
  (a_21 : PySem.W.findIn K (.ref cS) "__init__" = some (some (.ref f_21)))
  (i_21 : PySem.W.isFn K (.ref f_21) = true)
  (l_21 : K.lookup f_21 = some ⟨oc_21,od_21,.func (PySem.W.fnOf "__init__" "Sweeper.__init__" (defArgs sS___init__) (defBody sS___init__) (defScope sS___init__) .none kV_21 dc_21 pm_21 an_21 cd_21 ct_21),sl_21⟩)
  (q_21 : PySem.W.codeIn K cd_21 "Sweeper.__init__" = true)
  (p_21 : PySem.W.keepIn K (.ref f_21) = true)
  (a_22 : PySem.W.findIn K (.ref cS) "phase" = some (some (.ref f_22)))
  (i_22 : PySem.W.isFn K (.ref f_22) = true)
  (l_22 : K.lookup f_22 = some ⟨oc_22,od_22,.func (PySem.W.fnOf "phase" "Sweeper.phase" (defArgs sS_phase) (defBody sS_phase) (defScope sS_phase) .none kV_22 dc_22 pm_22 an_22 cd_22 ct_22),sl_22⟩)
  (q_22 : PySem.W.codeIn K cd_22 "Sweeper.phase" = true)
  (p_22 : PySem.W.keepIn K (.ref f_22) = true)
  (a_23 : PySem.W.findIn K (.ref cS) "finger" = some (some (.ref f_23)))
  (i_23 : PySem.W.isFn K (.ref f_23) = true)
  (l_23 : K.lookup f_23 = some ⟨oc_23,od_23,.func (PySem.W.fnOf "finger" "Sweeper.finger" (defArgs sS_finger) (defBody sS_finger) (defScope sS_finger) .none kV_23 dc_23 pm_23 an_23 cd_23 ct_23),sl_23⟩)
  (q_23 : PySem.W.codeIn K cd_23 "Sweeper.finger" = true)
  (p_23 : PySem.W.keepIn K (.ref f_23) = true)
  (a_24 : PySem.W.findIn K (.ref cS) "colours" = some (some (.ref f_24)))
  (i_24 : PySem.W.isFn K (.ref f_24) = true)
  (l_24 : K.lookup f_24 = some ⟨oc_24,od_24,.func (PySem.W.fnOf "colours" "Sweeper.colours" (defArgs sS_colours) (defBody sS_colours) (defScope sS_colours) .none kV_24 dc_24 pm_24 an_24 cd_24 ct_24),sl_24⟩)
  (q_24 : PySem.W.codeIn K cd_24 "Sweeper.colours" = true)
  (p_24 : PySem.W.keepIn K (.ref f_24) = true)
  (a_25 : PySem.W.findIn K (.ref cS) "refuse_during_sweep" = some (some (.ref f_25)))
  (i_25 : PySem.W.isFn K (.ref f_25) = true)
  (l_25 : K.lookup f_25 = some ⟨oc_25,od_25,.func (PySem.W.fnOf "refuse_during_sweep" "Sweeper.refuse_during_sweep" (defArgs sS_refuse_during_sweep) (defBody sS_refuse_during_sweep) (defScope sS_refuse_during_sweep) .none kV_25 dc_25 pm_25 an_25 cd_25 ct_25),sl_25⟩)
  (q_25 : PySem.W.codeIn K cd_25 "Sweeper.refuse_during_sweep" = true)
  (p_25 : PySem.W.keepIn K (.ref f_25) = true)
  (a_26 : PySem.W.findIn K (.ref cS) "begin" = some (some (.ref f_26)))
  (i_26 : PySem.W.isFn K (.ref f_26) = true)
  (l_26 : K.lookup f_26 = some ⟨oc_26,od_26,.func (PySem.W.fnOf "begin" "Sweeper.begin" (defArgs sS_begin) (defBody sS_begin) (defScope sS_begin) .none kV_26 dc_26 pm_26 an_26 cd_26 ct_26),sl_26⟩)
  (q_26 : PySem.W.codeIn K cd_26 "Sweeper.begin" = true)
  (p_26 : PySem.W.keepIn K (.ref f_26) = true)
  (a_27 : PySem.W.findIn K (.ref cS) "step" = some (some (.ref f_27)))
  (i_27 : PySem.W.isFn K (.ref f_27) = true)
  (l_27 : K.lookup f_27 = some ⟨oc_27,od_27,.func (PySem.W.fnOf "step" "Sweeper.step" (defArgs sS_step) (defBody sS_step) (defScope sS_step) .none kV_27 dc_27 pm_27 an_27 cd_27 ct_27),sl_27⟩)
  (q_27 : PySem.W.codeIn K cd_27 "Sweeper.step" = true)
  (p_27 : PySem.W.keepIn K (.ref f_27) = true)
  (a_28 : PySem.W.findIn K (.ref cS) "finish" = some (some (.ref f_28)))
  (i_28 : PySem.W.isFn K (.ref f_28) = true)
  (l_28 : K.lookup f_28 = some ⟨oc_28,od_28,.func (PySem.W.fnOf "finish" "Sweeper.finish" (defArgs sS_finish) (defBody sS_finish) (defScope sS_finish) .none kV_28 dc_28 pm_28 an_28 cd_28 ct_28),sl_28⟩)
  (q_28 : PySem.W.codeIn K cd_28 "Sweeper.finish" = true)
  (p_28 : PySem.W.keepIn K (.ref f_28) = true)
  (a_29 : PySem.W.findIn K (.ref cS) "do_part" = some (some (.ref f_29)))
  (i_29 : PySem.W.isFn K (.ref f_29) = true)
  (l_29 : K.lookup f_29 = some ⟨oc_29,od_29,.func (PySem.W.fnOf "do_part" "Sweeper.do_part" (defArgs sS_do_part) (defBody sS_do_part) (defScope sS_do_part) .none kV_29 dc_29 pm_29 an_29 cd_29 ct_29),sl_29⟩)
  (q_29 : PySem.W.codeIn K cd_29 "Sweeper.do_part" = true)
  (p_29 : PySem.W.keepIn K (.ref f_29) = true)
  (a_30 : PySem.W.findIn K (.ref cS) "least_grey" = some (some (.ref f_30)))
  (i_30 : PySem.W.isFn K (.ref f_30) = true)
  (l_30 : K.lookup f_30 = some ⟨oc_30,od_30,.func (PySem.W.fnOf "least_grey" "Sweeper.least_grey" (defArgs sS_least_grey) (defBody sS_least_grey) (defScope sS_least_grey) .none kV_30 dc_30 pm_30 an_30 cd_30 ct_30),sl_30⟩)
  (q_30 : PySem.W.codeIn K cd_30 "Sweeper.least_grey" = true)
  (p_30 : PySem.W.keepIn K (.ref f_30) = true)
  (a_31 : PySem.W.findIn K (.ref cS) "least_from_finger" = some (some (.ref f_31)))
  (i_31 : PySem.W.isFn K (.ref f_31) = true)
  (l_31 : K.lookup f_31 = some ⟨oc_31,od_31,.func (PySem.W.fnOf "least_from_finger" "Sweeper.least_from_finger" (defArgs sS_least_from_finger) (defBody sS_least_from_finger) (defScope sS_least_from_finger) .none kV_31 dc_31 pm_31 an_31 cd_31 ct_31),sl_31⟩)
  (q_31 : PySem.W.codeIn K cd_31 "Sweeper.least_from_finger" = true)
  (p_31 : PySem.W.keepIn K (.ref f_31) = true)
  (a_32 : PySem.W.findIn K (.ref cS) "mark_thing" = some (some (.ref f_32)))
  (i_32 : PySem.W.isFn K (.ref f_32) = true)
  (l_32 : K.lookup f_32 = some ⟨oc_32,od_32,.func (PySem.W.fnOf "mark_thing" "Sweeper.mark_thing" (defArgs sS_mark_thing) (defBody sS_mark_thing) (defScope sS_mark_thing) .none kV_32 dc_32 pm_32 an_32 cd_32 ct_32),sl_32⟩)
  (q_32 : PySem.W.codeIn K cd_32 "Sweeper.mark_thing" = true)
  (p_32 : PySem.W.keepIn K (.ref f_32) = true)
  (a_33 : PySem.W.findIn K (.ref cS) "sweep_thing" = some (some (.ref f_33)))
  (i_33 : PySem.W.isFn K (.ref f_33) = true)
  (l_33 : K.lookup f_33 = some ⟨oc_33,od_33,.func (PySem.W.fnOf "sweep_thing" "Sweeper.sweep_thing" (defArgs sS_sweep_thing) (defBody sS_sweep_thing) (defScope sS_sweep_thing) .none kV_33 dc_33 pm_33 an_33 cd_33 ct_33),sl_33⟩)
  (q_33 : PySem.W.codeIn K cd_33 "Sweeper.sweep_thing" = true)
  (p_33 : PySem.W.keepIn K (.ref f_33) = true)
  (a_34 : PySem.W.findIn K (.ref cS) "change_stage" = some (some (.ref f_34)))
  (i_34 : PySem.W.isFn K (.ref f_34) = true)
  (l_34 : K.lookup f_34 = some ⟨oc_34,od_34,.func (PySem.W.fnOf "change_stage" "Sweeper.change_stage" (defArgs sS_change_stage) (defBody sS_change_stage) (defScope sS_change_stage) .none kV_34 dc_34 pm_34 an_34 cd_34 ct_34),sl_34⟩)
  (q_34 : PySem.W.codeIn K cd_34 "Sweeper.change_stage" = true)
  (p_34 : PySem.W.keepIn K (.ref f_34) = true)
  (a_35 : PySem.W.findIn K (.ref cS) "store" = some (some (.ref f_35)))
  (i_35 : PySem.W.isFn K (.ref f_35) = true)
  (l_35 : K.lookup f_35 = some ⟨oc_35,od_35,.func (PySem.W.fnOf "store" "Sweeper.store" (defArgs sS_store) (defBody sS_store) (defScope sS_store) .none kV_35 dc_35 pm_35 an_35 cd_35 ct_35),sl_35⟩)
  (q_35 : PySem.W.codeIn K cd_35 "Sweeper.store" = true)
  (p_35 : PySem.W.keepIn K (.ref f_35) = true)
  (a_36 : PySem.W.findIn K (.ref cS) "make" = some (some (.ref f_36)))
  (i_36 : PySem.W.isFn K (.ref f_36) = true)
  (l_36 : K.lookup f_36 = some ⟨oc_36,od_36,.func (PySem.W.fnOf "make" "Sweeper.make" (defArgs sS_make) (defBody sS_make) (defScope sS_make) .none kV_36 dc_36 pm_36 an_36 cd_36 ct_36),sl_36⟩)
  (q_36 : PySem.W.codeIn K cd_36 "Sweeper.make" = true)
  (p_36 : PySem.W.keepIn K (.ref f_36) = true)
  (a_37 : PySem.W.findIn K (.ref cS) "colour_at" = some (some (.ref f_37)))
  (i_37 : PySem.W.isFn K (.ref f_37) = true)
  (l_37 : K.lookup f_37 = some ⟨oc_37,od_37,.func (PySem.W.fnOf "colour_at" "Sweeper.colour_at" (defArgs sS_colour_at) (defBody sS_colour_at) (defScope sS_colour_at) .none kV_37 dc_37 pm_37 an_37 cd_37 ct_37),sl_37⟩)
  (q_37 : PySem.W.codeIn K cd_37 "Sweeper.colour_at" = true)
  (p_37 : PySem.W.keepIn K (.ref f_37) = true)
  (a_38 : PySem.W.findIn K (.ref cS) "room_behind_all" = some (some (.ref f_38)))
  (i_38 : PySem.W.isFn K (.ref f_38) = true)
  (l_38 : K.lookup f_38 = some ⟨oc_38,od_38,.func (PySem.W.fnOf "room_behind_all" "Sweeper.room_behind_all" (defArgs sS_room_behind_all) (defBody sS_room_behind_all) (defScope sS_room_behind_all) .none kV_38 dc_38 pm_38 an_38 cd_38 ct_38),sl_38⟩)
  (q_38 : PySem.W.codeIn K cd_38 "Sweeper.room_behind_all" = true)
  (p_38 : PySem.W.keepIn K (.ref f_38) = true)
  (a_39 : PySem.W.findIn K (.ref cS) "slide" = some (some (.ref f_39)))
  (i_39 : PySem.W.isFn K (.ref f_39) = true)
  (l_39 : K.lookup f_39 = some ⟨oc_39,od_39,.func (PySem.W.fnOf "slide" "Sweeper.slide" (defArgs sS_slide) (defBody sS_slide) (defScope sS_slide) .none kV_39 dc_39 pm_39 an_39 cd_39 ct_39),sl_39⟩)
  (q_39 : PySem.W.codeIn K cd_39 "Sweeper.slide" = true)
  (p_39 : PySem.W.keepIn K (.ref f_39) = true)
  (a_40 : PySem.W.findIn K (.ref cH) "__init__" = some (some (.ref f_40)))
  (i_40 : PySem.W.isFn K (.ref f_40) = true)
  (l_40 : K.lookup f_40 = some ⟨oc_40,od_40,.func (PySem.W.fnOf "__init__" "Hall.__init__" (defArgs sH___init__) (defBody sH___init__) (defScope sH___init__) .none kV_40 dc_40 pm_40 an_40 cd_40 ct_40),sl_40⟩)
  (q_40 : PySem.W.codeIn K cd_40 "Hall.__init__" = true)
  (p_40 : PySem.W.keepIn K (.ref f_40) = true)
  (a_41 : PySem.W.findIn K (.ref cH) "number" = some (some (.ref f_41)))
  (i_41 : PySem.W.isFn K (.ref f_41) = true)
  (l_41 : K.lookup f_41 = some ⟨oc_41,od_41,.func (PySem.W.fnOf "number" "Hall.number" (defArgs sH_number) (defBody sH_number) (defScope sH_number) .none kV_41 dc_41 pm_41 an_41 cd_41 ct_41),sl_41⟩)
  (q_41 : PySem.W.codeIn K cd_41 "Hall.number" = true)
  (p_41 : PySem.W.keepIn K (.ref f_41) = true)
  (a_42 : PySem.W.findIn K (.ref cH) "copy" = some (some (.ref f_42)))
  (i_42 : PySem.W.isFn K (.ref f_42) = true)
  (l_42 : K.lookup f_42 = some ⟨oc_42,od_42,.func (PySem.W.fnOf "copy" "Hall.copy" (defArgs sH_copy) (defBody sH_copy) (defScope sH_copy) .none kV_42 dc_42 pm_42 an_42 cd_42 ct_42),sl_42⟩)
  (q_42 : PySem.W.codeIn K cd_42 "Hall.copy" = true)
  (p_42 : PySem.W.keepIn K (.ref f_42) = true)
  (a_43 : PySem.W.findIn K (.ref cH) "make" = some (some (.ref f_43)))
  (i_43 : PySem.W.isFn K (.ref f_43) = true)
  (l_43 : K.lookup f_43 = some ⟨oc_43,od_43,.func (PySem.W.fnOf "make" "Hall.make" (defArgs sH_make) (defBody sH_make) (defScope sH_make) .none kV_43 dc_43 pm_43 an_43 cd_43 ct_43),sl_43⟩)
  (q_43 : PySem.W.codeIn K cd_43 "Hall.make" = true)
  (p_43 : PySem.W.keepIn K (.ref f_43) = true)
  (a_44 : PySem.W.findIn K (.ref cH) "load" = some (some (.ref f_44)))
  (i_44 : PySem.W.isFn K (.ref f_44) = true)
  (l_44 : K.lookup f_44 = some ⟨oc_44,od_44,.func (PySem.W.fnOf "load" "Hall.load" (defArgs sH_load) (defBody sH_load) (defScope sH_load) .none kV_44 dc_44 pm_44 an_44 cd_44 ct_44),sl_44⟩)
  (q_44 : PySem.W.codeIn K cd_44 "Hall.load" = true)
  (p_44 : PySem.W.keepIn K (.ref f_44) = true)
  (a_45 : PySem.W.findIn K (.ref cH) "store" = some (some (.ref f_45)))
  (i_45 : PySem.W.isFn K (.ref f_45) = true)
  (l_45 : K.lookup f_45 = some ⟨oc_45,od_45,.func (PySem.W.fnOf "store" "Hall.store" (defArgs sH_store) (defBody sH_store) (defScope sH_store) .none kV_45 dc_45 pm_45 an_45 cd_45 ct_45),sl_45⟩)
  (q_45 : PySem.W.codeIn K cd_45 "Hall.store" = true)
  (p_45 : PySem.W.keepIn K (.ref f_45) = true)
  (a_46 : PySem.W.findIn K (.ref cH) "blocks" = some (some (.ref f_46)))
  (i_46 : PySem.W.isFn K (.ref f_46) = true)
  (l_46 : K.lookup f_46 = some ⟨oc_46,od_46,.func (PySem.W.fnOf "blocks" "Hall.blocks" (defArgs sH_blocks) (defBody sH_blocks) (defScope sH_blocks) .none kV_46 dc_46 pm_46 an_46 cd_46 ct_46),sl_46⟩)
  (q_46 : PySem.W.codeIn K cd_46 "Hall.blocks" = true)
  (p_46 : PySem.W.keepIn K (.ref f_46) = true)
  (a_47 : PySem.W.findIn K (.ref cH) "place_of" = some (some (.ref f_47)))
  (i_47 : PySem.W.isFn K (.ref f_47) = true)
  (l_47 : K.lookup f_47 = some ⟨oc_47,od_47,.func (PySem.W.fnOf "place_of" "Hall.place_of" (defArgs sH_place_of) (defBody sH_place_of) (defScope sH_place_of) .none kV_47 dc_47 pm_47 an_47 cd_47 ct_47),sl_47⟩)
  (q_47 : PySem.W.codeIn K cd_47 "Hall.place_of" = true)
  (p_47 : PySem.W.keepIn K (.ref f_47) = true)
  (a_48 : PySem.W.findIn K (.ref cH) "slide" = some (some (.ref f_48)))
  (i_48 : PySem.W.isFn K (.ref f_48) = true)
  (l_48 : K.lookup f_48 = some ⟨oc_48,od_48,.func (PySem.W.fnOf "slide" "Hall.slide" (defArgs sH_slide) (defBody sH_slide) (defScope sH_slide) .none kV_48 dc_48 pm_48 an_48 cd_48 ct_48),sl_48⟩)
  (q_48 : PySem.W.codeIn K cd_48 "Hall.slide" = true)
  (p_48 : PySem.W.keepIn K (.ref f_48) = true)
  (a_49 : PySem.W.findIn K (.ref cH) "begin" = some (some (.ref f_49)))
  (i_49 : PySem.W.isFn K (.ref f_49) = true)
  (l_49 : K.lookup f_49 = some ⟨oc_49,od_49,.func (PySem.W.fnOf "begin" "Hall.begin" (defArgs sH_begin) (defBody sH_begin) (defScope sH_begin) .none kV_49 dc_49 pm_49 an_49 cd_49 ct_49),sl_49⟩)
  (q_49 : PySem.W.codeIn K cd_49 "Hall.begin" = true)
  (p_49 : PySem.W.keepIn K (.ref f_49) = true)
  (a_50 : PySem.W.findIn K (.ref cH) "step" = some (some (.ref f_50)))
  (i_50 : PySem.W.isFn K (.ref f_50) = true)
  (l_50 : K.lookup f_50 = some ⟨oc_50,od_50,.func (PySem.W.fnOf "step" "Hall.step" (defArgs sH_step) (defBody sH_step) (defScope sH_step) .none kV_50 dc_50 pm_50 an_50 cd_50 ct_50),sl_50⟩)
  (q_50 : PySem.W.codeIn K cd_50 "Hall.step" = true)
  (p_50 : PySem.W.keepIn K (.ref f_50) = true)
  (a_51 : PySem.W.findIn K (.ref cH) "finish" = some (some (.ref f_51)))
  (i_51 : PySem.W.isFn K (.ref f_51) = true)
  (l_51 : K.lookup f_51 = some ⟨oc_51,od_51,.func (PySem.W.fnOf "finish" "Hall.finish" (defArgs sH_finish) (defBody sH_finish) (defScope sH_finish) .none kV_51 dc_51 pm_51 an_51 cd_51 ct_51),sl_51⟩)
  (q_51 : PySem.W.codeIn K cd_51 "Hall.finish" = true)
  (p_51 : PySem.W.keepIn K (.ref f_51) = true)
  (a_52 : PySem.W.findIn K (.ref cH) "phase" = some (some (.ref f_52)))
  (i_52 : PySem.W.isFn K (.ref f_52) = true)
  (l_52 : K.lookup f_52 = some ⟨oc_52,od_52,.func (PySem.W.fnOf "phase" "Hall.phase" (defArgs sH_phase) (defBody sH_phase) (defScope sH_phase) .none kV_52 dc_52 pm_52 an_52 cd_52 ct_52),sl_52⟩)
  (q_52 : PySem.W.codeIn K cd_52 "Hall.phase" = true)
  (p_52 : PySem.W.keepIn K (.ref f_52) = true)
  (a_53 : PySem.W.findIn K (.ref cH) "colours" = some (some (.ref f_53)))
  (i_53 : PySem.W.isFn K (.ref f_53) = true)
  (l_53 : K.lookup f_53 = some ⟨oc_53,od_53,.func (PySem.W.fnOf "colours" "Hall.colours" (defArgs sH_colours) (defBody sH_colours) (defScope sH_colours) .none kV_53 dc_53 pm_53 an_53 cd_53 ct_53),sl_53⟩)
  (q_53 : PySem.W.codeIn K cd_53 "Hall.colours" = true)
  (p_53 : PySem.W.keepIn K (.ref f_53) = true)
  (a_54 : PySem.W.findIn K (.ref cH) "finger" = some (some (.ref f_54)))
  (i_54 : PySem.W.isFn K (.ref f_54) = true)
  (l_54 : K.lookup f_54 = some ⟨oc_54,od_54,.func (PySem.W.fnOf "finger" "Hall.finger" (defArgs sH_finger) (defBody sH_finger) (defScope sH_finger) .none kV_54 dc_54 pm_54 an_54 cd_54 ct_54),sl_54⟩)
  (q_54 : PySem.W.codeIn K cd_54 "Hall.finger" = true)
  (p_54 : PySem.W.keepIn K (.ref f_54) = true)
  (a_55 : PySem.W.nsIn K mainGlobals "_law_cell" = some (some (.ref f_55)))
  (l_55 : K.lookup f_55 = some ⟨oc_55,od_55,.func (PySem.W.fnOf "_law_cell" "_law_cell" (defArgs s_law_cell) (defBody s_law_cell) (defScope s_law_cell) .none kV_55 dc_55 pm_55 an_55 cd_55 ct_55),sl_55⟩)
  (q_55 : PySem.W.codeIn K cd_55 "_law_cell" = true)
  (p_55 : PySem.W.keepIn K (.ref f_55) = true)
  (a_56 : PySem.W.nsIn K mainGlobals "_law_mix" = some (some (.ref f_56)))
  (l_56 : K.lookup f_56 = some ⟨oc_56,od_56,.func (PySem.W.fnOf "_law_mix" "_law_mix" (defArgs s_law_mix) (defBody s_law_mix) (defScope s_law_mix) .none kV_56 dc_56 pm_56 an_56 cd_56 ct_56),sl_56⟩)
  (q_56 : PySem.W.codeIn K cd_56 "_law_mix" = true)
  (p_56 : PySem.W.keepIn K (.ref f_56) = true)
  (a_57 : PySem.W.nsIn K mainGlobals "_law_whole" = some (some (.ref f_57)))
  (l_57 : K.lookup f_57 = some ⟨oc_57,od_57,.func (PySem.W.fnOf "_law_whole" "_law_whole" (defArgs s_law_whole) (defBody s_law_whole) (defScope s_law_whole) .none kV_57 dc_57 pm_57 an_57 cd_57 ct_57),sl_57⟩)
  (q_57 : PySem.W.codeIn K cd_57 "_law_whole" = true)
  (p_57 : PySem.W.keepIn K (.ref f_57) = true)
  (a_58 : PySem.W.nsIn K mainGlobals "_law_act" = some (some (.ref f_58)))
  (l_58 : K.lookup f_58 = some ⟨oc_58,od_58,.func (PySem.W.fnOf "_law_act" "_law_act" (defArgs s_law_act) (defBody s_law_act) (defScope s_law_act) .none kV_58 dc_58 pm_58 an_58 cd_58 ct_58),sl_58⟩)
  (q_58 : PySem.W.codeIn K cd_58 "_law_act" = true)
  (p_58 : PySem.W.keepIn K (.ref f_58) = true)
  (a_59 : PySem.W.nsIn K mainGlobals "_law_acts" = some (some (.ref f_59)))
  (l_59 : K.lookup f_59 = some ⟨oc_59,od_59,.func (PySem.W.fnOf "_law_acts" "_law_acts" (defArgs s_law_acts) (defBody s_law_acts) (defScope s_law_acts) .none kV_59 dc_59 pm_59 an_59 cd_59 ct_59),sl_59⟩)
  (q_59 : PySem.W.codeIn K cd_59 "_law_acts" = true)
  (p_59 : PySem.W.keepIn K (.ref f_59) = true)
  (a_60 : PySem.W.nsIn K mainGlobals "_law_size" = some (some (.ref f_60)))
  (l_60 : K.lookup f_60 = some ⟨oc_60,od_60,.func (PySem.W.fnOf "_law_size" "_law_size" (defArgs s_law_size) (defBody s_law_size) (defScope s_law_size) .none kV_60 dc_60 pm_60 an_60 cd_60 ct_60),sl_60⟩)
  (q_60 : PySem.W.codeIn K cd_60 "_law_size" = true)
  (p_60 : PySem.W.keepIn K (.ref f_60) = true)
  (a_61 : PySem.W.nsIn K mainGlobals "_law_call" = some (some (.ref f_61)))
  (l_61 : K.lookup f_61 = some ⟨oc_61,od_61,.func (PySem.W.fnOf "_law_call" "_law_call" (defArgs s_law_call) (defBody s_law_call) (defScope s_law_call) .none kV_61 dc_61 pm_61 an_61 cd_61 ct_61),sl_61⟩)
  (q_61 : PySem.W.codeIn K cd_61 "_law_call" = true)
  (p_61 : PySem.W.keepIn K (.ref f_61) = true)
  (a_62 : PySem.W.nsIn K mainGlobals "_law_do" = some (some (.ref f_62)))
  (l_62 : K.lookup f_62 = some ⟨oc_62,od_62,.func (PySem.W.fnOf "_law_do" "_law_do" (defArgs s_law_do) (defBody s_law_do) (defScope s_law_do) .none kV_62 dc_62 pm_62 an_62 cd_62 ct_62),sl_62⟩)
  (q_62 : PySem.W.codeIn K cd_62 "_law_do" = true)
  (p_62 : PySem.W.keepIn K (.ref f_62) = true)
  (a_63 : PySem.W.nsIn K mainGlobals "_law_new" = some (some (.ref f_63)))
  (l_63 : K.lookup f_63 = some ⟨oc_63,od_63,.func (PySem.W.fnOf "_law_new" "_law_new" (defArgs s_law_new) (defBody s_law_new) (defScope s_law_new) .none kV_63 dc_63 pm_63 an_63 cd_63 ct_63),sl_63⟩)
  (q_63 : PySem.W.codeIn K cd_63 "_law_new" = true)
  (p_63 : PySem.W.keepIn K (.ref f_63) = true)
  (a_64 : PySem.W.nsIn K mainGlobals "_law_gap" = some (some (.ref f_64)))
  (l_64 : K.lookup f_64 = some ⟨oc_64,od_64,.func (PySem.W.fnOf "_law_gap" "_law_gap" (defArgs s_law_gap) (defBody s_law_gap) (defScope s_law_gap) .none kV_64 dc_64 pm_64 an_64 cd_64 ct_64),sl_64⟩)
  (q_64 : PySem.W.codeIn K cd_64 "_law_gap" = true)
  (p_64 : PySem.W.keepIn K (.ref f_64) = true)
  (a_65 : PySem.W.nsIn K mainGlobals "_law_shade" = some (some (.ref f_65)))
  (l_65 : K.lookup f_65 = some ⟨oc_65,od_65,.func (PySem.W.fnOf "_law_shade" "_law_shade" (defArgs s_law_shade) (defBody s_law_shade) (defScope s_law_shade) .none kV_65 dc_65 pm_65 an_65 cd_65 ct_65),sl_65⟩)
  (q_65 : PySem.W.codeIn K cd_65 "_law_shade" = true)
  (p_65 : PySem.W.keepIn K (.ref f_65) = true)
  (a_66 : PySem.W.nsIn K mainGlobals "_law_grey" = some (some (.ref f_66)))
  (l_66 : K.lookup f_66 = some ⟨oc_66,od_66,.func (PySem.W.fnOf "_law_grey" "_law_grey" (defArgs s_law_grey) (defBody s_law_grey) (defScope s_law_grey) .none kV_66 dc_66 pm_66 an_66 cd_66 ct_66),sl_66⟩)
  (q_66 : PySem.W.codeIn K cd_66 "_law_grey" = true)
  (p_66 : PySem.W.keepIn K (.ref f_66) = true)
  (a_67 : PySem.W.nsIn K mainGlobals "_law_settle" = some (some (.ref f_67)))
  (l_67 : K.lookup f_67 = some ⟨oc_67,od_67,.func (PySem.W.fnOf "_law_settle" "_law_settle" (defArgs s_law_settle) (defBody s_law_settle) (defScope s_law_settle) .none kV_67 dc_67 pm_67 an_67 cd_67 ct_67),sl_67⟩)
  (q_67 : PySem.W.codeIn K cd_67 "_law_settle" = true)
  (p_67 : PySem.W.keepIn K (.ref f_67) = true)
  (a_68 : PySem.W.nsIn K mainGlobals "_law_begin" = some (some (.ref f_68)))
  (l_68 : K.lookup f_68 = some ⟨oc_68,od_68,.func (PySem.W.fnOf "_law_begin" "_law_begin" (defArgs s_law_begin) (defBody s_law_begin) (defScope s_law_begin) .none kV_68 dc_68 pm_68 an_68 cd_68 ct_68),sl_68⟩)
  (q_68 : PySem.W.codeIn K cd_68 "_law_begin" = true)
  (p_68 : PySem.W.keepIn K (.ref f_68) = true)
  (a_69 : PySem.W.nsIn K mainGlobals "_law_part" = some (some (.ref f_69)))
  (l_69 : K.lookup f_69 = some ⟨oc_69,od_69,.func (PySem.W.fnOf "_law_part" "_law_part" (defArgs s_law_part) (defBody s_law_part) (defScope s_law_part) .none kV_69 dc_69 pm_69 an_69 cd_69 ct_69),sl_69⟩)
  (q_69 : PySem.W.codeIn K cd_69 "_law_part" = true)
  (p_69 : PySem.W.keepIn K (.ref f_69) = true)
  (a_70 : PySem.W.nsIn K mainGlobals "_law_steps" = some (some (.ref f_70)))
  (l_70 : K.lookup f_70 = some ⟨oc_70,od_70,.func (PySem.W.fnOf "_law_steps" "_law_steps" (defArgs s_law_steps) (defBody s_law_steps) (defScope s_law_steps) .none kV_70 dc_70 pm_70 an_70 cd_70 ct_70),sl_70⟩)
  (q_70 : PySem.W.codeIn K cd_70 "_law_steps" = true)
  (p_70 : PySem.W.keepIn K (.ref f_70) = true)
  (a_71 : PySem.W.nsIn K mainGlobals "_law_moved" = some (some (.ref f_71)))
  (l_71 : K.lookup f_71 = some ⟨oc_71,od_71,.func (PySem.W.fnOf "_law_moved" "_law_moved" (defArgs s_law_moved) (defBody s_law_moved) (defScope s_law_moved) .none kV_71 dc_71 pm_71 an_71 cd_71 ct_71),sl_71⟩)
  (q_71 : PySem.W.codeIn K cd_71 "_law_moved" = true)
  (p_71 : PySem.W.keepIn K (.ref f_71) = true)
  (a_72 : PySem.W.nsIn K mainGlobals "_law_slide" = some (some (.ref f_72)))
  (l_72 : K.lookup f_72 = some ⟨oc_72,od_72,.func (PySem.W.fnOf "_law_slide" "_law_slide" (defArgs s_law_slide) (defBody s_law_slide) (defScope s_law_slide) .none kV_72 dc_72 pm_72 an_72 cd_72 ct_72),sl_72⟩)
  (q_72 : PySem.W.codeIn K cd_72 "_law_slide" = true)
  (p_72 : PySem.W.keepIn K (.ref f_72) = true)
  (a_73 : PySem.W.nsIn K mainGlobals "_law_made" = some (some (.ref f_73)))
  (l_73 : K.lookup f_73 = some ⟨oc_73,od_73,.func (PySem.W.fnOf "_law_made" "_law_made" (defArgs s_law_made) (defBody s_law_made) (defScope s_law_made) .none kV_73 dc_73 pm_73 an_73 cd_73 ct_73),sl_73⟩)
  (q_73 : PySem.W.codeIn K cd_73 "_law_made" = true)
  (p_73 : PySem.W.keepIn K (.ref f_73) = true)
  (a_74 : PySem.W.nsIn K mainGlobals "_law_field" = some (some (.ref f_74)))
  (l_74 : K.lookup f_74 = some ⟨oc_74,od_74,.func (PySem.W.fnOf "_law_field" "_law_field" (defArgs s_law_field) (defBody s_law_field) (defScope s_law_field) .none kV_74 dc_74 pm_74 an_74 cd_74 ct_74),sl_74⟩)
  (q_74 : PySem.W.codeIn K cd_74 "_law_field" = true)
  (p_74 : PySem.W.keepIn K (.ref f_74) = true)
  (a_75 : PySem.W.nsIn K mainGlobals "_law_touch" = some (some (.ref f_75)))
  (l_75 : K.lookup f_75 = some ⟨oc_75,od_75,.func (PySem.W.fnOf "_law_touch" "_law_touch" (defArgs s_law_touch) (defBody s_law_touch) (defScope s_law_touch) .none kV_75 dc_75 pm_75 an_75 cd_75 ct_75),sl_75⟩)
  (q_75 : PySem.W.codeIn K cd_75 "_law_touch" = true)
  (p_75 : PySem.W.keepIn K (.ref f_75) = true)
  (a_76 : PySem.W.nsIn K mainGlobals "_law_by_hand" = some (some (.ref f_76)))
  (l_76 : K.lookup f_76 = some ⟨oc_76,od_76,.func (PySem.W.fnOf "_law_by_hand" "_law_by_hand" (defArgs s_law_by_hand) (defBody s_law_by_hand) (defScope s_law_by_hand) .none kV_76 dc_76 pm_76 an_76 cd_76 ct_76),sl_76⟩)
  (q_76 : PySem.W.codeIn K cd_76 "_law_by_hand" = true)
  (p_76 : PySem.W.keepIn K (.ref f_76) = true)
  (a_77 : PySem.W.nsIn K mainGlobals "_law_blocks" = some (some (.ref f_77)))
  (l_77 : K.lookup f_77 = some ⟨oc_77,od_77,.func (PySem.W.fnOf "_law_blocks" "_law_blocks" (defArgs s_law_blocks) (defBody s_law_blocks) (defScope s_law_blocks) .none kV_77 dc_77 pm_77 an_77 cd_77 ct_77),sl_77⟩)
  (q_77 : PySem.W.codeIn K cd_77 "_law_blocks" = true)
  (p_77 : PySem.W.keepIn K (.ref f_77) = true)
  (a_78 : PySem.W.nsIn K mainGlobals "_law_alike" = some (some (.ref f_78)))
  (l_78 : K.lookup f_78 = some ⟨oc_78,od_78,.func (PySem.W.fnOf "_law_alike" "_law_alike" (defArgs s_law_alike) (defBody s_law_alike) (defScope s_law_alike) .none kV_78 dc_78 pm_78 an_78 cd_78 ct_78),sl_78⟩)
  (q_78 : PySem.W.codeIn K cd_78 "_law_alike" = true)
  (p_78 : PySem.W.keepIn K (.ref f_78) = true)
  (a_79 : PySem.W.nsIn K mainGlobals "law" = some (some (.ref f_79)))
  (l_79 : K.lookup f_79 = some ⟨oc_79,od_79,.func (PySem.W.fnOf "law" "law" (defArgs slaw) (defBody slaw) (defScope slaw) .none kV_79 dc_79 pm_79 an_79 cd_79 ct_79),sl_79⟩)
  (q_79 : PySem.W.codeIn K cd_79 "law" = true)
  (p_79 : PySem.W.keepIn K (.ref f_79) = true)
  (NTM : cT ≠ cM)
  (NTS : cT ≠ cS)
  (NMS : cM ≠ cS)
  (NHT : cH ≠ cT)
  (NHM : cH ≠ cM)
  (NHS : cH ≠ cS)
  : ∃ fd : FuncData,(∀ (s : Shared) (v : Value),BindsTo s fd ⟨[v],[]⟩ [("_law_script",v)]) /\ ∀ base : Heap,K.In base -> base.Ns mainGlobals mg -> FnOk l.prog w K mg base CX0 12 fa fd ["_law_script"] (sp_law K):=by
 have e:=hfa.symm.trans (mg_of X G a_79)
 cases e
 let L : Lk K mg:=⟨⟨cT,cM,cS,cH,che,cnt,cnf,cnr,cnn⟩,⟨NTM,NTS,NMS,NHT,NHM,NHS⟩,mg_of X G AT,⟨pgT,hdT,poT,saT⟩,FnT_place,FnT_fields,FnT_colour,mg_of X G AM,⟨pgM,hdM,poM,saM⟩,FnM_size,FnM_hands,FnM_things,mg_of X G AS,⟨pgS,hdS,poS,saS⟩,FnS_memory,FnS_stage,FnS_finger_place,mg_of X G AH,⟨pgH,hdH,poH,saH⟩,FnH_memory,FnH_sweeper,mg_of X G Ahe,mg_of X G Ant,mg_of X G Anf,mg_of X G Anr,mg_of X G Ann,Fxnt,Fxnf,Fxnr,Fxnn,Fent_nt,Fent_nf,Fent_nr,Fent_nn,Fenf_nt,Fenf_nf,Fenf_nr,Fenf_nn,Fenr_nt,Fenr_nf,Fenr_nr,Fenr_nn,Fenn_nt,Fenn_nf,Fenn_nr,Fenn_nn,tWHITE,mg_of X G VWHITE,tGREY,mg_of X G VGREY,tBLACK,mg_of X G VBLACK,tIDLE,mg_of X G VIDLE,tMARK,mg_of X G VMARK,tSWEEP,mg_of X G VSWEEP,tHEAD_WORDS,mg_of X G VHEAD_WORDS,mg_none_of X G Zisinstance,mg_none_of X G Zlen,mg_none_of X G Ztuple,mg_none_of X G Zint,mg_none_of X G Zbool,mg_none_of X G Zsorted,mg_none_of X G Zrange,mg_none_of X G Zmin,Fkint,FkTT,Ftha,Fthn,Fthk,Fthm,Fcmp,Fk_int_int,Fk_int_bool,Fk_int_tuple,Fk_bool_int,Fk_bool_bool,Fk_bool_tuple,Fk_str_int,Fk_str_bool,Fk_str_tuple,Fk_NoneType_int,Fk_NoneType_bool,Fk_NoneType_tuple,Fk_tuple_int,Fk_tuple_bool,Fk_tuple_tuple,Fk_list_int,Fk_list_bool,Fk_list_tuple,⟨_,_,fun_mk l_0 q_0 p_0,(fun_mk (st:=sT___init__) l_0 q_0 p_0).binds fun _ _ _ _ _ _ us hl=>match us,hl with | [_,_],_=>rfl,⟨a_0,i_0,p_0⟩⟩,⟨_,_,fun_mk l_1 q_1 p_1,(fun_mk (st:=sT_words) l_1 q_1 p_1).binds fun _ _ _ _ _ _ us hl=>match us,hl with | [_],_=>rfl,⟨a_1,i_1,p_1⟩⟩,⟨_,_,fun_mk l_2 q_2 p_2,(fun_mk (st:=sT_behind) l_2 q_2 p_2).binds fun _ _ _ _ _ _ us hl=>match us,hl with | [_],_=>rfl,⟨a_2,i_2,p_2⟩⟩,⟨_,_,fun_mk l_3 q_3 p_3,(fun_mk (st:=sM___init__) l_3 q_3 p_3).binds fun _ _ _ _ _ _ us hl=>match us,hl with | [_,_],_=>rfl,⟨a_3,i_3,p_3⟩⟩,⟨_,_,fun_mk l_4 q_4 p_4,(fun_mk (st:=sM_held) l_4 q_4 p_4).binds fun _ _ _ _ _ _ us hl=>match us,hl with | [_,_],_=>rfl,⟨a_4,i_4,p_4⟩⟩,⟨_,_,fun_mk l_5 q_5 p_5,(fun_mk (st:=sM_hold) l_5 q_5 p_5).binds fun _ _ _ _ _ _ us hl=>match us,hl with | [_,_,_],_=>rfl,⟨a_5,i_5,p_5⟩⟩,⟨_,_,fun_mk l_6 q_6 p_6,(fun_mk (st:=sM_things_held) l_6 q_6 p_6).binds fun _ _ _ _ _ _ us hl=>match us,hl with | [_],_=>rfl,⟨a_6,i_6,p_6⟩⟩,⟨_,_,fun_mk l_7 q_7 p_7,(fun_mk (st:=sM_thing_in) l_7 q_7 p_7).binds fun _ _ _ _ _ _ us hl=>match us,hl with | [_,_],_=>rfl,⟨a_7,i_7,p_7⟩⟩,⟨_,_,fun_mk l_8 q_8 p_8,(fun_mk (st:=sM_thing_with_field) l_8 q_8 p_8).binds fun _ _ _ _ _ _ us hl=>match us,hl with | [_,_,_],_=>rfl,⟨a_8,i_8,p_8⟩⟩,⟨_,_,fun_mk l_9 q_9 p_9,(fun_mk (st:=sM_field_value) l_9 q_9 p_9).binds fun _ _ _ _ _ _ us hl=>match us,hl with | [_,_,_],_=>rfl,⟨a_9,i_9,p_9⟩⟩,⟨_,_,fun_mk l_10 q_10 p_10,(fun_mk (st:=sM_number) l_10 q_10 p_10).binds fun _ _ _ _ _ _ us hl=>match us,hl with | [_,_,_],_=>rfl,⟨a_10,i_10,p_10⟩⟩,⟨_,_,fun_mk l_11 q_11 p_11,(fun_mk (st:=sM_copy) l_11 q_11 p_11).binds fun _ _ _ _ _ _ us hl=>match us,hl with | [_,_,_],_=>rfl,⟨a_11,i_11,p_11⟩⟩,⟨_,_,fun_mk l_12 q_12 p_12,(fun_mk (st:=sM_load) l_12 q_12 p_12).binds fun _ _ _ _ _ _ us hl=>match us,hl with | [_,_,_,_],_=>rfl,⟨a_12,i_12,p_12⟩⟩,⟨_,_,fun_mk l_13 q_13 p_13,(fun_mk (st:=sM_store) l_13 q_13 p_13).binds fun _ _ _ _ _ _ us hl=>match us,hl with | [_,_,_,_],_=>rfl,⟨a_13,i_13,p_13⟩⟩,⟨_,_,fun_mk l_14 q_14 p_14,(fun_mk (st:=sM_place_of) l_14 q_14 p_14).binds fun _ _ _ _ _ _ us hl=>match us,hl with | [_,_],_=>rfl,⟨a_14,i_14,p_14⟩⟩,⟨_,_,fun_mk l_15 q_15 p_15,(fun_mk (st:=sM_free_place) l_15 q_15 p_15).binds fun _ _ _ _ _ _ us hl=>match us,hl with | [_,_],_=>rfl,⟨a_15,i_15,p_15⟩⟩,⟨_,_,fun_mk l_16 q_16 p_16,(fun_mk (st:=sM_lay) l_16 q_16 p_16).binds fun _ _ _ _ _ _ us hl=>match us,hl with | [_,_,_],_=>rfl,⟨a_16,i_16,p_16⟩⟩,⟨_,_,fun_mk l_17 q_17 p_17,(fun_mk (st:=sM_take_away) l_17 q_17 p_17).binds fun _ _ _ _ _ _ us hl=>match us,hl with | [_,_],_=>rfl,⟨a_17,i_17,p_17⟩⟩,⟨_,_,fun_mk l_18 q_18 p_18,(fun_mk (st:=sM_blocks) l_18 q_18 p_18).binds fun _ _ _ _ _ _ us hl=>match us,hl with | [_],_=>rfl,⟨a_18,i_18,p_18⟩⟩,⟨_,_,fun_mk l_19 q_19 p_19,(fun_mk (st:=sM_slide) l_19 q_19 p_19).binds fun _ _ _ _ _ _ us hl=>match us,hl with | [_],_=>rfl,⟨a_19,i_19,p_19⟩⟩,⟨_,_,fun_mk l_20 q_20 p_20,(fun_mk (st:=smake_grey) l_20 q_20 p_20).binds fun _ _ _ _ _ _ us hl=>match us,hl with | [_],_=>rfl,mg_of X G a_20⟩,⟨_,_,fun_mk l_21 q_21 p_21,(fun_mk (st:=sS___init__) l_21 q_21 p_21).binds fun _ _ _ _ _ _ us hl=>match us,hl with | [_,_],_=>rfl,⟨a_21,i_21,p_21⟩⟩,⟨_,_,fun_mk l_22 q_22 p_22,(fun_mk (st:=sS_phase) l_22 q_22 p_22).binds fun _ _ _ _ _ _ us hl=>match us,hl with | [_],_=>rfl,⟨a_22,i_22,p_22⟩⟩,⟨_,_,fun_mk l_23 q_23 p_23,(fun_mk (st:=sS_finger) l_23 q_23 p_23).binds fun _ _ _ _ _ _ us hl=>match us,hl with | [_],_=>rfl,⟨a_23,i_23,p_23⟩⟩,⟨_,_,fun_mk l_24 q_24 p_24,(fun_mk (st:=sS_colours) l_24 q_24 p_24).binds fun _ _ _ _ _ _ us hl=>match us,hl with | [_],_=>rfl,⟨a_24,i_24,p_24⟩⟩,⟨_,_,fun_mk l_25 q_25 p_25,(fun_mk (st:=sS_refuse_during_sweep) l_25 q_25 p_25).binds fun _ _ _ _ _ _ us hl=>match us,hl with | [_],_=>rfl,⟨a_25,i_25,p_25⟩⟩,⟨_,_,fun_mk l_26 q_26 p_26,(fun_mk (st:=sS_begin) l_26 q_26 p_26).binds fun _ _ _ _ _ _ us hl=>match us,hl with | [_],_=>rfl,⟨a_26,i_26,p_26⟩⟩,⟨_,_,fun_mk l_27 q_27 p_27,(fun_mk (st:=sS_step) l_27 q_27 p_27).binds fun _ _ _ _ _ _ us hl=>match us,hl with | [_,_],_=>rfl,⟨a_27,i_27,p_27⟩⟩,⟨_,_,fun_mk l_28 q_28 p_28,(fun_mk (st:=sS_finish) l_28 q_28 p_28).binds fun _ _ _ _ _ _ us hl=>match us,hl with | [_],_=>rfl,⟨a_28,i_28,p_28⟩⟩,⟨_,_,fun_mk l_29 q_29 p_29,(fun_mk (st:=sS_do_part) l_29 q_29 p_29).binds fun _ _ _ _ _ _ us hl=>match us,hl with | [_],_=>rfl,⟨a_29,i_29,p_29⟩⟩,⟨_,_,fun_mk l_30 q_30 p_30,(fun_mk (st:=sS_least_grey) l_30 q_30 p_30).binds fun _ _ _ _ _ _ us hl=>match us,hl with | [_],_=>rfl,⟨a_30,i_30,p_30⟩⟩,⟨_,_,fun_mk l_31 q_31 p_31,(fun_mk (st:=sS_least_from_finger) l_31 q_31 p_31).binds fun _ _ _ _ _ _ us hl=>match us,hl with | [_],_=>rfl,⟨a_31,i_31,p_31⟩⟩,⟨_,_,fun_mk l_32 q_32 p_32,(fun_mk (st:=sS_mark_thing) l_32 q_32 p_32).binds fun _ _ _ _ _ _ us hl=>match us,hl with | [_,_],_=>rfl,⟨a_32,i_32,p_32⟩⟩,⟨_,_,fun_mk l_33 q_33 p_33,(fun_mk (st:=sS_sweep_thing) l_33 q_33 p_33).binds fun _ _ _ _ _ _ us hl=>match us,hl with | [_,_],_=>rfl,⟨a_33,i_33,p_33⟩⟩,⟨_,_,fun_mk l_34 q_34 p_34,(fun_mk (st:=sS_change_stage) l_34 q_34 p_34).binds fun _ _ _ _ _ _ us hl=>match us,hl with | [_],_=>rfl,⟨a_34,i_34,p_34⟩⟩,⟨_,_,fun_mk l_35 q_35 p_35,(fun_mk (st:=sS_store) l_35 q_35 p_35).binds fun _ _ _ _ _ _ us hl=>match us,hl with | [_,_,_,_],_=>rfl,⟨a_35,i_35,p_35⟩⟩,⟨_,_,fun_mk l_36 q_36 p_36,(fun_mk (st:=sS_make) l_36 q_36 p_36).binds fun _ _ _ _ _ _ us hl=>match us,hl with | [_,_,_],_=>rfl,⟨a_36,i_36,p_36⟩⟩,⟨_,_,fun_mk l_37 q_37 p_37,(fun_mk (st:=sS_colour_at) l_37 q_37 p_37).binds fun _ _ _ _ _ _ us hl=>match us,hl with | [_,_],_=>rfl,⟨a_37,i_37,p_37⟩⟩,⟨_,_,fun_mk l_38 q_38 p_38,(fun_mk (st:=sS_room_behind_all) l_38 q_38 p_38).binds fun _ _ _ _ _ _ us hl=>match us,hl with | [_,_],_=>rfl,⟨a_38,i_38,p_38⟩⟩,⟨_,_,fun_mk l_39 q_39 p_39,(fun_mk (st:=sS_slide) l_39 q_39 p_39).binds fun _ _ _ _ _ _ us hl=>match us,hl with | [_],_=>rfl,⟨a_39,i_39,p_39⟩⟩,⟨_,_,fun_mk l_40 q_40 p_40,(fun_mk (st:=sH___init__) l_40 q_40 p_40).binds fun _ _ _ _ _ _ us hl=>match us,hl with | [_,_],_=>rfl,⟨a_40,i_40,p_40⟩⟩,⟨_,_,fun_mk l_41 q_41 p_41,(fun_mk (st:=sH_number) l_41 q_41 p_41).binds fun _ _ _ _ _ _ us hl=>match us,hl with | [_,_,_],_=>rfl,⟨a_41,i_41,p_41⟩⟩,⟨_,_,fun_mk l_42 q_42 p_42,(fun_mk (st:=sH_copy) l_42 q_42 p_42).binds fun _ _ _ _ _ _ us hl=>match us,hl with | [_,_,_],_=>rfl,⟨a_42,i_42,p_42⟩⟩,⟨_,_,fun_mk l_43 q_43 p_43,(fun_mk (st:=sH_make) l_43 q_43 p_43).binds fun _ _ _ _ _ _ us hl=>match us,hl with | [_,_,_],_=>rfl,⟨a_43,i_43,p_43⟩⟩,⟨_,_,fun_mk l_44 q_44 p_44,(fun_mk (st:=sH_load) l_44 q_44 p_44).binds fun _ _ _ _ _ _ us hl=>match us,hl with | [_,_,_,_],_=>rfl,⟨a_44,i_44,p_44⟩⟩,⟨_,_,fun_mk l_45 q_45 p_45,(fun_mk (st:=sH_store) l_45 q_45 p_45).binds fun _ _ _ _ _ _ us hl=>match us,hl with | [_,_,_,_],_=>rfl,⟨a_45,i_45,p_45⟩⟩,⟨_,_,fun_mk l_46 q_46 p_46,(fun_mk (st:=sH_blocks) l_46 q_46 p_46).binds fun _ _ _ _ _ _ us hl=>match us,hl with | [_],_=>rfl,⟨a_46,i_46,p_46⟩⟩,⟨_,_,fun_mk l_47 q_47 p_47,(fun_mk (st:=sH_place_of) l_47 q_47 p_47).binds fun _ _ _ _ _ _ us hl=>match us,hl with | [_,_],_=>rfl,⟨a_47,i_47,p_47⟩⟩,⟨_,_,fun_mk l_48 q_48 p_48,(fun_mk (st:=sH_slide) l_48 q_48 p_48).binds fun _ _ _ _ _ _ us hl=>match us,hl with | [_],_=>rfl,⟨a_48,i_48,p_48⟩⟩,⟨_,_,fun_mk l_49 q_49 p_49,(fun_mk (st:=sH_begin) l_49 q_49 p_49).binds fun _ _ _ _ _ _ us hl=>match us,hl with | [_],_=>rfl,⟨a_49,i_49,p_49⟩⟩,⟨_,_,fun_mk l_50 q_50 p_50,(fun_mk (st:=sH_step) l_50 q_50 p_50).binds fun _ _ _ _ _ _ us hl=>match us,hl with | [_,_],_=>rfl,⟨a_50,i_50,p_50⟩⟩,⟨_,_,fun_mk l_51 q_51 p_51,(fun_mk (st:=sH_finish) l_51 q_51 p_51).binds fun _ _ _ _ _ _ us hl=>match us,hl with | [_],_=>rfl,⟨a_51,i_51,p_51⟩⟩,⟨_,_,fun_mk l_52 q_52 p_52,(fun_mk (st:=sH_phase) l_52 q_52 p_52).binds fun _ _ _ _ _ _ us hl=>match us,hl with | [_],_=>rfl,⟨a_52,i_52,p_52⟩⟩,⟨_,_,fun_mk l_53 q_53 p_53,(fun_mk (st:=sH_colours) l_53 q_53 p_53).binds fun _ _ _ _ _ _ us hl=>match us,hl with | [_],_=>rfl,⟨a_53,i_53,p_53⟩⟩,⟨_,_,fun_mk l_54 q_54 p_54,(fun_mk (st:=sH_finger) l_54 q_54 p_54).binds fun _ _ _ _ _ _ us hl=>match us,hl with | [_],_=>rfl,⟨a_54,i_54,p_54⟩⟩,⟨_,_,fun_mk l_55 q_55 p_55,(fun_mk (st:=s_law_cell) l_55 q_55 p_55).binds fun _ _ _ _ _ _ us hl=>match us,hl with | [_,_],_=>rfl,mg_of X G a_55⟩,⟨_,_,fun_mk l_56 q_56 p_56,(fun_mk (st:=s_law_mix) l_56 q_56 p_56).binds fun _ _ _ _ _ _ us hl=>match us,hl with | [_,_,_],_=>rfl,mg_of X G a_56⟩,⟨_,_,fun_mk l_57 q_57 p_57,(fun_mk (st:=s_law_whole) l_57 q_57 p_57).binds fun _ _ _ _ _ _ us hl=>match us,hl with | [_],_=>rfl,mg_of X G a_57⟩,⟨_,_,fun_mk l_58 q_58 p_58,(fun_mk (st:=s_law_act) l_58 q_58 p_58).binds fun _ _ _ _ _ _ us hl=>match us,hl with | [_,_],_=>rfl,mg_of X G a_58⟩,⟨_,_,fun_mk l_59 q_59 p_59,(fun_mk (st:=s_law_acts) l_59 q_59 p_59).binds fun _ _ _ _ _ _ us hl=>match us,hl with | [_,_],_=>rfl,mg_of X G a_59⟩,⟨_,_,fun_mk l_60 q_60 p_60,(fun_mk (st:=s_law_size) l_60 q_60 p_60).binds fun _ _ _ _ _ _ us hl=>match us,hl with | [_],_=>rfl,mg_of X G a_60⟩,⟨_,_,fun_mk l_61 q_61 p_61,(fun_mk (st:=s_law_call) l_61 q_61 p_61).binds fun _ _ _ _ _ _ us hl=>match us,hl with | [_,_],_=>rfl,mg_of X G a_61⟩,⟨_,_,fun_mk l_62 q_62 p_62,(fun_mk (st:=s_law_do) l_62 q_62 p_62).binds fun _ _ _ _ _ _ us hl=>match us,hl with | [_,_],_=>rfl,mg_of X G a_62⟩,⟨_,_,fun_mk l_63 q_63 p_63,(fun_mk (st:=s_law_new) l_63 q_63 p_63).binds fun _ _ _ _ _ _ us hl=>match us,hl with | [_],_=>rfl,mg_of X G a_63⟩,⟨_,_,fun_mk l_64 q_64 p_64,(fun_mk (st:=s_law_gap) l_64 q_64 p_64).binds fun _ _ _ _ _ _ us hl=>match us,hl with | [_,_],_=>rfl,mg_of X G a_64⟩,⟨_,_,fun_mk l_65 q_65 p_65,(fun_mk (st:=s_law_shade) l_65 q_65 p_65).binds fun _ _ _ _ _ _ us hl=>match us,hl with | [_,_],_=>rfl,mg_of X G a_65⟩,⟨_,_,fun_mk l_66 q_66 p_66,(fun_mk (st:=s_law_grey) l_66 q_66 p_66).binds fun _ _ _ _ _ _ us hl=>match us,hl with | [_],_=>rfl,mg_of X G a_66⟩,⟨_,_,fun_mk l_67 q_67 p_67,(fun_mk (st:=s_law_settle) l_67 q_67 p_67).binds fun _ _ _ _ _ _ us hl=>match us,hl with | [_],_=>rfl,mg_of X G a_67⟩,⟨_,_,fun_mk l_68 q_68 p_68,(fun_mk (st:=s_law_begin) l_68 q_68 p_68).binds fun _ _ _ _ _ _ us hl=>match us,hl with | [_],_=>rfl,mg_of X G a_68⟩,⟨_,_,fun_mk l_69 q_69 p_69,(fun_mk (st:=s_law_part) l_69 q_69 p_69).binds fun _ _ _ _ _ _ us hl=>match us,hl with | [_],_=>rfl,mg_of X G a_69⟩,⟨_,_,fun_mk l_70 q_70 p_70,(fun_mk (st:=s_law_steps) l_70 q_70 p_70).binds fun _ _ _ _ _ _ us hl=>match us,hl with | [_,_],_=>rfl,mg_of X G a_70⟩,⟨_,_,fun_mk l_71 q_71 p_71,(fun_mk (st:=s_law_moved) l_71 q_71 p_71).binds fun _ _ _ _ _ _ us hl=>match us,hl with | [_,_],_=>rfl,mg_of X G a_71⟩,⟨_,_,fun_mk l_72 q_72 p_72,(fun_mk (st:=s_law_slide) l_72 q_72 p_72).binds fun _ _ _ _ _ _ us hl=>match us,hl with | [_],_=>rfl,mg_of X G a_72⟩,⟨_,_,fun_mk l_73 q_73 p_73,(fun_mk (st:=s_law_made) l_73 q_73 p_73).binds fun _ _ _ _ _ _ us hl=>match us,hl with | [_,_,_],_=>rfl,mg_of X G a_73⟩,⟨_,_,fun_mk l_74 q_74 p_74,(fun_mk (st:=s_law_field) l_74 q_74 p_74).binds fun _ _ _ _ _ _ us hl=>match us,hl with | [_,_,_],_=>rfl,mg_of X G a_74⟩,⟨_,_,fun_mk l_75 q_75 p_75,(fun_mk (st:=s_law_touch) l_75 q_75 p_75).binds fun _ _ _ _ _ _ us hl=>match us,hl with | [_,_],_=>rfl,mg_of X G a_75⟩,⟨_,_,fun_mk l_76 q_76 p_76,(fun_mk (st:=s_law_by_hand) l_76 q_76 p_76).binds fun _ _ _ _ _ _ us hl=>match us,hl with | [_,_],_=>rfl,mg_of X G a_76⟩,⟨_,_,fun_mk l_77 q_77 p_77,(fun_mk (st:=s_law_blocks) l_77 q_77 p_77).binds fun _ _ _ _ _ _ us hl=>match us,hl with | [_],_=>rfl,mg_of X G a_77⟩,⟨_,_,fun_mk l_78 q_78 p_78,(fun_mk (st:=s_law_alike) l_78 q_78 p_78).binds fun _ _ _ _ _ _ us hl=>match us,hl with | [_,_],_=>rfl,mg_of X G a_78⟩,⟨_,_,fun_mk l_79 q_79 p_79,(fun_mk (st:=slaw) l_79 q_79 p_79).binds fun _ _ _ _ _ _ us hl=>match us,hl with | [_],_=>rfl,mg_of X G a_79⟩,⟨mkT,a_0,i_0,kcT⟩,⟨mkM,a_3,i_3,kcM⟩,⟨mkS,a_21,i_21,kcS⟩,⟨mkH,a_40,i_40,kcH⟩⟩
 exact ⟨_,fun s v=>.of_eq rfl,fun base _ _=>ok_law L⟩
theorem walk {l : PySem.W.OpenLaw} {q : Program} {loose : List Str} {XP : (Str -> Option Value) -> Heap -> Prop} {YP : World -> Heap -> Prop} {d : DefRec} {K : Params -> PySem.W.Frag} (hn : l.most = some 63) (hdf : d.params.defaults = [])
  (hY : ∀ (w : World) (h : Heap),YP w h -> (K w.params).In h)
  (F : ∀ (w : World) (mg : Str -> Option Value) (fa : Addr) (h : Heap),(K w.params).In h -> h.Ns mainGlobals mg -> mg d.name = some (.ref fa) ->
   ∃ fd : FuncData,(∀ (s : Shared) (u : Value),BindsTo s fd ⟨[u],[]⟩ [("_law_script",u)]) /\ ∀ base : Heap,(K w.params).In base -> base.Ns mainGlobals mg -> FnOk l.prog w (K w.params) mg base CX0 12 fa fd ["_law_script"] (sp_law (K w.params))) :
  PySem.W.WalkO q loose XP YP l.row.toRowW d [] (fun f vs=>PySem.call f vs) :=
 L2.walk_of (n:=63) (k:=12) (x:="_law_script") (CX:=fun _=>CX0) (sp:=fun w=>sp_law (K w.params)) hn (by decide) hdf ⟨rfl,by decide,by decide⟩ hY F (fun _ _ a ns hl _ hS=>⟨a,ns,rfl,hS,hl,fun _=>rfl⟩) fun _ _ _ _ _ z=>z
end GH
def PySem.W.Fast.tw7471109821585108405 : Unit:=()
def PySem.W.Fast.tw3115195849952937437 : Unit:=()
def PySem.W.Fast.tw5662311156691373509 : Unit:=()
def PySem.W.Fast.tw2998740804524223824 : Unit:=()
def PySem.W.Fast.tw18303897195455271630 : Unit:=()
def PySem.W.Fast.tw13895839492238798893 : Unit:=()
def PySem.W.Fast.tw13224673804119644989 : Unit:=()
def PySem.W.Fast.tw4653512059427964807 : Unit:=()
def PySem.W.Fast.tw7479882554946364303 : Unit:=()
def PySem.W.Fast.tw13942901775521307036 : Unit:=()
def PySem.W.Fast.tw332587223111804754 : Unit:=()
def PySem.W.Fast.tw16316740845506313645 : Unit:=()
def PySem.W.Fast.tw8709184701857599300 : Unit:=()
def PySem.W.Fast.tw3085220184091567521 : Unit:=()
def PySem.W.Fast.tw5544348419754533478 : Unit:=()
def PySem.W.Fast.tw6999322542617454665 : Unit:=()
def PySem.W.Fast.tw2547648269447902615 : Unit:=()
def PySem.W.Fast.tw6135569514486613796 : Unit:=()
def PySem.W.Fast.tw9819134893129513220 : Unit:=()
def PySem.W.Fast.tw4603906230240917869 : Unit:=()
def PySem.W.Fast.tw2190230091683473087 : Unit:=()
def PySem.W.Fast.tw3609901478734934372 : Unit:=()
def PySem.W.Fast.tw13155523865691511002 : Unit:=()
def PySem.W.Fast.tw7625109198652265169 : Unit:=()
def PySem.W.Fast.tw14705482287174212135 : Unit:=()
def PySem.W.Fast.tw7141651206907231353 : Unit:=()
def PySem.W.Fast.tw10214711183681062366 : Unit:=()
def PySem.W.Fast.tw12163924262795189331 : Unit:=()
def PySem.W.Fast.tw16238082806277316753 : Unit:=()
def PySem.W.Fast.tw11356979159265644410 : Unit:=()
def PySem.W.Fast.tw9928498460440017116 : Unit:=()
def PySem.W.Fast.tw12713520660320498071 : Unit:=()
def PySem.W.Fast.tw5304217617902806613 : Unit:=()
def PySem.W.Fast.tw2714119874342587384 : Unit:=()
def PySem.W.Fast.tw8087187491364452401 : Unit:=()
open PySem PySem.W PyProof.Rows
set_option maxRecDepth 100000 in
set_option maxHeartbeats 0 in
theorem PySem.Challenge.cw_greyhall_k08_whole_hall_by_hand_holds : PySem.Challenge.rw_greyhall_k08_whole_hall_by_hand.Holds := by
 w_on; o_law; k_head; (case hw=>w_witness2)
 k_fill
 refine GH.walk (l:=PySem.Challenge.rw_greyhall_k08_whole_hall_by_hand) rfl rfl (fun w h Y=>PySem.W.kIn_of Y) ?F
 case F =>
  intro w mg fa h KX G hmg
  refine' GH.all_mk KX G hmg ?AT ?AM ?AS ?AH ?Ahe ?Ant ?Anf ?Anr ?Ann ?pgT ?hdT ?poT ?saT ?mkT ?kcT ?pgM ?hdM ?poM ?saM ?mkM ?kcM ?pgS ?hdS ?poS ?saS ?mkS ?kcS ?pgH ?hdH ?poH ?saH ?mkH ?kcH ?FnT_place ?FnT_fields ?FnT_colour ?FnM_size ?FnM_hands ?FnM_things ?FnS_memory ?FnS_stage ?FnS_finger_place ?FnH_memory ?FnH_sweeper ?Fxnt ?Fxnf ?Fxnr ?Fxnn ?Fent_nt ?Fent_nf ?Fent_nr ?Fent_nn ?Fenf_nt ?Fenf_nf ?Fenf_nr ?Fenf_nn ?Fenr_nt ?Fenr_nf ?Fenr_nr ?Fenr_nn ?Fenn_nt ?Fenn_nf ?Fenn_nr ?Fenn_nn ?VWHITE ?VGREY ?VBLACK ?VIDLE ?VMARK ?VSWEEP ?VHEAD_WORDS ?Zisinstance ?Zlen ?Ztuple ?Zint ?Zbool ?Zsorted ?Zrange ?Zmin ?Fkint ?FkTT ?Ftha ?Fthn ?Fthk ?Fthm ?Fcmp ?Fk_int_int ?Fk_int_bool ?Fk_int_tuple ?Fk_bool_int ?Fk_bool_bool ?Fk_bool_tuple ?Fk_str_int ?Fk_str_bool ?Fk_str_tuple ?Fk_NoneType_int ?Fk_NoneType_bool ?Fk_NoneType_tuple ?Fk_tuple_int ?Fk_tuple_bool ?Fk_tuple_tuple ?Fk_list_int ?Fk_list_bool ?Fk_list_tuple ?a_0 ?i_0 ?l_0 ?q_0 ?p_0 ?a_1 ?i_1 ?l_1 ?q_1 ?p_1 ?a_2 ?i_2 ?l_2 ?q_2 ?p_2 ?a_3 ?i_3 ?l_3 ?q_3 ?p_3 ?a_4 ?i_4 ?l_4 ?q_4 ?p_4 ?a_5 ?i_5 ?l_5 ?q_5 ?p_5 ?a_6 ?i_6 ?l_6 ?q_6 ?p_6 ?a_7 ?i_7 ?l_7 ?q_7 ?p_7 ?a_8 ?i_8 ?l_8 ?q_8 ?p_8 ?a_9 ?i_9 ?l_9 ?q_9 ?p_9 ?a_10 ?i_10 ?l_10 ?q_10 ?p_10 ?a_11 ?i_11 ?l_11 ?q_11 ?p_11 ?a_12 ?i_12 ?l_12 ?q_12 ?p_12 ?a_13 ?i_13 ?l_13 ?q_13 ?p_13 ?a_14 ?i_14 ?l_14 ?q_14 ?p_14 ?a_15 ?i_15 ?l_15 ?q_15 ?p_15 ?a_16 ?i_16 ?l_16 ?q_16 ?p_16 ?a_17 ?i_17 ?l_17 ?q_17 ?p_17 ?a_18 ?i_18 ?l_18 ?q_18 ?p_18 ?a_19 ?i_19 ?l_19 ?q_19 ?p_19 ?a_20 ?l_20 ?q_20 ?p_20 ?a_21 ?i_21 ?l_21 ?q_21 ?p_21 ?a_22 ?i_22 ?l_22 ?q_22 ?p_22 ?a_23 ?i_23 ?l_23 ?q_23 ?p_23 ?a_24 ?i_24 ?l_24 ?q_24 ?p_24 ?a_25 ?i_25 ?l_25 ?q_25 ?p_25 ?a_26 ?i_26 ?l_26 ?q_26 ?p_26 ?a_27 ?i_27 ?l_27 ?q_27 ?p_27 ?a_28 ?i_28 ?l_28 ?q_28 ?p_28 ?a_29 ?i_29 ?l_29 ?q_29 ?p_29 ?a_30 ?i_30 ?l_30 ?q_30 ?p_30 ?a_31 ?i_31 ?l_31 ?q_31 ?p_31 ?a_32 ?i_32 ?l_32 ?q_32 ?p_32 ?a_33 ?i_33 ?l_33 ?q_33 ?p_33 ?a_34 ?i_34 ?l_34 ?q_34 ?p_34 ?a_35 ?i_35 ?l_35 ?q_35 ?p_35 ?a_36 ?i_36 ?l_36 ?q_36 ?p_36 ?a_37 ?i_37 ?l_37 ?q_37 ?p_37 ?a_38 ?i_38 ?l_38 ?q_38 ?p_38 ?a_39 ?i_39 ?l_39 ?q_39 ?p_39 ?a_40 ?i_40 ?l_40 ?q_40 ?p_40 ?a_41 ?i_41 ?l_41 ?q_41 ?p_41 ?a_42 ?i_42 ?l_42 ?q_42 ?p_42 ?a_43 ?i_43 ?l_43 ?q_43 ?p_43 ?a_44 ?i_44 ?l_44 ?q_44 ?p_44 ?a_45 ?i_45 ?l_45 ?q_45 ?p_45 ?a_46 ?i_46 ?l_46 ?q_46 ?p_46 ?a_47 ?i_47 ?l_47 ?q_47 ?p_47 ?a_48 ?i_48 ?l_48 ?q_48 ?p_48 ?a_49 ?i_49 ?l_49 ?q_49 ?p_49 ?a_50 ?i_50 ?l_50 ?q_50 ?p_50 ?a_51 ?i_51 ?l_51 ?q_51 ?p_51 ?a_52 ?i_52 ?l_52 ?q_52 ?p_52 ?a_53 ?i_53 ?l_53 ?q_53 ?p_53 ?a_54 ?i_54 ?l_54 ?q_54 ?p_54 ?a_55 ?l_55 ?q_55 ?p_55 ?a_56 ?l_56 ?q_56 ?p_56 ?a_57 ?l_57 ?q_57 ?p_57 ?a_58 ?l_58 ?q_58 ?p_58 ?a_59 ?l_59 ?q_59 ?p_59 ?a_60 ?l_60 ?q_60 ?p_60 ?a_61 ?l_61 ?q_61 ?p_61 ?a_62 ?l_62 ?q_62 ?p_62 ?a_63 ?l_63 ?q_63 ?p_63 ?a_64 ?l_64 ?q_64 ?p_64 ?a_65 ?l_65 ?q_65 ?p_65 ?a_66 ?l_66 ?q_66 ?p_66 ?a_67 ?l_67 ?q_67 ?p_67 ?a_68 ?l_68 ?q_68 ?p_68 ?a_69 ?l_69 ?q_69 ?p_69 ?a_70 ?l_70 ?q_70 ?p_70 ?a_71 ?l_71 ?q_71 ?p_71 ?a_72 ?l_72 ?q_72 ?p_72 ?a_73 ?l_73 ?q_73 ?p_73 ?a_74 ?l_74 ?q_74 ?p_74 ?a_75 ?l_75 ?q_75 ?p_75 ?a_76 ?l_76 ?q_76 ?p_76 ?a_77 ?l_77 ?q_77 ?p_77 ?a_78 ?l_78 ?q_78 ?p_78 ?a_79 ?l_79 ?q_79 ?p_79 ?NTM ?NTS ?NMS ?NHT ?NHM ?NHS
  (case AT=>k_is)
  (case AM=>k_is)
  (case AS=>k_is)
  (case AH=>k_is)
  (case Ahe=>k_is)
  (case Ant=>k_is)
  (case Anf=>k_is)
  (case Anr=>k_is)
  (case Ann=>k_is)
  (case pgT=>k_is)
  (case hdT=>k_is)
  (case poT=>k_is)
  (case saT=>k_is)
  (case mkT=>k_is)
  (case kcT=>k_is)
  (case pgM=>k_is)
  (case hdM=>k_is)
  (case poM=>k_is)
  (case saM=>k_is)
  (case mkM=>k_is)
  (case kcM=>k_is)
  (case pgS=>k_is)
  (case hdS=>k_is)
  (case poS=>k_is)
  (case saS=>k_is)
  (case mkS=>k_is)
  (case kcS=>k_is)
  (case pgH=>k_is)
  (case hdH=>k_is)
  (case poH=>k_is)
  (case saH=>k_is)
  (case mkH=>k_is)
  (case kcH=>k_is)
  (case FnT_place=>k_is)
  (case FnT_fields=>k_is)
  (case FnT_colour=>k_is)
  (case FnM_size=>k_is)
  (case FnM_hands=>k_is)
  (case FnM_things=>k_is)
  (case FnS_memory=>k_is)
  (case FnS_stage=>k_is)
  (case FnS_finger_place=>k_is)
  (case FnH_memory=>k_is)
  (case FnH_sweeper=>k_is)
  (case Fxnt=>k_exc)
  (case Fxnf=>k_exc)
  (case Fxnr=>k_exc)
  (case Fxnn=>k_exc)
  (case Fent_nt=>kts_exm)
  (case Fent_nf=>kts_exm)
  (case Fent_nr=>kts_exm)
  (case Fent_nn=>kts_exm)
  (case Fenf_nt=>kts_exm)
  (case Fenf_nf=>kts_exm)
  (case Fenf_nr=>kts_exm)
  (case Fenf_nn=>kts_exm)
  (case Fenr_nt=>kts_exm)
  (case Fenr_nf=>kts_exm)
  (case Fenr_nr=>kts_exm)
  (case Fenr_nn=>kts_exm)
  (case Fenn_nt=>kts_exm)
  (case Fenn_nf=>kts_exm)
  (case Fenn_nr=>kts_exm)
  (case Fenn_nn=>kts_exm)
  (case VWHITE=>k_is)
  (case VGREY=>k_is)
  (case VBLACK=>k_is)
  (case VIDLE=>k_is)
  (case VMARK=>k_is)
  (case VSWEEP=>k_is)
  (case VHEAD_WORDS=>k_is)
  (case Zisinstance=>k_is)
  (case Zlen=>k_is)
  (case Ztuple=>k_is)
  (case Zint=>k_is)
  (case Zbool=>k_is)
  (case Zsorted=>k_is)
  (case Zrange=>k_is)
  (case Zmin=>k_is)
  (case Fkint=>kit_is)
  (case FkTT=>kit_is)
  (case Ftha=>k_is)
  (case Fthn=>k_is)
  (case Fthk=>k_is)
  (case Fthm=>k_is)
  (case Fcmp=>kernel_rfl)
  (case Fk_int_int=>kit_is)
  (case Fk_int_bool=>kit_is)
  (case Fk_int_tuple=>kit_is)
  (case Fk_bool_int=>kit_is)
  (case Fk_bool_bool=>kit_is)
  (case Fk_bool_tuple=>kit_is)
  (case Fk_str_int=>kit_is)
  (case Fk_str_bool=>kit_is)
  (case Fk_str_tuple=>kit_is)
  (case Fk_NoneType_int=>kit_is)
  (case Fk_NoneType_bool=>kit_is)
  (case Fk_NoneType_tuple=>kit_is)
  (case Fk_tuple_int=>kit_is)
  (case Fk_tuple_bool=>kit_is)
  (case Fk_tuple_tuple=>kit_is)
  (case Fk_list_int=>kit_is)
  (case Fk_list_bool=>kit_is)
  (case Fk_list_tuple=>kit_is)
  (case a_0=>k_is)
  (case i_0=>k_is)
  (case l_0=>k_is)
  (case q_0=>k_is)
  (case p_0=>k_is)
  (case a_1=>k_is)
  (case i_1=>k_is)
  (case l_1=>k_is)
  (case q_1=>k_is)
  (case p_1=>k_is)
  (case a_2=>k_is)
  (case i_2=>k_is)
  (case l_2=>k_is)
  (case q_2=>k_is)
  (case p_2=>k_is)
  (case a_3=>k_is)
  (case i_3=>k_is)
  (case l_3=>k_is)
  (case q_3=>k_is)
  (case p_3=>k_is)
  (case a_4=>k_is)
  (case i_4=>k_is)
  (case l_4=>k_is)
  (case q_4=>k_is)
  (case p_4=>k_is)
  (case a_5=>k_is)
  (case i_5=>k_is)
  (case l_5=>k_is)
  (case q_5=>k_is)
  (case p_5=>k_is)
  (case a_6=>k_is)
  (case i_6=>k_is)
  (case l_6=>k_is)
  (case q_6=>k_is)
  (case p_6=>k_is)
  (case a_7=>k_is)
  (case i_7=>k_is)
  (case l_7=>k_is)
  (case q_7=>k_is)
  (case p_7=>k_is)
  (case a_8=>k_is)
  (case i_8=>k_is)
  (case l_8=>k_is)
  (case q_8=>k_is)
  (case p_8=>k_is)
  (case a_9=>k_is)
  (case i_9=>k_is)
  (case l_9=>k_is)
  (case q_9=>k_is)
  (case p_9=>k_is)
  (case a_10=>k_is)
  (case i_10=>k_is)
  (case l_10=>k_is)
  (case q_10=>k_is)
  (case p_10=>k_is)
  (case a_11=>k_is)
  (case i_11=>k_is)
  (case l_11=>k_is)
  (case q_11=>k_is)
  (case p_11=>k_is)
  (case a_12=>k_is)
  (case i_12=>k_is)
  (case l_12=>k_is)
  (case q_12=>k_is)
  (case p_12=>k_is)
  (case a_13=>k_is)
  (case i_13=>k_is)
  (case l_13=>k_is)
  (case q_13=>k_is)
  (case p_13=>k_is)
  (case a_14=>k_is)
  (case i_14=>k_is)
  (case l_14=>k_is)
  (case q_14=>k_is)
  (case p_14=>k_is)
  (case a_15=>k_is)
  (case i_15=>k_is)
  (case l_15=>k_is)
  (case q_15=>k_is)
  (case p_15=>k_is)
  (case a_16=>k_is)
  (case i_16=>k_is)
  (case l_16=>k_is)
  (case q_16=>k_is)
  (case p_16=>k_is)
  (case a_17=>k_is)
  (case i_17=>k_is)
  (case l_17=>k_is)
  (case q_17=>k_is)
  (case p_17=>k_is)
  (case a_18=>k_is)
  (case i_18=>k_is)
  (case l_18=>k_is)
  (case q_18=>k_is)
  (case p_18=>k_is)
  (case a_19=>k_is)
  (case i_19=>k_is)
  (case l_19=>k_is)
  (case q_19=>k_is)
  (case p_19=>k_is)
  (case a_20=>k_is)
  (case l_20=>k_is)
  (case q_20=>k_is)
  (case p_20=>k_is)
  (case a_21=>k_is)
  (case i_21=>k_is)
  (case l_21=>k_is)
  (case q_21=>k_is)
  (case p_21=>k_is)
  (case a_22=>k_is)
  (case i_22=>k_is)
  (case l_22=>k_is)
  (case q_22=>k_is)
  (case p_22=>k_is)
  (case a_23=>k_is)
  (case i_23=>k_is)
  (case l_23=>k_is)
  (case q_23=>k_is)
  (case p_23=>k_is)
  (case a_24=>k_is)
  (case i_24=>k_is)
  (case l_24=>k_is)
  (case q_24=>k_is)
  (case p_24=>k_is)
  (case a_25=>k_is)
  (case i_25=>k_is)
  (case l_25=>k_is)
  (case q_25=>k_is)
  (case p_25=>k_is)
  (case a_26=>k_is)
  (case i_26=>k_is)
  (case l_26=>k_is)
  (case q_26=>k_is)
  (case p_26=>k_is)
  (case a_27=>k_is)
  (case i_27=>k_is)
  (case l_27=>k_is)
  (case q_27=>k_is)
  (case p_27=>k_is)
  (case a_28=>k_is)
  (case i_28=>k_is)
  (case l_28=>k_is)
  (case q_28=>k_is)
  (case p_28=>k_is)
  (case a_29=>k_is)
  (case i_29=>k_is)
  (case l_29=>k_is)
  (case q_29=>k_is)
  (case p_29=>k_is)
  (case a_30=>k_is)
  (case i_30=>k_is)
  (case l_30=>k_is)
  (case q_30=>k_is)
  (case p_30=>k_is)
  (case a_31=>k_is)
  (case i_31=>k_is)
  (case l_31=>k_is)
  (case q_31=>k_is)
  (case p_31=>k_is)
  (case a_32=>k_is)
  (case i_32=>k_is)
  (case l_32=>k_is)
  (case q_32=>k_is)
  (case p_32=>k_is)
  (case a_33=>k_is)
  (case i_33=>k_is)
  (case l_33=>k_is)
  (case q_33=>k_is)
  (case p_33=>k_is)
  (case a_34=>k_is)
  (case i_34=>k_is)
  (case l_34=>k_is)
  (case q_34=>k_is)
  (case p_34=>k_is)
  (case a_35=>k_is)
  (case i_35=>k_is)
  (case l_35=>k_is)
  (case q_35=>k_is)
  (case p_35=>k_is)
  (case a_36=>k_is)
  (case i_36=>k_is)
  (case l_36=>k_is)
  (case q_36=>k_is)
  (case p_36=>k_is)
  (case a_37=>k_is)
  (case i_37=>k_is)
  (case l_37=>k_is)
  (case q_37=>k_is)
  (case p_37=>k_is)
  (case a_38=>k_is)
  (case i_38=>k_is)
  (case l_38=>k_is)
  (case q_38=>k_is)
  (case p_38=>k_is)
  (case a_39=>k_is)
  (case i_39=>k_is)
  (case l_39=>k_is)
  (case q_39=>k_is)
  (case p_39=>k_is)
  (case a_40=>k_is)
  (case i_40=>k_is)
  (case l_40=>k_is)
  (case q_40=>k_is)
  (case p_40=>k_is)
  (case a_41=>k_is)
  (case i_41=>k_is)
  (case l_41=>k_is)
  (case q_41=>k_is)
  (case p_41=>k_is)
  (case a_42=>k_is)
  (case i_42=>k_is)
  (case l_42=>k_is)
  (case q_42=>k_is)
  (case p_42=>k_is)
  (case a_43=>k_is)
  (case i_43=>k_is)
  (case l_43=>k_is)
  (case q_43=>k_is)
  (case p_43=>k_is)
  (case a_44=>k_is)
  (case i_44=>k_is)
  (case l_44=>k_is)
  (case q_44=>k_is)
  (case p_44=>k_is)
  (case a_45=>k_is)
  (case i_45=>k_is)
  (case l_45=>k_is)
  (case q_45=>k_is)
  (case p_45=>k_is)
  (case a_46=>k_is)
  (case i_46=>k_is)
  (case l_46=>k_is)
  (case q_46=>k_is)
  (case p_46=>k_is)
  (case a_47=>k_is)
  (case i_47=>k_is)
  (case l_47=>k_is)
  (case q_47=>k_is)
  (case p_47=>k_is)
  (case a_48=>k_is)
  (case i_48=>k_is)
  (case l_48=>k_is)
  (case q_48=>k_is)
  (case p_48=>k_is)
  (case a_49=>k_is)
  (case i_49=>k_is)
  (case l_49=>k_is)
  (case q_49=>k_is)
  (case p_49=>k_is)
  (case a_50=>k_is)
  (case i_50=>k_is)
  (case l_50=>k_is)
  (case q_50=>k_is)
  (case p_50=>k_is)
  (case a_51=>k_is)
  (case i_51=>k_is)
  (case l_51=>k_is)
  (case q_51=>k_is)
  (case p_51=>k_is)
  (case a_52=>k_is)
  (case i_52=>k_is)
  (case l_52=>k_is)
  (case q_52=>k_is)
  (case p_52=>k_is)
  (case a_53=>k_is)
  (case i_53=>k_is)
  (case l_53=>k_is)
  (case q_53=>k_is)
  (case p_53=>k_is)
  (case a_54=>k_is)
  (case i_54=>k_is)
  (case l_54=>k_is)
  (case q_54=>k_is)
  (case p_54=>k_is)
  (case a_55=>k_is)
  (case l_55=>k_is)
  (case q_55=>k_is)
  (case p_55=>k_is)
  (case a_56=>k_is)
  (case l_56=>k_is)
  (case q_56=>k_is)
  (case p_56=>k_is)
  (case a_57=>k_is)
  (case l_57=>k_is)
  (case q_57=>k_is)
  (case p_57=>k_is)
  (case a_58=>k_is)
  (case l_58=>k_is)
  (case q_58=>k_is)
  (case p_58=>k_is)
  (case a_59=>k_is)
  (case l_59=>k_is)
  (case q_59=>k_is)
  (case p_59=>k_is)
  (case a_60=>k_is)
  (case l_60=>k_is)
  (case q_60=>k_is)
  (case p_60=>k_is)
  (case a_61=>k_is)
  (case l_61=>k_is)
  (case q_61=>k_is)
  (case p_61=>k_is)
  (case a_62=>k_is)
  (case l_62=>k_is)
  (case q_62=>k_is)
  (case p_62=>k_is)
  (case a_63=>k_is)
  (case l_63=>k_is)
  (case q_63=>k_is)
  (case p_63=>k_is)
  (case a_64=>k_is)
  (case l_64=>k_is)
  (case q_64=>k_is)
  (case p_64=>k_is)
  (case a_65=>k_is)
  (case l_65=>k_is)
  (case q_65=>k_is)
  (case p_65=>k_is)
  (case a_66=>k_is)
  (case l_66=>k_is)
  (case q_66=>k_is)
  (case p_66=>k_is)
  (case a_67=>k_is)
  (case l_67=>k_is)
  (case q_67=>k_is)
  (case p_67=>k_is)
  (case a_68=>k_is)
  (case l_68=>k_is)
  (case q_68=>k_is)
  (case p_68=>k_is)
  (case a_69=>k_is)
  (case l_69=>k_is)
  (case q_69=>k_is)
  (case p_69=>k_is)
  (case a_70=>k_is)
  (case l_70=>k_is)
  (case q_70=>k_is)
  (case p_70=>k_is)
  (case a_71=>k_is)
  (case l_71=>k_is)
  (case q_71=>k_is)
  (case p_71=>k_is)
  (case a_72=>k_is)
  (case l_72=>k_is)
  (case q_72=>k_is)
  (case p_72=>k_is)
  (case a_73=>k_is)
  (case l_73=>k_is)
  (case q_73=>k_is)
  (case p_73=>k_is)
  (case a_74=>k_is)
  (case l_74=>k_is)
  (case q_74=>k_is)
  (case p_74=>k_is)
  (case a_75=>k_is)
  (case l_75=>k_is)
  (case q_75=>k_is)
  (case p_75=>k_is)
  (case a_76=>k_is)
  (case l_76=>k_is)
  (case q_76=>k_is)
  (case p_76=>k_is)
  (case a_77=>k_is)
  (case l_77=>k_is)
  (case q_77=>k_is)
  (case p_77=>k_is)
  (case a_78=>k_is)
  (case l_78=>k_is)
  (case q_78=>k_is)
  (case p_78=>k_is)
  (case a_79=>k_is)
  (case l_79=>k_is)
  (case q_79=>k_is)
  (case p_79=>k_is)
  (case NTM=>decide)
  (case NTS=>decide)
  (case NMS=>decide)
  (case NHT=>decide)
  (case NHM=>decide)
  (case NHS=>decide)
