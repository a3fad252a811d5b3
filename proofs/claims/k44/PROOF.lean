import PyProof.Rows.All
import Wide.All
import OpenK.AllK
import Wide.FinOn
import Lean
import PyProof.EqAt
import PyProof.EqKinds
import PyProof.TupleCall
import PyProof.CompFree
import PyProof.NeKinds
import PyProof.Rows.SumAny
import KE.KNest
import KE.KLam
import KE.KNestM
import KE.LcSums
import PyProof.EnumFor
import PyProof.EnumMake
import PyProof.EnumStmt
import PyProof.CompUse
import PyProof.RulesTry
import PyProof.StrCalls2
import PyProof.StrCalls5
import PyProof.StrLawsTight
import PyProof.Rows.StrNews2
import PyProof.Rows.StrItems
import KE.KRevIter
import PyProof.PureStr
import PyProof.SliceStr2
import PyProof.StrLawsIdx
import PyProof.WalkInts
import PyProof.SeqI3
import PyProof.IsRules
import PySem.Challenge.RW_anymeaning_k44_what_is_due
set_option Elab.async false
set_option linter.all false
set_option maxRecDepth 100000
set_option maxHeartbeats 4000000
abbrev Fg := PySem.W.Frag
section
namespace L2
open PySem PySem.Spec PyProof.Rows
abbrev Key := Sum Int Str
def keyIs : Key -> Value -> Bool
 | .inl k, v => Value.isInt k v
 | .inr x, v => Value.isStrOf x v
def keyH (w : World) : Key -> Int
 | .inl k => hashInt k
 | .inr x => hashStr w x
theorem keyIs_shape : ∀ {k : Key} {v : Value}, keyIs k v = true -> (∃ i t, k = Sum.inl i /\ v = Value.int i t) \/ (∃ x t, k = Sum.inr x /\ v = Value.str x t)
 | .inl i, v, h => by
  obtain ⟨t, e⟩ := Value.isInt_shape (k := i) (v := v) h
  exact .inl ⟨i, t, rfl, e⟩
 | .inr x, v, h => by
  obtain ⟨t, e⟩ := Value.isStrOf_shape (x := x) (v := v) h
  exact .inr ⟨x, t, rfl, e⟩
theorem keyIs_int (i : Int) (t : Tok) : keyIs (.inl i) (.int i t) = true := by simp [keyIs, Value.isInt]
theorem keyIs_str (x : Str) (t : Tok) : keyIs (.inr x) (.str x t) = true := by simp [keyIs, Value.isStrOf]
theorem key_ll (a b : Int) : decide ((Sum.inl a : Key) = Sum.inl b) = (a == b) := by
 by_cases e : a = b
 ·subst e; simp
 ·have h : ¬ (Sum.inl a : Key) = Sum.inl b := fun q => e (Sum.inl.inj q)
  rw [decide_eq_false h]
  exact (beq_eq_false_iff_ne.mpr e).symm
theorem key_rr (a b : Str) : decide ((Sum.inr a : Key) = Sum.inr b) = decide (a = b) := by
 by_cases e : a = b
 ·subst e; simp
 ·have h : ¬ (Sum.inr a : Key) = Sum.inr b := fun q => e (Sum.inr.inj q)
  rw [decide_eq_false h, decide_eq_false e]
theorem key_lr (a : Int) (b : Str) : decide ((Sum.inl a : Key) = Sum.inr b) = false := decide_eq_false (fun q => nomatch q)
theorem key_rl (a : Str) (b : Int) : decide ((Sum.inr a : Key) = Sum.inl b) = false := decide_eq_false (fun q => nomatch q)
def mixKind (prog : Program) (w : World) : PySem.KeyKind prog w Key where
 is := keyIs
 hash := keyH w
 inj := fun v a b ha hb => by
  rcases keyIs_shape ha with ⟨i, t, rfl, rfl⟩ | ⟨x, t, rfl, rfl⟩
  ·rcases keyIs_shape hb with ⟨j, u, rfl, e⟩ | ⟨y, u, rfl, e⟩
   ·injection e with e1 _; rw [e1]
   ·exact nomatch e
  ·rcases keyIs_shape hb with ⟨j, u, rfl, e⟩ | ⟨y, u, rfl, e⟩
   ·exact nomatch e
   ·injection e with e1 _; rw [e1]
 byValue := fun k v h => by
  rcases keyIs_shape h with ⟨i, t, rfl, rfl⟩ | ⟨x, t, rfl, rfl⟩ <;> rfl
 pyHash := fun hv h => by
  rcases keyIs_shape hv with ⟨i, t, rfl, rfl⟩ | ⟨x, t, rfl, rfl⟩
  ·exact wpAny_pyHash_int h
  ·exact wpAny_pyHash_str h
 eqBool := fun hu hv h => by
  rcases keyIs_shape hu with ⟨i, t, rfl, rfl⟩ | ⟨x, t, rfl, rfl⟩
  ·rcases keyIs_shape hv with ⟨j, u, rfl, rfl⟩ | ⟨y, u, rfl, rfl⟩
   ·rw [key_ll] at h; exact wpAny_eqBool_int h
   ·rw [key_lr] at h; exact SeqAt.EqAt.int_str i t y u _ _ _ _ h
  ·rcases keyIs_shape hv with ⟨j, u, rfl, rfl⟩ | ⟨y, u, rfl, rfl⟩
   ·rw [key_rl] at h; exact SeqAt.EqAt.str_int x t j u _ _ _ _ h
   ·rw [key_rr] at h; exact wpAny_eqBool_str h
 «strs» := fun k x t v h => by
  rcases keyIs_shape h with ⟨i, u, rfl, e⟩ | ⟨y, u, rfl, e⟩
  ·exact nomatch e
  ·injection e with e1 _
   subst e1
   cases v <;> rfl
theorem mixKind_int (prog : Program) (w : World) (i : Int) (t : Tok) : (mixKind prog w).is (.inl i) (.int i t) = true := keyIs_int i t
theorem mixKind_str (prog : Program) (w : World) (x : Str) (t : Tok) : (mixKind prog w).is (.inr x) (.str x t) = true := keyIs_str x t
end L2
namespace L2
open PySem PySem.Spec PyProof.Rows
inductive V where
 | non | bl (b : Bool) | int (i : Int) | str (x : Str) | byt (b : Array UInt8) | flt (b : UInt64) | ref (a : Addr) | ty (n : String)
 deriving DecidableEq
def RelV : V -> Value -> Prop
 | .non, u => u = Value.none
 | .bl b, u => u = Value.bool b
 | .int i, u => ∃ t, u = Value.int i t
 | .str x, u => ∃ t, u = Value.str x t
 | .byt b, u => ∃ t, u = Value.bytes b t
 | .flt b, u => ∃ t, u = Value.float b t
 | .ref a, u => u = Value.ref a
 | .ty n, u => u = Value.type n
abbrev Vals : List V -> List Value -> Prop := Paired RelV
theorem Vals.length {xs : List V} {us : List Value} (r : Vals xs us) : xs.length = us.length := Paired.length r
theorem Vals.get : ∀ {xs : List V} {us : List Value} {i : Nat} {x : V}, Vals xs us -> xs[i]? = some x -> ∃ u, us[i]? = some u /\ RelV x u
 | _, _, _, _, .nil, e => by simp at e
 | _, _, 0, _, .cons r _, e => by simp at e; subst e; exact ⟨_, rfl, r⟩
 | _, _, i + 1, x, .cons _ t, e => by
  obtain ⟨u, h1, h2⟩ := Vals.get (i := i) (x := x) t (by simpa using e)
  exact ⟨u, by simpa using h1, h2⟩
theorem Vals.set {x : V} {u : Value} (r : RelV x u) : ∀ {xs : List V} {us : List Value} (i : Nat), Vals xs us -> Vals (xs.set i x) (us.set i u)
 | _, _, _, .nil => .nil
 | _, _, 0, .cons _ t => .cons r t
 | _, _, i + 1, .cons q t => .cons q (Vals.set r i t)
theorem Vals.append : ∀ {xs ys : List V} {us ws : List Value}, Vals xs us -> Vals ys ws -> Vals (xs ++ ys) (us ++ ws)
 | _, _, _, _, .nil, s => s
 | _, _, _, _, .cons r t, s => .cons r (Vals.append t s)
theorem Vals.take : ∀ {xs : List V} {us : List Value} (n : Nat), Vals xs us -> Vals (xs.take n) (us.take n)
 | _, _, 0, _ => .nil
 | _, _, _ + 1, .nil => .nil
 | _, _, n + 1, .cons r t => .cons r (Vals.take n t)
theorem Vals.drop : ∀ {xs : List V} {us : List Value} (n : Nat), Vals xs us -> Vals (xs.drop n) (us.drop n)
 | _, _, 0, r => r
 | _, _, _ + 1, .nil => .nil
 | _, _, n + 1, .cons _ t => Vals.drop n t
theorem Vals.none_of : ∀ {xs : List V} {us : List Value} {i : Nat}, Vals xs us -> xs[i]? = none -> us[i]? = none := fun {xs us i} r e => by
 have h1 := r.length
 have h2 : xs.length <= i := List.getElem?_eq_none_iff.mp e
 exact List.getElem?_eq_none_iff.mpr (by omega)
def RelO : Option V -> Option Value -> Prop
 | some v, some u => RelV v u
 | none, none => True
 | _, _ => False
def KV {κ : Type} : List (κ × V) -> List (κ × Value) -> Prop := Paired fun (p : κ × V) (q : κ × Value) => p.1 = q.1 /\ RelV p.2 q.2
def kV : Key -> V
 | .inl i => .int i
 | .inr x => .str x
inductive HO where
  | lst (xs : List V)
  | tup (xs : List V)
  | dK (kvs : List (Key × V)) | dT (kvs : List (List Key × V))
  | set (S : Int -> Bool) (n : Nat)
  | ins (C dx : Addr) (fs : List (Str × V))
  | own (x : Addr)
  | xd (fs : List (Str × V))
  | met (f x : Addr)
  | rng (lo hi : Int)
  | frz (o : Obj) (u : HO)
  | tbl (q : Nat)
  | ext (φ : Heap -> Prop)
abbrev Hp := Addr -> Option HO
def upd (H : Hp) (a : Addr) (o : HO) : Hp := fun b => if b = a then some o else H b
theorem upd_same {H : Hp} {a : Addr} {o : HO} : upd H a o a = some o := by unfold upd; rw [if_pos rfl]
theorem upd_ne {H : Hp} {a b : Addr} {o : HO} (h : b ≠ a) : upd H a o b = H b := by unfold upd; rw [if_neg h]
theorem upd_upd {H : Hp} {a : Addr} {o u : HO} : upd (upd H a o) a u = upd H a u := by
 funext b; unfold upd; split <;> rfl
theorem ne_of {H : Hp} {a b : Addr} {o u : HO} (h : H a = some o) (h' : H b = some u) (d : o ≠ u) : a ≠ b := by
 intro e; subst e; rw [h] at h'; exact d (Option.some.inj h')
theorem ne_of_none {H : Hp} {a b : Addr} {o : HO} (h : H a = some o) (h' : H b = none) : a ≠ b := by
 intro e; subst e; rw [h] at h'; cases h'
def CodeO (o : Obj) : Prop := ∃ (vs : Array Value) (q : Str) (t : Tok), o.data = .fields vs /\ vs[1]? = some (.str q t)
section
variable (P : Program) (w : World)
def ObjOk (H : Hp) (h : Heap) (a : Addr) : HO -> Prop
 | .lst xs => xs.length <= sizeLine /\ ∃ (its : List Value) (n : Nat), Vals xs its /\ h.get? a = some { cls := .type "list", data := .seq its.toArray n }
 | .tup xs => xs.length <= sizeLine /\ ∃ its : List Value, Vals xs its /\ IsTup h a its.toArray
 | .dK kvs => kvs.length <= sizeLine /\ (a == sysModules) = false /\ ∃ vs, KV kvs vs /\ h.DictOf (mixKind P w) a vs
 | .dT kvs => kvs.length <= sizeLine /\ (a == sysModules) = false /\ ∃ xs : List (List Key × Addr × Value),
   Paired (fun (p : List Key × V) (q : List Key × Addr × Value) => p.1 = q.1 /\ H q.2.1 = some (.tup (p.1.map kV)) /\ RelV p.2 q.2.2) kvs xs /\
   ∃ o es ep, h.get? a = some o /\ o.ExactDict /\ o.data = .dict es ep /\ es.toList = xs.map (entryOfKey (tupleKind (mixKind P w))) /\ (xs.map (·.1)).Nodup
 | .set S n => h.SetOf (intKind P w) a S n
 | .ins C dx fs => H dx = some (.own a) /\ fs.length <= 1000 /\ dx ≠ a /\ h.get? a = some (PySem.W.instObj C dx) /\
   ∃ mA, h.Ns1 dx mA /\ (∀ f, RelO (fs.lookup f) (mA f)) /\ PySem.Within mA (fs.map (·.1))
 | .own _ => ∃ o, h.get? a = some o
 | .xd fs => ∃ mA, h.Ns1 a mA /\ ∀ f, RelO (fs.lookup f) (mA f)
 | .rng lo hi => ∃ t u v, h.get? a = some { cls := .type "range", data := .fields #[.int lo t, .int hi u, .int 1 v] }
 | .frz o u => h.get? a = some o /\ ObjOk H h a u
 | .tbl _ => ∃ ps : Array Value, h.get? a = some (PySem.W.tabObj ps) /\ TriplesOk ps.toList /\ ∀ pos cv, codeAmong pos ps.toList = some cv -> ∃ c oc u, cv = .ref c /\ H c = some (.frz oc u) /\ CodeO oc
 | .met f x => h.get? a = some (PySem.W.methodObj (.ref f) (.ref x))
 | .ext φ => φ h /\ (∃ o, h.get? a = some o) /\ ∀ h1 h2 : Heap, φ h1 -> (∀ o, h1.get? a = some o -> h2.get? a = some o) -> φ h2
def HOk (H : Hp) (h : Heap) : Prop := ∀ a o, H a = some o -> ObjOk P w H h a o
end
section
variable {P : Program} {w : World} {H H' : Hp} {h h' : Heap} {a : Addr} {o : HO}
theorem ObjOk.lt (x : ObjOk P w H h a o) : a < h.objs.size := by
 cases o with
 | lst xs => obtain ⟨_, _, _, _, e⟩ := x; exact Heap.lt_size e
 | tup xs => obtain ⟨_, _, _, p⟩ := x; exact p.lt
 | dK kvs => obtain ⟨_, _, _, _, o, _, _, e, _⟩ := x; exact Heap.lt_size e
 | dT kvs => obtain ⟨_, _, _, _, o, _, _, e, _⟩ := x; exact Heap.lt_size e
 | set S n => obtain ⟨o, _, _, _, e, _⟩ := x; exact Heap.lt_size e
 | ins C dx fs => obtain ⟨_, _, _, e, _⟩ := x; exact Heap.lt_size e
 | own y => obtain ⟨_, e⟩ := x; exact Heap.lt_size e
 | xd fs => obtain ⟨_, ⟨_, _, _, e, _⟩, _⟩ := x; exact Heap.lt_size e
 | rng lo hi => obtain ⟨_, _, _, e⟩ := x; exact Heap.lt_size e
 | frz ob u => obtain ⟨e, _⟩ := x; exact Heap.lt_size e
 | tbl q => obtain ⟨_, e, _⟩ := x; exact Heap.lt_size e
 | met f y => exact Heap.lt_size (show h.get? a = some _ from x)
 | ext φ => obtain ⟨_, ⟨_, e⟩, _⟩ := x; exact Heap.lt_size e
theorem Paired.mapP {α β : Type} {F G : α -> β -> Prop} : ∀ {l₁ : List α} {l₂ : List β}, Paired F l₁ l₂ -> (∀ a b, F a b -> G a b) -> Paired G l₁ l₂
 | _, _, .nil, _ => .nil
 | _, _, .cons r t, f => .cons (f _ _ r) (Paired.mapP t f)
theorem ObjOk.stay (x : ObjOk P w H h a o) (k : ∀ b u, (b = a \/ H b = some (.own a)) -> h.get? b = some u -> h'.get? b = some u)
  (ho : ∀ b, H b = some (.own a) -> H' b = some (.own a)) (ht : ∀ b xs, H b = some (.tup xs) -> H' b = some (.tup xs)) (hz : ∀ b o u, H b = some (.frz o u) -> H' b = some (.frz o u)) : ObjOk P w H' h' a o := by
 induction o with
 | lst xs => obtain ⟨z, its, n, r, e⟩ := x; exact ⟨z, its, n, r, k _ _ (.inl rfl) e⟩
 | tup xs => obtain ⟨z, its, r, ob, e, c⟩ := x; exact ⟨z, its, r, ob, k _ _ (.inl rfl) e, c⟩
 | dK kvs => obtain ⟨z, y, vs, r, ob, es, ep, e, c⟩ := x; exact ⟨z, y, vs, r, ob, es, ep, k _ _ (.inl rfl) e, c⟩
 | dT kvs =>
  obtain ⟨z, y, xs, r, ob, es, ep, e, c⟩ := x
  exact ⟨z, y, xs, Paired.mapP r fun p q z => ⟨z.1, ht _ _ z.2.1, z.2.2⟩, ob, es, ep, k _ _ (.inl rfl) e, c⟩
 | set S n => obtain ⟨ob, es, ep, t, e, c⟩ := x; exact ⟨ob, es, ep, t, k _ _ (.inl rfl) e, c⟩
 | ins C dx fs =>
  obtain ⟨d, z, ne, e, mA, ⟨od, es, ep, e2, c⟩, r⟩ := x
  exact ⟨ho _ d, z, ne, k _ _ (.inl rfl) e, mA, ⟨od, es, ep, k _ _ (.inr d) e2, c⟩, r⟩
 | own y => obtain ⟨ob, e⟩ := x; exact ⟨ob, k _ _ (.inl rfl) e⟩
 | xd fs => obtain ⟨mA, ⟨od, es, ep, e, c⟩, r⟩ := x; exact ⟨mA, ⟨od, es, ep, k _ _ (.inl rfl) e, c⟩, r⟩
 | rng lo hi => obtain ⟨t, u, v, e⟩ := x; exact ⟨t, u, v, k _ _ (.inl rfl) e⟩
 | frz ob u ih => obtain ⟨e, q⟩ := x; exact ⟨k _ _ (.inl rfl) e, ih q⟩
 | tbl q =>
  obtain ⟨ps, e, t, r⟩ := x
  exact ⟨ps, k a _ (.inl rfl) e, t, fun pos cv z => let ⟨c, oc, u, e1, e2, e3⟩ := r pos cv z; ⟨c, oc, u, e1, hz _ _ _ e2, e3⟩⟩
 | met f y =>
  have e : h.get? a = some (PySem.W.methodObj (.ref f) (.ref y)) := x
  show h'.get? a = some (PySem.W.methodObj (.ref f) (.ref y))
  exact k a _ (.inl rfl) e
 | ext φ => obtain ⟨p, ⟨o, e⟩, st⟩ := x; exact ⟨st _ _ p fun o q => k _ _ (.inl rfl) q, ⟨o, k _ _ (.inl rfl) e⟩, st⟩
theorem HOk.lt (x : HOk P w H h) (e : H a = some o) : a < h.objs.size := (x a o e).lt
theorem HOk.fresh (x : HOk P w H h) (e : h.objs.size <= a) : H a = none := by
 cases q : H a with
 | none => rfl
 | some u => exact absurd (Nat.lt_of_lt_of_le (x.lt q) e) (Nat.lt_irrefl _)
theorem HOk.kept (x : HOk P w H h) (k : ∀ b u, h.get? b = some u -> h'.get? b = some u) : HOk P w H h' := fun a o e =>
 (x a o e).stay (fun b u _ q => k b u q) (fun _ q => q) (fun _ _ q => q) fun _ _ _ q => q
theorem HOk.laid (x : HOk P w H h) (k : ∀ b u, h.get? b = some u -> h'.get? b = some u) (hp : h.objs.size <= a) (new : ObjOk P w (upd H a o) h' a o) : HOk P w (upd H a o) h' := fun b u e => by
 have hn := x.fresh hp
 by_cases hb : b = a
 ·subst hb; rw [upd_same] at e; cases e; exact new
 ·rw [upd_ne hb] at e
  exact (x b u e).stay (fun c v _ q => k c v q) (fun c q => by rw [upd_ne (ne_of_none q hn)]; exact q) (fun c xs q => by rw [upd_ne (ne_of_none q hn)]; exact q) fun c o u q => by rw [upd_ne (ne_of_none q hn)]; exact q
end
def Rd (H : Hp) (a : Addr) (u : HO) : Prop := H a = some u \/ ∃ o, H a = some (.frz o u)
theorem Rd.of {H : Hp} {a : Addr} {u : HO} (h : H a = some u) : Rd H a u := .inl h
theorem Rd.ok {P : Program} {w : World} {H : Hp} {h : Heap} {a : Addr} {u : HO} (r : Rd H a u) (x : HOk P w H h) : ObjOk P w H h a u := by
 rcases r with r | ⟨o, r⟩
 ·exact x a u r
 ·obtain ⟨_, q⟩ := x a _ r
  exact q
def Mut : Option HO -> Prop
 | some (.lst _) => True
 | some (.dK _) => True
 | some (.dT _) => True
 | some (.set _ _) => True
 | some (.ins _ _ _) => True
 | some (.ext _) => True
 | _ => False
section
variable {P : Program} {w : World} {H : Hp} {h h' : Heap} {x e : Addr} {o' : HO}
theorem HOk.write (ok : HOk P w H h) (mu : Mut (H x)) (he : e = x \/ H e = some (.own x)) (k : ∀ b u, b ≠ e -> h.get? b = some u -> h'.get? b = some u) (heo : ∃ u, h'.get? e = some u)
  (new : ObjOk P w (upd H x o') h' x o') : HOk P w (upd H x o') h' := fun b u q => by
 have nown : ∀ c y, H c = some (.own y) -> c ≠ x := fun c y r z => by subst z; rw [r] at mu; exact mu
 have nfrz : ∀ c o u, H c = some (.frz o u) -> c ≠ x := fun c o u r z => by subst z; rw [r] at mu; exact mu
 have ntup : ∀ c xs, H c = some (.tup xs) -> c ≠ x := fun c xs r z => by subst z; rw [r] at mu; exact mu
 by_cases hb : b = x
 ·subst hb; rw [upd_same] at q; cases q; exact new
 ·rw [upd_ne hb] at q
  by_cases hbe : b = e
  ·have q' : H b = some (.own x) := by
    rcases he with z | z
    ·exact absurd (hbe.trans z) hb
    ·rw [hbe]; exact z
   rw [q] at q'; cases q'
   obtain ⟨v, hv⟩ := heo
   exact ⟨v, by rw [hbe]; exact hv⟩
  ·refine (ok b u q).stay (fun c v hc r => k c v ?_ r) (fun c r => by rw [upd_ne (nown c b r)]; exact r) (fun c xs r => by rw [upd_ne (ntup c xs r)]; exact r) fun c o u r => by rw [upd_ne (nfrz c o u r)]; exact r
   rcases hc with rfl | hc
   ·exact hbe
   ·rintro rfl
    rcases he with z | z
    ·exact nown c b hc z
    ·rw [hc] at z; cases z; exact hb rfl
end
structure Un (fs ex : List Addr) (H H' : Hp) (h h' : Heap) : Prop where
 keep : ∀ b o, h.get? b = some o -> H b = none -> b ∉ fs -> b ∉ ex -> h'.get? b = some o
 slot : ∀ b o, h.get? b = some o -> H b = none -> b ∈ fs -> b ∉ ex -> ∃ sl, h'.get? b = some { o with slots := sl }
 free : ∀ b o, h.get? b = some o -> H b = none -> b ∉ ex -> H' b = none
 there : ∀ b o, h.get? b = some o -> b ∉ ex -> ∃ o', h'.get? b = some o'
 tups : ∀ b xs, H b = some (.tup xs) -> H' b = some (.tup xs)
 frzs : ∀ b o u, H b = some (.frz o u) -> H' b = some (.frz o u)
 tbls : ∀ b q, H b = some (.tbl q) -> H' b = some (.tbl q)
section
variable {fs fs' ex ex' : List Addr} {H H1 H2 : Hp} {h h1 h2 h' : Heap} {a x e : Addr} {o : HO}
theorem Un.any (u : Un fs ex H H1 h h1) {b : Addr} {ob : Obj} (q : h.get? b = some ob) (n : H b = none) (hx : b ∉ ex) : ∃ sl, h1.get? b = some { ob with slots := sl } := by
 by_cases hb : b ∈ fs
 ·exact u.slot b ob q n hb hx
 ·exact ⟨ob.slots, u.keep b ob q n hb hx⟩
theorem Un.trans (a : Un fs ex H H1 h h1) (b : Un fs ex H1 H2 h1 h2) : Un fs ex H H2 h h2 where
 keep := fun c ob q n hc hx => b.keep c ob (a.keep c ob q n hc hx) (a.free c ob q n hx) hc hx
 slot := fun c ob q n hc hx => by
  obtain ⟨sl, e1⟩ := a.slot c ob q n hc hx
  obtain ⟨sl', e2⟩ := b.slot c _ e1 (a.free c ob q n hx) hc hx
  exact ⟨sl', e2⟩
 free := fun c ob q n hx => by
  obtain ⟨o', e1⟩ := a.there c ob q hx
  exact b.free c o' e1 (a.free c ob q n hx) hx
 there := fun c ob q hx => by
  obtain ⟨o', e1⟩ := a.there c ob q hx
  exact b.there c o' e1 hx
 tups := fun c xs q => b.tups c xs (a.tups c xs q)
 frzs := fun c ob xs q => b.frzs c ob xs (a.frzs c ob xs q)
 tbls := fun c ps q => b.tbls c ps (a.tbls c ps q)
theorem Un.kept (k : ∀ b u, h.get? b = some u -> h'.get? b = some u) : Un fs ex H H h h' :=
 ⟨fun b ob q _ _ _ => k b ob q, fun b ob q _ _ _ => ⟨ob.slots, k b ob q⟩, fun _ _ _ n _ => n, fun b ob q _ => ⟨ob, k b ob q⟩, fun _ _ q => q, fun _ _ _ q => q, fun _ _ q => q⟩
theorem Un.refl : Un fs ex H H h h := Un.kept fun _ _ q => q
theorem Un.laid (k : ∀ b u, h.get? b = some u -> h'.get? b = some u) (hp : h.objs.size <= a) (hn : H a = none) : Un fs ex H (upd H a o) h h' where
 keep := fun b u q _ _ _ => k b u q
 slot := fun b u q _ _ _ => ⟨u.slots, k b u q⟩
 free := fun b u q n _ => by rw [upd_ne (Nat.ne_of_lt (Nat.lt_of_lt_of_le (Heap.lt_size q) hp))]; exact n
 there := fun b u q _ => ⟨u, k b u q⟩
 tups := fun b xs q => by rw [upd_ne (ne_of_none q hn)]; exact q
 frzs := fun b u xs q => by rw [upd_ne (ne_of_none q hn)]; exact q
 tbls := fun b ps q => by rw [upd_ne (ne_of_none q hn)]; exact q
theorem Un.write (mu : Mut (H x)) (he : e = x \/ H e = some (.own x)) (k : ∀ b u, b ≠ e -> h.get? b = some u -> h'.get? b = some u) (heo : ∃ u, h'.get? e = some u) : Un fs ex H (upd H x o) h h' := by
 have hx : ∀ b, H b = none -> b ≠ x := fun b n z => by subst z; rw [n] at mu; exact mu
 have hb : ∀ b, H b = none -> b ≠ e := fun b n z => by
  subst z
  rcases he with r | r
  ·exact hx b n r
  ·rw [n] at r; cases r
 have hm : ∀ b u, H b = some u -> ¬ Mut (some u) -> b ≠ x := fun b u q nm z => by subst z; rw [q] at mu; exact nm mu
 refine ⟨fun b u q n _ _ => k b u (hb b n) q, fun b u q n _ _ => ⟨u.slots, k b u (hb b n) q⟩, fun b u q n _ => by rw [upd_ne (hx b n)]; exact n, fun b u q _ => ?_,
  fun b xs q => by rw [upd_ne (hm b _ q fun z => z)]; exact q, fun b u xs q => by rw [upd_ne (hm b _ q fun z => z)]; exact q, fun b ps q => by rw [upd_ne (hm b _ q fun z => z)]; exact q⟩
 by_cases hbe : b = e
 ·subst hbe; exact heo
 ·exact ⟨u, k b u hbe q⟩
theorem Un.mono (u : Un fs ex H H1 h h1) (hs : ∀ b ∈ fs, b ∈ fs') (hx : ∀ b ∈ ex, b ∈ ex') : Un fs' ex' H H1 h h1 :=
 ⟨fun b ob q n hb he => u.keep b ob q n (fun z => hb (hs b z)) fun z => he (hx b z), fun _ _ q n _ he => u.any q n fun z => he (hx _ z), fun b ob q n he => u.free b ob q n fun z => he (hx b z), fun b ob q he => u.there b ob q fun z => he (hx b z), u.tups, u.frzs, u.tbls⟩
end
def trk (h : Heap) (H : Hp) : List Addr := (List.range h.objs.size).filter fun a => (H a).isSome
def hidT (h : Heap) (H : Hp) : Heap := PySem.W.hideAll h (trk h H)
theorem hidT_size (h : Heap) (H : Hp) : (hidT h H).objs.size = h.objs.size := PySem.W.hideAll_size _ _
theorem hidT_get {h : Heap} {H : Hp} {b : Addr} {o : Obj} (e : h.get? b = some o) (n : H b = none) : (hidT h H).get? b = some o :=
 PySem.W.hideAll_get _ e fun hm => by
  have q : (H b).isSome = true := (List.mem_filter.mp hm).2
  rw [n] at q; simp at q
theorem of_hidT {h : Heap} {H : Hp} {b : Addr} {o : Obj} (e : (hidT h H).get? b = some o) : h.get? b = some o /\ H b = none := by
 have e' : h.get? b = some o := PySem.W.of_hideAll (trk h H) e
 refine ⟨e', ?_⟩
 cases q : H b with
 | none => rfl
 | some x =>
  have hm : b ∈ trk h H := List.mem_filter.mpr ⟨List.mem_range.mpr (Heap.lt_size e'), by simp [q]⟩
  have z : (hidT h H).get? b = none := PySem.W.hideAll_none (trk h H) hm
  rw [z] at e; cases e
def allNews (g h : Heap) (L : Addr) : List (Addr × Obj) := (List.range h.objs.size).filterMap fun a => if a = L \/ (g.get? a).isSome = true then none else (h.get? a).map fun o => (a, o)
def rest (g h : Heap) (L d : Addr) : List (Addr × Obj) := (allNews g h L).filter fun p => decide (p.1 ≠ d)
end L2
namespace L2
open PySem PySem.Spec PyProof.Rows
structure Bs extends Heap where
 tabs : List Addr
instance : Coe Bs Heap := ⟨Bs.toHeap⟩
structure Mod (K : Fg) (mg : Str -> Option Value) (base : Bs) : Prop where
 kin : K.In base
 glob : base.Ns mainGlobals mg
 blt : ∃ mb, base.Ns builtinsNs mb /\ ∀ x : Str, x ≠ "__name__" -> mb x = bootBuiltins x
 nolimit : base.NoLimit
 bmain : ∃ bm ob, mg "__builtins__" = some (.ref bm) /\ bm ≠ builtinsNs /\ base.get? bm = some ob /\ ob.cls = .type "module" /\ ob.dict = some builtinsNs /\ ob.data = .plain
structure Cx where
 prog : Program
 w : World
 K : PySem.W.Frag
 mg : Str -> Option Value
 base : Bs
 A : Around
 N : List Str
 s₀ : Shared
 H₀ : Hp
 env : Env
 outer : List Env
 stack : List Env
 ex : List Addr
 fn : Str -> Bool
 cw : Str -> Bool
 calm : Bool
 pn : List (Addr × Obj)
 xe : Value -> Shared -> Prop
def frs (l : List Env) : List Addr := l.filterMap (·.frame)
abbrev Cx.fs (X : Cx) : List Addr := frs X.outer
def Vis (sc : Scope) (x : Str) : Prop := sc.names.lookup x = some .local \/ sc.names.lookup x = some .cell \/ sc.names.lookup x = some .free
def Loc (sc : Scope) (x : Str) : Prop := sc.names.lookup x = some .local \/ sc.names.lookup x = some .cell
def Look (env : Env) (h : Heap) (m : Str -> Option Value) (x : Str) (u : Value) : Prop :=
 (env.kindOf x = some .local /\ m x = some u) \/ ((env.kindOf x = some .cell \/ env.kindOf x = some .free) /\ ∃ c, env.cells.lookup x = some c /\ h.IsCell c (some u))
structure Cx.Ok (X : Cx) : Prop where
 mod : Mod X.K X.mg X.base
 kind : X.env.scope.kind = .function
 glob : X.env.globals = mainGlobals
 blt : X.env.builtins = builtinsNs
 above : X.s₀.heap.objs.size <= X.env.locals
 inj : ∀ x y c, X.env.cells.lookup x = some c -> X.env.cells.lookup y = some c -> x = y
 has : ∀ x, (X.env.kindOf x = some .cell \/ X.env.kindOf x = some .free) -> ∃ c, X.env.cells.lookup x = some c
 cab : ∀ x c, X.cw x = true -> X.env.cells.lookup x = some c -> X.s₀.heap.objs.size <= c
 hd : X.calm = true -> X.A.handled = none
 frames : X.A.frames = some X.stack
 stk : X.stack = X.outer \/ (X.stack = X.env :: X.outer /\ X.env.frame = some X.env.locals)
 exf : ∀ b ∈ X.ex, b ≠ X.env.locals /\ ∀ x c, X.env.cells.lookup x = some c -> c ≠ b
 bs : ∀ b o, X.base.get? b = some o -> X.s₀.heap.get? b = some o /\ X.H₀ b = none
 bsz : X.base.objs.size <= X.s₀.heap.objs.size
 noex : ∀ b o, X.base.get? b = some o -> b ∉ X.ex
 exfs : ∀ b ∈ X.ex, b ∉ X.fs
 funs : X.s₀.heap.FunFrames X.base X.outer
 frf : ∀ b ∈ X.fs, X.H₀ b = none
 tab : ∀ P ∈ X.base.tabs, X.H₀ P = some (.tbl 0)
 fc : ∀ x, X.fn x = true -> X.cw x = true
structure Inv (X : Cx) (pins : List (Addr × Obj)) (σ : List (Option V)) (H : Hp) (s : Shared) : Prop where
 ok : X.Ok
 os : s.os = X.s₀.os
 bare : AllBare s.gens
 base : Un X.fs X.ex X.H₀ H X.s₀.heap s.heap
 loc : ∃ m, s.heap.Ns X.env.locals m /\ ∀ (i : Nat) (x : Str) (v : V), X.N[i]? = some x -> σ[i]? = some (some v) -> Vis X.env.scope x -> ∃ u, RelV v u /\ Look X.env s.heap m x u
 cell : ∀ x c, X.env.cells.lookup x = some c -> ∃ v, s.heap.IsCell c v
 free : H X.env.locals = none
 freeC : ∀ x c, X.env.cells.lookup x = some c -> H c = none \/ (X.fn x = false /\ ∃ o u, H c = some (.frz o u))
 pin : ∀ p ∈ X.pn ++ pins, s.heap.get? p.1 = some p.2 /\ H p.1 = none /\ p.1 ≠ X.env.locals /\ p.1 ∉ X.fs /\ ∀ v, p.2.data ≠ .cell v
 hok : HOk X.prog X.w H s.heap
 len : σ.length = X.N.length
section
variable {X : Cx} {pins : List (Addr × Obj)} {σ : List (Option V)} {H H' : Hp} {s : Shared} {h' : Heap}
theorem Cx.Ok.nofr (ok : X.Ok) {b : Addr} {o : Obj} (e : X.base.get? b = some o) : b ∉ X.fs := fun hb => by
 have := (ok.funs.mem hb).1
 rw [e] at this; cases this
theorem Inv.bs (I : Inv X pins σ H s) : ∀ b o, X.base.get? b = some o -> s.heap.get? b = some o /\ H b = none := fun b o e =>
 ⟨I.base.keep b o (I.ok.bs b o e).1 (I.ok.bs b o e).2 (I.ok.nofr e) (I.ok.noex b o e), I.base.free b o (I.ok.bs b o e).1 (I.ok.bs b o e).2 (I.ok.noex b o e)⟩
theorem Inv.bk (I : Inv X pins σ H s) : ∀ b o, X.base.get? b = some o -> s.heap.get? b = some o := fun b o e => (I.bs b o e).1
theorem Inv.mod (I : Inv X pins σ H s) : Mod X.K X.mg X.base := I.ok.mod
theorem Inv.kIn (I : Inv X pins σ H s) : X.K.In s.heap := I.ok.mod.kin.keeps I.bk
theorem Inv.nolimit (I : Inv X pins σ H s) : s.heap.NoLimit := I.ok.mod.nolimit.keeps I.bk
theorem Inv.fr (I : Inv X pins σ H s) : ∃ m, Fr X.base X.env.locals s.heap m :=
 let ⟨m, hn, _⟩ := I.loc
 ⟨m, hn, I.bk, Nat.le_trans I.ok.bsz I.ok.above⟩
theorem Inv.lt (I : Inv X pins σ H s) : X.env.locals < s.heap.objs.size := let ⟨_, hn, _⟩ := I.loc; hn.lt
theorem Inv.sz (I : Inv X pins σ H s) : X.s₀.heap.objs.size <= s.heap.objs.size := Nat.le_trans I.ok.above (Nat.le_of_lt I.lt)
theorem Inv.nofs (I : Inv X pins σ H s) {a : Addr} (h : s.heap.objs.size <= a) : a ∉ X.fs := fun hb => by
 obtain ⟨_, o, ho, _⟩ := I.ok.funs.mem hb
 exact absurd (Nat.lt_of_lt_of_le (Heap.lt_size ho) (Nat.le_trans I.sz h)) (Nat.lt_irrefl _)
theorem Inv.cne (I : Inv X pins σ H s) : ∀ x c, X.env.cells.lookup x = some c -> c ≠ X.env.locals := fun x c e z => by
 obtain ⟨v, o, ho, hd⟩ := I.cell x c e
 obtain ⟨m, ⟨o', es, ep, ho', hd', _⟩, _⟩ := I.loc
 rw [z, ho'] at ho; cases ho; rw [hd'] at hd; cases hd
theorem Inv.funs (I : Inv X pins σ H s) : s.heap.FunFrames X.base X.outer := by
 have all : ∀ (l : List Env), (∀ b ∈ frs l, b ∈ X.fs) -> X.s₀.heap.FunFrames X.base l -> s.heap.FunFrames X.base l := by
  intro l
  induction l with
  | nil => intro _ _; trivial
  | cons env r ih =>
   intro hs hl
   obtain ⟨hk, ⟨L, o, hf, hn, ho, hd⟩, hr⟩ := hl
   have hL : L ∈ X.fs := hs L (by unfold frs; rw [List.filterMap_cons, hf]; exact List.mem_cons_self)
   obtain ⟨sl, e⟩ := I.base.slot L o ho (I.ok.frf L hL) hL fun z => I.ok.exfs L z hL
   exact ⟨hk, ⟨L, _, hf, hn, e, hd⟩, ih (fun b hb => hs b (by unfold frs; rw [List.filterMap_cons, hf]; exact List.mem_cons_of_mem _ hb)) hr⟩
 exact all X.outer (fun _ hb => hb) I.ok.funs
theorem Inv.stack (I : Inv X pins σ H s) : s.heap.FunFrames X.base X.stack := by
 rcases I.ok.stk with e | ⟨e, hf⟩
 ·rw [e]; exact I.funs
 ·rw [e]
  obtain ⟨m, hn, _⟩ := I.loc
  refine .cons (by rw [I.ok.kind]; decide) hf hn ?_ I.funs
  exact Heap.get?_none_of_le (Nat.le_trans I.ok.bsz I.ok.above)
theorem Inv.stkSub (I : Inv X pins σ H s) : ∀ b ∈ frs X.stack, b ∈ X.env.locals :: X.fs := fun b hb => by
 rcases I.ok.stk with e | ⟨e, hf⟩
 ·rw [e] at hb; exact List.mem_cons_of_mem _ hb
 ·rw [e] at hb
  unfold frs at hb
  rw [List.filterMap_cons, hf] at hb
  exact hb
theorem Inv.stkFree (I : Inv X pins σ H s) : ∀ b ∈ frs X.stack, H b = none := fun b hb => by
 rcases List.mem_cons.mp (I.stkSub b hb) with e | hb
 ·rw [e]; exact I.free
 ·obtain ⟨_, o, ho, _⟩ := I.ok.funs.mem hb
  exact I.base.free b o ho (I.ok.frf b hb) fun z => I.ok.exfs b z hb
theorem Inv.step {g' : Array GenState} {t' : Nat} {d' : Drawn} {ch : List Addr} (I : Inv X pins σ H s)
  (hch : ∀ b ∈ ch, (b ∈ X.ex \/ X.s₀.heap.objs.size <= b) /\ b ≠ X.env.locals /\ (∀ x c, X.env.cells.lookup x = some c -> c ≠ b) /\ ∀ p ∈ X.pn ++ pins, p.1 ≠ b)
  (keep : ∀ b o, b ≠ X.env.locals -> b ∉ X.fs -> b ∉ ch -> s.heap.get? b = some o -> H b = none -> h'.get? b = some o)
  (slot : ∀ b o, b ≠ X.env.locals -> b ∈ X.fs -> b ∉ ch -> s.heap.get? b = some o -> H b = none -> ∃ sl, h'.get? b = some { o with slots := sl }) (free : ∀ b o, b ∉ ch -> s.heap.get? b = some o -> H b = none -> H' b = none)
  (there : ∀ b o, b ∉ ch -> s.heap.get? b = some o -> ∃ o', h'.get? b = some o')
  (tups : ∀ b xs, H b = some (.tup xs) -> H' b = some (.tup xs)) (frzs : ∀ b o u, H b = some (.frz o u) -> H' b = some (.frz o u)) (tbls : ∀ b q, H b = some (.tbl q) -> H' b = some (.tbl q))
  (ns : ∀ m, s.heap.Ns X.env.locals m -> h'.Ns X.env.locals m) (hok : HOk X.prog X.w H' h') (hg : AllBare g') :
  Inv X pins σ H' { s with heap := h', gens := g', drawn := d', toks := t' } := by
 have neL : ∀ b o, X.s₀.heap.get? b = some o -> b ≠ X.env.locals := fun b o e => Nat.ne_of_lt (Nat.lt_of_lt_of_le (Heap.lt_size e) I.ok.above)
 have neC : ∀ b o, X.s₀.heap.get? b = some o -> b ∉ X.ex -> b ∉ ch := fun b o e hx hb => by
  rcases (hch b hb).1 with z | z
  ·exact hx z
  ·exact absurd (Nat.lt_of_lt_of_le (Heap.lt_size e) z) (Nat.lt_irrefl _)
 have cellK : ∀ x c, X.env.cells.lookup x = some c -> ∀ v, s.heap.IsCell c v -> h'.IsCell c v := fun x c e v ⟨o, ho, hd⟩ => by
  have nch : c ∉ ch := fun z => (hch c z).2.2.1 x c e rfl
  rcases I.freeC x c e with fc | ⟨_, ob, u, fc⟩
  ·by_cases hc : c ∈ X.fs
   ·obtain ⟨sl, q⟩ := slot c o (I.cne x c e) hc nch ho fc
    exact ⟨_, q, hd⟩
   ·exact ⟨o, keep c o (I.cne x c e) hc nch ho fc, hd⟩
  ·obtain ⟨e1, _⟩ := I.hok c _ fc
   obtain ⟨e2, _⟩ := hok c _ (frzs c ob u fc)
   rw [e1] at ho; cases ho
   exact ⟨_, e2, hd⟩
 refine ⟨I.ok, I.os, hg, ⟨fun b o e n hb hx => ?_, fun b o e n hb hx => ?_, fun b o e n hx => ?_, fun b o e hx => ?_, fun b xs e => tups b xs (I.base.tups b xs e), fun b o xs e => frzs b o xs (I.base.frzs b o xs e), fun b ps e => ?_⟩, ?_, fun x c e => ?_, ?_, fun x c e => ?_, fun p hp => ?_, hok, I.len⟩
 ·exact keep b o (neL b o e) hb (neC b o e hx) (I.base.keep b o e n hb hx) (I.base.free b o e n hx)
 ·obtain ⟨sl, e1⟩ := I.base.slot b o e n hb hx
  obtain ⟨sl', e2⟩ := slot b _ (neL b o e) hb (neC b o e hx) e1 (I.base.free b o e n hx)
  exact ⟨sl', e2⟩
 ·obtain ⟨o', e1⟩ := I.base.there b o e hx
  exact free b o' (neC b o e hx) e1 (I.base.free b o e n hx)
 ·obtain ⟨o', e1⟩ := I.base.there b o e hx
  exact there b o' (neC b o e hx) e1
 ·exact tbls b ps (I.base.tbls b ps e)
 ·obtain ⟨m, hn, hl⟩ := I.loc
  refine ⟨m, ns m hn, fun i x v e1 e2 e3 => ?_⟩
  obtain ⟨u, r, l⟩ := hl i x v e1 e2 e3
  refine ⟨u, r, ?_⟩
  rcases l with l | ⟨k, c, e, z⟩
  ·exact .inl l
  ·exact .inr ⟨k, c, e, cellK x c e _ z⟩
 ·obtain ⟨v, z⟩ := I.cell x c e
  exact ⟨v, cellK x c e v z⟩
 ·obtain ⟨m, ⟨o, _, _, ho, _⟩, _⟩ := I.loc
  exact free _ o (fun z => (hch _ z).2.1 rfl) ho I.free
 ·obtain ⟨v, o, ho, hd⟩ := I.cell x c e
  rcases I.freeC x c e with fc | ⟨f, ob, u, fc⟩
  ·exact .inl (free c o (fun z => (hch c z).2.2.1 x c e rfl) ho fc)
  ·exact .inr ⟨f, ob, u, frzs c ob u fc⟩
 ·obtain ⟨e, n, ne, nf, d⟩ := I.pin p hp
  have nch : p.1 ∉ ch := fun z => (hch p.1 z).2.2.2 p hp rfl
  exact ⟨keep p.1 p.2 ne nf nch e n, free p.1 p.2 nch e n, ne, nf, d⟩
theorem Inv.un {t' : Nat} (I : Inv X pins σ H s) (u : Un X.fs [] H H' s.heap h') (hok : HOk X.prog X.w H' h') : Inv X pins σ H' { s with heap := h', toks := t' } := by
 obtain ⟨m, ⟨o, es, ep, ho, r⟩, _⟩ := id I.loc
 obtain ⟨sl, hL⟩ := u.any ho I.free (by simp)
 exact I.step (g' := s.gens) (d' := s.drawn) (ch := []) (fun _ z => nomatch z) (fun b o _ hb _ e n => u.keep b o e n hb (by simp)) (fun b o _ hb _ e n => u.slot b o e n hb (by simp)) (fun b o _ e n => u.free b o e n (by simp)) (fun b o _ e => u.there b o e (by simp)) u.tups u.frzs u.tbls (fun m' hm => by
  obtain ⟨o', es', ep', ho', r'⟩ := hm
  rw [ho] at ho'; cases ho'
  exact ⟨_, es', ep', hL, r'⟩) hok I.bare
theorem Inv.call {g' : Array GenState} {t' : Nat} {d' : Drawn} {ch : List Addr} (I : Inv X pins σ H s) (u : Un (frs X.stack) ch H H' s.heap h') (hok : HOk X.prog X.w H' h') (hg : AllBare g')
  (hch : ∀ b ∈ ch, (b ∈ X.ex \/ X.s₀.heap.objs.size <= b) /\ b ≠ X.env.locals /\ (∀ x c, X.env.cells.lookup x = some c -> c ≠ b) /\ ∀ p ∈ X.pn ++ pins, p.1 ≠ b) :
  Inv X pins σ H' { s with heap := h', gens := g', drawn := d', toks := t' } := by
 obtain ⟨m, ⟨o, es, ep, ho, r⟩, _⟩ := id I.loc
 obtain ⟨sl, hL⟩ := u.any ho I.free fun z => (hch _ z).2.1 rfl
 exact I.step (ch := ch) hch (fun b o hL hb hc e n => u.keep b o e n (fun z => (List.mem_cons.mp (I.stkSub b z)).elim hL hb) hc) (fun b o _ _ hc e n => u.any e n hc) (fun b o hc e n => u.free b o e n hc) (fun b o hc e => u.there b o e hc) u.tups u.frzs u.tbls (fun m' hm => by
  obtain ⟨o', es', ep', ho', r'⟩ := hm
  rw [ho] at ho'; cases ho'
  exact ⟨_, es', ep', hL, r'⟩) hok hg
theorem Inv.turned {t' : Nat} {it : Addr} (I : Inv X pins σ H s) (k : ∀ b o, b ≠ it -> s.heap.get? b = some o -> h'.get? b = some o) (hn : H it = none) (hL : it ≠ X.env.locals)
  (h1 : it ∈ X.ex \/ X.s₀.heap.objs.size <= it) (h2 : ∀ x c, X.env.cells.lookup x = some c -> c ≠ it) (h3 : ∀ p ∈ X.pn ++ pins, p.1 ≠ it) : Inv X pins σ H { s with heap := h', toks := t' } := by
 have nit : ∀ b u, H b = some u -> b ≠ it := fun b u e z => by rw [z, hn] at e; cases e
 refine I.step (g' := s.gens) (d' := s.drawn) (ch := [it]) (fun b hb => ?_) (fun b o _ _ hc e _ => k b o (fun z => hc (by simp [z])) e) (fun b o _ _ hc e _ => ⟨o.slots, k b o (fun z => hc (by simp [z])) e⟩) (fun _ _ _ _ n => n)
  (fun b o hc e => ⟨o, k b o (fun z => hc (by simp [z])) e⟩) (fun _ _ e => e) (fun _ _ _ e => e) (fun _ _ e => e) (fun m hm => ?_) (fun b u e => ?_) I.bare
 ·have e : b = it := by simpa using hb
  subst e
  exact ⟨h1, hL, h2, h3⟩
 ·obtain ⟨o, es, ep, ho, r⟩ := hm
  exact ⟨o, es, ep, k _ o (Ne.symm hL) ho, r⟩
 ·refine (I.hok b u e).stay (fun c v hc q => k c v ?_ q) (fun _ q => q) (fun _ _ q => q) fun _ _ _ q => q
  rcases hc with z | z
  ·rw [z]; exact nit b u e
  ·exact nit c _ z
theorem Inv.tok (I : Inv X pins σ H s) (t : Nat) : Inv X pins σ H { s with toks := t } := I.un (h' := s.heap) (t' := t) Un.refl I.hok
theorem Inv.kept {t' : Nat} (I : Inv X pins σ H s) (k : ∀ b u, s.heap.get? b = some u -> h'.get? b = some u) : Inv X pins σ H { s with heap := h', toks := t' } := I.un (Un.kept k) (I.hok.kept k)
theorem Inv.laid {a : Addr} {o : HO} {t' : Nat} (I : Inv X pins σ H s) (k : ∀ b u, s.heap.get? b = some u -> h'.get? b = some u) (hp : s.heap.objs.size <= a) (new : ObjOk X.prog X.w (upd H a o) h' a o) :
  Inv X pins σ (upd H a o) { s with heap := h', toks := t' } := I.un (Un.laid k hp (I.hok.fresh hp)) (I.hok.laid k hp new)
theorem Inv.write {x e : Addr} {o : HO} {t' : Nat} (I : Inv X pins σ H s) (mu : Mut (H x)) (he : e = x \/ H e = some (.own x)) (k : ∀ b u, b ≠ e -> s.heap.get? b = some u -> h'.get? b = some u) (heo : ∃ u, h'.get? e = some u)
  (new : ObjOk X.prog X.w (upd H x o) h' x o) : Inv X pins σ (upd H x o) { s with heap := h', toks := t' } := I.un (Un.write mu he k heo) (I.hok.write mu he k heo new)
theorem Inv.weak {σ' : List (Option V)} (I : Inv X pins σ H s) (hl : σ'.length = σ.length) (w : ∀ (i : Nat) v, σ'[i]? = some (some v) -> σ[i]? = some (some v)) : Inv X pins σ' H s :=
 ⟨I.ok, I.os, I.bare, I.base, let ⟨m, hn, hl'⟩ := I.loc; ⟨m, hn, fun i x v e1 e2 e3 => hl' i x v e1 (w i v e2) e3⟩, I.cell, I.free, I.freeC, I.pin, I.hok, hl.trans I.len⟩
theorem Inv.pins_of {pins' : List (Addr × Obj)} (I : Inv X pins σ H s) (h : ∀ p ∈ pins', s.heap.get? p.1 = some p.2 /\ H p.1 = none /\ p.1 ≠ X.env.locals /\ p.1 ∉ X.fs /\ ∀ v, p.2.data ≠ .cell v) : Inv X pins' σ H s :=
 ⟨I.ok, I.os, I.bare, I.base, I.loc, I.cell, I.free, I.freeC, fun p hp => (List.mem_append.mp hp).elim (fun z => I.pin p (List.mem_append_left _ z)) (h p), I.hok, I.len⟩
theorem nodup_ix {N : List Str} (hN : N.Nodup) {i j : Nat} {x : Str} (a : N[i]? = some x) (b : N[j]? = some x) : i = j := by
 obtain ⟨h1, e1⟩ := List.getElem?_eq_some_iff.mp a
 obtain ⟨h2, e2⟩ := List.getElem?_eq_some_iff.mp b
 exact (List.getElem_inj hN).mp (e1.trans e2.symm)
theorem store_ok2 {M : Model} {A : Around} {E : Value -> Shared -> Prop} {i : Nat} {x : Str} {v : V} {u : Value} {Q : Unit -> Shared -> Prop} (I : Inv X pins σ H s) (hN : X.N.Nodup) (hi : X.N[i]? = some x) (hx : Loc X.env.scope x) (r : RelV v u)
  (h : ∀ s', Inv X pins (σ.set i (some v)) H s' -> (∃ a, Heap.SameBut a s.heap s'.heap /\ (a = X.env.locals \/ X.env.cells.lookup x = some a)) -> Q () s') (hf : X.fn x = true \/ X.env.scope.names.lookup x = some .local := by first | exact .inl rfl | exact .inr rfl | assumption) : wpAny M A (storeName X.env x u) Q E s := by
 obtain ⟨m, hn, hl⟩ := id I.loc
 have hcls : (X.env.scope.kind == .class || (X.env.scope.kind == .module && X.env.locals != X.env.globals)) = false := by rw [I.ok.kind]; rfl
 have hiσ : i < σ.length := by rw [I.len]; exact (List.getElem?_eq_some_iff.mp hi).1
 have cne := I.cne
 have tracked : ∀ {a : Addr} {h' : Heap}, (∃ o, s.heap.get? a = some o /\ H a = none) -> Heap.SameBut a s.heap h' -> HOk X.prog X.w H h' := fun {a h'} ha hs b ob e => by
  obtain ⟨_, _, hfree⟩ := ha
  refine (I.hok b ob e).stay (fun c w' hc q => (hs.2 c ?_).trans q) (fun _ q => q) (fun _ _ q => q) fun _ _ _ q => q
  rintro rfl
  rcases hc with rfl | hc
  ·rw [hfree] at e; cases e
  ·rw [hfree] at hc; cases hc
 rcases hx with hk | hk
 ·refine wpAny_storeName_local hk hn (fun h' hn' hs => ?_) hcls
  obtain ⟨oL, _, _, hoL, _⟩ := id hn
  refine h _ ⟨I.ok, I.os, I.bare, ⟨fun b o e n hb hx => ?_, fun b o e n hb hx => ?_, I.base.free, fun b o e hx => ?_, I.base.tups, I.base.frzs, I.base.tbls⟩, ⟨_, hn', fun j y v' e1 e2 e3 => ?_⟩, fun y c e => ?_, I.free, I.freeC, fun p hp => ?_, tracked ⟨oL, hoL, I.free⟩ hs, by simpa using I.len⟩ ⟨_, hs, .inl rfl⟩
  ·exact (hs.2 b (Nat.ne_of_lt (Nat.lt_of_lt_of_le (Heap.lt_size e) I.ok.above))).trans (I.base.keep b o e n hb hx)
  ·obtain ⟨sl, e1⟩ := I.base.slot b o e n hb hx
   exact ⟨sl, (hs.2 b (Nat.ne_of_lt (Nat.lt_of_lt_of_le (Heap.lt_size e) I.ok.above))).trans e1⟩
  ·obtain ⟨o', e1⟩ := I.base.there b o e hx
   exact ⟨o', (hs.2 b (Nat.ne_of_lt (Nat.lt_of_lt_of_le (Heap.lt_size e) I.ok.above))).trans e1⟩
  ·by_cases hj : j = i
   ·subst hj
    rw [hi] at e1; cases e1
    rw [List.getElem?_set_self hiσ] at e2
    cases e2
    exact ⟨u, r, .inl ⟨hk, by simp⟩⟩
   ·rw [List.getElem?_set_ne (Ne.symm hj)] at e2
    obtain ⟨u', r', q⟩ := hl j y v' e1 e2 e3
    refine ⟨u', r', ?_⟩
    rcases q with ⟨k, e⟩ | ⟨k, c, e, z⟩
    ·refine .inl ⟨k, ?_⟩
     have : y ≠ x := fun e => hj (nodup_ix hN e1 (e ▸ hi))
     simp [this, e]
    ·exact .inr ⟨k, c, e, z.sameBut hs (cne y c e)⟩
  ·obtain ⟨w', z⟩ := I.cell y c e
   exact ⟨w', z.sameBut hs (cne y c e)⟩
  ·obtain ⟨e, n, ne, nf, d⟩ := I.pin p hp
   exact ⟨(hs.2 p.1 ne).trans e, n, ne, nf, d⟩
 ·have hfn : X.fn x = true := by
   rcases hf with z | z
   ·exact z
   ·rw [z] at hk; cases hk
  obtain ⟨c, hc⟩ := I.ok.has x (.inl hk)
  obtain ⟨w', z⟩ := I.cell x c hc
  refine wpAny_storeName_cell I.ok.kind hk hc z (fun h' hc' hs => ?_)
  obtain ⟨oc, hoc, hocd⟩ := id z
  have hcf : H c = none := by
   rcases I.freeC x c hc with q | ⟨q, _⟩
   ·exact q
   ·rw [hfn] at q; cases q
  refine h { s with heap := h' } ⟨I.ok, I.os, I.bare, ⟨fun b o e n hb hx => ?_, fun b o e n hb hx => ?_, I.base.free, fun b o e hx => ?_, I.base.tups, I.base.frzs, I.base.tbls⟩, ⟨m, hn.sameBut hs (Ne.symm (cne x c hc)), fun j y v' e1 e2 e3 => ?_⟩, fun y c' e => ?_, I.free, I.freeC, fun p hp => ?_, tracked ⟨oc, hoc, hcf⟩ hs, by simpa using I.len⟩ ⟨c, hs, .inr hc⟩
  ·exact (hs.2 b (Nat.ne_of_lt (Nat.lt_of_lt_of_le (Heap.lt_size e) (I.ok.cab x c (I.ok.fc x hfn) hc)))).trans (I.base.keep b o e n hb hx)
  ·obtain ⟨sl, e1⟩ := I.base.slot b o e n hb hx
   exact ⟨sl, (hs.2 b (Nat.ne_of_lt (Nat.lt_of_lt_of_le (Heap.lt_size e) (I.ok.cab x c (I.ok.fc x hfn) hc)))).trans e1⟩
  ·obtain ⟨o', e1⟩ := I.base.there b o e hx
   exact ⟨o', (hs.2 b (Nat.ne_of_lt (Nat.lt_of_lt_of_le (Heap.lt_size e) (I.ok.cab x c (I.ok.fc x hfn) hc)))).trans e1⟩
  ·by_cases hj : j = i
   ·subst hj
    rw [hi] at e1; cases e1
    rw [List.getElem?_set_self hiσ] at e2
    cases e2
    exact ⟨u, r, .inr ⟨.inl hk, c, hc, hc'⟩⟩
   ·rw [List.getElem?_set_ne (Ne.symm hj)] at e2
    obtain ⟨u', r', q⟩ := hl j y v' e1 e2 e3
    refine ⟨u', r', ?_⟩
    rcases q with q | ⟨k, c', e, z'⟩
    ·exact .inl q
    ·refine .inr ⟨k, c', e, z'.sameBut hs ?_⟩
     rintro rfl
     exact hj (nodup_ix hN e1 (I.ok.inj _ _ _ e hc ▸ hi))
  ·by_cases hcc : c' = c
   ·subst hcc; exact ⟨_, hc'⟩
   ·obtain ⟨w2, z2⟩ := I.cell y c' e
    exact ⟨w2, z2.sameBut hs hcc⟩
  ·obtain ⟨e, n, ne, nf, d⟩ := I.pin p hp
   refine ⟨(hs.2 p.1 ?_).trans e, n, ne, nf, d⟩
   intro q
   rw [q, hoc] at e
   have q' : oc = p.2 := Option.some.inj e
   exact d w' (by rw [<- q']; exact hocd)
theorem store_ok {M : Model} {A : Around} {E : Value -> Shared -> Prop} {i : Nat} {x : Str} {v : V} {u : Value} {Q : Unit -> Shared -> Prop} (I : Inv X pins σ H s) (hN : X.N.Nodup) (hi : X.N[i]? = some x) (hx : Loc X.env.scope x) (r : RelV v u)
  (h : ∀ s', Inv X pins (σ.set i (some v)) H s' -> Q () s') (hf : X.fn x = true \/ X.env.scope.names.lookup x = some .local := by first | exact .inl rfl | exact .inr rfl | assumption) : wpAny M A (storeName X.env x u) Q E s :=
 store_ok2 I hN hi hx r (fun s' I' _ => h s' I') hf
end
abbrev XK := Value -> Option Addr -> Hp -> Prop
abbrev St := List (Option V)
abbrev VK := V -> Hp -> Prop
abbrev TE := St -> Hp -> VK -> Prop
abbrev TT := St -> Hp -> (Bool -> Hp -> Prop) -> Prop
abbrev TA := St -> Hp -> (List V -> Hp -> Prop) -> Prop
structure Ends where
 nx : St -> Hp -> Prop
 rt : VK
 bk : St -> Hp -> Prop := fun _ _ => False
 ct : St -> Hp -> Prop := fun _ _ => False
abbrev TS := Ends -> St -> Hp -> Prop
structure Fin (X : Cx) (H : Hp) (s : Shared) : Prop where
 os : s.os = X.s₀.os
 bare : AllBare s.gens
 base : Un X.fs X.ex X.H₀ H X.s₀.heap s.heap
 hok : HOk X.prog X.w H s.heap
theorem Inv.fin {X : Cx} {pins : List (Addr × Obj)} {σ : St} {H : Hp} {s : Shared} (I : Inv X pins σ H s) : Fin X H s := ⟨I.os, I.bare, I.base, I.hok⟩
def EP (X : Cx) (pins : List (Addr × Obj)) (σ : St) (Q : VK) (u : Value) (s' : Shared) : Prop := ∃ v H', Inv X pins σ H' s' /\ RelV v u /\ Q v H'
def TP (X : Cx) (pins : List (Addr × Obj)) (σ : St) (Q : Bool -> Hp -> Prop) (b : Bool) (s' : Shared) : Prop := ∃ H', Inv X pins σ H' s' /\ Q b H'
def AP (X : Cx) (pins : List (Addr × Obj)) (σ : St) (Q : List V -> Hp -> Prop) (us : List Value) (s' : Shared) : Prop := ∃ vs H', Inv X pins σ H' s' /\ Vals vs us /\ Q vs H'
def SP (X : Cx) (pins : List (Addr × Obj)) (D : Ends) (f : Flow) (s' : Shared) : Prop :=
 match f with
 | .next => ∃ σ' H', Inv X pins σ' H' s' /\ D.nx σ' H'
 | .brk => ∃ σ' H', Inv X pins σ' H' s' /\ D.bk σ' H'
 | .cont => ∃ σ' H', Inv X pins σ' H' s' /\ D.ct σ' H'
 | .ret u => ∃ v H', Fin X H' s' /\ RelV v u /\ D.rt v H'
def PE (X : Cx) (e : Expr) (t : TE) : Prop :=
 ∀ (pins : List (Addr × Obj)) (s : Shared) (σ : St) (H : Hp) (Q : VK), Inv X pins σ H s -> t σ H Q -> wpAny (model X.prog X.w) X.A (eval e X.env) (EP X pins σ Q) X.xe s
def PT (X : Cx) (e : Expr) (t : TT) : Prop :=
 ∀ (pins : List (Addr × Obj)) (s : Shared) (σ : St) (H : Hp) (Q : Bool -> Hp -> Prop), Inv X pins σ H s -> t σ H Q -> wpAny (model X.prog X.w) X.A (isTrue e X.env (eval e X.env)) (TP X pins σ Q) X.xe s
def PW (X : Cx) (e : Expr) (t : TT) : Prop :=
 ∀ (whole : Sem Value) (pins : List (Addr × Obj)) (s : Shared) (σ : St) (H : Hp) (Q : Bool -> Hp -> Prop), Inv X pins σ H s -> t σ H Q -> wpAny (model X.prog X.w) X.A (isTrue e X.env whole) (TP X pins σ Q) X.xe s
theorem PW.pt {X : Cx} {e : Expr} {t : TT} (h : PW X e t) : PT X e t := h _
def PA (X : Cx) (es : List Expr) (t : TA) : Prop :=
 ∀ (pos : Pos) (pins : List (Addr × Obj)) (s : Shared) (σ : St) (H : Hp) (Q : List V -> Hp -> Prop), Inv X pins σ H s -> t σ H Q -> wpAny (model X.prog X.w) X.A (spliced (backTo pos (starEach es X.env))) (AP X pins σ Q) X.xe s
def PS (X : Cx) (st : Stmt) (t : TS) : Prop :=
 ∀ (pins : List (Addr × Obj)) (s : Shared) (σ : St) (H : Hp) (D : Ends), Inv X pins σ H s -> t D σ H -> wpAny (model X.prog X.w) X.A (exec st X.env) (SP X pins D) X.xe s
def PSs (X : Cx) (st : List Stmt) (t : TS) : Prop :=
 ∀ (pins : List (Addr × Obj)) (s : Shared) (σ : St) (H : Hp) (D : Ends), Inv X pins σ H s -> t D σ H -> wpAny (model X.prog X.w) X.A (execs st X.env) (SP X pins D) X.xe s
theorem thn {α : Type} {t : Sem α} {Q Q' : α -> Shared -> Prop} {M : Model} {A : Around} {E : Value -> Shared -> Prop} {s : Shared} (h : wpAny M A t Q E s) (hQ : ∀ a s, Q a s -> Q' a s) : wpAny M A t Q' E s := wpAny_mono h hQ fun _ _ x => x
end L2
namespace L2
open PySem PySem.Spec PyProof.Rows
section
variable {X : Cx}
def tVar (i : Nat) : TE := fun σ H Q => ∃ v, σ[i]? = some (some v) /\ Q v H
def tC (v : V) : TE := fun _ H Q => Q v H
theorem pe_var {i : Nat} {x : Str} {pos : Pos} (hN : X.N[i]? = some x) (hv : Vis X.env.scope x) (hd : (x == ("__debug__" : Str)) = false := by decide) (hcd : (x == ("__classdict__" : Str)) = false := by decide) : PE X (.Name x pos) (tVar i) := by
 intro pins s σ H Q I h
 obtain ⟨v, e, h⟩ := h
 obtain ⟨m, hn, hl⟩ := I.loc
 obtain ⟨u, r, l⟩ := hl i x v hN e hv
 have fin : EP X pins σ Q u s := ⟨v, H, I, r, h⟩
 rcases l with ⟨hk, hm⟩ | ⟨hk, c, hc, hcell⟩
 ·exact wpAny_Name (wpAny_loadName_local I.ok.kind hk hn hm fin) hd
 ·rcases hk with hk | hk
  ·exact wpAny_Name (wpAny_loadName_cell I.ok.kind hk hc hcell fin) hd
  ·exact wpAny_Name (wpAny_loadName_free I.ok.kind hk hc hcell fin hcd) hd
theorem pe_int {i j pos} : PE X (.Constant (.int i) j pos) (tC (.int i)) := fun _ _ _ H _ I h => wpAny_Constant_int ⟨.int i, H, I.tok _, ⟨_, rfl⟩, h⟩
theorem pe_bl {b j pos} : PE X (.Constant (.bool b) j pos) (tC (.bl b)) := fun _ _ _ H _ I h => Constant_bool ⟨.bl b, H, I, rfl, h⟩
theorem pe_str {x j pos} : PE X (.Constant (.str x) j pos) (tC (.str x)) := fun _ _ _ H _ I h => Calls.Constant_str ⟨.str x, H, I.tok _, ⟨_, rfl⟩, h⟩
def Gl (X : Cx) (x : Str) : Prop := X.env.kindOf x = some .globalImplicit
theorem ld_glob {E : Value -> Shared -> Prop} {pins : List (Addr × Obj)} {s : Shared} {σ : St} {H : Hp} {x : Str} {u : Value} {pos : Pos} {Q : Value -> Shared -> Prop} (I : Inv X pins σ H s) (hg : Gl X x) (hm : X.mg x = some u) (h : Q u s)
  (hd : (x == ("__debug__" : Str)) = false := by decide) : wpAny (model X.prog X.w) X.A (eval (.Name x pos) X.env) Q E s :=
 Calls.Name_function_global I.ok.kind hg (Calls.loadGlobal_global (by rw [I.ok.glob]; exact I.mod.glob.keeps I.bk) hm h) hd
theorem ld_blt {E : Value -> Shared -> Prop} {pins : List (Addr × Obj)} {s : Shared} {σ : St} {H : Hp} {x : Str} {u : Value} {pos : Pos} {Q : Value -> Shared -> Prop} (I : Inv X pins σ H s) (hg : Gl X x) (hm : X.mg x = none) (hv : bootBuiltins x = some u) (h : Q u s)
  (hn : x ≠ "__name__" := by decide) (hd : (x == ("__debug__" : Str)) = false := by decide) : wpAny (model X.prog X.w) X.A (eval (.Name x pos) X.env) Q E s := by
 obtain ⟨mb, h1, h2⟩ := I.mod.blt
 exact Calls.Name_function_global I.ok.kind hg (Calls.loadGlobal_builtin (by rw [I.ok.glob]; exact I.mod.glob.keeps I.bk) hm (by rw [I.ok.blt]; exact h1.keeps I.bk) ((h2 x hn).trans hv) h) hd
theorem pe_glob {x : Str} {v : V} {u : Value} {pos : Pos} (hg : Gl X x) (hm : X.mg x = some u) (r : RelV v u) (hd : (x == ("__debug__" : Str)) = false := by decide) : PE X (.Name x pos) (tC v) :=
 fun _ _ _ H _ I h => ld_glob I hg hm ⟨v, H, I, r, h⟩ hd
theorem pe_bltn {x : Str} {v : V} {u : Value} {pos : Pos} (hg : Gl X x) (hm : X.mg x = none) (hv : bootBuiltins x = some u) (r : RelV v u) (hn : x ≠ "__name__" := by decide) (hd : (x == ("__debug__" : Str)) = false := by decide) : PE X (.Name x pos) (tC v) :=
 fun _ _ _ H _ I h => ld_blt I hg hm hv ⟨v, H, I, r, h⟩ hn hd
variable {a b : Expr} {ta tb : TE} {pos : Pos}
def tB (t : TE) : TT := fun σ H Q => t σ H fun x H1 => ∃ c, x = .bl c /\ Q c H1
theorem pt_val {e : Expr} {t : TE} (h : PE X e t) (he : ∀ whole, isTrue e X.env whole = (do let v <- whole; standAt e.pos; holding [v] (truthy v)) := by intro _; rfl) : PT X e (tB t) := by
 intro pins s σ H Q I hw
 refine isTrue_plain (thn (h pins s σ H _ I hw) fun v s1 ⟨x, H1, I1, r1, q1⟩ => ?_) (he _)
 obtain ⟨d, rfl, q⟩ := q1
 cases r1
 exact wpAny_truthy_bool ⟨H1, I1, q⟩
variable {tA tB' : TT} {rest : List Expr}
def tAnd (t u : TT) : TT := fun σ H Q => t σ H fun c H1 => if c = true then u σ H1 Q else Q false H1
def tOr (t u : TT) : TT := fun σ H Q => t σ H fun c H1 => if c = true then Q true H1 else u σ H1 Q
def tNot (t : TT) : TT := fun σ H Q => t σ H fun c H1 => Q (!c) H1
theorem pw_and1 (ha : PT X a tA) : PW X (.BoolOp .And [a] pos) tA := by
 intro wh pins s σ H Q I h
 refine isTrue_and (thn (ha pins s σ H Q I h) fun c s1 e => ?_)
 cases c with
 | true => exact isTrue_and_nil e
 | false => exact e
theorem pw_or1 (ha : PT X a tA) : PW X (.BoolOp .Or [a] pos) tA := by
 intro wh pins s σ H Q I h
 refine isTrue_or (thn (ha pins s σ H Q I h) fun c s1 e => ?_)
 cases c with
 | false => exact isTrue_or_nil e
 | true => exact e
theorem pw_and (ha : PT X a tA) (hb : PW X (.BoolOp .And (b :: rest) pos) tB') : PW X (.BoolOp .And (a :: b :: rest) pos) (tAnd tA tB') := by
 intro wh pins s σ H Q I h
 refine isTrue_and (thn (ha pins s σ H _ I h) fun c s1 ⟨H1, I1, q1⟩ => ?_)
 cases c with
 | true => exact hb wh pins s1 σ H1 Q I1 q1
 | false => exact ⟨H1, I1, q1⟩
theorem pw_or (ha : PT X a tA) (hb : PW X (.BoolOp .Or (b :: rest) pos) tB') : PW X (.BoolOp .Or (a :: b :: rest) pos) (tOr tA tB') := by
 intro wh pins s σ H Q I h
 refine isTrue_or (thn (ha pins s σ H _ I h) fun c s1 ⟨H1, I1, q1⟩ => ?_)
 cases c with
 | true => exact ⟨H1, I1, q1⟩
 | false => exact hb wh pins s1 σ H1 Q I1 q1
theorem pt_not (ha : PT X a tA) : PT X (.UnaryOp .Not a pos) (tNot tA) := by
 intro pins s σ H Q I h
 exact isTrue_not (ha pins s σ H (fun c H1 => Q (!c) H1) I h)
def tAndV (ta tb : TE) : TE := fun σ H Q => ta σ H fun x H1 => ∃ c, x = .bl c /\ if c = true then tb σ H1 Q else Q (.bl false) H1
def tOrV (ta tb : TE) : TE := fun σ H Q => ta σ H fun x H1 => ∃ c, x = .bl c /\ if c = true then Q (.bl true) H1 else tb σ H1 Q
def tNotV (ta : TE) : TE := fun σ H Q => ta σ H fun x H1 => ∃ c, x = .bl c /\ Q (.bl (!c)) H1
theorem pe_one {op} {t : TE} (h : PE X a t) : PE X (.BoolOp op [a] pos) t := fun pins s σ H Q I hw => BoolOp_one (h pins s σ H Q I hw)
theorem pe_and (ha : PE X a ta) (hb : PE X (.BoolOp .And (b :: rest) pos) tb) : PE X (.BoolOp .And (a :: b :: rest) pos) (tAndV ta tb) := by
 intro pins s σ H Q I h
 refine BoolOp_and (thn (ha pins s σ H _ I h) fun v s1 ⟨x, H1, I1, r1, q1⟩ => ?_)
 obtain ⟨c, rfl, q1⟩ := q1
 cases r1
 refine wpAny_truthy_bool ?_
 cases c with
 | true => exact hb pins s1 σ H1 Q I1 q1
 | false => exact ⟨.bl false, H1, I1, rfl, q1⟩
theorem pe_or (ha : PE X a ta) (hb : PE X (.BoolOp .Or (b :: rest) pos) tb) : PE X (.BoolOp .Or (a :: b :: rest) pos) (tOrV ta tb) := by
 intro pins s σ H Q I h
 refine BoolOp_or (thn (ha pins s σ H _ I h) fun v s1 ⟨x, H1, I1, r1, q1⟩ => ?_)
 obtain ⟨c, rfl, q1⟩ := q1
 cases r1
 refine wpAny_truthy_bool ?_
 cases c with
 | false => exact hb pins s1 σ H1 Q I1 q1
 | true => exact ⟨.bl true, H1, I1, rfl, q1⟩
theorem pe_not (ha : PE X a ta) : PE X (.UnaryOp .Not a pos) (tNotV ta) := by
 intro pins s σ H Q I h
 refine UnaryOp_ (thn (ha pins s σ H _ I h) fun v s1 ⟨x, H1, I1, r1, q1⟩ => ?_)
 obtain ⟨c, rfl, q1⟩ := q1
 cases r1
 exact not_of (wpAny_truthy_bool ⟨.bl (!c), H1, I1, rfl, q1⟩)
def tIf (t : TT) (ta tb : TE) : TE := fun σ H Q => t σ H fun c H1 => if c = true then ta σ H1 Q else tb σ H1 Q
theorem pe_ifExp {c : Expr} (hc : PT X c tA) (ha : PE X a ta) (hb : PE X b tb) : PE X (.IfExp c a b pos) (tIf tA ta tb) := by
 intro pins s σ H Q I h
 refine wpAny_IfExp (thn (hc pins s σ H _ I h) fun d s1 ⟨H1, I1, q1⟩ => ?_)
 cases d with
 | true => exact ha pins s1 σ H1 Q I1 q1
 | false => exact hb pins s1 σ H1 Q I1 q1
end
end L2
namespace L2
open PySem PySem.Spec PyProof.Rows
def SqL (K : Fg) (H : Hp) (a : Addr) (xs : List V) : Prop :=
 Rd H a (.lst xs) \/
  ∃ (o : Obj) (its : Array Value) (n : Nat), K.lookup a = some o /\ o.cls = .type "list" /\ o.dict = none /\ o.data = .seq its n /\ its.size <= sizeLine /\ Vals xs its.toList
def SqT (K : Fg) (H : Hp) (a : Addr) (xs : List V) : Prop :=
 Rd H a (.tup xs) \/
  ∃ (o : Obj) (its : Array Value) (n : Nat), K.lookup a = some o /\ o.cls = .type "tuple" /\ o.data = .seq its n /\ its.size <= sizeLine /\ Vals xs its.toList
def absV : Value -> Option V
 | .none => some .non
 | .bool b => some (.bl b)
 | .int i _ => some (.int i)
 | .str x _ => some (.str x)
 | .bytes b _ => some (.byt b)
 | .float b _ => some (.flt b)
 | .ref a => some (.ref a)
 | .type n => some (.ty n)
 | _ => none
theorem RelV.abs {x : V} {u : Value} (r : RelV x u) : absV u = some x := by
 cases x with
 | non => cases r; rfl
 | bl _ => cases r; rfl
 | int _ => obtain ⟨t, rfl⟩ := r; rfl
 | str _ => obtain ⟨t, rfl⟩ := r; rfl
 | byt _ => obtain ⟨t, rfl⟩ := r; rfl
 | flt _ => obtain ⟨t, rfl⟩ := r; rfl
 | ref _ => cases r; rfl
 | ty _ => cases r; rfl
theorem RelV.inj {x y : V} {u : Value} (r : RelV x u) (q : RelV y u) : x = y := Option.some.inj (r.abs.symm.trans q.abs)
theorem Vals.inj : ∀ {xs ys : List V} {us : List Value}, Vals xs us -> Vals ys us -> xs = ys
 | _, _, _, .nil, .nil => rfl
 | _, _, _, .cons r t, .cons r' t' => by rw [r.inj r', Vals.inj t t']
section
variable {X : Cx} {pins : List (Addr × Obj)} {σ : St} {H : Hp} {s : Shared} {a : Addr} {xs ys : List V}
theorem SqL.of {K : Fg} (h : H a = some (.lst xs)) : SqL K H a xs := .inl (.inl h)
theorem SqT.of {K : Fg} (h : H a = some (.tup xs)) : SqT K H a xs := .inl (.inl h)
theorem Inv.list (I : Inv X pins σ H s) (h : SqL X.K H a xs) : ∃ its : List Value, Vals xs its /\ PlainL s.heap a its.toArray /\ xs.length <= sizeLine := by
 rcases h with h | ⟨o, its, n, hk, hc, hd, hs, hz, r⟩
 ·obtain ⟨z, its, n, r, e⟩ := h.ok I.hok
  exact ⟨its, r, ⟨_, n, e, rfl, rfl, rfl⟩, z⟩
 ·refine ⟨its.toList, r, ⟨o, n, I.kIn a o hk, hc, hd, by simpa using hs⟩, ?_⟩
  have e := r.length
  simp only [Array.length_toList] at e
  omega
theorem Inv.tuple (I : Inv X pins σ H s) (h : SqT X.K H a xs) : ∃ its : List Value, Vals xs its /\ IsTup s.heap a its.toArray /\ xs.length <= sizeLine := by
 rcases h with h | ⟨o, its, n, hk, hc, hs, hz, r⟩
 ·obtain ⟨z, its, r, p⟩ := h.ok I.hok
  exact ⟨its, r, p, z⟩
 ·refine ⟨its.toList, r, ⟨o, I.kIn a o hk, hc, n, by simpa using hs⟩, ?_⟩
  have e := r.length
  simp only [Array.length_toList] at e
  omega
theorem Inv.list_inj (I : Inv X pins σ H s) (h : SqL X.K H a xs) (h' : SqL X.K H a ys) : xs = ys := by
 obtain ⟨its, r, ⟨o, n, e, _, _, d⟩, _⟩ := I.list h
 obtain ⟨its', r', ⟨o', n', e', _, _, d'⟩, _⟩ := I.list h'
 rw [e] at e'; cases e'
 rw [d] at d'
 injection d' with d1 _
 have : its = its' := by simpa using congrArg Array.toList d1
 subst this
 exact r.inj r'
theorem Inv.tuple_inj (I : Inv X pins σ H s) (h : SqT X.K H a xs) (h' : SqT X.K H a ys) : xs = ys := by
 obtain ⟨its, r, ⟨o, e, _, n, d⟩, _⟩ := I.tuple h
 obtain ⟨its', r', ⟨o', e', _, n', d'⟩, _⟩ := I.tuple h'
 rw [e] at e'; cases e'
 rw [d] at d'
 injection d' with d1 _
 have : its = its' := by simpa using congrArg Array.toList d1
 subst this
 exact r.inj r'
end
abbrev Cx.wish (X : Cx) (E : Value -> Shared -> Prop) : Cx := { X with xe := E }
abbrev Cx.nox (X : Cx) : Cx := X.wish fun _ _ => False
theorem Cx.Ok.wish {X : Cx} (ok : X.Ok) (E : Value -> Shared -> Prop) : (X.wish E).Ok :=
 ⟨ok.mod, ok.kind, ok.glob, ok.blt, ok.above, ok.inj, ok.has, ok.cab, ok.hd, ok.frames, ok.stk, ok.exf, ok.bs, ok.bsz, ok.noex, ok.exfs, ok.funs, ok.frf, ok.tab, ok.fc⟩
theorem Cx.Ok.unwish {X : Cx} {E : Value -> Shared -> Prop} (ok : (X.wish E).Ok) : X.Ok :=
 ⟨ok.mod, ok.kind, ok.glob, ok.blt, ok.above, ok.inj, ok.has, ok.cab, ok.hd, ok.frames, ok.stk, ok.exf, ok.bs, ok.bsz, ok.noex, ok.exfs, ok.funs, ok.frf, ok.tab, ok.fc⟩
section
variable {X : Cx} {pins : List (Addr × Obj)} {σ : St} {H : Hp} {s : Shared} {E : Value -> Shared -> Prop}
theorem Inv.wish (I : Inv X pins σ H s) (E : Value -> Shared -> Prop) : Inv (X.wish E) pins σ H s := ⟨I.ok.wish E, I.os, I.bare, I.base, I.loc, I.cell, I.free, I.freeC, I.pin, I.hok, I.len⟩
theorem Inv.unwish (I : Inv (X.wish E) pins σ H s) : Inv X pins σ H s := ⟨I.ok.unwish, I.os, I.bare, I.base, I.loc, I.cell, I.free, I.freeC, I.pin, I.hok, I.len⟩
theorem SP.unwish {D : Ends} {f : Flow} {s' : Shared} (h : SP (X.wish E) pins D f s') : SP X pins D f s' := by
 cases f with
 | next => obtain ⟨σ', H', I, q⟩ := h; exact ⟨σ', H', I.unwish, q⟩
 | brk => obtain ⟨σ', H', I, q⟩ := h; exact ⟨σ', H', I.unwish, q⟩
 | cont => obtain ⟨σ', H', I, q⟩ := h; exact ⟨σ', H', I.unwish, q⟩
 | ret u => obtain ⟨v, H', I, r, q⟩ := h; exact ⟨v, H', ⟨I.os, I.bare, I.base, I.hok⟩, r, q⟩
theorem PE.nox {e : Expr} {t : TE} (h : PE X.nox e t) : PE X e t := fun pins s σ H Q I hw =>
 wpAny_mono (h pins s σ H Q (I.wish _) hw) (fun _ _ ⟨v, H', I', r, q⟩ => ⟨v, H', I'.unwish, r, q⟩) fun _ _ z => False.elim z
theorem PT.nox {e : Expr} {t : TT} (h : PT X.nox e t) : PT X e t := fun pins s σ H Q I hw =>
 wpAny_mono (h pins s σ H Q (I.wish _) hw) (fun _ _ ⟨H', I', q⟩ => ⟨H', I'.unwish, q⟩) fun _ _ z => False.elim z
theorem PSs.nox {st : List Stmt} {t : TS} (h : PSs X.nox st t) : PSs X st t := fun pins s σ H D I hw =>
 wpAny_mono (h pins s σ H D (I.wish _) hw) (fun _ _ q => q.unwish) fun _ _ z => False.elim z
end
section
variable {X : Cx} {st : Stmt} {rest : List Stmt} {t u : TS} {e : Expr} {te : TE} {pos : Pos}
def tNext : TS := fun D σ H => D.nx σ H
def tSeq (t u : TS) : TS := fun D σ H => t { D with nx := u D } σ H
theorem pss_nil : PSs X [] tNext := fun _ _ σ H _ I h => wpAny_execs_nil ⟨σ, H, I, h⟩
theorem pss_cons (h1 : PS X st t) (h2 : PSs X rest u) : PSs X (st :: rest) (tSeq t u) := by
 intro pins s σ H D I h
 refine wpAny_execs_cons (thn (h1 pins s σ H { D with nx := u D } I h) fun f s1 q => ?_)
 cases f with
 | next =>
  obtain ⟨σ', H', I', q⟩ := q
  exact h2 pins s1 σ' H' D I' q
 | ret v => exact q
 | brk => exact q
 | cont => exact q
theorem pss_one (h1 : PS X st t) : PSs X [st] t := by
 intro pins s σ H D I h
 refine wpAny_execs_cons (thn (h1 pins s σ H D I h) fun f s1 q => ?_)
 cases f with
 | next => exact wpAny_execs_nil q
 | ret v => exact q
 | brk => exact q
 | cont => exact q
def tRet (te : TE) : TS := fun D σ H => te σ H D.rt
theorem ps_ret (he : PE X e te) : PS X (.Return (some e) pos) (tRet te) := by
 intro pins s σ H D I h
 exact wpAny_Return_some (thn (he pins s σ H _ I h) fun v s1 ⟨x, H1, I1, r1, q1⟩ => ⟨x, H1, I1.fin, r1, q1⟩)
def tIfS (c : TT) (t u : TS) : TS := fun D σ H => c σ H fun b H1 => if b = true then t D σ H1 else u D σ H1
theorem ps_if {c : Expr} {a b : List Stmt} {tc : TT} (hc : PT X c tc) (ha : PSs X a t) (hb : PSs X b u) : PS X (.If c a b pos) (tIfS tc t u) := by
 intro pins s σ H D I h
 refine wpAny_If (thn (hc pins s σ H _ I h) fun d s1 ⟨H1, I1, q1⟩ => ?_)
 cases d with
 | true => exact ha pins s1 σ H1 D I1 q1
 | false => exact hb pins s1 σ H1 D I1 q1
end
abbrev TG := V -> St -> Hp -> (St -> Hp -> Prop) -> Prop
abbrev TGs := List V -> St -> Hp -> (St -> Hp -> Prop) -> Prop
def PG (X : Cx) (target : Expr) (t : TG) : Prop :=
 ∀ (pins : List (Addr × Obj)) (s : Shared) (σ : St) (H : Hp) (v : V) (u : Value) (Q : St -> Hp -> Prop), Inv X pins σ H s -> RelV v u -> t v σ H Q ->
  wpAny (model X.prog X.w) X.A (assign target X.env u) (fun _ s' => ∃ σ' H', Inv X pins σ' H' s' /\ Q σ' H') X.xe s
def PGs (X : Cx) (ts : List Expr) (t : TGs) : Prop :=
 ∀ (pins : List (Addr × Obj)) (s : Shared) (σ : St) (H : Hp) (vs : List V) (us : List Value) (Q : St -> Hp -> Prop), Inv X pins σ H s -> Vals vs us -> t vs σ H Q ->
  wpAny (model X.prog X.w) X.A (assignInOrder ((assignEach ts X.env).map (·.2)) us) (fun _ s' => ∃ σ' H', Inv X pins σ' H' s' /\ Q σ' H') X.xe s
abbrev TSet := V -> V -> V -> Hp -> (Hp -> Prop) -> Prop
def PSet (X : Cx) (t : TSet) : Prop :=
 ∀ (pins : List (Addr × Obj)) (s : Shared) (σ : St) (H : Hp) (o i v : V) (ov iv u : Value) (Q : Hp -> Prop), Inv X pins σ H s -> RelV o ov -> RelV i iv -> RelV v u -> t o i v H Q ->
  wpAny (model X.prog X.w) X.A (setItem ov iv u) (fun _ s' => ∃ H', Inv X pins σ H' s' /\ Q H') X.xe s
abbrev TIp := V -> V -> Hp -> VK -> Prop
def PIp (X : Cx) (op : Operator) (t : TIp) : Prop :=
 ∀ (pins : List (Addr × Obj)) (s : Shared) (σ : St) (H : Hp) (x y : V) (v u : Value) (Q : VK), Inv X pins σ H s -> RelV x v -> RelV y u -> t x y H Q ->
  wpAny (model X.prog X.w) X.A (inplaceOp op v u) (EP X pins σ Q) X.xe s
section
variable {X : Cx} {pos : Pos}
def gName (i : Nat) : TG := fun v σ H Q => Q (σ.set i (some v)) H
theorem pg_name {i : Nat} {x : Str} (hN : X.N.Nodup) (hi : X.N[i]? = some x) (hx : Loc X.env.scope x) (hf : X.fn x = true \/ X.env.scope.names.lookup x = some .local := by first | exact .inl rfl | exact .inr rfl | assumption) : PG X (.Name x pos) (gName i) := by
 intro pins s σ H v u Q I r h
 exact wpAny_assign_Name (store_ok I hN hi hx r (fun s' I' => ⟨_, H, I', h⟩) hf)
def gNil : TGs := fun vs σ H Q => vs = [] /\ Q σ H
def gCons (t : TG) (u : TGs) : TGs := fun vs σ H Q => ∃ v r, vs = v :: r /\ t v σ H fun σ' H' => u r σ' H' Q
theorem pgs_nil : PGs X [] gNil := by
 intro pins s σ H vs us Q I r h
 obtain ⟨e, h⟩ := h
 subst e
 cases r
 exact assignInOrder_nil ⟨σ, H, I, h⟩
theorem pgs_cons {e : Expr} {es : List Expr} {t : TG} {u : TGs} (h1 : PG X e t) (h2 : PGs X es u)
  (hs : (assignEach (e :: es) X.env).map (·.2) = assign e X.env :: (assignEach es X.env).map (·.2) := by rfl) : PGs X (e :: es) (gCons t u) := by
 intro pins s σ H vs us Q I r h
 obtain ⟨v, vr, e1, h⟩ := h
 subst e1
 cases r with
 | cons r rr =>
  rw [hs]
  refine assignInOrder_cons (thn (h1 pins s σ H _ _ _ I r h) fun _ s1 ⟨σ1, H1, I1, q1⟩ => ?_)
  exact h2 pins s1 σ1 H1 _ _ Q I1 rr q1
def gTup (K : Fg) (n : Nat) (t : TGs) : TG := fun v σ H Q => ∃ a xs, v = .ref a /\ SqT K H a xs /\ xs.length = n /\ t xs σ H Q
theorem pg_tup {es : List Expr} {k : Nat} {t : TGs} {n : Nat} (hc : X.calm = true) (h : PGs X es t)
  (hn : (assignEach es X.env).length = n := by rfl) (hst : (assignEach es X.env).findIdx? (·.1) = none := by rfl) : PG X (.Tuple es k pos) (gTup X.K n t) := by
 intro pins s σ H v u Q I r hw
 obtain ⟨a, xs, e1, hq, hl, hw⟩ := hw
 subst e1
 cases r
 obtain ⟨its, rv, ht, hz⟩ := I.tuple hq
 refine assign_Tuple_tuple (I.ok.hd hc) ht (by simp [hn, <- hl, rv.length]) hst fun h' hx => ?_
 have I1 : Inv X pins σ H { s with heap := h' } := I.kept (t' := s.toks) fun b o e => hx b o (Nat.ne_of_lt (Heap.lt_size e)) e
 exact h pins _ σ H xs _ Q I1 (by simpa using rv) hw
def gSub (to ti : TE) (t : TSet) : TG := fun v σ H Q => to σ H fun o H1 => ti σ H1 fun i H2 => t o i v H2 fun H3 => Q σ H3
theorem pg_sub {o i : Expr} {to ti : TE} {t : TSet} (ho : PE X o to) (hi : PE X i ti) (hs : PSet X t)
  (ha : ∀ v, assign (.Subscript o i pos) X.env v = (do
   let ov <- holding [v] (eval o X.env)
   let iv <- holding [v, ov] (eval i X.env)
   standAt pos
   holding [v, ov, iv] (setItem ov iv v)
   release [v, ov, iv] []) := by intro _; rfl) : PG X (.Subscript o i pos) (gSub to ti t) := by
 intro pins s σ H v u Q I r h
 rw [ha]
 refine wpAny_bind (wpAny_holding (thn (ho pins s σ H _ I h) fun ov s1 ⟨x, H1, I1, r1, q1⟩ => ?_))
 refine wpAny_bind (wpAny_holding (thn (hi pins s1 σ H1 _ I1 q1) fun iv s2 ⟨y, H2, I2, r2, q2⟩ => ?_))
 refine wpAny_bind (wpAny_standAt (wpAny_bind (wpAny_holding (thn (hs pins s2 σ H2 x y v ov iv u _ I2 r1 r2 r q2) fun _ s3 ⟨H3, I3, q3⟩ => ?_))))
 exact wpAny_release ⟨σ, H3, I3, q3⟩
def tAsg (te : TE) (g : TG) : TS := fun D σ H => te σ H fun x H1 => g x σ H1 D.nx
theorem ps_asg {tg e : Expr} {te : TE} {g : TG} (he : PE X e te) (hg : PG X tg g) (hs : swapsWithSole [tg] e pos.line X.env = pure false := by rfl) (hw : swappedStores [tg] e X.env = pure none := by rfl)
  (h1 : (assignEach [tg] X.env).map (·.2) = [assign tg X.env] := by rfl) : PS X (.Assign [tg] e pos) (tAsg te g) := by
 intro pins s σ H D I h
 refine wpAny_Assign_stores (thn (he pins s σ H _ I h) fun v s1 ⟨x, H1, I1, r1, q1⟩ => ?_) hs hw
 rw [h1]
 exact thn (hg pins s1 σ H1 x v _ I1 r1 q1) fun _ s2 q => q
theorem ps_set {i : Nat} {x : Str} {e : Expr} {te : TE} {pos' : Pos} (hN : X.N.Nodup) (hi : X.N[i]? = some x) (hx : Loc X.env.scope x) (he : PE X e te) (hs : swapsWith e (some (.Name x pos')) pos.line X.env = pure false := by rfl) (hf : X.fn x = true \/ X.env.scope.names.lookup x = some .local := by first | exact .inl rfl | exact .inr rfl | assumption) :
  PS X (.Assign [.Name x pos'] e pos) (tAsg te (gName i)) := by
 intro pins s σ H D I h
 refine wpAny_Assign_Name (thn (he pins s σ H _ I h) fun v s1 ⟨y, H1, I1, r1, q1⟩ => ?_) hs
 exact store_ok I1 hN hi hx r1 (fun s2 I2 => ⟨_, H1, I2, q1⟩) hf
def tAug (i : Nat) (te : TE) (ti : TIp) : TS := fun D σ H => ∃ x, σ[i]? = some (some x) /\ te σ H fun y H1 => ti x y H1 fun z H2 => D.nx (σ.set i (some z)) H2
theorem ps_aug {i : Nat} {x : Str} {e : Expr} {te : TE} {op : Operator} {ti : TIp} {pos' : Pos} (hN : X.N.Nodup) (hi : X.N[i]? = some x) (hx : Loc X.env.scope x) (he : PE X e te) (ho : PIp X op ti) (hf : X.fn x = true \/ X.env.scope.names.lookup x = some .local := by first | exact .inl rfl | exact .inr rfl | assumption) :
  PS X (.AugAssign (.Name x pos') op e pos) (tAug i te ti) := by
 intro pins s σ H D I h
 obtain ⟨v, e1, h⟩ := h
 obtain ⟨m, hn, hl⟩ := I.loc
 have vis : Vis X.env.scope x := by rcases hx with k | k; exact .inl k; exact .inr (.inl k)
 obtain ⟨u, r, l⟩ := hl i x v hi e1 vis
 refine wpAny_AugAssign_Name ?_
 have go : wpAny (model X.prog X.w) X.A (eval e X.env) (fun w s₂ => wpAny (model X.prog X.w) X.A (inplaceOp op u w) (fun r s₃ => wpAny (model X.prog X.w) X.A (storeName X.env x r) (fun _ => SP X pins D .next) X.xe s₃) X.xe s₂) X.xe s := by
  refine thn (he pins s σ H _ I h) fun w s1 ⟨y, H1, I1, r1, q1⟩ => ?_
  refine thn (ho pins s1 σ H1 v y u w _ I1 r r1 q1) fun z s2 ⟨zv, H2, I2, r2, q2⟩ => ?_
  exact store_ok I2 hN hi hx r2 (fun s3 I3 => ⟨_, H2, I3, q2⟩) hf
 rcases l with ⟨hk, hm⟩ | ⟨hk, c, hc, hcell⟩
 ·exact wpAny_loadName_local I.ok.kind hk hn hm go
 ·rcases hk with hk | hk
  ·exact wpAny_loadName_cell I.ok.kind hk hc hcell go
  ·rcases hx with k | k
   ·have : X.env.scope.names.lookup x = some .free := hk
    rw [k] at this; cases this
   ·have : X.env.scope.names.lookup x = some .free := hk
    rw [k] at this; cases this
def ipI (f : Int -> Int -> Int) : TIp := fun x y H Q => ∃ i j, x = .int i /\ y = .int j /\ Q (.int (f i j)) H
theorem ip_add : PIp X .Add (ipI fun i j => i + j) := by
 intro pins s σ H x y v u Q I r1 r2 h
 obtain ⟨i, j, e1, e2, q⟩ := h
 subst e1; subst e2
 obtain ⟨t, rfl⟩ := r1
 obtain ⟨t', rfl⟩ := r2
 exact iadd_int ⟨.int _, H, I.tok _, ⟨_, rfl⟩, q⟩
theorem ip_sub : PIp X .Sub (ipI fun i j => i - j) := by
 intro pins s σ H x y v u Q I r1 r2 h
 obtain ⟨i, j, e1, e2, q⟩ := h
 subst e1; subst e2
 obtain ⟨t, rfl⟩ := r1
 obtain ⟨t', rfl⟩ := r2
 exact isub_int ⟨.int _, H, I.tok _, ⟨_, rfl⟩, q⟩
end
section
variable {X : Cx} {pos : Pos}
def tWhile (c : TT) (tb : TS) : TS := fun D σ H => ∃ W : Nat -> St -> Hp -> Prop, (∃ m, W m σ H) /\ ∀ m σ H, W m σ H ->
 c σ H fun b H1 => if b = true then ∃ N : St -> Hp -> Prop, (∀ σ' H', N σ' H' -> ∃ m', m' < m /\ W m' σ' H') /\ tb { D with nx := N, ct := N, bk := D.nx } σ H1 else D.nx σ H1
theorem ps_while {c : Expr} {body : List Stmt} {tc : TT} {tb : TS} (hp : PassesOwn (model X.prog X.w) X.A X.env X.xe) (hc : PT X c tc) (hb : PSs X body tb) : PS X (.While c body [] pos) (tWhile tc tb) := by
 intro pins s σ H D I h
 obtain ⟨W, ⟨m0, w0⟩, turn⟩ := h
 refine wpAny_While (codeAny_whileLoop (fun n s' => ∃ σ' H', Inv X pins σ' H' s' /\ W n σ' H') ?_ m0 ⟨σ, H, I, w0⟩)
 rintro n s1 ⟨σ1, H1, I1, w1⟩
 refine wpAny_passesOwn hp (thn (hc pins s1 σ1 H1 _ I1 (turn n σ1 H1 w1)) fun b s2 ⟨H2, I2, q2⟩ => ?_)
 cases b with
 | true =>
  obtain ⟨N, hN, q2⟩ := q2
  rw [if_pos rfl]
  refine wpAny_passesOwn hp (thn (hb pins s2 σ1 H2 _ I2 q2) fun f s3 q3 => ?_)
  cases f with
  | next =>
   obtain ⟨σ3, H3, I3, n3⟩ := q3
   obtain ⟨m', hm, w3⟩ := hN σ3 H3 n3
   exact ⟨m', hm, σ3, H3, I3, w3⟩
  | cont =>
   obtain ⟨σ3, H3, I3, n3⟩ := q3
   obtain ⟨m', hm, w3⟩ := hN σ3 H3 n3
   exact ⟨m', hm, σ3, H3, I3, w3⟩
  | brk => exact q3
  | ret v => exact q3
 | false =>
  rw [if_neg Bool.false_ne_true]
  exact wpAny_execs_nil ⟨σ1, H2, I2, q2⟩
end
structure It where
 go : Nat -> Hp -> Prop
 yld : Nat -> Hp -> V -> Hp -> Prop
 stop : Nat -> Hp -> Prop
def FpOk (X : Cx) (pins : List (Addr × Obj)) (H : Hp) (b : Addr) : Prop :=
 H b = none /\ b ≠ X.env.locals /\ b ∉ X.fs /\ (b ∈ X.ex \/ X.s₀.heap.objs.size <= b) /\ (∀ x c, X.env.cells.lookup x = some c -> c ≠ b) /\ ∀ p ∈ X.pn ++ pins, p.1 ≠ b
theorem Inv.fpOk {X : Cx} {pins : List (Addr × Obj)} {σ : St} {H H' : Hp} {s : Shared} {b : Addr} (I : Inv X pins σ H s) (hb : s.heap.objs.size <= b) (hn : H' b = none) : FpOk X pins H' b := by
 refine ⟨hn, Nat.ne_of_gt (Nat.lt_of_lt_of_le I.lt hb), I.nofs hb, .inr (Nat.le_trans I.sz hb), fun x c e z => ?_, fun p hp z => ?_⟩
 ·obtain ⟨v, q⟩ := I.cell x c e
  exact absurd (Nat.lt_of_lt_of_le q.lt (by rw [z]; exact hb)) (Nat.lt_irrefl _)
 ·exact absurd (Nat.lt_of_lt_of_le (Heap.lt_size (I.pin p hp).1) (by rw [z]; exact hb)) (Nat.lt_irrefl _)
structure Turn (P : Program) (w : World) (K : Fg) (tg : Expr) (J : It) (fp : List Addr) (it : Addr) (tn : Nat -> Heap -> Prop) : Prop where
 mem : it ∈ fp
 obj : ∀ i h, tn i h -> ∀ b ∈ fp, ∃ o, h.get? b = some o /\ ∀ v, o.data ≠ .cell v
 keep : ∀ i h h', tn i h -> (∀ b ∈ fp, ∀ o, h.get? b = some o -> h'.get? b = some o) -> tn i h'
 item : ∀ (X : Cx), X.prog = P -> X.w = w -> X.K = K -> X.calm = true -> ∀ (i : Nat) (pins : List (Addr × Obj)) (s : Shared) (σ : St) (H : Hp) (E : Value -> Shared -> Prop), Inv X pins σ H s -> (∀ b ∈ fp, FpOk X pins H b) -> tn i s.heap -> J.go i H ->
  wpAny (model P w) X.A (pyNext (.ref it)) (fun r s1 => ∃ u, r = some u /\
   wpAny (model P w) X.A (letOwnedTupleGo tg (.ref it) u) (fun _ s2 => ∃ x H', Inv X pins σ H' s2 /\ RelV x u /\ J.yld i H x H' /\ tn (i + 1) s2.heap /\ ∀ b ∈ fp, H' b = none) E s1) E s
 done : ∀ (X : Cx), X.prog = P -> X.w = w -> X.K = K -> X.calm = true -> ∀ (i : Nat) (pins : List (Addr × Obj)) (s : Shared) (σ : St) (H : Hp) (E : Value -> Shared -> Prop), Inv X pins σ H s -> (∀ b ∈ fp, FpOk X pins H b) -> tn i s.heap -> J.stop i H ->
  wpAny (model P w) X.A (pyNext (.ref it)) (fun r s1 => r = none /\ Inv X pins σ H s1) E s
 self : ∀ (A : Around) (i : Nat) (s : Shared) (Q : Value -> Shared -> Prop) (E : Value -> Shared -> Prop), tn i s.heap -> Q (.ref it) s -> wpAny (model P w) A (pyIter (.ref it)) Q E s
abbrev TI := St -> Hp -> (It -> Hp -> Prop) -> Prop
def PIE (X : Cx) (pins : List (Addr × Obj)) (σ : St) (tg : Expr) (R : It -> Hp -> Prop) (itv : Value) (s2 : Shared) : Prop :=
 ∃ (it : Addr) (fp : List Addr) (tn : Nat -> Heap -> Prop) (J : It) (H' : Hp), itv = .ref it /\ Inv X pins σ H' s2 /\ Turn X.prog X.w X.K tg J fp it tn /\ tn 0 s2.heap /\ (∀ b ∈ fp, FpOk X pins H' b) /\ R J H'
def PI (X : Cx) (tg iter : Expr) (wi : TI) : Prop :=
 ∀ (pins : List (Addr × Obj)) (s : Shared) (σ : St) (H : Hp) (R : It -> Hp -> Prop), Inv X pins σ H s -> wi σ H R ->
  wpAny (model X.prog X.w) X.A (eval iter X.env) (fun v s1 => wpAny (model X.prog X.w) X.A (pyIter v) (PIE X pins σ tg R) X.xe s1) X.xe s
theorem go_of {M : Model} {A : Around} {E : Value -> Shared -> Prop} {s : Shared} {tg : Expr} {it : Addr} {u : Value} {o : Obj} {n : String} {vs : Array Value} {Q : Unit -> Shared -> Prop} (ho : s.heap.get? it = some o) (hc : o.cls = .type n) (hd : o.data = .fields vs)
    (hn : ["enumerate", "zip", "dict_itemiterator", "dict_reverseitemiterator", "odict_iterator", "itertools.zip_longest", "itertools.pairwise"].contains n = false) (hQ : Q () s) : wpAny M A (letOwnedTupleGo tg (.ref it) u) Q E s := by
  unfold letOwnedTupleGo
  cases tg <;> first
    | exact wpAny_pure hQ
    | (cases u <;> first
        | exact wpAny_pure hQ
        | (refine wpAny_bind (wpAny_load ho ?_)
           rw [hc, hd]
           show wpAny M A (if (["enumerate", "zip", "dict_itemiterator", "dict_reverseitemiterator", "odict_iterator", "itertools.zip_longest", "itertools.pairwise"].contains n && vs[0]? == some (rawInt _)) = true then _ else _) Q E s
           rw [if_neg (by intro h; rw [hn, Bool.false_and] at h; cases h)]
           exact wpAny_pure hQ))
def Itl (K : Fg) (a : Addr) : It :=
 ⟨fun i H => ∃ xs x, SqL K H a xs /\ xs[i]? = some x, fun i H x H' => H' = H /\ ∀ xs, SqL K H a xs -> xs[i]? = some x, fun i H => ∃ xs, SqL K H a xs /\ xs.length <= i⟩
def Itt (K : Fg) (a : Addr) : It :=
 ⟨fun i H => ∃ xs x, SqT K H a xs /\ xs[i]? = some x, fun i H x H' => H' = H /\ ∀ xs, SqT K H a xs -> xs[i]? = some x, fun i H => ∃ xs, SqT K H a xs /\ xs.length <= i⟩
def Itr (lo : Int) (n : Nat) : It := ⟨fun i _ => i < n, fun i H x H' => H' = H /\ x = .int (lo + i), fun i _ => n <= i⟩
theorem turn_list {P : Program} {w : World} {K : Fg} {tg : Expr} (a it : Addr) : Turn P w K tg (Itl K a) [it] it (fun i h => h.IsListIter it a i) where
 mem := by simp
 obj := fun i h st b hb => by
  have e : b = it := by simpa using hb
  subst e
  obtain ⟨o, e, c, d⟩ := st
  exact ⟨o, e, fun v z => by rw [d] at z; cases z⟩
 keep := fun i h h' st k => st.at fun o e => k it (by simp) o e
 item := by
  intro X hP hw hK hc i pins s σ H E I hf st hg
  subst hP hw hK
  obtain ⟨xs, x, hq, hx⟩ := hg
  obtain ⟨its, rv, p, hz⟩ := I.list hq
  obtain ⟨u, hu, ru⟩ := rv.get hx
  obtain ⟨f0, f1, f2, f3, f4, f5⟩ := hf it (by simp)
  refine wpAny_pyNext_list_item st p.isList (x := u) (by simpa using hu) fun h' st' sb => ?_
  have I1 : Inv X pins σ H { s with heap := h' } := I.turned (t' := s.toks) (fun b o hb e => (sb.2 b hb).trans e) f0 f1 f3 f4 f5
  obtain ⟨o, e, c, d⟩ := id st'
  exact ⟨u, rfl, go_of (s := { s with heap := h' }) e c d (by decide) ⟨x, H, I1, ru, ⟨rfl, fun ys hy => by rw [I.list_inj hy hq]; exact hx⟩, st', fun b hb => (hf b hb).1⟩⟩
 done := by
  intro X hP hw hK hc i pins s σ H E I hf st hg
  subst hP hw hK
  obtain ⟨xs, hq, hx⟩ := hg
  obtain ⟨its, rv, p, hz⟩ := I.list hq
  obtain ⟨f0, f1, f2, f3, f4, f5⟩ := hf it (by simp)
  have hl := rv.length
  exact wpAny_pyNext_list_end (I.ok.hd hc) st p.isList (by simp; omega) fun h' eb => ⟨rfl, I.turned (t' := s.toks) (fun b o hb e => eb b o hb e) f0 f1 f3 f4 f5⟩
 self := fun _ _ _ _ _ st h => wpAny_pyIter_listiter st h
theorem turn_tuple {P : Program} {w : World} {K : Fg} {tg : Expr} (a it : Addr) : Turn P w K tg (Itt K a) [it] it (fun i h => h.IsTupleIter it a i) where
 mem := by simp
 obj := fun i h st b hb => by
  have e : b = it := by simpa using hb
  subst e
  obtain ⟨o, e, c, d⟩ := st
  exact ⟨o, e, fun v z => by rw [d] at z; cases z⟩
 keep := fun i h h' st k => st.at fun o e => k it (by simp) o e
 item := by
  intro X hP hw hK hc i pins s σ H E I hf st hg
  subst hP hw hK
  obtain ⟨xs, x, hq, hx⟩ := hg
  obtain ⟨its, rv, p, hz⟩ := I.tuple hq
  obtain ⟨u, hu, ru⟩ := rv.get hx
  obtain ⟨f0, f1, f2, f3, f4, f5⟩ := hf it (by simp)
  refine wpAny_pyNext_tuple_item st (show s.heap.IsTuple a its.toArray from p) (x := u) (by simpa using hu) fun h' st' sb => ?_
  have I1 : Inv X pins σ H { s with heap := h' } := I.turned (t' := s.toks) (fun b o hb e => (sb.2 b hb).trans e) f0 f1 f3 f4 f5
  obtain ⟨o, e, c, d⟩ := id st'
  exact ⟨u, rfl, go_of (s := { s with heap := h' }) e c d (by decide) ⟨x, H, I1, ru, ⟨rfl, fun ys hy => by rw [I.tuple_inj hy hq]; exact hx⟩, st', fun b hb => (hf b hb).1⟩⟩
 done := by
  intro X hP hw hK hc i pins s σ H E I hf st hg
  subst hP hw hK
  obtain ⟨xs, hq, hx⟩ := hg
  obtain ⟨its, rv, p, hz⟩ := I.tuple hq
  obtain ⟨f0, f1, f2, f3, f4, f5⟩ := hf it (by simp)
  have hl := rv.length
  exact wpAny_pyNext_tuple_end (I.ok.hd hc) st (show s.heap.IsTuple a its.toArray from p) (by simp; omega) fun h' eb => ⟨rfl, I.turned (t' := s.toks) (fun b o hb e => eb b o hb e) f0 f1 f3 f4 f5⟩
 self := fun _ _ _ _ _ st h => wpAny_pyIter_tupleiter st h
theorem turn_range {P : Program} {w : World} {K : Fg} {tg : Expr} (it : Addr) (lo : Int) (n : Nat) : Turn P w K tg (Itr lo n) [it] it (fun i h => IsRangeIter h it (lo + (i : Nat) * 1) ((n : Int) - (i : Nat)) 1) where
 mem := by simp
 obj := fun i h st b hb => by
  have e : b = it := by simpa using hb
  subst e
  exact ⟨_, st, fun v z => by
   have z' : Data.fields _ = Data.cell v := z
   cases z'⟩
 keep := fun i h h' st k => k it (by simp) _ st
 item := by
  intro X hP hw hK hc i pins s σ H E I hf st hg
  subst hP hw hK
  obtain ⟨f0, f1, f2, f3, f4, f5⟩ := hf it (by simp)
  have W := Walks.range (prog := X.prog) (w := X.w) (I.ok.hd hc) it lo 1 n
  refine W.item i s _ _ hg st fun v h' tk hv st' kk => ?_
  obtain ⟨t, rfl⟩ := hv
  have I1 : Inv X pins σ H { s with heap := h', toks := tk } := I.turned (fun b o hb e => kk b o (by simpa using hb) e) f0 f1 f3 f4 f5
  refine ⟨_, rfl, go_of (s := { s with heap := h', toks := tk }) (n := "range_iterator") st' rfl rfl (by decide) ⟨.int (lo + i), H, I1, ⟨t, ?_⟩, ⟨rfl, rfl⟩, st', fun b hb => (hf b hb).1⟩⟩
  rw [Int.mul_one]
 done := by
  intro X hP hw hK hc i pins s σ H E I hf st hg
  subst hP hw hK
  obtain ⟨f0, f1, f2, f3, f4, f5⟩ := hf it (by simp)
  exact wpAny_pyNext_range_end (I.ok.hd hc) st (by have : n <= i := hg; omega) fun h' eb => ⟨rfl, I.turned (t' := s.toks) (fun b o hb e => eb b o hb e) f0 f1 f3 f4 f5⟩
 self := fun _ _ _ _ _ st h => wpAny_pyIter_rangeiter st h
end L2
namespace L2
open PySem PySem.Spec PyProof.Rows
section
variable {X : Cx} {tg : Expr}
def iList (K : Fg) (tl : TE) : TI := fun σ H R => tl σ H fun x H1 => ∃ a, x = .ref a /\ (∃ xs, SqL K H1 a xs) /\ R (Itl K a) H1
def iTup (K : Fg) (tl : TE) : TI := fun σ H R => tl σ H fun x H1 => ∃ a, x = .ref a /\ (∃ xs, SqT K H1 a xs) /\ R (Itt K a) H1
theorem pi_list {l : Expr} {tl : TE} (hl : PE X l tl) : PI X tg l (iList X.K tl) := by
 intro pins s σ H R I h
 refine thn (hl pins s σ H _ I h) fun v s1 ⟨x, H1, I1, r1, q1⟩ => ?_
 obtain ⟨a, e, ⟨xs, hq⟩, q⟩ := q1
 subst e
 cases r1
 obtain ⟨its, rv, p, hz⟩ := I1.list hq
 refine wpAny_pyIter_list p.isList ?_
 refine ⟨s1.heap.objs.size, [s1.heap.objs.size], _, _, H1, rfl, I1.kept (t' := s1.toks) fun b o e => Heap.get?_push_of_some _ e, turn_list a _, ⟨_, Heap.get?_push_size _ rfl, rfl, rfl⟩, fun b hb => ?_, q⟩
 have e : b = s1.heap.objs.size := by simpa using hb
 subst e
 exact I1.fpOk (Nat.le_refl _) (I1.hok.fresh (Nat.le_refl _))
theorem pi_tup {l : Expr} {tl : TE} (hl : PE X l tl) : PI X tg l (iTup X.K tl) := by
 intro pins s σ H R I h
 refine thn (hl pins s σ H _ I h) fun v s1 ⟨x, H1, I1, r1, q1⟩ => ?_
 obtain ⟨a, e, ⟨xs, hq⟩, q⟩ := q1
 subst e
 cases r1
 obtain ⟨its, rv, p, hz⟩ := I1.tuple hq
 refine wpAny_pyIter_tuple (show s1.heap.IsTuple a its.toArray from p) ?_
 refine ⟨s1.heap.objs.size, [s1.heap.objs.size], _, _, H1, rfl, I1.kept (t' := s1.toks) fun b o e => Heap.get?_push_of_some _ e, turn_tuple a _, ⟨_, Heap.get?_push_size _ rfl, rfl, rfl⟩, fun b hb => ?_, q⟩
 have e : b = s1.heap.objs.size := by simpa using hb
 subst e
 exact I1.fpOk (Nat.le_refl _) (I1.hok.fresh (Nat.le_refl _))
theorem range_it {pins : List (Addr × Obj)} {σ : St} {H : Hp} {s : Shared} {R : It -> Hp -> Prop} {E : Value -> Shared -> Prop} {lo hi : Int} {t u v : Tok} {tk : Nat} (I : Inv X pins σ H s) (h1 : -(2 ^ 62) <= lo) (h2 : lo < 2 ^ 62) (h3 : -(2 ^ 62) <= hi) (h4 : hi < 2 ^ 62)
  (q : R (Itr lo (hi - lo).toNat) H) : wpAny (model X.prog X.w) X.A (pyIter (.ref s.heap.objs.size)) (PIE X pins σ tg R) E { s with heap := s.heap.push { cls := .type "range", data := .fields #[.int lo t, .int hi u, .int 1 v] }, toks := tk } := by
 refine wpAny_pyIter_range (IsRange.new ..) (small_one h1 h2 h3 h4) ?_
 have I1 : Inv X pins σ H { s with heap := s.heap.push { cls := .type "range", data := .fields #[.int lo t, .int hi u, .int 1 v] }, toks := tk } := I.kept fun b o e => Heap.get?_push_of_some _ e
 refine ⟨(s.heap.push { cls := .type "range", data := .fields #[.int lo t, .int hi u, .int 1 v] }).objs.size, [(s.heap.push { cls := .type "range", data := .fields #[.int lo t, .int hi u, .int 1 v] }).objs.size], _, _, H, rfl,
  I1.kept (t' := tk) fun b o e => Heap.get?_push_of_some _ e, turn_range _ lo (hi - lo).toNat, ?_, fun b hb => ?_, q⟩
 ·have e1 : lo + ((0 : Nat) : Int) * 1 = lo := by simp
  have e2 : (((hi - lo).toNat : Nat) : Int) - ((0 : Nat) : Int) = Builtin.Range.rangeSize lo hi 1 := by rw [rangeSize_one]; split <;> omega
  show IsRangeIter _ _ (lo + ((0 : Nat) : Int) * 1) ((((hi - lo).toNat : Nat) : Int) - ((0 : Nat) : Int)) 1
  rw [e1, e2]
  exact Heap.get?_push_size _ rfl
 ·have e : b = (s.heap.push { cls := .type "range", data := .fields #[.int lo t, .int hi u, .int 1 v] }).objs.size := by simpa using hb
  subst e
  exact I1.fpOk (Nat.le_refl _) (I1.hok.fresh (Nat.le_refl _))
def iRng1 (ta : TA) : TI := fun σ H R => ta σ H fun vs H1 => ∃ j : Int, vs = [.int j] /\ -(2 ^ 62) <= j /\ j < 2 ^ 62 /\ R (Itr 0 j.toNat) H1
theorem pi_range1 {a : Expr} {ta : TA} {p pos : Pos} (hg : Gl X "range") (hm : X.mg "range" = none) (ha : PA X [a] ta) (hs : starEach [a] X.env = [(false, eval a X.env)] := by rfl) : PI X tg (.Call (.Name "range" p) [a] [] pos) (iRng1 ta) := by
 intro pins s σ H R I h
 refine Call_ (ld_blt I hg hm boot_range (PyProof.Rows.callWith_type1 (thn (ha pos pins s σ H _ I h) fun us s1 ⟨vs, H1, I1, r1, q1⟩ => ?_) hs rfl))
 obtain ⟨j, e, q1, q2, q⟩ := q1
 subst e
 cases r1 with
 | cons r rr =>
  cases rr
  obtain ⟨t, rfl⟩ := r
  exact call_range_1 (range_it I1 (by omega) (by omega) q1 q2 (by simpa using q))
def tFor (wi : TI) (g : TG) (tb : TS) : TS := fun D σ H => wi σ H fun J H1 => ∃ W : Nat -> Nat -> St -> Hp -> Prop, (∃ m, W 0 m σ H1) /\ ∀ i m σ H, W i m σ H ->
 (J.stop i H /\ D.nx σ H) \/ (J.go i H /\ ∃ N : St -> Hp -> Prop, (∀ σ' H', N σ' H' -> ∃ m', m' < m /\ W (i + 1) m' σ' H') /\ ∀ x H', J.yld i H x H' -> g x σ H' fun σ2 H2 => tb { D with nx := N, ct := N, bk := D.nx } σ2 H2)
def pinsAt (fp : List Addr) (h : Heap) : List (Addr × Obj) := fp.filterMap fun b => (h.get? b).map fun o => (b, o)
theorem mem_pinsAt {fp : List Addr} {h : Heap} {b : Addr} {o : Obj} (hb : b ∈ fp) (e : h.get? b = some o) : (b, o) ∈ pinsAt fp h := List.mem_filterMap.mpr ⟨b, hb, by rw [e]; rfl⟩
theorem of_pinsAt {fp : List Addr} {h : Heap} {p : Addr × Obj} (hp : p ∈ pinsAt fp h) : p.1 ∈ fp /\ h.get? p.1 = some p.2 := by
 obtain ⟨b, hb, e⟩ := List.mem_filterMap.mp hp
 cases q : h.get? b with
 | none => rw [q] at e; cases e
 | some o =>
  rw [q] at e
  have e' : (b, o) = p := Option.some.inj e
  subst e'
  exact ⟨hb, q⟩
theorem Inv.pinned {pins : List (Addr × Obj)} {σ : St} {H : Hp} {s : Shared} {fp : List Addr} (I : Inv X pins σ H s) (hf : ∀ b ∈ fp, FpOk X pins H b) (ho : ∀ b ∈ fp, ∃ o, s.heap.get? b = some o /\ ∀ v, o.data ≠ .cell v) : Inv X (pins ++ pinsAt fp s.heap) σ H s :=
 I.pins_of fun p hp => (List.mem_append.mp hp).elim (fun z => I.pin p (List.mem_append_right _ z)) fun z => by
  obtain ⟨hb, e⟩ := of_pinsAt z
  obtain ⟨f0, f1, f2, _⟩ := hf p.1 hb
  obtain ⟨o, e', d⟩ := ho p.1 hb
  rw [e] at e'; cases e'
  exact ⟨e, f0, f1, f2, d⟩
theorem Inv.unpinned {pins pl : List (Addr × Obj)} {σ : St} {H : Hp} {s : Shared} (I : Inv X (pins ++ pl) σ H s) : Inv X pins σ H s := I.pins_of fun p hp => I.pin p (List.mem_append_right _ (List.mem_append_left _ hp))
theorem ps_for {iter : Expr} {body : List Stmt} {wi : TI} {g : TG} {tb : TS} {pos : Pos} (hp : PassesOwn (model X.prog X.w) X.A X.env X.xe) (hc : X.calm = true) (hi : PI X tg iter wi) (hg : PG X tg g) (hb : PSs X body tb)
  (hs : ∀ x, foldedSetIterable iter X.env x = pure x := by intro _; rfl) : PS X (.For tg iter body [] pos) (tFor wi g tb) := by
 intro pins s σ H D I h
 refine wpAny_For (thn (hi pins s σ H _ I h) fun v s1 h1 => thn h1 fun itv s2 h2 => ?_) hs
 obtain ⟨it, fp, tn, J, H2, e, I2, T, st2, f2, W, ⟨m0, w0⟩, turn⟩ := h2
 subst e
 -- what stays true of the iterator's objects through the loop
 have stat : ∀ {H' : Hp}, (∀ b ∈ fp, H' b = none) -> ∀ b ∈ fp, FpOk X pins H' b := fun hn b hb => ⟨hn b hb, (f2 b hb).2⟩
 refine codeAny_forLoop_any (fun n s' => ∃ i σ' H', Inv X pins σ' H' s' /\ tn i s'.heap /\ (∀ b ∈ fp, H' b = none) /\ W i n σ' H') ?_ m0 ⟨0, σ, H2, I2, st2, fun b hb => (f2 b hb).1, w0⟩
 rintro n s3 ⟨i, σ3, H3, I3, st3, fr3, w3⟩
 rcases turn i n σ3 H3 w3 with ⟨stop, qn⟩ | ⟨go, N, hN, step⟩
 ·refine wpAny_passesOwn hp (thn (T.done X rfl rfl rfl hc i pins s3 σ3 H3 X.xe I3 (stat fr3) st3 stop) fun r s4 ⟨hr, I4⟩ => ?_)
  subst hr
  exact wpAny_execs_nil ⟨σ3, H3, I4, qn⟩
 ·refine wpAny_passesOwn hp (thn (T.item X rfl rfl rfl hc i pins s3 σ3 H3 X.xe I3 (stat fr3) st3 go) fun r s4 ⟨u, hr, h4⟩ => ?_)
  subst hr
  refine wpAny_passesOwn hp (thn h4 fun _ s5 ⟨x, H5, I5, r5, y5, st5, fr5⟩ => ?_)
  have I5' := I5.pinned (stat fr5) (T.obj _ _ st5)
  refine wpAny_passesOwn hp (thn (hg _ s5 σ3 H5 x u _ I5' r5 (step x H5 y5)) fun _ s6 ⟨σ6, H6, I6, q6⟩ => ?_)
  refine wpAny_passesOwn hp (thn (hb _ s6 σ6 H6 _ I6 q6) fun f s7 q7 => ?_)
  have again : ∀ {σ7 : St} {H7 : Hp}, Inv X (pins ++ pinsAt fp s5.heap) σ7 H7 s7 -> N σ7 H7 -> ∃ m, m < n /\ ∃ i σ' H', Inv X pins σ' H' s7 /\ tn i s7.heap /\ (∀ b ∈ fp, H' b = none) /\ W i m σ' H' := fun {σ7 H7} I7 n7 => by
   obtain ⟨m', hm, w7⟩ := hN σ7 H7 n7
   refine ⟨m', hm, i + 1, σ7, H7, I7.unpinned, T.keep _ _ _ st5 fun b hb o e => (I7.pin (b, o) (List.mem_append_right _ (List.mem_append_right _ (mem_pinsAt hb e)))).1, fun b hb => ?_, w7⟩
   obtain ⟨o, e, d⟩ := T.obj _ _ st5 b hb
   exact (I7.pin (b, o) (List.mem_append_right _ (List.mem_append_right _ (mem_pinsAt hb e)))).2.1
  cases f with
  | next => obtain ⟨σ7, H7, I7, n7⟩ := q7; exact again I7 n7
  | cont => obtain ⟨σ7, H7, I7, n7⟩ := q7; exact again I7 n7
  | brk => obtain ⟨σ7, H7, I7, q7⟩ := q7; exact ⟨σ7, H7, I7.unpinned, q7⟩
  | ret v => exact q7
end
end L2
namespace L2
open PySem PySem.Spec PyProof.Rows
abbrev R2 := V -> V -> Hp -> VK -> Prop
def OpR (X : Cx) (f : Value -> Value -> Sem Value) (r : R2) : Prop :=
 ∀ (pins : List (Addr × Obj)) (s : Shared) (σ : St) (H : Hp) (x y : V) (v u : Value) (Q : VK), Inv X pins σ H s -> RelV x v -> RelV y u -> r x y H Q ->
  wpAny (model X.prog X.w) X.A (f v u) (EP X pins σ Q) X.xe s
def CallR (X : Cx) (f : Value) (r : List V -> Hp -> VK -> Prop) : Prop :=
 ∀ (pins : List (Addr × Obj)) (s : Shared) (σ : St) (H : Hp) (xs : List V) (us : List Value) (Q : VK), Inv X pins σ H s -> Vals xs us -> r xs H Q ->
  wpAny (model X.prog X.w) X.A (call f us) (EP X pins σ Q) X.xe s
def tOp (r : R2) (ta tb : TE) : TE := fun σ H Q => ta σ H fun x H1 => tb σ H1 fun y H2 => r x y H2 Q
def rI (C : Int -> Int -> Prop) (g : Int -> Int -> V) : R2 := fun x y H Q => ∃ i j, x = .int i /\ y = .int j /\ C i j /\ Q (g i j) H
def rI0 (g : Int -> Int -> V) : R2 := fun x y H Q => ∃ i j, x = .int i /\ y = .int j /\ Q (g i j) H
section
variable {X : Cx} {a b c : Expr} {ta tb tc : TE} {pos : Pos}
theorem binT (ha : PE X a ta) (hb : PE X b tb) {pins : List (Addr × Obj)} {s : Shared} {σ : St} {H : Hp} {R : V -> V -> Hp -> Prop} (I : Inv X pins σ H s)
  (h : ta σ H fun x H1 => tb σ H1 fun y H2 => R x y H2) {Q : Value -> Shared -> Prop} {f : Value -> Value -> Sem Value}
  (hf : ∀ v u s2 x y H2, Inv X pins σ H2 s2 -> RelV x v -> RelV y u -> R x y H2 -> wpAny (model X.prog X.w) X.A (f v u) Q X.xe s2) :
  wpAny (model X.prog X.w) X.A (eval a X.env) (fun v s₁ => wpAny (model X.prog X.w) X.A (eval b X.env) (fun u s₂ => wpAny (model X.prog X.w) X.A (f v u) Q X.xe s₂) X.xe s₁) X.xe s := by
 refine thn (ha pins s σ H _ I h) fun v s1 ⟨x, H1, I1, r1, q1⟩ => ?_
 refine thn (hb pins s1 σ H1 _ I1 q1) fun u s2 ⟨y, H2, I2, r2, q2⟩ => ?_
 exact hf v u s2 x y H2 I2 r1 r2 q2
theorem pe_op {op : Operator} {r : R2} (ho : OpR X (binaryOp op) r) (ha : PE X a ta) (hb : PE X b tb) : PE X (.BinOp a op b pos) (tOp r ta tb) := by
 intro pins s σ H Q I h
 exact wpAny_BinOp (binT ha hb I h fun v u s2 x y H2 I2 rx ry q => ho pins s2 σ H2 x y v u Q I2 rx ry q)
theorem opI {f : Value -> Value -> Sem Value} {C : Int -> Int -> Prop} {g : Int -> Int -> Int}
  (rule : ∀ (i j : Int) (t u : Tok) (s : Shared) (Q : Value -> Shared -> Prop) (E : Value -> Shared -> Prop), C i j -> Q (.int (g i j) s.toks) { s with toks := s.toks + 1 } -> wpAny (model X.prog X.w) X.A (f (.int i t) (.int j u)) Q E s) :
  OpR X f (rI C fun i j => .int (g i j)) := by
 intro pins s σ H x y v u Q I rx ry h
 obtain ⟨i, j, rfl, rfl, hc, q⟩ := h
 obtain ⟨t, rfl⟩ := rx
 obtain ⟨t', rfl⟩ := ry
 exact rule i j t t' s _ _ hc ⟨.int (g i j), H, I.tok _, ⟨_, rfl⟩, q⟩
theorem opI0 {f : Value -> Value -> Sem Value} {g : Int -> Int -> Int}
  (rule : ∀ (i j : Int) (t u : Tok) (s : Shared) (Q : Value -> Shared -> Prop) (E : Value -> Shared -> Prop), Q (.int (g i j) s.toks) { s with toks := s.toks + 1 } -> wpAny (model X.prog X.w) X.A (f (.int i t) (.int j u)) Q E s) :
  OpR X f (rI0 fun i j => .int (g i j)) := by
 intro pins s σ H x y v u Q I rx ry h
 obtain ⟨i, j, rfl, rfl, q⟩ := h
 obtain ⟨t, rfl⟩ := rx
 obtain ⟨t', rfl⟩ := ry
 exact rule i j t t' s _ _ ⟨.int (g i j), H, I.tok _, ⟨_, rfl⟩, q⟩
theorem opB0 {f : Value -> Value -> Sem Value} {g : Int -> Int -> Bool}
  (rule : ∀ (i j : Int) (t u : Tok) (s : Shared) (Q : Value -> Shared -> Prop) (E : Value -> Shared -> Prop), Q (.bool (g i j)) s -> wpAny (model X.prog X.w) X.A (f (.int i t) (.int j u)) Q E s) :
  OpR X f (rI0 fun i j => .bl (g i j)) := by
 intro pins s σ H x y v u Q I rx ry h
 obtain ⟨i, j, rfl, rfl, q⟩ := h
 obtain ⟨t, rfl⟩ := rx
 obtain ⟨t', rfl⟩ := ry
 exact rule i j t t' s _ _ ⟨.bl (g i j), H, I, rfl, q⟩
def CDiv (i j : Int) : Prop := 0 < j /\ j < 1073741824
def CPow (i j : Int) : Prop := 0 <= j /\ j <= 1000000 /\ i.natAbs < 2 ^ 64
def CMul (i j : Int) : Prop := (-(2 ^ 64) < i /\ i < 2 ^ 64) \/ (-(2 ^ 64) < j /\ j < 2 ^ 64)
theorem CMul.ok {i j : Int} (h : CMul i j) : IntMulOk i j := by
 rcases h with ⟨h1, h2⟩ | ⟨h1, h2⟩
 ·exact .of_left (intBits_le_64 h1 h2)
 ·exact .of_right (intBits_le_64 h1 h2)
theorem two_pow_nn (k : Nat) : (0 : Int) <= 2 ^ k := by
 rw [two_pow_cast]
 exact Int.natCast_nonneg _
theorem op_add : OpR X (binaryOp .Add) (rI0 fun i j => .int (i + j)) := opI0 fun _ _ _ _ _ _ _ q => add_int q
theorem op_sub : OpR X (binaryOp .Sub) (rI0 fun i j => .int (i - j)) := opI0 fun _ _ _ _ _ _ _ q => sub_int q
theorem op_mul : OpR X (binaryOp .Mult) (rI CMul fun i j => .int (i * j)) := opI fun _ _ _ _ _ _ _ hc q => mul_int q hc.ok
theorem op_fdiv : OpR X (binaryOp .FloorDiv) (rI CDiv fun i j => .int (i / j)) := opI fun i j _ _ _ _ _ hc q => by
 have h1 : (0 : Int) < j := hc.1
 have h2 : j < 1073741824 := hc.2
 exact floordiv_int (by omega) (by rw [Int.fdiv_eq_ediv_of_nonneg i (by omega)]; exact q) (.inl (PyProof.noPylong_small (by omega)))
theorem op_mod : OpR X (binaryOp .Mod) (rI (fun _ j => 0 < j) fun i j => .int (i % j)) := opI fun i j _ _ _ _ _ hc q => by
 have h1 : (0 : Int) < j := hc
 exact mod_int' (by omega) (by rw [Int.fmod_eq_emod_of_nonneg i (by omega)]; exact q)
theorem op_pow : OpR X (binaryOp .Pow) (rI CPow fun i j => .int (i ^ j.toNat)) := opI fun _ _ _ _ _ _ _ hc q => pow_int_small hc.1 hc.2.1 hc.2.2 q
theorem op_shl : OpR X (binaryOp .LShift) (rI CPow fun i j => .int (i * 2 ^ j.toNat)) := opI fun _ _ _ _ _ _ _ hc q => lshift_int_small hc.1 hc.2.1 hc.2.2 q
theorem op_shr : OpR X (binaryOp .RShift) (rI (fun _ j => 0 <= j) fun i j => .int (i / 2 ^ j.toNat)) := opI fun i j _ _ _ _ _ hc q =>
 rshift_int hc (by rw [Int.fdiv_eq_ediv_of_nonneg i (two_pow_nn _)]; exact q)
theorem op_and : OpR X (binaryOp .BitAnd) (rI0 fun i j => .int (Builtin.bitAnd i j)) := opI0 fun _ _ _ _ _ _ _ q => and_int q
theorem op_or : OpR X (binaryOp .BitOr) (rI0 fun i j => .int (Builtin.bitOr i j)) := opI0 fun _ _ _ _ _ _ _ q => or_int q
theorem op_xor : OpR X (binaryOp .BitXor) (rI0 fun i j => .int (Builtin.bitXor i j)) := opI0 fun _ _ _ _ _ _ _ q => xor_int q
end
section
variable {X : Cx} {a b c : Expr} {ta tb tc : TE} {pos : Pos}
theorem op_lt : OpR X (compareOp .Lt) (rI0 fun i j => .bl (decide (i < j))) := opB0 fun _ _ _ _ _ _ _ q => lt_int q
theorem OpR.or {f : Value -> Value -> Sem Value} {r r' : R2} (h : OpR X f r) (h' : OpR X f r') : OpR X f (fun x y H Q => r x y H Q \/ r' x y H Q) := by
 intro pins s σ H x y v u Q I rx ry q
 rcases q with q | q
 ·exact h pins s σ H x y v u Q I rx ry q
 ·exact h' pins s σ H x y v u Q I rx ry q
theorem nomark (b : Expr) {op : CmpOp} (h : op ≠ .In := by decide) (h2 : op ≠ .NotIn := by decide) : behindInMarks op b = false := by
 have e1 : (op == CmpOp.In) = false := by cases op <;> first | rfl | exact absurd rfl h
 have e2 : (op == CmpOp.NotIn) = false := by cases op <;> first | rfl | exact absurd rfl h2
 cases b <;> simp [behindInMarks, e1, e2]
theorem pe_cmpR {op : CmpOp} {r : R2} (ho : OpR X (compareOp op) r) (ha : PE X a ta) (hb : PE X b tb) (hm : behindInMarks op b = false) : PE X (.Compare a [op] [b] pos) (tOp r ta tb) := by
 intro pins s σ H Q I h
 exact wpAny_Compare1 (binT ha hb I h fun v u s2 x y H2 I2 rx ry q => ho pins s2 σ H2 x y v u Q I2 rx ry q) hm
def tTest (t : TE) : TT := fun σ H Q => t σ H fun x H' => ∃ k, x = .bl k /\ Q k H'
theorem pt_cmpR {op : CmpOp} {r : R2} (ho : OpR X (compareOp op) r) (ha : PE X a ta) (hb : PE X b tb) (hm : behindInMarks op b = false) : PT X (.Compare a [op] [b] pos) (tTest (tOp r ta tb)) := by
 intro pins s σ H Q I h
 refine wpAny_isTrue_Compare1 (thn (ha pins s σ H _ I h) fun v s1 ⟨x, H1, I1, r1, q1⟩ => thn (hb pins s1 σ H1 _ I1 q1) fun u s2 ⟨y, H2, I2, r2, q2⟩ =>
  thn (ho pins s2 σ H2 x y v u _ I2 r1 r2 q2) fun c s3 ⟨z, H3, I3, r3, k, e, q3⟩ => ?_) hm
 subst e
 cases r3
 exact wpAny_truthy_bool ⟨H3, I3, q3⟩
theorem line63 : (sizeLine : Nat) < 2 ^ 63 := by rw [sizeLine_eq]; decide
theorem vals1 {x : V} {us : List Value} (r : Vals [x] us) : ∃ u, us = [u] /\ RelV x u := by
 cases r with
 | cons r1 r2 => cases r2; exact ⟨_, rfl, r1⟩
theorem vals2 {x y : V} {us : List Value} (r : Vals [x, y] us) : ∃ u w', us = [u, w'] /\ RelV x u /\ RelV y w' := by
 cases r with
 | cons r1 r2 =>
  cases r2 with
  | cons r3 r4 => cases r4; exact ⟨_, _, rfl, r1, r3⟩
def LenV (K : Fg) (x : V) (H : Hp) (n : Nat) : Prop :=
 match x with
 | .str y => y.length <= sizeLine /\ n = y.length
 | .byt y => y.size <= sizeLine /\ n = y.size
 | .ref p => (∃ xs, SqL K H p xs /\ n = xs.length) \/ ∃ xs, SqT K H p xs /\ n = xs.length
 | _ => False
theorem call_len : CallR X (.builtin "len") (fun xs H Q => ∃ x n, xs = [x] /\ LenV X.K x H n /\ Q (.int n) H) := by
 intro pins s σ H xs us Q I r h
 obtain ⟨x, n, rfl, e, q⟩ := h
 obtain ⟨u, rfl, rx⟩ := vals1 r
 have hl := line63
 have hs : sizeLine = 16777216 := sizeLine_eq
 cases x with
 | str y =>
  obtain ⟨t, rfl⟩ := rx
  obtain ⟨hy, e'⟩ : y.length <= sizeLine /\ n = y.length := e
  subst e'
  exact len_str (by omega) ⟨.int _, H, I.tok _, ⟨_, rfl⟩, q⟩
 | byt y =>
  obtain ⟨t, rfl⟩ := rx
  obtain ⟨hy, e'⟩ : y.size <= sizeLine /\ n = y.size := e
  subst e'
  exact PySem.W.len_bytes (by omega) ⟨.int _, H, I.tok _, ⟨_, rfl⟩, q⟩
 | ref p =>
  cases rx
  have e' : (∃ xs, SqL X.K H p xs /\ n = xs.length) \/ ∃ xs, SqT X.K H p xs /\ n = xs.length := e
  rcases e' with ⟨xs, hx, e'⟩ | ⟨xs, hx, e'⟩
  ·subst e'
   obtain ⟨its, r', pl, hz⟩ := I.list hx
   have hlen := r'.length
   exact Calls.call_len_list pl.isList (by simp only [List.size_toArray]; omega) ⟨.int xs.length, H, I.tok _, ⟨_, by simp only [List.size_toArray]; rw [hlen]⟩, q⟩
  ·subst e'
   obtain ⟨its, r', pl, hz⟩ := I.tuple hx
   have hlen := r'.length
   exact len_tuple pl (by simp only [List.size_toArray]; omega) ⟨.int xs.length, H, I.tok _, ⟨_, by simp only [List.size_toArray]; rw [hlen]⟩, q⟩
 | _ => exact (show False from e).elim
end
end L2
namespace L2
open PySem PySem.Spec PyProof.Rows
structure ObjM (h : Heap) (x dx C : Addr) (mA : Str -> Option Value) : Prop where
 obj : h.get? x = some (PySem.W.instObj C dx)
 ns : h.Ns1 dx mA
 ne : dx ≠ x
theorem lookIn_ns {h : Heap} {dx : Addr} {mA : Str -> Option Value} (n : h.Ns1 dx mA) : ∃ od, h.get? dx = some od /\ ∀ name, PySem.W.lookIn name od = some (mA name) := by
 obtain ⟨o, es, ep, ho, hd, hk, _, hm⟩ := n
 refine ⟨o, ho, fun name => ?_⟩
 have e := hm name
 unfold nsFind findBy at e
 rw [<- Array.find?_toList] at e
 unfold PySem.W.lookIn
 rw [hd]
 dsimp only
 split
 ·rename_i y q
  rw [q] at e
  exact congrArg some e
 ·rename_i q
  rw [q] at e
  have a : es.toList.any (·.refKey) = false := by
   rw [List.any_eq_false]
   intro y hy
   obtain ⟨z, t, hkey⟩ := hk y (Array.mem_toList_iff.mp hy)
   simp [DictEntry.refKey, hkey]
  have a' : ¬ es.toList.any (·.refKey) = true := by rw [a]; exact Bool.false_ne_true
  rw [if_neg a']
  exact congrArg some e
theorem ObjM.look {h : Heap} {x dx C : Addr} {mA : Str -> Option Value} (I : ObjM h x dx C mA) : ∃ od, PySem.W.InstAt h x (PySem.W.instObj C dx) C (some od) /\ ∀ name, PySem.W.lookIn name od = some (mA name) :=
 let ⟨od, ho, hl⟩ := lookIn_ns I.ns
 ⟨od, ⟨I.obj, rfl, rfl, ho⟩, hl⟩
section
variable {prog : Program} {w : World} {A : Around} {E : Value -> Shared -> Prop} {s : Shared} {K : Fg} {x dx C f : Addr} {mA : Str -> Option Value} {name : Str} {v : Value}
theorem get_map {expr : Bool} {Q : Value -> Shared -> Prop} (X : K.In s.heap) (I : ObjM s.heap x dx C mA) (hg : PySem.W.plainGet K C name = true) (hh : PySem.W.hasDictIn K C = true)
  (ha : PySem.W.findIn K (.ref C) name = some none) (hv : mA name = some v) (hv' : PySem.W.handedIn v = true) (h : Q v { s with toks := s.toks + 1 }) :
  wpAny (model prog w) A (getAttr (.ref x) name expr) Q E s := by
 obtain ⟨od, J, hl⟩ := I.look
 exact PySem.W.get_value X J (PySem.W.plainGet_of hg).1 (PySem.W.findObj_own hh ha rfl (by rw [hl, hv])) hv' h
theorem get_meth {pl : Sem Bool} {Q : Value × List Value -> Shared -> Prop} (X : K.In s.heap) (I : ObjM s.heap x dx C mA) (hg : PySem.W.plainGet K C name = true)
  (hf : PySem.W.findIn K (.ref C) name = some (some (.ref f))) (ht : PySem.W.isFn K (.ref f) = true) (hv : mA name = none) (h : Q (.ref f, [.ref x]) s) :
  wpAny (model prog w) A (getMethod (.ref x) name pl) Q E s := by
 obtain ⟨od, J, hl⟩ := I.look
 exact PySem.W.method_fn X J (PySem.W.plainGet_of hg).1 (PySem.W.plainGet_of hg).2 hf (beq_iff_eq.mp ht) (by show (PySem.W.lookIn name od).map (·.isSome) = some false; rw [hl, hv]; rfl) h
theorem set_map {ns : List Str} {Q : Unit -> Shared -> Prop} (X : K.In s.heap) (I : ObjM s.heap x dx C mA)
  (hs : PySem.W.findIn K (.ref C) "__setattr__" = some (some (.builtin "object.__setattr__"))) (hp : PySem.W.plainOver K C = true) (ht : PySem.W.takerIn K C name = some none) (hh : PySem.W.hasDictIn K C = true)
  (hw : PySem.Within mA ns) (hsz : ns.length <= sizeLine)
  (h : ∀ h', ObjM h' x dx C (fun y => if y = name then some v else mA y) -> Heap.SameBut dx s.heap h' -> Q () { s with heap := h', toks := s.toks + 2 }) :
  wpAny (model prog w) A (setAttr (.ref x) name v) Q E s := by
 obtain ⟨od, J, hl⟩ := I.look
 refine PySem.W.set_plain X J hs (PySem.W.osa_open (s := { s with toks := s.toks + 1 }) (r := none) X J hp ht fun b => ?_)
 obtain ⟨cd, hc, hd'⟩ := PySem.W.any_some hh
 have hx : s.heap.get? x = some ⟨.ref C, some dx, .plain, #[]⟩ := I.obj
 refine wpAny_bind (wpAny_pure (wpAny_bind (wpAny_bind (wpAny_loadPart hx (wpAny_bind (PySem.W.Looks.here (s := { s with toks := s.toks + 1 }) (PySem.W.looks_clsIn X hc) ?_))))))
 rw [hd']
 refine wpAny_pure (a := some dx) (wpAny_bind (wpAny_pure (wpAny_bind ?_)))
 refine wpAny_nsSet1 (s := { s with toks := s.toks + 1 }) I.ns fun h' hn2 hs2 => ?_
 obtain ⟨oD, esD, epD, hoD, hdD, hcD⟩ := hn2.count (PySem.Within.cons name v hw)
 refine wpAny_bind (wpAny_lookBehind hoD (by rw [hdD]; exact pastItsLine_dict (Nat.le_trans hcD (by rw [List.length_cons]; omega))) ?_)
 exact wpAny_pure (h _ ⟨(hs2.2 _ (Ne.symm I.ne)).trans I.obj, hn2, I.ne⟩ hs2)
theorem make_map {R : Result -> Shared -> Prop} {vs : List Value} {kw : List (Str × Value)} (X : K.In s.heap) (hm : PySem.W.makesIn K C = true)
  (hi : PySem.W.findIn K (.ref C) "__init__" = some (some (.ref f))) (hf : PySem.W.typeIn K (.ref f) = some (.type "function"))
  (h : codeAny (model prog w) (A.under (.builtin "type.__call__" ⟨.ref C :: vs, kw⟩)) (.call (.ref f) ⟨.ref (s.heap.objs.size + 1) :: vs, kw⟩) (PySem.W.InitBack (s.heap.objs.size + 1) R)
   { s with heap := (s.heap.push PySem.W.emptyDict).push (PySem.W.instObj C s.heap.objs.size) }) :
  codeAny (model prog w) A (.call (.ref C) ⟨vs, kw⟩) R s := by
 obtain ⟨hh, g, d, t, os⟩ := s
 exact PySem.W.make_core (PySem.W.makes_of X hm) (PySem.W.looks_findIn X hi) (fun self => PySem.W.bind_fn X self hf) (.inl rfl) h
theorem make_map0 {R : Result -> Shared -> Prop} (X : K.In s.heap) (hm : PySem.W.makesIn K C = true)
  (hi : PySem.W.findIn K (.ref C) "__init__" = some (some (.builtin "object.__init__")))
  (hb : ∀ self, PySem.W.Looks (model prog w) s.heap (bindSpecial (.builtin "object.__init__") self) (.builtin "object.__init__", [self]))
  (h : codeAny (model prog w) (A.under (.builtin "type.__call__" ⟨[.ref C], []⟩)) (.call (.builtin "object.__init__") ⟨[.ref (s.heap.objs.size + 1)], []⟩) (PySem.W.InitBack (s.heap.objs.size + 1) R)
   { s with heap := (s.heap.push PySem.W.emptyDict).push (PySem.W.instObj C s.heap.objs.size) }) :
  codeAny (model prog w) A (.call (.ref C) ⟨[], []⟩) R s := by
 obtain ⟨hh, g, d, t, os⟩ := s
 exact PySem.W.make_core (PySem.W.makes_of X hm) (PySem.W.looks_findIn X hi) hb (.inr ⟨rfl, rfl⟩) h
end
def putF (f : Str) (v : V) : List (Str × V) -> List (Str × V)
 | [] => [(f, v)]
 | (g, x) :: r => if g = f then (g, v) :: r else (g, x) :: putF f v r
theorem lookup_putF (f g : Str) (v : V) : ∀ fs : List (Str × V), (putF f v fs).lookup g = if g = f then some v else fs.lookup g
 | [] => by
  show List.lookup g [(f, v)] = _
  by_cases h : g = f
  ·have hb : (g == f) = true := beq_iff_eq.mpr h
   simp only [List.lookup, hb, if_pos h]
  ·have hb : (g == f) = false := beq_eq_false_iff_ne.mpr h
   simp only [List.lookup, hb, if_neg h]
 | (k, x) :: r => by
  have ih := lookup_putF f g v r
  rw [show putF f v ((k, x) :: r) = (if k = f then (k, v) :: r else (k, x) :: putF f v r) from rfl]
  by_cases hk : k = f
  ·rw [if_pos hk]
   by_cases h : g = k
   ·have hb : (g == k) = true := beq_iff_eq.mpr h
    simp only [List.lookup, hb, if_pos (h.trans hk)]
   ·have hb : (g == k) = false := beq_eq_false_iff_ne.mpr h
    simp only [List.lookup, hb, if_neg (fun e : g = f => h (e.trans hk.symm))]
  ·rw [if_neg hk]
   by_cases h : g = k
   ·have hb : (g == k) = true := beq_iff_eq.mpr h
    simp only [List.lookup, hb, if_neg (fun e : g = f => hk (h.symm.trans e))]
   ·have hb : (g == k) = false := beq_eq_false_iff_ne.mpr h
    simp only [List.lookup, hb]
    exact ih
theorem keys_putF (f : Str) (v : V) : ∀ fs : List (Str × V), f ∈ (putF f v fs).map (·.1) /\ ∀ g, g ∈ fs.map (·.1) -> g ∈ (putF f v fs).map (·.1)
 | [] => ⟨by simp [putF], fun g h => by simp at h⟩
 | (k, x) :: r => by
  obtain ⟨i1, i2⟩ := keys_putF f v r
  rw [show putF f v ((k, x) :: r) = (if k = f then (k, v) :: r else (k, x) :: putF f v r) from rfl]
  by_cases hk : k = f
  ·rw [if_pos hk]
   subst hk
   exact ⟨by simp, fun g h => by simpa using h⟩
  ·rw [if_neg hk]
   refine ⟨?_, fun g h => ?_⟩
   ·rw [List.map_cons]
    exact List.mem_cons_of_mem _ i1
   ·rw [List.map_cons] at h ⊢
    rcases List.mem_cons.mp h with e | e
    ·exact List.mem_cons.mpr (.inl e)
    ·exact List.mem_cons_of_mem _ (i2 g e)
theorem length_putF (f : Str) (v : V) : ∀ fs : List (Str × V), (putF f v fs).length <= fs.length + 1
 | [] => by simp [putF]
 | (k, x) :: r => by
  have ih := length_putF f v r
  rw [show putF f v ((k, x) :: r) = (if k = f then (k, v) :: r else (k, x) :: putF f v r) from rfl]
  by_cases hk : k = f
  ·rw [if_pos hk, List.length_cons, List.length_cons]; omega
  ·rw [if_neg hk, List.length_cons, List.length_cons]; omega
theorem RelO.some_of {v : V} {o : Option Value} (r : RelO (some v) o) : ∃ u, o = some u /\ RelV v u := by
 cases o with
 | none => exact (show False from r).elim
 | some u => exact ⟨u, rfl, r⟩
theorem RelO.none_of {o : Option Value} (r : RelO none o) : o = none := by
 cases o with
 | none => rfl
 | some u => exact (show False from r).elim
theorem handed_of {v : V} {u : Value} (r : RelV v u) : PySem.W.handedIn u = true := by
 cases v with
 | non => cases (show u = Value.none from r); rfl
 | bl b => cases (show u = Value.bool b from r); rfl
 | int i => obtain ⟨t, e⟩ := (show ∃ t, u = Value.int i t from r); cases e; rfl
 | str x => obtain ⟨t, e⟩ := (show ∃ t, u = Value.str x t from r); cases e; rfl
 | byt b => obtain ⟨t, e⟩ := (show ∃ t, u = Value.bytes b t from r); cases e; rfl
 | flt b => obtain ⟨t, e⟩ := (show ∃ t, u = Value.float b t from r); cases e; rfl
 | ref a => cases (show u = Value.ref a from r); rfl
 | ty n => cases (show u = Value.type n from r); rfl
section
variable {P : Program} {w : World} {H H' : Hp} {h h' : Heap} {a C dx : Addr} {fs fs' : List (Str × V)}
theorem ins_get (hok : HOk P w H h) (e : H a = some (.ins C dx fs)) : ∃ mA, ObjM h a dx C mA /\ (∀ f, RelO (fs.lookup f) (mA f)) /\ PySem.Within mA (fs.map (·.1)) /\ fs.length <= 1000 /\ H dx = some (.own a) := by
 obtain ⟨d, z, ne, ob, mA, n, r, q⟩ := (show ObjOk P w H h a (.ins C dx fs) from hok a _ e)
 exact ⟨mA, ⟨ob, n, ne⟩, r, q, z, d⟩
end
structure Cls (K : Fg) (C : Addr) : Prop where
 pg : PySem.W.plainGet K C Str.empty = true
 hd : PySem.W.hasDictIn K C = true
 po : PySem.W.plainOver K C = true
 sa : PySem.W.findIn K (.ref C) "__setattr__" = some (some (.builtin "object.__setattr__"))
theorem Cls.get {K : Fg} {C : Addr} (c : Cls K C) (f : Str) : PySem.W.plainGet K C f = true := c.pg
def NoAttr (K : Fg) (C : Addr) (f : Str) : Prop := PySem.W.findIn K (.ref C) f = some none
theorem NoAttr.taker {K : Fg} {C : Addr} {f : Str} (n : NoAttr K C f) : PySem.W.takerIn K C f = some none := by
 unfold PySem.W.takerIn
 rw [show PySem.W.findIn K (.ref C) f = some none from n]
 rfl
structure Con (K : Fg) (C : Addr) (f : Str) (v : V) (u : Value) : Prop where
 at_ : PySem.W.findIn K (.ref C) f = some (some u)
 rel : RelV v u
 get : PySem.W.specialIn K u "__get__" = some none
 cp : PySem.W.copiedNames.contains f = false
structure Meth (K : Fg) (C : Addr) (m : Str) (f : Addr) : Prop where
 at_ : PySem.W.findIn K (.ref C) m = some (some (.ref f))
 fn : PySem.W.isFn K (.ref f) = true
 kp : PySem.W.keepIn K (.ref f) = true
section
variable {X : Cx} {pins : List (Addr × Obj)} {σ : St} {H : Hp} {s : Shared} {a C dx : Addr} {fs : List (Str × V)} {f : Str} {v : V} {A : Around} {E : Value -> Shared -> Prop}
theorem getattr_ok {b : Bool} {Q : Value -> Shared -> Prop} (I : Inv X pins σ H s) (e : H a = some (.ins C dx fs)) (c : Cls X.K C) (n : NoAttr X.K C f) (l : fs.lookup f = some v)
  (h : ∀ u s', Inv X pins σ H s' -> RelV v u -> Q u s') : wpAny (model X.prog X.w) A (getAttr (.ref a) f b) Q E s := by
 obtain ⟨mA, O, r, _, _, _⟩ := ins_get I.hok e
 obtain ⟨u, hu, ru⟩ := RelO.some_of (v := v) (o := mA f) (by rw [<- l]; exact r f)
 exact get_map I.kIn O (c.get f) c.hd n hu (handed_of ru) (h u _ (I.tok _) ru)
theorem getmeth_ok {m : Str} {g : Addr} {pl : Sem Bool} {Q : Value × List Value -> Shared -> Prop} (I : Inv X pins σ H s) (e : H a = some (.ins C dx fs)) (c : Cls X.K C) (k : Meth X.K C m g) (l : fs.lookup m = none)
  (h : Q (.ref g, [.ref a]) s) : wpAny (model X.prog X.w) A (getMethod (.ref a) m pl) Q E s := by
 obtain ⟨mA, O, r, _, _, _⟩ := ins_get I.hok e
 have hn : mA m = none := RelO.none_of (by rw [<- l]; exact r m)
 exact get_meth I.kIn O (c.get m) k.at_ k.fn hn h
theorem setattr_ok {y : V} {u : Value} {Q : Unit -> Shared -> Prop} (I : Inv X pins σ H s) (e : H a = some (.ins C dx fs)) (c : Cls X.K C) (n : NoAttr X.K C f) (hl : fs.length < 1000) (ry : RelV y u)
  (h : ∀ s', Inv X pins σ (upd H a (.ins C dx (putF f y fs))) s' -> Q () s') : wpAny (model X.prog X.w) A (setAttr (.ref a) f u) Q E s := by
 obtain ⟨mA, O, r, wi, _, ho⟩ := ins_get I.hok e
 have hz : (fs.map (·.1)).length <= sizeLine := by rw [List.length_map, sizeLine_eq]; omega
 refine set_map I.kIn O c.sa c.po n.taker c.hd wi hz fun h' O' sb => h _ ?_
 have hd : ∃ o, h'.get? dx = some o := let ⟨o, _, _, e', _⟩ := O'.ns; ⟨o, e'⟩
 refine I.write (x := a) (e := dx) (by rw [e]; exact True.intro) (.inr ho) (fun b q hb z => (sb.2 b hb).trans z) hd ?_
 refine ⟨by rw [upd_ne O.ne]; exact ho, ?_, O.ne, O'.obj, _, O'.ns, fun g => ?_, fun g hg => ?_⟩
 ·have := length_putF f y fs; omega
 ·show RelO ((putF f y fs).lookup g) (if g = f then some u else mA g)
  rw [lookup_putF]
  by_cases q : g = f
  ·rw [if_pos q, if_pos q]; exact ry
  ·rw [if_neg q, if_neg q]; exact r g
 ·by_cases q : g = f
  ·rw [q]; exact (keys_putF f y fs).1
  ·refine (keys_putF f y fs).2 g (wi g fun z => hg ?_)
   show (if g = f then some u else mA g) = none
   rw [if_neg q]; exact z
theorem Inv.made (I : Inv X pins σ H s) : Inv X pins σ (upd (upd H s.heap.objs.size (.own (s.heap.objs.size + 1))) (s.heap.objs.size + 1) (.ins C s.heap.objs.size []))
  { s with heap := (s.heap.push PySem.W.emptyDict).push (PySem.W.instObj C s.heap.objs.size) } := by
 have e1 : (s.heap.push PySem.W.emptyDict).get? s.heap.objs.size = some PySem.W.emptyDict := Heap.get?_push_size s.heap rfl
 have e2 : ((s.heap.push PySem.W.emptyDict).push (PySem.W.instObj C s.heap.objs.size)).get? (s.heap.objs.size + 1) = some (PySem.W.instObj C s.heap.objs.size) := by
  have := Heap.get?_push_size (s.heap.push PySem.W.emptyDict) (o := PySem.W.instObj C s.heap.objs.size) rfl
  rwa [Heap.size_push] at this
 have e3 : (s.heap.push PySem.W.emptyDict).Ns s.heap.objs.size (fun _ => none) := ⟨PySem.W.emptyDict, #[], _, e1, rfl, (fun e he => absurd he (by simp)), fun _ => rfl⟩
 have I1 := I.laid (a := s.heap.objs.size) (o := .own (s.heap.objs.size + 1)) (h' := s.heap.push PySem.W.emptyDict) (t' := s.toks) (fun b u q => Heap.get?_push_of_some _ q) (Nat.le_refl _) ⟨_, e1⟩
 refine I1.laid (a := s.heap.objs.size + 1) (o := .ins C s.heap.objs.size []) (t' := s.toks) (fun b u q => Heap.get?_push_of_some _ q) (Nat.le_of_eq (Heap.size_push _ _)) ?_
 have ne : s.heap.objs.size ≠ s.heap.objs.size + 1 := Nat.ne_of_lt (Nat.lt_succ_self _)
 refine ⟨by rw [upd_ne ne, upd_same], Nat.zero_le _, ne, e2, fun _ => none, (Heap.Ns1.of_empty e3).at fun o q => Heap.get?_push_of_some _ q, fun _ => True.intro, fun y hy => absurd rfl hy⟩
theorem attr_of {prog : Program} {w : World} {env : Env} {e : Expr} {f : Str} {pos : Pos} {s : Shared} {Q : Value -> Shared -> Prop} (hb : attributeBase e f env (eval e env) = eval e env)
  (h : wpAny (model prog w) A (eval e env) (fun o s₁ => wpAny (model prog w) A (getAttr o f true) Q E s₁) E s) : wpAny (model prog w) A (eval (.Attribute e f pos) env) Q E s :=
 Attribute_any_ h (by rw [arm_eval_Attribute, hb])
end
def tFld (K : Fg) (ta : TE) (f : Str) : TE := fun σ H Q => ta σ H fun x H1 => ∃ a C dx fs v, x = .ref a /\ H1 a = some (.ins C dx fs) /\ Cls K C /\ NoAttr K C f /\ fs.lookup f = some v /\ Q v H1
def sFld (K : Fg) (ta tv : TE) (f : Str) : TS := fun D σ H => tv σ H fun y H1 => ta σ H1 fun x H2 => ∃ a C dx fs, x = .ref a /\ H2 a = some (.ins C dx fs) /\ Cls K C /\ NoAttr K C f /\ fs.length < 1000 /\
 D.nx σ (upd H2 a (.ins C dx (putF f y fs)))
section
variable {X : Cx} {o e value : Expr} {f : Str} {pos pos' tpos : Pos} {ta tv : TE}
theorem pe_fld (he : PE X e ta) (hb : attributeBase e f X.env (eval e X.env) = eval e X.env) : PE X (.Attribute e f pos) (tFld X.K ta f) := by
 intro pins s σ H Q I h
 refine attr_of hb (thn (he pins s σ H _ I h) fun u s1 ⟨x, H1, I1, rx, a, C, dx, fs, v, ex, ea, c, n, l, q⟩ => ?_)
 subst ex
 obtain rfl : u = Value.ref a := rx
 exact getattr_ok I1 ea c n l fun u' s2 I2 ru => ⟨v, H1, I2, ru, q⟩
theorem ps_fld (ha : PE X o ta) (hv : PE X value tv) (hs : swapsWith value (some (.Attribute o f pos')) pos.line X.env = pure false) : PS X (.Assign [.Attribute o f pos'] value pos) (sFld X.K ta tv f) := by
 intro pins s σ H D I h
 refine plainObj_wpAny_Assign_Attribute (thn (hv pins s σ H _ I h) fun u s1 ⟨y, H1, I1, ry, q⟩ => thn (ha pins s1 σ H1 _ I1 q) fun ov s2 ⟨x, H2, I2, rx, a, C, dx, fs, ex, ea, c, n, l, q2⟩ => ?_) hs
 subst ex
 obtain rfl : ov = Value.ref a := rx
 exact setattr_ok I2 ea c n l ry fun s3 I3 => ⟨σ, _, I3, q2⟩
end
section
variable {X : Cx} {pins : List (Addr × Obj)} {σ : St} {H : Hp} {s : Shared} {A : Around} {E : Value -> Shared -> Prop} {Q : Value -> Shared -> Prop} {c : Value} {b : Bool}
inductive TyOf (K : Fg) (H : Hp) : V -> Value -> Prop where
 | non : TyOf K H .non (.type "NoneType")
 | bl (x : Bool) : TyOf K H (.bl x) (.type "bool")
 | int (i : Int) : TyOf K H (.int i) (.type "int")
 | str (x : Str) : TyOf K H (.str x) (.type "str")
 | flt (x : UInt64) : TyOf K H (.flt x) (.type "float")
 | lst {a : Addr} {xs : List V} (e : H a = some (.lst xs)) : TyOf K H (.ref a) (.type "list")
 | frz {a : Addr} {o : Obj} {xs : List V} (e : H a = some (.frz o (.lst xs))) : TyOf K H (.ref a) (.type "list")
 | tup {a : Addr} {xs : List V} (e : H a = some (.tup xs)) : TyOf K H (.ref a) (.type "tuple")
 | dK {a : Addr} {kvs : List (Key × V)} (e : H a = some (.dK kvs)) : TyOf K H (.ref a) (.type "dict")
 | dT {a : Addr} {kvs : List (List Key × V)} (e : H a = some (.dT kvs)) : TyOf K H (.ref a) (.type "dict")
 | ins {a C dx : Addr} {fs : List (Str × V)} (e : H a = some (.ins C dx fs)) (cl : Cls K C) (ha : PySem.W.findIn K (.ref C) "__class__" = some (some (.builtin "object.__class__")))
   (hn : PySem.W.specialIn K (.builtin "object.__class__") "__get__" = some (some (.builtin "getset_descriptor.__get__"))) (htk : PySem.W.takesIn K (.builtin "object.__class__") = some true)
   (hm : PySem.W.mroIn K C (.type "object") = some true) : TyOf K H (.ref a) (.ref C)
theorem isinst_ok {x : V} {u t : Value} (I : Inv X pins σ H s) (rx : RelV x u) (ty : TyOf X.K H x t) (e : PySem.W.kitOne X.K t c = some b) (h : ∀ tk, Q (.bool b) { s with toks := tk }) :
  wpAny (model X.prog X.w) A (call (.builtin "isinstance") [u, c]) Q E s := by
 cases ty with
 | non => cases (show u = Value.none from rx); exact PySem.W.kia_one PySem.W.kitx_none I.kIn True.intro e (fun z => nomatch z) h
 | bl y => cases (show u = Value.bool y from rx); exact PySem.W.kia_one PySem.W.kitx_bool I.kIn True.intro e (fun z => nomatch z) h
 | int i => obtain ⟨t, q⟩ := (show ∃ t, u = Value.int i t from rx); cases q; exact PySem.W.kia_one PySem.W.kitx_int I.kIn True.intro e (fun z => nomatch z) h
 | str y => obtain ⟨t, q⟩ := (show ∃ t, u = Value.str y t from rx); cases q; exact PySem.W.kia_one PySem.W.kitx_str I.kIn True.intro e (fun z => nomatch z) h
 | flt y => obtain ⟨t, q⟩ := (show ∃ t, u = Value.float y t from rx); cases q; exact PySem.W.kia_one PySem.W.kitx_float I.kIn True.intro e (fun z => nomatch z) h
 | @lst a xs ea =>
  cases (show u = Value.ref a from rx)
  obtain ⟨_, _, n, _, h1⟩ := (show ObjOk X.prog X.w H s.heap a (.lst xs) from I.hok a _ ea)
  exact PySem.W.kia_one PySem.W.kitx_list I.kIn ⟨_, h1, rfl⟩ e (fun z => nomatch z) h
 | @frz a ob xs ea =>
  cases (show u = Value.ref a from rx)
  obtain ⟨_, _, _, n, _, h1⟩ := (show ObjOk X.prog X.w H s.heap a (.frz ob (.lst xs)) from I.hok a _ ea)
  exact PySem.W.kia_one PySem.W.kitx_list I.kIn ⟨_, h1, rfl⟩ e (fun z => nomatch z) h
 | @tup a xs ea =>
  cases (show u = Value.ref a from rx)
  obtain ⟨_, _, _, p⟩ := (show ObjOk X.prog X.w H s.heap a (.tup xs) from I.hok a _ ea)
  obtain ⟨o, h1, h2, _⟩ := p
  exact PySem.W.kia_one PySem.W.kitx_tuple I.kIn ⟨o, h1, h2⟩ e (fun z => nomatch z) h
 | @dK a kvs ea =>
  cases (show u = Value.ref a from rx)
  obtain ⟨_, _, vs, _, p⟩ := (show ObjOk X.prog X.w H s.heap a (.dK kvs) from I.hok a _ ea)
  obtain ⟨o, es, ep, h1, h2, _⟩ := p
  exact PySem.W.kia_one PySem.W.kitx_dict I.kIn ⟨o, h1, h2.1⟩ e (fun z => nomatch z) h
 | @dT a kvs ea =>
  cases (show u = Value.ref a from rx)
  obtain ⟨_, _, xs, _, o, es, ep, h1, h2, _⟩ := (show ObjOk X.prog X.w H s.heap a (.dT kvs) from I.hok a _ ea)
  exact PySem.W.kia_one PySem.W.kitx_dict I.kIn ⟨o, h1, h2.1⟩ e (fun z => nomatch z) h
 | @ins a C dx fs ea cl ha hn htk hm =>
  cases (show u = Value.ref a from rx)
  obtain ⟨mA, O, _⟩ := ins_get I.hok ea
  obtain ⟨od, J, _⟩ := O.look
  exact PySem.W.kia_one (PySem.W.kitx_own (cl.get _) cl.hd ha hn htk hm) I.kIn J e (fun z => nomatch z) h
end
end L2
namespace L2
open PySem PySem.Spec PyProof.Rows
structure Room (k : Nat) (A : Around) : Prop where
 hd : A.handled = none
 dp : A.depth + 3 * k + 5 < recursionLimit
 un : A.units + 16 * k + 200 < cLine
theorem Room.mono {j k : Nat} {A : Around} (r : Room k A) (h : j <= k) : Room j A := ⟨r.hd, by have := r.dp; omega, by have := r.un; omega⟩
theorem Room.s {k : Nat} {A : Around} (h : Room (k + 1) A) : Room k A := h.mono (Nat.le_succ _)
theorem Room.deeper {k : Nat} {A : Around} (r : Room (k + 1) A) (env : Env) : Room k (A.deeper env) :=
 ⟨r.hd, by have := r.dp; show A.depth + 1 + 3 * k + 5 < _; omega, by have := r.un; show A.units + 3 + 16 * k + 200 < _; omega⟩
theorem Room.in1 {k : Nat} {A : Around} (r : Room (k + 1) A) : Room k A.in1 :=
 ⟨r.hd, by have := r.dp; show A.depth + 3 * k + 5 < _; omega, by have := r.un; show A.units + 1 + 16 * k + 200 < _; omega⟩
theorem make_depth {A : Around} {C : Addr} {us : List Value} {kw : List (Str × Value)} : (A.under (.builtin "type.__call__" ⟨.ref C :: us, kw⟩)).depth = A.depth + 1 := by
 first | rfl | simp [Around.under, Code.weight, Code.isCreation, Code.isGuard, Code.isCaller, Code.frames, Code.isFrame, guardIds]
theorem make_units {A : Around} {C : Addr} {us : List Value} {kw : List (Str × Value)} : (A.under (.builtin "type.__call__" ⟨.ref C :: us, kw⟩)).units = A.units + 1 := by
 first | rfl | simp [Around.under, Code.cUnits, Code.frames, Code.isFrame]
theorem Room.make {k : Nat} {A : Around} (r : Room (k + 1) A) (C : Addr) (us : List Value) (kw : List (Str × Value)) : Room k (A.under (.builtin "type.__call__" ⟨.ref C :: us, kw⟩)) :=
 ⟨r.hd, by have := r.dp; rw [make_depth]; omega, by have := r.un; rw [make_units]; omega⟩
theorem Room.depth {k : Nat} {A : Around} (r : Room k A) : A.depth < recursionLimit := by have := r.dp; omega
theorem Room.units {k : Nat} {A : Around} (r : Room k A) : A.units + 64 < cLine := by have := r.un; omega
def tNil : TA := fun _ H Q => Q [] H
def tCons (ta : TE) (tr : TA) : TA := fun σ H Q => ta σ H fun x H1 => tr σ H1 fun xs H2 => Q (x :: xs) H2
section
variable {X : Cx} {e : Expr} {es : List Expr} {te : TE} {t : TA} {pos : Pos}
theorem pa_nil : PA X [] tNil := fun _ _ _ _ H Q I h => Calls.spliced_nil ⟨[], H, I, .nil, h⟩
theorem pa_cons (ha : PE X e te) (hr : PA X es t) (hs : starEach (e :: es) X.env = (false, eval e X.env) :: starEach es X.env := by rfl) : PA X (e :: es) (tCons te t) := by
 intro pos pins s σ H Q I h
 rw [hs]
 show wpAny _ _ (spliced ((false, eval e X.env) :: backTo pos (starEach es X.env))) _ _ s
 refine Calls.spliced_cons (thn (ha pins s σ H _ I h) fun u s1 ⟨x, H1, I1, r1, q1⟩ => ?_)
 exact thn (hr pos pins s1 σ H1 _ I1 q1) fun us s2 ⟨xs, H2, I2, r2, q2⟩ => ⟨x :: xs, H2, I2, .cons r1 r2, q2⟩
def tTup (t : TA) : TE := fun σ H Q => t σ H fun xs H1 => xs.length <= sizeLine /\ ∀ p, H1 p = none -> Q (.ref p) (upd H1 p (.tup xs))
def tLst (t : TA) : TE := fun σ H Q => t σ H fun xs H1 => xs.length <= sizeLine /\ ∀ p, H1 p = none -> Q (.ref p) (upd H1 p (.lst xs))
theorem pe_tup {x1} (h : PA X es t) : PE X (.Tuple es x1 pos) (tTup t) := by
 intro pins s σ H Q I hq
 refine wpAny_Tuple_spliced (thn (h pos pins s σ H _ I hq) fun us s1 ⟨xs, H1, I1, r, z, q⟩ => ⟨by rw [<- r.length]; exact z, ?_⟩)
 have hf : H1 s1.heap.objs.size = none := I1.hok.fresh (Nat.le_refl _)
 refine ⟨.ref s1.heap.objs.size, upd H1 s1.heap.objs.size (.tup xs), I1.laid (t' := s1.toks) (fun b u e => Heap.get?_push_of_some _ e) (Nat.le_refl _) ?_, rfl, q _ hf⟩
 exact ⟨z, us, r, ⟨_, Heap.get?_push_size _ rfl, rfl, _, rfl⟩⟩
theorem pe_lst (h : PA X es t) : PE X (.List es pos) (tLst t) := by
 intro pins s σ H Q I hq
 refine wpAny_List_spliced (thn (h pos pins s σ H _ I hq) fun us s1 ⟨xs, H1, I1, r, z, q⟩ => ⟨by rw [<- r.length]; exact z, ?_⟩)
 have hf : H1 s1.heap.objs.size = none := I1.hok.fresh (Nat.le_refl _)
 refine ⟨.ref s1.heap.objs.size, upd H1 s1.heap.objs.size (.lst xs), I1.laid (t' := s1.toks) (fun b u e => Heap.get?_push_of_some _ e) (Nat.le_refl _) ?_, rfl, q _ hf⟩
 exact ⟨z, us, 0, r, Heap.get?_push_size _ rfl⟩
end
abbrev Sp := List V -> Hp -> VK -> XK -> Prop
abbrev CXT := List Env -> Hp -> Shared -> XK -> Value -> Shared -> Prop
structure Env0 (P : Program) (w : World) (K : Fg) (mg : Str -> Option Value) (base : Bs) (A : Around) (outer : List Env) (s : Shared) (H : Hp) : Prop where
 frames : A.frames = some outer
 mod : Mod K mg base
 bs : ∀ b o, base.get? b = some o -> s.heap.get? b = some o /\ H b = none
 bsz : base.objs.size <= s.heap.objs.size
 funs : s.heap.FunFrames base outer
 frf : ∀ b ∈ frs outer, H b = none
 hok : HOk P w H s.heap
 bare : AllBare s.gens
 tab : ∀ P ∈ base.tabs, H P = some (.tbl 0)
def CE (outer : List Env) (P : Program) (w : World) (H : Hp) (s : Shared) (Q : VK) (u : Value) (s' : Shared) : Prop :=
 ∃ v H', s'.os = s.os /\ AllBare s'.gens /\ Un (frs outer) [] H H' s.heap s'.heap /\ HOk P w H' s'.heap /\ RelV v u /\ Q v H'
def CR (CX : CXT) (outer : List Env) (P : Program) (w : World) (H : Hp) (s : Shared) (Q : VK) (E : XK) (r : Result) (s' : Shared) : Prop :=
 match r with
 | .ok (.ret u) => CE outer P w H s Q u s'
 | .ok _ => False
 | .error e => CX outer H s E e s'
structure FnOk (P : Program) (w : World) (K : Fg) (mg : Str -> Option Value) (base : Bs) (CX : CXT) (k : Nat) (f : Addr) (fd : FuncData) (ps : List Str) (sp : Sp) : Prop where
 len : ∀ vs H Q E, sp vs H Q E -> vs.length = ps.length
 run : ∀ (A : Around) (outer : List Env) (s : Shared) (H : Hp) (args : Args) (us : List Value) (vs : List V) (Q : VK) (E : XK), Room k A -> Env0 P w K mg base A outer s H -> BindsTo s fd args (ps.zip us) -> Vals vs us -> sp vs H Q E ->
  codeAny (model P w) A (.call (.ref f) args) (CR CX outer P w H s Q E) s
theorem FnOk.mono {P : Program} {w : World} {K : Fg} {mg : Str -> Option Value} {base : Bs} {CX : CXT} {j k : Nat} {f : Addr} {fd : FuncData} {ps : List Str} {sp : Sp} (F : FnOk P w K mg base CX j f fd ps sp) (h : j <= k) :
  FnOk P w K mg base CX k f fd ps sp := ⟨F.len, fun A outer s H args us vs Q E hr => F.run A outer s H args us vs Q E (hr.mono h)⟩
theorem FnOk.imp {P : Program} {w : World} {K : Fg} {mg : Str -> Option Value} {base : Bs} {CX : CXT} {k : Nat} {f : Addr} {fd : FuncData} {ps : List Str} {sp sp' : Sp} (F : FnOk P w K mg base CX k f fd ps sp)
  (h : ∀ vs H Q E, sp' vs H Q E -> sp vs H Q E) : FnOk P w K mg base CX k f fd ps sp' :=
 ⟨fun vs H Q E q => F.len vs H Q E (h _ _ _ _ q), fun A outer s H args us vs Q E hr he hb hv hs => F.run A outer s H args us vs Q E hr he hb hv (h _ _ _ _ hs)⟩
theorem Env0.make {P : Program} {w : World} {K : Fg} {mg : Str -> Option Value} {base : Bs} {A : Around} {outer : List Env} {s : Shared} {H : Hp} (e : Env0 P w K mg base A outer s H) (C : Addr) (us : List Value) (kw : List (Str × Value)) :
  Env0 P w K mg base (A.under (.builtin "type.__call__" ⟨.ref C :: us, kw⟩)) outer s H := ⟨by first | exact e.frames | (simpa [Around.under, Code.envs, Code.isFrame, pushEnvs] using e.frames), e.mod, e.bs, e.bsz, e.funs, e.frf, e.hok, e.bare, e.tab⟩
theorem Env0.in1 {P : Program} {w : World} {K : Fg} {mg : Str -> Option Value} {base : Bs} {A : Around} {outer : List Env} {s : Shared} {H : Hp} (e : Env0 P w K mg base A outer s H) :
  Env0 P w K mg base A.in1 outer s H := ⟨e.frames, e.mod, e.bs, e.bsz, e.funs, e.frf, e.hok, e.bare, e.tab⟩
section
variable {X : Cx} {pins : List (Addr × Obj)} {σ : St} {H : Hp} {s s' : Shared}
theorem Inv.env0 (I : Inv X pins σ H s) : Env0 X.prog X.w X.K X.mg X.base X.A X.stack s H :=
 ⟨I.ok.frames, I.ok.mod, I.bs, Nat.le_trans I.ok.bsz I.sz, I.stack, I.stkFree, I.hok, I.bare, fun P z => I.base.tbls P 0 (I.ok.tab P z)⟩
theorem Inv.after {Q : VK} {u : Value} (I : Inv X pins σ H s) (h : CE X.stack X.prog X.w H s Q u s') : EP X pins σ Q u s' := by
 obtain ⟨v, H', os, bare, un, hok, r, q⟩ := h
 obtain ⟨hh, g, d, t, os'⟩ := s'
 obtain rfl : os' = s.os := os
 exact ⟨v, H', I.call (h' := hh) (g' := g) (d' := d) (t' := t) (ch := []) un hok bare (fun b z => absurd z (by simp)), r, q⟩
end
def tCall (sp : Sp) (dvs : List V) (E : XK) (t : TA) : TE := fun σ H Q => t σ H fun vs H1 => sp (vs ++ dvs) H1 Q E
def tMake (C : Addr) (sp : Sp) (dvs : List V) (E : XK) (t : TA) : TE := fun σ H Q => t σ H fun vs H1 => ∀ x dx, H1 x = none -> H1 dx = none -> dx ≠ x ->
 sp (.ref x :: (vs ++ dvs)) (upd (upd H1 dx (.own x)) x (.ins C dx [])) (fun v H2 => v = .non /\ Q (.ref x) H2) E
def Binds (K : Fg) (fd : FuncData) (ps : List Str) (ds : List Value) : Prop :=
 ∀ (s : Shared) (us : List Value), K.In s.heap -> (us ++ ds).length = ps.length -> BindsTo s fd ⟨us, []⟩ (ps.zip (us ++ ds))
theorem Binds.all {K : Fg} {fd : FuncData} {ps : List Str} (h : ∀ us : List Value, us.length = ps.length -> bindArgs fd ⟨us, []⟩ = pure (ps.zip us)) : Binds K fd ps [] := fun s us _ hl => by
 rw [List.append_nil] at hl ⊢
 exact .of_eq (h us hl)
def Passes (CX : CXT) (X : Cx) (E : XK) : Prop := ∀ (pins : List (Addr × Obj)) (σ : St) (H : Hp) (s : Shared) (e : Value) (s' : Shared), Inv X pins σ H s -> CX X.stack H s E e s' -> X.xe e s'
section
variable {X : Cx} {CX : CXT} {k : Nat} {f C : Addr} {fd : FuncData} {ps : List Str} {sp : Sp} {dvs : List V} {ds : List Value} {E : XK} {x m : Str} {p pos apos : Pos} {e o : Expr} {es : List Expr} {ta : TE} {t : TA}
theorem run_fn {pins : List (Addr × Obj)} {σ : St} {H : Hp} {s : Shared} {Q : VK} {us : List Value} {vs : List V} (F : FnOk X.prog X.w X.K X.mg X.base CX k f fd ps sp) (hr : Room k X.A) (hb : Binds X.K fd ps ds) (hd : Vals dvs ds) (hx : Passes CX X E)
  (I : Inv X pins σ H s) (r : Vals vs us) (h : sp (vs ++ dvs) H Q E) : wpAny (model X.prog X.w) X.A (call (.ref f) us) (EP X pins σ Q) X.xe s := by
 have r2 : Vals (vs ++ dvs) (us ++ ds) := r.append hd
 have hl : (us ++ ds).length = ps.length := by rw [<- r2.length]; exact F.len _ _ _ _ h
 refine wpAny_call (codeAny_mono (F.run X.A X.stack s H ⟨us, []⟩ (us ++ ds) (vs ++ dvs) Q E hr I.env0 (hb s us I.kIn hl) r2 h) fun r s' hq => ?_)
 cases r with
 | error e => exact hx pins σ H s e s' I hq
 | ok fl =>
  cases fl with
  | ret u => exact I.after hq
  | next => exact False.elim hq
  | brk => exact False.elim hq
  | cont => exact False.elim hq
theorem pe_call (F : FnOk X.prog X.w X.K X.mg X.base CX k f fd ps sp) (hr : Room k X.A) (hg : Gl X x) (hm : X.mg x = some (.ref f)) (hk : PySem.W.keepIn X.K (.ref f) = true) (hb : Binds X.K fd ps ds) (hd : Vals dvs ds) (hx : Passes CX X E)
  (ha : PA X (e :: es) t) (hdb : (x == ("__debug__" : Str)) = false := by decide) (he : starEach (e :: es) X.env = (false, eval e X.env) :: starEach es X.env := by rfl) (hpl : (backTo pos (starEach es X.env)).any (·.1) = false := by rfl) :
  PE X (.Call (.Name x p) (e :: es) [] pos) (tCall sp dvs E t) := by
 intro pins s σ H Q I h
 refine wpAny_Call_Name_kw (ld_glob I hg hm ?_ hdb)
 refine PySem.W.callWith_K (h₀ := X.base) I.ok.mod.kin hk (thn (ha pos pins s σ H _ I h) fun us s1 ⟨vs, H1, I1, r, q⟩ => ⟨I1.kIn, ?_⟩) he hpl
 exact run_fn F hr hb hd hx I1 r q
structure Mk (K : Fg) (C f : Addr) : Prop where
 makes : PySem.W.makesIn K C = true
 init : PySem.W.findIn K (.ref C) "__init__" = some (some (.ref f))
 fn : PySem.W.isFn K (.ref f) = true
 kp : PySem.W.keepIn K (.ref C) = true
theorem run_make {pins : List (Addr × Obj)} {σ : St} {H : Hp} {s : Shared} {Q : VK} {us : List Value} {vs : List V} (M : Mk X.K C f) (F : FnOk X.prog X.w X.K X.mg X.base CX k f fd ps sp) (hr : Room (k + 1) X.A) (hb : Binds X.K fd ps ds) (hd : Vals dvs ds)
  (hx : Passes CX X E) (I : Inv X pins σ H s) (r : Vals vs us)
  (h : ∀ x dx, H x = none -> H dx = none -> dx ≠ x -> sp (.ref x :: (vs ++ dvs)) (upd (upd H dx (.own x)) x (.ins C dx [])) (fun v H2 => v = .non /\ Q (.ref x) H2) E) :
  wpAny (model X.prog X.w) X.A (call (.ref C) us) (EP X pins σ Q) X.xe s := by
 have hq := h (s.heap.objs.size + 1) s.heap.objs.size (I.hok.fresh (Nat.le_succ _)) (I.hok.fresh (Nat.le_refl _)) (Nat.ne_of_lt (Nat.lt_succ_self _))
 have I2 := Inv.made (C := C) I
 have r2 : Vals (V.ref (s.heap.objs.size + 1) :: (vs ++ dvs)) (Value.ref (s.heap.objs.size + 1) :: (us ++ ds)) := .cons rfl (r.append hd)
 have hl : (Value.ref (s.heap.objs.size + 1) :: us ++ ds).length = ps.length := by
  have e := r2.length
  rw [F.len _ _ _ _ hq] at e
  exact e.symm
 refine wpAny_call (make_map (f := f) I.kIn M.makes M.init (beq_iff_eq.mp M.fn) (codeAny_mono (F.run _ X.stack _ _ ⟨Value.ref (s.heap.objs.size + 1) :: us, []⟩ (Value.ref (s.heap.objs.size + 1) :: (us ++ ds)) _ _ E (hr.make C us [])
  (I2.env0.make C us []) (hb _ (Value.ref (s.heap.objs.size + 1) :: us) I2.kIn hl) r2 hq) fun r s' hq' => ?_))
 cases r with
 | error e => exact hx pins σ _ _ e s' I2 hq'
 | ok fl =>
  cases fl with
  | ret u =>
   obtain ⟨v, H', I3, rv, ev, q3⟩ := I2.after hq'
   subst ev
   exact ⟨rv, ⟨V.ref (s.heap.objs.size + 1), H', I3, rfl, q3⟩⟩
  | next => exact False.elim hq'
  | brk => exact False.elim hq'
  | cont => exact False.elim hq'
theorem pe_make (M : Mk X.K C f) (F : FnOk X.prog X.w X.K X.mg X.base CX k f fd ps sp) (hr : Room (k + 1) X.A) (hg : Gl X x) (hm : X.mg x = some (.ref C)) (hb : Binds X.K fd ps ds) (hd : Vals dvs ds) (hx : Passes CX X E)
  (ha : PA X (e :: es) t) (hdb : (x == ("__debug__" : Str)) = false := by decide) (he : starEach (e :: es) X.env = (false, eval e X.env) :: starEach es X.env := by rfl) (hpl : (backTo pos (starEach es X.env)).any (·.1) = false := by rfl) :
  PE X (.Call (.Name x p) (e :: es) [] pos) (tMake C sp dvs E t) := by
 intro pins s σ H Q I h
 refine wpAny_Call_Name_kw (ld_glob I hg hm ?_ hdb)
 refine PySem.W.callWith_K (h₀ := X.base) I.ok.mod.kin M.kp (thn (ha pos pins s σ H _ I h) fun us s1 ⟨vs, H1, I1, r, q⟩ => ⟨I1.kIn, ?_⟩) he hpl
 exact run_make M F hr hb hd hx I1 r q
end
section
variable {X : Cx} {CX : CXT} {k : Nat} {f C : Addr} {fd : FuncData} {ps ks : List Str} {sp : Sp} {E : XK} {x m : Str} {p pos apos kpos : Pos} {e o : Expr} {es : List Expr} {kws : List Keyword} {te ta : TE} {t tk : TA} {nm : Option Str}
structure KBinds (K : Fg) (fd : FuncData) (ps ks : List Str) (g : List Value -> List Value -> List Value) (gV : List V -> List V -> List V) : Prop where
 to : ∀ (s : Shared) (us ws : List Value), K.In s.heap -> (g us ws).length = ps.length -> BindsTo s fd ⟨us, ks.zip ws⟩ (ps.zip (g us ws))
 rel : ∀ {vs : List V} {us : List Value} {zs : List V} {ws : List Value}, Vals vs us -> Vals zs ws -> Vals (gV vs zs) (g us ws)
variable {g : List Value -> List Value -> List Value} {gV : List V -> List V -> List V}
end
structure FnScope (N P : List Str) (sc : Scope) : Prop where
 kind : sc.kind = .function
 co : sc.isCoroutine = false
 gen : sc.isGenerator = false
 nd : N.Nodup
 pre : N.take P.length = P
 par : ∀ x ∈ P, sc.names.lookup x = some .local \/ sc.names.lookup x = some .cell
 nofree : ∀ y ∈ sc.names, y.2 ≠ .free
theorem FnScope.q {N P : List Str} {sc : Scope} (a : sc.kind = .function := by rfl) (b : sc.isCoroutine = false := by rfl) (c : sc.isGenerator = false := by rfl) (d : N.Nodup := by decide +kernel) (e : N.take P.length = P := by rfl) (g : ∀ x ∈ P, sc.names.lookup x = some .local \/ sc.names.lookup x = some .cell := by decide +kernel) (h : ∀ y ∈ sc.names, y.2 ≠ .free := by decide +kernel) : FnScope N P sc := ⟨a, b, c, d, e, g, h⟩
theorem bindL_out {kindOf : Str -> Option NameKind} {x : Str} : ∀ {binds : List (Str × Value)} {m : Str -> Option Value}, (∀ v, (x, v) ∉ binds) -> bindL kindOf binds m x = m x
 | [], _, _ => rfl
 | (n, v) :: r, m, h => by
  unfold bindL
  rw [bindL_out fun w hw => h w (List.mem_cons_of_mem _ hw)]
  split
  ·have : x ≠ n := by rintro rfl; exact h v List.mem_cons_self
   simp [this]
  ·rfl
theorem bindC_out {kindOf : Str -> Option NameKind} {x : Str} : ∀ {binds : List (Str × Value)} {m : Str -> Option Value}, (∀ v, (x, v) ∉ binds) -> bindC kindOf binds m x = m x
 | [], _, _ => rfl
 | (n, v) :: r, m, h => by
  unfold bindC
  rw [bindC_out fun w hw => h w (List.mem_cons_of_mem _ hw)]
  split
  ·rfl
  ·have : x ≠ n := by rintro rfl; exact h v List.mem_cons_self
   simp [this]
theorem bindL_get {kindOf : Str -> Option NameKind} {x : Str} {v : Value} : ∀ {P : List Str} {vs : List Value} {i : Nat} {m : Str -> Option Value}, P.Nodup -> P[i]? = some x -> vs[i]? = some v -> kindOf x = some .local ->
  bindL kindOf (P.zip vs) m x = some v
 | [], _, _, _, _, h, _, _ => by simp at h
 | _ :: _, [], _, _, _, _, h, _ => by simp at h
 | p :: P, w :: vs, 0, m, nd, h1, h2, hk => by
  simp at h1 h2; subst h1; subst h2
  show bindL kindOf ((p, w) :: P.zip vs) m p = _
  unfold bindL
  rw [bindL_out fun v hv => (List.nodup_cons.mp nd).1 (List.of_mem_zip hv).1, if_pos hk]
  simp
 | p :: P, w :: vs, i + 1, m, nd, h1, h2, hk => by
  show bindL kindOf ((p, w) :: P.zip vs) m x = _
  unfold bindL
  exact bindL_get (i := i) (List.nodup_cons.mp nd).2 (by simpa using h1) (by simpa using h2) hk
theorem bindC_get {kindOf : Str -> Option NameKind} {x : Str} {v : Value} : ∀ {P : List Str} {vs : List Value} {i : Nat} {m : Str -> Option Value}, P.Nodup -> P[i]? = some x -> vs[i]? = some v -> kindOf x ≠ some .local ->
  bindC kindOf (P.zip vs) m x = some v
 | [], _, _, _, _, h, _, _ => by simp at h
 | _ :: _, [], _, _, _, _, h, _ => by simp at h
 | p :: P, w :: vs, 0, m, nd, h1, h2, hk => by
  simp at h1 h2; subst h1; subst h2
  show bindC kindOf ((p, w) :: P.zip vs) m p = _
  unfold bindC
  rw [bindC_out fun v hv => (List.nodup_cons.mp nd).1 (List.of_mem_zip hv).1, if_neg hk]
  simp
 | p :: P, w :: vs, i + 1, m, nd, h1, h2, hk => by
  show bindC kindOf ((p, w) :: P.zip vs) m x = _
  unfold bindC
  exact bindC_get (i := i) (List.nodup_cons.mp nd).2 (by simpa using h1) (by simpa using h2) hk
def start (N : List Str) (vs : List V) : St := vs.map some ++ List.replicate (N.length - vs.length) none
def cxOf (CX : CXT) (P : Program) (w : World) (K : Fg) (mg : Str -> Option Value) (base : Bs) (N : List Str) (qual : Str) (scope : Scope) (f : Addr) (cd : Value) (A : Around) (outer : List Env) (s : Shared) (H : Hp) (E : XK) : Cx where
 prog := P
 w := w
 K := K
 mg := mg
 base := base
 A := A.deeper (envOfC qual scope s.heap.objs.size f cd)
 N := N
 s₀ := s
 H₀ := H
 env := envOfC qual scope s.heap.objs.size f cd
 outer := outer
 stack := envOfC qual scope s.heap.objs.size f cd :: outer
 ex := []
 calm := true
 fn := fun _ => true
 cw := fun _ => true
 pn := []
 xe := fun e s' => wpAny (model P w) (A.deeper (envOfC qual scope s.heap.objs.size f cd)) (leaving (envOfC qual scope s.heap.objs.size f cd) e) (fun _ s'' => CX outer H s E e s'') (fun e' s'' => CX outer H s E e' s'') s'
theorem cell_has {sc : Scope} {n : Nat} {x : Str} (h : sc.names.lookup x = some .cell) : ∃ c, (cellsFrom n sc.names []).lookup x = some c := by
 have q := PySem.W.cellsFrom_some sc.names n [] (.inl h)
 exact Option.isSome_iff_exists.mp q
theorem inv_start {CX : CXT} {P : Program} {w : World} {K : Fg} {mg : Str -> Option Value} {base : Bs} {N ps : List Str} {qual : Str} {scope : Scope} {f : Addr} {cd : Value} {A : Around} {outer : List Env} {s s1 : Shared} {H : Hp} {E : XK} {us : List Value} {vs : List V}
  (S : FnScope N ps scope) (hd : A.handled = none) (e0 : Env0 P w K mg base A outer s H) (hl : vs.length = ps.length) (r : Vals vs us)
  (x : InCallC s s.heap.objs.size (bindL (envOfC qual scope s.heap.objs.size f cd).kindOf (ps.zip us) fun _ => none) (cellsFrom (s.heap.objs.size + 1) scope.names []) (bindC (envOfC qual scope s.heap.objs.size f cd).kindOf (ps.zip us) fun _ => none) s1) :
  Inv (cxOf CX P w K mg base N qual scope f cd A outer s H E) [] (start N vs) H s1 := by
 have hpl : ps.length <= N.length := by have := congrArg List.length S.pre; rw [List.length_take] at this; omega
 obtain ⟨h1, tk, rfl, hk⟩ := x.done
 have noA : ∀ b : Addr, b ∉ (cxOf CX P w K mg base N qual scope f cd A outer s H E).ex := fun b z => absurd (show b ∈ ([] : List Addr) from z) (by simp)
 refine ⟨⟨e0.mod, S.kind, rfl, rfl, Nat.le_refl _, fun y z c h1 h2 => ?_, fun y hy => ?_, fun y c _ h => ?_, fun _ => hd, Around.frames_deeper e0.frames, .inr ⟨rfl, rfl⟩, fun b z => absurd z (noA b), e0.bs, e0.bsz, fun b _ _ => noA b, fun b z => absurd z (noA b), e0.funs, e0.frf, e0.tab, fun _ z => z⟩,
  rfl, e0.bare, Un.kept hk, ⟨_, x.toInCall.ns, fun i y v h1 h2 h3 => ?_⟩, fun y c h => ⟨_, x.cell y c h⟩, e0.hok.fresh (Nat.le_refl _), fun y c h => ?_, fun p hp => absurd (show p ∈ ([] : List (Addr × Obj)) from hp) (by simp), e0.hok.kept hk, ?_⟩
 ·exact name_of_addr x.apart (PySem.mem_of_lookup h1) (PySem.mem_of_lookup h2)
 ·have hy : scope.names.lookup y = some .cell \/ scope.names.lookup y = some .free := hy
  rcases hy with hy | hy
  ·exact cell_has hy
  ·exact absurd rfl (S.nofree _ (PySem.mem_of_lookup hy))
 ·exact Nat.le_of_lt (x.above y c (PySem.mem_of_lookup h))
 ·have hi : i < vs.length := by
   unfold start at h2
   by_cases hi : i < vs.length
   ·exact hi
   ·rw [List.getElem?_append_right (by simpa using hi)] at h2
    rw [List.getElem?_replicate] at h2
    split at h2 <;> cases h2
  have ha : vs[i]? = some v := by
   unfold start at h2
   rw [List.getElem?_append_left (by simpa using hi), List.getElem?_map] at h2
   cases e : vs[i]? with
   | none => rw [e] at h2; cases h2
   | some a => rw [e] at h2; cases h2; rfl
  obtain ⟨u, hu, rv⟩ := r.get ha
  have hp : ps[i]? = some y := by
   rw [<- S.pre, List.getElem?_take_of_lt (by omega)]; exact h1
  have ndP : ps.Nodup := by rw [<- S.pre]; exact S.nd.sublist (List.take_sublist _ _)
  refine ⟨u, rv, ?_⟩
  rcases S.par y (List.mem_of_getElem? hp) with k | k
  ·exact .inl ⟨k, bindL_get ndP hp hu k⟩
  ·obtain ⟨c, e⟩ := cell_has (n := s.heap.objs.size + 1) k
   refine .inr ⟨.inl k, c, e, ?_⟩
   have q := x.cell y c e
   rw [bindC_get ndP hp hu (by show scope.names.lookup y ≠ _; rw [k]; decide)] at q
   exact q
 ·exact .inl (e0.hok.fresh (Nat.le_of_lt (x.above y c (PySem.mem_of_lookup h))))
 ·unfold start
  show _ = N.length
  rw [List.length_append, List.length_map, List.length_replicate]
  omega
theorem fn_of {CX : CXT} {P : Program} {w : World} {K : Fg} {mg : Str -> Option Value} {base : Bs} {k : Nat} {f : Addr} {name qual : Str} {params : Arguments} {body : List Stmt} {scope : Scope} {dV kV doc pm cdv ct oc : Value} {an od : Option Addr}
  {osl : Array (Option Value)} {N ps : List Str} {sp : Sp} (lk : K.lookup f = some ⟨oc, od, .func (PySem.W.fnOf name qual params body scope dV kV doc pm an cdv ct), osl⟩) (hcd : PySem.W.codeIn K cdv qual = true) (S : FnScope N ps scope)
  (len : ∀ vs H Q E, sp vs H Q E -> vs.length = ps.length)
  (hbody : ∀ (A : Around) (outer : List Env) (s : Shared) (H : Hp) (vs : List V) (Q : VK) (E : XK), Room k (A.deeper (envOfC qual scope s.heap.objs.size f cdv)) -> sp vs H Q E ->
   ∃ t, PSs (cxOf CX P w K mg base N qual scope f cdv A outer s H E) body t /\ t { nx := fun _ H' => Q .non H', rt := Q } (start N vs) H) :
  FnOk P w K mg base CX (k + 1) f (PySem.W.fnOf name qual params body scope dV kV doc pm an cdv ct) ps sp := by
 refine ⟨len, fun A outer s H args us vs Q E hr e0 hb r hsp => ?_⟩
 have hl := len _ _ _ _ hsp
 have KX : K.In s.heap := e0.mod.kin.keeps fun b o e => (e0.bs b o e).1
 have lim : s.heap.NoLimit := e0.mod.nolimit.keeps fun b o e => (e0.bs b o e).1
 have hkind : ∀ y ∈ ps.zip us, scope.names.lookup y.1 = some .local \/ (scope.names.lookup y.1 = some .cell /\ ((cellsFrom (s.heap.objs.size + 1) scope.names []).lookup y.1).isSome = true) := fun ⟨n, v⟩ hy => by
  rcases S.par n (List.of_mem_zip hy).1 with q | q
  ·exact .inl q
  ·exact .inr ⟨q, PySem.W.cellsFrom_some _ _ _ (.inl q)⟩
 refine codeAny_call_function hr.depth (KX _ _ lk) rfl S.co S.gen rfl (PySem.W.codeRec_of KX hcd) (hb _ _ _ _ ?_)
 refine wpAny_newFunctionEnv_cells S.kind hkind fun env he s1 x => ?_
 subst he
 refine ⟨lim.keeps x.toInCall.keep, codeAny_func ?_⟩
 obtain ⟨t, ht, hq⟩ := hbody A outer s H vs Q E (hr.deeper _) hsp
 have I : Inv (cxOf CX P w K mg base N qual scope f cdv A outer s H E) [] (start N vs) H s1 := inv_start S hr.hd e0 hl r x
 refine wpAny_mono (ht [] s1 (start N vs) H _ I hq) (fun fl s' hs => ?_) fun e s' hs => hs
 have fin : ∀ {σ' : St} {H' : Hp} {v : V} {u : Value}, Inv (cxOf CX P w K mg base N qual scope f cdv A outer s H E) [] σ' H' s' -> RelV v u -> Q v H' -> CE outer P w H s Q u s' :=
  fun {σ' H' v u} J rv q => ⟨v, H', J.os, J.bare, J.base, J.hok, rv, q⟩
 cases fl with
 | ret u =>
  obtain ⟨v, H', J, rv, q⟩ := hs
  exact ⟨v, H', J.os, J.bare, J.base, J.hok, rv, q⟩
 | next =>
  obtain ⟨σ', H', J, q⟩ := hs
  exact fin (v := V.non) (u := Value.none) J rfl q
 | brk =>
  obtain ⟨_, _, _, q⟩ := hs
  exact False.elim q
 | cont =>
  obtain ⟨_, _, _, q⟩ := hs
  exact False.elim q
end L2
namespace L2
open PySem PySem.Spec PyProof.Rows
section
variable {X : Cx} {x : Str} {p pos : Pos} {e : Expr} {es : List Expr} {t : TA} {id T : String} {r : List V -> Hp -> VK -> Prop}
def tCB (r : List V -> Hp -> VK -> Prop) (t : TA) : TE := fun σ H Q => t σ H fun vs H1 => r vs H1 Q
theorem pe_callB (hc : CallR X (.builtin id) r) (hg : Gl X x) (hm : X.mg x = none) (hv : bootBuiltins x = some (.builtin id)) (ha : PA X (e :: es) t) (hn : x ≠ "__name__" := by decide) (hdb : (x == ("__debug__" : Str)) = false := by decide)
  (he : starEach (e :: es) X.env = (false, eval e X.env) :: starEach es X.env := by rfl) (hpl : (backTo pos (starEach es X.env)).any (·.1) = false := by rfl) : PE X (.Call (.Name x p) (e :: es) [] pos) (tCB r t) := by
 intro pins s σ H Q I h
 refine wpAny_Call_Name_kw (ld_blt I hg hm hv ?_ hn hdb)
 exact PyProof.Rows.callWith_builtin1 (thn (ha pos pins s σ H _ I h) fun us s1 ⟨vs, H1, I1, r1, q1⟩ => hc pins s1 σ H1 vs us Q I1 r1 q1) he hpl
theorem pe_callTy (hc : CallR X (.type T) r) (hg : Gl X x) (hm : X.mg x = none) (hv : bootBuiltins x = some (.type T)) (ha : PA X (e :: es) t) (hn : x ≠ "__name__" := by decide) (hdb : (x == ("__debug__" : Str)) = false := by decide)
  (he : starEach (e :: es) X.env = (false, eval e X.env) :: starEach es X.env := by rfl) (hpl : (backTo pos (starEach es X.env)).any (·.1) = false := by rfl) : PE X (.Call (.Name x p) (e :: es) [] pos) (tCB r t) := by
 intro pins s σ H Q I h
 refine wpAny_Call_Name_kw (ld_blt I hg hm hv ?_ hn hdb)
 exact PyProof.Rows.callWith_type1 (thn (ha pos pins s σ H _ I h) fun us s1 ⟨vs, H1, I1, r1, q1⟩ => hc pins s1 σ H1 vs us Q I1 r1 q1) he hpl
end
end L2
namespace HT
open PySem PyProof.Rows
section
open PySem.SeqAt
open PySem.AutoSeq1 (wpAny_loadPart')
open PySem.MeetsSeq PySem.MeetsSeq2 PySem.MeetsSeq3
end
section
variable {prog : Program} {w : World} {A : Around} {E : Value -> Shared -> Prop} {s : Shared}
def sIx (n d : Nat) : Option Int -> Nat
 | none => d
 | some v => if v < 0 then (v + (n : Int)).toNat else min v.toNat n
theorem sIx_nat (n d k : Nat) : sIx n d (some (k : Int)) = min k n := by
 show (if (k : Int) < 0 then ((k : Int) + (n : Int)).toNat else min (k : Int).toNat n) = min k n
 rw [if_neg (by omega), Int.toNat_natCast]
end
end HT
namespace L2
open PySem PySem.Spec PyProof.Rows
abbrev TO := St -> Hp -> (Option Int -> Hp -> Prop) -> Prop
def PO (X : Cx) (e : Option Expr) (t : TO) : Prop :=
 ∀ (pins : List (Addr × Obj)) (s : Shared) (σ : St) (H : Hp) (Q : Option Int -> Hp -> Prop), Inv X pins σ H s -> t σ H Q ->
  wpAny (model X.prog X.w) X.A (evalPart e X.env) (fun u s' => ∃ o H', Inv X pins σ H' s' /\ IsPart u o /\ Q o H') X.xe s
def tPart (t : TE) : TO := fun σ H Q => t σ H fun x H1 => ∃ i, x = .int i /\ Q (some i) H1
theorem intsAre_of {ns : List Int} : ∀ {us : List Value}, Vals (ns.map V.int) us -> IntsAre us ns := by
 induction ns with
 | nil => intro us r; rw [List.map_nil] at r; cases r; exact .nil
 | cons n ns ih =>
  intro us r
  rw [List.map_cons] at r
  cases r with
  | cons r1 r2 =>
   obtain ⟨t, e⟩ := r1
   subst e
   exact .cons n t (ih r2)
section
variable {X : Cx} {e : Expr} {te : TE} {lo hi : Option Expr} {tl th : TO} {pos p2 : Pos}
theorem po_some (h : PE X e te) : PO X (some e) (tPart te) := by
 intro pins s σ H Q I hw
 rw [evalPart_some]
 refine thn (h pins s σ H _ I hw) fun u s1 ⟨x, H1, I1, r1, q1⟩ => ?_
 obtain ⟨i, rfl, q⟩ := q1
 obtain ⟨t, rfl⟩ := r1
 exact ⟨some i, H1, I1, .int i t, q⟩
def SlR (X : Cx) (r : V -> Option Int -> Option Int -> Hp -> VK -> Prop) : Prop :=
 ∀ (pins : List (Addr × Obj)) (s : Shared) (σ : St) (H : Hp) (x : V) (v vl vu : Value) (lo hi : Option Int) (sl : Addr) (Q : VK), Inv X pins σ H s -> RelV x v -> s.heap.IsSliceOf sl vl vu .none -> IsPart vl lo -> IsPart vu hi -> r x lo hi H Q ->
  ∃ T id, typeLookup (.type T) "__getitem__" = pure (some (.builtin id)) /\ s.TypeIs v T /\ wpAny (model X.prog X.w) X.A (getItem v (.ref sl)) (EP X pins σ Q) X.xe s
theorem SlR.or {r r' : V -> Option Int -> Option Int -> Hp -> VK -> Prop} (h : SlR X r) (h' : SlR X r') : SlR X (fun x lo hi H Q => r x lo hi H Q \/ r' x lo hi H Q) := by
 intro pins s σ H x v vl vu lo hi sl Q I rx hs pl pu q
 rcases q with q | q
 ·exact h pins s σ H x v vl vu lo hi sl Q I rx hs pl pu q
 ·exact h' pins s σ H x v vl vu lo hi sl Q I rx hs pl pu q
def tSl (r : V -> Option Int -> Option Int -> Hp -> VK -> Prop) (te : TE) (tl th : TO) : TE := fun σ H Q => te σ H fun x H1 => tl σ H1 fun l H2 => th σ H2 fun u H3 => r x l u H3 Q
theorem pe_slice {r : V -> Option Int -> Option Int -> Hp -> VK -> Prop} (hr : SlR X r) (he : PE X e te) (hl : PO X lo tl) (hu : PO X hi th) : PE X (.Subscript e (.Slice lo hi none p2) pos) (tSl r te tl th) := by
 intro pins s σ H Q I h
 refine Subscript_ (thn (he pins s σ H _ I h) fun v s1 ⟨x, H1, I1, r1, q1⟩ => ?_)
 refine wpAny_Slice (thn (hl pins s1 σ H1 _ I1 q1) fun vl s2 ⟨l, H2, I2, pl, q2⟩ => thn (hu pins s2 σ H2 _ I2 q2) fun vu s3 ⟨u, H3, I3, pu, q3⟩ => ?_)
 rw [evalPart_none]
 refine wpAny_pure ?_
 have I4 : Inv X pins σ H3 { s3 with heap := s3.heap.push { cls := .type "slice", data := .fields #[vl, vu, .none] } } := I3.kept (t' := s3.toks) fun b ob q => Heap.get?_push_of_some _ q
 obtain ⟨T, id, hT, ht, hg⟩ := hr pins { s3 with heap := s3.heap.push { cls := .type "slice", data := .fields #[vl, vu, .none] } } σ H3 x v vl vu l u s3.heap.objs.size Q I4 r1 (Heap.IsSliceOf.new ..) pl pu q3
 show wpAny (model X.prog X.w) X.A (subscriptTail e (.Slice lo hi none p2) v (.ref s3.heap.objs.size)) (EP X pins σ Q) X.xe { s3 with heap := s3.heap.push { cls := .type "slice", data := .fields #[vl, vu, .none] } }
 exact tail_any (ops := [.ref s3.heap.objs.size, v]) ht hT hg (by with_unfolding_all rfl)
def cutV (xs : List V) (lo hi : Option Int) : List V := (xs.drop (HT.sIx xs.length 0 lo)).take (HT.sIx xs.length xs.length hi - HT.sIx xs.length 0 lo)
theorem cutV_length (xs : List V) (lo hi : Option Int) : (cutV xs lo hi).length <= xs.length := by
 unfold cutV
 rw [List.length_take, List.length_drop]
 omega
end
end L2
namespace L2
open PySem PySem.Spec PyProof.Rows
def ixN (n : Nat) (i : Int) : Option Nat := if 0 <= i then (if i < n then some i.toNat else none) else if -(n : Int) <= i then some (i + n).toNat else none
def atI {α : Type} (xs : List α) (i : Int) : Option α := (ixN xs.length i).bind fun j => xs[j]?
theorem ixN_seq {n : Nat} {i : Int} {j : Nat} (h : ixN n i = some j) : seqIndex? i n = some j /\ j < n /\ -(n : Int) <= i /\ i < n := by
 unfold ixN at h
 by_cases h0 : 0 <= i
 ·rw [if_pos h0] at h
  by_cases h1 : i < n
  ·rw [if_pos h1] at h
   have e : i.toNat = j := Option.some.inj h
   exact ⟨by rw [seqIndex_of h0 h1, e], by omega, by omega, h1⟩
  ·rw [if_neg h1] at h; cases h
 ·rw [if_neg h0] at h
  by_cases h1 : -(n : Int) <= i
  ·rw [if_pos h1] at h
   have e : (i + n).toNat = j := Option.some.inj h
   exact ⟨by rw [seqIndex_neg (by omega) h1, e], by omega, h1, by omega⟩
  ·rw [if_neg h1] at h; cases h
theorem atI_get {α : Type} {xs : List α} {i : Int} {v : α} (h : atI xs i = some v) : ∃ j, seqIndex? i xs.length = some j /\ xs[j]? = some v /\ j < xs.length /\ -(xs.length : Int) <= i /\ i < xs.length := by
 unfold atI at h
 cases e : ixN xs.length i with
 | none => rw [e] at h; cases h
 | some j =>
  rw [e] at h
  obtain ⟨h1, h2, h3, h4⟩ := ixN_seq e
  exact ⟨j, h1, h, h2, h3, h4⟩
theorem atI_nat {α : Type} {xs : List α} {j : Nat} {v : α} (h : xs[j]? = some v) : atI xs (j : Int) = some v := by
 have hj : j < xs.length := (List.getElem?_eq_some_iff.mp h).1
 have e : ixN xs.length (j : Int) = some j := by
  unfold ixN
  rw [if_pos (by omega), if_pos (by omega)]; simp
 unfold atI; rw [e]; exact h
def PlainIx (b : Expr) : Prop := ∀ o i, subscripted b false o i = operate [o, i] (getItem o i)
def IxR (X : Cx) (r : R2) : Prop :=
 ∀ (value slice : Expr) (pins : List (Addr × Obj)) (s : Shared) (σ : St) (H : Hp) (x y : V) (v u : Value) (Q : VK), Inv X pins σ H s -> RelV x v -> RelV y u -> r x y H Q ->
  subscripted slice false v u = operate [v, u] (getItem v u) -> wpAny (model X.prog X.w) X.A (subscriptTail value slice v u) (EP X pins σ Q) X.xe s
def MtR (X : Cx) (id : String) (r : V -> List V -> Hp -> VK -> Prop) : Prop :=
 ∀ (pins : List (Addr × Obj)) (s : Shared) (σ : St) (H : Hp) (x : V) (xs : List V) (v : Value) (us : List Value) (Q : VK), Inv X pins σ H s -> RelV x v -> Vals xs us -> r x xs H Q ->
  wpAny (model X.prog X.w) X.A (call (.builtin id) (v :: us)) (EP X pins σ Q) X.xe s
section
variable {X : Cx} {a b : Expr} {ta tb : TE} {pos : Pos}
theorem IxR.or {r r' : R2} (h : IxR X r) (h' : IxR X r') : IxR X (fun x y H Q => r x y H Q \/ r' x y H Q) := by
 intro value slice pins s σ H x y v u Q I rx ry q hs
 rcases q with q | q
 ·exact h value slice pins s σ H x y v u Q I rx ry q hs
 ·exact h' value slice pins s σ H x y v u Q I rx ry q hs
theorem MtR.or {id : String} {r r' : V -> List V -> Hp -> VK -> Prop} (h : MtR X id r) (h' : MtR X id r') : MtR X id (fun x xs H Q => r x xs H Q \/ r' x xs H Q) := by
 intro pins s σ H x xs v us Q I rx rs q
 rcases q with q | q
 ·exact h pins s σ H x xs v us Q I rx rs q
 ·exact h' pins s σ H x xs v us Q I rx rs q
theorem pe_ix {r : R2} (hr : IxR X r) (ha : PE X a ta) (hb : PE X b tb) (hs : PlainIx b) : PE X (.Subscript a b pos) (tOp r ta tb) := by
 intro pins s σ H Q I h
 exact Subscript_ (binT ha hb I h fun v u s2 x y H2 I2 rx ry q => hr a b pins s2 σ H2 x y v u Q I2 rx ry q (hs _ _))
def rIxL (K : Fg) : R2 := fun x y H Q => ∃ p xs i v, x = .ref p /\ y = .int i /\ SqL K H p xs /\ atI xs i = some v /\ Q v H
def rIxT (K : Fg) : R2 := fun x y H Q => ∃ p xs i v, x = .ref p /\ y = .int i /\ SqT K H p xs /\ atI xs i = some v /\ Q v H
def rIxS : R2 := fun x y H Q => ∃ z i c, x = .str z /\ y = .int i /\ z.length <= sizeLine /\ atI z.cps.toList i = some c /\ Q (.str ⟨#[c]⟩) H
theorem ix_list : IxR X (rIxL X.K) := by
 intro value slice pins s σ H x y v u Q I rx ry h hs
 obtain ⟨p, xs, i, z, rfl, rfl, hq, he, q⟩ := h
 cases rx
 obtain ⟨t, rfl⟩ := ry
 obtain ⟨its, r, pl, hz⟩ := I.list hq
 obtain ⟨j, h1, h2, h3, h4, h5⟩ := atI_get he
 obtain ⟨w, ew, rw'⟩ := r.get h2
 have hl := r.length
 have hn := line63
 have fin : EP X pins σ Q w s := ⟨z, H, I, rw', q⟩
 by_cases h0 : 0 <= i
 ·have hj : i.toNat = j := by
   rw [seqIndex_of h0 h5] at h1
   exact Option.some.inj h1
  exact item_listR pl.isList h0 (by omega) (by rw [hj]; simpa using ew) fin hs
 ·have hj : (i + (its.toArray.size : Int)).toNat = j := by
   rw [seqIndex_neg (by omega) h4] at h1
   rw [List.size_toArray, <- hl]
   exact Option.some.inj h1
  exact subscriptTail_builtinR (x := w) pl.isList.typeIs slot_list_getitem.lookup
   (wpAny_getItem_list_neg (Q := fun r s' => r = w /\ EP X pins σ Q r s') pl.isList (by omega) (by rw [List.size_toArray] <;> omega) (by omega) (by rw [hj]; simpa using ew) ⟨rfl, fin⟩) hs
theorem ix_tup : IxR X (rIxT X.K) := by
 intro value slice pins s σ H x y v u Q I rx ry h hs
 obtain ⟨p, xs, i, z, rfl, rfl, hq, he, q⟩ := h
 cases rx
 obtain ⟨t, rfl⟩ := ry
 obtain ⟨its, r, pl, hz⟩ := I.tuple hq
 obtain ⟨j, h1, h2, h3, h4, h5⟩ := atI_get he
 obtain ⟨w, ew, rw'⟩ := r.get h2
 have hl := r.length
 have hn := line63
 have fin : EP X pins σ Q w s := ⟨z, H, I, rw', q⟩
 exact subscriptTail_builtinR (x := w) pl.typeIs slot_tuple_getitem.lookup
  (getItem_tuple (j := j) (Q := fun r s' => r = w /\ EP X pins σ Q r s') pl (by omega) (by omega) (by rw [List.size_toArray, <- hl]; exact h1) (by simpa using ew) ⟨rfl, fin⟩) hs
theorem ix_str : IxR X rIxS := by
 intro value slice pins s σ H x y v u Q I rx ry h hs
 obtain ⟨z, i, c, rfl, rfl, hz, he, q⟩ := h
 obtain ⟨t, rfl⟩ := rx
 obtain ⟨t', rfl⟩ := ry
 obtain ⟨j, h1, h2, h3, h4, h5⟩ := atI_get he
 have hl : z.cps.toList.length = z.length := by simp [Str.length]
 rw [hl] at h1 h4 h5
 have hn := line63
 exact tail_any (typeIs_str s z t) slot_str_getitem.lookup (getItem_str (c := c) (by
  have e1 : decide (i < -(2 ^ 63 : Int)) = false := decide_eq_false (by omega)
  have e2 : decide (i ≥ 2 ^ 63) = false := decide_eq_false (by omega)
  rw [e1, e2, Bool.or_false]) (by rw [h1]; simpa using h2) ⟨.str ⟨#[c]⟩, H, I.tok _, ⟨_, rfl⟩, q⟩) hs
def rIx (K : Fg) : R2 := fun x y H Q => rIxL K x y H Q \/ rIxT K x y H Q \/ rIxS x y H Q
theorem ix_seq : IxR X (rIx X.K) := ix_list.or (ix_tup.or ix_str)
theorem mapSeq_set (its : List Value) (n j : Nat) (u : Value) : Obj.mapSeq (·.setIfInBounds j u) { cls := .type "list", data := .seq its.toArray n } = { cls := .type "list", data := .seq (its.set j u).toArray n } := by
 simp [Obj.mapSeq]
theorem Inv.lst {pins : List (Addr × Obj)} {σ : St} {H : Hp} {s : Shared} {p : Addr} {xs : List V} (I : Inv X pins σ H s) (h : H p = some (.lst xs)) :
  ∃ (its : List Value) (n : Nat), Vals xs its /\ s.heap.get? p = some { cls := .type "list", data := .seq its.toArray n } /\ xs.length <= sizeLine := by
 obtain ⟨z, its, n, r, e⟩ := I.hok p _ h
 exact ⟨its, n, r, e, z⟩
theorem Inv.lstUpd {pins : List (Addr × Obj)} {σ : St} {H : Hp} {s : Shared} {p : Addr} {xs ys : List V} {its its' : List Value} {n n' : Nat} {f : Obj -> Obj} (I : Inv X pins σ H s) (h : H p = some (.lst xs))
  (ho : s.heap.get? p = some { cls := .type "list", data := .seq its.toArray n }) (hf : f { cls := .type "list", data := .seq its.toArray n } = { cls := .type "list", data := .seq its'.toArray n' }) (r : Vals ys its') (hz : ys.length <= sizeLine) (t : Nat) :
  Inv X pins σ (upd H p (.lst ys)) { s with heap := s.heap.update p f, toks := t } := by
 have e : (s.heap.update p f).get? p = some { cls := .type "list", data := .seq its'.toArray n' } := by
  rw [Heap.get?_update_self f ho (by rw [hf] <;> rfl), hf]
 refine I.write (x := p) (e := p) (by rw [h]; trivial) (.inl rfl) (fun b u hb q => (Heap.get?_update_other _ _ (Ne.symm hb)).trans q) ⟨_, e⟩ ?_
 exact ⟨hz, its', n', r, e⟩
def rSetL : V -> V -> V -> Hp -> (Hp -> Prop) -> Prop := fun o i v H Q => ∃ p xs k j, o = .ref p /\ i = .int k /\ H p = some (.lst xs) /\ ixN xs.length k = some j /\ Q (upd H p (.lst (xs.set j v)))
theorem set_list : PSet X rSetL := by
 intro pins s σ H o i v ov iv u Q I ro ri rv h
 obtain ⟨p, xs, k, j, rfl, rfl, hp, hj, q⟩ := h
 cases ro
 obtain ⟨t, rfl⟩ := ri
 obtain ⟨its, n, r, ho, hz⟩ := I.lst hp
 obtain ⟨h1, h2, h3, h4⟩ := ixN_seq hj
 have hl := r.length
 have hn := line63
 have I' : Inv X pins σ (upd H p (.lst (xs.set j v))) { s with heap := s.heap.update p (Obj.mapSeq (·.setIfInBounds j u)) } :=
  I.lstUpd hp ho (mapSeq_set its n j u) (r.set rv j) (by rw [List.length_set]; exact hz) s.toks
 by_cases h0 : 0 <= k
 ·have hk : k.toNat = j := by
   rw [seqIndex_of h0 h4] at h1
   exact Option.some.inj h1
  exact PySem.W.ki_setAt ho h0 (by omega) (by rw [List.size_toArray, <- hl]; exact h4) (by rw [hk]; exact ⟨_, I', q⟩)
 ·have hk : (k + (its.toArray.size : Int)).toNat = j := by
   rw [seqIndex_neg (by omega) h3] at h1
   rw [List.size_toArray, <- hl]
   exact Option.some.inj h1
  exact PySem.W.ki_setBack ho (by omega) (by rw [List.size_toArray, <- hl]; exact h3) (by omega) (by rw [hk]; exact ⟨_, I', q⟩)
theorem slice_bounds (lo hi : Option Int) (n : Nat) : (sliceBounds lo hi none n).1 = ((HT.sIx n 0 lo : Nat) : Int) /\ (sliceBounds lo hi none n).2.1 = ((HT.sIx n n hi : Nat) : Int) /\ (sliceBounds lo hi none n).2.2 = 1 := by
 refine ⟨?_, ?_, rfl⟩
 ·cases lo with
  | none => simp [sliceBounds, HT.sIx]
  | some i =>
   simp only [sliceBounds, HT.sIx, Option.getD_none, show (1 : Int) > 0 by decide, if_true]
   by_cases h : i < 0
   ·simp only [h, if_true] <;> omega
   ·simp only [h, if_false] <;> omega
 ·cases hi with
  | none => simp [sliceBounds, HT.sIx]
  | some i =>
   simp only [sliceBounds, HT.sIx, Option.getD_none, show (1 : Int) > 0 by decide, if_true]
   by_cases h : i < 0
   ·simp only [h, if_true] <;> omega
   ·simp only [h, if_false] <;> omega
theorem slicePick_cut (its : List Value) (lo hi : Option Int) : slicePick its.toArray lo hi none = ((its.drop (HT.sIx its.length 0 lo)).take (HT.sIx its.length its.length hi - HT.sIx its.length 0 lo)).toArray := by
 obtain ⟨h1, h2, h3⟩ := slice_bounds lo hi its.toArray.size
 unfold slicePick
 rw [h1, h2, h3]
 simp only [sliceRange_one, pick_run, List.size_toArray] <;> rfl
def rSlL (K : Fg) : V -> Option Int -> Option Int -> Hp -> VK -> Prop := fun x lo hi H Q => ∃ a xs, x = .ref a /\ SqL K H a xs /\ ∀ p, H p = none -> Q (.ref p) (upd H p (.lst (cutV xs lo hi)))
theorem sl_list : SlR X (rSlL X.K) := by
 intro pins s σ H x v vl vu lo hi sl Q I rx hs pl pu h
 obtain ⟨a, xs, rfl, hx, q⟩ := h
 cases rx
 obtain ⟨its, r, ht, hz⟩ := I.list hx
 have hlen := r.length
 refine ⟨"list", _, slot_list_getitem.lookup, ht.isList.typeIs, ?_⟩
 refine wpAny_getItem_list_slice ht.isList hs pl pu .none (by simp) ?_ (by rw [List.size_toArray] <;> omega)
 rw [slicePick_cut, <- hlen]
 refine ⟨.ref s.heap.objs.size, _, I.laid (t' := s.toks) (o := .lst (cutV xs lo hi)) (fun b ob q => Heap.get?_push_of_some _ q) (Nat.le_refl _) ?_, rfl, q _ (I.hok.fresh (Nat.le_refl _))⟩
 exact ⟨Nat.le_trans (cutV_length xs lo hi) hz, _, 0, (r.drop (HT.sIx xs.length 0 lo)).take (HT.sIx xs.length xs.length hi - HT.sIx xs.length 0 lo), Heap.get?_push_size _ rfl⟩
def flatV : V -> Bool
 | .non => true
 | .bl _ => true
 | .int _ => true
 | .str _ => true
 | _ => false
def eqV : V -> V -> Bool
 | .non, .non => true
 | .bl a, .bl b => a == b
 | .bl a, .int b => (if a then 1 else 0) == b
 | .int a, .bl b => a == (if b then 1 else 0)
 | .int a, .int b => a == b
 | .str a, .str b => a == b
 | _, _ => false
theorem eqAt_V {A : Around} {s : Shared} {y x : V} {u v : Value} (ry : RelV y u) (rx : RelV x v) (fy : flatV y = true) (fx : flatV x = true) : SeqAt.EqAt A s u v (eqV y x) := by
 cases y with
 | non =>
  cases ry
  cases x with
  | non => cases rx; exact SeqAt.EqAt.same _
  | bl b => cases rx; exact SeqAt.EqAt.none_bool b
  | int b => obtain ⟨t, rfl⟩ := rx; exact SeqAt.EqAt.none_int b t
  | str b => obtain ⟨t, rfl⟩ := rx; exact SeqAt.EqAt.none_str b t
  | _ => exact absurd (show false = true from fx) Bool.false_ne_true
 | bl a =>
  cases ry
  cases x with
  | non => cases rx; exact SeqAt.EqAt.bool_none a
  | bl b => cases rx; exact SeqAt.EqAt.bool_bool a b
  | int b => obtain ⟨t, rfl⟩ := rx; exact SeqAt.EqAt.bool_int a b t
  | str b => obtain ⟨t, rfl⟩ := rx; exact SeqAt.EqAt.bool_str a b t
  | _ => exact absurd (show false = true from fx) Bool.false_ne_true
 | int a =>
  obtain ⟨t', rfl⟩ := ry
  cases x with
  | non => cases rx; exact SeqAt.EqAt.int_none a t'
  | bl b => cases rx; exact SeqAt.EqAt.int_bool a t' b
  | int b => obtain ⟨t, rfl⟩ := rx; exact SeqAt.EqAt.int_int a t' b t
  | str b => obtain ⟨t, rfl⟩ := rx; exact SeqAt.EqAt.int_str a t' b t
  | _ => exact absurd (show false = true from fx) Bool.false_ne_true
 | str a =>
  obtain ⟨t', rfl⟩ := ry
  cases x with
  | non => cases rx; exact SeqAt.EqAt.str_none a t'
  | bl b => cases rx; exact SeqAt.EqAt.str_bool a t' b
  | int b => obtain ⟨t, rfl⟩ := rx; exact SeqAt.EqAt.str_int a t' b t
  | str b => obtain ⟨t, rfl⟩ := rx; exact SeqAt.EqAt.str_str a t' b t
  | _ => exact absurd (show false = true from fx) Bool.false_ne_true
 | _ => exact absurd (show false = true from fy) Bool.false_ne_true
def eqU (x : V) (u : Value) : Bool := match u with
 | .none => eqV .non x
 | .bool b => eqV (.bl b) x
 | .int i _ => eqV (.int i) x
 | .str z _ => eqV (.str z) x
 | _ => false
theorem eqU_of {x y : V} {u : Value} (r : RelV y u) (f : flatV y = true) : eqU x u = eqV y x := by
 cases y with
 | non => cases r; rfl
 | bl b => cases r; rfl
 | int i => obtain ⟨t, rfl⟩ := r; rfl
 | str z => obtain ⟨t, rfl⟩ := r; rfl
 | _ => exact absurd (show false = true from f) Bool.false_ne_true
theorem mem_eqAt {A : Around} {s : Shared} {x : V} {v : Value} (rx : RelV x v) (fx : flatV x = true) : ∀ {xs : List V} {us : List Value}, Vals xs us -> xs.all flatV = true -> ∀ u ∈ us, SeqAt.EqAt A s u v (eqU x u)
 | _, _, .nil, _ => fun u hu => by cases hu
 | y :: xs, u :: us, .cons r t, f => fun u' hu => by
  rw [List.all_cons, Bool.and_eq_true] at f
  rcases List.mem_cons.mp hu with rfl | hu
  ·rw [eqU_of r f.1]; exact eqAt_V r rx f.1 fx
  ·exact mem_eqAt rx fx t f.2 u' hu
theorem CallR.or {f : Value} {r r' : List V -> Hp -> VK -> Prop} (h : CallR X f r) (h' : CallR X f r') : CallR X f (fun xs H Q => r xs H Q \/ r' xs H Q) := by
 intro pins s σ H xs us Q I rs q
 rcases q with q | q
 ·exact h pins s σ H xs us Q I rs q
 ·exact h' pins s σ H xs us Q I rs q
theorem call_list_of : CallR X (.type "list") (fun xs H Q => ∃ p ys, xs = [.ref p] /\ (SqL X.K H p ys \/ SqT X.K H p ys) /\ ∀ l, H l = none -> Q (.ref l) (upd H l (.lst ys))) := by
 intro pins s σ H xs us Q I r h
 obtain ⟨p, ys, rfl, hq, q⟩ := h
 obtain ⟨u, rfl, rx⟩ := vals1 r
 cases rx
 have fin : ∀ (its : List Value), Vals ys its -> ys.length <= sizeLine -> ∀ (h' : Heap) (c' : Nat), (∀ b o', s.heap.get? b = some o' -> h'.get? b = some o') ->
   h'.get? s.heap.objs.size = some { cls := .type "list", dict := none, data := .seq its.toArray c', slots := #[] } -> EP X pins σ Q (.ref s.heap.objs.size) { s with heap := h' } := fun its r' hz h' c' kp e =>
  ⟨.ref s.heap.objs.size, _, I.laid (t' := s.toks) kp (Nat.le_refl _) (show ObjOk X.prog X.w _ h' _ (.lst ys) from ⟨hz, its, c', r', e⟩), rfl, q _ (I.hok.fresh (Nat.le_refl _))⟩
 rcases hq with hq | hq
 ·obtain ⟨its, r', pl, hz⟩ := I.list hq
  have hlen := r'.length
  obtain ⟨o, ho, hc, n, hd⟩ := pl.isList
  exact call_list_seq p (.inl rfl) ho hc hd (fun h' c' kp e => fin its r' hz h' c' kp e) (by simp only [List.size_toArray] <;> omega)
 ·obtain ⟨its, r', pl, hz⟩ := I.tuple hq
  have hlen := r'.length
  obtain ⟨o, ho, hc, n, hd⟩ := pl
  exact call_list_seq p (.inr rfl) ho hc hd (fun h' c' kp e => fin its r' hz h' c' kp e) (by simp only [List.size_toArray] <;> omega)
def tyV (K : Fg) (T : String) (x : V) (H : Hp) : Prop := match x with
 | .str _ => T = "str"
 | .int _ => T = "int"
 | .ref p => (T = "list" /\ ∃ xs, SqL K H p xs) \/ (T = "tuple" /\ ∃ o, K.lookup p = some o /\ o.cls = .type "tuple" /\ o.dict = none) \/
   (T = "dict" /\ ((∃ kvs, H p = some (.dK kvs)) \/ ∃ kvs, H p = some (.dT kvs))) \/ (T = "set" /\ ∃ S n, H p = some (.set S n))
 | _ => False
theorem tyV_is {pins : List (Addr × Obj)} {σ : St} {H : Hp} {s : Shared} {T : String} {x : V} {v : Value} (I : Inv X pins σ H s) (r : RelV x v) (ty : tyV X.K T x H) :
  s.TypeIs v T /\ ∀ a, v = .ref a -> ∃ ob, s.heap.get? a = some ob /\ ob.dict = none := by
 cases x with
 | str z =>
  obtain ⟨t, rfl⟩ := r
  cases (show T = "str" from ty)
  exact ⟨typeIs_str s z t, fun _ e => nomatch e⟩
 | int i =>
  obtain ⟨t, rfl⟩ := r
  cases (show T = "int" from ty)
  exact ⟨typeIs_int s i t, fun _ e => nomatch e⟩
 | ref p =>
  cases r
  rcases ty with ⟨rfl, xs, hq⟩ | ⟨rfl, o, hk, hc, hd⟩ | ⟨rfl, hk⟩ | ⟨rfl, S, n, hk⟩
  ·obtain ⟨its, _, pl, _⟩ := I.list hq
   refine ⟨pl.isList.typeIs, fun a e => ?_⟩
   cases e
   obtain ⟨o, n, e, c, hd, _⟩ := pl
   exact ⟨o, e, hd⟩
  ·refine ⟨⟨o, I.kIn p o hk, hc⟩, fun a e => ?_⟩
   cases e
   exact ⟨o, I.kIn _ o hk, hd⟩
  ·have z : ∃ o, s.heap.get? p = some o /\ o.ExactDict := by
    rcases hk with ⟨kvs, hk⟩ | ⟨kvs, hk⟩
    ·obtain ⟨_, _, _, _, o, _, _, e, ex, _⟩ := I.hok p _ hk
     exact ⟨o, e, ex⟩
    ·obtain ⟨_, _, _, _, o, _, _, e, ex, _⟩ := I.hok p _ hk
     exact ⟨o, e, ex⟩
   obtain ⟨o, e, ex⟩ := z
   refine ⟨⟨o, e, ex.1⟩, fun a e2 => ?_⟩
   cases e2
   exact ⟨o, e, ex.2.1⟩
  ·obtain ⟨o, _, _, _, e, ex, _⟩ := I.hok p _ hk
   refine ⟨⟨o, e, ex.1⟩, fun a e2 => ?_⟩
   cases e2
   exact ⟨o, e, ex.2.1⟩
 | _ => exact False.elim ty
def tBM (K : Fg) (T : String) (r : V -> List V -> Hp -> VK -> Prop) (to : TE) (t : TA) : TE := fun σ H Q => to σ H fun x H1 => tyV K T x H1 /\ t σ H1 fun xs H2 => r x xs H2 Q
variable {o e : Expr} {es : List Expr} {to : TE} {t : TA} {name : Str} {apos cpos : Pos} {T id : String} {r : V -> List V -> Hp -> VK -> Prop}
theorem pe_bm (pa : PlainAttrs T) (slot : Slot T name id) (hty : typeOf (.builtin id) = pure (.type "method_descriptor")) (hm : MtR X id r) (ho : PE X o to) (ha : PA X (e :: es) t)
  (hbase : attributeBase o name X.env (eval o X.env) = eval o X.env := by rfl)
  (hfew : ((backTo cpos (starEach (e :: es) X.env)).all (fun x => !x.1) && (backToKw cpos (keywordEach [] X.env)).all (fun x => x.1.isSome)
   && decide ((e :: es).length + ([] : List Keyword).length + (if ([] : List Keyword).isEmpty then 0 else 1) < 30)) = true := by rfl)
  (hline : (apos.endLine == cpos.line) = true := by rfl) (hs : starEach (e :: es) X.env = (false, eval e X.env) :: starEach es X.env := by rfl) (hplain : (backTo cpos (starEach es X.env)).any (·.1) = false := by rfl) :
  PE X (.Call (.Attribute o name apos) (e :: es) [] cpos) (tBM X.K T r to t) := by
 intro pins s σ H Q I h
 refine wpAny_Call_method_late hbase hfew hline rfl (thn (ho pins s σ H _ I h) fun v s1 ⟨x, H1, I1, r1, ty, q1⟩ => ?_)
 obtain ⟨h1, h2⟩ := tyV_is I1 r1 ty
 refine ⟨T, id, pa, slot, hty, h1, h2, ?_⟩
 have hA := ha cpos pins s1 σ H1 _ I1 q1
 rw [hs] at hA ⊢
 refine Calls.callWith_builtin (by show (false || (backTo cpos (starEach es X.env)).any (·.1)) = false; rw [hplain] <;> rfl) (Calls.evalArgs_plain ?_)
 exact thn hA fun us s2 ⟨vs, H2, I2, r2, q2⟩ => hm pins s2 σ H2 x vs v us Q I2 r1 r2 q2
end
end L2
namespace L2
open PySem PySem.Spec PyProof.Rows
def MtM (X : Cx) (id : String) (r : V -> List V -> Hp -> VK -> Prop) : Prop :=
 ∀ (pins : List (Addr × Obj)) (s : Shared) (σ : St) (H : Hp) (x : V) (xs : List V) (v : Value) (us : List Value) (Q : VK), Inv X pins σ H s -> RelV x v -> Vals xs us -> r x xs H Q ->
  wpAny (model X.prog X.w) X.A (call (.builtin id) (v :: us)) (EP X pins σ Q) X.xe s
theorem Vals.one : ∀ {x : V} {us : List Value}, Vals [x] us -> ∃ u, us = [u] /\ RelV x u
 | _, _, .cons r .nil => ⟨_, rfl, r⟩
theorem Vals.two : ∀ {x y : V} {us : List Value}, Vals [x, y] us -> ∃ u v, us = [u, v] /\ RelV x u /\ RelV y v
 | _, _, _, .cons r (.cons q .nil) => ⟨_, _, rfl, r, q⟩
theorem Vals.zero : ∀ {us : List Value}, Vals [] us -> us = []
 | _, .nil => rfl
theorem Vals.dropLast {xs : List V} {us : List Value} (h : Vals xs us) : Vals xs.dropLast us.dropLast := by
 induction h with
 | nil => exact .nil
 | cons r t ih =>
  cases t with
  | nil => exact .nil
  | cons q t' => exact .cons r ih
theorem Vals.reverse {xs : List V} {us : List Value} (h : Vals xs us) : Vals xs.reverse us.reverse := by
 induction h with
 | nil => exact .nil
 | cons r t ih => rw [List.reverse_cons, List.reverse_cons]; exact Vals.append ih (.cons r .nil)
theorem Vals.rep {xs : List V} {us : List Value} (h : Vals xs us) : ∀ k : Nat, Vals (List.replicate k xs).flatten (List.replicate k us).flatten
 | 0 => .nil
 | k + 1 => by
  rw [List.replicate_succ, List.replicate_succ, List.flatten_cons, List.flatten_cons]
  exact Vals.append h (Vals.rep h k)
theorem foldl_rep (its : List Value) : ∀ (k : Nat) (acc : List Value),
  List.foldl (fun x1 x2 => x1 ++ x2) acc.toArray (List.replicate k its.toArray) = (acc ++ (List.replicate k its).flatten).toArray
 | 0, acc => by simp
 | k + 1, acc => by
  have e : acc.toArray ++ its.toArray = (acc ++ its).toArray := by simp
  have e2 : (acc ++ its) ++ (List.replicate k its).flatten = acc ++ (List.replicate (k + 1) its).flatten := by
   rw [List.replicate_succ, List.flatten_cons, List.append_assoc]
  rw [<- e2, <- foldl_rep its k (acc ++ its), <- e, List.replicate_succ, List.foldl_cons]
section
variable {X : Cx} {pins : List (Addr × Obj)} {σ : St} {H : Hp} {s : Shared} {l b : Addr} {xs ys zs : List V}
theorem Inv.lset {its its' : List Value} {n : Nat} {f : Array Value -> Array Value} {t' : Nat} (I : Inv X pins σ H s) (hH : H l = some (.lst xs))
  (e : s.heap.get? l = some { cls := .type "list", data := .seq its.toArray n }) (hf : f its.toArray = its'.toArray) (hv : Vals ys its') (hz : ys.length <= sizeLine) :
  Inv X pins σ (upd H l (.lst ys)) { s with heap := s.heap.update l (Obj.mapSeq f), toks := t' } := by
 have q := PySem.IsL.update e f
 rw [hf] at q
 refine I.write (x := l) (e := l) (by rw [hH]; exact trivial) (.inl rfl) (fun b' u hb hu => (Heap.get?_update_other s.heap (Obj.mapSeq f) (Ne.symm hb)).trans hu) ⟨_, q⟩ ?_
 exact ⟨hz, its', _, hv, q⟩
theorem Inv.lnew {its : List Value} {t' : Nat} (I : Inv X pins σ H s) (hv : Vals ys its) (hz : ys.length <= sizeLine) :
  Inv X pins σ (upd H s.heap.objs.size (.lst ys)) { s with heap := s.heap.push { cls := .type "list", data := .seq its.toArray }, toks := t' } :=
 I.laid (fun _ _ q => Heap.get?_push_of_some _ q) (Nat.le_refl _) ⟨hz, its, 0, hv, Heap.get?_push_size _ rfl⟩
theorem Inv.fresh (I : Inv X pins σ H s) : H s.heap.objs.size = none := I.hok.fresh (Nat.le_refl _)
theorem Inv.lstM (I : Inv X pins σ H s) (hH : H l = some (.lst xs)) : xs.length <= sizeLine /\ ∃ (its : List Value) (n : Nat), Vals xs its /\ xs.length = its.length /\ s.heap.get? l = some { cls := .type "list", data := .seq its.toArray n } := by
 obtain ⟨z, its, n, r, e⟩ := I.hok l _ hH
 exact ⟨z, its, n, r, r.length, e⟩
theorem notLongL {n : Nat} (h : n <= sizeLine) : Builtin.List.listTooLong n = false := by
 unfold Builtin.List.listTooLong
 exact decide_eq_false (by omega)
end
section
variable {X : Cx}
def rAppend : V -> List V -> Hp -> VK -> Prop := fun x vs H Q => ∃ l xs y, x = .ref l /\ vs = [y] /\ H l = some (.lst xs) /\ xs.length < sizeLine /\ Q .non (upd H l (.lst (xs ++ [y])))
theorem mt_append : MtM X "list.append" rAppend := by
 intro pins s σ H x vs v us Q I rx rv h
 obtain ⟨l, xs, y, rfl, rfl, hH, hz, q⟩ := h
 cases rx
 obtain ⟨u, rfl, ru⟩ := rv.one
 obtain ⟨z, its, n, r, hl, e⟩ := I.lstM hH
 refine call_meets F.slot_list_append ⟨_, e, rfl⟩ F.entry_list_append (F.args_list_append_2 _ _) (PySem.list_append l its.toArray n u (by rw [List.size_toArray]; omega)) ⟨e, ?_⟩
 refine ⟨.non, _, I.lset (its' := its ++ [u]) hH e (by simp) (r.append (.cons ru .nil)) ?_, rfl, q⟩
 rw [List.length_append, List.length_singleton]
 omega
def rRep : R2 := fun x y H Q => ∃ l k xs, x = .ref l /\ y = .int k /\ H l = some (.lst xs) /\ -(2 ^ 63) <= k /\ k < 2 ^ 63 /\ xs.length * k.toNat <= sizeLine /\
 ∀ p, H p = none -> Q (.ref p) (upd H p (.lst (List.replicate k.toNat xs).flatten))
theorem len_rep {α : Type} (xs : List α) (k : Nat) : (List.replicate k xs).flatten.length = k * xs.length := by
 induction k with
 | zero => simp
 | succ k ih => rw [List.replicate_succ, List.flatten_cons, List.length_append, ih, Nat.succ_mul, Nat.add_comm]
theorem op_rep : OpR X (binaryOp .Mult) rRep := by
 intro pins s σ H x y v u Q I rx ry h
 obtain ⟨l, k, xs, rfl, rfl, hH, h1, h2, hz, q⟩ := h
 cases rx
 obtain ⟨t, rfl⟩ := ry
 obtain ⟨z, its, n, r, hl, e⟩ := I.lstM hH
 have hlen : its.toArray.size * k.toNat <= sizeLine := by rw [List.size_toArray, <- hl]; exact hz
 have hcap : ¬ its.toArray.size * k.toNat > (2 ^ 63 - 1) / 8 := by
  have : (sizeLine : Nat) <= (2 ^ 63 - 1) / 8 := by decide
  omega
 have hfit : ¬ (!Builtin.List.listFitsIndex k) = true := by
  rw [fitsIndex_both h1 h2]
  exact Bool.false_ne_true
 have hlong : ¬ Builtin.List.listTooLong (its.toArray.size * k.toNat) = true := by
  rw [notLongL hlen]
  exact Bool.false_ne_true
 have hnew : List.foldl (fun x1 x2 => x1 ++ x2) #[] (List.replicate (if its.toArray.isEmpty = true then 0 else k.toNat) its.toArray) = (List.replicate k.toNat its).flatten.toArray := by
  have f0 : ∀ m : Nat, List.foldl (fun x1 x2 => x1 ++ x2) #[] (List.replicate m its.toArray) = (List.replicate m its).flatten.toArray := fun m => by
   have := foldl_rep its m []
   rw [List.nil_append] at this
   exact this
  rw [f0]
  cases its with
  | nil => simp
  | cons a r' => rw [if_neg (by simp)]
 refine wpAny_binaryOp_repeat_ref (T := "list") (U := "int") (by decide) ⟨_, e, rfl⟩ (fun s' => typeIs_int s' k t) noFill_list_mul F.fills_int_mul F.slot_int_rmul repeat_list F.slot_int_index.lookup
  (call_meets F.slot_int_rmul (typeIs_int s k t) F.entry_int_rmul (F.args_int_rmul_2 _ _) (int___rmul___int_list k t l its.toArray n)
   ⟨e, rfl, ⟨_, e, rfl⟩, call_meets F.slot_list_mul ⟨_, e, rfl⟩ F.entry_list_mul (F.args_list_mul_2 _ _) (AutoListH.list___mul___list_int_3 l its.toArray n k t hfit hcap hlong) ⟨e, ?_⟩⟩)
 rw [hnew]
 exact ⟨.ref _, _, I.lnew (t' := s.toks) (r.rep k.toNat) (by rw [len_rep, Nat.mul_comm]; exact hz), rfl, q _ I.fresh⟩
end
section
variable {prog : Program} {w : World} {A : Around} {E : Value -> Shared -> Prop} {s : Shared}
end
section
variable {X : Cx}
end
end L2
namespace Att
open PySem PySem.W PySem.Calls PyProof.Rows
theorem ints_of_wellAll {P : Params} {h : Heap} : ∀ (ns : List Int) (vs : List Value), WellAll P h vs (ns.map WData.int) -> IntsAre vs ns := by
 intro ns
 induction ns with
 | nil =>
  intro vs w
  rw [List.map_nil] at w
  cases w
  exact .nil
 | cons n ns ih =>
  intro vs w
  rw [List.map_cons] at w
  cases w with
  | cons a b =>
   cases a
   exact .cons _ _ (ih _ b)
theorem script_of {l : OpenLaw} {n : Nat} (hn : l.most = some n) {P : Params} {h : Heap} {args : List WData} {vals : List Value}
  (hpre : l.row.toRowW.claim.pre args = true) (hwl : WellAll P h vals args) :
  ∃ a vs ns, vals = [Value.ref a] /\ args = [WData.list (ns.map WData.int)] /\ h.get? a = some { cls := .type "list", data := .seq vs.toArray } /\ IntsAre vs ns /\ ns.length <= n := by
 have hsh : WShape.hasAll [] args [.list .int] = true := (pre_splitW hpre).1
 have hc : l.pre.holds [] { args := args } = true := (pre_splitW hpre).2
 obtain ⟨d, r, rfl, h1, h2⟩ := hasAllW_cons hsh
 obtain rfl := hasAllW_nil h2
 obtain ⟨xs, rfl, h3⟩ := hasW_list h1
 obtain ⟨ns, rfl⟩ := items_int h3
 have hlen : ns.length <= n := by
  unfold OpenLaw.pre at hc
  have h4 : (WTm.not (.lt (.lit (.int (n : Int))) (.len (.arg 0)))).holds [] { args := [.list (ns.map .int)] } = true := by
   have h4 := (holds_andW hc).1
   rw [hn] at h4
   exact h4
  have h5 := condW_of h4 (w_not (w_lt w_lit (w_len_list (w_arg rfl))))
  rw [List.length_map] at h5
  refine Nat.le_of_not_lt fun q => ?_
  have q' : (n : Int) < ((ns.length : Nat) : Int) := by omega
  first
   | (rw [decide_eq_true q'] at h5; exact absurd h5 (by decide))
   | (simp at h5; omega)
 cases hwl with
 | cons w1 w2 =>
  cases w2
  cases w1 with
  | list ho hall => exact ⟨_, _, ns, rfl, rfl, ho, ints_of_wellAll ns _ hall, hlen⟩
theorem post_true (l : OpenLaw) (args : List WData) : l.row.toRowW.claim.post args (.bool true) args = true :=
 postW_of (r := l.row.toRowW) (X := (true == true))
  (show WShape.has [] (.bool true) .bool = true by first | rfl | decide | simp [WShape.has, WShape.arms, WShape.armsAll])
  (show (WTm.eq .res (.lit (.bool true))).value [] { args := args, res := some (.bool true), after := args } = some (.bool (true == true)) from w_eq_bool (w_res rfl) w_lit) rfl
theorem attach_call {l : OpenLaw} {n : Nat} {q : Program} {loose : List Str} {XP : (Str -> Option Value) -> Heap -> Prop} {YP : World -> Heap -> Prop} {d : DefRec}
  (hn : l.most = some n) (hdf : d.params.defaults = [])
  (call : ∀ (w : World) (s₀ s₁ : Shared) (mg mb : Str -> Option Value) (fa : Addr) (o : Obj) (pm cd doc : Value) (a : Addr) (vs : List Value) (ns : List Int),
   Ground q loose [] XP w s₀ mg mb s₁.heap -> YP w s₁.heap ->
   s₁.heap.get? fa = some o -> o.data = .func (docDef d.name d.params d.body d.scope pm cd doc) -> s₁.heap.CodeRec cd d.name -> mg d.name = some (.ref fa) ->
   s₁.heap.get? a = some { cls := .type "list", data := .seq vs.toArray } -> IntsAre vs ns -> ns.length <= n -> s₁.gens = #[] ->
   codeAny (model l.prog w) callerA (.call (.ref fa) ⟨[.ref a], []⟩) (fun r s' => r = .ok (.ret (.bool true)) /\ OldK s₁.heap s'.heap /\ s'.os = s₁.os /\ AllBare s'.gens) s₁) :
  WalkO q loose XP YP l.row.toRowW d [] (fun f vs => PySem.call f vs) := by
 intro w s₀ s₁ mg mb G Y fa o pm cd doc dV kV ho hd hcd hD hmg hg args vals as hpre hlay hrd hwl hlo
 obtain rfl : dV = .none := Dflts.none hD hdf
 obtain rfl : kV = .none := Dflts.noKw hD
 obtain ⟨a, vs, ns, rfl, rfl, hobj, hints, hlen⟩ := script_of hn hpre hwl
 refine enter_call (codeAny_mono (call w s₀ s₁ mg mb fa o pm cd doc a vs ns G Y ho (fd_plain hd) hcd hmg hobj hints hlen hg) fun r s' hq => ?_)
 obtain ⟨rfl, h2, h3, h4⟩ := hq
 exact ⟨.inl ⟨.bool true, .bool true, [], rfl, fun _ => rfl, .bool true, post_true l _, fun _ => ⟨List.Pairwise.nil, fun _ hm => (nomatch hm)⟩⟩, h2, h3, h4⟩
section
variable {prog : Program} {w : World} {A : Around} {E : Value -> Shared -> Prop} {s : Shared} {K : Frag}
def ledger (h : Heap) (L d : Addr) : List (Addr × Obj) := (List.range h.objs.size).filterMap fun a => if a = L \/ a = d then none else (h.get? a).map fun o => (a, o)
end
end Att
namespace L2
open PySem PySem.Spec PyProof.Rows
theorem vals_ints : ∀ {vs : List Value} {ns : List Int}, IntsAre vs ns -> Vals (ns.map V.int) vs
 | _, _, .nil => .nil
 | _, _, .cons n t h => .cons ⟨t, rfl⟩ (vals_ints h)
def Only (H : Hp) : Prop := ∀ b, H b = none \/ (∃ o xs, H b = some (.frz o (.lst xs))) \/ H b = some (.tbl 0)
theorem trip0 : TriplesOk [] := by first | trivial | constructor | simp [TriplesOk]
theorem among0 (pos : Pos) : codeAmong pos [] = none := by first | rfl | simp [codeAmong]
theorem old_of {h₀ h : Heap} (k : ∀ b o, h₀.get? b = some o -> h.get? b = some o \/ (isCodeTable h₀ b /\ o = PySem.W.tabObj #[] /\ ∃ ps, h.get? b = some (PySem.W.tabObj ps))) : OldK h₀ h :=
 ⟨fun b o e => by
  rcases k b o e with z | ⟨ht, rfl, ps, hP⟩
  ·exact .inl z
  ·exact .inr (.inl ⟨ht, rfl, #[], ps, rfl, by rw [Array.empty_append]; exact hP⟩), fun b o e => by
  rcases k b o e with z | ⟨_, _, ps, hP⟩
  ·exact ⟨o, z⟩
  ·exact ⟨_, hP⟩⟩
open Classical in
noncomputable def withT (ts : List Addr) (H : Hp) : Hp := fun b => if b ∈ ts then some (.tbl 0) else H b
theorem withT_in {ts : List Addr} {H : Hp} {b : Addr} (h : b ∈ ts) : withT ts H b = some (.tbl 0) := if_pos h
theorem withT_out {ts : List Addr} {H : Hp} {b : Addr} (h : b ∉ ts) : withT ts H b = H b := if_neg h
theorem law_call {P : Program} {w : World} {K : Fg} {mg mb : Str -> Option Value} {CX : CXT} {k : Nat} {fa a : Addr} {fd : FuncData} {x : Str} {sp : Sp} {s₁ : Shared} {vs : List Value} {ns : List Int}
  (KX : K.In s₁.heap) (hns : s₁.heap.Ns mainGlobals mg) (hb : s₁.heap.Ns builtinsNs mb) (hbb : ∀ x : Str, x ≠ "__name__" -> mb x = bootBuiltins x) (hlim : s₁.heap.NoLimit) (hbm : ∃ bm ob, mg "__builtins__" = some (.ref bm) /\ bm ≠ builtinsNs /\ s₁.heap.get? bm = some ob /\ ob.cls = .type "module" /\ ob.dict = some builtinsNs /\ ob.data = .plain) (hg : s₁.gens = #[])
  (ha : s₁.heap.get? a = some { cls := .type "list", data := .seq vs.toArray }) (hi : IntsAre vs ns) (hl : ns.length <= sizeLine) (hr : Room k callerA)
  {ts : List Addr} (hts : ∀ P ∈ ts, s₁.heap.get? P = some (PySem.W.tabObj #[]) /\ isCodeTable s₁.heap P /\ K.lookup P = none)
  (F : ∀ base : Bs, K.In base -> base.Ns mainGlobals mg -> base.tabs = ts -> FnOk P w K mg base CX k fa fd [x] sp) (hbind : ∀ (s : Shared) (u : Value), BindsTo s fd ⟨[u], []⟩ [(x, u)])
  (hsp : ∀ H : Hp, Only H -> SqL K H a (ns.map V.int) -> sp [.ref a] H (fun v _ => v = .bl true) fun _ _ _ => False)
  (hCX : ∀ H e s', CX [] H s₁ (fun _ _ _ => False) e s' -> False) :
  codeAny (model P w) callerA (.call (.ref fa) ⟨[.ref a], []⟩) (fun r s' => r = .ok (.ret (.bool true)) /\ OldK s₁.heap s'.heap /\ s'.os = s₁.os /\ AllBare s'.gens) s₁ := by
 have rv := vals_ints hi
 have lenV := hi.length
 -- from an abstract heap in which nothing but the script may be tracked
 have core : ∀ H : Hp, Only H -> SqL K H a (ns.map V.int) -> HOk P w H s₁.heap -> (∀ b, H b ≠ none -> b = a \/ b ∈ ts) -> (H a ≠ none -> K.lookup a = none) -> (∀ P ∈ ts, H P = some (.tbl 0)) ->
   codeAny (model P w) callerA (.call (.ref fa) ⟨[.ref a], []⟩) (fun r s' => r = .ok (.ret (.bool true)) /\ OldK s₁.heap s'.heap /\ s'.os = s₁.os /\ AllBare s'.gens) s₁ := by
  intro H hO hS hok hA hK hTb
  have base_of : ∀ {b : Addr} {o : Obj}, s₁.heap.get? b = some o -> H b = none -> (hidT s₁.heap H).get? b = some o := fun e n => hidT_get e n
  have noA : ∀ {b : Addr} {o : Obj} {es : Array DictEntry} {ep : Nat}, s₁.heap.get? b = some o -> o.data = .dict es ep -> H b = none := fun {b o es ep} e d => by
   cases q : H b with
   | none => rfl
   | some u =>
    rcases hA b (by rw [q]; simp) with e' | e'
    case inr => rw [(hts b e').1] at e; cases e; cases d
    subst e'
    rw [ha] at e; cases e
    have d' : Data.seq vs.toArray _ = Data.dict es ep := d
    cases d'
  have nsK : ∀ {b : Addr} {m : Str -> Option Value}, s₁.heap.Ns b m -> (hidT s₁.heap H).Ns b m := fun {b m} ⟨o, es, ep, e, d, r⟩ => ⟨o, es, ep, base_of e (noA e d), d, r⟩
  have hKb : K.In (hidT s₁.heap H) := fun b o e => base_of (KX b o e) (by
   cases q : H b with
   | none => rfl
   | some u =>
    rcases hA b (by rw [q]; simp) with e' | e'
    case inr => rw [(hts b e').2.2] at e; cases e
    subst e'
    rw [hK (by rw [q]; simp)] at e; cases e)
  have hM : Mod K mg (⟨hidT s₁.heap H, ts⟩ : Bs) := ⟨hKb, nsK hns, ⟨mb, nsK hb, hbb⟩, let ⟨mc, h1, h2⟩ := hlim; ⟨mc, nsK h1, h2⟩, let ⟨bm, ob, a1, a2, a3, a4, a5, a6⟩ := hbm; ⟨bm, ob, a1, a2, base_of a3 (by
   cases q : H bm with
   | none => rfl
   | some u =>
    rcases hA bm (by rw [q]; simp) with e' | e'
    ·rw [e', ha] at a3; cases a3; exact absurd a6 (by simp)
    ·rw [(hts bm e').1] at a3; cases a3; exact absurd a6 (by simp)), a4, a5, a6⟩⟩
  have e0 : Env0 P w K mg (⟨hidT s₁.heap H, ts⟩ : Bs) callerA [] s₁ H := ⟨rfl, hM, fun b o e => of_hidT e, Nat.le_of_eq (hidT_size _ _), trivial, fun b hb => absurd (show b ∈ ([] : List Addr) from hb) (by simp), hok, .of_eq hg, hTb⟩
  refine codeAny_mono ((F ⟨hidT s₁.heap H, ts⟩ hKb (nsK hns) rfl).run callerA [] s₁ H ⟨[.ref a], []⟩ [.ref a] [.ref a] _ _ hr e0 (hbind s₁ (.ref a)) (.cons rfl .nil) (hsp H hO hS)) fun r s' h => ?_
  cases r with
  | error e => exact (hCX H e s' h).elim
  | ok fl =>
   cases fl with
   | next => exact False.elim h
   | brk => exact False.elim h
   | cont => exact False.elim h
   | ret u =>
    obtain ⟨v, H', os, bare, un, hok', r', q⟩ := h
    have q' : v = .bl true := q
    subst q'
    obtain rfl : u = Value.bool true := r'
    refine ⟨rfl, old_of fun b o e => ?_, os, bare⟩
    cases q : H b with
    | none => exact .inl (un.keep b o e q (by intro z; exact absurd (show b ∈ ([] : List Addr) from z) (by simp)) (by simp))
    | some u =>
     rcases hO b with z | ⟨ob, xs, z⟩ | z
     case inr.inr =>
      rcases hA b (by rw [q]; simp) with e' | e'
      case inl =>
       subst e'
       obtain ⟨ps, e1, _⟩ := hok _ _ z
       rw [ha] at e1; cases e1
      obtain ⟨ps, e2, _⟩ := hok' b _ (un.tbls b 0 z)
      rw [(hts b e').1] at e; cases e
      exact .inr ⟨(hts b e').2.1, rfl, ps, e2⟩
     ·rw [q] at z; cases z
     ·have z2 := un.frzs b ob _ z
      obtain ⟨e1, _⟩ := hok b _ z
      obtain ⟨e2, _⟩ := hok' b _ z2
      rw [e] at e1; cases e1
      exact .inl e2
 have haT : a ∉ ts := fun z => by have := (hts a z).1; rw [ha] at this; cases this
 have okT : ∀ b ∈ ts, ∀ H : Hp, ObjOk P w H s₁.heap b (.tbl 0) := fun b hb H => ⟨#[], (hts b hb).1, trip0, fun pos cv z => by rw [show (#[] : Array Value).toList = [] from rfl, among0] at z; cases z⟩
 cases hk : K.lookup a with
 | some o =>
  have e := KX a o hk
  rw [ha] at e
  cases e
  refine core (withT ts fun _ => none) (fun b => ?_) (.inr ⟨_, vs.toArray, _, hk, rfl, rfl, rfl, by rw [List.size_toArray, lenV]; exact hl, by simpa using rv⟩) (fun b u z => ?_) (fun b z => ?_) (fun z => ?_) fun P hP => withT_in hP
  ·by_cases hb : b ∈ ts
   ·exact .inr (.inr (withT_in hb))
   ·exact .inl (withT_out hb)
  ·by_cases hb : b ∈ ts
   ·rw [withT_in hb] at z; cases z; exact okT b hb _
   ·rw [withT_out hb] at z; cases z
  ·by_cases hb : b ∈ ts
   ·exact .inr hb
   ·exact absurd (withT_out hb) z
  ·exact absurd (withT_out haT) z
 | none =>
  refine core (withT ts fun b => if b = a then some (.frz { cls := .type "list", data := .seq vs.toArray } (.lst (ns.map V.int))) else none) (fun b => ?_) (.inl (.inr ⟨{ cls := .type "list", data := .seq vs.toArray }, by rw [withT_out haT]; exact if_pos rfl⟩)) (fun b u z => ?_) (fun b z => ?_) (fun _ => hk) fun P hP => withT_in hP
  ·by_cases hb : b ∈ ts
   ·exact .inr (.inr (withT_in hb))
   ·rw [withT_out hb]
    by_cases hb : b = a
    ·exact .inr (.inl ⟨_, _, if_pos hb⟩)
    ·exact .inl (if_neg hb)
  ·by_cases hT : b ∈ ts
   ·rw [withT_in hT] at z; cases z; exact okT b hT _
   ·rw [withT_out hT] at z
    by_cases hb : b = a
    ·have z' := (if_pos hb).symm.trans z
     cases z'
     subst hb
     exact ⟨ha, by rw [List.length_map]; exact hl, vs, _, rv, ha⟩
    ·have z' := (if_neg hb).symm.trans z
     cases z'
  ·by_cases hT : b ∈ ts
   ·exact .inr hT
   ·rw [withT_out hT] at z
    by_cases hb : b = a
    ·exact .inl hb
    ·exact absurd (if_neg hb) z
end L2
namespace L2
open PySem PySem.Spec PyProof.Rows
theorem walk_of {l : PySem.W.OpenLaw} {n k : Nat} {q : Program} {loose : List Str} {XP : (Str -> Option Value) -> Heap -> Prop} {YP : World -> Heap -> Prop} {d : DefRec} {K : Params -> Fg} {CX : World -> CXT} {sp : World -> Sp} {x : Str}
  (hn : l.most = some n) (hn2 : n <= sizeLine) (hdf : d.params.defaults = []) (hr : Room k callerA)
  (hY : ∀ (w : World) (h : Heap), YP w h -> (K w.params).In h) {ts : List Addr} (hts : ∀ (w : World) (h : Heap), YP w h -> ∀ P ∈ ts, h.get? P = some (PySem.W.tabObj #[]) /\ isCodeTable h P /\ (K w.params).lookup P = none)
  (F : ∀ (w : World) (mg : Str -> Option Value) (fa : Addr) (h : Heap), (K w.params).In h -> h.Ns mainGlobals mg -> mg d.name = some (.ref fa) ->
   ∃ fd : FuncData, (∀ (s : Shared) (u : Value), BindsTo s fd ⟨[u], []⟩ [(x, u)]) /\
    ∀ base : Bs, (K w.params).In base -> base.Ns mainGlobals mg -> base.tabs = ts -> FnOk l.prog w (K w.params) mg base (CX w) k fa fd [x] (sp w))
  (hsp : ∀ (w : World) (H : Hp) (a : Addr) (ns : List Int), ns.length <= n -> Only H -> SqL (K w.params) H a (ns.map V.int) -> sp w [.ref a] H (fun v _ => v = .bl true) fun _ _ _ => False)
  (hCX : ∀ (w : World) (H : Hp) (s : Shared) (e : Value) (s' : Shared), CX w [] H s (fun _ _ _ => False) e s' -> False) :
  PySem.W.WalkO q loose XP YP l.row.toRowW d [] (fun f vs => PySem.call f vs) := by
 refine Att.attach_call hn hdf fun w s₀ s₁ mg mb fa o pm cd doc a vs ns G Y ho hd hcd hmg hobj hints hlen hg => ?_
 have KX := hY w _ Y
 obtain ⟨fd, hb, hF⟩ := F w mg fa _ KX G.T.g hmg
 exact law_call KX G.T.g G.T.b G.T.builtins G.T.nolimit G.T.bmain hg hobj hints (Nat.le_trans hlen hn2) hr (hts w _ Y) hF hb (fun H hO hS => hsp w H a ns hlen hO hS) fun H e s' => hCX w H s₁ e s'
theorem walk_ofK {l : PySem.W.OpenLaw} {n k : Nat} {q : Program} {loose : List Str} {XP : (Str -> Option Value) -> Heap -> Prop} {YP : World -> Heap -> Prop} {d : DefRec} {K : Params -> Fg} {CX : CXT} {sp : Fg -> Sp} {x : Str}
  (hn : l.most = some n) (hn2 : n <= sizeLine) (hdf : d.params.defaults = []) (hr : Room k callerA)
  (hY : ∀ (w : World) (h : Heap), YP w h -> (K w.params).In h) {ts : List Addr} (hts : ∀ (w : World) (h : Heap), YP w h -> ∀ P ∈ ts, h.get? P = some (PySem.W.tabObj #[]) /\ isCodeTable h P /\ (K w.params).lookup P = none)
  (F : ∀ (w : World) (mg : Str -> Option Value) (fa : Addr) (h : Heap), (K w.params).In h -> h.Ns mainGlobals mg -> mg d.name = some (.ref fa) ->
   ∃ fd : FuncData, (∀ (s : Shared) (u : Value), BindsTo s fd ⟨[u], []⟩ [(x, u)]) /\
    ∀ base : Bs, (K w.params).In base -> base.Ns mainGlobals mg -> base.tabs = ts -> FnOk l.prog w (K w.params) mg base CX k fa fd [x] (sp (K w.params)))
  (hsp : ∀ (K : Fg) (H : Hp) (a : Addr) (ns : List Int), ns.length <= n -> Only H -> SqL K H a (ns.map V.int) -> sp K [.ref a] H (fun v _ => v = .bl true) fun _ _ _ => False)
  (hCX : ∀ (H : Hp) (s : Shared) (e : Value) (s' : Shared), CX [] H s (fun _ _ _ => False) e s' -> False) :
  PySem.W.WalkO q loose XP YP l.row.toRowW d [] (fun f vs => PySem.call f vs) :=
 walk_of (K := K) (CX := fun _ => CX) (sp := fun w => sp (K w.params)) hn hn2 hdf hr hY hts F (fun w H a ns h1 h2 h3 => hsp (K w.params) H a ns h1 h2 h3) fun _ H s e s' => hCX H s e s'
end L2
namespace L2
open PySem PySem.Spec PyProof.Rows
def inClass (s : Stmt) (j : Nat) : Stmt := match s with
 | .ClassDef _ _ _ body _ _ _ _ _ _ _ => body.getD j (.Pass ⟨0, 0, 0, 0⟩)
 | _ => .Pass ⟨0, 0, 0, 0⟩
def defArgs (s : Stmt) : Arguments := match s with
 | .FunctionDef _ a _ _ _ _ _ _ _ _ => a
 | _ => { posonlyargs := [], args := [], vararg := none, kwonlyargs := [], kw_defaults := [], kwarg := none, defaults := [] }
def defBody (s : Stmt) : List Stmt := match s with
 | .FunctionDef _ _ b _ _ _ _ _ _ _ => b
 | _ => []
def defScope (s : Stmt) : Scope := match s with
 | .FunctionDef _ _ _ _ _ _ sc _ _ _ => sc
 | _ => { kind := .function, names := [], isGenerator := false, isCoroutine := false }
abbrev CX0 : CXT := fun _ _ _ _ _ _ => False
abbrev E0 : XK := fun _ _ _ => False
theorem pass0 {X : Cx} : Passes CX0 X E0 := fun _ _ _ _ _ _ _ h => h.elim
structure Fun (K : Fg) (x qual : Str) (st : Stmt) (f : Addr) (fd : FuncData) : Prop where
 ex : ∃ (oc : Value) (od : Option Addr) (kV doc pm : Value) (an : Option Addr) (cdv ct : Value) (osl : Array (Option Value)),
  fd = PySem.W.fnOf x qual (defArgs st) (defBody st) (defScope st) .none kV doc pm an cdv ct /\ K.lookup f = some ⟨oc, od, .func fd, osl⟩ /\ PySem.W.codeIn K cdv qual = true
 kp : PySem.W.keepIn K (.ref f) = true
section
variable {P : Program} {w : World} {K : Fg} {mg : Str -> Option Value} {base : Bs}
theorem Fun.ok {x qual : Str} {st : Stmt} {f : Addr} {fd : FuncData} {N ps : List Str} {k : Nat} {sp : Sp} (F : Fun K x qual st f fd) (S : FnScope N ps (defScope st)) (len : ∀ vs H Q E, sp vs H Q E -> vs.length = ps.length)
  (hbody : ∀ (cdv : Value) (A : Around) (outer : List Env) (s : Shared) (H : Hp) (vs : List V) (Q : VK) (E : XK), Room k (A.deeper (envOfC qual (defScope st) s.heap.objs.size f cdv)) -> sp vs H Q E ->
   ∃ t, PSs (cxOf CX0 P w K mg base N qual (defScope st) f cdv A outer s H E).nox (defBody st) t /\ t { nx := fun _ H' => Q .non H', rt := Q } (start N vs) H) : FnOk P w K mg base CX0 (k + 1) f fd ps sp := by
 obtain ⟨oc, od, kV, doc, pm, an, cdv, ct, osl, rfl, lk, hcd⟩ := F.ex
 refine fn_of lk hcd S len fun A outer s H vs Q E hr hsp => ?_
 obtain ⟨t, h, q⟩ := hbody cdv A outer s H vs Q E hr hsp
 exact ⟨t, h.nox, q⟩
theorem Fun.binds {x qual : Str} {st : Stmt} {f : Addr} {fd : FuncData} {ps : List Str} (F : Fun K x qual st f fd)
  (h : ∀ (kV doc pm : Value) (an : Option Addr) (cdv ct : Value) (us : List Value), us.length = ps.length -> bindArgs (PySem.W.fnOf x qual (defArgs st) (defBody st) (defScope st) .none kV doc pm an cdv ct) ⟨us, []⟩ = pure (ps.zip us)) : Binds K fd ps [] := by
 obtain ⟨oc, od, kV, doc, pm, an, cdv, ct, osl, rfl, lk, hcd⟩ := F.ex
 exact .all (h kV doc pm an cdv ct)
theorem fun_mk {x qual : Str} {st : Stmt} {f : Addr} {oc : Value} {od an : Option Addr} {osl : Array (Option Value)} {kV doc pm cdv ct : Value} (l : K.lookup f = some ⟨oc, od, .func (PySem.W.fnOf x qual (defArgs st) (defBody st) (defScope st) .none kV doc pm an cdv ct), osl⟩)
  (c : PySem.W.codeIn K cdv qual = true) (k : PySem.W.keepIn K (.ref f) = true) : Fun K x qual st f (PySem.W.fnOf x qual (defArgs st) (defBody st) (defScope st) .none kV doc pm an cdv ct) := ⟨⟨oc, od, kV, doc, pm, an, cdv, ct, osl, rfl, l, c⟩, k⟩
end
theorem hu_of {A : Around} {k : Nat} (hr : Room k A) : A.units + 1 < cLine := Nat.lt_of_le_of_lt (Nat.add_le_add_left (by decide : 1 <= 64) _) hr.units
theorem small1000 {n : Nat} (h : n <= 1000) : n < sizeLine := Nat.lt_of_le_of_lt h (by decide)
section
variable {X : Cx}
theorem pv (i : Nat) {x : Str} {pos : Pos} (hN : X.N[i]? = some x := by rfl) (hv : Vis X.env.scope x := by first | exact Or.inl rfl | exact Or.inr (Or.inl rfl) | exact Or.inr (Or.inr rfl)) (hd : (x == ("__debug__" : Str)) = false := by decide)
  (hcd : (x == ("__classdict__" : Str)) = false := by decide) : PE X (.Name x pos) (tVar i) := pe_var hN hv hd hcd
end
theorem iteF {A B : Prop} (h : B) : if false = true then A else B := by
 rw [if_neg Bool.false_ne_true]
 exact h
theorem iteT {A B : Prop} (h : A) : if true = true then A else B := by
 rw [if_pos rfl]
 exact h
def Same (H H' : Hp) : Prop := ∀ b o, H b = some o -> H' b = some o
theorem Same.refl (H : Hp) : Same H H := fun _ _ h => h
theorem Same.trans {H H1 H2 : Hp} (a : Same H H1) (b : Same H1 H2) : Same H H2 := fun c o h => b c o (a c o h)
theorem Same.free {H H' : Hp} (e : Same H H') {l : Addr} (h : H' l = Option.none) : H l = Option.none := by
 cases q : H l with
 | none => rfl
 | some o =>
  rw [e l o q] at h
  cases h
theorem Same.seq {K : Fg} {H H' : Hp} {a : Addr} {xs : List V} (e : Same H H') (h : SqL K H a xs) : SqL K H' a xs := by
 rcases h with (h | ⟨o, h⟩) | h
 ·exact .inl (.inl (e _ _ h))
 ·exact .inl (.inr ⟨o, e _ _ h⟩)
 ·exact .inr h
end L2
end
section
namespace L2
open PySem PySem.Spec PyProof.Rows
section
variable {κ : Type} [DecidableEq κ]
def valV (kvs : List (κ × V)) (k : κ) : Option V := (kvs.find? fun kv => decide (kv.1 = k)).map (·.2)
def putK (kvs : List (κ × V)) (k : κ) (v : V) : List (κ × V) :=
 if (kvs.any fun kv => decide (kv.1 = k)) = true then kvs.map (fun kv => if kv.1 = k then (kv.1, v) else kv) else kvs ++ [(k, v)]
def dropK (kvs : List (κ × V)) (k : κ) : List (κ × V) := kvs.filter fun kv => decide (kv.1 ≠ k)
theorem valV_pos {p : κ × V} {r : List (κ × V)} {k : κ} (e : p.1 = k) : valV (p :: r) k = some p.2 := by simp [valV, List.find?_cons, e]
theorem valV_neg {p : κ × V} {r : List (κ × V)} {k : κ} (e : ¬ p.1 = k) : valV (p :: r) k = valV r k := by simp [valV, List.find?_cons, e]
theorem valV_any (k : κ) : ∀ kvs : List (κ × V), (kvs.any fun kv => decide (kv.1 = k)) = (valV kvs k).isSome
 | [] => rfl
 | p :: r => by
  rw [List.any_cons]
  by_cases e : p.1 = k
  ·simp only [valV_pos e, decide_eq_true e, Bool.true_or, Option.isSome_some]
  ·rw [valV_neg e, decide_eq_false e, Bool.false_or]; exact valV_any k r
theorem length_putK (kvs : List (κ × V)) (k : κ) (v : V) : (putK kvs k v).length <= kvs.length + 1 := by
 unfold putK
 split
 ·rw [List.length_map]; omega
 ·rw [List.length_append, List.length_cons, List.length_nil]; omega
theorem putK_new {kvs : List (κ × V)} {k : κ} (v : V) (h : valV kvs k = none) : putK kvs k v = kvs ++ [(k, v)] := by
 unfold putK
 rw [valV_any, h]
 exact if_neg (by decide)
theorem RelO.isSome_eq {o : Option V} {u : Option Value} (r : RelO o u) : o.isSome = u.isSome := by
 cases o with
 | none => cases u with
  | none => rfl
  | some _ => exact (show False from r).elim
 | some _ => cases u with
  | none => exact (show False from r).elim
  | some _ => rfl
theorem RelO.getD {o : Option V} {u : Option Value} {d : V} {d' : Value} (r : RelO o u) (rd : RelV d d') : RelV (o.getD d) (u.getD d') := by
 cases o with
 | none => cases u with
  | none => exact rd
  | some _ => exact (show False from r).elim
 | some _ => cases u with
  | none => exact (show False from r).elim
  | some _ => exact r
theorem KV.val {kvs : List (κ × V)} {vs : List (κ × Value)} (r : KV kvs vs) (k : κ) : RelO (valV kvs k) (valueAt vs k) := by
 unfold KV at r
 induction r with
 | nil => exact True.intro
 | @cons p q ps qs h t ih =>
  obtain ⟨h1, h2⟩ := h
  by_cases e : p.1 = k
  ·have e' : q.1 = k := h1.symm.trans e
   have b : valueAt (q :: qs) k = some q.2 := by simp [valueAt, List.find?_cons, e']
   rw [valV_pos e, b]; exact h2
  ·have e' : ¬ q.1 = k := fun z => e (h1.trans z)
   have b : valueAt (q :: qs) k = valueAt qs k := by simp [valueAt, List.find?_cons, e']
   rw [valV_neg e, b]; exact ih
theorem KV.any {kvs : List (κ × V)} {vs : List (κ × Value)} (r : KV kvs vs) (k : κ) : (kvs.any fun kv => decide (kv.1 = k)) = vs.any fun kv => decide (kv.1 = k) := by
 unfold KV at r
 induction r with
 | nil => rfl
 | cons h t ih => rw [List.any_cons, List.any_cons, ih, h.1]
theorem KV.repl {kvs : List (κ × V)} {vs : List (κ × Value)} (r : KV kvs vs) (k : κ) {y : V} {u : Value} (ry : RelV y u) :
  KV (kvs.map fun kv => if kv.1 = k then (kv.1, y) else kv) (vs.map fun kv => if kv.1 = k then (kv.1, u) else kv) := by
 unfold KV at r ⊢
 induction r with
 | nil => exact .nil
 | @cons p q ps qs h t ih =>
  rw [List.map_cons, List.map_cons]
  refine .cons ?_ ih
  obtain ⟨h1, h2⟩ := h
  by_cases e : p.1 = k
  ·rw [if_pos e, if_pos (h1.symm.trans e)]; exact ⟨h1, ry⟩
  ·rw [if_neg e, if_neg (fun z => e (h1.trans z))]; exact ⟨h1, h2⟩
theorem KV.put {kvs : List (κ × V)} {vs : List (κ × Value)} (r : KV kvs vs) (k : κ) {y : V} {u : Value} (ry : RelV y u) : KV (putK kvs k y) (stored vs k u) := by
 unfold putK stored
 rw [r.any k]
 by_cases e : (vs.any fun kv => decide (kv.1 = k)) = true
 ·rw [if_pos e, if_pos e]; exact r.repl k ry
 ·rw [if_neg e, if_neg e]; exact Paired.snoc r ⟨rfl, ry⟩
theorem KV.drop {kvs : List (κ × V)} {vs : List (κ × Value)} (r : KV kvs vs) (k : κ) : KV (dropK kvs k) (without vs k) := by
 unfold KV at r ⊢
 unfold dropK without
 induction r with
 | nil => exact .nil
 | @cons p q ps qs h t ih =>
  obtain ⟨h1, h2⟩ := h
  rw [List.filter_cons, List.filter_cons]
  by_cases e : p.1 = k
  ·have a : ¬ decide (p.1 ≠ k) = true := by simp [e]
   have b : ¬ decide (q.1 ≠ k) = true := by simp [h1.symm.trans e]
   rw [if_neg a, if_neg b]; exact ih
  ·have e' : ¬ q.1 = k := fun z => e (h1.trans z)
   have a : decide (p.1 ≠ k) = true := by simp [e]
   have b : decide (q.1 ≠ k) = true := by simp [e']
   rw [if_pos a, if_pos b]; exact .cons ⟨h1, h2⟩ ih
theorem KV.keys {kvs : List (κ × V)} {vs : List (κ × Value)} (r : KV kvs vs) : kvs.map (·.1) = vs.map (·.1) := by
 unfold KV at r
 induction r with
 | nil => rfl
 | cons h t ih => rw [List.map_cons, List.map_cons, ih, h.1]
theorem KV.length {kvs : List (κ × V)} {vs : List (κ × Value)} (r : KV kvs vs) : kvs.length = vs.length := Paired.length r
end
theorem kV_is {P : Program} {w : World} {k : Key} {u : Value} (r : RelV (kV k) u) : (mixKind P w).is k u = true := by
 cases k with
 | inl i => obtain ⟨t, e⟩ := (show ∃ t, u = Value.int i t from r); subst e; exact mixKind_int P w i t
 | inr x => obtain ⟨t, e⟩ := (show ∃ t, u = Value.str x t from r); subst e; exact mixKind_str P w x t
theorem items_are {P : Program} {w : World} : ∀ {ks : List Key} {us : List Value}, Vals (ks.map kV) us -> ItemsAre (mixKind P w) ks us
 | [], _, r => by rw [List.map_nil] at r; cases r; exact .nil
 | k :: ks, _, r => by
  rw [List.map_cons] at r
  cases r with
  | cons h t => exact .cons (kV_is h) (items_are t)
abbrev KT (H : Hp) : List (List Key × V) -> List (List Key × Addr × Value) -> Prop := Paired fun p q => p.1 = q.1 /\ H q.2.1 = some (.tup (p.1.map kV)) /\ RelV p.2 q.2.2
theorem KT.val {H : Hp} {kvs : List (List Key × V)} {xs : List (List Key × Addr × Value)} (r : KT H kvs xs) (k : List Key) : RelO (valV kvs k) ((atKey xs k).map (·.2)) := by
 induction r with
 | nil => exact True.intro
 | @cons p q ps qs h t ih =>
  obtain ⟨h1, _, h2⟩ := h
  by_cases e : p.1 = k
  ·have e' : q.1 = k := h1.symm.trans e
   have b : atKey (q :: qs) k = some q.2 := by simp [atKey, List.find?_cons, e']
   rw [valV_pos e, b]; exact h2
  ·have e' : ¬ q.1 = k := fun z => e (h1.trans z)
   have b : atKey (q :: qs) k = atKey qs k := by simp [atKey, List.find?_cons, e']
   rw [valV_neg e, b]; exact ih
theorem KT.repl {H : Hp} {kvs : List (List Key × V)} {xs : List (List Key × Addr × Value)} (r : KT H kvs xs) (k : List Key) {y : V} {u : Value} (ry : RelV y u) :
  KT H (kvs.map fun kv => if kv.1 = k then (kv.1, y) else kv) (xs.map (putAt k u)) := by
 induction r with
 | nil => exact .nil
 | @cons p q ps qs h t ih =>
  rw [List.map_cons, List.map_cons]
  refine .cons ?_ ih
  obtain ⟨h1, h2, h3⟩ := h
  unfold putAt
  by_cases e : p.1 = k
  ·rw [if_pos e, if_pos (h1.symm.trans e)]; exact ⟨h1, h2, ry⟩
  ·rw [if_neg e, if_neg (fun z => e (h1.trans z))]; exact ⟨h1, h2, h3⟩
theorem KT.put {H : Hp} {kvs : List (List Key × V)} {xs : List (List Key × Addr × Value)} (r : KT H kvs xs) (k : List Key) {b : Addr} {y : V} {u : Value} (hb : H b = some (.tup (k.map kV))) (ry : RelV y u) :
  KT H (putK kvs k y) (storedH xs k b u) := by
 have e : (kvs.any fun kv => decide (kv.1 = k)) = (atKey xs k).isSome := by
  rw [valV_any, (r.val k).isSome_eq, Option.isSome_map]
 unfold putK storedH
 rw [e]
 by_cases q : (atKey xs k).isSome = true
 ·rw [if_pos q, if_pos q]; exact r.repl k ry
 ·rw [if_neg q, if_neg q]; exact Paired.snoc r ⟨rfl, hb, ry⟩
theorem KT.keeps {H H' : Hp} {kvs : List (List Key × V)} {xs : List (List Key × Addr × Value)} (r : KT H kvs xs) (ht : ∀ b ys, H b = some (.tup ys) -> H' b = some (.tup ys)) : KT H' kvs xs :=
 Paired.mapP r fun _ _ z => ⟨z.1, ht _ _ z.2.1, z.2.2⟩
section
variable {P : Program} {w : World} {H : Hp} {h : Heap} {a : Addr}
theorem rd_of {u : HO} (ok : HOk P w H h) (e : Rd H a u) : ObjOk P w H h a u := e.ok ok
theorem dk_rd {kvs : List (Key × V)} (ok : HOk P w H h) (e : Rd H a (.dK kvs)) : kvs.length <= sizeLine /\ (a == sysModules) = false /\ ∃ vs, KV kvs vs /\ h.DictOf (mixKind P w) a vs :=
 show ObjOk P w H h a (.dK kvs) from rd_of ok e
theorem dk_of {kvs : List (Key × V)} (ok : HOk P w H h) (e : H a = some (.dK kvs)) : kvs.length <= sizeLine /\ (a == sysModules) = false /\ ∃ vs, KV kvs vs /\ h.DictOf (mixKind P w) a vs := dk_rd ok (.inl e)
theorem key_of {ks : List Key} (ok : HOk P w H h) (e : H a = some (.tup (ks.map kV))) : (tupleKind (mixKind P w)).is h ks a := by
 obtain ⟨_, its, r, o, h1, h2, n, h3⟩ := (show ObjOk P w H h a (.tup (ks.map kV)) from ok a _ e)
 exact ⟨o, its.toArray, n, h1, h2, h3, by simpa using items_are r⟩
theorem dt_rd {kvs : List (List Key × V)} (ok : HOk P w H h) (e : Rd H a (.dT kvs)) : kvs.length <= sizeLine /\ (a == sysModules) = false /\
  ∃ xs, KT H kvs xs /\ h.DictOfH (tupleKind (mixKind P w)) a xs := by
 obtain ⟨z, y, xs, r, o, es, ep, h1, h2, h3, h4, h5⟩ := (show ObjOk P w H h a (.dT kvs) from rd_of ok e)
 refine ⟨z, y, xs, r, o, es, ep, h1, h2, h3, h4, fun x hx => ?_, h5⟩
 have all : ∀ {l : List (List Key × V)} {m : List (List Key × Addr × Value)}, KT H l m -> ∀ x ∈ m, (tupleKind (mixKind P w)).is h x.1 x.2.1 := by
  intro l m q
  induction q with
  | nil => intro x hx; exact nomatch hx
  | @cons p q ps qs hq t ih =>
   intro x hx
   rcases List.mem_cons.mp hx with e | hx
   ·subst e
    exact key_of ok (by rw [<- hq.1]; exact hq.2.1)
   ·exact ih x hx
 exact all r x hx
theorem dt_of {kvs : List (List Key × V)} (ok : HOk P w H h) (e : H a = some (.dT kvs)) : kvs.length <= sizeLine /\ (a == sysModules) = false /\
  ∃ xs, KT H kvs xs /\ h.DictOfH (tupleKind (mixKind P w)) a xs := dt_rd ok (.inl e)
end
def DGet (H : Hp) (a : Addr) (y : V) (r : Option V) : Prop :=
 (∃ kvs k, Rd H a (.dK kvs) /\ y = kV k /\ r = valV kvs k) \/ ∃ kvs k b, Rd H a (.dT kvs) /\ y = .ref b /\ H b = some (.tup (k.map kV)) /\ r = valV kvs k
def DPut (H : Hp) (a : Addr) (y v : V) (H' : Hp) : Prop :=
 (∃ kvs k, H a = some (.dK kvs) /\ y = kV k /\ kvs.length < sizeLine /\ H' = upd H a (.dK (putK kvs k v))) \/
 ∃ kvs k b, H a = some (.dT kvs) /\ y = .ref b /\ H b = some (.tup (k.map kV)) /\ kvs.length < sizeLine /\ H' = upd H a (.dT (putK kvs k v))
theorem DGet.k {H : Hp} {a : Addr} {kvs : List (Key × V)} {k : Key} (e : H a = some (.dK kvs)) : DGet H a (kV k) (valV kvs k) := .inl ⟨kvs, k, .inl e, rfl, rfl⟩
theorem DGet.t {H : Hp} {a b : Addr} {kvs : List (List Key × V)} {k : List Key} (e : H a = some (.dT kvs)) (eb : H b = some (.tup (k.map kV))) : DGet H a (.ref b) (valV kvs k) := .inr ⟨kvs, k, b, .inl e, rfl, eb, rfl⟩
theorem DPut.k {H : Hp} {a : Addr} {kvs : List (Key × V)} {k : Key} {v : V} (e : H a = some (.dK kvs)) (hl : kvs.length < sizeLine) : DPut H a (kV k) v (upd H a (.dK (putK kvs k v))) := .inl ⟨kvs, k, e, rfl, hl, rfl⟩
theorem DPut.t {H : Hp} {a b : Addr} {kvs : List (List Key × V)} {k : List Key} {v : V} (e : H a = some (.dT kvs)) (eb : H b = some (.tup (k.map kV))) (hl : kvs.length < sizeLine) :
  DPut H a (.ref b) v (upd H a (.dT (putK kvs k v))) := .inr ⟨kvs, k, b, e, rfl, eb, hl, rfl⟩
section
variable {X : Cx} {pins : List (Addr × Obj)} {σ : St} {H : Hp} {s : Shared} {a : Addr} {y v : V} {u r : Value} {o : Option V} {A : Around} {E : Value -> Shared -> Prop}
theorem Inv.big (I : Inv X pins σ H s) : sysModules < s.heap.objs.size := by
 have h : mainGlobals < s.heap.objs.size := (I.mod.glob.keeps I.bk).lt
 exact Nat.lt_trans (by decide) h
theorem d_getItem {Q : Value -> Shared -> Prop} (hu : A.units + 1 < cLine) (I : Inv X pins σ H s) (g : DGet H a y (some v)) (ry : RelV y u) (h : ∀ w' s', Inv X pins σ H s' -> RelV v w' -> Q w' s') :
  wpAny (model X.prog X.w) A (getItem (.ref a) u) Q E s := by
 rcases g with ⟨kvs, k, e, ey, l⟩ | ⟨kvs, k, b, e, ey, eb, l⟩
 ·subst ey
  obtain ⟨z, hd, vs, rel, dd⟩ := dk_rd I.hok e
  obtain ⟨w', hw, rw'⟩ := RelO.some_of (v := v) (o := valueAt vs k) (by rw [l]; exact rel.val k)
  exact wpAny_getItem_of (kV_is ry) dd.mapOf hw (h w' _ (I.tok _) rw')
 ·subst ey
  cases (show u = Value.ref b from ry)
  obtain ⟨z, hd, xs, rel, dd⟩ := dt_rd I.hok e
  obtain ⟨w', hw, rw'⟩ := RelO.some_of (v := v) (o := (atKey xs k).map (·.2)) (by rw [l]; exact rel.val k)
  obtain ⟨p, hp, hp2⟩ := Option.map_eq_some_iff.mp hw
  refine wpAny_getItem_heap (tupleKind_room_in1 hu) (key_of I.hok eb) dd hp ?_
  rw [hp2]
  exact h w' _ (I.tok _) rw'
theorem d_write {h' : Heap} {t' : Nat} {ob : HO} (I : Inv X pins σ H s) (mu : Mut (H a)) (hs : Heap.SameBut a s.heap h') (he : ∃ q, h'.get? a = some q) (new : ObjOk X.prog X.w (upd H a ob) h' a ob) :
  Inv X pins σ (upd H a ob) { s with heap := h', toks := t' } :=
 I.write (x := a) (e := a) mu (.inl rfl) (fun b q hb z => (hs.2 b hb).trans z) he new
theorem dk_new {P : Program} {w : World} {H' : Hp} {h' : Heap} {kvs : List (Key × V)} {vs : List (Key × Value)} (z : kvs.length <= sizeLine) (hd : (a == sysModules) = false) (rel : KV kvs vs) (dd : h'.DictOf (mixKind P w) a vs) :
  ObjOk P w H' h' a (.dK kvs) := ⟨z, hd, vs, rel, dd⟩
theorem d_setItem {H' : Hp} {Q : Unit -> Shared -> Prop} (hu : A.units + 1 < cLine) (I : Inv X pins σ H s) (g : DPut H a y v H') (ry : RelV y u) (rv : RelV v r) (h : ∀ s', Inv X pins σ H' s' -> Q () s') :
  wpAny (model X.prog X.w) A (setItem (.ref a) u r) Q E s := by
 rcases g with ⟨kvs, k, e, ey, l, eH⟩ | ⟨kvs, k, b, e, ey, eb, l, eH⟩
 ·subst ey eH
  obtain ⟨z, hd, vs, rel, dd⟩ := dk_of I.hok e
  have hz : vs.length <= sizeLine := by rw [<- rel.length]; exact z
  have hl : (putK kvs k v).length <= sizeLine := by have := length_putK kvs k v; omega
  refine wpAny_setItem_pairs (hsz := hz) (kV_is ry) dd fun h' dd' hs => h _ ?_
  have he : ∃ q, h'.get? a = some q := let ⟨q, _, _, hq, _⟩ := dd'; ⟨q, hq⟩
  exact d_write I (by rw [e]; exact True.intro) hs he (dk_new hl hd (rel.put k rv) dd')
 ·subst ey eH
  cases (show u = Value.ref b from ry)
  obtain ⟨z, hd, xs, rel, dd⟩ := dt_of I.hok e
  have hz : xs.length <= sizeLine := by rw [<- Paired.length rel]; exact z
  have hl : (putK kvs k v).length <= sizeLine := by have := length_putK kvs k v; omega
  refine wpAny_setItem_heap (hsz := hz) (tupleKind_room_in1 hu) (key_of I.hok eb) dd fun h' dd' hs => h _ ?_
  obtain ⟨q, es, ep, hq, h2, h3, h4, _, h5⟩ := dd'
  refine d_write I (by rw [e]; exact True.intro) hs ⟨q, hq⟩ ⟨hl, hd, _, (rel.put k eb rv).keeps fun c ys ec => ?_, q, es, ep, hq, h2, h3, h4, h5⟩
  rw [upd_ne (ne_of ec e (fun z => nomatch z))]
  exact ec
end
section
variable {X : Cx} {pins : List (Addr × Obj)} {σ : St} {H : Hp} {s : Shared} {a : Addr} {kvs : List (Key × V)} {k : Key} {u : Value} {A : Around} {E : Value -> Shared -> Prop}
end
def NoSl (i : Expr) : Prop := ∀ ov iv, subscripted i false ov iv = operate [ov, iv] (getItem ov iv)
theorem subD_of {prog : Program} {w : World} {A : Around} {E : Value -> Shared -> Prop} {s : Shared} {env : Env} {value slice : Expr} {pos : Pos} {T id : String} {Q : Value -> Shared -> Prop}
  (hl : typeLookup (.type T) "__getitem__" = pure (some (.builtin id))) (hs : NoSl slice)
  (h : wpAny (model prog w) A (eval value env) (fun o s₁ => wpAny (model prog w) A (eval slice env) (fun i s₂ => s₂.TypeIs o T /\ wpAny (model prog w) A (getItem o i) Q E s₂) E s₁) E s) :
  wpAny (model prog w) A (eval (.Subscript value slice pos) env) Q E s := by
 refine Subscript_ (wpAny_mono h (fun o s₁ h₁ => wpAny_mono h₁ (fun i s₂ h₂ => ?_) fun _ _ x => x) fun _ _ x => x)
 obtain ⟨hT, h₂⟩ := h₂
 unfold subscriptTail
 refine wpAny_bind ?_
 rw [getitemInPython_of_ne hT.not_modules]
 refine wpAny_bind (wpAny_specialOf hT hl ?_)
 have fin : wpAny (model prog w) A (subscripted slice false o i) (fun r s₃ => wpAny (model prog w) A (letTemporaryGo value o r >>= fun _ => pure r) Q E s₃) E s₂ := by
  rw [hs o i]
  exact wpAny_operating (wpAny_mono h₂ (fun r s₃ h₃ => wpAny_bind (wpAny_letTemporaryGo (wpAny_pure h₃))) fun _ _ x => x)
 first
  | exact wpAny_pure (wpAny_bind fin)
  | exact wpAny_bind (wpAny_pure (wpAny_bind fin))
  | exact wpAny_bind fin
theorem dict_typeIs {X : Cx} {pins : List (Addr × Obj)} {σ : St} {H : Hp} {s : Shared} {a : Addr} {y : V} {o : Option V} (I : Inv X pins σ H s) (g : DGet H a y o) : s.TypeIs (.ref a) "dict" := by
 rcases g with ⟨kvs, k, e, _, _⟩ | ⟨kvs, k, b, e, _, _, _⟩
 ·obtain ⟨_, _, vs, _, dd⟩ := dk_rd I.hok e
  exact dd.typeIs
 ·obtain ⟨_, _, xs, _, dd⟩ := dt_rd I.hok e
  exact dd.typeIs
def tDGet (td ty : TE) : TE := fun σ H Q => td σ H fun x H1 => ty σ H1 fun y H2 => ∃ a v, x = .ref a /\ DGet H2 a y (some v) /\ Q v H2
def sDPut (td ty tv : TE) : TS := fun D σ H => tv σ H fun v H1 => td σ H1 fun x H2 => ty σ H2 fun y H3 => ∃ a H4, x = .ref a /\ DPut H3 a y v H4 /\ D.nx σ H4
section
variable {X : Cx} {o i e value : Expr} {pos pos' tpos : Pos} {td ty tv : TE}
theorem pe_dget (hu : X.A.units + 1 < cLine) (ho : PE X o td) (hi : PE X i ty) (hs : NoSl i) : PE X (.Subscript o i pos) (tDGet td ty) := by
 intro pins s σ H Q I h
 refine subD_of PySem.F.slot_dict_getitem.lookup hs (thn (ho pins s σ H _ I h) fun u s1 ⟨x, H1, I1, rx, q1⟩ => thn (hi pins s1 σ H1 _ I1 q1) fun iv s2 ⟨y, H2, I2, ry, a, v, ex, g, q2⟩ => ?_)
 subst ex
 obtain rfl : u = Value.ref a := rx
 exact ⟨dict_typeIs I2 g, d_getItem hu I2 g ry fun w' s3 I3 rw' => ⟨v, H2, I3, rw', q2⟩⟩
theorem ps_dput (hu : X.A.units + 1 < cLine) (ho : PE X o td) (hi : PE X i ty) (hv : PE X value tv) (hs : swapsWith value (some (.Subscript o i pos')) pos.line X.env = pure false) :
  PS X (.Assign [.Subscript o i pos'] value pos) (sDPut td ty tv) := by
 intro pins s σ H D I h
 refine wpAny_Assign_Subscript (thn (hv pins s σ H _ I h) fun r s1 ⟨v, H1, I1, rv, q1⟩ => thn (ho pins s1 σ H1 _ I1 q1) fun u s2 ⟨x, H2, I2, rx, q2⟩ => thn (hi pins s2 σ H2 _ I2 q2) fun iv s3 ⟨y, H3, I3, ry, a, H4, ex, g, q3⟩ => ?_) hs
 subst ex
 obtain rfl : u = Value.ref a := rx
 exact d_setItem hu I3 g ry rv fun s4 I4 => ⟨σ, H4, I4, q3⟩
end
theorem dk_empty {P : Program} {w : World} {H : Hp} (h : Heap) (hb : sysModules < h.objs.size) : ObjOk P w H (h.push { cls := .type "dict", data := .dict #[] }) h.objs.size (.dK []) :=
 ⟨Nat.zero_le _, beq_eq_false_iff_ne.mpr (Ne.symm (Nat.ne_of_lt hb)), [], .nil, Heap.DictOf.new h⟩
theorem dt_empty {P : Program} {w : World} {H : Hp} (h : Heap) (hb : sysModules < h.objs.size) : ObjOk P w H (h.push { cls := .type "dict", data := .dict #[] }) h.objs.size (.dT []) :=
 ⟨Nat.zero_le _, beq_eq_false_iff_ne.mpr (Ne.symm (Nat.ne_of_lt hb)), [], .nil, _, #[], 0, Heap.get?_push_size _ rfl, ⟨rfl, rfl, rfl⟩, rfl, rfl, List.nodup_nil⟩
def tDNewK : TE := fun _ H Q => ∀ p, H p = none -> Q (.ref p) (upd H p (.dK []))
def tDNewT : TE := fun _ H Q => ∀ p, H p = none -> Q (.ref p) (upd H p (.dT []))
section
variable {X : Cx} {pos : Pos}
theorem pe_dnewK : PE X (.Dict [] [] pos) tDNewK := fun pins s σ H Q I h =>
 wpAny_Dict_empty ⟨.ref s.heap.objs.size, _, I.laid (a := s.heap.objs.size) (o := .dK []) (t' := s.toks) (fun _ _ q => Heap.get?_push_of_some _ q) (Nat.le_refl _) (dk_empty s.heap I.big), rfl, h _ (I.hok.fresh (Nat.le_refl _))⟩
theorem pe_dnewT : PE X (.Dict [] [] pos) tDNewT := fun pins s σ H Q I h =>
 wpAny_Dict_empty ⟨.ref s.heap.objs.size, _, I.laid (a := s.heap.objs.size) (o := .dT []) (t' := s.toks) (fun _ _ q => Heap.get?_push_of_some _ q) (Nat.le_refl _) (dt_empty s.heap I.big), rfl, h _ (I.hok.fresh (Nat.le_refl _))⟩
end
structure M1 (X : Cx) (o : Expr) (m : Str) (apos : Pos) (e : Expr) (cpos : Pos) : Prop where
 base : attributeBase o m X.env (eval o X.env) = eval o X.env
 few : ((backTo cpos (starEach [e] X.env)).all (fun x => !x.1) && (backToKw cpos (keywordEach [] X.env)).all (fun x => x.1.isSome)
  && decide (([e] : List Expr).length + ([] : List Keyword).length + (if ([] : List Keyword).isEmpty then 0 else 1) < 30)) = true
 line : (apos.endLine == cpos.line) = true
 trees : backTo cpos (starEach [e] X.env) = [(false, eval e X.env)]
structure M2 (X : Cx) (o : Expr) (m : Str) (apos : Pos) (e f : Expr) (cpos : Pos) : Prop where
 base : attributeBase o m X.env (eval o X.env) = eval o X.env
 few : ((backTo cpos (starEach [e, f] X.env)).all (fun x => !x.1) && (backToKw cpos (keywordEach [] X.env)).all (fun x => x.1.isSome)
  && decide (([e, f] : List Expr).length + ([] : List Keyword).length + (if ([] : List Keyword).isEmpty then 0 else 1) < 30)) = true
 line : (apos.endLine == cpos.line) = true
 trees : backTo cpos (starEach [e, f] X.env) = [(false, eval e X.env), (false, eval f X.env)]
section
variable {X : Cx} {pins : List (Addr × Obj)} {σ : St} {H : Hp} {s : Shared} {a : Addr} {y d : V} {u r : Value} {o : Option V} {A : Around} {E : Value -> Shared -> Prop}
end
section
variable {X : Cx} {o e f : Expr} {apos cpos : Pos} {td ty tx : TE}
end
section
variable {X : Cx} {pins : List (Addr × Obj)} {σ : St} {H : Hp} {s : Shared} {a : Addr} {kvs : List (Key × V)} {A : Around} {E : Value -> Shared -> Prop}
end
section
variable {X : Cx} {pins : List (Addr × Obj)} {σ : St} {H : Hp} {s : Shared} {a : Addr} {y : V} {u : Value} {A : Around} {E : Value -> Shared -> Prop}
end
end L2
namespace L2
open PySem PySem.Spec PyProof.Rows
section
variable {X : Cx}
end
section
variable {κ : Type} [DecidableEq κ]
end
end L2
end
section
namespace L2
open PySem PySem.Spec PyProof.Rows
structure MethAt (P : Program) (w : World) (K : Fg) (mg : Str -> Option Value) (base : Bs) (CX : CXT) (k : Nat) (C : Addr) (m : Str) (sp : Sp) : Prop where
 cl : Cls K C
 ex : ∃ (f : Addr) (fd : FuncData) (ps : List Str), Meth K C m f /\ FnOk P w K mg base CX k f fd ps sp /\ Binds K fd ps []
theorem MethAt.mono {P : Program} {w : World} {K : Fg} {mg : Str -> Option Value} {base : Bs} {CX : CXT} {j k : Nat} {C : Addr} {m : Str} {sp : Sp} (h : MethAt P w K mg base CX j C m sp) (hk : j <= k) : MethAt P w K mg base CX k C m sp :=
 ⟨h.cl, let ⟨f, fd, ps, a, b, c⟩ := h.ex; ⟨f, fd, ps, a, b.mono hk, c⟩⟩
section
variable {X : Cx} {CX : CXT} {k : Nat} {E : XK} {m : Str} {pos apos : Pos} {e o : Expr} {es : List Expr} {ta : TE} {t : TA}
def tMethD {ι : Type} (R : ι -> Addr) (m : Str) (sp : ι -> Sp) (E : XK) (ta : TE) (t : TA) : TE := fun σ H Q => ta σ H fun x H1 => ∃ i a dx fs, x = .ref a /\ H1 a = some (.ins (R i) dx fs) /\ fs.lookup m = none /\
 t σ H1 fun vs H2 => sp i (x :: vs) H2 Q E
theorem pe_methD {ι : Type} {R : ι -> Addr} {sp : ι -> Sp} {pl : Sem Bool} (he : PE X o ta) (hR : ∀ i, MethAt X.prog X.w X.K X.mg X.base CX k (R i) m (sp i)) (hr : Room k X.A) (hx : Passes CX X E) (ha : PA X (e :: es) t)
  (hst : starEach (e :: es) X.env = (false, eval e X.env) :: starEach es X.env := by rfl) (hpl : (backTo pos (starEach es X.env)).any (·.1) = false := by rfl)
  (ht : eval (.Call (.Attribute o m apos) (e :: es) [] pos) X.env = (do
   let ov <- eval o X.env
   standAt apos.atName
   let (f, first) <- holding [ov] (getMethod ov m pl)
   callWith pos f first (backTo pos (starEach (e :: es) X.env)) (backToKw pos (keywordEach [] X.env))) := by rfl) :
  PE X (.Call (.Attribute o m apos) (e :: es) [] pos) (tMethD R m sp E ta t) := by
 intro pins s σ H Q I h
 refine PySem.W.methodCall_KW (pl := pl) (thn (he pins s σ H _ I h) fun u s1 ⟨x, H1, I1, rx, i, a, dx, fs, ex, ea, l, q⟩ => ?_) ht
 subst ex
 obtain rfl : u = Value.ref a := rx
 obtain ⟨c, f, fd, ps, hm, F, hb⟩ := hR i
 refine getmeth_ok I1 ea c hm l ?_
 refine PySem.W.callWith_K (first := [.ref a]) (h₀ := X.base) I.ok.mod.kin hm.kp (thn (ha pos pins s1 σ H1 _ I1 q) fun us s2 ⟨vs, H2, I2, r, q2⟩ => ⟨I2.kIn, ?_⟩) hst hpl
 exact run_fn (us := .ref a :: us) (vs := .ref a :: vs) (dvs := []) (ds := []) F hr hb .nil hx I2 (.cons rfl r) (by rw [List.append_nil]; exact q2)
theorem pe_methD0 {ι : Type} {R : ι -> Addr} {sp : ι -> Sp} {pl : Sem Bool} (he : PE X o ta) (hR : ∀ i, MethAt X.prog X.w X.K X.mg X.base CX k (R i) m (sp i)) (hr : Room k X.A) (hx : Passes CX X E)
  (ht : eval (.Call (.Attribute o m apos) [] [] pos) X.env = (do
   let ov <- eval o X.env
   standAt apos.atName
   let (f, first) <- holding [ov] (getMethod ov m pl)
   callWith pos f first (backTo pos (starEach [] X.env)) (backToKw pos (keywordEach [] X.env))) := by rfl) :
  PE X (.Call (.Attribute o m apos) [] [] pos) (tMethD R m sp E ta tNil) := by
 intro pins s σ H Q I h
 refine PySem.W.methodCall_KW (pl := pl) (thn (he pins s σ H _ I h) fun u s1 ⟨x, H1, I1, rx, i, a, dx, fs, ex, ea, l, q⟩ => ?_) ht
 subst ex
 obtain rfl : u = Value.ref a := rx
 obtain ⟨c, f, fd, ps, hm, F, hb⟩ := hR i
 refine getmeth_ok I1 ea c hm l ?_
 exact PySem.W.callWith_K0 (first := [.ref a]) I1.kIn hm.kp (run_fn (us := [.ref a]) (vs := [.ref a]) (dvs := []) (ds := []) F hr hb .nil hx I1 (.cons rfl .nil) (by rw [List.append_nil]; exact q))
end
section
variable {X : Cx}
theorem pe_type {x : Str} {n : String} {pos : Pos} (hg : Gl X x) (hm : X.mg x = none) (hv : bootBuiltins x = some (.type n)) (hn : x ≠ "__name__" := by decide) (hd : (x == ("__debug__" : Str)) = false := by decide) : PE X (.Name x pos) (tC (.ty n)) :=
 pe_bltn hg hm hv rfl hn hd
end
structure Mk0 (K : Fg) (C : Addr) : Prop where
 makes : PySem.W.makesIn K C = true
 init : PySem.W.findIn K (.ref C) "__init__" = some (some (.builtin "object.__init__"))
 kp : PySem.W.keepIn K (.ref C) = true
section
variable {X : Cx} {C : Addr} {x : Str} {p pos : Pos}
def tMake0 (C : Addr) : TE := fun _ H Q => ∀ x dx, H x = none -> H dx = none -> dx ≠ x -> Q (.ref x) (upd (upd H dx (.own x)) x (.ins C dx []))
theorem run_make0 {pins : List (Addr × Obj)} {σ : St} {H : Hp} {s : Shared} {Q : VK} (M : Mk0 X.K C) (I : Inv X pins σ H s)
  (h : ∀ x dx, H x = none -> H dx = none -> dx ≠ x -> Q (.ref x) (upd (upd H dx (.own x)) x (.ins C dx []))) :
  wpAny (model X.prog X.w) X.A (call (.ref C) []) (EP X pins σ Q) X.xe s := by
 have hq := h (s.heap.objs.size + 1) s.heap.objs.size (I.hok.fresh (Nat.le_succ _)) (I.hok.fresh (Nat.le_refl _)) (Nat.ne_of_lt (Nat.lt_succ_self _))
 have I2 := Inv.made (C := C) I
 have Y := PySem.W.makes_of (M := model X.prog X.w) I.kIn M.makes
 refine wpAny_call (make_map0 I.kIn M.makes M.init (fun self => PySem.W.Looks.of_pure (PySem.W.oi_bind self)) ?_)
 have e2 : ((s.heap.push PySem.W.emptyDict).push (PySem.W.instObj C s.heap.objs.size)).get? (s.heap.objs.size + 1) = some (PySem.W.instObj C s.heap.objs.size) := by
  have := Heap.get?_push_size (s.heap.push PySem.W.emptyDict) (o := PySem.W.instObj C s.heap.objs.size) rfl
  rwa [Heap.size_push] at this
 have t1 : PySem.W.Looks (model X.prog X.w) ((s.heap.push PySem.W.emptyDict).push (PySem.W.instObj C s.heap.objs.size)) (typeOf (.ref (s.heap.objs.size + 1))) (.ref C) := (PySem.W.Looks.ld e2).andThen .now
 have t2 : PySem.W.Looks (model X.prog X.w) ((s.heap.push PySem.W.emptyDict).push (PySem.W.instObj C s.heap.objs.size)) (isInstance (.ref (s.heap.objs.size + 1)) (.type "object")) true := t1.andThen (Y.top.keeps fun b o e => Heap.get?_push_of_some _ (Heap.get?_push_of_some _ e))
 refine codeAny_call_builtin PySem.W.oi_plain PySem.W.entry_oi (@PySem.W.check_slot (model X.prog X.w) _ _ _ "object.__init__" "object" "__init__" (.ref (s.heap.objs.size + 1)) [] [] _ PySem.W.oi_kind PySem.W.oi_split t2 (PySem.W.oi_args (.ref (s.heap.objs.size + 1))) ?_)
 rw [PySem.W.oi_run]
 exact wpAny_pure (And.intro rfl ⟨V.ref (s.heap.objs.size + 1), _, I2, rfl, hq⟩)
theorem pe_make00 (M : Mk0 X.K C) (hg : Gl X x) (hm : X.mg x = some (.ref C)) (hdb : (x == ("__debug__" : Str)) = false := by decide) : PE X (.Call (.Name x p) [] [] pos) (tMake0 C) := by
 intro pins s σ H Q I h
 refine wpAny_Call_Name_kw (ld_glob I hg hm ?_ hdb)
 exact PySem.W.callWith_K0 I.kIn M.kp (run_make0 M I h)
end
def clos (env : Env) : List (Str × NameKind) -> List (Str × Addr) -> List (Str × Addr)
 | [], cs => cs
 | (n, k) :: r, cs => clos env r (if k == .free then (match env.cells.lookup n with | some a => (n, a) :: cs | none => cs) else cs)
theorem clos_eq (env : Env) : ∀ (ns : List (Str × NameKind)) (cs : List (Str × Addr)), (∀ y ∈ ns, y.2 = .free -> ∃ c, env.cells.lookup y.1 = some c) ->
  (forIn ns cs fun (x : Str × NameKind) (r : List (Str × Addr)) => (if (x.2 == .free) = true then do let a <- cellOf env x.1; pure (ForInStep.yield ((x.1, a) :: r)) else pure (ForInStep.yield r) : Sem (ForInStep (List (Str × Addr))))) = pure (clos env ns cs)
 | [], cs, _ => rfl
 | (n, k) :: r, cs, h => by
  have ih := clos_eq env r
  rw [List.forIn_cons]
  by_cases hk : k = .free
  ·subst hk
   obtain ⟨c, e⟩ := h (n, .free) List.mem_cons_self rfl
   have e' : env.cells.lookup n = some c := e
   simp only [beq_self_eq_true, if_true, cellOf, e', pure_bind, clos]
   exact ih _ fun y hy => h y (List.mem_cons_of_mem _ hy)
  ·have hb : (k == NameKind.free) = false := by simpa using hk
   simp only [hb, Bool.false_eq_true, if_false, pure_bind, clos]
   exact ih _ fun y hy => h y (List.mem_cons_of_mem _ hy)
theorem closureFor_eq {scope : Scope} {env : Env} (h : ∀ y ∈ scope.names, y.2 = .free -> ∃ c, env.cells.lookup y.1 = some c) : closureFor scope env = pure (clos env scope.names []) := by
 have q := clos_eq env scope.names [] h
 simp only [closureFor]
 first
  | (rw [q]; rfl)
  | (refine Eq.trans (congrArg (fun z => z >>= fun cs => pure cs) q) ?_; rfl)
theorem clos_sub {env : Env} {x : Str} {c : Addr} : ∀ {ns : List (Str × NameKind)} {cs : List (Str × Addr)}, (clos env ns cs).lookup x = some c -> cs.lookup x = some c \/ env.cells.lookup x = some c
 | [], cs, h => .inl h
 | (n, k) :: r, cs, h => by
  have ih := clos_sub (ns := r) h
  rcases ih with ih | ih
  ·by_cases hk : (k == NameKind.free) = true
   ·rw [if_pos hk] at ih
    cases e : env.cells.lookup n with
    | none => rw [e] at ih; exact .inl ih
    | some a =>
     rw [e] at ih
     by_cases hx : x == n
     ·have hx' : x = n := by simpa using hx
      subst hx'
      simp at ih
      subst ih
      exact .inr e
     ·simp only [List.lookup_cons, hx] at ih
      exact .inl ih
   ·rw [if_neg hk] at ih
    exact .inl ih
  ·exact .inr ih
theorem clos_keeps {env : Env} {x : Str} {c : Addr} (hc : env.cells.lookup x = some c) : ∀ {ns : List (Str × NameKind)} {cs : List (Str × Addr)}, cs.lookup x = some c -> (clos env ns cs).lookup x = some c
 | [], cs, h => h
 | (n, k) :: r, cs, h => by
  refine clos_keeps hc (ns := r) ?_
  by_cases hk : (k == NameKind.free) = true
  ·rw [if_pos hk]
   cases e : env.cells.lookup n with
   | none => exact h
   | some a =>
    by_cases hx : x == n
    ·have hx' : x = n := by simpa using hx
     subst hx'
     rw [hc] at e
     cases e
     simp
    ·simp only [List.lookup_cons, hx]
     exact h
  ·rw [if_neg hk]
   exact h
theorem clos_has {env : Env} {x : Str} {c : Addr} (hc : env.cells.lookup x = some c) : ∀ {ns : List (Str × NameKind)} {cs : List (Str × Addr)}, (x, NameKind.free) ∈ ns -> (clos env ns cs).lookup x = some c
 | [], cs, h => by simp at h
 | (n, k) :: r, cs, h => by
  rcases List.mem_cons.mp h with h | h
  ·cases h
   refine clos_keeps hc (ns := r) ?_
   simp [hc]
  ·exact clos_has hc (ns := r) h
theorem relabel_cell {scope : Scope} {env : Env} {x : Str} : ∀ {ns : List (Str × NameKind)} {k : NameKind},
  (ns.map fun (n, k) => if (k == NameKind.free && env.scope.kind == .function && env.kindOf n == some .cell) then (n, NameKind.cell) else (n, k)).lookup x = some k -> (k = .cell \/ k = .free) -> (∀ y ∈ ns, y.2 ≠ .cell) -> (x, NameKind.free) ∈ ns
 | [], _, h, _, _ => by simp at h
 | (n, j) :: r, k, h, hk, nc => by
  by_cases hx : x == n
  ·have hx' : x = n := by simpa using hx
   subst hx'
   have hj : j ≠ .cell := nc _ List.mem_cons_self
   by_cases hc : (j == NameKind.free && env.scope.kind == .function && env.kindOf x == some .cell) = true
   ·have : j = .free := by
     have := (Bool.and_eq_true_iff.mp (Bool.and_eq_true_iff.mp hc).1).1
     simpa using this
    subst this
    exact List.mem_cons_self
   ·simp only [List.map_cons, hc, if_neg, Bool.false_eq_true, not_false_eq_true, List.lookup_cons, beq_self_eq_true] at h
    have : j = k := by simpa using h
    subst this
    rcases hk with hk | hk
    ·exact absurd hk hj
    ·subst hk; exact List.mem_cons_self
  ·refine List.mem_cons_of_mem _ (relabel_cell (scope := scope) (env := env) (ns := r) (k := k) ?_ hk fun y hy => nc y (List.mem_cons_of_mem _ hy))
   simp only [List.map_cons] at h
   by_cases hc : (j == NameKind.free && env.scope.kind == .function && env.kindOf n == some .cell) = true
   ·rw [if_pos hc] at h
    simpa only [List.lookup_cons, hx] using h
   ·rw [if_neg hc] at h
    simpa only [List.lookup_cons, hx] using h
theorem relabel_free {env : Env} {x : Str} : ∀ {ns : List (Str × NameKind)}, ns.lookup x = some .free ->
  (ns.map fun (n, k) => if (k == NameKind.free && env.scope.kind == .function && env.kindOf n == some .cell) then (n, NameKind.cell) else (n, k)).lookup x = some .cell \/
  (ns.map fun (n, k) => if (k == NameKind.free && env.scope.kind == .function && env.kindOf n == some .cell) then (n, NameKind.cell) else (n, k)).lookup x = some .free
 | [], h => by simp at h
 | (n, j) :: r, h => by
  by_cases hx : x == n
  ·have hx' : x = n := by simpa using hx
   subst hx'
   have : j = .free := by simpa using h
   subst this
   by_cases hc : (NameKind.free == NameKind.free && env.scope.kind == .function && env.kindOf x == some .cell) = true
   ·left; simp only [List.map_cons]; rw [if_pos hc]; simp
   ·right; simp only [List.map_cons]; rw [if_neg hc]; simp
  ·have h' : r.lookup x = some .free := by simpa only [List.lookup_cons, hx] using h
   have ih := relabel_free (env := env) (ns := r) h'
   simp only [List.map_cons]
   by_cases hc : (j == NameKind.free && env.scope.kind == .function && env.kindOf n == some .cell) = true
   ·rw [if_pos hc]; simpa only [List.lookup_cons, hx] using ih
   ·rw [if_neg hc]; simpa only [List.lookup_cons, hx] using ih
end L2
end
section
namespace L2
open PySem PySem.Spec PyProof.Rows
abbrev cxB (X : Cx) (scope : Scope) (C : Addr) (N' : List Str) (s₀ : Shared) (H₀ : Hp) (fp : List Addr) : Cx :=
 { X with N := N', s₀ := s₀, H₀ := H₀, env := compEnvC scope (clos X.env scope.names []) C X.env, outer := X.stack, stack := X.stack, ex := fp, fn := fun _ => false, cw := fun _ => false, pn := [], xe := fun _ _ => False }
def CapsOk (X : Cx) (scope : Scope) : List (Str × Nat) -> Prop
 | [] => True
 | p :: r => (scope.names.lookup p.1 = some .free /\ X.N[p.2]? = some p.1 /\ (X.env.scope.names.lookup p.1 = some .cell \/ X.env.scope.names.lookup p.1 = some .free)) /\ CapsOk X scope r
theorem CapsOk.mem {X : Cx} {scope : Scope} : ∀ {l : List (Str × Nat)}, CapsOk X scope l -> ∀ p ∈ l, scope.names.lookup p.1 = some .free /\ X.N[p.2]? = some p.1 /\ (X.env.scope.names.lookup p.1 = some .cell \/ X.env.scope.names.lookup p.1 = some .free)
 | [], _, p, h => by simp at h
 | q :: r, h, p, hp => by
  rcases List.mem_cons.mp hp with e | e
  ·rw [e]; exact h.1
  ·exact CapsOk.mem h.2 p e
def FreesOk (X : Cx) (names : List (Str × NameKind)) : Prop := (names.all fun y => y.2 != .free || X.env.scope.names.lookup y.1 == some .cell || X.env.scope.names.lookup y.1 == some .free) = true
theorem FreesOk.mem {X : Cx} {l : List (Str × NameKind)} (h : FreesOk X l) : ∀ y ∈ l, y.2 = .free -> (X.env.scope.names.lookup y.1 = some .cell \/ X.env.scope.names.lookup y.1 = some .free) := fun y hy e => by
 have q := List.all_eq_true.mp h y hy
 rw [e] at q
 have q' : ((X.env.scope.names.lookup y.1 == some .cell) || (X.env.scope.names.lookup y.1 == some .free)) = true := q
 rcases Bool.or_eq_true_iff.mp q' with z | z
 ·exact .inl (eq_of_beq z)
 ·exact .inr (eq_of_beq z)
structure CompScope (X : Cx) (scope : Scope) (own : List Str) (caps : List (Str × Nat)) : Prop where
 kind : scope.kind = .function
 nocell : ∀ y ∈ scope.names, y.2 ≠ .cell
 names : ∀ y ∈ scope.names, y.2 = .local -> scope.names.lookup y.1 = some .local
 caps : CapsOk X scope caps
 frees : FreesOk X scope.names
abbrev capN (own : List Str) (caps : List (Str × Nat)) : List Str := own ++ caps.map (·.1)
abbrev capS (own : List Str) (caps : List (Str × Nat)) (σ : St) : St := List.replicate own.length none ++ caps.map fun p => (σ[p.2]?).getD none
theorem compLoop_any {prog : Program} {w : World} {A : Around} {R : Result -> Shared -> Prop} {s : Shared} {elt target iter : Expr} {ifs : List Expr} {scope : Scope} {pos : Pos} {it acc : Value} {env : Env} (I : Nat -> Shared -> Prop)
  (turn : ∀ n s, I n s -> wpAny (model prog w) A (pyNext it) (fun r s₁ => match r with
   | none => R (.ok .next) s₁
   | some v => wpAny (model prog w) A (letOwnedTupleGo target it v) (fun _ s₁' => wpAny (model prog w) A (assign target env v) (fun _ s₂ =>
     wpAny (model prog w) A (forIn ifs true fun c r => if r = true then do let ok <- isTrue c env (eval c env); pure (ForInStep.yield ok) else pure (ForInStep.yield r)) (fun ok s₃ =>
      if ok = true then wpAny (model prog w) A (eval elt env) (fun x s₄ =>
       wpAny (model prog w) A (call (.builtin "list.append") [acc, x]) (fun _ s₅ => ∃ m, m < n /\ I m s₅) (fun _ _ => False) s₄) (fun _ _ => False) s₃
      else ∃ m, m < n /\ I m s₃) (fun _ _ => False) s₂) (fun _ _ => False) s₁') (fun _ _ => False) s₁) (fun _ _ => False) s)
  (n : Nat) (h : I n s) :
  codeAny (model prog w) A (.compLoop (.ListComp elt [⟨target, iter, ifs, 0⟩] scope pos) 0 it acc env) R s := by
 refine codeAny_loop rfl I (fun n s hI => ?_) n h
 show wpAny _ A ((compTurn (.ListComp elt [⟨target, iter, ifs, 0⟩] scope pos) 0 it acc env).onRaise (fun x => do noteFrame x env; theTreesLotGoes x)) _ _ s
 refine wpAny_noted ?_
 rw [compTurn_list]
 refine wpAny_bind (wpAny_standAt (wpAny_bind (wpAny_mono (turn n s hI) (fun r s₁ h₁ => ?_) fun _ _ h' => h'.elim)))
 cases r with
 | none => exact wpAny_pure h₁
 | some v =>
  refine wpAny_bind (wpAny_mono h₁ (fun _ s₁' h₁' => ?_) fun _ _ h' => h'.elim)
  refine wpAny_bind (wpAny_mono h₁' (fun _ s₂ h₂ => wpAny_bind (wpAny_mono h₂ (fun ok s₃ h₃ => ?_) fun _ _ h' => h'.elim)) fun _ _ h' => h'.elim)
  cases ok with
  | false => exact wpAny_pure ⟨rfl, h₃⟩
  | true =>
   exact wpAny_bind (wpAny_bind (wpAny_mono h₃ (fun x s₄ h₄ => wpAny_bind (wpAny_mono h₄ (fun _ s₅ h₅ => wpAny_pure (wpAny_pure ⟨rfl, h₅⟩)) fun _ _ h' => h'.elim)) fun _ _ h' => h'.elim))
section
variable {X : Cx} {pins : List (Addr × Obj)} {σ : St} {H : Hp} {s s1 : Shared} {scope : Scope} {own : List Str} {caps : List (Str × Nat)} {fp : List Addr}
theorem Inv.block {h1 : Heap} {tk : Nat} (I : Inv X pins σ H s) (S : CompScope X scope own caps) (hf : ∀ b ∈ fp, FpOk X pins H b)
  (hns : h1.Ns s.heap.objs.size fun _ => none) (hk : ∀ b o, s.heap.get? b = some o -> h1.get? b = some o) (hfl : ∀ b ∈ fp, b < s.heap.objs.size) :
  Inv (cxB X scope s.heap.objs.size (capN own caps) s H fp) [] (capS own caps σ) H { s with heap := h1, toks := tk } := by
 have hfree : ∀ y ∈ scope.names, y.2 = .free -> ∃ c, X.env.cells.lookup y.1 = some c := fun y hy e => I.ok.has _ (S.frees.mem y hy e)
 have sub : ∀ x c, (clos X.env scope.names []).lookup x = some c -> X.env.cells.lookup x = some c := fun x c e => by
  rcases clos_sub e with z | z
  ·simp at z
  ·exact z
 have celT : ∀ {c : Addr} {v : Option Value}, s.heap.IsCell c v -> h1.IsCell c v := fun {c v} ⟨o, ho, hd⟩ => ⟨o, hk _ _ ho, hd⟩
 refine ⟨⟨I.ok.mod, ?_, I.ok.glob, I.ok.blt, Nat.le_refl _, fun y z c e1 e2 => I.ok.inj y z c (sub _ _ e1) (sub _ _ e2), fun y hy => ?_, (fun y c e => (nomatch e)), I.ok.hd, I.ok.frames, .inl rfl, fun b hb => ⟨Nat.ne_of_lt (hfl b hb), fun x c e => (hf b hb).2.2.2.2.1 x c (sub x c e)⟩,
   I.bs, Nat.le_trans I.ok.bsz I.sz, fun b o e hb => ?_, fun b hb z => ?_, I.stack, I.stkFree, fun P z => I.base.tbls P 0 (I.ok.tab P z), fun _ z => z⟩,
  rfl, I.bare, Un.kept hk, ⟨_, hns, fun i y v e1 e2 e3 => ?_⟩, fun y c e => ?_, I.hok.fresh (Nat.le_refl _), fun y c e => (I.freeC y c (sub y c e)).imp id fun ⟨_, z⟩ => ⟨rfl, z⟩, fun p hp => absurd (show p ∈ ([] : List (Addr × Obj)) from hp) (by simp), I.hok.kept hk, ?_⟩
 ·exact S.kind
 ·have hy : (relabel scope X.env).names.lookup y = some .cell \/ (relabel scope X.env).names.lookup y = some .free := hy
  have m : (y, NameKind.free) ∈ scope.names := by
   rcases hy with z | z
   ·exact relabel_cell (scope := scope) (env := X.env) z (.inl rfl) S.nocell
   ·exact relabel_cell (scope := scope) (env := X.env) z (.inr rfl) S.nocell
  obtain ⟨c, e⟩ := hfree _ m rfl
  exact ⟨c, clos_has e m⟩
 ·rcases (hf b hb).2.2.2.1 with z | z
  ·exact I.ok.noex b o e z
  ·exact absurd (Nat.lt_of_lt_of_le (Heap.lt_size e) (Nat.le_trans I.ok.bsz z)) (Nat.lt_irrefl _)
 ·rcases List.mem_cons.mp (I.stkSub b z) with q | q
  ·exact (hf b hb).2.1 q
  ·exact (hf b hb).2.2.1 q
 ·-- a captured name
  have hi : own.length <= i := by
   rcases Nat.lt_or_ge i own.length with q | q
   ·rw [List.getElem?_append_left (by simpa using q), List.getElem?_replicate, if_pos q] at e2
    cases e2
   ·exact q
  rw [List.getElem?_append_right hi, List.getElem?_map] at e1
  rw [List.getElem?_append_right (by simpa using hi), List.length_replicate, List.getElem?_map] at e2
  cases ep : caps[i - own.length]? with
  | none => rw [ep] at e1; cases e1
  | some p =>
   rw [ep] at e1 e2
   have ey : p.1 = y := Option.some.inj e1
   subst ey
   obtain ⟨f1, f2, f3⟩ := S.caps.mem p (List.mem_of_getElem? ep)
   have eσ : σ[p.2]? = some (some v) := by
    have e2' : (σ[p.2]?).getD none = some v := Option.some.inj e2
    cases q : σ[p.2]? with
    | none => rw [q] at e2'; cases e2'
    | some o => rw [q] at e2'; exact congrArg some e2'
   obtain ⟨m, _, hl⟩ := I.loc
   obtain ⟨u, ru, L⟩ := hl p.2 p.1 v f2 eσ (f3.elim (fun z => .inr (.inl z)) fun z => .inr (.inr z))
   refine ⟨u, ru, .inr ⟨relabel_free f1, ?_⟩⟩
   rcases L with ⟨L, _⟩ | ⟨_, c, e, ic⟩
   ·have L : X.env.scope.names.lookup p.1 = some .local := L
    rcases f3 with z | z <;> (rw [z] at L; cases L)
   ·exact ⟨c, clos_has e (PySem.mem_of_lookup f1), celT ic⟩
 ·obtain ⟨v, z⟩ := I.cell y c (sub y c e)
  exact ⟨v, celT z⟩
 ·show (capS own caps σ).length = (capN own caps).length
  simp
def PTs (X : Cx) (ifs : List Expr) (t : TT) : Prop := ∀ (pins : List (Addr × Obj)) (s : Shared) (σ : St) (H : Hp) (Q : Bool -> Hp -> Prop), Inv X pins σ H s -> t σ H Q ->
 wpAny (model X.prog X.w) X.A (forIn ifs true fun c r => if r = true then do let ok <- isTrue c X.env (eval c X.env); pure (ForInStep.yield ok) else pure (ForInStep.yield r)) (TP X pins σ Q) X.xe s
def tYes : TT := fun _ H Q => Q true H
theorem pts_nil {X : Cx} : PTs X [] tYes := fun _ _ _ H _ I h => wpAny_tests_nil ⟨H, I, h⟩
theorem pts_one {X : Cx} {c : Expr} {t : TT} (h : PT X c t) : PTs X [c] t := fun pins s σ H Q I hq => wpAny_tests_one (h pins s σ H Q I hq)
def CompGo (own : List Str) (caps : List (Str × Nat)) (g : TG) (tc : TT) (te : TE) (σ : St) (Q : VK) (J : It) (H1 : Hp) : Prop := ∀ D, H1 D = none -> ∃ W : Nat -> Nat -> St -> Hp -> Prop, (∃ m, W 0 m (capS own caps σ) (upd H1 D (.lst []))) /\ ∀ i m σ' H', W i m σ' H' ->
 (J.stop i H' /\ Q (.ref D) H') \/ (J.go i H' /\ ∃ N : St -> Hp -> Prop, (∀ σ2 H2, N σ2 H2 -> ∃ m', m' < m /\ W (i + 1) m' σ2 H2) /\ ∀ x H2, J.yld i H' x H2 -> g x σ' H2 fun σ3 H3 => tc σ3 H3 fun b H4 =>
  if b = true then te σ3 H4 fun y H5 => ∃ ys, H5 D = some (.lst ys) /\ ys.length < sizeLine /\ N σ3 (upd H5 D (.lst (ys ++ [y]))) else N σ3 H4)
def tComp (own : List Str) (caps : List (Str × Nat)) (wi : TI) (g : TG) (tc : TT) (te : TE) : TE := fun σ H Q => wi σ H (CompGo own caps g tc te σ Q)
theorem pe_comp {elt tg iter : Expr} {ifs : List Expr} {pos : Pos} {wi : TI} {g : TG} {tc : TT} {te : TE} (S : CompScope X scope own caps) (hc : X.calm = true) (hi : PI X tg iter wi)
  (hg : ∀ C s₀ H₀ fp, PG (cxB X scope C (capN own caps) s₀ H₀ fp) tg g) (ht : ∀ C s₀ H₀ fp, PTs (cxB X scope C (capN own caps) s₀ H₀ fp) ifs tc) (he : ∀ C s₀ H₀ fp, PE (cxB X scope C (capN own caps) s₀ H₀ fp) elt te)
  (hs : ∀ x, foldedSetIterable iter X.env x = pure x := by intro _; rfl) : PE X (.ListComp elt [⟨tg, iter, ifs, 0⟩] scope pos) (tComp own caps wi g tc te) := by
 intro pins s σ H Q I h
 rw [eval_ListComp]
 have hfree : ∀ y ∈ scope.names, y.2 = .free -> ∃ c, X.env.cells.lookup y.1 = some c := fun y hy e => I.ok.has _ (S.frees.mem y hy e)
 refine wpAny_comprehension_free (use := none) rfl hs (closureFor_eq hfree) S.kind S.names (thn (hi pins s σ H _ I h) fun v s1 h1 => thn h1 fun itv s2 h2 => ?_)
 obtain ⟨it, fp, tn, J, H2, e, I2, T, st2, f2, hW⟩ := h2
 subst e
 -- the new list
 refine wpAny_newList ?_
 have hD : H2 s2.heap.objs.size = none := I2.fresh
 have I3 := I2.lnew (its := []) (ys := []) (t' := s2.toks) .nil (Nat.zero_le _)
 have k3 : ∀ b o, s2.heap.get? b = some o -> (s2.heap.push { cls := .type "list", data := .seq ([] : List Value).toArray }).get? b = some o := fun b o q => Heap.get?_push_of_some _ q
 have st3 : tn 0 (s2.heap.push { cls := .type "list", data := .seq ([] : List Value).toArray }) := T.keep _ _ _ st2 fun b _ o q => k3 b o q
 have lt2 : ∀ b ∈ fp, b < s2.heap.objs.size := fun b hb => let ⟨o, q, _⟩ := T.obj _ _ st2 b hb; Heap.lt_size q
 have neD : ∀ b ∈ fp, b ≠ s2.heap.objs.size := fun b hb => Nat.ne_of_lt (lt2 b hb)
 have f3 : ∀ b ∈ fp, FpOk X pins (upd H2 s2.heap.objs.size (.lst [])) b := fun b hb => ⟨by rw [upd_ne (neD b hb)]; exact (f2 b hb).1, (f2 b hb).2⟩
 obtain ⟨W, ⟨m0, w0⟩, turn⟩ := hW _ hD
 generalize eD : s2.heap.objs.size = D at *
 generalize eH : upd H2 D (.lst []) = H3 at *
 generalize eh : s2.heap.push { cls := .type "list", data := .seq ([] : List Value).toArray } = hp3 at *
 have I3' : Inv X pins σ H3 { s2 with heap := hp3 } := I3
 -- the block's frame
 refine wpAny_newFunctionEnv S.nocell (fun y hy => by simp at hy) (fun h1 hns hsb => ?_) S.kind
 have kb : ∀ b o, hp3.get? b = some o -> h1.get? b = some o := fun b o q => hsb.extBut b o (Nat.ne_of_lt (Heap.lt_size q)) (Heap.get?_push_of_some _ q)
 have lt3 : ∀ b ∈ fp, b < hp3.objs.size := fun b hb => let ⟨o, q, _⟩ := T.obj _ _ st3 b hb; Heap.lt_size q
 have IB := Inv.block (s := { s2 with heap := hp3 }) (h1 := h1) (tk := s2.toks) I3' S f3 hns kb lt3
 have stB : tn 0 h1 := T.keep _ _ _ st3 fun b _ o q => kb b o q
 have back : ∀ {σ' : St} {H' : Hp} {s' : Shared} {h' : Heap}, Inv (cxB X scope hp3.objs.size (capN own caps) { s2 with heap := hp3 } H3 fp) [] σ' H' s' -> Heap.SameBut hp3.objs.size s'.heap h' -> Inv X pins σ H' { s' with heap := h' } := fun {σ' H' s' h'} J hsm => by
  have nC : ∀ b o, H' b = some o -> b ≠ hp3.objs.size := fun b o q z => by
   have := J.free
   rw [z] at q
   have q2 : H' hp3.objs.size = none := this
   rw [q] at q2; cases q2
  have hok : HOk X.prog X.w H' h' := fun b o q => (J.hok b o q).stay (fun c v hc z => hsm.extBut c v (by
   rcases hc with hc | hc
   ·rw [hc]; exact nC b o q
   ·exact nC c _ hc) z) (fun _ z => z) (fun _ _ z => z) fun _ _ _ z => z
  have nb : ∀ b o, hp3.get? b = some o -> b ≠ hp3.objs.size := fun b o q => Nat.ne_of_lt (Heap.lt_size q)
  have un : Un (frs X.stack) fp H3 H' hp3 h' := ⟨fun b o q n hb hx => hsm.extBut b o (nb b o q) (J.base.keep b o q n hb hx), fun b o q n hb hx => by
    obtain ⟨sl, z⟩ := J.base.slot b o q n hb hx
    exact ⟨sl, hsm.extBut b _ (nb b o q) z⟩, J.base.free, fun b o q hx => by
    obtain ⟨o', z⟩ := J.base.there b o q hx
    exact ⟨o', hsm.extBut b _ (nb b o q) z⟩, J.base.tups, J.base.frzs, J.base.tbls⟩
  have os := J.os
  have bare := J.bare
  obtain ⟨hh, g, d, t, os'⟩ := s'
  obtain rfl : os' = s2.os := os
  show Inv X pins σ H' { ({ s2 with heap := hp3 } : Shared) with heap := h', gens := g, drawn := d, toks := t }
  exact I3'.call (h' := h') (g' := g) (d' := d) (t' := t) (ch := fp) un hok bare fun b hb => ⟨(f3 b hb).2.2.2.1, (f3 b hb).2.1, (f3 b hb).2.2.2.2.1, (f3 b hb).2.2.2.2.2⟩
 have statB : ∀ {H' : Hp}, (∀ b ∈ fp, H' b = none) -> ∀ b ∈ fp, FpOk (cxB X scope hp3.objs.size (capN own caps) { s2 with heap := hp3 } H3 fp) [] H' b := fun hn b hb =>
  ⟨hn b hb, Nat.ne_of_lt (lt3 b hb), fun z => (IB.ok.exfs b hb) z, .inl hb, (IB.ok.exf b hb).2, fun p hp => absurd (show p ∈ ([] : List (Addr × Obj)) from hp) (by simp)⟩
 have loop : ∀ s₃ : Shared, s₃ = { s2 with heap := h1, toks := s2.toks } -> codeAny (model X.prog X.w) X.A (.compLoop (.ListComp elt [⟨tg, iter, ifs, 0⟩] scope pos) 0 (.ref it) (.ref D) (compEnvC scope (clos X.env scope.names []) hp3.objs.size X.env))
   (compPost (model X.prog X.w) X.A X.xe none (EP X pins σ Q) (.ref D) hp3.objs.size) s₃ := by
  rintro s₃ rfl
  refine compLoop_any (fun n s' => ∃ i σ' H', Inv (cxB X scope hp3.objs.size (capN own caps) { s2 with heap := hp3 } H3 fp) [] σ' H' s' /\ tn i s'.heap /\ (∀ b ∈ fp, H' b = none) /\ W i n σ' H') ?_ m0 ⟨0, capS own caps σ, H3, IB, stB, fun b hb => (f3 b hb).1, w0⟩
  rintro n s3 ⟨i, σ3, H4, I4, st4, fr4, w4⟩
  rcases turn i n σ3 H4 w4 with ⟨stop, qn⟩ | ⟨go, N, hN, step⟩
  ·refine thn (T.done (cxB X scope hp3.objs.size (capN own caps) { s2 with heap := hp3 } H3 fp) rfl rfl rfl hc i [] s3 σ3 H4 _ I4 (statB fr4) st4 stop) fun r s4 ⟨hr, I5⟩ => ?_
   subst hr
   obtain ⟨m, hn, _⟩ := I5.loc
   exact ⟨m, hn, fun h' hsm => ⟨.ref D, H4, back I5 hsm, rfl, qn⟩⟩
  ·refine thn (T.item (cxB X scope hp3.objs.size (capN own caps) { s2 with heap := hp3 } H3 fp) rfl rfl rfl hc i [] s3 σ3 H4 (fun _ _ => False) I4 (statB fr4) st4 go) fun r s4 ⟨u, hr, h4⟩ => ?_
   subst hr
   refine thn h4 fun _ s5 ⟨x, H5, I5, r5, y5, st5, fr5⟩ => ?_
   have I5' := I5.pinned (statB fr5) (T.obj _ _ st5)
   refine thn (hg hp3.objs.size { s2 with heap := hp3 } H3 fp _ s5 σ3 H5 x u _ I5' r5 (step x H5 y5)) fun _ s6 ⟨σ6, H6, I6, q6⟩ => ?_
   refine thn (ht hp3.objs.size { s2 with heap := hp3 } H3 fp _ s6 σ6 H6 _ I6 q6) fun ok s7 ⟨H7, I7, q7⟩ => ?_
   have again : ∀ {σ7 : St} {H7 : Hp} {s7 : Shared}, Inv (cxB X scope hp3.objs.size (capN own caps) { s2 with heap := hp3 } H3 fp) ([] ++ pinsAt fp s5.heap) σ7 H7 s7 -> N σ7 H7 -> ∃ m, m < n /\ ∃ i σ' H', Inv (cxB X scope hp3.objs.size (capN own caps) { s2 with heap := hp3 } H3 fp) [] σ' H' s7 /\ tn i s7.heap /\ (∀ b ∈ fp, H' b = none) /\ W i m σ' H' := fun {σ7 H7 s7} I7 n7 => by
    obtain ⟨m', hm, w7⟩ := hN σ7 H7 n7
    refine ⟨m', hm, i + 1, σ7, H7, I7.unpinned, T.keep _ _ _ st5 fun b hb o e => (I7.pin (b, o) (List.mem_append_right _ (List.mem_append_right _ (mem_pinsAt hb e)))).1, fun b hb => ?_, w7⟩
    obtain ⟨o, e, d⟩ := T.obj _ _ st5 b hb
    exact (I7.pin (b, o) (List.mem_append_right _ (List.mem_append_right _ (mem_pinsAt hb e)))).2.1
   cases ok with
   | false =>
    rw [if_neg (by decide)]
    rw [if_neg (by decide)] at q7
    exact again I7 q7
   | true =>
    rw [if_pos rfl]
    rw [if_pos rfl] at q7
    refine thn (he hp3.objs.size { s2 with heap := hp3 } H3 fp _ s7 σ6 H7 _ I7 q7) fun y s8 ⟨yv, H8, I8, r8, ys, e8, z8, n8⟩ => ?_
    refine thn (mt_append (X := cxB X scope hp3.objs.size (capN own caps) { s2 with heap := hp3 } H3 fp) _ s8 σ6 H8 (.ref D) [yv] (.ref D) [y] (fun _ H' => N σ6 H') I8 rfl (.cons r8 .nil) ⟨D, ys, yv, rfl, rfl, e8, z8, n8⟩) fun _ s9 ⟨v9, H9, I9, _, q9⟩ => ?_
    exact again I9 q9
 exact codeAny_compStart_list (loop _ rfl) (T.self _ 0 _ _ _ stB (loop _ rfl))
end
end L2
end
section
namespace L2
open PySem PySem.Spec PyProof.Rows
inductive D where
 | at (v : V)
 | tup (ds : List D)
mutual
def DatAt (K : Fg) (H : Hp) : D -> V -> Prop
 | .at x, v => v = x /\ flatV x = true
 | .tup ds, v => ∃ a xs, v = .ref a /\ SqT K H a xs /\ DatsAt K H ds xs
def DatsAt (K : Fg) (H : Hp) : List D -> List V -> Prop
 | [], xs => xs = []
 | d :: ds, xs => ∃ x r, xs = x :: r /\ DatAt K H d x /\ DatsAt K H ds r
end
mutual
def D.depth : D -> Nat
 | .at _ => 0
 | .tup ds => depths ds + 1
def depths : List D -> Nat
 | [] => 0
 | d :: ds => max d.depth (depths ds)
end
theorem Same.tup {K : Fg} {H H' : Hp} {a : Addr} {xs : List V} (e : Same H H') (h : SqT K H a xs) : SqT K H' a xs := by
 rcases h with (h | ⟨o, h⟩) | h
 ·exact .inl (.inl (e _ _ h))
 ·exact .inl (.inr ⟨o, e _ _ h⟩)
 ·exact .inr h
mutual
theorem DatAt.same {K : Fg} {H H' : Hp} (e : Same H H') : ∀ {d : D} {v : V}, DatAt K H d v -> DatAt K H' d v
 | .at x, v, h => h
 | .tup ds, v, h => by
  obtain ⟨a, xs, e1, e2, e3⟩ := h
  exact ⟨a, xs, e1, e.tup e2, DatsAt.same e e3⟩
theorem DatsAt.same {K : Fg} {H H' : Hp} (e : Same H H') : ∀ {ds : List D} {xs : List V}, DatsAt K H ds xs -> DatsAt K H' ds xs
 | [], xs, h => h
 | d :: ds, xs, h => by
  obtain ⟨x, r, e1, e2, e3⟩ := h
  exact ⟨x, r, e1, DatAt.same e e2, DatsAt.same e e3⟩
end
section
variable {X : Cx} {pins : List (Addr × Obj)} {σ : St} {H : Hp} {s : Shared}
end
end L2
end
section
namespace PySem.SeqAt
open AutoSeq1 (wpAny_loadPart')
open MeetsSeq MeetsSeq2 MeetsSeq3 SeqRoads2
theorem wpAny_forIn_upto {M : Model} {A : Around} {E : Value -> Shared -> Prop} {s : Shared} {β : Type} {n : Nat} (f : Nat -> β -> Sem (ForInStep β)) (I : Nat -> β -> Shared -> Prop) (Q : β -> Shared -> Prop)
  (turn : ∀ i b s, i < n -> I i b s -> wpAny M A (f i b) (fun r s' => match r with | .yield b' => I (i + 1) b' s' | .done b' => Q b' s') E s)
  (fin : ∀ b s, I n b s -> Q b s) (b : β) (h : I 0 b s) : wpAny M A (forIn ([:n] : Std.Legacy.Range) b f) Q E s := by
 rw [Std.Legacy.Range.forIn_eq_forIn_range']
 simp only [Std.Legacy.Range.size, Nat.sub_zero, Nat.add_sub_cancel, Nat.div_one]
 refine wpAny_forIn_list f (fun rest b s' => ∃ i, rest = List.range' i (n - i) /\ i <= n /\ I i b s') Q ?_ ?_ _ _ ⟨0, by simp, Nat.zero_le _, h⟩
 ·rintro x rest b s' ⟨i, hr, hi, hI⟩
  have hlt : i < n := by
   rcases Nat.lt_or_ge i n with q | q
   ·exact q
   ·rw [Nat.sub_eq_zero_of_le q] at hr; simp at hr
  obtain ⟨rfl, hrest⟩ : x = i /\ rest = List.range' (i + 1) (n - (i + 1)) := by
   rw [show n - i = (n - (i + 1)) + 1 by omega, List.range'_succ] at hr
   injection hr with h1 h2
   exact ⟨h1, h2⟩
  refine wpAny_mono (turn x b s' hlt hI) (fun r s2 hr2 => ?_) fun _ _ z => z
  cases r with
  | done b' => exact hr2
  | yield b' => exact ⟨x + 1, hrest, hlt, hr2⟩
 ·rintro b s' ⟨i, hr, hi, hI⟩
  have : i = n := by
   rcases Nat.lt_or_ge i n with q | q
   ·rw [show n - i = (n - (i + 1)) + 1 by omega, List.range'_succ] at hr; cases hr
   ·omega
  subst this
  exact fin _ _ hI
theorem tuple_indexAt (l : Addr) (items : Array Value) (n : Nat) (dd : Option Addr) (sl : Array (Option Value)) (x : Value) (e : Value -> Bool) (j : Nat) (hj : j < items.size)
  (hit : e items[j] = true) (hno : ∀ m (hm : m < items.size), m < j -> e items[m] = false) :
  Meets (Builtin.«tuple.index» ⟨[.ref l, x], []⟩)
   (fun A R s => s.heap.get? l = some { cls := .type "tuple", dict := dd, data := .seq items n, slots := sl } /\ (∀ y, y ∈ items -> EqAt A.in1 s y x (e y)) /\ R (.ok (.ret (.int j s.toks))) { s with toks := s.toks + 1 }) :=
 .of_wp fun prog w A R s h => by
  obtain ⟨hp, g, d, tk, os⟩ := s; obtain ⟨hl, he, h⟩ := h
  wp_walk using wpAny_loadPart' hl, wpAny_forIn_upto (n := min items.size items.size) _ (fun i b s' => b.1 = none /\ i <= j /\ s' = ⟨hp, g, d, tk, os⟩) _
  case turn =>
   rintro i b s' hi ⟨hb, hij, rfl⟩
   have hi' : i < items.size := by omega
   rw [Array.getElem?_eq_getElem hi']
   refine wpAny_bind (he _ (Array.getElem_mem hi') prog w _ _ ?_)
   by_cases ij : i = j
   ·subst ij
    rw [hit]
    wp_walk
    exact ⟨_, rfl, h⟩
   ·rw [hno i hi' (by omega)]
    wp_walk
    exact ⟨rfl, by omega, rfl⟩
  case fin =>
   rintro b s' ⟨hb, hij, rfl⟩
   omega
  case h =>
   exact ⟨rfl, Nat.zero_le _, rfl⟩
end PySem.SeqAt
namespace L2
open PySem PySem.Spec PyProof.Rows
section
variable {X : Cx}
def rIndexT (K : Fg) : V -> List V -> Hp -> VK -> Prop := fun x vs H Q => ∃ a xs y j z, x = .ref a /\ vs = [y] /\ SqT K H a xs /\ flatV y = true /\ xs.all flatV = true /\ xs[j]? = some z /\ eqV z y = true /\ (∀ i z, i < j -> xs[i]? = some z -> eqV z y = false) /\ Q (.int (j : Nat)) H
theorem mt_indexT : MtR X "tuple.index" (rIndexT X.K) := by
 intro pins s σ H x vs v us Q I rx rv h
 obtain ⟨a, xs, y, j, z, rfl, rfl, hS, fy, fs, ej, ez, hno, q⟩ := h
 obtain rfl : v = Value.ref a := rx
 obtain ⟨u, rfl, ru⟩ := rv.one
 obtain ⟨its, r, pl, _⟩ := I.tuple hS
 have eqs := mem_eqAt (A := X.A.in1) (s := s) ru fy r fs
 obtain ⟨w, ew, rw'⟩ := r.get ej
 have hj : j < its.length := (List.getElem?_eq_some_iff.mp ew).1
 obtain ⟨ob, eo, hc, nn, hd⟩ := pl
 obtain ⟨cls, dd, data, sl⟩ := ob
 simp only at hc hd
 subst hc hd
 have flat_at : ∀ {i : Nat} {z : V}, xs[i]? = some z -> flatV z = true := fun {i z} e => by
  exact List.all_eq_true.mp fs z (List.mem_of_getElem? e)
 refine call_meets F.slot_tuple_index ⟨_, eo, rfl⟩ F.entry_tuple_index (F.args_tuple_index_2 _ _) (SeqAt.tuple_indexAt a its.toArray nn dd sl u (eqU y) j (by simpa using hj) ?_ ?_) ⟨eo, fun w hw => eqs w (by simpa using hw), ?_⟩
 ·have : its[j] = w := (List.getElem?_eq_some_iff.mp ew).2
  show eqU y its[j] = true
  rw [this, eqU_of rw' (flat_at ej)]
  exact ez
 ·intro m hm hmj
  have hm' : m < its.length := by simpa using hm
  have hx : m < xs.length := by rw [r.length]; exact hm'
  obtain ⟨w', ew', r'⟩ := r.get (List.getElem?_eq_getElem hx)
  have : its[m] = w' := (List.getElem?_eq_some_iff.mp ew').2
  show eqU y its[m] = false
  rw [this, eqU_of r' (flat_at (List.getElem?_eq_getElem hx))]
  exact hno m _ hmj (List.getElem?_eq_getElem hx)
 ·exact ⟨.int (j : Nat), H, I.tok _, ⟨_, rfl⟩, q⟩
end
end L2
end
section
namespace L2
open PySem PySem.Spec PyProof.Rows
structure FnAt (P : Program) (w : World) (K : Fg) (mg : Str -> Option Value) (base : Bs) (CX : CXT) (k : Nat) (x : Str) (sp : Sp) : Prop where
 ex : ∃ (f : Addr) (fd : FuncData) (ps : List Str), mg x = some (.ref f) /\ PySem.W.keepIn K (.ref f) = true /\ FnOk P w K mg base CX k f fd ps sp /\ Binds K fd ps []
theorem FnAt.mono {P : Program} {w : World} {K : Fg} {mg : Str -> Option Value} {base : Bs} {CX : CXT} {j k : Nat} {x : Str} {sp : Sp} (h : FnAt P w K mg base CX j x sp) (hk : j <= k) : FnAt P w K mg base CX k x sp :=
 ⟨let ⟨f, fd, ps, a, b, c, d⟩ := h.ex; ⟨f, fd, ps, a, b, c.mono hk, d⟩⟩
theorem FnAt.imp {P : Program} {w : World} {K : Fg} {mg : Str -> Option Value} {base : Bs} {CX : CXT} {k : Nat} {x : Str} {sp sp' : Sp} (h : FnAt P w K mg base CX k x sp) (hs : ∀ vs H Q E, sp' vs H Q E -> sp vs H Q E) : FnAt P w K mg base CX k x sp' :=
 ⟨let ⟨f, fd, ps, a, b, c, d⟩ := h.ex; ⟨f, fd, ps, a, b, c.imp hs, d⟩⟩
def tFn (sp : Sp) (E : XK) (t : TA) : TE := fun σ H Q => t σ H fun vs H1 => sp vs H1 Q E
section
variable {X : Cx} {CX : CXT} {k : Nat} {sp : Sp} {E : XK} {x : Str} {p pos : Pos} {e : Expr} {es : List Expr} {t : TA}
theorem pe_fn (h : FnAt X.prog X.w X.K X.mg X.base CX k x sp) (hr : Room k X.A) (hg : Gl X x) (hx : Passes CX X E) (ha : PA X (e :: es) t) (hdb : (x == ("__debug__" : Str)) = false := by decide)
  (he : starEach (e :: es) X.env = (false, eval e X.env) :: starEach es X.env := by rfl) (hpl : (backTo pos (starEach es X.env)).any (·.1) = false := by rfl) : PE X (.Call (.Name x p) (e :: es) [] pos) (tFn sp E t) := by
 obtain ⟨f, fd, ps, hm, hk, F, hb⟩ := h.ex
 intro pins s σ H Q I hq
 refine pe_call (dvs := []) (ds := []) F hr hg hm hk hb .nil hx ha hdb he hpl pins s σ H Q I ?_
 have e0 : (fun (vs : List V) (H1 : Hp) => sp (vs ++ []) H1 Q E) = fun vs H1 => sp vs H1 Q E := by funext vs H1; rw [List.append_nil]
 show t σ H (fun vs H1 => sp (vs ++ []) H1 Q E)
 rw [e0]
 exact hq
end
theorem pe_globR {X : Cx} {x : Str} {a : Addr} {pos : Pos} (hg : Gl X x) (hm : X.mg x = some (.ref a)) (hd : (x == ("__debug__" : Str)) = false := by decide) : PE X (.Name x pos) (tC (.ref a)) := pe_glob (v := .ref a) hg hm rfl hd
def TopT (K : Fg) (a : Addr) (xs : List V) : Prop := ∃ (o : Obj) (its : Array Value) (n : Nat), K.lookup a = some o /\ o.cls = .type "tuple" /\ o.dict = none /\ o.data = .seq its n /\ its.size <= sizeLine /\ Vals xs its.toList
theorem TopT.sq {K : Fg} {a : Addr} {xs : List V} (h : TopT K a xs) (H : Hp) : SqT K H a xs := let ⟨o, its, n, h1, h2, _, h3, h4, h5⟩ := h; .inr ⟨o, its, n, h1, h2, h3, h4, h5⟩
theorem TopT.ty {K : Fg} {a : Addr} {xs : List V} (h : TopT K a xs) (H : Hp) : tyV K "tuple" (.ref a) H := let ⟨o, its, n, h1, h2, h0, h3, h4, h5⟩ := h; .inr (.inl ⟨rfl, o, h1, h2, h0⟩)
def newI (H : Hp) (x dx C : Addr) (fs : List (Str × V)) : Hp := upd (upd H dx (.own x)) x (.ins C dx fs)
theorem newI_at {H : Hp} {x dx C : Addr} {fs : List (Str × V)} : newI H x dx C fs x = some (.ins C dx fs) := upd_same
theorem newI_same {H : Hp} {x dx C : Addr} {fs : List (Str × V)} (hx : H x = none) (hd : H dx = none) : Same H (newI H x dx C fs) := fun b o e => by
 unfold newI
 rw [upd_ne (ne_of_none e hx), upd_ne (ne_of_none e hd)]
 exact e
theorem same_upd {H : Hp} {p : Addr} (h : H p = none) (o : HO) : Same H (upd H p o) := fun b u q => by rw [upd_ne (ne_of_none q h)]; exact q
def tNew (C : Addr) (fs : List Str) (t : TA) : TE := fun σ H Q => t σ H fun vs H1 => vs.length = fs.length /\ ∀ x dx, H1 x = none -> H1 dx = none -> dx ≠ x -> Q (.ref x) (newI H1 x dx C (fs.zip vs))
def spNew (C : Addr) (fs : List Str) : Sp := fun vs H Q _ => ∃ p dx r, vs = .ref p :: r /\ r.length = fs.length /\ H p = some (.ins C dx []) /\ Q .non (upd H p (.ins C dx (fs.zip r)))
structure NewAt (P : Program) (w : World) (K : Fg) (mg : Str -> Option Value) (base : Bs) (x : Str) (C : Addr) (fs : List Str) : Prop where
 glob : mg x = some (.ref C)
 cl : Cls K C
 ex : ∃ (f : Addr) (fd : FuncData) (ps : List Str), Mk K C f /\ FnOk P w K mg base CX0 1 f fd ps (spNew C fs) /\ Binds K fd ps []
section
variable {X : Cx} {C : Addr} {fs : List Str} {x : Str} {p pos : Pos} {e : Expr} {es : List Expr} {t : TA} {k : Nat}
theorem pe_new (h : NewAt X.prog X.w X.K X.mg X.base x C fs) (hr : Room (k + 2) X.A) (hg : Gl X x) (ha : PA X (e :: es) t) (hdb : (x == ("__debug__" : Str)) = false := by decide)
  (he : starEach (e :: es) X.env = (false, eval e X.env) :: starEach es X.env := by rfl) (hpl : (backTo pos (starEach es X.env)).any (·.1) = false := by rfl) : PE X (.Call (.Name x p) (e :: es) [] pos) (tNew C fs t) := by
 obtain ⟨f, fd, ps, M, F, hb⟩ := h.ex
 intro pins s σ H Q I hq
 refine wpAny_Call_Name_kw (ld_glob I hg h.glob ?_ hdb)
 refine PySem.W.callWith_K (h₀ := X.base) I.ok.mod.kin M.kp (thn (ha pos pins s σ H _ I hq) fun us s1 ⟨vs, H1, I1, r, hl, q⟩ => ⟨I1.kIn, ?_⟩) he hpl
 refine run_make (dvs := []) (ds := []) (E := E0) M F (hr.mono (Nat.le_add_left 2 k)) hb .nil pass0 I1 r fun x dx n1 n2 ne => ?_
 refine ⟨x, dx, vs ++ [], rfl, by rw [List.append_nil]; exact hl, upd_same, rfl, ?_⟩
 rw [List.append_nil, upd_upd]
 exact q x dx n1 n2 ne
end
section
variable {P : Program} {w : World} {K : Fg} {mg : Str -> Option Value} {base : Bs} {C f : Addr} {fd : FuncData} {qual : Str} {st : Stmt}
theorem init_ok1 {a : Str} {p1 p2 p3 p4 : Pos} (F : Fun K "__init__" qual st f fd) (hb : defBody st = [.Assign [.Attribute (.Name "self" p1) a p2] (.Name a p3) p4]) (S : FnScope ["self", a] ["self", a] (defScope st))
  (cl : Cls K C) (na : NoAttr K C a) (hd : (a == ("__debug__" : Str)) = false) (hcd : (a == ("__classdict__" : Str)) = false) : FnOk P w K mg base CX0 1 f fd ["self", a] (spNew C [a]) := by
 refine F.ok S (fun vs H Q E h => ?_) (fun cdv A outer s H vs Q E hr h => ?_)
 ·obtain ⟨p, dx, r, rfl, hl, _⟩ := h
  match r, hl with | [_], _ => rfl
 ·obtain ⟨p, dx, r, rfl, hl, hp, q⟩ := h
  match r, hl with
  | [v], _ =>
   have vis : ∀ x ∈ (["self", a] : List Str), Vis (defScope st) x := fun x hx => (S.par x hx).elim (fun z => .inl z) fun z => .inr (.inl z)
   rw [hb]
   refine ⟨_, pss_one (ps_fld (pe_var (i := 0) rfl (vis "self" (by simp))) (pe_var (i := 1) rfl (vis a (by simp)) hd hcd) rfl), ?_⟩
   exact ⟨v, rfl, _, rfl, p, C, dx, [], rfl, hp, cl, na, by show 0 < 1000; decide, q⟩
theorem init_ok2 {a b : Str} {p1 p2 p3 p4 q1 q2 q3 q4 : Pos} (F : Fun K "__init__" qual st f fd) (hb : defBody st = [.Assign [.Attribute (.Name "self" p1) a p2] (.Name a p3) p4, .Assign [.Attribute (.Name "self" q1) b q2] (.Name b q3) q4])
  (S : FnScope ["self", a, b] ["self", a, b] (defScope st)) (cl : Cls K C) (na : NoAttr K C a) (nb : NoAttr K C b) (hd : (a == ("__debug__" : Str)) = false) (hcd : (a == ("__classdict__" : Str)) = false)
  (hd' : (b == ("__debug__" : Str)) = false) (hcd' : (b == ("__classdict__" : Str)) = false) (ab : ¬ a = b) : FnOk P w K mg base CX0 1 f fd ["self", a, b] (spNew C [a, b]) := by
 refine F.ok S (fun vs H Q E h => ?_) (fun cdv A outer s H vs Q E hr h => ?_)
 ·obtain ⟨p, dx, r, rfl, hl, _⟩ := h
  match r, hl with | [_, _], _ => rfl
 ·obtain ⟨p, dx, r, rfl, hl, hp, q⟩ := h
  match r, hl with
  | [v, u], _ =>
   have vis : ∀ x ∈ (["self", a, b] : List Str), Vis (defScope st) x := fun x hx => (S.par x hx).elim (fun z => .inl z) fun z => .inr (.inl z)
   rw [hb]
   refine ⟨_, pss_cons (ps_fld (pe_var (i := 0) rfl (vis "self" (by simp))) (pe_var (i := 1) rfl (vis a (by simp)) hd hcd) rfl) (pss_one (ps_fld (pe_var (i := 0) rfl (vis "self" (by simp))) (pe_var (i := 2) rfl (vis b (by simp)) hd' hcd') rfl)), ?_⟩
   refine ⟨v, rfl, _, rfl, p, C, dx, [], rfl, hp, cl, na, (by show 0 < 1000; decide), u, rfl, _, rfl, p, C, dx, _, rfl, upd_same, cl, nb, (by show 1 < 1000; decide), ?_⟩
   have e : putF b u (putF a v []) = [(a, v), (b, u)] := by
    show (if a = b then _ else (a, v) :: putF b u []) = _
    rw [if_neg ab]
    rfl
   rw [upd_upd, e]
   exact q
theorem init_ok3 {a b c : Str} {p1 p2 p3 p4 q1 q2 q3 q4 r1 r2 r3 r4 : Pos} (F : Fun K "__init__" qual st f fd) (hb : defBody st = [.Assign [.Attribute (.Name "self" p1) a p2] (.Name a p3) p4, .Assign [.Attribute (.Name "self" q1) b q2] (.Name b q3) q4, .Assign [.Attribute (.Name "self" r1) c r2] (.Name c r3) r4])
  (S : FnScope ["self", a, b, c] ["self", a, b, c] (defScope st)) (cl : Cls K C) (na : NoAttr K C a) (nb : NoAttr K C b) (nc : NoAttr K C c) (hd : (a == ("__debug__" : Str)) = false) (hcd : (a == ("__classdict__" : Str)) = false)
  (hd' : (b == ("__debug__" : Str)) = false) (hcd' : (b == ("__classdict__" : Str)) = false) (hd'' : (c == ("__debug__" : Str)) = false) (hcd'' : (c == ("__classdict__" : Str)) = false) (ab : ¬ a = b) (ac : ¬ a = c) (bc : ¬ b = c) : FnOk P w K mg base CX0 1 f fd ["self", a, b, c] (spNew C [a, b, c]) := by
 refine F.ok S (fun vs H Q E h => ?_) (fun cdv A outer s H vs Q E hr h => ?_)
 ·obtain ⟨p, dx, r, rfl, hl, _⟩ := h
  match r, hl with | [_, _, _], _ => rfl
 ·obtain ⟨p, dx, r, rfl, hl, hp, q⟩ := h
  match r, hl with
  | [v, u, z], _ =>
   have vis : ∀ x ∈ (["self", a, b, c] : List Str), Vis (defScope st) x := fun x hx => (S.par x hx).elim (fun z => .inl z) fun z => .inr (.inl z)
   have e : putF b u (putF a v []) = [(a, v), (b, u)] := by
    show (if a = b then _ else (a, v) :: putF b u []) = _
    rw [if_neg ab]
    rfl
   rw [hb]
   refine ⟨_, pss_cons (ps_fld (pe_var (i := 0) rfl (vis "self" (by simp))) (pe_var (i := 1) rfl (vis a (by simp)) hd hcd) rfl) (pss_cons (ps_fld (pe_var (i := 0) rfl (vis "self" (by simp))) (pe_var (i := 2) rfl (vis b (by simp)) hd' hcd') rfl) (pss_one (ps_fld (pe_var (i := 0) rfl (vis "self" (by simp))) (pe_var (i := 3) rfl (vis c (by simp)) hd'' hcd'') rfl))), ?_⟩
   refine ⟨v, rfl, _, rfl, p, C, dx, [], rfl, hp, cl, na, (by show 0 < 1000; decide), u, rfl, _, rfl, p, C, dx, _, rfl, upd_same, cl, nb, (by show 1 < 1000; decide), z, rfl, _, rfl, p, C, dx, _, rfl, upd_same, cl, nc, ?_, ?_⟩
   ·rw [e]; show 2 < 1000; decide
   ·have e' : putF c z [(a, v), (b, u)] = [(a, v), (b, u), (c, z)] := by
     show (if a = c then _ else (a, v) :: (if b = c then _ else (b, u) :: putF c z [])) = _
     rw [if_neg ac, if_neg bc]
     rfl
    rw [upd_upd, upd_upd, e, e']
    exact q
end
end L2
end
section
namespace L2
open PySem PySem.Spec PyProof.Rows
structure Walks1 (J : It) (H1 : Hp) (xs : List V) : Prop where
 go : ∀ i x H', xs[i]? = some x -> Same H1 H' -> J.go i H'
 yld : ∀ i x y H' H2, xs[i]? = some x -> Same H1 H' -> J.yld i H' y H2 -> H2 = H' /\ y = x
 stop : ∀ H', Same H1 H' -> J.stop xs.length H'
def rngV (lo : Int) (n : Nat) : List V := (List.range n).map fun (i : Nat) => V.int (lo + (i : Int))
theorem rngV_at {lo : Int} {n i : Nat} (h : i < n) : (rngV lo n)[i]? = some (.int (lo + (i : Int))) := by
 unfold rngV
 rw [List.getElem?_map, List.getElem?_range h]
 rfl
theorem rngV_len {lo : Int} {n : Nat} : (rngV lo n).length = n := by unfold rngV; simp
end L2
end
section
namespace L2
open PySem PySem.Spec PyProof.Rows
structure ClsF (K : Fg) (C : Addr) : Prop where
 pg : PySem.W.plainGet K C Str.empty = true
 hd : PySem.W.hasDictIn K C = true
 po : PySem.W.plainOver K C = true
 sa : PySem.W.findIn K (.ref C) "__setattr__" = some (some (.builtin "object.__setattr__"))
 ca : PySem.W.findIn K (.ref C) "__class__" = some (some (.builtin "object.__class__"))
 cs : PySem.W.specialIn K (.builtin "object.__class__") "__get__" = some (some (.builtin "getset_descriptor.__get__"))
 ct : PySem.W.takesIn K (.builtin "object.__class__") = some true
 cm : PySem.W.mroIn K C (.type "object") = some true
 mks : PySem.W.makesIn K C = true
 kp : PySem.W.keepIn K (.ref C) = true
theorem ClsF.cls {K : Fg} {C : Addr} (h : ClsF K C) : Cls K C := ⟨h.pg, h.hd, h.po, h.sa⟩
theorem ClsF.ty {K : Fg} {C : Addr} (h : ClsF K C) {H : Hp} {a dx : Addr} {fs : List (Str × V)} (e : H a = some (.ins C dx fs)) : TyOf K H (.ref a) (.ref C) := .ins e h.cls h.ca h.cs h.ct h.cm
def FnF (K : Fg) (f : Addr) (x qual : Str) (st : Stmt) : Prop := ∃ fd, Fun K x qual st f fd
theorem fnf_mk {K : Fg} {x qual : Str} {st : Stmt} {f : Addr} {oc : Value} {od an : Option Addr} {osl : Array (Option Value)} {kV doc pm cdv ct : Value} (l : K.lookup f = some ⟨oc, od, .func (PySem.W.fnOf x qual (defArgs st) (defBody st) (defScope st) .none kV doc pm an cdv ct), osl⟩)
  (c : PySem.W.codeIn K cdv qual = true) (k : PySem.W.keepIn K (.ref f) = true) : FnF K f x qual st := ⟨_, fun_mk l c k⟩
theorem topT_mk {K : Fg} {a : Addr} {its : Array Value} {n : Nat} {sl : Array (Option Value)} {xs : List V} (l : K.lookup a = some ⟨.type "tuple", none, .seq its n, sl⟩) (hs : its.size <= sizeLine) (hv : Vals xs its.toList) : TopT K a xs :=
 ⟨_, its, n, l, rfl, rfl, rfl, hs, hv⟩
theorem fn_none {P : Program} {w : World} {K : Fg} {mg : Str -> Option Value} {base : Bs} {CX : CXT} {k : Nat} {f : Addr} {fd : FuncData} {ps : List Str} {sp : Sp} (no : ∀ vs H Q E, ¬ sp vs H Q E) : FnOk P w K mg base CX k f fd ps sp :=
 ⟨fun vs H Q E h => absurd h (no vs H Q E), fun A outer s H args us vs Q E _ _ _ _ h => absurd h (no vs H Q E)⟩
structure DefF (K : Fg) (mg : Str -> Option Value) (x : Str) (st : Stmt) (ps : List Str) (f : Addr) (fd : FuncData) : Prop where
 F : Fun K x x st f fd
 b : Binds K fd ps []
 m : mg x = some (.ref f)
theorem DefF.at {P : Program} {w : World} {K : Fg} {mg : Str -> Option Value} {base : Bs} {k : Nat} {x : Str} {st : Stmt} {ps : List Str} {f : Addr} {fd : FuncData} {sp : Sp} (h : DefF K mg x st ps f fd) (G : FnOk P w K mg base CX0 k f fd ps sp) :
  FnAt P w K mg base CX0 k x sp := ⟨f, fd, ps, h.m, h.F.kp, G, h.b⟩
end L2
end
section
namespace L2
open PySem PySem.Spec PyProof.Rows
section
variable {X : Cx}
theorem pe_globI {x : Str} {i : Int} {tk : Tok} {pos : Pos} (hg : Gl X x) (hm : X.mg x = some (.int i tk)) (hd : (x == ("__debug__" : Str)) = false := by decide) : PE X (.Name x pos) (tC (.int i)) := pe_glob (v := .int i) hg hm ⟨_, rfl⟩ hd
end
def maskN (f : Nat -> Bool) : Nat -> Nat
 | 0 => 0
 | n + 1 => 2 ^ n * (f n).toNat + maskN f n
theorem maskN_lt (f : Nat -> Bool) : ∀ n, maskN f n < 2 ^ n
 | 0 => by show 0 < 1; decide
 | n + 1 => by
  have ih := maskN_lt f n
  show 2 ^ n * (f n).toNat + maskN f n < 2 ^ (n + 1)
  have : (f n).toNat <= 1 := Bool.toNat_le _
  have h2 : 2 ^ n * (f n).toNat <= 2 ^ n * 1 := Nat.mul_le_mul_left _ this
  rw [Nat.pow_succ]
  omega
theorem maskN_bit (f : Nat -> Bool) : ∀ n i, (maskN f n).testBit i = (decide (i < n) && f i)
 | 0, i => by simp [maskN]
 | n + 1, i => by
  have ih := maskN_bit f n
  have lt := maskN_lt f n
  show (2 ^ n * (f n).toNat + maskN f n).testBit i = _
  rw [Nat.testBit_two_pow_mul_add _ lt]
  by_cases h : i < n
  ·rw [if_pos h, ih i]
   have h' : i < n + 1 := by omega
   simp [h, h']
  ·rw [if_neg h]
   by_cases h2 : i = n
   ·subst h2
    cases f i <;> simp
   ·have h3 : ¬ i < n + 1 := by omega
    have h4 : i - n ≠ 0 := by omega
    obtain ⟨k, hk⟩ : ∃ k, i - n = k + 1 := ⟨i - n - 1, by omega⟩
    rw [hk]
    cases f n <;> simp [h3, Nat.testBit_succ]
theorem maskN_and (f g : Nat -> Bool) (n : Nat) : maskN f n &&& maskN g n = maskN (fun i => f i && g i) n := by
 apply Nat.eq_of_testBit_eq
 intro i
 rw [Nat.testBit_and, maskN_bit, maskN_bit, maskN_bit]
 cases decide (i < n) <;> cases f i <;> cases g i <;> rfl
theorem maskN_or (f g : Nat -> Bool) (n : Nat) : maskN f n ||| maskN g n = maskN (fun i => f i || g i) n := by
 apply Nat.eq_of_testBit_eq
 intro i
 rw [Nat.testBit_or, maskN_bit, maskN_bit, maskN_bit]
 cases decide (i < n) <;> cases f i <;> cases g i <;> rfl
theorem maskN_not (f : Nat -> Bool) : ∀ n, maskN (fun i => !f i) n + maskN f n + 1 = 2 ^ n
 | 0 => rfl
 | n + 1 => by
  have ih := maskN_not f n
  show 2 ^ n * (!f n).toNat + maskN (fun i => !f i) n + (2 ^ n * (f n).toNat + maskN f n) + 1 = 2 ^ (n + 1)
  rw [Nat.pow_succ]
  cases f n <;> simp <;> omega
theorem maskN_congr {f g : Nat -> Bool} : ∀ {n : Nat}, (∀ i, i < n -> f i = g i) -> maskN f n = maskN g n
 | 0, _ => rfl
 | n + 1, h => by
  show 2 ^ n * (f n).toNat + maskN f n = 2 ^ n * (g n).toNat + maskN g n
  rw [h n (Nat.lt_succ_self _), maskN_congr fun i hi => h i (Nat.lt_succ_of_lt hi)]
theorem bitAnd_nat (x y : Nat) : Builtin.bitAnd (x : Int) (y : Int) = ((x &&& y : Nat) : Int) := by
 unfold Builtin.bitAnd
 simp
theorem bitOr_nat (x y : Nat) : Builtin.bitOr (x : Int) (y : Int) = ((x ||| y : Nat) : Int) := by
 unfold Builtin.bitOr Builtin.bitAnd Builtin.bitNot
 have h1 : ¬ (0 : Int) <= -(x : Int) - 1 := by omega
 have h2 : ¬ (0 : Int) <= -(y : Int) - 1 := by omega
 simp only [h1, h2, decide_false]
 have e1 : (-(-(x : Int) - 1) - 1).toNat = x := by omega
 have e2 : (-(-(y : Int) - 1) - 1).toNat = y := by omega
 rw [e1, e2]
 omega
end L2
end
section
namespace L2
open PySem PySem.Spec PyProof.Rows
structure Nst where
 params : Arguments
 body : FuncBody
 scope : Scope
 free : List Str
abbrev fnY (n : Nst) (nm qual : Str) (cl : List (Str × Addr)) (doc pm cdv ct : Value) : FuncData :=
 { name := nm, qualname := qual, params := n.params, body := n.body, scope := n.scope, globals := mainGlobals, closure := cl, defaults := .none, kwdefaults := .none, doc := doc, pyModule := pm, annotations := none, code := cdv, closureTuple := ct, builtins := builtinsNs }
def CloAt (n : Nst) (H : Hp) (q : Addr) (cl : List (Str × Addr)) : Prop :=
 ∃ (o : Obj) (u : HO) (nm qual : Str) (doc pm : Value) (cc : Addr) (ct : Value) (oc : Obj) (u2 : HO), H q = some (.frz o u) /\ o.cls = .type "function" /\ o.data = .func (fnY n nm qual cl doc pm (.ref cc) ct) /\ H cc = some (.frz oc u2) /\ CodeO oc
structure CellsAt (H : Hp) (free : List Str) (cl : List (Str × Addr)) (vs : List V) : Prop where
 len : free.length = vs.length
 val : ∀ (i : Nat) x v, free[i]? = some x -> vs[i]? = some v -> ∃ c ob u w, cl.lookup x = some c /\ H c = some (.frz ob u) /\ ob.data = .cell (some w) /\ RelV v w
 sub : ∀ x c, cl.lookup x = some c -> x ∈ free
 inj : ∀ x y c, cl.lookup x = some c -> cl.lookup y = some c -> x = y
theorem CloAt.keep {n : Nst} {H H' : Hp} {q : Addr} {cl : List (Str × Addr)} (h : CloAt n H q cl) (k : ∀ a o u, H a = some (.frz o u) -> H' a = some (.frz o u)) : CloAt n H' q cl :=
 let ⟨o, u, nm, qual, doc, pm, cc, ct, oc, u2, e1, e2, e3, e4, e5⟩ := h
 ⟨o, u, nm, qual, doc, pm, cc, ct, oc, u2, k _ _ _ e1, e2, e3, k _ _ _ e4, e5⟩
theorem CellsAt.keep {H H' : Hp} {fr : List Str} {cl : List (Str × Addr)} {vs : List V} (h : CellsAt H fr cl vs) (k : ∀ a o u, H a = some (.frz o u) -> H' a = some (.frz o u)) : CellsAt H' fr cl vs :=
 ⟨h.len, fun i x v e1 e2 => let ⟨c, ob, u, w, a1, a2, a3, a4⟩ := h.val i x v e1 e2; ⟨c, ob, u, w, a1, k _ _ _ a2, a3, a4⟩, h.sub, h.inj⟩
theorem CellsAt.some {H : Hp} {fr : List Str} {cl : List (Str × Addr)} {vs : List V} (h : CellsAt H fr cl vs) {x : Str} (hx : x ∈ fr) : ∃ c ob u w, cl.lookup x = some c /\ H c = some (.frz ob u) /\ ob.data = .cell (some w) := by
 obtain ⟨i, hi, e⟩ := List.getElem_of_mem hx
 have hi' : i < vs.length := by rw [<- h.len]; exact hi
 obtain ⟨c, ob, u, w, a1, a2, a3, _⟩ := h.val i x vs[i] (by rw [List.getElem?_eq_getElem hi, e]) (List.getElem?_eq_getElem hi')
 exact ⟨c, ob, u, w, a1, a2, a3⟩
def cxN (CX : CXT) (P : Program) (w : World) (K : Fg) (mg : Str -> Option Value) (base : Bs) (N : List Str) (qual : Str) (scope : Scope) (f : Addr) (cd : Value) (cl : List (Str × Addr)) (A : Around) (outer : List Env) (s : Shared) (H : Hp) (E : XK) : Cx where
 prog := P
 w := w
 K := K
 mg := mg
 base := base
 A := A.deeper (PySem.W.envX qual scope s.heap.objs.size f cd cl)
 N := N
 s₀ := s
 H₀ := H
 env := PySem.W.envX qual scope s.heap.objs.size f cd cl
 outer := outer
 stack := PySem.W.envX qual scope s.heap.objs.size f cd cl :: outer
 ex := []
 calm := true
 fn := fun _ => false
 cw := fun _ => false
 pn := []
 xe := fun e s' => wpAny (model P w) (A.deeper (PySem.W.envX qual scope s.heap.objs.size f cd cl)) (leaving (PySem.W.envX qual scope s.heap.objs.size f cd cl) e) (fun _ s'' => CX outer H s E e s'') (fun e' s'' => CX outer H s E e' s'') s'
structure NScope (N P F : List Str) (sc : Scope) : Prop where
 kind : sc.kind = .function
 co : sc.isCoroutine = false
 gen : sc.isGenerator = false
 nd : N.Nodup
 pre : N.take (P ++ F).length = P ++ F
 par : ∀ x ∈ P, sc.names.lookup x = some .local
 fre : ∀ x ∈ F, sc.names.lookup x = some .free
 nocell : ∀ y ∈ sc.names, y.2 ≠ .cell
 allf : ∀ y ∈ sc.names, y.2 = .free -> y.1 ∈ F
theorem rev_zip : ∀ {ps : List Str} {us : List Value} {i : Nat} {x : Str} {u : Value}, ps.Nodup -> ps[i]? = some x -> us[i]? = some u -> (ps.zip us).reverse.lookup x = some u
 | [], us, i, x, u, _, h, _ => by simp at h
 | p :: ps, [], i, x, u, _, _, h => by simp at h
 | p :: ps, w :: us, 0, x, u, nd, h1, h2 => by
  simp at h1 h2
  subst h1 h2
  have hn : (ps.zip us).reverse.lookup p = none := by
   rw [List.lookup_eq_none_iff]
   intro q hq
   have := (List.of_mem_zip (List.mem_reverse.mp hq)).1
   simp only [bne_iff_ne, ne_eq, beq_eq_false_iff_ne]
   intro z
   rw [<- z] at this
   exact (List.nodup_cons.mp nd).1 this
  rw [List.zip_cons_cons, List.reverse_cons, List.lookup_append, hn]
  simp [List.lookup]
 | p :: ps, w :: us, i + 1, x, u, nd, h1, h2 => by
  have ih := rev_zip (i := i) (List.nodup_cons.mp nd).2 (by simpa using h1) (by simpa using h2)
  rw [List.zip_cons_cons, List.reverse_cons, List.lookup_append, ih]
  rfl
theorem inv_startN {CX : CXT} {P : Program} {w : World} {K : Fg} {mg : Str -> Option Value} {base : Bs} {N ps fr : List Str} {qual : Str} {scope : Scope} {f : Addr} {cd : Value} {cl : List (Str × Addr)} {A : Around} {outer : List Env} {s : Shared} {h1 : Heap} {tk : Nat} {H : Hp} {E : XK} {us : List Value} {vs cv : List V}
  (S : NScope N ps fr scope) (hd : A.handled = none) (e0 : Env0 P w K mg base A outer s H) (hl : vs.length = ps.length) (r : Vals vs us) (C : CellsAt H fr cl cv)
  (hns : h1.Ns s.heap.objs.size (fun y => (ps.zip us).reverse.lookup y)) (hk : ∀ b o, s.heap.get? b = some o -> h1.get? b = some o) :
  Inv (cxN CX P w K mg base N qual scope f cd cl A outer s H E) [] (start N (vs ++ cv)) H { s with heap := h1, toks := tk } := by
 have hcl : ∀ x c, cl.lookup x = some c -> ∃ ob u w, H c = some (.frz ob u) /\ ob.data = .cell (some w) := fun x c e => by
  obtain ⟨c', ob, u, w, a1, a2, a3⟩ := C.some (C.sub x c e)
  rw [e] at a1; cases a1
  exact ⟨ob, u, w, a2, a3⟩
 have cell : ∀ c ob u w, H c = some (.frz ob u) -> ob.data = .cell (some w) -> h1.IsCell c (some w) := fun c ob u w a2 a3 => by
  obtain ⟨e, _⟩ := e0.hok c _ a2
  exact ⟨ob, hk _ _ e, a3⟩
 have noA : ∀ b : Addr, b ∉ (cxN CX P w K mg base N qual scope f cd cl A outer s H E).ex := fun b z => absurd (show b ∈ ([] : List Addr) from z) (by simp)
 have hpl : (ps ++ fr).length <= N.length := by have := congrArg List.length S.pre; rw [List.length_take] at this; omega
 have hvl : (vs ++ cv).length = (ps ++ fr).length := by rw [List.length_append, List.length_append, hl, C.len]
 refine ⟨⟨e0.mod, S.kind, rfl, rfl, Nat.le_refl _, C.inj, fun y hy => ?_, (fun y c z => nomatch z), fun _ => hd, Around.frames_deeper e0.frames, .inr ⟨rfl, rfl⟩, fun b z => absurd z (noA b), e0.bs, e0.bsz, fun b _ _ => noA b, fun b z => absurd z (noA b), e0.funs, e0.frf, e0.tab, fun _ z => nomatch z⟩,
  rfl, e0.bare, Un.kept hk, ⟨_, hns, fun i y v h1 h2 h3 => ?_⟩, fun y c h => ?_, e0.hok.fresh (Nat.le_refl _), fun y c h => ?_, fun p hp => absurd (show p ∈ ([] : List (Addr × Obj)) from hp) (by simp), e0.hok.kept hk, ?_⟩
 ·have hy : scope.names.lookup y = some .cell \/ scope.names.lookup y = some .free := hy
  rcases hy with hy | hy
  ·exact absurd rfl (S.nocell _ (PySem.mem_of_lookup hy))
  ·obtain ⟨c, _, _, _, a1, _⟩ := C.some (S.allf _ (PySem.mem_of_lookup hy) rfl)
   exact ⟨c, a1⟩
 ·have hi : i < (vs ++ cv).length := by
   unfold start at h2
   by_cases hi : i < (vs ++ cv).length
   ·exact hi
   ·rw [List.getElem?_append_right (by simpa using hi)] at h2
    rw [List.getElem?_replicate] at h2
    split at h2 <;> cases h2
  have ha : (vs ++ cv)[i]? = some v := by
   unfold start at h2
   rw [List.getElem?_append_left (by simpa using hi), List.getElem?_map] at h2
   cases e : (vs ++ cv)[i]? with
   | none => rw [e] at h2; cases h2
   | some a => rw [e] at h2; cases h2; rfl
  have hp : (ps ++ fr)[i]? = some y := by
   rw [<- S.pre, List.getElem?_take_of_lt (by omega)]; exact h1
  have ndP : (ps ++ fr).Nodup := by rw [<- S.pre]; exact S.nd.sublist (List.take_sublist _ _)
  by_cases hv : i < vs.length
  ·rw [List.getElem?_append_left hv] at ha
   rw [List.getElem?_append_left (by omega)] at hp
   obtain ⟨u, hu, rv⟩ := r.get ha
   exact ⟨u, rv, .inl ⟨S.par y (List.mem_of_getElem? hp), rev_zip (List.nodup_append.mp ndP).1 hp hu⟩⟩
  ·rw [List.getElem?_append_right (by omega)] at ha hp
   rw [<- hl] at hp
   obtain ⟨c, ob, u, w, a1, a2, a3, a4⟩ := C.val _ y v hp ha
   exact ⟨w, a4, .inr ⟨.inr (S.fre y (List.mem_of_getElem? hp)), c, a1, cell c ob u w a2 a3⟩⟩
 ·obtain ⟨ob, u, w, a2, a3⟩ := hcl y c h
  exact ⟨_, cell c ob u w a2 a3⟩
 ·obtain ⟨ob, u, w, a2, _⟩ := hcl y c h
  exact .inr ⟨rfl, ob, u, a2⟩
 ·unfold start
  show _ = N.length
  rw [List.length_append, List.length_map, List.length_replicate]
  omega
section
variable {P : Program} {w : World} {A : Around} {s : Shared} {R : Result -> Shared -> Prop} {a : Addr} {args : Args} {o oc : Obj} {fd : FuncData} {cc : Addr} {fv : Array Value} {q : Str} {tq : Tok}
theorem call_own {body : List Stmt} (hroom : A.depth < recursionLimit) (ho : s.heap.get? a = some o) (hd : o.data = .func fd) (hco : fd.scope.isCoroutine = false) (hgen : fd.scope.isGenerator = false)
  (hc : fd.code = .ref cc) (hoc : s.heap.get? cc = some oc) (hdc : oc.data = .fields fv) (hq : fv[1]? = some (.str q tq)) (hbody : fd.body = .stmts body)
  (h : wpAny (model P w) A.in1 (bindArgs fd args) (fun binds s1 => wpAny (model P w) A.in1 (newFunctionEnv fd.scope fd.globals fd.closure binds (q ++ ".<locals>.") (some a) (.ref cc) none fd.builtins)
    (fun env s2 => s2.heap.NoLimit /\ codeAny (model P w) A (.func body env) R s2) (fun e s' => R (.error e) s') s1) (fun e s' => R (.error e) s') s) : codeAny (model P w) A (.call (.ref a) args) R s := by
 refine codeAny_of_tree (show wpAny _ A.in1 (callAny (.ref a) args) _ _ s from ?_)
 unfold callAny
 refine wpAny_bind (wpAny_load ho ?_)
 simp only [hd, callFunction, hco, hgen, hbody, hc]
 refine wpAny_bind (m := field (.ref cc) 1) (wpAny_field hoc hdc hq (wpAny_bind (wpAny_pure (wpAny_bind (wpAny_mono h (fun binds s1 h1 => ?_) fun _ _ z => z)))))
 exact wpAny_bind (wpAny_mono h1 (fun env s2 h2 => wpAny_bind (wpAny_enterFrame h2.1 hroom (wpAny_pure ⟨rfl, h2.2⟩))) fun _ _ z => z)
end
abbrev SpN := List V -> List V -> Hp -> VK -> XK -> Prop
structure ClOk (P : Program) (w : World) (K : Fg) (mg : Str -> Option Value) (base : Bs) (CX : CXT) (k : Nat) (n : Nst) (sp : SpN) : Prop where
 run : ∀ (A : Around) (outer : List Env) (s : Shared) (H : Hp) (q : Addr) (cl : List (Str × Addr)) (us : List Value) (vs cv : List V) (Q : VK) (E : XK), Room k A -> Env0 P w K mg base A outer s H -> CloAt n H q cl -> CellsAt H n.free cl cv -> Vals vs us -> sp vs cv H Q E ->
  codeAny (model P w) A (.call (.ref q) ⟨us, []⟩) (CR CX outer P w H s Q E) s
section
variable {CX : CXT} {P : Program} {w : World} {K : Fg} {mg : Str -> Option Value} {base : Bs} {k : Nat} {n : Nst} {N ps : List Str} {sp : SpN}
theorem clo_of {body : List Stmt} (hb : n.body = .stmts body) (S : NScope N ps n.free n.scope) (len : ∀ vs cv H Q E, sp vs cv H Q E -> vs.length = ps.length)
  (hbind : ∀ (nm qual : Str) (cl : List (Str × Addr)) (doc pm cdv ct : Value) (us : List Value), us.length = ps.length -> bindArgs (fnY n nm qual cl doc pm cdv ct) ⟨us, []⟩ = pure (ps.zip us))
  (hbody : ∀ (qual : Str) (cd : Value) (cl : List (Str × Addr)) (f : Addr) (A : Around) (outer : List Env) (s : Shared) (H : Hp) (vs cv : List V) (Q : VK) (E : XK), Room k (A.deeper (PySem.W.envX qual n.scope s.heap.objs.size f cd cl)) -> CellsAt H n.free cl cv -> sp vs cv H Q E ->
   ∃ t, PSs (cxN CX P w K mg base N qual n.scope f cd cl A outer s H E) body t /\ t { nx := fun _ H' => Q .non H', rt := Q } (start N (vs ++ cv)) H) : ClOk P w K mg base CX (k + 1) n sp := by
 refine ⟨fun A outer s H q cl us vs cv Q E hr e0 hc hce r hsp => ?_⟩
 obtain ⟨o, u, nm, qual, doc, pm, cc, ct, oc, u2, e1, e2, e3, e4, fv, fq, tq, e5, e6⟩ := hc
 obtain ⟨g1, _⟩ := e0.hok q _ e1
 obtain ⟨g2, _⟩ := e0.hok cc _ e4
 have lim : s.heap.NoLimit := e0.mod.nolimit.keeps fun b o e => (e0.bs b o e).1
 have hlu : us.length = ps.length := by rw [<- r.length]; exact len _ _ _ _ _ hsp
 refine call_own hr.depth g1 e3 S.co S.gen rfl g2 e5 e6 hb ?_
 rw [hbind _ _ _ _ _ _ _ _ hlu]
 refine wpAny_pure (wpAny_newFunctionEnv S.nocell (fun x hx => S.par x.1 (List.of_mem_zip (show (x.1, x.2) ∈ ps.zip us from hx)).1) (fun h1 hns hsb => ⟨lim.fresh _ hsb, codeAny_func ?_⟩) S.kind)
 have hk : ∀ b o, s.heap.get? b = some o -> h1.get? b = some o := fun b o e => hsb.extBut b o (Nat.ne_of_lt (Heap.lt_size e)) (Heap.get?_push_of_some _ e)
 obtain ⟨t, ht, hq⟩ := hbody fq (.ref cc) cl q A outer s H vs cv Q E (hr.deeper _) hce hsp
 have I := inv_startN (CX := CX) (N := N) (qual := fq) (f := q) (cd := .ref cc) (E := E) (tk := s.toks + (ps.zip us).length) S hr.hd e0 (len _ _ _ _ _ hsp) r hce hns hk
 refine wpAny_mono (ht [] _ _ H _ I hq) (fun fl s' hs => ?_) fun e s' hs => hs
 cases fl with
 | ret u =>
  obtain ⟨v, H', J, rv, q⟩ := hs
  exact ⟨v, H', J.os, J.bare, J.base, J.hok, rv, q⟩
 | next =>
  obtain ⟨σ', H', J, q⟩ := hs
  exact ⟨V.non, H', J.os, J.bare, J.base, J.hok, rfl, q⟩
 | brk => obtain ⟨_, _, _, q⟩ := hs; exact q.elim
 | cont => obtain ⟨_, _, _, q⟩ := hs; exact q.elim
end
section
variable {X : Cx} {CX : CXT} {k : Nat} {E : XK} {x m : Str} {p pos apos : Pos} {e o : Expr} {es : List Expr} {ta : TE} {t : TA} {ι : Type} {nn : ι -> Nst} {sp : ι -> SpN}
def tCallV (nn : ι -> Nst) (sp : ι -> SpN) (E : XK) (t : TA) (σ : St) (H : Hp) (x : V) (Q : VK) : Prop := ∃ (i : ι) (q : Addr) (cl : List (Str × Addr)) (cv : List V), x = .ref q /\ CloAt (nn i) H q cl /\ t σ H fun vs H2 => CloAt (nn i) H2 q cl /\ CellsAt H2 (nn i).free cl cv /\ sp i vs cv H2 Q E
theorem CloAt.fn {pins : List (Addr × Obj)} {σ : St} {H : Hp} {s : Shared} {n : Nst} {q : Addr} {cl : List (Str × Addr)} (I : Inv X pins σ H s) (h : CloAt n H q cl) : PySem.W.FnAt q s.heap := by
 obtain ⟨o, u, nm, qual, doc, pm, cc, ct, oc, u2, e1, e2, e3, _⟩ := h
 obtain ⟨g, _⟩ := I.hok q _ e1
 obtain ⟨c, d, dt, sl⟩ := o
 exact ⟨c, d, _, sl, by rw [g]; exact congrArg (fun z => some (Obj.mk c d z sl)) e3⟩
theorem run_clo {pins : List (Addr × Obj)} {σ : St} {H : Hp} {s : Shared} {Q : VK} {us : List Value} {vs cv : List V} {n : Nst} {sp : SpN} {q : Addr} {cl : List (Str × Addr)} (F : ClOk X.prog X.w X.K X.mg X.base CX k n sp) (hr : Room k X.A) (hx : Passes CX X E)
  (I : Inv X pins σ H s) (hc : CloAt n H q cl) (hce : CellsAt H n.free cl cv) (r : Vals vs us) (h : sp vs cv H Q E) : wpAny (model X.prog X.w) X.A (call (.ref q) us) (EP X pins σ Q) X.xe s := by
 refine wpAny_call (codeAny_mono (F.run X.A X.stack s H q cl us vs cv Q E hr I.env0 hc hce r h) fun r s' hq => ?_)
 cases r with
 | error e => exact hx pins σ H s e s' I hq
 | ok fl =>
  cases fl with
  | ret u => exact I.after hq
  | next => exact False.elim hq
  | brk => exact False.elim hq
  | cont => exact False.elim hq
theorem pe_callV (hf : PE X (.Name x p) ta) (F : ∀ i, ClOk X.prog X.w X.K X.mg X.base CX k (nn i) (sp i)) (hr : Room k X.A) (hx : Passes CX X E) (ha : PA X (e :: es) t)
  (hst : starEach (e :: es) X.env = (false, eval e X.env) :: starEach es X.env := by rfl) (hpl : (backTo pos (starEach es X.env)).any (·.1) = false := by rfl) :
  PE X (.Call (.Name x p) (e :: es) [] pos) (fun σ H Q => ta σ H fun v H1 => tCallV nn sp E t σ H1 v Q) := by
 intro pins s σ H Q I h
 refine wpAny_Call_Name_kw (thn (hf pins s σ H _ I h) fun u s1 ⟨v, H1, I1, rv, i, q, cl, cv, ev, hc, h1⟩ => ?_)
 subst ev
 obtain rfl : u = Value.ref q := rv
 exact PySem.W.callWith_F (hc.fn I1) (thn (ha pos pins s1 σ H1 _ I1 h1) fun us s2 ⟨vs, H2, I2, r, hc2, hce, h2⟩ => ⟨hc2.fn I2, run_clo (F i) hr hx I2 hc2 hce r h2⟩) hst hpl
theorem pe_callA {pl : Sem Bool} (he : PE X o ta) (F : ∀ i, ClOk X.prog X.w X.K X.mg X.base CX k (nn i) (sp i)) (hr : Room k X.A) (hx : Passes CX X E) (ha : PA X (e :: es) t)
  (hst : starEach (e :: es) X.env = (false, eval e X.env) :: starEach es X.env := by rfl) (hpl : (backTo pos (starEach es X.env)).any (·.1) = false := by rfl)
  (ht : eval (.Call (.Attribute o m apos) (e :: es) [] pos) X.env = (do
   let ov <- eval o X.env
   standAt apos.atName
   let (f, first) <- holding [ov] (getMethod ov m pl)
   callWith pos f first (backTo pos (starEach (e :: es) X.env)) (backToKw pos (keywordEach [] X.env))) := by rfl) :
  PE X (.Call (.Attribute o m apos) (e :: es) [] pos) (fun σ H Q => ta σ H fun v H1 => ∃ a C dx fs u, v = .ref a /\ H1 a = some (.ins C dx fs) /\ Cls X.K C /\ NoAttr X.K C m /\ fs.lookup m = some u /\ tCallV nn sp E t σ H1 u Q) := by
 intro pins s σ H Q I h
 refine PySem.W.methodCall_KW (pl := pl) (thn (he pins s σ H _ I h) fun u s1 ⟨v, H1, I1, rv, a, C, dx, fs, y, ev, ea, hC, hn, hl, h2⟩ => ?_) ht
 subst ev
 obtain rfl : u = Value.ref a := rv
 obtain ⟨mA, O, r, _, _, _⟩ := ins_get I1.hok ea
 obtain ⟨od, J, _⟩ := O.look
 refine PySem.W.method_usual I1.kIn J (PySem.W.plainGet_of (hC.get m)).1 (PySem.W.plainGet_of (hC.get m)).2 hn rfl (getattr_ok I1 ea hC hn hl fun z s2 I2 rz => ?_)
 obtain ⟨i, q, cl, cv, eq, hc, h1⟩ := h2
 subst eq
 obtain rfl : z = Value.ref q := rz
 exact PySem.W.callWith_F (hc.fn I2) (thn (ha pos pins s2 σ H1 _ I2 h1) fun us s3 ⟨vs, H2, I3, r, hc2, hce, h3⟩ => ⟨hc2.fn I3, run_clo (F i) hr hx I3 hc2 hce r h3⟩) hst hpl
end
end L2
end
section
namespace L2
open PySem PySem.Spec PyProof.Rows
section
variable {X : Cx} {pins : List (Addr × Obj)} {σ : St} {H : Hp} {s : Shared}
theorem Inv.seal (I : Inv X pins σ H s) {x : Str} {c : Addr} (hx : X.env.cells.lookup x = some c) (hf : X.fn x = false) (hw : X.cw x = true) :
  ∃ H', Inv X pins σ H' s /\ (∀ a o, H a = some o -> H' a = some o) /\ ∃ ob u, H' c = some (.frz ob u) := by
 obtain ⟨v, ob, hob, hd⟩ := I.cell x c hx
 rcases I.freeC x c hx with hc | ⟨_, o, u, hc⟩
 ·have ne : ∀ {b : Addr} {o : HO}, H b = some o -> b ≠ c := fun {b o} e z => by rw [z, hc] at e; cases e
  refine ⟨upd H c (.frz ob (.own 0)), ⟨I.ok, I.os, I.bare, ⟨I.base.keep, I.base.slot, fun b o e n hb => ?_, I.base.there, fun b xs e => ?_, fun b o u e => ?_, fun b q e => ?_⟩, I.loc, I.cell, ?_, fun y c' e => ?_, fun p hp => ?_, fun b o e => ?_, I.len⟩, fun a o e => ?_, ob, .own 0, upd_same⟩
  ·rw [upd_ne (Nat.ne_of_lt (Nat.lt_of_lt_of_le (Heap.lt_size e) (I.ok.cab x c hw hx)))]
   exact I.base.free b o e n hb
  ·have := I.base.tups b xs e; rw [upd_ne (ne this)]; exact this
  ·have := I.base.frzs b o u e; rw [upd_ne (ne this)]; exact this
  ·have := I.base.tbls b q e; rw [upd_ne (ne this)]; exact this
  ·rw [upd_ne (Ne.symm (I.cne x c hx))]; exact I.free
  ·by_cases h : c' = c
   ·subst h
    have : y = x := I.ok.inj y x c' e hx
    subst this
    exact .inr ⟨hf, ob, .own 0, upd_same⟩
   ·rw [upd_ne h]; exact I.freeC y c' e
  ·obtain ⟨e, n, ne', nf, d⟩ := I.pin p hp
   have : p.1 ≠ c := fun z => by
    rw [z, hob] at e
    have q : ob = p.2 := Option.some.inj e
    exact d v (by rw [<- q]; exact hd)
   exact ⟨e, by rw [upd_ne this]; exact n, ne', nf, d⟩
  ·by_cases h : b = c
   ·subst h; rw [upd_same] at e; cases e; exact ⟨hob, ob, hob⟩
   ·rw [upd_ne h] at e
    exact (I.hok b o e).stay (fun _ _ _ q => q) (fun d q => by rw [upd_ne (ne q)]; exact q) (fun d xs q => by rw [upd_ne (ne q)]; exact q) fun d o u q => by rw [upd_ne (ne q)]; exact q
  ·rw [upd_ne (ne e)]; exact e
 ·exact ⟨H, I, fun _ _ e => e, o, u, hc⟩
theorem Inv.sealAll : ∀ (fr : List Str) {H : Hp}, Inv X pins σ H s -> (∀ x ∈ fr, (∃ c, X.env.cells.lookup x = some c) /\ X.fn x = false /\ X.cw x = true) ->
  ∃ H', Inv X pins σ H' s /\ (∀ a o, H a = some o -> H' a = some o) /\ ∀ x ∈ fr, ∃ c ob u, X.env.cells.lookup x = some c /\ H' c = some (.frz ob u)
 | [], H, I, _ => ⟨H, I, fun _ _ e => e, fun x hx => absurd hx (by simp)⟩
 | y :: fr, H, I, h => by
  obtain ⟨⟨c, hc⟩, hf, hw⟩ := h y List.mem_cons_self
  obtain ⟨H1, I1, s1, ob, u, e1⟩ := I.seal hc hf hw
  obtain ⟨H2, I2, s2, e2⟩ := Inv.sealAll fr I1 fun x hx => h x (List.mem_cons_of_mem _ hx)
  refine ⟨H2, I2, fun a o e => s2 _ _ (s1 _ _ e), fun x hx => ?_⟩
  rcases List.mem_cons.mp hx with rfl | hx
  ·exact ⟨c, ob, u, hc, s2 _ _ e1⟩
  ·exact e2 x hx
theorem among_snoc {pos : Pos} {a b : Int} {c cv : Value} (l : List Value) (h : TriplesOk l) (e : codeAmong pos (l ++ [rawInt a, rawInt b, c]) = some cv) : codeAmong pos l = some cv \/ cv = c := by
 fun_induction TriplesOk l with
 | case1 =>
  simp only [List.nil_append, rawInt, codeAmong] at e
  split at e
  ·cases e; exact .inr rfl
  ·cases e
 | case2 l1 t1 l2 t2 d rest ih =>
  simp only [List.cons_append, codeAmong] at e ⊢
  split at e
  ·rename_i hc; rw [if_pos hc]; exact .inl e
  ·rename_i hc; rw [if_neg hc]; exact ih h e
 | case3 l h1 h2 => exact h.elim
theorem Inv.madeNew {P c' : Addr} {oc fo : Obj} {h' : Heap} {ps : Array Value} {a b : Int} {tk : Nat} {q : Nat} (I : Inv X pins σ H s) (hP : H P = some (.tbl q)) (hx : Heap.ExtBut P s.heap h') (h1 : s.heap.objs.size <= c') (h2 : c' < h'.objs.size)
  (hps : s.heap.get? P = some (PySem.W.tabObj ps)) (ht : TriplesOk ps.toList) (hT : h'.get? P = some (PySem.W.tabObj (ps ++ #[rawInt a, rawInt b, .ref c']))) (hoc : h'.get? c' = some oc) (hC : CodeO oc) (hfo : fo.isFreed = false) :
  Inv X pins σ (upd (upd H c' (.frz oc (.own 0))) h'.objs.size (.frz fo (.own 0))) { s with heap := h'.push fo, toks := tk } := by
 have hq : s.heap.objs.size <= h'.objs.size := Nat.le_trans h1 (Nat.le_of_lt h2)
 have n1 : H c' = none := I.hok.fresh h1
 have n2 : H h'.objs.size = none := I.hok.fresh hq
 have ne1 : ∀ {b : Addr} {o : HO}, H b = some o -> b ≠ c' := fun {b o} e z => by rw [z, n1] at e; cases e
 have ne2 : ∀ {b : Addr} {o : HO}, H b = some o -> b ≠ h'.objs.size := fun {b o} e z => by rw [z, n2] at e; cases e
 have up : ∀ {b : Addr} {o : HO}, H b = some o -> upd (upd H c' (.frz oc (.own 0))) h'.objs.size (.frz fo (.own 0)) b = some o := fun {b o} e => by rw [upd_ne (ne2 e), upd_ne (ne1 e)]; exact e
 have old1 : ∀ {b : Addr} {o : Obj}, s.heap.get? b = some o -> b ≠ c' := fun {b o} e => Nat.ne_of_lt (Nat.lt_of_lt_of_le (Heap.lt_size e) h1)
 have old2 : ∀ {b : Addr} {o : Obj}, s.heap.get? b = some o -> b ≠ h'.objs.size := fun {b o} e => Nat.ne_of_lt (Nat.lt_of_lt_of_le (Heap.lt_size e) hq)
 have keep : ∀ b o, b ≠ P -> s.heap.get? b = some o -> (h'.push fo).get? b = some o := fun b o n e => Heap.get?_push_of_some _ (hx b o n e)
 have hTp : (h'.push fo).get? P = some (PySem.W.tabObj (ps ++ #[rawInt a, rawInt b, .ref c'])) := Heap.get?_push_of_some _ hT
 have unP : ∀ b, H b = none -> b ≠ P := fun b n z => by rw [z, hP] at n; cases n
 refine I.un (h' := h'.push fo) (t' := tk) ⟨fun b o e n _ _ => keep b o (unP b n) e, fun b o e n _ _ => ⟨o.slots, keep b o (unP b n) e⟩, fun b o e n _ => by rw [upd_ne (old2 e), upd_ne (old1 e)]; exact n, fun b o e _ => ?_, fun b xs e => up e, fun b o u e => up e, fun b q e => up e⟩ fun b o e => ?_
 ·by_cases hb : b = P
  ·rw [hb]; exact ⟨_, hTp⟩
  ·exact ⟨o, keep b o hb e⟩
 ·by_cases hb2 : b = h'.objs.size
  ·subst hb2
   rw [upd_same] at e; cases e
   have : (h'.push fo).get? h'.objs.size = some fo := Heap.get?_push_size _ hfo
   exact ⟨this, fo, this⟩
  ·rw [upd_ne hb2] at e
   by_cases hb1 : b = c'
   ·subst hb1
    rw [upd_same] at e; cases e
    have := Heap.get?_push_of_some (h := h') fo hoc
    exact ⟨this, oc, this⟩
   ·rw [upd_ne hb1] at e
    by_cases hbP : b = P
    ·subst hbP
     rw [hP] at e; cases e
     obtain ⟨ps', e1, _, r⟩ := I.hok b _ hP
     rw [hps] at e1; cases e1
     refine ⟨_, hTp, by rw [Array.toList_append]; exact TriplesOk_snoc _ _ _ _ ht, fun pos cv z => ?_⟩
     rw [Array.toList_append] at z
     rcases among_snoc _ ht z with z | z
     ·obtain ⟨c, o', u, a1, a2, a3⟩ := r pos cv z
      exact ⟨c, o', u, a1, up a2, a3⟩
     ·exact ⟨c', oc, .own 0, z, by rw [upd_ne (Nat.ne_of_lt h2), upd_same], hC⟩
    ·refine (I.hok b o e).stay (fun d v hd' z => keep d v ?_ z) (fun d z => up z) (fun d xs z => up z) fun d o u z => up z
     rcases hd' with rfl | hd'
     ·exact hbP
     ·rintro rfl; rw [hP] at hd'; cases hd'
structure MkX (X : Cx) (c P : Addr) : Prop where
 code : X.env.code = .ref c
 hd : PySem.W.codeHdIn X.K c P = true
 tab : P ∈ X.base.tabs
structure Takes (X : Cx) (n : Nst) (js : List Nat) : Prop where
 len : n.free.length = js.length
 at_ : ∀ (i : Nat) x j, n.free[i]? = some x -> js[i]? = some j -> X.N[j]? = some x /\ X.env.kindOf x = some .cell /\ X.fn x = false /\ X.cw x = true /\ (x, NameKind.free) ∈ n.scope.names
 all : ∀ y ∈ n.scope.names, y.2 = .free -> y.1 ∈ n.free
def Held (σ : St) (js : List Nat) (cv : List V) : Prop := js.length = cv.length /\ ∀ (i : Nat) j v, js[i]? = some j -> cv[i]? = some v -> σ[j]? = some (some v)
theorem Takes.mem {n : Nst} {js : List Nat} (T : Takes X n js) {x : Str} (hx : x ∈ n.free) : ∃ (i j : Nat), n.free[i]? = some x /\ js[i]? = some j := by
 obtain ⟨i, hi, e⟩ := List.getElem_of_mem hx
 have : i < js.length := by rw [<- T.len]; exact hi
 exact ⟨i, js[i], by rw [List.getElem?_eq_getElem hi, e], List.getElem?_eq_getElem this⟩
theorem clos_free {env : Env} {x : Str} {c : Addr} : ∀ {ns : List (Str × NameKind)} {cs : List (Str × Addr)}, (clos env ns cs).lookup x = some c -> (∃ d, cs.lookup x = some d) \/ (x, NameKind.free) ∈ ns
 | [], cs, h => .inl ⟨c, h⟩
 | (m, k) :: r, cs, h => by
  have ih := clos_free (ns := r) h
  rcases ih with ⟨d, ih⟩ | ih
  ·by_cases hk : (k == NameKind.free) = true
   ·rw [if_pos hk] at ih
    cases e : env.cells.lookup m with
    | none => rw [e] at ih; exact .inl ⟨d, ih⟩
    | some a =>
     rw [e] at ih
     by_cases hx : x == m
     ·have hx' : x = m := by simpa using hx
      have hk' : k = NameKind.free := by simpa using hk
      subst hx' hk'
      exact .inr List.mem_cons_self
     ·have ih : List.lookup x ((m, a) :: cs) = some d := ih
      rw [List.lookup_cons, show (x == m) = false from by simpa using hx] at ih
      exact .inl ⟨d, ih⟩
   ·rw [if_neg hk] at ih; exact .inl ⟨d, ih⟩
  ·exact .inr (List.mem_cons_of_mem _ ih)
theorem run_mk {c P : Addr} {n : Nst} {js : List Nat} {cv : List V} {nm qual : Str} {pos : Pos} {line : Nat} {Q : Value -> Shared -> Prop} (I : Inv X pins σ H s) (m : MkX X c P) (T : Takes X n js) (hv : Held σ js cv)
  (h : ∀ q cl H' s', Inv X pins σ H' s' -> (∀ a o, H a = some o -> H' a = some o) -> H q = none -> CloAt n H' q cl -> CellsAt H' n.free cl cv -> Q (.ref q) s') :
  wpAny (model X.prog X.w) X.A (makeFunction nm qual n.params n.body n.scope X.env [] [] [] pos line) Q X.xe s := by
 have has : ∀ x ∈ n.free, (∃ c, X.env.cells.lookup x = some c) /\ X.fn x = false /\ X.cw x = true := fun x hx => by
  obtain ⟨i, j, e1, e2⟩ := T.mem hx
  obtain ⟨_, k, f, w, _⟩ := T.at_ i x j e1 e2
  exact ⟨I.ok.has x (.inl k), f, w⟩
 have hcl : closureFor n.scope X.env = pure (clos X.env n.scope.names []) := closureFor_eq fun y hy hk => (has y.1 (T.all y hy hk)).1
 obtain ⟨H1, I1, s1, hs⟩ := Inv.sealAll n.free I has
 -- the cells
 have cells : ∀ H2 : Hp, (∀ a o u, H1 a = some (.frz o u) -> H2 a = some (.frz o u)) -> CellsAt H2 n.free (clos X.env n.scope.names []) cv := fun H2 k => by
  refine ⟨T.len.trans hv.1, fun i x v e1 e2 => ?_, fun x d e => ?_, fun x y d e1 e2 => ?_⟩
  ·have hi : i < js.length := by rw [hv.1]; exact (List.getElem?_eq_some_iff.mp e2).1
   have e3 := List.getElem?_eq_getElem hi
   obtain ⟨a1, a2, a3, a4, a5⟩ := T.at_ i x js[i] e1 e3
   obtain ⟨d, ob, u, b1, b2⟩ := hs x (List.mem_of_getElem? e1)
   obtain ⟨mm, _, hl⟩ := I1.loc
   obtain ⟨uu, r, l⟩ := hl js[i] x v a1 (hv.2 i js[i] v e3 e2) (.inr (.inl a2))
   obtain ⟨g, _⟩ := I1.hok d _ b2
   rcases l with ⟨k1, _⟩ | ⟨_, d', b3, oo, b4, b5⟩
   ·rw [a2] at k1; cases k1
   ·rw [b1] at b3; cases b3
    rw [g] at b4; cases b4
    exact ⟨d, ob, u, uu, clos_has b1 a5, k _ _ _ b2, b5, r⟩
  ·rcases clos_free e with ⟨z, e'⟩ | e'
   ·simp at e'
   ·exact T.all _ e' rfl
  ·have f1 := (clos_sub e1).resolve_left (by simp)
   have f2 := (clos_sub e2).resolve_left (by simp)
   exact I.ok.inj x y d f1 f2
 have hP : H1 P = some (.tbl 0) := I1.base.tbls P 0 (I.ok.tab P m.tab)
 obtain ⟨ps, g1, ht, ent⟩ := I1.hok P _ hP
 have hg : s.heap.Ns mainGlobals X.mg := I.mod.glob.keeps I.bk
 have C : PySem.W.CodeHd s.heap c P := PySem.W.codeHd_of_K I.kIn m.hd
 have nP : ∀ {b : Addr} {o : Obj}, X.base.get? b = some o -> b ≠ P := fun {b o} e z => by
  have := (I1.bs b o e).2
  rw [z, hP] at this; cases this
 have hgP : mainGlobals ≠ P := by
  obtain ⟨o, _, _, e, _⟩ := I.mod.glob
  exact nP e
 have hb : s.heap.BuiltinsAt X.mg P := by
  obtain ⟨bm, ob, a1, a2, a3, a4, a5, a6⟩ := I.mod.bmain
  refine ⟨bm, ob, a1, a2, fun z => ?_, nP a3, I.bk _ _ a3, a4, a5, a6⟩
  obtain ⟨o, es, ep, e, d, _⟩ := I.mod.glob
  rw [z, e] at a3; cases a3; rw [d] at a6; cases a6
 have fz : ∀ {a : Addr} {o : HO}, H a = some o -> H1 a = some o := fun e => s1 _ _ e
 have fresh : ∀ {q : Addr}, s.heap.objs.size <= q -> H q = none := fun e => I.hok.fresh e
 have newC : ∀ (c' : Addr) (h' : Heap) (tk : Nat) (fo : Obj) (doc pm ct : Value), Heap.ExtBut P s.heap h' -> s.heap.objs.size <= c' -> c' < h'.objs.size -> h'.CodeRec (.ref c') qual -> h'.get? P = some (PySem.W.tabObj (ps ++ #[rawInt pos.line, rawInt pos.col, .ref c'])) ->
   fo.isFreed = false -> fo.cls = .type "function" -> fo.data = .func (fnY n nm qual (clos X.env n.scope.names []) doc pm (.ref c') ct) -> Q (.ref h'.objs.size) { s with heap := h'.push fo, toks := tk } := fun c' h' tk fo doc pm ct hx x1 x2 hrec hT f1 f2 f3 => by
  obtain ⟨c2, oc, fv, t, z1, z2, z3, z4⟩ := hrec
  cases z1
  have hq : s.heap.objs.size <= h'.objs.size := Nat.le_trans x1 (Nat.le_of_lt x2)
  have J := I1.madeNew (tk := tk) hP hx x1 x2 g1 ht hT z2 ⟨fv, qual, t, z3, z4⟩ f1
  have n1 := I1.hok.fresh x1
  have n2 := I1.hok.fresh hq
  have up : ∀ {b : Addr} {o : HO}, H1 b = some o -> upd (upd H1 c' (.frz oc (.own 0))) h'.objs.size (.frz fo (.own 0)) b = some o := fun {b o} e => by
   rw [upd_ne (ne_of_none e n2), upd_ne (ne_of_none e n1)]; exact e
  refine h _ (clos X.env n.scope.names []) _ _ J (fun a o e => up (fz e)) (fresh hq) ⟨fo, .own 0, nm, qual, doc, pm, c', ct, oc, .own 0, upd_same, f2, f3, by rw [upd_ne (Nat.ne_of_lt x2), upd_same], fv, qual, t, z3, z4⟩ (cells _ fun a o u e => up e)
 have hitC : ∀ (cv' : Value) (h' : Heap) (tk : Nat) (fo : Obj) (doc pm ct : Value), codeAmong pos ps.toList = some cv' -> (∀ b o, s.heap.get? b = some o -> h'.get? b = some o) -> s.heap.objs.size <= h'.objs.size ->
   fo.isFreed = false -> fo.cls = .type "function" -> fo.data = .func (fnY n nm qual (clos X.env n.scope.names []) doc pm cv' ct) -> Q (.ref h'.objs.size) { s with heap := h'.push fo, toks := tk } := fun cv' h' tk fo doc pm ct hf hk hq f1 f2 f3 => by
  obtain ⟨c', oc, u, z1, z2, z3⟩ := ent pos cv' hf
  subst z1
  have n2 := I1.hok.fresh hq
  have J := I1.laid (o := .frz fo (.own 0)) (h' := h'.push fo) (t' := tk) (fun b o e => Heap.get?_push_of_some _ (hk b o e)) hq (show ObjOk X.prog X.w _ _ _ (.frz fo (.own 0)) from by
   have := Heap.get?_push_size h' f1
   exact ⟨this, fo, this⟩)
  have up : ∀ {b : Addr} {o : HO}, H1 b = some o -> upd H1 h'.objs.size (.frz fo (.own 0)) b = some o := fun {b o} e => by rw [upd_ne (ne_of_none e n2)]; exact e
  exact h _ (clos X.env n.scope.names []) _ _ J (fun a o e => up (fz e)) (fresh hq) ⟨fo, .own 0, nm, qual, doc, pm, c', ct, oc, u, upd_same, f2, f3, up z2, z3⟩ (cells _ fun a o u e => up e)
 obtain ⟨prm, bd, sc, fr⟩ := n
 cases bd with
 | stmts body =>
  cases hf : codeAmong pos ps.toList with
  | none => exact PySem.W.makeFunction_K hcl I.ok.glob hg m.code C g1 ht hf hgP hb fun c' ct doc h' tk hx x1 x2 hrec hT => newC c' h' tk _ doc _ ct hx x1 x2 hrec hT rfl rfl rfl
  | some cv' => exact PySem.W.makeFunction_hit hcl I.ok.glob hg m.code C g1 ht hf hb fun ct doc h' tk hk hq => hitC cv' h' tk _ doc _ ct hf hk hq rfl rfl rfl
 | expr body =>
  cases hf : codeAmong pos ps.toList with
  | none => exact PySem.W.kla_makeFunction hcl I.ok.glob hg m.code C g1 ht hf hgP hb fun c' ct h' tk hx x1 x2 hrec hT => newC c' h' tk _ .none _ ct hx x1 x2 hrec hT rfl rfl rfl
  | some cv' => exact PySem.W.kla_makeFunctionHit hcl I.ok.glob hg m.code C g1 ht hf hb fun ct h' tk hk hq => hitC cv' h' tk _ .none _ ct hf hk hq rfl rfl rfl
def tMk (n : Nst) (js : List Nat) (σ : St) (H : Hp) (Q : VK) : Prop := ∃ cv, Held σ js cv /\ ∀ q cl H', (∀ a o, H a = some o -> H' a = some o) -> H q = none -> CloAt n H' q cl -> CellsAt H' n.free cl cv -> Q (.ref q) H'
theorem ps_def {c P : Addr} {name : Str} {params : Arguments} {body : List Stmt} {scope : Scope} {fr : List Str} {js : List Nat} {pos : Pos} {i : Nat} (m : MkX X c P) (T : Takes X ⟨params, .stmts body, scope, fr⟩ js) (hN : X.N.Nodup) (hi : X.N[i]? = some name) (hx : Loc X.env.scope name)
  (hd0 : params.defaults = [] := by rfl) (hk0 : params.kw_defaults = [] := by rfl) (ha : annTrees params none X.env = [] := by rfl) (hf : X.fn name = true \/ X.env.scope.names.lookup name = some .local := by first | exact .inl rfl | exact .inr rfl | assumption) :
  PS X (.FunctionDef name params body [] none [] scope none name pos) (fun D σ H => tMk ⟨params, .stmts body, scope, fr⟩ js σ H fun v H' => D.nx (σ.set i (some v)) H') := by
 intro pins s σ H D I ⟨cv, hv, h⟩
 refine PySem.W.nestDef_K hd0 hk0 ha (run_mk (n := ⟨params, .stmts body, scope, fr⟩) I m T hv fun q cl H' s' I' sm hn hc hce => ?_)
 exact store_ok I' hN hi hx (show RelV (.ref q) (.ref q) from rfl) (fun s'' I'' => ⟨_, H', I'', h q cl H' sm hn hc hce⟩) hf
end
end L2
end
section
namespace DN
open PySem L2
inductive PV where
 | non | bl (b : Bool) | int (i : Int) | str (x : Str)
 | tup (xs : List PV) | lst (xs : List PV) | obj (k : Nat) (xs : List PV) | dic (ks : List Key) (xs : List PV) | clo (f : Nat) (xs : List PV) | dit (ks : List (List Key)) (xs : List PV)
inductive Rx (α : Type) where
 | ok (a : α) | bad | exc (c : Nat)
def Rx.bind {α β : Type} : Rx α -> (α -> Rx β) -> Rx β
 | .ok a, f => f a
 | .bad, _ => .bad
 | .exc c, _ => .exc c
theorem bind_ok {α β : Type} {m : Rx α} {f : α -> Rx β} {b : β} (h : m.bind f = .ok b) : ∃ a, m = .ok a /\ f a = .ok b := by
 cases m with
 | ok a => exact ⟨a, rfl, h⟩
 | bad => cases h
 | exc c => cases h
@[simp] theorem ok_bind {α β : Type} (a : α) (f : α -> Rx β) : (Rx.ok a).bind f = f a := rfl
@[simp] theorem bad_bind {α β : Type} (f : α -> Rx β) : (Rx.bad : Rx α).bind f = .bad := rfl
@[simp] theorem exc_bind {α β : Type} (c : Nat) (f : α -> Rx β) : (Rx.exc c : Rx α).bind f = .exc c := rfl
structure Pg where
 cA : Nat -> Addr
 fN : Nat -> List Str
 nF : Nat -> Nst
abbrev Av := Addr -> Prop
def RdL (K : Fg) (H : Hp) (A : Av) (a : Addr) (vs : List V) : Prop :=
 (H a = some (.lst vs) /\ ¬ A a) \/ (∃ o, H a = some (.frz o (.lst vs))) \/
  ∃ (o : Obj) (its : Array Value) (n : Nat), K.lookup a = some o /\ o.cls = .type "list" /\ o.dict = none /\ o.data = .seq its n /\ its.size <= sizeLine /\ Vals vs its.toList
theorem RdL.sq {K : Fg} {H : Hp} {A : Av} {a : Addr} {vs : List V} (h : RdL K H A a vs) : SqL K H a vs := by
 rcases h with ⟨h, _⟩ | ⟨o, h⟩ | h
 ·exact .inl (.inl h)
 ·exact .inl (.inr ⟨o, h⟩)
 ·exact .inr h
mutual
def Rep (K : Fg) (G : Pg) (H : Hp) (A : Av) : PV -> V -> Prop
 | .non, v => v = .non
 | .bl b, v => v = .bl b
 | .int i, v => v = .int i
 | .str x, v => v = .str x
 | .tup xs, v => ∃ a vs, v = .ref a /\ SqT K H a vs /\ Reps K G H A xs vs
 | .lst xs, v => ∃ a vs, v = .ref a /\ RdL K H A a vs /\ Reps K G H A xs vs
 | .obj k xs, v => ∃ a dx vs, v = .ref a /\ H a = some (.ins (G.cA k) dx ((G.fN k).zip vs)) /\ (G.fN k).length = vs.length /\ ¬ A a /\ Reps K G H A xs vs
 | .dic ks xs, v => ∃ a vs, v = .ref a /\ H a = some (.dK (ks.zip vs)) /\ ks.length = vs.length /\ ¬ A a /\ Reps K G H A xs vs
 | .dit ks xs, v => ∃ a vs, v = .ref a /\ H a = some (.dT (ks.zip vs)) /\ ks.length = vs.length /\ ¬ A a /\ Reps K G H A xs vs
 | .clo f xs, v => ∃ q cl vs, v = .ref q /\ CloAt (G.nF f) H q cl /\ CellsAt H (G.nF f).free cl vs /\ Reps K G H A xs vs
def Reps (K : Fg) (G : Pg) (H : Hp) (A : Av) : List PV -> List V -> Prop
 | [], vs => vs = []
 | x :: xs, vs => ∃ v r, vs = v :: r /\ Rep K G H A x v /\ Reps K G H A xs r
end
abbrev Mt (o : HO) : Prop := (∀ xs, o ≠ .tup xs) /\ ∀ o' u, o ≠ .frz o' u
structure Kp (K : Fg) (G : Pg) (H : Hp) (A : Av) (H' : Hp) (A' : Av) : Prop where
 rd : ∀ a o, H a = some o -> ¬ A a -> H' a = some o
 tp : ∀ a vs, H a = some (.tup vs) -> H' a = some (.tup vs)
 fz : ∀ a o u, H a = some (.frz o u) -> H' a = some (.frz o u)
 av : ∀ a, H a ≠ none -> A' a -> A a
section
variable {K : Fg} {G : Pg} {H H' H2 : Hp} {A A' A2 : Av}
theorem Kp.sqT (k : Kp K G H A H' A') {a : Addr} {vs : List V} (h : SqT K H a vs) : SqT K H' a vs := by
 rcases h with (h | ⟨o, h⟩) | h
 ·exact .inl (.inl (k.tp _ _ h))
 ·exact .inl (.inr ⟨o, k.fz _ _ _ h⟩)
 ·exact .inr h
theorem Kp.rdL (k : Kp K G H A H' A') {a : Addr} {vs : List V} (h : RdL K H A a vs) : RdL K H' A' a vs := by
 rcases h with ⟨h, n⟩ | ⟨o, h⟩ | h
 ·exact .inl ⟨k.rd _ _ h n, fun z => n (k.av _ (by rw [h]; simp) z)⟩
 ·exact .inr (.inl ⟨o, k.fz _ _ _ h⟩)
 ·exact .inr (.inr h)
mutual
theorem Kp.rep (k : Kp K G H A H' A') : ∀ {w : PV} {v : V}, Rep K G H A w v -> Rep K G H' A' w v
 | .non, _, h => h
 | .bl _, _, h => h
 | .int _, _, h => h
 | .str _, _, h => h
 | .tup xs, v, h => by
  obtain ⟨a, vs, e, s, r⟩ := h
  exact ⟨a, vs, e, k.sqT s, Kp.reps k r⟩
 | .lst xs, v, h => by
  obtain ⟨a, vs, e, s, r⟩ := h
  exact ⟨a, vs, e, k.rdL s, Kp.reps k r⟩
 | .obj c xs, v, h => by
  obtain ⟨a, dx, vs, e, s, l, n, r⟩ := h
  exact ⟨a, dx, vs, e, k.rd _ _ s n, l, fun z => n (k.av _ (by rw [s]; simp) z), Kp.reps k r⟩
 | .dic ks xs, v, h => by
  obtain ⟨a, vs, e, s, l, n, r⟩ := h
  exact ⟨a, vs, e, k.rd _ _ s n, l, fun z => n (k.av _ (by rw [s]; simp) z), Kp.reps k r⟩
 | .dit ks xs, v, h => by
  obtain ⟨a, vs, e, s, l, n, r⟩ := h
  exact ⟨a, vs, e, k.rd _ _ s n, l, fun z => n (k.av _ (by rw [s]; simp) z), Kp.reps k r⟩
 | .clo f xs, v, h => by
  obtain ⟨q, cl, vs, e, hc, hce, r⟩ := h
  exact ⟨q, cl, vs, e, hc.keep k.fz, hce.keep k.fz, Kp.reps k r⟩
theorem Kp.reps (k : Kp K G H A H' A') : ∀ {ws : List PV} {vs : List V}, Reps K G H A ws vs -> Reps K G H' A' ws vs
 | [], vs, h => h
 | w :: ws, vs, h => by
  obtain ⟨v, r, e, h1, h2⟩ := h
  exact ⟨v, r, e, Kp.rep k h1, Kp.reps k h2⟩
end
theorem Kp.of_same (s : Same H H') : Kp K G H A H' A := ⟨fun a o h _ => s _ _ h, fun a vs h => s _ _ h, fun a o u h => s _ _ h, fun a _ h => h⟩
theorem Kp.weak (h : ∀ a, A' a -> A a) : Kp K G H A H A' := ⟨fun a o h _ => h, fun a vs h => h, fun a o u h => h, fun a _ z => h a z⟩
theorem Kp.trans (k : Kp K G H A H' A') (k2 : Kp K G H' A' H2 A2) : Kp K G H A H2 A2 :=
 ⟨fun a o h n => k2.rd _ _ (k.rd _ _ h n) fun z => n (k.av _ (by rw [h]; simp) z), fun a vs h => k2.tp _ _ (k.tp _ _ h), fun a o u h => k2.fz _ _ _ (k.fz _ _ _ h),
  fun a n z => by
   by_cases q : A a
   ·exact q
   ·cases e : H a with
    | none => exact absurd e n
    | some o => exact k.av a n (k2.av a (by rw [k.rd _ _ e q]; simp) z)⟩
theorem Kp.own {p : Addr} {o u : HO} (hA : A p) (hp : H p = some o) (m : Mt o) : Kp K G H A (upd H p u) A :=
 ⟨fun a x h n => by
   rw [upd_ne (by intro z; subst z; exact n hA)]; exact h,
  fun a vs h => by
   rw [upd_ne (by intro z; subst z; rw [hp] at h; exact m.1 _ (Option.some.inj h))]; exact h,
  fun a o' u' h => by
   rw [upd_ne (by intro z; subst z; rw [hp] at h; exact m.2 _ _ (Option.some.inj h))]; exact h,
  fun a _ h => h⟩
theorem Kp.take {p : Addr} (hp : H p = none) (hs : Same H H') (h : ∀ a, A' a -> a = p \/ A a) : Kp K G H A H' A' :=
 ⟨fun a o h _ => hs _ _ h, fun a vs h => hs _ _ h, fun a o u h => hs _ _ h, fun a n z => by
  rcases h a z with e | e
  ·subst e; exact absurd hp n
  ·exact e⟩
theorem Rep.same {w : PV} {v : V} (h : Rep K G H A w v) (s : Same H H') : Rep K G H' A w v := (Kp.of_same s).rep h
theorem Reps.same {ws : List PV} {vs : List V} (h : Reps K G H A ws vs) (s : Same H H') : Reps K G H' A ws vs := (Kp.of_same s).reps h
theorem Reps.len : ∀ {ws : List PV} {vs : List V}, Reps K G H A ws vs -> ws.length = vs.length
 | [], vs, h => by have h : vs = [] := h; rw [h]; rfl
 | w :: ws, vs, h => by
  obtain ⟨v, r, e, _, h2⟩ := h
  subst e
  rw [List.length_cons, List.length_cons, Reps.len h2]
theorem Reps.get : ∀ {ws : List PV} {vs : List V} {i : Nat} {w : PV}, Reps K G H A ws vs -> ws[i]? = some w -> ∃ v, vs[i]? = some v /\ Rep K G H A w v
 | [], vs, i, w, h, e => by simp at e
 | x :: ws, vs, 0, w, h, e => by
  obtain ⟨v, r, e', h1, h2⟩ := h
  subst e'
  simp at e; subst e
  exact ⟨v, by simp, h1⟩
 | x :: ws, vs, i + 1, w, h, e => by
  obtain ⟨v, r, e', h1, h2⟩ := h
  subst e'
  obtain ⟨u, q1, q2⟩ := Reps.get (i := i) h2 (by simpa using e)
  exact ⟨u, by simpa using q1, q2⟩
theorem Reps.app : ∀ {ws ws' : List PV} {vs vs' : List V}, Reps K G H A ws vs -> Reps K G H A ws' vs' -> Reps K G H A (ws ++ ws') (vs ++ vs')
 | [], ws', vs, vs', h, h' => by have h : vs = [] := h; subst h; exact h'
 | w :: ws, ws', vs, vs', h, h' => by
  obtain ⟨v, r, e, h1, h2⟩ := h
  subst e
  exact ⟨v, r ++ vs', rfl, h1, Reps.app h2 h'⟩
theorem Reps.one {w : PV} {v : V} (h : Rep K G H A w v) : Reps K G H A [w] [v] := ⟨v, [], rfl, h, rfl⟩
theorem Reps.snoc {ws : List PV} {vs : List V} {w : PV} {v : V} (h : Reps K G H A ws vs) (h' : Rep K G H A w v) : Reps K G H A (ws ++ [w]) (vs ++ [v]) := h.app (.one h')
theorem Reps.take : ∀ {ws : List PV} {vs : List V} (n : Nat), Reps K G H A ws vs -> Reps K G H A (ws.take n) (vs.take n)
 | ws, vs, 0, h => by simp [Reps]
 | [], vs, n + 1, h => by have h : vs = [] := h; subst h; rfl
 | w :: ws, vs, n + 1, h => by
  obtain ⟨v, r, e, h1, h2⟩ := h
  subst e
  exact ⟨v, r.take n, rfl, h1, Reps.take n h2⟩
theorem Reps.drop : ∀ {ws : List PV} {vs : List V} (n : Nat), Reps K G H A ws vs -> Reps K G H A (ws.drop n) (vs.drop n)
 | ws, vs, 0, h => by simpa using h
 | [], vs, n + 1, h => by have h : vs = [] := h; subst h; rfl
 | w :: ws, vs, n + 1, h => by
  obtain ⟨v, r, e, h1, h2⟩ := h
  subst e
  exact Reps.drop n h2
theorem Reps.set : ∀ {ws : List PV} {vs : List V} {w : PV} {v : V} (i : Nat), Reps K G H A ws vs -> Rep K G H A w v -> Reps K G H A (ws.set i w) (vs.set i v)
 | [], vs, w, v, i, h, h' => by have h : vs = [] := h; subst h; rfl
 | x :: ws, vs, w, v, 0, h, h' => by
  obtain ⟨u, r, e, h1, h2⟩ := h
  subst e
  exact ⟨v, r, rfl, h', h2⟩
 | x :: ws, vs, w, v, i + 1, h, h' => by
  obtain ⟨u, r, e, h1, h2⟩ := h
  subst e
  exact ⟨u, r.set i v, rfl, h1, Reps.set i h2 h'⟩
theorem Reps.ints : ∀ (ns : List Int), Reps K G H A (ns.map PV.int) (ns.map V.int)
 | [] => rfl
 | n :: ns => ⟨_, _, rfl, rfl, Reps.ints ns⟩
theorem Reps.of_ints : ∀ {ns : List Int} {vs : List V}, Reps K G H A (ns.map PV.int) vs -> vs = ns.map V.int
 | [], vs, h => h
 | n :: ns, vs, h => by
  obtain ⟨v, r, e, h1, h2⟩ := h
  have h1 : v = .int n := h1
  rw [e, h1, Reps.of_ints h2]; rfl
end
inductive Ow where
 | lst (xs : List PV) | dic (ks : List Key) (xs : List PV) | obj (k : Nat) (xs : List PV) | dit (ks : List (List Key)) (xs : List PV)
inductive Sl where
 | no | v (w : PV) | own (o : Ow) | bor (w : PV) | ino (o : Ow) | ini (k : Nat) (xs : List PV)
  | dol (ks : List Key) (xss : List (List PV)) | als (d j : Nat)
abbrev PSt := List Sl
def Ow.pv : Ow -> PV
 | .lst xs => .lst xs
 | .dic ks xs => .dic ks xs
 | .obj k xs => .obj k xs
 | .dit ks xs => .dit ks xs
def RepO (K : Fg) (G : Pg) (H : Hp) (A : Av) : Ow -> Addr -> Prop
 | .lst xs, p => ∃ vs, H p = some (.lst vs) /\ Reps K G H A xs vs
 | .dic ks xs, p => ∃ vs, H p = some (.dK (ks.zip vs)) /\ ks.length = vs.length /\ Reps K G H A xs vs
 | .dit ks xs, p => ∃ vs, H p = some (.dT (ks.zip vs)) /\ ks.length = vs.length /\ Reps K G H A xs vs
 | .obj k xs, p => ∃ dx vs, H p = some (.ins (G.cA k) dx ((G.fN k).zip vs)) /\ (G.fN k).length = vs.length /\ Reps K G H A xs vs
def RepI (K : Fg) (G : Pg) (H : Hp) (A : Av) (k : Nat) (xs : List PV) (p : Addr) : Prop := ∃ dx vs, H p = some (.ins (G.cA k) dx (((G.fN k).take xs.length).zip vs)) /\ xs.length <= (G.fN k).length /\ Reps K G H A xs vs
structure Fr where
 H0 : Hp
 A0 : Av
 B0 : Av
 lx : Option Addr
def SmL (c : Fr) (H : Hp) : Prop := ∀ a o, c.H0 a = some o -> c.lx ≠ some a -> H a = some o
theorem SmL.trans {c : Fr} {H H' : Hp} (h : SmL c H) (s : Same H H') : SmL c H' := fun a o e n => s _ _ (h a o e n)
theorem SmL.free {c : Fr} {H : Hp} {p : Addr} (h : SmL c H) (hp : H p = none) (n : c.lx ≠ some p) : c.H0 p = none := by
 cases e : c.H0 p with
 | none => rfl
 | some o => rw [h p o e n] at hp; cases hp
theorem SmL.same {c : Fr} {H : Hp} (h : SmL c H) (n : c.lx = none) : Same c.H0 H := fun a o e => h a o e (by rw [n]; simp)
theorem SmL.of {c : Fr} {H : Hp} (s : Same c.H0 H) : SmL c H := fun a o e _ => s a o e
abbrev Ows := Nat -> Option Addr
def av (c : Fr) (ow : Ows) : Av := fun a => c.A0 a \/ ∃ i, ow i = some a
def RepB (K : Fg) (G : Pg) (H : Hp) (A : Av) (w : PV) (v : V) : Prop := Rep K G H A w v \/ ∃ x p, w = x.pv /\ v = .ref p /\ RepO K G H A x p
def vx (n d j : Nat) : Nat := n + (1000 * d + j)
def SlAt (K : Fg) (G : Pg) (c : Fr) (n : Nat) (H : Hp) (A : Av) (ow : Ows) (i : Nat) : Sl -> Option V -> Prop
 | .no, _ => ow i = none
 | .v w, o => ow i = none /\ ∃ v, o = some v /\ Rep K G H A w v
 | .own x, o => ∃ p, ow i = some p /\ o = some (.ref p) /\ RepO K G H A x p
 | .bor w, o => ow i = none /\ ∃ v, o = some v /\ (Rep K G H A w v \/ ∃ x p, w = x.pv /\ v = .ref p /\ RepO K G H A x p /\ c.B0 p)
 | .ino x, o => ow i = none /\ i = 0 /\ ∃ p, o = some (.ref p) /\ c.lx = some p /\ RepO K G H A x p
 | .ini k xs, o => ow i = none /\ i = 0 /\ ∃ p, o = some (.ref p) /\ c.lx = some p /\ RepI K G H A k xs p
 | .dol ks xss, o => ∃ (p : Addr) (qs : List Addr), ow i = some p /\ o = some (.ref p) /\ H p = some (.dK (ks.zip (qs.map V.ref))) /\ ks.length = qs.length /\ xss.length = qs.length /\ qs.length <= 1000 /\ ∀ j q xs, qs[j]? = some q -> xss[j]? = some xs -> ow (vx n i j) = some q /\ RepO K G H A (.lst xs) q
 | .als d j, o => ow i = none /\ ∃ q, o = some (.ref q) /\ ow (vx n d j) = some q
structure RepS (K : Fg) (G : Pg) (c : Fr) (H : Hp) (ow : Ows) (ps : PSt) (σ : St) : Prop where
 len : ps.length = σ.length
 same : SmL c H
 lent : ∀ p, c.lx = some p -> c.A0 p /\ H p ≠ none
 a0 : ∀ a, c.A0 a -> c.H0 a ≠ none
 b0 : ∀ a, c.B0 a -> c.H0 a ≠ none /\ c.lx ≠ some a
 fresh : ∀ i p, ow i = some p -> c.H0 p = none
 inj : ∀ i j p, ow i = some p -> ow j = some p -> i = j
 out : ∀ i p, ow i = some p -> i < ps.length \/ H p ≠ none
 slot : ∀ i s o, ps[i]? = some s -> σ[i]? = some o -> SlAt K G c ps.length H (av c ow) ow i s o
section
variable {K : Fg} {G : Pg} {H H' : Hp} {A A' : Av} {c : Fr} {ow : Ows} {ps : PSt} {σ : St}
theorem RepO.at {x : Ow} {p : Addr} (h : RepO K G H A x p) : ∃ o, H p = some o /\ Mt o := by
 cases x with
 | lst xs => obtain ⟨vs, e, _⟩ := h; exact ⟨_, e, And.intro (fun _ z => by cases z) (fun _ _ z => by cases z)⟩
 | dic ks xs => obtain ⟨vs, e, _⟩ := h; exact ⟨_, e, And.intro (fun _ z => by cases z) (fun _ _ z => by cases z)⟩
 | dit ks xs => obtain ⟨vs, e, _⟩ := h; exact ⟨_, e, And.intro (fun _ z => by cases z) (fun _ _ z => by cases z)⟩
 | obj k xs => obtain ⟨dx, vs, e, _⟩ := h; exact ⟨_, e, And.intro (fun _ z => by cases z) (fun _ _ z => by cases z)⟩
theorem RepI.at {k : Nat} {xs : List PV} {p : Addr} (h : RepI K G H A k xs p) : ∃ o, H p = some o /\ Mt o := by
 obtain ⟨dx, vs, e, _⟩ := h; exact ⟨_, e, And.intro (fun _ z => by cases z) (fun _ _ z => by cases z)⟩
theorem RepI.keep {k : Nat} {xs : List PV} {p : Addr} (h : RepI K G H A k xs p) (kp : Kp K G H A H' A') (e : H' p = H p) : RepI K G H' A' k xs p := by
 obtain ⟨dx, vs, q, l, r⟩ := h; exact ⟨dx, vs, by rw [e]; exact q, l, kp.reps r⟩
theorem RepO.keep {x : Ow} {p : Addr} (h : RepO K G H A x p) (k : Kp K G H A H' A') (e : H' p = H p) : RepO K G H' A' x p := by
 cases x with
 | lst xs => obtain ⟨vs, q, r⟩ := h; exact ⟨vs, by rw [e]; exact q, k.reps r⟩
 | dic ks xs => obtain ⟨vs, q, l, r⟩ := h; exact ⟨vs, by rw [e]; exact q, l, k.reps r⟩
 | dit ks xs => obtain ⟨vs, q, l, r⟩ := h; exact ⟨vs, by rw [e]; exact q, l, k.reps r⟩
 | obj c xs => obtain ⟨dx, vs, q, l, r⟩ := h; exact ⟨dx, vs, by rw [e]; exact q, l, k.reps r⟩
theorem RepO.freeze {x : Ow} {p : Addr} (h : RepO K G H A x p) (n : ¬ A p) : Rep K G H A x.pv (.ref p) := by
 cases x with
 | lst xs => obtain ⟨vs, q, r⟩ := h; exact ⟨p, vs, rfl, .inl ⟨q, n⟩, r⟩
 | dic ks xs => obtain ⟨vs, q, l, r⟩ := h; exact ⟨p, vs, rfl, q, l, n, r⟩
 | dit ks xs => obtain ⟨vs, q, l, r⟩ := h; exact ⟨p, vs, rfl, q, l, n, r⟩
 | obj c xs => obtain ⟨dx, vs, q, l, r⟩ := h; exact ⟨p, dx, vs, rfl, q, l, n, r⟩
theorem RepS.get (R : RepS K G c H ow ps σ) {i : Nat} {s : Sl} (e : ps[i]? = some s) : ∃ o, σ[i]? = some o /\ SlAt K G c ps.length H (av c ow) ow i s o := by
 have hi : i < ps.length := (List.getElem?_eq_some_iff.mp e).1
 have hi' : i < σ.length := by rw [<- R.len]; exact hi
 exact ⟨σ[i], List.getElem?_eq_getElem hi', R.slot i s _ e (List.getElem?_eq_getElem hi')⟩
theorem RepS.getV (R : RepS K G c H ow ps σ) {i : Nat} {w : PV} (e : ps[i]? = some (.v w)) : ∃ v, σ[i]? = some (some v) /\ Rep K G H (av c ow) w v := by
 obtain ⟨o, eo, _, v, rfl, r⟩ := R.get e
 exact ⟨v, eo, r⟩
theorem RepS.getO (R : RepS K G c H ow ps σ) {i : Nat} {x : Ow} (e : ps[i]? = some (.own x)) : ∃ p, ow i = some p /\ σ[i]? = some (some (.ref p)) /\ RepO K G H (av c ow) x p := by
 obtain ⟨o, eo, p, e1, rfl, r⟩ := R.get e
 exact ⟨p, e1, eo, r⟩
theorem RepS.used (R : RepS K G c H ow ps σ) : ∀ a, av c ow a -> H a ≠ none := by
 intro a h
 rcases h with h | ⟨i, h⟩
 ·by_cases hl : c.lx = some a
  ·exact (R.lent a hl).2
  ·cases e : c.H0 a with
   | none => exact absurd e (R.a0 a h)
   | some o => rw [R.same _ _ e hl]; simp
 ·rcases R.out i a h with hi | hv
  case inr => exact hv
  obtain ⟨o, eo, q⟩ := R.get (List.getElem?_eq_getElem hi)
  cases e : ps[i] with
  | no => rw [e] at q; rw [show ow i = none from q] at h; cases h
  | v w => rw [e] at q; rw [q.1] at h; cases h
  | bor w => rw [e] at q; rw [q.1] at h; cases h
  | ino x => rw [e] at q; rw [q.1] at h; cases h
  | ini k xs => rw [e] at q; rw [q.1] at h; cases h
  | als d j => rw [e] at q; rw [q.1] at h; cases h
  | dol ks xss =>
   rw [e] at q
   obtain ⟨p, qs, e1, _, hp, _⟩ := q
   rw [e1] at h; cases h
   rw [hp]; simp
  | own x =>
   rw [e] at q
   obtain ⟨p, e1, _, r⟩ := q
   rw [e1] at h; cases h
   obtain ⟨o', e', _⟩ := r.at
   rw [e']; simp
theorem bor_keep {w : PV} {v : V} {A A' : Av} (b0 : ∀ a, c.B0 a -> c.H0 a ≠ none /\ c.lx ≠ some a) (s : SmL c H) (s' : SmL c H') (k : Kp K G H A H' A') (h : Rep K G H A w v \/ ∃ x p, w = x.pv /\ v = .ref p /\ RepO K G H A x p /\ c.B0 p) :
  Rep K G H' A' w v \/ ∃ x p, w = x.pv /\ v = .ref p /\ RepO K G H' A' x p /\ c.B0 p := by
 rcases h with h | ⟨x, p, e1, e2, r, n⟩
 ·exact .inl (k.rep h)
 ·refine .inr ⟨x, p, e1, e2, r.keep k ?_, n⟩
  cases q : c.H0 p with
  | none => exact absurd q (b0 p n).1
  | some o => rw [s _ _ q (b0 p n).2, s' _ _ q (b0 p n).2]
theorem SlAt.keep {n i : Nat} {x : Sl} {o : Option V} {ow' : Ows} {A A' : Av} (q : SlAt K G c n H A ow i x o) (b0 : ∀ a, c.B0 a -> c.H0 a ≠ none /\ c.lx ≠ some a) (s : SmL c H) (s' : SmL c H') (k : Kp K G H A H' A') (hr : ow' i = ow i) (hv : ∀ d j q, ow (vx n d j) = some q -> ow' (vx n d j) = some q)
  (ho : ∀ p, ow i = some p -> H' p = H p) (hw : ∀ j p, j < 1000 -> ow (vx n i j) = some p -> H' p = H p) (el : ∀ p, c.lx = some p -> H' p = H p) : SlAt K G c n H' A' ow' i x o := by
 cases x with
 | no => show ow' i = none; rw [hr]; exact q
 | v w => obtain ⟨z, v, e3, r⟩ := q; exact ⟨by rw [hr]; exact z, v, e3, k.rep r⟩
 | own y => obtain ⟨p, e3, e4, r⟩ := q; exact ⟨p, by rw [hr]; exact e3, e4, r.keep k (ho p e3)⟩
 | bor w => obtain ⟨z, v, e3, r⟩ := q; exact ⟨by rw [hr]; exact z, v, e3, bor_keep b0 s s' k r⟩
 | ino y => obtain ⟨z, z2, p, e3, e4, r⟩ := q; exact ⟨by rw [hr]; exact z, z2, p, e3, e4, r.keep k (el p e4)⟩
 | ini c xs => obtain ⟨z, z2, p, e3, e4, r⟩ := q; exact ⟨by rw [hr]; exact z, z2, p, e3, e4, r.keep k (el p e4)⟩
 | dol ks xss =>
  obtain ⟨p, qs, e1, e2, hp, l1, l2, l3, h⟩ := q
  refine ⟨p, qs, by rw [hr]; exact e1, e2, by rw [ho p e1]; exact hp, l1, l2, l3, fun j q xs h1 h2 => ?_⟩
  obtain ⟨h3, h4⟩ := h j q xs h1 h2
  exact ⟨hv i j q h3, h4.keep k (hw j q (Nat.lt_of_lt_of_le (List.getElem?_eq_some_iff.mp h1).1 l3) h3)⟩
 | als d j => obtain ⟨z, q', e3, e4⟩ := q; exact ⟨by rw [hr]; exact z, q', e3, hv d j q' e4⟩
theorem RepS.keep (R : RepS K G c H ow ps σ) (s : SmL c H') (k : Kp K G H (av c ow) H' (av c ow)) (e : ∀ i p, ow i = some p -> H' p = H p) (el : ∀ p, c.lx = some p -> H' p = H p) : RepS K G c H' ow ps σ := by
 refine ⟨R.len, s, fun p h => ⟨(R.lent p h).1, by rw [el p h]; exact (R.lent p h).2⟩, R.a0, R.b0, R.fresh, R.inj, fun i p h => ?_, fun i x o e1 e2 => ?_⟩
 ·rcases R.out i p h with q | q
  ·exact .inl q
  ·right; rw [e i p h]; exact q
 ·exact (R.slot i x o e1 e2).keep R.b0 R.same s k rfl (fun _ _ _ h => h) (fun p h => e i p h) (fun j p _ h => e _ p h) el
theorem RepS.grow (R : RepS K G c H ow ps σ) (s : Same H H') : RepS K G c H' ow ps σ :=
 R.keep (R.same.trans s) (Kp.of_same s) (fun i p e => by
  cases q : H p with
  | none => exact absurd q (R.used p (.inr ⟨i, e⟩))
  | some o => exact s _ _ q) fun p e => by
  cases q : H p with
  | none => exact absurd q (R.lent p e).2
  | some o => exact s _ _ q
def offW (n : Nat) (ow : Ows) (i : Nat) : Ows := fun j => if j = i /\ i < n then none else ow j
def onW (ow : Ows) (i : Nat) (p : Addr) : Ows := fun j => if j = i then some p else ow j
theorem av_off {n i : Nat} : ∀ a, av c (offW n ow i) a -> av c ow a := by
 intro a h
 rcases h with h | ⟨j, h⟩
 ·exact .inl h
 ·unfold offW at h
  split at h
  ·cases h
  ·exact .inr ⟨j, h⟩
theorem off_vx {n i : Nat} : ∀ d j q, ow (vx n d j) = some q -> offW n ow i (vx n d j) = some q := by
 intro d j q h
 unfold offW
 rw [if_neg (by rintro ⟨z, hi⟩; unfold vx at z; omega)]
 exact h
theorem RepS.setV (R : RepS K G c H ow ps σ) {i : Nat} {w : PV} {v : V} (r : Rep K G H (av c ow) w v) : RepS K G c H (offW ps.length ow i) (ps.set i (.v w)) (σ.set i (some v)) := by
 have k : Kp K G H (av c ow) H (av c (offW ps.length ow i)) := Kp.weak av_off
 refine ⟨by simp [R.len], R.same, R.lent, R.a0, R.b0, fun j p e => ?_, fun j j' p e e' => ?_, fun j p h => ?_, fun j x o e1 e2 => ?_⟩
 ·unfold offW at e; split at e
  ·cases e
  ·exact R.fresh j p e
 ·unfold offW at e e'
  split at e
  ·cases e
  ·split at e'
   ·cases e'
   ·exact R.inj j j' p e e'
 ·unfold offW at h; split at h
  ·cases h
  ·rw [List.length_set]; exact R.out j p h
 ·rw [List.length_set]
  by_cases hj : j = i
  ·subst hj
   have hl : j < ps.length := by
    have := (List.getElem?_eq_some_iff.mp e1).1
    simpa using this
   rw [List.getElem?_set_self hl] at e1
   rw [List.getElem?_set_self (by rw [<- R.len]; exact hl)] at e2
   cases e1; cases e2
   exact ⟨by unfold offW; rw [if_pos ⟨rfl, hl⟩], v, rfl, k.rep r⟩
  ·rw [List.getElem?_set_ne (fun z => hj z.symm)] at e1 e2
   have eo : offW ps.length ow i j = ow j := by unfold offW; rw [if_neg (fun z => hj z.1)]
   exact (R.slot j x o e1 e2).keep R.b0 R.same R.same k eo off_vx (fun _ _ => rfl) (fun _ _ _ _ => rfl) (fun _ _ => rfl)
theorem on_vx {n i : Nat} {p : Addr} (hi : i < n) : ∀ d j q, ow (vx n d j) = some q -> onW ow i p (vx n d j) = some q := by
 intro d j q h
 unfold onW
 rw [if_neg (by intro z; unfold vx at z; omega)]
 exact h
theorem RepS.setN (R : RepS K G c H ow ps σ) {i : Nat} {x : Sl} {p : Addr} (hi : i < ps.length) (hs : Same H H') (hp : H p = none) (hp' : H' p ≠ none) (r : SlAt K G c ps.length H' (av c (onW ow i p)) (onW ow i p) i x (some (.ref p))) :
  RepS K G c H' (onW ow i p) (ps.set i x) (σ.set i (some (.ref p))) := by
 have hav : ∀ a, av c (onW ow i p) a -> av c ow a \/ a = p := by
  intro a h
  rcases h with h | ⟨j, h⟩
  ·exact .inl (.inl h)
  ·unfold onW at h
   split at h
   ·cases h; exact .inr rfl
   ·exact .inl (.inr ⟨j, h⟩)
 have k : Kp K G H (av c ow) H' (av c (onW ow i p)) := Kp.take hp hs fun a h => (hav a h).symm
 have nl : c.lx ≠ some p := fun z => (R.lent p z).2 hp
 have us : ∀ j q, ow j = some q -> H' q = H q := fun j q e => by
  cases h : H q with
  | none => exact absurd h (R.used q (.inr ⟨j, e⟩))
  | some o => exact hs _ _ h
 refine ⟨by simp [R.len], R.same.trans hs, fun q h => ⟨(R.lent q h).1, fun z => (R.lent q h).2 (hs.free z)⟩, R.a0, R.b0, fun j q e => ?_, fun j j' q e e' => ?_, fun j q h => ?_, fun j y o e1 e2 => ?_⟩
 ·unfold onW at e; split at e
  ·cases e; exact R.same.free hp nl
  ·exact R.fresh j q e
 ·unfold onW at e e'
  split at e
  ·cases e
   split at e'
   ·rename_i h1 h2; rw [h1, h2]
   ·exact absurd hp (R.used _ (.inr ⟨j', e'⟩))
  ·split at e'
   ·cases e'
    exact absurd hp (R.used _ (.inr ⟨j, e⟩))
   ·exact R.inj j j' q e e'
 ·unfold onW at h; split at h
  ·rename_i z; cases h; left; rw [List.length_set, z]; exact hi
  ·rw [List.length_set]
   rcases R.out j q h with z | z
   ·exact .inl z
   ·right; rw [us j q h]; exact z
 ·rw [List.length_set]
  by_cases hj : j = i
  ·subst hj
   rw [List.getElem?_set_self hi] at e1
   rw [List.getElem?_set_self (by rw [<- R.len]; exact hi)] at e2
   cases e1; cases e2
   exact r
  ·rw [List.getElem?_set_ne (fun z => hj z.symm)] at e1 e2
   have eo : onW ow i p j = ow j := by unfold onW; rw [if_neg hj]
   refine (R.slot j y o e1 e2).keep R.b0 R.same (R.same.trans hs) k eo (on_vx hi) (fun q h => us j q h) (fun _ q _ h => us _ q h) (fun q h => ?_)
   cases z : H q with
   | none => exact absurd z (R.lent q h).2
   | some o => exact hs _ _ z
theorem RepS.setO (R : RepS K G c H ow ps σ) {i : Nat} {x : Ow} {p : Addr} (hi : i < ps.length) (hs : Same H H') (hp : H p = none) (r : RepO K G H' (fun a => av c ow a \/ a = p) x p) :
  RepS K G c H' (onW ow i p) (ps.set i (.own x)) (σ.set i (some (.ref p))) := by
 have hav : ∀ a, av c (onW ow i p) a -> av c ow a \/ a = p := by
  intro a h
  rcases h with h | ⟨j, h⟩
  ·exact .inl (.inl h)
  ·unfold onW at h
   split at h
   ·cases h; exact .inr rfl
   ·exact .inl (.inr ⟨j, h⟩)
 have k2 : Kp K G H' (fun a => av c ow a \/ a = p) H' (av c (onW ow i p)) := Kp.weak hav
 obtain ⟨o, ho, _⟩ := r.at
 exact R.setN hi hs hp (by rw [ho]; simp) ⟨p, by unfold onW; rw [if_pos rfl], rfl, r.keep k2 rfl⟩
theorem RepS.chg (R : RepS K G c H ow ps σ) {i : Nat} {x y : Ow} {p : Addr} {u : HO} (e : ps[i]? = some (.own x)) (ep : ow i = some p) (r : RepO K G (upd H p u) (av c ow) y p) :
  RepS K G c (upd H p u) ow (ps.set i (.own y)) σ /\ Kp K G H (av c ow) (upd H p u) (av c ow) := by
 obtain ⟨p', e1, e2, r1⟩ := R.getO e
 rw [ep] at e1; cases e1
 obtain ⟨o, eo, m⟩ := r1.at
 have k : Kp K G H (av c ow) (upd H p u) (av c ow) := Kp.own (.inr ⟨i, ep⟩) eo m
 have sm : SmL c (upd H p u) := fun b o' h n => by
  rw [upd_ne (by intro z; subst z; rw [R.fresh i b ep] at h; cases h)]
  exact R.same _ _ h n
 have npl : ∀ q, c.lx = some q -> q ≠ p := fun q h z => by
  subst z
  exact absurd (R.fresh i q ep) (R.a0 q (R.lent q h).1)
 have us : ∀ j q, j ≠ i -> ow j = some q -> upd H p u q = H q := fun j q hj h => upd_ne (by intro z; subst z; exact hj (R.inj j i q h ep))
 have hl : i < ps.length := (List.getElem?_eq_some_iff.mp e).1
 refine ⟨⟨by simp [R.len], sm, fun q h => ⟨(R.lent q h).1, by rw [upd_ne (npl q h)]; exact (R.lent q h).2⟩, R.a0, R.b0, R.fresh, R.inj, fun j q h => ?_, fun j z o' h1 h2 => ?_⟩, k⟩
 ·rw [List.length_set]
  by_cases hj : j = i
  ·left; rw [hj]; exact hl
  ·rcases R.out j q h with z | z
   ·exact .inl z
   ·right; rw [us j q hj h]; exact z
 ·rw [List.length_set]
  by_cases hj : j = i
  ·subst hj
   rw [List.getElem?_set_self hl] at h1
   cases h1
   rw [e2] at h2; cases h2
   exact ⟨p, ep, rfl, r⟩
  ·rw [List.getElem?_set_ne (fun z => hj z.symm)] at h1
   exact (R.slot j z o' h1 h2).keep R.b0 R.same sm k rfl (fun _ _ _ h => h) (fun q h => us j q hj h) (fun jj q _ h => us _ q (by unfold vx; omega) h) (fun q h => upd_ne (npl q h))
theorem RepS.frz (R : RepS K G c H ow ps σ) {i : Nat} {x : Ow} (e : ps[i]? = some (.own x)) : ∃ p, σ[i]? = some (some (.ref p)) /\ RepS K G c H (offW ps.length ow i) (ps.set i (.v x.pv)) σ /\ Rep K G H (av c (offW ps.length ow i)) x.pv (.ref p) /\ Kp K G H (av c ow) H (av c (offW ps.length ow i)) := by
 obtain ⟨p, e1, e2, r1⟩ := R.getO e
 have hl : i < ps.length := (List.getElem?_eq_some_iff.mp e).1
 have k : Kp K G H (av c ow) H (av c (offW ps.length ow i)) := Kp.weak av_off
 have np : ¬ av c (offW ps.length ow i) p := by
  rintro (h | ⟨j, h⟩)
  ·exact absurd (R.fresh i p e1) (R.a0 p h)
  ·unfold offW at h
   split at h
   ·cases h
   ·rename_i hj; exact hj ⟨R.inj j i p h e1, hl⟩
 have rp : Rep K G H (av c (offW ps.length ow i)) x.pv (.ref p) := (r1.keep k rfl).freeze np
 refine ⟨p, e2, ⟨by simp [R.len], R.same, R.lent, R.a0, R.b0, fun j p e => ?_, fun j j' p e e' => ?_, fun j q h => ?_, fun j z o h1 h2 => ?_⟩, rp, k⟩
 ·unfold offW at e; split at e
  ·cases e
  ·exact R.fresh j p e
 ·unfold offW at e e'
  split at e
  ·cases e
  ·split at e'
   ·cases e'
   ·exact R.inj j j' p e e'
 ·unfold offW at h; split at h
  ·cases h
  ·rw [List.length_set]; exact R.out j q h
 ·rw [List.length_set]
  by_cases hj : j = i
  ·subst hj
   rw [List.getElem?_set_self hl] at h1
   cases h1
   rw [e2] at h2; cases h2
   exact ⟨by unfold offW; rw [if_pos ⟨rfl, hl⟩], _, rfl, rp⟩
  ·rw [List.getElem?_set_ne (fun z => hj z.symm)] at h1
   have eo : offW ps.length ow i j = ow j := by unfold offW; rw [if_neg (fun z => hj z.1)]
   exact (R.slot j z o h1 h2).keep R.b0 R.same R.same k eo off_vx (fun _ _ => rfl) (fun _ _ _ _ => rfl) (fun _ _ => rfl)
theorem RepS.chgL (R : RepS K G c H ow ps σ) {s s' : Sl} {p : Addr} {o u : HO} (e : ps[0]? = some s) (hl : c.lx = some p) (hp : H p = some o) (m : Mt o) (r : ∀ v, σ[0]? = some v -> SlAt K G c ps.length (upd H p u) (av c ow) ow 0 s' v) :
  RepS K G c (upd H p u) ow (ps.set 0 s') σ /\ Kp K G H (av c ow) (upd H p u) (av c ow) := by
 have hA := (R.lent p hl).1
 have k : Kp K G H (av c ow) (upd H p u) (av c ow) := Kp.own (.inl hA) hp m
 have sm : SmL c (upd H p u) := fun b o' h n => by
  rw [upd_ne (by intro z; subst z; exact n hl)]
  exact R.same _ _ h n
 have us : ∀ j q, ow j = some q -> upd H p u q = H q := fun j q h => upd_ne (by intro z; subst z; exact absurd (R.fresh j q h) (R.a0 q hA))
 refine ⟨⟨by simp [R.len], sm, fun q h => ⟨(R.lent q h).1, ?_⟩, R.a0, R.b0, R.fresh, R.inj, fun j q h => ?_, fun j z o' h1 h2 => ?_⟩, k⟩
 ·rw [hl] at h; cases h; rw [upd_same]; simp
 ·rw [List.length_set]
  rcases R.out j q h with z | z
  ·exact .inl z
  ·right; rw [us j q h]; exact z
 ·rw [List.length_set]
  by_cases hj : j = 0
  ·subst hj
   have hlt : 0 < ps.length := (List.getElem?_eq_some_iff.mp e).1
   rw [List.getElem?_set_self hlt] at h1
   cases h1
   exact r o' h2
  ·rw [List.getElem?_set_ne (fun z => hj z.symm)] at h1
   have q := R.slot j z o' h1 h2
   cases z with
   | no => exact q
   | v w' => obtain ⟨z, v', e3, r'⟩ := q; exact ⟨z, v', e3, k.rep r'⟩
   | own y' => obtain ⟨p', e3, e4, r'⟩ := q; exact ⟨p', e3, e4, r'.keep k (us j p' e3)⟩
   | bor w => obtain ⟨z, v', e3, r'⟩ := q; exact ⟨z, v', e3, bor_keep R.b0 R.same sm k r'⟩
   | ino y => exact absurd q.2.1 hj
   | ini kk xs => exact absurd q.2.1 hj
   | dol ks xss =>
    obtain ⟨p', qs, e1, e2, hp', l1, l2, l3, h⟩ := q
    refine ⟨p', qs, e1, e2, by rw [us j p' e1]; exact hp', l1, l2, l3, fun jj q xs h1 h2 => ?_⟩
    obtain ⟨h3, h4⟩ := h jj q xs h1 h2
    exact ⟨h3, h4.keep k (us _ q h3)⟩
   | als d jj => exact q
end
end DN
end
section
namespace DN
open PySem PySem.Spec PyProof.Rows L2
abbrev DP := PSt -> Rx PV
abbrev DA := PSt -> Rx (List PV)
abbrev DT := PSt -> Rx Bool
abbrev DM := PSt -> Rx (PV × PSt)
abbrev DMA := PSt -> Rx (List PV × PSt)
def tPv (K : Fg) (G : Pg) (d : DP) : TE := fun σ H Q => ∃ (c : Fr) (ow : Ows) (ps : PSt) (w : PV), RepS K G c H ow ps σ /\ d ps = .ok w /\ ∀ v H', Same H H' -> Rep K G H' (av c ow) w v -> Q v H'
def tPb (K : Fg) (G : Pg) (d : DP) : TE := fun σ H Q => ∃ (c : Fr) (ow : Ows) (ps : PSt) (w : PV), RepS K G c H ow ps σ /\ d ps = .ok w /\ ∀ v H', Same H H' -> RepB K G H' (av c ow) w v -> Q v H'
def tPt (K : Fg) (G : Pg) (d : DT) : TT := fun σ H Q => ∃ (c : Fr) (ow : Ows) (ps : PSt) (b : Bool), RepS K G c H ow ps σ /\ d ps = .ok b /\ ∀ H', Same H H' -> Q b H'
def RepM (K : Fg) (G : Pg) (H : Hp) (A : Av) : List Bool -> List PV -> List V -> Prop
 | [], ws, vs => ws = [] /\ vs = []
 | m :: ms, ws, vs => ∃ w wr v vr, ws = w :: wr /\ vs = v :: vr /\ (if m = true then RepB K G H A w v else Rep K G H A w v) /\ RepM K G H A ms wr vr
def tPa (K : Fg) (G : Pg) (ms : List Bool) (d : DA) : TA := fun σ H Q => ∃ (c : Fr) (ow : Ows) (ps : PSt) (ws : List PV), RepS K G c H ow ps σ /\ d ps = .ok ws /\ ∀ vs H', Same H H' -> RepM K G H' (av c ow) ms ws vs -> Q vs H'
def tPn (K : Fg) (G : Pg) (d : DA) : TE := fun σ H Q => ∃ (c : Fr) (ow : Ows) (ps : PSt) (ws : List PV), RepS K G c H ow ps σ /\ d ps = .ok ws /\ ∀ p vs H', Same H H' -> H p = none -> H' p = some (.lst vs) -> Reps K G H' (fun a => av c ow a \/ a = p) ws vs -> Q (.ref p) H'
def tMv (K : Fg) (G : Pg) (d : DM) : TE := fun σ H Q => ∃ (c : Fr) (ow : Ows) (ps : PSt) (w : PV) (ps' : PSt), RepS K G c H ow ps σ /\ d ps = .ok (w, ps') /\
 ∀ v H' ow', RepS K G c H' ow' ps' σ -> Kp K G H (av c ow) H' (av c ow') -> Rep K G H' (av c ow') w v -> Q v H'
abbrev JP (X : Cx) (G : Pg) (e : Expr) (d : DP) : Prop := PE X e (tPv X.K G d)
abbrev JB (X : Cx) (G : Pg) (e : Expr) (d : DP) : Prop := PE X e (tPb X.K G d)
abbrev JT (X : Cx) (G : Pg) (e : Expr) (d : DT) : Prop := PT X e (tPt X.K G d)
abbrev JW (X : Cx) (G : Pg) (e : Expr) (d : DT) : Prop := PW X e (tPt X.K G d)
abbrev JA (X : Cx) (G : Pg) (ms : List Bool) (es : List Expr) (d : DA) : Prop := PA X es (tPa X.K G ms d)
abbrev JN (X : Cx) (G : Pg) (e : Expr) (d : DA) : Prop := PE X e (tPn X.K G d)
abbrev JM (X : Cx) (G : Pg) (e : Expr) (d : DM) : Prop := PE X e (tMv X.K G d)
theorem imp {X : Cx} {e : Expr} {t t' : TE} (h : PE X e t) (f : ∀ σ H Q, t' σ H Q -> t σ H Q) : PE X e t' := fun pins s σ H Q I q => h pins s σ H Q I (f σ H Q q)
theorem impT {X : Cx} {e : Expr} {t t' : TT} (h : PT X e t) (f : ∀ σ H Q, t' σ H Q -> t σ H Q) : PT X e t' := fun pins s σ H Q I q => h pins s σ H Q I (f σ H Q q)
theorem impW {X : Cx} {e : Expr} {t t' : TT} (h : PW X e t) (f : ∀ σ H Q, t' σ H Q -> t σ H Q) : PW X e t' := fun wh pins s σ H Q I q => h wh pins s σ H Q I (f σ H Q q)
theorem impA {X : Cx} {es : List Expr} {t t' : TA} (h : PA X es t) (f : ∀ σ H Q, t' σ H Q -> t σ H Q) : PA X es t' := fun pos pins s σ H Q I q => h pos pins s σ H Q I (f σ H Q q)
section
variable {K : Fg} {G : Pg} {H H' : Hp} {A A' : Av}
theorem RepB.same {w : PV} {v : V} (h : RepB K G H A w v) (s : Same H H') : RepB K G H' A w v := by
 rcases h with h | ⟨x, p, e1, e2, r⟩
 ·exact .inl (h.same s)
 ·obtain ⟨o, eo, _⟩ := r.at
  exact .inr ⟨x, p, e1, e2, r.keep (Kp.of_same s) (by rw [s _ _ eo, eo])⟩
theorem RepM.same : ∀ {ms : List Bool} {ws : List PV} {vs : List V}, RepM K G H A ms ws vs -> Same H H' -> RepM K G H' A ms ws vs
 | [], ws, vs, h, s => h
 | m :: ms, ws, vs, h, s => by
  obtain ⟨w, wr, v, vr, e1, e2, r, rr⟩ := h
  refine ⟨w, wr, v, vr, e1, e2, ?_, RepM.same rr s⟩
  cases m with
  | true => rw [if_pos rfl] at r ⊢; exact r.same s
  | false => rw [if_neg Bool.false_ne_true] at r ⊢; exact r.same s
theorem RepB.lst {xs : List PV} {v : V} (h : RepB K G H A (.lst xs) v) : ∃ a vs, v = .ref a /\ SqL K H a vs /\ Reps K G H A xs vs := by
 rcases h with ⟨a, vs, e, r, q⟩ | ⟨x, p, e1, e2, r⟩
 ·exact ⟨a, vs, e, r.sq, q⟩
 ·cases x with
  | lst ys => cases e1; obtain ⟨vs, q, r⟩ := r; exact ⟨p, vs, e2, SqL.of q, r⟩
  | dic ks ys => cases e1
  | dit ks ys => cases e1
  | obj k ys => cases e1
theorem RepB.tup {xs : List PV} {v : V} (h : RepB K G H A (.tup xs) v) : ∃ a vs, v = .ref a /\ SqT K H a vs /\ Reps K G H A xs vs := by
 rcases h with h | ⟨x, p, e1, e2, r⟩
 ·exact h
 ·cases x <;> cases e1
theorem RepB.int {i : Int} {v : V} (h : RepB K G H A (.int i) v) : v = .int i := by
 rcases h with h | ⟨x, p, e1, e2, r⟩
 ·exact h
 ·cases x <;> cases e1
theorem RepB.str {i : Str} {v : V} (h : RepB K G H A (.str i) v) : v = .str i := by
 rcases h with h | ⟨x, p, e1, e2, r⟩
 ·exact h
 ·cases x <;> cases e1
theorem RepB.bl {i : Bool} {v : V} (h : RepB K G H A (.bl i) v) : v = .bl i := by
 rcases h with h | ⟨x, p, e1, e2, r⟩
 ·exact h
 ·cases x <;> cases e1
theorem RepB.non {v : V} (h : RepB K G H A .non v) : v = .non := by
 rcases h with h | ⟨x, p, e1, e2, r⟩
 ·exact h
 ·cases x <;> cases e1
theorem RepB.obj {k : Nat} {xs : List PV} {v : V} (h : RepB K G H A (.obj k xs) v) : ∃ a dx vs, v = .ref a /\ H a = some (.ins (G.cA k) dx ((G.fN k).zip vs)) /\ (G.fN k).length = vs.length /\ Reps K G H A xs vs := by
 rcases h with ⟨a, dx, vs, e, q, l, n, r⟩ | ⟨x, p, e1, e2, r⟩
 ·exact ⟨a, dx, vs, e, q, l, r⟩
 ·cases x with
  | lst ys => cases e1
  | dic ks ys => cases e1
  | dit ks ys => cases e1
  | obj k' ys => cases e1; obtain ⟨dx, vs, q, l, r⟩ := r; exact ⟨p, dx, vs, e2, q, l, r⟩
theorem RepB.dic {ks : List Key} {xs : List PV} {v : V} (h : RepB K G H A (.dic ks xs) v) : ∃ a vs, v = .ref a /\ H a = some (.dK (ks.zip vs)) /\ ks.length = vs.length /\ Reps K G H A xs vs := by
 rcases h with ⟨a, vs, e, q, l, n, r⟩ | ⟨x, p, e1, e2, r⟩
 ·exact ⟨a, vs, e, q, l, r⟩
 ·cases x with
  | lst ys => cases e1
  | dic ks' ys => cases e1; obtain ⟨vs, q, l, r⟩ := r; exact ⟨p, vs, e2, q, l, r⟩
  | dit ks ys => cases e1
  | obj k ys => cases e1
theorem RepB.dit {ks : List (List Key)} {xs : List PV} {v : V} (h : RepB K G H A (.dit ks xs) v) : ∃ a vs, v = .ref a /\ H a = some (.dT (ks.zip vs)) /\ ks.length = vs.length /\ Reps K G H A xs vs := by
 rcases h with ⟨a, vs, e, q, l, n, r⟩ | ⟨x, p, e1, e2, r⟩
 ·exact ⟨a, vs, e, q, l, r⟩
 ·cases x with
  | lst ys => cases e1
  | dic ks ys => cases e1
  | dit ks' ys => cases e1; obtain ⟨vs, q, l, r⟩ := r; exact ⟨p, vs, e2, q, l, r⟩
  | obj k ys => cases e1
theorem RepB.clo {f : Nat} {xs : List PV} {v : V} (h : RepB K G H A (.clo f xs) v) : Rep K G H A (.clo f xs) v := by
 rcases h with h | ⟨x, p, e1, e2, r⟩
 ·exact h
 ·cases x <;> cases e1
theorem RepM.reps : ∀ {ws : List PV} {vs : List V} {n : Nat}, RepM K G H A (List.replicate n false) ws vs -> Reps K G H A ws vs
 | ws, vs, 0, h => by obtain ⟨rfl, rfl⟩ := h; rfl
 | ws, vs, n + 1, h => by
  obtain ⟨w, wr, v, vr, rfl, rfl, r, rr⟩ := h
  rw [if_neg Bool.false_ne_true] at r
  exact ⟨v, vr, rfl, r, RepM.reps rr⟩
theorem RepM.len : ∀ {ms : List Bool} {ws : List PV} {vs : List V}, RepM K G H A ms ws vs -> ws.length = ms.length /\ vs.length = ms.length
 | [], ws, vs, h => by obtain ⟨rfl, rfl⟩ := h; exact ⟨rfl, rfl⟩
 | m :: ms, ws, vs, h => by
  obtain ⟨w, wr, v, vr, rfl, rfl, r, rr⟩ := h
  have := RepM.len rr
  simp [this]
theorem RepM.weak : ∀ {ms : List Bool} {ws : List PV} {vs : List V}, Reps K G H A ws vs -> ws.length = ms.length -> RepM K G H A ms ws vs
 | [], [], vs, h, _ => ⟨rfl, h⟩
 | [], _ :: _, vs, h, l => by simp at l
 | m :: ms, [], vs, h, l => by simp at l
 | m :: ms, w :: ws, vs, h, l => by
  obtain ⟨v, r, e, h1, h2⟩ := h
  refine ⟨w, ws, v, r, rfl, e, ?_, RepM.weak h2 (by simpa using l)⟩
  cases m with
  | true => rw [if_pos rfl]; exact .inl h1
  | false => rw [if_neg Bool.false_ne_true]; exact h1
end
section
variable {X : Cx} {G : Pg} {e a b : Expr} {da db : DP} {pos : Pos}
theorem b_of (h : JP X G e da) : JB X G e da := imp h fun σ H Q ⟨c, ow, ps, w, R, e, q⟩ => ⟨c, ow, ps, w, R, e, fun v H' s r => q v H' s (.inl r)⟩
def dOfN (d : DA) : DP := fun ps => (d ps).bind fun ws => .ok (.lst ws)
theorem p_of_n {d : DA} (h : JN X G e d) : JP X G e (dOfN d) := imp h fun σ H Q ⟨c, ow, ps, w, R, e, q⟩ => by
 obtain ⟨ws, e1, e2⟩ := bind_ok e
 cases e2
 refine ⟨c, ow, ps, ws, R, e1, fun p vs H' s hp hv r => q (.ref p) H' s ⟨p, vs, rfl, .inl ⟨hv, fun z => R.used p z hp⟩, (Kp.weak fun a z => Or.inl z).reps r⟩⟩
def dLift (d : DP) : DM := fun ps => (d ps).bind fun w => .ok (w, ps)
def dVar (i : Nat) : DP := fun ps => match ps[i]? with | some (.v w) => .ok w | _ => .bad
def dSee (i : Nat) : DP := fun ps => match ps[i]? with | some (.v w) => .ok w | some (.own x) => .ok x.pv | some (.bor w) => .ok w | _ => .bad
theorem p_var (i : Nat) {x : Str} {pos : Pos} (hN : X.N[i]? = some x := by rfl) (hv : Vis X.env.scope x := by first | exact Or.inl rfl | exact Or.inr (Or.inl rfl) | exact Or.inr (Or.inr rfl)) (hd : (x == ("__debug__" : Str)) = false := by decide)
  (hcd : (x == ("__classdict__" : Str)) = false := by decide) : JP X G (.Name x pos) (dVar i) := imp (pe_var hN hv hd hcd) fun σ H Q ⟨c, ow, ps, w, R, e, q⟩ => by
 unfold dVar at e
 split at e
 ·rename_i w' h
  cases e
  obtain ⟨v, ev, r⟩ := R.getV h
  exact ⟨v, ev, q v H (Same.refl H) r⟩
 ·cases e
theorem b_var (i : Nat) {x : Str} {pos : Pos} (hN : X.N[i]? = some x := by rfl) (hv : Vis X.env.scope x := by first | exact Or.inl rfl | exact Or.inr (Or.inl rfl) | exact Or.inr (Or.inr rfl)) (hd : (x == ("__debug__" : Str)) = false := by decide)
  (hcd : (x == ("__classdict__" : Str)) = false := by decide) : JB X G (.Name x pos) (dSee i) := imp (pe_var hN hv hd hcd) fun σ H Q ⟨c, ow, ps, w, R, e, q⟩ => by
 unfold dSee at e
 split at e
 ·rename_i w' h
  cases e
  obtain ⟨v, ev, r⟩ := R.getV h
  exact ⟨v, ev, q v H (Same.refl H) (.inl r)⟩
 ·rename_i x' h
  cases e
  obtain ⟨p, e1, e2, r⟩ := R.getO h
  exact ⟨_, e2, q _ H (Same.refl H) (.inr ⟨x', p, rfl, rfl, r⟩)⟩
 ·rename_i w' h
  cases e
  obtain ⟨o, eo, _, v, rfl, r⟩ := R.get h
  refine ⟨v, eo, q v H (Same.refl H) ?_⟩
  rcases r with r | ⟨x, p, e1, e2, r, _⟩
  ·exact .inl r
  ·exact .inr ⟨x, p, e1, e2, r⟩
 ·cases e
def dC (w : PV) : DP := fun _ => .ok w
theorem p_con {t : V} {w : PV} (h : PE X e (tC t)) (hr : ∀ H A, Rep X.K G H A w t) : JP X G e (dC w) := imp h fun σ H Q ⟨c, ow, ps, w, R, e, q⟩ => by
 cases e
 exact q _ H (Same.refl H) (hr _ _)
theorem p_int {i j pos} : JP X G (.Constant (.int i) j pos) (dC (.int i)) := p_con pe_int fun _ _ => rfl
theorem p_bl {i j pos} : JP X G (.Constant (.bool i) j pos) (dC (.bl i)) := p_con pe_bl fun _ _ => rfl
theorem p_str {i j pos} : JP X G (.Constant (.str i) j pos) (dC (.str i)) := p_con pe_str fun _ _ => rfl
theorem p_topT {x : Str} {t : Addr} {ws : List PV} {vs : List V} {pos : Pos} (T : TopT X.K t vs) (hg : Gl X x) (hm : X.mg x = some (.ref t)) (hr : ∀ H A, Reps X.K G H A ws vs) (hd : (x == ("__debug__" : Str)) = false := by decide) : JP X G (.Name x pos) (dC (.tup ws)) :=
 p_con (pe_globR hg hm hd) fun H A => ⟨t, vs, rfl, T.sq H, hr H A⟩
theorem p_topI {x : Str} {i : Int} {tk : Tok} {pos : Pos} (hg : Gl X x) (hm : X.mg x = some (.int i tk)) (hd : (x == ("__debug__" : Str)) = false := by decide) : JP X G (.Name x pos) (dC (.int i)) := p_con (pe_globI hg hm hd) fun _ _ => rfl
def d2 (f : PV -> PV -> Rx PV) (a b : DP) : DP := fun ps => (a ps).bind fun x => (b ps).bind fun y => f x y
abbrev Used (H : Hp) (A : Av) : Prop := ∀ a, A a -> H a ≠ none
def Op2 (K : Fg) (G : Pg) (f : PV -> PV -> Rx PV) (r : R2) : Prop := ∀ (H : Hp) (A : Av) (x y w : PV) (v u : V) (Q : VK), Used H A -> f x y = .ok w -> RepB K G H A x v -> RepB K G H A y u -> (∀ z H', Same H H' -> Rep K G H' A w z -> Q z H') -> r v u H Q
theorem bin2 {K : Fg} {f : PV -> PV -> Rx PV} {r : R2} (hf : Op2 K G f r) {σ : L2.St} {H : Hp} {Q : VK} (h : tPv K G (d2 f da db) σ H Q) : tOp r (tPb K G da) (tPb K G db) σ H Q := by
 obtain ⟨c, ow, ps, w, R, e, q⟩ := h
 obtain ⟨x, e1, e⟩ := bind_ok e
 obtain ⟨y, e2, e⟩ := bind_ok e
 exact ⟨c, ow, ps, x, R, e1, fun v H1 s1 r1 => ⟨c, ow, ps, y, R.grow s1, e2, fun u H2 s2 r2 => hf H2 _ x y w v u Q ((R.grow s1).grow s2).used e (r1.same s2) r2 fun z H3 s3 r3 => q z H3 ((s1.trans s2).trans s3) r3⟩⟩
theorem p_op {op : Operator} {r : R2} {f : PV -> PV -> Rx PV} (ho : OpR X (binaryOp op) r) (hf : Op2 X.K G f r) (ha : JB X G a da) (hb : JB X G b db) : JP X G (.BinOp a op b pos) (d2 f da db) := imp (pe_op ho ha hb) fun _ _ _ => bin2 hf
theorem p_cmp {op : CmpOp} {r : R2} {f : PV -> PV -> Rx PV} (ho : OpR X (compareOp op) r) (hf : Op2 X.K G f r) (ha : JB X G a da) (hb : JB X G b db) (hm : behindInMarks op b = false) : JP X G (.Compare a [op] [b] pos) (d2 f da db) := imp (pe_cmpR ho ha hb hm) fun _ _ _ => bin2 hf
def dTr (d : DP) : DT := fun ps => (d ps).bind fun x => match x with | .bl b => .ok b | _ => .bad
theorem t_cmp {op : CmpOp} {r : R2} {f : PV -> PV -> Rx PV} (ho : OpR X (compareOp op) r) (hf : Op2 X.K G f r) (ha : JB X G a da) (hb : JB X G b db) (hm : behindInMarks op b = false) : JT X G (.Compare a [op] [b] pos) (dTr (d2 f da db)) :=
 impT (pt_cmpR ho ha hb hm) fun σ H Q ⟨c, ow, ps, b, R, e, q⟩ => by
  obtain ⟨x, e1, e2⟩ := bind_ok e
  have : x = .bl b := by
   cases x <;> first | (cases e2; rfl) | cases e2
  subst this
  exact bin2 hf ⟨c, ow, ps, _, R, e1, fun v H' s r => ⟨b, r, q H' s⟩⟩
theorem p_ix {f : PV -> PV -> Rx PV} (hf : Op2 X.K G f (rIx X.K)) (ha : JB X G a da) (hb : JB X G b db) (hs : PlainIx b) : JP X G (.Subscript a b pos) (d2 f da db) := imp (pe_ix ix_seq ha hb hs) fun _ _ _ => bin2 hf
def fI (g : Int -> Int -> PV) : PV -> PV -> Rx PV
 | .int i, .int j => .ok (g i j)
 | _, _ => .bad
def fIc (C : Int -> Int -> Prop) [∀ i j, Decidable (C i j)] (g : Int -> Int -> PV) : PV -> PV -> Rx PV
 | .int i, .int j => if C i j then .ok (g i j) else .bad
 | _, _ => .bad
def flat : PV -> V
 | .non => .non | .bl b => .bl b | .int i => .int i | .str x => .str x | _ => .ref 0
theorem o2_I {K : Fg} {g : Int -> Int -> PV} {g' : Int -> Int -> V} (h : ∀ i j H A, Rep K G H A (g i j) (g' i j)) : Op2 K G (fI g) (rI0 g') := by
 intro H A x y w v u Q hu e r1 r2 q
 cases x <;> try cases e
 cases y <;> try cases e
 exact ⟨_, _, r1.int, r2.int, q _ H (Same.refl H) (h _ _ _ _)⟩
theorem o2_Ic {K : Fg} {C : Int -> Int -> Prop} [∀ i j, Decidable (C i j)] {C' : Int -> Int -> Prop} {g : Int -> Int -> PV} {g' : Int -> Int -> V} (hc : ∀ i j, C i j -> C' i j) (h : ∀ i j H A, Rep K G H A (g i j) (g' i j)) : Op2 K G (fIc C g) (rI C' g') := by
 intro H A x y w v u Q hu e r1 r2 q
 cases x <;> try cases e
 cases y <;> try cases e
 rename_i i j
 have e : (if C i j then Rx.ok (g i j) else .bad) = .ok w := e
 split at e
 ·rename_i hC
  cases e
  exact ⟨_, _, r1.int, r2.int, hc _ _ hC, q _ H (Same.refl H) (h _ _ _ _)⟩
 ·cases e
abbrev fAdd := fI fun i j => .int (i + j)
abbrev fSub := fI fun i j => .int (i - j)
abbrev fLt := fI fun i j => .bl (decide (i < j))
abbrev fAnd := fI fun i j => .int (Builtin.bitAnd i j)
abbrev fOr := fI fun i j => .int (Builtin.bitOr i j)
abbrev fXor := fI fun i j => .int (Builtin.bitXor i j)
abbrev fMul := fIc (fun i j => (-(2 ^ 64) < i /\ i < 2 ^ 64) \/ (-(2 ^ 64) < j /\ j < 2 ^ 64)) fun i j => .int (i * j)
abbrev fMod := fIc (fun _ j => 0 < j) fun i j => .int (i % j)
abbrev fDiv := fIc (fun _ j => 0 < j /\ j < 1073741824) fun i j => .int (i / j)
abbrev fShl := fIc (fun i j => 0 <= j /\ j <= 1000000 /\ i.natAbs < 2 ^ 64) fun i j => .int (i * 2 ^ j.toNat)
abbrev fShr := fIc (fun _ j => 0 <= j) fun i j => .int (i / 2 ^ j.toNat)
abbrev fPow := fIc (fun i j => 0 <= j /\ j <= 1000000 /\ i.natAbs < 2 ^ 64) fun i j => .int (i ^ j.toNat)
theorem p_add (ha : JB X G a da) (hb : JB X G b db) : JP X G (.BinOp a .Add b pos) (d2 fAdd da db) := p_op op_add (o2_I fun _ _ _ _ => rfl) ha hb
theorem p_sub (ha : JB X G a da) (hb : JB X G b db) : JP X G (.BinOp a .Sub b pos) (d2 fSub da db) := p_op op_sub (o2_I fun _ _ _ _ => rfl) ha hb
theorem p_and (ha : JB X G a da) (hb : JB X G b db) : JP X G (.BinOp a .BitAnd b pos) (d2 fAnd da db) := p_op op_and (o2_I fun _ _ _ _ => rfl) ha hb
theorem p_or (ha : JB X G a da) (hb : JB X G b db) : JP X G (.BinOp a .BitOr b pos) (d2 fOr da db) := p_op op_or (o2_I fun _ _ _ _ => rfl) ha hb
theorem p_xor (ha : JB X G a da) (hb : JB X G b db) : JP X G (.BinOp a .BitXor b pos) (d2 fXor da db) := p_op op_xor (o2_I fun _ _ _ _ => rfl) ha hb
theorem p_mul (ha : JB X G a da) (hb : JB X G b db) : JP X G (.BinOp a .Mult b pos) (d2 fMul da db) := p_op op_mul (o2_Ic (fun _ _ h => h) fun _ _ _ _ => rfl) ha hb
theorem p_mod (ha : JB X G a da) (hb : JB X G b db) : JP X G (.BinOp a .Mod b pos) (d2 fMod da db) := p_op op_mod (o2_Ic (fun _ _ h => h) fun _ _ _ _ => rfl) ha hb
theorem p_div (ha : JB X G a da) (hb : JB X G b db) : JP X G (.BinOp a .FloorDiv b pos) (d2 fDiv da db) := p_op op_fdiv (o2_Ic (fun _ _ h => h) fun _ _ _ _ => rfl) ha hb
theorem p_shl (ha : JB X G a da) (hb : JB X G b db) : JP X G (.BinOp a .LShift b pos) (d2 fShl da db) := p_op op_shl (o2_Ic (fun _ _ h => h) fun _ _ _ _ => rfl) ha hb
theorem p_shr (ha : JB X G a da) (hb : JB X G b db) : JP X G (.BinOp a .RShift b pos) (d2 fShr da db) := p_op op_shr (o2_Ic (fun _ _ h => h) fun _ _ _ _ => rfl) ha hb
theorem p_pow (ha : JB X G a da) (hb : JB X G b db) : JP X G (.BinOp a .Pow b pos) (d2 fPow da db) := p_op op_pow (o2_Ic (fun _ _ h => h) fun _ _ _ _ => rfl) ha hb
theorem t_lt (ha : JB X G a da) (hb : JB X G b db) : JT X G (.Compare a [.Lt] [b] pos) (dTr (d2 fLt da db)) := t_cmp op_lt (o2_I fun _ _ _ _ => rfl) ha hb (nomark _)
def isN : PV -> Bool
 | .non => true
 | _ => false
def dIsN (d : DP) : DP := fun ps => (d ps).bind fun x => .ok (.bl (isN x))
def dNotN (d : DP) : DP := fun ps => (d ps).bind fun x => .ok (.bl (!isN x))
theorem t_val {d : DP} (h : JP X G e d) (he : ∀ whole, isTrue e X.env whole = (do let v <- whole; standAt e.pos; holding [v] (truthy v)) := by intro _; rfl) : JT X G e (dTr d) := impT (pt_val h he) fun σ H Q ⟨c, ow, ps, b, R, e, q⟩ => by
 obtain ⟨x, e1, e2⟩ := bind_ok e
 have : x = .bl b := by
  cases x <;> first | (cases e2; rfl) | cases e2
 subst this
 exact ⟨c, ow, ps, _, R, e1, fun v H' s r => ⟨b, r, q H' s⟩⟩
def dAndT (a b : DT) : DT := fun ps => (a ps).bind fun x => if x = true then b ps else .ok false
def dOrT (a b : DT) : DT := fun ps => (a ps).bind fun x => if x = true then .ok true else b ps
def dNotT (a : DT) : DT := fun ps => (a ps).bind fun x => .ok (!x)
theorem and_t {K : Fg} {ta tb : DT} {σ : L2.St} {H : Hp} {Q : Bool -> Hp -> Prop} (h : tPt K G (dAndT ta tb) σ H Q) : tAnd (tPt K G ta) (tPt K G tb) σ H Q := by
 obtain ⟨c, ow, ps, b, R, e, q⟩ := h
 obtain ⟨x, e1, e2⟩ := bind_ok e
 refine ⟨c, ow, ps, x, R, e1, fun H' s => ?_⟩
 split at e2
 ·rename_i hx; subst hx
  exact iteT ⟨c, ow, ps, b, R.grow s, e2, fun H2 s2 => q H2 (s.trans s2)⟩
 ·rename_i hx
  cases e2
  have : x = false := by simpa using hx
  subst this
  exact iteF (q H' s)
theorem or_t {K : Fg} {ta tb : DT} {σ : L2.St} {H : Hp} {Q : Bool -> Hp -> Prop} (h : tPt K G (dOrT ta tb) σ H Q) : tOr (tPt K G ta) (tPt K G tb) σ H Q := by
 obtain ⟨c, ow, ps, b, R, e, q⟩ := h
 obtain ⟨x, e1, e2⟩ := bind_ok e
 refine ⟨c, ow, ps, x, R, e1, fun H' s => ?_⟩
 split at e2
 ·rename_i hx; subst hx
  cases e2
  exact iteT (q H' s)
 ·rename_i hx
  have : x = false := by simpa using hx
  subst this
  exact iteF ⟨c, ow, ps, b, R.grow s, e2, fun H2 s2 => q H2 (s.trans s2)⟩
section
variable {ta tb : DT} {rest : List Expr}
theorem w_and1 (ha : JT X G a ta) : JW X G (.BoolOp .And [a] pos) ta := pw_and1 ha
theorem w_or1 (ha : JT X G a ta) : JW X G (.BoolOp .Or [a] pos) ta := pw_or1 ha
theorem w_and (ha : JT X G a ta) (hb : JW X G (.BoolOp .And (b :: rest) pos) tb) : JW X G (.BoolOp .And (a :: b :: rest) pos) (dAndT ta tb) := impW (pw_and ha hb) fun _ _ _ => and_t
theorem w_or (ha : JT X G a ta) (hb : JW X G (.BoolOp .Or (b :: rest) pos) tb) : JW X G (.BoolOp .Or (a :: b :: rest) pos) (dOrT ta tb) := impW (pw_or ha hb) fun _ _ _ => or_t
theorem t_w (h : JW X G e ta) : JT X G e ta := PW.pt h
theorem t_not (ha : JT X G a ta) : JT X G (.UnaryOp .Not a pos) (dNotT ta) := impT (pt_not ha) fun σ H Q ⟨c, ow, ps, b, R, e, q⟩ => by
 obtain ⟨x, e1, e2⟩ := bind_ok e
 cases e2
 exact ⟨c, ow, ps, x, R, e1, fun H' s => q H' s⟩
end
def dAndV (a b : DP) : DP := fun ps => (a ps).bind fun x => match x with | .bl true => b ps | .bl false => .ok (.bl false) | _ => .bad
def dOrV (a b : DP) : DP := fun ps => (a ps).bind fun x => match x with | .bl true => .ok (.bl true) | .bl false => b ps | _ => .bad
def dNotV (a : DP) : DP := fun ps => (a ps).bind fun x => match x with | .bl k => .ok (.bl (!k)) | _ => .bad
section
variable {rest : List Expr}
theorem p_one {op} (h : JP X G a da) : JP X G (.BoolOp op [a] pos) da := pe_one h
theorem p_andV (ha : JP X G a da) (hb : JP X G (.BoolOp .And (b :: rest) pos) db) : JP X G (.BoolOp .And (a :: b :: rest) pos) (dAndV da db) := imp (pe_and ha hb) fun σ H Q ⟨c, ow, ps, w, R, e, q⟩ => by
 obtain ⟨x, e1, e2⟩ := bind_ok e
 refine ⟨c, ow, ps, x, R, e1, fun v H' s r => ?_⟩
 split at e2
 ·exact ⟨true, r, iteT ⟨c, ow, ps, w, R.grow s, e2, fun v2 H2 s2 r2 => q v2 H2 (s.trans s2) r2⟩⟩
 ·cases e2; exact ⟨false, r, iteF (q _ H' s rfl)⟩
 ·cases e2
theorem p_orV (ha : JP X G a da) (hb : JP X G (.BoolOp .Or (b :: rest) pos) db) : JP X G (.BoolOp .Or (a :: b :: rest) pos) (dOrV da db) := imp (pe_or ha hb) fun σ H Q ⟨c, ow, ps, w, R, e, q⟩ => by
 obtain ⟨x, e1, e2⟩ := bind_ok e
 refine ⟨c, ow, ps, x, R, e1, fun v H' s r => ?_⟩
 split at e2
 ·cases e2; exact ⟨true, r, iteT (q _ H' s rfl)⟩
 ·exact ⟨false, r, iteF ⟨c, ow, ps, w, R.grow s, e2, fun v2 H2 s2 r2 => q v2 H2 (s.trans s2) r2⟩⟩
 ·cases e2
theorem p_notV (ha : JP X G a da) : JP X G (.UnaryOp .Not a pos) (dNotV da) := imp (pe_not ha) fun σ H Q ⟨c, ow, ps, w, R, e, q⟩ => by
 obtain ⟨x, e1, e2⟩ := bind_ok e
 refine ⟨c, ow, ps, x, R, e1, fun v H' s r => ?_⟩
 split at e2
 ·cases e2; exact ⟨_, r, q _ H' s rfl⟩
 ·cases e2
def dNeg (d : DP) : DP := fun ps => (d ps).bind fun x => match x with | .int i => .ok (.int (-i)) | _ => .bad
def dIfV (t : DT) (a b : DP) : DP := fun ps => (t ps).bind fun x => if x = true then a ps else b ps
theorem p_ifV {t : Expr} {dt : DT} (ht : JT X G t dt) (ha : JP X G a da) (hb : JP X G b db) : JP X G (.IfExp t a b pos) (dIfV dt da db) := imp (pe_ifExp ht ha hb) fun σ H Q ⟨c, ow, ps, w, R, e, q⟩ => by
 obtain ⟨x, e1, e2⟩ := bind_ok e
 refine ⟨c, ow, ps, x, R, e1, fun H' s => ?_⟩
 split at e2
 ·rename_i hx; subst hx; exact iteT ⟨c, ow, ps, w, R.grow s, e2, fun v2 H2 s2 r2 => q v2 H2 (s.trans s2) r2⟩
 ·rename_i hx
  have : x = false := by simpa using hx
  subst this
  exact iteF ⟨c, ow, ps, w, R.grow s, e2, fun v2 H2 s2 r2 => q v2 H2 (s.trans s2) r2⟩
end
end
end DN
end
section
namespace DN
open PySem PySem.Spec PyProof.Rows L2
section
variable {X : Cx} {G : Pg} {e a b : Expr} {es : List Expr} {da db : DP} {pos : Pos}
def fIx : PV -> PV -> Rx PV
 | .lst xs, .int i => match atI xs i with | some w => .ok w | none => .bad
 | .tup xs, .int i => match atI xs i with | some w => .ok w | none => .bad
 | .str z, .int i => if z.length <= sizeLine then (match atI z.cps.toList i with | some c => .ok (.str ⟨#[c]⟩) | none => .bad) else .bad
 | _, _ => .bad
theorem atI_rep {K : Fg} {H : Hp} {A : Av} {xs : List PV} {vs : List V} {i : Int} {w : PV} (r : Reps K G H A xs vs) (e : atI xs i = some w) : ∃ v, atI vs i = some v /\ Rep K G H A w v := by
 unfold atI at e ⊢
 rw [<- r.len]
 cases q : ixN xs.length i with
 | none => rw [q] at e; cases e
 | some j =>
  rw [q] at e
  exact r.get e
theorem o2_ix {K : Fg} : Op2 K G fIx (rIx K) := by
 intro H A x y w v u Q hu e r1 r2 q
 cases x <;> try cases e
 ·cases y <;> try cases e
  rename_i z i
  have e : (if z.length <= sizeLine then (match atI z.cps.toList i with | some c => Rx.ok (PV.str ⟨#[c]⟩) | none => .bad) else .bad) = .ok w := e
  split at e
  ·rename_i hz
   split at e
   ·rename_i c hc
    cases e
    exact .inr (.inr ⟨z, i, c, r1.str, r2.int, hz, hc, q _ H (Same.refl H) rfl⟩)
   ·cases e
  ·cases e
 ·cases y <;> try cases e
  rename_i xs i
  have e : (match atI xs i with | some w => Rx.ok w | none => .bad) = .ok w := e
  split at e
  ·rename_i w' hw
   cases e
   obtain ⟨p, vs, ev, sq, rs⟩ := r1.tup
   obtain ⟨v', e1, r'⟩ := atI_rep rs hw
   exact .inr (.inl ⟨p, vs, i, v', ev, r2.int, sq, e1, q _ H (Same.refl H) r'⟩)
  ·cases e
 ·cases y <;> try cases e
  rename_i xs i
  have e : (match atI xs i with | some w => Rx.ok w | none => .bad) = .ok w := e
  split at e
  ·rename_i w' hw
   cases e
   obtain ⟨p, vs, ev, sq, rs⟩ := r1.lst
   obtain ⟨v', e1, r'⟩ := atI_rep rs hw
   exact .inl ⟨p, vs, i, v', ev, r2.int, sq, e1, q _ H (Same.refl H) r'⟩
  ·cases e
theorem p_at (ha : JB X G a da) (hb : JB X G b db) (hs : PlainIx b) : JP X G (.Subscript a b pos) (d2 fIx da db) := p_ix o2_ix ha hb hs
def dNil : DA := fun _ => .ok []
def dCons (a : DP) (r : DA) : DA := fun ps => (a ps).bind fun x => (r ps).bind fun xs => .ok (x :: xs)
theorem a_nil : JA X G [] [] dNil := impA pa_nil fun σ H Q ⟨c, ow, ps, ws, R, e, q⟩ => by
 cases e
 exact q [] H (Same.refl H) ⟨rfl, rfl⟩
theorem a_cons {ms : List Bool} {d : DA} (ha : JP X G e da) (hr : JA X G ms es d) (hs : starEach (e :: es) X.env = (false, eval e X.env) :: starEach es X.env := by rfl) : JA X G (false :: ms) (e :: es) (dCons da d) :=
 impA (pa_cons ha hr hs) fun σ H Q ⟨c, ow, ps, ws, R, e, q⟩ => by
  obtain ⟨x, e1, e⟩ := bind_ok e
  obtain ⟨xs, e2, e⟩ := bind_ok e
  cases e
  exact ⟨c, ow, ps, x, R, e1, fun v H1 s1 r1 => ⟨c, ow, ps, xs, R.grow s1, e2, fun vs H2 s2 r2 => q (v :: vs) H2 (s1.trans s2) ⟨x, xs, v, vs, rfl, rfl, by rw [if_neg Bool.false_ne_true]; exact r1.same s2, r2⟩⟩⟩
theorem a_consB {ms : List Bool} {d : DA} (ha : JB X G e da) (hr : JA X G ms es d) (hs : starEach (e :: es) X.env = (false, eval e X.env) :: starEach es X.env := by rfl) : JA X G (true :: ms) (e :: es) (dCons da d) :=
 impA (pa_cons ha hr hs) fun σ H Q ⟨c, ow, ps, ws, R, e, q⟩ => by
  obtain ⟨x, e1, e⟩ := bind_ok e
  obtain ⟨xs, e2, e⟩ := bind_ok e
  cases e
  exact ⟨c, ow, ps, x, R, e1, fun v H1 s1 r1 => ⟨c, ow, ps, xs, R.grow s1, e2, fun vs H2 s2 r2 => q (v :: vs) H2 (s1.trans s2) ⟨x, xs, v, vs, rfl, rfl, by rw [if_pos rfl]; exact r1.same s2, r2⟩⟩⟩
theorem RepM.reps' {K : Fg} {H : Hp} {A : Av} : ∀ {ms : List Bool} {ws : List PV} {vs : List V}, RepM K G H A ms ws vs -> ms.all (! ·) = true -> Reps K G H A ws vs
 | [], ws, vs, h, _ => by obtain ⟨rfl, rfl⟩ := h; rfl
 | m :: ms, ws, vs, h, hm => by
  obtain ⟨w, wr, v, vr, rfl, rfl, r, rr⟩ := h
  rw [List.all_cons, Bool.and_eq_true] at hm
  have : m = false := by simpa using hm.1
  subst this
  rw [if_neg Bool.false_ne_true] at r
  exact ⟨v, vr, rfl, r, RepM.reps' rr hm.2⟩
def dTup (d : DA) : DP := fun ps => (d ps).bind fun ws => .ok (.tup ws)
theorem p_tup {ms : List Bool} {d : DA} {x1} (h : JA X G ms es d) (hm : ms.all (! ·) = true := by rfl) (hl : ms.length <= 1000 := by decide) : JP X G (.Tuple es x1 pos) (dTup d) := imp (pe_tup h) fun σ H Q ⟨c, ow, ps, w, R, e, q⟩ => by
 obtain ⟨ws, e1, e⟩ := bind_ok e
 cases e
 refine ⟨c, ow, ps, ws, R, e1, fun vs H1 s1 r1 => ⟨?_, fun p hp => ?_⟩⟩
 ·rw [r1.len.2]; exact Nat.le_of_lt (small1000 hl)
 ·exact q _ _ (s1.trans (same_upd hp _)) ⟨p, vs, rfl, SqT.of upd_same, (r1.reps' hm).same (same_upd hp _)⟩
theorem n_lst {ms : List Bool} {d : DA} (h : JA X G ms es d) (hm : ms.all (! ·) = true := by rfl) (hl : ms.length <= 1000 := by decide) : JN X G (.List es pos) d := imp (pe_lst h) fun σ H Q ⟨c, ow, ps, ws, R, e, q⟩ => by
 refine ⟨c, ow, ps, ws, R, e, fun vs H1 s1 r1 => ⟨?_, fun p hp => ?_⟩⟩
 ·rw [r1.len.2]; exact Nat.le_of_lt (small1000 hl)
 ·exact q p vs _ (s1.trans (same_upd hp _)) (s1.free hp) upd_same ((Kp.take hp (same_upd hp _) fun a z => z.symm).reps (r1.reps' hm))
def dCatL (a b : DP) : DA := fun ps => (a ps).bind fun x => (b ps).bind fun y => match x, y with | .lst xs, .lst ys => if xs.length + ys.length <= sizeLine then .ok (xs ++ ys) else .bad | _, _ => .bad
def tPo (K : Fg) (G : Pg) (d : PSt -> Rx (Option Int)) : TO := fun σ H Q => ∃ (c : Fr) (ow : Ows) (ps : PSt) (o : Option Int), RepS K G c H ow ps σ /\ d ps = .ok o /\ ∀ H', Same H H' -> Q o H'
abbrev JO (X : Cx) (G : Pg) (e : Option Expr) (d : PSt -> Rx (Option Int)) : Prop := PO X e (tPo X.K G d)
def dO0 : PSt -> Rx (Option Int) := fun _ => .ok none
def dO1 (d : DP) : PSt -> Rx (Option Int) := fun ps => (d ps).bind fun x => match x with | .int i => .ok (some i) | _ => .bad
theorem o_some (h : JP X G e da) : JO X G (some e) (dO1 da) := fun pins s σ H Q I hq => po_some h pins s σ H Q I (by
 obtain ⟨c, ow, ps, o, R, e, q⟩ := hq
 obtain ⟨x, e1, e2⟩ := bind_ok e
 refine ⟨c, ow, ps, x, R, e1, fun v H' s r => ?_⟩
 split at e2
 ·cases e2; exact ⟨_, r, q H' s⟩
 ·cases e2)
def cutP (xs : List PV) (lo hi : Option Int) : List PV := (xs.drop (HT.sIx xs.length 0 lo)).take (HT.sIx xs.length xs.length hi - HT.sIx xs.length 0 lo)
def dCut (d : DP) (dl dh : PSt -> Rx (Option Int)) : DA := fun ps => (d ps).bind fun x => (dl ps).bind fun lo => (dh ps).bind fun hi => match x with | .lst xs => .ok (cutP xs lo hi) | _ => .bad
theorem n_cut {lo hi : Option Expr} {dl dh : PSt -> Rx (Option Int)} {p2 : Pos} (he : JB X G e da) (hl : JO X G lo dl) (hh : JO X G hi dh) : JN X G (.Subscript e (.Slice lo hi none p2) pos) (dCut da dl dh) := imp (pe_slice sl_list he hl hh) fun σ H Q ⟨c, ow, ps, ws, R, e, q⟩ => by
 obtain ⟨x, e1, e⟩ := bind_ok e
 obtain ⟨l, e2, e⟩ := bind_ok e
 obtain ⟨h, e3, e⟩ := bind_ok e
 refine ⟨c, ow, ps, x, R, e1, fun v H1 s1 r1 => ⟨c, ow, ps, l, R.grow s1, e2, fun H2 s2 => ⟨c, ow, ps, h, (R.grow s1).grow s2, e3, fun H3 s3 => ?_⟩⟩⟩
 split at e
 ·cases e
  obtain ⟨a, vs, e4, sq, rs⟩ := ((r1.same s2).same s3).lst
  refine ⟨a, vs, e4, sq, fun p hp => ?_⟩
  have sp := same_upd hp (.lst (cutV vs l h))
  have sA := (s1.trans s2).trans s3
  refine q p _ _ (sA.trans sp) (sA.free hp) upd_same ((Kp.take hp sp fun a z => z.symm).reps ?_)
  unfold cutP cutV
  rw [rs.len]
  exact (rs.drop _).take _
 ·cases e
def dCall (f : List PV -> Rx PV) (d : DA) : DP := fun ps => (d ps).bind f
def CbR (K : Fg) (G : Pg) (ms : List Bool) (f : List PV -> Rx PV) (r : List V -> Hp -> VK -> Prop) : Prop := ∀ (H : Hp) (A : Av) (ws : List PV) (vs : List V) (w : PV) (Q : VK), Used H A -> f ws = .ok w -> RepM K G H A ms ws vs -> (∀ z H', Same H H' -> Rep K G H' A w z -> Q z H') -> r vs H Q
theorem cb_of {K : Fg} {ms : List Bool} {f : List PV -> Rx PV} {r : List V -> Hp -> VK -> Prop} {d : DA} (hf : CbR K G ms f r) {σ : L2.St} {H : Hp} {Q : VK} (h : tPv K G (dCall f d) σ H Q) : tCB r (tPa K G ms d) σ H Q := by
 obtain ⟨c, ow, ps, w, R, e, q⟩ := h
 obtain ⟨ws, e1, e2⟩ := bind_ok e
 exact ⟨c, ow, ps, ws, R, e1, fun vs H' s r => hf H' _ ws vs w Q (R.grow s).used e2 r fun z H2 s2 r2 => q z H2 (s.trans s2) r2⟩
theorem p_callB {x : Str} {p : Pos} {id : String} {ms : List Bool} {f : List PV -> Rx PV} {r : List V -> Hp -> VK -> Prop} {d : DA} (hc : CallR X (.builtin id) r) (hf : CbR X.K G ms f r) (hg : Gl X x) (hm : X.mg x = none) (hv : bootBuiltins x = some (.builtin id)) (ha : JA X G ms (e :: es) d) (hn : x ≠ "__name__" := by decide) (hdb : (x == ("__debug__" : Str)) = false := by decide)
  (he : starEach (e :: es) X.env = (false, eval e X.env) :: starEach es X.env := by rfl) (hpl : (backTo pos (starEach es X.env)).any (·.1) = false := by rfl) : JP X G (.Call (.Name x p) (e :: es) [] pos) (dCall f d) := imp (pe_callB hc hg hm hv ha hn hdb he hpl) fun _ _ _ => cb_of hf
theorem RepM.one {K : Fg} {H : Hp} {A : Av} {ws : List PV} {vs : List V} (h : RepM K G H A [true] ws vs) : ∃ w v, ws = [w] /\ vs = [v] /\ RepB K G H A w v := by
 obtain ⟨w, wr, v, vr, rfl, rfl, r, rfl, rfl⟩ := h
 exact ⟨w, v, rfl, rfl, r⟩
theorem RepM.two {K : Fg} {H : Hp} {A : Av} {ws : List PV} {vs : List V} (h : RepM K G H A [true, true] ws vs) : ∃ w w' v v', ws = [w, w'] /\ vs = [v, v'] /\ RepB K G H A w v /\ RepB K G H A w' v' := by
 obtain ⟨w, wr, v, vr, rfl, rfl, r, w', wr', v', vr', rfl, rfl, r', rfl, rfl⟩ := h
 exact ⟨w, w', v, v', rfl, rfl, r, r'⟩
def bLen : List PV -> Rx PV
 | [.str y] => if y.length <= sizeLine then .ok (.int y.length) else .bad
 | [.lst xs] => .ok (.int xs.length)
 | [.tup xs] => .ok (.int xs.length)
 | _ => .bad
theorem cb_len {K : Fg} : CbR K G [true] bLen (fun xs H Q => ∃ x n, xs = [x] /\ LenV K x H n /\ Q (.int n) H) := by
 intro H A ws vs w Q hu e r q
 obtain ⟨x, v, rfl, rfl, rb⟩ := r.one
 clear r
 cases x <;> try cases e
 ·rename_i y
  have e : (if y.length <= sizeLine then Rx.ok (PV.int y.length) else .bad) = .ok w := e
  split at e
  ·rename_i hy
   cases e
   rw [rb.str]
   exact ⟨_, _, rfl, ⟨hy, rfl⟩, q _ H (Same.refl H) rfl⟩
  ·cases e
 ·obtain ⟨a, vs, rfl, sq, rs⟩ := rb.tup
  exact ⟨_, _, rfl, .inr ⟨vs, sq, rfl⟩, q _ H (Same.refl H) (by show _ = _; rw [rs.len])⟩
 ·obtain ⟨a, vs, rfl, sq, rs⟩ := rb.lst
  exact ⟨_, _, rfl, .inl ⟨vs, sq, rfl⟩, q _ H (Same.refl H) (by show _ = _; rw [rs.len])⟩
def intsOf : List PV -> Option (List Int)
 | [] => some []
 | .int i :: r => (intsOf r).map (i :: ·)
 | _ :: _ => none
theorem ints_of : ∀ {xs : List PV} {ns : List Int}, intsOf xs = some ns -> xs = ns.map PV.int
 | [], ns, h => by cases h; rfl
 | x :: r, ns, h => by
  cases x <;> try cases h
  rename_i i
  have h : (intsOf r).map (i :: ·) = some ns := h
  cases q : intsOf r with
  | none => rw [q] at h; cases h
  | some ms => rw [q] at h; cases h; rw [ints_of q]; rfl
def bList : List PV -> Rx (List PV)
 | [.lst xs] => .ok xs
 | [.tup xs] => .ok xs
 | _ => .bad
def dCallN (f : List PV -> Rx (List PV)) (d : DA) : DA := fun ps => (d ps).bind f
theorem n_list {x : Str} {p : Pos} {d : DA} (hg : Gl X "list") (hm : X.mg "list" = none) (ha : JA X G [true] [e] d)
  (he : starEach [e] X.env = (false, eval e X.env) :: starEach [] X.env := by rfl) (hpl : (backTo pos (starEach [] X.env)).any (·.1) = false := by rfl) : JN X G (.Call (.Name "list" p) [e] [] pos) (dCallN bList d) :=
 imp (pe_callTy call_list_of hg hm boot_list ha (by decide) (by decide) he hpl) fun σ H Q ⟨c, ow, ps, ws, R, e, q⟩ => by
  obtain ⟨xs, e1, e2⟩ := bind_ok e
  refine ⟨c, ow, ps, xs, R, e1, fun vs H' s r => ?_⟩
  obtain ⟨x, v, rfl, rfl, rb⟩ := r.one
  clear r
  cases x <;> try cases e2
  ·obtain ⟨a, vs, rfl, sq, rs⟩ := rb.tup
   exact ⟨a, vs, rfl, .inr sq, fun l hl => q l vs _ (s.trans (same_upd hl _)) (s.free hl) upd_same ((Kp.take hl (same_upd hl _) fun a z => z.symm).reps rs)⟩
  ·obtain ⟨a, vs, rfl, sq, rs⟩ := rb.lst
   exact ⟨a, vs, rfl, .inl sq, fun l hl => q l vs _ (s.trans (same_upd hl _)) (s.free hl) upd_same ((Kp.take hl (same_upd hl _) fun a z => z.symm).reps rs)⟩
def kd : PV -> Nat
 | .non => 0 | .bl _ => 1 | .int _ => 2 | .str _ => 3 | .tup _ => 4 | .lst _ => 5 | .dic _ _ => 6 | .clo _ _ => 9 | .dit _ _ => 9 | .obj k _ => k + 10
def tyOfKd (G : Pg) : Nat -> Value
 | 0 => .type "NoneType" | 1 => .type "bool" | 2 => .type "int" | 3 => .type "str" | 4 => .type "tuple" | 5 => .type "list" | 6 => .type "dict" | 7 => .none | 8 => .none | 9 => .none
 | k + 10 => .ref (G.cA k)
def ClsTy (K : Fg) (C : Addr) : Prop := ∀ H a dx fs, H a = some (.ins C dx fs) -> TyOf K H (.ref a) (.ref C)
def dIsi (l : List (Nat × Bool)) (d : DP) : DP := fun ps => (d ps).bind fun x => match l.lookup (kd x) with | some b => .ok (.bl b) | none => .bad
structure IsiOk (K : Fg) (G : Pg) (cv : Value) (l : List (Nat × Bool)) : Prop where
 kit : ∀ k b, l.lookup k = some b -> PySem.W.kitOne K (tyOfKd G k) cv = some b
 cls : ∀ k b, l.lookup (k + 10) = some b -> ClsTy K (G.cA k)
 n9 : ∀ b, l.lookup 9 ≠ some b
theorem call_isi (cv : Value) (l : List (Nat × Bool)) (ok : IsiOk X.K G cv l) : CallR X (.builtin "isinstance") (fun xs H Q => ∃ A w v c b, xs = [v, c] /\ (∀ u, RelV c u -> u = cv) /\ RepB X.K G H A w v /\ l.lookup (kd w) = some b /\ Q (.bl b) H) := by
 intro pins s σ H xs us Q I r h
 obtain ⟨A, w, v, c, b, rfl, hc, rw', hl, q⟩ := h
 obtain ⟨u, u', rfl, ru, rc⟩ := vals2 r
 obtain rfl := hc _ rc
 have kit := ok.kit _ _ hl
 have fin : ∀ tk, EP X pins σ Q (.bool b) { s with toks := tk } := fun tk => ⟨.bl b, H, I.tok tk, rfl, q⟩
 cases w with
 | non => rw [rw'.non] at ru; exact isinst_ok I ru .non kit fin
 | bl k => rw [rw'.bl] at ru; exact isinst_ok I ru (.bl _) kit fin
 | int i => rw [rw'.int] at ru; exact isinst_ok I ru (.int _) kit fin
 | str i => rw [rw'.str] at ru; exact isinst_ok I ru (.str _) kit fin
 | tup ws =>
  obtain ⟨a, vs, rfl, sq, rs⟩ := rw'.tup
  cases (show u = Value.ref a from ru)
  obtain ⟨its, _, p, _⟩ := I.tuple sq
  obtain ⟨o, h1, h2, _⟩ := p
  exact PySem.W.kia_one PySem.W.kitx_tuple I.kIn ⟨o, h1, h2⟩ kit (fun z => nomatch z) fin
 | lst ws =>
  obtain ⟨a, vs, rfl, sq, rs⟩ := rw'.lst
  cases (show u = Value.ref a from ru)
  obtain ⟨its, _, ⟨o, n, h1, h2, _⟩, _⟩ := I.list sq
  exact PySem.W.kia_one PySem.W.kitx_list I.kIn ⟨o, h1, h2⟩ kit (fun z => nomatch z) fin
 | clo f ws => exact absurd hl (ok.n9 b)
 | dit ks ws => exact absurd hl (ok.n9 b)
 | dic ks ws =>
  obtain ⟨a, vs, rfl, hH, _, rs⟩ := rw'.dic
  exact isinst_ok I ru (.dK hH) kit fin
 | obj k ws =>
  obtain ⟨a, dx, vs, rfl, hH, _, rs⟩ := rw'.obj
  exact isinst_ok I ru (ok.cls k b hl H a dx _ hH) kit fin
theorem p_isi {ce : Expr} {cvv : V} {cv : Value} {l : List (Nat × Bool)} {p : Pos} (hg : Gl X "isinstance") (hm : X.mg "isinstance" = none) (ok : IsiOk X.K G cv l) (hcv : ∀ u, RelV cvv u -> u = cv) (ha : JB X G e da) (hc : PE X ce (tC cvv))
  (he : starEach [e, ce] X.env = (false, eval e X.env) :: starEach [ce] X.env := by rfl) (he2 : starEach [ce] X.env = (false, eval ce X.env) :: starEach [] X.env := by rfl) (hpl : (backTo pos (starEach [ce] X.env)).any (·.1) = false := by rfl) :
  JP X G (.Call (.Name "isinstance" p) [e, ce] [] pos) (dIsi l da) :=
 imp (pe_callB (call_isi cv l ok) hg hm boot_isinstance (pa_cons ha (pa_cons hc pa_nil he2) he) (by decide) (by decide) he hpl) fun σ H Q ⟨c, ow, ps, w, R, e, q⟩ => by
  obtain ⟨x, e1, e2⟩ := bind_ok e
  refine ⟨c, ow, ps, x, R, e1, fun v H' s r => ?_⟩
  split at e2
  ·rename_i b hb
   cases e2
   exact ⟨_, x, v, cvv, b, rfl, hcv, r, hb, q _ H' s rfl⟩
  ·cases e2
theorem zip_lookup {f : Str} {v : V} : ∀ {ns : List Str} {vs : List V} {j : Nat}, ns.Nodup -> ns[j]? = some f -> vs[j]? = some v -> (ns.zip vs).lookup f = some v
 | [], vs, j, _, h, _ => by simp at h
 | n :: ns, [], j, _, _, h => by simp at h
 | n :: ns, u :: vs, 0, _, h1, h2 => by
  simp at h1 h2; subst h1; subst h2
  simp
 | n :: ns, u :: vs, j + 1, nd, h1, h2 => by
  have h1' : ns[j]? = some f := by simpa using h1
  have hne : (f == n) = false := by
   have : f ≠ n := fun z => by subst z; exact (List.nodup_cons.mp nd).1 (List.mem_of_getElem? h1')
   simpa using this
  rw [List.zip_cons_cons, List.lookup_cons, hne]
  exact zip_lookup (j := j) (List.nodup_cons.mp nd).2 h1' (by simpa using h2)
structure FldOk (K : Fg) (G : Pg) (f : Str) (l : List (Nat × Nat)) : Prop where
 all : ∀ k j, l.lookup k = some j -> Cls K (G.cA k) /\ NoAttr K (G.cA k) f /\ (G.fN k).Nodup /\ (G.fN k)[j]? = some f
def dFld (l : List (Nat × Nat)) (d : DP) : DP := fun ps => (d ps).bind fun x => match x with
 | .obj k xs => (match l.lookup k with | some j => (match xs[j]? with | some w => .ok w | none => .bad) | none => .bad)
 | _ => .bad
theorem p_fld {f : Str} {l : List (Nat × Nat)} (ok : FldOk X.K G f l) (ha : JP X G e da) (hb : attributeBase e f X.env (eval e X.env) = eval e X.env) : JP X G (.Attribute e f pos) (dFld l da) := imp (pe_fld ha hb) fun σ H Q ⟨c, ow, ps, w, R, e, q⟩ => by
 obtain ⟨x, e1, e2⟩ := bind_ok e
 refine ⟨c, ow, ps, x, R, e1, fun v H' s r => ?_⟩
 cases x with
 | obj k xs =>
  have e2 : (match l.lookup k with | some j => (match xs[j]? with | some w => Rx.ok w | none => .bad) | none => .bad) = .ok w := e2
  split at e2
  ·rename_i j hj
   split at e2
   ·rename_i w' hw
    cases e2
    obtain ⟨a, dx, vs, rfl, hH, hl, na, rs⟩ := r
    obtain ⟨c1, c2, c3, c4⟩ := ok.all k j hj
    obtain ⟨u, hu, ru⟩ := rs.get hw
    exact ⟨a, _, dx, _, u, rfl, hH, c1, c2, zip_lookup c3 c4 hu, q u H' s ru⟩
   ·cases e2
  ·cases e2
 | _ => cases e2
end
end DN
end
section
namespace DN
open PySem PySem.Spec PyProof.Rows L2
def SlF (K : Fg) (G : Pg) (B : Av) (H : Hp) (A : Av) : Sl -> Option V -> Prop
 | .no, _ => True
 | .v w, o => ∃ v, o = some v /\ Rep K G H A w v
 | .own _, _ => False
 | .bor w, o => ∃ v, o = some v /\ (Rep K G H A w v \/ ∃ x p, w = x.pv /\ v = .ref p /\ RepO K G H A x p /\ B p)
 | .ino _, _ => False
 | .ini _ _, _ => False
 | .dol _ _, _ => False
 | .als _ _, _ => False
structure RepF (K : Fg) (G : Pg) (B : Av) (H : Hp) (A : Av) (ps : PSt) (σ : L2.St) : Prop where
 len : ps.length = σ.length
 slot : ∀ (i : Nat) (s : Sl) (o : Option V), ps[i]? = some s -> σ[i]? = some o -> SlF K G B H A s o
section
variable {K : Fg} {G : Pg} {H H' : Hp} {A A' B : Av} {ps : PSt} {σ : L2.St}
def ow0 : Ows := fun _ => none
theorem av0 {c : Fr} (a : Addr) : av c ow0 a -> c.A0 a := by
 rintro (h | ⟨i, h⟩)
 ·exact h
 ·cases h
theorem RepB.keep {w : PV} {v : V} (h : RepB K G H A w v) (k : Kp K G H A H' A') (e : ∀ x p, RepO K G H A x p -> H' p = H p) : RepB K G H' A' w v := by
 rcases h with h | ⟨x, p, e1, e2, r⟩
 ·exact .inl (k.rep h)
 ·exact .inr ⟨x, p, e1, e2, r.keep k (e x p r)⟩
theorem RepB.weak {w : PV} {v : V} (h : RepB K G H A w v) (f : ∀ a, A' a -> A a) : RepB K G H A' w v := h.keep (Kp.weak f) fun _ _ _ => rfl
theorem RepF.toS (R : RepF K G B H A ps σ) (u : Used H A) (ub : Used H B) : RepS K G ⟨H, A, B, none⟩ H ow0 ps σ := by
 refine ⟨R.len, SmL.of (Same.refl H), (fun p e => (nomatch e)), u, (fun a z => ⟨ub a z, fun e => nomatch e⟩), (fun i p e => (nomatch e)), (fun i j p e => (nomatch e)), (fun _ _ e => (nomatch e)), fun i s o e1 e2 => ?_⟩
 have q := R.slot i s o e1 e2
 have k : Kp K G H A H (av ⟨H, A, B, none⟩ ow0) := Kp.weak fun a z => av0 a z
 cases s with
 | no => rfl
 | v w => obtain ⟨v, e, r⟩ := q; exact ⟨rfl, v, e, k.rep r⟩
 | own x => exact q.elim
 | ino x => exact q.elim
 | ini k xs => exact q.elim
 | dol ks xss => exact q.elim
 | als d j => exact q.elim
 | bor w =>
  obtain ⟨v, e, r⟩ := q
  refine ⟨rfl, v, e, ?_⟩
  rcases r with r | ⟨x, p, e1, e2, r, n⟩
  ·exact .inl (k.rep r)
  ·exact .inr ⟨x, p, e1, e2, r.keep k rfl, n⟩
theorem RepF.ofS {c : Fr} (R : RepS K G c H ow0 ps σ) (hl : c.lx = none) : RepF K G c.B0 H c.A0 ps σ := by
 refine ⟨R.len, fun i s o e1 e2 => ?_⟩
 have q := R.slot i s o e1 e2
 have k : Kp K G H (av c ow0) H c.A0 := Kp.weak fun a z => .inl z
 cases s with
 | no => exact True.intro
 | v w => obtain ⟨_, v, e, r⟩ := q; exact ⟨v, e, k.rep r⟩
 | own x => obtain ⟨p, e, _⟩ := q; cases e
 | ino x => obtain ⟨_, _, p, _, e, _⟩ := q; rw [hl] at e; cases e
 | ini k xs => obtain ⟨_, _, p, _, e, _⟩ := q; rw [hl] at e; cases e
 | dol ks xss => obtain ⟨p, qs, e, _⟩ := q; cases e
 | als d j => obtain ⟨_, q', _, e⟩ := q; cases e
 | bor w =>
  obtain ⟨_, v, e, r⟩ := q
  refine ⟨v, e, ?_⟩
  rcases r with r | ⟨x, p, e1, e2, r, n⟩
  ·exact .inl (k.rep r)
  ·exact .inr ⟨x, p, e1, e2, r.keep k rfl, n⟩
def Sl.out : Sl -> Sl
 | .own x => .bor x.pv
 | .ino x => .bor x.pv
 | .ini _ _ => .no
 | .dol _ _ => .no
 | .als _ _ => .no
 | s => s
def capP (own : List Str) (caps : List (Str × Nat)) (ps : PSt) : PSt := List.replicate own.length .no ++ caps.map fun p => ((ps[p.2]?).getD .no).out
theorem RepS.caps {c : Fr} {ow : Ows} (R : RepS K G c H ow ps σ) (own : List Str) (caps : List (Str × Nat)) : RepF K G (fun p => H p ≠ none) H (av c ow) (capP own caps ps) (capS own caps σ) := by
 refine ⟨by simp [capP, capS], fun i s o e1 e2 => ?_⟩
 unfold capP at e1
 unfold capS at e2
 rcases Nat.lt_or_ge i own.length with h | h
 ·rw [List.getElem?_append_left (by simpa using h), List.getElem?_replicate, if_pos h] at e1
  cases e1
  exact True.intro
 ·rw [List.getElem?_append_right (by simpa using h), List.length_replicate, List.getElem?_map] at e1 e2
  cases ep : caps[i - own.length]? with
  | none => rw [ep] at e1; cases e1
  | some p =>
   rw [ep] at e1 e2
   have e1 : ((ps[p.2]?).getD .no).out = s := Option.some.inj e1
   have e2 : (σ[p.2]?).getD none = o := Option.some.inj e2
   cases eq : ps[p.2]? with
   | none => rw [eq] at e1; subst e1; exact True.intro
   | some t =>
    obtain ⟨o', eo, q⟩ := R.get eq
    rw [eq] at e1; rw [eo] at e2
    have e2 : o' = o := e2
    subst e2
    subst e1
    cases t with
    | no => exact True.intro
    | v w => obtain ⟨_, v, e, r⟩ := q; exact ⟨v, e, r⟩
    | own x => obtain ⟨p, _, e, r⟩ := q; obtain ⟨o', eo, _⟩ := r.at; exact ⟨_, e, .inr ⟨x, p, rfl, rfl, r, by show H p ≠ none; rw [eo]; simp⟩⟩
    | ino x => obtain ⟨_, _, p, e, _, r⟩ := q; obtain ⟨o', eo, _⟩ := r.at; exact ⟨_, e, .inr ⟨x, p, rfl, rfl, r, by show H p ≠ none; rw [eo]; simp⟩⟩
    | ini k xs => exact True.intro
    | dol ks xss => exact True.intro
    | als d j => exact True.intro
    | bor w =>
     obtain ⟨_, v, e, r⟩ := q
     refine ⟨v, e, ?_⟩
     rcases r with r | ⟨x, p, e1, e2, r, _⟩
     ·exact .inl r
     ·obtain ⟨o', eo, _⟩ := r.at
      exact .inr ⟨x, p, e1, e2, r, by show H p ≠ none; rw [eo]; simp⟩
end
def spG (K : Fg) (G : Pg) (ms : List Bool) (g : List PV -> Rx PV) : Sp := fun vs H Q _ => ∃ A ws w, Used H A /\ RepM K G H A ms ws vs /\ g ws = .ok w /\ ∀ v H', Same H H' -> Rep K G H' A w v -> Q v H'
section
variable {X : Cx} {G : Pg} {e a b o : Expr} {es : List Expr} {da db : DP} {d : DA} {pos p apos : Pos} {x m : Str} {k : Nat} {ms : List Bool} {g : List PV -> Rx PV}
theorem p_fn (h : FnAt X.prog X.w X.K X.mg X.base CX0 k x (spG X.K G ms g)) (hr : Room k X.A) (hg : Gl X x) (ha : JA X G ms (e :: es) d) (hdb : (x == ("__debug__" : Str)) = false := by decide)
  (he : starEach (e :: es) X.env = (false, eval e X.env) :: starEach es X.env := by rfl) (hpl : (backTo pos (starEach es X.env)).any (·.1) = false := by rfl) : JP X G (.Call (.Name x p) (e :: es) [] pos) (dCall g d) :=
 imp (pe_fn (E := E0) h hr hg pass0 ha hdb he hpl) fun σ H Q ⟨c, ow, ps, w, R, e, q⟩ => by
  obtain ⟨ws, e1, e2⟩ := bind_ok e
  exact ⟨c, ow, ps, ws, R, e1, fun vs H' s r => ⟨_, ws, w, (R.grow s).used, r, e2, fun v H2 s2 r2 => q v H2 (s.trans s2) r2⟩⟩
theorem zip_none {f : Str} : ∀ {ns : List Str} {vs : List V}, f ∉ ns -> (ns.zip vs).lookup f = none
 | [], vs, _ => rfl
 | n :: ns, [], _ => rfl
 | n :: ns, u :: vs, h => by
  have h1 : (f == n) = false := by
   have : f ≠ n := fun z => h (by rw [z]; exact List.mem_cons_self)
   simpa using this
  rw [List.zip_cons_cons, List.lookup_cons, h1]
  exact zip_none fun z => h (List.mem_cons_of_mem _ z)
structure MtOk (P : Program) (w : World) (K : Fg) (mg : Str -> Option Value) (base : Bs) (G : Pg) (k : Nat) (m : Str) (ms : List Bool) (tab : List (Nat × Nat)) (g : Nat -> List PV -> Rx PV) : Prop where
 all : ∀ c f, tab.lookup c = some f -> MethAt P w K mg base CX0 k (G.cA c) m (spG K G (false :: ms) (g f)) /\ m ∉ G.fN c
def dMeth (tab : List (Nat × Nat)) (g : Nat -> List PV -> Rx PV) (d : DP) (r : DA) : DP := fun ps => (d ps).bind fun x => match x with
 | .obj c xs => (match tab.lookup c with | some f => (r ps).bind fun ws => g f (.obj c xs :: ws) | none => .bad)
 | _ => .bad
theorem meth_of {tab : List (Nat × Nat)} {g : Nat -> List PV -> Rx PV} (h : MtOk X.prog X.w X.K X.mg X.base G k m ms tab g) {σ : L2.St} {H : Hp} {Q : VK} (hq : tPv X.K G (dMeth tab g da d) σ H Q) :
  tMethD (ι := { q : Nat × Nat // tab.lookup q.1 = some q.2 }) (fun i => G.cA i.1.1) m (fun i => spG X.K G (false :: ms) (g i.1.2)) E0 (tPv X.K G da) (tPa X.K G ms d) σ H Q := by
 obtain ⟨c, ow, ps, w, R, e, q⟩ := hq
 obtain ⟨x, e1, e2⟩ := bind_ok e
 refine ⟨c, ow, ps, x, R, e1, fun v H' s r => ?_⟩
 cases x with
 | obj kc xs =>
  have e2 : (match tab.lookup kc with | some f => (d ps).bind fun ws => g f (.obj kc xs :: ws) | none => .bad) = .ok w := e2
  split at e2
  ·rename_i f hf
   obtain ⟨ws, e3, e4⟩ := bind_ok e2
   obtain ⟨a, dx, vs, ev, hH, hl, na, rs⟩ := id r
   refine ⟨⟨(kc, f), hf⟩, a, dx, _, ev, hH, zip_none (h.all kc f hf).2, c, ow, ps, ws, R.grow s, e3, fun vs2 H2 s2 r2 => ?_⟩
   exact ⟨_, .obj kc xs :: ws, w, ((R.grow s).grow s2).used, ⟨_, _, _, _, rfl, rfl, by rw [if_neg Bool.false_ne_true]; exact r.same s2, r2⟩, e4, fun v3 H3 s3 r3 => q v3 H3 ((s.trans s2).trans s3) r3⟩
  ·cases e2
 | _ => cases e2
theorem p_meth {tab : List (Nat × Nat)} {g : Nat -> List PV -> Rx PV} {pl : Sem Bool} (h : MtOk X.prog X.w X.K X.mg X.base G k m ms tab g) (hr : Room k X.A) (ho : JP X G o da) (ha : JA X G ms (e :: es) d)
  (hst : starEach (e :: es) X.env = (false, eval e X.env) :: starEach es X.env := by rfl) (hpl : (backTo pos (starEach es X.env)).any (·.1) = false := by rfl)
  (ht : eval (.Call (.Attribute o m apos) (e :: es) [] pos) X.env = (do
   let ov <- eval o X.env
   standAt apos.atName
   let (f, first) <- holding [ov] (getMethod ov m pl)
   callWith pos f first (backTo pos (starEach (e :: es) X.env)) (backToKw pos (keywordEach [] X.env))) := by rfl) : JP X G (.Call (.Attribute o m apos) (e :: es) [] pos) (dMeth tab g da d) :=
 imp (pe_methD (ι := { q : Nat × Nat // tab.lookup q.1 = some q.2 }) (pl := pl) ho (fun i => (h.all i.1.1 i.1.2 i.2).1) hr pass0 ha hst hpl ht) fun _ _ _ => meth_of h
theorem p_meth0 {tab : List (Nat × Nat)} {g : Nat -> List PV -> Rx PV} {pl : Sem Bool} (h : MtOk X.prog X.w X.K X.mg X.base G k m [] tab g) (hr : Room k X.A) (ho : JP X G o da)
  (ht : eval (.Call (.Attribute o m apos) [] [] pos) X.env = (do
   let ov <- eval o X.env
   standAt apos.atName
   let (f, first) <- holding [ov] (getMethod ov m pl)
   callWith pos f first (backTo pos (starEach [] X.env)) (backToKw pos (keywordEach [] X.env))) := by rfl) : JP X G (.Call (.Attribute o m apos) [] [] pos) (dMeth tab g da dNil) :=
 imp (pe_methD0 (ι := { q : Nat × Nat // tab.lookup q.1 = some q.2 }) (pl := pl) ho (fun i => (h.all i.1.1 i.1.2 i.2).1) hr pass0 ht) fun σ H Q hq => by
  obtain ⟨c, ow, ps, x, R, e1, f⟩ := meth_of h hq
  refine ⟨c, ow, ps, x, R, e1, fun v H' s r => ?_⟩
  obtain ⟨i, a, dx, fs, e2, e3, e4, c', ow', ps', ws, R', e5, f2⟩ := f v H' s r
  have : ws = [] := by cases e5; rfl
  subst this
  exact ⟨i, a, dx, fs, e2, e3, e4, f2 [] H' (Same.refl H') ⟨rfl, rfl⟩⟩
def dNew (c : Nat) (d : DA) : DP := fun ps => (d ps).bind fun ws => .ok (.obj c ws)
theorem p_new {c : Nat} (h : NewAt X.prog X.w X.K X.mg X.base x (G.cA c) (G.fN c)) (hr : Room (k + 2) X.A) (hg : Gl X x) (ha : JA X G ms (e :: es) d) (hl : (G.fN c).length = ms.length) (hm : ms.all (! ·) = true := by rfl) (hdb : (x == ("__debug__" : Str)) = false := by decide)
  (he : starEach (e :: es) X.env = (false, eval e X.env) :: starEach es X.env := by rfl) (hpl : (backTo pos (starEach es X.env)).any (·.1) = false := by rfl) : JP X G (.Call (.Name x p) (e :: es) [] pos) (dNew c d) :=
 imp (pe_new h hr hg ha hdb he hpl) fun σ H Q ⟨f, ow, ps, w, R, e, q⟩ => by
  obtain ⟨ws, e1, e2⟩ := bind_ok e
  cases e2
  refine ⟨f, ow, ps, ws, R, e1, fun vs H' s r => ⟨by rw [r.len.2, hl], fun y dy n1 n2 ne => ?_⟩⟩
  have sn := newI_same (C := G.cA c) (fs := (G.fN c).zip vs) n1 n2
  exact q _ _ (s.trans sn) ⟨y, dy, vs, rfl, newI_at, by rw [r.len.2, hl], fun z => (R.grow s).used y z n1, (r.reps' hm).same sn⟩
theorem p_new0 {c : Nat} (M : Mk0 X.K (G.cA c)) (hf : G.fN c = []) (hg : Gl X x) (hm : X.mg x = some (.ref (G.cA c))) (hdb : (x == ("__debug__" : Str)) = false := by decide) : JP X G (.Call (.Name x p) [] [] pos) (dC (.obj c [])) :=
 imp (pe_make00 M hg hm hdb) fun σ H Q ⟨f, ow, ps, w, R, e, q⟩ => by
  cases e
  intro y dy n1 n2 ne
  have sn := newI_same (C := G.cA c) (fs := []) n1 n2
  exact q _ _ sn ⟨y, dy, [], rfl, by rw [List.zip_nil_right]; exact newI_at, by rw [hf]; rfl, fun z => R.used y z n1, rfl⟩
abbrev DG := PV -> PSt -> Rx PSt
def tG (K : Fg) (G : Pg) (g : DG) : TG := fun v σ H Q => ∃ (c : Fr) (ow : Ows) (ps : PSt) (w : PV) (ps' : PSt), RepS K G c H ow ps σ /\ Rep K G H (av c ow) w v /\ g w ps = .ok ps' /\
 ∀ σ' ow', RepS K G c H ow' ps' σ' -> (∀ a, av c ow' a -> av c ow a) -> Q σ' H
def tGs (K : Fg) (G : Pg) (g : List PV -> PSt -> Rx PSt) : TGs := fun vs σ H Q => ∃ (c : Fr) (ow : Ows) (ps : PSt) (ws : List PV) (ps' : PSt), RepS K G c H ow ps σ /\ Reps K G H (av c ow) ws vs /\ g ws ps = .ok ps' /\
 ∀ σ' ow', RepS K G c H ow' ps' σ' -> (∀ a, av c ow' a -> av c ow a) -> Q σ' H
abbrev JG (X : Cx) (G : Pg) (t : Expr) (g : DG) : Prop := PG X t (tG X.K G g)
abbrev JGs (X : Cx) (G : Pg) (t : List Expr) (g : List PV -> PSt -> Rx PSt) : Prop := PGs X t (tGs X.K G g)
theorem impG {e : Expr} {t t' : TG} (h : PG X e t) (f : ∀ v σ H Q, t' v σ H Q -> t v σ H Q) : PG X e t' := fun pins s σ H v u Q I r q => h pins s σ H v u Q I r (f v σ H Q q)
theorem impGs {e : List Expr} {t t' : TGs} (h : PGs X e t) (f : ∀ v σ H Q, t' v σ H Q -> t v σ H Q) : PGs X e t' := fun pins s σ H v u Q I r q => h pins s σ H v u Q I r (f v σ H Q q)
def gSet (i : Nat) : DG := fun w ps => .ok (ps.set i (.v w))
theorem g_name {i : Nat} (hN : X.N.Nodup) (hi : X.N[i]? = some x) (hx : Loc X.env.scope x) (hf : X.fn x = true \/ X.env.scope.names.lookup x = some .local := by first | exact .inl rfl | exact .inr rfl | assumption) : JG X G (.Name x pos) (gSet i) :=
 impG (pg_name hN hi hx hf) fun v σ H Q ⟨c, ow, ps, w, ps', R, r, e, q⟩ => by
  cases e
  exact q _ _ (R.setV r) av_off
def gNilD : List PV -> PSt -> Rx PSt
 | [], ps => .ok ps
 | _ :: _, _ => .bad
def gConsD (g : DG) (gs : List PV -> PSt -> Rx PSt) : List PV -> PSt -> Rx PSt
 | w :: ws, ps => (g w ps).bind fun ps' => gs ws ps'
 | [], _ => .bad
theorem gs_nil : JGs X G [] gNilD := impGs pgs_nil fun vs σ H Q ⟨c, ow, ps, ws, ps', R, r, e, q⟩ => by
 cases ws with
 | nil => cases e; exact ⟨r, q σ ow R fun _ z => z⟩
 | cons w ws => cases e
theorem gs_cons {t : Expr} {ts : List Expr} {g : DG} {gs : List PV -> PSt -> Rx PSt} (h1 : JG X G t g) (h2 : JGs X G ts gs) (hs : (assignEach (t :: ts) X.env).map (·.2) = assign t X.env :: (assignEach ts X.env).map (·.2) := by rfl) : JGs X G (t :: ts) (gConsD g gs) :=
 impGs (pgs_cons h1 h2 hs) fun vs σ H Q ⟨c, ow, ps, ws, ps', R, r, e, q⟩ => by
  cases ws with
  | nil => cases e
  | cons w ws =>
   obtain ⟨v, vr, rfl, r1, r2⟩ := r
   obtain ⟨ps1, e1, e2⟩ := bind_ok e
   refine ⟨v, vr, rfl, c, ow, ps, w, ps1, R, r1, e1, fun σ' ow' R' wk => ?_⟩
   exact ⟨c, ow', ps1, ws, ps', R', (Kp.weak wk).reps r2, e2, fun σ2 ow2 R2 wk2 => q σ2 ow2 R2 fun a z => wk a (wk2 a z)⟩
def gTupD (n : Nat) (gs : List PV -> PSt -> Rx PSt) : DG := fun w ps => match w with | .tup ws => if ws.length = n then gs ws ps else .bad | _ => .bad
theorem g_tup {ts : List Expr} {j n : Nat} {gs : List PV -> PSt -> Rx PSt} (hc : X.calm = true) (h : JGs X G ts gs) (hn : (assignEach ts X.env).length = n := by rfl) (hst : (assignEach ts X.env).findIdx? (·.1) = none := by rfl) : JG X G (.Tuple ts j pos) (gTupD n gs) :=
 impG (pg_tup hc h hn hst) fun v σ H Q ⟨c, ow, ps, w, ps', R, r, e, q⟩ => by
  cases w with
  | tup ws =>
   have e : (if ws.length = n then gs ws ps else .bad) = .ok ps' := e
   split at e
   ·rename_i hl
    obtain ⟨a, vs, rfl, sq, rs⟩ := r
    exact ⟨a, vs, rfl, sq, by rw [<- rs.len]; exact hl, c, ow, ps, ws, ps', R, rs, e, q⟩
   ·cases e
  | _ => cases e
end
end DN
end
section
namespace DN
open PySem PySem.Spec PyProof.Rows L2
def Wk (K : Fg) (G : Pg) (c : Fr) (J : It) (H : Hp) (A : Av) (vs : List V) : Prop := ∀ H' A', Kp K G H A H' A' -> SmL c H' ->
 (∀ (i : Nat) (x : V), vs[i]? = some x -> J.go i H' /\ ∀ y H2, J.yld i H' y H2 -> H2 = H' /\ y = x) /\ J.stop vs.length H'
def WkS (J : It) (H : Hp) (vs : List V) : Prop := ∀ H', Same H H' -> (∀ (i : Nat) (x : V), vs[i]? = some x -> J.go i H' /\ ∀ y H2, J.yld i H' y H2 -> H2 = H' /\ y = x) /\ J.stop vs.length H'
def tPi (K : Fg) (G : Pg) (d : DA) : TI := fun σ H R => ∃ (c : Fr) (ow : Ows) (ps : PSt) (ws : List PV), RepS K G c H ow ps σ /\ d ps = .ok ws /\ ∀ J H' vs, Same H H' -> Reps K G H' (av c ow) ws vs -> Wk K G c J H' (av c ow) vs -> R J H'
def tPs (K : Fg) (G : Pg) (d : DA) : TI := fun σ H R => ∃ (c : Fr) (ow : Ows) (ps : PSt) (ws : List PV), RepS K G c H ow ps σ /\ d ps = .ok ws /\ ∀ J H' vs, Same H H' -> Reps K G H' (av c ow) ws vs -> WkS J H' vs -> R J H'
abbrev JI (X : Cx) (G : Pg) (tg it : Expr) (d : DA) : Prop := PI X tg it (tPi X.K G d)
abbrev JIs (X : Cx) (G : Pg) (tg it : Expr) (d : DA) : Prop := PI X tg it (tPs X.K G d)
section
variable {X : Cx} {G : Pg} {e a b o tg : Expr} {es : List Expr} {da db : DP} {d : DA} {pos p apos : Pos} {x m : Str} {k : Nat} {ms : List Bool}
theorem impI {it : Expr} {t t' : TI} (h : PI X tg it t) (f : ∀ σ H R, t' σ H R -> t σ H R) : PI X tg it t' := fun pins s σ H R I q => h pins s σ H R I (f σ H R q)
def dItems (d : DP) : DA := fun ps => (d ps).bind fun x => match x with | .lst xs => .ok xs | _ => .bad
def dItemsT (d : DP) : DA := fun ps => (d ps).bind fun x => match x with | .tup xs => .ok xs | _ => .bad
theorem it_list {K : Fg} {a : Addr} {vs : List V} {H : Hp} (h : SqL K H a vs) : (∀ (i : Nat) (x : V), vs[i]? = some x -> (Itl K a).go i H /\ ∀ y H2, (Itl K a).yld i H y H2 -> H2 = H /\ y = x) /\ (Itl K a).stop vs.length H :=
 ⟨fun i x e => ⟨⟨vs, x, h, e⟩, fun y H2 ⟨e2, hy⟩ => ⟨e2, Option.some.inj ((hy vs h).symm.trans e)⟩⟩, ⟨vs, h, Nat.le_refl _⟩⟩
theorem it_tup {K : Fg} {a : Addr} {vs : List V} {H : Hp} (h : SqT K H a vs) : (∀ (i : Nat) (x : V), vs[i]? = some x -> (Itt K a).go i H /\ ∀ y H2, (Itt K a).yld i H y H2 -> H2 = H /\ y = x) /\ (Itt K a).stop vs.length H :=
 ⟨fun i x e => ⟨⟨vs, x, h, e⟩, fun y H2 ⟨e2, hy⟩ => ⟨e2, Option.some.inj ((hy vs h).symm.trans e)⟩⟩, ⟨vs, h, Nat.le_refl _⟩⟩
theorem i_list (h : JP X G e da) : JI X G tg e (dItems da) := impI (pi_list h) fun σ H R ⟨c, ow, ps, ws, S, e, q⟩ => by
 obtain ⟨x, e1, e2⟩ := bind_ok e
 refine ⟨c, ow, ps, x, S, e1, fun v H' s r => ?_⟩
 split at e2
 ·cases e2
  obtain ⟨a, vs, rfl, rd, rs⟩ := r
  exact ⟨a, rfl, ⟨vs, rd.sq⟩, q _ H' vs s rs fun H2 A2 k _ => it_list (k.rdL rd).sq⟩
 ·cases e2
def dItemsB (i : Nat) : DA := fun ps => match ps[i]? with | some (.bor (.lst xs)) => .ok xs | _ => .bad
theorem s_list (h : JB X G e da) : JIs X G tg e (dItems da) := impI (pi_list h) fun σ H R ⟨c, ow, ps, ws, S, e, q⟩ => by
 obtain ⟨x, e1, e2⟩ := bind_ok e
 refine ⟨c, ow, ps, x, S, e1, fun v H' s r => ?_⟩
 split at e2
 ·cases e2
  obtain ⟨a, vs, rfl, rd, rs⟩ := r.lst
  exact ⟨a, rfl, ⟨vs, rd⟩, q _ H' vs s rs fun H2 k => it_list (k.seq rd)⟩
 ·cases e2
theorem i_tup (h : JP X G e da) : JI X G tg e (dItemsT da) := impI (pi_tup h) fun σ H R ⟨c, ow, ps, ws, S, e, q⟩ => by
 obtain ⟨x, e1, e2⟩ := bind_ok e
 refine ⟨c, ow, ps, x, S, e1, fun v H' s r => ?_⟩
 split at e2
 ·cases e2
  obtain ⟨a, vs, rfl, rd, rs⟩ := r
  exact ⟨a, rfl, ⟨vs, rd⟩, q _ H' vs s rs fun H2 A2 k _ => it_tup (k.sqT rd)⟩
 ·cases e2
theorem s_of_i (h : JI X G tg e d) : JIs X G tg e d := impI h fun σ H R ⟨c, ow, ps, ws, S, e, q⟩ => ⟨c, ow, ps, ws, S, e, fun J H' vs s rs w => q J H' vs s rs fun H2 k => w H2 _ (Kp.of_same k) (S.grow (s.trans k)).same⟩
def rngP (lo : Int) (n : Nat) : List PV := (List.range n).map fun (i : Nat) => PV.int (lo + (i : Int))
theorem rng_reps {K : Fg} {H : Hp} {A : Av} {lo : Int} {n : Nat} : Reps K G H A (rngP lo n) (rngV lo n) := by
 unfold rngP rngV
 generalize List.range n = l
 induction l with
 | nil => rfl
 | cons x xs ih => exact ⟨_, _, rfl, rfl, ih⟩
theorem it_rng {lo : Int} {n : Nat} {H : Hp} : (∀ (i : Nat) (x : V), (rngV lo n)[i]? = some x -> (Itr lo n).go i H /\ ∀ y H2, (Itr lo n).yld i H y H2 -> H2 = H /\ y = x) /\ (Itr lo n).stop (rngV lo n).length H := by
 refine ⟨fun i x e => ?_, by show n <= (rngV lo n).length; rw [rngV_len]; exact Nat.le_refl _⟩
 have h := (List.getElem?_eq_some_iff.mp e).1
 rw [rngV_len] at h
 rw [rngV_at h] at e
 exact ⟨h, fun y H2 ⟨e2, hy⟩ => ⟨e2, hy.trans (Option.some.inj e)⟩⟩
def dRng1 (d : DA) : DA := fun ps => (d ps).bind fun ws => match ws with | [.int j] => if -(2 ^ 62) <= j /\ j < 2 ^ 62 then .ok (rngP 0 j.toNat) else .bad | _ => .bad
theorem i_rng1 {ea : Expr} (hg : Gl X "range") (hm : X.mg "range" = none) (ha : JA X G [false] [ea] d) (hs : starEach [ea] X.env = [(false, eval ea X.env)] := by rfl) : JI X G tg (.Call (.Name "range" p) [ea] [] pos) (dRng1 d) :=
 impI (pi_range1 hg hm ha hs) fun σ H R ⟨c, ow, ps, ws, S, e, q⟩ => by
  obtain ⟨xs, e1, e2⟩ := bind_ok e
  refine ⟨c, ow, ps, xs, S, e1, fun vs H' s r => ?_⟩
  split at e2
  ·split at e2
   ·rename_i j hj
    cases e2
    obtain ⟨v, vr, rfl, r1, rfl⟩ := RepM.reps' r rfl
    exact ⟨j, by rw [show v = V.int j from r1], hj.1, hj.2, q _ H' _ s rng_reps fun _ _ _ _ => it_rng⟩
   ·cases e2
  ·cases e2
abbrev JTs (X : Cx) (G : Pg) (ifs : List Expr) (d : DT) : Prop := PTs X ifs (tPt X.K G d)
def dYes : DT := fun _ => .ok true
theorem ts_nil : JTs X G [] dYes := fun pins s σ H Q I h => pts_nil pins s σ H Q I (by
 obtain ⟨c, ow, ps, b, R, e, q⟩ := h
 cases e
 exact q H (Same.refl H))
theorem ts_one {c : Expr} {dt : DT} (h : JT X G c dt) : JTs X G [c] dt := pts_one h
def compD (g : DG) (dt : DT) (de : DP) : List PV -> PSt -> Rx (List PV)
 | [], _ => .ok []
 | x :: xs, ps => (g x ps).bind fun ps1 => (dt ps1).bind fun b => if b = true then (de ps1).bind fun y => (compD g dt de xs ps1).bind fun r => .ok (y :: r) else compD g dt de xs ps1
def dComp (own : List Str) (caps : List (Str × Nat)) (di : DA) (g : DG) (dt : DT) (de : DP) : DA := fun ps => (di ps).bind fun ws => if ws.length <= sizeLine then compD g dt de ws (capP own caps ps) else .bad
theorem comp_go {own : List Str} {caps : List (Str × Nat)} {di : DA} {g : DG} {dt : DT} {de : DP} (gk : ∀ (w : PV) (ps ps' : PSt), g w ps = .ok ps' -> ∀ (i : Nat) (x : Ow), ps'[i]? = some (Sl.own x) -> ps[i]? = some (Sl.own x)) {σ : L2.St} {H : Hp} {Q : VK}
  (h : tPn X.K G (dComp own caps di g dt de) σ H Q) : tComp own caps (tPs X.K G di) (tG X.K G g) (tPt X.K G dt) (tPv X.K G de) σ H Q := by
 obtain ⟨c, ow, ps, rs, R, e, q⟩ := h
 obtain ⟨ws, e1, e2⟩ := bind_ok e
 split at e2
 ·rename_i hsz
  refine ⟨c, ow, ps, ws, R, e1, fun J H1 vs s1 rep wk => ?_⟩
  intro D hD
  have R1 := R.grow s1
  have hD0 : H D = none := s1.free hD
  let AD : Av := fun a => av c ow a \/ a = D
  let B1 : Av := fun p => H1 p ≠ none
  have usedB : ∀ {H' : Hp}, Same H1 H' -> Used H' B1 := fun {H'} s a z => by
   cases e3 : H1 a with
   | none => exact absurd e3 z
   | some o => rw [s _ _ e3]; simp
  have usedD : ∀ {H' : Hp}, Same H1 H' -> H' D ≠ none -> Used H' AD := by
   intro H' s hd a z
   rcases z with z | z
   ·cases e3 : H1 a with
    | none => exact absurd e3 (R1.used a z)
    | some o => rw [s _ _ e3]; simp
   ·rw [z]; exact hd
  refine ⟨fun i m σ' H' => ∃ (ps' : PSt) (ys : List PV) (us : List V) (rest : List PV), m = ws.length - i /\ i <= ws.length /\ RepF X.K G B1 H' AD ps' σ' /\ (∀ (j : Nat) (x : Ow), ps'[j]? ≠ some (Sl.own x)) /\ Same H1 H' /\ Reps X.K G H' AD ws vs /\ H' D = some (.lst us) /\ Reps X.K G H' AD ys us /\ ys.length <= i /\
    compD g dt de (ws.drop i) ps' = .ok rest /\ ys ++ rest = rs, ?_, ?_⟩
  ·have sD : Same H1 (upd H1 D (.lst [])) := same_upd hD _
   have k : Kp X.K G H1 (av c ow) (upd H1 D (.lst [])) AD := Kp.take hD sD fun a z => z.symm
   have F0 := R1.caps own caps
   refine ⟨_, capP own caps ps, [], [], rs, rfl, Nat.zero_le _, ⟨F0.len, fun i s o h1 h2 => ?_⟩, fun j x z => ?_, sD, k.reps rep, upd_same, rfl, Nat.le_refl _, e2, rfl⟩
   ·have q := F0.slot i s o h1 h2
    cases s with
    | no => exact True.intro
    | v w => obtain ⟨v, e, r⟩ := q; exact ⟨v, e, k.rep r⟩
    | own x => exact q.elim
    | ino x => exact q.elim
    | ini k xs => exact q.elim
    | dol ks xss => exact q.elim
    | als d j => exact q.elim
    | bor w =>
     obtain ⟨v, e, r⟩ := q
     refine ⟨v, e, ?_⟩
     rcases r with r | ⟨x, p, e1, e2, r, n⟩
     ·exact .inl (k.rep r)
     ·obtain ⟨o', eo, _⟩ := r.at
      exact .inr ⟨x, p, e1, e2, r.keep k (by rw [sD _ _ eo, eo]), n⟩
   ·have hl : j < (capP own caps ps).length := (List.getElem?_eq_some_iff.mp z).1
    have hl2 : j < (capS own caps σ).length := by rw [<- F0.len]; exact hl
    exact (F0.slot j _ _ z (List.getElem?_eq_getElem hl2)).elim
  ·rintro i m σ' H' ⟨ps', ys, us, rest, rfl, hi', F, no, sm, rep', hH, ry, hy, ec, er⟩
   have lv := rep'.len
   have wk' := wk H' sm
   rcases Nat.lt_or_ge i ws.length with hlt | hge
   ·right
    have hdr : ws.drop i = ws[i] :: ws.drop (i + 1) := List.drop_eq_getElem_cons hlt
    rw [hdr] at ec
    have hgi : ws[i]? = some ws[i] := List.getElem?_eq_getElem hlt
    obtain ⟨v, hv, rv⟩ := rep'.get hgi
    obtain ⟨go, yl⟩ := wk'.1 i v hv
    refine ⟨go, _, fun _ _ h => h, fun y H2 hyl => ?_⟩
    obtain ⟨rfl, rfl⟩ := yl y H2 hyl
    obtain ⟨ps1, c1, ec⟩ := bind_ok ec
    obtain ⟨bb, c2, ec⟩ := bind_ok ec
    have u' : Used H2 AD := usedD sm (by rw [hH]; simp)
    have S' := F.toS u' (usedB sm)
    have kav : Kp X.K G H2 AD H2 (av ⟨H2, AD, B1, none⟩ ow0) := Kp.weak fun a z => av0 a z
    refine ⟨⟨H2, AD, B1, none⟩, ow0, ps', ws[i], ps1, S', kav.rep rv, c1, fun σ3 ow3 S3 wk3 => ?_⟩
    have no1 : ∀ (j : Nat) (x : Ow), ps1[j]? ≠ some (Sl.own x) := fun j x z => no j x (gk _ _ _ c1 j x z)
    have eow : ow3 = ow0 := by
     funext j
     cases q : ow3 j with
     | none => rfl
     | some p' => exact absurd (S3.fresh j p' q) (S3.a0 p' (av0 p' (wk3 p' (.inr ⟨j, q⟩))))
    subst eow
    refine ⟨⟨H2, AD, B1, none⟩, ow0, ps1, bb, S3, c2, fun H4 s4 => ?_⟩
    have S4 := S3.grow s4
    have aft : ∀ {H5 : Hp}, Same H2 H5 -> RepF X.K G B1 H5 AD ps1 σ3 := fun s5 => RepF.ofS (S3.grow s5) rfl
    split at ec
    ·rename_i hb
     subst hb
     refine iteT ?_
     obtain ⟨yw, c3, ec⟩ := bind_ok ec
     obtain ⟨r', c4, ec⟩ := bind_ok ec
     cases ec
     refine ⟨⟨H2, AD, B1, none⟩, ow0, ps1, yw, S4, c3, fun yv H5 s5 r5 => ?_⟩
     have s25 := s4.trans s5
     have hH5 : H5 D = some (.lst us) := s25 _ _ hH
     have r5' : Rep X.K G H5 AD yw yv := (Kp.weak fun a z => Or.inl z).rep r5
     have mD : Mt (HO.lst us) := And.intro (fun _ z => by cases z) (fun _ _ z => by cases z)
     have kD : ∀ u, Kp X.K G H5 AD (upd H5 D u) AD := fun u => Kp.own (.inr rfl) hH5 mD
     have F5 := aft s25
     refine ⟨us, hH5, ?_, ws.length - (i + 1), by omega, ps1, ys ++ [yw], us ++ [yv], r', rfl, hlt, ⟨F5.len, fun j s o h1 h2 => ?_⟩, no1, fun b u hb => ?_, (kD _).reps (rep'.same s25), upd_same, (kD _).reps ((ry.same s25).snoc r5'), by rw [List.length_append]; simp; omega, c4, by rw [<- er, List.append_assoc]; rfl⟩
     ·rw [<- ry.len]; omega
     ·have q := F5.slot j s o h1 h2
      cases s with
      | no => exact True.intro
      | v w => obtain ⟨v, e, r⟩ := q; exact ⟨v, e, (kD _).rep r⟩
      | own x => exact q.elim
      | ino x => exact q.elim
      | ini k xs => exact q.elim
      | dol ks xss => exact q.elim
      | als d j => exact q.elim
      | bor w =>
       obtain ⟨v, e, r⟩ := q
       refine ⟨v, e, ?_⟩
       rcases r with r | ⟨x, p', e1', e2', r, n⟩
       ·exact .inl ((kD _).rep r)
       ·exact .inr ⟨x, p', e1', e2', r.keep (kD _) (upd_ne (by intro z; subst z; exact n hD)), n⟩
     ·rw [upd_ne (ne_of_none hb hD)]; exact s25 _ _ (sm _ _ hb)
    ·rename_i hb
     have : bb = false := by simpa using hb
     subst this
     exact iteF ⟨ws.length - (i + 1), by omega, ps1, ys, us, rest, rfl, hlt, aft s4, no1, sm.trans s4, rep'.same s4, s4 _ _ hH, ry.same s4, by omega, ec, er⟩
   ·left
    have : i = ws.length := Nat.le_antisymm hi' hge
    subst this
    rw [List.drop_length] at ec
    cases ec
    rw [List.append_nil] at er
    subst er
    refine ⟨by rw [lv]; exact wk'.2, q D us H' (s1.trans sm) hD0 hH ry⟩
 ·cases e2
theorem n_comp {elt iter : Expr} {ifs : List Expr} {scope : Scope} {own : List Str} {caps : List (Str × Nat)} {di : DA} {g : DG} {dt : DT} {de : DP} (S : CompScope X scope own caps) (hc : X.calm = true) (hi : JIs X G tg iter di)
  (hg : ∀ C s₀ H₀ fp, JG (cxB X scope C (capN own caps) s₀ H₀ fp) G tg g) (ht : ∀ C s₀ H₀ fp, JTs (cxB X scope C (capN own caps) s₀ H₀ fp) G ifs dt) (he : ∀ C s₀ H₀ fp, JP (cxB X scope C (capN own caps) s₀ H₀ fp) G elt de)
  (gk : ∀ (w : PV) (ps ps' : PSt), g w ps = .ok ps' -> ∀ (i : Nat) (x : Ow), ps'[i]? = some (Sl.own x) -> ps[i]? = some (Sl.own x))
  (hs : ∀ x, foldedSetIterable iter X.env x = pure x := by intro _; rfl) : JN X G (.ListComp elt [⟨tg, iter, ifs, 0⟩] scope pos) (dComp own caps di g dt de) :=
 imp (pe_comp (wi := tPs X.K G di) (g := tG X.K G g) (tc := tPt X.K G dt) (te := tPv X.K G de) S hc hi hg ht he hs) fun σ H Q h => comp_go gk h
end
end DN
end
section
namespace DN
open PySem PySem.Spec PyProof.Rows L2
section
variable {X : Cx} {G : Pg} {e a b o tg : Expr} {es : List Expr} {da db : DP} {d : DA} {dm : DM} {dma : DMA} {pos p apos cpos : Pos} {x m : Str} {k i : Nat} {ms : List Bool}
def mNil : DMA := fun ps => .ok ([], ps)
def mCons (a : DM) (r : DMA) : DMA := fun ps => (a ps).bind fun x => (r x.2).bind fun y => .ok (x.1 :: y.1, y.2)
def mTup (d : DMA) : DM := fun ps => (d ps).bind fun x => if x.1.length <= 1000 then .ok (.tup x.1, x.2) else .bad
def mPop (i : Nat) : DM := fun ps => match ps[i]? with
 | some (.own (.lst xs)) => (match xs.getLast? with | some w => .ok (w, ps.set i (.own (.lst xs.dropLast))) | none => .bad)
 | _ => .bad
theorem Reps.last {K : Fg} {H : Hp} {A : Av} {ws : List PV} {vs : List V} {w : PV} (r : Reps K G H A ws vs) (e : ws.getLast? = some w) : ∃ v, vs[vs.length - 1]? = some v /\ Rep K G H A w v := by
 rw [List.getLast?_eq_getElem?] at e
 obtain ⟨v, h1, h2⟩ := r.get e
 exact ⟨v, by rw [<- r.len]; exact h1, h2⟩
theorem Reps.dropLast {K : Fg} {H : Hp} {A : Av} {ws : List PV} {vs : List V} (r : Reps K G H A ws vs) : Reps K G H A ws.dropLast vs.dropLast := by
 rw [List.dropLast_eq_take, List.dropLast_eq_take, r.len]
 exact r.take _
def mApp (i : Nat) (d : DM) : DM := fun ps => match ps[i]? with
 | some (.own (.lst _)) => (d ps).bind fun x => (match x.2[i]? with | some (.own (.lst xs)) => if xs.length < sizeLine then .ok (.non, x.2.set i (.own (.lst (xs ++ [x.1])))) else .bad | _ => .bad)
 | _ => .bad
def mFrz (i : Nat) : DM := fun ps => match ps[i]? with
 | some (.own y) => .ok (y.pv, ps.set i (.v y.pv))
 | some (.v w) => .ok (w, ps)
 | _ => .bad
theorem m_frz (i : Nat) (hN : X.N[i]? = some x := by rfl) (hv : Vis X.env.scope x := by first | exact Or.inl rfl | exact Or.inr (Or.inl rfl) | exact Or.inr (Or.inr rfl)) (hd : (x == ("__debug__" : Str)) = false := by decide)
  (hcd : (x == ("__classdict__" : Str)) = false := by decide) : JM X G (.Name x pos) (mFrz i) := imp (pe_var hN hv hd hcd) fun σ H Q ⟨c, ow, ps, w, ps', R, e, q⟩ => by
 unfold mFrz at e
 split at e
 ·rename_i y hy
  cases e
  obtain ⟨p, e1, R', r', k'⟩ := R.frz hy
  exact ⟨_, e1, q _ H _ R' k' r'⟩
 ·rename_i w' hw
  cases e
  obtain ⟨v, ev, r⟩ := R.getV hw
  exact ⟨v, ev, q v H ow R (Kp.of_same (Same.refl H)) r⟩
 ·cases e
def mCall (f : List PV -> Rx PV) (d : DMA) : DM := fun ps => (d ps).bind fun x => (f x.1).bind fun w => .ok (w, x.2)
end
theorem av_on {c : Fr} {ow : Ows} {i : Nat} {p : Addr} : ∀ a, av c (onW ow i p) a -> a = p \/ av c ow a := by
 intro a h
 rcases h with h | ⟨j, h⟩
 ·exact .inr (.inl h)
 ·unfold onW at h
  split at h
  ·cases h; exact .inl rfl
  ·exact .inr (.inr ⟨j, h⟩)
inductive Rs where
 | nx (ps : PSt) | ret (w : PV) | retn (xs : List PV) | reti (w : PV) (x : Ow) | brk (ps : PSt) | cnt (ps : PSt) | bad | exc (c : Nat)
abbrev DS := PSt -> Rs
def EndsAt (K : Fg) (G : Pg) (c : Fr) (H : Hp) (A : Av) (D : Ends) : Rs -> Prop
 | .nx ps => ∀ σ H' ow, RepS K G c H' ow ps σ -> Kp K G H A H' (av c ow) -> D.nx σ H'
 | .ret w => ∀ v H', SmL c H' -> Rep K G H' c.A0 w v -> D.rt v H'
 | .reti w x => ∀ v H' p, SmL c H' -> c.lx = some p -> RepO K G H' c.A0 x p -> Rep K G H' c.A0 w v -> D.rt v H'
 | .retn xs => ∀ p vs H', SmL c H' -> c.H0 p = none -> H' p = some (.lst vs) -> Reps K G H' (fun a => c.A0 a \/ a = p) xs vs -> D.rt (.ref p) H'
 | .brk ps => ∀ σ H' ow, RepS K G c H' ow ps σ -> Kp K G H A H' (av c ow) -> D.bk σ H'
 | .cnt ps => ∀ σ H' ow, RepS K G c H' ow ps σ -> Kp K G H A H' (av c ow) -> D.ct σ H'
 | .bad => False
 | .exc _ => False
theorem EndsAt.mono {K : Fg} {G : Pg} {c : Fr} {H H1 : Hp} {A A1 : Av} {D : Ends} {r : Rs} (h : EndsAt K G c H A D r) (k : Kp K G H A H1 A1) : EndsAt K G c H1 A1 D r := by
 cases r with
 | nx ps => exact fun σ H' ow R k' => h σ H' ow R (k.trans k')
 | ret w => exact h
 | retn xs => exact h
 | reti w x => exact h
 | brk ps => exact fun σ H' ow R k' => h σ H' ow R (k.trans k')
 | cnt ps => exact fun σ H' ow R k' => h σ H' ow R (k.trans k')
 | bad => exact h
 | exc c => exact h
def tD (K : Fg) (G : Pg) (d : DS) : TS := fun D σ H => ∃ (c : Fr) (ow : Ows) (ps : PSt), RepS K G c H ow ps σ /\ EndsAt K G c H (av c ow) D (d ps)
abbrev JS (X : Cx) (G : Pg) (st : Stmt) (d : DS) : Prop := PS X st (tD X.K G d)
abbrev JSs (X : Cx) (G : Pg) (st : List Stmt) (d : DS) : Prop := PSs X st (tD X.K G d)
theorem impS {X : Cx} {st : Stmt} {t t' : TS} (h : PS X st t) (f : ∀ D σ H, t' D σ H -> t D σ H) : PS X st t' := fun pins s σ H D I q => h pins s σ H D I (f D σ H q)
theorem impSs {X : Cx} {st : List Stmt} {t t' : TS} (h : PSs X st t) (f : ∀ D σ H, t' D σ H -> t D σ H) : PSs X st t' := fun pins s σ H D I q => h pins s σ H D I (f D σ H q)
def Rx.st {α : Type} : Rx α -> (α -> Rs) -> Rs
 | .ok a, f => f a
 | .bad, _ => .bad
 | .exc c, _ => .exc c
@[simp] theorem ok_st {α : Type} (a : α) (f : α -> Rs) : (Rx.ok a).st f = f a := rfl
@[simp] theorem bad_st {α : Type} (f : α -> Rs) : (Rx.bad : Rx α).st f = .bad := rfl
@[simp] theorem exc_st {α : Type} (c : Nat) (f : α -> Rs) : (Rx.exc c : Rx α).st f = .exc c := rfl
theorem ends_st {α : Type} {K : Fg} {G : Pg} {c : Fr} {H : Hp} {A : Av} {D : Ends} {m : Rx α} {f : α -> Rs} (h : EndsAt K G c H A D (m.st f)) : ∃ a, m = .ok a /\ EndsAt K G c H A D (f a) := by
 cases m with
 | ok a => exact ⟨a, rfl, h⟩
 | bad => exact h.elim
 | exc c => exact h.elim
section
variable {X : Cx} {G : Pg} {e a b o tg : Expr} {es : List Expr} {da db : DP} {d : DA} {dm : DM} {ds du : DS} {st : Stmt} {rest : List Stmt} {pos p : Pos} {x m : Str} {k i : Nat}
def sNext : DS := fun ps => .nx ps
def sSeq (a b : DS) : DS := fun ps => match a ps with | .nx ps' => b ps' | r => r
theorem ss_nil : JSs X G [] sNext := impSs pss_nil fun D σ H ⟨c, ow, ps, R, q⟩ => q σ H ow R (Kp.of_same (Same.refl H))
theorem ss_one (h : JS X G st ds) : JSs X G [st] ds := pss_one h
theorem ss_cons (h1 : JS X G st ds) (h2 : JSs X G rest du) : JSs X G (st :: rest) (sSeq ds du) := impSs (pss_cons h1 h2) fun D σ H ⟨c, ow, ps, R, q⟩ => by
 refine ⟨c, ow, ps, R, ?_⟩
 unfold sSeq at q
 cases e : ds ps with
 | nx ps' => rw [e] at q; exact fun σ' H' ow' R' k => ⟨c, ow', ps', R', q.mono k⟩
 | ret w => rw [e] at q; exact q
 | retn xs => rw [e] at q; exact q
 | reti w x => rw [e] at q; exact q
 | brk ps' => rw [e] at q; exact q
 | cnt ps' => rw [e] at q; exact q
 | bad => rw [e] at q; exact q
 | exc c => rw [e] at q; exact q
def sBrk : DS := fun ps => .brk ps
def sCnt : DS := fun ps => .cnt ps
def sSet (i : Nat) (d : DP) : DS := fun ps => (d ps).st fun w => .nx (ps.set i (.v w))
theorem s_set (hN : X.N.Nodup) (hi : X.N[i]? = some x) (hx : Loc X.env.scope x) (he : JP X G e da) (hs : swapsWith e (some (.Name x p)) pos.line X.env = pure false := by rfl) (hf : X.fn x = true \/ X.env.scope.names.lookup x = some .local := by first | exact .inl rfl | exact .inr rfl | assumption) :
  JS X G (.Assign [.Name x p] e pos) (sSet i da) := impS (ps_set hN hi hx he hs hf) fun D σ H ⟨c, ow, ps, R, q⟩ => by
 obtain ⟨w, e1, q⟩ := ends_st q
 exact ⟨c, ow, ps, w, R, e1, fun v H' s r => q _ _ _ ((R.grow s).setV r) ((Kp.of_same s).trans (Kp.weak av_off))⟩
def sSetM (i : Nat) (d : DM) : DS := fun ps => (d ps).st fun w => .nx (w.2.set i (.v w.1))
def sOwn (i : Nat) (d : DA) : DS := fun ps => (d ps).st fun ws => if i < ps.length then .nx (ps.set i (.own (.lst ws))) else .bad
def sAsg (g : DG) (d : DP) : DS := fun ps => (d ps).st fun w => (g w ps).st fun ps' => .nx ps'
theorem s_asg {g : DG} (he : JP X G e da) (hg : JG X G tg g) (hs : swapsWithSole [tg] e pos.line X.env = pure false := by rfl) (hw : swappedStores [tg] e X.env = pure none := by rfl) (h1 : (assignEach [tg] X.env).map (·.2) = [assign tg X.env] := by rfl) : JS X G (.Assign [tg] e pos) (sAsg g da) :=
 impS (ps_asg he hg hs hw h1) fun D σ H ⟨c, ow, ps, R, q⟩ => by
  obtain ⟨w, e1, q⟩ := ends_st q
  obtain ⟨ps', e2, q⟩ := ends_st q
  exact ⟨c, ow, ps, w, R, e1, fun v H' s r => ⟨c, ow, ps, w, ps', R.grow s, r, e2, fun σ' ow' R' wk => q _ _ _ R' ((Kp.of_same s).trans (Kp.weak wk))⟩⟩
def sExpr (d : DM) : DS := fun ps => (d ps).st fun w => .nx w.2
def sRet (d : DP) : DS := fun ps => (d ps).st fun w => .ret w
theorem s_ret (he : JP X G e da) : JS X G (.Return (some e) pos) (sRet da) := impS (ps_ret he) fun D σ H ⟨c, ow, ps, R, q⟩ => by
 obtain ⟨w, e1, q⟩ := ends_st q
 exact ⟨c, ow, ps, w, R, e1, fun v H' s r => q v H' (R.same.trans s) ((Kp.weak fun a z => Or.inl z).rep r)⟩
def sRetM (d : DM) : DS := fun ps => (d ps).st fun w => .ret w.1
theorem s_retM (he : JM X G e dm) : JS X G (.Return (some e) pos) (sRetM dm) := impS (ps_ret he) fun D σ H ⟨c, ow, ps, R, q⟩ => by
 obtain ⟨⟨w, ps'⟩, e1, q⟩ := ends_st q
 exact ⟨c, ow, ps, w, ps', R, e1, fun v H' ow' R' k r => q v H' R'.same ((Kp.weak fun a z => Or.inl z).rep r)⟩
def sRetW (d : DA) : DS := fun ps => (d ps).st fun xs => .retn xs
def sRetO (i : Nat) : DS := fun ps => match ps[i]? with | some (.own (.lst xs)) => .retn xs | _ => .bad
def sRetN : DS := fun _ => .ret .non
def sIf (t : DT) (a b : DS) : DS := fun ps => (t ps).st fun x => if x = true then a ps else b ps
theorem s_if {c : Expr} {a b : List Stmt} {dt : DT} (hc : JT X G c dt) (ha : JSs X G a ds) (hb : JSs X G b du) : JS X G (.If c a b pos) (sIf dt ds du) := impS (ps_if hc ha hb) fun D σ H ⟨c, ow, ps, R, q⟩ => by
 obtain ⟨x, e1, q⟩ := ends_st q
 refine ⟨c, ow, ps, x, R, e1, fun H' s => ?_⟩
 split at q
 ·rename_i hx; subst hx; exact iteT ⟨c, ow, ps, R.grow s, q.mono (Kp.of_same s)⟩
 ·rename_i hx
  have : x = false := by simpa using hx
  subst this
  exact iteF ⟨c, ow, ps, R.grow s, q.mono (Kp.of_same s)⟩
def sAug (i : Nat) (f : Int -> Int -> Int) (d : DP) : DS := fun ps => match ps[i]? with
 | some (.v (.int y)) => (d ps).st fun w => (match w with | .int z => .nx (ps.set i (.v (.int (f y z)))) | _ => .bad)
 | _ => .bad
theorem s_aug {op : Operator} {f : Int -> Int -> Int} (hN : X.N.Nodup) (hi : X.N[i]? = some x) (hx : Loc X.env.scope x) (he : JP X G e da) (ho : PIp X op (ipI f)) (hf : X.fn x = true \/ X.env.scope.names.lookup x = some .local := by first | exact .inl rfl | exact .inr rfl | assumption) :
  JS X G (.AugAssign (.Name x p) op e pos) (sAug i f da) := impS (ps_aug hN hi hx he ho hf) fun D σ H ⟨c, ow, ps, R, q⟩ => by
 unfold sAug at q
 split at q
 ·rename_i y hy
  obtain ⟨w, e1, q⟩ := ends_st q
  obtain ⟨v, ev, r⟩ := R.getV hy
  refine ⟨v, ev, c, ow, ps, w, R, e1, fun u H' s ru => ?_⟩
  split at q
  ·rename_i z
   exact ⟨y, z, r, ru, q _ _ _ ((R.grow s).setV rfl) ((Kp.of_same s).trans (Kp.weak av_off))⟩
  ·exact q.elim
 ·exact q.elim
def forD (g : DG) (body : DS) : List PV -> PSt -> Rs
 | [], ps => .nx ps
 | w :: ws, ps => (g w ps).st fun ps1 => match body ps1 with
  | .nx ps2 => forD g body ws ps2
  | .cnt ps2 => forD g body ws ps2
  | .brk ps2 => .nx ps2
  | r => r
def sFor (di : DA) (g : DG) (body : DS) : DS := fun ps => (di ps).st fun ws => forD g body ws ps
theorem s_for {iter : Expr} {body : List Stmt} {di : DA} {g : DG} (hp : PassesOwn (model X.prog X.w) X.A X.env X.xe) (hc : X.calm = true) (hi : JI X G tg iter di) (hg : JG X G tg g) (hb : JSs X G body ds)
  (hs : ∀ x, foldedSetIterable iter X.env x = pure x := by intro _; rfl) : JS X G (.For tg iter body [] pos) (sFor di g ds) := impS (ps_for hp hc hi hg hb hs) fun D σ H ⟨c, ow, ps, R, q⟩ => by
 obtain ⟨ws, e1, q⟩ := ends_st q
 refine ⟨c, ow, ps, ws, R, e1, fun J H1 vs s1 rep wk => ?_⟩
 refine ⟨fun i m σ' H' => ∃ ow' ps', m = ws.length - i /\ i <= ws.length /\ RepS X.K G c H' ow' ps' σ' /\ Kp X.K G H1 (av c ow) H' (av c ow') /\ EndsAt X.K G c H' (av c ow') D (forD g ds (ws.drop i) ps'),
  ⟨_, ow, ps, rfl, Nat.zero_le _, R.grow s1, Kp.of_same (Same.refl _), q.mono (Kp.of_same s1)⟩, ?_⟩
 rintro i m σ' H' ⟨ow', ps', rfl, hi', R', k', q'⟩
 obtain ⟨wg, wst⟩ := wk H' _ k' R'.same
 rcases Nat.lt_or_ge i ws.length with hlt | hge
 ·right
  rw [List.drop_eq_getElem_cons hlt] at q'
  obtain ⟨v, hv, rv⟩ := (k'.reps rep).get (List.getElem?_eq_getElem hlt)
  obtain ⟨go, yl⟩ := wg i v hv
  refine ⟨go, _, fun _ _ h => h, fun y H2 hyl => ?_⟩
  obtain ⟨rfl, rfl⟩ := yl y H2 hyl
  obtain ⟨ps1, c1, q'⟩ := ends_st q'
  refine ⟨c, ow', ps', ws[i], ps1, R', rv, c1, fun σ3 ow3 R3 wk3 => ?_⟩
  have k3 : Kp X.K G H1 (av c ow) H2 (av c ow3) := k'.trans (Kp.weak wk3)
  have q3 := q'.mono (Kp.weak (K := X.K) (G := G) (H := H2) wk3)
  refine ⟨c, ow3, ps1, R3, ?_⟩
  cases er : ds ps1 with
  | nx ps2 =>
   rw [er] at q3
   exact fun σ4 H4 ow4 R4 k4 => ⟨ws.length - (i + 1), by omega, ow4, ps2, rfl, hlt, R4, k3.trans k4, EndsAt.mono q3 k4⟩
  | cnt ps2 =>
   rw [er] at q3
   exact fun σ4 H4 ow4 R4 k4 => ⟨ws.length - (i + 1), by omega, ow4, ps2, rfl, hlt, R4, k3.trans k4, EndsAt.mono q3 k4⟩
  | brk ps2 => rw [er] at q3; exact q3
  | ret w => rw [er] at q3; exact q3
  | retn xs => rw [er] at q3; exact q3
  | reti w x => rw [er] at q3; exact q3
  | bad => rw [er] at q3; exact q3
  | exc c => rw [er] at q3; exact q3
 ·left
  have : i = ws.length := Nat.le_antisymm hi' hge
  subst this
  rw [List.drop_length] at q'
  exact ⟨by rw [rep.len]; exact wst, q' σ' H' ow' R' (Kp.of_same (Same.refl _))⟩
end
def inP (ms : List Bool) (n : Nat) (ws : List PV) : PSt := (List.zipWith (fun m w => if m = true then Sl.bor w else Sl.v w) ms ws) ++ List.replicate (n - ws.length) .no
def runD (ms : List Bool) (n : Nat) (d : DS) (ws : List PV) : Rx PV := if ws.length = ms.length then (match d (inP ms n ws) with | .ret w => .ok w | .retn xs => .ok (.lst xs) | .nx _ => .ok .non | .exc c => .exc c | _ => .bad) else .bad
theorem inF {K : Fg} {G : Pg} {H : Hp} {A : Av} : ∀ {ms : List Bool} {ws : List PV} {vs : List V} {i : Nat} {s : Sl} {o : Option V}, RepM K G H A ms ws vs -> (List.zipWith (fun m w => if m = true then Sl.bor w else Sl.v w) ms ws)[i]? = some s -> (vs.map some)[i]? = some o -> SlF K G (fun p => H p ≠ none) H A s o
 | [], ws, vs, i, s, o, h, e1, e2 => by obtain ⟨rfl, rfl⟩ := h; simp at e1
 | m :: ms, ws, vs, 0, s, o, h, e1, e2 => by
  obtain ⟨w, wr, v, vr, rfl, rfl, r, rr⟩ := h
  simp at e1 e2
  subst e1; subst e2
  cases m with
  | true =>
   simp only [if_pos]
   rw [if_pos rfl] at r
   refine ⟨v, rfl, ?_⟩
   rcases r with r | ⟨x, p, e1, e2, r⟩
   ·exact .inl r
   ·obtain ⟨o', eo, _⟩ := r.at
    exact .inr ⟨x, p, e1, e2, r, by show H p ≠ none; rw [eo]; simp⟩
  | false =>
   rw [if_neg Bool.false_ne_true] at r
   exact ⟨v, rfl, r⟩
 | m :: ms, ws, vs, i + 1, s, o, h, e1, e2 => by
  obtain ⟨w, wr, v, vr, rfl, rfl, r, rr⟩ := h
  exact inF (i := i) rr (by simpa using e1) (by simpa using e2)
theorem in_rep {K : Fg} {G : Pg} {H : Hp} {A : Av} {ms : List Bool} {ws : List PV} {vs : List V} {N : List Str} (r : RepM K G H A ms ws vs) : RepF K G (fun p => H p ≠ none) H A (inP ms N.length ws) (L2.start N vs) := by
 have l1 := r.len.1
 have l2 := r.len.2
 refine ⟨by simp [inP, L2.start, l1, l2], fun i s o e1 e2 => ?_⟩
 unfold inP at e1
 unfold L2.start at e2
 rcases Nat.lt_or_ge i ms.length with h | h
 ·rw [List.getElem?_append_left (by simp [l1]; omega)] at e1
  rw [List.getElem?_append_left (by simp [l2]; omega)] at e2
  exact inF r e1 e2
 ·rw [List.getElem?_append_right (by simp [l1]; omega), List.getElem?_replicate] at e1
  split at e1
  ·cases e1; exact True.intro
  ·cases e1
theorem fn_ok {P : Program} {w : World} {K : Fg} {mg : Str -> Option Value} {base : Bs} {G : Pg} {x qual : Str} {st : Stmt} {f : Addr} {fd : FuncData} {N ps : List Str} {k : Nat} {ms : List Bool} {d : DS} (F : Fun K x qual st f fd) (S : FnScope N ps (defScope st)) (hm : ms.length = ps.length)
  (hb : ∀ (cdv : Value) (A : Around) (outer : List Env) (s : Shared) (H : Hp) (E : XK), Room k (A.deeper (envOfC qual (defScope st) s.heap.objs.size f cdv)) -> JSs (cxOf CX0 P w K mg base N qual (defScope st) f cdv A outer s H E).nox G (defBody st) d) :
  FnOk P w K mg base CX0 (k + 1) f fd ps (spG K G ms (runD ms N.length d)) := by
 refine F.ok S (fun vs H Q E h => ?_) (fun cdv A outer s H vs Q E hr h => ?_)
 ·obtain ⟨A, ws, w, u, r, _⟩ := h
  rw [r.len.2, hm]
 ·obtain ⟨A', ws, w', u, r, e, q⟩ := h
  refine ⟨_, hb cdv A outer s H E hr, ?_⟩
  have F0 := in_rep (N := N) r
  have S0 := F0.toS u fun a z => z
  refine ⟨_, ow0, inP ms N.length ws, S0, ?_⟩
  unfold runD at e
  rw [if_pos r.len.1] at e
  cases ed : d (inP ms N.length ws) with
  | nx ps' => rw [ed] at e; cases e; exact fun σ' H' ow' R' _ => q .non H' (R'.same.same rfl) rfl
  | ret w2 => rw [ed] at e; cases e; exact fun v H' s r => q v H' (s.same rfl) r
  | reti w x => rw [ed] at e; cases e
  | retn xs => rw [ed] at e; cases e; exact fun p vs H' s hp hv r => q (.ref p) H' (s.same rfl) ⟨p, vs, rfl, .inl ⟨hv, fun z => u p z hp⟩, (Kp.weak fun a z => Or.inl z).reps r⟩
  | brk _ => rw [ed] at e; cases e
  | cnt _ => rw [ed] at e; cases e
  | bad => rw [ed] at e; cases e
  | exc _ => rw [ed] at e; cases e
end DN
end
section
namespace DN
open PySem PySem.Spec PyProof.Rows L2
def isF : PV -> Bool
 | .non => true | .bl _ => true | .int _ => true | .str _ => true | _ => false
mutual
def peq : PV -> PV -> Option Bool
 | .tup xs, .tup ys => peqs xs ys
 | .lst xs, .lst ys => if xs.length = ys.length then peqs xs ys else some false
 | .tup _, .lst _ => some false
 | .lst _, .tup _ => some false
 | .tup _, .non => some false | .tup _, .bl _ => some false | .tup _, .int _ => some false | .tup _, .str _ => some false
 | .lst _, .non => some false | .lst _, .bl _ => some false | .lst _, .int _ => some false | .lst _, .str _ => some false
 | .non, .tup _ => some false | .bl _, .tup _ => some false | .int _, .tup _ => some false | .str _, .tup _ => some false
 | .non, .lst _ => some false | .bl _, .lst _ => some false | .int _, .lst _ => some false | .str _, .lst _ => some false
 | .non, .non => some true | .bl a, .bl b => some (a == b) | .int a, .int b => some (a == b) | .str a, .str b => some (a == b)
 | .bl a, .int b => some ((if a then 1 else 0) == b) | .int a, .bl b => some (a == (if b then 1 else 0))
 | .non, .bl _ => some false | .non, .int _ => some false | .non, .str _ => some false
 | .bl _, .non => some false | .int _, .non => some false | .str _, .non => some false
 | .bl _, .str _ => some false | .str _, .bl _ => some false | .int _, .str _ => some false | .str _, .int _ => some false
 | _, _ => none
def peqs : List PV -> List PV -> Option Bool
 | [], [] => some true
 | x :: xs, y :: ys => match peq x y, peqs xs ys with | some a, some b => some (a && b) | _, _ => none
 | [], _ :: _ => some false
 | _ :: _, [] => some false
end
mutual
def PV.depth : PV -> Nat
 | .tup xs => pdepths xs + 1
 | .lst xs => pdepths xs + 1
 | _ => 0
def pdepths : List PV -> Nat
 | [] => 0
 | x :: xs => max x.depth (pdepths xs)
end
def eAt : List PV -> List PV -> Nat -> Bool
 | x :: _, y :: _, 0 => (peq x y).getD false
 | _ :: xs, _ :: ys, j + 1 => eAt xs ys j
 | _, _, _ => false
theorem peqs_cons {x y : PV} {xs ys : List PV} {b : Bool} (h : peqs (x :: xs) (y :: ys) = some b) : ∃ a c, peq x y = some a /\ peqs xs ys = some c /\ b = (a && c) := by
 rw [peqs] at h
 cases e1 : peq x y with
 | none => rw [e1] at h; simp at h
 | some a =>
  cases e2 : peqs xs ys with
  | none => rw [e1, e2] at h; simp at h
  | some c => rw [e1, e2] at h; simp at h; exact ⟨a, c, rfl, rfl, h.symm⟩
theorem peqs_all : ∀ {xs ys : List PV} {b : Bool}, peqs xs ys = some b -> ((List.range (min xs.length ys.length)).all (eAt xs ys) && xs.length == ys.length) = b
 | [], [], b, h => by rw [peqs] at h; cases h; rfl
 | [], y :: ys, b, h => by rw [peqs] at h; cases h; simp
 | x :: xs, [], b, h => by rw [peqs] at h; cases h; simp
 | x :: xs, y :: ys, b, h => by
  obtain ⟨a, c, e1, e2, rfl⟩ := peqs_cons h
  have ih := peqs_all e2
  rw [<- ih, List.length_cons, List.length_cons, Nat.add_min_add_right, List.range_succ_eq_map, List.all_cons, List.all_map]
  have q1 : ((eAt (x :: xs) (y :: ys)) ∘ Nat.succ) = eAt xs ys := rfl
  have q2 : eAt (x :: xs) (y :: ys) 0 = a := by show (peq x y).getD false = a; rw [e1]; rfl
  have q3 : (xs.length + 1 == ys.length + 1) = (xs.length == ys.length) := by simp
  rw [q1, q2, q3, Bool.and_assoc]
section
variable {X : Cx} {G : Pg} {pins : List (Addr × Obj)} {σ : L2.St} {H : Hp} {s : Shared} {A0 : Av}
theorem list_inj' (I : Inv X pins σ H s) {a : Addr} {xs ys : List V} (h : SqL X.K H a xs) (h' : SqL X.K H a ys) : xs = ys := by
 obtain ⟨i1, r1, p1, _⟩ := I.list h
 obtain ⟨i2, r2, p2, _⟩ := I.list h'
 obtain ⟨o, n, e, c, d, q⟩ := p1
 obtain ⟨o', n', e', c', d', q'⟩ := p2
 rw [e] at e'; cases e'
 rw [q] at q'
 have : i1 = i2 := by
  have := (Data.seq.inj q').1
  simpa using this
 subst this
 exact r1.inj r2
mutual
theorem rep_inj (I : Inv X pins σ H s) : ∀ {x y : PV} {v : V} {b : Bool}, Rep X.K G H A0 x v -> Rep X.K G H A0 y v -> peq x y = some b -> b = true
 | .tup xs, y, v, b, h, h', e => by
  obtain ⟨a, vs, rfl, sq, rs⟩ := h
  cases y with
  | tup ys =>
   obtain ⟨a', vs', e2, sq', rs'⟩ := h'
   cases e2
   have := I.tuple_inj sq sq'
   subst this
   rw [peq] at e
   exact reps_inj I rs rs' e
  | lst ys =>
   obtain ⟨a', vs', e2, sq', rs'⟩ := h'
   cases e2
   obtain ⟨_, _, ⟨o, h1, h2, _⟩, _⟩ := I.tuple sq
   obtain ⟨_, _, ⟨o', _, h1', h2', _⟩, _⟩ := I.list sq'.sq
   rw [h1] at h1'; cases h1'
   rw [h2] at h2'; exact absurd (Value.type.inj h2') (by decide)
  | non => cases h'
  | bl _ => cases h'
  | int _ => cases h'
  | str _ => cases h'
  | _ => simp [peq] at e
 | .lst xs, y, v, b, h, h', e => by
  obtain ⟨a, vs, rfl, sq, rs⟩ := h
  cases y with
  | lst ys =>
   obtain ⟨a', vs', e2, sq', rs'⟩ := h'
   cases e2
   have := list_inj' I sq.sq sq'.sq
   subst this
   rw [peq, if_pos (by rw [rs.len, rs'.len])] at e
   exact reps_inj I rs rs' e
  | tup ys =>
   obtain ⟨a', vs', e2, sq', rs'⟩ := h'
   cases e2
   obtain ⟨_, _, ⟨o, h1, h2, _⟩, _⟩ := I.tuple sq'
   obtain ⟨_, _, ⟨o', _, h1', h2', _⟩, _⟩ := I.list sq.sq
   rw [h1] at h1'; cases h1'
   rw [h2] at h2'; exact absurd (Value.type.inj h2') (by decide)
  | non => cases h'
  | bl _ => cases h'
  | int _ => cases h'
  | str _ => cases h'
  | _ => simp [peq] at e
 | .non, y, v, b, h, h', e => by
  cases h
  cases y with
  | non => cases h' <;> (rw [peq] at e; cases e; simp)
  | bl _ => cases h' <;> (rw [peq] at e; cases e; simp)
  | int _ => cases h' <;> (rw [peq] at e; cases e; simp)
  | str _ => cases h' <;> (rw [peq] at e; cases e; simp)
  | tup _ => obtain ⟨_, _, z, _⟩ := h'; cases z
  | lst _ => obtain ⟨_, _, z, _⟩ := h'; cases z
  | dic _ _ => obtain ⟨_, _, z, _⟩ := h'; cases z
  | dit _ _ => obtain ⟨_, _, z, _⟩ := h'; cases z
  | clo _ _ => obtain ⟨_, _, _, z, _⟩ := h'; cases z
  | obj _ _ => obtain ⟨_, _, _, z, _⟩ := h'; cases z
 | .bl k, y, v, b, h, h', e => by
  cases h
  cases y with
  | non => cases h' <;> (rw [peq] at e; cases e; simp)
  | bl _ => cases h' <;> (rw [peq] at e; cases e; simp)
  | int _ => cases h' <;> (rw [peq] at e; cases e; simp)
  | str _ => cases h' <;> (rw [peq] at e; cases e; simp)
  | tup _ => obtain ⟨_, _, z, _⟩ := h'; cases z
  | lst _ => obtain ⟨_, _, z, _⟩ := h'; cases z
  | dic _ _ => obtain ⟨_, _, z, _⟩ := h'; cases z
  | dit _ _ => obtain ⟨_, _, z, _⟩ := h'; cases z
  | clo _ _ => obtain ⟨_, _, _, z, _⟩ := h'; cases z
  | obj _ _ => obtain ⟨_, _, _, z, _⟩ := h'; cases z
 | .int k, y, v, b, h, h', e => by
  cases h
  cases y with
  | non => cases h' <;> (rw [peq] at e; cases e; simp)
  | bl _ => cases h' <;> (rw [peq] at e; cases e; simp)
  | int _ => cases h' <;> (rw [peq] at e; cases e; simp)
  | str _ => cases h' <;> (rw [peq] at e; cases e; simp)
  | tup _ => obtain ⟨_, _, z, _⟩ := h'; cases z
  | lst _ => obtain ⟨_, _, z, _⟩ := h'; cases z
  | dic _ _ => obtain ⟨_, _, z, _⟩ := h'; cases z
  | dit _ _ => obtain ⟨_, _, z, _⟩ := h'; cases z
  | clo _ _ => obtain ⟨_, _, _, z, _⟩ := h'; cases z
  | obj _ _ => obtain ⟨_, _, _, z, _⟩ := h'; cases z
 | .str k, y, v, b, h, h', e => by
  cases h
  cases y with
  | non => cases h' <;> (rw [peq] at e; cases e; simp)
  | bl _ => cases h' <;> (rw [peq] at e; cases e; simp)
  | int _ => cases h' <;> (rw [peq] at e; cases e; simp)
  | str _ => cases h' <;> (rw [peq] at e; cases e; simp)
  | tup _ => obtain ⟨_, _, z, _⟩ := h'; cases z
  | lst _ => obtain ⟨_, _, z, _⟩ := h'; cases z
  | dic _ _ => obtain ⟨_, _, z, _⟩ := h'; cases z
  | dit _ _ => obtain ⟨_, _, z, _⟩ := h'; cases z
  | clo _ _ => obtain ⟨_, _, _, z, _⟩ := h'; cases z
  | obj _ _ => obtain ⟨_, _, _, z, _⟩ := h'; cases z
 | .obj k xs, y, v, b, h, h', e => by
  cases y <;> simp [peq] at e
 | .dic k xs, y, v, b, h, h', e => by
  cases y <;> simp [peq] at e
 | .dit k xs, y, v, b, h, h', e => by
  cases y <;> simp [peq] at e
 | .clo k xs, y, v, b, h, h', e => by
  cases y <;> simp [peq] at e
theorem reps_inj (I : Inv X pins σ H s) : ∀ {xs ys : List PV} {vs : List V} {b : Bool}, Reps X.K G H A0 xs vs -> Reps X.K G H A0 ys vs -> peqs xs ys = some b -> b = true
 | [], [], vs, b, h, h', e => by rw [peqs] at e; cases e; rfl
 | [], y :: ys, vs, b, h, h', e => by
  obtain ⟨v, r, e2, _⟩ := h'
  have h : vs = [] := h
  rw [h] at e2; cases e2
 | x :: xs, [], vs, b, h, h', e => by
  obtain ⟨v, r, e2, _⟩ := h
  have h' : vs = [] := h'
  rw [h'] at e2; cases e2
 | x :: xs, y :: ys, vs, b, h, h', e => by
  obtain ⟨v, r, rfl, h1, h2⟩ := h
  obtain ⟨v', r', e2, h1', h2'⟩ := h'
  cases e2
  obtain ⟨a, c, e1, e2, rfl⟩ := peqs_cons e
  rw [rep_inj I h1 h1' e1, reps_inj I h2 h2' e2]; rfl
end
mutual
theorem eqp (I : Inv X pins σ H s) : ∀ {x y : PV} {v v' : V} {u u' : Value} {A : Around} {b : Bool}, A.units + x.depth < cLine -> Rep X.K G H A0 x v -> Rep X.K G H A0 y v' -> RelV v u -> RelV v' u' -> peq x y = some b -> SeqAt.EqAt A s u u' b
 | .tup xs, y, v, v', u, u', A, b, hu, h, h', r, r', e => by
  have hu0 : A.units < cLine := Nat.lt_of_le_of_lt (Nat.le_add_right _ _) hu
  have h0 := h
  obtain ⟨a, vs, rfl, sq, rs⟩ := h
  obtain rfl : u = Value.ref a := r
  obtain ⟨its, r1, p1, _⟩ := I.tuple sq
  cases y with
  | tup ys =>
   have h0' := h'
   obtain ⟨a', vs', rfl, sq', rs'⟩ := h'
   obtain rfl : u' = Value.ref a' := r'
   by_cases ea : a = a'
   ·subst ea
    rw [rep_inj I h0 h0' e]
    exact SeqAt.EqAt.same _
   ·obtain ⟨its', r2, p2, _⟩ := I.tuple sq'
    have hd : (PV.tup xs).depth = pdepths xs + 1 := by rw [PV.depth]
    rw [peq] at e
    refine SeqAt.EqAt.of_refs ea ?_
    have q := SeqAt.RcAt.tuples (A := A) (e := eAt xs ys) p1 p2 (by omega) fun j h1 h2 => by
     have h1' : j < its.length := by simpa using h1
     have h2' : j < its'.length := by simpa using h2
     have := eqps I (A := A.in1) (j := j) (by show A.units + 1 + pdepths xs < cLine; omega) rs rs' r1 r2 e (List.getElem?_eq_getElem h1') (List.getElem?_eq_getElem h2')
     simpa using this
    have e4 : its.toArray.size = xs.length := by rw [List.size_toArray, <- r1.length, rs.len]
    have e5 : its'.toArray.size = ys.length := by rw [List.size_toArray, <- r2.length, rs'.len]
    rw [e4, e5, peqs_all e] at q
    exact q
  | lst ys =>
   obtain ⟨a', vs', rfl, sq', rs'⟩ := h'
   obtain rfl : u' = Value.ref a' := r'
   obtain ⟨its', r2, p2, _⟩ := I.list sq'.sq
   rw [peq] at e; cases e
   exact SeqAt.EqAt.tuple_list p1 p2.isList hu0
  | non => cases h'; cases r'; rw [peq] at e; cases e; exact SeqAt.EqAt.tuple_none p1 hu0
  | bl k => cases h'; cases r'; rw [peq] at e; cases e; exact SeqAt.EqAt.tuple_bool k p1 hu0
  | int k => cases h'; obtain ⟨t, rfl⟩ := r'; rw [peq] at e; cases e; exact SeqAt.EqAt.tuple_int k t p1 hu0
  | str k => cases h'; obtain ⟨t, rfl⟩ := r'; rw [peq] at e; cases e; exact SeqAt.EqAt.tuple_str k t p1 hu0
  | _ => simp [peq] at e
 | .lst xs, y, v, v', u, u', A, b, hu, h, h', r, r', e => by
  have hu0 : A.units < cLine := Nat.lt_of_le_of_lt (Nat.le_add_right _ _) hu
  have h0 := h
  obtain ⟨a, vs, rfl, sq, rs⟩ := h
  obtain rfl : u = Value.ref a := r
  obtain ⟨its, r1, p1, _⟩ := I.list sq.sq
  cases y with
  | lst ys =>
   have h0' := h'
   obtain ⟨a', vs', rfl, sq', rs'⟩ := h'
   obtain rfl : u' = Value.ref a' := r'
   by_cases ea : a = a'
   ·subst ea
    rw [rep_inj I h0 h0' e]
    exact SeqAt.EqAt.same _
   ·obtain ⟨its', r2, p2, _⟩ := I.list sq'.sq
    have hd : (PV.lst xs).depth = pdepths xs + 1 := by rw [PV.depth]
    have e4 : its.toArray.size = xs.length := by rw [List.size_toArray, <- r1.length, rs.len]
    have e5 : its'.toArray.size = ys.length := by rw [List.size_toArray, <- r2.length, rs'.len]
    refine SeqAt.EqAt.of_refs ea ?_
    rw [peq] at e
    by_cases hl : xs.length = ys.length
    ·rw [if_pos hl] at e
     have q := SeqAt.RcAt.lists (A := A) (e := eAt xs ys) p1.isList p2.isList (by rw [e4, e5, hl]) (by omega) fun j h1 h2 => by
      have h1' : j < its.length := by simpa using h1
      have h2' : j < its'.length := by simpa using h2
      have := eqps I (A := A.in1) (j := j) (by show A.units + 1 + pdepths xs < cLine; omega) rs rs' r1 r2 e (List.getElem?_eq_getElem h1') (List.getElem?_eq_getElem h2')
      simpa using this
     have q2 := peqs_all e
     rw [hl, Nat.min_self, beq_self_eq_true, Bool.and_true] at q2
     rw [e4, hl, q2] at q
     exact q
    ·rw [if_neg hl] at e
     cases e
     exact SeqAt.RcAt.lists_lengths p1.isList p2.isList (by rw [e4, e5]; simpa using hl) hu0
  | tup ys =>
   obtain ⟨a', vs', rfl, sq', rs'⟩ := h'
   obtain rfl : u' = Value.ref a' := r'
   obtain ⟨its', r2, p2, _⟩ := I.tuple sq'
   rw [peq] at e; cases e
   exact SeqAt.EqAt.list_tuple p1.isList p2 hu0
  | non => cases h'; cases r'; rw [peq] at e; cases e; exact SeqAt.EqAt.list_none p1.isList hu0
  | bl k => cases h'; cases r'; rw [peq] at e; cases e; exact SeqAt.EqAt.list_bool k p1.isList hu0
  | int k => cases h'; obtain ⟨t, rfl⟩ := r'; rw [peq] at e; cases e; exact SeqAt.EqAt.list_int k t p1.isList hu0
  | str k => cases h'; obtain ⟨t, rfl⟩ := r'; rw [peq] at e; cases e; exact SeqAt.EqAt.list_str k t p1.isList hu0
  | _ => simp [peq] at e
 | .non, y, v, v', u, u', A, b, hu, h, h', r, r', e => by
  have hu0 : A.units < cLine := Nat.lt_of_le_of_lt (Nat.le_add_right _ _) hu
  cases h
  cases r
  cases y with
  | non => cases h'; cases r'; rw [peq] at e; cases e; exact SeqAt.EqAt.same _
  | bl k => cases h'; cases r'; rw [peq] at e; cases e; exact SeqAt.EqAt.none_bool k
  | int k => cases h'; obtain ⟨t, rfl⟩ := r'; rw [peq] at e; cases e; exact SeqAt.EqAt.none_int k t
  | str k => cases h'; obtain ⟨t, rfl⟩ := r'; rw [peq] at e; cases e; exact SeqAt.EqAt.none_str k t
  | tup ys =>
   obtain ⟨a', vs', rfl, sq', rs'⟩ := h'
   obtain rfl : u' = Value.ref a' := r'
   obtain ⟨its', r2, p2, _⟩ := I.tuple sq'
   rw [peq] at e; cases e
   exact SeqAt.EqAt.none_tuple p2 hu0
  | lst ys =>
   obtain ⟨a', vs', rfl, sq', rs'⟩ := h'
   obtain rfl : u' = Value.ref a' := r'
   obtain ⟨its', r2, p2, _⟩ := I.list sq'.sq
   rw [peq] at e; cases e
   exact SeqAt.EqAt.none_list p2.isList hu0
  | _ => simp [peq] at e
 | .bl k0, y, v, v', u, u', A, b, hu, h, h', r, r', e => by
  have hu0 : A.units < cLine := Nat.lt_of_le_of_lt (Nat.le_add_right _ _) hu
  cases h
  cases r
  cases y with
  | non => cases h'; cases r'; rw [peq] at e; cases e; exact SeqAt.EqAt.bool_none k0
  | bl k => cases h'; cases r'; rw [peq] at e; cases e; exact SeqAt.EqAt.bool_bool k0 k
  | int k => cases h'; obtain ⟨t, rfl⟩ := r'; rw [peq] at e; cases e; exact SeqAt.EqAt.bool_int k0 k t
  | str k => cases h'; obtain ⟨t, rfl⟩ := r'; rw [peq] at e; cases e; exact SeqAt.EqAt.bool_str k0 k t
  | tup ys =>
   obtain ⟨a', vs', rfl, sq', rs'⟩ := h'
   obtain rfl : u' = Value.ref a' := r'
   obtain ⟨its', r2, p2, _⟩ := I.tuple sq'
   rw [peq] at e; cases e
   exact SeqAt.EqAt.bool_tuple k0 p2 hu0
  | lst ys =>
   obtain ⟨a', vs', rfl, sq', rs'⟩ := h'
   obtain rfl : u' = Value.ref a' := r'
   obtain ⟨its', r2, p2, _⟩ := I.list sq'.sq
   rw [peq] at e; cases e
   exact SeqAt.EqAt.bool_list k0 p2.isList hu0
  | _ => simp [peq] at e
 | .int k0, y, v, v', u, u', A, b, hu, h, h', r, r', e => by
  have hu0 : A.units < cLine := Nat.lt_of_le_of_lt (Nat.le_add_right _ _) hu
  cases h
  obtain ⟨t0, rfl⟩ := r
  cases y with
  | non => cases h'; cases r'; rw [peq] at e; cases e; exact SeqAt.EqAt.int_none k0 t0
  | bl k => cases h'; cases r'; rw [peq] at e; cases e; exact SeqAt.EqAt.int_bool k0 t0 k
  | int k => cases h'; obtain ⟨t, rfl⟩ := r'; rw [peq] at e; cases e; exact SeqAt.EqAt.int_int k0 t0 k t
  | str k => cases h'; obtain ⟨t, rfl⟩ := r'; rw [peq] at e; cases e; exact SeqAt.EqAt.int_str k0 t0 k t
  | tup ys =>
   obtain ⟨a', vs', rfl, sq', rs'⟩ := h'
   obtain rfl : u' = Value.ref a' := r'
   obtain ⟨its', r2, p2, _⟩ := I.tuple sq'
   rw [peq] at e; cases e
   exact SeqAt.EqAt.int_tuple k0 t0 p2 hu0
  | lst ys =>
   obtain ⟨a', vs', rfl, sq', rs'⟩ := h'
   obtain rfl : u' = Value.ref a' := r'
   obtain ⟨its', r2, p2, _⟩ := I.list sq'.sq
   rw [peq] at e; cases e
   exact SeqAt.EqAt.int_list k0 t0 p2.isList hu0
  | _ => simp [peq] at e
 | .str k0, y, v, v', u, u', A, b, hu, h, h', r, r', e => by
  have hu0 : A.units < cLine := Nat.lt_of_le_of_lt (Nat.le_add_right _ _) hu
  cases h
  obtain ⟨t0, rfl⟩ := r
  cases y with
  | non => cases h'; cases r'; rw [peq] at e; cases e; exact SeqAt.EqAt.str_none k0 t0
  | bl k => cases h'; cases r'; rw [peq] at e; cases e; exact SeqAt.EqAt.str_bool k0 t0 k
  | int k => cases h'; obtain ⟨t, rfl⟩ := r'; rw [peq] at e; cases e; exact SeqAt.EqAt.str_int k0 t0 k t
  | str k => cases h'; obtain ⟨t, rfl⟩ := r'; rw [peq] at e; cases e; exact SeqAt.EqAt.str_str k0 t0 k t
  | tup ys =>
   obtain ⟨a', vs', rfl, sq', rs'⟩ := h'
   obtain rfl : u' = Value.ref a' := r'
   obtain ⟨its', r2, p2, _⟩ := I.tuple sq'
   rw [peq] at e; cases e
   exact SeqAt.EqAt.str_tuple k0 t0 p2 hu0
  | lst ys =>
   obtain ⟨a', vs', rfl, sq', rs'⟩ := h'
   obtain rfl : u' = Value.ref a' := r'
   obtain ⟨its', r2, p2, _⟩ := I.list sq'.sq
   rw [peq] at e; cases e
   exact SeqAt.EqAt.str_list k0 t0 p2.isList hu0
  | _ => simp [peq] at e
 | .obj k xs, y, v, v', u, u', A, b, hu, h, h', r, r', e => by
  cases y <;> simp [peq] at e
 | .dic k xs, y, v, v', u, u', A, b, hu, h, h', r, r', e => by
  cases y <;> simp [peq] at e
 | .dit k xs, y, v, v', u, u', A, b, hu, h, h', r, r', e => by
  cases y <;> simp [peq] at e
 | .clo k xs, y, v, v', u, u', A, b, hu, h, h', r, r', e => by
  cases y <;> simp [peq] at e
theorem eqps (I : Inv X pins σ H s) : ∀ {xs ys : List PV} {vs vs' : List V} {us us' : List Value} {A : Around} {j : Nat} {u u' : Value} {b : Bool}, A.units + pdepths xs < cLine -> Reps X.K G H A0 xs vs -> Reps X.K G H A0 ys vs' -> Vals vs us -> Vals vs' us' -> peqs xs ys = some b ->
  us[j]? = some u -> us'[j]? = some u' -> SeqAt.EqAt A s u u' (eAt xs ys j)
 | [], ys, vs, vs', us, us', A, j, u, u', b, hu, h, h', r, r', e, q, q' => by
  have h : vs = [] := h
  subst h; cases r
  simp at q
 | x :: xs, [], vs, vs', us, us', A, j, u, u', b, hu, h, h', r, r', e, q, q' => by
  have h' : vs' = [] := h'
  subst h'; cases r'
  simp at q'
 | x :: xs, y :: ys, vs, vs', us, us', A, j, u, u', b, hu, h, h', r, r', e, q, q' => by
  obtain ⟨v, t, rfl, h1, h2⟩ := h
  obtain ⟨v', t', rfl, h1', h2'⟩ := h'
  obtain ⟨a, c, e1, e2, rfl⟩ := peqs_cons e
  have hd : pdepths (x :: xs) = max x.depth (pdepths xs) := by rw [pdepths]
  cases r with
  | cons rx rt =>
   cases r' with
   | cons rx' rt' =>
    cases j with
    | zero =>
     simp at q q'
     subst q; subst q'
     have : eAt (x :: xs) (y :: ys) 0 = a := by show (peq x y).getD false = a; rw [e1]; rfl
     rw [this]
     exact eqp I (by omega) h1 h1' rx rx' e1
    | succ j => exact eqps I (j := j) (by omega) h2 h2' rt rt' e2 (by simpa using q) (by simpa using q')
end
theorem rcp (I : Inv X pins σ H s) : ∀ {x y : PV} {v v' : V} {u u' : Value} {A : Around} {b : Bool}, A.units + x.depth < cLine -> RepB X.K G H A0 x v -> RepB X.K G H A0 y v' -> RelV v u -> RelV v' u' -> peq x y = some b -> SeqAt.RcAt A s u u' b := by
 intro x y v v' u u' A b hu h h' r r' e
 have hu0 : A.units < cLine := Nat.lt_of_le_of_lt (Nat.le_add_right _ _) hu
 cases x with
 | tup xs =>
  obtain ⟨a, vs, rfl, sq, rs⟩ := h.tup
  obtain rfl : u = Value.ref a := r
  obtain ⟨its, r1, p1, _⟩ := I.tuple sq
  cases y with
  | tup ys =>
   obtain ⟨a', vs', rfl, sq', rs'⟩ := h'.tup
   obtain rfl : u' = Value.ref a' := r'
   obtain ⟨its', r2, p2, _⟩ := I.tuple sq'
   rw [peq] at e
   have hd : (PV.tup xs).depth = pdepths xs + 1 := by rw [PV.depth]
   have e4 : its.toArray.size = xs.length := by rw [List.size_toArray, <- r1.length, rs.len]
   have e5 : its'.toArray.size = ys.length := by rw [List.size_toArray, <- r2.length, rs'.len]
   have q := SeqAt.RcAt.tuples (A := A) (s := s) (e := eAt xs ys) p1 p2 (by omega) fun j h1 h2 => by
     have h1' : j < its.length := by simpa using h1
     have h2' : j < its'.length := by simpa using h2
     have := eqps I (A := A.in1) (j := j) (by show A.units + 1 + pdepths xs < cLine; omega) rs rs' r1 r2 e (List.getElem?_eq_getElem h1') (List.getElem?_eq_getElem h2')
     simpa using this
   rw [e4, e5, peqs_all e] at q
   exact q
  | lst ys =>
   obtain ⟨a', vs', rfl, sq', rs'⟩ := h'.lst
   obtain rfl : u' = Value.ref a' := r'
   obtain ⟨its', r2, p2, _⟩ := I.list sq'
   rw [peq] at e
   cases e
   exact SeqAt.RcAt.tuple_list p1 p2.isList hu0
  | non => rw [h'.non] at r'; cases r'; rw [peq] at e; cases e; exact SeqAt.RcAt.tuple_none p1 hu0
  | bl k => rw [h'.bl] at r'; cases r'; rw [peq] at e; cases e; exact SeqAt.RcAt.tuple_bool k p1 hu0
  | int k => rw [h'.int] at r'; obtain ⟨t, rfl⟩ := r'; rw [peq] at e; cases e; exact SeqAt.RcAt.tuple_int k t p1 hu0
  | str k => rw [h'.str] at r'; obtain ⟨t, rfl⟩ := r'; rw [peq] at e; cases e; exact SeqAt.RcAt.tuple_str k t p1 hu0
  | _ => simp [peq] at e
 | lst xs =>
  obtain ⟨a, vs, rfl, sq, rs⟩ := h.lst
  obtain rfl : u = Value.ref a := r
  obtain ⟨its, r1, p1, _⟩ := I.list sq
  cases y with
  | tup ys =>
   obtain ⟨a', vs', rfl, sq', rs'⟩ := h'.tup
   obtain rfl : u' = Value.ref a' := r'
   obtain ⟨its', r2, p2, _⟩ := I.tuple sq'
   rw [peq] at e
   cases e
   exact SeqAt.RcAt.list_tuple p1.isList p2 hu0
  | lst ys =>
   obtain ⟨a', vs', rfl, sq', rs'⟩ := h'.lst
   obtain rfl : u' = Value.ref a' := r'
   obtain ⟨its', r2, p2, _⟩ := I.list sq'
   rw [peq] at e
   have hd : (PV.lst xs).depth = pdepths xs + 1 := by rw [PV.depth]
   have e4 : its.toArray.size = xs.length := by rw [List.size_toArray, <- r1.length, rs.len]
   have e5 : its'.toArray.size = ys.length := by rw [List.size_toArray, <- r2.length, rs'.len]
   by_cases hl : xs.length = ys.length
   ·rw [if_pos hl] at e
    have q := SeqAt.RcAt.lists (A := A) (s := s) (e := eAt xs ys) p1.isList p2.isList (by rw [e4, e5, hl]) (by omega) fun j h1 h2 => by
      have h1' : j < its.length := by simpa using h1
      have h2' : j < its'.length := by simpa using h2
      have := eqps I (A := A.in1) (j := j) (by show A.units + 1 + pdepths xs < cLine; omega) rs rs' r1 r2 e (List.getElem?_eq_getElem h1') (List.getElem?_eq_getElem h2')
      simpa using this
    have q2 := peqs_all e
    rw [hl, Nat.min_self, beq_self_eq_true, Bool.and_true] at q2
    rw [e4, hl, q2] at q
    exact q
   ·rw [if_neg hl] at e
    cases e
    exact SeqAt.RcAt.lists_lengths p1.isList p2.isList (by rw [e4, e5]; simpa using hl) hu0
  | non => rw [h'.non] at r'; cases r'; rw [peq] at e; cases e; exact SeqAt.RcAt.list_none p1.isList hu0
  | bl k => rw [h'.bl] at r'; cases r'; rw [peq] at e; cases e; exact SeqAt.RcAt.list_bool k p1.isList hu0
  | int k => rw [h'.int] at r'; obtain ⟨t, rfl⟩ := r'; rw [peq] at e; cases e; exact SeqAt.RcAt.list_int k t p1.isList hu0
  | str k => rw [h'.str] at r'; obtain ⟨t, rfl⟩ := r'; rw [peq] at e; cases e; exact SeqAt.RcAt.list_str k t p1.isList hu0
  | _ => simp [peq] at e
 | non =>
  rw [h.non] at r
  cases r
  cases y with
  | non => rw [h'.non] at r'; cases r'; rw [peq] at e; cases e; exact SeqAt.RcAt.none_none
  | bl k => rw [h'.bl] at r'; cases r'; rw [peq] at e; cases e; exact SeqAt.RcAt.none_bool k
  | int k => rw [h'.int] at r'; obtain ⟨t, rfl⟩ := r'; rw [peq] at e; cases e; exact SeqAt.RcAt.none_int k t
  | str k => rw [h'.str] at r'; obtain ⟨t, rfl⟩ := r'; rw [peq] at e; cases e; exact SeqAt.RcAt.none_str k t
  | tup ys =>
   obtain ⟨a', vs', rfl, sq', rs'⟩ := h'.tup
   obtain rfl : u' = Value.ref a' := r'
   obtain ⟨its', r2, p2, _⟩ := I.tuple sq'
   rw [peq] at e; cases e
   exact SeqAt.RcAt.none_tuple p2 hu0
  | lst ys =>
   obtain ⟨a', vs', rfl, sq', rs'⟩ := h'.lst
   obtain rfl : u' = Value.ref a' := r'
   obtain ⟨its', r2, p2, _⟩ := I.list sq'
   rw [peq] at e; cases e
   exact SeqAt.RcAt.none_list p2.isList hu0
  | _ => simp [peq] at e
 | bl k0 =>
  rw [h.bl] at r
  cases r
  cases y with
  | non => rw [h'.non] at r'; cases r'; rw [peq] at e; cases e; exact SeqAt.RcAt.bool_none k0
  | bl k => rw [h'.bl] at r'; cases r'; rw [peq] at e; cases e; exact SeqAt.RcAt.bool_bool k0 k
  | int k => rw [h'.int] at r'; obtain ⟨t, rfl⟩ := r'; rw [peq] at e; cases e; exact SeqAt.RcAt.bool_int k0 k t
  | str k => rw [h'.str] at r'; obtain ⟨t, rfl⟩ := r'; rw [peq] at e; cases e; exact SeqAt.RcAt.bool_str k0 k t
  | tup ys =>
   obtain ⟨a', vs', rfl, sq', rs'⟩ := h'.tup
   obtain rfl : u' = Value.ref a' := r'
   obtain ⟨its', r2, p2, _⟩ := I.tuple sq'
   rw [peq] at e; cases e
   exact SeqAt.RcAt.bool_tuple k0 p2 hu0
  | lst ys =>
   obtain ⟨a', vs', rfl, sq', rs'⟩ := h'.lst
   obtain rfl : u' = Value.ref a' := r'
   obtain ⟨its', r2, p2, _⟩ := I.list sq'
   rw [peq] at e; cases e
   exact SeqAt.RcAt.bool_list k0 p2.isList hu0
  | _ => simp [peq] at e
 | int k0 =>
  rw [h.int] at r
  obtain ⟨t0, rfl⟩ := r
  cases y with
  | non => rw [h'.non] at r'; cases r'; rw [peq] at e; cases e; exact SeqAt.RcAt.int_none k0 t0
  | bl k => rw [h'.bl] at r'; cases r'; rw [peq] at e; cases e; exact SeqAt.RcAt.int_bool k0 t0 k
  | int k => rw [h'.int] at r'; obtain ⟨t, rfl⟩ := r'; rw [peq] at e; cases e; exact SeqAt.RcAt.int_int k0 t0 k t
  | str k => rw [h'.str] at r'; obtain ⟨t, rfl⟩ := r'; rw [peq] at e; cases e; exact SeqAt.RcAt.int_str k0 t0 k t
  | tup ys =>
   obtain ⟨a', vs', rfl, sq', rs'⟩ := h'.tup
   obtain rfl : u' = Value.ref a' := r'
   obtain ⟨its', r2, p2, _⟩ := I.tuple sq'
   rw [peq] at e; cases e
   exact SeqAt.RcAt.int_tuple k0 t0 p2 hu0
  | lst ys =>
   obtain ⟨a', vs', rfl, sq', rs'⟩ := h'.lst
   obtain rfl : u' = Value.ref a' := r'
   obtain ⟨its', r2, p2, _⟩ := I.list sq'
   rw [peq] at e; cases e
   exact SeqAt.RcAt.int_list k0 t0 p2.isList hu0
  | _ => simp [peq] at e
 | str k0 =>
  rw [h.str] at r
  obtain ⟨t0, rfl⟩ := r
  cases y with
  | non => rw [h'.non] at r'; cases r'; rw [peq] at e; cases e; exact SeqAt.RcAt.str_none k0 t0
  | bl k => rw [h'.bl] at r'; cases r'; rw [peq] at e; cases e; exact SeqAt.RcAt.str_bool k0 t0 k
  | int k => rw [h'.int] at r'; obtain ⟨t, rfl⟩ := r'; rw [peq] at e; cases e; exact SeqAt.RcAt.str_int k0 t0 k t
  | str k => rw [h'.str] at r'; obtain ⟨t, rfl⟩ := r'; rw [peq] at e; cases e; exact SeqAt.RcAt.str_str k0 t0 k t
  | tup ys =>
   obtain ⟨a', vs', rfl, sq', rs'⟩ := h'.tup
   obtain rfl : u' = Value.ref a' := r'
   obtain ⟨its', r2, p2, _⟩ := I.tuple sq'
   rw [peq] at e; cases e
   exact SeqAt.RcAt.str_tuple k0 t0 p2 hu0
  | lst ys =>
   obtain ⟨a', vs', rfl, sq', rs'⟩ := h'.lst
   obtain rfl : u' = Value.ref a' := r'
   obtain ⟨its', r2, p2, _⟩ := I.list sq'
   rw [peq] at e; cases e
   exact SeqAt.RcAt.str_list k0 t0 p2.isList hu0
  | _ => simp [peq] at e
 | obj _ _ => cases y <;> simp [peq] at e
 | dic _ _ => cases y <;> simp [peq] at e
 | dit _ _ => cases y <;> simp [peq] at e
 | clo _ _ => cases y <;> simp [peq] at e
theorem rnp (I : Inv X pins σ H s) : ∀ {x y : PV} {v v' : V} {u u' : Value} {A : Around} {b : Bool}, A.units + x.depth < cLine -> RepB X.K G H A0 x v -> RepB X.K G H A0 y v' -> RelV v u -> RelV v' u' -> peq x y = some b -> SeqAt.RcNeAt A s u u' (!b) := by
 intro x y v v' u u' A b hu h h' r r' e
 have hu0 : A.units < cLine := Nat.lt_of_le_of_lt (Nat.le_add_right _ _) hu
 cases x with
 | tup xs =>
  obtain ⟨a, vs, rfl, sq, rs⟩ := h.tup
  obtain rfl : u = Value.ref a := r
  obtain ⟨its, r1, p1, _⟩ := I.tuple sq
  cases y with
  | tup ys =>
   obtain ⟨a', vs', rfl, sq', rs'⟩ := h'.tup
   obtain rfl : u' = Value.ref a' := r'
   obtain ⟨its', r2, p2, _⟩ := I.tuple sq'
   rw [peq] at e
   have hd : (PV.tup xs).depth = pdepths xs + 1 := by rw [PV.depth]
   have e4 : its.toArray.size = xs.length := by rw [List.size_toArray, <- r1.length, rs.len]
   have e5 : its'.toArray.size = ys.length := by rw [List.size_toArray, <- r2.length, rs'.len]
   have q := SeqAt.RcNeAt.tuples (A := A) (s := s) (e := eAt xs ys) p1 p2 (by omega) fun j h1 h2 => by
     have h1' : j < its.length := by simpa using h1
     have h2' : j < its'.length := by simpa using h2
     have := eqps I (A := A.in1) (j := j) (by show A.units + 1 + pdepths xs < cLine; omega) rs rs' r1 r2 e (List.getElem?_eq_getElem h1') (List.getElem?_eq_getElem h2')
     simpa using this
   rw [e4, e5, peqs_all e] at q
   exact q
  | lst ys =>
   obtain ⟨a', vs', rfl, sq', rs'⟩ := h'.lst
   obtain rfl : u' = Value.ref a' := r'
   obtain ⟨its', r2, p2, _⟩ := I.list sq'
   rw [peq] at e
   cases e
   exact SeqAt.RcNeAt.tuple_list p1 p2.isList hu0
  | non => rw [h'.non] at r'; cases r'; rw [peq] at e; cases e; exact SeqAt.RcNeAt.tuple_none p1 hu0
  | bl k => rw [h'.bl] at r'; cases r'; rw [peq] at e; cases e; exact SeqAt.RcNeAt.tuple_bool k p1 hu0
  | int k => rw [h'.int] at r'; obtain ⟨t, rfl⟩ := r'; rw [peq] at e; cases e; exact SeqAt.RcNeAt.tuple_int k t p1 hu0
  | str k => rw [h'.str] at r'; obtain ⟨t, rfl⟩ := r'; rw [peq] at e; cases e; exact SeqAt.RcNeAt.tuple_str k t p1 hu0
  | _ => simp [peq] at e
 | lst xs =>
  obtain ⟨a, vs, rfl, sq, rs⟩ := h.lst
  obtain rfl : u = Value.ref a := r
  obtain ⟨its, r1, p1, _⟩ := I.list sq
  cases y with
  | tup ys =>
   obtain ⟨a', vs', rfl, sq', rs'⟩ := h'.tup
   obtain rfl : u' = Value.ref a' := r'
   obtain ⟨its', r2, p2, _⟩ := I.tuple sq'
   rw [peq] at e
   cases e
   exact SeqAt.RcNeAt.list_tuple p1.isList p2 hu0
  | lst ys =>
   obtain ⟨a', vs', rfl, sq', rs'⟩ := h'.lst
   obtain rfl : u' = Value.ref a' := r'
   obtain ⟨its', r2, p2, _⟩ := I.list sq'
   rw [peq] at e
   have hd : (PV.lst xs).depth = pdepths xs + 1 := by rw [PV.depth]
   have e4 : its.toArray.size = xs.length := by rw [List.size_toArray, <- r1.length, rs.len]
   have e5 : its'.toArray.size = ys.length := by rw [List.size_toArray, <- r2.length, rs'.len]
   by_cases hl : xs.length = ys.length
   ·rw [if_pos hl] at e
    have q := SeqAt.RcNeAt.lists (A := A) (s := s) (e := eAt xs ys) p1.isList p2.isList (by rw [e4, e5, hl]) (by omega) fun j h1 h2 => by
      have h1' : j < its.length := by simpa using h1
      have h2' : j < its'.length := by simpa using h2
      have := eqps I (A := A.in1) (j := j) (by show A.units + 1 + pdepths xs < cLine; omega) rs rs' r1 r2 e (List.getElem?_eq_getElem h1') (List.getElem?_eq_getElem h2')
      simpa using this
    have q2 := peqs_all e
    rw [hl, Nat.min_self, beq_self_eq_true, Bool.and_true] at q2
    rw [e4, hl, q2] at q
    exact q
   ·rw [if_neg hl] at e
    cases e
    exact SeqAt.RcNeAt.lists_lengths p1.isList p2.isList (by rw [e4, e5]; simpa using hl) hu0
  | non => rw [h'.non] at r'; cases r'; rw [peq] at e; cases e; exact SeqAt.RcNeAt.list_none p1.isList hu0
  | bl k => rw [h'.bl] at r'; cases r'; rw [peq] at e; cases e; exact SeqAt.RcNeAt.list_bool k p1.isList hu0
  | int k => rw [h'.int] at r'; obtain ⟨t, rfl⟩ := r'; rw [peq] at e; cases e; exact SeqAt.RcNeAt.list_int k t p1.isList hu0
  | str k => rw [h'.str] at r'; obtain ⟨t, rfl⟩ := r'; rw [peq] at e; cases e; exact SeqAt.RcNeAt.list_str k t p1.isList hu0
  | _ => simp [peq] at e
 | non =>
  rw [h.non] at r
  cases r
  cases y with
  | non => rw [h'.non] at r'; cases r'; rw [peq] at e; cases e; exact SeqAt.RcNeAt.none_none
  | bl k => rw [h'.bl] at r'; cases r'; rw [peq] at e; cases e; exact SeqAt.RcNeAt.none_bool k
  | int k => rw [h'.int] at r'; obtain ⟨t, rfl⟩ := r'; rw [peq] at e; cases e; exact SeqAt.RcNeAt.none_int k t
  | str k => rw [h'.str] at r'; obtain ⟨t, rfl⟩ := r'; rw [peq] at e; cases e; exact SeqAt.RcNeAt.none_str k t
  | tup ys =>
   obtain ⟨a', vs', rfl, sq', rs'⟩ := h'.tup
   obtain rfl : u' = Value.ref a' := r'
   obtain ⟨its', r2, p2, _⟩ := I.tuple sq'
   rw [peq] at e; cases e
   exact SeqAt.RcNeAt.none_tuple p2 hu0
  | lst ys =>
   obtain ⟨a', vs', rfl, sq', rs'⟩ := h'.lst
   obtain rfl : u' = Value.ref a' := r'
   obtain ⟨its', r2, p2, _⟩ := I.list sq'
   rw [peq] at e; cases e
   exact SeqAt.RcNeAt.none_list p2.isList hu0
  | _ => simp [peq] at e
 | bl k0 =>
  rw [h.bl] at r
  cases r
  cases y with
  | non => rw [h'.non] at r'; cases r'; rw [peq] at e; cases e; exact SeqAt.RcNeAt.bool_none k0
  | bl k => rw [h'.bl] at r'; cases r'; rw [peq] at e; cases e; exact SeqAt.RcNeAt.bool_bool k0 k
  | int k => rw [h'.int] at r'; obtain ⟨t, rfl⟩ := r'; rw [peq] at e; cases e; exact SeqAt.RcNeAt.bool_int k0 k t
  | str k => rw [h'.str] at r'; obtain ⟨t, rfl⟩ := r'; rw [peq] at e; cases e; exact SeqAt.RcNeAt.bool_str k0 k t
  | tup ys =>
   obtain ⟨a', vs', rfl, sq', rs'⟩ := h'.tup
   obtain rfl : u' = Value.ref a' := r'
   obtain ⟨its', r2, p2, _⟩ := I.tuple sq'
   rw [peq] at e; cases e
   exact SeqAt.RcNeAt.bool_tuple k0 p2 hu0
  | lst ys =>
   obtain ⟨a', vs', rfl, sq', rs'⟩ := h'.lst
   obtain rfl : u' = Value.ref a' := r'
   obtain ⟨its', r2, p2, _⟩ := I.list sq'
   rw [peq] at e; cases e
   exact SeqAt.RcNeAt.bool_list k0 p2.isList hu0
  | _ => simp [peq] at e
 | int k0 =>
  rw [h.int] at r
  obtain ⟨t0, rfl⟩ := r
  cases y with
  | non => rw [h'.non] at r'; cases r'; rw [peq] at e; cases e; exact SeqAt.RcNeAt.int_none k0 t0
  | bl k => rw [h'.bl] at r'; cases r'; rw [peq] at e; cases e; exact SeqAt.RcNeAt.int_bool k0 t0 k
  | int k => rw [h'.int] at r'; obtain ⟨t, rfl⟩ := r'; rw [peq] at e; cases e; exact SeqAt.RcNeAt.int_int k0 t0 k t
  | str k => rw [h'.str] at r'; obtain ⟨t, rfl⟩ := r'; rw [peq] at e; cases e; exact SeqAt.RcNeAt.int_str k0 t0 k t
  | tup ys =>
   obtain ⟨a', vs', rfl, sq', rs'⟩ := h'.tup
   obtain rfl : u' = Value.ref a' := r'
   obtain ⟨its', r2, p2, _⟩ := I.tuple sq'
   rw [peq] at e; cases e
   exact SeqAt.RcNeAt.int_tuple k0 t0 p2 hu0
  | lst ys =>
   obtain ⟨a', vs', rfl, sq', rs'⟩ := h'.lst
   obtain rfl : u' = Value.ref a' := r'
   obtain ⟨its', r2, p2, _⟩ := I.list sq'
   rw [peq] at e; cases e
   exact SeqAt.RcNeAt.int_list k0 t0 p2.isList hu0
  | _ => simp [peq] at e
 | str k0 =>
  rw [h.str] at r
  obtain ⟨t0, rfl⟩ := r
  cases y with
  | non => rw [h'.non] at r'; cases r'; rw [peq] at e; cases e; exact SeqAt.RcNeAt.str_none k0 t0
  | bl k => rw [h'.bl] at r'; cases r'; rw [peq] at e; cases e; exact SeqAt.RcNeAt.str_bool k0 t0 k
  | int k => rw [h'.int] at r'; obtain ⟨t, rfl⟩ := r'; rw [peq] at e; cases e; exact SeqAt.RcNeAt.str_int k0 t0 k t
  | str k => rw [h'.str] at r'; obtain ⟨t, rfl⟩ := r'; rw [peq] at e; cases e; exact SeqAt.RcNeAt.str_str k0 t0 k t
  | tup ys =>
   obtain ⟨a', vs', rfl, sq', rs'⟩ := h'.tup
   obtain rfl : u' = Value.ref a' := r'
   obtain ⟨its', r2, p2, _⟩ := I.tuple sq'
   rw [peq] at e; cases e
   exact SeqAt.RcNeAt.str_tuple k0 t0 p2 hu0
  | lst ys =>
   obtain ⟨a', vs', rfl, sq', rs'⟩ := h'.lst
   obtain rfl : u' = Value.ref a' := r'
   obtain ⟨its', r2, p2, _⟩ := I.list sq'
   rw [peq] at e; cases e
   exact SeqAt.RcNeAt.str_list k0 t0 p2.isList hu0
  | _ => simp [peq] at e
 | obj _ _ => cases y <;> simp [peq] at e
 | dic _ _ => cases y <;> simp [peq] at e
 | dit _ _ => cases y <;> simp [peq] at e
 | clo _ _ => cases y <;> simp [peq] at e
def fEq (x y : PV) : Rx PV := if x.depth < 100 then (match peq x y with | some b => .ok (.bl b) | none => .bad) else .bad
def fNe (x y : PV) : Rx PV := if x.depth < 100 then (match peq x y with | some b => .ok (.bl (!b)) | none => .bad) else .bad
def rEqP (K : Fg) (G : Pg) (neg : Bool) : R2 := fun v u H Q => ∃ A x y b, x.depth < 100 /\ RepB K G H A x v /\ RepB K G H A y u /\ peq x y = some b /\ Q (.bl (if neg then !b else b)) H
theorem op_eqP (hu : X.A.units + 100 < cLine) : OpR X (compareOp .Eq) (rEqP X.K G false) := by
 intro pins s σ H v u v' u' Q I rx ry h
 obtain ⟨A, x, y, b, hd, h1, h2, e, q⟩ := h
 exact rcp I (by omega) h1 h2 rx ry e X.prog X.w _ _ ⟨.bl b, H, I, rfl, q⟩
theorem op_neP (hu : X.A.units + 100 < cLine) : OpR X (compareOp .NotEq) (rEqP X.K G true) := by
 intro pins s σ H v u v' u' Q I rx ry h
 obtain ⟨A, x, y, b, hd, h1, h2, e, q⟩ := h
 exact rnp I (by omega) h1 h2 rx ry e X.prog X.w _ _ ⟨.bl (!b), H, I, rfl, q⟩
theorem o2_eq {K : Fg} : Op2 K G fEq (rEqP K G false) := by
 intro H A x y w v u Q hu e r1 r2 q
 unfold fEq at e
 split at e
 ·rename_i hd
  split at e
  ·rename_i b hb; cases e; exact ⟨A, x, y, b, hd, r1, r2, hb, q _ H (Same.refl H) rfl⟩
  ·cases e
 ·cases e
theorem o2_ne {K : Fg} : Op2 K G fNe (rEqP K G true) := by
 intro H A x y w v u Q hu e r1 r2 q
 unfold fNe at e
 split at e
 ·rename_i hd
  split at e
  ·rename_i b hb; cases e; exact ⟨A, x, y, b, hd, r1, r2, hb, q _ H (Same.refl H) rfl⟩
  ·cases e
 ·cases e
section
variable {e a b : Expr} {da db : DP} {pos : Pos}
theorem hu100 {A : Around} {k : Nat} (hr : Room k A) : A.units + 100 < cLine := by have := hr.un; omega
theorem p_eq {k : Nat} (hr : Room k X.A) (ha : JB X G a da) (hb : JB X G b db) : JP X G (.Compare a [.Eq] [b] pos) (d2 fEq da db) := p_cmp (op_eqP (hu100 hr)) o2_eq ha hb (nomark _)
theorem p_ne {k : Nat} (hr : Room k X.A) (ha : JB X G a da) (hb : JB X G b db) : JP X G (.Compare a [.NotEq] [b] pos) (d2 fNe da db) := p_cmp (op_neP (hu100 hr)) o2_ne ha hb (nomark _)
theorem t_eq {k : Nat} (hr : Room k X.A) (ha : JB X G a da) (hb : JB X G b db) : JT X G (.Compare a [.Eq] [b] pos) (dTr (d2 fEq da db)) := t_cmp (op_eqP (hu100 hr)) o2_eq ha hb (nomark _)
theorem t_ne {k : Nat} (hr : Room k X.A) (ha : JB X G a da) (hb : JB X G b db) : JT X G (.Compare a [.NotEq] [b] pos) (dTr (d2 fNe da db)) := t_cmp (op_neP (hu100 hr)) o2_ne ha hb (nomark _)
def flv : PV -> V
 | .non => .non | .bl b => .bl b | .int i => .int i | .str x => .str x | _ => .ref 0
theorem rep_flat {K : Fg} {H : Hp} {A : Av} {x : PV} {v : V} (r : RepB K G H A x v) (f : isF x = true) : v = flv x /\ flatV v = true := by
 cases x <;> first | (rw [r.non]; exact ⟨rfl, rfl⟩) | (rw [r.bl]; exact ⟨rfl, rfl⟩) | (rw [r.int]; exact ⟨rfl, rfl⟩) | (rw [r.str]; exact ⟨rfl, rfl⟩) | cases f
theorem reps_flat {K : Fg} {H : Hp} {A : Av} : ∀ {xs : List PV} {vs : List V}, Reps K G H A xs vs -> xs.all isF = true -> vs = xs.map flv /\ vs.all flatV = true
 | [], vs, h, _ => by have h : vs = [] := h; subst h; exact ⟨rfl, rfl⟩
 | x :: xs, vs, h, f => by
  obtain ⟨v, r, rfl, h1, h2⟩ := h
  rw [List.all_cons, Bool.and_eq_true] at f
  obtain ⟨e1, f1⟩ := rep_flat (.inl h1) f.1
  obtain ⟨e2, f2⟩ := reps_flat h2 f.2
  exact ⟨by rw [e1, e2]; rfl, by rw [List.all_cons, f1, f2]; rfl⟩
end
end
end DN
end
section
namespace DN
open PySem PySem.Spec PyProof.Rows L2
section
variable {P : Program} {w : World} {K : Fg} {mg : Str -> Option Value} {base : Bs} {G : Pg} {n : Nat} {m f : Str} {ms : List Bool}
theorem look_cons {α : Type} {c c' : Nat} {x y : α} {l : List (Nat × α)} (h : List.lookup c' ((c, x) :: l) = some y) : (c' = c /\ y = x) \/ l.lookup c' = some y := by
 rw [List.lookup_cons] at h
 by_cases e : c' = c
 ·subst e
  simp at h
  exact .inl ⟨rfl, h.symm⟩
 ·have : (c' == c) = false := by simpa using e
  rw [this] at h
  exact .inr h
theorem mt_nil {g : Nat -> List PV -> Rx PV} : MtOk P w K mg base G n m ms [] g := ⟨fun c f h => by simp at h⟩
theorem mt_cons {g : Nat -> List PV -> Rx PV} {c fi : Nat} {l : List (Nat × Nat)} (h : MethAt P w K mg base CX0 n (G.cA c) m (spG K G (false :: ms) (g fi))) (hm : m ∉ G.fN c) (r : MtOk P w K mg base G n m ms l g) : MtOk P w K mg base G n m ms ((c, fi) :: l) g :=
 ⟨fun c' f' e => by
  rcases look_cons e with ⟨rfl, rfl⟩ | e
  ·exact ⟨h, hm⟩
  ·exact r.all c' f' e⟩
theorem fl_nil : FldOk K G f [] := ⟨fun c j h => by simp at h⟩
theorem fl_cons {c j : Nat} {l : List (Nat × Nat)} (h1 : Cls K (G.cA c)) (h2 : NoAttr K (G.cA c) f) (h3 : (G.fN c).Nodup) (h4 : (G.fN c)[j]? = some f) (r : FldOk K G f l) : FldOk K G f ((c, j) :: l) :=
 ⟨fun c' f' e => by
  rcases look_cons e with ⟨rfl, rfl⟩ | e
  ·exact ⟨h1, h2, h3, h4⟩
  ·exact r.all c' f' e⟩
theorem is_nil {cv : Value} : IsiOk K G cv [] := ⟨fun c j h => by simp at h, fun c j h => by simp at h, fun b h => by simp at h⟩
theorem is_cons {cv : Value} {q : Nat} {b : Bool} {l : List (Nat × Bool)} (h1 : PySem.W.kitOne K (tyOfKd G q) cv = some b) (h2 : q < 9) (r : IsiOk K G cv l) : IsiOk K G cv ((q, b) :: l) :=
 ⟨fun c' f' e => by
  rcases look_cons e with ⟨rfl, rfl⟩ | e
  ·exact h1
  ·exact r.kit c' f' e, fun c' f' e => by
  rcases look_cons e with ⟨z, rfl⟩ | e
  ·omega
  ·exact r.cls c' f' e, fun b e => by
  rcases look_cons e with ⟨z, rfl⟩ | e
  ·omega
  ·exact r.n9 b e⟩
theorem is_consC {cv : Value} {c : Nat} {b : Bool} {l : List (Nat × Bool)} (h1 : PySem.W.kitOne K (.ref (G.cA c)) cv = some b) (h2 : ClsTy K (G.cA c)) (r : IsiOk K G cv l) : IsiOk K G cv ((c + 10, b) :: l) :=
 ⟨fun c' f' e => by
  rcases look_cons e with ⟨rfl, rfl⟩ | e
  ·exact h1
  ·exact r.kit c' f' e, fun c' f' e => by
  rcases look_cons e with ⟨z, rfl⟩ | e
  ·have : c' = c := by omega
   subst this; exact h2
  ·exact r.cls c' f' e, fun b e => by
  rcases look_cons e with ⟨z, rfl⟩ | e
  ·omega
  ·exact r.n9 b e⟩
theorem clsTy {C : Addr} (h : ClsF K C) : ClsTy K C := fun H a dx fs e => h.ty e
theorem ty_only {n : String} : ∀ u, RelV (V.ty n) u -> u = Value.type n := fun _ h => h
theorem spG_none {f : Addr} {fd : FuncData} {ps : List Str} {g : List PV -> Rx PV} (h : ∀ ws, g ws = .bad) : FnOk P w K mg base CX0 n f fd ps (spG K G ms g) := fn_none fun vs H Q E ⟨A, ws, w, u, r, e, q⟩ => by rw [h] at e; cases e
end
theorem gk_set {i : Nat} : ∀ (w : PV) (ps ps' : PSt), gSet i w ps = .ok ps' -> ∀ (j : Nat) (x : Ow), ps'[j]? = some (Sl.own x) -> ps[j]? = some (Sl.own x) := by
 intro w ps ps' e j x h
 cases e
 by_cases hj : j = i
 ·subst hj
  have hl : j < ps.length := by
   have := (List.getElem?_eq_some_iff.mp h).1
   simpa using this
  rw [List.getElem?_set_self hl] at h
  cases h
 ·rw [List.getElem?_set_ne (fun z => hj z.symm)] at h
  exact h
theorem law_sp {K : Fg} {G : Pg} {H : Hp} {a : Addr} {ns : List Int} {g : List PV -> Rx PV} (hO : Only H) (hS : SqL K H a (ns.map V.int)) (hg : g [.lst (ns.map PV.int)] = .ok (.bl true)) : spG K G [false] g [.ref a] H (fun v _ => v = .bl true) fun _ _ _ => False := by
 refine ⟨fun _ => False, [.lst (ns.map PV.int)], .bl true, fun a z => z.elim, ⟨_, _, _, _, rfl, rfl, ?_, rfl, rfl⟩, hg, fun v H' s r => r⟩
 rw [if_neg Bool.false_ne_true]
 refine ⟨a, _, rfl, ?_, Reps.ints ns⟩
 rcases hS with (h | ⟨o, h⟩) | h
 ·exact .inl ⟨h, fun z => z⟩
 ·exact .inr (.inl ⟨o, h⟩)
 ·exact .inr (.inr h)
end DN
end
section
namespace DN
open PySem PySem.Spec PyProof.Rows L2
section
variable {X : Cx} {G : Pg} {e a b o tg : Expr} {es : List Expr} {da db : DP} {d : DA} {pos p apos cpos : Pos} {x m : Str} {k i : Nat}
def idx : List PV -> PV -> Nat -> Option Nat
 | [], _, _ => none
 | y :: ys, x, n => if eqV (flv y) (flv x) = true then some n else idx ys x (n + 1)
theorem idx_of : ∀ {ys : List PV} {x : PV} {n j : Nat}, idx ys x n = some j -> n <= j /\ (∃ y, ys[j - n]? = some y /\ eqV (flv y) (flv x) = true) /\ ∀ i y, i < j - n -> ys[i]? = some y -> eqV (flv y) (flv x) = false
 | [], x, n, j, h => by cases h
 | y :: ys, x, n, j, h => by
  unfold idx at h
  split at h
  ·rename_i he
   cases h
   refine ⟨Nat.le_refl _, ⟨y, by simp, he⟩, fun i z hi => absurd hi (by omega)⟩
  ·rename_i he
   obtain ⟨h1, ⟨z, h2, h3⟩, h4⟩ := idx_of h
   have hj : j - n = (j - (n + 1)) + 1 := by omega
   refine ⟨by omega, ⟨z, by rw [hj]; simpa using h2, h3⟩, fun i w hi e => ?_⟩
   cases i with
   | zero => simp at e; subst e; simpa using he
   | succ i => exact h4 i w (by omega) (by simpa using e)
def dIndex (ws : List PV) (d : DP) : DP := fun ps => (d ps).bind fun x => if isF x = true then (match idx ws x 0 with | some j => .ok (.int j) | none => .bad) else .bad
theorem p_index {x : Str} {t : Addr} {ws : List PV} {vs : List V} {pos' : Pos} (T : TopT X.K t vs) (hg : Gl X x) (hm : X.mg x = some (.ref t)) (hr : ∀ H A, Reps X.K G H A ws vs) (hf : ws.all isF = true) (he : JP X G e da) (hd : (x == ("__debug__" : Str)) = false := by decide)
  (hbase : attributeBase (.Name x pos') "index" X.env (eval (.Name x pos') X.env) = eval (.Name x pos') X.env := by rfl)
  (hfew : ((backTo cpos (starEach [e] X.env)).all (fun x => !x.1) && (backToKw cpos (keywordEach [] X.env)).all (fun x => x.1.isSome) && decide (([e] : List Expr).length + ([] : List Keyword).length + (if ([] : List Keyword).isEmpty then 0 else 1) < 30)) = true := by rfl)
  (hline : (apos.endLine == cpos.line) = true := by rfl) (hst : starEach [e] X.env = (false, eval e X.env) :: starEach [] X.env := by rfl) (hpl : (backTo cpos (starEach ([] : List Expr) X.env)).any (·.1) = false := by rfl) :
  JP X G (.Call (.Attribute (.Name x pos') "index" apos) [e] [] cpos) (dIndex ws da) :=
 imp (pe_bm PySem.F.plainAttrs_tuple PySem.F.slot_tuple_index PySem.F.type_tuple_index mt_indexT (pe_globR hg hm hd) (pa_cons he pa_nil hst) hbase hfew hline hst hpl) fun σ H Q ⟨c, ow, ps, w, R, e, q⟩ => by
  obtain ⟨y, e1, e2⟩ := bind_ok e
  split at e2
  ·rename_i hy
   split at e2
   ·rename_i j hj
    cases e2
    refine ⟨T.ty H, c, ow, ps, y, R, e1, fun v H' s r => ?_⟩
    obtain ⟨ev, fv⟩ := rep_flat (G := G) (.inl r) hy
    obtain ⟨evs, fvs⟩ := reps_flat (hr H' (av c ow)) hf
    obtain ⟨_, ⟨z, h2, h3⟩, h4⟩ := idx_of hj
    rw [Nat.sub_zero] at h2 h4
    refine ⟨t, vs, v, j, flv z, rfl, rfl, T.sq H', fv, fvs, by rw [evs, List.getElem?_map, h2]; rfl, by rw [ev]; exact h3, fun i u hi hu => ?_, q _ H' s rfl⟩
    rw [evs, List.getElem?_map] at hu
    cases q : ws[i]? with
    | none => rw [q] at hu; cases hu
    | some y' => rw [q] at hu; cases hu; rw [ev]; exact h4 i y' hi q
   ·cases e2
  ·cases e2
end
def spL (K : Fg) (fN : Nat -> List Str) (nF : Nat -> Nst) (g : List PV -> Rx PV) : Sp := fun vs H Q E => ∀ cA, spG K ⟨cA, fN, nF⟩ [false] g vs H Q E
theorem law_of {P : Program} {w : World} {K : Fg} {mg : Str -> Option Value} {k : Nat} {fa : Addr} {x : Str} {fN : Nat -> List Str} {nF : Nat -> Nst} {g : List PV -> Rx PV} {ts : List Addr}
  (h : ∃ (cA : Nat -> Addr) (fd : FuncData), (∀ (s : Shared) (v : Value), BindsTo s fd ⟨[v], []⟩ [(x, v)]) /\ ∀ base : Bs, K.In base -> base.Ns mainGlobals mg -> base.tabs = ts -> FnOk P w K mg base CX0 k fa fd [x] (spG K ⟨cA, fN, nF⟩ [false] g)) :
  ∃ fd : FuncData, (∀ (s : Shared) (v : Value), BindsTo s fd ⟨[v], []⟩ [(x, v)]) /\ ∀ base : Bs, K.In base -> base.Ns mainGlobals mg -> base.tabs = ts -> FnOk P w K mg base CX0 k fa fd [x] (spL K fN nF g) := by
 obtain ⟨cA, fd, h1, h2⟩ := h
 exact ⟨fd, h1, fun base k1 k2 k3 => (h2 base k1 k2 k3).imp fun vs H Q E q => q cA⟩
end DN
end
section
namespace DN
open PySem L2
def fin : Rs -> Rx PV
 | .ret w => .ok w
 | .retn xs => .ok (.lst xs)
 | .nx _ => .ok .non
 | .exc c => .exc c
 | _ => .bad
theorem runD_eq (ms : List Bool) (n : Nat) (d : DS) (ws : List PV) : runD ms n d ws = if ws.length = ms.length then fin (d (inP ms n ws)) else .bad := by
 unfold runD fin
 split
 ·cases d (inP ms n ws) <;> rfl
 ·rfl
theorem runD_of {ms : List Bool} {n : Nat} {d : DS} {ws : List PV} (h : ws.length = ms.length) : runD ms n d ws = fin (d (inP ms n ws)) := by rw [runD_eq, if_pos h]
@[simp] theorem fin_ret (w : PV) : fin (.ret w) = .ok w := rfl
@[simp] theorem fin_retn (xs : List PV) : fin (.retn xs) = .ok (.lst xs) := rfl
def finW : Rs -> Rx PV
 | .retn xs => .ok (.lst xs)
 | .exc c => .exc c
 | _ => .bad
@[simp] theorem finW_retn (xs : List PV) : finW (.retn xs) = .ok (.lst xs) := rfl
@[simp] theorem finW_exc (c : Nat) : finW (.exc c) = .exc c := rfl
@[simp] theorem fin_nx (ps : PSt) : fin (.nx ps) = .ok .non := rfl
@[simp] theorem fin_exc (c : Nat) : fin (.exc c) = .exc c := rfl
def isiK (l : List (Nat × Bool)) (q : Nat) : Rx PV := match l.lookup q with | some b => .ok (.bl b) | none => .bad
def isiP (l : List (Nat × Bool)) (x : PV) : Rx PV := isiK l (kd x)
@[simp] theorem isiP_non (l : List (Nat × Bool)) : isiP l .non = isiK l 0 := rfl
@[simp] theorem isiP_bl (l : List (Nat × Bool)) (b : Bool) : isiP l (.bl b) = isiK l 1 := rfl
@[simp] theorem isiP_int (l : List (Nat × Bool)) (b : Int) : isiP l (.int b) = isiK l 2 := rfl
@[simp] theorem isiP_str (l : List (Nat × Bool)) (b : Str) : isiP l (.str b) = isiK l 3 := rfl
@[simp] theorem isiP_tup (l : List (Nat × Bool)) (b : List PV) : isiP l (.tup b) = isiK l 4 := rfl
@[simp] theorem isiP_lst (l : List (Nat × Bool)) (b : List PV) : isiP l (.lst b) = isiK l 5 := rfl
@[simp] theorem isiP_obj (l : List (Nat × Bool)) (k : Nat) (b : List PV) : isiP l (.obj k b) = isiK l (k + 10) := rfl
def Rs.next (x : Rs) (r : DS) : Rs := match x with | .nx ps' => r ps' | y => y
def ifR (x : Rx Bool) (s r : DS) (ps : PSt) : Rs := x.st fun b => if b = true then s ps else r ps
def andR (x : Rx Bool) (u : DT) (ps : PSt) : Rx Bool := x.bind fun b => if b = true then u ps else .ok false
def orR (x : Rx Bool) (u : DT) (ps : PSt) : Rx Bool := x.bind fun b => if b = true then .ok true else u ps
def andVR (x : Rx PV) (b : DP) (ps : PSt) : Rx PV := x.bind fun y => match y with | .bl true => b ps | .bl false => .ok (.bl false) | _ => .bad
def orVR (x : Rx PV) (b : DP) (ps : PSt) : Rx PV := x.bind fun y => match y with | .bl true => .ok (.bl true) | .bl false => b ps | _ => .bad
def ifVR (x : Rx Bool) (a b : DP) (ps : PSt) : Rx PV := x.bind fun y => if y = true then a ps else b ps
def bind2 (x y : Rx PV) (f : PV -> PV -> Rx PV) : Rx PV := x.bind fun u => y.bind fun v => f u v
def consR (x : Rx PV) (xs : Rx (List PV)) : Rx (List PV) := x.bind fun u => xs.bind fun us => .ok (u :: us)
section
variable (ps : PSt) (i : Nat) (a b : DP) (d : DA) (t u : DT) (s r : DS) (f : PV -> PV -> Rx PV)
@[simp] theorem next_nx : (Rs.nx ps).next r = r ps := rfl
@[simp] theorem next_ret (w : PV) : (Rs.ret w).next r = .ret w := rfl
@[simp] theorem next_retn (xs : List PV) : (Rs.retn xs).next r = .retn xs := rfl
@[simp] theorem next_reti (w : PV) (x : Ow) : (Rs.reti w x).next r = .reti w x := rfl
@[simp] theorem next_brk : (Rs.brk ps).next r = .brk ps := rfl
@[simp] theorem next_cnt : (Rs.cnt ps).next r = .cnt ps := rfl
@[simp] theorem next_exc (c : Nat) : (Rs.exc c).next r = .exc c := rfl
@[simp] theorem ifR_t : ifR (.ok true) s r ps = s ps := rfl
@[simp] theorem ifR_f : ifR (.ok false) s r ps = r ps := rfl
@[simp] theorem ifR_x (c : Nat) : ifR (.exc c) s r ps = .exc c := rfl
@[simp] theorem andR_t : andR (.ok true) t ps = t ps := rfl
@[simp] theorem andR_f : andR (.ok false) t ps = .ok false := rfl
@[simp] theorem orR_t : orR (.ok true) t ps = .ok true := rfl
@[simp] theorem orR_f : orR (.ok false) t ps = t ps := rfl
@[simp] theorem andVR_t : andVR (.ok (.bl true)) b ps = b ps := rfl
@[simp] theorem andVR_f : andVR (.ok (.bl false)) b ps = .ok (.bl false) := rfl
@[simp] theorem orVR_t : orVR (.ok (.bl true)) b ps = .ok (.bl true) := rfl
@[simp] theorem orVR_f : orVR (.ok (.bl false)) b ps = b ps := rfl
@[simp] theorem ifVR_t : ifVR (.ok true) a b ps = a ps := rfl
@[simp] theorem ifVR_f : ifVR (.ok false) a b ps = b ps := rfl
@[simp] theorem bind2_ok (x y : PV) : bind2 (.ok x) (.ok y) f = f x y := rfl
@[simp] theorem consR_ok (x : PV) (xs : List PV) : consR (.ok x) (.ok xs) = .ok (x :: xs) := rfl
@[simp] theorem e_var : dVar i ps = match ps[i]? with | some (.v w) => .ok w | _ => .bad := rfl
@[simp] theorem e_see : dSee i ps = match ps[i]? with | some (.v w) => .ok w | some (.own x) => .ok x.pv | some (.bor w) => .ok w | _ => .bad := rfl
@[simp] theorem e_C (w : PV) : dC w ps = .ok w := rfl
@[simp] theorem e_2 : d2 f a b ps = bind2 (a ps) (b ps) f := rfl
@[simp] theorem e_Tr : dTr a ps = (a ps).bind fun x => match x with | .bl b => .ok b | _ => .bad := rfl
@[simp] theorem e_andT : dAndT t u ps = andR (t ps) u ps := rfl
@[simp] theorem e_orT : dOrT t u ps = orR (t ps) u ps := rfl
@[simp] theorem e_notT : dNotT t ps = (t ps).bind fun x => .ok (!x) := rfl
@[simp] theorem e_andV : dAndV a b ps = andVR (a ps) b ps := rfl
@[simp] theorem e_orV : dOrV a b ps = orVR (a ps) b ps := rfl
@[simp] theorem e_notV : dNotV a ps = (a ps).bind fun x => match x with | .bl k => .ok (.bl (!k)) | _ => .bad := rfl
@[simp] theorem e_neg : dNeg a ps = (a ps).bind fun x => match x with | .int i => .ok (.int (-i)) | _ => .bad := rfl
@[simp] theorem e_ifV : dIfV t a b ps = ifVR (t ps) a b ps := rfl
@[simp] theorem e_isN : dIsN a ps = (a ps).bind fun x => .ok (.bl (isN x)) := rfl
@[simp] theorem e_notN : dNotN a ps = (a ps).bind fun x => .ok (.bl (!isN x)) := rfl
@[simp] theorem e_nil : dNil ps = .ok [] := rfl
@[simp] theorem e_cons : dCons a d ps = consR (a ps) (d ps) := rfl
@[simp] theorem e_tup : dTup d ps = (d ps).bind fun ws => .ok (.tup ws) := rfl
@[simp] theorem e_ofN : dOfN d ps = (d ps).bind fun ws => .ok (.lst ws) := rfl
@[simp] theorem e_call (g : List PV -> Rx PV) : dCall g d ps = (d ps).bind g := rfl
@[simp] theorem e_callN (g : List PV -> Rx (List PV)) : dCallN g d ps = (d ps).bind g := rfl
@[simp] theorem e_new (c : Nat) : dNew c d ps = (d ps).bind fun ws => .ok (.obj c ws) := rfl
@[simp] theorem e_items : dItems a ps = (a ps).bind fun x => match x with | .lst xs => .ok xs | _ => .bad := rfl
@[simp] theorem e_itemsT : dItemsT a ps = (a ps).bind fun x => match x with | .tup xs => .ok xs | _ => .bad := rfl
@[simp] theorem e_isi (l : List (Nat × Bool)) : dIsi l a ps = (a ps).bind (isiP l) := rfl
@[simp] theorem e_cut (dl dh : PSt -> Rx (Option Int)) : dCut a dl dh ps = (a ps).bind fun x => (dl ps).bind fun lo => (dh ps).bind fun hi => match x with | .lst xs => .ok (cutP xs lo hi) | _ => .bad := rfl
@[simp] theorem e_O0 : dO0 ps = .ok none := rfl
@[simp] theorem e_O1 : dO1 a ps = (a ps).bind fun x => match x with | .int i => .ok (some i) | _ => .bad := rfl
@[simp] theorem e_catL : dCatL a b ps = (a ps).bind fun x => (b ps).bind fun y => match x, y with | .lst xs, .lst ys => if xs.length + ys.length <= sizeLine then .ok (xs ++ ys) else .bad | _, _ => .bad := rfl
@[simp] theorem e_next : sNext ps = .nx ps := rfl
@[simp] theorem e_brk : sBrk ps = .brk ps := rfl
@[simp] theorem e_cnt : sCnt ps = .cnt ps := rfl
@[simp] theorem e_seq : sSeq s r ps = (s ps).next r := rfl
@[simp] theorem e_set : sSet i a ps = (a ps).st fun w => .nx (ps.set i (.v w)) := rfl
@[simp] theorem e_setM (m : DM) : sSetM i m ps = (m ps).st fun w => .nx (w.2.set i (.v w.1)) := rfl
@[simp] theorem e_own : sOwn i d ps = (d ps).st fun ws => if i < ps.length then .nx (ps.set i (.own (.lst ws))) else .bad := rfl
@[simp] theorem e_asg (g : DG) : sAsg g a ps = (a ps).st fun w => (g w ps).st fun ps' => .nx ps' := rfl
@[simp] theorem e_expr (m : DM) : sExpr m ps = (m ps).st fun w => .nx w.2 := rfl
@[simp] theorem e_retW : sRetW d ps = (d ps).st fun xs => .retn xs := rfl
@[simp] theorem e_retO : sRetO i ps = match ps[i]? with | some (.own (.lst xs)) => .retn xs | _ => .bad := rfl
@[simp] theorem e_ret : sRet a ps = (a ps).st fun w => .ret w := rfl
@[simp] theorem e_retM (m : DM) : sRetM m ps = (m ps).st fun w => .ret w.1 := rfl
@[simp] theorem e_retN : sRetN ps = .ret .non := rfl
@[simp] theorem e_if : sIf t s r ps = ifR (t ps) s r ps := rfl
@[simp] theorem e_for (g : DG) : sFor d g s ps = (d ps).st fun ws => forD g s ws ps := rfl
@[simp] theorem e_lift : dLift a ps = (a ps).bind fun w => .ok (w, ps) := rfl
@[simp] theorem e_mnil : mNil ps = .ok ([], ps) := rfl
@[simp] theorem e_mcons (m : DM) (n : DMA) : mCons m n ps = (m ps).bind fun x => (n x.2).bind fun y => .ok (x.1 :: y.1, y.2) := rfl
@[simp] theorem e_mtup (n : DMA) : mTup n ps = (n ps).bind fun x => if x.1.length <= 1000 then .ok (.tup x.1, x.2) else .bad := rfl
@[simp] theorem e_mcall (n : DMA) (g : List PV -> Rx PV) : mCall g n ps = (n ps).bind fun x => (g x.1).bind fun w => .ok (w, x.2) := rfl
@[simp] theorem e_frz : mFrz i ps = match ps[i]? with | some (.own y) => .ok (y.pv, ps.set i (.v y.pv)) | some (.v w) => .ok (w, ps) | _ => .bad := rfl
@[simp] theorem e_pop : mPop i ps = match ps[i]? with | some (.own (.lst xs)) => (match xs.getLast? with | some w => .ok (w, ps.set i (.own (.lst xs.dropLast))) | none => .bad) | _ => .bad := rfl
@[simp] theorem e_app (m : DM) : mApp i m ps = match ps[i]? with
 | some (.own (.lst _)) => (m ps).bind fun x => (match x.2[i]? with | some (.own (.lst xs)) => if xs.length < sizeLine then .ok (.non, x.2.set i (.own (.lst (xs ++ [x.1])))) else .bad | _ => .bad)
 | _ => .bad := rfl
@[simp] theorem e_gset (w : PV) : gSet i w ps = .ok (ps.set i (.v w)) := rfl
@[simp] theorem e_gnil : gNilD [] ps = .ok ps := rfl
@[simp] theorem e_gcons (g : DG) (gs : List PV -> PSt -> Rx PSt) (w : PV) (ws : List PV) : gConsD g gs (w :: ws) ps = (g w ps).bind fun ps' => gs ws ps' := rfl
@[simp] theorem e_gtup (n : Nat) (gs : List PV -> PSt -> Rx PSt) (ws : List PV) : gTupD n gs (.tup ws) ps = if ws.length = n then gs ws ps else .bad := rfl
@[simp] theorem e_fIi (g : Int -> Int -> PV) (x y : Int) : fI g (.int x) (.int y) = .ok (g x y) := rfl
@[simp] theorem e_fIc (C : Int -> Int -> Prop) [∀ i j, Decidable (C i j)] (g : Int -> Int -> PV) (x y : Int) : fIc C g (.int x) (.int y) = if C x y then .ok (g x y) else .bad := rfl
@[simp] theorem e_eqI (x y : Int) : fEq (.int x) (.int y) = .ok (.bl (x == y)) := rfl
@[simp] theorem e_eqS (x y : Str) : fEq (.str x) (.str y) = .ok (.bl (x == y)) := rfl
@[simp] theorem e_eqB (x y : Bool) : fEq (.bl x) (.bl y) = .ok (.bl (x == y)) := rfl
@[simp] theorem e_neI (x y : Int) : fNe (.int x) (.int y) = .ok (.bl (!(x == y))) := rfl
@[simp] theorem e_neS (x y : Str) : fNe (.str x) (.str y) = .ok (.bl (!(x == y))) := rfl
@[simp] theorem e_neB (x y : Bool) : fNe (.bl x) (.bl y) = .ok (.bl (!(x == y))) := rfl
@[simp] theorem e_ixL (xs : List PV) (j : Int) : fIx (.lst xs) (.int j) = match atI xs j with | some w => .ok w | none => .bad := rfl
@[simp] theorem e_ixT (xs : List PV) (j : Int) : fIx (.tup xs) (.int j) = match atI xs j with | some w => .ok w | none => .bad := rfl
@[simp] theorem e_lenL (xs : List PV) : bLen [.lst xs] = .ok (.int xs.length) := rfl
@[simp] theorem e_lenT (xs : List PV) : bLen [.tup xs] = .ok (.int xs.length) := rfl
@[simp] theorem e_fornil (g : DG) : forD g s [] ps = .nx ps := rfl
end
def callM (tab : List (Nat × Nat)) (g : Nat -> List PV -> Rx PV) (x : PV) (ws : List PV) : Rx PV := match x with
 | .obj c xs => (match tab.lookup c with | some f => g f (.obj c xs :: ws) | none => .bad)
 | _ => .bad
def callD (tab : List (Nat × Nat)) (g : Nat -> List PV -> Rx PV) (x : PV) (m : Rx (List PV)) : Rx PV := match x with
 | .obj c xs => (match tab.lookup c with | some f => m.bind fun ws => g f (.obj c xs :: ws) | none => .bad)
 | _ => .bad
@[simp] theorem callD_ok (tab : List (Nat × Nat)) (g : Nat -> List PV -> Rx PV) (x : PV) (ws : List PV) : callD tab g x (.ok ws) = callM tab g x ws := rfl
@[simp] theorem e_meth (tab : List (Nat × Nat)) (g : Nat -> List PV -> Rx PV) (a : DP) (d : DA) (ps : PSt) : dMeth tab g a d ps = (a ps).bind fun x => callD tab g x (d ps) := rfl
def fldP (l : List (Nat × Nat)) (x : PV) : Rx PV := match x with
 | .obj k xs => (match l.lookup k with | some j => (match xs[j]? with | some w => .ok w | none => .bad) | none => .bad)
 | _ => .bad
@[simp] theorem e_fld (l : List (Nat × Nat)) (a : DP) (ps : PSt) : dFld l a ps = (a ps).bind (fldP l) := rfl
theorem forD_fold {β : Type} {g : DG} {body : DS} (step : β -> PV -> β) (emb : β -> PSt) : ∀ (ws : List PV) (b : β), (∀ b w, w ∈ ws -> ∃ ps1, g w (emb b) = .ok ps1 /\ (body ps1 = .nx (emb (step b w)) \/ body ps1 = .cnt (emb (step b w)))) -> forD g body ws (emb b) = .nx (emb (ws.foldl step b))
 | [], b, _ => rfl
 | w :: ws, b, h => by
  obtain ⟨ps1, e1, e2⟩ := h b w List.mem_cons_self
  rw [forD, e1, ok_st]
  have ih := forD_fold step emb ws (step b w) fun b' w' hw => h b' w' (List.mem_cons_of_mem _ hw)
  rcases e2 with e2 | e2 <;> (rw [e2]; exact ih)
theorem forD_all {g : DG} {body : DS} (emb : Sl -> PSt) : ∀ (ws : List PV) (s : Sl), (∀ s w, w ∈ ws -> ∃ ps1, g w (emb s) = .ok ps1 /\ (body ps1 = .nx (emb (.v w)) \/ body ps1 = .cnt (emb (.v w)))) -> ∃ s', forD g body ws (emb s) = .nx (emb s')
 | [], s, _ => ⟨s, rfl⟩
 | w :: ws, s, h => by
  obtain ⟨ps1, e1, e2⟩ := h s w List.mem_cons_self
  rw [forD, e1, ok_st]
  have ih := forD_all emb ws (.v w) fun b' w' hw => h b' w' (List.mem_cons_of_mem _ hw)
  rcases e2 with e2 | e2 <;> (rw [e2]; exact ih)
end DN
end
section
namespace DN
open PySem PySem.Spec PyProof.Rows L2
section
variable {X : Cx} {G : Pg} {e a b o tg : Expr} {es : List Expr} {da db : DP} {d : DA} {pos p p2 apos cpos : Pos} {x m : Str} {k i : Nat}
theorem vals_bl {bs : List Bool} {us : List Value} (r : Vals (bs.map V.bl) us) {i : Nat} {v : Value} (h : us[i]? = some v) : ∃ b, bs[i]? = some b /\ v = .bool b := by
 have hi : i < us.length := (List.getElem?_eq_some_iff.mp h).1
 have hl : (bs.map V.bl).length = us.length := r.length
 have hi' : i < bs.length := by rw [List.length_map] at hl; omega
 obtain ⟨u, e1, e2⟩ := r.get (i := i) (x := V.bl bs[i]) (by rw [List.getElem?_map, List.getElem?_eq_getElem hi']; rfl)
 rw [h] at e1; cases e1
 exact ⟨bs[i], List.getElem?_eq_getElem hi', e2⟩
theorem call_allB (hc : X.calm = true) : CallR X (.builtin "all") (fun xs H Q => ∃ p bs, xs = [.ref p] /\ SqL X.K H p (List.map V.bl bs) /\ Q (.bl (bs.all id)) H) := by
 intro pins s σ H xs us Q I r h
 obtain ⟨p, bs, rfl, hS, q⟩ := h
 obtain ⟨u, rfl, ru⟩ := vals1 r
 obtain rfl : u = Value.ref p := ru
 obtain ⟨its, ri, pl, _⟩ := I.list hS
 have hl := pl.isList
 have hlt : p < s.heap.objs.size := by obtain ⟨_, e, _⟩ := hl; exact Heap.lt_size e
 refine call_all_walk (wpAny_pyIter_list hl ?_)
 refine ⟨s.heap.objs.size, [s.heap.objs.size, p], [s.heap.objs.size], its.toArray.size, _, _, fun i => (bs[i]?).getD true, rfl, Walks.list (A := X.A.in1) (I.ok.hd hc) _ p (Nat.ne_of_lt hlt) its.toArray,
  ⟨⟨_, Heap.get?_push_size _ rfl, rfl, rfl⟩, hl.push _⟩, fun i v s' Q' E' hP hQ => ?_, fun h' tk hk => ?_⟩
 ·obtain ⟨b, e, rfl⟩ := vals_bl ri (i := i) (v := v) (by simpa using hP)
  simp only [e, Option.getD_some] at hQ
  exact wpAny_truthy_bool hQ
 ·have e : ((List.range its.toArray.size).all fun i => (bs[i]?).getD true) = bs.all id := by
   have hl : its.length = bs.length := by rw [<- ri.length, List.length_map]
   rw [List.size_toArray, hl]; exact LSm.range_all bs
  rw [e]
  exact ⟨.bl _, H, I.kept (LSm.kept_iter hk), rfl, q⟩
theorem call_anyB (hc : X.calm = true) : CallR X (.builtin "any") (fun xs H Q => ∃ p bs, xs = [.ref p] /\ SqL X.K H p (List.map V.bl bs) /\ Q (.bl (bs.any id)) H) := by
 intro pins s σ H xs us Q I r h
 obtain ⟨p, bs, rfl, hS, q⟩ := h
 obtain ⟨u, rfl, ru⟩ := vals1 r
 obtain rfl : u = Value.ref p := ru
 obtain ⟨its, ri, pl, _⟩ := I.list hS
 have hl := pl.isList
 have hlt : p < s.heap.objs.size := by obtain ⟨_, e, _⟩ := hl; exact Heap.lt_size e
 refine call_any_walk (wpAny_pyIter_list hl ?_)
 refine ⟨s.heap.objs.size, [s.heap.objs.size, p], [s.heap.objs.size], its.toArray.size, _, _, fun i => (bs[i]?).getD false, rfl, Walks.list (A := X.A.in1) (I.ok.hd hc) _ p (Nat.ne_of_lt hlt) its.toArray,
  ⟨⟨_, Heap.get?_push_size _ rfl, rfl, rfl⟩, hl.push _⟩, fun i v s' Q' E' hP hQ => ?_, fun h' tk hk => ?_⟩
 ·obtain ⟨b, e, rfl⟩ := vals_bl ri (i := i) (v := v) (by simpa using hP)
  simp only [e, Option.getD_some] at hQ
  exact wpAny_truthy_bool hQ
 ·have e : ((List.range its.toArray.size).any fun i => (bs[i]?).getD false) = bs.any id := by
   have hl : its.length = bs.length := by rw [<- ri.length, List.length_map]
   rw [List.size_toArray, hl]; exact LSm.range_any bs
  rw [e]
  exact ⟨.bl _, H, I.kept (LSm.kept_iter hk), rfl, q⟩
def blsOf : List PV -> Option (List Bool)
 | [] => some []
 | .bl i :: r => (blsOf r).map (i :: ·)
 | _ :: _ => none
theorem blsOf_of : ∀ {xs : List PV} {ns : List Bool}, blsOf xs = some ns -> xs = ns.map PV.bl
 | [], ns, h => by cases h; rfl
 | x :: r, ns, h => by
  cases x <;> try cases h
  rename_i i
  have h : (blsOf r).map (i :: ·) = some ns := h
  cases q : blsOf r with
  | none => rw [q] at h; cases h
  | some ms => rw [q] at h; cases h; rw [blsOf_of q]; rfl
theorem Reps.of_bls {K : Fg} {H : Hp} {A : Av} : ∀ {ns : List Bool} {vs : List V}, Reps K G H A (ns.map PV.bl) vs -> vs = ns.map V.bl
 | [], vs, h => h
 | n :: ns, vs, h => by
  obtain ⟨v, r, e, h1, h2⟩ := h
  have h1 : v = .bl n := h1
  rw [e, h1, Reps.of_bls h2]; rfl
def bAll : List PV -> Rx PV
 | [.lst xs] => match blsOf xs with | some ns => .ok (.bl (ns.all id)) | none => .bad
 | _ => .bad
def bAny : List PV -> Rx PV
 | [.lst xs] => match blsOf xs with | some ns => .ok (.bl (ns.any id)) | none => .bad
 | _ => .bad
theorem cb_all {K : Fg} : CbR K G [true] bAll (fun xs H Q => ∃ p bs, xs = [V.ref p] /\ SqL K H p (List.map V.bl bs) /\ Q (.bl (bs.all id)) H) := by
 intro H A ws vs w Q hu e r q
 obtain ⟨x, v, rfl, rfl, rb⟩ := r.one
 clear r
 cases x <;> try cases e
 rename_i xs
 have e : (match blsOf xs with | some ns => Rx.ok (PV.bl (ns.all id)) | none => .bad) = .ok w := e
 split at e
 ·rename_i ns h
  cases e
  obtain ⟨a, vs, rfl, sq, rs⟩ := rb.lst
  rw [blsOf_of h] at rs
  rw [rs.of_bls] at sq
  exact ⟨a, ns, rfl, sq, q _ H (Same.refl H) rfl⟩
 ·cases e
theorem cb_any {K : Fg} : CbR K G [true] bAny (fun xs H Q => ∃ p bs, xs = [V.ref p] /\ SqL K H p (List.map V.bl bs) /\ Q (.bl (bs.any id)) H) := by
 intro H A ws vs w Q hu e r q
 obtain ⟨x, v, rfl, rfl, rb⟩ := r.one
 clear r
 cases x <;> try cases e
 rename_i xs
 have e : (match blsOf xs with | some ns => Rx.ok (PV.bl (ns.any id)) | none => .bad) = .ok w := e
 split at e
 ·rename_i ns h
  cases e
  obtain ⟨a, vs, rfl, sq, rs⟩ := rb.lst
  rw [blsOf_of h] at rs
  rw [rs.of_bls] at sq
  exact ⟨a, ns, rfl, sq, q _ H (Same.refl H) rfl⟩
 ·cases e
def dLRng (d : DA) : DA := fun ps => (d ps).bind fun ws => match ws with | [.int j] => if -(2 ^ 62) <= j /\ j <= 2 ^ 24 then .ok (rngP 0 j.toNat) else .bad | _ => .bad
end
@[simp] theorem e_lrng (ps : PSt) (d : DA) : dLRng d ps = (d ps).bind fun ws => match ws with | [.int j] => if -(2 ^ 62) <= j /\ j <= 2 ^ 24 then .ok (rngP 0 j.toNat) else .bad | _ => .bad := rfl
def dIsiT (l m : List (Nat × Bool)) (d : DP) : DP := fun ps => (d ps).bind fun x => match l.lookup (kd x), m.lookup (kd x) with | some a, some b => .ok (.bl (a || b)) | _, _ => .bad
section
variable {X : Cx} {G : Pg} {e c1 c2 : Expr} {da : DP} {pos p : Pos}
end
def isiP2 (l m : List (Nat × Bool)) (x : PV) : Rx PV := match l.lookup (kd x), m.lookup (kd x) with | some a, some b => .ok (.bl (a || b)) | _, _ => .bad
@[simp] theorem e_isiT (l m : List (Nat × Bool)) (a : DP) (ps : PSt) : dIsiT l m a ps = (a ps).bind (isiP2 l m) := rfl
end DN
end
section
namespace DN
open PySem L2
end DN
end
section
namespace L2
open PySem PySem.Spec PyProof.Rows
def Its (x : Str) : It := ⟨fun i _ => i < x.cps.size, fun i H v H' => H' = H /\ ∃ c, x.cps[i]? = some c /\ v = .str ⟨#[c]⟩, fun i _ => x.cps.size <= i⟩
theorem turn_str {P : Program} {w : World} {K : Fg} {tg : Expr} {ty : String} {x : Str} {t : Tok} (hty : ty = "str_ascii_iterator" \/ ty = "str_iterator") (it : Addr) : Turn P w K tg (Its x) [it] it (fun i h => h.IsStrIter it ty x t i) where
 mem := by simp
 obj := fun i h st b hb => by
  have e : b = it := by simpa using hb
  subst e
  obtain ⟨o, e, c, d⟩ := st
  exact ⟨o, e, fun v z => by rw [d] at z; cases z⟩
 keep := fun i h h' st k => let ⟨o, ho, r⟩ := st; ⟨o, k it (by simp) o ho, r⟩
 item := by
  intro X hP hw hK hc i pins s σ H E I hf st hg
  subst hP hw hK
  obtain ⟨f0, f1, f2, f3, f4, f5⟩ := hf it (by simp)
  have hg : i < x.cps.size := hg
  have hx : x.cps[i]? = some x.cps[i] := by simp [hg]
  have fin : ∀ h' : Heap, h'.IsStrIter it ty x t (i + 1) -> Heap.SameBut it s.heap h' -> ∃ u, some (Value.str ⟨#[x.cps[i]]⟩ s.toks) = some u /\
    wpAny (model X.prog X.w) X.A (letOwnedTupleGo tg (.ref it) u) (fun _ s2 => ∃ v H', Inv X pins σ H' s2 /\ RelV v u /\ (Its x).yld i H v H' /\ (s2.heap.IsStrIter it ty x t (i + 1)) /\ ∀ b ∈ [it], H' b = none) E { s with heap := h', toks := s.toks + 1 } := by
   intro h' st' sb
   have I1 : Inv X pins σ H { s with heap := h', toks := s.toks + 1 } := I.turned (fun b o hb e => (sb.2 b hb).trans e) f0 f1 f3 f4 f5
   obtain ⟨o, e, c, d⟩ := id st'
   exact ⟨_, rfl, go_of (s := { s with heap := h', toks := s.toks + 1 }) (n := ty) e c d (by rcases hty with rfl | rfl <;> decide) ⟨.str ⟨#[x.cps[i]]⟩, H, I1, ⟨_, rfl⟩, ⟨rfl, _, hx, rfl⟩, st', fun b hb => (hf b hb).1⟩⟩
  rcases hty with rfl | rfl
  ·exact wpAny_pyNext_ascii_item st hx fin
  ·exact wpAny_pyNext_wide_item st hx fin
 done := by
  intro X hP hw hK hc i pins s σ H E I hf st hg
  subst hP hw hK
  obtain ⟨f0, f1, f2, f3, f4, f5⟩ := hf it (by simp)
  have hx : x.cps[i]? = none := by have : x.cps.size <= i := hg; simp [this]
  rcases hty with rfl | rfl
  ·exact wpAny_pyNext_ascii_end (I.ok.hd hc) st hx fun h' eb => ⟨rfl, I.turned (t' := s.toks) (fun b o hb e => eb b o hb e) f0 f1 f3 f4 f5⟩
  ·exact wpAny_pyNext_wide_end (I.ok.hd hc) st hx fun h' eb => ⟨rfl, I.turned (t' := s.toks) (fun b o hb e => eb b o hb e) f0 f1 f3 f4 f5⟩
 self := fun _ _ _ _ _ st h => by
  rcases hty with rfl | rfl
  ·exact wpAny_pyIter_striter_ascii st h
  ·exact wpAny_pyIter_striter_wide st h
section
variable {X : Cx} {tg : Expr}
def iStr (tl : TE) : TI := fun σ H R => tl σ H fun v H1 => ∃ x, v = .str x /\ R (Its x) H1
theorem pi_str {l : Expr} {tl : TE} (hl : PE X l tl) : PI X tg l (iStr tl) := by
 intro pins s σ H R I h
 refine thn (hl pins s σ H _ I h) fun v s1 ⟨x, H1, I1, r1, q1⟩ => ?_
 obtain ⟨y, e, q⟩ := q1
 subst e
 obtain ⟨t, rfl⟩ := r1
 have fp : ∀ b ∈ [s1.heap.objs.size], FpOk X pins H1 b := fun b hb => by
  have e : b = s1.heap.objs.size := by simpa using hb
  subst e
  exact I1.fpOk (Nat.le_refl _) (I1.hok.fresh (Nat.le_refl _))
 cases ha : y.cps.all (· < 128)
 ·exact wpAny_pyIter_wide ha ⟨s1.heap.objs.size, [s1.heap.objs.size], _, _, H1, rfl, I1.kept (t' := s1.toks) fun b o e => Heap.get?_push_of_some _ e, turn_str (ty := "str_iterator") (x := y) (t := t) (.inr rfl) _, ⟨_, Heap.get?_push_size _ rfl, rfl, rfl⟩, fp, q⟩
 ·exact wpAny_pyIter_ascii ha ⟨s1.heap.objs.size, [s1.heap.objs.size], _, _, H1, rfl, I1.kept (t' := s1.toks) fun b o e => Heap.get?_push_of_some _ e, turn_str (ty := "str_ascii_iterator") (x := y) (t := t) (.inl rfl) _, ⟨_, Heap.get?_push_size _ rfl, rfl, rfl⟩, fp, q⟩
end
end L2
namespace DN
open PySem PySem.Spec PyProof.Rows L2
def sgV (x : Str) : List V := x.cps.toList.map fun c => V.str ⟨#[c]⟩
def sgP (x : Str) : List PV := x.cps.toList.map fun c => PV.str ⟨#[c]⟩
theorem sg_reps {K : Fg} {G : Pg} {H : Hp} {A : Av} {x : Str} : Reps K G H A (sgP x) (sgV x) := by
 unfold sgP sgV
 generalize x.cps.toList = l
 induction l with
 | nil => rfl
 | cons x xs ih => exact ⟨_, _, rfl, rfl, ih⟩
theorem it_str {x : Str} {H : Hp} : (∀ (i : Nat) (v : V), (sgV x)[i]? = some v -> (Its x).go i H /\ ∀ y H2, (Its x).yld i H y H2 -> H2 = H /\ y = v) /\ (Its x).stop (sgV x).length H := by
 refine ⟨fun i v e => ?_, by show x.cps.size <= (sgV x).length; unfold sgV; simp⟩
 unfold sgV at e
 rw [List.getElem?_map] at e
 cases q : x.cps.toList[i]? with
 | none => rw [q] at e; cases e
 | some c =>
  rw [q] at e; cases e
  have h : i < x.cps.size := by simpa using (List.getElem?_eq_some_iff.mp q).1
  have q' : x.cps[i]? = some c := by simpa using q
  exact ⟨h, fun y H2 ⟨e2, c', hc, hy⟩ => ⟨e2, by rw [hc] at q'; cases q'; exact hy⟩⟩
section
variable {X : Cx} {G : Pg} {e a b o tg iter : Expr} {es : List Expr} {body : List Stmt} {da db dk dv : DP} {d : DA} {ds : DS} {pos pos' p apos : Pos} {x m : Str} {k i : Nat} {ms : List Bool}
def dItemsS (d : DP) : DA := fun ps => (d ps).bind fun x => match x with | .str y => .ok (sgP y) | _ => .bad
theorem i_str (h : JP X G e da) : JI X G tg e (dItemsS da) := impI (pi_str h) fun σ H R ⟨c, ow, ps, ws, S, e, q⟩ => by
 obtain ⟨x, e1, e2⟩ := bind_ok e
 refine ⟨c, ow, ps, x, S, e1, fun v H' s r => ?_⟩
 split at e2
 ·cases e2
  exact ⟨_, r, q _ H' _ s sg_reps fun _ _ _ _ => it_str⟩
 ·cases e2
@[simp] theorem e_itemsS (d : DP) (ps : PSt) (y : Str) (h : d ps = .ok (.str y)) : dItemsS d ps = .ok (sgP y) := by unfold dItemsS; rw [h]; rfl
def keyP : PV -> Option Key
 | .int i => some (.inl i)
 | .str y => some (.inr y)
 | _ => none
theorem key_rep {K : Fg} {H : Hp} {A : Av} {w : PV} {v : V} {k : Key} (r : Rep K G H A w v) (e : keyP w = some k) : v = kV k := by
 cases w <;> simp [keyP] at e
 ·subst e; exact r
 ·subst e; exact r
def inK (ks : List Key) (k : Key) : Bool := ks.any fun k' => decide (k' = k)
theorem inK_mem {ks : List Key} {k : Key} : inK ks k = true ↔ k ∈ ks := by unfold inK; simp
def putKs (ks : List Key) (k : Key) : List Key := if inK ks k = true then ks else ks ++ [k]
def putXs {α : Type} (ks : List Key) (xs : List α) (k : Key) (w : α) : List α := if inK ks k = true then List.zipWith (fun k' x => if k' = k then w else x) ks xs else xs ++ [w]
theorem any_zip {k : Key} : ∀ {ks : List Key} {vs : List V}, ks.length = vs.length -> (((ks.zip vs).any fun kv => decide (kv.1 = k)) = true ↔ k ∈ ks)
 | [], vs, h => by simp
 | a :: ks, [], h => by simp at h
 | a :: ks, v :: vs, h => by
  have := any_zip (k := k) (ks := ks) (vs := vs) (by simpa using h)
  rw [List.zip_cons_cons, List.any_cons, Bool.or_eq_true, this, List.mem_cons]
  simp [eq_comm]
theorem map_zip {k : Key} {w : V} : ∀ {ks : List Key} {vs : List V}, ks.length = vs.length -> (ks.zip vs).map (fun kv => if kv.1 = k then (kv.1, w) else kv) = ks.zip (List.zipWith (fun k' x => if k' = k then w else x) ks vs)
 | [], vs, h => by simp
 | a :: ks, [], h => by simp at h
 | a :: ks, v :: vs, h => by
  have := map_zip (k := k) (w := w) (ks := ks) (vs := vs) (by simpa using h)
  rw [List.zip_cons_cons, List.map_cons, this, List.zipWith_cons_cons, List.zip_cons_cons]
  congr 1
  by_cases e : a = k <;> simp [e]
theorem put_zip {ks : List Key} {vs : List V} {k : Key} {v : V} (h : ks.length = vs.length) : putK (ks.zip vs) k v = (putKs ks k).zip (putXs ks vs k v) := by
 unfold putK putKs putXs
 by_cases e : inK ks k = true
 ·rw [if_pos ((any_zip h).mpr (inK_mem.mp e)), if_pos e, if_pos e, map_zip h]
 ·rw [if_neg (fun z => e (inK_mem.mpr ((any_zip h).mp z))), if_neg e, if_neg e, List.zip_append h]; rfl
theorem put_len {α : Type} {ks : List Key} {vs : List α} {k : Key} {v : α} (h : ks.length = vs.length) : (putKs ks k).length = (putXs ks vs k v).length := by
 unfold putKs putXs
 split <;> simp [h]
theorem reps_zw {K : Fg} {H : Hp} {A : Av} {k : Key} {w : PV} {v : V} (r : Rep K G H A w v) : ∀ {ks : List Key} {ws : List PV} {vs : List V}, Reps K G H A ws vs -> Reps K G H A (List.zipWith (fun k' x => if k' = k then w else x) ks ws) (List.zipWith (fun k' x => if k' = k then v else x) ks vs)
 | [], ws, vs, h => rfl
 | a :: ks, [], vs, h => by have h : vs = [] := h; subst h; rfl
 | a :: ks, x :: ws, vs, h => by
  obtain ⟨u, rr, rfl, h1, h2⟩ := h
  refine ⟨_, _, rfl, ?_, reps_zw r h2⟩
  by_cases e : a = k
  ·simp only [if_pos e]; exact r
  ·simp only [if_neg e]; exact h1
theorem Reps.put {K : Fg} {H : Hp} {A : Av} {ks : List Key} {k : Key} {w : PV} {v : V} {ws : List PV} {vs : List V} (h : Reps K G H A ws vs) (r : Rep K G H A w v) : Reps K G H A (putXs ks ws k w) (putXs ks vs k v) := by
 unfold putXs
 split
 ·exact reps_zw r h
 ·exact h.snoc r
def sOwnD (i : Nat) : DS := fun ps => if i < ps.length then .nx (ps.set i (.own (.dic [] []))) else .bad
theorem s_ownD (hN : X.N.Nodup) (hi : X.N[i]? = some x) (hx : Loc X.env.scope x) (hs : swapsWith (.Dict [] [] pos') (some (.Name x p)) pos.line X.env = pure false := by rfl) (hf : X.fn x = true \/ X.env.scope.names.lookup x = some .local := by first | exact .inl rfl | exact .inr rfl | assumption) :
  JS X G (.Assign [.Name x p] (.Dict [] [] pos') pos) (sOwnD i) := impS (ps_set hN hi hx pe_dnewK hs hf) fun D σ H ⟨c, ow, ps, R, q⟩ => by
 unfold sOwnD at q
 split at q
 ·rename_i hl
  intro p hp
  have s := same_upd hp (HO.dK [])
  exact q _ _ _ (R.setO hl s hp ⟨[], upd_same, rfl, rfl⟩) (Kp.take hp s av_on)
 ·exact q.elim
def sDput (i : Nat) (dk dv : DP) : DS := fun ps => (dv ps).st fun w => (dk ps).st fun y => match ps[i]?, keyP y with
 | some (.own (.dic ks xs)), some k => if ks.length < sizeLine then .nx (ps.set i (.own (.dic (putKs ks k) (putXs ks xs k w)))) else .bad
 | _, _ => .bad
theorem s_dput {ke value : Expr} {tpos : Pos} (i : Nat) (hu : X.A.units + 1 < cLine) (hk : JP X G ke dk) (he : JP X G value dv) (hs : swapsWith value (some (.Subscript (.Name x p) ke tpos)) pos.line X.env = pure false) (hN : X.N[i]? = some x := by rfl) (hv : Vis X.env.scope x := by first | exact Or.inl rfl | exact Or.inr (Or.inl rfl) | exact Or.inr (Or.inr rfl)) (hd : (x == ("__debug__" : Str)) = false := by decide)
  (hcd : (x == ("__classdict__" : Str)) = false := by decide) : JS X G (.Assign [.Subscript (.Name x p) ke tpos] value pos) (sDput i dk dv) :=
 impS (ps_dput hu (pe_var hN hv hd hcd) hk he hs) fun D σ H ⟨c, ow, ps, R, q⟩ => by
  obtain ⟨w, e1, q⟩ := ends_st q
  obtain ⟨y, e2, q⟩ := ends_st q
  split at q
  ·rename_i ks xs k hx hkk
   split at q
   ·rename_i hl
    refine ⟨c, ow, ps, w, R, e1, fun v H1 s1 r1 => ?_⟩
    obtain ⟨p0, e3, e4, vs0, hH0, l0, rs0⟩ := R.getO hx
    refine ⟨_, e4, c, ow, ps, y, R.grow s1, e2, fun u H2 s2 r2 => ?_⟩
    have s12 := s1.trans s2
    have R2 := R.grow s12
    have hH : H2 p0 = some (.dK (ks.zip vs0)) := s12 _ _ hH0
    have rs := rs0.same s12
    have mD : Mt (HO.dK (ks.zip vs0)) := And.intro (fun _ z => by cases z) (fun _ _ z => by cases z)
    have hz : putK (ks.zip vs0) k v = (putKs ks k).zip (putXs ks vs0 k v) := put_zip l0
    have k0 : Kp X.K G H2 (av c ow) (upd H2 p0 (.dK (putK (ks.zip vs0) k v))) (av c ow) := Kp.own (.inr ⟨i, e3⟩) hH mD
    have := R2.chg (y := .dic (putKs ks k) (putXs ks xs k w)) (u := .dK (putK (ks.zip vs0) k v)) hx e3 ⟨putXs ks vs0 k v, by rw [hz]; exact upd_same, put_len l0, k0.reps (rs.put (r1.same s2))⟩
    refine ⟨p0, _, rfl, ?_, q _ _ _ this.1 ((Kp.of_same s12).trans this.2)⟩
    rw [key_rep r2 hkk]
    exact DPut.k hH (by rw [List.length_zip, <- l0]; omega)
   ·exact q.elim
  ·exact q.elim
end
end DN
end
section
namespace DN
open PySem PySem.Spec PyProof.Rows L2
def getP {α : Type} : List Key -> List α -> Key -> Option α
 | k' :: ks, x :: xs, k => if k' = k then some x else getP ks xs k
 | _, _, _ => none
theorem val_zip {k : Key} : ∀ {ks : List Key} {vs : List V}, valV (ks.zip vs) k = getP ks vs k
 | [], vs => by cases vs <;> rfl
 | a :: ks, [] => rfl
 | a :: ks, v :: vs => by
  rw [List.zip_cons_cons, getP]
  by_cases e : a = k
  ·rw [valV_pos (p := (a, v)) e, if_pos e]
  ·rw [valV_neg (p := (a, v)) e, if_neg e, val_zip]
section
variable {K : Fg} {G : Pg} {H : Hp} {A : Av}
theorem get_rep {k : Key} : ∀ {ks : List Key} {ws : List PV} {vs : List V}, Reps K G H A ws vs -> (∀ w, getP ks ws k = some w -> ∃ v, getP ks vs k = some v /\ Rep K G H A w v) /\ (getP ks vs k).isSome = (getP ks ws k).isSome
 | [], ws, vs, h => ⟨fun w e => (by cases ws <;> cases e), by cases ws <;> cases vs <;> rfl⟩
 | a :: ks, [], vs, h => by
  have h : vs = [] := h
  subst h
  exact ⟨fun w e => (by cases e), rfl⟩
 | a :: ks, x :: ws, vs, h => by
  obtain ⟨v, r, rfl, h1, h2⟩ := h
  have ih := get_rep (k := k) (ks := ks) h2
  by_cases e : a = k
  ·simp only [getP, if_pos e]
   exact ⟨fun w q => ⟨v, rfl, by cases q; exact h1⟩, by simp⟩
  ·simp only [getP, if_neg e]
   exact ih
end
section
variable {X : Cx} {G : Pg} {e a b o i f value : Expr} {es : List Expr} {da db dd dk dv : DP} {d : DA} {dm : DM} {pos pos' p apos cpos tpos : Pos} {x : Str} {j : Nat}
def fDGet : PV -> PV -> Rx PV
 | .dic ks xs, y => match keyP y with
  | some k => (match getP ks xs k with | some w => .ok w | none => .bad)
  | none => .bad
 | _, _ => .bad
theorem keyB {K : Fg} {H : Hp} {A : Av} {w : PV} {v : V} {k : Key} (r : RepB K G H A w v) (e : keyP w = some k) : v = kV k := by
 cases w <;> simp [keyP] at e
 ·subst e; exact r.int
 ·subst e; exact r.str
theorem p_dget (hu : X.A.units + 1 < cLine) (ha : JB X G o da) (hb : JB X G i db) (hs : NoSl i) : JP X G (.Subscript o i pos) (d2 fDGet da db) := imp (pe_dget hu ha hb hs) fun σ H Q ⟨c, ow, ps, w, R, e, q⟩ => by
  obtain ⟨x, e1, ea⟩ := bind_ok e
  clear e
  obtain ⟨y, e2, e⟩ := bind_ok ea
  clear ea
  refine ⟨c, ow, ps, x, R, e1, fun v H1 s1 r1 => ⟨c, ow, ps, y, R.grow s1, e2, fun u H2 s2 r2 => ?_⟩⟩
  cases x
  case dic ks xs =>
   have e : (match keyP y with | some k => (match getP ks xs k with | some w => Rx.ok w | none => .bad) | none => .bad) = .ok w := e
   split at e
   · rename_i k hk
     split at e
     · rename_i w' hw
       cases e
       obtain ⟨a, vs, rfl, hH, l, rs⟩ := (r1.same s2).dic
       obtain ⟨v', hv, rv⟩ := (get_rep (k := k) (ks := ks) rs).1 _ hw
       refine ⟨a, v', rfl, ?_, q v' H2 (s1.trans s2) rv⟩
       rw [keyB r2 hk, <- hv, <- val_zip]
       exact DGet.k hH
     · cases e
   · cases e
  all_goals cases e
end
end DN
end
section
namespace L2
open PySem PySem.Spec PyProof.Rows
end L2
namespace DN
open PySem PySem.Spec PyProof.Rows L2
section
variable {X : Cx} {G : Pg} {e a b o tg : Expr} {es : List Expr} {da db : DP} {d : DA} {dm : DM} {ds du : DS} {pos p apos cpos : Pos} {x m : Str} {k i : Nat} {ms : List Bool}
def enumFrom : Nat -> List PV -> List PV
 | _, [] => []
 | k, w :: ws => .tup [.int (k : Int), w] :: enumFrom (k + 1) ws
def dEnum (d : DP) : DA := fun ps => (d ps).bind fun x => match x with | .lst xs => .ok (enumFrom 0 xs) | _ => .bad
def sForE (d : DP) (g : DG) (body : DS) : DS := sFor (dEnum d) g body
def mExt (i : Nat) (d : DA) : DM := fun ps => match ps[i]? with
 | some (.own (.lst xs)) => (d ps).bind fun ys => if xs.length + ys.length <= sizeLine then .ok (.non, ps.set i (.own (.lst (xs ++ ys)))) else .bad
 | _ => .bad
def mClr (i : Nat) : DM := fun ps => match ps[i]? with
 | some (.own (.lst _)) => .ok (.non, ps.set i (.own (.lst [])))
 | _ => .bad
theorem Reps.reverse {K : Fg} {H : Hp} {A : Av} : ∀ {ws : List PV} {vs : List V}, Reps K G H A ws vs -> Reps K G H A ws.reverse vs.reverse
 | [], vs, h => by have h : vs = [] := h; subst h; rfl
 | w :: ws, vs, h => by
  obtain ⟨v, r, rfl, h1, h2⟩ := h
  rw [List.reverse_cons, List.reverse_cons]
  exact (Reps.reverse h2).snoc h1
def mRev (i : Nat) : DM := fun ps => match ps[i]? with
 | some (.own (.lst xs)) => .ok (.non, ps.set i (.own (.lst xs.reverse)))
 | _ => .bad
def dCutT (d : DP) (dl dh : PSt -> Rx (Option Int)) : DP := fun ps => (d ps).bind fun x => (dl ps).bind fun lo => (dh ps).bind fun hi => match x with
 | .tup xs => if HT.sIx xs.length 0 lo = 0 /\ HT.sIx xs.length xs.length hi = xs.length then .bad else .ok (.tup (cutP xs lo hi))
 | _ => .bad
def fCatT : PV -> PV -> Rx PV
 | .tup xs, .tup ys => if xs ≠ [] /\ xs.length + ys.length <= sizeLine then .ok (.tup (xs ++ ys)) else .bad
 | _, _ => .bad
def dRep (d : DA) (b : DP) : DA := fun ps => (d ps).bind fun xs => (b ps).bind fun y => match y with
 | .int k => if 0 <= k /\ k < 2 ^ 62 /\ xs.length * k.toNat <= sizeLine then .ok (List.replicate k.toNat xs).flatten else .bad
 | _ => .bad
theorem Reps.rep {K : Fg} {H : Hp} {A : Av} {ws : List PV} {vs : List V} (h : Reps K G H A ws vs) : ∀ n : Nat, Reps K G H A (List.replicate n ws).flatten (List.replicate n vs).flatten
 | 0 => rfl
 | n + 1 => by
  rw [List.replicate_succ, List.flatten_cons, List.replicate_succ, List.flatten_cons]
  exact h.app (Reps.rep h n)
theorem n_rep (ha : JN X G a d) (hb : JP X G b db) : JN X G (.BinOp a .Mult b pos) (dRep d db) := imp (pe_op op_rep ha hb) fun σ H Q ⟨c, ow, ps, ws, R, e, q⟩ => by
 obtain ⟨xs, e1, e⟩ := bind_ok e
 obtain ⟨y, e2, e⟩ := bind_ok e
 refine ⟨c, ow, ps, xs, R, e1, fun p0 vs H1 s1 hp0 hv rs => ⟨c, ow, ps, y, R.grow s1, e2, fun u H2 s2 r2 => ?_⟩⟩
 split at e
 ·rename_i k
  split at e
  ·rename_i hk
   cases e
   obtain rfl : u = V.int k := r2
   refine ⟨p0, k, vs, rfl, rfl, s2 _ _ hv, by omega, by omega, by rw [<- rs.len]; exact hk.2.2, fun p hp => ?_⟩
   have sp := same_upd hp (.lst (List.replicate k.toNat vs).flatten)
   have r0 : Reps X.K G H2 (av c ow) xs vs := ((Kp.weak fun a z => Or.inl z).reps rs).same s2
   exact q p _ _ ((s1.trans s2).trans sp) ((s1.trans s2).free hp) upd_same ((Kp.take hp sp fun a z => z.symm).reps (r0.rep _))
  ·cases e
 ·cases e
def dCallW (g : List PV -> Rx PV) (d : DA) : DA := fun ps => (d ps).bind fun ws => (g ws).bind fun w => match w with | .lst xs => .ok xs | _ => .bad
variable (ps : PSt)
@[simp] theorem e_ext : mExt i d ps = match ps[i]? with
 | some (.own (.lst xs)) => (d ps).bind fun ys => if xs.length + ys.length <= sizeLine then .ok (.non, ps.set i (.own (.lst (xs ++ ys)))) else .bad
 | _ => .bad := rfl
@[simp] theorem e_clr : mClr i ps = match ps[i]? with
 | some (.own (.lst _)) => .ok (.non, ps.set i (.own (.lst [])))
 | _ => .bad := rfl
@[simp] theorem e_rev : mRev i ps = match ps[i]? with
 | some (.own (.lst xs)) => .ok (.non, ps.set i (.own (.lst xs.reverse)))
 | _ => .bad := rfl
@[simp] theorem e_forE (g : DG) : sForE da g ds ps = (dEnum da ps).st fun ws => forD g ds ws ps := rfl
@[simp] theorem e_enum : dEnum da ps = (da ps).bind fun x => match x with | .lst xs => .ok (enumFrom 0 xs) | _ => .bad := rfl
@[simp] theorem e_cutT (dl dh : PSt -> Rx (Option Int)) : dCutT da dl dh ps = (da ps).bind fun x => (dl ps).bind fun lo => (dh ps).bind fun hi => match x with
 | .tup xs => if HT.sIx xs.length 0 lo = 0 /\ HT.sIx xs.length xs.length hi = xs.length then .bad else .ok (.tup (cutP xs lo hi))
 | _ => .bad := rfl
@[simp] theorem e_catT (xs ys : List PV) : fCatT (.tup xs) (.tup ys) = if xs ≠ [] /\ xs.length + ys.length <= sizeLine then .ok (.tup (xs ++ ys)) else .bad := rfl
@[simp] theorem e_rep : dRep d db ps = (d ps).bind fun xs => (db ps).bind fun y => match y with
 | .int k => if 0 <= k /\ k < 2 ^ 62 /\ xs.length * k.toNat <= sizeLine then .ok (List.replicate k.toNat xs).flatten else .bad
 | _ => .bad := rfl
@[simp] theorem e_callW (g : List PV -> Rx PV) : dCallW g d ps = (d ps).bind fun ws => (g ws).bind fun w => match w with | .lst xs => .ok xs | _ => .bad := rfl
end
end DN
end
section
namespace L2
open PySem PySem.Spec PyProof.Rows
section
variable {X : Cx} {pins : List (Addr × Obj)} {σ : St} {H : Hp} {s s1 : Shared} {scope : Scope} {own : List Str} {caps : List (Str × Nat)} {fp : List Addr}
def tCompS (own : List Str) (caps : List (Str × Nat)) (wi : TI) (g : TG) (tc : TT) (te : TE) (i : Nat) : TS := fun D σ H => wi σ H (CompGo own caps g tc te σ fun v H' => D.nx (σ.set i (some v)) H')
theorem ps_comp {elt tg iter : Expr} {ifs : List Expr} {pos spos px : Pos} {wi : TI} {g : TG} {tc : TT} {te : TE} {j : Nat} {x : Str} (hN : X.N.Nodup) (hi' : X.N[j]? = some x) (hx : Loc X.env.scope x) (S : CompScope X scope own caps) (hc : X.calm = true) (hi : PI X tg iter wi)
  (hg : ∀ C s₀ H₀ fp, PG (cxB X scope C (capN own caps) s₀ H₀ fp) tg g) (ht : ∀ C s₀ H₀ fp, PTs (cxB X scope C (capN own caps) s₀ H₀ fp) ifs tc) (he : ∀ C s₀ H₀ fp, PE (cxB X scope C (capN own caps) s₀ H₀ fp) elt te)
  (hsw : swapsWith (.ListComp elt [⟨tg, iter, ifs, 0⟩] scope pos) (some (.Name x px)) spos.line X.env = pure true := by rfl) (hs : ∀ x, foldedSetIterable iter X.env x = pure x := by intro _; rfl)
  (hf : X.fn x = true \/ X.env.scope.names.lookup x = some .local := by first | exact .inl rfl | exact .inr rfl | assumption) : PS X (.Assign [.Name x px] (.ListComp elt [⟨tg, iter, ifs, 0⟩] scope pos) spos) (tCompS own caps wi g tc te j) := by
 intro pins s σ H D0 I h
 rw [exec_Assign_Name_used _ _ _ _ hsw]
 refine wpAny_bind (wpAny_standAt (wpAny_bind ?_))
 show wpAny _ X.A (do let _ <- comprehension (.ListComp elt [⟨tg, iter, ifs, 0⟩] scope pos) scope X.env _ (newList []) false (eval iter X.env) (some (assign (.Name x px) X.env))) _ _ s
 have hfree : ∀ y ∈ scope.names, y.2 = .free -> ∃ c, X.env.cells.lookup y.1 = some c := fun y hy e => I.ok.has _ (S.frees.mem y hy e)
 refine wpAny_bind (wpAny_mono (wpAny_comprehension_free (Q := fun _ s' => SP X pins D0 .next s') (use := some (assign (.Name x px) X.env)) rfl hs (closureFor_eq hfree) S.kind S.names (thn (hi pins s σ H _ I h) fun v s1 h1 => thn h1 fun itv s2 h2 => ?_))
  (fun _ s' hq => wpAny_pure (wpAny_pure hq)) fun _ _ e => e)
 obtain ⟨it, fp, tn, J, H2, e, I2, T, st2, f2, hW⟩ := h2
 subst e
 -- the new list
 refine wpAny_newList ?_
 have hD : H2 s2.heap.objs.size = none := I2.fresh
 have I3 := I2.lnew (its := []) (ys := []) (t' := s2.toks) .nil (Nat.zero_le _)
 have k3 : ∀ b o, s2.heap.get? b = some o -> (s2.heap.push { cls := .type "list", data := .seq ([] : List Value).toArray }).get? b = some o := fun b o q => Heap.get?_push_of_some _ q
 have st3 : tn 0 (s2.heap.push { cls := .type "list", data := .seq ([] : List Value).toArray }) := T.keep _ _ _ st2 fun b _ o q => k3 b o q
 have lt2 : ∀ b ∈ fp, b < s2.heap.objs.size := fun b hb => let ⟨o, q, _⟩ := T.obj _ _ st2 b hb; Heap.lt_size q
 have neD : ∀ b ∈ fp, b ≠ s2.heap.objs.size := fun b hb => Nat.ne_of_lt (lt2 b hb)
 have f3 : ∀ b ∈ fp, FpOk X pins (upd H2 s2.heap.objs.size (.lst [])) b := fun b hb => ⟨by rw [upd_ne (neD b hb)]; exact (f2 b hb).1, (f2 b hb).2⟩
 obtain ⟨W, ⟨m0, w0⟩, turn⟩ := hW _ hD
 generalize eD : s2.heap.objs.size = D at *
 generalize eH : upd H2 D (.lst []) = H3 at *
 generalize eh : s2.heap.push { cls := .type "list", data := .seq ([] : List Value).toArray } = hp3 at *
 have I3' : Inv X pins σ H3 { s2 with heap := hp3 } := I3
 -- the block's frame
 refine wpAny_newFunctionEnv S.nocell (fun y hy => by simp at hy) (fun h1 hns hsb => ?_) S.kind
 have kb : ∀ b o, hp3.get? b = some o -> h1.get? b = some o := fun b o q => hsb.extBut b o (Nat.ne_of_lt (Heap.lt_size q)) (Heap.get?_push_of_some _ q)
 have lt3 : ∀ b ∈ fp, b < hp3.objs.size := fun b hb => let ⟨o, q, _⟩ := T.obj _ _ st3 b hb; Heap.lt_size q
 have IB := Inv.block (s := { s2 with heap := hp3 }) (h1 := h1) (tk := s2.toks) I3' S f3 hns kb lt3
 have stB : tn 0 h1 := T.keep _ _ _ st3 fun b _ o q => kb b o q
 have back : ∀ {σ' : St} {H' : Hp} {s' : Shared} {h' : Heap}, Inv (cxB X scope hp3.objs.size (capN own caps) { s2 with heap := hp3 } H3 fp) [] σ' H' s' -> Heap.SameBut hp3.objs.size s'.heap h' -> Inv X pins σ H' { s' with heap := h' } := fun {σ' H' s' h'} J hsm => by
  have nC : ∀ b o, H' b = some o -> b ≠ hp3.objs.size := fun b o q z => by
   have := J.free
   rw [z] at q
   have q2 : H' hp3.objs.size = none := this
   rw [q] at q2; cases q2
  have hok : HOk X.prog X.w H' h' := fun b o q => (J.hok b o q).stay (fun c v hc z => hsm.extBut c v (by
   rcases hc with hc | hc
   ·rw [hc]; exact nC b o q
   ·exact nC c _ hc) z) (fun _ z => z) (fun _ _ z => z) fun _ _ _ z => z
  have nb : ∀ b o, hp3.get? b = some o -> b ≠ hp3.objs.size := fun b o q => Nat.ne_of_lt (Heap.lt_size q)
  have un : Un (frs X.stack) fp H3 H' hp3 h' := ⟨fun b o q n hb hx => hsm.extBut b o (nb b o q) (J.base.keep b o q n hb hx), fun b o q n hb hx => by
    obtain ⟨sl, z⟩ := J.base.slot b o q n hb hx
    exact ⟨sl, hsm.extBut b _ (nb b o q) z⟩, J.base.free, fun b o q hx => by
    obtain ⟨o', z⟩ := J.base.there b o q hx
    exact ⟨o', hsm.extBut b _ (nb b o q) z⟩, J.base.tups, J.base.frzs, J.base.tbls⟩
  have os := J.os
  have bare := J.bare
  obtain ⟨hh, g, d, t, os'⟩ := s'
  obtain rfl : os' = s2.os := os
  show Inv X pins σ H' { ({ s2 with heap := hp3 } : Shared) with heap := h', gens := g, drawn := d, toks := t }
  exact I3'.call (h' := h') (g' := g) (d' := d) (t' := t) (ch := fp) un hok bare fun b hb => ⟨(f3 b hb).2.2.2.1, (f3 b hb).2.1, (f3 b hb).2.2.2.2.1, (f3 b hb).2.2.2.2.2⟩
 have statB : ∀ {H' : Hp}, (∀ b ∈ fp, H' b = none) -> ∀ b ∈ fp, FpOk (cxB X scope hp3.objs.size (capN own caps) { s2 with heap := hp3 } H3 fp) [] H' b := fun hn b hb =>
  ⟨hn b hb, Nat.ne_of_lt (lt3 b hb), fun z => (IB.ok.exfs b hb) z, .inl hb, (IB.ok.exf b hb).2, fun p hp => absurd (show p ∈ ([] : List (Addr × Obj)) from hp) (by simp)⟩
 have loop : ∀ s₃ : Shared, s₃ = { s2 with heap := h1, toks := s2.toks } -> codeAny (model X.prog X.w) X.A (.compLoop (.ListComp elt [⟨tg, iter, ifs, 0⟩] scope pos) 0 (.ref it) (.ref D) (compEnvC scope (clos X.env scope.names []) hp3.objs.size X.env))
   (compPost (model X.prog X.w) X.A X.xe (some (assign (.Name x px) X.env)) (fun _ s' => SP X pins D0 .next s') (.ref D) hp3.objs.size) s₃ := by
  rintro s₃ rfl
  refine compLoop_any (fun n s' => ∃ i σ' H', Inv (cxB X scope hp3.objs.size (capN own caps) { s2 with heap := hp3 } H3 fp) [] σ' H' s' /\ tn i s'.heap /\ (∀ b ∈ fp, H' b = none) /\ W i n σ' H') ?_ m0 ⟨0, capS own caps σ, H3, IB, stB, fun b hb => (f3 b hb).1, w0⟩
  rintro n s3 ⟨i, σ3, H4, I4, st4, fr4, w4⟩
  rcases turn i n σ3 H4 w4 with ⟨stop, qn⟩ | ⟨go, N, hN, step⟩
  ·refine thn (T.done (cxB X scope hp3.objs.size (capN own caps) { s2 with heap := hp3 } H3 fp) rfl rfl rfl hc i [] s3 σ3 H4 _ I4 (statB fr4) st4 stop) fun r s4 ⟨hr, I5⟩ => ?_
   subst hr
   obtain ⟨m, hn, _⟩ := I5.loc
   have I6 : Inv X pins σ H4 s4 := back I5 ⟨rfl, fun _ _ => rfl⟩
   have neL : hp3.objs.size ≠ X.env.locals := fun z => by
    have := I3'.lt
    rw [<- z] at this
    exact Nat.lt_irrefl _ this
   have neC : ∀ y c, X.env.cells.lookup y = some c -> c ≠ hp3.objs.size := fun y c e z => by
    obtain ⟨v, q⟩ := I3'.cell y c e
    have := q.lt
    rw [z] at this
    exact Nat.lt_irrefl _ this
   have neP : ∀ p ∈ X.pn ++ pins, p.1 ≠ hp3.objs.size := fun p hp z => by
    have := Heap.lt_size (I3'.pin p hp).1
    rw [z] at this
    exact Nat.lt_irrefl _ this
   refine wpAny_assign_Name (store_ok2 I6 hN hi' hx (v := .ref D) rfl (fun s7 I7 ⟨a, sb, ha⟩ => ?_) hf)
   have na : hp3.objs.size ≠ a := fun z => by
    rcases ha with ha | ha
    ·exact neL (z.trans ha)
    ·exact neC _ _ ha z.symm
   refine ⟨m, hn.sameBut sb na, fun h' hsm => ⟨_, H4, ?_, qn⟩⟩
   exact I7.turned (t' := s7.toks) (it := hp3.objs.size) (fun b o hb e => hsm.extBut b o hb e) I5.free neL (.inr I3'.sz) neC neP
  ·refine thn (T.item (cxB X scope hp3.objs.size (capN own caps) { s2 with heap := hp3 } H3 fp) rfl rfl rfl hc i [] s3 σ3 H4 (fun _ _ => False) I4 (statB fr4) st4 go) fun r s4 ⟨u, hr, h4⟩ => ?_
   subst hr
   refine thn h4 fun _ s5 ⟨x, H5, I5, r5, y5, st5, fr5⟩ => ?_
   have I5' := I5.pinned (statB fr5) (T.obj _ _ st5)
   refine thn (hg hp3.objs.size { s2 with heap := hp3 } H3 fp _ s5 σ3 H5 x u _ I5' r5 (step x H5 y5)) fun _ s6 ⟨σ6, H6, I6, q6⟩ => ?_
   refine thn (ht hp3.objs.size { s2 with heap := hp3 } H3 fp _ s6 σ6 H6 _ I6 q6) fun ok s7 ⟨H7, I7, q7⟩ => ?_
   have again : ∀ {σ7 : St} {H7 : Hp} {s7 : Shared}, Inv (cxB X scope hp3.objs.size (capN own caps) { s2 with heap := hp3 } H3 fp) ([] ++ pinsAt fp s5.heap) σ7 H7 s7 -> N σ7 H7 -> ∃ m, m < n /\ ∃ i σ' H', Inv (cxB X scope hp3.objs.size (capN own caps) { s2 with heap := hp3 } H3 fp) [] σ' H' s7 /\ tn i s7.heap /\ (∀ b ∈ fp, H' b = none) /\ W i m σ' H' := fun {σ7 H7 s7} I7 n7 => by
    obtain ⟨m', hm, w7⟩ := hN σ7 H7 n7
    refine ⟨m', hm, i + 1, σ7, H7, I7.unpinned, T.keep _ _ _ st5 fun b hb o e => (I7.pin (b, o) (List.mem_append_right _ (List.mem_append_right _ (mem_pinsAt hb e)))).1, fun b hb => ?_, w7⟩
    obtain ⟨o, e, d⟩ := T.obj _ _ st5 b hb
    exact (I7.pin (b, o) (List.mem_append_right _ (List.mem_append_right _ (mem_pinsAt hb e)))).2.1
   cases ok with
   | false =>
    rw [if_neg (by decide)]
    rw [if_neg (by decide)] at q7
    exact again I7 q7
   | true =>
    rw [if_pos rfl]
    rw [if_pos rfl] at q7
    refine thn (he hp3.objs.size { s2 with heap := hp3 } H3 fp _ s7 σ6 H7 _ I7 q7) fun y s8 ⟨yv, H8, I8, r8, ys, e8, z8, n8⟩ => ?_
    refine thn (mt_append (X := cxB X scope hp3.objs.size (capN own caps) { s2 with heap := hp3 } H3 fp) _ s8 σ6 H8 (.ref D) [yv] (.ref D) [y] (fun _ H' => N σ6 H') I8 rfl (.cons r8 .nil) ⟨D, ys, yv, rfl, rfl, e8, z8, n8⟩) fun _ s9 ⟨v9, H9, I9, _, q9⟩ => ?_
    exact again I9 q9
 exact codeAny_compStart_list (loop _ rfl) (T.self _ 0 _ _ _ stB (loop _ rfl))
end
end L2
namespace DN
open PySem PySem.Spec PyProof.Rows L2
section
variable {X : Cx} {G : Pg} {e a b o tg : Expr} {es : List Expr} {da db : DP} {d : DA} {dm : DM} {ds du : DS} {pos p apos cpos : Pos} {x m : Str} {k i : Nat} {ms : List Bool}
theorem s_setC {elt iter : Expr} {ifs : List Expr} {scope : Scope} {own : List Str} {caps : List (Str × Nat)} {di : DA} {g : DG} {dt : DT} {de : DP} (hN : X.N.Nodup) (hi' : X.N[i]? = some x) (hx : Loc X.env.scope x) (S : CompScope X scope own caps) (hc : X.calm = true) (hi : JIs X G tg iter di)
  (hg : ∀ C s₀ H₀ fp, JG (cxB X scope C (capN own caps) s₀ H₀ fp) G tg g) (ht : ∀ C s₀ H₀ fp, JTs (cxB X scope C (capN own caps) s₀ H₀ fp) G ifs dt) (he : ∀ C s₀ H₀ fp, JP (cxB X scope C (capN own caps) s₀ H₀ fp) G elt de)
  (gk : ∀ (w : PV) (ps ps' : PSt), g w ps = .ok ps' -> ∀ (i : Nat) (x : Ow), ps'[i]? = some (Sl.own x) -> ps[i]? = some (Sl.own x))
  (hsw : swapsWith (.ListComp elt [⟨tg, iter, ifs, 0⟩] scope cpos) (some (.Name x p)) pos.line X.env = pure true := by rfl) (hs : ∀ x, foldedSetIterable iter X.env x = pure x := by intro _; rfl)
  (hf : X.fn x = true \/ X.env.scope.names.lookup x = some .local := by first | exact .inl rfl | exact .inr rfl | assumption) : JS X G (.Assign [.Name x p] (.ListComp elt [⟨tg, iter, ifs, 0⟩] scope cpos) pos) (sSet i (dOfN (dComp own caps di g dt de))) :=
 impS (ps_comp (wi := tPs X.K G di) (g := tG X.K G g) (tc := tPt X.K G dt) (te := tPv X.K G de) hN hi' hx S hc hi hg ht he hsw hs hf) fun D σ H ⟨c, ow, ps, R, q⟩ => by
  obtain ⟨w, e0, q⟩ := ends_st q
  obtain ⟨ws, e1, e2⟩ := bind_ok e0
  cases e2
  exact comp_go gk ⟨c, ow, ps, ws, R, e1, fun p vs H' s hp hv r => q _ _ _ ((R.grow s).setV ⟨p, vs, rfl, .inl ⟨hv, fun z => R.used p z hp⟩, (Kp.weak fun a z => Or.inl z).reps r⟩) ((Kp.of_same s).trans (Kp.weak av_off))⟩
theorem comp_emb {α : Type} {dt : DT} {de : DP} {ps0 : PSt} (emb : α -> PV) (q : α -> Bool) (f : α -> PV) : ∀ (us : List α) (s : Sl), (∀ u, u ∈ us -> dt (.v (emb u) :: ps0) = .ok (q u) /\ (q u = true -> de (.v (emb u) :: ps0) = .ok (f u))) -> compD (gSet 0) dt de (us.map emb) (s :: ps0) = .ok ((us.filter q).map f)
 | [], s, _ => rfl
 | u :: us, s, h => by
  obtain ⟨h1, h2⟩ := h u List.mem_cons_self
  have ih := comp_emb emb q f us (.v (emb u)) fun w' hw => h w' (List.mem_cons_of_mem _ hw)
  have e0 : gSet 0 (emb u) (s :: ps0) = .ok (.v (emb u) :: ps0) := rfl
  rw [List.map_cons, compD, e0, ok_bind, h1, ok_bind]
  cases hp : q u with
  | true => rw [if_pos rfl, h2 hp, ok_bind, ih, ok_bind, List.filter_cons, if_pos hp]; rfl
  | false => rw [if_neg Bool.false_ne_true, ih, List.filter_cons, if_neg (by rw [hp]; exact Bool.false_ne_true)]
theorem comp_all {α : Type} {de : DP} {ps0 : PSt} (emb f : α -> PV) (us : List α) (s : Sl) (h : ∀ u, u ∈ us -> de (.v (emb u) :: ps0) = .ok (f u)) : compD (gSet 0) dYes de (us.map emb) (s :: ps0) = .ok (us.map f) := by
 rw [comp_emb emb (fun _ => true) f us s fun u hu => ⟨rfl, fun _ => h u hu⟩, List.filter_eq_self.mpr fun _ _ => rfl]
mutual
def PV.data : PV -> Bool
 | .obj _ _ => false
 | .dic _ _ => false
 | .clo _ _ => false
 | .tup xs => pdata xs
 | .lst xs => pdata xs
 | .dit _ _ => false
 | _ => true
def pdata : List PV -> Bool
 | [] => true
 | x :: xs => x.data && pdata xs
end
end
end DN
end
section
namespace DN
open PySem PySem.Spec PyProof.Rows L2
theorem putF_new {f : Str} {v : V} : ∀ {ns : List Str} {vs : List V}, f ∉ ns -> ns.length = vs.length -> putF f v (ns.zip vs) = (ns ++ [f]).zip (vs ++ [v])
 | [], [], _, _ => rfl
 | [], _ :: _, _, h => by simp at h
 | _ :: _, [], _, h => by simp at h
 | n :: ns, u :: vs, h, l => by
  have h1 : n ≠ f := fun z => h (by rw [z]; exact List.mem_cons_self)
  rw [List.zip_cons_cons]
  show (if n = f then _ else _) = _
  rw [if_neg h1, putF_new (fun z => h (List.mem_cons_of_mem _ z)) (by simpa using l)]
  rfl
theorem zip_at {f : Str} : ∀ {ns : List Str} {vs : List V} {j : Nat} {v : V}, ns.Nodup -> ns[j]? = some f -> vs[j]? = some v -> (ns.zip vs).lookup f = some v
 | [], _, _, _, _, h, _ => by simp at h
 | _ :: _, [], _, _, _, _, h => by simp at h
 | n :: ns, u :: vs, 0, v, nd, h1, h2 => by
  simp at h1 h2
  subst h1; subst h2
  rw [List.zip_cons_cons, List.lookup_cons]; simp
 | n :: ns, u :: vs, j + 1, v, nd, h1, h2 => by
  have h1 : ns[j]? = some f := by simpa using h1
  have h2 : vs[j]? = some v := by simpa using h2
  have hne : f ≠ n := fun z => (List.nodup_cons.mp nd).1 (by rw [<- z]; exact List.mem_of_getElem? h1)
  have hb : (f == n) = false := by simpa using hne
  rw [List.zip_cons_cons, List.lookup_cons, hb]
  exact zip_at (List.nodup_cons.mp nd).2 h1 h2
section
variable {X : Cx} {G : Pg} {e a b o tg : Expr} {es : List Expr} {da db : DP} {d : DA} {dm : DM} {ds du : DS} {pos p apos cpos : Pos} {x m : Str} {k i : Nat} {ms : List Bool}
def fldO (l : List (Nat × Nat)) (k : Nat) (xs : List PV) : Rx PV := match l.lookup k with | some j => (match xs[j]? with | some w => .ok w | none => .bad) | none => .bad
def dFldI (l : List (Nat × Nat)) (i : Nat) : DP := fun ps => match ps[i]? with
 | some (.ino (.obj k xs)) => fldO l k xs
 | some (.own (.obj k xs)) => fldO l k xs
 | some (.bor (.obj k xs)) => fldO l k xs
 | some (.ini k xs) => fldO l k xs
 | some (.v (.obj k xs)) => fldO l k xs
 | _ => .bad
theorem fldO_ok {l : List (Nat × Nat)} {k : Nat} {xs : List PV} {w : PV} (h : fldO l k xs = .ok w) : ∃ j, l.lookup k = some j /\ xs[j]? = some w := by
 unfold fldO at h
 split at h
 ·rename_i j hj
  split at h
  ·rename_i w' hw; cases h; exact ⟨j, hj, hw⟩
  ·cases h
 ·cases h
theorem p_fldI {f : Str} {l : List (Nat × Nat)} (i : Nat) (ok : FldOk X.K G f l) (hN : X.N[i]? = some x := by rfl) (hv : Vis X.env.scope x := by first | exact Or.inl rfl | exact Or.inr (Or.inl rfl) | exact Or.inr (Or.inr rfl)) (hd : (x == ("__debug__" : Str)) = false := by decide)
  (hcd : (x == ("__classdict__" : Str)) = false := by decide) (hb : attributeBase (.Name x p) f X.env (eval (.Name x p) X.env) = eval (.Name x p) X.env := by rfl) : JP X G (.Attribute (.Name x p) f pos) (dFldI l i) :=
 imp (pe_fld (pe_var hN hv hd hcd) hb) fun σ H Q ⟨c, ow, ps, w, R, e, q⟩ => by
  have full : ∀ {k : Nat} {xs : List PV} {p : Addr} {dx : Addr} {vs : List V}, fldO l k xs = .ok w -> σ[i]? = some (some (.ref p)) -> H p = some (.ins (G.cA k) dx ((G.fN k).zip vs)) -> Reps X.K G H (av c ow) xs vs -> tFld X.K (tVar i) f σ H Q := fun {k xs p dx vs} h hσ hH rs => by
   obtain ⟨j, hj, hw⟩ := fldO_ok h
   obtain ⟨c1, c2, c3, c4⟩ := ok.all k j hj
   obtain ⟨v, hv, rv⟩ := rs.get hw
   exact ⟨.ref p, hσ, p, _, dx, _, v, rfl, hH, c1, c2, zip_at c3 c4 hv, q v H (Same.refl H) rv⟩
  unfold dFldI at e
  split at e
  ·rename_i k xs hx
   obtain ⟨o', eo, _, _, pp, e2, _, dx, vs, hH, hl, rs⟩ := R.get hx
   rw [e2] at eo
   exact full e eo hH rs
  ·rename_i k xs hx
   obtain ⟨pp, e1, e2, dx, vs, hH, hl, rs⟩ := R.getO hx
   exact full e e2 hH rs
  ·rename_i k xs hx
   obtain ⟨o', eo, _, v, e2, r⟩ := R.get hx
   rw [e2] at eo
   have rb : RepB X.K G H (av c ow) (.obj k xs) v := by
    rcases r with r | ⟨y, pp, z1, z2, z3, _⟩
    ·exact .inl r
    ·exact .inr ⟨y, pp, z1, z2, z3⟩
   obtain ⟨aa, dx, vs, rfl, hH, hl, rs⟩ := rb.obj
   exact full e eo hH rs
  ·rename_i k xs hx
   obtain ⟨o', eo, _, _, pp, e2, _, dx, vs, hH, hl, rs⟩ := R.get hx
   rw [e2] at eo
   obtain ⟨j, hj, hw⟩ := fldO_ok e
   obtain ⟨c1, c2, c3, c4⟩ := ok.all k j hj
   obtain ⟨v, hv, rv⟩ := rs.get hw
   have hlt : j < xs.length := (List.getElem?_eq_some_iff.mp hw).1
   have c4' : ((G.fN k).take xs.length)[j]? = some f := by rw [List.getElem?_take_of_lt hlt]; exact c4
   exact ⟨.ref pp, eo, pp, _, dx, _, v, rfl, hH, c1, c2, zip_at (c3.sublist (List.take_sublist _ _)) c4' hv, q v H (Same.refl H) rv⟩
  ·rename_i k xs hx
   obtain ⟨v, ev, aa, dx, vs, rfl, hH, hl, na, rs⟩ := R.getV hx
   exact full e ev hH rs
  ·cases e
def sIni (k j : Nat) (d : DP) : DS := fun ps => match ps[(0 : Nat)]? with
 | some (.ini k' xs) => if k' = k /\ xs.length = j then (d ps).st fun w => .nx (ps.set 0 (.ini k (xs ++ [w]))) else .bad
 | _ => .bad
theorem s_ini {f : Str} {j : Nat} (k : Nat) (cl : Cls X.K (G.cA k)) (na : NoAttr X.K (G.cA k) f) (nd : (G.fN k).Nodup) (hf : (G.fN k)[j]? = some f) (hsm : (G.fN k).length < 1000) (he : JP X G e da) (hN : X.N[0]? = some x := by rfl) (hv : Vis X.env.scope x := by first | exact Or.inl rfl | exact Or.inr (Or.inl rfl) | exact Or.inr (Or.inr rfl))
  (hd : (x == ("__debug__" : Str)) = false := by decide) (hcd : (x == ("__classdict__" : Str)) = false := by decide) (hs : swapsWith e (some (.Attribute (.Name x p) f apos)) pos.line X.env = pure false := by rfl) :
  JS X G (.Assign [.Attribute (.Name x p) f apos] e pos) (sIni k j da) := impS (ps_fld (pe_var hN hv hd hcd) he hs) fun D σ H ⟨c, ow, ps, R, q⟩ => by
 unfold sIni at q
 split at q
 ·rename_i k' xs hx
  split at q
  ·rename_i hk
   obtain ⟨rfl, rfl⟩ := hk
   obtain ⟨w, e1, q⟩ := ends_st q
   refine ⟨c, ow, ps, w, R, e1, fun v H1 s1 r1 => ?_⟩
   have R1 := R.grow s1
   obtain ⟨o', eo, z1, z2, pp, e2, el, dx, vs, hH, hl, rs⟩ := R1.get hx
   rw [e2] at eo
   have hlt : xs.length < (G.fN k').length := (List.getElem?_eq_some_iff.mp hf).1
   have hlen : ((G.fN k').take xs.length).length = vs.length := by rw [List.length_take, <- rs.len]; omega
   have hfe : (G.fN k')[xs.length] = f := by
    have := List.getElem?_eq_getElem hlt
    rw [this] at hf
    exact Option.some.inj hf
   have htk : (G.fN k').take (xs.length + 1) = (G.fN k').take xs.length ++ [f] := by rw [List.take_succ_eq_append_getElem hlt, hfe]
   have hnot : f ∉ (G.fN k').take xs.length := fun z => by
    have nd' := nd.sublist (List.take_sublist (xs.length + 1) (G.fN k'))
    rw [htk] at nd'
    exact (List.nodup_append.mp nd').2.2 f z f (by simp) rfl
   have hput := putF_new (v := v) hnot hlen
   refine ⟨.ref pp, eo, pp, _, dx, _, rfl, hH, cl, na, ?_, ?_⟩
   ·rw [List.length_zip, hlen, Nat.min_self, <- rs.len]; omega
   ·have mD : Mt (HO.ins (G.cA k') dx (((G.fN k').take xs.length).zip vs)) := And.intro (fun _ z => by cases z) (fun _ _ z => by cases z)
    have k0 : Kp X.K G H1 (av c ow) (upd H1 pp (.ins (G.cA k') dx (putF f v (((G.fN k').take xs.length).zip vs)))) (av c ow) := Kp.own (.inl (R1.lent pp el).1) hH mD
    have := R1.chgL (s' := .ini k' (xs ++ [w])) (u := .ins (G.cA k') dx (putF f v (((G.fN k').take xs.length).zip vs))) hx el hH mD fun v' hv' => by
     rw [eo] at hv'
     cases hv'
     refine ⟨z1, rfl, pp, rfl, el, dx, vs ++ [v], ?_, ?_, k0.reps (rs.snoc r1)⟩
     ·rw [upd_same, hput, List.length_append, List.length_singleton, htk]
     ·rw [List.length_append, List.length_singleton]; omega
    exact q _ _ ow this.1 ((Kp.of_same s1).trans this.2)
  ·exact q.elim
 ·exact q.elim
end
def inI (k : Nat) (ms : List Bool) (n : Nat) (ws : List PV) : PSt := .ini k [] :: inP ms (n - 1) ws
def runI (k nf : Nat) (ms : List Bool) (n : Nat) (d : DS) (ws : List PV) : Rx PV := if ws.length = ms.length then (match d (inI k ms n ws) with
 | .nx ps => (match ps[(0 : Nat)]? with | some (.ini k' fs) => if k' = k /\ fs.length = nf then .ok (.obj k fs) else .bad | _ => .bad)
 | .exc c => .exc c
 | _ => .bad) else .bad
def spIn (K : Fg) (G : Pg) (k : Nat) (ms : List Bool) (g : List PV -> Rx PV) : Sp := fun vs H Q _ => ∃ (A : Av) (H1 : Hp) (ws : List PV) (x dx : Addr) (us : List V) (fs : List PV), vs = .ref x :: us /\ H x = some (.ins (G.cA k) dx []) /\ H1 x = none /\ Same H1 H /\ Used H1 A /\ RepM K G H1 A ms ws us /\ g ws = .ok (.obj k fs) /\
 ∀ H' dx' vs', Same H1 H' -> H' x = some (.ins (G.cA k) dx' ((G.fN k).zip vs')) -> (G.fN k).length = vs'.length -> Reps K G H' (fun a => A a \/ a = x) fs vs' -> Q .non H'
theorem RepF.keep {K : Fg} {G : Pg} {H H' : Hp} {A A' B : Av} {ps : PSt} {σ : L2.St} (R : RepF K G B H A ps σ) (k : Kp K G H A H' A') (e : ∀ p, B p -> H' p = H p) : RepF K G B H' A' ps σ := by
 refine ⟨R.len, fun i s o h1 h2 => ?_⟩
 have q := R.slot i s o h1 h2
 cases s with
 | no => exact True.intro
 | v w => obtain ⟨v, e, r⟩ := q; exact ⟨v, e, k.rep r⟩
 | own x => exact q.elim
 | ino x => exact q.elim
 | ini k xs => exact q.elim
 | dol ks xss => exact q.elim
 | als d j => exact q.elim
 | bor w =>
  obtain ⟨v, e1, r⟩ := q
  refine ⟨v, e1, ?_⟩
  rcases r with r | ⟨x, p, e1, e2, r, n⟩
  ·exact .inl (k.rep r)
  ·exact .inr ⟨x, p, e1, e2, r.keep k (e p n), n⟩
theorem RepF.cons {K : Fg} {G : Pg} {H : Hp} {A B : Av} {ps : PSt} {σ : L2.St} {s : Sl} {v : V} {x : Addr} (R : RepF K G B H A ps σ) (u : Used H A) (ub : ∀ a, B a -> H a ≠ none /\ a ≠ x) (hx : A x) (hs : SlAt K G ⟨H, A, B, some x⟩ (ps.length + 1) H (av ⟨H, A, B, some x⟩ ow0) ow0 0 s (some v)) : RepS K G ⟨H, A, B, some x⟩ H ow0 (s :: ps) (some v :: σ) := by
 refine ⟨by simp [R.len], SmL.of (Same.refl H), (fun p e => ?_), u, (fun a z => ⟨(ub a z).1, fun e => (ub a z).2 (Option.some.inj e).symm⟩), (fun i p e => (nomatch e)), (fun i j p e => (nomatch e)), (fun _ _ e => (nomatch e)), fun i s' o e1 e2 => ?_⟩
 ·cases e; exact ⟨hx, u x hx⟩
 ·cases i with
  | zero => simp at e1 e2; subst e1; subst e2; exact hs
  | succ i =>
   have q := R.slot i s' o (by simpa using e1) (by simpa using e2)
   have k : Kp K G H A H (av ⟨H, A, B, some x⟩ ow0) := Kp.weak fun a z => av0 a z
   cases s' with
   | no => rfl
   | v w => obtain ⟨v, e, r⟩ := q; exact ⟨rfl, v, e, k.rep r⟩
   | own x => exact q.elim
   | ino x => exact q.elim
   | ini k xs => exact q.elim
   | dol ks xss => exact q.elim
   | als d j => exact q.elim
   | bor w =>
    obtain ⟨v, e, r⟩ := q
    refine ⟨rfl, v, e, ?_⟩
    rcases r with r | ⟨x, p, e1, e2, r, n⟩
    ·exact .inl (k.rep r)
    ·exact .inr ⟨x, p, e1, e2, r.keep k rfl, n⟩
theorem start_cons {N : List Str} {v : V} {us : List V} (h : 0 < N.length) : L2.start N (v :: us) = some v :: L2.start N.tail us := by
 unfold L2.start
 cases N with
 | nil => simp at h
 | cons n N => simp
theorem fn_okI {P : Program} {w : World} {K : Fg} {mg : Str -> Option Value} {base : Bs} {G : Pg} {x qual : Str} {st : Stmt} {f : Addr} {fd : FuncData} {N ps : List Str} {k c nf : Nat} {ms : List Bool} {d : DS} (F : Fun K x qual st f fd) (S : FnScope N ps (defScope st)) (hm : ms.length + 1 = ps.length) (hn : 0 < N.length) (hnf : (G.fN c).length = nf)
  (hb : ∀ (cdv : Value) (A : Around) (outer : List Env) (s : Shared) (H : Hp) (E : XK), Room k (A.deeper (envOfC qual (defScope st) s.heap.objs.size f cdv)) -> JSs (cxOf CX0 P w K mg base N qual (defScope st) f cdv A outer s H E).nox G (defBody st) d) :
  FnOk P w K mg base CX0 (k + 1) f fd ps (spIn K G c ms (runI c nf ms N.length d)) := by
 refine F.ok S (fun vs H Q E h => ?_) (fun cdv A outer s H vs Q E hr h => ?_)
 ·obtain ⟨A, H1, ws, xa, dx, us, fs, rfl, _, _, _, _, r, _⟩ := h
  rw [List.length_cons, r.len.2, hm]
 ·obtain ⟨A', H1, ws, xa, dx, us, fs, rfl, hx, hx1, sm, u, r, e, q⟩ := h
  refine ⟨_, hb cdv A outer s H E hr, ?_⟩
  have hlen : N.tail.length = N.length - 1 := List.length_tail
  have F0 := in_rep (N := N.tail) r
  rw [hlen] at F0
  have nx : ∀ a, H1 a ≠ none -> a ≠ xa := fun a z y => z (by rw [y]; exact hx1)
  have kp : Kp K G H1 A' H (fun a => A' a \/ a = xa) := Kp.take hx1 sm fun a z => z.symm
  have F1 : RepF K G (fun p => H1 p ≠ none) H (fun a => A' a \/ a = xa) (inP ms (N.length - 1) ws) (L2.start N.tail us) := F0.keep kp fun p hp => by
   cases e1 : H1 p with
   | none => exact absurd e1 hp
   | some o => exact sm _ _ e1
  have us' : Used H (fun a => A' a \/ a = xa) := fun a z => by
   rcases z with z | z
   ·cases e1 : H1 a with
    | none => exact absurd e1 (u a z)
    | some o => rw [sm _ _ e1]; simp
   ·rw [z, hx]; simp
  have S0 := F1.cons (s := .ini c []) (v := .ref xa) (x := xa) us' (fun a z => ⟨by
   cases e1 : H1 a with
   | none => exact absurd e1 z
   | some o => rw [sm _ _ e1]; simp, nx a z⟩) (.inr rfl) ⟨rfl, rfl, xa, rfl, rfl, dx, [], by rw [hx]; rfl, Nat.zero_le _, rfl⟩
  rw [start_cons hn]
  refine ⟨_, ow0, inI c ms N.length ws, S0, ?_⟩
  unfold runI at e
  rw [if_pos r.len.1] at e
  cases ed : d (inI c ms N.length ws) with
  | nx ps' =>
   rw [ed] at e
   have e : (match ps'[(0 : Nat)]? with | some (.ini k' fs) => if k' = c /\ fs.length = nf then Rx.ok (PV.obj c fs) else .bad | _ => .bad) = .ok (.obj c fs) := e
   split at e
   ·rename_i k' fs' hp0
    split at e
    ·rename_i hk
     cases e
     obtain ⟨rfl, hfl⟩ := hk
     intro σ' H' ow' R' _
     obtain ⟨o', eo, z1, z2, pp, e2, el, dx', vs', hH, hl, rs⟩ := R'.get hp0
     cases el
     refine q H' dx' vs' (fun a o h => ?_) ?_ ?_ ((Kp.weak fun a z => Or.inl z).reps rs)
     ·exact R'.same a o (sm _ _ h) (fun z => nx a (by rw [h]; simp) (Option.some.inj z).symm)
     ·rw [hH, List.take_of_length_le (by rw [hfl, hnf]; exact Nat.le_refl _)]
     ·rw [hnf, <- hfl, rs.len]
    ·cases e
   ·cases e
  | ret w2 => rw [ed] at e; cases e
  | retn xs => rw [ed] at e; cases e
  | reti w x => rw [ed] at e; cases e
  | brk _ => rw [ed] at e; cases e
  | cnt _ => rw [ed] at e; cases e
  | bad => rw [ed] at e; cases e
  | exc _ => rw [ed] at e; cases e
structure NewI (P : Program) (w : World) (K : Fg) (mg : Str -> Option Value) (base : Bs) (G : Pg) (k : Nat) (x : Str) (c : Nat) (ms : List Bool) (g : List PV -> Rx PV) : Prop where
 glob : mg x = some (.ref (G.cA c))
 cl : Cls K (G.cA c)
 ex : ∃ (f : Addr) (fd : FuncData) (ps : List Str), Mk K (G.cA c) f /\ FnOk P w K mg base CX0 k f fd ps (spIn K G c ms g) /\ Binds K fd ps []
section
variable {X : Cx} {G : Pg} {e a b o tg : Expr} {es : List Expr} {da db : DP} {d : DA} {pos p : Pos} {x : Str} {k i c : Nat} {ms : List Bool} {g : List PV -> Rx PV}
theorem pe_newI {t : TA} (h : NewI X.prog X.w X.K X.mg X.base G k x c ms g) (hr : Room (k + 1) X.A) (hg : Gl X x) (ha : PA X (e :: es) t) (hdb : (x == ("__debug__" : Str)) = false := by decide)
  (he : starEach (e :: es) X.env = (false, eval e X.env) :: starEach es X.env := by rfl) (hpl : (backTo pos (starEach es X.env)).any (·.1) = false := by rfl) : PE X (.Call (.Name x p) (e :: es) [] pos) (tMake (G.cA c) (spIn X.K G c ms g) [] E0 t) := by
 obtain ⟨f, fd, ps, M, F, hb⟩ := h.ex
 exact pe_make M F hr hg h.glob hb .nil pass0 ha hdb he hpl
theorem newI_of {H : Hp} {Q : VK} {cf : Fr} {ow : Ows} {ps : PSt} {σ : L2.St} {ws : List PV} {vs : List V} {fs : List PV} (R : RepS X.K G cf H ow ps σ) (r : RepM X.K G H (av cf ow) ms ws vs) (e : g ws = .ok (.obj c fs))
  (q : ∀ x dx us H', Same H H' -> H x = none -> H' x = some (.ins (G.cA c) dx ((G.fN c).zip us)) -> (G.fN c).length = us.length -> Reps X.K G H' (fun a => av cf ow a \/ a = x) fs us -> Q (.ref x) H') :
  ∀ x dx, H x = none -> H dx = none -> dx ≠ x -> spIn X.K G c ms g (.ref x :: (vs ++ [])) (upd (upd H dx (.own x)) x (.ins (G.cA c) dx [])) (fun v H2 => v = .non /\ Q (.ref x) H2) E0 := by
 intro x dx n1 n2 ne
 have sn : Same H (upd (upd H dx (.own x)) x (.ins (G.cA c) dx [])) := fun b o h => by rw [upd_ne (ne_of_none h n1), upd_ne (ne_of_none h n2)]; exact h
 exact ⟨av cf ow, H, ws, x, dx, vs, fs, by rw [List.append_nil], upd_same, n1, sn, R.used, r, e, fun H' dx' vs' s h1 h2 h3 => ⟨rfl, q x dx' vs' H' s n1 h1 h2 h3⟩⟩
theorem p_newI (h : NewI X.prog X.w X.K X.mg X.base G k x c ms g) (hr : Room (k + 1) X.A) (hg : Gl X x) (ha : JA X G ms (e :: es) d) (hobj : ∀ ws w, g ws = .ok w -> ∃ fs, w = .obj c fs) (hdb : (x == ("__debug__" : Str)) = false := by decide)
  (he : starEach (e :: es) X.env = (false, eval e X.env) :: starEach es X.env := by rfl) (hpl : (backTo pos (starEach es X.env)).any (·.1) = false := by rfl) : JP X G (.Call (.Name x p) (e :: es) [] pos) (dCall g d) :=
 imp (pe_newI h hr hg ha hdb he hpl) fun σ H Q ⟨cf, ow, ps, w, R, e, q⟩ => by
  obtain ⟨ws, e1, e2⟩ := bind_ok e
  obtain ⟨fs, rfl⟩ := hobj ws w e2
  refine ⟨cf, ow, ps, ws, R, e1, fun vs H' s r => ?_⟩
  refine newI_of (R.grow s) r e2 fun xx dx us H2 s2 n1 h1 h2 h3 => ?_
  exact q _ H2 (s.trans s2) ⟨xx, dx, us, rfl, h1, h2, fun z => (R.grow s).used xx z n1, (Kp.weak fun a z => Or.inl z).reps h3⟩
theorem runI_obj {k nf n : Nat} {ms : List Bool} {d : DS} {ws : List PV} {w : PV} (h : runI k nf ms n d ws = .ok w) : ∃ fs, w = .obj k fs := by
 unfold runI at h
 split at h
 ·split at h
  ·split at h
   ·split at h
    ·cases h; exact ⟨_, rfl⟩
    ·cases h
   ·cases h
  ·cases h
  ·cases h
 ·cases h
theorem spIn_none {P : Program} {w : World} {K : Fg} {mg : Str -> Option Value} {base : Bs} {n : Nat} {f : Addr} {fd : FuncData} {ps : List Str} {g : List PV -> Rx PV} (h : ∀ ws, g ws = .bad) : FnOk P w K mg base CX0 n f fd ps (spIn K G c ms g) :=
 fn_none fun vs H Q E ⟨A, H1, ws, x, dx, us, fs, _, _, _, _, _, _, e, _⟩ => by rw [h] at e; cases e
variable (ps : PSt)
@[simp] theorem e_ini (k j : Nat) : sIni k j da ps = match ps[(0 : Nat)]? with
 | some (.ini k' xs) => if k' = k /\ xs.length = j then (da ps).st fun w => .nx (ps.set 0 (.ini k (xs ++ [w]))) else .bad
 | _ => .bad := rfl
@[simp] theorem e_fldI (l : List (Nat × Nat)) (i : Nat) : dFldI l i ps = match ps[i]? with
 | some (.ino (.obj k xs)) => fldP l (.obj k xs)
 | some (.own (.obj k xs)) => fldP l (.obj k xs)
 | some (.bor (.obj k xs)) => fldP l (.obj k xs)
 | some (.ini k xs) => fldP l (.obj k xs)
 | some (.v (.obj k xs)) => fldP l (.obj k xs)
 | _ => .bad := rfl
end
end DN
end
section
namespace DN
open PySem PySem.Spec PyProof.Rows L2
def SameX (p : Addr) (H H' : Hp) : Prop := ∀ a o, H a = some o -> a ≠ p -> H' a = some o
section
variable {K : Fg} {G : Pg} {H H' : Hp} {A A' : Av} {c : Fr} {ow : Ows} {ps : PSt} {σ : L2.St}
end
def spO (K : Fg) (G : Pg) (ms : List Bool) (g : List PV -> Rx PV) : Sp := fun vs H Q _ => ∃ (A : Av) (H1 : Hp) (p : Addr) (k : Nat) (xs ws : List PV) (us : List V) (w : PV) (k' : Nat) (xs' : List PV), vs = .ref p :: us /\ A p /\ H1 p = none /\ Same H1 H /\ Used H A /\ RepO K G H A (.obj k xs) p /\ RepM K G H1 A ms ws us /\
 g (.obj k xs :: ws) = .ok (.tup [w, .obj k' xs']) /\ ∀ v H', SameX p H H' -> RepO K G H' A (.obj k' xs') p -> Rep K G H' A w v -> Q v H'
structure MtO (P : Program) (w : World) (K : Fg) (mg : Str -> Option Value) (base : Bs) (G : Pg) (k : Nat) (m : Str) (ms : List Bool) (tab : List (Nat × Nat)) (g : Nat -> List PV -> Rx PV) : Prop where
 all : ∀ c f, tab.lookup c = some f -> MethAt P w K mg base CX0 k (G.cA c) m (spO K G ms (g f)) /\ m ∉ G.fN c
section
variable {X : Cx} {G : Pg} {e a b o tg : Expr} {es : List Expr} {da db : DP} {d : DA} {dm : DM} {dma : DMA} {ds du : DS} {dt : DT} {pos p apos cpos : Pos} {x m : Str} {k i : Nat} {ms : List Bool}
end
end DN
end
section
namespace DN
open PySem PySem.Spec PyProof.Rows L2
section
variable {X : Cx} {G : Pg} {e a b o tg : Expr} {es : List Expr} {da db : DP} {d : DA} {dm : DM} {dma : DMA} {ds du : DS} {dt : DT} {pos p apos cpos : Pos} {x m : Str} {k i : Nat} {ms : List Bool}
abbrev DTM := PSt -> Rx (Bool × PSt)
def tMt (K : Fg) (G : Pg) (d : DTM) : TT := fun σ H Q => ∃ (c : Fr) (ow : Ows) (ps : PSt) (b : Bool) (ps' : PSt), RepS K G c H ow ps σ /\ d ps = .ok (b, ps') /\ ∀ H' ow', RepS K G c H' ow' ps' σ -> Kp K G H (av c ow) H' (av c ow') -> Q b H'
abbrev JTM (X : Cx) (G : Pg) (e : Expr) (d : DTM) : Prop := PT X e (tMt X.K G d)
def mTr (d : DM) : DTM := fun ps => (d ps).bind fun r => match r.1 with | .bl b => .ok (b, r.2) | _ => .bad
def mOfT (d : DT) : DTM := fun ps => (d ps).bind fun b => .ok (b, ps)
theorem tm_of (h : JT X G e dt) : JTM X G e (mOfT dt) := impT h fun σ H Q ⟨c, ow, ps, b, ps', R, e, q⟩ => by
 obtain ⟨b', e1, e2⟩ := bind_ok e
 cases e2
 exact ⟨c, ow, ps, b, R, e1, fun H' s => q H' ow (R.grow s) (Kp.of_same s)⟩
def mNot (d : DTM) : DTM := fun ps => (d ps).bind fun r => .ok (!r.1, r.2)
def mOr (t u : DTM) : DTM := fun ps => (t ps).bind fun r => if r.1 = true then .ok (true, r.2) else u r.2
def mAnd (t u : DTM) : DTM := fun ps => (t ps).bind fun r => if r.1 = true then u r.2 else .ok (false, r.2)
def sIfM (t : DTM) (a b : DS) : DS := fun ps => (t ps).st fun r => if r.1 = true then a r.2 else b r.2
def iterM (t : DTM) (body : DS) : Nat -> PSt -> Option Rs
 | 0, _ => none
 | n + 1, ps => match t ps with
  | .ok (true, ps1) => (match body ps1 with
   | .nx ps2 => iterM t body n ps2
   | .cnt ps2 => iterM t body n ps2
   | .brk ps2 => some (.nx ps2)
   | r => some r)
  | .ok (false, ps1) => some (.nx ps1)
  | .bad => some .bad
  | .exc c => some (.exc c)
def sWhileM (t : DTM) (body : DS) : DS := fun ps => (iterM t body 100000 ps).getD .bad
theorem s_whileM {ce : Expr} {body : List Stmt} {d1 : DTM} (hp : PassesOwn (model X.prog X.w) X.A X.env X.xe) (hc : JTM X G ce d1) (hb : JSs X G body ds) : JS X G (.While ce body [] pos) (sWhileM d1 ds) := impS (ps_while hp hc hb) fun D σ H ⟨c, ow, ps, R, q⟩ => by
 unfold sWhileM at q
 generalize (100000 : Nat) = n at q
 cases h : iterM d1 ds n ps with
 | none => rw [h] at q; exact q.elim
 | some r =>
  rw [h] at q
  have q : EndsAt X.K G c H (av c ow) D r := q
  refine ⟨fun m σ' H' => ∃ ow' ps', RepS X.K G c H' ow' ps' σ' /\ iterM d1 ds m ps' = some r /\ EndsAt X.K G c H' (av c ow') D r, ⟨n, ow, ps, R, h, q⟩, ?_⟩
  rintro m σ' H' ⟨ow', ps', R', h', q'⟩
  cases m with
  | zero => cases h'
  | succ m =>
   rw [iterM] at h'
   cases e : d1 ps' with
   | bad => rw [e] at h'; cases h'; exact q'.elim
   | exc c => rw [e] at h'; cases h'; exact q'.elim
   | ok r1 =>
    obtain ⟨b, p1⟩ := r1
    rw [e] at h'
    refine ⟨c, ow', ps', b, p1, R', e, fun H2 ow2 R2 k2 => ?_⟩
    cases b with
    | false =>
     cases h'
     exact iteF (q' σ' H2 ow2 R2 k2)
    | true =>
     refine iteT ⟨_, fun _ _ h => h, c, ow2, p1, R2, ?_⟩
     have q2 := q'.mono k2
     cases eb : ds p1 with
     | nx ps2 =>
      have h' : iterM d1 ds m ps2 = some r := by simpa only [eb] using h'
      exact fun σ4 H4 ow4 R4 k4 => ⟨m, Nat.lt_succ_self m, ow4, ps2, R4, h', q2.mono k4⟩
     | cnt ps2 =>
      have h' : iterM d1 ds m ps2 = some r := by simpa only [eb] using h'
      exact fun σ4 H4 ow4 R4 k4 => ⟨m, Nat.lt_succ_self m, ow4, ps2, R4, h', q2.mono k4⟩
     | brk ps2 => simp only [eb] at h'; cases h'; exact q2
     | ret w => simp only [eb] at h'; cases h'; exact q2
     | retn xs => simp only [eb] at h'; cases h'; exact q2
     | reti w x => simp only [eb] at h'; cases h'; exact q2
     | bad => simp only [eb] at h'; cases h'; exact q2
     | exc c => simp only [eb] at h'; cases h'; exact q2
def mNew (c n : Nat) (d : DMA) : DM := fun ps => (d ps).bind fun r => if r.1.length = n then .ok (.obj c r.1, r.2) else .bad
end
end DN
end
section
namespace DN
open PySem PySem.Spec PyProof.Rows L2
def mkS (l : List Nat) : Str := ⟨l.toArray⟩
def fst1 (y : List Nat) : List Nat -> List Nat -> Option (List Nat × List Nat)
 | _, [] => none
 | cur, c :: l => if y.isPrefixOf (c :: l) = true then some (cur.reverse, (c :: l).drop y.length) else fst1 y (c :: cur) l
section
open PySem.StrLaws PySem.Builtin PySem.Builtin.Str
theorem at_iff {x y : Str} {i : Nat} (hw : 1 <= y.length) (hi : i <= x.length) : At x y x.length i ↔ y.cps.toList.isPrefixOf (x.cps.toList.drop i) = true := by
 have hl : x.length = x.cps.toList.length := by simp [Str.length]
 have hy : y.length = y.cps.toList.length := by simp [Str.length]
 unfold At
 rw [subAt_eq, List.isPrefixOf_iff_prefix, List.prefix_iff_eq_take]
 constructor
 ·rintro ⟨h1, h2⟩
  rw [<- hy]
  simpa using (beq_iff_eq.mp h2).symm
 ·intro h
  rw [<- hy] at h
  refine ⟨?_, by rw [<- h]; simp⟩
  have := congrArg List.length h
  rw [<- hy, List.length_take, List.length_drop] at this
  omega
end
section
variable {X : Cx} {G : Pg} {e a b o tg : Expr} {es : List Expr} {da db : DP} {d : DA} {pos p apos cpos : Pos} {x m : Str} {k i : Nat} {ms : List Bool}
def goodSep (y : Str) : Bool := y.cps.all (· < 256) && decide (1 <= y.cps.toList.length)
theorem goodSep_ok {y : Str} (h : goodSep y = true) : 1 <= y.length /\ Builtin.Str.strKind y = 1 /\ (y.length == 0) = false := by
 unfold goodSep at h
 rw [Bool.and_eq_true, decide_eq_true_iff] at h
 have h1 : 1 <= y.length := by have := h.2; simp [Str.length] at this ⊢; omega
 refine ⟨h1, by unfold Builtin.Str.strKind; rw [if_pos h.1], ?_⟩
 rw [beq_eq_false_iff_ne]; omega
open PySem.StrLaws PySem.Builtin PySem.Builtin.Str in
theorem fst1_none {x y : Str} (hw : 1 <= y.length) : ∀ (n i : Nat) (cur : List Nat), i + n = x.length -> (∀ k, i <= k -> ¬ At x y x.length k) -> fst1 y.cps.toList cur (x.cps.toList.drop i) = none
 | 0, i, cur, h, hn => by
  have hl : x.length = x.cps.toList.length := by simp [Str.length]
  rw [List.drop_of_length_le (i := i) (by omega)]
  rfl
 | n + 1, i, cur, h, hn => by
  have hl : x.length = x.cps.toList.length := by simp [Str.length]
  have hi : i < x.cps.toList.length := by omega
  have h0 := hn i (Nat.le_refl _)
  rw [at_iff hw (by omega)] at h0
  rw [List.drop_eq_getElem_cons hi] at h0 ⊢
  unfold fst1
  rw [if_neg h0]
  exact fst1_none hw n (i + 1) _ (by omega) fun k hk => hn k (by omega)
open PySem.StrLaws PySem.Builtin PySem.Builtin.Str in
theorem fst1_at {x y : Str} (hw : 1 <= y.length) : ∀ (n i : Nat), At x y x.length (i + n) -> (∀ k, i <= k -> k < i + n -> ¬ At x y x.length k) -> fst1 y.cps.toList (x.cps.toList.take i).reverse (x.cps.toList.drop i) = some (x.cps.toList.take (i + n), x.cps.toList.drop (i + n + y.length))
 | 0, i, h1, hn => by
  have hl : x.length = x.cps.toList.length := by simp [Str.length]
  have hy : y.length = y.cps.toList.length := by simp [Str.length]
  have hi : i < x.cps.toList.length := by have := h1.1; omega
  rw [Nat.add_zero] at h1 ⊢
  rw [at_iff hw (by omega)] at h1
  rw [List.drop_eq_getElem_cons hi] at h1 ⊢
  unfold fst1
  rw [if_pos h1, List.reverse_reverse, <- List.drop_eq_getElem_cons hi, List.drop_drop, <- hy]
 | n + 1, i, h1, hn => by
  have hl : x.length = x.cps.toList.length := by simp [Str.length]
  have hi : i < x.cps.toList.length := by have := h1.1; omega
  have h0 := hn i (Nat.le_refl _) (by omega)
  rw [at_iff hw (by omega)] at h0
  rw [List.drop_eq_getElem_cons hi] at h0 ⊢
  unfold fst1
  rw [if_neg h0]
  have := fst1_at hw n (i + 1) (by rw [show i + 1 + n = i + (n + 1) from by omega]; exact h1) fun k hk hk2 => hn k (by omega) (by omega)
  rw [show i + 1 + n = i + (n + 1) from by omega] at this
  rw [<- this, List.take_succ, List.reverse_append, List.getElem?_eq_getElem hi]
  rfl
def part (x y : Str) : Str × Str × Str := match fst1 y.cps.toList [] x.cps.toList with
 | some (p, r) => (mkS p, y, mkS r)
 | none => (x, ⟨#[]⟩, ⟨#[]⟩)
end
section
variable {P : Program} {w : World} {K : Fg} {mg : Str -> Option Value} {base : Bs} {G : Pg} {n : Nat} {m : Str} {ms : List Bool}
end
end DN
end
section
namespace DN
open PySem PySem.Spec PyProof.Rows L2
@[simp] theorem pv_lst (xs : List PV) : (Ow.lst xs).pv = .lst xs := rfl
@[simp] theorem pv_objO (k : Nat) (xs : List PV) : (Ow.obj k xs).pv = .obj k xs := rfl
@[simp] theorem pv_dic (ks : List Key) (xs : List PV) : (Ow.dic ks xs).pv = .dic ks xs := rfl
end DN
end
section
namespace DN
open PySem PySem.Spec PyProof.Rows L2
def spC (K : Fg) (G : Pg) (np : Nat) (g : List PV -> Rx PV) : SpN := fun vs cv H Q _ => ∃ A ws cw w, Used H A /\ RepM K G H A (List.replicate np false) ws vs /\ Reps K G H A cw cv /\ g (ws ++ cw) = .ok w /\ ∀ v H', Same H H' -> Rep K G H' A w v -> Q v H'
section
variable {P : Program} {w : World} {K : Fg} {mg : Str -> Option Value} {base : Bs} {G : Pg} {H : Hp} {A : Av}
theorem RepM.more {cw : List PV} {cv : List V} : ∀ {n : Nat} {ws : List PV} {vs : List V}, RepM K G H A (List.replicate n false) ws vs -> Reps K G H A cw cv -> RepM K G H A (List.replicate (n + cw.length) false) (ws ++ cw) (vs ++ cv)
 | 0, ws, vs, h, r => by
  obtain ⟨rfl, rfl⟩ := h
  rw [Nat.zero_add]
  exact go r
 | n + 1, ws, vs, h, r => by
  obtain ⟨w, wr, v, vr, rfl, rfl, r1, rr⟩ := h
  rw [Nat.add_right_comm]
  exact ⟨w, wr ++ cw, v, vr ++ cv, rfl, rfl, r1, RepM.more rr r⟩
where go : ∀ {cw : List PV} {cv : List V}, Reps K G H A cw cv -> RepM K G H A (List.replicate cw.length false) cw cv
 | [], cv, h => ⟨rfl, h⟩
 | w :: cw, cv, h => by
  obtain ⟨v, r, rfl, r1, r2⟩ := h
  exact ⟨w, cw, v, r, rfl, rfl, by rw [if_neg Bool.false_ne_true]; exact r1, go r2⟩
theorem clo_ok {n : Nst} {body : List Stmt} {N ps : List Str} {k np : Nat} {d : DS} (hb : n.body = .stmts body) (S : NScope N ps n.free n.scope) (hm : np = ps.length)
  (hbind : ∀ (nm qual : Str) (cl : List (Str × Addr)) (doc pm cdv ct : Value) (us : List Value), us.length = ps.length -> bindArgs (fnY n nm qual cl doc pm cdv ct) ⟨us, []⟩ = pure (ps.zip us))
  (hj : ∀ (qual : Str) (cd : Value) (cl : List (Str × Addr)) (f : Addr) (A : Around) (outer : List Env) (s : Shared) (H : Hp) (E : XK), Room k (A.deeper (PySem.W.envX qual n.scope s.heap.objs.size f cd cl)) -> JSs (cxN CX0 P w K mg base N qual n.scope f cd cl A outer s H E).nox G body d) :
  ClOk P w K mg base CX0 (k + 1) n (spC K G np (runD (List.replicate (np + n.free.length) false) N.length d)) := by
 refine clo_of hb S (fun vs cv H Q E ⟨A, ws, cw, w, u, r, _⟩ => by rw [r.len.2, List.length_replicate, hm]) hbind (fun qual cd cl f A outer s H vs cv Q E hr hce h => ?_)
 obtain ⟨A', ws, cw, w', u, r, rc, e, q⟩ := h
 refine ⟨_, (hj qual cd cl f A outer s H E hr).nox, ?_⟩
 have hl : n.free.length = cw.length := by rw [hce.len]; exact rc.len.symm
 have r2 := r.more rc
 have F0 := in_rep (N := N) r2
 have S0 := F0.toS u fun a z => z
 refine ⟨_, ow0, inP (List.replicate (np + cw.length) false) N.length (ws ++ cw), S0, ?_⟩
 unfold runD at e
 rw [hl, if_pos r2.len.1] at e
 cases ed : d (inP (List.replicate (np + cw.length) false) N.length (ws ++ cw)) with
 | nx ps' => rw [ed] at e; cases e; exact fun σ' H' ow' R' _ => q .non H' (R'.same.same rfl) rfl
 | ret w2 => rw [ed] at e; cases e; exact fun v H' s r => q v H' (s.same rfl) r
 | reti w x => rw [ed] at e; cases e
 | retn xs => rw [ed] at e; cases e; exact fun p vs H' s hp hv r => q (.ref p) H' (s.same rfl) ⟨p, vs, rfl, .inl ⟨hv, fun z => u p z hp⟩, (Kp.weak fun a z => Or.inl z).reps r⟩
 | brk _ => rw [ed] at e; cases e
 | cnt _ => rw [ed] at e; cases e
 | bad => rw [ed] at e; cases e
 | exc _ => rw [ed] at e; cases e
theorem clo_none {n : Nst} {k np : Nat} {g : List PV -> Rx PV} (h : ∀ ws, g ws = .bad) : ClOk P w K mg base CX0 k n (spC K G np g) :=
 ⟨fun A outer s H q cl us vs cv Q E _ _ _ _ _ ⟨_, ws, cw, w, _, _, _, e, _⟩ => by rw [h] at e; cases e⟩
structure ClAll (P : Program) (w : World) (K : Fg) (mg : Str -> Option Value) (base : Bs) (G : Pg) (k : Nat) (tab : List (Nat × Nat)) (g : Nat -> List PV -> Rx PV) : Prop where
 all : ∀ f np, tab.lookup f = some np -> ClOk P w K mg base CX0 k (G.nF f) (spC K G np (g f))
theorem ca_nil {k : Nat} {g : Nat -> List PV -> Rx PV} : ClAll P w K mg base G k [] g := ⟨fun f np h => by simp at h⟩
theorem ca_cons {k f np : Nat} {tab : List (Nat × Nat)} {g : Nat -> List PV -> Rx PV} (h : ClOk P w K mg base CX0 k (G.nF f) (spC K G np (g f))) (r : ClAll P w K mg base G k tab g) : ClAll P w K mg base G k ((f, np) :: tab) g :=
 ⟨fun f' np' e => by
  rcases look_cons e with ⟨rfl, rfl⟩ | e
  ·exact h
  ·exact r.all f' np' e⟩
end
section
variable {X : Cx} {G : Pg} {e a b o : Expr} {es : List Expr} {da db : DP} {d : DA} {ds : DS} {pos p apos : Pos} {x m : Str} {k i : Nat} {ms : List Bool} {tab : List (Nat × Nat)} {g : Nat -> List PV -> Rx PV}
def appC (tab : List (Nat × Nat)) (g : Nat -> List PV -> Rx PV) (x : PV) (m : Rx (List PV)) : Rx PV := match x with
 | .clo f cw => (match tab.lookup f with | some np => m.bind fun ws => if ws.length = np then g f (ws ++ cw) else .bad | none => .bad)
 | _ => .bad
theorem appC_ok {x : PV} {m : Rx (List PV)} {w : PV} (h : appC tab g x m = .ok w) : ∃ f cw np ws, x = .clo f cw /\ tab.lookup f = some np /\ m = .ok ws /\ ws.length = np /\ g f (ws ++ cw) = .ok w := by
 unfold appC at h
 split at h
 ·rename_i f cw
  split at h
  ·rename_i np hnp
   obtain ⟨ws, e1, h⟩ := bind_ok h
   split at h
   ·rename_i hl; exact ⟨f, cw, np, ws, rfl, hnp, e1, hl, h⟩
   ·cases h
  ·cases h
 ·cases h
theorem rep_false {K : Fg} {H : Hp} {A : Av} : ∀ {ms : List Bool} {ws : List PV} {vs : List V}, ms.all (! ·) = true -> RepM K G H A ms ws vs -> RepM K G H A (List.replicate ws.length false) ws vs
 | [], ws, vs, _, h => by obtain ⟨rfl, rfl⟩ := h; exact ⟨rfl, rfl⟩
 | m :: ms, ws, vs, hm, h => by
  obtain ⟨w, wr, v, vr, rfl, rfl, r, rr⟩ := h
  rw [List.all_cons, Bool.and_eq_true] at hm
  cases m with
  | true => simp at hm
  | false => exact ⟨w, wr, v, vr, rfl, rfl, r, rep_false hm.2 rr⟩
theorem callV_of (h : ClAll X.prog X.w X.K X.mg X.base G k tab g) (hms : ms.all (! ·) = true) {c : Fr} {ow : Ows} {ps : PSt} {σ : L2.St} {H H1 : Hp} {Q : VK} {y w : PV} {u : V} (R : RepS X.K G c H ow ps σ) (s1 : Same H H1) (ry : Rep X.K G H1 (av c ow) y u)
  (e : appC tab g y (d ps) = .ok w) (q : ∀ v H', Same H H' -> Rep X.K G H' (av c ow) w v -> Q v H') :
  tCallV (ι := { q : Nat × Nat // tab.lookup q.1 = some q.2 }) (fun i => G.nF i.1.1) (fun i => spC X.K G i.1.2 (g i.1.1)) E0 (tPa X.K G ms d) σ H1 u Q := by
 obtain ⟨f, cw, np, ws, rfl, ht, e1, hl, e2⟩ := appC_ok e
 obtain ⟨qa, cl, cv, rfl, hc, hce, rc⟩ := ry
 refine ⟨⟨(f, np), ht⟩, qa, cl, cv, rfl, hc, c, ow, ps, ws, R.grow s1, e1, fun vs H2 s2 r => ⟨hc.keep fun a o u z => s2 _ _ z, hce.keep fun a o u z => s2 _ _ z, _, ws, cw, w, (R.grow (s1.trans s2)).used, ?_, rc.same s2, e2, fun v H' s r2 => q v H' ((s1.trans s2).trans s) r2⟩⟩
 have := rep_false hms r
 rw [hl] at this
 exact this
def dCallV (tab : List (Nat × Nat)) (g : Nat -> List PV -> Rx PV) (a : DP) (d : DA) : DP := fun ps => (a ps).bind fun y => appC tab g y (d ps)
theorem p_callV (hf : JP X G (.Name x p) da) (h : ClAll X.prog X.w X.K X.mg X.base G k tab g) (hr : Room k X.A) (ha : JA X G ms (e :: es) d) (hms : ms.all (! ·) = true := by rfl)
  (hst : starEach (e :: es) X.env = (false, eval e X.env) :: starEach es X.env := by rfl) (hpl : (backTo pos (starEach es X.env)).any (·.1) = false := by rfl) :
  JP X G (.Call (.Name x p) (e :: es) [] pos) (dCallV tab g da d) :=
 imp (pe_callV (ι := { q : Nat × Nat // tab.lookup q.1 = some q.2 }) (E := E0) hf (fun i => h.all i.1.1 i.1.2 i.2) hr pass0 ha hst hpl) fun σ H Q ⟨c, ow, ps, w, R, e, q⟩ => by
  obtain ⟨y, e1, e2⟩ := bind_ok e
  exact ⟨c, ow, ps, y, R, e1, fun u H1 s1 ry => callV_of h hms R s1 ry e2 q⟩
def dCallA (tab : List (Nat × Nat)) (g : Nat -> List PV -> Rx PV) (l : List (Nat × Nat)) (a : DP) (d : DA) : DP := fun ps => (a ps).bind fun x => (fldP l x).bind fun y => appC tab g y (d ps)
theorem p_callA {l : List (Nat × Nat)} {pl : Sem Bool} (ok : FldOk X.K G m l) (ho : JP X G o da) (h : ClAll X.prog X.w X.K X.mg X.base G k tab g) (hr : Room k X.A) (ha : JA X G ms (e :: es) d) (hms : ms.all (! ·) = true := by rfl)
  (hst : starEach (e :: es) X.env = (false, eval e X.env) :: starEach es X.env := by rfl) (hpl : (backTo pos (starEach es X.env)).any (·.1) = false := by rfl)
  (ht : eval (.Call (.Attribute o m apos) (e :: es) [] pos) X.env = (do
   let ov <- eval o X.env
   standAt apos.atName
   let (f, first) <- holding [ov] (getMethod ov m pl)
   callWith pos f first (backTo pos (starEach (e :: es) X.env)) (backToKw pos (keywordEach [] X.env))) := by rfl) :
  JP X G (.Call (.Attribute o m apos) (e :: es) [] pos) (dCallA tab g l da d) :=
 imp (pe_callA (ι := { q : Nat × Nat // tab.lookup q.1 = some q.2 }) (E := E0) (pl := pl) ho (fun i => h.all i.1.1 i.1.2 i.2) hr pass0 ha hst hpl ht) fun σ H Q ⟨c, ow, ps, w, R, e, q⟩ => by
  obtain ⟨y, e1, e2⟩ := bind_ok e
  obtain ⟨z, e2, e3⟩ := bind_ok e2
  refine ⟨c, ow, ps, y, R, e1, fun u H1 s1 ry => ?_⟩
  unfold fldP at e2
  split at e2
  ·rename_i kk xs _
   split at e2
   ·rename_i j hj
    split at e2
    ·rename_i w' hw
     cases e2
     obtain ⟨a, dx, vs, rfl, hH, hl, na, rs⟩ := ry
     obtain ⟨c1, c2, c3, c4⟩ := ok.all kk j hj
     obtain ⟨v, hv, rv⟩ := rs.get hw
     exact ⟨a, _, dx, _, v, rfl, hH, c1, c2, zip_lookup c3 c4 hv, callV_of h hms R s1 rv e3 q⟩
    ·cases e2
   ·cases e2
  ·cases e2
def capV (js : List Nat) (ps : PSt) : Rx (List PV) := match js with
 | [] => .ok []
 | j :: js => match ps[j]? with
  | some (.v w) => (capV js ps).bind fun ws => .ok (w :: ws)
  | _ => .bad
theorem capV_ok {K : Fg} {c : Fr} {H : Hp} {ow : Ows} {ps : PSt} {σ : L2.St} (R : RepS K G c H ow ps σ) : ∀ {js : List Nat} {ws : List PV}, capV js ps = .ok ws -> ∃ cv, Held σ js cv /\ Reps K G H (av c ow) ws cv
 | [], ws, h => by cases h; exact ⟨[], ⟨rfl, fun i j v e => by simp at e⟩, rfl⟩
 | j :: js, ws, h => by
  unfold capV at h
  split at h
  ·rename_i w hw
   obtain ⟨us, e1, e2⟩ := bind_ok h
   cases e2
   obtain ⟨v, e3, r⟩ := R.getV hw
   obtain ⟨cv, ⟨l, hh⟩, rs⟩ := capV_ok R e1
   refine ⟨v :: cv, ⟨by simp [l], fun i j' v' a1 a2 => ?_⟩, v, cv, rfl, r, rs⟩
   cases i with
   | zero => simp at a1 a2; subst a1 a2; exact e3
   | succ i => exact hh i j' v' (by simpa using a1) (by simpa using a2)
  ·cases h
theorem mk_of {f : Nat} {js : List Nat} {ps : PSt} {c : Fr} {ow : Ows} {σ : L2.St} {H : Hp} {Q : VK} {ws : List PV} (R : RepS X.K G c H ow ps σ) (e : capV js ps = .ok ws) (q : ∀ v H', Same H H' -> Rep X.K G H' (av c ow) (.clo f ws) v -> Q v H') : tMk (G.nF f) js σ H Q := by
 obtain ⟨cv, hh, rs⟩ := capV_ok R e
 exact ⟨cv, hh, fun qa cl H' s hn hc hce => q _ H' s ⟨qa, cl, cv, rfl, hc, hce, rs.same s⟩⟩
def dLam (f : Nat) (js : List Nat) : DP := fun ps => (capV js ps).bind fun ws => .ok (.clo f ws)
def sDef (i f : Nat) (js : List Nat) : DS := fun ps => (capV js ps).st fun ws => .nx (ps.set i (.v (.clo f ws)))
theorem s_def {c P : Addr} {name : Str} {params : Arguments} {body : List Stmt} {scope : Scope} {fr : List Str} {js : List Nat} (f : Nat) (hn : G.nF f = ⟨params, .stmts body, scope, fr⟩) (mk : MkX X c P) (T : Takes X ⟨params, .stmts body, scope, fr⟩ js) (hN : X.N.Nodup) (hi : X.N[i]? = some name) (hx : Loc X.env.scope name)
  (hd0 : params.defaults = [] := by rfl) (hk0 : params.kw_defaults = [] := by rfl) (ha : annTrees params none X.env = [] := by rfl) (hf : X.fn name = true \/ X.env.scope.names.lookup name = some .local := by first | exact .inl rfl | exact .inr rfl | assumption) :
  JS X G (.FunctionDef name params body [] none [] scope none name pos) (sDef i f js) := impS (ps_def mk T hN hi hx hd0 hk0 ha hf) fun D σ H ⟨c, ow, ps, R, q⟩ => by
 obtain ⟨ws, e1, q⟩ := ends_st q
 rw [<- hn]
 exact mk_of R e1 fun v H' s r => q _ _ _ ((R.grow s).setV r) ((Kp.of_same s).trans (Kp.weak av_off))
def sSeal (d : DS) : DS := fun ps => match d ps with | .ret w => .ret w | .exc c => .exc c | _ => .bad
abbrev sealX (X : Cx) (S : List Str) : Cx := { X with fn := fun x => X.fn x && !S.contains x }
theorem ss_seal {ss : List Stmt} (S : List Str) (h : JSs (sealX X S) G ss ds) : JSs X G ss (sSeal ds) := fun pins s σ H D I ⟨c, ow, ps, R, q⟩ => by
 have I' : Inv (sealX X S) pins σ H s := ⟨⟨I.ok.mod, I.ok.kind, I.ok.glob, I.ok.blt, I.ok.above, I.ok.inj, I.ok.has, I.ok.cab, I.ok.hd, I.ok.frames, I.ok.stk, I.ok.exf, I.ok.bs, I.ok.bsz, I.ok.noex, I.ok.exfs, I.ok.funs, I.ok.frf, I.ok.tab, fun x z => I.ok.fc x (by
  have z : (X.fn x && !S.contains x) = true := z
  rw [Bool.and_eq_true] at z; exact z.1)⟩, I.os, I.bare, I.base, I.loc, I.cell, I.free, fun x c e => (I.freeC x c e).imp id fun ⟨z, r⟩ => ⟨by show (X.fn x && !S.contains x) = false; rw [z]; rfl, r⟩, I.pin, I.hok, I.len⟩
 have key := h pins s σ H { nx := fun _ _ => False, rt := D.rt, bk := fun _ _ => False, ct := fun _ _ => False } I' ⟨c, ow, ps, R, by
  unfold sSeal at q
  cases e : ds ps with
  | ret w => rw [e] at q; exact q
  | nx _ => rw [e] at q; exact q.elim
  | retn _ => rw [e] at q; exact q.elim
  | reti _ _ => rw [e] at q; exact q.elim
  | brk _ => rw [e] at q; exact q.elim
  | cnt _ => rw [e] at q; exact q.elim
  | bad => rw [e] at q; exact q.elim
  | exc _ => rw [e] at q; exact q⟩
 refine wpAny_mono key (fun f s1 hf => ?_) fun e s1 z => z
 cases f with
 | next => obtain ⟨_, _, _, z⟩ := hf; exact z.elim
 | brk => obtain ⟨_, _, _, z⟩ := hf; exact z.elim
 | cont => obtain ⟨_, _, _, z⟩ := hf; exact z.elim
 | ret u => obtain ⟨v, H', J, r, z⟩ := hf; exact ⟨v, H', ⟨J.os, J.bare, J.base, J.hok⟩, r, z⟩
theorem takes_mk {n : Nst} {js : List Nat} (hl : n.free.length = js.length) (h : ((n.free.zip js).all fun q => (match X.N[q.2]? with | some y => y == q.1 | none => false) && (match X.env.kindOf q.1 with | some k => k == .cell | none => false) && !X.fn q.1 && X.cw q.1 && n.scope.names.contains (q.1, NameKind.free)) = true)
  (ha : (n.scope.names.all fun y => y.2 != .free || n.free.contains y.1) = true) : Takes X n js := by
 refine ⟨hl, fun i x j e1 e2 => ?_, fun y hy hk => ?_⟩
 ·have hm : (x, j) ∈ n.free.zip js := List.mem_of_getElem? (i := i) (by rw [List.getElem?_zip_eq_some]; exact ⟨e1, e2⟩)
  have := List.all_eq_true.mp h _ hm
  simp only [Bool.and_eq_true] at this
  obtain ⟨⟨⟨⟨a1, a2⟩, a3⟩, a4⟩, a5⟩ := this
  refine ⟨?_, ?_, by simpa using a3, a4, by simpa using a5⟩
  ·split at a1
   ·rename_i y hy
    have : y = x := by simpa using a1
    rw [hy, this]
   ·cases a1
  ·split at a2
   ·rename_i k hk
    have : k = .cell := by simpa using a2
    rw [hk, this]
   ·cases a2
 ·have := List.all_eq_true.mp ha y hy
  rw [hk] at this
  simpa using this
end
structure FunT (K : Fg) (fd : FuncData) (c P : Addr) (ts : List Addr) : Prop where
 code : fd.code = .ref c
 hd : PySem.W.codeHdIn K c P = true
 tab : P ∈ ts
section
variable {P : Program} {w : World} {K : Fg} {mg : Str -> Option Value} {base : Bs} {G : Pg}
theorem fn_okT {x qual : Str} {st : Stmt} {f : Addr} {fd : FuncData} {N ps : List Str} {k : Nat} {ms : List Bool} {d : DS} {c Pt : Addr} (F : Fun K x qual st f fd) (FT : FunT K fd c Pt base.tabs) (S : FnScope N ps (defScope st)) (hm : ms.length = ps.length)
  (hb : ∀ (A : Around) (outer : List Env) (s : Shared) (H : Hp) (E : XK), Room k (A.deeper (envOfC qual (defScope st) s.heap.objs.size f (.ref c))) -> MkX (cxOf CX0 P w K mg base N qual (defScope st) f (.ref c) A outer s H E).nox c Pt -> JSs (cxOf CX0 P w K mg base N qual (defScope st) f (.ref c) A outer s H E).nox G (defBody st) d) :
  FnOk P w K mg base CX0 (k + 1) f fd ps (spG K G ms (runD ms N.length d)) := by
 obtain ⟨oc, od, kV, doc, pm, an, cdv, ct, osl, rfl, lk, hcd⟩ := F.ex
 obtain rfl : cdv = Value.ref c := FT.code
 have F' : Fun K x qual st f (PySem.W.fnOf x qual (defArgs st) (defBody st) (defScope st) .none kV doc pm an (.ref c) ct) := F
 refine fn_of lk hcd S (fun vs H Q E h => ?_) (fun A outer s H vs Q E hr h => ?_)
 ·obtain ⟨A, ws, w, u, r, _⟩ := h
  rw [r.len.2, hm]
 ·obtain ⟨A', ws, w', u, r, e, q⟩ := h
  refine ⟨_, (hb A outer s H E hr ⟨rfl, FT.hd, FT.tab⟩).nox, ?_⟩
  have F0 := in_rep (N := N) r
  have S0 := F0.toS u fun a z => z
  refine ⟨_, ow0, inP ms N.length ws, S0, ?_⟩
  unfold runD at e
  rw [if_pos r.len.1] at e
  cases ed : d (inP ms N.length ws) with
  | nx ps' => rw [ed] at e; cases e; exact fun σ' H' ow' R' _ => q .non H' (R'.same.same rfl) rfl
  | ret w2 => rw [ed] at e; cases e; exact fun v H' s r => q v H' (s.same rfl) r
  | reti w x => rw [ed] at e; cases e
  | retn xs => rw [ed] at e; cases e; exact fun p vs H' s hp hv r => q (.ref p) H' (s.same rfl) ⟨p, vs, rfl, .inl ⟨hv, fun z => u p z hp⟩, (Kp.weak fun a z => Or.inl z).reps r⟩
  | brk _ => rw [ed] at e; cases e
  | cnt _ => rw [ed] at e; cases e
  | bad => rw [ed] at e; cases e
  | exc _ => rw [ed] at e; cases e
end
section
variable (ps : PSt) (a : DP) (d : DA) (tab l : List (Nat × Nat)) (g : Nat -> List PV -> Rx PV)
@[simp] theorem e_callV : dCallV tab g a d ps = (a ps).bind fun y => appC tab g y (d ps) := rfl
@[simp] theorem e_callA : dCallA tab g l a d ps = (a ps).bind fun x => (fldP l x).bind fun y => appC tab g y (d ps) := rfl
@[simp] theorem e_lam (f : Nat) (js : List Nat) : dLam f js ps = (capV js ps).bind fun ws => .ok (.clo f ws) := rfl
@[simp] theorem e_def (i f : Nat) (js : List Nat) : sDef i f js ps = (capV js ps).st fun ws => .nx (ps.set i (.v (.clo f ws))) := rfl
@[simp] theorem e_seal (s : DS) : sSeal s ps = match s ps with | .ret w => .ret w | .exc c => .exc c | _ => .bad := rfl
@[simp] theorem e_capnil : capV [] ps = .ok [] := rfl
@[simp] theorem e_capcons (j : Nat) (js : List Nat) : capV (j :: js) ps = match ps[j]? with | some (.v w) => (capV js ps).bind fun ws => .ok (w :: ws) | _ => .bad := rfl
end
instance : Inhabited Nst := ⟨⟨{ posonlyargs := [], args := [], vararg := none, kwonlyargs := [], kw_defaults := [], kwarg := none, defaults := [] }, .stmts [], { kind := .function, names := [], isGenerator := false, isCoroutine := false }, []⟩⟩
def nstOf (fr : List Str) (s : Stmt) : Nst := match s with
 | .FunctionDef _ a b _ _ _ sc _ _ _ => ⟨a, .stmts b, sc, fr⟩
 | _ => default
def noS : Stmt := .Pass ⟨0, 0, 0, 0⟩
def inBody (j : Nat) (s : Stmt) : Stmt := (defBody s).getD j noS
def nstB (n : Nst) : List Stmt := match n.body with | .stmts b => b | _ => []
def FnT (K : Fg) (f : Addr) (x qual : Str) (st : Stmt) (ts : List Addr) : Prop := ∃ fd c P, Fun K x qual st f fd /\ FunT K fd c P ts
theorem fnt_mk {K : Fg} {x qual : Str} {st : Stmt} {f c P : Addr} {oc o1 : Value} {od an d1 : Option Addr} {osl s1 : Array (Option Value)} {kV doc pm ct : Value} {vs : Array Value} {ts : List Addr}
  (l : K.lookup f = some ⟨oc, od, .func (PySem.W.fnOf x qual (defArgs st) (defBody st) (defScope st) .none kV doc pm an (.ref c) ct), osl⟩) (i : PySem.W.codeIn K (.ref c) qual = true) (k : PySem.W.keepIn K (.ref f) = true)
  (cl : K.lookup c = some ⟨o1, d1, .fields vs, s1⟩) (cp : vs[11]? = some (.ref P)) (ch : PySem.W.codeHdIn K c P = true) (ct : P ∈ ts) : FnT K f x qual st ts := ⟨_, c, P, fun_mk l i k, rfl, ch, ct⟩
def tabsOk (K : Fg) (ts : List Addr) : Bool := ts.all fun P => (K.lookup P).isNone && K.any fun q => PySem.W.codeHdIn K q.1 P
theorem km_ok {K : Params -> Fg} {as : List Addr} {e : ∀ P, as = (K P).map (·.1)} {ts : List Addr} {w : World} {h : Heap} (Y : (PySem.W.kmHook K as e ts).says w h) (hc : tabsOk (K w.params) ts = true) :
  ∀ P ∈ ts, h.get? P = some (PySem.W.tabObj #[]) /\ isCodeTable h P /\ (K w.params).lookup P = none := fun P hP => by
 have h1 := PySem.W.km_tabs_of Y P hP
 have h2 := List.all_eq_true.mp hc P hP
 rw [Bool.and_eq_true] at h2
 obtain ⟨h3, h4⟩ := h2
 obtain ⟨q, _, h5⟩ := List.any_eq_true.mp h4
 exact ⟨h1, ((PySem.W.codeHd_of_K (PySem.W.km_in_of Y) h5).tab h1).isCodeTable, by simpa using h3⟩
end DN
end
section
namespace L2
open PySem PySem.Spec PyProof.Rows
end L2
namespace DN
open PySem PySem.Spec PyProof.Rows L2
section
variable {X : Cx} {G : Pg} {e a b o tg : Expr} {es : List Expr} {body : List Stmt} {da db : DP} {d : DA} {ds : DS} {pos p apos cpos : Pos} {x m : Str} {k i : Nat} {ms : List Bool}
open PySem.Builtin PySem.Builtin.Str in
theorem mt_find : MtR X "str.find" (fun x xs H Q => ∃ z y, x = .str z /\ xs = [.str y] /\ Q (.int (match occurrences z y 0 z.length 1 with | i :: _ => (i : Int) | [] => -1)) H) := by
 intro pins s σ H x xs v us Q I rx rs h
 obtain ⟨z, y, rfl, rfl, q⟩ := h
 obtain ⟨t, rfl⟩ := rx
 obtain ⟨u', rfl, u, rfl⟩ := vals1 rs
 exact call_gives F.slot_str_find (typeIs_str _ _ _) F.entry_str_find (F.args_str_find_2 _ _) (gives_str_find z y t u) ⟨.int _, H, I.tok _, ⟨_, rfl⟩, q⟩
def findS (x y : Str) : Int := match fst1 y.cps.toList [] x.cps.toList with | some (p, _) => (p.length : Int) | none => -1
open PySem.StrLaws PySem.Builtin PySem.Builtin.Str in
theorem find_eq {x y : Str} (hw : 1 <= y.length) : (match occurrences x y 0 x.length 1 with | i :: _ => (i : Int) | [] => -1) = findS x y := by
 have hl : x.length = x.cps.toList.length := by simp [Str.length]
 unfold findS
 rcases occ_head x y 1 (Nat.le_refl _) with ⟨h, hn⟩ | ⟨i, r, h, ha, hn⟩
 ·have := fst1_none (x := x) hw x.length 0 [] (by omega) fun k _ => hn k
  rw [List.drop_zero] at this
  rw [h, this]
 ·have := fst1_at (x := x) hw i 0 (by rw [Nat.zero_add]; exact ha) fun k _ hk => hn k (by omega)
  rw [List.drop_zero, List.take_zero, List.reverse_nil, Nat.zero_add] at this
  rw [h, this]
  have hi : i <= x.cps.toList.length := by have := ha.1; omega
  simp only [List.length_take]
  rw [Nat.min_eq_left hi]
def fFind : PV -> PV -> Rx PV
 | .str x, .str y => if goodSep y = true then .ok (.int (findS x y)) else .bad
 | _, _ => .bad
theorem p_find (ho : JP X G o da) (he : JP X G e db)
  (hbase : attributeBase o "find" X.env (eval o X.env) = eval o X.env := by rfl)
  (hfew : ((backTo cpos (starEach [e] X.env)).all (fun x => !x.1) && (backToKw cpos (keywordEach [] X.env)).all (fun x => x.1.isSome) && decide (([e] : List Expr).length + ([] : List Keyword).length + (if ([] : List Keyword).isEmpty then 0 else 1) < 30)) = true := by rfl)
  (hline : (apos.endLine == cpos.line) = true := by rfl) (hst : starEach [e] X.env = (false, eval e X.env) :: starEach [] X.env := by rfl) (hpl : (backTo cpos (starEach ([] : List Expr) X.env)).any (·.1) = false := by rfl) :
  JP X G (.Call (.Attribute o "find" apos) [e] [] cpos) (d2 fFind da db) :=
 imp (pe_bm PySem.F.plainAttrs_str PySem.F.slot_str_find PySem.F.type_str_find mt_find ho (pa_cons he pa_nil hst) hbase hfew hline hst hpl) fun σ H Q ⟨c, ow, ps, w, R, e, q⟩ => by
  obtain ⟨w1, e1, e⟩ := bind_ok e
  obtain ⟨w2, e2, e⟩ := bind_ok e
  unfold fFind at e
  split at e
  ·rename_i x y _
   split at e
   ·rename_i hg
    cases e
    refine ⟨c, ow, ps, _, R, e1, fun v H1 s1 r1 => ?_⟩
    obtain rfl : v = V.str x := r1
    refine ⟨rfl, c, ow, ps, _, R.grow s1, e2, fun u H2 s2 r2 => ?_⟩
    obtain rfl : u = V.str y := r2
    refine ⟨x, y, rfl, rfl, ?_⟩
    rw [find_eq (goodSep_ok hg).1]
    exact q _ H2 (s1.trans s2) rfl
   ·cases e
  ·cases e
end
section
variable (ps : PSt) (a : DP) (d : DA) (dma : DMA) (dm : DM) (t u : DTM) (dt : DT) (s r : DS)
@[simp] theorem e_mNew (c n : Nat) : mNew c n dma ps = (dma ps).bind fun r => if r.1.length = n then .ok (.obj c r.1, r.2) else .bad := rfl
@[simp] theorem e_mTr : mTr dm ps = (dm ps).bind fun r => match r.1 with | .bl b => .ok (b, r.2) | _ => .bad := rfl
@[simp] theorem e_mOfT : mOfT dt ps = (dt ps).bind fun b => .ok (b, ps) := rfl
@[simp] theorem e_mNot : mNot t ps = (t ps).bind fun r => .ok (!r.1, r.2) := rfl
@[simp] theorem e_mOr : mOr t u ps = (t ps).bind fun r => if r.1 = true then .ok (true, r.2) else u r.2 := rfl
@[simp] theorem e_mAnd : mAnd t u ps = (t ps).bind fun r => if r.1 = true then u r.2 else .ok (false, r.2) := rfl
@[simp] theorem e_ifM : sIfM t s r ps = (t ps).st fun x => if x.1 = true then s x.2 else r x.2 := rfl
@[simp] theorem e_whileM : sWhileM t s ps = (iterM t s 100000 ps).getD .bad := rfl
end
end DN
end
section
namespace L2
open PySem PySem.Spec PyProof.Rows PySem.Builtin PySem.Builtin.Str
end L2
namespace DN
open PySem PySem.Spec PyProof.Rows L2
section
variable {X : Cx} {G : Pg} {e : Expr} {da : DP} {pos : Pos}
def dCutS (d : DP) (dl dh : PSt -> Rx (Option Int)) : DP := fun ps => (d ps).bind fun x => (dl ps).bind fun lo => (dh ps).bind fun hi => match x with
 | .str z => if (PySem.StrLaws.sliceText z lo hi).length <= sizeLine then .ok (.str (PySem.StrLaws.sliceText z lo hi)) else .bad
 | _ => .bad
@[simp] theorem e_cutS (ps : PSt) (dl dh : PSt -> Rx (Option Int)) : dCutS da dl dh ps = (da ps).bind fun x => (dl ps).bind fun lo => (dh ps).bind fun hi => match x with
 | .str z => if (PySem.StrLaws.sliceText z lo hi).length <= sizeLine then .ok (.str (PySem.StrLaws.sliceText z lo hi)) else .bad
 | _ => .bad := rfl
end
end DN
end
section
namespace L2
open PySem PySem.Spec PyProof.Rows PySem.Builtin PySem.Builtin.Str
section
variable {X : Cx}
theorem ip_and : PIp X .BitAnd (ipI fun i j => Builtin.bitAnd i j) := by
 intro pins s σ H x y v u Q I r1 r2 h
 obtain ⟨i, j, e1, e2, q⟩ := h
 subst e1; subst e2
 obtain ⟨t, rfl⟩ := r1
 obtain ⟨t', rfl⟩ := r2
 exact iand_int ⟨.int _, H, I.tok _, ⟨_, rfl⟩, q⟩
def minL : Int -> List Int -> Int
 | a, [] => a
 | a, b :: r => minL (if b < a then b else a) r
theorem minL_le : ∀ (r : List Int) (a : Int), minL a r <= a /\ ∀ x ∈ r, minL a r <= x
 | [], a => ⟨Int.le_refl _, fun _ h => by cases h⟩
 | b :: r, a => by
  obtain ⟨h1, h2⟩ := minL_le r (if b < a then b else a)
  have e : minL a (b :: r) = minL (if b < a then b else a) r := rfl
  rw [e]
  refine ⟨by split at h1 <;> split <;> omega, fun x hx => ?_⟩
  rcases List.mem_cons.mp hx with rfl | hx
  ·split at h1 <;> split <;> omega
  ·exact h2 x hx
theorem minL_mem : ∀ (r : List Int) (a : Int), minL a r = a \/ minL a r ∈ r
 | [], a => .inl rfl
 | b :: r, a => by
  have e : minL a (b :: r) = minL (if b < a then b else a) r := rfl
  rw [e]
  rcases minL_mem r (if b < a then b else a) with h | h
  ·rw [h]
   split
   ·exact .inr List.mem_cons_self
   ·exact .inl rfl
  ·exact .inr (List.mem_cons_of_mem _ h)
theorem call_minL (hc : X.calm = true) : CallR X (.builtin "min") (fun xs H Q => ∃ p n ns, xs = [.ref p] /\ SqL X.K H p (List.map V.int (n :: ns)) /\ Q (.int (minL n ns)) H) := by
 intro pins s σ H xs us Q I r h
 obtain ⟨p, n, ns, rfl, hS, q⟩ := h
 obtain ⟨u, rfl, ru⟩ := vals1 r
 obtain rfl : u = Value.ref p := ru
 obtain ⟨its, ri, pl, _⟩ := I.list hS
 have hi := intsAre_of ri
 obtain ⟨zs, ez⟩ := (hi.allInts).items
 have hl : s.heap.IsList p (intItems zs) := by rw [<- ez]; exact pl.isList
 have en : numsOf (intItems zs).toList = n :: ns := by
  rw [<- ez, show its.toArray.toList = its from rfl, hi.numsOf]
 have hsz : 0 < zs.size := by
  rcases Nat.eq_zero_or_pos zs.size with h0 | h0
  ·have : zs = #[] := Array.eq_empty_of_size_eq_zero h0
   rw [nums_intItems, this] at en
   cases en
  ·exact h0
 refine min_intList (I.ok.hd hc) hl hsz fun v h' tk hv hk => ?_
 obtain ⟨t, rfl⟩ := intItems_at hv
 obtain ⟨h1, h2⟩ := argBest_lt (numAt zs) (zs.size - 1)
 refine ⟨.int (minL n ns), H, I.kept hk, ⟨t, ?_⟩, q⟩
 rw [nums_intItems] at en
 have hm : numAt zs (argBest (fun i j => decide (numAt zs i < numAt zs j)) (zs.size - 1)) ∈ n :: ns := by
  rw [<- en, numAt_eq]; exact getD_mem (by rw [List.length_map, Array.length_toList]; omega)
 have hall : ∀ a ∈ n :: ns, numAt zs (argBest (fun i j => decide (numAt zs i < numAt zs j)) (zs.size - 1)) <= a := fun a ha => by
  rw [<- en] at ha
  obtain ⟨j, hj, rfl⟩ := mem_getD ha
  rw [List.length_map, Array.length_toList] at hj
  rw [<- numAt_eq]; exact h2 j (by omega)
 obtain ⟨m1, m2⟩ := minL_le ns n
 have e : numAt zs (argBest (fun i j => decide (numAt zs i < numAt zs j)) (zs.size - 1)) = minL n ns := by
  apply Int.le_antisymm
  ·rcases minL_mem ns n with h | h
   ·rw [h]; exact hall _ List.mem_cons_self
   ·exact hall _ (List.mem_cons_of_mem _ h)
  ·rcases List.mem_cons.mp hm with h | h
   ·rw [h]; exact m1
   ·exact m2 _ h
 rw [<- e]
end
end L2
namespace DN
open PySem PySem.Spec PyProof.Rows L2
section
variable {X : Cx} {G : Pg} {o e a b c : Expr} {da db dc : DP} {pos apos cpos : Pos}
def dInv (d : DP) : DP := fun ps => (d ps).bind fun x => match x with | .int i => .ok (.int (Builtin.bitNot i)) | _ => .bad
def bMinL : List PV -> Rx PV
 | [.lst xs] => (match intsOf xs with | some (n :: ns) => .ok (.int (minL n ns)) | _ => .bad)
 | _ => .bad
theorem cb_minL {K : Fg} : CbR K G [true] bMinL (fun xs H Q => ∃ p n ns, xs = [V.ref p] /\ SqL K H p (List.map V.int (n :: ns)) /\ Q (.int (minL n ns)) H) := by
 intro H A ws vs w Q hu e r q
 obtain ⟨x, v, rfl, rfl, rb⟩ := r.one
 clear r
 cases x <;> try cases e
 rename_i xs
 have e : (match intsOf xs with | some (n :: ns) => Rx.ok (PV.int (minL n ns)) | _ => .bad) = .ok w := e
 split at e
 ·rename_i n ns h
  cases e
  obtain ⟨a, vs, rfl, sq, rs⟩ := rb.lst
  rw [ints_of h] at rs
  rw [rs.of_ints] at sq
  exact ⟨a, n, ns, rfl, sq, q _ H (Same.refl H) rfl⟩
 ·cases e
def dChain (f g : PV -> PV -> Rx PV) (a b c : DP) : DP := fun ps => (a ps).bind fun x => (b ps).bind fun y => (f x y).bind fun z => match z with | .bl true => (c ps).bind fun w => g y w | .bl false => .ok (.bl false) | _ => .bad
end
section
variable (ps : PSt) (a b c : DP) (f g : PV -> PV -> Rx PV)
@[simp] theorem e_chain : dChain f g a b c ps = (a ps).bind fun x => (b ps).bind fun y => (f x y).bind fun z => match z with | .bl true => (c ps).bind fun w => g y w | .bl false => .ok (.bl false) | _ => .bad := rfl
@[simp] theorem e_inv : dInv a ps = (a ps).bind fun x => match x with | .int i => .ok (.int (Builtin.bitNot i)) | _ => .bad := rfl
end
end DN
end
section
namespace L2
open PySem PySem.Spec PyProof.Rows
section
variable {X : Cx}
def rIsNB : R2 := fun x y H Q => ∃ b c, x = .bl b /\ y = .bl c /\ Q (.bl (!(b == c))) H
theorem op_isNB : OpR X (compareOp .IsNot) rIsNB := by
 intro pins s σ H x y v u Q I r1 r2 h
 obtain ⟨b, c, rfl, rfl, q⟩ := h
 cases r1
 cases r2
 cases b <;> cases c
 ·exact wpAny_isNot_self rfl ⟨.bl false, H, I, rfl, q⟩
 ·exact wpAny_isNot_other rfl (by decide) ⟨.bl true, H, I, rfl, q⟩
 ·exact wpAny_isNot_other rfl (by decide) ⟨.bl true, H, I, rfl, q⟩
 ·exact wpAny_isNot_self rfl ⟨.bl false, H, I, rfl, q⟩
end
end L2
namespace DN
open PySem PySem.Spec PyProof.Rows L2
section
variable {X : Cx} {G : Pg} {o e a b c : Expr} {da db dc : DP} {pos apos cpos : Pos}
def fIsB : PV -> PV -> Rx PV
 | .bl b, .bl c => .ok (.bl (b == c))
 | _, _ => .bad
def fIsNB : PV -> PV -> Rx PV
 | .bl b, .bl c => .ok (.bl (!(b == c)))
 | _, _ => .bad
theorem o2_isNB {K : Fg} : Op2 K G fIsNB rIsNB := by
 intro H A x y w v u Q hu e r1 r2 q
 cases x <;> try cases e
 cases y <;> try cases e
 exact ⟨_, _, r1.bl, r2.bl, q _ H (Same.refl H) rfl⟩
theorem t_isNB (ha : JB X G a da) (hb : JB X G b db) : JT X G (.Compare a [.IsNot] [b] pos) (dTr (d2 fIsNB da db)) := t_cmp op_isNB o2_isNB ha hb (nomark _)
def sFrzG (i : Nat) (d : DS) : DS := fun ps => match ps[i]? with | some (.own y) => d (ps.set i (.v y.pv)) | _ => d ps
theorem ss_frz {ss : List Stmt} {ds : DS} (i : Nat) (h : JSs X G ss ds) : JSs X G ss (sFrzG i ds) := fun pins s σ H D I ⟨c, ow, ps, R, q⟩ => by
 unfold sFrzG at q
 split at q
 ·rename_i y hy
  obtain ⟨p, e1, R', r', k'⟩ := R.frz hy
  exact h pins s σ H D I ⟨c, _, _, R', q.mono k'⟩
 ·exact h pins s σ H D I ⟨c, ow, ps, R, q⟩
end
section
variable (ps : PSt) (i : Nat) (d : DS)
@[simp] theorem e_sFrzG : sFrzG i d ps = match ps[i]? with | some (.own y) => d (ps.set i (.v y.pv)) | _ => d ps := rfl
@[simp] theorem e_isB (b c : Bool) : fIsB (.bl b) (.bl c) = .ok (.bl (b == c)) := rfl
@[simp] theorem e_isNB (b c : Bool) : fIsNB (.bl b) (.bl c) = .ok (.bl (!(b == c))) := rfl
end
end DN
end
section
namespace DN
open PySem PySem.Spec PyProof.Rows L2
section
variable {K : Fg} {G : Pg} {H H' : Hp} {A A' : Av} {c : Fr} {ow : Ows} {ps : PSt} {σ : L2.St}
theorem vx_inj {n d j d' j' : Nat} (h : vx n d j = vx n d' j') (h1 : j < 1000) (h2 : j' < 1000) : d = d' /\ j = j' := by
 unfold vx at h
 omega
theorem RepS.setS (R : RepS K G c H ow ps σ) {i : Nat} {y : Sl} {v : V} (r : i < ps.length -> SlAt K G c ps.length H (av c (offW ps.length ow i)) (offW ps.length ow i) i y (some v)) : RepS K G c H (offW ps.length ow i) (ps.set i y) (σ.set i (some v)) := by
 have k : Kp K G H (av c ow) H (av c (offW ps.length ow i)) := Kp.weak av_off
 refine ⟨by simp [R.len], R.same, R.lent, R.a0, R.b0, fun j p e => ?_, fun j j' p e e' => ?_, fun j p h => ?_, fun j x o e1 e2 => ?_⟩
 ·unfold offW at e; split at e
  ·cases e
  ·exact R.fresh j p e
 ·unfold offW at e e'
  split at e
  ·cases e
  ·split at e'
   ·cases e'
   ·exact R.inj j j' p e e'
 ·unfold offW at h; split at h
  ·cases h
  ·rw [List.length_set]; exact R.out j p h
 ·rw [List.length_set]
  by_cases hj : j = i
  ·subst hj
   have hl : j < ps.length := by
    have := (List.getElem?_eq_some_iff.mp e1).1
    simpa using this
   rw [List.getElem?_set_self hl] at e1
   rw [List.getElem?_set_self (by rw [<- R.len]; exact hl)] at e2
   cases e1; cases e2
   exact r hl
  ·rw [List.getElem?_set_ne (fun z => hj z.symm)] at e1 e2
   have eo : offW ps.length ow i j = ow j := by unfold offW; rw [if_neg (fun z => hj z.1)]
   exact (R.slot j x o e1 e2).keep R.b0 R.same R.same k eo off_vx (fun _ _ => rfl) (fun _ _ _ _ => rfl) (fun _ _ => rfl)
theorem RepS.chgG (R : RepS K G c H ow ps σ) {i t : Nat} {y : Sl} {p : Addr} {o u : HO} (hl : i < ps.length) (ep : ow t = some p) (ht : t = i \/ ∃ j, j < 1000 /\ t = vx ps.length i j) (hp : H p = some o) (m : Mt o)
  (r : ∀ v, σ[i]? = some v -> SlAt K G c ps.length (upd H p u) (av c ow) ow i y v) : RepS K G c (upd H p u) ow (ps.set i y) σ /\ Kp K G H (av c ow) (upd H p u) (av c ow) := by
 have k : Kp K G H (av c ow) (upd H p u) (av c ow) := Kp.own (.inr ⟨t, ep⟩) hp m
 have sm : SmL c (upd H p u) := fun b o' h n => by
  rw [upd_ne (by intro z; subst z; rw [R.fresh t b ep] at h; cases h)]
  exact R.same _ _ h n
 have npl : ∀ q, c.lx = some q -> q ≠ p := fun q h z => by
  subst z
  exact absurd (R.fresh t q ep) (R.a0 q (R.lent q h).1)
 have us : ∀ j q, j ≠ t -> ow j = some q -> upd H p u q = H q := fun j q hj h => upd_ne (by intro z; subst z; exact hj (R.inj j t q h ep))
 refine ⟨⟨by simp [R.len], sm, fun q h => ⟨(R.lent q h).1, by rw [upd_ne (npl q h)]; exact (R.lent q h).2⟩, R.a0, R.b0, R.fresh, R.inj, fun j q h => ?_, fun j z o' h1 h2 => ?_⟩, k⟩
 ·rw [List.length_set]
  by_cases hj : j = t
  ·subst hj
   rw [ep] at h; cases h
   right; rw [upd_same]; simp
  ·rcases R.out j q h with z | z
   ·exact .inl z
   ·right; rw [us j q hj h]; exact z
 ·rw [List.length_set]
  by_cases hj : j = i
  ·subst hj
   rw [List.getElem?_set_self hl] at h1
   cases h1
   exact r o' h2
  ·rw [List.getElem?_set_ne (fun z => hj z.symm)] at h1
   have hjl : j < ps.length := (List.getElem?_eq_some_iff.mp h1).1
   refine (R.slot j z o' h1 h2).keep R.b0 R.same sm k rfl (fun _ _ _ h => h) (fun q h => us j q ?_ h) (fun jj q hjj h => us _ q ?_ h) (fun q h => upd_ne (npl q h))
   ·rcases ht with rfl | ⟨j', _, rfl⟩
    ·exact hj
    ·unfold vx; omega
   ·rcases ht with rfl | ⟨j', hj', rfl⟩
    ·unfold vx; omega
    ·intro z; exact hj (vx_inj z hjj hj').1
def isAls : Sl -> Bool
 | .als _ _ => true
 | _ => false
theorem RepS.addV (R : RepS K G c H ow ps σ) {i m : Nat} {q : Addr} (hm : m < 1000) (hs : Same H H') (hq : H q = none) (hq' : H' q ≠ none) (na : ps.any isAls = false)
  (nd : ∀ d ks xss, ps[d]? = some (.dol ks xss) -> d = i -> xss.length <= m) : RepS K G c H' (onW ow (vx ps.length i m) q) ps σ /\ Kp K G H (av c ow) H' (av c (onW ow (vx ps.length i m) q)) := by
 have hav : ∀ a, av c (onW ow (vx ps.length i m) q) a -> a = q \/ av c ow a := av_on
 have k : Kp K G H (av c ow) H' (av c (onW ow (vx ps.length i m) q)) := Kp.take hq hs hav
 have nl : c.lx ≠ some q := fun z => (R.lent q z).2 hq
 have us : ∀ j a, ow j = some a -> H' a = H a := fun j a e => by
  cases h : H a with
  | none => exact absurd h (R.used a (.inr ⟨j, e⟩))
  | some o => exact hs _ _ h
 have ul : ∀ a, c.lx = some a -> H' a = H a := fun a h => by
  cases z : H a with
  | none => exact absurd z (R.lent a h).2
  | some o => exact hs _ _ z
 refine ⟨⟨R.len, R.same.trans hs, fun a h => ⟨(R.lent a h).1, by rw [ul a h]; exact (R.lent a h).2⟩, R.a0, R.b0, fun j a e => ?_, fun j j' a e e' => ?_, fun j a h => ?_, fun j y o e1 e2 => ?_⟩, k⟩
 ·unfold onW at e; split at e
  ·cases e; exact R.same.free hq nl
  ·exact R.fresh j a e
 ·unfold onW at e e'
  split at e
  ·cases e
   split at e'
   ·rename_i h1 h2; rw [h1, h2]
   ·exact absurd hq (R.used _ (.inr ⟨j', e'⟩))
  ·split at e'
   ·cases e'
    exact absurd hq (R.used _ (.inr ⟨j, e⟩))
   ·exact R.inj j j' a e e'
 ·unfold onW at h; split at h
  ·cases h; exact .inr hq'
  ·rcases R.out j a h with z | z
   ·exact .inl z
   ·right; rw [us j a h]; exact z
 ·have hjl : j < ps.length := (List.getElem?_eq_some_iff.mp e1).1
  have eo : onW ow (vx ps.length i m) q j = ow j := by unfold onW; rw [if_neg (by unfold vx; omega)]
  have qs := R.slot j y o e1 e2
  cases y with
  | no => show onW ow (vx ps.length i m) q j = none; rw [eo]; exact qs
  | v w => obtain ⟨z, v, e3, r⟩ := qs; exact ⟨by rw [eo]; exact z, v, e3, k.rep r⟩
  | own y => obtain ⟨p, e3, e4, r⟩ := qs; exact ⟨p, by rw [eo]; exact e3, e4, r.keep k (us j p e3)⟩
  | bor w => obtain ⟨z, v, e3, r⟩ := qs; exact ⟨by rw [eo]; exact z, v, e3, bor_keep R.b0 R.same (R.same.trans hs) k r⟩
  | ino y => obtain ⟨z, z2, p, e3, e4, r⟩ := qs; exact ⟨by rw [eo]; exact z, z2, p, e3, e4, r.keep k (ul p e4)⟩
  | ini c xs => obtain ⟨z, z2, p, e3, e4, r⟩ := qs; exact ⟨by rw [eo]; exact z, z2, p, e3, e4, r.keep k (ul p e4)⟩
  | als d jj =>
   exfalso
   have := List.any_eq_false.mp na _ (List.mem_of_getElem? e1)
   exact this rfl
  | dol ks xss =>
   obtain ⟨p, qs', e3, e4, hp, l1, l2, l3, h⟩ := qs
   refine ⟨p, qs', by rw [eo]; exact e3, e4, by rw [us j p e3]; exact hp, l1, l2, l3, fun jj q2 xs h1 h2 => ?_⟩
   obtain ⟨h3, h4⟩ := h jj q2 xs h1 h2
   have hjj : jj < qs'.length := (List.getElem?_eq_some_iff.mp h1).1
   refine ⟨?_, h4.keep k (us _ q2 h3)⟩
   unfold onW
   rw [if_neg]
   ·exact h3
   ·intro z
    obtain ⟨z1, z2⟩ := vx_inj z (by omega) hm
    have := nd j ks xss e1 z1
    omega
def killA : Sl -> Sl
 | .als _ _ => .no
 | s => s
theorem Reps.lsts : ∀ {xss : List (List PV)} {qs : List Addr}, xss.length = qs.length -> (∀ (j : Nat) (q : Addr) (xs : List PV), qs[j]? = some q -> xss[j]? = some xs -> Rep K G H A (.lst xs) (.ref q)) -> Reps K G H A (xss.map PV.lst) (qs.map V.ref)
 | [], [], _, _ => rfl
 | [], _ :: _, l, _ => by simp at l
 | _ :: _, [], l, _ => by simp at l
 | xs :: xss, q :: qs, l, h => ⟨_, _, rfl, h 0 q xs rfl rfl, Reps.lsts (by simpa using l) fun j q' xs' h1 h2 => h (j + 1) q' xs' h1 h2⟩
theorem RepS.frzD (R : RepS K G c H ow ps σ) {i : Nat} {ks : List Key} {xss : List (List PV)} (e : ps[i]? = some (.dol ks xss)) :
  ∃ ow', RepS K G c H ow' ((ps.map killA).set i (.v (.dic ks (xss.map PV.lst)))) σ /\ Kp K G H (av c ow) H (av c ow') := by
 obtain ⟨o, eo, p, qs, e1, rfl, hp, l1, l2, l3, hq⟩ := R.get e
 have hl : i < ps.length := (List.getElem?_eq_some_iff.mp e).1
 let ow' : Ows := fun t => if t = i \/ ps.length + 1000 * i <= t /\ t < ps.length + 1000 * i + 1000 then none else ow t
 have off : ∀ t a, ow' t = some a -> ow t = some a := fun t a h => by
  show ow t = some a
  have h : (if t = i \/ ps.length + 1000 * i <= t /\ t < ps.length + 1000 * i + 1000 then none else ow t) = some a := h
  split at h
  ·cases h
  ·exact h
 have offn : ∀ t a, ow' t = some a -> ¬ (t = i \/ ps.length + 1000 * i <= t /\ t < ps.length + 1000 * i + 1000) := fun t a h z => by
  have h : (if t = i \/ ps.length + 1000 * i <= t /\ t < ps.length + 1000 * i + 1000 then none else ow t) = some a := h
  rw [if_pos z] at h; cases h
 have eqo : ∀ t, ¬ (t = i \/ ps.length + 1000 * i <= t /\ t < ps.length + 1000 * i + 1000) -> ow' t = ow t := fun t z => if_neg z
 have ha : ∀ a, av c ow' a -> av c ow a := fun a h => by
  rcases h with h | ⟨t, h⟩
  ·exact .inl h
  ·exact .inr ⟨t, off t a h⟩
 have k : Kp K G H (av c ow) H (av c ow') := Kp.weak ha
 have np : ∀ t a, ow t = some a -> (t = i \/ ps.length + 1000 * i <= t /\ t < ps.length + 1000 * i + 1000) -> ¬ av c ow' a := by
  rintro t a h ht (z | ⟨t', z⟩)
  ·exact absurd (R.fresh t a h) (R.a0 a z)
  ·have := R.inj t' t a (off t' a z) h
   subst this
   exact offn _ _ z ht
 have rp : Rep K G H (av c ow') (.dic ks (xss.map PV.lst)) (.ref p) := by
  refine ⟨p, qs.map V.ref, rfl, hp, by rw [List.length_map]; exact l1, np i p e1 (.inl rfl), Reps.lsts l2 fun j q xs h1 h2 => ?_⟩
  obtain ⟨h3, vs, h4, h5⟩ := hq j q xs h1 h2
  have hj : j < qs.length := (List.getElem?_eq_some_iff.mp h1).1
  exact ⟨q, vs, rfl, .inl ⟨h4, np _ q h3 (.inr (by unfold vx; omega))⟩, k.reps h5⟩
 refine ⟨ow', ⟨by simp [R.len], R.same, R.lent, R.a0, R.b0, fun j a h => R.fresh j a (off j a h), fun j j' a h h' => R.inj j j' a (off j a h) (off j' a h'), fun j a h => ?_, fun j z o h1 h2 => ?_⟩, k⟩
 ·rw [List.length_set, List.length_map]; exact R.out j a (off j a h)
 ·rw [List.length_set, List.length_map]
  by_cases hj : j = i
  ·subst hj
   rw [List.getElem?_set_self (by rw [List.length_map]; exact hl)] at h1
   cases h1
   rw [eo] at h2; cases h2
   exact ⟨if_pos (.inl rfl), _, rfl, rp⟩
  ·rw [List.getElem?_set_ne (fun z => hj z.symm), List.getElem?_map] at h1
   cases es : ps[j]? with
   | none => rw [es] at h1; cases h1
   | some s0 =>
    rw [es] at h1
    have h1 : killA s0 = z := Option.some.inj h1
    have hjl : j < ps.length := (List.getElem?_eq_some_iff.mp es).1
    have ej : ow' j = ow j := eqo j (by omega)
    have q := R.slot j s0 o es h2
    subst h1
    cases s0 with
    | no => show ow' j = none; rw [ej]; exact q
    | v w => obtain ⟨z, v, e3, r⟩ := q; exact ⟨by rw [ej]; exact z, v, e3, k.rep r⟩
    | own y => obtain ⟨p, e3, e4, r⟩ := q; exact ⟨p, by rw [ej]; exact e3, e4, r.keep k rfl⟩
    | bor w => obtain ⟨z, v, e3, r⟩ := q; exact ⟨by rw [ej]; exact z, v, e3, bor_keep R.b0 R.same R.same k r⟩
    | ino y => obtain ⟨z, z2, p, e3, e4, r⟩ := q; exact ⟨by rw [ej]; exact z, z2, p, e3, e4, r.keep k rfl⟩
    | ini c xs => obtain ⟨z, z2, p, e3, e4, r⟩ := q; exact ⟨by rw [ej]; exact z, z2, p, e3, e4, r.keep k rfl⟩
    | als d jj => show ow' j = none; rw [ej]; exact q.1
    | dol ks' xss' =>
     obtain ⟨p', qs', e3, e4, hp', l1, l2, l3, h⟩ := q
     refine ⟨p', qs', by rw [ej]; exact e3, e4, hp', l1, l2, l3, fun jj q2 xs h1 h2 => ?_⟩
     obtain ⟨h3, h4⟩ := h jj q2 xs h1 h2
     have hjj : jj < qs'.length := (List.getElem?_eq_some_iff.mp h1).1
     refine ⟨?_, h4.keep k rfl⟩
     rw [eqo]
     ·exact h3
     ·unfold vx; omega
end
section
variable {X : Cx} {G : Pg} {e ke value : Expr} {da db dk dv : DP} {d : DA} {ds : DS} {pos pos' p tpos : Pos} {x y : Str} {i j : Nat}
def sDputN (i : Nat) (dk : DP) (d : DA) : DS := fun ps => (d ps).st fun ws => (dk ps).st fun y => match ps[i]?, keyP y with
 | some (.own (.dic [] [])), some k => if ps.any isAls = false then .nx (ps.set i (.dol [k] [ws])) else .bad
 | some (.dol ks xss), some k => if ps.any isAls = false /\ ks.length = xss.length /\ ks.length < 999 /\ inK ks k = false then .nx (ps.set i (.dol (ks ++ [k]) (xss ++ [ws]))) else .bad
 | _, _ => .bad
theorem zip_snoc {α β : Type} {ks : List α} {vs : List β} {k : α} {v : β} (h : ks.length = vs.length) : ks.zip vs ++ [(k, v)] = (ks ++ [k]).zip (vs ++ [v]) := by rw [List.zip_append h]; rfl
theorem dputN_go {K : Fg} {c : Fr} {ow : Ows} {ps : PSt} {σ : L2.St} {H H1 H2 : Hp} {ks : List Key} {xss : List (List PV)} {qs : List Addr} {k : Key} {p0 q : Addr} {ws : List PV} {vs : List V} {D : Ends} (R : RepS K G c H ow ps σ) (hl : i < ps.length) (e3 : ow i = some p0) (e4 : σ[i]? = some (some (.ref p0))) (hH : H p0 = some (.dK (ks.zip (qs.map V.ref))))
  (l1 : ks.length = qs.length) (l2 : xss.length = qs.length) (l3 : ks.length < 999) (hin : inK ks k = false) (hq : ∀ j q xs, qs[j]? = some q -> xss[j]? = some xs -> ow (vx ps.length i j) = some q /\ RepO K G H (av c ow) (.lst xs) q) (na : ps.any isAls = false)
  (nd : ∀ ks' xss', ps[i]? = some (.dol ks' xss') -> xss'.length <= ks.length)
  (s1 : Same H H1) (s2 : Same H1 H2) (n1 : H q = none) (h1 : H1 q = some (.lst vs)) (rs : Reps K G H1 (fun a => av c ow a \/ a = q) ws vs) (hn : EndsAt K G c H (av c ow) D (.nx (ps.set i (.dol (ks ++ [k]) (xss ++ [ws]))))) :
  DPut H2 p0 (kV k) (.ref q) (upd H2 p0 (.dK (putK (ks.zip (qs.map V.ref)) k (.ref q)))) /\ D.nx σ (upd H2 p0 (.dK (putK (ks.zip (qs.map V.ref)) k (.ref q)))) := by
 have s12 := s1.trans s2
 have hH2 : H2 p0 = some (.dK (ks.zip (qs.map V.ref))) := s12 _ _ hH
 have hq2 : H2 q = some (.lst vs) := s2 _ _ h1
 have lq : ks.length = (qs.map V.ref).length := by rw [List.length_map]; exact l1
 refine ⟨DPut.k hH2 (by rw [List.length_zip, <- lq, Nat.min_self]; exact Nat.lt_of_lt_of_le l3 (by decide)), ?_⟩
 obtain ⟨R1, k1⟩ := R.addV (i := i) (m := ks.length) (q := q) (by omega) s12 n1 (by rw [hq2]; simp) na fun d ks' xss' e z => by subst z; exact nd ks' xss' e
 have hz : putK (ks.zip (qs.map V.ref)) k (.ref q) = (ks ++ [k]).zip ((qs ++ [q]).map V.ref) := by
  unfold putK
  rw [if_neg (fun z => by rw [inK_mem.mpr ((any_zip lq).mp z)] at hin; cases hin), List.map_append]
  exact zip_snoc lq
 have mD : Mt (HO.dK (ks.zip (qs.map V.ref))) := And.intro (fun _ z => by cases z) (fun _ _ z => by cases z)
 have ep : onW ow (vx ps.length i ks.length) q i = some p0 := by unfold onW; rw [if_neg (by unfold vx; omega)]; exact e3
 have pq : q ≠ p0 := fun z => by rw [z, hH] at n1; cases n1
 have us : ∀ j a, ow j = some a -> H2 a = H a := fun j a e => by
  cases h : H a with
  | none => exact absurd h (R.used a (.inr ⟨j, e⟩))
  | some o => exact s12 _ _ h
 obtain ⟨R2, k2⟩ := R1.chgG (i := i) (t := i) (y := .dol (ks ++ [k]) (xss ++ [ws])) (u := .dK (putK (ks.zip (qs.map V.ref)) k (.ref q))) hl ep (.inl rfl) hH2 mD fun v hv => by
  rw [e4] at hv; cases hv
  have k2 : Kp K G H2 (av c (onW ow (vx ps.length i ks.length) q)) (upd H2 p0 (.dK (putK (ks.zip (qs.map V.ref)) k (.ref q)))) (av c (onW ow (vx ps.length i ks.length) q)) := Kp.own (.inr ⟨i, ep⟩) hH2 mD
  refine ⟨p0, qs ++ [q], ep, rfl, by rw [hz]; exact upd_same, by simp [l1], by simp [l2], by simp; omega, fun j q' xs h3 h4 => ?_⟩
  rcases Nat.lt_or_ge j qs.length with hj | hj
  ·rw [List.getElem?_append_left hj] at h3
   rw [List.getElem?_append_left (by omega)] at h4
   obtain ⟨h5, h6⟩ := hq j q' xs h3 h4
   refine ⟨by unfold onW; rw [if_neg (by unfold vx; omega)]; exact h5, (h6.keep k1 (us _ q' h5)).keep k2 (upd_ne ?_)⟩
   intro z; subst z
   have := R.inj _ _ _ h5 e3
   unfold vx at this; omega
  ·have hj' : j = qs.length := by
    have := (List.getElem?_eq_some_iff.mp h3).1
    simp at this; omega
   subst hj'
   rw [List.getElem?_append_right (Nat.le_refl _), Nat.sub_self] at h3
   rw [<- l2, List.getElem?_append_right (Nat.le_refl _), Nat.sub_self] at h4
   cases h3; cases h4
   refine ⟨by unfold onW; rw [if_pos (by rw [l1])], vs, by rw [upd_ne pq]; exact hq2, k2.reps ?_⟩
   exact ((Kp.of_same s2).trans (Kp.weak fun a z => (av_on a z).symm)).reps rs
 exact hn σ _ _ R2 (k1.trans k2)
theorem s_dputN (i : Nat) (hu : X.A.units + 1 < cLine) (hk : JP X G ke dk) (he : JN X G value d) (hs : swapsWith value (some (.Subscript (.Name x p) ke tpos)) pos.line X.env = pure false) (hN : X.N[i]? = some x := by rfl) (hv : Vis X.env.scope x := by first | exact Or.inl rfl | exact Or.inr (Or.inl rfl) | exact Or.inr (Or.inr rfl)) (hd : (x == ("__debug__" : Str)) = false := by decide)
  (hcd : (x == ("__classdict__" : Str)) = false := by decide) : JS X G (.Assign [.Subscript (.Name x p) ke tpos] value pos) (sDputN i dk d) :=
 impS (ps_dput hu (pe_var hN hv hd hcd) hk he hs) fun D σ H ⟨c, ow, ps, R, q⟩ => by
  obtain ⟨ws, e1, q⟩ := ends_st q
  obtain ⟨y, e2, q⟩ := ends_st q
  split at q
  ·rename_i k hx hkk
   split at q
   ·rename_i na
    refine ⟨c, ow, ps, ws, R, e1, fun p1 vs H1 s1 n1 h1 r1 => ?_⟩
    obtain ⟨p0, e3, e4, vs0, hH0, l0, rs0⟩ := R.getO hx
    have : vs0 = [] := by simpa using l0.symm
    subst this
    refine ⟨_, e4, c, ow, ps, y, R.grow s1, e2, fun u H2 s2 r2 => ?_⟩
    obtain ⟨g1, g2⟩ := dputN_go (D := D) (ks := []) (xss := []) (qs := []) (k := k) (ws := ws) R (List.getElem?_eq_some_iff.mp hx).1 e3 e4 hH0 rfl rfl (by decide) rfl (fun j q xs h => by simp at h) na (fun ks' xss' z => by rw [hx] at z; cases z) s1 s2 n1 h1 r1 q
    refine ⟨p0, _, rfl, ?_, g2⟩
    rw [key_rep r2 hkk]
    exact g1
   ·exact q.elim
  ·rename_i ks xss k hx hkk
   split at q
   ·rename_i hc
    obtain ⟨na, hl, l3, hin⟩ := hc
    refine ⟨c, ow, ps, ws, R, e1, fun p1 vs H1 s1 n1 h1 r1 => ?_⟩
    obtain ⟨o, eo, p0, qs, e3, rfl, hp, l1, l2, _, hq⟩ := R.get hx
    refine ⟨_, eo, c, ow, ps, y, R.grow s1, e2, fun u H2 s2 r2 => ?_⟩
    obtain ⟨g1, g2⟩ := dputN_go (D := D) (k := k) (ws := ws) R (List.getElem?_eq_some_iff.mp hx).1 e3 eo hp l1 l2 l3 hin hq na (fun ks' xss' z => by rw [hx] at z; cases z; omega) s1 s2 n1 h1 r1 q
    refine ⟨p0, _, rfl, ?_, g2⟩
    rw [key_rep r2 hkk]
    exact g1
   ·exact q.elim
  ·exact q.elim
def kIx : List Key -> Key -> Nat -> Option Nat
 | [], _, _ => none
 | k' :: ks, k, n => if k' = k then some n else kIx ks k (n + 1)
theorem kIx_val {k : Key} {m : Nat} : ∀ {ks : List Key} {qs : List Addr} {n : Nat}, ks.length = qs.length -> kIx ks k n = some m -> ∃ j q, m = n + j /\ qs[j]? = some q /\ valV (ks.zip (qs.map V.ref)) k = some (.ref q)
 | [], qs, n, _, h => by cases h
 | k' :: ks, [], n, l, _ => by simp at l
 | k' :: ks, q :: qs, n, l, h => by
  unfold kIx at h
  by_cases e : k' = k
  ·rw [if_pos e] at h; cases h
   refine ⟨0, q, rfl, rfl, ?_⟩
   simp [valV, e]
  ·rw [if_neg e] at h
   obtain ⟨j, q', h1, h2, h3⟩ := kIx_val (by simpa using l) h
   refine ⟨j + 1, q', by omega, h2, ?_⟩
   rw [<- h3]
   simp [valV, e]
def sAls (i j : Nat) (dk : DP) : DS := fun ps => (dk ps).st fun y => match ps[j]?, keyP y with
 | some (.dol ks xss), some k => (match kIx ks k 0 with | some m => .nx (ps.set i (.als j m)) | none => .bad)
 | _, _ => .bad
theorem s_als (i j : Nat) (hu : X.A.units + 1 < cLine) (hNd : X.N.Nodup) (hi : X.N[i]? = some x) (hx : Loc X.env.scope x) (hk : JP X G ke dk) (hsl : NoSl ke) (hs : swapsWith (.Subscript (.Name y p) ke tpos) (some (.Name x pos')) pos.line X.env = pure false := by rfl) (hf : X.fn x = true \/ X.env.scope.names.lookup x = some .local := by first | exact .inl rfl | exact .inr rfl | assumption)
  (hN : X.N[j]? = some y := by rfl) (hv : Vis X.env.scope y := by first | exact Or.inl rfl | exact Or.inr (Or.inl rfl) | exact Or.inr (Or.inr rfl)) (hd : (y == ("__debug__" : Str)) = false := by decide)
  (hcd : (y == ("__classdict__" : Str)) = false := by decide) : JS X G (.Assign [.Name x pos'] (.Subscript (.Name y p) ke tpos) pos) (sAls i j dk) :=
 impS (ps_set hNd hi hx (pe_dget hu (pe_var hN hv hd hcd) hk hsl) hs hf) fun D σ H ⟨c, ow, ps, R, q⟩ => by
  obtain ⟨w, e2, q⟩ := ends_st q
  split at q
  ·rename_i ks xss k hx hkk
   split at q
   ·rename_i m hm
    obtain ⟨o, eo, p0, qs, e3, rfl, hp, l1, l2, _, hq⟩ := R.get hx
    refine ⟨_, eo, c, ow, ps, w, R, e2, fun u H2 s2 r2 => ?_⟩
    obtain ⟨jj, q0, h1, h2, h3⟩ := kIx_val l1 hm
    rw [Nat.zero_add] at h1
    subst h1
    have hjl : m < qs.length := (List.getElem?_eq_some_iff.mp h2).1
    obtain ⟨h5, h6⟩ := hq m q0 _ h2 (List.getElem?_eq_getElem (by omega))
    refine ⟨p0, .ref q0, rfl, ?_, ?_⟩
    ·rw [key_rep r2 hkk, <- h3]
     exact DGet.k (s2 _ _ hp)
    ·have R2 := R.grow s2
     refine q _ _ _ (R2.setS (y := .als j m) fun hl => ⟨by unfold offW; rw [if_pos ⟨rfl, hl⟩], q0, rfl, off_vx _ _ _ h5⟩) ((Kp.of_same s2).trans (Kp.weak av_off))
   ·exact q.elim
  ·exact q.elim
def dAls (i : Nat) : DP := fun ps => match ps[i]? with
 | some (.als d j) => (match ps[d]? with
  | some (.dol _ xss) => (match xss[j]? with | some xs => .ok (.lst xs) | none => .bad)
  | _ => .bad)
 | _ => .bad
theorem RepS.als {K : Fg} {c : Fr} {ow : Ows} {ps : PSt} {σ : L2.St} {H : Hp} {d : Nat} {ks : List Key} {xss : List (List PV)} {xs : List PV} (R : RepS K G c H ow ps σ) (h1 : ps[i]? = some (.als d j)) (h2 : ps[d]? = some (.dol ks xss)) (h3 : xss[j]? = some xs) :
  ∃ q, σ[i]? = some (some (.ref q)) /\ ow (vx ps.length d j) = some q /\ j < 1000 /\ RepO K G H (av c ow) (.lst xs) q := by
 obtain ⟨o, eo, z, q, rfl, e1⟩ := R.get h1
 obtain ⟨o', eo', p0, qs, e3, rfl, hp, l1, l2, l3, hq⟩ := R.get h2
 have hj : j < qs.length := by
  have := (List.getElem?_eq_some_iff.mp h3).1
  omega
 obtain ⟨h5, h6⟩ := hq j _ xs (List.getElem?_eq_getElem hj) h3
 rw [e1] at h5
 cases h5
 exact ⟨_, eo, e1, by omega, h6⟩
theorem b_als (i : Nat) (hN : X.N[i]? = some x := by rfl) (hv : Vis X.env.scope x := by first | exact Or.inl rfl | exact Or.inr (Or.inl rfl) | exact Or.inr (Or.inr rfl)) (hd : (x == ("__debug__" : Str)) = false := by decide)
  (hcd : (x == ("__classdict__" : Str)) = false := by decide) : JB X G (.Name x pos) (dAls i) := imp (pe_var hN hv hd hcd) fun σ H Q ⟨c, ow, ps, w, R, e, q⟩ => by
 unfold dAls at e
 split at e
 ·rename_i d j h1
  split at e
  ·rename_i ks xss h2
   split at e
   ·rename_i xs h3
    cases e
    obtain ⟨q0, e1, _, _, r⟩ := R.als h1 h2 h3
    exact ⟨_, e1, q _ H (Same.refl H) (.inr ⟨.lst xs, q0, rfl, rfl, r⟩)⟩
   ·cases e
  ·cases e
 ·cases e
def sSetA (i : Nat) (dk dv : DP) : DS := fun ps => (dv ps).st fun w => (dk ps).st fun y => match ps[i]?, y with
 | some (.als d j), .int n => (match ps[d]? with
  | some (.dol ks xss) => (match xss[j]? with
   | some xs => (match ixN xs.length n with | some m => .nx (ps.set d (.dol ks (xss.set j (xs.set m w)))) | none => .bad)
   | none => .bad)
  | _ => .bad)
 | _, _ => .bad
theorem s_setA (i : Nat) (hk : JP X G ke dk) (he : JP X G value dv) (hN : X.N[i]? = some x := by rfl) (hv : Vis X.env.scope x := by first | exact Or.inl rfl | exact Or.inr (Or.inl rfl) | exact Or.inr (Or.inr rfl)) (hd : (x == ("__debug__" : Str)) = false := by decide)
  (hcd : (x == ("__classdict__" : Str)) = false := by decide) (ha : ∀ v, assign (.Subscript (.Name x p) ke tpos) X.env v = (do
   let ov <- holding [v] (eval (.Name x p) X.env)
   let iv <- holding [v, ov] (eval ke X.env)
   standAt tpos
   holding [v, ov, iv] (setItem ov iv v)
   release [v, ov, iv] []) := by intro _; rfl) (hs : swapsWith value (some (.Subscript (.Name x p) ke tpos)) pos.line X.env = pure false := by rfl) :
  JS X G (.Assign [.Subscript (.Name x p) ke tpos] value pos) (sSetA i dk dv) :=
 impS (ps_asg he (pg_sub (pe_var hN hv hd hcd) hk set_list ha) hs) fun D σ H ⟨c, ow, ps, R, q⟩ => by
  obtain ⟨w, e1, q⟩ := ends_st q
  obtain ⟨y, e2, q⟩ := ends_st q
  split at q
  ·rename_i d j n h1
   split at q
   ·rename_i ks xss h2
    split at q
    ·rename_i xs h3
     split at q
     ·rename_i m hm
      refine ⟨c, ow, ps, w, R, e1, fun v H1 s1 r1 => ?_⟩
      obtain ⟨q0, e4, e3, hj, vs0, hH0, rs0⟩ := R.als h1 h2 h3
      refine ⟨_, e4, c, ow, ps, _, R.grow s1, e2, fun u H2 s2 r2 => ?_⟩
      have s12 := s1.trans s2
      have R2 := R.grow s12
      have hH : H2 q0 = some (.lst vs0) := s12 _ _ hH0
      have rs := rs0.same s12
      have mD : Mt (HO.lst vs0) := And.intro (fun _ z => by cases z) (fun _ _ z => by cases z)
      have k0 : Kp X.K G H2 (av c ow) (upd H2 q0 (.lst (vs0.set m v))) (av c ow) := Kp.own (.inr ⟨_, e3⟩) hH mD
      have hdl : d < ps.length := (List.getElem?_eq_some_iff.mp h2).1
      have := R2.chgG (i := d) (t := vx ps.length d j) (y := .dol ks (xss.set j (xs.set m w))) (u := .lst (vs0.set m v)) hdl e3 (.inr ⟨j, hj, rfl⟩) hH mD fun v' hv' => by
       obtain ⟨o', eo', p0, qs, e5, e6, hp, l1, l2, l3, hq⟩ := R2.get h2
       rw [eo'] at hv'
       cases hv'
       have npq : p0 ≠ q0 := fun z => by rw [z, hH] at hp; cases hp
       refine ⟨p0, qs, e5, e6, by rw [upd_ne npq]; exact hp, l1, by rw [List.length_set]; exact l2, l3, fun j' q' xs' h4 h5 => ?_⟩
       by_cases hjj : j' = j
       ·subst hjj
        have hl2 : j' < xss.length := (List.getElem?_eq_some_iff.mp h3).1
        rw [List.getElem?_set_self hl2] at h5
        cases h5
        obtain ⟨h6, h7⟩ := hq j' q' xs h4 h3
        rw [e3] at h6; cases h6
        exact ⟨e3, _, upd_same, k0.reps (rs.set m (r1.same s2))⟩
       ·rw [List.getElem?_set_ne (fun z => hjj z.symm)] at h5
        obtain ⟨h6, h7⟩ := hq j' q' xs' h4 h5
        refine ⟨h6, h7.keep k0 (upd_ne ?_)⟩
        intro z; subst z
        have hj4 : j' < qs.length := (List.getElem?_eq_some_iff.mp h4).1
        exact hjj (vx_inj (R.inj _ _ _ h6 e3) (by omega) hj).2
      exact ⟨q0, vs0, n, m, rfl, r2, hH, by rw [<- rs.len]; exact hm, q _ _ _ this.1 ((Kp.of_same s12).trans this.2)⟩
     ·exact q.elim
    ·exact q.elim
   ·exact q.elim
  ·exact q.elim
def sFrzD (i : Nat) (d : DS) : DS := fun ps => match ps[i]? with
 | some (.dol ks xss) => d ((ps.map killA).set i (.v (.dic ks (xss.map PV.lst))))
 | _ => d ps
theorem ss_frzD {ss : List Stmt} {ds : DS} (i : Nat) (h : JSs X G ss ds) : JSs X G ss (sFrzD i ds) := fun pins s σ H D I ⟨c, ow, ps, R, q⟩ => by
 unfold sFrzD at q
 split at q
 ·rename_i ks xss hy
  obtain ⟨ow', R', k'⟩ := R.frzD hy
  exact h pins s σ H D I ⟨c, _, _, R', q.mono k'⟩
 ·exact h pins s σ H D I ⟨c, ow, ps, R, q⟩
end
section
variable (ps : PSt) (i j : Nat) (dk dv : DP) (d : DA) (ds : DS)
@[simp] theorem e_itemsB : dItemsB i ps = match ps[i]? with | some (.bor (.lst xs)) => .ok xs | _ => .bad := rfl
@[simp] theorem e_dputN : sDputN i dk d ps = (d ps).st fun ws => (dk ps).st fun y => match ps[i]?, keyP y with
 | some (.own (.dic [] [])), some k => if ps.any isAls = false then .nx (ps.set i (.dol [k] [ws])) else .bad
 | some (.dol ks xss), some k => if ps.any isAls = false /\ ks.length = xss.length /\ ks.length < 999 /\ inK ks k = false then .nx (ps.set i (.dol (ks ++ [k]) (xss ++ [ws]))) else .bad
 | _, _ => .bad := rfl
@[simp] theorem e_sAls : sAls i j dk ps = (dk ps).st fun y => match ps[j]?, keyP y with
 | some (.dol ks xss), some k => (match kIx ks k 0 with | some m => .nx (ps.set i (.als j m)) | none => .bad)
 | _, _ => .bad := rfl
@[simp] theorem e_dAls : dAls i ps = match ps[i]? with
 | some (.als d j) => (match ps[d]? with
  | some (.dol _ xss) => (match xss[j]? with | some xs => .ok (.lst xs) | none => .bad)
  | _ => .bad)
 | _ => .bad := rfl
@[simp] theorem e_setA : sSetA i dk dv ps = (dv ps).st fun w => (dk ps).st fun y => match ps[i]?, y with
 | some (.als d j), .int n => (match ps[d]? with
  | some (.dol ks xss) => (match xss[j]? with
   | some xs => (match ixN xs.length n with | some m => .nx (ps.set d (.dol ks (xss.set j (xs.set m w)))) | none => .bad)
   | none => .bad)
  | _ => .bad)
 | _, _ => .bad := rfl
@[simp] theorem e_frzD : sFrzD i ds ps = match ps[i]? with
 | some (.dol ks xss) => ds ((ps.map killA).set i (.v (.dic ks (xss.map PV.lst))))
 | _ => ds ps := rfl
end
end DN
end
section
namespace DN
open PySem PySem.Spec PyProof.Rows L2
def keyT : List PV -> Option (List Key)
 | [] => some []
 | y :: ys => match keyP y, keyT ys with | some k, some ks => some (k :: ks) | _, _ => none
def getT {α : Type} : List (List Key) -> List α -> List Key -> Option α
 | k' :: ks, x :: xs, k => if k' = k then some x else getT ks xs k
 | _, _, _ => none
def inT (ks : List (List Key)) (k : List Key) : Bool := ks.any fun k' => decide (k' = k)
section
variable {K : Fg} {G : Pg} {H : Hp} {A : Av}
theorem keyT_reps : ∀ {ws : List PV} {vs : List V} {ks : List Key}, Reps K G H A ws vs -> keyT ws = some ks -> vs = ks.map kV
 | [], vs, ks, h, e => by cases e; exact h
 | w :: ws, vs, ks, h, e => by
  obtain ⟨v, r, rfl, h1, h2⟩ := h
  unfold keyT at e
  split at e
  ·rename_i k ks' e1 e2
   cases e
   rw [key_rep h1 e1, keyT_reps h2 e2]; rfl
  ·cases e
theorem valT : ∀ {ks : List (List Key)} {vs : List V} {k : List Key}, valV (ks.zip vs) k = getT ks vs k
 | [], vs, k => by simp [valV, getT]
 | a :: ks, [], k => by simp [valV, getT]
 | a :: ks, v :: vs, k => by
  have ih := valT (ks := ks) (vs := vs) (k := k)
  unfold valV at ih ⊢
  rw [List.zip_cons_cons, List.find?_cons]
  by_cases e : a = k
  ·simp [e, getT]
  ·simp [e, getT]
   simpa using ih
theorem getT_rep {k : List Key} : ∀ {ks : List (List Key)} {ws : List PV} {vs : List V} {w : PV}, Reps K G H A ws vs -> getT ks ws k = some w -> ∃ v, getT ks vs k = some v /\ Rep K G H A w v
 | [], ws, vs, w, h, e => by simp [getT] at e
 | a :: ks, [], vs, w, h, e => by simp [getT] at e
 | a :: ks, x :: ws, vs, w, h, e => by
  obtain ⟨v, r, rfl, h1, h2⟩ := h
  unfold getT at e ⊢
  by_cases q : a = k
  ·rw [if_pos q] at e ⊢
   cases e; exact ⟨v, rfl, h1⟩
  ·rw [if_neg q] at e ⊢
   exact getT_rep h2 e
theorem getT_none {α : Type} {k : List Key} : ∀ {ks : List (List Key)} {vs : List α}, inT ks k = false -> getT ks vs k = none
 | [], vs, h => by simp [getT]
 | a :: ks, [], h => by simp [getT]
 | a :: ks, v :: vs, h => by
  unfold inT at h
  rw [List.any_cons, Bool.or_eq_false_iff] at h
  have : ¬ a = k := by simpa using h.1
  unfold getT
  rw [if_neg this]
  exact getT_none h.2
end
section
variable {X : Cx} {G : Pg} {o value : Expr} {es : List Expr} {da dv : DP} {dk : DA} {ds : DS} {pos pos' p tp tpos : Pos} {x : Str} {i : Nat} {ms : List Bool}
def sOwnDT (i : Nat) : DS := fun ps => if i < ps.length then .nx (ps.set i (.own (.dit [] []))) else .bad
theorem s_ownDT (hN : X.N.Nodup) (hi : X.N[i]? = some x) (hx : Loc X.env.scope x) (hs : swapsWith (.Dict [] [] pos') (some (.Name x p)) pos.line X.env = pure false := by rfl) (hf : X.fn x = true \/ X.env.scope.names.lookup x = some .local := by first | exact .inl rfl | exact .inr rfl | assumption) :
  JS X G (.Assign [.Name x p] (.Dict [] [] pos') pos) (sOwnDT i) := impS (ps_set hN hi hx pe_dnewT hs hf) fun D σ H ⟨c, ow, ps, R, q⟩ => by
 unfold sOwnDT at q
 split at q
 ·rename_i hl
  intro p hp
  have s := same_upd hp (HO.dT [])
  exact q _ _ _ (R.setO hl s hp ⟨[], upd_same, rfl, rfl⟩) (Kp.take hp s av_on)
 ·exact q.elim
def sDputT (i : Nat) (dk : DA) (dv : DP) : DS := fun ps => (dv ps).st fun w => (dk ps).st fun ys => match ps[i]?, keyT ys with
 | some (.own (.dit ks xs)), some k => if ks.length < 10000 /\ inT ks k = false then .nx (ps.set i (.own (.dit (ks ++ [k]) (xs ++ [w])))) else .bad
 | _, _ => .bad
theorem s_dputT {x1} (i : Nat) (hu : X.A.units + 1 < cLine) (hk : JA X G ms es dk) (he : JP X G value dv) (hs : swapsWith value (some (.Subscript (.Name x p) (.Tuple es x1 tp) tpos)) pos.line X.env = pure false) (hm : ms.all (! ·) = true := by rfl) (hl : ms.length <= 1000 := by decide) (hN : X.N[i]? = some x := by rfl) (hv : Vis X.env.scope x := by first | exact Or.inl rfl | exact Or.inr (Or.inl rfl) | exact Or.inr (Or.inr rfl)) (hd : (x == ("__debug__" : Str)) = false := by decide)
  (hcd : (x == ("__classdict__" : Str)) = false := by decide) : JS X G (.Assign [.Subscript (.Name x p) (.Tuple es x1 tp) tpos] value pos) (sDputT i dk dv) :=
 impS (ps_dput hu (pe_var hN hv hd hcd) (pe_tup hk) he hs) fun D σ H ⟨c, ow, ps, R, q⟩ => by
  obtain ⟨w, e1, q⟩ := ends_st q
  obtain ⟨y, e2, q⟩ := ends_st q
  split at q
  ·rename_i ks xs k hx hkk
   split at q
   ·rename_i hc
    obtain ⟨hl3, hin⟩ := hc
    refine ⟨c, ow, ps, w, R, e1, fun v H1 s1 r1 => ?_⟩
    obtain ⟨p0, e3, e4, vs0, hH0, l0, rs0⟩ := R.getO hx
    refine ⟨_, e4, c, ow, ps, y, R.grow s1, e2, fun us H2 s2 r2 => ⟨?_, fun b hb => ?_⟩⟩
    ·rw [r2.len.2]; exact Nat.le_of_lt (small1000 hl)
    have s3 : Same H2 (upd H2 b (.tup us)) := same_upd hb _
    have s13 := (s1.trans s2).trans s3
    have R3 := R.grow s13
    have hH : upd H2 b (.tup us) p0 = some (.dT (ks.zip vs0)) := s13 _ _ hH0
    have rs := rs0.same s13
    have mD : Mt (HO.dT (ks.zip vs0)) := And.intro (fun _ z => by cases z) (fun _ _ z => by cases z)
    have hz : putK (ks.zip vs0) k v = (ks ++ [k]).zip (vs0 ++ [v]) := by
     rw [putK_new v (by rw [valT]; exact getT_none hin)]
     exact zip_snoc l0
    have k0 : Kp X.K G (upd H2 b (.tup us)) (av c ow) (upd (upd H2 b (.tup us)) p0 (.dT (putK (ks.zip vs0) k v))) (av c ow) := Kp.own (.inr ⟨i, e3⟩) hH mD
    have := R3.chg (y := .dit (ks ++ [k]) (xs ++ [w])) (u := .dT (putK (ks.zip vs0) k v)) hx e3 ⟨vs0 ++ [v], by rw [hz]; exact upd_same, by simp [l0], k0.reps (rs.snoc (r1.same (s2.trans s3)))⟩
    refine ⟨p0, _, rfl, ?_, q _ _ _ this.1 ((Kp.of_same s13).trans this.2)⟩
    have hkey := keyT_reps (r2.reps' hm) hkk
    rw [hkey] at hH ⊢
    exact DPut.t hH upd_same (by rw [List.length_zip, <- l0]; exact Nat.lt_of_le_of_lt (Nat.min_le_left _ _) (Nat.lt_of_lt_of_le hl3 (by decide)))
   ·exact q.elim
  ·exact q.elim
def dDGetT (da : DP) (dk : DA) : DP := fun ps => (da ps).bind fun z => (dk ps).bind fun ys => match z, keyT ys with
 | .dit ks xs, some k => (match getT ks xs k with | some w => .ok w | none => .bad)
 | _, _ => .bad
theorem p_dgetT {x1} (hu : X.A.units + 1 < cLine) (ha : JB X G o da) (hk : JA X G ms es dk) (hs : NoSl (.Tuple es x1 tp)) (hm : ms.all (! ·) = true := by rfl) (hl : ms.length <= 1000 := by decide) : JP X G (.Subscript o (.Tuple es x1 tp) pos) (dDGetT da dk) := imp (pe_dget hu ha (pe_tup hk) hs) fun σ H Q ⟨c, ow, ps, w, R, e, q⟩ => by
 obtain ⟨z, e1, ea⟩ := bind_ok e
 clear e
 obtain ⟨y, e2, e⟩ := bind_ok ea
 clear ea
 refine ⟨c, ow, ps, z, R, e1, fun v H1 s1 r1 => ⟨c, ow, ps, y, R.grow s1, e2, fun us H2 s2 r2 => ⟨?_, fun b hb => ?_⟩⟩⟩
 ·rw [r2.len.2]; exact Nat.le_of_lt (small1000 hl)
 split at e
 ·rename_i ks xs k hkk
  split at e
  ·rename_i w' hw
   cases e
   have s3 : Same H2 (upd H2 b (.tup us)) := same_upd hb _
   obtain ⟨a, vs, rfl, hH, l, rs⟩ := ((r1.same s2).same s3).dit
   obtain ⟨v', hv, rv⟩ := getT_rep rs hw
   refine ⟨a, v', rfl, ?_, q v' _ ((s1.trans s2).trans s3) rv⟩
   have hkey := keyT_reps (r2.reps' hm) hkk
   rw [hkey] at hH ⊢
   rw [<- hv, <- valT]
   exact DGet.t hH upd_same
  ·cases e
 ·cases e
end
section
variable (ps : PSt) (i : Nat) (da dv : DP) (dk : DA)
@[simp] theorem e_ownDT : sOwnDT i ps = if i < ps.length then .nx (ps.set i (.own (.dit [] []))) else .bad := rfl
@[simp] theorem e_dputT : sDputT i dk dv ps = (dv ps).st fun w => (dk ps).st fun ys => match ps[i]?, keyT ys with
 | some (.own (.dit ks xs)), some k => if ks.length < 10000 /\ inT ks k = false then .nx (ps.set i (.own (.dit (ks ++ [k]) (xs ++ [w])))) else .bad
 | _, _ => .bad := rfl
@[simp] theorem e_dgetT : dDGetT da dk ps = (da ps).bind fun z => (dk ps).bind fun ys => match z, keyT ys with
 | .dit ks xs, some k => (match getT ks xs k with | some w => .ok w | none => .bad)
 | _, _ => .bad := rfl
end
end DN
end
section
namespace M44
open PySem L2 DN
open PyProof.Rows (boot_isinstance boot_bool boot_int boot_str boot_tuple boot_list boot_dict boot_sum boot_all boot_any boot_abs boot_enumerate boot_min boot_max)
def top (i : Nat) : Stmt := PySem.Challenge.pw_anymeaning_k44_what_is_due.main.body.getD i (.Pass ⟨0, 0, 0, 0⟩)
def fN : Nat -> List Str
 | 0 => []
 | 1 => []
 | 2 => []
 | 3 => ["name"]
 | 4 => ["inner"]
 | 5 => ["left", "right"]
 | 6 => ["left", "right"]
 | 7 => ["unbarred", "let_by", "lasting"]
 | 8 => []
 | 9 => ["test"]
 | 10 => ["before", "deed", "after"]
 | 11 => ["test", "deed"]
 | 12 => ["says", "leads"]
 | _ => []
abbrev s_z0 : Stmt := top 5
abbrev s_z1 : Stmt := top 6
abbrev s_z2 : Stmt := top 17
abbrev s_z3 : Stmt := top 18
abbrev s_z4 : Stmt := top 19
abbrev s_z5 : Stmt := top 20
abbrev s_z6 : Stmt := top 21
abbrev s_z7 : Stmt := top 22
abbrev s_z8 : Stmt := top 31
abbrev s_z9 : Stmt := top 32
abbrev s_za : Stmt := top 33
abbrev s_zb : Stmt := top 34
abbrev s_zc : Stmt := top 35
abbrev s_zd : Stmt := top 36
abbrev s_ze : Stmt := top 37
abbrev s_zf : Stmt := top 38
abbrev s_zg : Stmt := top 39
abbrev s_zh : Stmt := inClass (top 7) 1
abbrev s_zi : Stmt := inClass (top 8) 0
abbrev s_zj : Stmt := inClass (top 9) 0
abbrev s_zk : Stmt := inClass (top 10) 1
abbrev s_zl : Stmt := inClass (top 11) 1
abbrev s_zm : Stmt := inClass (top 12) 1
abbrev s_zn : Stmt := inClass (top 13) 1
abbrev s_zo : Stmt := inClass (top 16) 1
abbrev s_zp : Stmt := inClass (top 16) 2
abbrev s_zq : Stmt := inClass (top 16) 3
abbrev s_zr : Stmt := inClass (top 24) 0
abbrev s_zs : Stmt := inClass (top 24) 2
abbrev s_zt : Stmt := inClass (top 25) 1
abbrev s_zu : Stmt := inClass (top 26) 1
abbrev s_zv : Stmt := inClass (top 27) 1
abbrev s_zw : Stmt := inClass (top 29) 1
abbrev s_zx : Stmt := inClass (top 29) 2
abbrev s_zy : Stmt := inClass (top 16) 0
abbrev n_zz : Nst := nstOf ["_law_goods", "_law_many"] (inBody 4 s_ze)
abbrev n_zA : Nst := nstOf ["_law_ways", "_law_many", "_law_cell", "_law_says"] (inBody 5 s_ze)
def nF : Nat -> Nst
 | 35 => n_zz
 | 36 => n_zA
 | _ => default
abbrev tC : List (Nat × Nat) := [(35, 1), (36, 2)]
def pg (cA : Nat -> Addr) : Pg := ⟨cA, fN, nF⟩
abbrev a_after : List (Nat × Nat) := [(10, 2)]
abbrev a_before : List (Nat × Nat) := [(10, 0)]
abbrev a_deed : List (Nat × Nat) := [(10, 1), (11, 1)]
abbrev a_inner : List (Nat × Nat) := [(4, 0)]
abbrev a_lasting : List (Nat × Nat) := [(7, 2)]
abbrev a_leads : List (Nat × Nat) := [(12, 1)]
abbrev a_left : List (Nat × Nat) := [(5, 0), (6, 0)]
abbrev a_let_by : List (Nat × Nat) := [(7, 1)]
abbrev a_name : List (Nat × Nat) := [(3, 0)]
abbrev a_right : List (Nat × Nat) := [(5, 1), (6, 1)]
abbrev a_says : List (Nat × Nat) := [(12, 0)]
abbrev a_test : List (Nat × Nat) := [(9, 0), (11, 0)]
abbrev a_unbarred : List (Nat × Nat) := [(7, 0)]
abbrev q_bars : List (Nat × Nat) := [(8, 27), (9, 29), (10, 27), (11, 27)]
abbrev q_good : List (Nat × Nat) := [(7, 24)]
abbrev q_holds : List (Nat × Nat) := [(1, 18), (2, 19), (3, 20), (4, 21), (5, 22), (6, 23)]
abbrev q_keeps_at : List (Nat × Nat) := [(7, 26)]
abbrev q_later_mask : List (Nat × Nat) := [(8, 28), (9, 28), (10, 30), (11, 31)]
abbrev q_led : List (Nat × Nat) := [(12, 33)]
abbrev q_mask : List (Nat × Nat) := [(0, 17), (1, 17), (2, 17), (3, 17), (4, 17), (5, 17), (6, 17)]
abbrev q_setting : List (Nat × Nat) := [(12, 32)]
abbrev q_ways : List (Nat × Nat) := [(7, 25)]
abbrev i_bool : List (Nat × Bool) := [(0, false), (1, true), (2, false), (3, false), (4, false), (5, false), (6, false), (0 + 10, false), (1 + 10, false), (2 + 10, false), (3 + 10, false), (4 + 10, false), (5 + 10, false), (6 + 10, false), (7 + 10, false), (8 + 10, false), (9 + 10, false), (10 + 10, false), (11 + 10, false), (12 + 10, false)]
@[simp] theorem fl_after_10 (x0 x1 x2 : PV) : fldP a_after (.obj 10 [x0, x1, x2]) = .ok x2 := rfl
@[simp] theorem fl_before_10 (x0 x1 x2 : PV) : fldP a_before (.obj 10 [x0, x1, x2]) = .ok x0 := rfl
@[simp] theorem fl_deed_10 (x0 x1 x2 : PV) : fldP a_deed (.obj 10 [x0, x1, x2]) = .ok x1 := rfl
@[simp] theorem fl_deed_11 (x0 x1 : PV) : fldP a_deed (.obj 11 [x0, x1]) = .ok x1 := rfl
@[simp] theorem fl_inner_4 (x0 : PV) : fldP a_inner (.obj 4 [x0]) = .ok x0 := rfl
@[simp] theorem fl_lasting_7 (x0 x1 x2 : PV) : fldP a_lasting (.obj 7 [x0, x1, x2]) = .ok x2 := rfl
@[simp] theorem fl_leads_12 (x0 x1 : PV) : fldP a_leads (.obj 12 [x0, x1]) = .ok x1 := rfl
@[simp] theorem fl_left_5 (x0 x1 : PV) : fldP a_left (.obj 5 [x0, x1]) = .ok x0 := rfl
@[simp] theorem fl_left_6 (x0 x1 : PV) : fldP a_left (.obj 6 [x0, x1]) = .ok x0 := rfl
@[simp] theorem fl_let_by_7 (x0 x1 x2 : PV) : fldP a_let_by (.obj 7 [x0, x1, x2]) = .ok x1 := rfl
@[simp] theorem fl_name_3 (x0 : PV) : fldP a_name (.obj 3 [x0]) = .ok x0 := rfl
@[simp] theorem fl_right_5 (x0 x1 : PV) : fldP a_right (.obj 5 [x0, x1]) = .ok x1 := rfl
@[simp] theorem fl_right_6 (x0 x1 : PV) : fldP a_right (.obj 6 [x0, x1]) = .ok x1 := rfl
@[simp] theorem fl_says_12 (x0 x1 : PV) : fldP a_says (.obj 12 [x0, x1]) = .ok x0 := rfl
@[simp] theorem fl_test_9 (x0 : PV) : fldP a_test (.obj 9 [x0]) = .ok x0 := rfl
@[simp] theorem fl_test_11 (x0 x1 : PV) : fldP a_test (.obj 11 [x0, x1]) = .ok x0 := rfl
@[simp] theorem fl_unbarred_7 (x0 x1 x2 : PV) : fldP a_unbarred (.obj 7 [x0, x1, x2]) = .ok x0 := rfl
@[simp] theorem ii_bool_0 : isiK i_bool 0 = .ok (.bl false) := rfl
@[simp] theorem ii_bool_1 : isiK i_bool 1 = .ok (.bl true) := rfl
@[simp] theorem ii_bool_2 : isiK i_bool 2 = .ok (.bl false) := rfl
@[simp] theorem ii_bool_3 : isiK i_bool 3 = .ok (.bl false) := rfl
@[simp] theorem ii_bool_4 : isiK i_bool 4 = .ok (.bl false) := rfl
@[simp] theorem ii_bool_5 : isiK i_bool 5 = .ok (.bl false) := rfl
@[simp] theorem ii_bool_6 : isiK i_bool 6 = .ok (.bl false) := rfl
@[simp] theorem ii_bool_10 : isiK i_bool (0 + 10) = .ok (.bl false) := rfl
@[simp] theorem ii_bool_11 : isiK i_bool (1 + 10) = .ok (.bl false) := rfl
@[simp] theorem ii_bool_12 : isiK i_bool (2 + 10) = .ok (.bl false) := rfl
@[simp] theorem ii_bool_13 : isiK i_bool (3 + 10) = .ok (.bl false) := rfl
@[simp] theorem ii_bool_14 : isiK i_bool (4 + 10) = .ok (.bl false) := rfl
@[simp] theorem ii_bool_15 : isiK i_bool (5 + 10) = .ok (.bl false) := rfl
@[simp] theorem ii_bool_16 : isiK i_bool (6 + 10) = .ok (.bl false) := rfl
@[simp] theorem ii_bool_17 : isiK i_bool (7 + 10) = .ok (.bl false) := rfl
@[simp] theorem ii_bool_18 : isiK i_bool (8 + 10) = .ok (.bl false) := rfl
@[simp] theorem ii_bool_19 : isiK i_bool (9 + 10) = .ok (.bl false) := rfl
@[simp] theorem ii_bool_20 : isiK i_bool (10 + 10) = .ok (.bl false) := rfl
@[simp] theorem ii_bool_21 : isiK i_bool (11 + 10) = .ok (.bl false) := rfl
@[simp] theorem ii_bool_22 : isiK i_bool (12 + 10) = .ok (.bl false) := rfl
abbrev c_DEEDS : List PV := [PV.str "P", PV.str "Q", PV.str "R", PV.str "S", PV.str "T"]
abbrev c_LETTERS : List PV := [PV.str "a", PV.str "b", PV.str "c", PV.str "d"]
structure Ct (P : Program) (w : World) (K : Fg) (mg : Str -> Option Value) (base : Bs) (cA : Nat -> Addr) (ts : List Addr) : Prop where
 tb : base.tabs = ts
 c_zB : mg "Test" = some (.ref ((pg cA).cA 0))
 l_zB : ClsF K ((pg cA).cA 0)
 c_zC : mg "Yes" = some (.ref ((pg cA).cA 1))
 l_zC : ClsF K ((pg cA).cA 1)
 c_zD : mg "No" = some (.ref ((pg cA).cA 2))
 l_zD : ClsF K ((pg cA).cA 2)
 c_zE : mg "Named" = some (.ref ((pg cA).cA 3))
 l_zE : ClsF K ((pg cA).cA 3)
 c_zF : mg "Not" = some (.ref ((pg cA).cA 4))
 l_zF : ClsF K ((pg cA).cA 4)
 c_zG : mg "Both" = some (.ref ((pg cA).cA 5))
 l_zG : ClsF K ((pg cA).cA 5)
 c_zH : mg "Either" = some (.ref ((pg cA).cA 6))
 l_zH : ClsF K ((pg cA).cA 6)
 c_zI : mg "Bonds" = some (.ref ((pg cA).cA 7))
 l_zI : ClsF K ((pg cA).cA 7)
 c_zJ : mg "Saying" = some (.ref ((pg cA).cA 8))
 l_zJ : ClsF K ((pg cA).cA 8)
 c_zK : mg "Nowhere" = some (.ref ((pg cA).cA 9))
 l_zK : ClsF K ((pg cA).cA 9)
 c_zL : mg "Behind" = some (.ref ((pg cA).cA 10))
 l_zL : ClsF K ((pg cA).cA 10)
 c_zM : mg "Through" = some (.ref ((pg cA).cA 11))
 l_zM : ClsF K ((pg cA).cA 11)
 c_zN : mg "World" = some (.ref ((pg cA).cA 12))
 l_zN : ClsF K ((pg cA).cA 12)
 n_zL : NewAt P w K mg base "Behind" ((pg cA).cA 10) ((pg cA).fN 10)
 n_zG : NewAt P w K mg base "Both" ((pg cA).cA 5) ((pg cA).fN 5)
 n_zH : NewAt P w K mg base "Either" ((pg cA).cA 6) ((pg cA).fN 6)
 n_zE : NewAt P w K mg base "Named" ((pg cA).cA 3) ((pg cA).fN 3)
 k_zD : Mk0 K ((pg cA).cA 2)
 n_zF : NewAt P w K mg base "Not" ((pg cA).cA 4) ((pg cA).fN 4)
 n_zK : NewAt P w K mg base "Nowhere" ((pg cA).cA 9) ((pg cA).fN 9)
 n_zM : NewAt P w K mg base "Through" ((pg cA).cA 11) ((pg cA).fN 11)
 n_zN : NewAt P w K mg base "World" ((pg cA).cA 12) ((pg cA).fN 12)
 k_zC : Mk0 K ((pg cA).cA 1)
 x_Bonds_unbarred : NoAttr K ((pg cA).cA 7) "unbarred"
 x_Bonds_let_by : NoAttr K ((pg cA).cA 7) "let_by"
 x_Bonds_lasting : NoAttr K ((pg cA).cA 7) "lasting"
 f_after : FldOk K (pg cA) "after" a_after
 f_before : FldOk K (pg cA) "before" a_before
 f_deed : FldOk K (pg cA) "deed" a_deed
 f_inner : FldOk K (pg cA) "inner" a_inner
 f_lasting : FldOk K (pg cA) "lasting" a_lasting
 f_leads : FldOk K (pg cA) "leads" a_leads
 f_left : FldOk K (pg cA) "left" a_left
 f_let_by : FldOk K (pg cA) "let_by" a_let_by
 f_name : FldOk K (pg cA) "name" a_name
 f_right : FldOk K (pg cA) "right" a_right
 f_says : FldOk K (pg cA) "says" a_says
 f_test : FldOk K (pg cA) "test" a_test
 f_unbarred : FldOk K (pg cA) "unbarred" a_unbarred
 i_bool : IsiOk K (pg cA) (.type "bool") i_bool
 e_DEEDS : ∃ a, mg "DEEDS" = some (.ref a) /\ TopT K a [V.str "P", V.str "Q", V.str "R", V.str "S", V.str "T"]
 e_EVERY : ∃ t, mg "EVERY" = some (.int (65535) t)
 e_LETTERS : ∃ a, mg "LETTERS" = some (.ref a) /\ TopT K a [V.str "a", V.str "b", V.str "c", V.str "d"]
 e_SETTINGS : ∃ t, mg "SETTINGS" = some (.int (16) t)
 z_all : mg "all" = none
 z_any : mg "any" = none
 z_bool : mg "bool" = none
 z_isinstance : mg "isinstance" = none
 z_len : mg "len" = none
 z_list : mg "list" = none
 z_min : mg "min" = none
 z_range : mg "range" = none
theorem sc_z0 : FnScope ["setting", "mask"] ["setting", "mask"] (defScope s_z0) := .q
def d_z0 (g : Nat -> List PV -> Rx PV) : DS :=
 (sRet (d2 fEq (d2 fAnd (d2 fShr (dSee 1) (dSee 0)) (dC (.int 1))) (dC (.int 1))))
theorem sc_z1 : FnScope ["mask"] ["mask"] (defScope s_z1) := .q
def d_z1 (g : Nat -> List PV -> Rx PV) : DS :=
 (sRet (dOfN (dComp ["setting"] [("mask", 0)] (dRng1 (dCons (dC (.int (16))) dNil)) (gSet 0) (dTr (dCall (g 0) (dCons (dVar 0) (dCons (dVar 1) dNil)))) (dVar 0))))
theorem sc_z2 : FnScope ["sayings", "mask", "setting"] ["sayings"] (defScope s_z2) := .q
def b_z2_1 (g : Nat -> List PV -> Rx PV) : DS :=
 (sIf (dTr (dCall bAny (dCons (dOfN (dComp ["saying"] [("setting", 2)] (dItems (dSee 0)) (gSet 0) dYes (dMeth q_bars g (dVar 0) (dCons (dVar 1) dNil)))) dNil)))
 (sAug 1 (fun i j => i - j) (d2 fShl (dC (.int 1)) (dSee 2)))
 sNext)
def d_z2 (g : Nat -> List PV -> Rx PV) : DS :=
 (sSeq (sSet 1 (dC (.int (65535))))
 (sSeq (sFor (dRng1 (dCons (dC (.int (16))) dNil)) (gSet 2)
 (b_z2_1 g))
 (sRet (dVar 1))))
theorem sc_z3 : FnScope ["sayings", "masks", "deed"] ["sayings"] (defScope s_z3) := .q
def b_z3_1 (g : Nat -> List PV -> Rx PV) : DS :=
 (sDput 1 (dVar 2) (dOfN (dComp ["setting"] [("sayings", 0), ("deed", 2)] (dRng1 (dCons (dC (.int (16))) dNil)) (gSet 0) dYes (dCall (g 4) (dCons (dVar 1) (dCons (dVar 2) (dCons (dVar 0) dNil)))))))
def d_z3 (g : Nat -> List PV -> Rx PV) : DS :=
 (sSeq (sOwnD 1)
 (sSeq (sFor (dItemsT (dC (.tup c_DEEDS))) (gSet 2)
 (b_z3_1 g))
 (sRetM (mFrz 1))))
theorem sc_z4 : FnScope ["sayings", "deed", "setting", "mask", "saying"] ["sayings", "deed", "setting"] (defScope s_z4) := .q
def b_z4_1 (g : Nat -> List PV -> Rx PV) : DS :=
 (sAug 3 (fun i j => Builtin.bitAnd i j) (dMeth q_later_mask g (dVar 4) (dCons (dVar 1) (dCons (dVar 2) dNil))))
def d_z4 (g : Nat -> List PV -> Rx PV) : DS :=
 (sSeq (sSet 3 (dC (.int (65535))))
 (sSeq (sFor (dItems (dVar 0)) (gSet 4)
 (b_z4_1 g))
 (sRet (dVar 3))))
theorem sc_z5 : FnScope ["mask", "let_by", "left", "setting"] ["mask", "let_by"] (defScope s_z5) := .q
def b_z5_1 (g : Nat -> List PV -> Rx PV) : DS :=
 (sIf (dTr (dCall bAll (dCons (dOfN (dComp ["deed"] [("mask", 0), ("setting", 3), ("let_by", 1)] (dItemsT (dC (.tup c_DEEDS))) (gSet 0) dYes (d2 fNe (d2 fAnd (d2 fIx (d2 fDGet (dSee 3) (dSee 0)) (dSee 2)) (dSee 1)) (dC (.int 0))))) dNil)))
 (sAug 2 (fun i j => i + j) (d2 fShl (dC (.int 1)) (dSee 3)))
 sNext)
def b_z5_2 (g : Nat -> List PV -> Rx PV) : DS :=
 (sSeq (sSet 2 (dC (.int 0)))
 (sSeq (sFor (dItems (dCall (g 1) (dCons (dVar 0) dNil))) (gSet 3)
 (b_z5_1 g))
 (sSeq (sIf (dTr (d2 fEq (dSee 2) (dSee 0)))
 (sRet (dVar 0))
 sNext)
 (sSet 0 (dVar 2)))))
def d_z5 (g : Nat -> List PV -> Rx PV) : DS :=
 (sWhileM (mOfT (dTr (dC (.bl true))))
 (b_z5_2 g))
theorem sc_z6 : FnScope ["world", "sayings", "states", "bonds"] ["world", "sayings", "states"] (defScope s_z6) := .q
def d_z6 (g : Nat -> List PV -> Rx PV) : DS :=
 (sSeq (sSet 3 (dCall (g 34) (dCons (dVar 1) dNil)))
 (sRet (dCall bAll (dCons (dOfN (dComp ["state"] [("world", 0), ("bonds", 3)] (dItems (dSee 2)) (gSet 0) dYes (dMeth q_keeps_at g (dVar 2) (dCons (dVar 1) (dCons (dVar 0) dNil))))) dNil))))
theorem sc_z7 : FnScope ["sayings", "saying", "bonds", "setting", "deed", "ways"] ["sayings", "saying"] (defScope s_z7) := .q
def b_z7_1 (g : Nat -> List PV -> Rx PV) : DS :=
 (sSeq (sSet 5 (dMeth q_ways g (dVar 2) (dCons (dVar 4) (dCons (dVar 3) dNil))))
 (sIf (dTr (d2 fNe (d2 fAnd (dSee 5) (dMeth q_later_mask g (dVar 1) (dCons (dVar 4) (dCons (dVar 3) dNil)))) (dSee 5)))
 (sRet (dC (.bl false)))
 sNext))
def b_z7_2 (g : Nat -> List PV -> Rx PV) : DS :=
 (sSeq (sIf (dTr (dMeth q_bars g (dVar 1) (dCons (dVar 3) dNil)))
 (sRet (dC (.bl false)))
 sNext)
 (sFor (dItemsT (dC (.tup c_DEEDS))) (gSet 4)
 (b_z7_1 g)))
def d_z7 (g : Nat -> List PV -> Rx PV) : DS :=
 (sSeq (sSet 2 (dCall (g 34) (dCons (dVar 0) dNil)))
 (sSeq (sFor (dItems (dCall (g 1) (dCons (dMeth q_good g (dVar 2) dNil) dNil))) (gSet 3)
 (b_z7_2 g))
 (sRet (dC (.bl true)))))
theorem sc_z8 : FnScope ["_law_script", "_law_k"] ["_law_script", "_law_k"] (defScope s_z8) := .q
def d_z8 (g : Nat -> List PV -> Rx PV) : DS :=
 (sSeq (sIf (dTr (d2 fLt (dSee 1) (dCall bLen (dCons (dSee 0) dNil))))
 (sRet (d2 fIx (dSee 0) (dSee 1)))
 sNext)
 (sRet (dC (.int 0))))
theorem sc_z9 : FnScope ["_law_cell", "_law_k", "_law_number"] ["_law_cell", "_law_k"] (defScope s_z9) := .q
def d_z9 (g : Nat -> List PV -> Rx PV) : DS :=
 (sSeq (sSet 2 (d2 fMod (d2 fMul (d2 fAdd (d2 fAdd (d2 fMod (dSee 0) (dC (.int 2147483647))) (d2 fMul (dC (.int 7919)) (dSee 1))) (dC (.int 1))) (dC (.int 48271))) (dC (.int 2147483647))))
 (sRet (d2 fMod (d2 fMul (dSee 2) (d2 fAdd (d2 fDiv (dSee 2) (dC (.int 1009))) (dC (.int 69621)))) (dC (.int 2147483647)))))
theorem sc_za : FnScope ["_law_number", "_law_masks", "_law_one", "_law_two", "_law_first", "_law_second", "_law_way"] ["_law_number"] (defScope s_za) := .q
def d_za (g : Nat -> List PV -> Rx PV) : DS :=
 (sSeq (sSet 1 (dOfN (dCons (dC (.int 43690)) (dCons (dC (.int 52428)) (dCons (dC (.int 61680)) (dCons (dC (.int 65280)) dNil))))))
 (sSeq (sSet 2 (dNew 3 (dCons (d2 fIx (dC (.str "abcd")) (d2 fMod (dSee 0) (dC (.int 4)))) dNil)))
 (sSeq (sSet 3 (dNew 3 (dCons (d2 fIx (dC (.str "abcd")) (d2 fMod (d2 fDiv (dSee 0) (dC (.int 4))) (dC (.int 4)))) dNil)))
 (sSeq (sSet 4 (d2 fIx (dSee 1) (d2 fMod (dSee 0) (dC (.int 4)))))
 (sSeq (sSet 5 (d2 fIx (dSee 1) (d2 fMod (d2 fDiv (dSee 0) (dC (.int 4))) (dC (.int 4)))))
 (sSeq (sSet 6 (d2 fMod (d2 fDiv (dSee 0) (dC (.int 16))) (dC (.int 8))))
 (sSeq (sIf (dTr (d2 fEq (dSee 6) (dC (.int 0))))
 (sRet (dTup (dCons (dC (.obj 1 [])) (dCons (dC (.int 65535)) dNil))))
 sNext)
 (sSeq (sIf (dTr (d2 fEq (dSee 6) (dC (.int 1))))
 (sRet (dTup (dCons (dNew 4 (dCons (dVar 2) dNil)) (dCons (d2 fXor (dC (.int 65535)) (dSee 4)) dNil))))
 sNext)
 (sSeq (sIf (dTr (d2 fEq (dSee 6) (dC (.int 2))))
 (sRet (dTup (dCons (dNew 5 (dCons (dVar 2) (dCons (dVar 3) dNil))) (dCons (d2 fAnd (dSee 4) (dSee 5)) dNil))))
 sNext)
 (sSeq (sIf (dTr (d2 fEq (dSee 6) (dC (.int 3))))
 (sRet (dTup (dCons (dNew 6 (dCons (dVar 2) (dCons (dNew 4 (dCons (dVar 3) dNil)) dNil))) (dCons (d2 fOr (dSee 4) (d2 fXor (dC (.int 65535)) (dSee 5))) dNil))))
 sNext)
 (sSeq (sIf (dTr (d2 fEq (dSee 6) (dC (.int 4))))
 (sRet (dTup (dCons (dNew 4 (dCons (dNew 6 (dCons (dVar 2) (dCons (dVar 3) dNil))) dNil)) (dCons (d2 fXor (dC (.int 65535)) (d2 fOr (dSee 4) (dSee 5))) dNil))))
 sNext)
 (sSeq (sIf (dAndT (dTr (d2 fEq (dSee 6) (dC (.int 5)))) (dTr (d2 fEq (d2 fMod (d2 fDiv (dSee 0) (dC (.int 128))) (dC (.int 4))) (dC (.int 0)))))
 (sRet (dTup (dCons (dC (.obj 2 [])) (dCons (dC (.int 0)) dNil))))
 sNext)
 (sRet (dTup (dCons (dVar 2) (dCons (dVar 4) dNil))))))))))))))))
theorem sc_zb : FnScope ["_law_cell", "_law_deed", "_law_one", "_law_first", "_law_two", "_law_second"] ["_law_cell"] (defScope s_zb) := .q
def d_zb (g : Nat -> List PV -> Rx PV) : DS :=
 (sSeq (sAsg (gTupD 2 (gConsD (gSet 2) (gConsD (gSet 3) gNilD))) (dCall (g 10) (dCons (dCall (g 9) (dCons (dVar 0) (dCons (dC (.int 1)) dNil))) dNil)))
 (sSeq (sAsg (gTupD 2 (gConsD (gSet 4) (gConsD (gSet 5) gNilD))) (dCall (g 10) (dCons (dCall (g 9) (dCons (dVar 0) (dCons (dC (.int 2)) dNil))) dNil)))
 (sSeq (sSet 1 (d2 fIx (dC (.str "PQRST")) (d2 fMod (d2 fDiv (dSee 0) (dC (.int 4))) (dC (.int 5)))))
 (sSeq (sIf (dAndT (dTr (d2 fEq (d2 fMod (dSee 0) (dC (.int 4))) (dC (.int 0)))) (dTr (d2 fNe (dSee 3) (dC (.int 65535)))))
 (sRet (dTup (dCons (dNew 9 (dCons (dVar 2) dNil)) (dCons (dC (.int 0)) (dCons (dVar 3) (dCons (dVar 1) (dCons (dC (.int 0)) dNil)))))))
 sNext)
 (sSeq (sIf (dTr (d2 fEq (d2 fMod (dSee 0) (dC (.int 4))) (dC (.int 1))))
 (sRet (dTup (dCons (dNew 11 (dCons (dVar 2) (dCons (dVar 1) dNil))) (dCons (dC (.int 1)) (dCons (dVar 3) (dCons (dVar 1) (dCons (dC (.int 0)) dNil)))))))
 sNext)
 (sRet (dTup (dCons (dNew 10 (dCons (dVar 2) (dCons (dVar 1) (dCons (dVar 4) dNil)))) (dCons (dC (.int 2)) (dCons (dVar 3) (dCons (dVar 1) (dCons (dVar 5) dNil))))))))))))
theorem sc_zc : FnScope ["_law_told", "_law_lets_here", "_law_deed", "_law_saying_here", "_law_sort", "_law_first", "_law_second", "_law_row", "_law_setting", "_law_here"] ["_law_told"] (defScope s_zc) := .q
def b_zc_1 (g : Nat -> List PV -> Rx PV) : DS :=
 (sSeq (sSet 9 (d2 fAnd (d2 fShr (dSee 5) (dSee 8)) (dC (.int 1))))
 (sSeq (sIf (dTr (d2 fEq (dSee 4) (dC (.int 1))))
 (sSetA 7 (dVar 8) (d2 fAnd (d2 fIx (dAls 7) (dSee 8)) (d2 fIx (dOfN (dCons (d2 fXor (dC (.int 65535)) (dSee 5)) (dCons (dVar 5) dNil))) (dSee 9))))
 sNext)
 (sIf (dAndT (dTr (d2 fEq (dSee 4) (dC (.int 2)))) (dTr (d2 fEq (dSee 9) (dC (.int 1)))))
 (sSetA 7 (dVar 8) (d2 fAnd (d2 fIx (dAls 7) (dSee 8)) (dSee 6)))
 sNext)))
def b_zc_2 (g : Nat -> List PV -> Rx PV) : DS :=
 (sSeq (sAls 7 1 (dVar 2))
 (sFor (dRng1 (dCons (dC (.int 16)) dNil)) (gSet 8)
 (b_zc_1 g)))
def b_zc_3 (g : Nat -> List PV -> Rx PV) : DS :=
 (sDputN 1 (dVar 2) (dRep (dCons (dC (.int 65535)) dNil) (dC (.int 16))))
def d_zc (g : Nat -> List PV -> Rx PV) : DS :=
 (sSeq (sOwnD 1)
 (sSeq (sFor (dItemsS (dC (.str "PQRST"))) (gSet 2)
 (b_zc_3 g))
 (sSeq (sFor (dItems (dVar 0)) (gTupD 5 (gConsD (gSet 3) (gConsD (gSet 4) (gConsD (gSet 5) (gConsD (gSet 2) (gConsD (gSet 6) gNilD))))))
 (b_zc_2 g))
 (sFrzD 1 (sRet (dVar 1))))))
theorem sc_zd : FnScope ["_law_told", "_law_lets_here", "_law_mask", "_law_again", "_law_saying_here", "_law_sort", "_law_first", "_law_deed", "_law_second", "_law_last", "_law_setting"] ["_law_told", "_law_lets_here", "_law_mask"] (defScope s_zd) := .q
def b_zd_1 (g : Nat -> List PV -> Rx PV) : DS :=
 (sIf (dTr (d2 fEq (dCall bMinL (dCons (dOfN (dComp ["_law_deed"] [("_law_mask", 2), ("_law_setting", 10), ("_law_lets_here", 1)] (dItemsS (dC (.str "PQRST"))) (gSet 0) dYes (d2 fAnd (d2 fIx (d2 fDGet (dSee 3) (dSee 0)) (dSee 2)) (dSee 1)))) dNil)) (dC (.int 0))))
 (sSet 2 (d2 fAnd (dSee 2) (d2 fXor (dC (.int 65535)) (d2 fShl (dC (.int 1)) (dSee 10)))))
 sNext)
def b_zd_2 (g : Nat -> List PV -> Rx PV) : DS :=
 (sSeq (sSet 9 (dVar 2))
 (sSeq (sFor (dRng1 (dCons (dC (.int 16)) dNil)) (gSet 10)
 (b_zd_1 g))
 (sIf (dTr (d2 fEq (dSee 2) (dSee 9)))
 (sRet (dVar 2))
 sNext)))
def b_zd_3 (g : Nat -> List PV -> Rx PV) : DS :=
 (sIf (dTr (d2 fEq (dSee 5) (dC (.int 0))))
 (sSet 2 (d2 fAnd (dSee 2) (d2 fXor (dC (.int 65535)) (dSee 6))))
 sNext)
def d_zd (g : Nat -> List PV -> Rx PV) : DS :=
 (sSeq (sFor (dItems (dVar 0)) (gTupD 5 (gConsD (gSet 4) (gConsD (gSet 5) (gConsD (gSet 6) (gConsD (gSet 7) (gConsD (gSet 8) gNilD))))))
 (b_zd_3 g))
 (sSeq (sFor (dRng1 (dCons (dC (.int 17)) dNil)) (gSet 3)
 (b_zd_2 g))
 (sRet (dVar 2))))
theorem sc_ze : FnScope ["_law_lets_here", "_law_mask", "_law_cell", "_law_says", "_law_leads", "_law_goods", "_law_many", "_law_ways", "_law_deed", "_law_setting", "_law_some"] ["_law_lets_here", "_law_mask", "_law_cell"] (defScope s_ze) := .q
def b_ze_1 (g : Nat -> List PV -> Rx PV) : DS :=
 (sSeq (sSet 10 (dOfN (dComp ["_law_k"] [("_law_setting", 9), ("_law_goods", 5), ("_law_lets_here", 0), ("_law_deed", 8)] (dRng1 (dCons (dVar 6) dNil)) (gSet 0) (dTr (d2 fEq (d2 fAnd (d2 fShr (d2 fIx (d2 fDGet (dSee 3) (dSee 4)) (dSee 1)) (d2 fIx (dSee 2) (dSee 0))) (dC (.int 1))) (dC (.int 1)))) (dVar 0))))
 (sDputT 7 (dCons (dVar 8) (dCons (dVar 9) dNil)) (dVar 10)))
def b_ze_2 (g : Nat -> List PV -> Rx PV) : DS :=
 (sFor (dItems (dVar 5)) (gSet 9)
 (b_ze_1 g))
def d_ze (g : Nat -> List PV -> Rx PV) : DS :=
 (sSeq (sSet 5 (dOfN (dComp ["_law_setting"] [("_law_mask", 1)] (dRng1 (dCons (dC (.int 16)) dNil)) (gSet 0) (dTr (d2 fEq (d2 fAnd (d2 fShr (dSee 1) (dSee 0)) (dC (.int 1))) (dC (.int 1)))) (dVar 0))))
 (sSeq (sSet 6 (dCall bLen (dCons (dSee 5) dNil)))
 (sSeq (sOwnDT 7)
 (sSeq (sFor (dItemsS (dC (.str "PQRST"))) (gSet 8)
 (b_ze_2 g))
 (sSeal (sSeq (sDef 3 35 [5, 6])
 (sFrzG 7 (sSeal (sSeq (sDef 4 36 [7, 6, 2, 3])
 (sRet (dNew 12 (dCons (dVar 3) (dCons (dVar 4) dNil)))))))))))))
theorem sc_zf : FnScope ["_law_lets_here", "_law_good_here", "_law_asked", "_law_more", "_law_setting", "_law_deed", "_law_ways"] ["_law_lets_here", "_law_good_here", "_law_asked"] (defScope s_zf) := .q
def b_zf_1 (g : Nat -> List PV -> Rx PV) : DS :=
 (sSeq (sSet 6 (d2 fAnd (d2 fIx (d2 fDGet (dSee 0) (dSee 5)) (dSee 4)) (dSee 1)))
 (sIf (dTr (d2 fNe (d2 fAnd (dSee 6) (d2 fXor (dC (.int 65535)) (d2 fIx (d2 fDGet (dSee 3) (dSee 5)) (dSee 4)))) (dC (.int 0))))
 (sRet (dC (.bl false)))
 sNext))
def b_zf_2 (g : Nat -> List PV -> Rx PV) : DS :=
 (sIf (dTr (d2 fEq (d2 fAnd (d2 fShr (dSee 1) (dSee 4)) (dC (.int 1))) (dC (.int 1))))
 (sSeq (sIf (dAndT (dTr (d2 fEq (d2 fIx (dSee 2) (dC (.int 1))) (dC (.int 0)))) (dTr (d2 fEq (d2 fAnd (d2 fShr (d2 fIx (dSee 2) (dC (.int 2))) (dSee 4)) (dC (.int 1))) (dC (.int 1)))))
 (sRet (dC (.bl false)))
 sNext)
 (sFor (dItemsS (dC (.str "PQRST"))) (gSet 5)
 (b_zf_1 g)))
 sNext)
def d_zf (g : Nat -> List PV -> Rx PV) : DS :=
 (sSeq (sSet 3 (dCall (g 12) (dCons (dOfN (dCons (dVar 2) dNil)) dNil)))
 (sSeq (sFor (dRng1 (dCons (dC (.int 16)) dNil)) (gSet 4)
 (b_zf_2 g))
 (sRet (dC (.bl true)))))
theorem sc_zg : FnScope ["_law_script", "_law_told", "_law_asked", "_law_lets_here", "_law_good_here", "_law_sayings", "_law_found", "_law_saying_here", "_law_world_here", "_law_states"] ["_law_script"] (defScope s_zg) := .q
def b_zg_1 (g : Nat -> List PV -> Rx PV) : DS :=
 (sIf (dTr (d2 fIsNB (dCall (g 7) (dCons (dVar 5) (dCons (dVar 7) dNil))) (dC (.bl true))))
 (sRet (dC (.bl false)))
 sNext)
def d_zg (g : Nat -> List PV -> Rx PV) : DS :=
 (sSeq (sSet 1 (dOfN (dComp ["_law_cell"] [] (dItems (dOfN (dCut (dSee 0) (dO1 (dC (.int 9))) (dO1 (d2 fAdd (dC (.int 9)) (d2 fMod (dCall (g 8) (dCons (dVar 0) (dCons (dC (.int 0)) dNil))) (dC (.int 4)))))))) (gSet 0) dYes (dCall (g 11) (dCons (dVar 0) dNil)))))
 (sSeq (sSet 2 (dCall (g 11) (dCons (dCall (g 8) (dCons (dVar 0) (dCons (dC (.int 1)) dNil))) dNil)))
 (sSeq (sSet 3 (dCall (g 12) (dCons (dVar 1) dNil)))
 (sSeq (sSet 4 (dCall (g 13) (dCons (dVar 1) (dCons (dVar 3) (dCons (dC (.int 65535)) dNil)))))
 (sSeq (sSet 5 (dOfN (dComp ["_law_one"] [] (dItems (dSee 1)) (gSet 0) dYes (d2 fIx (dSee 0) (dC (.int 0))))))
 (sSeq (sSet 6 (dCall (g 7) (dCons (dOfN (dCallN bList (dCons (dSee 5) dNil))) (dCons (d2 fIx (dSee 2) (dC (.int 0))) dNil))))
 (sSeq (sIf (dOrT (dNotT (dTr (dIsi i_bool (dSee 6)))) (dTr (d2 fNe (dSee 6) (dCall (g 15) (dCons (dVar 3) (dCons (dVar 4) (dCons (dVar 2) dNil)))))))
 (sRet (dC (.bl false)))
 sNext)
 (sSeq (sFor (dItems (dVar 5)) (gSet 7)
 (b_zg_1 g))
 (sSeq (sIf (dTr (d2 fEq (dSee 4) (dC (.int 0))))
 (sRet (dVar 6))
 sNext)
 (sSeq (sSet 8 (dCall (g 14) (dCons (dVar 3) (dCons (dVar 4) (dCons (dCall (g 8) (dCons (dVar 0) (dCons (dC (.int 2)) dNil))) dNil)))))
 (sSeq (sSet 9 (dOfN (dComp ["_law_cell"] [] (dItems (dOfN (dCut (dSee 0) (dO1 (dC (.int 3))) (dO1 (dC (.int 8)))))) (gSet 0) dYes (d2 fSub (d2 fMod (dSee 0) (d2 fMul (dC (.int 2)) (d2 fPow (dC (.int 10)) (dC (.int 40))))) (d2 fPow (dC (.int 10)) (dC (.int 40)))))))
 (sSeq (sIf (dNotT (dTr (dCall (g 6) (dCons (dVar 8) (dCons (dVar 5) (dCons (dVar 9) dNil))))))
 (sRet (dC (.bl false)))
 sNext)
 (sRet (dOrV (dNotV (dVar 6)) (dCall (g 6) (dCons (dVar 8) (dCons (dOfN (dCons (d2 fIx (dSee 2) (dC (.int 0))) dNil)) (dCons (dVar 9) dNil))))))))))))))))))
theorem sc_zh : FnScope ["self", "total", "setting"] ["self"] (defScope s_zh) := .q
def b_zh_1 (g : Nat -> List PV -> Rx PV) : DS :=
 (sIf (dTr (dMeth q_holds g (dVar 0) (dCons (dVar 2) dNil)))
 (sAug 1 (fun i j => i + j) (d2 fShl (dC (.int 1)) (dSee 2)))
 sNext)
def d_zh (g : Nat -> List PV -> Rx PV) : DS :=
 (sSeq (sSet 1 (dC (.int 0)))
 (sSeq (sFor (dRng1 (dCons (dC (.int (16))) dNil)) (gSet 2)
 (b_zh_1 g))
 (sRet (dVar 1))))
theorem sc_zi : FnScope ["self", "setting"] ["self", "setting"] (defScope s_zi) := .q
def d_zi (g : Nat -> List PV -> Rx PV) : DS :=
 (sRet (dC (.bl true)))
theorem sc_zj : FnScope ["self", "setting"] ["self", "setting"] (defScope s_zj) := .q
def d_zj (g : Nat -> List PV -> Rx PV) : DS :=
 (sRet (dC (.bl false)))
theorem sc_zk : FnScope ["self", "setting"] ["self", "setting"] (defScope s_zk) := .q
def d_zk (g : Nat -> List PV -> Rx PV) : DS :=
 (sRet (d2 fEq (d2 fAnd (d2 fShr (dSee 1) (dIndex c_LETTERS (dFld a_name (dVar 0)))) (dC (.int 1))) (dC (.int 1))))
theorem sc_zl : FnScope ["self", "setting"] ["self", "setting"] (defScope s_zl) := .q
def d_zl (g : Nat -> List PV -> Rx PV) : DS :=
 (sRet (dNotV (dMeth q_holds g (dFld a_inner (dVar 0)) (dCons (dVar 1) dNil))))
theorem sc_zm : FnScope ["self", "setting"] ["self", "setting"] (defScope s_zm) := .q
def d_zm (g : Nat -> List PV -> Rx PV) : DS :=
 (sRet (dAndV (dMeth q_holds g (dFld a_left (dVar 0)) (dCons (dVar 1) dNil)) (dMeth q_holds g (dFld a_right (dVar 0)) (dCons (dVar 1) dNil))))
theorem sc_zn : FnScope ["self", "setting"] ["self", "setting"] (defScope s_zn) := .q
def d_zn (g : Nat -> List PV -> Rx PV) : DS :=
 (sRet (dOrV (dMeth q_holds g (dFld a_left (dVar 0)) (dCons (dVar 1) dNil)) (dMeth q_holds g (dFld a_right (dVar 0)) (dCons (dVar 1) dNil))))
theorem sc_zo : FnScope ["self"] ["self"] (defScope s_zo) := .q
def d_zo (g : Nat -> List PV -> Rx PV) : DS :=
 (sRet (dFld a_lasting (dVar 0)))
theorem sc_zp : FnScope ["self", "deed", "setting"] ["self", "deed", "setting"] (defScope s_zp) := .q
def d_zp (g : Nat -> List PV -> Rx PV) : DS :=
 (sRet (d2 fAnd (d2 fIx (d2 fDGet (dFld a_let_by (dVar 0)) (dSee 1)) (dSee 2)) (dFld a_lasting (dVar 0))))
theorem sc_zq : FnScope ["self", "world", "state", "setting", "deed"] ["self", "world", "state"] (defScope s_zq) := .q
def b_zq_1 (g : Nat -> List PV -> Rx PV) : DS :=
 (sIf (dNotT (dTr (dCall (g 0) (dCons (dMeth q_setting g (dVar 1) (dCons (dMeth q_led g (dVar 1) (dCons (dVar 4) (dCons (dVar 2) dNil))) dNil)) (dCons (d2 fIx (d2 fDGet (dFld a_let_by (dVar 0)) (dSee 4)) (dSee 3)) dNil)))))
 (sRet (dC (.bl false)))
 sNext)
def d_zq (g : Nat -> List PV -> Rx PV) : DS :=
 (sSeq (sSet 3 (dMeth q_setting g (dVar 1) (dCons (dVar 2) dNil)))
 (sSeq (sIf (dNotT (dTr (dCall (g 0) (dCons (dVar 3) (dCons (dFld a_unbarred (dVar 0)) dNil)))))
 (sRet (dC (.bl false)))
 sNext)
 (sSeq (sFor (dItemsT (dC (.tup c_DEEDS))) (gSet 4)
 (b_zq_1 g))
 (sRet (dC (.bl true))))))
theorem sc_zr : FnScope ["self", "setting"] ["self", "setting"] (defScope s_zr) := .q
def d_zr (g : Nat -> List PV -> Rx PV) : DS :=
 (sRet (dC (.bl false)))
theorem sc_zs : FnScope ["self", "deed", "setting"] ["self", "deed", "setting"] (defScope s_zs) := .q
def d_zs (g : Nat -> List PV -> Rx PV) : DS :=
 (sRet (dC (.int (65535))))
theorem sc_zt : FnScope ["self", "setting"] ["self", "setting"] (defScope s_zt) := .q
def d_zt (g : Nat -> List PV -> Rx PV) : DS :=
 (sRet (dMeth q_holds g (dFld a_test (dVar 0)) (dCons (dVar 1) dNil)))
theorem sc_zu : FnScope ["self", "deed", "setting"] ["self", "deed", "setting"] (defScope s_zu) := .q
def d_zu (g : Nat -> List PV -> Rx PV) : DS :=
 (sSeq (sIf (dAndT (dTr (d2 fEq (dSee 1) (dFld a_deed (dVar 0)))) (dTr (dMeth q_holds g (dFld a_before (dVar 0)) (dCons (dVar 2) dNil))))
 (sRet (dMeth q_mask g (dFld a_after (dVar 0)) dNil))
 sNext)
 (sRet (dC (.int (65535)))))
theorem sc_zv : FnScope ["self", "deed", "setting", "mask"] ["self", "deed", "setting"] (defScope s_zv) := .q
def d_zv (g : Nat -> List PV -> Rx PV) : DS :=
 (sSeq (sIf (dTr (d2 fNe (dSee 1) (dFld a_deed (dVar 0))))
 (sRet (dC (.int (65535))))
 sNext)
 (sSeq (sSet 3 (dMeth q_mask g (dFld a_test (dVar 0)) dNil))
 (sRet (dIfV (dTr (dCall (g 0) (dCons (dVar 2) (dCons (dVar 3) dNil)))) (dVar 3) (d2 fSub (dC (.int (65535))) (dSee 3))))))
theorem sc_zw : FnScope ["self", "state"] ["self", "state"] (defScope s_zw) := .q
def d_zw (g : Nat -> List PV -> Rx PV) : DS :=
 (sRet (dCallA tC g a_says (dVar 0) (dCons (dVar 1) dNil)))
theorem sc_zx : FnScope ["self", "deed", "state"] ["self", "deed", "state"] (defScope s_zx) := .q
def d_zx (g : Nat -> List PV -> Rx PV) : DS :=
 (sRet (dCallA tC g a_leads (dVar 0) (dCons (dVar 1) (dCons (dVar 2) dNil))))
theorem sc_zy : FnScope ["self", "sayings"] ["self", "sayings"] (defScope s_zy) := .q
def d_zy (g : Nat -> List PV -> Rx PV) : DS :=
 (sSeq (sIni 7 0 (dCall (g 2) (dCons (dVar 1) dNil)))
 (sSeq (sIni 7 1 (dCall (g 3) (dCons (dVar 1) dNil)))
 (sIni 7 2 (dCall (g 5) (dCons (dFldI a_unbarred 0) (dCons (dFldI a_let_by 0) dNil))))))
theorem sc_zz : NScope ["_law_state", "_law_goods", "_law_many"] ["_law_state"] ["_law_goods", "_law_many"] n_zz.scope := ⟨rfl, rfl, rfl, by decide +kernel, rfl, by decide +kernel, by decide +kernel, by decide +kernel, by decide +kernel⟩
def d_zz (g : Nat -> List PV -> Rx PV) : DS :=
 (sRet (d2 fIx (dSee 1) (d2 fMod (dSee 0) (dSee 2))))
theorem sc_zA : NScope ["_law_deed", "_law_state", "_law_ways", "_law_many", "_law_cell", "_law_says", "_law_some", "_law_later", "_law_shift"] ["_law_deed", "_law_state"] ["_law_ways", "_law_many", "_law_cell", "_law_says"] n_zA.scope := ⟨rfl, rfl, rfl, by decide +kernel, rfl, by decide +kernel, by decide +kernel, by decide +kernel, by decide +kernel⟩
def d_zA (g : Nat -> List PV -> Rx PV) : DS :=
 (sSeq (sSet 6 (dDGetT (dSee 2) (dCons (dVar 0) (dCons (dCallV tC g (dVar 5) (dCons (dVar 1) dNil)) dNil))))
 (sSeq (sSet 7 (d2 fDiv (dSee 1) (dSee 3)))
 (sSeq (sSet 8 (d2 fMod (d2 fDiv (dSee 4) (d2 fAdd (d2 fFind (dC (.str "PQRST")) (dVar 0)) (dC (.int 1)))) (dC (.int 11))))
 (sRet (d2 fAdd (d2 fMul (d2 fAdd (d2 fDiv (dSee 7) (dC (.int 16))) (dSee 8)) (dSee 3)) (d2 fIx (dSee 6) (d2 fMod (d2 fMod (dSee 7) (dC (.int 16))) (dCall bLen (dCons (dSee 6) dNil)))))))))
def gF : Nat -> Nat -> List PV -> Rx PV
 | 0, _, _ => .bad
 | n + 1, 0, ws => runD [false, false] 2 (d_z0 (gF n)) ws
 | n + 1, 1, ws => runD [false] 1 (d_z1 (gF n)) ws
 | n + 1, 2, ws => runD [false] 3 (d_z2 (gF n)) ws
 | n + 1, 3, ws => runD [false] 3 (d_z3 (gF n)) ws
 | n + 1, 4, ws => runD [false, false, false] 5 (d_z4 (gF n)) ws
 | n + 1, 5, ws => runD [false, false] 4 (d_z5 (gF n)) ws
 | n + 1, 6, ws => runD [false, false, false] 4 (d_z6 (gF n)) ws
 | n + 1, 7, ws => runD [false, false] 6 (d_z7 (gF n)) ws
 | n + 1, 8, ws => runD [false, false] 2 (d_z8 (gF n)) ws
 | n + 1, 9, ws => runD [false, false] 3 (d_z9 (gF n)) ws
 | n + 1, 10, ws => runD [false] 7 (d_za (gF n)) ws
 | n + 1, 11, ws => runD [false] 6 (d_zb (gF n)) ws
 | n + 1, 12, ws => runD [false] 10 (d_zc (gF n)) ws
 | n + 1, 13, ws => runD [false, false, false] 11 (d_zd (gF n)) ws
 | n + 1, 14, ws => runD [false, false, false] 11 (d_ze (gF n)) ws
 | n + 1, 15, ws => runD [false, false, false] 7 (d_zf (gF n)) ws
 | n + 1, 16, ws => runD [false] 10 (d_zg (gF n)) ws
 | n + 1, 17, ws => runD [false] 3 (d_zh (gF n)) ws
 | n + 1, 18, ws => runD [false, false] 2 (d_zi (gF n)) ws
 | n + 1, 19, ws => runD [false, false] 2 (d_zj (gF n)) ws
 | n + 1, 20, ws => runD [false, false] 2 (d_zk (gF n)) ws
 | n + 1, 21, ws => runD [false, false] 2 (d_zl (gF n)) ws
 | n + 1, 22, ws => runD [false, false] 2 (d_zm (gF n)) ws
 | n + 1, 23, ws => runD [false, false] 2 (d_zn (gF n)) ws
 | n + 1, 24, ws => runD [false] 1 (d_zo (gF n)) ws
 | n + 1, 25, ws => runD [false, false, false] 3 (d_zp (gF n)) ws
 | n + 1, 26, ws => runD [false, false, false] 5 (d_zq (gF n)) ws
 | n + 1, 27, ws => runD [false, false] 2 (d_zr (gF n)) ws
 | n + 1, 28, ws => runD [false, false, false] 3 (d_zs (gF n)) ws
 | n + 1, 29, ws => runD [false, false] 2 (d_zt (gF n)) ws
 | n + 1, 30, ws => runD [false, false, false] 3 (d_zu (gF n)) ws
 | n + 1, 31, ws => runD [false, false, false] 4 (d_zv (gF n)) ws
 | n + 1, 32, ws => runD [false, false] 2 (d_zw (gF n)) ws
 | n + 1, 33, ws => runD [false, false, false] 3 (d_zx (gF n)) ws
 | n + 1, 34, ws => runI 7 3 [false] 2 (d_zy (gF n)) ws
 | n + 1, 35, ws => runD [false, false, false] 3 (d_zz (gF n)) ws
 | n + 1, 36, ws => runD [false, false, false, false, false, false] 9 (d_zA (gF n)) ws
 | _ + 1, _, _ => .bad
theorem g_z0 (n : Nat) (ws : List PV) : gF (n + 1) 0 ws = runD [false, false] 2 (d_z0 (gF n)) ws := rfl
theorem g_z1 (n : Nat) (ws : List PV) : gF (n + 1) 1 ws = runD [false] 1 (d_z1 (gF n)) ws := rfl
theorem g_z2 (n : Nat) (ws : List PV) : gF (n + 1) 2 ws = runD [false] 3 (d_z2 (gF n)) ws := rfl
theorem g_z3 (n : Nat) (ws : List PV) : gF (n + 1) 3 ws = runD [false] 3 (d_z3 (gF n)) ws := rfl
theorem g_z4 (n : Nat) (ws : List PV) : gF (n + 1) 4 ws = runD [false, false, false] 5 (d_z4 (gF n)) ws := rfl
theorem g_z5 (n : Nat) (ws : List PV) : gF (n + 1) 5 ws = runD [false, false] 4 (d_z5 (gF n)) ws := rfl
theorem g_z6 (n : Nat) (ws : List PV) : gF (n + 1) 6 ws = runD [false, false, false] 4 (d_z6 (gF n)) ws := rfl
theorem g_z7 (n : Nat) (ws : List PV) : gF (n + 1) 7 ws = runD [false, false] 6 (d_z7 (gF n)) ws := rfl
theorem g_z8 (n : Nat) (ws : List PV) : gF (n + 1) 8 ws = runD [false, false] 2 (d_z8 (gF n)) ws := rfl
theorem g_z9 (n : Nat) (ws : List PV) : gF (n + 1) 9 ws = runD [false, false] 3 (d_z9 (gF n)) ws := rfl
theorem g_za (n : Nat) (ws : List PV) : gF (n + 1) 10 ws = runD [false] 7 (d_za (gF n)) ws := rfl
theorem g_zb (n : Nat) (ws : List PV) : gF (n + 1) 11 ws = runD [false] 6 (d_zb (gF n)) ws := rfl
theorem g_zc (n : Nat) (ws : List PV) : gF (n + 1) 12 ws = runD [false] 10 (d_zc (gF n)) ws := rfl
theorem g_zd (n : Nat) (ws : List PV) : gF (n + 1) 13 ws = runD [false, false, false] 11 (d_zd (gF n)) ws := rfl
theorem g_ze (n : Nat) (ws : List PV) : gF (n + 1) 14 ws = runD [false, false, false] 11 (d_ze (gF n)) ws := rfl
theorem g_zf (n : Nat) (ws : List PV) : gF (n + 1) 15 ws = runD [false, false, false] 7 (d_zf (gF n)) ws := rfl
theorem g_zg (n : Nat) (ws : List PV) : gF (n + 1) 16 ws = runD [false] 10 (d_zg (gF n)) ws := rfl
theorem g_zy (n : Nat) (ws : List PV) : gF (n + 1) 34 ws = runI 7 3 [false] 2 (d_zy (gF n)) ws := rfl
theorem j_zI : ∀ (n : Nat) (ws : List PV) (w : PV), gF n 34 ws = .ok w -> ∃ fs, w = .obj 7 fs
 | 0, ws, w, h => by cases h
 | n + 1, ws, w, h => runI_obj h
theorem g_zz (n : Nat) (ws : List PV) : gF (n + 1) 35 ws = runD [false, false, false] 3 (d_zz (gF n)) ws := rfl
theorem g_zA (n : Nat) (ws : List PV) : gF (n + 1) 36 ws = runD [false, false, false, false, false, false] 9 (d_zA (gF n)) ws := rfl
structure AllF (P : Program) (w : World) (K : Fg) (mg : Str -> Option Value) (base : Bs) (cA : Nat -> Addr) (n : Nat) : Prop where
 h_z0 : FnAt P w K mg base CX0 (2 * n + 3) "is_in" (spG K (pg cA) [false, false] (gF n 0))
 h_z1 : FnAt P w K mg base CX0 (2 * n + 3) "settings_in" (spG K (pg cA) [false] (gF n 1))
 h_z2 : FnAt P w K mg base CX0 (2 * n + 3) "unbarred_by" (spG K (pg cA) [false] (gF n 2))
 h_z3 : FnAt P w K mg base CX0 (2 * n + 3) "let_by_all" (spG K (pg cA) [false] (gF n 3))
 h_z4 : FnAt P w K mg base CX0 (2 * n + 3) "later_by_all" (spG K (pg cA) [false, false, false] (gF n 4))
 h_z5 : FnAt P w K mg base CX0 (2 * n + 3) "lasting_within" (spG K (pg cA) [false, false] (gF n 5))
 h_z6 : FnAt P w K mg base CX0 (2 * n + 3) "is_kept" (spG K (pg cA) [false, false, false] (gF n 6))
 h_z7 : FnAt P w K mg base CX0 (2 * n + 3) "is_due" (spG K (pg cA) [false, false] (gF n 7))
 h__law_cell_at : FnAt P w K mg base CX0 (2 * n + 3) "_law_cell_at" (spG K (pg cA) [false, false] (gF n 8))
 h__law_mixed : FnAt P w K mg base CX0 (2 * n + 3) "_law_mixed" (spG K (pg cA) [false, false] (gF n 9))
 h__law_test : FnAt P w K mg base CX0 (2 * n + 3) "_law_test" (spG K (pg cA) [false] (gF n 10))
 h__law_saying : FnAt P w K mg base CX0 (2 * n + 3) "_law_saying" (spG K (pg cA) [false] (gF n 11))
 h__law_lets : FnAt P w K mg base CX0 (2 * n + 3) "_law_lets" (spG K (pg cA) [false] (gF n 12))
 h__law_good : FnAt P w K mg base CX0 (2 * n + 3) "_law_good" (spG K (pg cA) [false, false, false] (gF n 13))
 h__law_world : FnAt P w K mg base CX0 (2 * n + 3) "_law_world" (spG K (pg cA) [false, false, false] (gF n 14))
 h__law_due : FnAt P w K mg base CX0 (2 * n + 3) "_law_due" (spG K (pg cA) [false, false, false] (gF n 15))
 h_zg : FnAt P w K mg base CX0 (2 * n + 3) "law" (spG K (pg cA) [false] (gF n 16))
 cl : ClAll P w K mg base (pg cA) (2 * n + 3) tC (gF n)
 m_bars : MtOk P w K mg base (pg cA) (2 * n + 3) "bars" [false] q_bars (gF n)
 m_good : MtOk P w K mg base (pg cA) (2 * n + 3) "good" [] q_good (gF n)
 m_holds : MtOk P w K mg base (pg cA) (2 * n + 3) "holds" [false] q_holds (gF n)
 m_keeps_at : MtOk P w K mg base (pg cA) (2 * n + 3) "keeps_at" [false, false] q_keeps_at (gF n)
 m_later_mask : MtOk P w K mg base (pg cA) (2 * n + 3) "later_mask" [false, false] q_later_mask (gF n)
 m_led : MtOk P w K mg base (pg cA) (2 * n + 3) "led" [false, false] q_led (gF n)
 m_mask : MtOk P w K mg base (pg cA) (2 * n + 3) "mask" [] q_mask (gF n)
 m_setting : MtOk P w K mg base (pg cA) (2 * n + 3) "setting" [false] q_setting (gF n)
 m_ways : MtOk P w K mg base (pg cA) (2 * n + 3) "ways" [false, false] q_ways (gF n)
 n_zI : NewI P w K mg base (pg cA) (2 * n + 3) "Bonds" 7 [false] (gF n 34)
section
variable {P : Program} {w : World} {K : Fg} {mg : Str -> Option Value} {base : Bs} {cA : Nat -> Addr} {ts : List Addr} {n : Nat} (C : Ct P w K mg base cA ts) (I : AllF P w K mg base cA n)
variable {f : Addr} {cdv : Value} {A : Around} {outer : List Env} {s : Shared} {H : Hp} {E : XK}
include C I
theorem b_z0 (hr : Room (2 * n + 4) (A.deeper (PyProof.Rows.envOfC "is_in" (defScope s_z0) s.heap.objs.size f cdv))) :
  JSs (cxOf CX0 P w K mg base ["setting", "mask"] "is_in" (defScope s_z0) f cdv A outer s H E).nox (pg cA) (defBody s_z0) (d_z0 (gF n)) := by
 unfold d_z0
 exact (ss_one (s_ret (p_eq hr (b_of (p_and (b_of (p_shr (b_var 1) (b_var 0))) (b_of p_int))) (b_of p_int))))
theorem b_z1 (hr : Room (2 * n + 4) (A.deeper (PyProof.Rows.envOfC "settings_in" (defScope s_z1) s.heap.objs.size f cdv))) :
  JSs (cxOf CX0 P w K mg base ["mask"] "settings_in" (defScope s_z1) f cdv A outer s H E).nox (pg cA) (defBody s_z1) (d_z1 (gF n)) := by
 obtain ⟨_, g_SETTINGS⟩ := C.e_SETTINGS
 unfold d_z1
 exact (ss_one (s_ret (p_of_n (n_comp (own := ["setting"]) (caps := [("mask", 0)]) ⟨rfl, by decide +kernel, by decide +kernel, ⟨⟨rfl, rfl, Or.inl rfl⟩, True.intro⟩, rfl⟩ rfl (s_of_i (i_rng1 rfl C.z_range (a_cons (p_topI rfl g_SETTINGS) a_nil))) (fun _ _ _ _ => (g_name (i := 0) (show (["setting", "mask"] : List Str).Nodup by decide +kernel) rfl (Or.inl rfl))) (fun _ _ _ _ => (ts_one (t_val (p_fn I.h_z0 hr.s rfl (a_cons (p_var 0) (a_cons (p_var 1) a_nil)))))) (fun _ _ _ _ => (p_var 0)) gk_set))))
theorem b_z2 (hr : Room (2 * n + 4) (A.deeper (PyProof.Rows.envOfC "unbarred_by" (defScope s_z2) s.heap.objs.size f cdv))) :
  JSs (cxOf CX0 P w K mg base ["sayings", "mask", "setting"] "unbarred_by" (defScope s_z2) f cdv A outer s H E).nox (pg cA) (defBody s_z2) (d_z2 (gF n)) := by
 obtain ⟨_, g_EVERY⟩ := C.e_EVERY
 obtain ⟨_, g_SETTINGS⟩ := C.e_SETTINGS
 unfold d_z2
 exact (ss_cons (s_set (i := 1) sc_z2.nd rfl (Or.inl rfl) (p_topI rfl g_EVERY))
 (ss_cons (s_for PassesOwn.never rfl (i_rng1 rfl C.z_range (a_cons (p_topI rfl g_SETTINGS) a_nil)) (g_name (i := 2) sc_z2.nd rfl (Or.inr rfl))
 (ss_one (s_if (t_val (p_callB (call_anyB rfl) cb_any rfl C.z_any boot_any (a_consB (b_of (p_of_n (n_comp (own := ["saying"]) (caps := [("setting", 2)]) ⟨rfl, by decide +kernel, by decide +kernel, ⟨⟨rfl, rfl, Or.inl rfl⟩, True.intro⟩, rfl⟩ rfl (s_list (b_var 0)) (fun _ _ _ _ => (g_name (i := 0) (show (["saying", "setting"] : List Str).Nodup by decide +kernel) rfl (Or.inl rfl))) (fun _ _ _ _ => ts_nil) (fun _ _ _ _ => (p_meth I.m_bars hr.s (p_var 0) (a_cons (p_var 1) a_nil))) gk_set))) a_nil)))
 (ss_one (s_aug (i := 1) sc_z2.nd rfl (Or.inl rfl) (p_shl (b_of p_int) (b_var 2)) ip_sub))
 ss_nil)))
 (ss_one (s_ret (p_var 1)))))
theorem b_z3 (hr : Room (2 * n + 4) (A.deeper (PyProof.Rows.envOfC "let_by_all" (defScope s_z3) s.heap.objs.size f cdv))) :
  JSs (cxOf CX0 P w K mg base ["sayings", "masks", "deed"] "let_by_all" (defScope s_z3) f cdv A outer s H E).nox (pg cA) (defBody s_z3) (d_z3 (gF n)) := by
 obtain ⟨_, g_DEEDS, t_DEEDS⟩ := C.e_DEEDS
 obtain ⟨_, g_SETTINGS⟩ := C.e_SETTINGS
 unfold d_z3
 exact (ss_cons (s_ownD (i := 1) sc_z3.nd rfl (Or.inl rfl))
 (ss_cons (s_for PassesOwn.never rfl (i_tup (p_topT (ws := c_DEEDS) t_DEEDS rfl g_DEEDS (fun _ _ => ⟨_, _, rfl, rfl, ⟨_, _, rfl, rfl, ⟨_, _, rfl, rfl, ⟨_, _, rfl, rfl, ⟨_, _, rfl, rfl, rfl⟩⟩⟩⟩⟩))) (g_name (i := 2) sc_z3.nd rfl (Or.inr rfl))
 (ss_one (s_dput 1 (hu_of hr) (p_var 2) (p_of_n (n_comp (own := ["setting"]) (caps := [("sayings", 0), ("deed", 2)]) ⟨rfl, by decide +kernel, by decide +kernel, ⟨⟨rfl, rfl, Or.inl rfl⟩, ⟨⟨rfl, rfl, Or.inl rfl⟩, True.intro⟩⟩, rfl⟩ rfl (s_of_i (i_rng1 rfl C.z_range (a_cons (p_topI rfl g_SETTINGS) a_nil))) (fun _ _ _ _ => (g_name (i := 0) (show (["setting", "sayings", "deed"] : List Str).Nodup by decide +kernel) rfl (Or.inl rfl))) (fun _ _ _ _ => ts_nil) (fun _ _ _ _ => (p_fn I.h_z4 hr.s rfl (a_cons (p_var 1) (a_cons (p_var 2) (a_cons (p_var 0) a_nil))))) gk_set)) rfl)))
 (ss_one (s_retM (m_frz 1)))))
theorem b_z4 (hr : Room (2 * n + 4) (A.deeper (PyProof.Rows.envOfC "later_by_all" (defScope s_z4) s.heap.objs.size f cdv))) :
  JSs (cxOf CX0 P w K mg base ["sayings", "deed", "setting", "mask", "saying"] "later_by_all" (defScope s_z4) f cdv A outer s H E).nox (pg cA) (defBody s_z4) (d_z4 (gF n)) := by
 obtain ⟨_, g_EVERY⟩ := C.e_EVERY
 unfold d_z4
 exact (ss_cons (s_set (i := 3) sc_z4.nd rfl (Or.inl rfl) (p_topI rfl g_EVERY))
 (ss_cons (s_for PassesOwn.never rfl (DN.i_list (p_var 0)) (g_name (i := 4) sc_z4.nd rfl (Or.inl rfl))
 (ss_one (s_aug (i := 3) sc_z4.nd rfl (Or.inl rfl) (p_meth I.m_later_mask hr.s (p_var 4) (a_cons (p_var 1) (a_cons (p_var 2) a_nil))) ip_and)))
 (ss_one (s_ret (p_var 3)))))
theorem b_z5 (hr : Room (2 * n + 4) (A.deeper (PyProof.Rows.envOfC "lasting_within" (defScope s_z5) s.heap.objs.size f cdv))) :
  JSs (cxOf CX0 P w K mg base ["mask", "let_by", "left", "setting"] "lasting_within" (defScope s_z5) f cdv A outer s H E).nox (pg cA) (defBody s_z5) (d_z5 (gF n)) := by
 obtain ⟨_, g_DEEDS, t_DEEDS⟩ := C.e_DEEDS
 unfold d_z5
 exact (ss_one (s_whileM PassesOwn.never (tm_of (t_val p_bl))
 (ss_cons (s_set (i := 2) sc_z5.nd rfl (Or.inl rfl) p_int)
 (ss_cons (s_for PassesOwn.never rfl (DN.i_list (p_fn I.h_z1 hr.s rfl (a_cons (p_var 0) a_nil))) (g_name (i := 3) sc_z5.nd rfl (Or.inr rfl))
 (ss_one (s_if (t_val (p_callB (call_allB rfl) cb_all rfl C.z_all boot_all (a_consB (b_of (p_of_n (n_comp (own := ["deed"]) (caps := [("mask", 0), ("setting", 3), ("let_by", 1)]) ⟨rfl, by decide +kernel, by decide +kernel, ⟨⟨rfl, rfl, Or.inl rfl⟩, ⟨⟨rfl, rfl, Or.inl rfl⟩, ⟨⟨rfl, rfl, Or.inl rfl⟩, True.intro⟩⟩⟩, rfl⟩ rfl (s_of_i (i_tup (p_topT (ws := c_DEEDS) t_DEEDS rfl g_DEEDS (fun _ _ => ⟨_, _, rfl, rfl, ⟨_, _, rfl, rfl, ⟨_, _, rfl, rfl, ⟨_, _, rfl, rfl, ⟨_, _, rfl, rfl, rfl⟩⟩⟩⟩⟩)))) (fun _ _ _ _ => (g_name (i := 0) (show (["deed", "mask", "setting", "let_by"] : List Str).Nodup by decide +kernel) rfl (Or.inl rfl))) (fun _ _ _ _ => ts_nil) (fun _ _ _ _ => (p_ne hr (b_of (p_and (b_of (p_at (b_of (p_dget (hu_of hr) (b_var 3) (b_var 0) (fun _ _ => rfl))) (b_var 2) (fun _ _ => rfl))) (b_var 1))) (b_of p_int))) gk_set))) a_nil)))
 (ss_one (s_aug (i := 2) sc_z5.nd rfl (Or.inl rfl) (p_shl (b_of p_int) (b_var 3)) ip_add))
 ss_nil)))
 (ss_cons (s_if (t_eq hr (b_var 2) (b_var 0))
 (ss_one (s_ret (p_var 0)))
 ss_nil)
 (ss_one (s_set (i := 0) sc_z5.nd rfl (Or.inr rfl) (p_var 2))))))))
theorem b_z6 (hr : Room (2 * n + 4) (A.deeper (PyProof.Rows.envOfC "is_kept" (defScope s_z6) s.heap.objs.size f cdv))) :
  JSs (cxOf CX0 P w K mg base ["world", "sayings", "states", "bonds"] "is_kept" (defScope s_z6) f cdv A outer s H E).nox (pg cA) (defBody s_z6) (d_z6 (gF n)) := by
 unfold d_z6
 exact (ss_cons (s_set (i := 3) sc_z6.nd rfl (Or.inr rfl) (p_newI I.n_zI hr rfl (a_cons (p_var 1) a_nil) (j_zI _)))
 (ss_one (s_ret (p_callB (call_allB rfl) cb_all rfl C.z_all boot_all (a_consB (b_of (p_of_n (n_comp (own := ["state"]) (caps := [("world", 0), ("bonds", 3)]) ⟨rfl, by decide +kernel, by decide +kernel, ⟨⟨rfl, rfl, Or.inl rfl⟩, ⟨⟨rfl, rfl, Or.inl rfl⟩, True.intro⟩⟩, rfl⟩ rfl (s_list (b_var 2)) (fun _ _ _ _ => (g_name (i := 0) (show (["state", "world", "bonds"] : List Str).Nodup by decide +kernel) rfl (Or.inl rfl))) (fun _ _ _ _ => ts_nil) (fun _ _ _ _ => (p_meth I.m_keeps_at hr.s (p_var 2) (a_cons (p_var 1) (a_cons (p_var 0) a_nil)))) gk_set))) a_nil)))))
theorem b_z7 (hr : Room (2 * n + 4) (A.deeper (PyProof.Rows.envOfC "is_due" (defScope s_z7) s.heap.objs.size f cdv))) :
  JSs (cxOf CX0 P w K mg base ["sayings", "saying", "bonds", "setting", "deed", "ways"] "is_due" (defScope s_z7) f cdv A outer s H E).nox (pg cA) (defBody s_z7) (d_z7 (gF n)) := by
 obtain ⟨_, g_DEEDS, t_DEEDS⟩ := C.e_DEEDS
 unfold d_z7
 exact (ss_cons (s_set (i := 2) sc_z7.nd rfl (Or.inl rfl) (p_newI I.n_zI hr rfl (a_cons (p_var 0) a_nil) (j_zI _)))
 (ss_cons (s_for PassesOwn.never rfl (DN.i_list (p_fn I.h_z1 hr.s rfl (a_cons (p_meth0 I.m_good hr.s (p_var 2)) a_nil))) (g_name (i := 3) sc_z7.nd rfl (Or.inl rfl))
 (ss_cons (s_if (t_val (p_meth I.m_bars hr.s (p_var 1) (a_cons (p_var 3) a_nil)))
 (ss_one (s_ret p_bl))
 ss_nil)
 (ss_one (s_for PassesOwn.never rfl (i_tup (p_topT (ws := c_DEEDS) t_DEEDS rfl g_DEEDS (fun _ _ => ⟨_, _, rfl, rfl, ⟨_, _, rfl, rfl, ⟨_, _, rfl, rfl, ⟨_, _, rfl, rfl, ⟨_, _, rfl, rfl, rfl⟩⟩⟩⟩⟩))) (g_name (i := 4) sc_z7.nd rfl (Or.inl rfl))
 (ss_cons (s_set (i := 5) sc_z7.nd rfl (Or.inl rfl) (p_meth I.m_ways hr.s (p_var 2) (a_cons (p_var 4) (a_cons (p_var 3) a_nil))))
 (ss_one (s_if (t_ne hr (b_of (p_and (b_var 5) (b_of (p_meth I.m_later_mask hr.s (p_var 1) (a_cons (p_var 4) (a_cons (p_var 3) a_nil)))))) (b_var 5))
 (ss_one (s_ret p_bl))
 ss_nil)))))))
 (ss_one (s_ret p_bl))))
theorem b_z8 (hr : Room (2 * n + 4) (A.deeper (PyProof.Rows.envOfC "_law_cell_at" (defScope s_z8) s.heap.objs.size f cdv))) :
  JSs (cxOf CX0 P w K mg base ["_law_script", "_law_k"] "_law_cell_at" (defScope s_z8) f cdv A outer s H E).nox (pg cA) (defBody s_z8) (d_z8 (gF n)) := by
 unfold d_z8
 exact (ss_cons (s_if (t_lt (b_var 1) (b_of (p_callB call_len cb_len rfl C.z_len PySem.boot_len (a_consB (b_var 0) a_nil))))
 (ss_one (s_ret (p_at (b_var 0) (b_var 1) (fun _ _ => rfl))))
 ss_nil)
 (ss_one (s_ret p_int)))
theorem b_z9 (hr : Room (2 * n + 4) (A.deeper (PyProof.Rows.envOfC "_law_mixed" (defScope s_z9) s.heap.objs.size f cdv))) :
  JSs (cxOf CX0 P w K mg base ["_law_cell", "_law_k", "_law_number"] "_law_mixed" (defScope s_z9) f cdv A outer s H E).nox (pg cA) (defBody s_z9) (d_z9 (gF n)) := by
 unfold d_z9
 exact (ss_cons (s_set (i := 2) sc_z9.nd rfl (Or.inl rfl) (p_mod (b_of (p_mul (b_of (p_add (b_of (p_add (b_of (p_mod (b_var 0) (b_of p_int))) (b_of (p_mul (b_of p_int) (b_var 1))))) (b_of p_int))) (b_of p_int))) (b_of p_int)))
 (ss_one (s_ret (p_mod (b_of (p_mul (b_var 2) (b_of (p_add (b_of (p_div (b_var 2) (b_of p_int))) (b_of p_int))))) (b_of p_int)))))
theorem b_za (hr : Room (2 * n + 4) (A.deeper (PyProof.Rows.envOfC "_law_test" (defScope s_za) s.heap.objs.size f cdv))) :
  JSs (cxOf CX0 P w K mg base ["_law_number", "_law_masks", "_law_one", "_law_two", "_law_first", "_law_second", "_law_way"] "_law_test" (defScope s_za) f cdv A outer s H E).nox (pg cA) (defBody s_za) (d_za (gF n)) := by
 unfold d_za
 exact (ss_cons (s_set (i := 1) sc_za.nd rfl (Or.inl rfl) (p_of_n (n_lst (a_cons p_int (a_cons p_int (a_cons p_int (a_cons p_int a_nil)))))))
 (ss_cons (s_set (i := 2) sc_za.nd rfl (Or.inl rfl) (p_new (k := 2 * n + 2) C.n_zE hr rfl (a_cons (p_at (b_of p_str) (b_of (p_mod (b_var 0) (b_of p_int))) (fun _ _ => rfl)) a_nil) rfl))
 (ss_cons (s_set (i := 3) sc_za.nd rfl (Or.inl rfl) (p_new (k := 2 * n + 2) C.n_zE hr rfl (a_cons (p_at (b_of p_str) (b_of (p_mod (b_of (p_div (b_var 0) (b_of p_int))) (b_of p_int))) (fun _ _ => rfl)) a_nil) rfl))
 (ss_cons (s_set (i := 4) sc_za.nd rfl (Or.inl rfl) (p_at (b_var 1) (b_of (p_mod (b_var 0) (b_of p_int))) (fun _ _ => rfl)))
 (ss_cons (s_set (i := 5) sc_za.nd rfl (Or.inl rfl) (p_at (b_var 1) (b_of (p_mod (b_of (p_div (b_var 0) (b_of p_int))) (b_of p_int))) (fun _ _ => rfl)))
 (ss_cons (s_set (i := 6) sc_za.nd rfl (Or.inl rfl) (p_mod (b_of (p_div (b_var 0) (b_of p_int))) (b_of p_int)))
 (ss_cons (s_if (t_eq hr (b_var 6) (b_of p_int))
 (ss_one (s_ret (p_tup (a_cons (p_new0 C.k_zC rfl rfl C.c_zC) (a_cons p_int a_nil)))))
 ss_nil)
 (ss_cons (s_if (t_eq hr (b_var 6) (b_of p_int))
 (ss_one (s_ret (p_tup (a_cons (p_new (k := 2 * n + 2) C.n_zF hr rfl (a_cons (p_var 2) a_nil) rfl) (a_cons (p_xor (b_of p_int) (b_var 4)) a_nil)))))
 ss_nil)
 (ss_cons (s_if (t_eq hr (b_var 6) (b_of p_int))
 (ss_one (s_ret (p_tup (a_cons (p_new (k := 2 * n + 2) C.n_zG hr rfl (a_cons (p_var 2) (a_cons (p_var 3) a_nil)) rfl) (a_cons (p_and (b_var 4) (b_var 5)) a_nil)))))
 ss_nil)
 (ss_cons (s_if (t_eq hr (b_var 6) (b_of p_int))
 (ss_one (s_ret (p_tup (a_cons (p_new (k := 2 * n + 2) C.n_zH hr rfl (a_cons (p_var 2) (a_cons (p_new (k := 2 * n + 2) C.n_zF hr rfl (a_cons (p_var 3) a_nil) rfl) a_nil)) rfl) (a_cons (p_or (b_var 4) (b_of (p_xor (b_of p_int) (b_var 5)))) a_nil)))))
 ss_nil)
 (ss_cons (s_if (t_eq hr (b_var 6) (b_of p_int))
 (ss_one (s_ret (p_tup (a_cons (p_new (k := 2 * n + 2) C.n_zF hr rfl (a_cons (p_new (k := 2 * n + 2) C.n_zH hr rfl (a_cons (p_var 2) (a_cons (p_var 3) a_nil)) rfl) a_nil) rfl) (a_cons (p_xor (b_of p_int) (b_of (p_or (b_var 4) (b_var 5)))) a_nil)))))
 ss_nil)
 (ss_cons (s_if (t_w (w_and (t_eq hr (b_var 6) (b_of p_int)) (w_and1 (t_eq hr (b_of (p_mod (b_of (p_div (b_var 0) (b_of p_int))) (b_of p_int))) (b_of p_int)))))
 (ss_one (s_ret (p_tup (a_cons (p_new0 C.k_zD rfl rfl C.c_zD) (a_cons p_int a_nil)))))
 ss_nil)
 (ss_one (s_ret (p_tup (a_cons (p_var 2) (a_cons (p_var 4) a_nil)))))))))))))))))
theorem b_zb (hr : Room (2 * n + 4) (A.deeper (PyProof.Rows.envOfC "_law_saying" (defScope s_zb) s.heap.objs.size f cdv))) :
  JSs (cxOf CX0 P w K mg base ["_law_cell", "_law_deed", "_law_one", "_law_first", "_law_two", "_law_second"] "_law_saying" (defScope s_zb) f cdv A outer s H E).nox (pg cA) (defBody s_zb) (d_zb (gF n)) := by
 unfold d_zb
 exact (ss_cons (s_asg (p_fn I.h__law_test hr.s rfl (a_cons (p_fn I.h__law_mixed hr.s rfl (a_cons (p_var 0) (a_cons p_int a_nil))) a_nil)) (g_tup rfl (gs_cons (g_name (i := 2) sc_zb.nd rfl (Or.inl rfl)) (gs_cons (g_name (i := 3) sc_zb.nd rfl (Or.inl rfl)) gs_nil))))
 (ss_cons (s_asg (p_fn I.h__law_test hr.s rfl (a_cons (p_fn I.h__law_mixed hr.s rfl (a_cons (p_var 0) (a_cons p_int a_nil))) a_nil)) (g_tup rfl (gs_cons (g_name (i := 4) sc_zb.nd rfl (Or.inl rfl)) (gs_cons (g_name (i := 5) sc_zb.nd rfl (Or.inl rfl)) gs_nil))))
 (ss_cons (s_set (i := 1) sc_zb.nd rfl (Or.inl rfl) (p_at (b_of p_str) (b_of (p_mod (b_of (p_div (b_var 0) (b_of p_int))) (b_of p_int))) (fun _ _ => rfl)))
 (ss_cons (s_if (t_w (w_and (t_eq hr (b_of (p_mod (b_var 0) (b_of p_int))) (b_of p_int)) (w_and1 (t_ne hr (b_var 3) (b_of p_int)))))
 (ss_one (s_ret (p_tup (a_cons (p_new (k := 2 * n + 2) C.n_zK hr rfl (a_cons (p_var 2) a_nil) rfl) (a_cons p_int (a_cons (p_var 3) (a_cons (p_var 1) (a_cons p_int a_nil))))))))
 ss_nil)
 (ss_cons (s_if (t_eq hr (b_of (p_mod (b_var 0) (b_of p_int))) (b_of p_int))
 (ss_one (s_ret (p_tup (a_cons (p_new (k := 2 * n + 2) C.n_zM hr rfl (a_cons (p_var 2) (a_cons (p_var 1) a_nil)) rfl) (a_cons p_int (a_cons (p_var 3) (a_cons (p_var 1) (a_cons p_int a_nil))))))))
 ss_nil)
 (ss_one (s_ret (p_tup (a_cons (p_new (k := 2 * n + 2) C.n_zL hr rfl (a_cons (p_var 2) (a_cons (p_var 1) (a_cons (p_var 4) a_nil))) rfl) (a_cons p_int (a_cons (p_var 3) (a_cons (p_var 1) (a_cons (p_var 5) a_nil)))))))))))))
theorem b_zc (hr : Room (2 * n + 4) (A.deeper (PyProof.Rows.envOfC "_law_lets" (defScope s_zc) s.heap.objs.size f cdv))) :
  JSs (cxOf CX0 P w K mg base ["_law_told", "_law_lets_here", "_law_deed", "_law_saying_here", "_law_sort", "_law_first", "_law_second", "_law_row", "_law_setting", "_law_here"] "_law_lets" (defScope s_zc) f cdv A outer s H E).nox (pg cA) (defBody s_zc) (d_zc (gF n)) := by
 unfold d_zc
 exact (ss_cons (s_ownD (i := 1) sc_zc.nd rfl (Or.inl rfl))
 (ss_cons (s_for PassesOwn.never rfl (i_str p_str) (g_name (i := 2) sc_zc.nd rfl (Or.inl rfl))
 (ss_one (s_dputN 1 (hu_of hr) (p_var 2) (n_rep (n_lst (a_cons p_int a_nil)) p_int) rfl)))
 (ss_cons (s_for PassesOwn.never rfl (DN.i_list (p_var 0)) (g_tup rfl (gs_cons (g_name (i := 3) sc_zc.nd rfl (Or.inl rfl)) (gs_cons (g_name (i := 4) sc_zc.nd rfl (Or.inl rfl)) (gs_cons (g_name (i := 5) sc_zc.nd rfl (Or.inl rfl)) (gs_cons (g_name (i := 2) sc_zc.nd rfl (Or.inl rfl)) (gs_cons (g_name (i := 6) sc_zc.nd rfl (Or.inl rfl)) gs_nil))))))
 (ss_cons (s_als 7 1 (hu_of hr) sc_zc.nd rfl (Or.inl rfl) (p_var 2) (fun _ _ => rfl))
 (ss_one (s_for PassesOwn.never rfl (i_rng1 rfl C.z_range (a_cons p_int a_nil)) (g_name (i := 8) sc_zc.nd rfl (Or.inl rfl))
 (ss_cons (s_set (i := 9) sc_zc.nd rfl (Or.inl rfl) (p_and (b_of (p_shr (b_var 5) (b_var 8))) (b_of p_int)))
 (ss_cons (s_if (t_eq hr (b_var 4) (b_of p_int))
 (ss_one (s_setA 7 (p_var 8) (p_and (b_of (p_at (b_als 7) (b_var 8) (fun _ _ => rfl))) (b_of (p_at (b_of (p_of_n (n_lst (a_cons (p_xor (b_of p_int) (b_var 5)) (a_cons (p_var 5) a_nil))))) (b_var 9) (fun _ _ => rfl))))))
 ss_nil)
 (ss_one (s_if (t_w (w_and (t_eq hr (b_var 4) (b_of p_int)) (w_and1 (t_eq hr (b_var 9) (b_of p_int)))))
 (ss_one (s_setA 7 (p_var 8) (p_and (b_of (p_at (b_als 7) (b_var 8) (fun _ _ => rfl))) (b_var 6))))
 ss_nil))))))))
 (ss_frzD 1 (ss_one (s_ret (p_var 1)))))))
theorem b_zd (hr : Room (2 * n + 4) (A.deeper (PyProof.Rows.envOfC "_law_good" (defScope s_zd) s.heap.objs.size f cdv))) :
  JSs (cxOf CX0 P w K mg base ["_law_told", "_law_lets_here", "_law_mask", "_law_again", "_law_saying_here", "_law_sort", "_law_first", "_law_deed", "_law_second", "_law_last", "_law_setting"] "_law_good" (defScope s_zd) f cdv A outer s H E).nox (pg cA) (defBody s_zd) (d_zd (gF n)) := by
 unfold d_zd
 exact (ss_cons (s_for PassesOwn.never rfl (DN.i_list (p_var 0)) (g_tup rfl (gs_cons (g_name (i := 4) sc_zd.nd rfl (Or.inl rfl)) (gs_cons (g_name (i := 5) sc_zd.nd rfl (Or.inl rfl)) (gs_cons (g_name (i := 6) sc_zd.nd rfl (Or.inl rfl)) (gs_cons (g_name (i := 7) sc_zd.nd rfl (Or.inl rfl)) (gs_cons (g_name (i := 8) sc_zd.nd rfl (Or.inl rfl)) gs_nil))))))
 (ss_one (s_if (t_eq hr (b_var 5) (b_of p_int))
 (ss_one (s_set (i := 2) sc_zd.nd rfl (Or.inr rfl) (p_and (b_var 2) (b_of (p_xor (b_of p_int) (b_var 6))))))
 ss_nil)))
 (ss_cons (s_for PassesOwn.never rfl (i_rng1 rfl C.z_range (a_cons p_int a_nil)) (g_name (i := 3) sc_zd.nd rfl (Or.inl rfl))
 (ss_cons (s_set (i := 9) sc_zd.nd rfl (Or.inl rfl) (p_var 2))
 (ss_cons (s_for PassesOwn.never rfl (i_rng1 rfl C.z_range (a_cons p_int a_nil)) (g_name (i := 10) sc_zd.nd rfl (Or.inr rfl))
 (ss_one (s_if (t_eq hr (b_of (p_callB (call_minL rfl) cb_minL rfl C.z_min boot_min (a_consB (b_of (p_of_n (n_comp (own := ["_law_deed"]) (caps := [("_law_mask", 2), ("_law_setting", 10), ("_law_lets_here", 1)]) ⟨rfl, by decide +kernel, by decide +kernel, ⟨⟨rfl, rfl, Or.inl rfl⟩, ⟨⟨rfl, rfl, Or.inl rfl⟩, ⟨⟨rfl, rfl, Or.inl rfl⟩, True.intro⟩⟩⟩, rfl⟩ rfl (s_of_i (i_str p_str)) (fun _ _ _ _ => (g_name (i := 0) (show (["_law_deed", "_law_mask", "_law_setting", "_law_lets_here"] : List Str).Nodup by decide +kernel) rfl (Or.inl rfl))) (fun _ _ _ _ => ts_nil) (fun _ _ _ _ => (p_and (b_of (p_at (b_of (p_dget (hu_of hr) (b_var 3) (b_var 0) (fun _ _ => rfl))) (b_var 2) (fun _ _ => rfl))) (b_var 1))) gk_set))) a_nil))) (b_of p_int))
 (ss_one (s_set (i := 2) sc_zd.nd rfl (Or.inr rfl) (p_and (b_var 2) (b_of (p_xor (b_of p_int) (b_of (p_shl (b_of p_int) (b_var 10))))))))
 ss_nil)))
 (ss_one (s_if (t_eq hr (b_var 2) (b_var 9))
 (ss_one (s_ret (p_var 2)))
 ss_nil)))))
 (ss_one (s_ret (p_var 2)))))
theorem b_ze {f c Pt : Addr} {A : Around} {outer : List Env} {s : Shared} {H : Hp} {E : XK} (hr : Room (2 * n + 4) (A.deeper (PyProof.Rows.envOfC "_law_world" (defScope s_ze) s.heap.objs.size f (.ref c)))) (mk : MkX (cxOf CX0 P w K mg base ["_law_lets_here", "_law_mask", "_law_cell", "_law_says", "_law_leads", "_law_goods", "_law_many", "_law_ways", "_law_deed", "_law_setting", "_law_some"] "_law_world" (defScope s_ze) f (.ref c) A outer s H E).nox c Pt) :
  JSs (cxOf CX0 P w K mg base ["_law_lets_here", "_law_mask", "_law_cell", "_law_says", "_law_leads", "_law_goods", "_law_many", "_law_ways", "_law_deed", "_law_setting", "_law_some"] "_law_world" (defScope s_ze) f (.ref c) A outer s H E).nox (pg cA) (defBody s_ze) (d_ze (gF n)) := by
 unfold d_ze
 exact (ss_cons (s_set (i := 5) sc_ze.nd rfl (Or.inr rfl) (p_of_n (n_comp (own := ["_law_setting"]) (caps := [("_law_mask", 1)]) ⟨rfl, by decide +kernel, by decide +kernel, ⟨⟨rfl, rfl, Or.inl rfl⟩, True.intro⟩, rfl⟩ rfl (s_of_i (i_rng1 rfl C.z_range (a_cons p_int a_nil))) (fun _ _ _ _ => (g_name (i := 0) (show (["_law_setting", "_law_mask"] : List Str).Nodup by decide +kernel) rfl (Or.inl rfl))) (fun _ _ _ _ => (ts_one (t_eq hr (b_of (p_and (b_of (p_shr (b_var 1) (b_var 0))) (b_of p_int))) (b_of p_int)))) (fun _ _ _ _ => (p_var 0)) gk_set)))
 (ss_cons (s_set (i := 6) sc_ze.nd rfl (Or.inr rfl) (p_callB call_len cb_len rfl C.z_len PySem.boot_len (a_consB (b_var 5) a_nil)))
 (ss_cons (s_ownDT (i := 7) sc_ze.nd rfl (Or.inr rfl))
 (ss_cons (s_for PassesOwn.never rfl (i_str p_str) (g_name (i := 8) sc_ze.nd rfl (Or.inr rfl))
 (ss_one (s_for PassesOwn.never rfl (DN.i_list (p_var 5)) (g_name (i := 9) sc_ze.nd rfl (Or.inr rfl))
 (ss_cons (s_setC (i := 10) sc_ze.nd rfl (Or.inl rfl) (own := ["_law_k"]) (caps := [("_law_setting", 9), ("_law_goods", 5), ("_law_lets_here", 0), ("_law_deed", 8)]) ⟨rfl, by decide +kernel, by decide +kernel, ⟨⟨rfl, rfl, Or.inl rfl⟩, ⟨⟨rfl, rfl, Or.inl rfl⟩, ⟨⟨rfl, rfl, Or.inl rfl⟩, ⟨⟨rfl, rfl, Or.inl rfl⟩, True.intro⟩⟩⟩⟩, rfl⟩ rfl (s_of_i (i_rng1 rfl C.z_range (a_cons (p_var 6) a_nil))) (fun _ _ _ _ => (g_name (i := 0) (show (["_law_k", "_law_setting", "_law_goods", "_law_lets_here", "_law_deed"] : List Str).Nodup by decide +kernel) rfl (Or.inl rfl))) (fun _ _ _ _ => (ts_one (t_eq hr (b_of (p_and (b_of (p_shr (b_of (p_at (b_of (p_dget (hu_of hr) (b_var 3) (b_var 4) (fun _ _ => rfl))) (b_var 1) (fun _ _ => rfl))) (b_of (p_at (b_var 2) (b_var 0) (fun _ _ => rfl))))) (b_of p_int))) (b_of p_int)))) (fun _ _ _ _ => (p_var 0)) gk_set)
 (ss_one (s_dputT 7 (hu_of hr) (a_cons (p_var 8) (a_cons (p_var 9) a_nil)) (p_var 10) rfl))))))
 (ss_seal ["_law_goods", "_law_many"]
 (ss_cons (s_def (i := 3) 35 rfl ⟨mk.code, mk.hd, mk.tab⟩ (takes_mk (js := [5, 6]) rfl rfl rfl) sc_ze.nd rfl (Or.inr rfl))
 (ss_frz 7 (ss_seal ["_law_cell", "_law_says", "_law_ways"]
 (ss_cons (s_def (i := 4) 36 rfl ⟨mk.code, mk.hd, mk.tab⟩ (takes_mk (js := [7, 6, 2, 3]) rfl rfl rfl) sc_ze.nd rfl (Or.inl rfl))
 (ss_one (s_ret (p_new (k := 2 * n + 2) C.n_zN hr rfl (a_cons (p_var 3) (a_cons (p_var 4) a_nil)) rfl))))))))))))
theorem b_zf (hr : Room (2 * n + 4) (A.deeper (PyProof.Rows.envOfC "_law_due" (defScope s_zf) s.heap.objs.size f cdv))) :
  JSs (cxOf CX0 P w K mg base ["_law_lets_here", "_law_good_here", "_law_asked", "_law_more", "_law_setting", "_law_deed", "_law_ways"] "_law_due" (defScope s_zf) f cdv A outer s H E).nox (pg cA) (defBody s_zf) (d_zf (gF n)) := by
 unfold d_zf
 exact (ss_cons (s_set (i := 3) sc_zf.nd rfl (Or.inl rfl) (p_fn I.h__law_lets hr.s rfl (a_cons (p_of_n (n_lst (a_cons (p_var 2) a_nil))) a_nil)))
 (ss_cons (s_for PassesOwn.never rfl (i_rng1 rfl C.z_range (a_cons p_int a_nil)) (g_name (i := 4) sc_zf.nd rfl (Or.inl rfl))
 (ss_one (s_if (t_eq hr (b_of (p_and (b_of (p_shr (b_var 1) (b_var 4))) (b_of p_int))) (b_of p_int))
 (ss_cons (s_if (t_w (w_and (t_eq hr (b_of (p_at (b_var 2) (b_of p_int) (fun _ _ => rfl))) (b_of p_int)) (w_and1 (t_eq hr (b_of (p_and (b_of (p_shr (b_of (p_at (b_var 2) (b_of p_int) (fun _ _ => rfl))) (b_var 4))) (b_of p_int))) (b_of p_int)))))
 (ss_one (s_ret p_bl))
 ss_nil)
 (ss_one (s_for PassesOwn.never rfl (i_str p_str) (g_name (i := 5) sc_zf.nd rfl (Or.inl rfl))
 (ss_cons (s_set (i := 6) sc_zf.nd rfl (Or.inl rfl) (p_and (b_of (p_at (b_of (p_dget (hu_of hr) (b_var 0) (b_var 5) (fun _ _ => rfl))) (b_var 4) (fun _ _ => rfl))) (b_var 1)))
 (ss_one (s_if (t_ne hr (b_of (p_and (b_var 6) (b_of (p_xor (b_of p_int) (b_of (p_at (b_of (p_dget (hu_of hr) (b_var 3) (b_var 5) (fun _ _ => rfl))) (b_var 4) (fun _ _ => rfl))))))) (b_of p_int))
 (ss_one (s_ret p_bl))
 ss_nil))))))
 ss_nil)))
 (ss_one (s_ret p_bl))))
theorem b_zg (hr : Room (2 * n + 4) (A.deeper (PyProof.Rows.envOfC "law" (defScope s_zg) s.heap.objs.size f cdv))) :
  JSs (cxOf CX0 P w K mg base ["_law_script", "_law_told", "_law_asked", "_law_lets_here", "_law_good_here", "_law_sayings", "_law_found", "_law_saying_here", "_law_world_here", "_law_states"] "law" (defScope s_zg) f cdv A outer s H E).nox (pg cA) (defBody s_zg) (d_zg (gF n)) := by
 unfold d_zg
 exact (ss_cons (s_setC (i := 1) sc_zg.nd rfl (Or.inl rfl) (own := ["_law_cell"]) (caps := []) ⟨rfl, by decide +kernel, by decide +kernel, True.intro, rfl⟩ rfl (s_list (b_of (p_of_n (n_cut (b_var 0) (o_some p_int) (o_some (p_add (b_of p_int) (b_of (p_mod (b_of (p_fn I.h__law_cell_at hr.s rfl (a_cons (p_var 0) (a_cons p_int a_nil)))) (b_of p_int))))))))) (fun _ _ _ _ => (g_name (i := 0) (show (["_law_cell"] : List Str).Nodup by decide +kernel) rfl (Or.inl rfl))) (fun _ _ _ _ => ts_nil) (fun _ _ _ _ => (p_fn I.h__law_saying hr.s rfl (a_cons (p_var 0) a_nil))) gk_set)
 (ss_cons (s_set (i := 2) sc_zg.nd rfl (Or.inl rfl) (p_fn I.h__law_saying hr.s rfl (a_cons (p_fn I.h__law_cell_at hr.s rfl (a_cons (p_var 0) (a_cons p_int a_nil))) a_nil)))
 (ss_cons (s_set (i := 3) sc_zg.nd rfl (Or.inl rfl) (p_fn I.h__law_lets hr.s rfl (a_cons (p_var 1) a_nil)))
 (ss_cons (s_set (i := 4) sc_zg.nd rfl (Or.inl rfl) (p_fn I.h__law_good hr.s rfl (a_cons (p_var 1) (a_cons (p_var 3) (a_cons p_int a_nil)))))
 (ss_cons (s_setC (i := 5) sc_zg.nd rfl (Or.inl rfl) (own := ["_law_one"]) (caps := []) ⟨rfl, by decide +kernel, by decide +kernel, True.intro, rfl⟩ rfl (s_list (b_var 1)) (fun _ _ _ _ => (g_name (i := 0) (show (["_law_one"] : List Str).Nodup by decide +kernel) rfl (Or.inl rfl))) (fun _ _ _ _ => ts_nil) (fun _ _ _ _ => (p_at (b_var 0) (b_of p_int) (fun _ _ => rfl))) gk_set)
 (ss_cons (s_set (i := 6) sc_zg.nd rfl (Or.inl rfl) (p_fn I.h_z7 hr.s rfl (a_cons (p_of_n (n_list (x := "list") rfl C.z_list (a_consB (b_var 5) a_nil))) (a_cons (p_at (b_var 2) (b_of p_int) (fun _ _ => rfl)) a_nil))))
 (ss_cons (s_if (t_w (w_or (t_not (t_val (p_isi rfl C.z_isinstance C.i_bool ty_only (b_var 6) (pe_type rfl C.z_bool boot_bool)))) (w_or1 (t_ne hr (b_var 6) (b_of (p_fn I.h__law_due hr.s rfl (a_cons (p_var 3) (a_cons (p_var 4) (a_cons (p_var 2) a_nil)))))))))
 (ss_one (s_ret p_bl))
 ss_nil)
 (ss_cons (s_for PassesOwn.never rfl (DN.i_list (p_var 5)) (g_name (i := 7) sc_zg.nd rfl (Or.inl rfl))
 (ss_one (s_if (t_isNB (b_of (p_fn I.h_z7 hr.s rfl (a_cons (p_var 5) (a_cons (p_var 7) a_nil)))) (b_of p_bl))
 (ss_one (s_ret p_bl))
 ss_nil)))
 (ss_cons (s_if (t_eq hr (b_var 4) (b_of p_int))
 (ss_one (s_ret (p_var 6)))
 ss_nil)
 (ss_cons (s_set (i := 8) sc_zg.nd rfl (Or.inl rfl) (p_fn I.h__law_world hr.s rfl (a_cons (p_var 3) (a_cons (p_var 4) (a_cons (p_fn I.h__law_cell_at hr.s rfl (a_cons (p_var 0) (a_cons p_int a_nil))) a_nil)))))
 (ss_cons (s_setC (i := 9) sc_zg.nd rfl (Or.inl rfl) (own := ["_law_cell"]) (caps := []) ⟨rfl, by decide +kernel, by decide +kernel, True.intro, rfl⟩ rfl (s_list (b_of (p_of_n (n_cut (b_var 0) (o_some p_int) (o_some p_int))))) (fun _ _ _ _ => (g_name (i := 0) (show (["_law_cell"] : List Str).Nodup by decide +kernel) rfl (Or.inl rfl))) (fun _ _ _ _ => ts_nil) (fun _ _ _ _ => (p_sub (b_of (p_mod (b_var 0) (b_of (p_mul (b_of p_int) (b_of (p_pow (b_of p_int) (b_of p_int))))))) (b_of (p_pow (b_of p_int) (b_of p_int))))) gk_set)
 (ss_cons (s_if (t_not (t_val (p_fn I.h_z6 hr.s rfl (a_cons (p_var 8) (a_cons (p_var 5) (a_cons (p_var 9) a_nil))))))
 (ss_one (s_ret p_bl))
 ss_nil)
 (ss_one (s_ret (p_orV (p_notV (p_var 6)) (p_one (p_fn I.h_z6 hr.s rfl (a_cons (p_var 8) (a_cons (p_of_n (n_lst (a_cons (p_at (b_var 2) (b_of p_int) (fun _ _ => rfl)) a_nil))) (a_cons (p_var 9) a_nil))))))))))))))))))))
theorem b_zh (hr : Room (2 * n + 4) (A.deeper (PyProof.Rows.envOfC "Test.mask" (defScope s_zh) s.heap.objs.size f cdv))) :
  JSs (cxOf CX0 P w K mg base ["self", "total", "setting"] "Test.mask" (defScope s_zh) f cdv A outer s H E).nox (pg cA) (defBody s_zh) (d_zh (gF n)) := by
 obtain ⟨_, g_SETTINGS⟩ := C.e_SETTINGS
 unfold d_zh
 exact (ss_cons (s_set (i := 1) sc_zh.nd rfl (Or.inl rfl) p_int)
 (ss_cons (s_for PassesOwn.never rfl (i_rng1 rfl C.z_range (a_cons (p_topI rfl g_SETTINGS) a_nil)) (g_name (i := 2) sc_zh.nd rfl (Or.inl rfl))
 (ss_one (s_if (t_val (p_meth I.m_holds hr.s (p_var 0) (a_cons (p_var 2) a_nil)))
 (ss_one (s_aug (i := 1) sc_zh.nd rfl (Or.inl rfl) (p_shl (b_of p_int) (b_var 2)) ip_add))
 ss_nil)))
 (ss_one (s_ret (p_var 1)))))
theorem b_zi (hr : Room (2 * n + 4) (A.deeper (PyProof.Rows.envOfC "Yes.holds" (defScope s_zi) s.heap.objs.size f cdv))) :
  JSs (cxOf CX0 P w K mg base ["self", "setting"] "Yes.holds" (defScope s_zi) f cdv A outer s H E).nox (pg cA) (defBody s_zi) (d_zi (gF n)) := by
 unfold d_zi
 exact (ss_one (s_ret p_bl))
theorem b_zj (hr : Room (2 * n + 4) (A.deeper (PyProof.Rows.envOfC "No.holds" (defScope s_zj) s.heap.objs.size f cdv))) :
  JSs (cxOf CX0 P w K mg base ["self", "setting"] "No.holds" (defScope s_zj) f cdv A outer s H E).nox (pg cA) (defBody s_zj) (d_zj (gF n)) := by
 unfold d_zj
 exact (ss_one (s_ret p_bl))
theorem b_zk (hr : Room (2 * n + 4) (A.deeper (PyProof.Rows.envOfC "Named.holds" (defScope s_zk) s.heap.objs.size f cdv))) :
  JSs (cxOf CX0 P w K mg base ["self", "setting"] "Named.holds" (defScope s_zk) f cdv A outer s H E).nox (pg cA) (defBody s_zk) (d_zk (gF n)) := by
 obtain ⟨_, g_LETTERS, t_LETTERS⟩ := C.e_LETTERS
 unfold d_zk
 exact (ss_one (s_ret (p_eq hr (b_of (p_and (b_of (p_shr (b_var 1) (b_of (p_index (ws := c_LETTERS) t_LETTERS rfl g_LETTERS (fun _ _ => ⟨_, _, rfl, rfl, ⟨_, _, rfl, rfl, ⟨_, _, rfl, rfl, ⟨_, _, rfl, rfl, rfl⟩⟩⟩⟩) rfl (p_fld C.f_name (p_var 0) rfl))))) (b_of p_int))) (b_of p_int))))
theorem b_zl (hr : Room (2 * n + 4) (A.deeper (PyProof.Rows.envOfC "Not.holds" (defScope s_zl) s.heap.objs.size f cdv))) :
  JSs (cxOf CX0 P w K mg base ["self", "setting"] "Not.holds" (defScope s_zl) f cdv A outer s H E).nox (pg cA) (defBody s_zl) (d_zl (gF n)) := by
 unfold d_zl
 exact (ss_one (s_ret (p_notV (p_meth I.m_holds hr.s (p_fld C.f_inner (p_var 0) rfl) (a_cons (p_var 1) a_nil)))))
theorem b_zm (hr : Room (2 * n + 4) (A.deeper (PyProof.Rows.envOfC "Both.holds" (defScope s_zm) s.heap.objs.size f cdv))) :
  JSs (cxOf CX0 P w K mg base ["self", "setting"] "Both.holds" (defScope s_zm) f cdv A outer s H E).nox (pg cA) (defBody s_zm) (d_zm (gF n)) := by
 unfold d_zm
 exact (ss_one (s_ret (p_andV (p_meth I.m_holds hr.s (p_fld C.f_left (p_var 0) rfl) (a_cons (p_var 1) a_nil)) (p_one (p_meth I.m_holds hr.s (p_fld C.f_right (p_var 0) rfl) (a_cons (p_var 1) a_nil))))))
theorem b_zn (hr : Room (2 * n + 4) (A.deeper (PyProof.Rows.envOfC "Either.holds" (defScope s_zn) s.heap.objs.size f cdv))) :
  JSs (cxOf CX0 P w K mg base ["self", "setting"] "Either.holds" (defScope s_zn) f cdv A outer s H E).nox (pg cA) (defBody s_zn) (d_zn (gF n)) := by
 unfold d_zn
 exact (ss_one (s_ret (p_orV (p_meth I.m_holds hr.s (p_fld C.f_left (p_var 0) rfl) (a_cons (p_var 1) a_nil)) (p_one (p_meth I.m_holds hr.s (p_fld C.f_right (p_var 0) rfl) (a_cons (p_var 1) a_nil))))))
theorem b_zo (hr : Room (2 * n + 4) (A.deeper (PyProof.Rows.envOfC "Bonds.good" (defScope s_zo) s.heap.objs.size f cdv))) :
  JSs (cxOf CX0 P w K mg base ["self"] "Bonds.good" (defScope s_zo) f cdv A outer s H E).nox (pg cA) (defBody s_zo) (d_zo (gF n)) := by
 unfold d_zo
 exact (ss_one (s_ret (p_fld C.f_lasting (p_var 0) rfl)))
theorem b_zp (hr : Room (2 * n + 4) (A.deeper (PyProof.Rows.envOfC "Bonds.ways" (defScope s_zp) s.heap.objs.size f cdv))) :
  JSs (cxOf CX0 P w K mg base ["self", "deed", "setting"] "Bonds.ways" (defScope s_zp) f cdv A outer s H E).nox (pg cA) (defBody s_zp) (d_zp (gF n)) := by
 unfold d_zp
 exact (ss_one (s_ret (p_and (b_of (p_at (b_of (p_dget (hu_of hr) (b_of (p_fld C.f_let_by (p_var 0) rfl)) (b_var 1) (fun _ _ => rfl))) (b_var 2) (fun _ _ => rfl))) (b_of (p_fld C.f_lasting (p_var 0) rfl)))))
theorem b_zq (hr : Room (2 * n + 4) (A.deeper (PyProof.Rows.envOfC "Bonds.keeps_at" (defScope s_zq) s.heap.objs.size f cdv))) :
  JSs (cxOf CX0 P w K mg base ["self", "world", "state", "setting", "deed"] "Bonds.keeps_at" (defScope s_zq) f cdv A outer s H E).nox (pg cA) (defBody s_zq) (d_zq (gF n)) := by
 obtain ⟨_, g_DEEDS, t_DEEDS⟩ := C.e_DEEDS
 unfold d_zq
 exact (ss_cons (s_set (i := 3) sc_zq.nd rfl (Or.inl rfl) (p_meth I.m_setting hr.s (p_var 1) (a_cons (p_var 2) a_nil)))
 (ss_cons (s_if (t_not (t_val (p_fn I.h_z0 hr.s rfl (a_cons (p_var 3) (a_cons (p_fld C.f_unbarred (p_var 0) rfl) a_nil)))))
 (ss_one (s_ret p_bl))
 ss_nil)
 (ss_cons (s_for PassesOwn.never rfl (i_tup (p_topT (ws := c_DEEDS) t_DEEDS rfl g_DEEDS (fun _ _ => ⟨_, _, rfl, rfl, ⟨_, _, rfl, rfl, ⟨_, _, rfl, rfl, ⟨_, _, rfl, rfl, ⟨_, _, rfl, rfl, rfl⟩⟩⟩⟩⟩))) (g_name (i := 4) sc_zq.nd rfl (Or.inl rfl))
 (ss_one (s_if (t_not (t_val (p_fn I.h_z0 hr.s rfl (a_cons (p_meth I.m_setting hr.s (p_var 1) (a_cons (p_meth I.m_led hr.s (p_var 1) (a_cons (p_var 4) (a_cons (p_var 2) a_nil))) a_nil)) (a_cons (p_at (b_of (p_dget (hu_of hr) (b_of (p_fld C.f_let_by (p_var 0) rfl)) (b_var 4) (fun _ _ => rfl))) (b_var 3) (fun _ _ => rfl)) a_nil)))))
 (ss_one (s_ret p_bl))
 ss_nil)))
 (ss_one (s_ret p_bl)))))
theorem b_zr (hr : Room (2 * n + 4) (A.deeper (PyProof.Rows.envOfC "Saying.bars" (defScope s_zr) s.heap.objs.size f cdv))) :
  JSs (cxOf CX0 P w K mg base ["self", "setting"] "Saying.bars" (defScope s_zr) f cdv A outer s H E).nox (pg cA) (defBody s_zr) (d_zr (gF n)) := by
 unfold d_zr
 exact (ss_one (s_ret p_bl))
theorem b_zs (hr : Room (2 * n + 4) (A.deeper (PyProof.Rows.envOfC "Saying.later_mask" (defScope s_zs) s.heap.objs.size f cdv))) :
  JSs (cxOf CX0 P w K mg base ["self", "deed", "setting"] "Saying.later_mask" (defScope s_zs) f cdv A outer s H E).nox (pg cA) (defBody s_zs) (d_zs (gF n)) := by
 obtain ⟨_, g_EVERY⟩ := C.e_EVERY
 unfold d_zs
 exact (ss_one (s_ret (p_topI rfl g_EVERY)))
theorem b_zt (hr : Room (2 * n + 4) (A.deeper (PyProof.Rows.envOfC "Nowhere.bars" (defScope s_zt) s.heap.objs.size f cdv))) :
  JSs (cxOf CX0 P w K mg base ["self", "setting"] "Nowhere.bars" (defScope s_zt) f cdv A outer s H E).nox (pg cA) (defBody s_zt) (d_zt (gF n)) := by
 unfold d_zt
 exact (ss_one (s_ret (p_meth I.m_holds hr.s (p_fld C.f_test (p_var 0) rfl) (a_cons (p_var 1) a_nil))))
theorem b_zu (hr : Room (2 * n + 4) (A.deeper (PyProof.Rows.envOfC "Behind.later_mask" (defScope s_zu) s.heap.objs.size f cdv))) :
  JSs (cxOf CX0 P w K mg base ["self", "deed", "setting"] "Behind.later_mask" (defScope s_zu) f cdv A outer s H E).nox (pg cA) (defBody s_zu) (d_zu (gF n)) := by
 obtain ⟨_, g_EVERY⟩ := C.e_EVERY
 unfold d_zu
 exact (ss_cons (s_if (t_w (w_and (t_eq hr (b_var 1) (b_of (p_fld C.f_deed (p_var 0) rfl))) (w_and1 (t_val (p_meth I.m_holds hr.s (p_fld C.f_before (p_var 0) rfl) (a_cons (p_var 2) a_nil))))))
 (ss_one (s_ret (p_meth0 I.m_mask hr.s (p_fld C.f_after (p_var 0) rfl))))
 ss_nil)
 (ss_one (s_ret (p_topI rfl g_EVERY))))
theorem b_zv (hr : Room (2 * n + 4) (A.deeper (PyProof.Rows.envOfC "Through.later_mask" (defScope s_zv) s.heap.objs.size f cdv))) :
  JSs (cxOf CX0 P w K mg base ["self", "deed", "setting", "mask"] "Through.later_mask" (defScope s_zv) f cdv A outer s H E).nox (pg cA) (defBody s_zv) (d_zv (gF n)) := by
 obtain ⟨_, g_EVERY⟩ := C.e_EVERY
 unfold d_zv
 exact (ss_cons (s_if (t_ne hr (b_var 1) (b_of (p_fld C.f_deed (p_var 0) rfl)))
 (ss_one (s_ret (p_topI rfl g_EVERY)))
 ss_nil)
 (ss_cons (s_set (i := 3) sc_zv.nd rfl (Or.inl rfl) (p_meth0 I.m_mask hr.s (p_fld C.f_test (p_var 0) rfl)))
 (ss_one (s_ret (p_ifV (t_val (p_fn I.h_z0 hr.s rfl (a_cons (p_var 2) (a_cons (p_var 3) a_nil)))) (p_var 3) (p_sub (b_of (p_topI rfl g_EVERY)) (b_var 3)))))))
theorem b_zw (hr : Room (2 * n + 4) (A.deeper (PyProof.Rows.envOfC "World.setting" (defScope s_zw) s.heap.objs.size f cdv))) :
  JSs (cxOf CX0 P w K mg base ["self", "state"] "World.setting" (defScope s_zw) f cdv A outer s H E).nox (pg cA) (defBody s_zw) (d_zw (gF n)) := by
 unfold d_zw
 exact (ss_one (s_ret (p_callA C.f_says (p_var 0) I.cl hr.s (a_cons (p_var 1) a_nil))))
theorem b_zx (hr : Room (2 * n + 4) (A.deeper (PyProof.Rows.envOfC "World.led" (defScope s_zx) s.heap.objs.size f cdv))) :
  JSs (cxOf CX0 P w K mg base ["self", "deed", "state"] "World.led" (defScope s_zx) f cdv A outer s H E).nox (pg cA) (defBody s_zx) (d_zx (gF n)) := by
 unfold d_zx
 exact (ss_one (s_ret (p_callA C.f_leads (p_var 0) I.cl hr.s (a_cons (p_var 1) (a_cons (p_var 2) a_nil)))))
theorem b_zy (hr : Room (2 * n + 4) (A.deeper (PyProof.Rows.envOfC "Bonds.__init__" (defScope s_zy) s.heap.objs.size f cdv))) :
  JSs (cxOf CX0 P w K mg base ["self", "sayings"] "Bonds.__init__" (defScope s_zy) f cdv A outer s H E).nox (pg cA) (defBody s_zy) (d_zy (gF n)) := by
 unfold d_zy
 exact (ss_cons (s_ini (j := 0) 7 C.l_zI.cls C.x_Bonds_unbarred (show (fN 7).Nodup by decide +kernel) rfl (show (fN 7).length < 1000 by decide) (p_fn I.h_z2 hr.s rfl (a_cons (p_var 1) a_nil)))
 (ss_cons (s_ini (j := 1) 7 C.l_zI.cls C.x_Bonds_let_by (show (fN 7).Nodup by decide +kernel) rfl (show (fN 7).length < 1000 by decide) (p_fn I.h_z3 hr.s rfl (a_cons (p_var 1) a_nil)))
 (ss_one (s_ini (j := 2) 7 C.l_zI.cls C.x_Bonds_lasting (show (fN 7).Nodup by decide +kernel) rfl (show (fN 7).length < 1000 by decide) (p_fn I.h_z5 hr.s rfl (a_cons (p_fldI 0 C.f_unbarred) (a_cons (p_fldI 0 C.f_let_by) a_nil)))))))
theorem b_zz {qual : Str} {cd : Value} {cl : List (Str × Addr)} {f : Addr} {A : Around} {outer : List Env} {s : Shared} {H : Hp} {E : XK} (hr : Room (2 * n + 4) (A.deeper (PySem.W.envX qual n_zz.scope s.heap.objs.size f cd cl))) :
  JSs (cxN CX0 P w K mg base ["_law_state", "_law_goods", "_law_many"] qual n_zz.scope f cd cl A outer s H E).nox (pg cA) (nstB n_zz) (d_zz (gF n)) := by
 unfold d_zz
 exact (ss_one (s_ret (p_at (b_var 1) (b_of (p_mod (b_var 0) (b_var 2))) (fun _ _ => rfl))))
theorem b_zA {qual : Str} {cd : Value} {cl : List (Str × Addr)} {f : Addr} {A : Around} {outer : List Env} {s : Shared} {H : Hp} {E : XK} (hr : Room (2 * n + 4) (A.deeper (PySem.W.envX qual n_zA.scope s.heap.objs.size f cd cl))) :
  JSs (cxN CX0 P w K mg base ["_law_deed", "_law_state", "_law_ways", "_law_many", "_law_cell", "_law_says", "_law_some", "_law_later", "_law_shift"] qual n_zA.scope f cd cl A outer s H E).nox (pg cA) (nstB n_zA) (d_zA (gF n)) := by
 unfold d_zA
 exact (ss_cons (s_set (i := 6) sc_zA.nd rfl (Or.inl rfl) (p_dgetT (hu_of hr) (b_var 2) (a_cons (p_var 0) (a_cons (p_callV (p_var 5) I.cl hr.s (a_cons (p_var 1) a_nil)) a_nil)) (fun _ _ => rfl)))
 (ss_cons (s_set (i := 7) sc_zA.nd rfl (Or.inl rfl) (p_div (b_var 1) (b_var 3)))
 (ss_cons (s_set (i := 8) sc_zA.nd rfl (Or.inl rfl) (p_mod (b_of (p_div (b_var 4) (b_of (p_add (b_of (p_find p_str (p_var 0))) (b_of p_int))))) (b_of p_int)))
 (ss_one (s_ret (p_add (b_of (p_mul (b_of (p_add (b_of (p_div (b_var 7) (b_of p_int))) (b_var 8))) (b_var 3))) (b_of (p_at (b_var 6) (b_of (p_mod (b_of (p_mod (b_var 7) (b_of p_int))) (b_of (p_callB call_len cb_len rfl C.z_len PySem.boot_len (a_consB (b_var 6) a_nil))))) (fun _ _ => rfl)))))))))
end
structure Fs (K : Fg) (mg : Str -> Option Value) (cA : Nat -> Addr) (ts : List Addr) : Prop where
 F_z0 : ∃ f fd, DefF K mg "is_in" s_z0 ["setting", "mask"] f fd
 F_z1 : ∃ f fd, DefF K mg "settings_in" s_z1 ["mask"] f fd
 F_z2 : ∃ f fd, DefF K mg "unbarred_by" s_z2 ["sayings"] f fd
 F_z3 : ∃ f fd, DefF K mg "let_by_all" s_z3 ["sayings"] f fd
 F_z4 : ∃ f fd, DefF K mg "later_by_all" s_z4 ["sayings", "deed", "setting"] f fd
 F_z5 : ∃ f fd, DefF K mg "lasting_within" s_z5 ["mask", "let_by"] f fd
 F_z6 : ∃ f fd, DefF K mg "is_kept" s_z6 ["world", "sayings", "states"] f fd
 F_z7 : ∃ f fd, DefF K mg "is_due" s_z7 ["sayings", "saying"] f fd
 F_z8 : ∃ f fd, DefF K mg "_law_cell_at" s_z8 ["_law_script", "_law_k"] f fd
 F_z9 : ∃ f fd, DefF K mg "_law_mixed" s_z9 ["_law_cell", "_law_k"] f fd
 F_za : ∃ f fd, DefF K mg "_law_test" s_za ["_law_number"] f fd
 F_zb : ∃ f fd, DefF K mg "_law_saying" s_zb ["_law_cell"] f fd
 F_zc : ∃ f fd, DefF K mg "_law_lets" s_zc ["_law_told"] f fd
 F_zd : ∃ f fd, DefF K mg "_law_good" s_zd ["_law_told", "_law_lets_here", "_law_mask"] f fd
 F_ze : ∃ f fd c P, DefF K mg "_law_world" s_ze ["_law_lets_here", "_law_mask", "_law_cell"] f fd /\ FunT K fd c P ts
 F_zf : ∃ f fd, DefF K mg "_law_due" s_zf ["_law_lets_here", "_law_good_here", "_law_asked"] f fd
 F_zg : ∃ f fd, DefF K mg "law" s_zg ["_law_script"] f fd
 F_zh : ∃ f fd, Fun K "mask" "Test.mask" s_zh f fd /\ Binds K fd ["self"] [] /\ Meth K ((pg cA).cA 0) "mask" f /\ Meth K ((pg cA).cA 1) "mask" f /\ Meth K ((pg cA).cA 2) "mask" f /\ Meth K ((pg cA).cA 3) "mask" f /\ Meth K ((pg cA).cA 4) "mask" f /\ Meth K ((pg cA).cA 5) "mask" f /\ Meth K ((pg cA).cA 6) "mask" f
 F_zi : ∃ f fd, Fun K "holds" "Yes.holds" s_zi f fd /\ Binds K fd ["self", "setting"] [] /\ Meth K ((pg cA).cA 1) "holds" f
 F_zj : ∃ f fd, Fun K "holds" "No.holds" s_zj f fd /\ Binds K fd ["self", "setting"] [] /\ Meth K ((pg cA).cA 2) "holds" f
 F_zk : ∃ f fd, Fun K "holds" "Named.holds" s_zk f fd /\ Binds K fd ["self", "setting"] [] /\ Meth K ((pg cA).cA 3) "holds" f
 F_zl : ∃ f fd, Fun K "holds" "Not.holds" s_zl f fd /\ Binds K fd ["self", "setting"] [] /\ Meth K ((pg cA).cA 4) "holds" f
 F_zm : ∃ f fd, Fun K "holds" "Both.holds" s_zm f fd /\ Binds K fd ["self", "setting"] [] /\ Meth K ((pg cA).cA 5) "holds" f
 F_zn : ∃ f fd, Fun K "holds" "Either.holds" s_zn f fd /\ Binds K fd ["self", "setting"] [] /\ Meth K ((pg cA).cA 6) "holds" f
 F_zo : ∃ f fd, Fun K "good" "Bonds.good" s_zo f fd /\ Binds K fd ["self"] [] /\ Meth K ((pg cA).cA 7) "good" f
 F_zp : ∃ f fd, Fun K "ways" "Bonds.ways" s_zp f fd /\ Binds K fd ["self", "deed", "setting"] [] /\ Meth K ((pg cA).cA 7) "ways" f
 F_zq : ∃ f fd, Fun K "keeps_at" "Bonds.keeps_at" s_zq f fd /\ Binds K fd ["self", "world", "state"] [] /\ Meth K ((pg cA).cA 7) "keeps_at" f
 F_zr : ∃ f fd, Fun K "bars" "Saying.bars" s_zr f fd /\ Binds K fd ["self", "setting"] [] /\ Meth K ((pg cA).cA 8) "bars" f /\ Meth K ((pg cA).cA 10) "bars" f /\ Meth K ((pg cA).cA 11) "bars" f
 F_zs : ∃ f fd, Fun K "later_mask" "Saying.later_mask" s_zs f fd /\ Binds K fd ["self", "deed", "setting"] [] /\ Meth K ((pg cA).cA 8) "later_mask" f /\ Meth K ((pg cA).cA 9) "later_mask" f
 F_zt : ∃ f fd, Fun K "bars" "Nowhere.bars" s_zt f fd /\ Binds K fd ["self", "setting"] [] /\ Meth K ((pg cA).cA 9) "bars" f
 F_zu : ∃ f fd, Fun K "later_mask" "Behind.later_mask" s_zu f fd /\ Binds K fd ["self", "deed", "setting"] [] /\ Meth K ((pg cA).cA 10) "later_mask" f
 F_zv : ∃ f fd, Fun K "later_mask" "Through.later_mask" s_zv f fd /\ Binds K fd ["self", "deed", "setting"] [] /\ Meth K ((pg cA).cA 11) "later_mask" f
 F_zw : ∃ f fd, Fun K "setting" "World.setting" s_zw f fd /\ Binds K fd ["self", "state"] [] /\ Meth K ((pg cA).cA 12) "setting" f
 F_zx : ∃ f fd, Fun K "led" "World.led" s_zx f fd /\ Binds K fd ["self", "deed", "state"] [] /\ Meth K ((pg cA).cA 12) "led" f
 F_zy : ∃ f fd, Fun K "__init__" "Bonds.__init__" s_zy f fd /\ Binds K fd ["self", "sayings"] [] /\ Mk K ((pg cA).cA 7) f
theorem all_fn {P : Program} {w : World} {K : Fg} {mg : Str -> Option Value} {base : Bs} {cA : Nat -> Addr} {ts : List Addr} (C : Ct P w K mg base cA ts) (F : Fs K mg cA ts) : ∀ n, AllF P w K mg base cA n
 | 0 => by
  obtain ⟨f_z0, fd_z0, E_z0⟩ := F.F_z0
  obtain ⟨f_z1, fd_z1, E_z1⟩ := F.F_z1
  obtain ⟨f_z2, fd_z2, E_z2⟩ := F.F_z2
  obtain ⟨f_z3, fd_z3, E_z3⟩ := F.F_z3
  obtain ⟨f_z4, fd_z4, E_z4⟩ := F.F_z4
  obtain ⟨f_z5, fd_z5, E_z5⟩ := F.F_z5
  obtain ⟨f_z6, fd_z6, E_z6⟩ := F.F_z6
  obtain ⟨f_z7, fd_z7, E_z7⟩ := F.F_z7
  obtain ⟨f_z8, fd_z8, E_z8⟩ := F.F_z8
  obtain ⟨f_z9, fd_z9, E_z9⟩ := F.F_z9
  obtain ⟨f_za, fd_za, E_za⟩ := F.F_za
  obtain ⟨f_zb, fd_zb, E_zb⟩ := F.F_zb
  obtain ⟨f_zc, fd_zc, E_zc⟩ := F.F_zc
  obtain ⟨f_zd, fd_zd, E_zd⟩ := F.F_zd
  obtain ⟨f_ze, fd_ze, c_ze, p_ze, E_ze, T_ze⟩ := F.F_ze
  obtain ⟨f_zf, fd_zf, E_zf⟩ := F.F_zf
  obtain ⟨f_zg, fd_zg, E_zg⟩ := F.F_zg
  obtain ⟨f_zh, fd_zh, F_zh, B_zh, M_zh_0, M_zh_1, M_zh_2, M_zh_3, M_zh_4, M_zh_5, M_zh_6⟩ := F.F_zh
  obtain ⟨f_zi, fd_zi, F_zi, B_zi, M_zi_1⟩ := F.F_zi
  obtain ⟨f_zj, fd_zj, F_zj, B_zj, M_zj_2⟩ := F.F_zj
  obtain ⟨f_zk, fd_zk, F_zk, B_zk, M_zk_3⟩ := F.F_zk
  obtain ⟨f_zl, fd_zl, F_zl, B_zl, M_zl_4⟩ := F.F_zl
  obtain ⟨f_zm, fd_zm, F_zm, B_zm, M_zm_5⟩ := F.F_zm
  obtain ⟨f_zn, fd_zn, F_zn, B_zn, M_zn_6⟩ := F.F_zn
  obtain ⟨f_zo, fd_zo, F_zo, B_zo, M_zo_7⟩ := F.F_zo
  obtain ⟨f_zp, fd_zp, F_zp, B_zp, M_zp_7⟩ := F.F_zp
  obtain ⟨f_zq, fd_zq, F_zq, B_zq, M_zq_7⟩ := F.F_zq
  obtain ⟨f_zr, fd_zr, F_zr, B_zr, M_zr_8, M_zr_10, M_zr_11⟩ := F.F_zr
  obtain ⟨f_zs, fd_zs, F_zs, B_zs, M_zs_8, M_zs_9⟩ := F.F_zs
  obtain ⟨f_zt, fd_zt, F_zt, B_zt, M_zt_9⟩ := F.F_zt
  obtain ⟨f_zu, fd_zu, F_zu, B_zu, M_zu_10⟩ := F.F_zu
  obtain ⟨f_zv, fd_zv, F_zv, B_zv, M_zv_11⟩ := F.F_zv
  obtain ⟨f_zw, fd_zw, F_zw, B_zw, M_zw_12⟩ := F.F_zw
  obtain ⟨f_zx, fd_zx, F_zx, B_zx, M_zx_12⟩ := F.F_zx
  obtain ⟨f_zy, fd_zy, F_zy, B_zy, M_zy⟩ := F.F_zy
  exact {
   cl := (ca_cons (clo_none fun _ => rfl) (ca_cons (clo_none fun _ => rfl) ca_nil))
   h_z0 := E_z0.at (spG_none fun _ => rfl)
   h_z1 := E_z1.at (spG_none fun _ => rfl)
   h_z2 := E_z2.at (spG_none fun _ => rfl)
   h_z3 := E_z3.at (spG_none fun _ => rfl)
   h_z4 := E_z4.at (spG_none fun _ => rfl)
   h_z5 := E_z5.at (spG_none fun _ => rfl)
   h_z6 := E_z6.at (spG_none fun _ => rfl)
   h_z7 := E_z7.at (spG_none fun _ => rfl)
   h__law_cell_at := E_z8.at (spG_none fun _ => rfl)
   h__law_mixed := E_z9.at (spG_none fun _ => rfl)
   h__law_test := E_za.at (spG_none fun _ => rfl)
   h__law_saying := E_zb.at (spG_none fun _ => rfl)
   h__law_lets := E_zc.at (spG_none fun _ => rfl)
   h__law_good := E_zd.at (spG_none fun _ => rfl)
   h__law_world := E_ze.at (spG_none fun _ => rfl)
   h__law_due := E_zf.at (spG_none fun _ => rfl)
   h_zg := E_zg.at (spG_none fun _ => rfl)
   n_zI := ⟨C.c_zI, C.l_zI.cls, _, _, _, M_zy, (spIn_none fun _ => rfl), B_zy⟩
   m_bars := (mt_cons ⟨C.l_zJ.cls, _, _, _, M_zr_8, (spG_none fun _ => rfl), B_zr⟩ (show ("bars" : Str) ∉ fN 8 by decide +kernel) (mt_cons ⟨C.l_zK.cls, _, _, _, M_zt_9, (spG_none fun _ => rfl), B_zt⟩ (show ("bars" : Str) ∉ fN 9 by decide +kernel) (mt_cons ⟨C.l_zL.cls, _, _, _, M_zr_10, (spG_none fun _ => rfl), B_zr⟩ (show ("bars" : Str) ∉ fN 10 by decide +kernel) (mt_cons ⟨C.l_zM.cls, _, _, _, M_zr_11, (spG_none fun _ => rfl), B_zr⟩ (show ("bars" : Str) ∉ fN 11 by decide +kernel) mt_nil))))
   m_good := (mt_cons ⟨C.l_zI.cls, _, _, _, M_zo_7, (spG_none fun _ => rfl), B_zo⟩ (show ("good" : Str) ∉ fN 7 by decide +kernel) mt_nil)
   m_holds := (mt_cons ⟨C.l_zC.cls, _, _, _, M_zi_1, (spG_none fun _ => rfl), B_zi⟩ (show ("holds" : Str) ∉ fN 1 by decide +kernel) (mt_cons ⟨C.l_zD.cls, _, _, _, M_zj_2, (spG_none fun _ => rfl), B_zj⟩ (show ("holds" : Str) ∉ fN 2 by decide +kernel) (mt_cons ⟨C.l_zE.cls, _, _, _, M_zk_3, (spG_none fun _ => rfl), B_zk⟩ (show ("holds" : Str) ∉ fN 3 by decide +kernel) (mt_cons ⟨C.l_zF.cls, _, _, _, M_zl_4, (spG_none fun _ => rfl), B_zl⟩ (show ("holds" : Str) ∉ fN 4 by decide +kernel) (mt_cons ⟨C.l_zG.cls, _, _, _, M_zm_5, (spG_none fun _ => rfl), B_zm⟩ (show ("holds" : Str) ∉ fN 5 by decide +kernel) (mt_cons ⟨C.l_zH.cls, _, _, _, M_zn_6, (spG_none fun _ => rfl), B_zn⟩ (show ("holds" : Str) ∉ fN 6 by decide +kernel) mt_nil))))))
   m_keeps_at := (mt_cons ⟨C.l_zI.cls, _, _, _, M_zq_7, (spG_none fun _ => rfl), B_zq⟩ (show ("keeps_at" : Str) ∉ fN 7 by decide +kernel) mt_nil)
   m_later_mask := (mt_cons ⟨C.l_zJ.cls, _, _, _, M_zs_8, (spG_none fun _ => rfl), B_zs⟩ (show ("later_mask" : Str) ∉ fN 8 by decide +kernel) (mt_cons ⟨C.l_zK.cls, _, _, _, M_zs_9, (spG_none fun _ => rfl), B_zs⟩ (show ("later_mask" : Str) ∉ fN 9 by decide +kernel) (mt_cons ⟨C.l_zL.cls, _, _, _, M_zu_10, (spG_none fun _ => rfl), B_zu⟩ (show ("later_mask" : Str) ∉ fN 10 by decide +kernel) (mt_cons ⟨C.l_zM.cls, _, _, _, M_zv_11, (spG_none fun _ => rfl), B_zv⟩ (show ("later_mask" : Str) ∉ fN 11 by decide +kernel) mt_nil))))
   m_led := (mt_cons ⟨C.l_zN.cls, _, _, _, M_zx_12, (spG_none fun _ => rfl), B_zx⟩ (show ("led" : Str) ∉ fN 12 by decide +kernel) mt_nil)
   m_mask := (mt_cons ⟨C.l_zB.cls, _, _, _, M_zh_0, (spG_none fun _ => rfl), B_zh⟩ (show ("mask" : Str) ∉ fN 0 by decide +kernel) (mt_cons ⟨C.l_zC.cls, _, _, _, M_zh_1, (spG_none fun _ => rfl), B_zh⟩ (show ("mask" : Str) ∉ fN 1 by decide +kernel) (mt_cons ⟨C.l_zD.cls, _, _, _, M_zh_2, (spG_none fun _ => rfl), B_zh⟩ (show ("mask" : Str) ∉ fN 2 by decide +kernel) (mt_cons ⟨C.l_zE.cls, _, _, _, M_zh_3, (spG_none fun _ => rfl), B_zh⟩ (show ("mask" : Str) ∉ fN 3 by decide +kernel) (mt_cons ⟨C.l_zF.cls, _, _, _, M_zh_4, (spG_none fun _ => rfl), B_zh⟩ (show ("mask" : Str) ∉ fN 4 by decide +kernel) (mt_cons ⟨C.l_zG.cls, _, _, _, M_zh_5, (spG_none fun _ => rfl), B_zh⟩ (show ("mask" : Str) ∉ fN 5 by decide +kernel) (mt_cons ⟨C.l_zH.cls, _, _, _, M_zh_6, (spG_none fun _ => rfl), B_zh⟩ (show ("mask" : Str) ∉ fN 6 by decide +kernel) mt_nil)))))))
   m_setting := (mt_cons ⟨C.l_zN.cls, _, _, _, M_zw_12, (spG_none fun _ => rfl), B_zw⟩ (show ("setting" : Str) ∉ fN 12 by decide +kernel) mt_nil)
   m_ways := (mt_cons ⟨C.l_zI.cls, _, _, _, M_zp_7, (spG_none fun _ => rfl), B_zp⟩ (show ("ways" : Str) ∉ fN 7 by decide +kernel) mt_nil)
  }
 | n + 1 => by
  show AllF P w K mg base cA (n + 1)
  have I := all_fn C F n
  obtain ⟨f_z0, fd_z0, E_z0⟩ := F.F_z0
  obtain ⟨f_z1, fd_z1, E_z1⟩ := F.F_z1
  obtain ⟨f_z2, fd_z2, E_z2⟩ := F.F_z2
  obtain ⟨f_z3, fd_z3, E_z3⟩ := F.F_z3
  obtain ⟨f_z4, fd_z4, E_z4⟩ := F.F_z4
  obtain ⟨f_z5, fd_z5, E_z5⟩ := F.F_z5
  obtain ⟨f_z6, fd_z6, E_z6⟩ := F.F_z6
  obtain ⟨f_z7, fd_z7, E_z7⟩ := F.F_z7
  obtain ⟨f_z8, fd_z8, E_z8⟩ := F.F_z8
  obtain ⟨f_z9, fd_z9, E_z9⟩ := F.F_z9
  obtain ⟨f_za, fd_za, E_za⟩ := F.F_za
  obtain ⟨f_zb, fd_zb, E_zb⟩ := F.F_zb
  obtain ⟨f_zc, fd_zc, E_zc⟩ := F.F_zc
  obtain ⟨f_zd, fd_zd, E_zd⟩ := F.F_zd
  obtain ⟨f_ze, fd_ze, c_ze, p_ze, E_ze, T_ze⟩ := F.F_ze
  obtain ⟨f_zf, fd_zf, E_zf⟩ := F.F_zf
  obtain ⟨f_zg, fd_zg, E_zg⟩ := F.F_zg
  obtain ⟨f_zh, fd_zh, F_zh, B_zh, M_zh_0, M_zh_1, M_zh_2, M_zh_3, M_zh_4, M_zh_5, M_zh_6⟩ := F.F_zh
  obtain ⟨f_zi, fd_zi, F_zi, B_zi, M_zi_1⟩ := F.F_zi
  obtain ⟨f_zj, fd_zj, F_zj, B_zj, M_zj_2⟩ := F.F_zj
  obtain ⟨f_zk, fd_zk, F_zk, B_zk, M_zk_3⟩ := F.F_zk
  obtain ⟨f_zl, fd_zl, F_zl, B_zl, M_zl_4⟩ := F.F_zl
  obtain ⟨f_zm, fd_zm, F_zm, B_zm, M_zm_5⟩ := F.F_zm
  obtain ⟨f_zn, fd_zn, F_zn, B_zn, M_zn_6⟩ := F.F_zn
  obtain ⟨f_zo, fd_zo, F_zo, B_zo, M_zo_7⟩ := F.F_zo
  obtain ⟨f_zp, fd_zp, F_zp, B_zp, M_zp_7⟩ := F.F_zp
  obtain ⟨f_zq, fd_zq, F_zq, B_zq, M_zq_7⟩ := F.F_zq
  obtain ⟨f_zr, fd_zr, F_zr, B_zr, M_zr_8, M_zr_10, M_zr_11⟩ := F.F_zr
  obtain ⟨f_zs, fd_zs, F_zs, B_zs, M_zs_8, M_zs_9⟩ := F.F_zs
  obtain ⟨f_zt, fd_zt, F_zt, B_zt, M_zt_9⟩ := F.F_zt
  obtain ⟨f_zu, fd_zu, F_zu, B_zu, M_zu_10⟩ := F.F_zu
  obtain ⟨f_zv, fd_zv, F_zv, B_zv, M_zv_11⟩ := F.F_zv
  obtain ⟨f_zw, fd_zw, F_zw, B_zw, M_zw_12⟩ := F.F_zw
  obtain ⟨f_zx, fd_zx, F_zx, B_zx, M_zx_12⟩ := F.F_zx
  obtain ⟨f_zy, fd_zy, F_zy, B_zy, M_zy⟩ := F.F_zy
  exact {
   cl := (ca_cons (clo_ok (n := n_zz) rfl sc_zz rfl (fun _ _ _ _ _ _ _ us hl => match us, hl with | [_], _ => rfl) fun _ _ _ _ _ _ _ _ _ hr => b_zz C I hr) (ca_cons (clo_ok (n := n_zA) rfl sc_zA rfl (fun _ _ _ _ _ _ _ us hl => match us, hl with | [_, _], _ => rfl) fun _ _ _ _ _ _ _ _ _ hr => b_zA C I hr) ca_nil))
   h_z0 := E_z0.at ((fn_ok E_z0.F sc_z0 rfl fun _ _ _ _ _ _ hr => b_z0 C I hr))
   h_z1 := E_z1.at ((fn_ok E_z1.F sc_z1 rfl fun _ _ _ _ _ _ hr => b_z1 C I hr))
   h_z2 := E_z2.at ((fn_ok E_z2.F sc_z2 rfl fun _ _ _ _ _ _ hr => b_z2 C I hr))
   h_z3 := E_z3.at ((fn_ok E_z3.F sc_z3 rfl fun _ _ _ _ _ _ hr => b_z3 C I hr))
   h_z4 := E_z4.at ((fn_ok E_z4.F sc_z4 rfl fun _ _ _ _ _ _ hr => b_z4 C I hr))
   h_z5 := E_z5.at ((fn_ok E_z5.F sc_z5 rfl fun _ _ _ _ _ _ hr => b_z5 C I hr))
   h_z6 := E_z6.at ((fn_ok E_z6.F sc_z6 rfl fun _ _ _ _ _ _ hr => b_z6 C I hr))
   h_z7 := E_z7.at ((fn_ok E_z7.F sc_z7 rfl fun _ _ _ _ _ _ hr => b_z7 C I hr))
   h__law_cell_at := E_z8.at ((fn_ok E_z8.F sc_z8 rfl fun _ _ _ _ _ _ hr => b_z8 C I hr))
   h__law_mixed := E_z9.at ((fn_ok E_z9.F sc_z9 rfl fun _ _ _ _ _ _ hr => b_z9 C I hr))
   h__law_test := E_za.at ((fn_ok E_za.F sc_za rfl fun _ _ _ _ _ _ hr => b_za C I hr))
   h__law_saying := E_zb.at ((fn_ok E_zb.F sc_zb rfl fun _ _ _ _ _ _ hr => b_zb C I hr))
   h__law_lets := E_zc.at ((fn_ok E_zc.F sc_zc rfl fun _ _ _ _ _ _ hr => b_zc C I hr))
   h__law_good := E_zd.at ((fn_ok E_zd.F sc_zd rfl fun _ _ _ _ _ _ hr => b_zd C I hr))
   h__law_world := E_ze.at ((fn_okT E_ze.F (by rw [C.tb]; exact T_ze) sc_ze rfl fun _ _ _ _ _ hr mk => b_ze C I hr mk))
   h__law_due := E_zf.at ((fn_ok E_zf.F sc_zf rfl fun _ _ _ _ _ _ hr => b_zf C I hr))
   h_zg := E_zg.at ((fn_ok E_zg.F sc_zg rfl fun _ _ _ _ _ _ hr => b_zg C I hr))
   n_zI := ⟨C.c_zI, C.l_zI.cls, _, _, _, M_zy, (fn_okI F_zy sc_zy rfl (by decide) rfl fun _ _ _ _ _ _ hr => b_zy C I hr), B_zy⟩
   m_bars := (mt_cons ⟨C.l_zJ.cls, _, _, _, M_zr_8, ((fn_ok F_zr sc_zr rfl fun _ _ _ _ _ _ hr => b_zr C I hr)), B_zr⟩ (show ("bars" : Str) ∉ fN 8 by decide +kernel) (mt_cons ⟨C.l_zK.cls, _, _, _, M_zt_9, ((fn_ok F_zt sc_zt rfl fun _ _ _ _ _ _ hr => b_zt C I hr)), B_zt⟩ (show ("bars" : Str) ∉ fN 9 by decide +kernel) (mt_cons ⟨C.l_zL.cls, _, _, _, M_zr_10, ((fn_ok F_zr sc_zr rfl fun _ _ _ _ _ _ hr => b_zr C I hr)), B_zr⟩ (show ("bars" : Str) ∉ fN 10 by decide +kernel) (mt_cons ⟨C.l_zM.cls, _, _, _, M_zr_11, ((fn_ok F_zr sc_zr rfl fun _ _ _ _ _ _ hr => b_zr C I hr)), B_zr⟩ (show ("bars" : Str) ∉ fN 11 by decide +kernel) mt_nil))))
   m_good := (mt_cons ⟨C.l_zI.cls, _, _, _, M_zo_7, ((fn_ok F_zo sc_zo rfl fun _ _ _ _ _ _ hr => b_zo C I hr)), B_zo⟩ (show ("good" : Str) ∉ fN 7 by decide +kernel) mt_nil)
   m_holds := (mt_cons ⟨C.l_zC.cls, _, _, _, M_zi_1, ((fn_ok F_zi sc_zi rfl fun _ _ _ _ _ _ hr => b_zi C I hr)), B_zi⟩ (show ("holds" : Str) ∉ fN 1 by decide +kernel) (mt_cons ⟨C.l_zD.cls, _, _, _, M_zj_2, ((fn_ok F_zj sc_zj rfl fun _ _ _ _ _ _ hr => b_zj C I hr)), B_zj⟩ (show ("holds" : Str) ∉ fN 2 by decide +kernel) (mt_cons ⟨C.l_zE.cls, _, _, _, M_zk_3, ((fn_ok F_zk sc_zk rfl fun _ _ _ _ _ _ hr => b_zk C I hr)), B_zk⟩ (show ("holds" : Str) ∉ fN 3 by decide +kernel) (mt_cons ⟨C.l_zF.cls, _, _, _, M_zl_4, ((fn_ok F_zl sc_zl rfl fun _ _ _ _ _ _ hr => b_zl C I hr)), B_zl⟩ (show ("holds" : Str) ∉ fN 4 by decide +kernel) (mt_cons ⟨C.l_zG.cls, _, _, _, M_zm_5, ((fn_ok F_zm sc_zm rfl fun _ _ _ _ _ _ hr => b_zm C I hr)), B_zm⟩ (show ("holds" : Str) ∉ fN 5 by decide +kernel) (mt_cons ⟨C.l_zH.cls, _, _, _, M_zn_6, ((fn_ok F_zn sc_zn rfl fun _ _ _ _ _ _ hr => b_zn C I hr)), B_zn⟩ (show ("holds" : Str) ∉ fN 6 by decide +kernel) mt_nil))))))
   m_keeps_at := (mt_cons ⟨C.l_zI.cls, _, _, _, M_zq_7, ((fn_ok F_zq sc_zq rfl fun _ _ _ _ _ _ hr => b_zq C I hr)), B_zq⟩ (show ("keeps_at" : Str) ∉ fN 7 by decide +kernel) mt_nil)
   m_later_mask := (mt_cons ⟨C.l_zJ.cls, _, _, _, M_zs_8, ((fn_ok F_zs sc_zs rfl fun _ _ _ _ _ _ hr => b_zs C I hr)), B_zs⟩ (show ("later_mask" : Str) ∉ fN 8 by decide +kernel) (mt_cons ⟨C.l_zK.cls, _, _, _, M_zs_9, ((fn_ok F_zs sc_zs rfl fun _ _ _ _ _ _ hr => b_zs C I hr)), B_zs⟩ (show ("later_mask" : Str) ∉ fN 9 by decide +kernel) (mt_cons ⟨C.l_zL.cls, _, _, _, M_zu_10, ((fn_ok F_zu sc_zu rfl fun _ _ _ _ _ _ hr => b_zu C I hr)), B_zu⟩ (show ("later_mask" : Str) ∉ fN 10 by decide +kernel) (mt_cons ⟨C.l_zM.cls, _, _, _, M_zv_11, ((fn_ok F_zv sc_zv rfl fun _ _ _ _ _ _ hr => b_zv C I hr)), B_zv⟩ (show ("later_mask" : Str) ∉ fN 11 by decide +kernel) mt_nil))))
   m_led := (mt_cons ⟨C.l_zN.cls, _, _, _, M_zx_12, ((fn_ok F_zx sc_zx rfl fun _ _ _ _ _ _ hr => b_zx C I hr)), B_zx⟩ (show ("led" : Str) ∉ fN 12 by decide +kernel) mt_nil)
   m_mask := (mt_cons ⟨C.l_zB.cls, _, _, _, M_zh_0, ((fn_ok F_zh sc_zh rfl fun _ _ _ _ _ _ hr => b_zh C I hr)), B_zh⟩ (show ("mask" : Str) ∉ fN 0 by decide +kernel) (mt_cons ⟨C.l_zC.cls, _, _, _, M_zh_1, ((fn_ok F_zh sc_zh rfl fun _ _ _ _ _ _ hr => b_zh C I hr)), B_zh⟩ (show ("mask" : Str) ∉ fN 1 by decide +kernel) (mt_cons ⟨C.l_zD.cls, _, _, _, M_zh_2, ((fn_ok F_zh sc_zh rfl fun _ _ _ _ _ _ hr => b_zh C I hr)), B_zh⟩ (show ("mask" : Str) ∉ fN 2 by decide +kernel) (mt_cons ⟨C.l_zE.cls, _, _, _, M_zh_3, ((fn_ok F_zh sc_zh rfl fun _ _ _ _ _ _ hr => b_zh C I hr)), B_zh⟩ (show ("mask" : Str) ∉ fN 3 by decide +kernel) (mt_cons ⟨C.l_zF.cls, _, _, _, M_zh_4, ((fn_ok F_zh sc_zh rfl fun _ _ _ _ _ _ hr => b_zh C I hr)), B_zh⟩ (show ("mask" : Str) ∉ fN 4 by decide +kernel) (mt_cons ⟨C.l_zG.cls, _, _, _, M_zh_5, ((fn_ok F_zh sc_zh rfl fun _ _ _ _ _ _ hr => b_zh C I hr)), B_zh⟩ (show ("mask" : Str) ∉ fN 5 by decide +kernel) (mt_cons ⟨C.l_zH.cls, _, _, _, M_zh_6, ((fn_ok F_zh sc_zh rfl fun _ _ _ _ _ _ hr => b_zh C I hr)), B_zh⟩ (show ("mask" : Str) ∉ fN 6 by decide +kernel) mt_nil)))))))
   m_setting := (mt_cons ⟨C.l_zN.cls, _, _, _, M_zw_12, ((fn_ok F_zw sc_zw rfl fun _ _ _ _ _ _ hr => b_zw C I hr)), B_zw⟩ (show ("setting" : Str) ∉ fN 12 by decide +kernel) mt_nil)
   m_ways := (mt_cons ⟨C.l_zI.cls, _, _, _, M_zp_7, ((fn_ok F_zp sc_zp rfl fun _ _ _ _ _ _ hr => b_zp C I hr)), B_zp⟩ (show ("ways" : Str) ∉ fN 7 by decide +kernel) mt_nil)
  }
end M44
end
section
namespace M44
open PySem L2 DN
inductive Tr where
 | yes | no | named (c : Str) | neg (t : Tr) | both (l r : Tr) | either (l r : Tr)
def Tr.pv : Tr -> PV
 | .yes => .obj 1 [] | .no => .obj 2 [] | .named c => .obj 3 [.str c] | .neg t => .obj 4 [t.pv] | .both l r => .obj 5 [l.pv, r.pv] | .either l r => .obj 6 [l.pv, r.pv]
def Tr.depth : Tr -> Nat
 | .yes => 0 | .no => 0 | .named _ => 0 | .neg t => t.depth + 1 | .both l r => max l.depth r.depth + 1 | .either l r => max l.depth r.depth + 1
def Tr.size : Tr -> Nat
 | .yes => 1 | .no => 1 | .named _ => 1 | .neg t => t.size + 1 | .both l r => l.size + r.size + 1 | .either l r => l.size + r.size + 1
def Letter (c : Str) : Prop := c = "a" \/ c = "b" \/ c = "c" \/ c = "d"
def Tr.ok : Tr -> Prop
 | .yes => True | .no => True | .named c => Letter c | .neg t => t.ok | .both l r => l.ok /\ r.ok | .either l r => l.ok /\ r.ok
def ixL (c : Str) : Nat := if c = "a" then 0 else if c = "b" then 1 else if c = "c" then 2 else 3
def Tr.at : Tr -> Int -> Bool
 | .yes, _ => true
 | .no, _ => false
 | .named c, s => Builtin.bitAnd (s / 2 ^ ((ixL c : Nat) : Int).toNat) 1 == 1
 | .neg t, s => !t.at s
 | .both l r, s => l.at s && r.at s
 | .either l r, s => l.at s || r.at s
theorem holds_ok : ∀ (t : Tr) (n : Nat) (s : Int), t.ok -> t.depth < n -> callM q_holds (gF n) t.pv [.int s] = .ok (.bl (t.at s))
 | .yes, n + 1, s, _, _ => rfl
 | .no, n + 1, s, _, _ => rfl
 | .named c, n + 1, s, h, _ => by
  rcases h with rfl | rfl | rfl | rfl <;> rfl
 | .neg t, n + 1, s, h, hd => by
  have ih := holds_ok t n s h (Nat.lt_of_succ_lt_succ hd)
  have e : callM q_holds (gF (n + 1)) (Tr.neg t).pv [.int s] = fin ((((callM q_holds (gF n) t.pv [.int s]).bind fun x => match x with | .bl k => Rx.ok (PV.bl (!k)) | _ => .bad)).st fun w => .ret w) := rfl
  rw [e, ih]; rfl
 | .both l r, n + 1, s, h, hd => by
  have hd' : max l.depth r.depth + 1 < n + 1 := hd
  have i1 := holds_ok l n s h.1 (by omega)
  have i2 := holds_ok r n s h.2 (by omega)
  have e : callM q_holds (gF (n + 1)) (Tr.both l r).pv [.int s] = fin ((((callM q_holds (gF n) l.pv [.int s]).bind fun x => match x with | .bl true => callM q_holds (gF n) r.pv [.int s] | .bl false => .ok (.bl false) | _ => .bad)).st fun w => .ret w) := rfl
  rw [e, i1, i2]
  show _ = Rx.ok (PV.bl (l.at s && r.at s))
  cases l.at s <;> rfl
 | .either l r, n + 1, s, h, hd => by
  have hd' : max l.depth r.depth + 1 < n + 1 := hd
  have i1 := holds_ok l n s h.1 (by omega)
  have i2 := holds_ok r n s h.2 (by omega)
  have e : callM q_holds (gF (n + 1)) (Tr.either l r).pv [.int s] = fin ((((callM q_holds (gF n) l.pv [.int s]).bind fun x => match x with | .bl true => .ok (.bl true) | .bl false => callM q_holds (gF n) r.pv [.int s] | _ => .bad)).st fun w => .ret w) := rfl
  rw [e, i1, i2]
  show _ = Rx.ok (PV.bl (l.at s || r.at s))
  cases l.at s <;> rfl
def Tr.f (t : Tr) (i : Nat) : Bool := t.at (i : Int)
def Tr.mk (t : Tr) : Nat := maskN t.f 16
theorem fold_mask (f : Nat -> Bool) : ∀ n, (List.range n).foldl (fun (b : Int) (i : Nat) => if f i = true then b + 1 * 2 ^ i else b) 0 = (maskN f n : Nat)
 | 0 => rfl
 | n + 1 => by
  rw [List.range_succ, List.foldl_append, fold_mask f n]
  show (if f n = true then _ else _) = (((2 ^ n * (f n).toNat + maskN f n : Nat)) : Int)
  cases h : f n
  ·simp
  ·simp [Int.add_comm]
theorem mask_ok (t : Tr) (n : Nat) (h : t.ok) (hd : t.depth < n) : callM q_mask (gF (n + 1)) t.pv [] = .ok (.int (t.mk : Nat)) := by
 have e : callM q_mask (gF (n + 1)) t.pv [] = runD [false] 3 (d_zh (gF n)) [t.pv] := by cases t <;> rfl
 rw [e, runD_of rfl]
 have ei : inP [false] 3 [t.pv] = [.v t.pv, .no, .no] := rfl
 rw [ei]
 unfold d_zh
 have er : dRng1 (dCons (dC (.int 16)) dNil) [.v t.pv, .v (.int 0), .no] = .ok (rngP 0 16) := rfl
 have fo := forD_fold (g := gSet 2) (body := sIf (dTr (dMeth q_holds (gF n) (dVar 0) (dCons (dVar 2) dNil))) (sAug 1 (fun i j => i + j) (d2 fShl (dC (.int 1)) (dSee 2))) sNext)
  (fun (b : Int × Sl) (w : PV) => match w with | .int i => ((if t.at i = true then b.1 + 1 * 2 ^ i.toNat else b.1), Sl.v w) | _ => b) (fun b => [.v t.pv, .v (.int b.1), b.2]) (rngP 0 16) (0, .no) (fun b w hw => by
   obtain ⟨i, hi, rfl⟩ : ∃ i : Nat, i < 16 /\ w = .int (0 + (i : Int)) := by
    unfold rngP at hw
    obtain ⟨i, hi, e⟩ := List.mem_map.mp hw
    exact ⟨i, List.mem_range.mp hi, e.symm⟩
   refine ⟨_, rfl, .inl ?_⟩
   rw [e_if, e_Tr, e_meth]
   show (((Rx.ok t.pv).bind fun x => callD q_holds (gF n) x (.ok [.int (0 + (i : Int))])).bind _).st _ = _
   rw [ok_bind, callD_ok, holds_ok t n _ h hd, ok_bind, ok_st]
   dsimp only
   by_cases hb : t.at (0 + (i : Int)) = true
   ·rw [if_pos hb, if_pos hb]
    have e2 : d2 fShl (dC (.int 1)) (dSee 2) ([.v t.pv, .v (.int b.1), .v (.int (0 + (i : Int)))] : PSt) = .ok (.int (1 * 2 ^ (0 + (i : Int)).toNat)) := by
     show (if 0 <= (0 + (i : Int)) /\ (0 + (i : Int)) <= 1000000 /\ (1 : Int).natAbs < 2 ^ 64 then Rx.ok (PV.int (1 * 2 ^ (0 + (i : Int)).toNat)) else .bad) = _
     rw [if_pos ⟨by omega, by omega, by decide⟩]
    show ((d2 fShl (dC (.int 1)) (dSee 2) [.v t.pv, .v (.int b.1), .v (.int (0 + (i : Int)))]).st _) = _
    rw [e2]; rfl
   ·rw [if_neg hb, if_neg hb]; rfl)
 have hf : (rngP 0 16).foldl (fun (b : Int × Sl) (w : PV) => match w with | .int i => ((if t.at i = true then b.1 + 1 * 2 ^ i.toNat else b.1), Sl.v w) | _ => b) (0, .no) = (((t.mk : Nat) : Int), Sl.v (.int 15)) := by
  have gen : ∀ n, ((rngP 0 n).foldl (fun (b : Int × Sl) (w : PV) => match w with | .int i => ((if t.at i = true then b.1 + 1 * 2 ^ i.toNat else b.1), Sl.v w) | _ => b) (0, .no)).1 = (maskN t.f n : Nat) := by
   intro n
   rw [<- fold_mask]
   unfold rngP
   induction n with
   | zero => rfl
   | succ n ih =>
    rw [List.range_succ, List.map_append, List.foldl_append, List.foldl_append]
    show (if t.at (0 + (n : Int)) = true then _ else _) = (if t.f n = true then _ else _)
    rw [ih]
    have : (0 + (n : Int)) = (n : Int) := by omega
    rw [this]
    rfl
  have g16 := gen 16
  have sn : ((rngP 0 16).foldl (fun (b : Int × Sl) (w : PV) => match w with | .int i => ((if t.at i = true then b.1 + 1 * 2 ^ i.toNat else b.1), Sl.v w) | _ => b) (0, .no)).2 = .v (.int 15) := rfl
  exact Prod.ext g16 sn
 rw [hf] at fo
 show fin ((match (forD (gSet 2) (sIf (dTr (dMeth q_holds (gF n) (dVar 0) (dCons (dVar 2) dNil))) (sAug 1 (fun i j => i + j) (d2 fShl (dC (.int 1)) (dSee 2))) sNext) (rngP 0 16) [.v t.pv, .v (.int 0), .no]) with | .nx ps' => sRet (dVar 1) ps' | r => r)) = _
 rw [fo]; rfl
theorem mk_lt (t : Tr) : t.mk < 65536 := maskN_lt t.f 16
theorem bit_nat (m k : Nat) : (Builtin.bitAnd ((m : Int) / 2 ^ k) 1 == 1) = m.testBit k := by
 have e : ((m : Int) / 2 ^ k) = ((m / 2 ^ k : Nat) : Int) := by
  rw [Int.natCast_ediv]; simp
 rw [e, show (1 : Int) = ((1 : Nat) : Int) from rfl, bitAnd_nat, Nat.testBit_eq_decide_div_mod_eq, Nat.and_one_is_mod]
 generalize m / 2 ^ k % 2 = r
 by_cases h : r = 1
 ·simp [h]
 ·have : ¬ ((r : Int) = 1) := by omega
  simp [h, this]
theorem mk_not (a : Tr) : (((Tr.neg a).mk : Nat) : Int) = 65535 - (a.mk : Nat) := by
 have := maskN_not a.f 16
 have e : (Tr.neg a).mk = maskN (fun i => !a.f i) 16 := rfl
 rw [e]
 have e2 : a.mk = maskN a.f 16 := rfl
 rw [e2]
 have : (2 : Nat) ^ 16 = 65536 := rfl
 omega
theorem lawtest_ok (n : Nat) (z : Int) : ∃ t : Tr, gF (n + 1) 10 [.int z] = .ok (.tup [t.pv, .int (t.mk : Nat)]) /\ t.ok /\ t.depth <= 2 := by
 rw [g_za, runD_of rfl]
 have ei : inP [false] 7 [.int z] = [.v (.int z), .no, .no, .no, .no, .no, .no] := rfl
 rw [ei]
 have hi : ∀ j : Int, 0 <= j -> j < 4 -> ∃ c m, fIx (.str "abcd") (.int j) = .ok (.str c) /\ Letter c /\ fIx (.lst [.int 43690, .int 52428, .int 61680, .int 65280]) (.int j) = .ok (.int m) /\ m = ((Tr.named c).mk : Nat) := by
  intro j h0 h1
  have : j = 0 \/ j = 1 \/ j = 2 \/ j = 3 := by omega
  rcases this with rfl | rfl | rfl | rfl
  ·exact ⟨"a", 43690, rfl, .inl rfl, rfl, by decide +kernel⟩
  ·exact ⟨"b", 52428, rfl, .inr (.inl rfl), rfl, by decide +kernel⟩
  ·exact ⟨"c", 61680, rfl, .inr (.inr (.inl rfl)), rfl, by decide +kernel⟩
  ·exact ⟨"d", 65280, rfl, .inr (.inr (.inr rfl)), rfl, by decide +kernel⟩
 obtain ⟨c, m, ec, oc, em, hm⟩ := hi (z % 4) (by omega) (by omega)
 obtain ⟨c', m', ec', oc', em', hm'⟩ := hi (z / 4 % 4) (by omega) (by omega)
 have q2 : ∀ a b : Tr, Builtin.bitAnd (a.mk : Nat) (b.mk : Nat) = (((Tr.both a b).mk : Nat) : Int) := fun a b => by
  rw [bitAnd_nat, Tr.mk, Tr.mk, maskN_and]; rfl
 have q3 : ∀ a b : Tr, Builtin.bitOr (a.mk : Nat) (b.mk : Nat) = (((Tr.either a b).mk : Nat) : Int) := fun a b => by
  rw [bitOr_nat, Tr.mk, Tr.mk, maskN_or]; rfl
 have q4 : (((Tr.yes).mk : Nat) : Int) = 65535 := by decide +kernel
 have q5 : (((Tr.no).mk : Nat) : Int) = 0 := by decide +kernel
 have xn : ∀ t : Tr, Builtin.bitXor 65535 (t.mk : Nat) = ((Tr.neg t).mk : Nat) := by
  intro t
  have e1 := q2 .yes t
  have e2 := q3 .yes t
  have m1 : (Tr.both .yes t).mk = t.mk := maskN_congr fun i _ => rfl
  have m2 : (Tr.either .yes t).mk = Tr.yes.mk := maskN_congr fun i _ => rfl
  rw [q4, m1] at e1
  rw [q4, m2, q4] at e2
  rw [mk_not]
  unfold Builtin.bitXor
  rw [e1, e2]
 subst hm hm'
 unfold d_za
 by_cases h0 : z / 16 % 8 = 0
 ·exact ⟨.yes, by simp [ec, ec', em, em', h0, q4, -e_ixL]; rfl, True.intro, by simp [Tr.depth]⟩
 by_cases h1 : z / 16 % 8 = 1
 ·exact ⟨.neg (.named c), by simp [ec, ec', em, em', h1, xn, -e_ixL]; rfl, oc, by simp [Tr.depth]⟩
 by_cases h2 : z / 16 % 8 = 2
 ·exact ⟨.both (.named c) (.named c'), by simp [ec, ec', em, em', h2, q2, -e_ixL]; rfl, ⟨oc, oc'⟩, by simp [Tr.depth]⟩
 by_cases h3 : z / 16 % 8 = 3
 ·exact ⟨.either (.named c) (.neg (.named c')), by simp [ec, ec', em, em', h3, xn, q3, -e_ixL]; rfl, ⟨oc, oc'⟩, by simp [Tr.depth]⟩
 by_cases h4 : z / 16 % 8 = 4
 ·exact ⟨.neg (.either (.named c) (.named c')), by simp [ec, ec', em, em', h4, xn, q3, -e_ixL]; rfl, ⟨oc, oc'⟩, by simp [Tr.depth]⟩
 by_cases h5 : z / 16 % 8 = 5
 ·by_cases h6 : z / 128 % 4 = 0
  ·exact ⟨.no, by simp [ec, ec', em, em', h5, h6, q5, -e_ixL]; rfl, True.intro, by simp [Tr.depth]⟩
  ·have b6 : (z / 128 % 4 == 0) = false := by simpa using h6
   exact ⟨.named c, by simp [ec, ec', em, em', h5, b6, -e_ixL]; rfl, oc, by simp [Tr.depth]⟩
 ·have b0 : (z / 16 % 8 == 0) = false := by simpa using h0
  have b1 : (z / 16 % 8 == 1) = false := by simpa using h1
  have b2 : (z / 16 % 8 == 2) = false := by simpa using h2
  have b3 : (z / 16 % 8 == 3) = false := by simpa using h3
  have b4 : (z / 16 % 8 == 4) = false := by simpa using h4
  have b5 : (z / 16 % 8 == 5) = false := by simpa using h5
  exact ⟨.named c, by simp [ec, ec', em, em', b0, b1, b2, b3, b4, b5, -e_ixL]; rfl, oc, by simp [Tr.depth]⟩
theorem mixed_ok (n : Nat) (z k : Int) (h0 : 0 <= k) (h1 : k <= 1000000) : ∃ y, gF (n + 1) 9 [.int z, .int k] = .ok (.int y) /\ 0 <= y /\ y < 2147483647 := by
 rw [g_z9, runD_of rfl]
 have ei : inP [false, false] 3 [.int z, .int k] = [.v (.int z), .v (.int k), .no] := rfl
 rw [ei]
 unfold d_z9
 have a1 : ((z % 2147483647 + 7919 * k + 1) * 48271 % 2147483647) < 2147483647 := by omega
 have a2 : 0 <= ((z % 2147483647 + 7919 * k + 1) * 48271 % 2147483647) := by omega
 generalize hw : ((z % 2147483647 + 7919 * k + 1) * 48271 % 2147483647) = w at a1 a2
 refine ⟨w * (w / 1009 + 69621) % 2147483647, ?_, by omega, by omega⟩
 have b1 : (-18446744073709551616 < w /\ w < 18446744073709551616) := by omega
 have b2 : (-18446744073709551616 < z % 2147483647 + 7919 * k + 1 /\ z % 2147483647 + 7919 * k + 1 < 18446744073709551616) := by omega
 simp [hw, b1, b2]
theorem cell_ok (n : Nat) (ns : List Int) (k : Nat) : ∃ z, gF (n + 1) 8 [.lst (ns.map PV.int), .int (k : Int)] = .ok (.int z) := by
 rw [g_z8, runD_of rfl]
 show ∃ z, fin (d_z8 (gF n) [.v (.lst (ns.map PV.int)), .v (.int (k : Int))]) = .ok (.int z)
 unfold d_z8
 by_cases h : k < ns.length
 ·have hi : atI (ns.map PV.int) (k : Int) = some (PV.int ns[k]) := by
   rw [atI_nat (by rw [List.getElem?_map, List.getElem?_eq_getElem h]; rfl)]
  exact ⟨ns[k], by simp [h, hi]⟩
 ·exact ⟨0, by simp [h]⟩
def DeedL (c : Str) : Prop := c = "P" \/ c = "Q" \/ c = "R" \/ c = "S" \/ c = "T"
def DS5 : List Str := ["P", "Q", "R", "S", "T"]
theorem mem5 {e : Str} : e ∈ DS5 ↔ DeedL e := by simp [DS5, DeedL]
def Sub (a b : Nat) : Prop := ∀ s, s < 16 -> a.testBit s = true -> b.testBit s = true
def okAt (L : Str -> Nat -> Nat) (m s : Nat) : Bool := DS5.all fun e => !(L e s &&& m == 0)
def Clo (L : Str -> Nat -> Nat) (c : Nat) : Prop := ∀ s, s < 16 -> c.testBit s = true -> okAt L c s = true
def stp (L : Str -> Nat -> Nat) (m : Nat) : Nat := maskN (fun s => m.testBit s && okAt L m s) 16
def lastF (L : Str -> Nat -> Nat) : Nat -> Nat -> Nat
 | 0, m => m
 | k + 1, m => if stp L m = m then m else lastF L k (stp L m)
theorem hi_bit {m s : Nat} (h : m < 65536) (hs : 16 <= s) : m.testBit s = false := Nat.testBit_lt_two_pow (Nat.lt_of_lt_of_le h (show 2 ^ 16 <= 2 ^ s from Nat.pow_le_pow_right (by decide) hs))
theorem sub_ext {a b : Nat} (ha : a < 65536) (hb : b < 65536) (h1 : Sub a b) (h2 : Sub b a) : a = b := by
 apply Nat.eq_of_testBit_eq
 intro s
 by_cases hs : s < 16
 ·cases e : a.testBit s
  ·cases e' : b.testBit s
   ·rfl
   ·rw [h2 s hs e'] at e; cases e
  ·rw [h1 s hs e]
 ·rw [hi_bit ha (by omega), hi_bit hb (by omega)]
theorem stp_bit (L : Str -> Nat -> Nat) (m s : Nat) (hs : s < 16) : (stp L m).testBit s = (m.testBit s && okAt L m s) := by
 unfold stp
 rw [maskN_bit]
 simp [hs]
theorem stp_lt16 (L : Str -> Nat -> Nat) (m : Nat) : stp L m < 65536 := maskN_lt _ 16
theorem stp_sub (L : Str -> Nat -> Nat) (m : Nat) : Sub (stp L m) m := fun s hs h => by
 rw [stp_bit L m s hs, Bool.and_eq_true] at h; exact h.1
theorem sub_le {a b : Nat} (ha : a < 65536) (h : Sub a b) : a <= b := by
 have : a &&& b = a := by
  apply Nat.eq_of_testBit_eq
  intro s
  rw [Nat.testBit_and]
  by_cases hs : s < 16
  ·cases e : a.testBit s
   ·rfl
   ·rw [h s hs e]; rfl
  ·rw [hi_bit ha (by omega)]; rfl
 rw [<- this]
 exact Nat.and_le_right
theorem last_lt (L : Str -> Nat -> Nat) : ∀ (k m : Nat), m < 65536 -> lastF L k m < 65536
 | 0, m, h => h
 | k + 1, m, h => by
  unfold lastF
  split
  ·exact h
  ·exact last_lt L k _ (stp_lt16 L m)
theorem last_fix (L : Str -> Nat -> Nat) : ∀ (k m : Nat), m < k -> m < 65536 -> stp L (lastF L k m) = lastF L k m
 | 0, m, h, _ => by omega
 | k + 1, m, h, h2 => by
  unfold lastF
  split
  ·assumption
  ·rename_i hn
   have hle := sub_le (stp_lt16 L m) (stp_sub L m)
   exact last_fix L k (stp L m) (by omega) (stp_lt16 L m)
theorem last_sub (L : Str -> Nat -> Nat) : ∀ (k m : Nat), Sub (lastF L k m) m
 | 0, m => fun s _ h => h
 | k + 1, m => by
  unfold lastF
  split
  ·exact fun s _ h => h
  ·exact fun s hs h => stp_sub L m s hs (last_sub L k (stp L m) s hs h)
theorem and_ne {a m s : Nat} (h1 : a.testBit s = true) (h2 : m.testBit s = true) : (a &&& m == 0) = false := by
 have : (a &&& m).testBit s = true := by rw [Nat.testBit_and, h1, h2]; rfl
 rw [beq_eq_false_iff_ne]
 intro z
 rw [z] at this
 simp at this
theorem and_bit {a m : Nat} (ha : m < 65536) (h : (a &&& m == 0) = false) : ∃ s, s < 16 /\ a.testBit s = true /\ m.testBit s = true := by
 rw [beq_eq_false_iff_ne] at h
 obtain ⟨s, hs⟩ := Nat.exists_testBit_of_ne_zero h
 rw [Nat.testBit_and, Bool.and_eq_true] at hs
 refine ⟨s, ?_, hs.1, hs.2⟩
 rcases Nat.lt_or_ge s 16 with q | q
 ·exact q
 ·rw [hi_bit ha q] at hs; cases hs.2
theorem okAt_mono {L : Str -> Nat -> Nat} {c m s : Nat} (hc : c < 65536) (h : Sub c m) (ho : okAt L c s = true) : okAt L m s = true := by
 unfold okAt at ho ⊢
 rw [List.all_eq_true] at ho ⊢
 intro e he
 have := ho e he
 rw [Bool.not_eq_true'] at this ⊢
 obtain ⟨j, hj, h1, h2⟩ := and_bit hc this
 exact and_ne h1 (h j hj h2)
theorem last_max {L : Str -> Nat -> Nat} {c : Nat} (hc : c < 65536) (cc : Clo L c) : ∀ (k m : Nat), Sub c m -> Sub c (lastF L k m)
 | 0, m, h => h
 | k + 1, m, h => by
  unfold lastF
  split
  ·exact h
  ·refine last_max hc cc k (stp L m) fun s hs hb => ?_
   rw [stp_bit L m s hs, h s hs hb, okAt_mono hc h (cc s hs hb)]
   rfl
theorem fix_clo {L : Str -> Nat -> Nat} {m : Nat} (h : stp L m = m) : Clo L m := fun s hs hb => by
 have := stp_bit L m s hs
 rw [h, hb] at this
 simpa using this.symm
def gdF (L : Str -> Nat -> Nat) (u : Nat) : Nat := lastF L 65536 u
theorem gd_clo (L : Str -> Nat -> Nat) {u : Nat} (h : u < 65536) : Clo L (gdF L u) := fix_clo (last_fix L 65536 u h h)
theorem gd_lt (L : Str -> Nat -> Nat) {u : Nat} (h : u < 65536) : gdF L u < 65536 := last_lt L 65536 u h
theorem gd_sub (L : Str -> Nat -> Nat) (u : Nat) : Sub (gdF L u) u := last_sub L 65536 u
theorem gd_max {L : Str -> Nat -> Nat} {c u : Nat} (hc : c < 65536) (cc : Clo L c) (h : Sub c u) : Sub c (gdF L u) := last_max hc cc 65536 u h
def bits (m : Nat) : List Nat := (List.range 16).filter fun i => m.testBit i
theorem mem_bits {m s : Nat} : s ∈ bits m ↔ s < 16 /\ m.testBit s = true := by simp [bits]
theorem bits_len (m : Nat) : (bits m).length <= 16 := by
 have := List.length_filter_le (fun i => m.testBit i) (List.range 16)
 rw [List.length_range] at this
 exact this
theorem bits_nil {m : Nat} (h : m < 65536) : bits m = [] ↔ m = 0 := by
 constructor
 ·intro z
  apply sub_ext h (by decide)
  ·intro s hs hb
   have : s ∈ bits m := mem_bits.mpr ⟨hs, hb⟩
   rw [z] at this; cases this
  ·intro s hs hb; simp at hb
 ·rintro rfl; simp [bits]
end M44
end
section
namespace M44
open PySem L2 DN
inductive Sy where
 | nowhere (t : Tr) | behind (b : Tr) (d : Str) (a : Tr) | through (t : Tr) (d : Str)
def Sy.pv : Sy -> PV
 | .nowhere t => .obj 9 [t.pv] | .behind b d a => .obj 10 [b.pv, .str d, a.pv] | .through t d => .obj 11 [t.pv, .str d]
def Sy.ok (D : Nat) : Sy -> Prop
 | .nowhere t => t.ok /\ t.depth < D | .behind b d a => (b.ok /\ b.depth < D) /\ DeedL d /\ (a.ok /\ a.depth < D) | .through t d => (t.ok /\ t.depth < D) /\ DeedL d
def Sy.bars : Sy -> Nat -> Bool
 | .nowhere t, s => t.f s
 | _, _ => false
def Sy.lm : Sy -> Str -> Nat -> Nat
 | .nowhere _, _, _ => 65535
 | .behind b d a, e, s => if e = d /\ b.f s = true then a.mk else 65535
 | .through t d, e, s => if e = d then (if t.f s = true then t.mk else (Tr.neg t).mk) else 65535
def letm (ys : List Sy) (e : Str) (s : Nat) : Nat := ys.foldl (fun m y => m &&& y.lm e s) 65535
def unb (ys : List Sy) : Nat := maskN (fun s => !(ys.any fun y => y.bars s)) 16
def gdS (ys : List Sy) : Nat := gdF (letm ys) (unb ys)
theorem unb_lt (ys : List Sy) : unb ys < 65536 := maskN_lt _ 16
theorem Sy.lm_lt (y : Sy) (e : Str) (s : Nat) : y.lm e s < 65536 := by
 cases y with
 | nowhere t => exact (by decide : 65535 < 65536)
 | behind b d a =>
  show (if e = d /\ b.f s = true then a.mk else 65535) < 65536
  split
  ·exact mk_lt a
  ·decide
 | through t d =>
  show (if e = d then (if t.f s = true then t.mk else (Tr.neg t).mk) else 65535) < 65536
  split
  ·split
   ·exact mk_lt t
   ·exact mk_lt _
  ·decide
theorem is_in_ok (n m s : Nat) : gF (n + 1) 0 [.int (s : Int), .int (m : Int)] = .ok (.bl (m.testBit s)) := by
 rw [g_z0, runD_of rfl]
 show fin (d_z0 (gF n) [.v (.int (s : Int)), .v (.int (m : Int))]) = _
 have h0 : (0 : Int) <= (s : Int) := by omega
 have hb := bit_nat m s
 unfold d_z0
 simp [h0, hb]
theorem settings_in_ok (n m : Nat) : gF (n + 2) 1 [.int (m : Int)] = .ok (.lst ((bits m).map fun (i : Nat) => PV.int (i : Int))) := by
 rw [g_z1, runD_of rfl]
 show fin (d_z1 (gF (n + 1)) [.v (.int (m : Int))]) = _
 have hc : dComp ["setting"] [("mask", 0)] (dRng1 (dCons (dC (.int (16))) dNil)) (gSet 0) (dTr (dCall (gF (n + 1) 0) (dCons (dVar 0) (dCons (dVar 1) dNil)))) (dVar 0) [.v (.int (m : Int))] = .ok ((bits m).map fun (i : Nat) => PV.int (i : Int)) := by
  have e : dRng1 (dCons (dC (.int 16)) dNil) ([.v (.int (m : Int))] : PSt) = .ok ((List.range 16).map fun (i : Nat) => PV.int (i : Int)) := rfl
  unfold dComp
  rw [e, ok_bind, if_pos (by rw [List.length_map, List.length_range]; decide)]
  refine comp_emb (ps0 := [.v (.int (m : Int))]) (fun (i : Nat) => PV.int (i : Int)) (fun i => m.testBit i) (fun (i : Nat) => PV.int (i : Int)) (List.range 16) .no fun i hi => ⟨?_, fun _ => rfl⟩
  have e1 := is_in_ok n m i
  simp [e1]
 unfold d_z1
 simp only [e_ret, e_ofN, hc, ok_bind, ok_st, fin_ret]
theorem bars_ok (D : Nat) (y : Sy) (h : y.ok D) (n s : Nat) (hn : D <= n) : callM q_bars (gF (n + 1)) y.pv [.int (s : Int)] = .ok (.bl (y.bars s)) := by
 cases y with
 | nowhere t =>
  have e0 : callM q_bars (gF (n + 1)) (Sy.nowhere t).pv [.int (s : Int)] = runD [false, false] 2 (d_zt (gF n)) [.obj 9 [t.pv], .int (s : Int)] := rfl
  rw [e0, runD_of rfl]
  show fin (d_zt (gF n) [.v (.obj 9 [t.pv]), .v (.int (s : Int))]) = _
  have hh := holds_ok t n (s : Int) h.1 (by have := h.2; omega)
  have f1 : fldP a_test (.obj 9 [t.pv]) = .ok t.pv := rfl
  unfold d_zt
  simp [f1, hh, Sy.bars, Tr.f]
 | behind b d a => rfl
 | through t d => rfl
theorem later_ok (D : Nat) (y : Sy) (h : y.ok D) (n : Nat) (e : Str) (s : Nat) (hs : s < 16) (hn : D <= n) : callM q_later_mask (gF (n + 2)) y.pv [.str e, .int (s : Int)] = .ok (.int (y.lm e s : Nat)) := by
 cases y with
 | nowhere t => rfl
 | behind b d a =>
  have e0 : callM q_later_mask (gF (n + 2)) (Sy.behind b d a).pv [.str e, .int (s : Int)] = runD [false, false, false] 3 (d_zu (gF (n + 1))) [.obj 10 [b.pv, .str d, a.pv], .str e, .int (s : Int)] := rfl
  rw [e0, runD_of rfl]
  show fin (d_zu (gF (n + 1)) [.v (.obj 10 [b.pv, .str d, a.pv]), .v (.str e), .v (.int (s : Int))]) = _
  obtain ⟨⟨o1, d1⟩, _, o2, d2⟩ := h
  have hh := holds_ok b (n + 1) (s : Int) o1 (by omega)
  have hm := mask_ok a n o2 (by omega)
  have f1 : fldP a_deed (.obj 10 [b.pv, .str d, a.pv]) = .ok (.str d) := rfl
  have f2 : fldP a_before (.obj 10 [b.pv, .str d, a.pv]) = .ok b.pv := rfl
  have f3 : fldP a_after (.obj 10 [b.pv, .str d, a.pv]) = .ok a.pv := rfl
  unfold d_zu Sy.lm
  by_cases he : e = d
  ·subst he
   have hh : callM q_holds (gF (n + 1)) b.pv [.int (s : Int)] = .ok (.bl (b.f s)) := hh
   cases hb : b.f s
   ·rw [hb] at hh
    simp [f1, f2, f3, hh, hm, hb]
   ·rw [hb] at hh
    simp [f1, f2, f3, hh, hm, hb]
  ·have be : (e == d) = false := by simpa using he
   simp [f1, be, he]
 | through t d =>
  have e0 : callM q_later_mask (gF (n + 2)) (Sy.through t d).pv [.str e, .int (s : Int)] = runD [false, false, false] 4 (d_zv (gF (n + 1))) [.obj 11 [t.pv, .str d], .str e, .int (s : Int)] := rfl
  rw [e0, runD_of rfl]
  show fin (d_zv (gF (n + 1)) [.v (.obj 11 [t.pv, .str d]), .v (.str e), .v (.int (s : Int)), .no]) = _
  obtain ⟨⟨o1, d1⟩, _⟩ := h
  have hm := mask_ok t n o1 (by omega)
  have hi := is_in_ok n t.mk s
  have hb : t.mk.testBit s = t.f s := by
   unfold Tr.mk
   rw [maskN_bit]; simp [hs]
  rw [hb] at hi
  have f1 : fldP a_deed (.obj 11 [t.pv, .str d]) = .ok (.str d) := rfl
  have f2 : fldP a_test (.obj 11 [t.pv, .str d]) = .ok t.pv := rfl
  have hn := mk_not t
  unfold d_zv Sy.lm
  by_cases he : e = d
  ·subst he
   cases hf : t.f s
   ·rw [hf] at hi
    simp [f1, f2, hm, hi, hn, hf]
   ·rw [hf] at hi
    simp [f1, f2, hm, hi, hf]
  ·have be : (e == d) = false := by simpa using he
   simp [f1, be, he]
theorem later_all_ok (D : Nat) (ys : List Sy) (h : ∀ y ∈ ys, y.ok D) (n : Nat) (e : Str) (s : Nat) (hs : s < 16) (hn : D <= n) : gF (n + 3) 4 [.lst (ys.map Sy.pv), .str e, .int (s : Int)] = .ok (.int (letm ys e s : Nat)) := by
 rw [g_z4, runD_of rfl]
 show fin (d_z4 (gF (n + 2)) [.v (.lst (ys.map Sy.pv)), .v (.str e), .v (.int (s : Int)), .no, .no]) = _
 have lp : ∀ (zs : List Sy) (m : Nat) (s4 : Sl), (∀ y ∈ zs, y.ok D) -> fin ((forD (gSet 4) (b_z4_1 (gF (n + 2))) (zs.map Sy.pv) [.v (.lst (ys.map Sy.pv)), .v (.str e), .v (.int (s : Int)), .v (.int (m : Int)), s4]).next (sRet (dVar 3))) = .ok (.int ((zs.foldl (fun m y => m &&& y.lm e s) m : Nat) : Int)) := by
  intro zs
  induction zs with
  | nil => intro m s4 _; rfl
  | cons y zs ih =>
   intro m s4 hz
   have hl := later_ok D y (hz y List.mem_cons_self) n e s hs hn
   have eg : gSet 4 y.pv [.v (.lst (ys.map Sy.pv)), .v (.str e), .v (.int (s : Int)), .v (.int (m : Int)), s4] = .ok [.v (.lst (ys.map Sy.pv)), .v (.str e), .v (.int (s : Int)), .v (.int (m : Int)), .v y.pv] := rfl
   have body : b_z4_1 (gF (n + 2)) [.v (.lst (ys.map Sy.pv)), .v (.str e), .v (.int (s : Int)), .v (.int (m : Int)), .v y.pv] = .nx [.v (.lst (ys.map Sy.pv)), .v (.str e), .v (.int (s : Int)), .v (.int ((m &&& y.lm e s : Nat) : Int)), .v y.pv] := by
    unfold b_z4_1 sAug
    have ea : dMeth q_later_mask (gF (n + 2)) (dVar 4) (dCons (dVar 1) (dCons (dVar 2) dNil)) [.v (.lst (ys.map Sy.pv)), .v (.str e), .v (.int (s : Int)), .v (.int (m : Int)), .v y.pv] = .ok (.int (y.lm e s : Nat)) := hl
    have := bitAnd_nat m (y.lm e s)
    show ((dMeth q_later_mask (gF (n + 2)) (dVar 4) (dCons (dVar 1) (dCons (dVar 2) dNil)) [.v (.lst (ys.map Sy.pv)), .v (.str e), .v (.int (s : Int)), .v (.int (m : Int)), .v y.pv]).st fun w => (match w with | .int z => Rs.nx [.v (.lst (ys.map Sy.pv)), .v (.str e), .v (.int (s : Int)), .v (.int (Builtin.bitAnd (m : Int) z)), .v y.pv] | _ => .bad)) = _
    rw [ea, ok_st]
    show Rs.nx _ = _
    rw [this]
   rw [List.map_cons, forD, eg, ok_st, body]
   exact ih _ _ fun z hz' => hz z (List.mem_cons_of_mem _ hz')
 have := lp ys 65535 .no h
 unfold d_z4
 rw [e_seq]
 show fin ((forD (gSet 4) (b_z4_1 (gF (n + 2))) (ys.map Sy.pv) [.v (.lst (ys.map Sy.pv)), .v (.str e), .v (.int (s : Int)), .v (.int 65535), .no]).next (sRet (dVar 3))) = _
 exact this
theorem bls_map {α : Type} (f : α -> Bool) : ∀ l : List α, blsOf (l.map fun x => PV.bl (f x)) = some (l.map f)
 | [] => rfl
 | x :: l => by
  rw [List.map_cons, blsOf, bls_map f l]; rfl
theorem any_map {α : Type} (f : α -> Bool) (l : List α) : bAny [.lst (l.map fun x => PV.bl (f x))] = .ok (.bl (l.any f)) := by
 show (match blsOf (l.map fun x => PV.bl (f x)) with | some ns => Rx.ok (PV.bl (ns.any id)) | none => .bad) = _
 rw [bls_map f l]
 show Rx.ok (PV.bl ((l.map f).any id)) = _
 rw [List.any_map]; rfl
theorem all_map {α : Type} (f : α -> Bool) (l : List α) : bAll [.lst (l.map fun x => PV.bl (f x))] = .ok (.bl (l.all f)) := by
 show (match blsOf (l.map fun x => PV.bl (f x)) with | some ns => Rx.ok (PV.bl (ns.all id)) | none => .bad) = _
 rw [bls_map f l]
 show Rx.ok (PV.bl ((l.map f).all id)) = _
 rw [List.all_map]; rfl
theorem barred_sum (f : Nat -> Bool) : ∀ n, (List.range n).foldl (fun (b : Int) (i : Nat) => if f i = true then b - 1 * 2 ^ i else b) 65535 = 65535 - (maskN f n : Nat)
 | 0 => rfl
 | n + 1 => by
  rw [List.range_succ, List.foldl_append, barred_sum f n]
  show (if f n = true then _ else _) = 65535 - (((2 ^ n * (f n).toNat + maskN f n : Nat)) : Int)
  cases h : f n
  ·simp
  ·simp; omega
theorem unbarred_ok (D : Nat) (ys : List Sy) (h : ∀ y ∈ ys, y.ok D) (hl : ys.length <= 1000) (n : Nat) (hn : D <= n) : gF (n + 2) 2 [.lst (ys.map Sy.pv)] = .ok (.int (unb ys : Nat)) := by
 rw [g_z2, runD_of rfl]
 show fin (d_z2 (gF (n + 1)) [.v (.lst (ys.map Sy.pv)), .no, .no]) = _
 have lp : ∀ (l : List Nat) (b : Int) (s2 : Sl), fin ((forD (gSet 2) (b_z2_1 (gF (n + 1))) (l.map fun (i : Nat) => PV.int (i : Int)) [.v (.lst (ys.map Sy.pv)), .v (.int b), s2]).next (sRet (dVar 1))) = .ok (.int (l.foldl (fun (b : Int) (i : Nat) => if (ys.any fun y => y.bars i) = true then b - 1 * 2 ^ i else b) b)) \/ ∃ i ∈ l, 16 <= i := by
  intro l
  induction l with
  | nil => intro b s2; exact .inl rfl
  | cons i l ih =>
   intro b s2
   by_cases h16 : 16 <= i
   ·exact .inr ⟨i, List.mem_cons_self, h16⟩
   ·have hc : dComp ["saying"] [("setting", 2)] (dItems (dSee 0)) (gSet 0) dYes (dMeth q_bars (gF (n + 1)) (dVar 0) (dCons (dVar 1) dNil)) [.v (.lst (ys.map Sy.pv)), .v (.int b), .v (.int (i : Int))] = .ok (ys.map fun y => PV.bl (y.bars i)) := by
     have ei : dItems (dSee 0) [.v (.lst (ys.map Sy.pv)), .v (.int b), .v (.int (i : Int))] = .ok (ys.map Sy.pv) := rfl
     unfold dComp
     rw [ei, ok_bind, if_pos (by rw [List.length_map]; show ys.length <= 16777216; omega)]
     refine comp_all (ps0 := [.v (.int (i : Int))]) Sy.pv (fun y => PV.bl (y.bars i)) ys .no fun y hy => ?_
     exact bars_ok D y (h y hy) n i hn
    have ha := any_map (fun y : Sy => y.bars i) ys
    have e2 : d2 fShl (dC (.int 1)) (dSee 2) ([.v (.lst (ys.map Sy.pv)), .v (.int b), .v (.int (i : Int))] : PSt) = .ok (.int (1 * 2 ^ i)) := by
     show (if 0 <= (i : Int) /\ (i : Int) <= 1000000 /\ (1 : Int).natAbs < 2 ^ 64 then Rx.ok (PV.int (1 * 2 ^ ((i : Int)).toNat)) else .bad) = _
     rw [if_pos ⟨by omega, by omega, by decide⟩, Int.toNat_natCast]
    have et : dTr (dCall bAny (dCons (dOfN (dComp ["saying"] [("setting", 2)] (dItems (dSee 0)) (gSet 0) dYes (dMeth q_bars (gF (n + 1)) (dVar 0) (dCons (dVar 1) dNil)))) dNil)) [.v (.lst (ys.map Sy.pv)), .v (.int b), .v (.int (i : Int))] = .ok (ys.any fun y => y.bars i) := by
     simp only [e_Tr, e_call, e_cons, e_ofN, hc, ok_bind, e_nil, consR_ok, ha]
    have body : b_z2_1 (gF (n + 1)) [.v (.lst (ys.map Sy.pv)), .v (.int b), .v (.int (i : Int))] = .nx [.v (.lst (ys.map Sy.pv)), .v (.int (if (ys.any fun y => y.bars i) = true then b - 1 * 2 ^ i else b)), .v (.int (i : Int))] := by
     unfold b_z2_1
     rw [e_if, et]
     cases (ys.any fun y => y.bars i)
     ·rfl
     ·show ((d2 fShl (dC (.int 1)) (dSee 2) [.v (.lst (ys.map Sy.pv)), .v (.int b), .v (.int (i : Int))]).st _) = _
      rw [e2]; rfl
    have eg : gSet 2 (PV.int (i : Int)) [.v (.lst (ys.map Sy.pv)), .v (.int b), s2] = .ok [.v (.lst (ys.map Sy.pv)), .v (.int b), .v (.int (i : Int))] := rfl
    rcases ih (if (ys.any fun y => y.bars i) = true then b - 1 * 2 ^ i else b) (.v (.int (i : Int))) with q | ⟨j, hj, h16'⟩
    ·left
     rw [List.map_cons, forD, eg, ok_st, body]
     exact q
    ·exact .inr ⟨j, List.mem_cons_of_mem _ hj, h16'⟩
 rcases lp (List.range 16) 65535 .no with q | ⟨i, hi, h16⟩
 ·rw [barred_sum] at q
  have eu : (65535 - ((maskN (fun i => ys.any fun y => y.bars i) 16 : Nat) : Int)) = (unb ys : Nat) := by
   have := maskN_not (fun i => ys.any fun y => y.bars i) 16
   have e2 : (2 : Nat) ^ 16 = 65536 := rfl
   unfold unb
   omega
  rw [eu] at q
  unfold d_z2
  exact q
 ·have := List.mem_range.mp hi; omega
def K5 : List Key := [.inr "P", .inr "Q", .inr "R", .inr "S", .inr "T"]
def dic5 (f : Str -> PV) : PV := .dic K5 (DS5.map f)
theorem get5 (f : Str -> PV) {e : Str} (h : DeedL e) : fDGet (dic5 f) (.str e) = .ok (f e) := by
 rcases h with rfl | rfl | rfl | rfl | rfl <;> rfl
def rowN (g : Nat -> Nat) : PV := .lst ((List.range 16).map fun (i : Nat) => PV.int ((g i : Nat) : Int))
theorem rowN_ix (g : Nat -> Nat) {s : Nat} (h : s < 16) : fIx (rowN g) (.int (s : Int)) = .ok (.int ((g s : Nat) : Int)) := by
 show (match atI ((List.range 16).map fun (i : Nat) => PV.int ((g i : Nat) : Int)) (s : Int) with | some w => Rx.ok w | none => .bad) = _
 rw [atI_nat (v := PV.int ((g s : Nat) : Int)) (by rw [List.getElem?_map, List.getElem?_range h]; rfl)]
theorem dput_at {i : Nat} {dk dv : DP} {ps : PSt} {ks : List Key} {xs : List PV} {w : PV} {e : Str} (h1 : dv ps = .ok w) (h2 : dk ps = .ok (.str e)) (h3 : ps[i]? = some (.own (.dic ks xs))) (hz : ks.length < sizeLine) :
  sDput i dk dv ps = .nx (ps.set i (.own (.dic (putKs ks (.inr e)) (putXs ks xs (.inr e) w)))) := by
 unfold sDput
 rw [h1, ok_st, h2, ok_st, h3]
 exact if_pos hz
theorem fill5 {body : DS} {emb : Sl -> Sl -> PSt} {i : Nat} {F : Str -> PV} (hg : ∀ s1 s2 w, gSet i w (emb s1 s2) = .ok (emb s1 (.v w)))
  (hb : ∀ ks xs e, DeedL e -> ks.length <= 5 -> body (emb (.own (.dic ks xs)) (.v (.str e))) = .nx (emb (.own (.dic (putKs ks (.inr e)) (putXs ks xs (.inr e) (F e)))) (.v (.str e)))) (s2 : Sl) :
  forD (gSet i) body (DS5.map PV.str) (emb (.own (.dic [] [])) s2) = .nx (emb (.own (.dic K5 (DS5.map F))) (.v (.str "T"))) := by
 show forD (gSet i) body [.str "P", .str "Q", .str "R", .str "S", .str "T"] _ = _
 have b0 := hb [] [] "P" (.inl rfl) (by decide)
 have b1 := hb [.inr "P"] [F "P"] "Q" (.inr (.inl rfl)) (by decide)
 have b2 := hb [.inr "P", .inr "Q"] [F "P", F "Q"] "R" (.inr (.inr (.inl rfl))) (by decide)
 have b3 := hb [.inr "P", .inr "Q", .inr "R"] [F "P", F "Q", F "R"] "S" (.inr (.inr (.inr (.inl rfl)))) (by decide)
 have b4 := hb [.inr "P", .inr "Q", .inr "R", .inr "S"] [F "P", F "Q", F "R", F "S"] "T" (.inr (.inr (.inr (.inr rfl)))) (by decide)
 rw [forD, hg, ok_st, b0]
 show forD (gSet i) body [.str "Q", .str "R", .str "S", .str "T"] (emb (.own (.dic [.inr "P"] [F "P"])) (.v (.str "P"))) = _
 rw [forD, hg, ok_st, b1]
 show forD (gSet i) body [.str "R", .str "S", .str "T"] (emb (.own (.dic [.inr "P", .inr "Q"] [F "P", F "Q"])) (.v (.str "Q"))) = _
 rw [forD, hg, ok_st, b2]
 show forD (gSet i) body [.str "S", .str "T"] (emb (.own (.dic [.inr "P", .inr "Q", .inr "R"] [F "P", F "Q", F "R"])) (.v (.str "R"))) = _
 rw [forD, hg, ok_st, b3]
 show forD (gSet i) body [.str "T"] (emb (.own (.dic [.inr "P", .inr "Q", .inr "R", .inr "S"] [F "P", F "Q", F "R", F "S"])) (.v (.str "S"))) = _
 rw [forD, hg, ok_st, b4]
 rfl
theorem let_all_ok (D : Nat) (ys : List Sy) (h : ∀ y ∈ ys, y.ok D) (n : Nat) (hn : D <= n) : gF (n + 4) 3 [.lst (ys.map Sy.pv)] = .ok (dic5 fun e => rowN (letm ys e)) := by
 rw [g_z3, runD_of rfl]
 show fin (d_z3 (gF (n + 3)) [.v (.lst (ys.map Sy.pv)), .no, .no]) = _
 have lp := fill5 (body := b_z3_1 (gF (n + 3))) (emb := fun s1 s2 => [.v (.lst (ys.map Sy.pv)), s1, s2]) (i := 2) (F := fun e => rowN (letm ys e)) (fun _ _ _ => rfl) (fun ks xs e he hk => by
  have hc : dComp ["setting"] [("sayings", 0), ("deed", 2)] (dRng1 (dCons (dC (.int (16))) dNil)) (gSet 0) dYes (dCall (gF (n + 3) 4) (dCons (dVar 1) (dCons (dVar 2) (dCons (dVar 0) dNil)))) [.v (.lst (ys.map Sy.pv)), .own (.dic ks xs), .v (.str e)] = .ok ((List.range 16).map fun (i : Nat) => PV.int ((letm ys e i : Nat) : Int)) := by
   have ei : dRng1 (dCons (dC (.int 16)) dNil) ([.v (.lst (ys.map Sy.pv)), .own (.dic ks xs), .v (.str e)] : PSt) = .ok ((List.range 16).map fun (i : Nat) => PV.int (i : Int)) := rfl
   unfold dComp
   rw [ei, ok_bind, if_pos (by rw [List.length_map, List.length_range]; decide)]
   refine comp_all (ps0 := [.v (.lst (ys.map Sy.pv)), .v (.str e)]) (fun (i : Nat) => PV.int (i : Int)) (fun (i : Nat) => PV.int ((letm ys e i : Nat) : Int)) (List.range 16) .no fun i hi => ?_
   have e1 := later_all_ok D ys h n e i (List.mem_range.mp hi) hn
   simp [e1]
  have hz : ks.length < sizeLine := by show ks.length < 16777216; omega
  unfold b_z3_1
  have ev : dOfN (dComp ["setting"] [("sayings", 0), ("deed", 2)] (dRng1 (dCons (dC (.int (16))) dNil)) (gSet 0) dYes (dCall (gF (n + 3) 4) (dCons (dVar 1) (dCons (dVar 2) (dCons (dVar 0) dNil))))) [.v (.lst (ys.map Sy.pv)), .own (.dic ks xs), .v (.str e)] = .ok (rowN (letm ys e)) := by
   rw [e_ofN, hc]; rfl
  exact dput_at ev rfl rfl hz) .no
 unfold d_z3
 rw [e_seq]
 show fin ((forD (gSet 2) (b_z3_1 (gF (n + 3))) (DS5.map PV.str) [.v (.lst (ys.map Sy.pv)), .own (.dic [] []), .no]).next (sRetM (mFrz 1))) = _
 rw [lp]
 rfl
end M44
end
section
namespace M44
open PySem L2 DN
theorem fold_if {α : Type} (p : α -> Bool) (g : α -> Int) : ∀ (l : List α) (b : Int), l.foldl (fun b i => if p i = true then b + g i else b) b = b + ((l.filter p).map g).sum
 | [], b => by simp
 | a :: l, b => by
  rw [List.foldl_cons, fold_if p g l]
  cases h : p a
  ·simp [h]
  ·simp [h, Int.add_assoc]
theorem sum_maskB (f : Nat -> Bool) : ∀ n, (((List.range n).filter f).map (fun (i : Nat) => (1 : Int) * 2 ^ i)).sum = (maskN f n : Nat)
 | 0 => rfl
 | n + 1 => by
  rw [List.range_succ, List.filter_append, List.map_append, List.sum_append, sum_maskB f n]
  show _ = (((2 ^ n * (f n).toNat + maskN f n : Nat)) : Int)
  cases h : f n
  ·simp [h]
  ·simp [h, Int.add_comm]
theorem stp_fold (L : Str -> Nat -> Nat) (m : Nat) : (bits m).foldl (fun (b : Int) (i : Nat) => if okAt L m i = true then b + 1 * 2 ^ i else b) 0 = ((stp L m : Nat) : Int) := by
 rw [fold_if]
 unfold bits stp
 rw [List.filter_filter, <- sum_maskB, Int.zero_add]
 congr 2
 apply List.filter_congr
 intro i _
 rw [Bool.and_comm]
theorem nat_eq0 (x : Nat) : (((x : Nat) : Int) == 0) = (x == 0) := by
 rw [Bool.eq_iff_iff, beq_iff_eq, beq_iff_eq]
 omega
abbrev letP (L : Str -> Nat -> Nat) : PV := dic5 fun e => rowN (L e)
theorem all5_ok (L : Str -> Nat -> Nat) (m s : Nat) (hs : s < 16) (s2 : Sl) : dComp ["deed"] [("mask", 0), ("setting", 3), ("let_by", 1)] (dItemsT (dC (.tup c_DEEDS))) (gSet 0) dYes (d2 fNe (d2 fAnd (d2 fIx (d2 fDGet (dSee 3) (dSee 0)) (dSee 2)) (dSee 1)) (dC (.int 0))) [.v (.int (m : Int)), .v (letP L), s2, .v (.int (s : Int))] = .ok (DS5.map fun e => PV.bl (!(L e s &&& m == 0))) := by
 have ei : dItemsT (dC (.tup c_DEEDS)) [.v (.int (m : Int)), .v (letP L), s2, .v (.int (s : Int))] = .ok (DS5.map PV.str) := rfl
 unfold dComp
 rw [ei, ok_bind, if_pos (by show 5 <= sizeLine; decide)]
 refine comp_all (ps0 := [.v (.int (m : Int)), .v (.int (s : Int)), .v (letP L)]) PV.str (fun e => PV.bl (!(L e s &&& m == 0))) DS5 .no fun e he => ?_
 have e1 := get5 (fun e => rowN (L e)) (mem5.mp he)
 have e2 := rowN_ix (L e) hs
 have e3 := bitAnd_nat (L e s) m
 have e4 := nat_eq0 (L e s &&& m)
 simp [e1, e2, e3, e4]
theorem lasting1_ok (n : Nat) (L : Str -> Nat -> Nat) (m : Nat) : ∀ (l : List Nat) (b : Int) (s3 : Sl), (∀ i ∈ l, i < 16) -> ∃ s3', forD (gSet 3) (b_z5_1 (gF n)) (l.map fun (i : Nat) => PV.int (i : Int)) [.v (.int (m : Int)), .v (letP L), .v (.int b), s3] = .nx [.v (.int (m : Int)), .v (letP L), .v (.int (l.foldl (fun (b : Int) (i : Nat) => if okAt L m i = true then b + 1 * 2 ^ i else b) b)), s3']
 | [], b, s3, _ => ⟨s3, rfl⟩
 | i :: l, b, s3, h => by
  have hi := h i List.mem_cons_self
  obtain ⟨s3', ih⟩ := lasting1_ok n L m l (if okAt L m i = true then b + 1 * 2 ^ i else b) (.v (.int (i : Int))) fun j hj => h j (List.mem_cons_of_mem _ hj)
  refine ⟨s3', ?_⟩
  have hc := all5_ok L m i hi (.v (.int b))
  have ha := all_map (fun e : Str => !(L e i &&& m == 0)) DS5
  have e2 : d2 fShl (dC (.int 1)) (dSee 3) ([.v (.int (m : Int)), .v (letP L), .v (.int b), .v (.int (i : Int))] : PSt) = .ok (.int (1 * 2 ^ i)) := by
   show (if 0 <= (i : Int) /\ (i : Int) <= 1000000 /\ (1 : Int).natAbs < 2 ^ 64 then Rx.ok (PV.int (1 * 2 ^ ((i : Int)).toNat)) else .bad) = _
   rw [if_pos ⟨by omega, by omega, by decide⟩, Int.toNat_natCast]
  have et : dTr (dCall bAll (dCons (dOfN (dComp ["deed"] [("mask", 0), ("setting", 3), ("let_by", 1)] (dItemsT (dC (.tup c_DEEDS))) (gSet 0) dYes (d2 fNe (d2 fAnd (d2 fIx (d2 fDGet (dSee 3) (dSee 0)) (dSee 2)) (dSee 1)) (dC (.int 0))))) dNil)) [.v (.int (m : Int)), .v (letP L), .v (.int b), .v (.int (i : Int))] = .ok (okAt L m i) := by
   simp only [e_Tr, e_call, e_cons, e_ofN, hc, ok_bind, e_nil, consR_ok, ha]
   rfl
  have body : b_z5_1 (gF n) [.v (.int (m : Int)), .v (letP L), .v (.int b), .v (.int (i : Int))] = .nx [.v (.int (m : Int)), .v (letP L), .v (.int (if okAt L m i = true then b + 1 * 2 ^ i else b)), .v (.int (i : Int))] := by
   unfold b_z5_1
   rw [e_if, et]
   cases okAt L m i
   ·rfl
   ·show ((d2 fShl (dC (.int 1)) (dSee 3) [.v (.int (m : Int)), .v (letP L), .v (.int b), .v (.int (i : Int))]).st _) = _
    rw [e2]; rfl
  have eg : gSet 3 (PV.int (i : Int)) [.v (.int (m : Int)), .v (letP L), .v (.int b), s3] = .ok [.v (.int (m : Int)), .v (letP L), .v (.int b), .v (.int (i : Int))] := rfl
  rw [List.map_cons, forD, eg, ok_st, body]
  exact ih
theorem lasting2_ok (n : Nat) (L : Str -> Nat -> Nat) (m : Nat) (s2 s3 : Sl) : ∃ s3', b_z5_2 (gF (n + 2)) [.v (.int (m : Int)), .v (letP L), s2, s3] = if stp L m = m then .ret (.int (m : Int)) else .nx [.v (.int (stp L m : Nat)), .v (letP L), .v (.int (stp L m : Nat)), s3'] := by
 obtain ⟨s3', e1⟩ := lasting1_ok (n + 2) L m (bits m) 0 s3 fun i hi => (mem_bits.mp hi).1
 rw [stp_fold] at e1
 refine ⟨s3', ?_⟩
 have es := settings_in_ok n m
 have ei : dItems (dCall (gF (n + 2) 1) (dCons (dVar 0) dNil)) [.v (.int (m : Int)), .v (letP L), .v (.int 0), s3] = .ok ((bits m).map fun (i : Nat) => PV.int (i : Int)) := by
  unfold dItems
  simp [es]
 unfold b_z5_2
 rw [e_seq]
 show (sSeq (sFor _ _ _) _ [.v (.int (m : Int)), .v (letP L), .v (.int 0), s3]) = _
 rw [e_seq, e_for, ei, ok_st, e1, next_nx, e_seq]
 by_cases hm : stp L m = m
 ·have hb : (((stp L m : Nat) : Int) == (m : Int)) = true := by simp [hm]
  rw [if_pos hm, hm]
  simp
 ·have hb : (((stp L m : Nat) : Int) == (m : Int)) = false := by simp; omega
  rw [if_neg hm]
  simp [hb]
theorem last_loop (n : Nat) (L : Str -> Nat -> Nat) : ∀ (k j m : Nat) (s2 s3 : Sl), m < k -> m < 65536 -> iterM (mOfT (dTr (dC (.bl true)))) (b_z5_2 (gF (n + 2))) (k + j) [.v (.int (m : Int)), .v (letP L), s2, s3] = some (.ret (.int (lastF L k m : Nat)))
 | 0, j, m, s2, s3, h, _ => by omega
 | k + 1, j, m, s2, s3, h, h2 => by
  obtain ⟨s3', e1⟩ := lasting2_ok n L m s2 s3
  have tt : ∀ ps, mOfT (dTr (dC (.bl true))) ps = .ok (true, ps) := fun _ => rfl
  rw [show k + 1 + j = (k + j) + 1 by omega, iterM, tt]
  simp only [e1]
  unfold lastF
  by_cases hm : stp L m = m
  ·rw [if_pos hm, if_pos hm]
  ·rw [if_neg hm, if_neg hm]
   have hle := sub_le (stp_lt16 L m) (stp_sub L m)
   exact last_loop n L k j (stp L m) _ _ (by omega) (stp_lt16 L m)
theorem lasting_ok (n : Nat) (L : Str -> Nat -> Nat) (m : Nat) (hm : m < 65536) : gF (n + 3) 5 [.int (m : Int), letP L] = .ok (.int (gdF L m : Nat)) := by
 rw [g_z5, runD_of rfl]
 show fin (d_z5 (gF (n + 2)) [.v (.int (m : Int)), .v (letP L), .no, .no]) = _
 have e := last_loop n L 65536 34464 m .no .no hm hm
 have e : iterM (mOfT (dTr (dC (.bl true)))) (b_z5_2 (gF (n + 2))) 100000 [.v (.int (m : Int)), .v (letP L), .no, .no] = some (.ret (.int (lastF L 65536 m : Nat))) := e
 unfold d_z5
 rw [e_whileM, e]
 rfl
def bondsP (ys : List Sy) : PV := .obj 7 [.int (unb ys : Nat), letP (letm ys), .int (gdS ys : Nat)]
theorem bonds_ok (D : Nat) (ys : List Sy) (h : ∀ y ∈ ys, y.ok D) (hl : ys.length <= 1000) (n : Nat) (hn : D <= n) : gF (n + 5) 34 [.lst (ys.map Sy.pv)] = .ok (bondsP ys) := by
 have e1 := unbarred_ok D ys h hl (n + 2) (by omega)
 have e2 := let_all_ok D ys h n hn
 have e3 := lasting_ok (n + 1) (letm ys) (unb ys) (unb_lt ys)
 have e0 : d_zy (gF (n + 4)) [.ini 7 [], .v (.lst (ys.map Sy.pv))] = .nx [.ini 7 [.int (unb ys : Nat), letP (letm ys), .int (gdS ys : Nat)], .v (.lst (ys.map Sy.pv))] := by
  unfold d_zy
  have f1 : fldP a_unbarred (.obj 7 [.int (unb ys : Nat), letP (letm ys)]) = .ok (.int (unb ys : Nat)) := rfl
  have f2 : fldP a_let_by (.obj 7 [.int (unb ys : Nat), letP (letm ys)]) = .ok (letP (letm ys)) := rfl
  simp [e1, e2, f1, f2, e3, gdS]
 have e4 : runI 7 3 [false] 2 (d_zy (gF (n + 4))) [.lst (ys.map Sy.pv)] = (match d_zy (gF (n + 4)) [.ini 7 [], .v (.lst (ys.map Sy.pv))] with | .nx ps => (match ps[(0 : Nat)]? with | some (.ini k' fs) => if k' = 7 /\ fs.length = 3 then .ok (.obj 7 fs) else .bad | _ => .bad) | .exc c => .exc c | _ => .bad) := rfl
 rw [g_zy, e4, e0]
 rfl
theorem good_ok (ys : List Sy) (n : Nat) : callM q_good (gF (n + 1)) (bondsP ys) [] = .ok (.int (gdS ys : Nat)) := rfl
theorem ways_ok (ys : List Sy) (n : Nat) {e : Str} (he : DeedL e) {s : Nat} (hs : s < 16) : callM q_ways (gF (n + 1)) (bondsP ys) [.str e, .int (s : Int)] = .ok (.int ((letm ys e s &&& gdS ys : Nat) : Int)) := by
 have e0 : callM q_ways (gF (n + 1)) (bondsP ys) [.str e, .int (s : Int)] = runD [false, false, false] 3 (d_zp (gF n)) [bondsP ys, .str e, .int (s : Int)] := rfl
 rw [e0, runD_of rfl]
 show fin (d_zp (gF n) [.v (bondsP ys), .v (.str e), .v (.int (s : Int))]) = _
 have f1 : fldP a_let_by (bondsP ys) = .ok (letP (letm ys)) := rfl
 have f2 : fldP a_lasting (bondsP ys) = .ok (.int (gdS ys : Nat)) := rfl
 have e1 := get5 (fun e => rowN (letm ys e)) he
 have e2 := rowN_ix (letm ys e) hs
 have e3 := bitAnd_nat (letm ys e s) (gdS ys)
 unfold d_zp
 simp [f1, f2, e1, e2, e3]
theorem mkb (t : Tr) {s : Nat} (hs : s < 16) : t.mk.testBit s = t.f s := by
 unfold Tr.mk
 rw [maskN_bit]; simp [hs]
theorem full_bit (s : Nat) : (65535 : Nat).testBit s = decide (s < 16) := Nat.testBit_two_pow_sub_one (n := 16) (i := s)
theorem xor_full {m : Nat} (h : m < 65536) : Builtin.bitXor 65535 (m : Int) = ((65535 - m : Nat) : Int) := by
 have e1 : (65535 : Nat) &&& m = m := by
  apply Nat.eq_of_testBit_eq
  intro s
  rw [Nat.testBit_and, full_bit]
  by_cases hs : s < 16
  ·simp [hs]
  ·rw [hi_bit h (by omega)]; simp
 have e2 : (65535 : Nat) ||| m = 65535 := by
  apply Nat.eq_of_testBit_eq
  intro s
  rw [Nat.testBit_or, full_bit]
  by_cases hs : s < 16
  ·simp [hs]
  ·rw [hi_bit h (by omega)]; simp
 unfold Builtin.bitXor
 rw [show (65535 : Int) = ((65535 : Nat) : Int) from rfl, bitAnd_nat, bitOr_nat, e1, e2]
 omega
theorem neg_mk (t : Tr) : (Tr.neg t).mk = 65535 - t.mk := by
 have := mk_not t
 have := mk_lt t
 omega
theorem bit01 (m s : Nat) : Builtin.bitAnd ((m : Int) / 2 ^ s) 1 = if m.testBit s = true then 1 else 0 := by
 have h := bit_nat m s
 have e : ((m : Int) / 2 ^ s) = ((m / 2 ^ s : Nat) : Int) := by
  rw [Int.natCast_ediv]; simp
 rw [e, show (1 : Int) = ((1 : Nat) : Int) from rfl, bitAnd_nat, Nat.and_one_is_mod] at h ⊢
 have h2 := Nat.mod_two_eq_zero_or_one (m / 2 ^ s)
 rw [<- h]
 rcases h2 with q | q <;> simp [q]
theorem deed_at {j : Int} (h0 : 0 <= j) (h1 : j < 5) : ∃ c, fIx (.str "PQRST") (.int j) = .ok (.str c) /\ DeedL c := by
 have : j = 0 \/ j = 1 \/ j = 2 \/ j = 3 \/ j = 4 := by omega
 rcases this with rfl | rfl | rfl | rfl | rfl
 ·exact ⟨"P", rfl, .inl rfl⟩
 ·exact ⟨"Q", rfl, .inr (.inl rfl)⟩
 ·exact ⟨"R", rfl, .inr (.inr (.inl rfl))⟩
 ·exact ⟨"S", rfl, .inr (.inr (.inr (.inl rfl)))⟩
 ·exact ⟨"T", rfl, .inr (.inr (.inr (.inr rfl)))⟩
theorem rng1_at {d : DP} {ps : PSt} {k : Nat} (h : d ps = .ok (.int (k : Int))) (hk : k <= 100000) : dRng1 (dCons d dNil) ps = .ok ((List.range k).map fun (i : Nat) => PV.int (i : Int)) := by
 have e : dCons d dNil ps = .ok [.int (k : Int)] := by
  show (d ps).bind _ = _
  rw [h]; rfl
 unfold dRng1
 rw [e, ok_bind]
 have h : -(2 ^ 62) <= (k : Int) /\ (k : Int) < 2 ^ 62 := by omega
 simp only [h, and_self, if_true, Int.toNat_natCast]
 unfold rngP
 congr 1
 apply List.map_congr_left
 intro i _
 rw [Int.zero_add]
def remS (L : Str -> Nat -> Nat) (m s : Nat) : Nat := if okAt L m s = true then m else m &&& (65535 - 2 ^ s)
def rnd (L : Str -> Nat -> Nat) (l : List Nat) (m : Nat) : Nat := l.foldl (remS L) m
theorem clr_bit {s j : Nat} (hs : s < 16) (hj : j < 16) : (65535 - 2 ^ s).testBit j = !decide (j = s) := by
 have h16 : s = 0 \/ s = 1 \/ s = 2 \/ s = 3 \/ s = 4 \/ s = 5 \/ s = 6 \/ s = 7 \/ s = 8 \/ s = 9 \/ s = 10 \/ s = 11 \/ s = 12 \/ s = 13 \/ s = 14 \/ s = 15 := by omega
 have key : ∀ s, s < 16 -> ∀ j, j < 16 -> (65535 - 2 ^ s).testBit j = !decide (j = s) := by decide +kernel
 exact key s hs j hj
theorem rem_lt {L : Str -> Nat -> Nat} {m s : Nat} (h : m < 65536) : remS L m s < 65536 := by
 unfold remS
 split
 ·exact h
 ·exact Nat.lt_of_le_of_lt Nat.and_le_left h
theorem rem_sub (L : Str -> Nat -> Nat) (m s : Nat) : Sub (remS L m s) m := by
 unfold remS
 split
 ·exact fun _ _ h => h
 ·intro j _ h
  rw [Nat.testBit_and, Bool.and_eq_true] at h; exact h.1
theorem rem_max {L : Str -> Nat -> Nat} {c m s : Nat} (hs : s < 16) (hc : c < 65536) (cc : Clo L c) (h : Sub c m) : Sub c (remS L m s) := by
 unfold remS
 split
 ·exact h
 ·rename_i hn
  intro j hj hb
  rw [Nat.testBit_and, h j hj hb, clr_bit hs hj]
  by_cases e : j = s
  ·subst e
   exact absurd (okAt_mono hc h (cc j hj hb)) hn
  ·simp [e]
theorem rnd_lt {L : Str -> Nat -> Nat} : ∀ (l : List Nat) (m : Nat), m < 65536 -> rnd L l m < 65536
 | [], m, h => h
 | s :: l, m, h => rnd_lt l _ (rem_lt h)
theorem rnd_sub {L : Str -> Nat -> Nat} : ∀ (l : List Nat) (m : Nat), Sub (rnd L l m) m
 | [], m => fun _ _ h => h
 | s :: l, m => fun j hj h => rem_sub L m s j hj (rnd_sub l _ j hj h)
theorem rnd_max {L : Str -> Nat -> Nat} {c : Nat} (hc : c < 65536) (cc : Clo L c) : ∀ (l : List Nat) (m : Nat), (∀ s ∈ l, s < 16) -> Sub c m -> Sub c (rnd L l m)
 | [], m, _, h => h
 | s :: l, m, hl, h => rnd_max hc cc l _ (fun j hj => hl j (List.mem_cons_of_mem _ hj)) (rem_max (hl s List.mem_cons_self) hc cc h)
theorem rnd_fix {L : Str -> Nat -> Nat} : ∀ (l : List Nat) (m : Nat), m < 65536 -> rnd L l m = m -> ∀ s ∈ l, remS L m s = m
 | [], m, _, _, s, h => by cases h
 | s :: l, m, hm, e, j, hj => by
  have e : rnd L l (remS L m s) = m := e
  have h1 : remS L m s = m := by
   apply sub_ext (rem_lt hm) hm (rem_sub L m s)
   intro i hi hb
   rw [<- e] at hb
   exact rnd_sub l _ i hi hb
  rcases List.mem_cons.mp hj with rfl | hj
  ·exact h1
  ·rw [h1] at e
   exact rnd_fix l m hm e j hj
theorem rnd_clo {L : Str -> Nat -> Nat} {m : Nat} (hm : m < 65536) (e : rnd L (List.range 16) m = m) : Clo L m := by
 intro s hs hb
 have h1 := rnd_fix (List.range 16) m hm e s (List.mem_range.mpr hs)
 unfold remS at h1
 split at h1
 ·assumption
 ·exfalso
  have := congrArg (fun x => Nat.testBit x s) h1
  simp only [Nat.testBit_and, hb, clr_bit hs hs] at this
  simp at this
theorem bits_filter {a m : Nat} (h : Sub a m) : bits a = (bits m).filter fun i => a.testBit i := by
 unfold bits
 rw [List.filter_filter]
 apply List.filter_congr
 intro i hi
 have := List.mem_range.mp hi
 cases e : a.testBit i
 ·simp
 ·simp [h i this e]
theorem cnt_lt {a m : Nat} (ha : a < 65536) (hm : m < 65536) (h : Sub a m) (hn : a ≠ m) : (bits a).length < (bits m).length := by
 rw [bits_filter h]
 apply Nat.lt_of_le_of_ne (List.length_filter_le _ _)
 intro z
 apply hn
 apply sub_ext ha hm h
 intro s hs hb
 have := List.length_filter_eq_length_iff.mp z
 exact this s (mem_bits.mpr ⟨hs, hb⟩)
def rnds (L : Str -> Nat -> Nat) : Nat -> Nat -> Nat
 | 0, m => m
 | k + 1, m => rnds L k (rnd L (List.range 16) m)
theorem rnds_stay {L : Str -> Nat -> Nat} {m : Nat} (e : rnd L (List.range 16) m = m) : ∀ k, rnds L k m = m
 | 0 => rfl
 | k + 1 => by
  show rnds L k (rnd L (List.range 16) m) = m
  rw [e]; exact rnds_stay e k
theorem rnds_lt {L : Str -> Nat -> Nat} : ∀ (k m : Nat), m < 65536 -> rnds L k m < 65536
 | 0, m, h => h
 | k + 1, m, h => rnds_lt k _ (rnd_lt _ _ h)
theorem rnds_sub {L : Str -> Nat -> Nat} : ∀ (k m : Nat), Sub (rnds L k m) m
 | 0, m => fun _ _ h => h
 | k + 1, m => fun s hs h => rnd_sub _ _ s hs (rnds_sub k _ s hs h)
theorem rnds_max {L : Str -> Nat -> Nat} {c : Nat} (hc : c < 65536) (cc : Clo L c) : ∀ (k m : Nat), Sub c m -> Sub c (rnds L k m)
 | 0, m, h => h
 | k + 1, m, h => rnds_max hc cc k _ (rnd_max hc cc _ _ (fun s hs => List.mem_range.mp hs) h)
theorem rnds_fix {L : Str -> Nat -> Nat} : ∀ (k m : Nat), m < 65536 -> (bits m).length < k -> rnd L (List.range 16) (rnds L k m) = rnds L k m
 | 0, m, _, h => by omega
 | k + 1, m, hm, h => by
  by_cases e : rnd L (List.range 16) m = m
  ·rw [rnds_stay e]; exact e
  ·have := cnt_lt (rnd_lt _ _ hm) hm (rnd_sub _ _) e
   exact rnds_fix k _ (rnd_lt _ _ hm) (by omega)
theorem rnds_gd (L : Str -> Nat -> Nat) {u : Nat} (hu : u < 65536) : rnds L 17 u = gdF L u := by
 have hf := rnds_fix (L := L) 17 u hu (by have := bits_len u; omega)
 have h1 := rnds_lt (L := L) 17 u hu
 apply sub_ext h1 (gd_lt L hu)
 ·exact gd_max h1 (rnd_clo h1 hf) (rnds_sub 17 u)
 ·exact rnds_max (gd_lt L hu) (gd_clo L hu) 17 u (gd_sub L u)
def kp0 (ys : List Sy) (m : Nat) : Nat := ys.foldl (fun m y => match y with | .nowhere t => m &&& (Tr.neg t).mk | _ => m) m
theorem kp0_bit : ∀ (ys : List Sy) (m s : Nat), s < 16 -> (kp0 ys m).testBit s = (m.testBit s && !(ys.any fun y => y.bars s))
 | [], m, s, _ => by simp [kp0]
 | y :: ys, m, s, hs => by
  show (kp0 ys (match y with | .nowhere t => m &&& (Tr.neg t).mk | _ => m)).testBit s = _
  rw [kp0_bit ys _ s hs]
  cases y with
  | nowhere t =>
   rw [Nat.testBit_and, mkb _ hs]
   have : (Tr.neg t).f s = !t.f s := rfl
   rw [this]
   simp only [List.any_cons, Sy.bars]
   cases m.testBit s <;> cases t.f s <;> simp
  | behind b d a => simp [Sy.bars]
  | through t d => simp [Sy.bars]
theorem kp0_lt : ∀ (ys : List Sy) (m : Nat), m < 65536 -> kp0 ys m < 65536
 | [], m, h => h
 | y :: ys, m, h => by
  show kp0 ys (match y with | .nowhere t => m &&& (Tr.neg t).mk | _ => m) < _
  apply kp0_lt
  cases y with
  | nowhere t => exact Nat.lt_of_le_of_lt Nat.and_le_left h
  | behind b d a => exact h
  | through t d => exact h
theorem kp0_unb (ys : List Sy) : kp0 ys 65535 = unb ys := by
 apply sub_ext (kp0_lt ys _ (by decide)) (unb_lt ys)
 ·intro s hs h
  rw [kp0_bit ys _ s hs] at h
  unfold unb
  rw [maskN_bit]
  simp [hs]
  rw [Bool.and_eq_true] at h
  simpa using h.2
 ·intro s hs h
  rw [kp0_bit ys _ s hs]
  unfold unb at h
  rw [maskN_bit] at h
  have hf : (65535 : Nat).testBit s = true := by rw [full_bit]; simp [hs]
  rw [hf]
  simp [hs] at h
  simpa using h
end M44
end
section
namespace M44
open PySem L2 DN
def Sy.dd : Sy -> Str -> Str
 | .nowhere _, d => d | .behind _ e _, _ => e | .through _ e, _ => e
def Sy.srt : Sy -> Nat
 | .nowhere _ => 0 | .behind _ _ _ => 2 | .through _ _ => 1
def Sy.m1 : Sy -> Nat
 | .nowhere t => t.mk | .behind b _ _ => b.mk | .through t _ => t.mk
def Sy.m2 : Sy -> Nat
 | .nowhere _ => 0 | .behind _ _ a => a.mk | .through _ _ => 0
def tp5 (z : Sy × Str) : PV := .tup [z.1.pv, .int (z.1.srt : Nat), .int (z.1.m1 : Nat), .str (z.1.dd z.2), .int (z.1.m2 : Nat)]
def Z5 (z : Sy × Str) : Prop := z.1.ok 3 /\ DeedL (z.1.dd z.2)
theorem saying5_ok (n : Nat) (z : Int) : ∃ w : Sy × Str, gF (n + 2) 11 [.int z] = .ok (tp5 w) /\ Z5 w := by
 rw [g_zb, runD_of rfl]
 have ei : inP [false] 6 [.int z] = [.v (.int z), .no, .no, .no, .no, .no] := rfl
 rw [ei]
 obtain ⟨y1, e1, _, _⟩ := mixed_ok n z 1 (by decide) (by decide)
 obtain ⟨y2, e2, _, _⟩ := mixed_ok n z 2 (by decide) (by decide)
 obtain ⟨a, ea, oa, da⟩ := lawtest_ok n y1
 obtain ⟨b, eb, ob, db⟩ := lawtest_ok n y2
 obtain ⟨c, ec, hc⟩ := deed_at (j := z / 4 % 5) (by omega) (by omega)
 unfold d_zb
 by_cases h0 : z % 4 = 0 /\ a.mk ≠ 65535
 ·have hb : (z % 4 == 0) = true := by simpa using h0.1
  have hm : (((a.mk : Nat) : Int) == 65535) = false := by
   rw [beq_eq_false_iff_ne]; have := h0.2; omega
  refine ⟨(.nowhere a, c), ?_, ⟨oa, by omega⟩, hc⟩
  simp [e1, e2, ea, eb, ec, h0.1, hm, tp5, Sy.pv, Sy.srt, Sy.m1, Sy.m2, Sy.dd]
 ·by_cases h1 : z % 4 = 1
  ·refine ⟨(.through a c, c), ?_, ⟨⟨oa, by omega⟩, hc⟩, hc⟩
   simp [e1, e2, ea, eb, ec, h1, tp5, Sy.pv, Sy.srt, Sy.m1, Sy.m2, Sy.dd]
  ·have b1 : (z % 4 == 1) = false := by simpa using h1
   refine ⟨(.behind a c b, c), ?_, ⟨⟨oa, by omega⟩, hc, ⟨ob, by omega⟩⟩, hc⟩
   by_cases h2 : z % 4 = 0
   ·have hm : a.mk = 65535 := by
     by_cases q : a.mk = 65535
     ·exact q
     ·exact absurd ⟨h2, q⟩ h0
    have hm : (((a.mk : Nat) : Int) == 65535) = true := by rw [hm]; rfl
    simp [e1, e2, ea, eb, ec, h2, hm, tp5, Sy.pv, Sy.srt, Sy.m1, Sy.m2, Sy.dd]
   ·have b2 : (z % 4 == 0) = false := by simpa using h2
    simp [e1, e2, ea, eb, ec, b1, b2, tp5, Sy.pv, Sy.srt, Sy.m1, Sy.m2, Sy.dd]
end M44
end
section
namespace M44
open PySem L2 DN
def rowL (g : Nat -> Nat) : List PV := (List.range 16).map fun (i : Nat) => PV.int ((g i : Nat) : Int)
theorem rowL_len (g : Nat -> Nat) : (rowL g).length = 16 := by unfold rowL; rw [List.length_map, List.length_range]
theorem rowL_get (g : Nat -> Nat) {i : Nat} (h : i < 16) : (rowL g)[i]? = some (.int ((g i : Nat) : Int)) := by
 unfold rowL
 rw [List.getElem?_map, List.getElem?_range h]; rfl
def dol5 (F : Str -> Nat -> Nat) : Sl := .dol K5 (DS5.map fun e => rowL (F e))
def putF2 (F : Str -> Nat -> Nat) (d : Str) (s v : Nat) : Str -> Nat -> Nat := fun e i => if e = d /\ i = s then v else F e i
theorem putF2_ne {F : Str -> Nat -> Nat} {d e : Str} {s v : Nat} (h : e ≠ d) : putF2 F d s v e = F e := by
 funext i
 unfold putF2
 rw [if_neg fun z => h z.1]
theorem putF2_eq {F : Str -> Nat -> Nat} {d : Str} {s v : Nat} : putF2 F d s v d = fun i => if i = s then v else F d i := by
 funext i
 unfold putF2
 simp
theorem putF2_id {F : Str -> Nat -> Nat} {d : Str} {s : Nat} : putF2 F d s (F d s) = F := by
 funext e i
 unfold putF2
 split
 ·rename_i h; rw [h.1, h.2]
 ·rfl
theorem range_set (g : Nat -> Nat) {s : Nat} (v : Nat) (hs : s < 16) : (rowL g).set s (.int ((v : Nat) : Int)) = rowL (fun i => if i = s then v else g i) := by
 apply List.ext_getElem?
 intro i
 by_cases hi : i < 16
 ·rw [rowL_get _ hi]
  by_cases h : i = s
  ·subst h
   rw [List.getElem?_set_self (by rw [rowL_len]; exact hs), if_pos rfl]
  ·rw [List.getElem?_set_ne (fun z => h z.symm), rowL_get _ hi, if_neg h]
 ·rw [List.getElem?_eq_none (by rw [List.length_set, rowL_len]; omega), List.getElem?_eq_none (by rw [rowL_len]; omega)]
def jx (d : Str) : Nat := (kIx K5 (.inr d) 0).getD 0
theorem jx_ok {d : Str} (h : DeedL d) : kIx K5 (.inr d) 0 = some (jx d) := by
 rcases h with rfl | rfl | rfl | rfl | rfl <;> decide +kernel
theorem at5 (f : Str -> List PV) {d : Str} (h : DeedL d) : (DS5.map f)[jx d]? = some (f d) := by
 rcases h with rfl | rfl | rfl | rfl | rfl <;> rfl
theorem set5 (F : Str -> Nat -> Nat) {d : Str} (h : DeedL d) (s v : Nat) : (DS5.map fun e => rowL (F e)).set (jx d) (rowL fun i => if i = s then v else F d i) = DS5.map fun e => rowL (putF2 F d s v e) := by
 have n1 : ("P" : Str) ≠ "Q" := by decide +kernel
 have n2 : ("P" : Str) ≠ "R" := by decide +kernel
 have n3 : ("P" : Str) ≠ "S" := by decide +kernel
 have n4 : ("P" : Str) ≠ "T" := by decide +kernel
 have n5 : ("Q" : Str) ≠ "R" := by decide +kernel
 have n6 : ("Q" : Str) ≠ "S" := by decide +kernel
 have n7 : ("Q" : Str) ≠ "T" := by decide +kernel
 have n8 : ("R" : Str) ≠ "S" := by decide +kernel
 have n9 : ("R" : Str) ≠ "T" := by decide +kernel
 have n0 : ("S" : Str) ≠ "T" := by decide +kernel
 rcases h with rfl | rfl | rfl | rfl | rfl
 ·show [rowL _, rowL _, rowL _, rowL _, rowL _] = [rowL _, rowL _, rowL _, rowL _, rowL _]
  rw [putF2_eq, putF2_ne n1.symm, putF2_ne n2.symm, putF2_ne n3.symm, putF2_ne n4.symm]
 ·show [rowL _, rowL _, rowL _, rowL _, rowL _] = [rowL _, rowL _, rowL _, rowL _, rowL _]
  rw [putF2_eq, putF2_ne n1, putF2_ne n5.symm, putF2_ne n6.symm, putF2_ne n7.symm]
 ·show [rowL _, rowL _, rowL _, rowL _, rowL _] = [rowL _, rowL _, rowL _, rowL _, rowL _]
  rw [putF2_eq, putF2_ne n2, putF2_ne n5, putF2_ne n8.symm, putF2_ne n9.symm]
 ·show [rowL _, rowL _, rowL _, rowL _, rowL _] = [rowL _, rowL _, rowL _, rowL _, rowL _]
  rw [putF2_eq, putF2_ne n3, putF2_ne n6, putF2_ne n8, putF2_ne n0.symm]
 ·show [rowL _, rowL _, rowL _, rowL _, rowL _] = [rowL _, rowL _, rowL _, rowL _, rowL _]
  rw [putF2_eq, putF2_ne n4, putF2_ne n7, putF2_ne n9, putF2_ne n0]
theorem ix16 {s : Nat} (h : s < 16) : ixN 16 (s : Int) = some s := by
 unfold ixN
 rw [if_pos (by omega), if_pos (by omega), Int.toNat_natCast]
theorem setA5 {dv : DP} {F : Str -> Nat -> Nat} {d : Str} {s v : Nat} (hd : DeedL d) (hs : s < 16) (s0 s2 s3 s4 s5 s6 s9 : Sl) (hv : dv [s0, dol5 F, s2, s3, s4, s5, s6, .als 1 (jx d), .v (.int (s : Int)), s9] = .ok (.int ((v : Nat) : Int))) :
  sSetA 7 (dVar 8) dv [s0, dol5 F, s2, s3, s4, s5, s6, .als 1 (jx d), .v (.int (s : Int)), s9] = .nx [s0, dol5 (putF2 F d s v), s2, s3, s4, s5, s6, .als 1 (jx d), .v (.int (s : Int)), s9] := by
 unfold sSetA
 rw [hv, ok_st]
 show (match (DS5.map fun e => rowL (F e))[jx d]? with
   | some xs => (match ixN xs.length (s : Int) with | some m => Rs.nx [s0, .dol K5 ((DS5.map fun e => rowL (F e)).set (jx d) (xs.set m (.int ((v : Nat) : Int)))), s2, s3, s4, s5, s6, .als 1 (jx d), .v (.int (s : Int)), s9] | none => .bad)
   | none => .bad) = _
 rw [at5 _ hd]
 show (match ixN (rowL (F d)).length (s : Int) with | some m => Rs.nx [s0, .dol K5 ((DS5.map fun e => rowL (F e)).set (jx d) ((rowL (F d)).set m (.int ((v : Nat) : Int)))), s2, s3, s4, s5, s6, .als 1 (jx d), .v (.int (s : Int)), s9] | none => .bad) = _
 rw [rowL_len, ix16 hs]
 show Rs.nx [s0, .dol K5 ((DS5.map fun e => rowL (F e)).set (jx d) ((rowL (F d)).set s (.int ((v : Nat) : Int)))), s2, s3, s4, s5, s6, .als 1 (jx d), .v (.int (s : Int)), s9] = _
 rw [range_set _ v hs, set5 F hd s v]
 rfl
theorem getA5 {F : Str -> Nat -> Nat} {d : Str} {s : Nat} (hd : DeedL d) (hs : s < 16) (s0 s2 s3 s4 s5 s6 s9 : Sl) : d2 fIx (dAls 7) (dSee 8) [s0, dol5 F, s2, s3, s4, s5, s6, .als 1 (jx d), .v (.int (s : Int)), s9] = .ok (.int ((F d s : Nat) : Int)) := by
 have e1 : dAls 7 [s0, dol5 F, s2, s3, s4, s5, s6, .als 1 (jx d), .v (.int (s : Int)), s9] = .ok (rowN (F d)) := by
  show (match (DS5.map fun e => rowL (F e))[jx d]? with | some xs => Rx.ok (PV.lst xs) | none => .bad) = _
  rw [at5 _ hd]; rfl
 have e2 := rowN_ix (F d) hs
 rw [e_2, e1]
 exact e2
theorem and_full {m : Nat} (h : m < 65536) : m &&& 65535 = m := by
 apply Nat.eq_of_testBit_eq
 intro j
 rw [Nat.testBit_and, full_bit]
 by_cases hj : j < 16
 ·simp [hj]
 ·rw [hi_bit h (by omega)]; simp
theorem lets_turn (n : Nat) (y : Sy) (d0 : Str) (hd : DeedL (y.dd d0)) (F : Str -> Nat -> Nat) {s : Nat} (hs : s < 16) (hF : F (y.dd d0) s < 65536) (s0 s2 s3 s9 : Sl) : ∃ t9, b_zc_1 (gF n) [s0, dol5 F, s2, s3, .v (.int (y.srt : Nat)), .v (.int (y.m1 : Nat)), .v (.int (y.m2 : Nat)), .als 1 (jx (y.dd d0)), .v (.int (s : Int)), s9] =
  .nx [s0, dol5 (putF2 F (y.dd d0) s (F (y.dd d0) s &&& y.lm (y.dd d0) s)), s2, s3, .v (.int (y.srt : Nat)), .v (.int (y.m1 : Nat)), .v (.int (y.m2 : Nat)), .als 1 (jx (y.dd d0)), .v (.int (s : Int)), t9] := by
 have h0 : (0 : Int) <= (s : Int) := by omega
 refine ⟨.v (.int (if y.m1.testBit s = true then 1 else 0)), ?_⟩
 have hb := bit01 y.m1 s
 have eh : sSet 9 (d2 fAnd (d2 fShr (dSee 5) (dSee 8)) (dC (.int 1))) [s0, dol5 F, s2, s3, .v (.int (y.srt : Nat)), .v (.int (y.m1 : Nat)), .v (.int (y.m2 : Nat)), .als 1 (jx (y.dd d0)), .v (.int (s : Int)), s9] =
   .nx [s0, dol5 F, s2, s3, .v (.int (y.srt : Nat)), .v (.int (y.m1 : Nat)), .v (.int (y.m2 : Nat)), .als 1 (jx (y.dd d0)), .v (.int (s : Int)), .v (.int (if y.m1.testBit s = true then 1 else 0))] := by
  simp [h0, hb]
 unfold b_zc_1
 rw [e_seq, eh, next_nx]
 cases y with
 | nowhere t =>
  have el : (Sy.nowhere t).lm ((Sy.nowhere t).dd d0) s = 65535 := rfl
  rw [el, and_full hF, putF2_id]
  simp [Sy.srt]
 | behind b d a =>
  have hm := mkb b hs
  have e4 : (Sy.behind b d a).m1.testBit s = b.f s := hm
  have el : (Sy.behind b d a).lm ((Sy.behind b d a).dd d0) s = if b.f s = true then a.mk else 65535 := by
   show (if d = d /\ b.f s = true then a.mk else 65535) = _
   simp
  rw [e4, el]
  cases hf : b.f s
  ·rw [if_neg Bool.false_ne_true, if_neg Bool.false_ne_true, and_full hF, putF2_id]
   simp [Sy.srt]
  ·rw [if_pos rfl, if_pos rfl]
   have hg := getA5 (F := F) (s := s) hd hs s0 s2 s3 (.v (.int 2)) (.v (.int (b.mk : Nat))) (.v (.int (a.mk : Nat))) (.v (.int 1))
   have ha := bitAnd_nat (F ((Sy.behind b d a).dd d0) s) a.mk
   have hv : d2 fAnd (d2 fIx (dAls 7) (dSee 8)) (dSee 6) [s0, dol5 F, s2, s3, .v (.int 2), .v (.int (b.mk : Nat)), .v (.int (a.mk : Nat)), .als 1 (jx ((Sy.behind b d a).dd d0)), .v (.int (s : Int)), .v (.int 1)] = .ok (.int ((F ((Sy.behind b d a).dd d0) s &&& a.mk : Nat) : Int)) := by
    rw [e_2, hg]
    show Rx.ok (PV.int (Builtin.bitAnd _ _)) = _
    rw [ha]
   have hset := setA5 (F := F) hd hs s0 s2 s3 (.v (.int 2)) (.v (.int (b.mk : Nat))) (.v (.int (a.mk : Nat))) (.v (.int 1)) hv
   show (sSeq (sIf (dTr (d2 fEq (dSee 4) (dC (.int 1)))) _ sNext) (sIf (dAndT (dTr (d2 fEq (dSee 4) (dC (.int 2)))) (dTr (d2 fEq (dSee 9) (dC (.int 1))))) _ sNext) [s0, dol5 F, s2, s3, .v (.int 2), .v (.int (b.mk : Nat)), .v (.int (a.mk : Nat)), .als 1 (jx ((Sy.behind b d a).dd d0)), .v (.int (s : Int)), .v (.int 1)]) = _
   have t1 : dTr (d2 fEq (dSee 4) (dC (.int 1))) [s0, dol5 F, s2, s3, .v (.int 2), .v (.int (b.mk : Nat)), .v (.int (a.mk : Nat)), .als 1 (jx ((Sy.behind b d a).dd d0)), .v (.int (s : Int)), .v (.int 1)] = .ok false := rfl
   have t2 : dAndT (dTr (d2 fEq (dSee 4) (dC (.int 2)))) (dTr (d2 fEq (dSee 9) (dC (.int 1)))) [s0, dol5 F, s2, s3, .v (.int 2), .v (.int (b.mk : Nat)), .v (.int (a.mk : Nat)), .als 1 (jx ((Sy.behind b d a).dd d0)), .v (.int (s : Int)), .v (.int 1)] = .ok true := rfl
   rw [e_seq, e_if, t1, ifR_f, e_next, next_nx, e_if, t2, ifR_t, hset]
   rfl
 | through t d =>
  have hm := mkb t hs
  have e4 : (Sy.through t d).m1.testBit s = t.f s := hm
  have el : (Sy.through t d).lm ((Sy.through t d).dd d0) s = if t.f s = true then t.mk else (Tr.neg t).mk := by
   show (if d = d then (if t.f s = true then t.mk else (Tr.neg t).mk) else 65535) = _
   simp
  rw [e4, el]
  have hx := xor_full (mk_lt t)
  rw [<- neg_mk] at hx
  have fin : ∀ (i : Int) (v : Nat), (i = 0 /\ v = (Tr.neg t).mk \/ i = 1 /\ v = t.mk) -> (sSeq (sIf (dTr (d2 fEq (dSee 4) (dC (.int 1))))
    (sSetA 7 (dVar 8) (d2 fAnd (d2 fIx (dAls 7) (dSee 8)) (d2 fIx (dOfN (dCons (d2 fXor (dC (.int 65535)) (dSee 5)) (dCons (dVar 5) dNil))) (dSee 9)))) sNext)
    (sIf (dAndT (dTr (d2 fEq (dSee 4) (dC (.int 2)))) (dTr (d2 fEq (dSee 9) (dC (.int 1))))) (sSetA 7 (dVar 8) (d2 fAnd (d2 fIx (dAls 7) (dSee 8)) (dSee 6))) sNext) [s0, dol5 F, s2, s3, .v (.int 1), .v (.int (t.mk : Nat)), .v (.int 0), .als 1 (jx d), .v (.int (s : Int)), .v (.int i)]) =
    .nx [s0, dol5 (putF2 F d s (F d s &&& v)), s2, s3, .v (.int 1), .v (.int (t.mk : Nat)), .v (.int 0), .als 1 (jx d), .v (.int (s : Int)), .v (.int i)] := by
   intro i v hiv
   have hd : DeedL d := hd
   have hg := getA5 (F := F) (s := s) hd hs s0 s2 s3 (.v (.int 1)) (.v (.int (t.mk : Nat))) (.v (.int 0)) (.v (.int i))
   have ha := bitAnd_nat (F d s) v
   have hi : d2 fIx (dOfN (dCons (d2 fXor (dC (.int 65535)) (dSee 5)) (dCons (dVar 5) dNil))) (dSee 9) [s0, dol5 F, s2, s3, .v (.int 1), .v (.int (t.mk : Nat)), .v (.int 0), .als 1 (jx d), .v (.int (s : Int)), .v (.int i)] = .ok (.int ((v : Nat) : Int)) := by
    have e5 : dOfN (dCons (d2 fXor (dC (.int 65535)) (dSee 5)) (dCons (dVar 5) dNil)) [s0, dol5 F, s2, s3, .v (.int 1), .v (.int (t.mk : Nat)), .v (.int 0), .als 1 (jx d), .v (.int (s : Int)), .v (.int i)] = .ok (.lst [.int (Builtin.bitXor 65535 (t.mk : Nat)), .int (t.mk : Nat)]) := rfl
    rw [e_2, e5, hx]
    rcases hiv with ⟨rfl, rfl⟩ | ⟨rfl, rfl⟩ <;> rfl
   have hv : d2 fAnd (d2 fIx (dAls 7) (dSee 8)) (d2 fIx (dOfN (dCons (d2 fXor (dC (.int 65535)) (dSee 5)) (dCons (dVar 5) dNil))) (dSee 9)) [s0, dol5 F, s2, s3, .v (.int 1), .v (.int (t.mk : Nat)), .v (.int 0), .als 1 (jx d), .v (.int (s : Int)), .v (.int i)] = .ok (.int ((F d s &&& v : Nat) : Int)) := by
    rw [e_2, hg, hi]
    show Rx.ok (PV.int (Builtin.bitAnd _ _)) = _
    rw [ha]
   have hset := setA5 (F := F) hd hs s0 s2 s3 (.v (.int 1)) (.v (.int (t.mk : Nat))) (.v (.int 0)) (.v (.int i)) hv
   have t1 : dTr (d2 fEq (dSee 4) (dC (.int 1))) [s0, dol5 F, s2, s3, .v (.int 1), .v (.int (t.mk : Nat)), .v (.int 0), .als 1 (jx d), .v (.int (s : Int)), .v (.int i)] = .ok true := rfl
   have t2 : ∀ D, dAndT (dTr (d2 fEq (dSee 4) (dC (.int 2)))) (dTr (d2 fEq (dSee 9) (dC (.int 1)))) [s0, D, s2, s3, .v (.int 1), .v (.int (t.mk : Nat)), .v (.int 0), .als 1 (jx d), .v (.int (s : Int)), .v (.int i)] = .ok false := fun _ => rfl
   rw [e_seq, e_if, t1, ifR_t, hset, next_nx, e_if, t2, ifR_f, e_next]
  cases hf : t.f s
  ·rw [if_neg Bool.false_ne_true, if_neg Bool.false_ne_true]
   exact fin 0 _ (.inl ⟨rfl, rfl⟩)
  ·rw [if_pos rfl, if_pos rfl]
   exact fin 1 _ (.inr ⟨rfl, rfl⟩)
def thr (F : Str -> Nat -> Nat) (y : Sy) (d : Str) : List Nat -> Str -> Nat -> Nat
 | [] => F
 | s :: l => thr (putF2 F d s (F d s &&& y.lm d s)) y d l
theorem thr_lt {y : Sy} {d : Str} : ∀ {l : List Nat} {F : Str -> Nat -> Nat}, (∀ e s, F e s < 65536) -> ∀ e s, thr F y d l e s < 65536
 | [], F, h => h
 | s :: l, F, h => thr_lt (l := l) fun e i => by
  unfold putF2
  split
  ·exact Nat.lt_of_le_of_lt Nat.and_le_left (h d s)
  ·exact h e i
theorem thr_at {y : Sy} {d : Str} : ∀ {l : List Nat} {F : Str -> Nat -> Nat} (e : Str) (i : Nat), l.Nodup -> thr F y d l e i = if e = d /\ i ∈ l then F e i &&& y.lm e i else F e i
 | [], F, e, i, _ => by simp [thr]
 | s :: l, F, e, i, h => by
  have h2 := List.nodup_cons.mp h
  rw [thr, thr_at e i h2.2]
  unfold putF2
  by_cases he : e = d
  ·subst he
   by_cases his : i = s
   ·subst his
    simp [h2.1]
   ·simp [his]
  ·simp [he]
theorem lets_row (n : Nat) (y : Sy) (d0 : Str) (hd : DeedL (y.dd d0)) (s0 s2 s3 : Sl) : ∀ (l : List Nat) (F : Str -> Nat -> Nat) (s8 s9 : Sl), (∀ i ∈ l, i < 16) -> (∀ e s, F e s < 65536) -> ∃ t8 t9, forD (gSet 8) (b_zc_1 (gF n)) (l.map fun (i : Nat) => PV.int (i : Int)) [s0, dol5 F, s2, s3, .v (.int (y.srt : Nat)), .v (.int (y.m1 : Nat)), .v (.int (y.m2 : Nat)), .als 1 (jx (y.dd d0)), s8, s9] =
  .nx [s0, dol5 (thr F y (y.dd d0) l), s2, s3, .v (.int (y.srt : Nat)), .v (.int (y.m1 : Nat)), .v (.int (y.m2 : Nat)), .als 1 (jx (y.dd d0)), t8, t9]
 | [], F, s8, s9, _, _ => ⟨s8, s9, rfl⟩
 | s :: l, F, s8, s9, hl, hF => by
  obtain ⟨t9, e1⟩ := lets_turn n y d0 hd F (hl s List.mem_cons_self) (hF _ _) s0 s2 s3 s9
  obtain ⟨u8, u9, e2⟩ := lets_row n y d0 hd s0 s2 s3 l (putF2 F (y.dd d0) s (F (y.dd d0) s &&& y.lm (y.dd d0) s)) (.v (.int (s : Int))) t9 (fun i hi => hl i (List.mem_cons_of_mem _ hi)) fun e i => by
   unfold putF2
   split
   ·exact Nat.lt_of_le_of_lt Nat.and_le_left (hF _ _)
   ·exact hF e i
  refine ⟨u8, u9, ?_⟩
  have eg : gSet 8 (PV.int (s : Int)) [s0, dol5 F, s2, s3, .v (.int (y.srt : Nat)), .v (.int (y.m1 : Nat)), .v (.int (y.m2 : Nat)), .als 1 (jx (y.dd d0)), s8, s9] = .ok [s0, dol5 F, s2, s3, .v (.int (y.srt : Nat)), .v (.int (y.m1 : Nat)), .v (.int (y.m2 : Nat)), .als 1 (jx (y.dd d0)), .v (.int (s : Int)), s9] := rfl
  rw [List.map_cons, forD, eg, ok_st, e1]
  exact e2
def lall (F : Str -> Nat -> Nat) : List (Sy × Str) -> Str -> Nat -> Nat
 | [] => F
 | z :: zs => lall (thr F z.1 (z.1.dd z.2) (List.range 16)) zs
theorem lm_other {y : Sy} {d0 e : Str} (s : Nat) (h : e ≠ y.dd d0) : y.lm e s = 65535 := by
 cases y with
 | nowhere t => rfl
 | behind b d a => exact if_neg fun z => h z.1
 | through t d => exact if_neg h
theorem lall_at : ∀ (zs : List (Sy × Str)) (F : Str -> Nat -> Nat) (e : Str) (s : Nat), s < 16 -> (∀ e s, F e s < 65536) -> lall F zs e s = (zs.map Prod.fst).foldl (fun m y => m &&& y.lm e s) (F e s)
 | [], F, e, s, _, _ => rfl
 | z :: zs, F, e, s, hs, hF => by
  rw [lall, lall_at zs _ e s hs (thr_lt hF), thr_at e s List.nodup_range, List.map_cons, List.foldl_cons]
  congr 1
  by_cases h : e = z.1.dd z.2
  ·rw [if_pos ⟨h, List.mem_range.mpr hs⟩]
  ·rw [if_neg fun q => h q.1, lm_other s h, and_full (hF e s)]
theorem lets_all (n : Nat) (T : PV) : ∀ (zs : List (Sy × Str)) (F : Str -> Nat -> Nat) (s2 s3 s4 s5 s6 s7 s8 s9 : Sl), (∀ z ∈ zs, Z5 z) -> (∀ e s, F e s < 65536) -> ∃ t2 t3 t4 t5 t6 t7 t8 t9, forD (gTupD 5 (gConsD (gSet 3) (gConsD (gSet 4) (gConsD (gSet 5) (gConsD (gSet 2) (gConsD (gSet 6) gNilD)))))) (b_zc_2 (gF n)) (zs.map tp5) [.v T, dol5 F, s2, s3, s4, s5, s6, s7, s8, s9] =
  .nx [.v T, dol5 (lall F zs), t2, t3, t4, t5, t6, t7, t8, t9]
 | [], F, s2, s3, s4, s5, s6, s7, s8, s9, _, _ => ⟨s2, s3, s4, s5, s6, s7, s8, s9, rfl⟩
 | z :: zs, F, s2, s3, s4, s5, s6, s7, s8, s9, hz, hF => by
  have hd := (hz z List.mem_cons_self).2
  obtain ⟨u8, u9, e1⟩ := lets_row n z.1 z.2 hd (.v T) (.v (.str (z.1.dd z.2))) (.v z.1.pv) (List.range 16) F s8 s9 (fun i hi => List.mem_range.mp hi) hF
  obtain ⟨t2, t3, t4, t5, t6, t7, t8, t9, e2⟩ := lets_all n T zs (thr F z.1 (z.1.dd z.2) (List.range 16)) (.v (.str (z.1.dd z.2))) (.v z.1.pv) (.v (.int (z.1.srt : Nat))) (.v (.int (z.1.m1 : Nat))) (.v (.int (z.1.m2 : Nat))) (.als 1 (jx (z.1.dd z.2))) u8 u9 (fun y hy => hz y (List.mem_cons_of_mem _ hy)) (thr_lt hF)
  refine ⟨t2, t3, t4, t5, t6, t7, t8, t9, ?_⟩
  have eg : gTupD 5 (gConsD (gSet 3) (gConsD (gSet 4) (gConsD (gSet 5) (gConsD (gSet 2) (gConsD (gSet 6) gNilD))))) (tp5 z) [.v T, dol5 F, s2, s3, s4, s5, s6, s7, s8, s9] = .ok [.v T, dol5 F, .v (.str (z.1.dd z.2)), .v z.1.pv, .v (.int (z.1.srt : Nat)), .v (.int (z.1.m1 : Nat)), .v (.int (z.1.m2 : Nat)), s7, s8, s9] := rfl
  have ea : sAls 7 1 (dVar 2) [.v T, dol5 F, .v (.str (z.1.dd z.2)), .v z.1.pv, .v (.int (z.1.srt : Nat)), .v (.int (z.1.m1 : Nat)), .v (.int (z.1.m2 : Nat)), s7, s8, s9] = .nx [.v T, dol5 F, .v (.str (z.1.dd z.2)), .v z.1.pv, .v (.int (z.1.srt : Nat)), .v (.int (z.1.m1 : Nat)), .v (.int (z.1.m2 : Nat)), .als 1 (jx (z.1.dd z.2)), s8, s9] := by
   show (match kIx K5 (.inr (z.1.dd z.2)) 0 with | some m => Rs.nx [.v T, dol5 F, .v (.str (z.1.dd z.2)), .v z.1.pv, .v (.int (z.1.srt : Nat)), .v (.int (z.1.m1 : Nat)), .v (.int (z.1.m2 : Nat)), .als 1 m, s8, s9] | none => .bad) = _
   rw [jx_ok hd]
  have er : ∀ ps, dRng1 (dCons (dC (.int 16)) dNil) ps = .ok ((List.range 16).map fun (i : Nat) => PV.int (i : Int)) := fun _ => rfl
  rw [List.map_cons, forD, eg, ok_st]
  have body : b_zc_2 (gF n) [.v T, dol5 F, .v (.str (z.1.dd z.2)), .v z.1.pv, .v (.int (z.1.srt : Nat)), .v (.int (z.1.m1 : Nat)), .v (.int (z.1.m2 : Nat)), s7, s8, s9] = .nx [.v T, dol5 (thr F z.1 (z.1.dd z.2) (List.range 16)), .v (.str (z.1.dd z.2)), .v z.1.pv, .v (.int (z.1.srt : Nat)), .v (.int (z.1.m1 : Nat)), .v (.int (z.1.m2 : Nat)), .als 1 (jx (z.1.dd z.2)), u8, u9] := by
   unfold b_zc_2
   rw [e_seq, ea, next_nx, e_for, er, ok_st, e1]
  rw [body]
  exact e2
theorem lets5_ok (n : Nat) (zs : List (Sy × Str)) (hz : ∀ z ∈ zs, Z5 z) : gF (n + 1) 12 [.lst (zs.map tp5)] = .ok (letP (letm (zs.map Prod.fst))) := by
 rw [g_zc, runD_of rfl]
 show fin (d_zc (gF n) [.v (.lst (zs.map tp5)), .no, .no, .no, .no, .no, .no, .no, .no, .no]) = _
 obtain ⟨t2, t3, t4, t5, t6, t7, t8, t9, e1⟩ := lets_all n (.lst (zs.map tp5)) zs (fun _ _ => 65535) (.v (.str "T")) .no .no .no .no .no .no .no hz (fun _ _ => by decide)
 have e0 : (sFor (dItemsS (dC (.str "PQRST"))) (gSet 2) (b_zc_3 (gF n))) [.v (.lst (zs.map tp5)), .own (.dic [] []), .no, .no, .no, .no, .no, .no, .no, .no] = .nx [.v (.lst (zs.map tp5)), dol5 (fun _ _ => 65535), .v (.str "T"), .no, .no, .no, .no, .no, .no, .no] := rfl
 have ei : dItems (dVar 0) [.v (.lst (zs.map tp5)), dol5 (fun _ _ => 65535), .v (.str "T"), .no, .no, .no, .no, .no, .no, .no] = .ok (zs.map tp5) := rfl
 have eo : sOwnD 1 [.v (.lst (zs.map tp5)), .no, .no, .no, .no, .no, .no, .no, .no, .no] = .nx [.v (.lst (zs.map tp5)), .own (.dic [] []), .no, .no, .no, .no, .no, .no, .no, .no] := rfl
 have ep : dic5 (fun e => PV.lst (rowL (lall (fun _ _ => 65535) zs e))) = letP (letm (zs.map Prod.fst)) := by
  have h : ∀ e, rowL (lall (fun _ _ => 65535) zs e) = (List.range 16).map fun (i : Nat) => PV.int ((letm (zs.map Prod.fst) e i : Nat) : Int) := fun e => by
   unfold rowL
   apply List.map_congr_left
   intro i hi
   rw [lall_at zs _ e i (List.mem_range.mp hi) (fun _ _ => by decide)]
   rfl
  show dic5 _ = dic5 fun e => rowN (letm (zs.map Prod.fst) e)
  congr 1
  funext e
  rw [h e]; rfl
 unfold d_zc
 rw [e_seq, eo, next_nx, e_seq, e0, next_nx, e_seq, e_for, ei, ok_st, e1, next_nx]
 rw [<- ep]
 rfl
end M44
end
section
namespace M44
open PySem L2 DN
theorem min5 (f : Str -> Nat) : bMinL [.lst (DS5.map fun e => PV.int ((f e : Nat) : Int))] = .ok (.int (minL ((f "P" : Nat) : Int) [((f "Q" : Nat) : Int), ((f "R" : Nat) : Int), ((f "S" : Nat) : Int), ((f "T" : Nat) : Int)])) := rfl
theorem min5_eq (f : Str -> Nat) : ((minL ((f "P" : Nat) : Int) [((f "Q" : Nat) : Int), ((f "R" : Nat) : Int), ((f "S" : Nat) : Int), ((f "T" : Nat) : Int)]) == 0) = !(DS5.all fun e => !(f e == 0)) := by
 obtain ⟨h1, h2⟩ := minL_le [((f "Q" : Nat) : Int), ((f "R" : Nat) : Int), ((f "S" : Nat) : Int), ((f "T" : Nat) : Int)] ((f "P" : Nat) : Int)
 have h3 := minL_mem [((f "Q" : Nat) : Int), ((f "R" : Nat) : Int), ((f "S" : Nat) : Int), ((f "T" : Nat) : Int)] ((f "P" : Nat) : Int)
 generalize minL ((f "P" : Nat) : Int) [((f "Q" : Nat) : Int), ((f "R" : Nat) : Int), ((f "S" : Nat) : Int), ((f "T" : Nat) : Int)] = w at h1 h2 h3
 rw [Bool.eq_iff_iff]
 simp only [List.mem_cons, List.not_mem_nil, or_false, forall_eq_or_imp, forall_eq] at h2 h3
 simp [DS5]
 omega
theorem good_turn (n : Nat) (T : PV) (L : Str -> Nat -> Nat) (m s : Nat) (hs : s < 16) (s3 s4 s5 s6 s7 s8 s9 : Sl) : b_zd_1 (gF n) [.v T, .v (letP L), .v (.int (m : Int)), s3, s4, s5, s6, s7, s8, s9, .v (.int (s : Int))] = .nx [.v T, .v (letP L), .v (.int (remS L m s : Nat)), s3, s4, s5, s6, s7, s8, s9, .v (.int (s : Int))] := by
 have hc : dComp ["_law_deed"] [("_law_mask", 2), ("_law_setting", 10), ("_law_lets_here", 1)] (dItemsS (dC (.str "PQRST"))) (gSet 0) dYes (d2 fAnd (d2 fIx (d2 fDGet (dSee 3) (dSee 0)) (dSee 2)) (dSee 1)) [.v T, .v (letP L), .v (.int (m : Int)), s3, s4, s5, s6, s7, s8, s9, .v (.int (s : Int))] = .ok (DS5.map fun e => PV.int ((L e s &&& m : Nat) : Int)) := by
  have ei : dItemsS (dC (.str "PQRST")) [.v T, .v (letP L), .v (.int (m : Int)), s3, s4, s5, s6, s7, s8, s9, .v (.int (s : Int))] = .ok (DS5.map PV.str) := rfl
  unfold dComp
  rw [ei, ok_bind, if_pos (by show 5 <= sizeLine; decide)]
  refine comp_all (ps0 := [.v (.int (m : Int)), .v (.int (s : Int)), .v (letP L)]) PV.str (fun e => PV.int ((L e s &&& m : Nat) : Int)) DS5 .no fun e he => ?_
  have e1 := get5 (fun e => rowN (L e)) (mem5.mp he)
  have e2 := rowN_ix (L e) hs
  have e3 := bitAnd_nat (L e s) m
  simp [e1, e2, e3]
 have hm := min5 fun e => L e s &&& m
 have he := min5_eq fun e => L e s &&& m
 have ho : (DS5.all fun e => !(L e s &&& m == 0)) = okAt L m s := rfl
 rw [ho] at he
 have et : dTr (d2 fEq (dCall bMinL (dCons (dOfN (dComp ["_law_deed"] [("_law_mask", 2), ("_law_setting", 10), ("_law_lets_here", 1)] (dItemsS (dC (.str "PQRST"))) (gSet 0) dYes (d2 fAnd (d2 fIx (d2 fDGet (dSee 3) (dSee 0)) (dSee 2)) (dSee 1)))) dNil)) (dC (.int 0))) [.v T, .v (letP L), .v (.int (m : Int)), s3, s4, s5, s6, s7, s8, s9, .v (.int (s : Int))] = .ok (!okAt L m s) := by
  simp only [e_Tr, e_2, e_call, e_cons, e_ofN, hc, ok_bind, e_nil, consR_ok, hm]
  rw [<- he]
  rfl
 have h2 : 2 ^ s < 65536 := by
  have : 2 ^ s <= 2 ^ 15 := Nat.pow_le_pow_right (by decide) (by omega)
  omega
 have hx := xor_full h2
 have hx : Builtin.bitXor 65535 (2 ^ s) = ((65535 - 2 ^ s : Nat) : Int) := by
  have e : (((2 ^ s : Nat)) : Int) = (2 : Int) ^ s := by simp
  rw [<- e]; exact hx
 have ha := bitAnd_nat m (65535 - 2 ^ s)
 have h0 : (0 : Int) <= (s : Int) /\ (s : Int) <= 1000000 := by omega
 have es : d2 fAnd (dSee 2) (d2 fXor (dC (.int 65535)) (d2 fShl (dC (.int 1)) (dSee 10))) [.v T, .v (letP L), .v (.int (m : Int)), s3, s4, s5, s6, s7, s8, s9, .v (.int (s : Int))] = .ok (.int ((m &&& (65535 - 2 ^ s) : Nat) : Int)) := by
  have e6 : d2 fShl (dC (.int 1)) (dSee 10) [.v T, .v (letP L), .v (.int (m : Int)), s3, s4, s5, s6, s7, s8, s9, .v (.int (s : Int))] = .ok (.int (2 ^ s)) := by
   show (if 0 <= (s : Int) /\ (s : Int) <= 1000000 /\ (1 : Int).natAbs < 2 ^ 64 then Rx.ok (PV.int (1 * 2 ^ ((s : Int)).toNat)) else .bad) = _
   rw [if_pos ⟨h0.1, h0.2, by decide⟩, Int.toNat_natCast, Int.one_mul]
  have e3 : dSee 2 [.v T, .v (letP L), .v (.int (m : Int)), s3, s4, s5, s6, s7, s8, s9, .v (.int (s : Int))] = .ok (.int (m : Int)) := rfl
  rw [e_2, e3, e_2, e6]
  show Rx.ok (PV.int (Builtin.bitAnd (m : Int) (Builtin.bitXor 65535 (2 ^ s)))) = _
  rw [hx, ha]
 unfold b_zd_1
 rw [e_if, et]
 unfold remS
 cases okAt L m s
 ·show (sSet 2 _ _) = _
  rw [e_set, es]
  rfl
 ·rfl
theorem ground_ok (n : Nat) (T : PV) (L : Str -> Nat -> Nat) (s3 s4 s5 s6 s7 s8 s9 : Sl) : ∀ (l : List Nat) (m : Nat) (s10 : Sl), (∀ i ∈ l, i < 16) -> ∃ t10, forD (gSet 10) (b_zd_1 (gF n)) (l.map fun (i : Nat) => PV.int (i : Int)) [.v T, .v (letP L), .v (.int (m : Int)), s3, s4, s5, s6, s7, s8, s9, s10] = .nx [.v T, .v (letP L), .v (.int (rnd L l m : Nat)), s3, s4, s5, s6, s7, s8, s9, t10]
 | [], m, s10, _ => ⟨s10, rfl⟩
 | s :: l, m, s10, h => by
  obtain ⟨t10, ih⟩ := ground_ok n T L s3 s4 s5 s6 s7 s8 s9 l (remS L m s) (.v (.int (s : Int))) fun i hi => h i (List.mem_cons_of_mem _ hi)
  refine ⟨t10, ?_⟩
  have eg : gSet 10 (PV.int (s : Int)) [.v T, .v (letP L), .v (.int (m : Int)), s3, s4, s5, s6, s7, s8, s9, s10] = .ok [.v T, .v (letP L), .v (.int (m : Int)), s3, s4, s5, s6, s7, s8, s9, .v (.int (s : Int))] := rfl
  rw [List.map_cons, forD, eg, ok_st, good_turn n T L m s (h s List.mem_cons_self) s3 s4 s5 s6 s7 s8 s9]
  exact ih
theorem grounds_ok (n : Nat) (T : PV) (L : Str -> Nat -> Nat) (s4 s5 s6 s7 s8 : Sl) : ∀ (l : List Nat) (m : Nat) (s3 s9 s10 : Sl), fin ((forD (gSet 3) (b_zd_2 (gF n)) (l.map fun (i : Nat) => PV.int (i : Int)) [.v T, .v (letP L), .v (.int (m : Int)), s3, s4, s5, s6, s7, s8, s9, s10]).next (sRet (dVar 2))) = .ok (.int (rnds L l.length m : Nat))
 | [], m, s3, s9, s10 => rfl
 | k :: l, m, s3, s9, s10 => by
  obtain ⟨t10, e1⟩ := ground_ok n T L (.v (.int (k : Int))) s4 s5 s6 s7 s8 (.v (.int (m : Int))) (List.range 16) m s10 fun i hi => List.mem_range.mp hi
  have ih := grounds_ok n T L s4 s5 s6 s7 s8 l (rnd L (List.range 16) m) (.v (.int (k : Int))) (.v (.int (m : Int))) t10
  have eg : gSet 3 (PV.int (k : Int)) [.v T, .v (letP L), .v (.int (m : Int)), s3, s4, s5, s6, s7, s8, s9, s10] = .ok [.v T, .v (letP L), .v (.int (m : Int)), .v (.int (k : Int)), s4, s5, s6, s7, s8, s9, s10] := rfl
  have er : ∀ ps, dRng1 (dCons (dC (.int 16)) dNil) ps = .ok ((List.range 16).map fun (i : Nat) => PV.int (i : Int)) := fun _ => rfl
  have e9 : sSet 9 (dVar 2) [.v T, .v (letP L), .v (.int (m : Int)), .v (.int (k : Int)), s4, s5, s6, s7, s8, s9, s10] = .nx [.v T, .v (letP L), .v (.int (m : Int)), .v (.int (k : Int)), s4, s5, s6, s7, s8, .v (.int (m : Int)), s10] := rfl
  have et : dTr (d2 fEq (dSee 2) (dSee 9)) [.v T, .v (letP L), .v (.int (rnd L (List.range 16) m : Nat)), .v (.int (k : Int)), s4, s5, s6, s7, s8, .v (.int (m : Int)), t10] = .ok (((rnd L (List.range 16) m : Nat) : Int) == (m : Int)) := rfl
  have body : b_zd_2 (gF n) [.v T, .v (letP L), .v (.int (m : Int)), .v (.int (k : Int)), s4, s5, s6, s7, s8, s9, s10] = if rnd L (List.range 16) m = m then .ret (.int (m : Int)) else .nx [.v T, .v (letP L), .v (.int (rnd L (List.range 16) m : Nat)), .v (.int (k : Int)), s4, s5, s6, s7, s8, .v (.int (m : Int)), t10] := by
   unfold b_zd_2
   rw [e_seq, e9, next_nx, e_seq, e_for, er, ok_st, e1, next_nx, e_if, et]
   by_cases h : rnd L (List.range 16) m = m
   ·have hb : (((rnd L (List.range 16) m : Nat) : Int) == (m : Int)) = true := by simp [h]
    rw [if_pos h, hb, ifR_t, h]
    rfl
   ·have hb : (((rnd L (List.range 16) m : Nat) : Int) == (m : Int)) = false := by simp; omega
    rw [if_neg h, hb, ifR_f, e_next]
  rw [List.map_cons, forD, eg, ok_st, body]
  by_cases h : rnd L (List.range 16) m = m
  ·rw [if_pos h, rnds_stay h]
   rfl
  ·rw [if_neg h]
   exact ih
def kpS (y : Sy) (m : Nat) : Nat := match y with | .nowhere t => m &&& (Tr.neg t).mk | _ => m
theorem gkp_loop (n : Nat) (T D : PV) (s3 s9 s10 : Sl) : ∀ (zs : List (Sy × Str)) (m : Nat) (s4 s5 s6 s7 s8 : Sl), ∃ t4 t5 t6 t7 t8, forD (gTupD 5 (gConsD (gSet 4) (gConsD (gSet 5) (gConsD (gSet 6) (gConsD (gSet 7) (gConsD (gSet 8) gNilD)))))) (b_zd_3 (gF n)) (zs.map tp5) [.v T, .v D, .v (.int (m : Int)), s3, s4, s5, s6, s7, s8, s9, s10] = .nx [.v T, .v D, .v (.int (kp0 (zs.map Prod.fst) m : Nat)), s3, t4, t5, t6, t7, t8, s9, s10]
 | [], m, s4, s5, s6, s7, s8 => ⟨s4, s5, s6, s7, s8, rfl⟩
 | z :: zs, m, s4, s5, s6, s7, s8 => by
  have eg : gTupD 5 (gConsD (gSet 4) (gConsD (gSet 5) (gConsD (gSet 6) (gConsD (gSet 7) (gConsD (gSet 8) gNilD))))) (tp5 z) [.v T, .v D, .v (.int (m : Int)), s3, s4, s5, s6, s7, s8, s9, s10] = .ok [.v T, .v D, .v (.int (m : Int)), s3, .v z.1.pv, .v (.int (z.1.srt : Nat)), .v (.int (z.1.m1 : Nat)), .v (.str (z.1.dd z.2)), .v (.int (z.1.m2 : Nat)), s9, s10] := rfl
  obtain ⟨y, d0⟩ := z
  have key : ∀ m' : Nat, kpS y m = m' -> b_zd_3 (gF n) [.v T, .v D, .v (.int (m : Int)), s3, .v y.pv, .v (.int (y.srt : Nat)), .v (.int (y.m1 : Nat)), .v (.str (y.dd d0)), .v (.int (y.m2 : Nat)), s9, s10] = .nx [.v T, .v D, .v (.int ((m' : Nat) : Int)), s3, .v y.pv, .v (.int (y.srt : Nat)), .v (.int (y.m1 : Nat)), .v (.str (y.dd d0)), .v (.int (y.m2 : Nat)), s9, s10] := by
   intro m' hm
   subst hm
   unfold b_zd_3
   cases y with
   | nowhere t =>
    have hx := xor_full (mk_lt t)
    rw [<- neg_mk] at hx
    have ha := bitAnd_nat m (Tr.neg t).mk
    simp [Sy.srt, Sy.m1, hx, ha, kpS]
   | behind b d a => simp [Sy.srt, kpS]
   | through t d => simp [Sy.srt, kpS]
  obtain ⟨t4, t5, t6, t7, t8, ih⟩ := gkp_loop n T D s3 s9 s10 zs (kpS y m) (.v y.pv) (.v (.int (y.srt : Nat))) (.v (.int (y.m1 : Nat))) (.v (.str (y.dd d0))) (.v (.int (y.m2 : Nat)))
  refine ⟨t4, t5, t6, t7, t8, ?_⟩
  rw [List.map_cons, forD, eg, ok_st]
  rw [key _ rfl]
  exact ih
theorem lgood_ok (n : Nat) (zs : List (Sy × Str)) (m : Nat) : gF (n + 1) 13 [.lst (zs.map tp5), letP (letm (zs.map Prod.fst)), .int (m : Int)] = .ok (.int (rnds (letm (zs.map Prod.fst)) 17 (kp0 (zs.map Prod.fst) m) : Nat)) := by
 rw [g_zd, runD_of rfl]
 show fin (d_zd (gF n) [.v (.lst (zs.map tp5)), .v (letP (letm (zs.map Prod.fst))), .v (.int (m : Int)), .no, .no, .no, .no, .no, .no, .no, .no]) = _
 obtain ⟨t4, t5, t6, t7, t8, e1⟩ := gkp_loop n (.lst (zs.map tp5)) (letP (letm (zs.map Prod.fst))) .no .no .no zs m .no .no .no .no .no
 have e2 := grounds_ok n (.lst (zs.map tp5)) (letm (zs.map Prod.fst)) t4 t5 t6 t7 t8 (List.range 17) (kp0 (zs.map Prod.fst) m) .no .no .no
 have ei : dItems (dVar 0) [.v (.lst (zs.map tp5)), .v (letP (letm (zs.map Prod.fst))), .v (.int (m : Int)), .no, .no, .no, .no, .no, .no, .no, .no] = .ok (zs.map tp5) := rfl
 have er : ∀ ps, dRng1 (dCons (dC (.int 17)) dNil) ps = .ok ((List.range 17).map fun (i : Nat) => PV.int (i : Int)) := fun _ => rfl
 unfold d_zd
 rw [e_seq, e_for, ei, ok_st, e1, next_nx, e_seq, e_for, er, ok_st]
 exact e2
end M44
end
section
namespace M44
open PySem L2 DN
theorem forD_all {α : Type} {g : DG} {body : DS} (P : PSt -> Prop) (p : α -> Bool) (emb : α -> PV) : ∀ (l : List α) (ps : PSt), P ps -> (∀ x ∈ l, ∀ ps, P ps -> ∃ ps1, g (emb x) ps = .ok ps1 /\ ((p x = true /\ ∃ ps2, body ps1 = .nx ps2 /\ P ps2) \/ (p x = false /\ body ps1 = .ret (.bl false)))) ->
  (l.all p = true /\ ∃ ps', forD g body (l.map emb) ps = .nx ps' /\ P ps') \/ (l.all p = false /\ forD g body (l.map emb) ps = .ret (.bl false))
 | [], ps, h, _ => .inl ⟨rfl, ps, rfl, h⟩
 | x :: l, ps, h, hb => by
  obtain ⟨ps1, e1, q⟩ := hb x List.mem_cons_self ps h
  rcases q with ⟨q1, ps2, q2, q3⟩ | ⟨q1, q2⟩
  ·rcases forD_all P p emb l ps2 q3 fun y hy => hb y (List.mem_cons_of_mem _ hy) with ⟨r1, ps', r2, r3⟩ | ⟨r1, r2⟩
   ·refine .inl ⟨by rw [List.all_cons, q1, r1]; rfl, ps', ?_, r3⟩
    rw [List.map_cons, forD, e1, ok_st, q2]; exact r2
   ·refine .inr ⟨by rw [List.all_cons, q1, r1]; rfl, ?_⟩
    rw [List.map_cons, forD, e1, ok_st, q2]; exact r2
  ·refine .inr ⟨by rw [List.all_cons, q1]; rfl, ?_⟩
   rw [List.map_cons, forD, e1, ok_st, q2]
structure Wd (n : Nat) (w : PV) (S : Int -> Nat) (L : Str -> Int -> Int) : Prop where
 st : ∀ z, callM q_setting (gF n) w [.int z] = .ok (.int ((S z : Nat) : Int))
 lt : ∀ z, S z < 16
 ld : ∀ d z, DeedL d -> callM q_led (gF n) w [.str d, .int z] = .ok (.int (L d z))
def kp1 (ys : List Sy) (S : Int -> Nat) (L : Str -> Int -> Int) (z : Int) : Bool := (unb ys).testBit (S z) && DS5.all fun e => (letm ys e (S z)).testBit (S (L e z))
theorem keepsg_ok (n : Nat) (ys : List Sy) {w : PV} {S : Int -> Nat} {L : Str -> Int -> Int} (W : Wd (n + 1) w S L) (z : Int) : callM q_keeps_at (gF (n + 2)) (bondsP ys) [w, .int z] = .ok (.bl (kp1 ys S L z)) := by
 have e0 : callM q_keeps_at (gF (n + 2)) (bondsP ys) [w, .int z] = runD [false, false, false] 5 (d_zq (gF (n + 1))) [bondsP ys, w, .int z] := rfl
 rw [e0, runD_of rfl]
 show fin (d_zq (gF (n + 1)) [.v (bondsP ys), .v w, .v (.int z), .no, .no]) = _
 have e1 := W.st z
 have e2 := is_in_ok n (unb ys) (S z)
 have f1 : fldP a_unbarred (bondsP ys) = .ok (.int (unb ys : Nat)) := rfl
 have f2 : fldP a_let_by (bondsP ys) = .ok (letP (letm ys)) := rfl
 have s1 : sSet 3 (dMeth q_setting (gF (n + 1)) (dVar 1) (dCons (dVar 2) dNil)) [.v (bondsP ys), .v w, .v (.int z), .no, .no] = .nx [.v (bondsP ys), .v w, .v (.int z), .v (.int (S z : Nat)), .no] := by
  simp [e1]
 have i1 : ∀ ps, dItemsT (dC (.tup c_DEEDS)) ps = .ok (DS5.map PV.str) := fun _ => rfl
 unfold kp1 d_zq
 rw [e_seq, s1, next_nx, e_seq]
 cases hu : (unb ys).testBit (S z)
 ·rw [hu] at e2
  simp [f1, e2]
 ·rw [hu] at e2
  have s2 : (sIf (dNotT (dTr (dCall (gF (n + 1) 0) (dCons (dVar 3) (dCons (dFld a_unbarred (dVar 0)) dNil))))) (sRet (dC (.bl false))) sNext) [.v (bondsP ys), .v w, .v (.int z), .v (.int (S z : Nat)), .no] = .nx [.v (bondsP ys), .v w, .v (.int z), .v (.int (S z : Nat)), .no] := by
   simp [f1, e2]
  rw [s2, next_nx, e_seq, e_for, i1, ok_st]
  have lp := forD_all (g := gSet 4) (body := b_zq_1 (gF (n + 1))) (fun ps => ∃ x, ps = [.v (bondsP ys), .v w, .v (.int z), .v (.int (S z : Nat)), x]) (fun e => (letm ys e (S z)).testBit (S (L e z))) PV.str DS5 [.v (bondsP ys), .v w, .v (.int z), .v (.int (S z : Nat)), .no] ⟨_, rfl⟩ (fun e he ps hp => by
   obtain ⟨x, rfl⟩ := hp
   refine ⟨[.v (bondsP ys), .v w, .v (.int z), .v (.int (S z : Nat)), .v (.str e)], rfl, ?_⟩
   have hd := mem5.mp he
   have q1 := W.ld e z hd
   have q2 := W.st (L e z)
   have q3 := get5 (fun e => rowN (letm ys e)) hd
   have q4 := rowN_ix (letm ys e) (W.lt z)
   have q5 := is_in_ok n (letm ys e (S z)) (S (L e z))
   cases hb : (letm ys e (S z)).testBit (S (L e z))
   ·rw [hb] at q5
    refine .inr ⟨rfl, ?_⟩
    unfold b_zq_1
    simp [q1, q2, f2, q3, q4, q5]
   ·rw [hb] at q5
    refine .inl ⟨rfl, _, ?_, .v (.str e), rfl⟩
    unfold b_zq_1
    simp [q1, q2, f2, q3, q4, q5])
  rcases lp with ⟨l1, ps', l2, _⟩ | ⟨l1, l2⟩
  ·rw [l2, l1]; rfl
  ·rw [l2, l1]; rfl
theorem keptg_ok (n : Nat) (D : Nat) {ys : List Sy} (hy : ∀ y ∈ ys, y.ok D) (hl : ys.length <= 1000) (hn : D <= n) {w : PV} {S : Int -> Nat} {L : Str -> Int -> Int} (W : Wd (n + 4) w S L) (zs : List Int) (hz : zs.length <= 1000) : gF (n + 6) 6 [w, .lst (ys.map Sy.pv), .lst (zs.map PV.int)] = .ok (.bl (zs.all (kp1 ys S L))) := by
 rw [g_z6, runD_of rfl]
 show fin (d_z6 (gF (n + 5)) [.v w, .v (.lst (ys.map Sy.pv)), .v (.lst (zs.map PV.int)), .no]) = _
 have eb := bonds_ok D ys hy hl n hn
 have hc : dComp ["state"] [("world", 0), ("bonds", 3)] (dItems (dSee 2)) (gSet 0) dYes (dMeth q_keeps_at (gF (n + 5)) (dVar 2) (dCons (dVar 1) (dCons (dVar 0) dNil))) [.v w, .v (.lst (ys.map Sy.pv)), .v (.lst (zs.map PV.int)), .v (bondsP ys)] = .ok (zs.map fun z => PV.bl (kp1 ys S L z)) := by
  have ei : dItems (dSee 2) [.v w, .v (.lst (ys.map Sy.pv)), .v (.lst (zs.map PV.int)), .v (bondsP ys)] = .ok (zs.map PV.int) := rfl
  unfold dComp
  rw [ei, ok_bind, if_pos (by rw [List.length_map]; show _ <= 16777216; omega)]
  refine comp_all (ps0 := [.v w, .v (bondsP ys)]) PV.int (fun z => PV.bl (kp1 ys S L z)) zs .no fun z _ => ?_
  exact keepsg_ok (n + 3) ys W z
 have ha := all_map (kp1 ys S L) zs
 have s1 : sSet 3 (dCall (gF (n + 5) 34) (dCons (dVar 1) dNil)) [.v w, .v (.lst (ys.map Sy.pv)), .v (.lst (zs.map PV.int)), .no] = .nx [.v w, .v (.lst (ys.map Sy.pv)), .v (.lst (zs.map PV.int)), .v (bondsP ys)] := by
  simp [eb]
 unfold d_z6
 rw [e_seq, s1, next_nx]
 simp only [e_ret, e_call, e_cons, e_ofN, hc, ok_bind, e_nil, consR_ok, ha, ok_st, fin_ret]
end M44
end
section
namespace M44
open PySem L2 DN
def gAt (gd k : Nat) : Nat := ((bits gd)[k]?).getD 0
def sm (L : Str -> Nat -> Nat) (gd : Nat) (e : Str) (s : Nat) : List Nat := (List.range (bits gd).length).filter fun k => (L e s).testBit (gAt gd k)
def iL (l : List Nat) : PV := .lst (l.map fun (i : Nat) => PV.int (i : Int))
def kk (q : Str × Nat) : List Key := [.inr q.1, .inl (q.2 : Int)]
theorem kk_inj {p q : Str × Nat} (h : kk p = kk q) : p = q := by
 unfold kk at h
 injection h with h1 h2
 injection h2 with h2 _
 injection h1 with h1
 injection h2 with h2
 exact Prod.ext h1 (by omega)
def vv (L : Str -> Nat -> Nat) (gd : Nat) (q : Str × Nat) : PV := iL (sm L gd q.1 q.2)
theorem inT_kk {P : List (Str × Nat)} {q : Str × Nat} (h : q ∉ P) : inT (P.map kk) (kk q) = false := by
 unfold inT
 rw [List.any_eq_false]
 intro x hx
 obtain ⟨p, hp, rfl⟩ := List.mem_map.mp hx
 have : kk p ≠ kk q := fun z => h (kk_inj z ▸ hp)
 simpa using this
theorem getT_kk {L : Str -> Nat -> Nat} {gd : Nat} : ∀ {P : List (Str × Nat)} {q : Str × Nat}, q ∈ P -> getT (P.map kk) (P.map (vv L gd)) (kk q) = some (vv L gd q)
 | [], q, h => by cases h
 | p :: P, q, h => by
  rw [List.map_cons, List.map_cons, getT]
  by_cases e : kk p = kk q
  ·rw [if_pos e, kk_inj e]
  ·rw [if_neg e]
   rcases List.mem_cons.mp h with rfl | h
   ·exact absurd rfl e
   ·exact getT_kk h
def dtS (L : Str -> Nat -> Nat) (gd : Nat) (P : List (Str × Nat)) : Sl := .own (.dit (P.map kk) (P.map (vv L gd)))
theorem gAt_ix {gd k : Nat} (h : k < (bits gd).length) : fIx (iL (bits gd)) (.int (k : Int)) = .ok (.int ((gAt gd k : Nat) : Int)) := by
 show (match atI ((bits gd).map fun (i : Nat) => PV.int (i : Int)) (k : Int) with | some w => Rx.ok w | none => .bad) = _
 rw [atI_nat (v := PV.int ((gAt gd k : Nat) : Int)) (by rw [List.getElem?_map, List.getElem?_eq_getElem h]; unfold gAt; rw [List.getElem?_eq_getElem h]; rfl)]
theorem gAt_mem {gd k : Nat} (h : k < (bits gd).length) : gAt gd k ∈ bits gd := by
 unfold gAt
 rw [List.getElem?_eq_getElem h]
 exact List.getElem_mem h
theorem iL_len (l : List Nat) (ps : PSt) {d : DP} (h : d ps = .ok (iL l)) : dCall bLen (dCons d dNil) ps = .ok (.int ((l.length : Nat) : Int)) := by
 have e : bLen [iL l] = .ok (.int ((l.length : Nat) : Int)) := by
  show Rx.ok (PV.int ((l.map fun (i : Nat) => PV.int (i : Int)).length : Int)) = _
  rw [List.length_map]
 simp [h, e]
theorem world1 (n : Nat) (L : Str -> Nat -> Nat) (gd : Nat) {e : Str} (he : DeedL e) {s : Nat} (hs : s < 16) (P : List (Str × Nat)) (hP : (e, s) ∉ P) (hl : P.length <= 1000) (s1 s2 s3 s4 s10 : Sl) : ∃ t10, b_ze_1 (gF n) [.v (letP L), s1, s2, s3, s4, .v (iL (bits gd)), .v (.int ((bits gd).length : Nat)), dtS L gd P, .v (.str e), .v (.int (s : Int)), s10] =
  .nx [.v (letP L), s1, s2, s3, s4, .v (iL (bits gd)), .v (.int ((bits gd).length : Nat)), dtS L gd (P ++ [(e, s)]), .v (.str e), .v (.int (s : Int)), t10] := by
 have hb := bits_len gd
 have hc : dComp ["_law_k"] [("_law_setting", 9), ("_law_goods", 5), ("_law_lets_here", 0), ("_law_deed", 8)] (dRng1 (dCons (dVar 6) dNil)) (gSet 0) (dTr (d2 fEq (d2 fAnd (d2 fShr (d2 fIx (d2 fDGet (dSee 3) (dSee 4)) (dSee 1)) (d2 fIx (dSee 2) (dSee 0))) (dC (.int 1))) (dC (.int 1)))) (dVar 0) [.v (letP L), s1, s2, s3, s4, .v (iL (bits gd)), .v (.int ((bits gd).length : Nat)), dtS L gd P, .v (.str e), .v (.int (s : Int)), s10] = .ok ((sm L gd e s).map fun (i : Nat) => PV.int (i : Int)) := by
  have ei : dRng1 (dCons (dVar 6) dNil) ([.v (letP L), s1, s2, s3, s4, .v (iL (bits gd)), .v (.int ((bits gd).length : Nat)), dtS L gd P, .v (.str e), .v (.int (s : Int)), s10] : PSt) = .ok ((List.range (bits gd).length).map fun (i : Nat) => PV.int (i : Int)) := rng1_at rfl (by omega)
  unfold dComp
  rw [ei, ok_bind, if_pos (by rw [List.length_map, List.length_range]; show _ <= 16777216; omega)]
  refine comp_emb (ps0 := [.v (.int (s : Int)), .v (iL (bits gd)), .v (letP L), .v (.str e)]) (fun (i : Nat) => PV.int (i : Int)) (fun k => (L e s).testBit (gAt gd k)) (fun (i : Nat) => PV.int (i : Int)) (List.range (bits gd).length) .no fun k hk => ⟨?_, fun _ => rfl⟩
  have e1 := get5 (fun e => rowN (L e)) he
  have e2 := rowN_ix (L e) hs
  have e3 := gAt_ix (List.mem_range.mp hk)
  have e4 := bit_nat (L e s) (gAt gd k)
  have h0 : (0 : Int) <= ((gAt gd k : Nat) : Int) := by omega
  have e3 : fIx (iL (bits gd)) (.int (k : Int)) = .ok (.int ((gAt gd k : Nat) : Int)) := e3
  simp [e1, e2, e3, e4, h0]
 refine ⟨.v (iL (sm L gd e s)), ?_⟩
 have a1 : sSet 10 (dOfN (dComp ["_law_k"] [("_law_setting", 9), ("_law_goods", 5), ("_law_lets_here", 0), ("_law_deed", 8)] (dRng1 (dCons (dVar 6) dNil)) (gSet 0) (dTr (d2 fEq (d2 fAnd (d2 fShr (d2 fIx (d2 fDGet (dSee 3) (dSee 4)) (dSee 1)) (d2 fIx (dSee 2) (dSee 0))) (dC (.int 1))) (dC (.int 1)))) (dVar 0))) [.v (letP L), s1, s2, s3, s4, .v (iL (bits gd)), .v (.int ((bits gd).length : Nat)), dtS L gd P, .v (.str e), .v (.int (s : Int)), s10] = .nx [.v (letP L), s1, s2, s3, s4, .v (iL (bits gd)), .v (.int ((bits gd).length : Nat)), dtS L gd P, .v (.str e), .v (.int (s : Int)), .v (iL (sm L gd e s))] := by
  rw [e_set, e_ofN, hc]
  rfl
 have hin : inT (P.map kk) [.inr e, .inl (s : Int)] = false := inT_kk hP
 have a2 : sDputT 7 (dCons (dVar 8) (dCons (dVar 9) dNil)) (dVar 10) [.v (letP L), s1, s2, s3, s4, .v (iL (bits gd)), .v (.int ((bits gd).length : Nat)), dtS L gd P, .v (.str e), .v (.int (s : Int)), .v (iL (sm L gd e s))] = .nx [.v (letP L), s1, s2, s3, s4, .v (iL (bits gd)), .v (.int ((bits gd).length : Nat)), dtS L gd (P ++ [(e, s)]), .v (.str e), .v (.int (s : Int)), .v (iL (sm L gd e s))] := by
  show (if (P.map kk).length < 10000 /\ inT (P.map kk) [.inr e, .inl (s : Int)] = false then Rs.nx [.v (letP L), s1, s2, s3, s4, .v (iL (bits gd)), .v (.int ((bits gd).length : Nat)), .own (.dit (P.map kk ++ [[.inr e, .inl (s : Int)]]) (P.map (vv L gd) ++ [iL (sm L gd e s)])), .v (.str e), .v (.int (s : Int)), .v (iL (sm L gd e s))] else .bad) = _
  rw [if_pos ⟨by rw [List.length_map]; omega, hin⟩]
  unfold dtS
  rw [List.map_append, List.map_append]
  rfl
 unfold b_ze_1
 rw [e_seq, a1, next_nx, a2]
theorem world2 (n : Nat) (L : Str -> Nat -> Nat) (gd : Nat) {e : Str} (he : DeedL e) (s1 s2 s3 s4 : Sl) : ∀ (l : List Nat) (P : List (Str × Nat)) (s9 s10 : Sl), l.Nodup -> (∀ s ∈ l, s < 16 /\ (e, s) ∉ P) -> P.length + l.length <= 1000 -> ∃ t9 t10, forD (gSet 9) (b_ze_1 (gF n)) (l.map fun (i : Nat) => PV.int (i : Int)) [.v (letP L), s1, s2, s3, s4, .v (iL (bits gd)), .v (.int ((bits gd).length : Nat)), dtS L gd P, .v (.str e), s9, s10] =
  .nx [.v (letP L), s1, s2, s3, s4, .v (iL (bits gd)), .v (.int ((bits gd).length : Nat)), dtS L gd (P ++ l.map fun s => (e, s)), .v (.str e), t9, t10]
 | [], P, s9, s10, _, _, _ => ⟨s9, s10, by rw [List.map_nil, List.map_nil, List.append_nil]; rfl⟩
 | s :: l, P, s9, s10, nd, h, hl => by
  obtain ⟨h1, h2⟩ := h s List.mem_cons_self
  have nd2 := List.nodup_cons.mp nd
  obtain ⟨t10, e1⟩ := world1 n L gd he h1 P h2 (by simp at hl; omega) s1 s2 s3 s4 s10
  obtain ⟨u9, u10, e2⟩ := world2 n L gd he s1 s2 s3 s4 l (P ++ [(e, s)]) (.v (.int (s : Int))) t10 nd2.2 (fun j hj => ⟨(h j (List.mem_cons_of_mem _ hj)).1, fun z => by
   rcases List.mem_append.mp z with z | z
   ·exact (h j (List.mem_cons_of_mem _ hj)).2 z
   ·rw [List.mem_singleton] at z
    injection z with _ z
    exact nd2.1 (z ▸ hj)⟩) (by simp at hl ⊢; omega)
  refine ⟨u9, u10, ?_⟩
  have eg : gSet 9 (PV.int (s : Int)) [.v (letP L), s1, s2, s3, s4, .v (iL (bits gd)), .v (.int ((bits gd).length : Nat)), dtS L gd P, .v (.str e), s9, s10] = .ok [.v (letP L), s1, s2, s3, s4, .v (iL (bits gd)), .v (.int ((bits gd).length : Nat)), dtS L gd P, .v (.str e), .v (.int (s : Int)), s10] := rfl
  rw [List.map_cons, forD, eg, ok_st, e1]
  rw [List.append_assoc] at e2
  exact e2
theorem world3 (n : Nat) (L : Str -> Nat -> Nat) (gd : Nat) (s1 s2 s3 s4 : Sl) : ∀ (l : List Str) (P : List (Str × Nat)) (s8 s9 s10 : Sl), l.Nodup -> (∀ e ∈ l, DeedL e /\ ∀ s, (e, s) ∉ P) -> P.length + 16 * l.length <= 1000 -> ∃ t8 t9 t10, forD (gSet 8) (b_ze_2 (gF n)) (l.map PV.str) [.v (letP L), s1, s2, s3, s4, .v (iL (bits gd)), .v (.int ((bits gd).length : Nat)), dtS L gd P, s8, s9, s10] =
  .nx [.v (letP L), s1, s2, s3, s4, .v (iL (bits gd)), .v (.int ((bits gd).length : Nat)), dtS L gd (P ++ l.flatMap fun e => (bits gd).map fun s => (e, s)), t8, t9, t10]
 | [], P, s8, s9, s10, _, _, _ => ⟨s8, s9, s10, by rw [List.map_nil, List.flatMap_nil, List.append_nil]; rfl⟩
 | e :: l, P, s8, s9, s10, nd, h, hl => by
  obtain ⟨h1, h2⟩ := h e List.mem_cons_self
  have nd2 := List.nodup_cons.mp nd
  have hb := bits_len gd
  obtain ⟨t9, t10, e1⟩ := world2 n L gd h1 s1 s2 s3 s4 (bits gd) P s9 s10 (List.Pairwise.filter _ List.nodup_range) (fun s hs => ⟨(mem_bits.mp hs).1, h2 s⟩) (by simp at hl; omega)
  obtain ⟨u8, u9, u10, e2⟩ := world3 n L gd s1 s2 s3 s4 l (P ++ (bits gd).map fun s => (e, s)) (.v (.str e)) t9 t10 nd2.2 (fun e' he' => ⟨(h e' (List.mem_cons_of_mem _ he')).1, fun s z => by
   rcases List.mem_append.mp z with z | z
   ·exact (h e' (List.mem_cons_of_mem _ he')).2 s z
   ·obtain ⟨s', _, z⟩ := List.mem_map.mp z
    injection z with z _
    exact nd2.1 (z ▸ he')⟩) (by simp at hl ⊢; omega)
  refine ⟨u8, u9, u10, ?_⟩
  have eg : gSet 8 (PV.str e) [.v (letP L), s1, s2, s3, s4, .v (iL (bits gd)), .v (.int ((bits gd).length : Nat)), dtS L gd P, s8, s9, s10] = .ok [.v (letP L), s1, s2, s3, s4, .v (iL (bits gd)), .v (.int ((bits gd).length : Nat)), dtS L gd P, .v (.str e), s9, s10] := rfl
  have ei : dItems (dVar 5) [.v (letP L), s1, s2, s3, s4, .v (iL (bits gd)), .v (.int ((bits gd).length : Nat)), dtS L gd P, .v (.str e), s9, s10] = .ok ((bits gd).map fun (i : Nat) => PV.int (i : Int)) := rfl
  have body : b_ze_2 (gF n) [.v (letP L), s1, s2, s3, s4, .v (iL (bits gd)), .v (.int ((bits gd).length : Nat)), dtS L gd P, .v (.str e), s9, s10] = .nx [.v (letP L), s1, s2, s3, s4, .v (iL (bits gd)), .v (.int ((bits gd).length : Nat)), dtS L gd (P ++ (bits gd).map fun s => (e, s)), .v (.str e), t9, t10] := by
   unfold b_ze_2
   rw [e_for, ei, ok_st, e1]
  rw [List.map_cons, forD, eg, ok_st, body]
  rw [List.append_assoc] at e2
  rw [List.flatMap_cons]
  exact e2
def Pw (gd : Nat) : List (Str × Nat) := DS5.flatMap fun e => (bits gd).map fun s => (e, s)
theorem mem_Pw {gd : Nat} {e : Str} {s : Nat} (he : DeedL e) (hs : s ∈ bits gd) : (e, s) ∈ Pw gd := List.mem_flatMap.mpr ⟨e, mem5.mpr he, List.mem_map.mpr ⟨s, hs, rfl⟩⟩
def ditW (L : Str -> Nat -> Nat) (gd : Nat) : PV := .dit ((Pw gd).map kk) ((Pw gd).map (vv L gd))
def sayC (gd : Nat) : PV := .clo 35 [iL (bits gd), .int ((bits gd).length : Nat)]
def WK (L : Str -> Nat -> Nat) (gd : Nat) (c : Int) : PV := .obj 12 [sayC gd, .clo 36 [ditW L gd, .int ((bits gd).length : Nat), .int c, sayC gd]]
theorem lworld_ok (n : Nat) (L : Str -> Nat -> Nat) (gd : Nat) (c : Int) : gF (n + 1) 14 [letP L, .int (gd : Int), .int c] = .ok (WK L gd c) := by
 rw [g_ze, runD_of rfl]
 show fin (d_ze (gF n) [.v (letP L), .v (.int (gd : Int)), .v (.int c), .no, .no, .no, .no, .no, .no, .no, .no]) = _
 have hc : dComp ["_law_setting"] [("_law_mask", 1)] (dRng1 (dCons (dC (.int 16)) dNil)) (gSet 0) (dTr (d2 fEq (d2 fAnd (d2 fShr (dSee 1) (dSee 0)) (dC (.int 1))) (dC (.int 1)))) (dVar 0) [.v (letP L), .v (.int (gd : Int)), .v (.int c), .no, .no, .no, .no, .no, .no, .no, .no] = .ok ((bits gd).map fun (i : Nat) => PV.int (i : Int)) := by
  have e : dRng1 (dCons (dC (.int 16)) dNil) ([.v (letP L), .v (.int (gd : Int)), .v (.int c), .no, .no, .no, .no, .no, .no, .no, .no] : PSt) = .ok ((List.range 16).map fun (i : Nat) => PV.int (i : Int)) := rfl
  unfold dComp
  rw [e, ok_bind, if_pos (by rw [List.length_map, List.length_range]; decide)]
  refine comp_emb (ps0 := [.v (.int (gd : Int))]) (fun (i : Nat) => PV.int (i : Int)) (fun i => gd.testBit i) (fun (i : Nat) => PV.int (i : Int)) (List.range 16) .no fun i hi => ⟨?_, fun _ => rfl⟩
  have h0 : (0 : Int) <= (i : Int) := by omega
  have hb := bit_nat gd i
  simp [h0, hb]
 have a1 : sSet 5 (dOfN (dComp ["_law_setting"] [("_law_mask", 1)] (dRng1 (dCons (dC (.int 16)) dNil)) (gSet 0) (dTr (d2 fEq (d2 fAnd (d2 fShr (dSee 1) (dSee 0)) (dC (.int 1))) (dC (.int 1)))) (dVar 0))) [.v (letP L), .v (.int (gd : Int)), .v (.int c), .no, .no, .no, .no, .no, .no, .no, .no] = .nx [.v (letP L), .v (.int (gd : Int)), .v (.int c), .no, .no, .v (iL (bits gd)), .no, .no, .no, .no, .no] := by
  rw [e_set, e_ofN, hc]
  rfl
 have a2 : sSet 6 (dCall bLen (dCons (dSee 5) dNil)) [.v (letP L), .v (.int (gd : Int)), .v (.int c), .no, .no, .v (iL (bits gd)), .no, .no, .no, .no, .no] = .nx [.v (letP L), .v (.int (gd : Int)), .v (.int c), .no, .no, .v (iL (bits gd)), .v (.int ((bits gd).length : Nat)), .no, .no, .no, .no] := by
  rw [e_set, iL_len (bits gd) _ rfl]
  rfl
 have a3 : sOwnDT 7 [.v (letP L), .v (.int (gd : Int)), .v (.int c), .no, .no, .v (iL (bits gd)), .v (.int ((bits gd).length : Nat)), .no, .no, .no, .no] = .nx [.v (letP L), .v (.int (gd : Int)), .v (.int c), .no, .no, .v (iL (bits gd)), .v (.int ((bits gd).length : Nat)), dtS L gd [], .no, .no, .no] := rfl
 obtain ⟨t8, t9, t10, e3⟩ := world3 n L gd (.v (.int (gd : Int))) (.v (.int c)) .no .no DS5 [] .no .no .no (by decide +kernel) (fun e he => ⟨mem5.mp he, fun s h => by cases h⟩) (by decide)
 have i3 : ∀ ps, dItemsS (dC (.str "PQRST")) ps = .ok (DS5.map PV.str) := fun _ => rfl
 unfold d_ze
 rw [e_seq, a1, next_nx, e_seq, a2, next_nx, e_seq, a3, next_nx, e_seq, e_for, i3, ok_st, e3, next_nx]
 rfl
def Sw (gd : Nat) (z : Int) : Nat := gAt gd (z % ((bits gd).length : Nat)).toNat
def kw (L : Str -> Nat -> Nat) (gd : Nat) (e : Str) (z : Int) : Nat := ((sm L gd e (Sw gd z))[(z / ((bits gd).length : Nat) % 16 % ((sm L gd e (Sw gd z)).length : Nat)).toNat]?).getD 0
def Lw (L : Str -> Nat -> Nat) (gd : Nat) (c : Int) (e : Str) (z : Int) : Int := (z / ((bits gd).length : Nat) / 16 + c / (findS "PQRST" e + 1) % 11) * ((bits gd).length : Nat) + (kw L gd e z : Nat)
theorem zmod {m : Nat} (h : 0 < m) (z : Int) : ∃ k : Nat, k < m /\ z % (m : Int) = (k : Int) := by
 have h1 : (0 : Int) < (m : Int) := by omega
 have h2 := Int.emod_nonneg z (by omega : (m : Int) ≠ 0)
 have h3 := Int.emod_lt_of_pos z h1
 exact ⟨(z % (m : Int)).toNat, by omega, by omega⟩
theorem Sw_mem {gd : Nat} (h : 0 < (bits gd).length) (z : Int) : Sw gd z ∈ bits gd := by
 obtain ⟨k, hk, e⟩ := zmod h z
 unfold Sw
 rw [e, Int.toNat_natCast]
 exact gAt_mem hk
theorem kw_mem {L : Str -> Nat -> Nat} {gd : Nat} {e : Str} {z : Int} (h : sm L gd e (Sw gd z) ≠ []) : kw L gd e z ∈ sm L gd e (Sw gd z) := by
 have hl : 0 < (sm L gd e (Sw gd z)).length := List.length_pos_iff.mpr h
 obtain ⟨k, hk, ek⟩ := zmod hl (z / ((bits gd).length : Nat) % 16)
 unfold kw
 rw [ek, Int.toNat_natCast, List.getElem?_eq_getElem hk]
 exact List.getElem_mem hk
theorem say_ok (n : Nat) {gd : Nat} (h : 0 < (bits gd).length) (z : Int) : gF (n + 1) 35 [.int z, iL (bits gd), .int ((bits gd).length : Nat)] = .ok (.int ((Sw gd z : Nat) : Int)) := by
 rw [g_zz, runD_of rfl]
 show fin (d_zz (gF n) [.v (.int z), .v (iL (bits gd)), .v (.int ((bits gd).length : Nat))]) = _
 obtain ⟨k, hk, e⟩ := zmod h z
 have e3 := gAt_ix hk
 have h0 : (0 : Int) < ((bits gd).length : Nat) := by omega
 have es : Sw gd z = gAt gd k := by unfold Sw; rw [e, Int.toNat_natCast]
 unfold d_zz
 rw [es]
 have em : d2 fMod (dSee 0) (dSee 2) [.v (.int z), .v (iL (bits gd)), .v (.int ((bits gd).length : Nat))] = .ok (.int (k : Int)) := by
  show (if (0 : Int) < ((bits gd).length : Nat) then Rx.ok (PV.int (z % ((bits gd).length : Nat))) else .bad) = _
  rw [if_pos h0, e]
 have e1 : dSee 1 [.v (.int z), .v (iL (bits gd)), .v (.int ((bits gd).length : Nat))] = .ok (iL (bits gd)) := rfl
 rw [e_ret, e_2, e1, em]
 show ((fIx (iL (bits gd)) (.int (k : Int))).st _ |> fin) = _
 rw [e3]; rfl
theorem find5 {e : Str} (h : DeedL e) : fFind (.str "PQRST") (.str e) = .ok (.int (findS "PQRST" e)) /\ 0 <= findS "PQRST" e /\ findS "PQRST" e < 5 := by
 have hg : goodSep e = true := by rcases h with rfl | rfl | rfl | rfl | rfl <;> decide +kernel
 refine ⟨?_, ?_, ?_⟩
 ·show (if goodSep e = true then Rx.ok (PV.int (findS "PQRST" e)) else .bad) = _
  rw [if_pos hg]
 ·rcases h with rfl | rfl | rfl | rfl | rfl <;> decide +kernel
 ·rcases h with rfl | rfl | rfl | rfl | rfl <;> decide +kernel
theorem lead_ok (n : Nat) (L : Str -> Nat -> Nat) {gd : Nat} (c : Int) (h : 0 < (bits gd).length) {e : Str} (he : DeedL e) (z : Int) (hs : sm L gd e (Sw gd z) ≠ []) : gF (n + 2) 36 [.str e, .int z, ditW L gd, .int ((bits gd).length : Nat), .int c, sayC gd] = .ok (.int (Lw L gd c e z)) := by
 rw [g_zA, runD_of rfl]
 show fin (d_zA (gF (n + 1)) [.v (.str e), .v (.int z), .v (ditW L gd), .v (.int ((bits gd).length : Nat)), .v (.int c), .v (sayC gd), .no, .no, .no]) = _
 have hb := bits_len gd
 have e1 := say_ok n h z
 have hl : 0 < (sm L gd e (Sw gd z)).length := List.length_pos_iff.mpr hs
 obtain ⟨k, hk, ek⟩ := zmod hl (z / ((bits gd).length : Nat) % 16)
 have g1 := getT_kk (L := L) (gd := gd) (mem_Pw he (Sw_mem h z))
 have a1 : sSet 6 (dDGetT (dSee 2) (dCons (dVar 0) (dCons (dCallV tC (gF (n + 1)) (dVar 5) (dCons (dVar 1) dNil)) dNil))) [.v (.str e), .v (.int z), .v (ditW L gd), .v (.int ((bits gd).length : Nat)), .v (.int c), .v (sayC gd), .no, .no, .no] = .nx [.v (.str e), .v (.int z), .v (ditW L gd), .v (.int ((bits gd).length : Nat)), .v (.int c), .v (sayC gd), .v (iL (sm L gd e (Sw gd z))), .no, .no] := by
  have ev : dCallV tC (gF (n + 1)) (dVar 5) (dCons (dVar 1) dNil) [.v (.str e), .v (.int z), .v (ditW L gd), .v (.int ((bits gd).length : Nat)), .v (.int c), .v (sayC gd), .no, .no, .no] = .ok (.int ((Sw gd z : Nat) : Int)) := e1
  have ed : dDGetT (dSee 2) (dCons (dVar 0) (dCons (dCallV tC (gF (n + 1)) (dVar 5) (dCons (dVar 1) dNil)) dNil)) [.v (.str e), .v (.int z), .v (ditW L gd), .v (.int ((bits gd).length : Nat)), .v (.int c), .v (sayC gd), .no, .no, .no] = .ok (iL (sm L gd e (Sw gd z))) := by
   have ek : dCons (dVar 0) (dCons (dCallV tC (gF (n + 1)) (dVar 5) (dCons (dVar 1) dNil)) dNil) [.v (.str e), .v (.int z), .v (ditW L gd), .v (.int ((bits gd).length : Nat)), .v (.int c), .v (sayC gd), .no, .no, .no] = .ok [.str e, .int ((Sw gd z : Nat) : Int)] := by
    simp only [e_cons, ev, e_nil, consR_ok]
    rfl
   unfold dDGetT
   rw [ek]
   show (match getT ((Pw gd).map kk) ((Pw gd).map (vv L gd)) (kk (e, Sw gd z)) with | some w => Rx.ok w | none => .bad) = _
   rw [g1]; rfl
  rw [e_set, ed]; rfl
 have hm : (0 : Int) < ((bits gd).length : Nat) /\ (((bits gd).length : Nat) : Int) < 1073741824 := by omega
 have a2 : sSet 7 (d2 fDiv (dSee 1) (dSee 3)) [.v (.str e), .v (.int z), .v (ditW L gd), .v (.int ((bits gd).length : Nat)), .v (.int c), .v (sayC gd), .v (iL (sm L gd e (Sw gd z))), .no, .no] = .nx [.v (.str e), .v (.int z), .v (ditW L gd), .v (.int ((bits gd).length : Nat)), .v (.int c), .v (sayC gd), .v (iL (sm L gd e (Sw gd z))), .v (.int (z / ((bits gd).length : Nat))), .no] := by
  show ((if (0 : Int) < ((bits gd).length : Nat) /\ (((bits gd).length : Nat) : Int) < 1073741824 then Rx.ok (PV.int (z / ((bits gd).length : Nat))) else .bad).st _) = _
  rw [if_pos hm]; rfl
 obtain ⟨f1, f2, f3⟩ := find5 he
 have a3 : sSet 8 (d2 fMod (d2 fDiv (dSee 4) (d2 fAdd (d2 fFind (dC (.str "PQRST")) (dVar 0)) (dC (.int 1)))) (dC (.int 11))) [.v (.str e), .v (.int z), .v (ditW L gd), .v (.int ((bits gd).length : Nat)), .v (.int c), .v (sayC gd), .v (iL (sm L gd e (Sw gd z))), .v (.int (z / ((bits gd).length : Nat))), .no] = .nx [.v (.str e), .v (.int z), .v (ditW L gd), .v (.int ((bits gd).length : Nat)), .v (.int c), .v (sayC gd), .v (iL (sm L gd e (Sw gd z))), .v (.int (z / ((bits gd).length : Nat))), .v (.int (c / (findS "PQRST" e + 1) % 11))] := by
  have hf : (0 : Int) < findS "PQRST" e + 1 /\ findS "PQRST" e + 1 < 1073741824 := by omega
  simp [f1, hf]
 have a4 : d2 fIx (dSee 6) (d2 fMod (d2 fMod (dSee 7) (dC (.int 16))) (dCall bLen (dCons (dSee 6) dNil))) [.v (.str e), .v (.int z), .v (ditW L gd), .v (.int ((bits gd).length : Nat)), .v (.int c), .v (sayC gd), .v (iL (sm L gd e (Sw gd z))), .v (.int (z / ((bits gd).length : Nat))), .v (.int (c / (findS "PQRST" e + 1) % 11))] = .ok (.int ((kw L gd e z : Nat) : Int)) := by
  have el := iL_len (sm L gd e (Sw gd z)) [.v (.str e), .v (.int z), .v (ditW L gd), .v (.int ((bits gd).length : Nat)), .v (.int c), .v (sayC gd), .v (iL (sm L gd e (Sw gd z))), .v (.int (z / ((bits gd).length : Nat))), .v (.int (c / (findS "PQRST" e + 1) % 11))] (d := dSee 6) rfl
  have em : d2 fMod (d2 fMod (dSee 7) (dC (.int 16))) (dCall bLen (dCons (dSee 6) dNil)) [.v (.str e), .v (.int z), .v (ditW L gd), .v (.int ((bits gd).length : Nat)), .v (.int c), .v (sayC gd), .v (iL (sm L gd e (Sw gd z))), .v (.int (z / ((bits gd).length : Nat))), .v (.int (c / (findS "PQRST" e + 1) % 11))] = .ok (.int (k : Int)) := by
   rw [e_2, el]
   show (if (0 : Int) < ((sm L gd e (Sw gd z)).length : Nat) then Rx.ok (PV.int (z / ((bits gd).length : Nat) % 16 % ((sm L gd e (Sw gd z)).length : Nat))) else .bad) = _
   rw [if_pos (by omega), ek]
  have e6 : dSee 6 [.v (.str e), .v (.int z), .v (ditW L gd), .v (.int ((bits gd).length : Nat)), .v (.int c), .v (sayC gd), .v (iL (sm L gd e (Sw gd z))), .v (.int (z / ((bits gd).length : Nat))), .v (.int (c / (findS "PQRST" e + 1) % 11))] = .ok (iL (sm L gd e (Sw gd z))) := rfl
  have ekw : kw L gd e z = (sm L gd e (Sw gd z))[k] := by
   unfold kw
   rw [ek, Int.toNat_natCast, List.getElem?_eq_getElem hk]; rfl
  rw [e_2, e6, em, ekw]
  show (match atI ((sm L gd e (Sw gd z)).map fun (i : Nat) => PV.int (i : Int)) (k : Int) with | some w => Rx.ok w | none => .bad) = _
  rw [atI_nat (v := PV.int (((sm L gd e (Sw gd z))[k] : Nat) : Int)) (by rw [List.getElem?_map, List.getElem?_eq_getElem hk]; rfl)]
 have a5 : d2 fMul (d2 fAdd (d2 fDiv (dSee 7) (dC (.int 16))) (dSee 8)) (dSee 3) [.v (.str e), .v (.int z), .v (ditW L gd), .v (.int ((bits gd).length : Nat)), .v (.int c), .v (sayC gd), .v (iL (sm L gd e (Sw gd z))), .v (.int (z / ((bits gd).length : Nat))), .v (.int (c / (findS "PQRST" e + 1) % 11))] = .ok (.int ((z / ((bits gd).length : Nat) / 16 + c / (findS "PQRST" e + 1) % 11) * ((bits gd).length : Nat))) := by
  have hq : (-18446744073709551616 < (((bits gd).length : Nat) : Int) /\ (((bits gd).length : Nat) : Int) < 18446744073709551616) := by omega
  have e7 : d2 fAdd (d2 fDiv (dSee 7) (dC (.int 16))) (dSee 8) [.v (.str e), .v (.int z), .v (ditW L gd), .v (.int ((bits gd).length : Nat)), .v (.int c), .v (sayC gd), .v (iL (sm L gd e (Sw gd z))), .v (.int (z / ((bits gd).length : Nat))), .v (.int (c / (findS "PQRST" e + 1) % 11))] = .ok (.int (z / ((bits gd).length : Nat) / 16 + c / (findS "PQRST" e + 1) % 11)) := by
   simp
  rw [e_2, e7]
  show (if (-(2 ^ 64) < (z / ((bits gd).length : Nat) / 16 + c / (findS "PQRST" e + 1) % 11) /\ (z / ((bits gd).length : Nat) / 16 + c / (findS "PQRST" e + 1) % 11) < 2 ^ 64) \/ (-(2 ^ 64) < (((bits gd).length : Nat) : Int) /\ (((bits gd).length : Nat) : Int) < 2 ^ 64) then Rx.ok _ else .bad) = _
  rw [if_pos (.inr (by omega))]
 unfold d_zA
 rw [e_seq, a1, next_nx, e_seq, a2, next_nx, e_seq, a3, next_nx, e_ret, e_2, a5, a4]
 rfl
theorem sm_ne {ys : List Sy} {e : Str} (he : DeedL e) {s : Nat} (hs : s ∈ bits (gdS ys)) : sm (letm ys) (gdS ys) e s ≠ [] := by
 obtain ⟨h1, h2⟩ := mem_bits.mp hs
 have h3 := gd_clo (letm ys) (unb_lt ys) s h1 h2
 unfold okAt at h3
 rw [List.all_eq_true] at h3
 have h3 : (!(letm ys e s &&& gdS ys == 0)) = true := h3 e (mem5.mpr he)
 rw [Bool.not_eq_true'] at h3
 obtain ⟨t, ht, b1, b2⟩ := and_bit (gd_lt _ (unb_lt ys)) h3
 have hm : t ∈ bits (gdS ys) := mem_bits.mpr ⟨ht, b2⟩
 obtain ⟨k, hk, ek⟩ := List.mem_iff_getElem.mp hm
 intro z
 have : k ∈ sm (letm ys) (gdS ys) e s := by
  unfold sm
  rw [List.mem_filter]
  refine ⟨List.mem_range.mpr hk, ?_⟩
  unfold gAt
  rw [List.getElem?_eq_getElem hk, ek]
  exact b1
 rw [z] at this; cases this
theorem wk_ok (n : Nat) {ys : List Sy} (c : Int) (h : 0 < (bits (gdS ys)).length) : Wd (n + 3) (WK (letm ys) (gdS ys) c) (Sw (gdS ys)) (Lw (letm ys) (gdS ys) c) := by
 refine ⟨fun z => ?_, fun z => (mem_bits.mp (Sw_mem h z)).1, fun d z hd => ?_⟩
 ·have e0 : callM q_setting (gF (n + 3)) (WK (letm ys) (gdS ys) c) [.int z] = fin (((gF (n + 2) 35 [.int z, iL (bits (gdS ys)), .int ((bits (gdS ys)).length : Nat)])).st fun w => .ret w) := rfl
  rw [e0, say_ok (n + 1) h z]; rfl
 ·have e0 : callM q_led (gF (n + 3)) (WK (letm ys) (gdS ys) c) [.str d, .int z] = fin (((gF (n + 2) 36 [.str d, .int z, ditW (letm ys) (gdS ys), .int ((bits (gdS ys)).length : Nat), .int c, sayC (gdS ys)])).st fun w => .ret w) := rfl
  rw [e0, lead_ok n (letm ys) c h hd z (sm_ne hd (Sw_mem h z))]; rfl
theorem lead_at {ys : List Sy} (c : Int) (h : 0 < (bits (gdS ys)).length) {e : Str} (he : DeedL e) (z : Int) : (letm ys e (Sw (gdS ys) z)).testBit (Sw (gdS ys) (Lw (letm ys) (gdS ys) c e z)) = true := by
 have hk := kw_mem (sm_ne he (Sw_mem h z))
 have hk2 := hk
 unfold sm at hk2
 rw [List.mem_filter] at hk2
 obtain ⟨h1, h2⟩ := hk2
 have h1 := List.mem_range.mp h1
 have e1 : Sw (gdS ys) (Lw (letm ys) (gdS ys) c e z) = gAt (gdS ys) (kw (letm ys) (gdS ys) e z) := by
  unfold Sw
  have : Lw (letm ys) (gdS ys) c e z % ((bits (gdS ys)).length : Nat) = (kw (letm ys) (gdS ys) e z : Nat) := by
   show ((z / ((bits (gdS ys)).length : Nat) / 16 + c / (findS "PQRST" e + 1) % 11) * ((bits (gdS ys)).length : Nat) + (kw (letm ys) (gdS ys) e z : Nat)) % ((bits (gdS ys)).length : Nat) = _
   rw [Int.mul_add_emod_self_right]
   exact Int.emod_eq_of_lt (by omega) (by omega)
  rw [this, Int.toNat_natCast]
 rw [e1]
 exact h2
theorem kp1_world {ys : List Sy} (c : Int) (h : 0 < (bits (gdS ys)).length) (z : Int) : kp1 ys (Sw (gdS ys)) (Lw (letm ys) (gdS ys) c) z = true := by
 unfold kp1
 obtain ⟨h1, h2⟩ := mem_bits.mp (Sw_mem h z)
 rw [gd_sub _ _ _ h1 h2, Bool.true_and, List.all_eq_true]
 intro e he
 exact lead_at c h (mem5.mp he) z
end M44
end
section
namespace M44
open PySem L2 DN
def dueAt (ys : List Sy) (y : Sy) (s : Nat) (e : Str) : Bool := (letm ys e s &&& gdS ys) &&& y.lm e s == (letm ys e s &&& gdS ys)
def due (ys : List Sy) (y : Sy) : Bool := (bits (gdS ys)).all fun s => !y.bars s && DS5.all (dueAt ys y s)
theorem gdS_lt (ys : List Sy) : gdS ys < 65536 := gd_lt _ (unb_lt ys)
theorem isdue1 (n : Nat) (ys : List Sy) (y : Sy) (hy : y.ok 3) (hn : 3 <= n) (T : PV) {s : Nat} (hs : s < 16) : ∀ (s4 s5 : Sl), (DS5.all (dueAt ys y s) = true /\ ∃ t4 t5, forD (gSet 4) (b_z7_1 (gF (n + 2))) (DS5.map PV.str) [.v T, .v y.pv, .v (bondsP ys), .v (.int (s : Int)), s4, s5] = .nx [.v T, .v y.pv, .v (bondsP ys), .v (.int (s : Int)), t4, t5]) \/ (DS5.all (dueAt ys y s) = false /\ forD (gSet 4) (b_z7_1 (gF (n + 2))) (DS5.map PV.str) [.v T, .v y.pv, .v (bondsP ys), .v (.int (s : Int)), s4, s5] = .ret (.bl false)) := by
 intro s4 s5
 have lp := forD_all (g := gSet 4) (body := b_z7_1 (gF (n + 2))) (fun ps => ∃ t4 t5, ps = [.v T, .v y.pv, .v (bondsP ys), .v (.int (s : Int)), t4, t5]) (dueAt ys y s) PV.str DS5 [.v T, .v y.pv, .v (bondsP ys), .v (.int (s : Int)), s4, s5] ⟨_, _, rfl⟩ (fun e he ps hp => by
  obtain ⟨t4, t5, rfl⟩ := hp
  refine ⟨[.v T, .v y.pv, .v (bondsP ys), .v (.int (s : Int)), .v (.str e), t5], rfl, ?_⟩
  have hd := mem5.mp he
  have q1 := ways_ok ys (n + 1) hd hs
  have q2 := later_ok 3 y hy n e s hs hn
  have q3 := bitAnd_nat (letm ys e s &&& gdS ys) (y.lm e s)
  have q4 : ((((letm ys e s &&& gdS ys) &&& y.lm e s : Nat) : Int) == ((letm ys e s &&& gdS ys : Nat) : Int)) = dueAt ys y s e := by
   unfold dueAt
   rw [Bool.eq_iff_iff, beq_iff_eq, beq_iff_eq]
   omega
  cases hb : dueAt ys y s e
  ·rw [hb] at q4
   refine .inr ⟨rfl, ?_⟩
   unfold b_z7_1
   simp [q1, q2, q3, q4]
  ·rw [hb] at q4
   refine .inl ⟨rfl, _, ?_, .v (.str e), .v (.int ((letm ys e s &&& gdS ys : Nat) : Int)), rfl⟩
   unfold b_z7_1
   simp [q1, q2, q3, q4])
 rcases lp with ⟨l1, ps', l2, t4, t5, rfl⟩ | ⟨l1, l2⟩
 ·exact .inl ⟨l1, t4, t5, l2⟩
 ·exact .inr ⟨l1, l2⟩
theorem isdue_ok (n : Nat) {ys : List Sy} (hys : ∀ y ∈ ys, y.ok 3) (hl : ys.length <= 1000) (hn : 3 <= n) (y : Sy) (hy : y.ok 3) : gF (n + 6) 7 [.lst (ys.map Sy.pv), y.pv] = .ok (.bl (due ys y)) := by
 rw [g_z7, runD_of rfl]
 generalize hT : PV.lst (ys.map Sy.pv) = T
 show fin (d_z7 (gF (n + 5)) [.v T, .v y.pv, .no, .no, .no, .no]) = _
 have eb := bonds_ok 3 ys hys hl n hn
 rw [hT] at eb
 have s1 : sSet 2 (dCall (gF (n + 5) 34) (dCons (dVar 0) dNil)) [.v T, .v y.pv, .no, .no, .no, .no] = .nx [.v T, .v y.pv, .v (bondsP ys), .no, .no, .no] := by
  simp [eb]
 have eg := good_ok ys (n + 4)
 have es := settings_in_ok (n + 3) (gdS ys)
 have ei : dItems (dCall (gF (n + 5) 1) (dCons (dMeth q_good (gF (n + 5)) (dVar 2) dNil) dNil)) [.v T, .v y.pv, .v (bondsP ys), .no, .no, .no] = .ok ((bits (gdS ys)).map fun (i : Nat) => PV.int (i : Int)) := by
  unfold dItems
  simp [eg, es]
 have lp := forD_all (g := gSet 3) (body := b_z7_2 (gF (n + 5))) (fun ps => ∃ t3 t4 t5, ps = [.v T, .v y.pv, .v (bondsP ys), t3, t4, t5]) (fun s => !y.bars s && DS5.all (dueAt ys y s)) (fun (i : Nat) => PV.int (i : Int)) (bits (gdS ys)) [.v T, .v y.pv, .v (bondsP ys), .no, .no, .no] ⟨_, _, _, rfl⟩ (fun s hs ps hp => by
  obtain ⟨t3, t4, t5, rfl⟩ := hp
  refine ⟨[.v T, .v y.pv, .v (bondsP ys), .v (.int (s : Int)), t4, t5], rfl, ?_⟩
  have h16 := (mem_bits.mp hs).1
  have q1 := bars_ok 3 y hy (n + 4) s (by omega)
  have i1 : ∀ ps, dItemsT (dC (.tup c_DEEDS)) ps = .ok (DS5.map PV.str) := fun _ => rfl
  cases hb : y.bars s
  ·rw [hb] at q1
   have et : dTr (dMeth q_bars (gF (n + 5)) (dVar 1) (dCons (dVar 3) dNil)) [.v T, .v y.pv, .v (bondsP ys), .v (.int (s : Int)), t4, t5] = .ok false := by simp [q1]
   rcases isdue1 (n + 3) ys y hy (by omega) T h16 t4 t5 with ⟨l1, u4, u5, l2⟩ | ⟨l1, l2⟩
   ·refine .inl ⟨by rw [l1]; rfl, _, ?_, .v (.int (s : Int)), u4, u5, rfl⟩
    unfold b_z7_2
    rw [e_seq, e_if, et, ifR_f, e_next, next_nx, e_for, i1, ok_st, l2]
   ·refine .inr ⟨by rw [l1]; rfl, ?_⟩
    unfold b_z7_2
    rw [e_seq, e_if, et, ifR_f, e_next, next_nx, e_for, i1, ok_st, l2]
  ·rw [hb] at q1
   refine .inr ⟨rfl, ?_⟩
   unfold b_z7_2
   simp [q1])
 unfold d_z7 due
 rw [e_seq, s1, next_nx, e_seq, e_for, ei, ok_st]
 rcases lp with ⟨l1, ps', l2, _⟩ | ⟨l1, l2⟩
 ·rw [l2, l1]; rfl
 ·rw [l2, l1]; rfl
theorem letm_one (y : Sy) (e : Str) (s : Nat) : letm [y] e s = y.lm e s := by
 show 65535 &&& y.lm e s = _
 rw [Nat.and_comm, and_full (y.lm_lt e s)]
theorem sub_and {a b : Nat} (ha : a < 65536) (hb : b < 65536) : (a &&& (65535 - b) == 0) = (a &&& b == a) := by
 have key : ∀ s, s < 16 -> (65535 - b).testBit s = !b.testBit s := fun s hs => by
  have e2 : 65535 - b = 2 ^ 16 - (b + 1) := by omega
  rw [e2, Nat.testBit_two_pow_sub_succ (by omega)]
  simp [hs]
 rw [Bool.eq_iff_iff, beq_iff_eq, beq_iff_eq]
 constructor
 ·intro h
  apply Nat.eq_of_testBit_eq
  intro s
  rw [Nat.testBit_and]
  by_cases hs : s < 16
  ·have := congrArg (fun x => Nat.testBit x s) h
   simp only [Nat.testBit_and, Nat.zero_testBit, key s hs] at this
   cases h1 : a.testBit s <;> cases h2 : b.testBit s <;> simp [h1, h2] at this ⊢
  ·rw [hi_bit ha (by omega)]; rfl
 ·intro h
  apply Nat.eq_of_testBit_eq
  intro s
  rw [Nat.testBit_and, Nat.zero_testBit]
  by_cases hs : s < 16
  ·have := congrArg (fun x => Nat.testBit x s) h
   simp only [Nat.testBit_and] at this
   rw [key s hs]
   cases h1 : a.testBit s <;> cases h2 : b.testBit s <;> simp [h1, h2] at this ⊢
  ·rw [hi_bit ha (by omega)]; rfl
theorem ldue1 (n : Nat) (ys : List Sy) (y : Sy) (T : PV) {s : Nat} (hs : s < 16) (s5 s6 : Sl) : (DS5.all (dueAt ys y s) = true /\ ∃ t5 t6, forD (gSet 5) (b_zf_1 (gF n)) (DS5.map PV.str) [.v (letP (letm ys)), .v (.int (gdS ys : Nat)), .v T, .v (letP (letm [y])), .v (.int (s : Int)), s5, s6] = .nx [.v (letP (letm ys)), .v (.int (gdS ys : Nat)), .v T, .v (letP (letm [y])), .v (.int (s : Int)), t5, t6]) \/ (DS5.all (dueAt ys y s) = false /\ forD (gSet 5) (b_zf_1 (gF n)) (DS5.map PV.str) [.v (letP (letm ys)), .v (.int (gdS ys : Nat)), .v T, .v (letP (letm [y])), .v (.int (s : Int)), s5, s6] = .ret (.bl false)) := by
 have lp := forD_all (g := gSet 5) (body := b_zf_1 (gF n)) (fun ps => ∃ t5 t6, ps = [.v (letP (letm ys)), .v (.int (gdS ys : Nat)), .v T, .v (letP (letm [y])), .v (.int (s : Int)), t5, t6]) (dueAt ys y s) PV.str DS5 [.v (letP (letm ys)), .v (.int (gdS ys : Nat)), .v T, .v (letP (letm [y])), .v (.int (s : Int)), s5, s6] ⟨_, _, rfl⟩ (fun e he ps hp => by
  obtain ⟨t5, t6, rfl⟩ := hp
  refine ⟨[.v (letP (letm ys)), .v (.int (gdS ys : Nat)), .v T, .v (letP (letm [y])), .v (.int (s : Int)), .v (.str e), t6], rfl, ?_⟩
  have hd := mem5.mp he
  have q1 := get5 (fun e => rowN (letm ys e)) hd
  have q2 := rowN_ix (letm ys e) hs
  have q3 := bitAnd_nat (letm ys e s) (gdS ys)
  have q4 := get5 (fun e => rowN (letm [y] e)) hd
  have q5 := rowN_ix (letm [y] e) hs
  rw [letm_one] at q5
  have q6 := xor_full (y.lm_lt e s)
  have q7 := bitAnd_nat (letm ys e s &&& gdS ys) (65535 - y.lm e s)
  have q8 := nat_eq0 ((letm ys e s &&& gdS ys) &&& (65535 - y.lm e s))
  have hw : letm ys e s &&& gdS ys < 65536 := Nat.lt_of_le_of_lt Nat.and_le_right (gdS_lt ys)
  rw [sub_and hw (y.lm_lt e s)] at q8
  have q8 : ((((letm ys e s &&& gdS ys) &&& (65535 - y.lm e s) : Nat) : Int) == 0) = dueAt ys y s e := q8
  cases hb : dueAt ys y s e
  ·rw [hb] at q8
   refine .inr ⟨rfl, ?_⟩
   unfold b_zf_1
   simp [q1, q2, q3, q4, q5, q6, q7, q8]
  ·rw [hb] at q8
   refine .inl ⟨rfl, _, ?_, .v (.str e), .v (.int ((letm ys e s &&& gdS ys : Nat) : Int)), rfl⟩
   unfold b_zf_1
   simp [q1, q2, q3, q4, q5, q6, q7, q8])
 rcases lp with ⟨l1, ps', l2, t4, t5, rfl⟩ | ⟨l1, l2⟩
 ·exact .inl ⟨l1, t4, t5, l2⟩
 ·exact .inr ⟨l1, l2⟩
theorem all_bits (m : Nat) (p : Nat -> Bool) : (bits m).all p = (List.range 16).all fun s => !m.testBit s || p s := by
 rw [Bool.eq_iff_iff, List.all_eq_true, List.all_eq_true]
 constructor
 ·intro h s hs
  cases e : m.testBit s
  ·rfl
  ·exact h s (mem_bits.mpr ⟨List.mem_range.mp hs, e⟩)
 ·intro h s hs
  obtain ⟨h1, h2⟩ := mem_bits.mp hs
  have := h s (List.mem_range.mpr h1)
  rw [h2] at this
  exact this
theorem ldue_ok (n : Nat) (ys : List Sy) (z : Sy × Str) (hz : Z5 z) : gF (n + 2) 15 [letP (letm ys), .int (gdS ys : Nat), tp5 z] = .ok (.bl (due ys z.1)) := by
 rw [g_zf, runD_of rfl]
 show fin (d_zf (gF (n + 1)) [.v (letP (letm ys)), .v (.int (gdS ys : Nat)), .v (tp5 z), .no, .no, .no, .no]) = _
 have e1 := lets5_ok n [z] (fun y hy => by rw [List.mem_singleton.mp hy]; exact hz)
 have e1 : gF (n + 1) 12 [.lst [tp5 z]] = .ok (letP (letm [z.1])) := e1
 have s1 : sSet 3 (dCall (gF (n + 1) 12) (dCons (dOfN (dCons (dVar 2) dNil)) dNil)) [.v (letP (letm ys)), .v (.int (gdS ys : Nat)), .v (tp5 z), .no, .no, .no, .no] = .nx [.v (letP (letm ys)), .v (.int (gdS ys : Nat)), .v (tp5 z), .v (letP (letm [z.1])), .no, .no, .no] := by
  simp [e1]
 have er : ∀ ps, dRng1 (dCons (dC (.int 16)) dNil) ps = .ok ((List.range 16).map fun (i : Nat) => PV.int (i : Int)) := fun _ => rfl
 have i1 : ∀ ps, dItemsS (dC (.str "PQRST")) ps = .ok (DS5.map PV.str) := fun _ => rfl
 have lp := forD_all (g := gSet 4) (body := b_zf_2 (gF (n + 1))) (fun ps => ∃ t4 t5 t6, ps = [.v (letP (letm ys)), .v (.int (gdS ys : Nat)), .v (tp5 z), .v (letP (letm [z.1])), t4, t5, t6]) (fun s => !(gdS ys).testBit s || (!z.1.bars s && DS5.all (dueAt ys z.1 s))) (fun (i : Nat) => PV.int (i : Int)) (List.range 16) [.v (letP (letm ys)), .v (.int (gdS ys : Nat)), .v (tp5 z), .v (letP (letm [z.1])), .no, .no, .no] ⟨_, _, _, rfl⟩ (fun s hs ps hp => by
  obtain ⟨t4, t5, t6, rfl⟩ := hp
  refine ⟨[.v (letP (letm ys)), .v (.int (gdS ys : Nat)), .v (tp5 z), .v (letP (letm [z.1])), .v (.int (s : Int)), t5, t6], rfl, ?_⟩
  have h16 := List.mem_range.mp hs
  have h0 : (0 : Int) <= (s : Int) := by omega
  have hb := bit_nat (gdS ys) s
  have et : dTr (d2 fEq (d2 fAnd (d2 fShr (dSee 1) (dSee 4)) (dC (.int 1))) (dC (.int 1))) [.v (letP (letm ys)), .v (.int (gdS ys : Nat)), .v (tp5 z), .v (letP (letm [z.1])), .v (.int (s : Int)), t5, t6] = .ok ((gdS ys).testBit s) := by
   simp [h0, hb]
  have eb : dAndT (dTr (d2 fEq (d2 fIx (dSee 2) (dC (.int 1))) (dC (.int 0)))) (dTr (d2 fEq (d2 fAnd (d2 fShr (d2 fIx (dSee 2) (dC (.int 2))) (dSee 4)) (dC (.int 1))) (dC (.int 1)))) [.v (letP (letm ys)), .v (.int (gdS ys : Nat)), .v (tp5 z), .v (letP (letm [z.1])), .v (.int (s : Int)), t5, t6] = .ok (z.1.bars s) := by
   obtain ⟨y, d0⟩ := z
   have j1 : fIx (tp5 (y, d0)) (.int 1) = .ok (.int (y.srt : Nat)) := rfl
   have j2 : fIx (tp5 (y, d0)) (.int 2) = .ok (.int (y.m1 : Nat)) := rfl
   cases y with
   | nowhere t =>
    have hm := bit_nat t.mk s
    rw [mkb t h16] at hm
    simp [j1, j2, Sy.srt, Sy.m1, h0, hm, Sy.bars]
   | behind b d a => simp [j1, Sy.srt, Sy.bars]
   | through t d => simp [j1, Sy.srt, Sy.bars]
  unfold b_zf_2
  rw [e_if, et]
  cases hg : (gdS ys).testBit s
  ·exact .inl ⟨rfl, _, rfl, .v (.int (s : Int)), t5, t6, rfl⟩
  ·rw [ifR_t, e_seq, e_if, eb]
   cases hr : z.1.bars s
   ·rw [ifR_f, e_next, next_nx, e_for, i1, ok_st]
    rcases ldue1 (n + 1) ys z.1 (tp5 z) h16 t5 t6 with ⟨l1, u5, u6, l2⟩ | ⟨l1, l2⟩
    ·exact .inl ⟨by rw [l1]; rfl, _, l2, .v (.int (s : Int)), u5, u6, rfl⟩
    ·exact .inr ⟨by rw [l1]; rfl, l2⟩
   ·exact .inr ⟨rfl, rfl⟩)
 have ed : due ys z.1 = (List.range 16).all fun s => !(gdS ys).testBit s || (!z.1.bars s && DS5.all (dueAt ys z.1 s)) := all_bits _ _
 unfold d_zf
 rw [e_seq, s1, next_nx, e_seq, e_for, er, ok_st, ed]
 rcases lp with ⟨l1, ps', l2, _⟩ | ⟨l1, l2⟩
 ·rw [l2, l1]; rfl
 ·rw [l2, l1]; rfl
theorem fold_sub (ys : List Sy) (e : Str) (s : Nat) : ∀ (m t : Nat), (ys.foldl (fun m y => m &&& y.lm e s) m).testBit t = true -> m.testBit t = true /\ ∀ y ∈ ys, (y.lm e s).testBit t = true := by
 induction ys with
 | nil => intro m t h; exact ⟨h, fun _ z => by cases z⟩
 | cons y ys ih =>
  intro m t h
  obtain ⟨h1, h2⟩ := ih (m &&& y.lm e s) t h
  rw [Nat.testBit_and, Bool.and_eq_true] at h1
  exact ⟨h1.1, fun x hx => by
   rcases List.mem_cons.mp hx with rfl | hx
   ·exact h1.2
   ·exact h2 x hx⟩
theorem due_own {ys : List Sy} {y : Sy} (h : y ∈ ys) : due ys y = true := by
 unfold due
 rw [List.all_eq_true]
 intro s hs
 obtain ⟨h1, h2⟩ := mem_bits.mp hs
 rw [Bool.and_eq_true]
 constructor
 ·have := gd_sub (letm ys) (unb ys) s h1 h2
  unfold unb at this
  rw [maskN_bit] at this
  simp [h1] at this
  simpa using this y h
 ·rw [List.all_eq_true]
  intro e _
  unfold dueAt
  rw [beq_iff_eq]
  apply Nat.eq_of_testBit_eq
  intro t
  rw [Nat.testBit_and]
  cases e1 : (letm ys e s &&& gdS ys).testBit t
  ·rfl
  ·rw [Nat.testBit_and, Bool.and_eq_true] at e1
   rw [(fold_sub ys e s _ t e1.1).2 y h]; rfl
theorem due_kept {ys : List Sy} {y : Sy} (c : Int) (h : 0 < (bits (gdS ys)).length) (hd : due ys y = true) (z : Int) : kp1 [y] (Sw (gdS ys)) (Lw (letm ys) (gdS ys) c) z = true := by
 have hm := Sw_mem h z
 obtain ⟨h1, h2⟩ := mem_bits.mp hm
 unfold due at hd
 rw [List.all_eq_true] at hd
 have hd := hd _ hm
 rw [Bool.and_eq_true] at hd
 obtain ⟨b1, b2⟩ := hd
 unfold kp1
 rw [Bool.and_eq_true]
 constructor
 ·unfold unb
  rw [maskN_bit]
  simp [h1]
  simpa using b1
 ·rw [List.all_eq_true] at b2 ⊢
  intro e he
  have b2 := b2 e he
  unfold dueAt at b2
  rw [beq_iff_eq] at b2
  rw [letm_one]
  have h3 := lead_at c h (mem5.mp he) z
  have h4 := (mem_bits.mp (Sw_mem h (Lw (letm ys) (gdS ys) c e z))).2
  have h5 : (letm ys e (Sw (gdS ys) z) &&& gdS ys).testBit (Sw (gdS ys) (Lw (letm ys) (gdS ys) c e z)) = true := by
   rw [Nat.testBit_and, h3, h4]; rfl
  rw [<- b2, Nat.testBit_and, Bool.and_eq_true] at h5
  exact h5.2
theorem due_none {ys : List Sy} {y : Sy} (h : gdS ys = 0) : due ys y = true := by
 unfold due
 rw [h]
 rfl
end M44
end
section
namespace M44
open PySem L2 DN
theorem told_ok (n : Nat) : ∀ (l : List Int) (s : Sl), ∃ zs : List (Sy × Str), compD (gSet 0) dYes (dCall (gF (n + 2) 11) (dCons (dVar 0) dNil)) (l.map PV.int) [s] = .ok (zs.map tp5) /\ (∀ z ∈ zs, Z5 z) /\ zs.length = l.length
 | [], s => ⟨[], rfl, fun _ h => (nomatch h), rfl⟩
 | z :: l, s => by
  obtain ⟨w, e1, h1⟩ := saying5_ok n z
  obtain ⟨zs, e2, h2, h3⟩ := told_ok n l (.v (.int z))
  refine ⟨w :: zs, ?_, fun y hy => ?_, by simp [h3]⟩
  ·have ed : dCall (gF (n + 2) 11) (dCons (dVar 0) dNil) [.v (.int z)] = .ok (tp5 w) := e1
   have eg : gSet 0 (PV.int z) [s] = .ok [.v (.int z)] := rfl
   have ey : dYes [.v (.int z)] = .ok true := rfl
   rw [List.map_cons, compD, eg, ok_bind, ey, ok_bind, if_pos rfl, ed, ok_bind, e2]
   rfl
  ·rcases List.mem_cons.mp hy with rfl | hy
   ·exact h1
   ·exact h2 y hy
theorem firsts (zs : List (Sy × Str)) (hl : zs.length <= 1000) (ps : PSt) (h : ps[(1 : Nat)]? = some (.v (.lst (zs.map tp5)))) : dComp ["_law_one"] [] (dItems (dSee 1)) (gSet 0) dYes (d2 fIx (dSee 0) (dC (.int 0))) ps = .ok ((zs.map Prod.fst).map Sy.pv) := by
 have ei : dItems (dSee 1) ps = .ok (zs.map tp5) := by
  unfold dItems dSee
  rw [h]; rfl
 unfold dComp
 rw [ei, ok_bind, if_pos (by rw [List.length_map]; show zs.length <= 16777216; omega)]
 have := comp_all (de := d2 fIx (dSee 0) (dC (.int 0))) (ps0 := []) tp5 (fun z => z.1.pv) zs .no fun z hz => rfl
 rw [List.map_map]
 exact this
theorem cutA (ns : List Int) (a r : Nat) : ∃ l : List Int, cutP (ns.map PV.int) (some (a : Int)) (some ((a : Int) + (r : Int))) = l.map PV.int /\ l.length <= r := by
 unfold cutP
 rw [show (a : Int) + (r : Int) = ((a + r : Nat) : Int) by omega, HT.sIx_nat, HT.sIx_nat, <- List.map_drop, <- List.map_take]
 refine ⟨_, rfl, ?_⟩
 rw [List.length_take]
 omega
def big (z : Int) : Int := z % (2 * 10 ^ 40) - 10 ^ 40
theorem big_ok (z : Int) : d2 fSub (d2 fMod (dSee 0) (d2 fMul (dC (.int 2)) (d2 fPow (dC (.int 10)) (dC (.int 40))))) (d2 fPow (dC (.int 10)) (dC (.int 40))) [.v (.int z)] = .ok (.int (big z)) := by
 have e1 : d2 fPow (dC (.int 10)) (dC (.int 40)) [.v (.int z)] = .ok (.int (10 ^ 40)) := by
  show (if (0 : Int) <= 40 /\ (40 : Int) <= 1000000 /\ (10 : Int).natAbs < 2 ^ 64 then Rx.ok (PV.int (10 ^ (40 : Int).toNat)) else .bad) = _
  rw [if_pos (by decide)]; rfl
 have e2 : d2 fMul (dC (.int 2)) (d2 fPow (dC (.int 10)) (dC (.int 40))) [.v (.int z)] = .ok (.int (2 * 10 ^ 40)) := by
  rw [e_2, e1]
  show (if (-(2 ^ 64) < (2 : Int) /\ (2 : Int) < 2 ^ 64) \/ (-(2 ^ 64) < (10 ^ 40 : Int) /\ (10 ^ 40 : Int) < 2 ^ 64) then Rx.ok (PV.int (2 * 10 ^ 40)) else .bad) = _
  rw [if_pos (.inl (by decide))]
 have e3 : d2 fMod (dSee 0) (d2 fMul (dC (.int 2)) (d2 fPow (dC (.int 10)) (dC (.int 40)))) [.v (.int z)] = .ok (.int (z % (2 * 10 ^ 40))) := by
  rw [e_2, e2]
  show (if (0 : Int) < 2 * 10 ^ 40 then Rx.ok (PV.int (z % (2 * 10 ^ 40))) else .bad) = _
  rw [if_pos (by decide)]
 rw [e_2, e3, e1]
 rfl
theorem states_ok (l : List Int) (hl : l.length <= 1000) {di : DA} {ps : PSt} (hi : di ps = .ok (l.map PV.int)) : dComp ["_law_cell"] [] di (gSet 0) dYes (d2 fSub (d2 fMod (dSee 0) (d2 fMul (dC (.int 2)) (d2 fPow (dC (.int 10)) (dC (.int 40))))) (d2 fPow (dC (.int 10)) (dC (.int 40)))) ps = .ok ((l.map big).map PV.int) := by
 unfold dComp
 rw [hi, ok_bind, if_pos (by rw [List.length_map]; show l.length <= 16777216; omega), List.map_map]
 exact comp_all (ps0 := []) PV.int (fun z => PV.int (big z)) l .no fun z _ => big_ok z
theorem gd_full (ys : List Sy) : rnds (letm ys) 17 (kp0 ys 65535) = gdS ys := by
 rw [kp0_unb, rnds_gd (letm ys) (unb_lt ys)]; rfl
end M44
end
section
namespace M44
open PySem L2 DN
theorem law_ok (n : Nat) (hn : 3 <= n) (ns : List Int) : gF (n + 7) 16 [.lst (ns.map PV.int)] = .ok (.bl true) := by
 rw [g_zg, runD_of rfl]
 show fin (d_zg (gF (n + 6)) [.v (.lst (ns.map PV.int)), .no, .no, .no, .no, .no, .no, .no, .no, .no]) = _
 obtain ⟨z0, c0⟩ := cell_ok (n + 5) ns 0
 obtain ⟨z1, c1⟩ := cell_ok (n + 5) ns 1
 obtain ⟨z2, c2⟩ := cell_ok (n + 5) ns 2
 have c0 : gF (n + 6) 8 [.lst (ns.map PV.int), .int 0] = .ok (.int z0) := c0
 have c1 : gF (n + 6) 8 [.lst (ns.map PV.int), .int 1] = .ok (.int z1) := c1
 have c2 : gF (n + 6) 8 [.lst (ns.map PV.int), .int 2] = .ok (.int z2) := c2
 obtain ⟨r, hr, er⟩ : ∃ r : Nat, r < 4 /\ z0 % 4 = (r : Int) := ⟨(z0 % 4).toNat, by omega, by omega⟩
 obtain ⟨cs, ec, hc9⟩ := cutA ns 9 r
 obtain ⟨xs, ex, hx5⟩ := cutA ns 3 5
 have ec : cutP (ns.map PV.int) (some 9) (some (9 + (r : Int))) = cs.map PV.int := ec
 have ex : cutP (ns.map PV.int) (some 3) (some 8) = xs.map PV.int := ex
 obtain ⟨zs, e1, hz, hl⟩ := told_ok (n + 4) cs .no
 obtain ⟨w, ew, hw⟩ := saying5_ok (n + 4) z1
 have hl9 : zs.length <= 9 := by
  rw [hl]; omega
 have l1 := lets5_ok (n + 5) zs hz
 have l2 := lgood_ok (n + 5) zs 65535
 have hok : ∀ y ∈ zs.map Prod.fst, y.ok 3 := fun y h => by
  obtain ⟨z, h1, rfl⟩ := List.mem_map.mp h
  exact (hz z h1).1
 have hT1 : zs.length <= 1000 := by omega
 have hf : ∀ ps : PSt, ps[(1 : Nat)]? = some (.v (.lst (zs.map tp5))) -> dComp ["_law_one"] [] (dItems (dSee 1)) (gSet 0) dYes (d2 fIx (dSee 0) (dC (.int 0))) ps = .ok ((zs.map Prod.fst).map Sy.pv) := fun ps h => firsts zs hT1 ps h
 have hly : (zs.map Prod.fst).length <= 1000 := by rw [List.length_map]; omega
 rw [gd_full] at l2
 generalize zs.map Prod.fst = ys at l1 l2 hok hf hly
 generalize hT : PV.lst (zs.map tp5) = T at l1 l2 hf
 have wok : w.1.ok 3 := hw.1
 have d1 := isdue_ok n hok hly hn w.1 wok
 have d2' := ldue_ok (n + 4) ys w hw
 have d3 : ∀ y ∈ ys, gF (n + 6) 7 [.lst (ys.map Sy.pv), y.pv] = .ok (.bl true) := fun y h => by
  have := isdue_ok n hok hly hn y (hok y h)
  rw [due_own h] at this
  exact this
 generalize hS : PV.lst (ns.map PV.int) = S at c0 c1 c2
 have cut : dItems (dOfN (dCut (dSee 0) (dO1 (dC (.int 9))) (dO1 (d2 fAdd (dC (.int 9)) (d2 fMod (dCall (gF (n + 6) 8) (dCons (dVar 0) (dCons (dC (.int 0)) dNil))) (dC (.int 4))))))) [.v S, .no, .no, .no, .no, .no, .no, .no, .no, .no] = .ok (cs.map PV.int) := by
  unfold dItems
  simp [c0, er]
  rw [<- hS]
  simp [ec]
 have s1 : sSet 1 (dOfN (dComp ["_law_cell"] [] (dItems (dOfN (dCut (dSee 0) (dO1 (dC (.int 9))) (dO1 (d2 fAdd (dC (.int 9)) (d2 fMod (dCall (gF (n + 6) 8) (dCons (dVar 0) (dCons (dC (.int 0)) dNil))) (dC (.int 4)))))))) (gSet 0) dYes (dCall (gF (n + 6) 11) (dCons (dVar 0) dNil)))) [.v S, .no, .no, .no, .no, .no, .no, .no, .no, .no] = .nx [.v S, .v T, .no, .no, .no, .no, .no, .no, .no, .no] := by
  rw [e_set, e_ofN]
  unfold dComp
  rw [cut, ok_bind, if_pos (by rw [List.length_map]; show _ <= 16777216; omega)]
  show ((compD (gSet 0) dYes (dCall (gF (n + 6) 11) (dCons (dVar 0) dNil)) (cs.map PV.int) [.no]).bind _).st _ = _
  rw [e1, <- hT]
  rfl
 have s2 : sSet 2 (dCall (gF (n + 6) 11) (dCons (dCall (gF (n + 6) 8) (dCons (dVar 0) (dCons (dC (.int 1)) dNil))) dNil)) [.v S, .v T, .no, .no, .no, .no, .no, .no, .no, .no] = .nx [.v S, .v T, .v (tp5 w), .no, .no, .no, .no, .no, .no, .no] := by
  simp [c1, ew]
 have s3 : sSet 3 (dCall (gF (n + 6) 12) (dCons (dVar 1) dNil)) [.v S, .v T, .v (tp5 w), .no, .no, .no, .no, .no, .no, .no] = .nx [.v S, .v T, .v (tp5 w), .v (letP (letm ys)), .no, .no, .no, .no, .no, .no] := by
  simp [l1]
 have s4 : sSet 4 (dCall (gF (n + 6) 13) (dCons (dVar 1) (dCons (dVar 3) (dCons (dC (.int 65535)) dNil)))) [.v S, .v T, .v (tp5 w), .v (letP (letm ys)), .no, .no, .no, .no, .no, .no] = .nx [.v S, .v T, .v (tp5 w), .v (letP (letm ys)), .v (.int (gdS ys : Nat)), .no, .no, .no, .no, .no] := by
  have l2 : gF (n + 6) 13 [T, letP (letm ys), .int 65535] = .ok (.int (gdS ys : Nat)) := l2
  simp [l2]
 have s5 : sSet 5 (dOfN (dComp ["_law_one"] [] (dItems (dSee 1)) (gSet 0) dYes (d2 fIx (dSee 0) (dC (.int 0))))) [.v S, .v T, .v (tp5 w), .v (letP (letm ys)), .v (.int (gdS ys : Nat)), .no, .no, .no, .no, .no] = .nx [.v S, .v T, .v (tp5 w), .v (letP (letm ys)), .v (.int (gdS ys : Nat)), .v (.lst (ys.map Sy.pv)), .no, .no, .no, .no] := by
  rw [e_set, e_ofN, hf _ rfl]
  rfl
 have j0 : fIx (tp5 w) (.int 0) = .ok w.1.pv := rfl
 have s6 : sSet 6 (dCall (gF (n + 6) 7) (dCons (dOfN (dCallN bList (dCons (dSee 5) dNil))) (dCons (d2 fIx (dSee 2) (dC (.int 0))) dNil))) [.v S, .v T, .v (tp5 w), .v (letP (letm ys)), .v (.int (gdS ys : Nat)), .v (.lst (ys.map Sy.pv)), .no, .no, .no, .no] = .nx [.v S, .v T, .v (tp5 w), .v (letP (letm ys)), .v (.int (gdS ys : Nat)), .v (.lst (ys.map Sy.pv)), .v (.bl (due ys w.1)), .no, .no, .no] := by
  have eb : dCallN bList (dCons (dSee 5) dNil) [.v S, .v T, .v (tp5 w), .v (letP (letm ys)), .v (.int (gdS ys : Nat)), .v (.lst (ys.map Sy.pv)), .no, .no, .no, .no] = .ok (ys.map Sy.pv) := rfl
  simp only [e_set, e_call, e_cons, e_ofN, eb, ok_bind, e_2, e_nil, consR_ok]
  have e2 : (dSee 2 [.v S, .v T, .v (tp5 w), .v (letP (letm ys)), .v (.int (gdS ys : Nat)), .v (.lst (ys.map Sy.pv)), .no, .no, .no, .no]) = .ok (tp5 w) := rfl
  simp [j0, d1]
 have s7 : (sIf (dOrT (dNotT (dTr (dIsi i_bool (dSee 6)))) (dTr (d2 fNe (dSee 6) (dCall (gF (n + 6) 15) (dCons (dVar 3) (dCons (dVar 4) (dCons (dVar 2) dNil))))))) (sRet (dC (.bl false))) sNext) [.v S, .v T, .v (tp5 w), .v (letP (letm ys)), .v (.int (gdS ys : Nat)), .v (.lst (ys.map Sy.pv)), .v (.bl (due ys w.1)), .no, .no, .no] = .nx [.v S, .v T, .v (tp5 w), .v (letP (letm ys)), .v (.int (gdS ys : Nat)), .v (.lst (ys.map Sy.pv)), .v (.bl (due ys w.1)), .no, .no, .no] := by
  simp [d2']
 have lp : ∀ (l : List Sy) (s7 : Sl), (∀ y ∈ l, y ∈ ys) -> ∃ t7, forD (gSet 7) (b_zg_1 (gF (n + 6))) (l.map Sy.pv) [.v S, .v T, .v (tp5 w), .v (letP (letm ys)), .v (.int (gdS ys : Nat)), .v (.lst (ys.map Sy.pv)), .v (.bl (due ys w.1)), s7, .no, .no] = .nx [.v S, .v T, .v (tp5 w), .v (letP (letm ys)), .v (.int (gdS ys : Nat)), .v (.lst (ys.map Sy.pv)), .v (.bl (due ys w.1)), t7, .no, .no] := by
  intro l
  induction l with
  | nil => intro s7 _; exact ⟨s7, rfl⟩
  | cons y l ih =>
   intro s7 h
   obtain ⟨t7, e⟩ := ih (.v y.pv) fun x hx => h x (List.mem_cons_of_mem _ hx)
   refine ⟨t7, ?_⟩
   have eg : gSet 7 y.pv [.v S, .v T, .v (tp5 w), .v (letP (letm ys)), .v (.int (gdS ys : Nat)), .v (.lst (ys.map Sy.pv)), .v (.bl (due ys w.1)), s7, .no, .no] = .ok [.v S, .v T, .v (tp5 w), .v (letP (letm ys)), .v (.int (gdS ys : Nat)), .v (.lst (ys.map Sy.pv)), .v (.bl (due ys w.1)), .v y.pv, .no, .no] := rfl
   have body : b_zg_1 (gF (n + 6)) [.v S, .v T, .v (tp5 w), .v (letP (letm ys)), .v (.int (gdS ys : Nat)), .v (.lst (ys.map Sy.pv)), .v (.bl (due ys w.1)), .v y.pv, .no, .no] = .nx [.v S, .v T, .v (tp5 w), .v (letP (letm ys)), .v (.int (gdS ys : Nat)), .v (.lst (ys.map Sy.pv)), .v (.bl (due ys w.1)), .v y.pv, .no, .no] := by
    have := d3 y (h y List.mem_cons_self)
    unfold b_zg_1
    simp [this]
   rw [List.map_cons, forD, eg, ok_st, body]
   exact e
 obtain ⟨t7, e8⟩ := lp ys .no fun y h => h
 have i8 : dItems (dVar 5) [.v S, .v T, .v (tp5 w), .v (letP (letm ys)), .v (.int (gdS ys : Nat)), .v (.lst (ys.map Sy.pv)), .v (.bl (due ys w.1)), .no, .no, .no] = .ok (ys.map Sy.pv) := rfl
 unfold d_zg
 rw [e_seq, s1, next_nx, e_seq, s2, next_nx, e_seq, s3, next_nx, e_seq, s4, next_nx, e_seq, s5, next_nx, e_seq, s6, next_nx, e_seq, s7, next_nx, e_seq, e_for, i8, ok_st, e8, next_nx, e_seq]
 by_cases hg : gdS ys = 0
 ·have hd : due ys w.1 = true := due_none hg
  rw [hd, hg]
  simp
 ·have hb : (((gdS ys : Nat) : Int) == 0) = false := by
   rw [nat_eq0]; simpa using hg
  have hpos : 0 < (bits (gdS ys)).length := by
   apply List.length_pos_iff.mpr
   intro z
   exact hg ((bits_nil (gdS_lt ys)).mp z)
  have s9 : (sIf (dTr (d2 fEq (dSee 4) (dC (.int 0)))) (sRet (dVar 6)) sNext) [.v S, .v T, .v (tp5 w), .v (letP (letm ys)), .v (.int (gdS ys : Nat)), .v (.lst (ys.map Sy.pv)), .v (.bl (due ys w.1)), t7, .no, .no] = .nx [.v S, .v T, .v (tp5 w), .v (letP (letm ys)), .v (.int (gdS ys : Nat)), .v (.lst (ys.map Sy.pv)), .v (.bl (due ys w.1)), t7, .no, .no] := by
   simp [hb]
  have ew2 := lworld_ok (n + 5) (letm ys) (gdS ys) z2
  have W := wk_ok (n + 1) (ys := ys) z2 hpos
  have s10 : sSet 8 (dCall (gF (n + 6) 14) (dCons (dVar 3) (dCons (dVar 4) (dCons (dCall (gF (n + 6) 8) (dCons (dVar 0) (dCons (dC (.int 2)) dNil))) dNil)))) [.v S, .v T, .v (tp5 w), .v (letP (letm ys)), .v (.int (gdS ys : Nat)), .v (.lst (ys.map Sy.pv)), .v (.bl (due ys w.1)), t7, .no, .no] = .nx [.v S, .v T, .v (tp5 w), .v (letP (letm ys)), .v (.int (gdS ys : Nat)), .v (.lst (ys.map Sy.pv)), .v (.bl (due ys w.1)), t7, .v (WK (letm ys) (gdS ys) z2), .no] := by
   simp [c2, ew2]
  have ei : dItems (dOfN (dCut (dSee 0) (dO1 (dC (.int 3))) (dO1 (dC (.int 8))))) [.v S, .v T, .v (tp5 w), .v (letP (letm ys)), .v (.int (gdS ys : Nat)), .v (.lst (ys.map Sy.pv)), .v (.bl (due ys w.1)), t7, .v (WK (letm ys) (gdS ys) z2), .no] = .ok (xs.map PV.int) := by
   rw [<- hS]
   unfold dItems
   simp [ex]
  have s11 : sSet 9 (dOfN (dComp ["_law_cell"] [] (dItems (dOfN (dCut (dSee 0) (dO1 (dC (.int 3))) (dO1 (dC (.int 8)))))) (gSet 0) dYes (d2 fSub (d2 fMod (dSee 0) (d2 fMul (dC (.int 2)) (d2 fPow (dC (.int 10)) (dC (.int 40))))) (d2 fPow (dC (.int 10)) (dC (.int 40)))))) [.v S, .v T, .v (tp5 w), .v (letP (letm ys)), .v (.int (gdS ys : Nat)), .v (.lst (ys.map Sy.pv)), .v (.bl (due ys w.1)), t7, .v (WK (letm ys) (gdS ys) z2), .no] = .nx [.v S, .v T, .v (tp5 w), .v (letP (letm ys)), .v (.int (gdS ys : Nat)), .v (.lst (ys.map Sy.pv)), .v (.bl (due ys w.1)), t7, .v (WK (letm ys) (gdS ys) z2), .v (.lst ((xs.map big).map PV.int))] := by
   rw [e_set, e_ofN, states_ok xs (by omega) ei]
   rfl
  have hx1 : (xs.map big).length <= 1000 := by rw [List.length_map]; omega
  have k1 := keptg_ok n 3 hok hly hn W (xs.map big) hx1
  have h1 : (xs.map big).all (kp1 ys (Sw (gdS ys)) (Lw (letm ys) (gdS ys) z2)) = true := by
   rw [List.all_eq_true]
   exact fun z _ => kp1_world z2 hpos z
  rw [h1] at k1
  have k2 := keptg_ok n 3 (ys := [w.1]) (fun y hy => by rw [List.mem_singleton.mp hy]; exact wok) (by simp) hn W (xs.map big) hx1
  have k2 : gF (n + 6) 6 [WK (letm ys) (gdS ys) z2, .lst [w.1.pv], .lst ((xs.map big).map PV.int)] = .ok (.bl ((xs.map big).all (kp1 [w.1] (Sw (gdS ys)) (Lw (letm ys) (gdS ys) z2)))) := k2
  generalize PV.lst ((xs.map big).map PV.int) = Z at s11 k1 k2
  rw [s9, next_nx, e_seq, s10, next_nx, e_seq, s11, next_nx]
  cases hd : due ys w.1
  ·simp [k1]
  ·have h2 : (xs.map big).all (kp1 [w.1] (Sw (gdS ys)) (Lw (letm ys) (gdS ys) z2)) = true := by
    rw [List.all_eq_true]
    exact fun z _ => due_kept z2 hpos hd z
   rw [h2] at k2
   simp [k1, k2, j0]
theorem main (ns : List Int) (h : ns.length <= 63) : gF 110 16 [.lst (ns.map PV.int)] = .ok (.bl true) := law_ok 103 (by decide) ns
end M44
end
section
namespace M44
open PySem L2 DN
def cOf (C0 : Addr) (C1 : Addr) (C2 : Addr) (C3 : Addr) (C4 : Addr) (C5 : Addr) (C6 : Addr) (C7 : Addr) (C8 : Addr) (C9 : Addr) (C10 : Addr) (C11 : Addr) (C12 : Addr) : Nat -> Addr
 | 0 => C0
 | 1 => C1
 | 2 => C2
 | 3 => C3
 | 4 => C4
 | 5 => C5
 | 6 => C6
 | 7 => C7
 | 8 => C8
 | 9 => C9
 | 10 => C10
 | 11 => C11
 | 12 => C12
 | _ => 0
abbrev si_zE : Stmt := inClass (top 10) 0
abbrev si_zF : Stmt := inClass (top 11) 0
abbrev si_zG : Stmt := inClass (top 12) 0
abbrev si_zH : Stmt := inClass (top 13) 0
abbrev si_zK : Stmt := inClass (top 25) 0
abbrev si_zL : Stmt := inClass (top 26) 0
abbrev si_zM : Stmt := inClass (top 27) 0
abbrev si_zN : Stmt := inClass (top 29) 0
theorem all_mk {l : PySem.W.OpenLaw} {w : World} {K : Fg} {mg : Str -> Option Value} {fa : Addr} {h : Heap} {ts : List Addr} {C0 : Addr} {C1 : Addr} {C2 : Addr} {C3 : Addr} {C4 : Addr} {C5 : Addr} {C6 : Addr} {C7 : Addr} {C8 : Addr} {C9 : Addr} {C10 : Addr} {C11 : Addr} {C12 : Addr} {i3 : Addr} {i4 : Addr} {i5 : Addr} {i6 : Addr} {i7 : Addr} {i9 : Addr} {i10 : Addr} {i11 : Addr} {i12 : Addr} {d0 : Addr} {d1 : Addr} {d2 : Addr} {d3 : Addr} {d4 : Addr} {d5 : Addr} {d6 : Addr} {d7 : Addr} {d8 : Addr} {d9 : Addr} {d10 : Addr} {d11 : Addr} {d12 : Addr} {d13 : Addr} {d14 : Addr} {d15 : Addr} {d16 : Addr} {d17 : Addr} {d18 : Addr} {d19 : Addr} {d20 : Addr} {d21 : Addr} {d22 : Addr} {d23 : Addr} {d24 : Addr} {d25 : Addr} {d26 : Addr} {d27 : Addr} {d28 : Addr} {d29 : Addr} {d30 : Addr} {d31 : Addr} {d32 : Addr} {d33 : Addr} {tDEEDS : Addr} {nDEEDS : Nat} {slDEEDS : Array (Option Value)} {kDEEDS0 : Tok} {kDEEDS1 : Tok} {kDEEDS2 : Tok} {kDEEDS3 : Tok} {kDEEDS4 : Tok} {kEVERY : Tok} {tLETTERS : Addr} {nLETTERS : Nat} {slLETTERS : Array (Option Value)} {kLETTERS0 : Tok} {kLETTERS1 : Tok} {kLETTERS2 : Tok} {kLETTERS3 : Tok} {kSETTINGS : Tok} (X : K.In h) (G : h.Ns mainGlobals mg) (hfa : mg "law" = some (.ref fa))
  (a0 : PySem.W.nsIn K mainGlobals "Test" = some (some (.ref C0)))
  (a1 : PySem.W.nsIn K mainGlobals "Yes" = some (some (.ref C1)))
  (a2 : PySem.W.nsIn K mainGlobals "No" = some (some (.ref C2)))
  (a3 : PySem.W.nsIn K mainGlobals "Named" = some (some (.ref C3)))
  (a4 : PySem.W.nsIn K mainGlobals "Not" = some (some (.ref C4)))
  (a5 : PySem.W.nsIn K mainGlobals "Both" = some (some (.ref C5)))
  (a6 : PySem.W.nsIn K mainGlobals "Either" = some (some (.ref C6)))
  (a7 : PySem.W.nsIn K mainGlobals "Bonds" = some (some (.ref C7)))
  (a8 : PySem.W.nsIn K mainGlobals "Saying" = some (some (.ref C8)))
  (a9 : PySem.W.nsIn K mainGlobals "Nowhere" = some (some (.ref C9)))
  (a10 : PySem.W.nsIn K mainGlobals "Behind" = some (some (.ref C10)))
  (a11 : PySem.W.nsIn K mainGlobals "Through" = some (some (.ref C11)))
  (a12 : PySem.W.nsIn K mainGlobals "World" = some (some (.ref C12)))
  (c0 : ClsF K C0)
  (c1 : ClsF K C1)
  (c2 : ClsF K C2)
  (c3 : ClsF K C3)
  (c4 : ClsF K C4)
  (c5 : ClsF K C5)
  (c6 : ClsF K C6)
  (c7 : ClsF K C7)
  (c8 : ClsF K C8)
  (c9 : ClsF K C9)
  (c10 : ClsF K C10)
  (c11 : ClsF K C11)
  (c12 : ClsF K C12)
  (o1 : PySem.W.findIn K (.ref C1) "__init__" = some (some (.builtin "object.__init__")))
  (o2 : PySem.W.findIn K (.ref C2) "__init__" = some (some (.builtin "object.__init__")))
  (e3 : PySem.W.findIn K (.ref C3) "__init__" = some (some (.ref i3)))
  (f3 : PySem.W.isFn K (.ref i3) = true)
  (I3 : FnF K i3 "__init__" "Named.__init__" si_zE)
  (n3_0 : PySem.W.findIn K (.ref C3) "name" = some none)
  (e4 : PySem.W.findIn K (.ref C4) "__init__" = some (some (.ref i4)))
  (f4 : PySem.W.isFn K (.ref i4) = true)
  (I4 : FnF K i4 "__init__" "Not.__init__" si_zF)
  (n4_0 : PySem.W.findIn K (.ref C4) "inner" = some none)
  (e5 : PySem.W.findIn K (.ref C5) "__init__" = some (some (.ref i5)))
  (f5 : PySem.W.isFn K (.ref i5) = true)
  (I5 : FnF K i5 "__init__" "Both.__init__" si_zG)
  (n5_0 : PySem.W.findIn K (.ref C5) "left" = some none)
  (n5_1 : PySem.W.findIn K (.ref C5) "right" = some none)
  (e6 : PySem.W.findIn K (.ref C6) "__init__" = some (some (.ref i6)))
  (f6 : PySem.W.isFn K (.ref i6) = true)
  (I6 : FnF K i6 "__init__" "Either.__init__" si_zH)
  (n6_0 : PySem.W.findIn K (.ref C6) "left" = some none)
  (n6_1 : PySem.W.findIn K (.ref C6) "right" = some none)
  (e7 : PySem.W.findIn K (.ref C7) "__init__" = some (some (.ref i7)))
  (f7 : PySem.W.isFn K (.ref i7) = true)
  (I7 : FnF K i7 "__init__" "Bonds.__init__" s_zy)
  (n7_0 : PySem.W.findIn K (.ref C7) "unbarred" = some none)
  (n7_1 : PySem.W.findIn K (.ref C7) "let_by" = some none)
  (n7_2 : PySem.W.findIn K (.ref C7) "lasting" = some none)
  (e9 : PySem.W.findIn K (.ref C9) "__init__" = some (some (.ref i9)))
  (f9 : PySem.W.isFn K (.ref i9) = true)
  (I9 : FnF K i9 "__init__" "Nowhere.__init__" si_zK)
  (n9_0 : PySem.W.findIn K (.ref C9) "test" = some none)
  (e10 : PySem.W.findIn K (.ref C10) "__init__" = some (some (.ref i10)))
  (f10 : PySem.W.isFn K (.ref i10) = true)
  (I10 : FnF K i10 "__init__" "Behind.__init__" si_zL)
  (n10_0 : PySem.W.findIn K (.ref C10) "before" = some none)
  (n10_1 : PySem.W.findIn K (.ref C10) "deed" = some none)
  (n10_2 : PySem.W.findIn K (.ref C10) "after" = some none)
  (e11 : PySem.W.findIn K (.ref C11) "__init__" = some (some (.ref i11)))
  (f11 : PySem.W.isFn K (.ref i11) = true)
  (I11 : FnF K i11 "__init__" "Through.__init__" si_zM)
  (n11_0 : PySem.W.findIn K (.ref C11) "test" = some none)
  (n11_1 : PySem.W.findIn K (.ref C11) "deed" = some none)
  (e12 : PySem.W.findIn K (.ref C12) "__init__" = some (some (.ref i12)))
  (f12 : PySem.W.isFn K (.ref i12) = true)
  (I12 : FnF K i12 "__init__" "World.__init__" si_zN)
  (n12_0 : PySem.W.findIn K (.ref C12) "says" = some none)
  (n12_1 : PySem.W.findIn K (.ref C12) "leads" = some none)
  (b0 : PySem.W.nsIn K mainGlobals "is_in" = some (some (.ref d0)))
  (D0 : FnF K d0 "is_in" "is_in" s_z0)
  (b1 : PySem.W.nsIn K mainGlobals "settings_in" = some (some (.ref d1)))
  (D1 : FnF K d1 "settings_in" "settings_in" s_z1)
  (b2 : PySem.W.nsIn K mainGlobals "unbarred_by" = some (some (.ref d2)))
  (D2 : FnF K d2 "unbarred_by" "unbarred_by" s_z2)
  (b3 : PySem.W.nsIn K mainGlobals "let_by_all" = some (some (.ref d3)))
  (D3 : FnF K d3 "let_by_all" "let_by_all" s_z3)
  (b4 : PySem.W.nsIn K mainGlobals "later_by_all" = some (some (.ref d4)))
  (D4 : FnF K d4 "later_by_all" "later_by_all" s_z4)
  (b5 : PySem.W.nsIn K mainGlobals "lasting_within" = some (some (.ref d5)))
  (D5 : FnF K d5 "lasting_within" "lasting_within" s_z5)
  (b6 : PySem.W.nsIn K mainGlobals "is_kept" = some (some (.ref d6)))
  (D6 : FnF K d6 "is_kept" "is_kept" s_z6)
  (b7 : PySem.W.nsIn K mainGlobals "is_due" = some (some (.ref d7)))
  (D7 : FnF K d7 "is_due" "is_due" s_z7)
  (b8 : PySem.W.nsIn K mainGlobals "_law_cell_at" = some (some (.ref d8)))
  (D8 : FnF K d8 "_law_cell_at" "_law_cell_at" s_z8)
  (b9 : PySem.W.nsIn K mainGlobals "_law_mixed" = some (some (.ref d9)))
  (D9 : FnF K d9 "_law_mixed" "_law_mixed" s_z9)
  (b10 : PySem.W.nsIn K mainGlobals "_law_test" = some (some (.ref d10)))
  (D10 : FnF K d10 "_law_test" "_law_test" s_za)
  (b11 : PySem.W.nsIn K mainGlobals "_law_saying" = some (some (.ref d11)))
  (D11 : FnF K d11 "_law_saying" "_law_saying" s_zb)
  (b12 : PySem.W.nsIn K mainGlobals "_law_lets" = some (some (.ref d12)))
  (D12 : FnF K d12 "_law_lets" "_law_lets" s_zc)
  (b13 : PySem.W.nsIn K mainGlobals "_law_good" = some (some (.ref d13)))
  (D13 : FnF K d13 "_law_good" "_law_good" s_zd)
  (b14 : PySem.W.nsIn K mainGlobals "_law_world" = some (some (.ref d14)))
  (D14 : FnT K d14 "_law_world" "_law_world" s_ze ts)
  (b15 : PySem.W.nsIn K mainGlobals "_law_due" = some (some (.ref d15)))
  (D15 : FnF K d15 "_law_due" "_law_due" s_zf)
  (b16 : PySem.W.nsIn K mainGlobals "law" = some (some (.ref d16)))
  (D16 : FnF K d16 "law" "law" s_zg)
  (m17_0 : PySem.W.findIn K (.ref C0) "mask" = some (some (.ref d17)))
  (m17_1 : PySem.W.findIn K (.ref C1) "mask" = some (some (.ref d17)))
  (m17_2 : PySem.W.findIn K (.ref C2) "mask" = some (some (.ref d17)))
  (m17_3 : PySem.W.findIn K (.ref C3) "mask" = some (some (.ref d17)))
  (m17_4 : PySem.W.findIn K (.ref C4) "mask" = some (some (.ref d17)))
  (m17_5 : PySem.W.findIn K (.ref C5) "mask" = some (some (.ref d17)))
  (m17_6 : PySem.W.findIn K (.ref C6) "mask" = some (some (.ref d17)))
  (g17 : PySem.W.isFn K (.ref d17) = true)
  (D17 : FnF K d17 "mask" "Test.mask" s_zh)
  (m18_1 : PySem.W.findIn K (.ref C1) "holds" = some (some (.ref d18)))
  (g18 : PySem.W.isFn K (.ref d18) = true)
  (D18 : FnF K d18 "holds" "Yes.holds" s_zi)
  (m19_2 : PySem.W.findIn K (.ref C2) "holds" = some (some (.ref d19)))
  (g19 : PySem.W.isFn K (.ref d19) = true)
  (D19 : FnF K d19 "holds" "No.holds" s_zj)
  (m20_3 : PySem.W.findIn K (.ref C3) "holds" = some (some (.ref d20)))
  (g20 : PySem.W.isFn K (.ref d20) = true)
  (D20 : FnF K d20 "holds" "Named.holds" s_zk)
  (m21_4 : PySem.W.findIn K (.ref C4) "holds" = some (some (.ref d21)))
  (g21 : PySem.W.isFn K (.ref d21) = true)
  (D21 : FnF K d21 "holds" "Not.holds" s_zl)
  (m22_5 : PySem.W.findIn K (.ref C5) "holds" = some (some (.ref d22)))
  (g22 : PySem.W.isFn K (.ref d22) = true)
  (D22 : FnF K d22 "holds" "Both.holds" s_zm)
  (m23_6 : PySem.W.findIn K (.ref C6) "holds" = some (some (.ref d23)))
  (g23 : PySem.W.isFn K (.ref d23) = true)
  (D23 : FnF K d23 "holds" "Either.holds" s_zn)
  (m24_7 : PySem.W.findIn K (.ref C7) "good" = some (some (.ref d24)))
  (g24 : PySem.W.isFn K (.ref d24) = true)
  (D24 : FnF K d24 "good" "Bonds.good" s_zo)
  (m25_7 : PySem.W.findIn K (.ref C7) "ways" = some (some (.ref d25)))
  (g25 : PySem.W.isFn K (.ref d25) = true)
  (D25 : FnF K d25 "ways" "Bonds.ways" s_zp)
  (m26_7 : PySem.W.findIn K (.ref C7) "keeps_at" = some (some (.ref d26)))
  (g26 : PySem.W.isFn K (.ref d26) = true)
  (D26 : FnF K d26 "keeps_at" "Bonds.keeps_at" s_zq)
  (m27_8 : PySem.W.findIn K (.ref C8) "bars" = some (some (.ref d27)))
  (m27_10 : PySem.W.findIn K (.ref C10) "bars" = some (some (.ref d27)))
  (m27_11 : PySem.W.findIn K (.ref C11) "bars" = some (some (.ref d27)))
  (g27 : PySem.W.isFn K (.ref d27) = true)
  (D27 : FnF K d27 "bars" "Saying.bars" s_zr)
  (m28_8 : PySem.W.findIn K (.ref C8) "later_mask" = some (some (.ref d28)))
  (m28_9 : PySem.W.findIn K (.ref C9) "later_mask" = some (some (.ref d28)))
  (g28 : PySem.W.isFn K (.ref d28) = true)
  (D28 : FnF K d28 "later_mask" "Saying.later_mask" s_zs)
  (m29_9 : PySem.W.findIn K (.ref C9) "bars" = some (some (.ref d29)))
  (g29 : PySem.W.isFn K (.ref d29) = true)
  (D29 : FnF K d29 "bars" "Nowhere.bars" s_zt)
  (m30_10 : PySem.W.findIn K (.ref C10) "later_mask" = some (some (.ref d30)))
  (g30 : PySem.W.isFn K (.ref d30) = true)
  (D30 : FnF K d30 "later_mask" "Behind.later_mask" s_zu)
  (m31_11 : PySem.W.findIn K (.ref C11) "later_mask" = some (some (.ref d31)))
  (g31 : PySem.W.isFn K (.ref d31) = true)
  (D31 : FnF K d31 "later_mask" "Through.later_mask" s_zv)
  (m32_12 : PySem.W.findIn K (.ref C12) "setting" = some (some (.ref d32)))
  (g32 : PySem.W.isFn K (.ref d32) = true)
  (D32 : FnF K d32 "setting" "World.setting" s_zw)
  (m33_12 : PySem.W.findIn K (.ref C12) "led" = some (some (.ref d33)))
  (g33 : PySem.W.isFn K (.ref d33) = true)
  (D33 : FnF K d33 "led" "World.led" s_zx)
  (wbool_0 : PySem.W.kitOne K (.type "NoneType") (.type "bool") = some false)
  (wbool_1 : PySem.W.kitOne K (.type "bool") (.type "bool") = some true)
  (wbool_2 : PySem.W.kitOne K (.type "int") (.type "bool") = some false)
  (wbool_3 : PySem.W.kitOne K (.type "str") (.type "bool") = some false)
  (wbool_4 : PySem.W.kitOne K (.type "tuple") (.type "bool") = some false)
  (wbool_5 : PySem.W.kitOne K (.type "list") (.type "bool") = some false)
  (wbool_6 : PySem.W.kitOne K (.type "dict") (.type "bool") = some false)
  (wbool_10 : PySem.W.kitOne K (.ref C0) (.type "bool") = some false)
  (wbool_11 : PySem.W.kitOne K (.ref C1) (.type "bool") = some false)
  (wbool_12 : PySem.W.kitOne K (.ref C2) (.type "bool") = some false)
  (wbool_13 : PySem.W.kitOne K (.ref C3) (.type "bool") = some false)
  (wbool_14 : PySem.W.kitOne K (.ref C4) (.type "bool") = some false)
  (wbool_15 : PySem.W.kitOne K (.ref C5) (.type "bool") = some false)
  (wbool_16 : PySem.W.kitOne K (.ref C6) (.type "bool") = some false)
  (wbool_17 : PySem.W.kitOne K (.ref C7) (.type "bool") = some false)
  (wbool_18 : PySem.W.kitOne K (.ref C8) (.type "bool") = some false)
  (wbool_19 : PySem.W.kitOne K (.ref C9) (.type "bool") = some false)
  (wbool_20 : PySem.W.kitOne K (.ref C10) (.type "bool") = some false)
  (wbool_21 : PySem.W.kitOne K (.ref C11) (.type "bool") = some false)
  (wbool_22 : PySem.W.kitOne K (.ref C12) (.type "bool") = some false)
  (bxDEEDS : PySem.W.nsIn K mainGlobals "DEEDS" = some (some (.ref tDEEDS)))
  (lxDEEDS : K.lookup tDEEDS = some ⟨.type "tuple", none, .seq #[.str "P" kDEEDS0, .str "Q" kDEEDS1, .str "R" kDEEDS2, .str "S" kDEEDS3, .str "T" kDEEDS4] nDEEDS, slDEEDS⟩)
  (bxEVERY : PySem.W.nsIn K mainGlobals "EVERY" = some (some (.int (65535) kEVERY)))
  (bxLETTERS : PySem.W.nsIn K mainGlobals "LETTERS" = some (some (.ref tLETTERS)))
  (lxLETTERS : K.lookup tLETTERS = some ⟨.type "tuple", none, .seq #[.str "a" kLETTERS0, .str "b" kLETTERS1, .str "c" kLETTERS2, .str "d" kLETTERS3] nLETTERS, slLETTERS⟩)
  (bxSETTINGS : PySem.W.nsIn K mainGlobals "SETTINGS" = some (some (.int (16) kSETTINGS)))
  (zall : PySem.W.nsIn K mainGlobals "all" = some none)
  (zany : PySem.W.nsIn K mainGlobals "any" = some none)
  (zbool : PySem.W.nsIn K mainGlobals "bool" = some none)
  (zisinstance : PySem.W.nsIn K mainGlobals "isinstance" = some none)
  (zlen : PySem.W.nsIn K mainGlobals "len" = some none)
  (zlist : PySem.W.nsIn K mainGlobals "list" = some none)
  (zmin : PySem.W.nsIn K mainGlobals "min" = some none)
  (zrange : PySem.W.nsIn K mainGlobals "range" = some none) :
  ∃ (cA : Nat -> Addr) (fd : FuncData), (∀ (s : Shared) (v : Value), BindsTo s fd ⟨[v], []⟩ [("_law_script", v)]) /\ ∀ base : Bs, K.In base -> base.Ns mainGlobals mg -> base.tabs = ts -> FnOk l.prog w K mg base CX0 (220 + 3) fa fd ["_law_script"] (spG K (pg cA) [false] (gF 110 16)) := by
 have e := hfa.symm.trans (PySem.W.mg_of X G b16)
 cases e
 obtain ⟨fD0, D0⟩ := D0
 obtain ⟨fD1, D1⟩ := D1
 obtain ⟨fD2, D2⟩ := D2
 obtain ⟨fD3, D3⟩ := D3
 obtain ⟨fD4, D4⟩ := D4
 obtain ⟨fD5, D5⟩ := D5
 obtain ⟨fD6, D6⟩ := D6
 obtain ⟨fD7, D7⟩ := D7
 obtain ⟨fD8, D8⟩ := D8
 obtain ⟨fD9, D9⟩ := D9
 obtain ⟨fD10, D10⟩ := D10
 obtain ⟨fD11, D11⟩ := D11
 obtain ⟨fD12, D12⟩ := D12
 obtain ⟨fD13, D13⟩ := D13
 obtain ⟨fD14, cD14, pD14, D14, TD14⟩ := D14
 obtain ⟨fD15, D15⟩ := D15
 obtain ⟨fD16, D16⟩ := D16
 obtain ⟨fD17, D17⟩ := D17
 obtain ⟨fD18, D18⟩ := D18
 obtain ⟨fD19, D19⟩ := D19
 obtain ⟨fD20, D20⟩ := D20
 obtain ⟨fD21, D21⟩ := D21
 obtain ⟨fD22, D22⟩ := D22
 obtain ⟨fD23, D23⟩ := D23
 obtain ⟨fD24, D24⟩ := D24
 obtain ⟨fD25, D25⟩ := D25
 obtain ⟨fD26, D26⟩ := D26
 obtain ⟨fD27, D27⟩ := D27
 obtain ⟨fD28, D28⟩ := D28
 obtain ⟨fD29, D29⟩ := D29
 obtain ⟨fD30, D30⟩ := D30
 obtain ⟨fD31, D31⟩ := D31
 obtain ⟨fD32, D32⟩ := D32
 obtain ⟨fD33, D33⟩ := D33
 obtain ⟨fI3, I3⟩ := I3
 obtain ⟨fI4, I4⟩ := I4
 obtain ⟨fI5, I5⟩ := I5
 obtain ⟨fI6, I6⟩ := I6
 obtain ⟨fI7, I7⟩ := I7
 obtain ⟨fI9, I9⟩ := I9
 obtain ⟨fI10, I10⟩ := I10
 obtain ⟨fI11, I11⟩ := I11
 obtain ⟨fI12, I12⟩ := I12
 have F : Fs K mg (cOf C0 C1 C2 C3 C4 C5 C6 C7 C8 C9 C10 C11 C12) ts := {
  F_z0 := ⟨_, fD0, D0, D0.binds fun _ _ _ _ _ _ us hl => match us, hl with | [_, _], _ => rfl, PySem.W.mg_of X G b0⟩
  F_z1 := ⟨_, fD1, D1, D1.binds fun _ _ _ _ _ _ us hl => match us, hl with | [_], _ => rfl, PySem.W.mg_of X G b1⟩
  F_z2 := ⟨_, fD2, D2, D2.binds fun _ _ _ _ _ _ us hl => match us, hl with | [_], _ => rfl, PySem.W.mg_of X G b2⟩
  F_z3 := ⟨_, fD3, D3, D3.binds fun _ _ _ _ _ _ us hl => match us, hl with | [_], _ => rfl, PySem.W.mg_of X G b3⟩
  F_z4 := ⟨_, fD4, D4, D4.binds fun _ _ _ _ _ _ us hl => match us, hl with | [_, _, _], _ => rfl, PySem.W.mg_of X G b4⟩
  F_z5 := ⟨_, fD5, D5, D5.binds fun _ _ _ _ _ _ us hl => match us, hl with | [_, _], _ => rfl, PySem.W.mg_of X G b5⟩
  F_z6 := ⟨_, fD6, D6, D6.binds fun _ _ _ _ _ _ us hl => match us, hl with | [_, _, _], _ => rfl, PySem.W.mg_of X G b6⟩
  F_z7 := ⟨_, fD7, D7, D7.binds fun _ _ _ _ _ _ us hl => match us, hl with | [_, _], _ => rfl, PySem.W.mg_of X G b7⟩
  F_z8 := ⟨_, fD8, D8, D8.binds fun _ _ _ _ _ _ us hl => match us, hl with | [_, _], _ => rfl, PySem.W.mg_of X G b8⟩
  F_z9 := ⟨_, fD9, D9, D9.binds fun _ _ _ _ _ _ us hl => match us, hl with | [_, _], _ => rfl, PySem.W.mg_of X G b9⟩
  F_za := ⟨_, fD10, D10, D10.binds fun _ _ _ _ _ _ us hl => match us, hl with | [_], _ => rfl, PySem.W.mg_of X G b10⟩
  F_zb := ⟨_, fD11, D11, D11.binds fun _ _ _ _ _ _ us hl => match us, hl with | [_], _ => rfl, PySem.W.mg_of X G b11⟩
  F_zc := ⟨_, fD12, D12, D12.binds fun _ _ _ _ _ _ us hl => match us, hl with | [_], _ => rfl, PySem.W.mg_of X G b12⟩
  F_zd := ⟨_, fD13, D13, D13.binds fun _ _ _ _ _ _ us hl => match us, hl with | [_, _, _], _ => rfl, PySem.W.mg_of X G b13⟩
  F_ze := ⟨_, fD14, cD14, pD14, ⟨D14, D14.binds fun _ _ _ _ _ _ us hl => match us, hl with | [_, _, _], _ => rfl, PySem.W.mg_of X G b14⟩, TD14⟩
  F_zf := ⟨_, fD15, D15, D15.binds fun _ _ _ _ _ _ us hl => match us, hl with | [_, _, _], _ => rfl, PySem.W.mg_of X G b15⟩
  F_zg := ⟨_, fD16, D16, D16.binds fun _ _ _ _ _ _ us hl => match us, hl with | [_], _ => rfl, PySem.W.mg_of X G b16⟩
  F_zh := ⟨_, fD17, D17, D17.binds fun _ _ _ _ _ _ us hl => match us, hl with | [_], _ => rfl, ⟨m17_0, g17, D17.kp⟩, ⟨m17_1, g17, D17.kp⟩, ⟨m17_2, g17, D17.kp⟩, ⟨m17_3, g17, D17.kp⟩, ⟨m17_4, g17, D17.kp⟩, ⟨m17_5, g17, D17.kp⟩, ⟨m17_6, g17, D17.kp⟩⟩
  F_zi := ⟨_, fD18, D18, D18.binds fun _ _ _ _ _ _ us hl => match us, hl with | [_, _], _ => rfl, ⟨m18_1, g18, D18.kp⟩⟩
  F_zj := ⟨_, fD19, D19, D19.binds fun _ _ _ _ _ _ us hl => match us, hl with | [_, _], _ => rfl, ⟨m19_2, g19, D19.kp⟩⟩
  F_zk := ⟨_, fD20, D20, D20.binds fun _ _ _ _ _ _ us hl => match us, hl with | [_, _], _ => rfl, ⟨m20_3, g20, D20.kp⟩⟩
  F_zl := ⟨_, fD21, D21, D21.binds fun _ _ _ _ _ _ us hl => match us, hl with | [_, _], _ => rfl, ⟨m21_4, g21, D21.kp⟩⟩
  F_zm := ⟨_, fD22, D22, D22.binds fun _ _ _ _ _ _ us hl => match us, hl with | [_, _], _ => rfl, ⟨m22_5, g22, D22.kp⟩⟩
  F_zn := ⟨_, fD23, D23, D23.binds fun _ _ _ _ _ _ us hl => match us, hl with | [_, _], _ => rfl, ⟨m23_6, g23, D23.kp⟩⟩
  F_zo := ⟨_, fD24, D24, D24.binds fun _ _ _ _ _ _ us hl => match us, hl with | [_], _ => rfl, ⟨m24_7, g24, D24.kp⟩⟩
  F_zp := ⟨_, fD25, D25, D25.binds fun _ _ _ _ _ _ us hl => match us, hl with | [_, _, _], _ => rfl, ⟨m25_7, g25, D25.kp⟩⟩
  F_zq := ⟨_, fD26, D26, D26.binds fun _ _ _ _ _ _ us hl => match us, hl with | [_, _, _], _ => rfl, ⟨m26_7, g26, D26.kp⟩⟩
  F_zr := ⟨_, fD27, D27, D27.binds fun _ _ _ _ _ _ us hl => match us, hl with | [_, _], _ => rfl, ⟨m27_8, g27, D27.kp⟩, ⟨m27_10, g27, D27.kp⟩, ⟨m27_11, g27, D27.kp⟩⟩
  F_zs := ⟨_, fD28, D28, D28.binds fun _ _ _ _ _ _ us hl => match us, hl with | [_, _, _], _ => rfl, ⟨m28_8, g28, D28.kp⟩, ⟨m28_9, g28, D28.kp⟩⟩
  F_zt := ⟨_, fD29, D29, D29.binds fun _ _ _ _ _ _ us hl => match us, hl with | [_, _], _ => rfl, ⟨m29_9, g29, D29.kp⟩⟩
  F_zu := ⟨_, fD30, D30, D30.binds fun _ _ _ _ _ _ us hl => match us, hl with | [_, _, _], _ => rfl, ⟨m30_10, g30, D30.kp⟩⟩
  F_zv := ⟨_, fD31, D31, D31.binds fun _ _ _ _ _ _ us hl => match us, hl with | [_, _, _], _ => rfl, ⟨m31_11, g31, D31.kp⟩⟩
  F_zw := ⟨_, fD32, D32, D32.binds fun _ _ _ _ _ _ us hl => match us, hl with | [_, _], _ => rfl, ⟨m32_12, g32, D32.kp⟩⟩
  F_zx := ⟨_, fD33, D33, D33.binds fun _ _ _ _ _ _ us hl => match us, hl with | [_, _, _], _ => rfl, ⟨m33_12, g33, D33.kp⟩⟩
  F_zy := ⟨_, fI7, I7, I7.binds fun _ _ _ _ _ _ us hl => match us, hl with | [_, _], _ => rfl, ⟨c7.mks, e7, f7, c7.kp⟩⟩
 }
 obtain ⟨⟨oc, od, kV, dc, pm, an, cd, ct, osl, rfl, ll, cc⟩, kk⟩ := id D16
 refine ⟨(cOf C0 C1 C2 C3 C4 C5 C6 C7 C8 C9 C10 C11 C12), PySem.W.fnOf "law" "law" (defArgs s_zg) (defBody s_zg) (defScope s_zg) .none kV dc pm an cd ct, fun s v => .of_eq rfl, fun base _ _ htb => ?_⟩
 have C : Ct l.prog w K mg base (cOf C0 C1 C2 C3 C4 C5 C6 C7 C8 C9 C10 C11 C12) ts := {
  tb := htb
  c_zB := PySem.W.mg_of X G a0
  l_zB := c0
  c_zC := PySem.W.mg_of X G a1
  l_zC := c1
  c_zD := PySem.W.mg_of X G a2
  l_zD := c2
  c_zE := PySem.W.mg_of X G a3
  l_zE := c3
  c_zF := PySem.W.mg_of X G a4
  l_zF := c4
  c_zG := PySem.W.mg_of X G a5
  l_zG := c5
  c_zH := PySem.W.mg_of X G a6
  l_zH := c6
  c_zI := PySem.W.mg_of X G a7
  l_zI := c7
  c_zJ := PySem.W.mg_of X G a8
  l_zJ := c8
  c_zK := PySem.W.mg_of X G a9
  l_zK := c9
  c_zL := PySem.W.mg_of X G a10
  l_zL := c10
  c_zM := PySem.W.mg_of X G a11
  l_zM := c11
  c_zN := PySem.W.mg_of X G a12
  l_zN := c12
  n_zL := ⟨PySem.W.mg_of X G a10, c10.cls, i10, fI10, _, ⟨c10.mks, e10, f10, c10.kp⟩, init_ok3 I10 rfl .q c10.cls n10_0 n10_1 n10_2 (by decide) (by decide) (by decide) (by decide) (by decide) (by decide) (by decide +kernel) (by decide +kernel) (by decide +kernel), I10.binds fun _ _ _ _ _ _ us hl => match us, hl with | [_, _, _, _], _ => rfl⟩
  n_zG := ⟨PySem.W.mg_of X G a5, c5.cls, i5, fI5, _, ⟨c5.mks, e5, f5, c5.kp⟩, init_ok2 I5 rfl .q c5.cls n5_0 n5_1 (by decide) (by decide) (by decide) (by decide) (by decide +kernel), I5.binds fun _ _ _ _ _ _ us hl => match us, hl with | [_, _, _], _ => rfl⟩
  n_zH := ⟨PySem.W.mg_of X G a6, c6.cls, i6, fI6, _, ⟨c6.mks, e6, f6, c6.kp⟩, init_ok2 I6 rfl .q c6.cls n6_0 n6_1 (by decide) (by decide) (by decide) (by decide) (by decide +kernel), I6.binds fun _ _ _ _ _ _ us hl => match us, hl with | [_, _, _], _ => rfl⟩
  n_zE := ⟨PySem.W.mg_of X G a3, c3.cls, i3, fI3, _, ⟨c3.mks, e3, f3, c3.kp⟩, init_ok1 I3 rfl .q c3.cls n3_0 (by decide) (by decide) , I3.binds fun _ _ _ _ _ _ us hl => match us, hl with | [_, _], _ => rfl⟩
  k_zD := ⟨c2.mks, o2, c2.kp⟩
  n_zF := ⟨PySem.W.mg_of X G a4, c4.cls, i4, fI4, _, ⟨c4.mks, e4, f4, c4.kp⟩, init_ok1 I4 rfl .q c4.cls n4_0 (by decide) (by decide) , I4.binds fun _ _ _ _ _ _ us hl => match us, hl with | [_, _], _ => rfl⟩
  n_zK := ⟨PySem.W.mg_of X G a9, c9.cls, i9, fI9, _, ⟨c9.mks, e9, f9, c9.kp⟩, init_ok1 I9 rfl .q c9.cls n9_0 (by decide) (by decide) , I9.binds fun _ _ _ _ _ _ us hl => match us, hl with | [_, _], _ => rfl⟩
  n_zM := ⟨PySem.W.mg_of X G a11, c11.cls, i11, fI11, _, ⟨c11.mks, e11, f11, c11.kp⟩, init_ok2 I11 rfl .q c11.cls n11_0 n11_1 (by decide) (by decide) (by decide) (by decide) (by decide +kernel), I11.binds fun _ _ _ _ _ _ us hl => match us, hl with | [_, _, _], _ => rfl⟩
  n_zN := ⟨PySem.W.mg_of X G a12, c12.cls, i12, fI12, _, ⟨c12.mks, e12, f12, c12.kp⟩, init_ok2 I12 rfl .q c12.cls n12_0 n12_1 (by decide) (by decide) (by decide) (by decide) (by decide +kernel), I12.binds fun _ _ _ _ _ _ us hl => match us, hl with | [_, _, _], _ => rfl⟩
  k_zC := ⟨c1.mks, o1, c1.kp⟩
  x_Bonds_unbarred := n7_0
  x_Bonds_let_by := n7_1
  x_Bonds_lasting := n7_2
  f_after := (fl_cons c10.cls n10_2 (show (fN 10).Nodup by decide +kernel) rfl fl_nil)
  f_before := (fl_cons c10.cls n10_0 (show (fN 10).Nodup by decide +kernel) rfl fl_nil)
  f_deed := (fl_cons c10.cls n10_1 (show (fN 10).Nodup by decide +kernel) rfl (fl_cons c11.cls n11_1 (show (fN 11).Nodup by decide +kernel) rfl fl_nil))
  f_inner := (fl_cons c4.cls n4_0 (show (fN 4).Nodup by decide +kernel) rfl fl_nil)
  f_lasting := (fl_cons c7.cls n7_2 (show (fN 7).Nodup by decide +kernel) rfl fl_nil)
  f_leads := (fl_cons c12.cls n12_1 (show (fN 12).Nodup by decide +kernel) rfl fl_nil)
  f_left := (fl_cons c5.cls n5_0 (show (fN 5).Nodup by decide +kernel) rfl (fl_cons c6.cls n6_0 (show (fN 6).Nodup by decide +kernel) rfl fl_nil))
  f_let_by := (fl_cons c7.cls n7_1 (show (fN 7).Nodup by decide +kernel) rfl fl_nil)
  f_name := (fl_cons c3.cls n3_0 (show (fN 3).Nodup by decide +kernel) rfl fl_nil)
  f_right := (fl_cons c5.cls n5_1 (show (fN 5).Nodup by decide +kernel) rfl (fl_cons c6.cls n6_1 (show (fN 6).Nodup by decide +kernel) rfl fl_nil))
  f_says := (fl_cons c12.cls n12_0 (show (fN 12).Nodup by decide +kernel) rfl fl_nil)
  f_test := (fl_cons c9.cls n9_0 (show (fN 9).Nodup by decide +kernel) rfl (fl_cons c11.cls n11_0 (show (fN 11).Nodup by decide +kernel) rfl fl_nil))
  f_unbarred := (fl_cons c7.cls n7_0 (show (fN 7).Nodup by decide +kernel) rfl fl_nil)
  i_bool := (is_cons wbool_0 (by decide) (is_cons wbool_1 (by decide) (is_cons wbool_2 (by decide) (is_cons wbool_3 (by decide) (is_cons wbool_4 (by decide) (is_cons wbool_5 (by decide) (is_cons wbool_6 (by decide) (is_consC wbool_10 (clsTy c0) (is_consC wbool_11 (clsTy c1) (is_consC wbool_12 (clsTy c2) (is_consC wbool_13 (clsTy c3) (is_consC wbool_14 (clsTy c4) (is_consC wbool_15 (clsTy c5) (is_consC wbool_16 (clsTy c6) (is_consC wbool_17 (clsTy c7) (is_consC wbool_18 (clsTy c8) (is_consC wbool_19 (clsTy c9) (is_consC wbool_20 (clsTy c10) (is_consC wbool_21 (clsTy c11) (is_consC wbool_22 (clsTy c12) is_nil))))))))))))))))))))
  e_DEEDS := ⟨tDEEDS, PySem.W.mg_of X G bxDEEDS, topT_mk lxDEEDS (by show 5 <= sizeLine; decide) (.cons ⟨_, rfl⟩ (.cons ⟨_, rfl⟩ (.cons ⟨_, rfl⟩ (.cons ⟨_, rfl⟩ (.cons ⟨_, rfl⟩ (.nil))))))⟩
  e_EVERY := ⟨kEVERY, PySem.W.mg_of X G bxEVERY⟩
  e_LETTERS := ⟨tLETTERS, PySem.W.mg_of X G bxLETTERS, topT_mk lxLETTERS (by show 4 <= sizeLine; decide) (.cons ⟨_, rfl⟩ (.cons ⟨_, rfl⟩ (.cons ⟨_, rfl⟩ (.cons ⟨_, rfl⟩ (.nil)))))⟩
  e_SETTINGS := ⟨kSETTINGS, PySem.W.mg_of X G bxSETTINGS⟩
  z_all := PySem.W.mg_none_of X G zall
  z_any := PySem.W.mg_none_of X G zany
  z_bool := PySem.W.mg_none_of X G zbool
  z_isinstance := PySem.W.mg_none_of X G zisinstance
  z_len := PySem.W.mg_none_of X G zlen
  z_list := PySem.W.mg_none_of X G zlist
  z_min := PySem.W.mg_none_of X G zmin
  z_range := PySem.W.mg_none_of X G zrange
 }
 obtain ⟨f', fd', ps', e1, e2, e3, e4⟩ := (all_fn C F 110).h_zg.ex
 exact fn_ok D16 sc_zg rfl fun _ _ _ _ _ _ hr => b_zg C (all_fn C F 109) hr
end M44
def PySem.W.Fast.tw14467366119338302965 : Nat := 0
def PySem.W.Fast.tw4530483219640098989 : Nat := 0
def PySem.W.Fast.tw9666388947512630850 : Nat := 0
def PySem.W.Fast.tw12918035907521890146 : Nat := 0
def PySem.W.Fast.tw4347489293737450108 : Nat := 0
def PySem.W.Fast.tw4417945615164568427 : Nat := 0
def PySem.W.Fast.tw1655697476825815495 : Nat := 0
def PySem.W.Fast.tw8489193414481467502 : Nat := 0
def PySem.W.Fast.tw11438614722809040221 : Nat := 0
def PySem.W.Fast.tw9916794139425409201 : Nat := 0
def PySem.W.Fast.tw2260945134793070770 : Nat := 0
def PySem.W.Fast.tw15883618102761348454 : Nat := 0
def PySem.W.Fast.tw14041653975153139370 : Nat := 0
def PySem.W.Fast.tw5129478893557830335 : Nat := 0
def PySem.W.Fast.tw17476699139596777851 : Nat := 0
def PySem.W.Fast.tw13955067577705281635 : Nat := 0
def PySem.W.Fast.tw15567532161713920184 : Nat := 0
def PySem.W.Fast.tw3453121511958685650 : Nat := 0
def PySem.W.Fast.tw12053537012483545015 : Nat := 0
def PySem.W.Fast.tw1265759002708140713 : Nat := 0
open PySem PySem.W PyProof.Rows
set_option maxRecDepth 100000 in
set_option maxHeartbeats 0 in
theorem PySem.Challenge.cw_anymeaning_k44_what_is_due_holds : PySem.Challenge.rw_anymeaning_k44_what_is_due.Holds := by
 w_on; o_law; k_head; (case hw => w_witness2)
 k_fill
 refine L2.walk_ofK (l := PySem.Challenge.rw_anymeaning_k44_what_is_due) (n := 63) (k := 220 + 3) (x := "_law_script") (CX := L2.CX0) (sp := fun K => DN.spL K M44.fN M44.nF (M44.gF 110 16)) rfl (by decide) rfl ⟨rfl, by decide, by decide⟩ (fun w h Y => PySem.W.km_in_of Y) (fun w h Y => DN.km_ok Y (by kernel_rfl)) ?F (fun K H a ns hl hO hS cA => DN.law_sp hO hS (M44.main ns hl)) (fun _ _ _ _ z => z)
 case F =>
  intro w mg fa h KX G hmg
  refine DN.law_of ?_
  refine' M44.all_mk KX G hmg ?a0 ?a1 ?a2 ?a3 ?a4 ?a5 ?a6 ?a7 ?a8 ?a9 ?a10 ?a11 ?a12 ?c0 ?c1 ?c2 ?c3 ?c4 ?c5 ?c6 ?c7 ?c8 ?c9 ?c10 ?c11 ?c12 ?o1 ?o2 ?e3 ?f3 ?I3 ?n3_0 ?e4 ?f4 ?I4 ?n4_0 ?e5 ?f5 ?I5 ?n5_0 ?n5_1 ?e6 ?f6 ?I6 ?n6_0 ?n6_1 ?e7 ?f7 ?I7 ?n7_0 ?n7_1 ?n7_2 ?e9 ?f9 ?I9 ?n9_0 ?e10 ?f10 ?I10 ?n10_0 ?n10_1 ?n10_2 ?e11 ?f11 ?I11 ?n11_0 ?n11_1 ?e12 ?f12 ?I12 ?n12_0 ?n12_1 ?b0 ?D0 ?b1 ?D1 ?b2 ?D2 ?b3 ?D3 ?b4 ?D4 ?b5 ?D5 ?b6 ?D6 ?b7 ?D7 ?b8 ?D8 ?b9 ?D9 ?b10 ?D10 ?b11 ?D11 ?b12 ?D12 ?b13 ?D13 ?b14 ?D14 ?b15 ?D15 ?b16 ?D16 ?m17_0 ?m17_1 ?m17_2 ?m17_3 ?m17_4 ?m17_5 ?m17_6 ?g17 ?D17 ?m18_1 ?g18 ?D18 ?m19_2 ?g19 ?D19 ?m20_3 ?g20 ?D20 ?m21_4 ?g21 ?D21 ?m22_5 ?g22 ?D22 ?m23_6 ?g23 ?D23 ?m24_7 ?g24 ?D24 ?m25_7 ?g25 ?D25 ?m26_7 ?g26 ?D26 ?m27_8 ?m27_10 ?m27_11 ?g27 ?D27 ?m28_8 ?m28_9 ?g28 ?D28 ?m29_9 ?g29 ?D29 ?m30_10 ?g30 ?D30 ?m31_11 ?g31 ?D31 ?m32_12 ?g32 ?D32 ?m33_12 ?g33 ?D33 ?wbool_0 ?wbool_1 ?wbool_2 ?wbool_3 ?wbool_4 ?wbool_5 ?wbool_6 ?wbool_10 ?wbool_11 ?wbool_12 ?wbool_13 ?wbool_14 ?wbool_15 ?wbool_16 ?wbool_17 ?wbool_18 ?wbool_19 ?wbool_20 ?wbool_21 ?wbool_22 ?bxDEEDS ?lxDEEDS ?bxEVERY ?bxLETTERS ?lxLETTERS ?bxSETTINGS ?zall ?zany ?zbool ?zisinstance ?zlen ?zlist ?zmin ?zrange
  (case a0 | a1 | a2 | a3 | a4 | a5 | a6 | a7 | a8 | a9 | a10 | a11 | a12 | o1 | o2 | e3 | f3 | n3_0 | e4 | f4 | n4_0 | e5 | f5 | n5_0 | n5_1 | e6 | f6 | n6_0 | n6_1 | e7 | f7 | n7_0 | n7_1 | n7_2 | e9 | f9 | n9_0 | e10 | f10 | n10_0 | n10_1 | n10_2 | e11 | f11 | n11_0 | n11_1 | e12 | f12 | n12_0 | n12_1 | b0 | b1 | b2 | b3 | b4 | b5 | b6 | b7 | b8 | b9 | b10 | b11 | b12 | b13 | b14 | b15 | b16 | m17_0 | m17_1 | m17_2 | m17_3 | m17_4 | m17_5 | m17_6 | g17 | m18_1 | g18 | m19_2 | g19 | m20_3 | g20 | m21_4 | g21 | m22_5 | g22 | m23_6 | g23 | m24_7 | g24 | m25_7 | g25 | m26_7 | g26 | m27_8 | m27_10 | m27_11 | g27 | m28_8 | m28_9 | g28 | m29_9 | g29 | m30_10 | g30 | m31_11 | g31 | m32_12 | g32 | m33_12 | g33 | bxDEEDS | lxDEEDS | bxEVERY | bxLETTERS | lxLETTERS | bxSETTINGS | zall | zany | zbool | zisinstance | zlen | zlist | zmin | zrange => k_is)
  (case c0 | c1 | c2 | c3 | c4 | c5 | c6 | c7 | c8 | c9 | c10 | c11 | c12 => exact ⟨by k_is, by k_is, by k_is, by k_is, by k_is, by k_is, by k_is, by k_is, by k_is, by k_is⟩)
  (case I3 | I4 | I5 | I6 | I7 | I9 | I10 | I11 | I12 | D0 | D1 | D2 | D3 | D4 | D5 | D6 | D7 | D8 | D9 | D10 | D11 | D12 | D13 | D15 | D16 | D17 | D18 | D19 | D20 | D21 | D22 | D23 | D24 | D25 | D26 | D27 | D28 | D29 | D30 | D31 | D32 | D33 => (refine' L2.fnf_mk ?l ?c ?k; (case l => k_is); (case c => k_is); (case k => k_is)))
  (case D14 => (refine' DN.fnt_mk ?l ?i ?k ?cl ?cp ?ch ?ct; (case l => k_is); (case i => k_is); (case k => k_is); (case cl => k_is); (case cp => exact rfl); (case ch => kernel_rfl); (case ct => decide)))
  (case wbool_0 => kit_is)
  (case wbool_1 => kit_is)
  (case wbool_2 => kit_is)
  (case wbool_3 => kit_is)
  (case wbool_4 => kit_is)
  (case wbool_5 => kit_is)
  (case wbool_6 => kit_is)
  (case wbool_10 => kit_is)
  (case wbool_11 => kit_is)
  (case wbool_12 => kit_is)
  (case wbool_13 => kit_is)
  (case wbool_14 => kit_is)
  (case wbool_15 => kit_is)
  (case wbool_16 => kit_is)
  (case wbool_17 => kit_is)
  (case wbool_18 => kit_is)
  (case wbool_19 => kit_is)
  (case wbool_20 => kit_is)
  (case wbool_21 => kit_is)
  (case wbool_22 => kit_is)
#print axioms PySem.Challenge.cw_anymeaning_k44_what_is_due_holds
end
