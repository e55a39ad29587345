import PyProof.Rows.All
import Wide.All
import OpenK.AllK
import Wide.FinOn
import PyProof.EqAt
import PyProof.EqKinds
import PyProof.TupleCall
import KE.BitLaws
import PyProof.Rows.SortShellAny
import KE.KLam
import KE.KMinKey
import KE.KSortKeyAny
import PyProof.Draws
import PySem.Challenge.RW_eitherboth_k06_whole_words_put_in_twice
-- CHANGE: your row's module here, as the last of these rows
set_option Elab.async false
set_option linter.all false
set_option maxRecDepth 100000
namespace L2
open PySem PySem.Spec PyProof.Rows

/-- a key: an int or a str -/
abbrev Key := Sum Int Str
def keyIs : Key → Value → Bool
  | .inl k, v => Value.isInt k v
  | .inr x, v => Value.isStrOf x v
def keyH (w : World) : Key → Int
  | .inl k => hashInt k
  | .inr x => hashStr w x
theorem keyIs_shape : ∀ {k : Key} {v : Value}, keyIs k v = true → (∃ i t, k = Sum.inl i ∧ v = Value.int i t) ∨ (∃ x t, k = Sum.inr x ∧ v = Value.str x t)
  | .inl i, v, h => by
    obtain ⟨t, e⟩ := Value.isInt_shape (k := i) (v := v) h
    exact .inl ⟨i, t, rfl, e⟩
  | .inr x, v, h => by
    obtain ⟨t, e⟩ := Value.isStrOf_shape (x := x) (v := v) h
    exact .inr ⟨x, t, rfl, e⟩
theorem keyIs_int (i : Int) (t : Tok) : keyIs (.inl i) (.int i t) = true := by simp [keyIs, Value.isInt]
theorem keyIs_str (x : Str) (t : Tok) : keyIs (.inr x) (.str x t) = true := by simp [keyIs, Value.isStrOf]
theorem key_ll (a b : Int) : decide ((Sum.inl a : Key) = Sum.inl b) = (a == b) := by
  by_cases e : a = b
  · subst e; simp
  · have h : ¬ (Sum.inl a : Key) = Sum.inl b := fun q => e (Sum.inl.inj q)
    rw [decide_eq_false h]
    exact (beq_eq_false_iff_ne.mpr e).symm
theorem key_rr (a b : Str) : decide ((Sum.inr a : Key) = Sum.inr b) = decide (a = b) := by
  by_cases e : a = b
  · subst e; simp
  · have h : ¬ (Sum.inr a : Key) = Sum.inr b := fun q => e (Sum.inr.inj q)
    rw [decide_eq_false h, decide_eq_false e]
theorem key_lr (a : Int) (b : Str) : decide ((Sum.inl a : Key) = Sum.inr b) = false := decide_eq_false (fun q => nomatch q)
theorem key_rl (a : Str) (b : Int) : decide ((Sum.inr a : Key) = Sum.inl b) = false := decide_eq_false (fun q => nomatch q)

def mixKind (prog : Program) (w : World) : PySem.KeyKind prog w Key where
  is := keyIs
  hash := keyH w
  inj := fun v a b ha hb => by
    rcases keyIs_shape ha with ⟨i, t, rfl, rfl⟩ | ⟨x, t, rfl, rfl⟩
    · rcases keyIs_shape hb with ⟨j, u, rfl, e⟩ | ⟨y, u, rfl, e⟩
      · injection e with e1 _; rw [e1]
      · exact nomatch e
    · rcases keyIs_shape hb with ⟨j, u, rfl, e⟩ | ⟨y, u, rfl, e⟩
      · exact nomatch e
      · injection e with e1 _; rw [e1]
  byValue := fun k v h => by
    rcases keyIs_shape h with ⟨i, t, rfl, rfl⟩ | ⟨x, t, rfl, rfl⟩ <;> rfl
  pyHash := fun hv h => by
    rcases keyIs_shape hv with ⟨i, t, rfl, rfl⟩ | ⟨x, t, rfl, rfl⟩
    · exact wpAny_pyHash_int h
    · exact wpAny_pyHash_str h
  eqBool := fun hu hv h => by
    rcases keyIs_shape hu with ⟨i, t, rfl, rfl⟩ | ⟨x, t, rfl, rfl⟩
    · rcases keyIs_shape hv with ⟨j, u, rfl, rfl⟩ | ⟨y, u, rfl, rfl⟩
      · rw [key_ll] at h; exact wpAny_eqBool_int h
      · rw [key_lr] at h; exact SeqAt.EqAt.int_str i t y u _ _ _ _ h
    · rcases keyIs_shape hv with ⟨j, u, rfl, rfl⟩ | ⟨y, u, rfl, rfl⟩
      · rw [key_rl] at h; exact SeqAt.EqAt.str_int x t j u _ _ _ _ h
      · rw [key_rr] at h; exact wpAny_eqBool_str h
  «strs» := fun k x t v h => by
    rcases keyIs_shape h with ⟨i, u, rfl, e⟩ | ⟨y, u, rfl, e⟩
    · exact nomatch e
    · injection e with e1 _
      subst e1
      cases v <;> rfl

theorem mixKind_int (prog : Program) (w : World) (i : Int) (t : Tok) : (mixKind prog w).is (.inl i) (.int i t) = true := keyIs_int i t
theorem mixKind_str (prog : Program) (w : World) (x : Str) (t : Tok) : (mixKind prog w).is (.inr x) (.str x t) = true := keyIs_str x t
end L2

namespace L2
open PySem PySem.Spec PyProof.Rows

/-- a value, without the heap -/
inductive V where
  | non | bl (b : Bool) | int (i : Int) | str (x : Str) | byt (b : Array UInt8) | flt (b : UInt64) | ref (a : Addr) | ty (n : String)
  deriving DecidableEq

def RelV : V → Value → Prop
  | .non, u => u = Value.none
  | .bl b, u => u = Value.bool b
  | .int i, u => ∃ t, u = Value.int i t
  | .str x, u => ∃ t, u = Value.str x t
  | .byt b, u => ∃ t, u = Value.bytes b t
  | .flt b, u => ∃ t, u = Value.float b t
  | .ref a, u => u = Value.ref a
  | .ty n, u => u = Value.type n

abbrev Vals : List V → List Value → Prop := Paired RelV
theorem Vals.length {xs : List V} {us : List Value} (r : Vals xs us) : xs.length = us.length := Paired.length r
theorem Vals.get : ∀ {xs : List V} {us : List Value} {i : Nat} {x : V}, Vals xs us → xs[i]? = some x → ∃ u, us[i]? = some u ∧ RelV x u
  | _, _, _, _, .nil, e => by simp at e
  | _, _, 0, _, .cons r _, e => by simp at e; subst e; exact ⟨_, rfl, r⟩
  | _, _, i + 1, x, .cons _ t, e => by
    obtain ⟨u, h1, h2⟩ := Vals.get (i := i) (x := x) t (by simpa using e)
    exact ⟨u, by simpa using h1, h2⟩
theorem Vals.set {x : V} {u : Value} (r : RelV x u) : ∀ {xs : List V} {us : List Value} (i : Nat), Vals xs us → Vals (xs.set i x) (us.set i u)
  | _, _, _, .nil => .nil
  | _, _, 0, .cons _ t => .cons r t
  | _, _, i + 1, .cons q t => .cons q (Vals.set r i t)
theorem Vals.append : ∀ {xs ys : List V} {us ws : List Value}, Vals xs us → Vals ys ws → Vals (xs ++ ys) (us ++ ws)
  | _, _, _, _, .nil, s => s
  | _, _, _, _, .cons r t, s => .cons r (Vals.append t s)
theorem Vals.take : ∀ {xs : List V} {us : List Value} (n : Nat), Vals xs us → Vals (xs.take n) (us.take n)
  | _, _, 0, _ => .nil
  | _, _, _ + 1, .nil => .nil
  | _, _, n + 1, .cons r t => .cons r (Vals.take n t)
theorem Vals.drop : ∀ {xs : List V} {us : List Value} (n : Nat), Vals xs us → Vals (xs.drop n) (us.drop n)
  | _, _, 0, r => r
  | _, _, _ + 1, .nil => .nil
  | _, _, n + 1, .cons _ t => Vals.drop n t
theorem Vals.none_of : ∀ {xs : List V} {us : List Value} {i : Nat}, Vals xs us → xs[i]? = none → us[i]? = none := fun {xs us i} r e => by
  have h1 := r.length
  have h2 : xs.length ≤ i := List.getElem?_eq_none_iff.mp e
  exact List.getElem?_eq_none_iff.mpr (by omega)

def RelO : Option V → Option Value → Prop
  | some v, some u => RelV v u
  | none, none => True
  | _, _ => False
def KV {κ : Type} : List (κ × V) → List (κ × Value) → Prop := Paired fun (p : κ × V) (q : κ × Value) => p.1 = q.1 ∧ RelV p.2 q.2

/-- a key of a dict (00_mix): an int or a text -/
def kV : Key → V
  | .inl i => .int i
  | .inr x => .str x

/-- what stands at a tracked address -/
inductive HO where
  /-- a list -/
  | lst (xs : List V)
  /-- a tuple (never changes) -/
  | tup (xs : List V)
  /-- a dict whose keys are ints and texts; one whose keys are tuples of ints and texts (the empty one is both) -/
  | dK (kvs : List (Key × V)) | dT (kvs : List (List Key × V))
  /-- a set of ints: its members, its size -/
  | set (S : Int → Bool) (n : Nat)
  /-- an instance of the class at C, its dict at dx, its attributes -/
  | ins (C dx : Addr) (fs : List (Str × V))
  /-- the dict of the instance at x -/
  | own (x : Addr)
  /-- the dict of an exception -/
  | xd (fs : List (Str × V))
  /-- a bound method, f of x -/
  | met (f x : Addr)
  /-- a range object lo, lo + 1, .. below hi -/
  | rng (lo hi : Int)
  /-- a thing that is known to the object (the script; a dict while a loop walks it): read, never written while it is so -/
  | frz (o : Obj) (u : HO)
  /-- a code object's table -/
  | tbl (ps : Array Value)
  /-- any other thing, by what is true of its one object (a def of one's own: SetO a S n := HO.ext fun h => ..) -/
  | ext (φ : Heap → Prop)

abbrev Hp := Addr → Option HO
def upd (H : Hp) (a : Addr) (o : HO) : Hp := fun b => if b = a then some o else H b
theorem upd_same {H : Hp} {a : Addr} {o : HO} : upd H a o a = some o := by unfold upd; rw [if_pos rfl]
theorem upd_ne {H : Hp} {a b : Addr} {o : HO} (h : b ≠ a) : upd H a o b = H b := by unfold upd; rw [if_neg h]
theorem upd_upd {H : Hp} {a : Addr} {o u : HO} : upd (upd H a o) a u = upd H a u := by
  funext b; unfold upd; split <;> rfl
/-- two objects of different content stand apart -/
theorem ne_of {H : Hp} {a b : Addr} {o u : HO} (h : H a = some o) (h' : H b = some u) (d : o ≠ u) : a ≠ b := by
  intro e; subst e; rw [h] at h'; exact d (Option.some.inj h')
theorem ne_of_none {H : Hp} {a b : Addr} {o : HO} (h : H a = some o) (h' : H b = none) : a ≠ b := by
  intro e; subst e; rw [h] at h'; cases h'

def IsTupD (h : Heap) (a : Addr) (items : Array Value) : Prop := ∃ o : Obj, h.get? a = some o ∧ o.cls = .type "tuple" ∧ ∃ n, o.data = .seq items n ∧ o.dict = none
theorem IsTupD.new (h : Heap) (items : Array Value) : IsTupD (h.push { cls := .type "tuple", data := .seq items }) h.objs.size items := ⟨_, Heap.get?_push_size _ rfl, rfl, _, rfl, rfl⟩
theorem IsTupD.tup {h : Heap} {a : Addr} {items : Array Value} (x : IsTupD h a items) : IsTup h a items := let ⟨o, e, c, n, d, _⟩ := x; ⟨o, e, c, n, d⟩
section
variable (P : Program) (w : World)
def ObjOk (H : Hp) (h : Heap) (a : Addr) : HO → Prop
  | .lst xs => xs.length ≤ sizeLine ∧ ∃ (its : List Value) (n : Nat), Vals xs its ∧ h.get? a = some { cls := .type "list", data := .seq its.toArray n }
  | .tup xs => xs.length ≤ sizeLine ∧ ∃ its : List Value, Vals xs its ∧ IsTupD h a its.toArray
  | .dK kvs => kvs.length ≤ sizeLine ∧ (a == sysModules) = false ∧ ∃ vs, KV kvs vs ∧ h.DictOf (mixKind P w) a vs
  | .dT kvs => kvs.length ≤ sizeLine ∧ (a == sysModules) = false ∧ ∃ xs : List (List Key × Addr × Value),
      Paired (fun (p : List Key × V) (q : List Key × Addr × Value) => p.1 = q.1 ∧ H q.2.1 = some (.tup (p.1.map kV)) ∧ RelV p.2 q.2.2) kvs xs ∧
      ∃ o es ep, h.get? a = some o ∧ o.ExactDict ∧ o.data = .dict es ep ∧ es.toList = xs.map (entryOfKey (tupleKind (mixKind P w))) ∧ (xs.map (·.1)).Nodup
  | .set S n => h.SetOf (intKind P w) a S n
  | .ins C dx fs => H dx = some (.own a) ∧ fs.length ≤ 1000 ∧ dx ≠ a ∧ h.get? a = some (PySem.W.instObj C dx) ∧
      ∃ mA, h.Ns1 dx mA ∧ (∀ f, RelO (fs.lookup f) (mA f)) ∧ PySem.Within mA (fs.map (·.1))
  | .own _ => ∃ o, h.get? a = some o
  | .xd fs => ∃ mA, h.Ns1 a mA ∧ ∀ f, RelO (fs.lookup f) (mA f)
  | .rng lo hi => ∃ t u v, h.get? a = some { cls := .type "range", data := .fields #[.int lo t, .int hi u, .int 1 v] }
  | .frz o u => h.get? a = some o ∧ ObjOk H h a u
  | .tbl ps => h.get? a = some { cls := .none, data := .fields ps }
  | .met f x => h.get? a = some (PySem.W.methodObj (.ref f) (.ref x))
  | .ext φ => φ h ∧ (∃ o, h.get? a = some o) ∧ ∀ h1 h2 : Heap, φ h1 → (∀ o, h1.get? a = some o → h2.get? a = some o) → φ h2
/-- the abstract heap is held -/
def HOk (H : Hp) (h : Heap) : Prop := ∀ a o, H a = some o → ObjOk P w H h a o
end

section
variable {P : Program} {w : World} {H H' : Hp} {h h' : Heap} {a : Addr} {o : HO}
theorem ObjOk.lt (x : ObjOk P w H h a o) : a < h.objs.size := by
  cases o with
  | lst xs => obtain ⟨_, _, _, _, e⟩ := x; exact Heap.lt_size e
  | tup xs => obtain ⟨_, _, _, p⟩ := x; exact p.tup.lt
  | dK kvs => obtain ⟨_, _, _, _, o, _, _, e, _⟩ := x; exact Heap.lt_size e
  | dT kvs => obtain ⟨_, _, _, _, o, _, _, e, _⟩ := x; exact Heap.lt_size e
  | set S n => obtain ⟨o, _, _, _, e, _⟩ := x; exact Heap.lt_size e
  | ins C dx fs => obtain ⟨_, _, _, e, _⟩ := x; exact Heap.lt_size e
  | own y => obtain ⟨_, e⟩ := x; exact Heap.lt_size e
  | xd fs => obtain ⟨_, ⟨_, _, _, e, _⟩, _⟩ := x; exact Heap.lt_size e
  | rng lo hi => obtain ⟨_, _, _, e⟩ := x; exact Heap.lt_size e
  | frz ob u => obtain ⟨e, _⟩ := x; exact Heap.lt_size e
  | tbl ps => exact Heap.lt_size (show h.get? a = some _ from x)
  | met f y => exact Heap.lt_size (show h.get? a = some _ from x)
  | ext φ => obtain ⟨_, ⟨_, e⟩, _⟩ := x; exact Heap.lt_size e
theorem Paired.mapP {α β : Type} {F G : α → β → Prop} : ∀ {l₁ : List α} {l₂ : List β}, Paired F l₁ l₂ → (∀ a b, F a b → G a b) → Paired G l₁ l₂
  | _, _, .nil, _ => .nil
  | _, _, .cons r t, f => .cons (f _ _ r) (Paired.mapP t f)
/-- what an object's description leans on: its own object, its own dict, the tuples -/
theorem ObjOk.stay (x : ObjOk P w H h a o) (k : ∀ b u, (b = a ∨ H b = some (.own a)) → h.get? b = some u → h'.get? b = some u)
    (ho : ∀ b, H b = some (.own a) → H' b = some (.own a)) (ht : ∀ b xs, H b = some (.tup xs) → H' b = some (.tup xs)) : ObjOk P w H' h' a o := by
  induction o with
  | lst xs => obtain ⟨z, its, n, r, e⟩ := x; exact ⟨z, its, n, r, k _ _ (.inl rfl) e⟩
  | tup xs => obtain ⟨z, its, r, ob, e, c⟩ := x; exact ⟨z, its, r, ob, k _ _ (.inl rfl) e, c⟩
  | dK kvs => obtain ⟨z, y, vs, r, ob, es, ep, e, c⟩ := x; exact ⟨z, y, vs, r, ob, es, ep, k _ _ (.inl rfl) e, c⟩
  | dT kvs =>
    obtain ⟨z, y, xs, r, ob, es, ep, e, c⟩ := x
    exact ⟨z, y, xs, Paired.mapP r fun p q z => ⟨z.1, ht _ _ z.2.1, z.2.2⟩, ob, es, ep, k _ _ (.inl rfl) e, c⟩
  | set S n => obtain ⟨ob, es, ep, t, e, c⟩ := x; exact ⟨ob, es, ep, t, k _ _ (.inl rfl) e, c⟩
  | ins C dx fs =>
    obtain ⟨d, z, ne, e, mA, ⟨od, es, ep, e2, c⟩, r⟩ := x
    exact ⟨ho _ d, z, ne, k _ _ (.inl rfl) e, mA, ⟨od, es, ep, k _ _ (.inr d) e2, c⟩, r⟩
  | own y => obtain ⟨ob, e⟩ := x; exact ⟨ob, k _ _ (.inl rfl) e⟩
  | xd fs => obtain ⟨mA, ⟨od, es, ep, e, c⟩, r⟩ := x; exact ⟨mA, ⟨od, es, ep, k _ _ (.inl rfl) e, c⟩, r⟩
  | rng lo hi => obtain ⟨t, u, v, e⟩ := x; exact ⟨t, u, v, k _ _ (.inl rfl) e⟩
  | frz ob u ih => obtain ⟨e, q⟩ := x; exact ⟨k _ _ (.inl rfl) e, ih q⟩
  | tbl ps =>
    have e : h.get? a = some { cls := .none, data := .fields ps } := x
    show h'.get? a = some { cls := .none, data := .fields ps }
    exact k a _ (.inl rfl) e
  | met f y =>
    have e : h.get? a = some (PySem.W.methodObj (.ref f) (.ref y)) := x
    show h'.get? a = some (PySem.W.methodObj (.ref f) (.ref y))
    exact k a _ (.inl rfl) e
  | ext φ => obtain ⟨p, ⟨o, e⟩, st⟩ := x; exact ⟨st _ _ p fun o q => k _ _ (.inl rfl) q, ⟨o, k _ _ (.inl rfl) e⟩, st⟩
theorem HOk.lt (x : HOk P w H h) (e : H a = some o) : a < h.objs.size := (x a o e).lt
theorem HOk.fresh (x : HOk P w H h) (e : h.objs.size ≤ a) : H a = none := by
  cases q : H a with
  | none => rfl
  | some u => exact absurd (Nat.lt_of_lt_of_le (x.lt q) e) (Nat.lt_irrefl _)
/-- every object of the heap is kept -/
theorem HOk.kept (x : HOk P w H h) (k : ∀ b u, h.get? b = some u → h'.get? b = some u) : HOk P w H h' := fun a o e =>
  (x a o e).stay (fun b u _ q => k b u q) (fun _ q => q) fun _ _ q => q
/-- a new object is laid and tracked -/
theorem HOk.laid (x : HOk P w H h) (k : ∀ b u, h.get? b = some u → h'.get? b = some u) (hp : h.objs.size ≤ a) (new : ObjOk P w (upd H a o) h' a o) : HOk P w (upd H a o) h' := fun b u e => by
  have hn := x.fresh hp
  by_cases hb : b = a
  · subst hb; rw [upd_same] at e; cases e; exact new
  · rw [upd_ne hb] at e
    exact (x b u e).stay (fun c v _ q => k c v q) (fun c q => by rw [upd_ne (ne_of_none q hn)]; exact q) fun c xs q => by rw [upd_ne (ne_of_none q hn)]; exact q
end

/-- what may be read as u: it is u, or a known u -/
def Rd (H : Hp) (a : Addr) (u : HO) : Prop := H a = some u ∨ ∃ o, H a = some (.frz o u)
theorem Rd.of {H : Hp} {a : Addr} {u : HO} (h : H a = some u) : Rd H a u := .inl h
theorem Rd.ok {P : Program} {w : World} {H : Hp} {h : Heap} {a : Addr} {u : HO} (r : Rd H a u) (x : HOk P w H h) : ObjOk P w H h a u := by
  rcases r with r | ⟨o, r⟩
  · exact x a u r
  · obtain ⟨_, q⟩ := x a _ r
    exact q
/-- what may be written -/
def Mut : Option HO → Prop
  | some (.lst _) => True
  | some (.dK _) => True
  | some (.dT _) => True
  | some (.set _ _) => True
  | some (.ins _ _ _) => True
  | some (.ext _) => True
  | _ => False
section
variable {P : Program} {w : World} {H : Hp} {h h' : Heap} {x e : Addr} {o' : HO}
/-- the object at e is changed: x itself, or the dict of the instance x -/
theorem HOk.write (ok : HOk P w H h) (mu : Mut (H x)) (he : e = x ∨ H e = some (.own x)) (k : ∀ b u, b ≠ e → h.get? b = some u → h'.get? b = some u) (heo : ∃ u, h'.get? e = some u)
    (new : ObjOk P w (upd H x o') h' x o') : HOk P w (upd H x o') h' := fun b u q => by
  have nown : ∀ c y, H c = some (.own y) → c ≠ x := fun c y r z => by subst z; rw [r] at mu; exact mu
  have ntup : ∀ c xs, H c = some (.tup xs) → c ≠ x := fun c xs r z => by subst z; rw [r] at mu; exact mu
  by_cases hb : b = x
  · subst hb; rw [upd_same] at q; cases q; exact new
  · rw [upd_ne hb] at q
    by_cases hbe : b = e
    · have q' : H b = some (.own x) := by
        rcases he with z | z
        · exact absurd (hbe.trans z) hb
        · rw [hbe]; exact z
      rw [q] at q'; cases q'
      obtain ⟨v, hv⟩ := heo
      exact ⟨v, by rw [hbe]; exact hv⟩
    · refine (ok b u q).stay (fun c v hc r => k c v ?_ r) (fun c r => by rw [upd_ne (nown c b r)]; exact r) fun c xs r => by rw [upd_ne (ntup c xs r)]; exact r
      rcases hc with rfl | hc
      · exact hbe
      · rintro rfl
        rcases he with z | z
        · exact nown c b hc z
        · rw [hc] at z; cases z; exact hb rfl
end

structure Un (fs ex : List Addr) (H H' : Hp) (h h' : Heap) : Prop where
  keep : ∀ b o, h.get? b = some o → H b = none → b ∉ fs → b ∉ ex → h'.get? b = some o
  slot : ∀ b o, h.get? b = some o → H b = none → b ∈ fs → b ∉ ex → ∃ sl, h'.get? b = some { o with slots := sl }
  free : ∀ b o, h.get? b = some o → H b = none → b ∉ ex → H' b = none
  there : ∀ b o, h.get? b = some o → b ∉ ex → ∃ o', h'.get? b = some o'
  tups : ∀ b xs, H b = some (.tup xs) → H' b = some (.tup xs)
  frzs : ∀ b o u, H b = some (.frz o u) → H' b = some (.frz o u)
  tbls : ∀ b ps, H b = some (.tbl ps) → ∃ more, H' b = some (.tbl (ps ++ more))
  tupo : ∀ b xs o, H b = some (.tup xs) → h.get? b = some o → b ∉ ex → h'.get? b = some o
section
variable {fs fs' ex ex' : List Addr} {H H1 H2 : Hp} {h h1 h2 h' : Heap} {a x e : Addr} {o : HO}
theorem Un.any (u : Un fs ex H H1 h h1) {b : Addr} {ob : Obj} (q : h.get? b = some ob) (n : H b = none) (hx : b ∉ ex) : ∃ sl, h1.get? b = some { ob with slots := sl } := by
  by_cases hb : b ∈ fs
  · exact u.slot b ob q n hb hx
  · exact ⟨ob.slots, u.keep b ob q n hb hx⟩
theorem Un.trans (a : Un fs ex H H1 h h1) (b : Un fs ex H1 H2 h1 h2) : Un fs ex H H2 h h2 where
  keep := fun c ob q n hc hx => b.keep c ob (a.keep c ob q n hc hx) (a.free c ob q n hx) hc hx
  slot := fun c ob q n hc hx => by
    obtain ⟨sl, e1⟩ := a.slot c ob q n hc hx
    obtain ⟨sl', e2⟩ := b.slot c _ e1 (a.free c ob q n hx) hc hx
    exact ⟨sl', e2⟩
  free := fun c ob q n hx => by
    obtain ⟨o', e1⟩ := a.there c ob q hx
    exact b.free c o' e1 (a.free c ob q n hx) hx
  there := fun c ob q hx => by
    obtain ⟨o', e1⟩ := a.there c ob q hx
    exact b.there c o' e1 hx
  tups := fun c xs q => b.tups c xs (a.tups c xs q)
  frzs := fun c ob xs q => b.frzs c ob xs (a.frzs c ob xs q)
  tupo := fun c xs ob q e hx => b.tupo c xs ob (a.tups c xs q) (a.tupo c xs ob q e hx) hx
  tbls := fun c ps q => by
    obtain ⟨m1, e1⟩ := a.tbls c ps q
    obtain ⟨m2, e2⟩ := b.tbls c _ e1
    exact ⟨m1 ++ m2, by rw [e2, Array.append_assoc]⟩
theorem Un.kept (k : ∀ b u, h.get? b = some u → h'.get? b = some u) : Un fs ex H H h h' :=
  ⟨fun b ob q _ _ _ => k b ob q, fun b ob q _ _ _ => ⟨ob.slots, k b ob q⟩, fun _ _ _ n _ => n, fun b ob q _ => ⟨ob, k b ob q⟩, fun _ _ q => q, fun _ _ _ q => q, fun _ ps q => ⟨#[], by rw [q]; simp⟩, fun b _ ob _ q _ => k b ob q⟩
theorem Un.refl : Un fs ex H H h h := Un.kept fun _ _ q => q
theorem Un.laid (k : ∀ b u, h.get? b = some u → h'.get? b = some u) (hp : h.objs.size ≤ a) (hn : H a = none) : Un fs ex H (upd H a o) h h' where
  keep := fun b u q _ _ _ => k b u q
  slot := fun b u q _ _ _ => ⟨u.slots, k b u q⟩
  free := fun b u q n _ => by rw [upd_ne (Nat.ne_of_lt (Nat.lt_of_lt_of_le (Heap.lt_size q) hp))]; exact n
  there := fun b u q _ => ⟨u, k b u q⟩
  tups := fun b xs q => by rw [upd_ne (ne_of_none q hn)]; exact q
  frzs := fun b u xs q => by rw [upd_ne (ne_of_none q hn)]; exact q
  tbls := fun b ps q => ⟨#[], by rw [upd_ne (ne_of_none q hn), q]; simp⟩
  tupo := fun b _ u _ q _ => k b u q
theorem Un.write (mu : Mut (H x)) (he : e = x ∨ H e = some (.own x)) (k : ∀ b u, b ≠ e → h.get? b = some u → h'.get? b = some u) (heo : ∃ u, h'.get? e = some u) : Un fs ex H (upd H x o) h h' := by
  have hx : ∀ b, H b = none → b ≠ x := fun b n z => by subst z; rw [n] at mu; exact mu
  have hb : ∀ b, H b = none → b ≠ e := fun b n z => by
    subst z
    rcases he with r | r
    · exact hx b n r
    · rw [n] at r; cases r
  have hm : ∀ b u, H b = some u → ¬ Mut (some u) → b ≠ x := fun b u q nm z => by subst z; rw [q] at mu; exact nm mu
  refine ⟨fun b u q n _ _ => k b u (hb b n) q, fun b u q n _ _ => ⟨u.slots, k b u (hb b n) q⟩, fun b u q n _ => by rw [upd_ne (hx b n)]; exact n, fun b u q _ => ?_,
    fun b xs q => by rw [upd_ne (hm b _ q fun z => z)]; exact q, fun b u xs q => by rw [upd_ne (hm b _ q fun z => z)]; exact q, fun b ps q => ⟨#[], by rw [upd_ne (hm b _ q fun z => z), q]; simp⟩, fun b xs u q g _ => k b u (fun z => by
      subst z
      rcases he with r | r
      · subst r; rw [q] at mu; exact mu
      · rw [q] at r; cases r) g⟩
  by_cases hbe : b = e
  · subst hbe; exact heo
  · exact ⟨u, k b u hbe q⟩
theorem Un.mono (u : Un fs ex H H1 h h1) (hs : ∀ b ∈ fs, b ∈ fs') (hx : ∀ b ∈ ex, b ∈ ex') : Un fs' ex' H H1 h h1 :=
  ⟨fun b ob q n hb he => u.keep b ob q n (fun z => hb (hs b z)) fun z => he (hx b z), fun _ _ q n _ he => u.any q n fun z => he (hx _ z), fun b ob q n he => u.free b ob q n fun z => he (hx b z), fun b ob q he => u.there b ob q fun z => he (hx b z), u.tups, u.frzs, u.tbls, fun b xs o q e he => u.tupo b xs o q e fun z => he (hx b z)⟩
end

def trk (h : Heap) (H : Hp) : List Addr := (List.range h.objs.size).filter fun a => (H a).isSome
def hidT (h : Heap) (H : Hp) : Heap := PySem.W.hideAll h (trk h H)
theorem hidT_size (h : Heap) (H : Hp) : (hidT h H).objs.size = h.objs.size := PySem.W.hideAll_size _ _
theorem hidT_get {h : Heap} {H : Hp} {b : Addr} {o : Obj} (e : h.get? b = some o) (n : H b = none) : (hidT h H).get? b = some o :=
  PySem.W.hideAll_get _ e fun hm => by
    have q : (H b).isSome = true := (List.mem_filter.mp hm).2
    rw [n] at q; simp at q
theorem of_hidT {h : Heap} {H : Hp} {b : Addr} {o : Obj} (e : (hidT h H).get? b = some o) : h.get? b = some o ∧ H b = none := by
  have e' : h.get? b = some o := PySem.W.of_hideAll (trk h H) e
  refine ⟨e', ?_⟩
  cases q : H b with
  | none => rfl
  | some x =>
    have hm : b ∈ trk h H := List.mem_filter.mpr ⟨List.mem_range.mpr (Heap.lt_size e'), by simp [q]⟩
    have z : (hidT h H).get? b = none := PySem.W.hideAll_none (trk h H) hm
    rw [z] at e; cases e

def allNews (g h : Heap) (L : Addr) : List (Addr × Obj) := (List.range h.objs.size).filterMap fun a => if a = L ∨ (g.get? a).isSome = true then none else (h.get? a).map fun o => (a, o)
def rest (g h : Heap) (L d : Addr) : List (Addr × Obj) := (allNews g h L).filter fun p => decide (p.1 ≠ d)
end L2

namespace L2
open PySem PySem.Spec PyProof.Rows

/-- the module's facts, over the base: the heap at the law's entry without what is tracked there -/
structure Mod (K : PySem.W.Frag) (mg : Str → Option Value) (base : Heap) : Prop where
  kin : K.In base
  glob : base.Ns mainGlobals mg
  blt : ∃ mb, base.Ns builtinsNs mb ∧ ∀ x : Str, x ≠ "__name__" → mb x = bootBuiltins x
  nolimit : base.NoLimit

/-- the context: a def's body (or a comprehension's block) running. base: fixed through the whole law; s₀, H₀: the entry; outer: the frames whose slots others may change (a def's callers); stack: all frames that run;
   ex: iterators that were made ahead of the entry and are walked here (a comprehension's); fn: the names whose cells were made at the entry (a def: all; a comprehension's block: its own); calm: not within an except suite; pn: pins that every state bears; xe: what is wanted of an exception that leaves the code -/
structure Cx where
  prog : Program
  w : World
  K : PySem.W.Frag
  mg : Str → Option Value
  base : Heap
  A : Around
  N : List Str
  s_0 : Shared
  H_0 : Hp
  env : Env
  outer : List Env
  stack : List Env
  ex : List Addr
  fn : Str → Bool
  calm : Bool
  pn : List (Addr × Obj)
  xe : Value → Shared → Prop
/-- the callers' frames -/
def frs (l : List Env) : List Addr := l.filterMap (·.frame)
abbrev Cx.fs (X : Cx) : List Addr := frs X.outer

def Vis (sc : Scope) (x : Str) : Prop := sc.names.lookup x = some .local ∨ sc.names.lookup x = some .cell ∨ sc.names.lookup x = some .free
def Loc (sc : Scope) (x : Str) : Prop := sc.names.lookup x = some .local ∨ sc.names.lookup x = some .cell
def Look (env : Env) (h : Heap) (m : Str → Option Value) (x : Str) (u : Value) : Prop :=
  (env.kindOf x = some .local ∧ m x = some u) ∨ ((env.kindOf x = some .cell ∨ env.kindOf x = some .free) ∧ ∃ c, env.cells.lookup x = some c ∧ h.IsCell c (some u))

structure Cx.Ok (X : Cx) : Prop where
  mod : Mod X.K X.mg X.base
  kind : X.env.scope.kind = .function
  glob : X.env.globals = mainGlobals
  blt : X.env.builtins = builtinsNs
  above : X.s_0.heap.objs.size ≤ X.env.locals
  inj : ∀ x y c, X.env.cells.lookup x = some c → X.env.cells.lookup y = some c → x = y
  has : ∀ x, (X.env.kindOf x = some .cell ∨ X.env.kindOf x = some .free) → ∃ c, X.env.cells.lookup x = some c
  cab : ∀ x c, X.fn x = true → X.env.cells.lookup x = some c → X.s_0.heap.objs.size ≤ c
  hd : X.calm = true → X.A.handled = none
  frames : X.A.frames = some X.stack
  stk : X.stack = X.outer ∨ (X.stack = X.env :: X.outer ∧ X.env.frame = some X.env.locals)
  exf : ∀ b ∈ X.ex, b ≠ X.env.locals ∧ ∀ x c, X.env.cells.lookup x = some c → c ≠ b
  bs : ∀ b o, X.base.get? b = some o → X.s_0.heap.get? b = some o ∧ X.H_0 b = none
  bsz : X.base.objs.size ≤ X.s_0.heap.objs.size
  noex : ∀ b o, X.base.get? b = some o → b ∉ X.ex
  exfs : ∀ b ∈ X.ex, b ∉ X.fs
  funs : X.s_0.heap.FunFrames X.base X.outer
  frf : ∀ b ∈ X.fs, X.H_0 b = none

structure Inv (X : Cx) (pins : List (Addr × Obj)) (σ : List (Option V)) (H : Hp) (s : Shared) : Prop where
  ok : X.Ok
  os : s.os = X.s_0.os
  bare : AllBare s.gens
  base : Un X.fs X.ex X.H_0 H X.s_0.heap s.heap
  loc : ∃ m, s.heap.Ns X.env.locals m ∧ ∀ (i : Nat) (x : Str) (v : V), X.N[i]? = some x → σ[i]? = some (some v) → Vis X.env.scope x → ∃ u, RelV v u ∧ Look X.env s.heap m x u
  cell : ∀ x c, X.env.cells.lookup x = some c → ∃ v, s.heap.IsCell c v
  free : H X.env.locals = none
  freeC : ∀ x c, X.env.cells.lookup x = some c → H c = none
  pin : ∀ p ∈ X.pn ++ pins, s.heap.get? p.1 = some p.2 ∧ H p.1 = none ∧ p.1 ≠ X.env.locals ∧ p.1 ∉ X.fs ∧ ∀ v, p.2.data ≠ .cell v
  hok : HOk X.prog X.w H s.heap
  len : σ.length = X.N.length

section
variable {X : Cx} {pins : List (Addr × Obj)} {σ : List (Option V)} {H H' : Hp} {s : Shared} {h' : Heap}

theorem Cx.Ok.nofr (ok : X.Ok) {b : Addr} {o : Obj} (e : X.base.get? b = some o) : b ∉ X.fs := fun hb => by
  have := (ok.funs.mem hb).1
  rw [e] at this; cases this
theorem Inv.bs (I : Inv X pins σ H s) : ∀ b o, X.base.get? b = some o → s.heap.get? b = some o ∧ H b = none := fun b o e =>
  ⟨I.base.keep b o (I.ok.bs b o e).1 (I.ok.bs b o e).2 (I.ok.nofr e) (I.ok.noex b o e), I.base.free b o (I.ok.bs b o e).1 (I.ok.bs b o e).2 (I.ok.noex b o e)⟩
theorem Inv.bk (I : Inv X pins σ H s) : ∀ b o, X.base.get? b = some o → s.heap.get? b = some o := fun b o e => (I.bs b o e).1
theorem Inv.mod (I : Inv X pins σ H s) : Mod X.K X.mg X.base := I.ok.mod
theorem Inv.kIn (I : Inv X pins σ H s) : X.K.In s.heap := I.ok.mod.kin.keeps I.bk
theorem Inv.nolimit (I : Inv X pins σ H s) : s.heap.NoLimit := I.ok.mod.nolimit.keeps I.bk
/-- the frame over the base: for OpenK's rules (K.In X.base is I.mod.kin) -/
theorem Inv.fr (I : Inv X pins σ H s) : ∃ m, Fr X.base X.env.locals s.heap m :=
  let ⟨m, hn, _⟩ := I.loc
  ⟨m, hn, I.bk, Nat.le_trans I.ok.bsz I.ok.above⟩
theorem Inv.lt (I : Inv X pins σ H s) : X.env.locals < s.heap.objs.size := let ⟨_, hn, _⟩ := I.loc; hn.lt
theorem Inv.sz (I : Inv X pins σ H s) : X.s_0.heap.objs.size ≤ s.heap.objs.size := Nat.le_trans I.ok.above (Nat.le_of_lt I.lt)
theorem Inv.nofs (I : Inv X pins σ H s) {a : Addr} (h : s.heap.objs.size ≤ a) : a ∉ X.fs := fun hb => by
  obtain ⟨_, o, ho, _⟩ := I.ok.funs.mem hb
  exact absurd (Nat.lt_of_lt_of_le (Heap.lt_size ho) (Nat.le_trans I.sz h)) (Nat.lt_irrefl _)
theorem Inv.cne (I : Inv X pins σ H s) : ∀ x c, X.env.cells.lookup x = some c → c ≠ X.env.locals := fun x c e z => by
  obtain ⟨v, o, ho, hd⟩ := I.cell x c e
  obtain ⟨m, ⟨o', es, ep, ho', hd', _⟩, _⟩ := I.loc
  rw [z, ho'] at ho; cases ho; rw [hd'] at hd; cases hd
theorem Inv.funs (I : Inv X pins σ H s) : s.heap.FunFrames X.base X.outer := by
  have all : ∀ (l : List Env), (∀ b ∈ frs l, b ∈ X.fs) → X.s_0.heap.FunFrames X.base l → s.heap.FunFrames X.base l := by
    intro l
    induction l with
    | nil => intro _ _; trivial
    | cons env r ih =>
      intro hs hl
      obtain ⟨hk, ⟨L, o, hf, hn, ho, hd⟩, hr⟩ := hl
      have hL : L ∈ X.fs := hs L (by unfold frs; rw [List.filterMap_cons, hf]; exact List.mem_cons_self)
      obtain ⟨sl, e⟩ := I.base.slot L o ho (I.ok.frf L hL) hL fun z => I.ok.exfs L z hL
      exact ⟨hk, ⟨L, _, hf, hn, e, hd⟩, ih (fun b hb => hs b (by unfold frs; rw [List.filterMap_cons, hf]; exact List.mem_cons_of_mem _ hb)) hr⟩
  exact all X.outer (fun _ hb => hb) I.ok.funs

/-- the frames that run, for a call -/
theorem Inv.stack (I : Inv X pins σ H s) : s.heap.FunFrames X.base X.stack := by
  rcases I.ok.stk with e | ⟨e, hf⟩
  · rw [e]; exact I.funs
  · rw [e]
    obtain ⟨m, hn, _⟩ := I.loc
    refine .cons (by rw [I.ok.kind]; decide) hf hn ?_ I.funs
    exact Heap.get?_none_of_le (Nat.le_trans I.ok.bsz I.ok.above)
theorem Inv.stkSub (I : Inv X pins σ H s) : ∀ b ∈ frs X.stack, b ∈ X.env.locals :: X.fs := fun b hb => by
  rcases I.ok.stk with e | ⟨e, hf⟩
  · rw [e] at hb; exact List.mem_cons_of_mem _ hb
  · rw [e] at hb
    unfold frs at hb
    rw [List.filterMap_cons, hf] at hb
    exact hb
theorem Inv.stkFree (I : Inv X pins σ H s) : ∀ b ∈ frs X.stack, H b = none := fun b hb => by
  rcases List.mem_cons.mp (I.stkSub b hb) with e | hb
  · rw [e]; exact I.free
  · obtain ⟨_, o, ho, _⟩ := I.ok.funs.mem hb
    exact I.base.free b o ho (I.ok.frf b hb) fun z => I.ok.exfs b z hb

/-- THE STEP: the untracked objects but the frame and the records at ch are kept (the callers' frames up to slots), the frame's map is kept, the new abstract heap is held -/
theorem Inv.step {g' : Array GenState} {t' : Nat} {d' : Drawn} {ch : List Addr} (I : Inv X pins σ H s)
    (hch : ∀ b ∈ ch, (b ∈ X.ex ∨ X.s_0.heap.objs.size ≤ b) ∧ b ≠ X.env.locals ∧ (∀ x c, X.env.cells.lookup x = some c → c ≠ b) ∧ ∀ p ∈ X.pn ++ pins, p.1 ≠ b)
    (keep : ∀ b o, b ≠ X.env.locals → b ∉ X.fs → b ∉ ch → s.heap.get? b = some o → H b = none → h'.get? b = some o)
    (slot : ∀ b o, b ≠ X.env.locals → b ∈ X.fs → b ∉ ch → s.heap.get? b = some o → H b = none → ∃ sl, h'.get? b = some { o with slots := sl }) (free : ∀ b o, b ∉ ch → s.heap.get? b = some o → H b = none → H' b = none)
    (there : ∀ b o, b ∉ ch → s.heap.get? b = some o → ∃ o', h'.get? b = some o')
    (tups : ∀ b xs, H b = some (.tup xs) → H' b = some (.tup xs)) (frzs : ∀ b o u, H b = some (.frz o u) → H' b = some (.frz o u)) (tbls : ∀ b ps, H b = some (.tbl ps) → ∃ more, H' b = some (.tbl (ps ++ more))) (tupo : ∀ b xs o, b ∉ ch → H b = some (.tup xs) → s.heap.get? b = some o → h'.get? b = some o)
    (ns : ∀ m, s.heap.Ns X.env.locals m → h'.Ns X.env.locals m) (hok : HOk X.prog X.w H' h') (hg : AllBare g') :
    Inv X pins σ H' { s with heap := h', gens := g', drawn := d', toks := t' } := by
  have neL : ∀ b o, X.s_0.heap.get? b = some o → b ≠ X.env.locals := fun b o e => Nat.ne_of_lt (Nat.lt_of_lt_of_le (Heap.lt_size e) I.ok.above)
  have neC : ∀ b o, X.s_0.heap.get? b = some o → b ∉ X.ex → b ∉ ch := fun b o e hx hb => by
    rcases (hch b hb).1 with z | z
    · exact hx z
    · exact absurd (Nat.lt_of_lt_of_le (Heap.lt_size e) z) (Nat.lt_irrefl _)
  have cellK : ∀ x c, X.env.cells.lookup x = some c → ∀ v, s.heap.IsCell c v → h'.IsCell c v := fun x c e v ⟨o, ho, hd⟩ => by
    have nch : c ∉ ch := fun z => (hch c z).2.2.1 x c e rfl
    by_cases hc : c ∈ X.fs
    · obtain ⟨sl, q⟩ := slot c o (I.cne x c e) hc nch ho (I.freeC x c e)
      exact ⟨_, q, hd⟩
    · exact ⟨o, keep c o (I.cne x c e) hc nch ho (I.freeC x c e), hd⟩
  refine ⟨I.ok, I.os, hg, ⟨fun b o e n hb hx => ?_, fun b o e n hb hx => ?_, fun b o e n hx => ?_, fun b o e hx => ?_, fun b xs e => tups b xs (I.base.tups b xs e), fun b o xs e => frzs b o xs (I.base.frzs b o xs e), fun b ps e => ?_, fun b xs o q e hx => tupo b xs o (neC b o e hx) (I.base.tups b xs q) (I.base.tupo b xs o q e hx)⟩, ?_, fun x c e => ?_, ?_, fun x c e => ?_, fun p hp => ?_, hok, I.len⟩
  · exact keep b o (neL b o e) hb (neC b o e hx) (I.base.keep b o e n hb hx) (I.base.free b o e n hx)
  · obtain ⟨sl, e1⟩ := I.base.slot b o e n hb hx
    obtain ⟨sl', e2⟩ := slot b _ (neL b o e) hb (neC b o e hx) e1 (I.base.free b o e n hx)
    exact ⟨sl', e2⟩
  · obtain ⟨o', e1⟩ := I.base.there b o e hx
    exact free b o' (neC b o e hx) e1 (I.base.free b o e n hx)
  · obtain ⟨o', e1⟩ := I.base.there b o e hx
    exact there b o' (neC b o e hx) e1
  · obtain ⟨m1, e1⟩ := I.base.tbls b ps e
    obtain ⟨m2, e2⟩ := tbls b _ e1
    exact ⟨m1 ++ m2, by rw [e2, Array.append_assoc]⟩
  · obtain ⟨m, hn, hl⟩ := I.loc
    refine ⟨m, ns m hn, fun i x v e1 e2 e3 => ?_⟩
    obtain ⟨u, r, l⟩ := hl i x v e1 e2 e3
    refine ⟨u, r, ?_⟩
    rcases l with l | ⟨k, c, e, z⟩
    · exact .inl l
    · exact .inr ⟨k, c, e, cellK x c e _ z⟩
  · obtain ⟨v, z⟩ := I.cell x c e
    exact ⟨v, cellK x c e v z⟩
  · obtain ⟨m, ⟨o, _, _, ho, _⟩, _⟩ := I.loc
    exact free _ o (fun z => (hch _ z).2.1 rfl) ho I.free
  · obtain ⟨v, o, ho, hd⟩ := I.cell x c e
    exact free c o (fun z => (hch c z).2.2.1 x c e rfl) ho (I.freeC x c e)
  · obtain ⟨e, n, ne, nf, d⟩ := I.pin p hp
    have nch : p.1 ∉ ch := fun z => (hch p.1 z).2.2.2 p hp rfl
    exact ⟨keep p.1 p.2 ne nf nch e n, free p.1 p.2 nch e n, ne, nf, d⟩
/-- .. where the frame's own object is kept too -/
theorem Inv.un {t' : Nat} (I : Inv X pins σ H s) (u : Un X.fs [] H H' s.heap h') (hok : HOk X.prog X.w H' h') : Inv X pins σ H' { s with heap := h', toks := t' } := by
  obtain ⟨m, ⟨o, es, ep, ho, r⟩, _⟩ := id I.loc
  obtain ⟨sl, hL⟩ := u.any ho I.free (by simp)
  exact I.step (g' := s.gens) (d' := s.drawn) (ch := []) (fun _ z => nomatch z) (fun b o _ hb _ e n => u.keep b o e n hb (by simp)) (fun b o _ hb _ e n => u.slot b o e n hb (by simp)) (fun b o _ e n => u.free b o e n (by simp)) (fun b o _ e => u.there b o e (by simp)) u.tups u.frzs u.tbls (fun b xs o _ q e => u.tupo b xs o q e (by simp)) (fun m' hm => by
    obtain ⟨o', es', ep', ho', r'⟩ := hm
    rw [ho] at ho'; cases ho'
    exact ⟨_, es', ep', hL, r'⟩) hok I.bare
/-- behind a call (or a comprehension's block): the slots of this frame may have changed too, the records at ch may have turned -/
theorem Inv.call {g' : Array GenState} {t' : Nat} {d' : Drawn} {ch : List Addr} (I : Inv X pins σ H s) (u : Un (frs X.stack) ch H H' s.heap h') (hok : HOk X.prog X.w H' h') (hg : AllBare g')
    (hch : ∀ b ∈ ch, (b ∈ X.ex ∨ X.s_0.heap.objs.size ≤ b) ∧ b ≠ X.env.locals ∧ (∀ x c, X.env.cells.lookup x = some c → c ≠ b) ∧ ∀ p ∈ X.pn ++ pins, p.1 ≠ b) :
    Inv X pins σ H' { s with heap := h', gens := g', drawn := d', toks := t' } := by
  obtain ⟨m, ⟨o, es, ep, ho, r⟩, _⟩ := id I.loc
  obtain ⟨sl, hL⟩ := u.any ho I.free fun z => (hch _ z).2.1 rfl
  exact I.step (ch := ch) hch (fun b o hL hb hc e n => u.keep b o e n (fun z => (List.mem_cons.mp (I.stkSub b z)).elim hL hb) hc) (fun b o _ _ hc e n => u.any e n hc) (fun b o hc e n => u.free b o e n hc) (fun b o hc e => u.there b o e hc) u.tups u.frzs u.tbls (fun b xs o hc q e => u.tupo b xs o q e hc) (fun m' hm => by
    obtain ⟨o', es', ep', ho', r'⟩ := hm
    rw [ho] at ho'; cases ho'
    exact ⟨_, es', ep', hL, r'⟩) hok hg
/-- an untracked record of ours (an iterator) has turned -/
theorem Inv.turned {t' : Nat} {it : Addr} (I : Inv X pins σ H s) (k : ∀ b o, b ≠ it → s.heap.get? b = some o → h'.get? b = some o) (hn : H it = none) (hL : it ≠ X.env.locals)
    (h1 : it ∈ X.ex ∨ X.s_0.heap.objs.size ≤ it) (h2 : ∀ x c, X.env.cells.lookup x = some c → c ≠ it) (h3 : ∀ p ∈ X.pn ++ pins, p.1 ≠ it) : Inv X pins σ H { s with heap := h', toks := t' } := by
  have nit : ∀ b u, H b = some u → b ≠ it := fun b u e z => by rw [z, hn] at e; cases e
  refine I.step (g' := s.gens) (d' := s.drawn) (ch := [it]) (fun b hb => ?_) (fun b o _ _ hc e _ => k b o (fun z => hc (by simp [z])) e) (fun b o _ _ hc e _ => ⟨o.slots, k b o (fun z => hc (by simp [z])) e⟩) (fun _ _ _ _ n => n)
    (fun b o hc e => ⟨o, k b o (fun z => hc (by simp [z])) e⟩) (fun _ _ e => e) (fun _ _ _ e => e) (fun b ps e => ⟨#[], by rw [e]; simp⟩) (fun b xs o _ q e => k b o (nit b _ q) e) (fun m hm => ?_) (fun b u e => ?_) I.bare
  · have e : b = it := by simpa using hb
    subst e
    exact ⟨h1, hL, h2, h3⟩
  · obtain ⟨o, es, ep, ho, r⟩ := hm
    exact ⟨o, es, ep, k _ o (Ne.symm hL) ho, r⟩
  · refine (I.hok b u e).stay (fun c v hc q => k c v ?_ q) (fun _ q => q) fun _ _ q => q
    rcases hc with z | z
    · rw [z]; exact nit b u e
    · exact nit c _ z
theorem Inv.tok (I : Inv X pins σ H s) (t : Nat) : Inv X pins σ H { s with toks := t } := I.un (h' := s.heap) (t' := t) Un.refl I.hok
/-- all objects kept -/
theorem Inv.kept {t' : Nat} (I : Inv X pins σ H s) (k : ∀ b u, s.heap.get? b = some u → h'.get? b = some u) : Inv X pins σ H { s with heap := h', toks := t' } := I.un (Un.kept k) (I.hok.kept k)
/-- a new object laid and tracked -/
theorem Inv.laid {a : Addr} {o : HO} {t' : Nat} (I : Inv X pins σ H s) (k : ∀ b u, s.heap.get? b = some u → h'.get? b = some u) (hp : s.heap.objs.size ≤ a) (new : ObjOk X.prog X.w (upd H a o) h' a o) :
    Inv X pins σ (upd H a o) { s with heap := h', toks := t' } := I.un (Un.laid k hp (I.hok.fresh hp)) (I.hok.laid k hp new)
/-- an object written -/
theorem Inv.write {x e : Addr} {o : HO} {t' : Nat} (I : Inv X pins σ H s) (mu : Mut (H x)) (he : e = x ∨ H e = some (.own x)) (k : ∀ b u, b ≠ e → s.heap.get? b = some u → h'.get? b = some u) (heo : ∃ u, h'.get? e = some u)
    (new : ObjOk X.prog X.w (upd H x o) h' x o) : Inv X pins σ (upd H x o) { s with heap := h', toks := t' } := I.un (Un.write mu he k heo) (I.hok.write mu he k heo new)
/-- forgetting slots, pins -/
theorem Inv.weak {σ' : List (Option V)} (I : Inv X pins σ H s) (hl : σ'.length = σ.length) (w : ∀ (i : Nat) v, σ'[i]? = some (some v) → σ[i]? = some (some v)) : Inv X pins σ' H s :=
  ⟨I.ok, I.os, I.bare, I.base, let ⟨m, hn, hl'⟩ := I.loc; ⟨m, hn, fun i x v e1 e2 e3 => hl' i x v e1 (w i v e2) e3⟩, I.cell, I.free, I.freeC, I.pin, I.hok, hl.trans I.len⟩
theorem Inv.pins_of {pins' : List (Addr × Obj)} (I : Inv X pins σ H s) (h : ∀ p ∈ pins', s.heap.get? p.1 = some p.2 ∧ H p.1 = none ∧ p.1 ≠ X.env.locals ∧ p.1 ∉ X.fs ∧ ∀ v, p.2.data ≠ .cell v) : Inv X pins' σ H s :=
  ⟨I.ok, I.os, I.bare, I.base, I.loc, I.cell, I.free, I.freeC, fun p hp => (List.mem_append.mp hp).elim (fun z => I.pin p (List.mem_append_left _ z)) (h p), I.hok, I.len⟩

theorem nodup_ix {N : List Str} (hN : N.Nodup) {i j : Nat} {x : Str} (a : N[i]? = some x) (b : N[j]? = some x) : i = j := by
  obtain ⟨h1, e1⟩ := List.getElem?_eq_some_iff.mp a
  obtain ⟨h2, e2⟩ := List.getElem?_eq_some_iff.mp b
  exact (List.getElem_inj hN).mp (e1.trans e2.symm)

/-- a name is stored; what changed -/
theorem store_ok2 {M : Model} {A : Around} {E : Value → Shared → Prop} {i : Nat} {x : Str} {v : V} {u : Value} {Q : Unit → Shared → Prop} (I : Inv X pins σ H s) (hN : X.N.Nodup) (hi : X.N[i]? = some x) (hx : Loc X.env.scope x) (r : RelV v u)
    (h : ∀ s', Inv X pins (σ.set i (some v)) H s' → (∃ a, Heap.SameBut a s.heap s'.heap ∧ (a = X.env.locals ∨ X.env.cells.lookup x = some a)) → Q () s') (hf : X.fn x = true ∨ X.env.scope.names.lookup x = some .local := by first | exact .inl rfl | exact .inr rfl | assumption) : wpAny M A (storeName X.env x u) Q E s := by
  obtain ⟨m, hn, hl⟩ := id I.loc
  have hcls : (X.env.scope.kind == .class || (X.env.scope.kind == .module && X.env.locals != X.env.globals)) = false := by rw [I.ok.kind]; rfl
  have hiσ : i < σ.length := by rw [I.len]; exact (List.getElem?_eq_some_iff.mp hi).1
  have cne := I.cne
  have tracked : ∀ {a : Addr} {h' : Heap}, (∃ o, s.heap.get? a = some o ∧ H a = none) → Heap.SameBut a s.heap h' → HOk X.prog X.w H h' := fun {a h'} ha hs b ob e => by
    obtain ⟨_, _, hfree⟩ := ha
    refine (I.hok b ob e).stay (fun c w' hc q => (hs.2 c ?_).trans q) (fun _ q => q) fun _ _ q => q
    rintro rfl
    rcases hc with rfl | hc
    · rw [hfree] at e; cases e
    · rw [hfree] at hc; cases hc
  rcases hx with hk | hk
  · refine wpAny_storeName_local hk hn (fun h' hn' hs => ?_) hcls
    obtain ⟨oL, _, _, hoL, _⟩ := id hn
    refine h _ ⟨I.ok, I.os, I.bare, ⟨fun b o e n hb hx => ?_, fun b o e n hb hx => ?_, I.base.free, fun b o e hx => ?_, I.base.tups, I.base.frzs, I.base.tbls, fun b xs o q e hx => (hs.2 b (Nat.ne_of_lt (Nat.lt_of_lt_of_le (Heap.lt_size e) I.ok.above))).trans (I.base.tupo b xs o q e hx)⟩, ⟨_, hn', fun j y v' e1 e2 e3 => ?_⟩, fun y c e => ?_, I.free, I.freeC, fun p hp => ?_, tracked ⟨oL, hoL, I.free⟩ hs, by simpa using I.len⟩ ⟨_, hs, .inl rfl⟩
    · exact (hs.2 b (Nat.ne_of_lt (Nat.lt_of_lt_of_le (Heap.lt_size e) I.ok.above))).trans (I.base.keep b o e n hb hx)
    · obtain ⟨sl, e1⟩ := I.base.slot b o e n hb hx
      exact ⟨sl, (hs.2 b (Nat.ne_of_lt (Nat.lt_of_lt_of_le (Heap.lt_size e) I.ok.above))).trans e1⟩
    · obtain ⟨o', e1⟩ := I.base.there b o e hx
      exact ⟨o', (hs.2 b (Nat.ne_of_lt (Nat.lt_of_lt_of_le (Heap.lt_size e) I.ok.above))).trans e1⟩
    · by_cases hj : j = i
      · subst hj
        rw [hi] at e1; cases e1
        rw [List.getElem?_set_self hiσ] at e2
        cases e2
        exact ⟨u, r, .inl ⟨hk, by simp⟩⟩
      · rw [List.getElem?_set_ne (Ne.symm hj)] at e2
        obtain ⟨u', r', q⟩ := hl j y v' e1 e2 e3
        refine ⟨u', r', ?_⟩
        rcases q with ⟨k, e⟩ | ⟨k, c, e, z⟩
        · refine .inl ⟨k, ?_⟩
          have : y ≠ x := fun e => hj (nodup_ix hN e1 (e ▸ hi))
          simp [this, e]
        · exact .inr ⟨k, c, e, z.sameBut hs (cne y c e)⟩
    · obtain ⟨w', z⟩ := I.cell y c e
      exact ⟨w', z.sameBut hs (cne y c e)⟩
    · obtain ⟨e, n, ne, nf, d⟩ := I.pin p hp
      exact ⟨(hs.2 p.1 ne).trans e, n, ne, nf, d⟩
  · have hfn : X.fn x = true := by
      rcases hf with z | z
      · exact z
      · rw [z] at hk; cases hk
    obtain ⟨c, hc⟩ := I.ok.has x (.inl hk)
    obtain ⟨w', z⟩ := I.cell x c hc
    refine wpAny_storeName_cell I.ok.kind hk hc z (fun h' hc' hs => ?_)
    obtain ⟨oc, hoc, hocd⟩ := id z
    refine h { s with heap := h' } ⟨I.ok, I.os, I.bare, ⟨fun b o e n hb hx => ?_, fun b o e n hb hx => ?_, I.base.free, fun b o e hx => ?_, I.base.tups, I.base.frzs, I.base.tbls, fun b xs o q e hx => (hs.2 b (Nat.ne_of_lt (Nat.lt_of_lt_of_le (Heap.lt_size e) (I.ok.cab x c hfn hc)))).trans (I.base.tupo b xs o q e hx)⟩, ⟨m, hn.sameBut hs (Ne.symm (cne x c hc)), fun j y v' e1 e2 e3 => ?_⟩, fun y c' e => ?_, I.free, I.freeC, fun p hp => ?_, tracked ⟨oc, hoc, I.freeC x c hc⟩ hs, by simpa using I.len⟩ ⟨c, hs, .inr hc⟩
    · exact (hs.2 b (Nat.ne_of_lt (Nat.lt_of_lt_of_le (Heap.lt_size e) (I.ok.cab x c hfn hc)))).trans (I.base.keep b o e n hb hx)
    · obtain ⟨sl, e1⟩ := I.base.slot b o e n hb hx
      exact ⟨sl, (hs.2 b (Nat.ne_of_lt (Nat.lt_of_lt_of_le (Heap.lt_size e) (I.ok.cab x c hfn hc)))).trans e1⟩
    · obtain ⟨o', e1⟩ := I.base.there b o e hx
      exact ⟨o', (hs.2 b (Nat.ne_of_lt (Nat.lt_of_lt_of_le (Heap.lt_size e) (I.ok.cab x c hfn hc)))).trans e1⟩
    · by_cases hj : j = i
      · subst hj
        rw [hi] at e1; cases e1
        rw [List.getElem?_set_self hiσ] at e2
        cases e2
        exact ⟨u, r, .inr ⟨.inl hk, c, hc, hc'⟩⟩
      · rw [List.getElem?_set_ne (Ne.symm hj)] at e2
        obtain ⟨u', r', q⟩ := hl j y v' e1 e2 e3
        refine ⟨u', r', ?_⟩
        rcases q with q | ⟨k, c', e, z'⟩
        · exact .inl q
        · refine .inr ⟨k, c', e, z'.sameBut hs ?_⟩
          rintro rfl
          exact hj (nodup_ix hN e1 (I.ok.inj _ _ _ e hc ▸ hi))
    · by_cases hcc : c' = c
      · subst hcc; exact ⟨_, hc'⟩
      · obtain ⟨w2, z2⟩ := I.cell y c' e
        exact ⟨w2, z2.sameBut hs hcc⟩
    · obtain ⟨e, n, ne, nf, d⟩ := I.pin p hp
      refine ⟨(hs.2 p.1 ?_).trans e, n, ne, nf, d⟩
      intro q
      rw [q, hoc] at e
      have q' : oc = p.2 := Option.some.inj e
      exact d w' (by rw [← q']; exact hocd)
theorem store_ok {M : Model} {A : Around} {E : Value → Shared → Prop} {i : Nat} {x : Str} {v : V} {u : Value} {Q : Unit → Shared → Prop} (I : Inv X pins σ H s) (hN : X.N.Nodup) (hi : X.N[i]? = some x) (hx : Loc X.env.scope x) (r : RelV v u)
    (h : ∀ s', Inv X pins (σ.set i (some v)) H s' → Q () s') (hf : X.fn x = true ∨ X.env.scope.names.lookup x = some .local := by first | exact .inl rfl | exact .inr rfl | assumption) : wpAny M A (storeName X.env x u) Q E s :=
  store_ok2 I hN hi hx r (fun s' I' _ => h s' I') hf
/-- behind a call or a block, the state as it is -/
theorem Inv.call' {s' : Shared} {ch : List Addr} (I : Inv X pins σ H s) (ho : s'.os = s.os) (u : Un (frs X.stack) ch H H' s.heap s'.heap) (hok : HOk X.prog X.w H' s'.heap) (hg : AllBare s'.gens)
    (hch : ∀ b ∈ ch, (b ∈ X.ex ∨ X.s_0.heap.objs.size ≤ b) ∧ b ≠ X.env.locals ∧ (∀ x c, X.env.cells.lookup x = some c → c ≠ b) ∧ ∀ p ∈ X.pn ++ pins, p.1 ≠ b) : Inv X pins σ H' s' := by
  obtain ⟨h', g', d', t', o'⟩ := s'
  have e : o' = s.os := ho
  subst e
  exact I.call (g' := g') (t' := t') (d' := d') u hok hg hch
end

/-- an exception: its class, its own dict's address (where it has one), the abstract heap behind it -/
abbrev XK := Value → Option Addr → Hp → Prop
abbrev St := List (Option V)
abbrev VK := V → Hp → Prop
/-- an expression's reading; a test's; an argument list's -/
abbrev TE := St → Hp → VK → Prop
abbrev TT := St → Hp → (Bool → Hp → Prop) → Prop
abbrev TA := St → Hp → (List V → Hp → Prop) → Prop
/-- what is wanted behind a statement -/
structure Ends where
  nx : St → Hp → Prop
  rt : VK
  bk : St → Hp → Prop := fun _ _ => False
  ct : St → Hp → Prop := fun _ _ => False
abbrev TS := Ends → St → Hp → Prop

def EP (X : Cx) (pins : List (Addr × Obj)) (σ : St) (Q : VK) (u : Value) (s' : Shared) : Prop := ∃ v H', Inv X pins σ H' s' ∧ RelV v u ∧ Q v H'
def TP (X : Cx) (pins : List (Addr × Obj)) (σ : St) (Q : Bool → Hp → Prop) (b : Bool) (s' : Shared) : Prop := ∃ H', Inv X pins σ H' s' ∧ Q b H'
def AP (X : Cx) (pins : List (Addr × Obj)) (σ : St) (Q : List V → Hp → Prop) (us : List Value) (s' : Shared) : Prop := ∃ vs H', Inv X pins σ H' s' ∧ Vals vs us ∧ Q vs H'
def SP (X : Cx) (pins : List (Addr × Obj)) (D : Ends) (f : Flow) (s' : Shared) : Prop :=
  match f with
  | .next => ∃ σ' H', Inv X pins σ' H' s' ∧ D.nx σ' H'
  | .brk => ∃ σ' H', Inv X pins σ' H' s' ∧ D.bk σ' H'
  | .cont => ∃ σ' H', Inv X pins σ' H' s' ∧ D.ct σ' H'
  | .ret u => ∃ v σ' H', Inv X pins σ' H' s' ∧ RelV v u ∧ D.rt v H'

def PE (X : Cx) (e : Expr) (t : TE) : Prop :=
  ∀ (pins : List (Addr × Obj)) (s : Shared) (σ : St) (H : Hp) (Q : VK), Inv X pins σ H s → t σ H Q → wpAny (model X.prog X.w) X.A (eval e X.env) (EP X pins σ Q) X.xe s
def PT (X : Cx) (e : Expr) (t : TT) : Prop :=
  ∀ (pins : List (Addr × Obj)) (s : Shared) (σ : St) (H : Hp) (Q : Bool → Hp → Prop), Inv X pins σ H s → t σ H Q → wpAny (model X.prog X.w) X.A (isTrue e X.env (eval e X.env)) (TP X pins σ Q) X.xe s
/-- a test whatever its 'whole' is (and, or) -/
def PW (X : Cx) (e : Expr) (t : TT) : Prop :=
  ∀ (whole : Sem Value) (pins : List (Addr × Obj)) (s : Shared) (σ : St) (H : Hp) (Q : Bool → Hp → Prop), Inv X pins σ H s → t σ H Q → wpAny (model X.prog X.w) X.A (isTrue e X.env whole) (TP X pins σ Q) X.xe s
theorem PW.pt {X : Cx} {e : Expr} {t : TT} (h : PW X e t) : PT X e t := h _
/-- an argument list (no star), from the left -/
def PA (X : Cx) (es : List Expr) (t : TA) : Prop :=
  ∀ (pos : Pos) (pins : List (Addr × Obj)) (s : Shared) (σ : St) (H : Hp) (Q : List V → Hp → Prop), Inv X pins σ H s → t σ H Q → wpAny (model X.prog X.w) X.A (spliced (backTo pos (starEach es X.env))) (AP X pins σ Q) X.xe s
def PS (X : Cx) (st : Stmt) (t : TS) : Prop :=
  ∀ (pins : List (Addr × Obj)) (s : Shared) (σ : St) (H : Hp) (D : Ends), Inv X pins σ H s → t D σ H → wpAny (model X.prog X.w) X.A (exec st X.env) (SP X pins D) X.xe s
def PSs (X : Cx) (st : List Stmt) (t : TS) : Prop :=
  ∀ (pins : List (Addr × Obj)) (s : Shared) (σ : St) (H : Hp) (D : Ends), Inv X pins σ H s → t D σ H → wpAny (model X.prog X.w) X.A (execs st X.env) (SP X pins D) X.xe s
/-- weaken the end -/
theorem thn {α : Type} {t : Sem α} {Q Q' : α → Shared → Prop} {M : Model} {A : Around} {E : Value → Shared → Prop} {s : Shared} (h : wpAny M A t Q E s) (hQ : ∀ a s, Q a s → Q' a s) : wpAny M A t Q' E s := wpAny_mono h hQ fun _ _ x => x
end L2

namespace L2
open PySem PySem.Spec PyProof.Rows
section
variable {X : Cx}

def tVar (i : Nat) : TE := fun σ H Q => ∃ v, σ[i]? = some (some v) ∧ Q v H
def tC (v : V) : TE := fun _ H Q => Q v H
theorem pe_var {i : Nat} {x : Str} {pos : Pos} (hN : X.N[i]? = some x) (hv : Vis X.env.scope x) (hd : (x == ("__debug__" : Str)) = false := by decide) (hcd : (x == ("__classdict__" : Str)) = false := by decide) : PE X (.Name x pos) (tVar i) := by
  intro pins s σ H Q I h
  obtain ⟨v, e, h⟩ := h
  obtain ⟨m, hn, hl⟩ := I.loc
  obtain ⟨u, r, l⟩ := hl i x v hN e hv
  have fin : EP X pins σ Q u s := ⟨v, H, I, r, h⟩
  rcases l with ⟨hk, hm⟩ | ⟨hk, c, hc, hcell⟩
  · exact wpAny_Name (wpAny_loadName_local I.ok.kind hk hn hm fin) hd
  · rcases hk with hk | hk
    · exact wpAny_Name (wpAny_loadName_cell I.ok.kind hk hc hcell fin) hd
    · exact wpAny_Name (wpAny_loadName_free I.ok.kind hk hc hcell fin hcd) hd
theorem pe_int {i j pos} : PE X (.Constant (.int i) j pos) (tC (.int i)) := fun _ _ _ H _ I h => wpAny_Constant_int ⟨.int i, H, I.tok _, ⟨_, rfl⟩, h⟩
theorem pe_bl {b j pos} : PE X (.Constant (.bool b) j pos) (tC (.bl b)) := fun _ _ _ H _ I h => Constant_bool ⟨.bl b, H, I, rfl, h⟩
theorem pe_str {x j pos} : PE X (.Constant (.str x) j pos) (tC (.str x)) := fun _ _ _ H _ I h => Calls.Constant_str ⟨.str x, H, I.tok _, ⟨_, rfl⟩, h⟩

/-- a global name of the def -/
def Gl (X : Cx) (x : Str) : Prop := X.env.kindOf x = some .globalImplicit
theorem ld_glob {E : Value → Shared → Prop} {pins : List (Addr × Obj)} {s : Shared} {σ : St} {H : Hp} {x : Str} {u : Value} {pos : Pos} {Q : Value → Shared → Prop} (I : Inv X pins σ H s) (hg : Gl X x) (hm : X.mg x = some u) (h : Q u s)
    (hd : (x == ("__debug__" : Str)) = false := by decide) : wpAny (model X.prog X.w) X.A (eval (.Name x pos) X.env) Q E s :=
  Calls.Name_function_global I.ok.kind hg (Calls.loadGlobal_global (by rw [I.ok.glob]; exact I.mod.glob.keeps I.bk) hm h) hd
theorem ld_blt {E : Value → Shared → Prop} {pins : List (Addr × Obj)} {s : Shared} {σ : St} {H : Hp} {x : Str} {u : Value} {pos : Pos} {Q : Value → Shared → Prop} (I : Inv X pins σ H s) (hg : Gl X x) (hm : X.mg x = none) (hv : bootBuiltins x = some u) (h : Q u s)
    (hn : x ≠ "__name__" := by decide) (hd : (x == ("__debug__" : Str)) = false := by decide) : wpAny (model X.prog X.w) X.A (eval (.Name x pos) X.env) Q E s := by
  obtain ⟨mb, h1, h2⟩ := I.mod.blt
  exact Calls.Name_function_global I.ok.kind hg (Calls.loadGlobal_builtin (by rw [I.ok.glob]; exact I.mod.glob.keeps I.bk) hm (by rw [I.ok.blt]; exact h1.keeps I.bk) ((h2 x hn).trans hv) h) hd
/-- a module's constant, a class, a function, as a value -/
theorem pe_glob {x : Str} {v : V} {u : Value} {pos : Pos} (hg : Gl X x) (hm : X.mg x = some u) (r : RelV v u) (hd : (x == ("__debug__" : Str)) = false := by decide) : PE X (.Name x pos) (tC v) :=
  fun _ _ _ H _ I h => ld_glob I hg hm ⟨v, H, I, r, h⟩ hd
theorem pe_bltn {x : Str} {v : V} {u : Value} {pos : Pos} (hg : Gl X x) (hm : X.mg x = none) (hv : bootBuiltins x = some u) (r : RelV v u) (hn : x ≠ "__name__" := by decide) (hd : (x == ("__debug__" : Str)) = false := by decide) : PE X (.Name x pos) (tC v) :=
  fun _ _ _ H _ I h => ld_blt I hg hm hv ⟨v, H, I, r, h⟩ hn hd

variable {a b : Expr} {ta tb : TE} {pos : Pos}
/-- a comparison as a value, as a test -/
def tB (t : TE) : TT := fun σ H Q => t σ H fun x H1 => ∃ c, x = .bl c ∧ Q c H1
/-- an expression whose value is a bool, as a test -/
theorem pt_val {e : Expr} {t : TE} (h : PE X e t) (he : ∀ whole, isTrue e X.env whole = (do let v ← whole; standAt e.pos; holding [v] (truthy v)) := by intro _; rfl) : PT X e (tB t) := by
  intro pins s σ H Q I hw
  refine isTrue_plain (thn (h pins s σ H _ I hw) fun v s1 ⟨x, H1, I1, r1, q1⟩ => ?_) (he _)
  obtain ⟨d, rfl, q⟩ := q1
  cases r1
  exact wpAny_truthy_bool ⟨H1, I1, q⟩

variable {tA tB' : TT} {rest : List Expr}
def tOr (t u : TT) : TT := fun σ H Q => t σ H fun c H1 => if c = true then Q true H1 else u σ H1 Q
def tNot (t : TT) : TT := fun σ H Q => t σ H fun c H1 => Q (!c) H1
theorem pw_or1 (ha : PT X a tA) : PW X (.BoolOp .Or [a] pos) tA := by
  intro wh pins s σ H Q I h
  refine isTrue_or (thn (ha pins s σ H Q I h) fun c s1 e => ?_)
  cases c with
  | false => exact isTrue_or_nil e
  | true => exact e
theorem pw_or (ha : PT X a tA) (hb : PW X (.BoolOp .Or (b :: rest) pos) tB') : PW X (.BoolOp .Or (a :: b :: rest) pos) (tOr tA tB') := by
  intro wh pins s σ H Q I h
  refine isTrue_or (thn (ha pins s σ H _ I h) fun c s1 ⟨H1, I1, q1⟩ => ?_)
  cases c with
  | true => exact ⟨H1, I1, q1⟩
  | false => exact hb wh pins s1 σ H1 Q I1 q1
theorem pt_not (ha : PT X a tA) : PT X (.UnaryOp .Not a pos) (tNot tA) := by
  intro pins s σ H Q I h
  exact isTrue_not (ha pins s σ H (fun c H1 => Q (!c) H1) I h)
/-- .. as values (bools) -/
def tAndV (ta tb : TE) : TE := fun σ H Q => ta σ H fun x H1 => ∃ c, x = .bl c ∧ if c = true then tb σ H1 Q else Q (.bl false) H1
def tOrV (ta tb : TE) : TE := fun σ H Q => ta σ H fun x H1 => ∃ c, x = .bl c ∧ if c = true then Q (.bl true) H1 else tb σ H1 Q
theorem pe_one {op} {t : TE} (h : PE X a t) : PE X (.BoolOp op [a] pos) t := fun pins s σ H Q I hw => BoolOp_one (h pins s σ H Q I hw)
theorem pe_and (ha : PE X a ta) (hb : PE X (.BoolOp .And (b :: rest) pos) tb) : PE X (.BoolOp .And (a :: b :: rest) pos) (tAndV ta tb) := by
  intro pins s σ H Q I h
  refine BoolOp_and (thn (ha pins s σ H _ I h) fun v s1 ⟨x, H1, I1, r1, q1⟩ => ?_)
  obtain ⟨c, rfl, q1⟩ := q1
  cases r1
  refine wpAny_truthy_bool ?_
  cases c with
  | true => exact hb pins s1 σ H1 Q I1 q1
  | false => exact ⟨.bl false, H1, I1, rfl, q1⟩
theorem pe_or (ha : PE X a ta) (hb : PE X (.BoolOp .Or (b :: rest) pos) tb) : PE X (.BoolOp .Or (a :: b :: rest) pos) (tOrV ta tb) := by
  intro pins s σ H Q I h
  refine BoolOp_or (thn (ha pins s σ H _ I h) fun v s1 ⟨x, H1, I1, r1, q1⟩ => ?_)
  obtain ⟨c, rfl, q1⟩ := q1
  cases r1
  refine wpAny_truthy_bool ?_
  cases c with
  | false => exact hb pins s1 σ H1 Q I1 q1
  | true => exact ⟨.bl true, H1, I1, rfl, q1⟩
/-- a if t else b -/
def tIf (t : TT) (ta tb : TE) : TE := fun σ H Q => t σ H fun c H1 => if c = true then ta σ H1 Q else tb σ H1 Q
theorem pe_ifExp {c : Expr} (hc : PT X c tA) (ha : PE X a ta) (hb : PE X b tb) : PE X (.IfExp c a b pos) (tIf tA ta tb) := by
  intro pins s σ H Q I h
  refine wpAny_IfExp (thn (hc pins s σ H _ I h) fun d s1 ⟨H1, I1, q1⟩ => ?_)
  cases d with
  | true => exact ha pins s1 σ H1 Q I1 q1
  | false => exact hb pins s1 σ H1 Q I1 q1
end
end L2

namespace L2
open PySem PySem.Spec PyProof.Rows

def SqL (K : PySem.W.Frag) (H : Hp) (a : Addr) (xs : List V) : Prop :=
  Rd H a (.lst xs) ∨
    ∃ (o : Obj) (its : Array Value) (n : Nat), K.lookup a = some o ∧ o.cls = .type "list" ∧ o.dict = none ∧ o.data = .seq its n ∧ its.size ≤ sizeLine ∧ Vals xs its.toList
def SqT (K : PySem.W.Frag) (H : Hp) (a : Addr) (xs : List V) : Prop :=
  Rd H a (.tup xs) ∨
    ∃ (o : Obj) (its : Array Value) (n : Nat), K.lookup a = some o ∧ o.cls = .type "tuple" ∧ o.data = .seq its n ∧ its.size ≤ sizeLine ∧ Vals xs its.toList
def absV : Value → Option V
  | .none => some .non
  | .bool b => some (.bl b)
  | .int i _ => some (.int i)
  | .str x _ => some (.str x)
  | .bytes b _ => some (.byt b)
  | .float b _ => some (.flt b)
  | .ref a => some (.ref a)
  | .type n => some (.ty n)
  | _ => none
theorem RelV.abs {x : V} {u : Value} (r : RelV x u) : absV u = some x := by
  cases x with
  | non => cases r; rfl
  | bl _ => cases r; rfl
  | int _ => obtain ⟨t, rfl⟩ := r; rfl
  | str _ => obtain ⟨t, rfl⟩ := r; rfl
  | byt _ => obtain ⟨t, rfl⟩ := r; rfl
  | flt _ => obtain ⟨t, rfl⟩ := r; rfl
  | ref _ => cases r; rfl
  | ty _ => cases r; rfl
theorem RelV.inj {x y : V} {u : Value} (r : RelV x u) (q : RelV y u) : x = y := Option.some.inj (r.abs.symm.trans q.abs)
theorem Vals.inj : ∀ {xs ys : List V} {us : List Value}, Vals xs us → Vals ys us → xs = ys
  | _, _, _, .nil, .nil => rfl
  | _, _, _, .cons r t, .cons r' t' => by rw [r.inj r', Vals.inj t t']
section
variable {X : Cx} {pins : List (Addr × Obj)} {σ : St} {H : Hp} {s : Shared} {a : Addr} {xs ys : List V}
theorem SqL.of {K : PySem.W.Frag} (h : H a = some (.lst xs)) : SqL K H a xs := .inl (.inl h)
theorem SqT.of {K : PySem.W.Frag} (h : H a = some (.tup xs)) : SqT K H a xs := .inl (.inl h)
theorem Inv.list (I : Inv X pins σ H s) (h : SqL X.K H a xs) : ∃ its : List Value, Vals xs its ∧ PlainL s.heap a its.toArray ∧ xs.length ≤ sizeLine := by
  rcases h with h | ⟨o, its, n, hk, hc, hd, hs, hz, r⟩
  · obtain ⟨z, its, n, r, e⟩ := h.ok I.hok
    exact ⟨its, r, ⟨_, n, e, rfl, rfl, rfl⟩, z⟩
  · refine ⟨its.toList, r, ⟨o, n, I.kIn a o hk, hc, hd, by simpa using hs⟩, ?_⟩
    have e := r.length
    simp only [Array.length_toList] at e
    omega
theorem Inv.tuple (I : Inv X pins σ H s) (h : SqT X.K H a xs) : ∃ its : List Value, Vals xs its ∧ IsTup s.heap a its.toArray ∧ xs.length ≤ sizeLine := by
  rcases h with h | ⟨o, its, n, hk, hc, hs, hz, r⟩
  · obtain ⟨z, its, r, p⟩ := h.ok I.hok
    exact ⟨its, r, p.tup, z⟩
  · refine ⟨its.toList, r, ⟨o, I.kIn a o hk, hc, n, by simpa using hs⟩, ?_⟩
    have e := r.length
    simp only [Array.length_toList] at e
    omega
theorem Inv.list_inj (I : Inv X pins σ H s) (h : SqL X.K H a xs) (h' : SqL X.K H a ys) : xs = ys := by
  obtain ⟨its, r, ⟨o, n, e, _, _, d⟩, _⟩ := I.list h
  obtain ⟨its', r', ⟨o', n', e', _, _, d'⟩, _⟩ := I.list h'
  rw [e] at e'; cases e'
  rw [d] at d'
  injection d' with d1 _
  have : its = its' := by simpa using congrArg Array.toList d1
  subst this
  exact r.inj r'
theorem Inv.tuple_inj (I : Inv X pins σ H s) (h : SqT X.K H a xs) (h' : SqT X.K H a ys) : xs = ys := by
  obtain ⟨its, r, ⟨o, e, _, n, d⟩, _⟩ := I.tuple h
  obtain ⟨its', r', ⟨o', e', _, n', d'⟩, _⟩ := I.tuple h'
  rw [e] at e'; cases e'
  rw [d] at d'
  injection d' with d1 _
  have : its = its' := by simpa using congrArg Array.toList d1
  subst this
  exact r.inj r'
end

abbrev Cx.wish (X : Cx) (E : Value → Shared → Prop) : Cx := { X with xe := E }
/-- no exception leaves -/
abbrev Cx.nox (X : Cx) : Cx := X.wish fun _ _ => False
theorem Cx.Ok.wish {X : Cx} (ok : X.Ok) (E : Value → Shared → Prop) : (X.wish E).Ok :=
  ⟨ok.mod, ok.kind, ok.glob, ok.blt, ok.above, ok.inj, ok.has, ok.cab, ok.hd, ok.frames, ok.stk, ok.exf, ok.bs, ok.bsz, ok.noex, ok.exfs, ok.funs, ok.frf⟩
theorem Cx.Ok.unwish {X : Cx} {E : Value → Shared → Prop} (ok : (X.wish E).Ok) : X.Ok :=
  ⟨ok.mod, ok.kind, ok.glob, ok.blt, ok.above, ok.inj, ok.has, ok.cab, ok.hd, ok.frames, ok.stk, ok.exf, ok.bs, ok.bsz, ok.noex, ok.exfs, ok.funs, ok.frf⟩
section
variable {X : Cx} {pins : List (Addr × Obj)} {σ : St} {H : Hp} {s : Shared} {E : Value → Shared → Prop}
theorem Inv.wish (I : Inv X pins σ H s) (E : Value → Shared → Prop) : Inv (X.wish E) pins σ H s := ⟨I.ok.wish E, I.os, I.bare, I.base, I.loc, I.cell, I.free, I.freeC, I.pin, I.hok, I.len⟩
theorem Inv.unwish (I : Inv (X.wish E) pins σ H s) : Inv X pins σ H s := ⟨I.ok.unwish, I.os, I.bare, I.base, I.loc, I.cell, I.free, I.freeC, I.pin, I.hok, I.len⟩
theorem SP.unwish {D : Ends} {f : Flow} {s' : Shared} (h : SP (X.wish E) pins D f s') : SP X pins D f s' := by
  cases f with
  | next => obtain ⟨σ', H', I, q⟩ := h; exact ⟨σ', H', I.unwish, q⟩
  | brk => obtain ⟨σ', H', I, q⟩ := h; exact ⟨σ', H', I.unwish, q⟩
  | cont => obtain ⟨σ', H', I, q⟩ := h; exact ⟨σ', H', I.unwish, q⟩
  | ret u => obtain ⟨v, σ', H', I, r, q⟩ := h; exact ⟨v, σ', H', I.unwish, r, q⟩
theorem PE.nox {e : Expr} {t : TE} (h : PE X.nox e t) : PE X e t := fun pins s σ H Q I hw =>
  wpAny_mono (h pins s σ H Q (I.wish _) hw) (fun _ _ ⟨v, H', I', r, q⟩ => ⟨v, H', I'.unwish, r, q⟩) fun _ _ z => False.elim z
theorem PT.nox {e : Expr} {t : TT} (h : PT X.nox e t) : PT X e t := fun pins s σ H Q I hw =>
  wpAny_mono (h pins s σ H Q (I.wish _) hw) (fun _ _ ⟨H', I', q⟩ => ⟨H', I'.unwish, q⟩) fun _ _ z => False.elim z
theorem PSs.nox {st : List Stmt} {t : TS} (h : PSs X.nox st t) : PSs X st t := fun pins s σ H D I hw =>
  wpAny_mono (h pins s σ H D (I.wish _) hw) (fun _ _ q => q.unwish) fun _ _ z => False.elim z
end

section
variable {X : Cx} {st : Stmt} {rest : List Stmt} {t u : TS} {e : Expr} {te : TE} {pos : Pos}
def tNext : TS := fun D σ H => D.nx σ H
def tSeq (t u : TS) : TS := fun D σ H => t { D with nx := u D } σ H
theorem pss_nil : PSs X [] tNext := fun _ _ σ H _ I h => wpAny_execs_nil ⟨σ, H, I, h⟩
theorem pss_cons (h1 : PS X st t) (h2 : PSs X rest u) : PSs X (st :: rest) (tSeq t u) := by
  intro pins s σ H D I h
  refine wpAny_execs_cons (thn (h1 pins s σ H { D with nx := u D } I h) fun f s1 q => ?_)
  cases f with
  | next =>
    obtain ⟨σ', H', I', q⟩ := q
    exact h2 pins s1 σ' H' D I' q
  | ret v => exact q
  | brk => exact q
  | cont => exact q
theorem pss_one (h1 : PS X st t) : PSs X [st] t := by
  intro pins s σ H D I h
  refine wpAny_execs_cons (thn (h1 pins s σ H D I h) fun f s1 q => ?_)
  cases f with
  | next => exact wpAny_execs_nil q
  | ret v => exact q
  | brk => exact q
  | cont => exact q
def tCont : TS := fun D σ H => D.ct σ H
theorem ps_continue : PS X (.Continue pos) tCont := fun _ _ σ H _ I h => wpAny_Continue ⟨σ, H, I, h⟩
/-- in a def's body nothing is shown -/
theorem Inv.quiet {pins : List (Addr × Obj)} {σ : St} {H : Hp} {s : Shared} (I : Inv X pins σ H s) : interactive X.env = false := by simp [interactive, I.ok.kind]
/-- an expression whose value is dropped -/
def tDrop (te : TE) : TS := fun D σ H => te σ H fun _ H1 => D.nx σ H1
theorem ps_expr (he : PE X e te) (hs : swapsWith e none pos.line X.env = pure false := by rfl) : PS X (.Expr e pos) (tDrop te) := by
  intro pins s σ H D I h
  exact wpAny_Expr_any (thn (he pins s σ H _ I h) fun v s1 ⟨x, H1, I1, r1, q1⟩ => ⟨σ, H1, I1, q1⟩) I.quiet hs
def tRet (te : TE) : TS := fun D σ H => te σ H D.rt
theorem ps_ret (he : PE X e te) : PS X (.Return (some e) pos) (tRet te) := by
  intro pins s σ H D I h
  exact wpAny_Return_some (thn (he pins s σ H _ I h) fun v s1 ⟨x, H1, I1, r1, q1⟩ => ⟨x, σ, H1, I1, r1, q1⟩)
def tIfS (c : TT) (t u : TS) : TS := fun D σ H => c σ H fun b H1 => if b = true then t D σ H1 else u D σ H1
theorem ps_if {c : Expr} {a b : List Stmt} {tc : TT} (hc : PT X c tc) (ha : PSs X a t) (hb : PSs X b u) : PS X (.If c a b pos) (tIfS tc t u) := by
  intro pins s σ H D I h
  refine wpAny_If (thn (hc pins s σ H _ I h) fun d s1 ⟨H1, I1, q1⟩ => ?_)
  cases d with
  | true => exact ha pins s1 σ H1 D I1 q1
  | false => exact hb pins s1 σ H1 D I1 q1
end

abbrev TG := V → St → Hp → (St → Hp → Prop) → Prop
abbrev TGs := List V → St → Hp → (St → Hp → Prop) → Prop
def PG (X : Cx) (target : Expr) (t : TG) : Prop :=
  ∀ (pins : List (Addr × Obj)) (s : Shared) (σ : St) (H : Hp) (v : V) (u : Value) (Q : St → Hp → Prop), Inv X pins σ H s → RelV v u → t v σ H Q →
    wpAny (model X.prog X.w) X.A (assign target X.env u) (fun _ s' => ∃ σ' H', Inv X pins σ' H' s' ∧ Q σ' H') X.xe s
/-- several targets, one after another -/
def PGs (X : Cx) (ts : List Expr) (t : TGs) : Prop :=
  ∀ (pins : List (Addr × Obj)) (s : Shared) (σ : St) (H : Hp) (vs : List V) (us : List Value) (Q : St → Hp → Prop), Inv X pins σ H s → Vals vs us → t vs σ H Q →
    wpAny (model X.prog X.w) X.A (assignInOrder ((assignEach ts X.env).map (·.2)) us) (fun _ s' => ∃ σ' H', Inv X pins σ' H' s' ∧ Q σ' H') X.xe s
/-- o[i] = v, by values -/
abbrev TSet := V → V → V → Hp → (Hp → Prop) → Prop
def PSet (X : Cx) (t : TSet) : Prop :=
  ∀ (pins : List (Addr × Obj)) (s : Shared) (σ : St) (H : Hp) (o i v : V) (ov iv u : Value) (Q : Hp → Prop), Inv X pins σ H s → RelV o ov → RelV i iv → RelV v u → t o i v H Q →
    wpAny (model X.prog X.w) X.A (setItem ov iv u) (fun _ s' => ∃ H', Inv X pins σ H' s' ∧ Q H') X.xe s
/-- a op= b, by values -/
abbrev TIp := V → V → Hp → VK → Prop
def PIp (X : Cx) (op : Operator) (t : TIp) : Prop :=
  ∀ (pins : List (Addr × Obj)) (s : Shared) (σ : St) (H : Hp) (x y : V) (v u : Value) (Q : VK), Inv X pins σ H s → RelV x v → RelV y u → t x y H Q →
    wpAny (model X.prog X.w) X.A (inplaceOp op v u) (EP X pins σ Q) X.xe s
section
variable {X : Cx} {pos : Pos}
def gName (i : Nat) : TG := fun v σ H Q => Q (σ.set i (some v)) H
theorem pg_name {i : Nat} {x : Str} (hN : X.N.Nodup) (hi : X.N[i]? = some x) (hx : Loc X.env.scope x) (hf : X.fn x = true ∨ X.env.scope.names.lookup x = some .local := by first | exact .inl rfl | exact .inr rfl | assumption) : PG X (.Name x pos) (gName i) := by
  intro pins s σ H v u Q I r h
  exact wpAny_assign_Name (store_ok I hN hi hx r (fun s' I' => ⟨_, H, I', h⟩) hf)
def gNil : TGs := fun vs σ H Q => vs = [] ∧ Q σ H
def gCons (t : TG) (u : TGs) : TGs := fun vs σ H Q => ∃ v r, vs = v :: r ∧ t v σ H fun σ' H' => u r σ' H' Q
theorem pgs_nil : PGs X [] gNil := by
  intro pins s σ H vs us Q I r h
  obtain ⟨e, h⟩ := h
  subst e
  cases r
  exact assignInOrder_nil ⟨σ, H, I, h⟩
theorem pgs_cons {e : Expr} {es : List Expr} {t : TG} {u : TGs} (h1 : PG X e t) (h2 : PGs X es u)
    (hs : (assignEach (e :: es) X.env).map (·.2) = assign e X.env :: (assignEach es X.env).map (·.2) := by rfl) : PGs X (e :: es) (gCons t u) := by
  intro pins s σ H vs us Q I r h
  obtain ⟨v, vr, e1, h⟩ := h
  subst e1
  cases r with
  | cons r rr =>
    rw [hs]
    refine assignInOrder_cons (thn (h1 pins s σ H _ _ _ I r h) fun _ s1 ⟨σ1, H1, I1, q1⟩ => ?_)
    exact h2 pins s1 σ1 H1 _ _ Q I1 rr q1
/-- (a, b, ..) = a tuple of that length -/
def gTup (K : PySem.W.Frag) (n : Nat) (t : TGs) : TG := fun v σ H Q => ∃ a xs, v = .ref a ∧ SqT K H a xs ∧ xs.length = n ∧ t xs σ H Q
theorem pg_tup {es : List Expr} {k : Nat} {t : TGs} {n : Nat} (hc : X.calm = true) (h : PGs X es t)
    (hn : (assignEach es X.env).length = n := by rfl) (hst : (assignEach es X.env).findIdx? (·.1) = none := by rfl) : PG X (.Tuple es k pos) (gTup X.K n t) := by
  intro pins s σ H v u Q I r hw
  obtain ⟨a, xs, e1, hq, hl, hw⟩ := hw
  subst e1
  cases r
  obtain ⟨its, rv, ht, hz⟩ := I.tuple hq
  refine assign_Tuple_tuple (I.ok.hd hc) ht (by simp [hn, ← hl, rv.length]) hst fun h' hx => ?_
  have I1 : Inv X pins σ H { s with heap := h' } := I.kept (t' := s.toks) fun b o e => hx b o (Nat.ne_of_lt (Heap.lt_size e)) e
  exact h pins _ σ H xs _ Q I1 (by simpa using rv) hw
/-- o[i] = .. -/
def gSub (to ti : TE) (t : TSet) : TG := fun v σ H Q => to σ H fun o H1 => ti σ H1 fun i H2 => t o i v H2 fun H3 => Q σ H3
theorem pg_sub {o i : Expr} {to ti : TE} {t : TSet} (ho : PE X o to) (hi : PE X i ti) (hs : PSet X t)
    (ha : ∀ v, assign (.Subscript o i pos) X.env v = (do
      let ov ← holding [v] (eval o X.env)
      let iv ← holding [v, ov] (eval i X.env)
      standAt pos
      holding [v, ov, iv] (setItem ov iv v)
      release [v, ov, iv] []) := by intro _; rfl) : PG X (.Subscript o i pos) (gSub to ti t) := by
  intro pins s σ H v u Q I r h
  rw [ha]
  refine wpAny_bind (wpAny_holding (thn (ho pins s σ H _ I h) fun ov s1 ⟨x, H1, I1, r1, q1⟩ => ?_))
  refine wpAny_bind (wpAny_holding (thn (hi pins s1 σ H1 _ I1 q1) fun iv s2 ⟨y, H2, I2, r2, q2⟩ => ?_))
  refine wpAny_bind (wpAny_standAt (wpAny_bind (wpAny_holding (thn (hs pins s2 σ H2 x y v ov iv u _ I2 r1 r2 r q2) fun _ s3 ⟨H3, I3, q3⟩ => ?_))))
  exact wpAny_release ⟨σ, H3, I3, q3⟩
/-- target = value -/
def tAsg (te : TE) (g : TG) : TS := fun D σ H => te σ H fun x H1 => g x σ H1 D.nx
theorem ps_asg {tg e : Expr} {te : TE} {g : TG} (he : PE X e te) (hg : PG X tg g) (hs : swapsWithSole [tg] e pos.line X.env = pure false := by rfl) (hw : swappedStores [tg] e X.env = pure none := by rfl)
    (h1 : (assignEach [tg] X.env).map (·.2) = [assign tg X.env] := by rfl) : PS X (.Assign [tg] e pos) (tAsg te g) := by
  intro pins s σ H D I h
  refine wpAny_Assign_stores (thn (he pins s σ H _ I h) fun v s1 ⟨x, H1, I1, r1, q1⟩ => ?_) hs hw
  rw [h1]
  exact thn (hg pins s1 σ H1 x v _ I1 r1 q1) fun _ s2 q => q
/-- name = value -/
theorem ps_set {i : Nat} {x : Str} {e : Expr} {te : TE} {pos' : Pos} (hN : X.N.Nodup) (hi : X.N[i]? = some x) (hx : Loc X.env.scope x) (he : PE X e te) (hs : swapsWith e (some (.Name x pos')) pos.line X.env = pure false := by rfl) (hf : X.fn x = true ∨ X.env.scope.names.lookup x = some .local := by first | exact .inl rfl | exact .inr rfl | assumption) :
    PS X (.Assign [.Name x pos'] e pos) (tAsg te (gName i)) := by
  intro pins s σ H D I h
  refine wpAny_Assign_Name (thn (he pins s σ H _ I h) fun v s1 ⟨y, H1, I1, r1, q1⟩ => ?_) hs
  exact store_ok I1 hN hi hx r1 (fun s2 I2 => ⟨_, H1, I2, q1⟩) hf
/-- o[i] op= e -/
def tAugS (to ti te : TE) (tget : V → V → Hp → VK → Prop) (tip : TIp) (tset : TSet) : TS := fun D σ H => to σ H fun o H1 => ti σ H1 fun i H2 => tget o i H2 fun x H3 => te σ H3 fun y H4 => tip x y H4 fun z H5 => tset o i z H5 fun H6 => D.nx σ H6
/-- o[i], by values -/
def PGet (X : Cx) (t : V → V → Hp → VK → Prop) : Prop :=
  ∀ (pins : List (Addr × Obj)) (s : Shared) (σ : St) (H : Hp) (o i : V) (ov iv : Value) (Q : VK), Inv X pins σ H s → RelV o ov → RelV i iv → t o i H Q →
    wpAny (model X.prog X.w) X.A (getItem ov iv) (EP X pins σ Q) X.xe s
theorem ps_augS {o i e : Expr} {to ti te : TE} {tget : V → V → Hp → VK → Prop} {tip : TIp} {tset : TSet} {op : Operator} {tpos : Pos} (ho : PE X o to) (hi : PE X i ti) (hg : PGet X tget) (he : PE X e te) (hp : PIp X op tip) (hs : PSet X tset)
    (ha : ∀ ov iv new, augStore i ov iv new = (do holding [new, ov, iv] (setItem ov iv new); release [new, ov, iv] []; pure .next) := by intros; rfl) : PS X (.AugAssign (.Subscript o i tpos) op e pos) (tAugS to ti te tget tip tset) := by
  intro pins s σ H D I h
  refine wpAny_AugAssign_SubscriptAny (thn (ho pins s σ H _ I h) fun ov s1 ⟨x1, H1, I1, r1, q1⟩ => ?_) ha
  refine thn (hi pins s1 σ H1 _ I1 q1) fun iv s2 ⟨x2, H2, I2, r2, q2⟩ => ?_
  refine thn (hg pins s2 σ H2 x1 x2 ov iv _ I2 r1 r2 q2) fun old s3 ⟨x3, H3, I3, r3, q3⟩ => ?_
  refine thn (he pins s3 σ H3 _ I3 q3) fun v s4 ⟨x4, H4, I4, r4, q4⟩ => ?_
  refine thn (hp pins s4 σ H4 x3 x4 old v _ I4 r3 r4 q4) fun new s5 ⟨x5, H5, I5, r5, q5⟩ => ?_
  exact thn (hs pins s5 σ H5 x1 x2 x5 ov iv new _ I5 r1 r2 r5 q5) fun _ s6 ⟨H6, I6, q6⟩ => ⟨σ, H6, I6, q6⟩
/-- ints -/
def ipI (f : Int → Int → Int) : TIp := fun x y H Q => ∃ i j, x = .int i ∧ y = .int j ∧ Q (.int (f i j)) H
theorem ip_add : PIp X .Add (ipI fun i j => i + j) := by
  intro pins s σ H x y v u Q I r1 r2 h
  obtain ⟨i, j, e1, e2, q⟩ := h
  subst e1; subst e2
  obtain ⟨t, rfl⟩ := r1
  obtain ⟨t', rfl⟩ := r2
  exact iadd_int ⟨.int _, H, I.tok _, ⟨_, rfl⟩, q⟩
end

section
variable {X : Cx} {pos : Pos}
/-- the invariant W with its measure -/
def tWhile (c : TT) (tb : TS) : TS := fun D σ H => ∃ W : Nat → St → Hp → Prop, (∃ m, W m σ H) ∧ ∀ m σ H, W m σ H →
  c σ H fun b H1 => if b = true then ∃ N : St → Hp → Prop, (∀ σ' H', N σ' H' → ∃ m', m' < m ∧ W m' σ' H') ∧ tb { D with nx := N, ct := N, bk := D.nx } σ H1 else D.nx σ H1
theorem ps_while {c : Expr} {body : List Stmt} {tc : TT} {tb : TS} (hp : PassesOwn (model X.prog X.w) X.A X.env X.xe) (hc : PT X c tc) (hb : PSs X body tb) : PS X (.While c body [] pos) (tWhile tc tb) := by
  intro pins s σ H D I h
  obtain ⟨W, ⟨m0, w0⟩, turn⟩ := h
  refine wpAny_While (codeAny_whileLoop (fun n s' => ∃ σ' H', Inv X pins σ' H' s' ∧ W n σ' H') ?_ m0 ⟨σ, H, I, w0⟩)
  rintro n s1 ⟨σ1, H1, I1, w1⟩
  refine wpAny_passesOwn hp (thn (hc pins s1 σ1 H1 _ I1 (turn n σ1 H1 w1)) fun b s2 ⟨H2, I2, q2⟩ => ?_)
  cases b with
  | true =>
    obtain ⟨N, hN, q2⟩ := q2
    rw [if_pos rfl]
    refine wpAny_passesOwn hp (thn (hb pins s2 σ1 H2 _ I2 q2) fun f s3 q3 => ?_)
    cases f with
    | next =>
      obtain ⟨σ3, H3, I3, n3⟩ := q3
      obtain ⟨m', hm, w3⟩ := hN σ3 H3 n3
      exact ⟨m', hm, σ3, H3, I3, w3⟩
    | cont =>
      obtain ⟨σ3, H3, I3, n3⟩ := q3
      obtain ⟨m', hm, w3⟩ := hN σ3 H3 n3
      exact ⟨m', hm, σ3, H3, I3, w3⟩
    | brk => exact q3
    | ret v => exact q3
  | false =>
    rw [if_neg Bool.false_ne_true]
    exact wpAny_execs_nil ⟨σ1, H2, I2, q2⟩
end

/-- at turn i: it yields x (the heap may grow), or it stops -/
structure It where
  go : Nat → Hp → Prop
  yld : Nat → Hp → V → Hp → Prop
  stop : Nat → Hp → Prop
/-- the iterator's own objects may turn: they are not the frame's, not pinned, younger than the entry (or a comprehension's own) -/
def FpOk (X : Cx) (pins : List (Addr × Obj)) (H : Hp) (b : Addr) : Prop :=
  H b = none ∧ b ≠ X.env.locals ∧ b ∉ X.fs ∧ (b ∈ X.ex ∨ X.s_0.heap.objs.size ≤ b) ∧ (∀ x c, X.env.cells.lookup x = some c → c ≠ b) ∧ ∀ p ∈ X.pn ++ pins, p.1 ≠ b
theorem Inv.fpOk {X : Cx} {pins : List (Addr × Obj)} {σ : St} {H H' : Hp} {s : Shared} {b : Addr} (I : Inv X pins σ H s) (hb : s.heap.objs.size ≤ b) (hn : H' b = none) : FpOk X pins H' b := by
  refine ⟨hn, Nat.ne_of_gt (Nat.lt_of_lt_of_le I.lt hb), I.nofs hb, .inr (Nat.le_trans I.sz hb), fun x c e z => ?_, fun p hp z => ?_⟩
  · obtain ⟨v, q⟩ := I.cell x c e
    exact absurd (Nat.lt_of_lt_of_le q.lt (by rw [z]; exact hb)) (Nat.lt_irrefl _)
  · exact absurd (Nat.lt_of_lt_of_le (Heap.lt_size (I.pin p hp).1) (by rw [z]; exact hb)) (Nat.lt_irrefl _)
structure Turn (P : Program) (w : World) (K : PySem.W.Frag) (tg : Expr) (J : It) (fp : List Addr) (it : Addr) (tn : Nat → Heap → Prop) : Prop where
  mem : it ∈ fp
  obj : ∀ i h, tn i h → ∀ b ∈ fp, ∃ o, h.get? b = some o ∧ ∀ v, o.data ≠ .cell v
  keep : ∀ i h h', tn i h → (∀ b ∈ fp, ∀ o, h.get? b = some o → h'.get? b = some o) → tn i h'
  item : ∀ (X : Cx), X.prog = P → X.w = w → X.K = K → X.calm = true → ∀ (i : Nat) (pins : List (Addr × Obj)) (s : Shared) (σ : St) (H : Hp) (E : Value → Shared → Prop), Inv X pins σ H s → (∀ b ∈ fp, FpOk X pins H b) → tn i s.heap → J.go i H →
    wpAny (model P w) X.A (pyNext (.ref it)) (fun r s1 => ∃ u, r = some u ∧
      wpAny (model P w) X.A (letOwnedTupleGo tg (.ref it) u) (fun _ s2 => ∃ x H', Inv X pins σ H' s2 ∧ RelV x u ∧ J.yld i H x H' ∧ tn (i + 1) s2.heap ∧ ∀ b ∈ fp, H' b = none) E s1) E s
  done : ∀ (X : Cx), X.prog = P → X.w = w → X.K = K → X.calm = true → ∀ (i : Nat) (pins : List (Addr × Obj)) (s : Shared) (σ : St) (H : Hp) (E : Value → Shared → Prop), Inv X pins σ H s → (∀ b ∈ fp, FpOk X pins H b) → tn i s.heap → J.stop i H →
    wpAny (model P w) X.A (pyNext (.ref it)) (fun r s1 => r = none ∧ Inv X pins σ H s1) E s
  self : ∀ (A : Around) (i : Nat) (s : Shared) (Q : Value → Shared → Prop) (E : Value → Shared → Prop), tn i s.heap → Q (.ref it) s → wpAny (model P w) A (pyIter (.ref it)) Q E s
abbrev TI := St → Hp → (It → Hp → Prop) → Prop
/-- an iterator has come -/
def PIE (X : Cx) (pins : List (Addr × Obj)) (σ : St) (tg : Expr) (R : It → Hp → Prop) (itv : Value) (s2 : Shared) : Prop :=
  ∃ (it : Addr) (fp : List Addr) (tn : Nat → Heap → Prop) (J : It) (H' : Hp), itv = .ref it ∧ Inv X pins σ H' s2 ∧ Turn X.prog X.w X.K tg J fp it tn ∧ tn 0 s2.heap ∧ (∀ b ∈ fp, FpOk X pins H' b) ∧ R J H'
def PI (X : Cx) (tg iter : Expr) (wi : TI) : Prop :=
  ∀ (pins : List (Addr × Obj)) (s : Shared) (σ : St) (H : Hp) (R : It → Hp → Prop), Inv X pins σ H s → wi σ H R →
    wpAny (model X.prog X.w) X.A (eval iter X.env) (fun v s1 => wpAny (model X.prog X.w) X.A (pyIter v) (PIE X pins σ tg R) X.xe s1) X.xe s

/-- the step ahead of the store is nothing for an iterator that keeps no tuple -/
theorem go_of {M : Model} {A : Around} {E : Value → Shared → Prop} {s : Shared} {tg : Expr} {it : Addr} {u : Value} {o : Obj} {n : String} {vs : Array Value} {Q : Unit → Shared → Prop} (ho : s.heap.get? it = some o) (hc : o.cls = .type n) (hd : o.data = .fields vs)
    (hn : ["enumerate", "zip", "dict_itemiterator", "dict_reverseitemiterator", "odict_iterator", "itertools.zip_longest", "itertools.pairwise"].contains n = false) (hQ : Q () s) : wpAny M A (letOwnedTupleGo tg (.ref it) u) Q E s := by
  unfold letOwnedTupleGo
  cases tg <;> first
    | exact wpAny_pure hQ
    | (cases u <;> first
        | exact wpAny_pure hQ
        | (refine wpAny_bind (wpAny_load ho ?_)
           rw [hc, hd]
           show wpAny M A (if (["enumerate", "zip", "dict_itemiterator", "dict_reverseitemiterator", "odict_iterator", "itertools.zip_longest", "itertools.pairwise"].contains n && vs[0]? == some (rawInt _)) = true then _ else _) Q E s
           rw [if_neg (by intro h; rw [hn, Bool.false_and] at h; cases h)]
           exact wpAny_pure hQ))

/-- the list at a, as it stands at each turn (a loop may append to it) -/
def Itl (K : PySem.W.Frag) (a : Addr) : It :=
  ⟨fun i H => ∃ xs x, SqL K H a xs ∧ xs[i]? = some x, fun i H x H' => H' = H ∧ ∀ xs, SqL K H a xs → xs[i]? = some x, fun i H => ∃ xs, SqL K H a xs ∧ xs.length ≤ i⟩
def Itt (K : PySem.W.Frag) (a : Addr) : It :=
  ⟨fun i H => ∃ xs x, SqT K H a xs ∧ xs[i]? = some x, fun i H x H' => H' = H ∧ ∀ xs, SqT K H a xs → xs[i]? = some x, fun i H => ∃ xs, SqT K H a xs ∧ xs.length ≤ i⟩
/-- lo, lo + 1, .. (n of them) -/
def Itr (lo : Int) (n : Nat) : It := ⟨fun i _ => i < n, fun i H x H' => H' = H ∧ x = .int (lo + i), fun i _ => n ≤ i⟩
theorem turn_list {P : Program} {w : World} {K : PySem.W.Frag} {tg : Expr} (a it : Addr) : Turn P w K tg (Itl K a) [it] it (fun i h => h.IsListIter it a i) where
  mem := by simp
  obj := fun i h st b hb => by
    have e : b = it := by simpa using hb
    subst e
    obtain ⟨o, e, c, d⟩ := st
    exact ⟨o, e, fun v z => by rw [d] at z; cases z⟩
  keep := fun i h h' st k => st.at fun o e => k it (by simp) o e
  item := by
    intro X hP hw hK hc i pins s σ H E I hf st hg
    subst hP hw hK
    obtain ⟨xs, x, hq, hx⟩ := hg
    obtain ⟨its, rv, p, hz⟩ := I.list hq
    obtain ⟨u, hu, ru⟩ := rv.get hx
    obtain ⟨f0, f1, f2, f3, f4, f5⟩ := hf it (by simp)
    refine wpAny_pyNext_list_item st p.isList (x := u) (by simpa using hu) fun h' st' sb => ?_
    have I1 : Inv X pins σ H { s with heap := h' } := I.turned (t' := s.toks) (fun b o hb e => (sb.2 b hb).trans e) f0 f1 f3 f4 f5
    obtain ⟨o, e, c, d⟩ := id st'
    exact ⟨u, rfl, go_of (s := { s with heap := h' }) e c d (by decide) ⟨x, H, I1, ru, ⟨rfl, fun ys hy => by rw [I.list_inj hy hq]; exact hx⟩, st', fun b hb => (hf b hb).1⟩⟩
  done := by
    intro X hP hw hK hc i pins s σ H E I hf st hg
    subst hP hw hK
    obtain ⟨xs, hq, hx⟩ := hg
    obtain ⟨its, rv, p, hz⟩ := I.list hq
    obtain ⟨f0, f1, f2, f3, f4, f5⟩ := hf it (by simp)
    have hl := rv.length
    exact wpAny_pyNext_list_end (I.ok.hd hc) st p.isList (by simp; omega) fun h' eb => ⟨rfl, I.turned (t' := s.toks) (fun b o hb e => eb b o hb e) f0 f1 f3 f4 f5⟩
  self := fun _ _ _ _ _ st h => wpAny_pyIter_listiter st h
theorem turn_tuple {P : Program} {w : World} {K : PySem.W.Frag} {tg : Expr} (a it : Addr) : Turn P w K tg (Itt K a) [it] it (fun i h => h.IsTupleIter it a i) where
  mem := by simp
  obj := fun i h st b hb => by
    have e : b = it := by simpa using hb
    subst e
    obtain ⟨o, e, c, d⟩ := st
    exact ⟨o, e, fun v z => by rw [d] at z; cases z⟩
  keep := fun i h h' st k => st.at fun o e => k it (by simp) o e
  item := by
    intro X hP hw hK hc i pins s σ H E I hf st hg
    subst hP hw hK
    obtain ⟨xs, x, hq, hx⟩ := hg
    obtain ⟨its, rv, p, hz⟩ := I.tuple hq
    obtain ⟨u, hu, ru⟩ := rv.get hx
    obtain ⟨f0, f1, f2, f3, f4, f5⟩ := hf it (by simp)
    refine wpAny_pyNext_tuple_item st (show s.heap.IsTuple a its.toArray from p) (x := u) (by simpa using hu) fun h' st' sb => ?_
    have I1 : Inv X pins σ H { s with heap := h' } := I.turned (t' := s.toks) (fun b o hb e => (sb.2 b hb).trans e) f0 f1 f3 f4 f5
    obtain ⟨o, e, c, d⟩ := id st'
    exact ⟨u, rfl, go_of (s := { s with heap := h' }) e c d (by decide) ⟨x, H, I1, ru, ⟨rfl, fun ys hy => by rw [I.tuple_inj hy hq]; exact hx⟩, st', fun b hb => (hf b hb).1⟩⟩
  done := by
    intro X hP hw hK hc i pins s σ H E I hf st hg
    subst hP hw hK
    obtain ⟨xs, hq, hx⟩ := hg
    obtain ⟨its, rv, p, hz⟩ := I.tuple hq
    obtain ⟨f0, f1, f2, f3, f4, f5⟩ := hf it (by simp)
    have hl := rv.length
    exact wpAny_pyNext_tuple_end (I.ok.hd hc) st (show s.heap.IsTuple a its.toArray from p) (by simp; omega) fun h' eb => ⟨rfl, I.turned (t' := s.toks) (fun b o hb e => eb b o hb e) f0 f1 f3 f4 f5⟩
  self := fun _ _ _ _ _ st h => wpAny_pyIter_tupleiter st h
theorem turn_range {P : Program} {w : World} {K : PySem.W.Frag} {tg : Expr} (it : Addr) (lo : Int) (n : Nat) : Turn P w K tg (Itr lo n) [it] it (fun i h => IsRangeIter h it (lo + (i : Nat) * 1) ((n : Int) - (i : Nat)) 1) where
  mem := by simp
  obj := fun i h st b hb => by
    have e : b = it := by simpa using hb
    subst e
    exact ⟨_, st, fun v z => by
      have z' : Data.fields _ = Data.cell v := z
      cases z'⟩
  keep := fun i h h' st k => k it (by simp) _ st
  item := by
    intro X hP hw hK hc i pins s σ H E I hf st hg
    subst hP hw hK
    obtain ⟨f0, f1, f2, f3, f4, f5⟩ := hf it (by simp)
    have W := Walks.range (prog := X.prog) (w := X.w) (I.ok.hd hc) it lo 1 n
    refine W.item i s _ _ hg st fun v h' tk hv st' kk => ?_
    obtain ⟨t, rfl⟩ := hv
    have I1 : Inv X pins σ H { s with heap := h', toks := tk } := I.turned (fun b o hb e => kk b o (by simpa using hb) e) f0 f1 f3 f4 f5
    refine ⟨_, rfl, go_of (s := { s with heap := h', toks := tk }) (n := "range_iterator") st' rfl rfl (by decide) ⟨.int (lo + i), H, I1, ⟨t, ?_⟩, ⟨rfl, rfl⟩, st', fun b hb => (hf b hb).1⟩⟩
    rw [Int.mul_one]
  done := by
    intro X hP hw hK hc i pins s σ H E I hf st hg
    subst hP hw hK
    obtain ⟨f0, f1, f2, f3, f4, f5⟩ := hf it (by simp)
    exact wpAny_pyNext_range_end (I.ok.hd hc) st (by have : n ≤ i := hg; omega) fun h' eb => ⟨rfl, I.turned (t' := s.toks) (fun b o hb e => eb b o hb e) f0 f1 f3 f4 f5⟩
  self := fun _ _ _ _ _ st h => wpAny_pyIter_rangeiter st h
end L2

namespace L2
open PySem PySem.Spec PyProof.Rows
section
variable {X : Cx} {tg : Expr}
def iList (K : PySem.W.Frag) (tl : TE) : TI := fun σ H R => tl σ H fun x H1 => ∃ a, x = .ref a ∧ (∃ xs, SqL K H1 a xs) ∧ R (Itl K a) H1
def iTup (K : PySem.W.Frag) (tl : TE) : TI := fun σ H R => tl σ H fun x H1 => ∃ a, x = .ref a ∧ (∃ xs, SqT K H1 a xs) ∧ R (Itt K a) H1
theorem pi_list {l : Expr} {tl : TE} (hl : PE X l tl) : PI X tg l (iList X.K tl) := by
  intro pins s σ H R I h
  refine thn (hl pins s σ H _ I h) fun v s1 ⟨x, H1, I1, r1, q1⟩ => ?_
  obtain ⟨a, e, ⟨xs, hq⟩, q⟩ := q1
  subst e
  cases r1
  obtain ⟨its, rv, p, hz⟩ := I1.list hq
  refine wpAny_pyIter_list p.isList ?_
  refine ⟨s1.heap.objs.size, [s1.heap.objs.size], _, _, H1, rfl, I1.kept (t' := s1.toks) fun b o e => Heap.get?_push_of_some _ e, turn_list a _, ⟨_, Heap.get?_push_size _ rfl, rfl, rfl⟩, fun b hb => ?_, q⟩
  have e : b = s1.heap.objs.size := by simpa using hb
  subst e
  exact I1.fpOk (Nat.le_refl _) (I1.hok.fresh (Nat.le_refl _))
theorem pi_tup {l : Expr} {tl : TE} (hl : PE X l tl) : PI X tg l (iTup X.K tl) := by
  intro pins s σ H R I h
  refine thn (hl pins s σ H _ I h) fun v s1 ⟨x, H1, I1, r1, q1⟩ => ?_
  obtain ⟨a, e, ⟨xs, hq⟩, q⟩ := q1
  subst e
  cases r1
  obtain ⟨its, rv, p, hz⟩ := I1.tuple hq
  refine wpAny_pyIter_tuple (show s1.heap.IsTuple a its.toArray from p) ?_
  refine ⟨s1.heap.objs.size, [s1.heap.objs.size], _, _, H1, rfl, I1.kept (t' := s1.toks) fun b o e => Heap.get?_push_of_some _ e, turn_tuple a _, ⟨_, Heap.get?_push_size _ rfl, rfl, rfl⟩, fun b hb => ?_, q⟩
  have e : b = s1.heap.objs.size := by simpa using hb
  subst e
  exact I1.fpOk (Nat.le_refl _) (I1.hok.fresh (Nat.le_refl _))
/-- a range object just made, walked -/
theorem range_it {pins : List (Addr × Obj)} {σ : St} {H : Hp} {s : Shared} {R : It → Hp → Prop} {E : Value → Shared → Prop} {lo hi : Int} {t u v : Tok} {tk : Nat} (I : Inv X pins σ H s) (h1 : -(2 ^ 62) ≤ lo) (h2 : lo < 2 ^ 62) (h3 : -(2 ^ 62) ≤ hi) (h4 : hi < 2 ^ 62)
    (q : R (Itr lo (hi - lo).toNat) H) : wpAny (model X.prog X.w) X.A (pyIter (.ref s.heap.objs.size)) (PIE X pins σ tg R) E { s with heap := s.heap.push { cls := .type "range", data := .fields #[.int lo t, .int hi u, .int 1 v] }, toks := tk } := by
  refine wpAny_pyIter_range (IsRange.new ..) (small_one h1 h2 h3 h4) ?_
  have I1 : Inv X pins σ H { s with heap := s.heap.push { cls := .type "range", data := .fields #[.int lo t, .int hi u, .int 1 v] }, toks := tk } := I.kept fun b o e => Heap.get?_push_of_some _ e
  refine ⟨(s.heap.push { cls := .type "range", data := .fields #[.int lo t, .int hi u, .int 1 v] }).objs.size, [(s.heap.push { cls := .type "range", data := .fields #[.int lo t, .int hi u, .int 1 v] }).objs.size], _, _, H, rfl,
    I1.kept (t' := tk) fun b o e => Heap.get?_push_of_some _ e, turn_range _ lo (hi - lo).toNat, ?_, fun b hb => ?_, q⟩
  · have e1 : lo + ((0 : Nat) : Int) * 1 = lo := by simp
    have e2 : (((hi - lo).toNat : Nat) : Int) - ((0 : Nat) : Int) = Builtin.Range.rangeSize lo hi 1 := by rw [rangeSize_one]; split <;> omega
    show IsRangeIter _ _ (lo + ((0 : Nat) : Int) * 1) ((((hi - lo).toNat : Nat) : Int) - ((0 : Nat) : Int)) 1
    rw [e1, e2]
    exact Heap.get?_push_size _ rfl
  · have e : b = (s.heap.push { cls := .type "range", data := .fields #[.int lo t, .int hi u, .int 1 v] }).objs.size := by simpa using hb
    subst e
    exact I1.fpOk (Nat.le_refl _) (I1.hok.fresh (Nat.le_refl _))
def iRng1 (ta : TA) : TI := fun σ H R => ta σ H fun vs H1 => ∃ j : Int, vs = [.int j] ∧ -(2 ^ 62) ≤ j ∧ j < 2 ^ 62 ∧ R (Itr 0 j.toNat) H1
theorem pi_range1 {a : Expr} {ta : TA} {p pos : Pos} (hg : Gl X "range") (hm : X.mg "range" = none) (ha : PA X [a] ta) (hs : starEach [a] X.env = [(false, eval a X.env)] := by rfl) : PI X tg (.Call (.Name "range" p) [a] [] pos) (iRng1 ta) := by
  intro pins s σ H R I h
  refine Call_ (ld_blt I hg hm boot_range (PyProof.Rows.callWith_type1 (thn (ha pos pins s σ H _ I h) fun us s1 ⟨vs, H1, I1, r1, q1⟩ => ?_) hs rfl))
  obtain ⟨j, e, q1, q2, q⟩ := q1
  subst e
  cases r1 with
  | cons r rr =>
    cases rr
    obtain ⟨t, rfl⟩ := r
    exact call_range_1 (range_it I1 (by omega) (by omega) q1 q2 (by simpa using q))
/-- W: the invariant by the turn and a measure; N: what the body is to reach -/
def tFor (wi : TI) (g : TG) (tb : TS) : TS := fun D σ H => wi σ H fun J H1 => ∃ W : Nat → Nat → St → Hp → Prop, (∃ m, W 0 m σ H1) ∧ ∀ i m σ H, W i m σ H →
  (J.stop i H ∧ D.nx σ H) ∨ (J.go i H ∧ ∃ N : St → Hp → Prop, (∀ σ' H', N σ' H' → ∃ m', m' < m ∧ W (i + 1) m' σ' H') ∧ ∀ x H', J.yld i H x H' → g x σ H' fun σ2 H2 => tb { D with nx := N, ct := N, bk := D.nx } σ2 H2)
/-- the records at fp as they stand -/
def pinsAt (fp : List Addr) (h : Heap) : List (Addr × Obj) := fp.filterMap fun b => (h.get? b).map fun o => (b, o)
theorem mem_pinsAt {fp : List Addr} {h : Heap} {b : Addr} {o : Obj} (hb : b ∈ fp) (e : h.get? b = some o) : (b, o) ∈ pinsAt fp h := List.mem_filterMap.mpr ⟨b, hb, by rw [e]; rfl⟩
theorem of_pinsAt {fp : List Addr} {h : Heap} {p : Addr × Obj} (hp : p ∈ pinsAt fp h) : p.1 ∈ fp ∧ h.get? p.1 = some p.2 := by
  obtain ⟨b, hb, e⟩ := List.mem_filterMap.mp hp
  cases q : h.get? b with
  | none => rw [q] at e; cases e
  | some o =>
    rw [q] at e
    have e' : (b, o) = p := Option.some.inj e
    subst e'
    exact ⟨hb, q⟩
theorem Inv.pinned {pins : List (Addr × Obj)} {σ : St} {H : Hp} {s : Shared} {fp : List Addr} (I : Inv X pins σ H s) (hf : ∀ b ∈ fp, FpOk X pins H b) (ho : ∀ b ∈ fp, ∃ o, s.heap.get? b = some o ∧ ∀ v, o.data ≠ .cell v) : Inv X (pins ++ pinsAt fp s.heap) σ H s :=
  I.pins_of fun p hp => (List.mem_append.mp hp).elim (fun z => I.pin p (List.mem_append_right _ z)) fun z => by
    obtain ⟨hb, e⟩ := of_pinsAt z
    obtain ⟨f0, f1, f2, _⟩ := hf p.1 hb
    obtain ⟨o, e', d⟩ := ho p.1 hb
    rw [e] at e'; cases e'
    exact ⟨e, f0, f1, f2, d⟩
theorem Inv.unpinned {pins pl : List (Addr × Obj)} {σ : St} {H : Hp} {s : Shared} (I : Inv X (pins ++ pl) σ H s) : Inv X pins σ H s := I.pins_of fun p hp => I.pin p (List.mem_append_right _ (List.mem_append_left _ hp))
theorem ps_for {iter : Expr} {body : List Stmt} {wi : TI} {g : TG} {tb : TS} {pos : Pos} (hp : PassesOwn (model X.prog X.w) X.A X.env X.xe) (hc : X.calm = true) (hi : PI X tg iter wi) (hg : PG X tg g) (hb : PSs X body tb)
    (hs : ∀ x, foldedSetIterable iter X.env x = pure x := by intro _; rfl) : PS X (.For tg iter body [] pos) (tFor wi g tb) := by
  intro pins s σ H D I h
  refine wpAny_For (thn (hi pins s σ H _ I h) fun v s1 h1 => thn h1 fun itv s2 h2 => ?_) hs
  obtain ⟨it, fp, tn, J, H2, e, I2, T, st2, f2, W, ⟨m0, w0⟩, turn⟩ := h2
  subst e
  -- what stays true of the iterator's objects through the loop
  have stat : ∀ {H' : Hp}, (∀ b ∈ fp, H' b = none) → ∀ b ∈ fp, FpOk X pins H' b := fun hn b hb => ⟨hn b hb, (f2 b hb).2⟩
  refine codeAny_forLoop_any (fun n s' => ∃ i σ' H', Inv X pins σ' H' s' ∧ tn i s'.heap ∧ (∀ b ∈ fp, H' b = none) ∧ W i n σ' H') ?_ m0 ⟨0, σ, H2, I2, st2, fun b hb => (f2 b hb).1, w0⟩
  rintro n s3 ⟨i, σ3, H3, I3, st3, fr3, w3⟩
  rcases turn i n σ3 H3 w3 with ⟨stop, qn⟩ | ⟨go, N, hN, step⟩
  · refine wpAny_passesOwn hp (thn (T.done X rfl rfl rfl hc i pins s3 σ3 H3 X.xe I3 (stat fr3) st3 stop) fun r s4 ⟨hr, I4⟩ => ?_)
    subst hr
    exact wpAny_execs_nil ⟨σ3, H3, I4, qn⟩
  · refine wpAny_passesOwn hp (thn (T.item X rfl rfl rfl hc i pins s3 σ3 H3 X.xe I3 (stat fr3) st3 go) fun r s4 ⟨u, hr, h4⟩ => ?_)
    subst hr
    refine wpAny_passesOwn hp (thn h4 fun _ s5 ⟨x, H5, I5, r5, y5, st5, fr5⟩ => ?_)
    have I5' := I5.pinned (stat fr5) (T.obj _ _ st5)
    refine wpAny_passesOwn hp (thn (hg _ s5 σ3 H5 x u _ I5' r5 (step x H5 y5)) fun _ s6 ⟨σ6, H6, I6, q6⟩ => ?_)
    refine wpAny_passesOwn hp (thn (hb _ s6 σ6 H6 _ I6 q6) fun f s7 q7 => ?_)
    have again : ∀ {σ7 : St} {H7 : Hp}, Inv X (pins ++ pinsAt fp s5.heap) σ7 H7 s7 → N σ7 H7 → ∃ m, m < n ∧ ∃ i σ' H', Inv X pins σ' H' s7 ∧ tn i s7.heap ∧ (∀ b ∈ fp, H' b = none) ∧ W i m σ' H' := fun {σ7 H7} I7 n7 => by
      obtain ⟨m', hm, w7⟩ := hN σ7 H7 n7
      refine ⟨m', hm, i + 1, σ7, H7, I7.unpinned, T.keep _ _ _ st5 fun b hb o e => (I7.pin (b, o) (List.mem_append_right _ (List.mem_append_right _ (mem_pinsAt hb e)))).1, fun b hb => ?_, w7⟩
      obtain ⟨o, e, d⟩ := T.obj _ _ st5 b hb
      exact (I7.pin (b, o) (List.mem_append_right _ (List.mem_append_right _ (mem_pinsAt hb e)))).2.1
    cases f with
    | next => obtain ⟨σ7, H7, I7, n7⟩ := q7; exact again I7 n7
    | cont => obtain ⟨σ7, H7, I7, n7⟩ := q7; exact again I7 n7
    | brk => obtain ⟨σ7, H7, I7, q7⟩ := q7; exact ⟨σ7, H7, I7.unpinned, q7⟩
    | ret v => obtain ⟨x7, σ7, H7, I7, r7, q7⟩ := q7; exact ⟨x7, σ7, H7, I7.unpinned, r7, q7⟩
end

/-- over a list that the body leaves as it is -/
theorem for_list {K : PySem.W.Frag} {a : Addr} {xs : List V} {g : TG} {tb : TS} {D : Ends} {σ : St} {H : Hp} (Pv : Nat → St → Hp → Prop) (h0 : Pv 0 σ H) (hl : ∀ i σ H, i ≤ xs.length → Pv i σ H → SqL K H a xs)
    (hs : ∀ i x σ H, xs[i]? = some x → Pv i σ H → g x σ H fun σ2 H2 => tb { D with nx := Pv (i + 1), ct := Pv (i + 1), bk := D.nx } σ2 H2) (hd : ∀ σ H, Pv xs.length σ H → D.nx σ H) :
    ∃ W : Nat → Nat → St → Hp → Prop, (∃ m, W 0 m σ H) ∧ ∀ i m σ H, W i m σ H →
      ((Itl K a).stop i H ∧ D.nx σ H) ∨ ((Itl K a).go i H ∧ ∃ N : St → Hp → Prop, (∀ σ' H', N σ' H' → ∃ m', m' < m ∧ W (i + 1) m' σ' H') ∧ ∀ x H', (Itl K a).yld i H x H' → g x σ H' fun σ2 H2 => tb { D with nx := N, ct := N, bk := D.nx } σ2 H2) := by
  refine ⟨fun i m σ H => m = xs.length - i ∧ i ≤ xs.length ∧ Pv i σ H, ⟨xs.length, by simp, Nat.zero_le _, h0⟩, ?_⟩
  rintro i m σ H ⟨rfl, hi, p⟩
  have q := hl i σ H hi p
  by_cases hlt : i < xs.length
  · refine .inr ⟨⟨xs, xs[i], q, by simp [hlt]⟩, Pv (i + 1), fun σ' H' p' => ⟨xs.length - (i + 1), by omega, rfl, hlt, p'⟩, fun x H' y => ?_⟩
    obtain ⟨e, y⟩ := y
    subst e
    exact hs i x σ _ (y xs q) p
  · have e : i = xs.length := by omega
    subst e
    exact .inl ⟨⟨xs, q, Nat.le_refl _⟩, hd σ H p⟩
theorem for_tup {K : PySem.W.Frag} {a : Addr} {xs : List V} {g : TG} {tb : TS} {D : Ends} {σ : St} {H : Hp} (Pv : Nat → St → Hp → Prop) (h0 : Pv 0 σ H) (hl : ∀ i σ H, i ≤ xs.length → Pv i σ H → SqT K H a xs)
    (hs : ∀ i x σ H, xs[i]? = some x → Pv i σ H → g x σ H fun σ2 H2 => tb { D with nx := Pv (i + 1), ct := Pv (i + 1), bk := D.nx } σ2 H2) (hd : ∀ σ H, Pv xs.length σ H → D.nx σ H) :
    ∃ W : Nat → Nat → St → Hp → Prop, (∃ m, W 0 m σ H) ∧ ∀ i m σ H, W i m σ H →
      ((Itt K a).stop i H ∧ D.nx σ H) ∨ ((Itt K a).go i H ∧ ∃ N : St → Hp → Prop, (∀ σ' H', N σ' H' → ∃ m', m' < m ∧ W (i + 1) m' σ' H') ∧ ∀ x H', (Itt K a).yld i H x H' → g x σ H' fun σ2 H2 => tb { D with nx := N, ct := N, bk := D.nx } σ2 H2) := by
  refine ⟨fun i m σ H => m = xs.length - i ∧ i ≤ xs.length ∧ Pv i σ H, ⟨xs.length, by simp, Nat.zero_le _, h0⟩, ?_⟩
  rintro i m σ H ⟨rfl, hi, p⟩
  have q := hl i σ H hi p
  by_cases hlt : i < xs.length
  · refine .inr ⟨⟨xs, xs[i], q, by simp [hlt]⟩, Pv (i + 1), fun σ' H' p' => ⟨xs.length - (i + 1), by omega, rfl, hlt, p'⟩, fun x H' y => ?_⟩
    obtain ⟨e, y⟩ := y
    subst e
    exact hs i x σ _ (y xs q) p
  · have e : i = xs.length := by omega
    subst e
    exact .inl ⟨⟨xs, q, Nat.le_refl _⟩, hd σ H p⟩
theorem for_range {lo : Int} {n : Nat} {g : TG} {tb : TS} {D : Ends} {σ : St} {H : Hp} (Pv : Nat → St → Hp → Prop) (h0 : Pv 0 σ H)
    (hs : ∀ i σ H, i < n → Pv i σ H → g (.int (lo + i)) σ H fun σ2 H2 => tb { D with nx := Pv (i + 1), ct := Pv (i + 1), bk := D.nx } σ2 H2) (hd : ∀ σ H, Pv n σ H → D.nx σ H) :
    ∃ W : Nat → Nat → St → Hp → Prop, (∃ m, W 0 m σ H) ∧ ∀ i m σ H, W i m σ H →
      ((Itr lo n).stop i H ∧ D.nx σ H) ∨ ((Itr lo n).go i H ∧ ∃ N : St → Hp → Prop, (∀ σ' H', N σ' H' → ∃ m', m' < m ∧ W (i + 1) m' σ' H') ∧ ∀ x H', (Itr lo n).yld i H x H' → g x σ H' fun σ2 H2 => tb { D with nx := N, ct := N, bk := D.nx } σ2 H2) := by
  refine ⟨fun i m σ H => m = n - i ∧ i ≤ n ∧ Pv i σ H, ⟨n, by simp, Nat.zero_le _, h0⟩, ?_⟩
  rintro i m σ H ⟨rfl, hi, p⟩
  by_cases hlt : i < n
  · refine .inr ⟨hlt, Pv (i + 1), fun σ' H' p' => ⟨n - (i + 1), by omega, rfl, hlt, p'⟩, fun x H' y => ?_⟩
    obtain ⟨e, y⟩ := y
    subst e y
    exact hs i σ _ hlt p
  · have e : i = n := by omega
    subst e
    exact .inl ⟨Nat.le_refl _, hd σ H p⟩
/-- while, by a word and a measure of the state -/
theorem while_by {c : TT} {tb : TS} {D : Ends} {σ : St} {H : Hp} (Pv : St → Hp → Prop) (μ : St → Hp → Nat) (h0 : Pv σ H)
    (hs : ∀ σ H, Pv σ H → c σ H fun b H1 => if b = true then tb { D with nx := fun σ' H' => Pv σ' H' ∧ μ σ' H' < μ σ H, ct := fun σ' H' => Pv σ' H' ∧ μ σ' H' < μ σ H, bk := D.nx } σ H1 else D.nx σ H1)
    (mono : ∀ σ H Q Q', (∀ b H1, Q b H1 → Q' b H1) → c σ H Q → c σ H Q') : tWhile c tb D σ H := by
  refine ⟨fun m σ H => m = μ σ H ∧ Pv σ H, ⟨_, rfl, h0⟩, ?_⟩
  rintro m σ H ⟨rfl, p⟩
  refine mono σ H _ _ (fun b H1 q => ?_) (hs σ H p)
  cases b with
  | true => exact ⟨_, fun σ' H' ⟨p', l⟩ => ⟨_, l, rfl, p'⟩, q⟩
  | false => exact q
end L2

namespace L2
open PySem PySem.Spec PyProof.Rows

abbrev R2 := V → V → Hp → VK → Prop
/-- a two-place operation on values: f is binaryOp op, inplaceOp op or compareOp op -/
def OpR (X : Cx) (f : Value → Value → Sem Value) (r : R2) : Prop :=
  ∀ (pins : List (Addr × Obj)) (s : Shared) (σ : St) (H : Hp) (x y : V) (v u : Value) (Q : VK), Inv X pins σ H s → RelV x v → RelV y u → r x y H Q →
    wpAny (model X.prog X.w) X.A (f v u) (EP X pins σ Q) X.xe s
/-- a call of a value that is known (a builtin, a type) with values -/
def CallR (X : Cx) (f : Value) (r : List V → Hp → VK → Prop) : Prop :=
  ∀ (pins : List (Addr × Obj)) (s : Shared) (σ : St) (H : Hp) (xs : List V) (us : List Value) (Q : VK), Inv X pins σ H s → Vals xs us → r xs H Q →
    wpAny (model X.prog X.w) X.A (call f us) (EP X pins σ Q) X.xe s
/-- a value's truth -/
def TruR (X : Cx) (r : V → Hp → (Bool → Hp → Prop) → Prop) : Prop :=
  ∀ (pins : List (Addr × Obj)) (s : Shared) (σ : St) (H : Hp) (x : V) (v : Value) (Q : Bool → Hp → Prop), Inv X pins σ H s → RelV x v → r x H Q →
    wpAny (model X.prog X.w) X.A (truthy v) (TP X pins σ Q) X.xe s

def tOp (r : R2) (ta tb : TE) : TE := fun σ H Q => ta σ H fun x H1 => tb σ H1 fun y H2 => r x y H2 Q
/-- ints in, under C, and a value out -/
def rI (C : Int → Int → Prop) (g : Int → Int → V) : R2 := fun x y H Q => ∃ i j, x = .int i ∧ y = .int j ∧ C i j ∧ Q (g i j) H
def rI0 (g : Int → Int → V) : R2 := fun x y H Q => ∃ i j, x = .int i ∧ y = .int j ∧ Q (g i j) H
section
variable {X : Cx} {a b c : Expr} {ta tb tc : TE} {pos : Pos}

theorem binT (ha : PE X a ta) (hb : PE X b tb) {pins : List (Addr × Obj)} {s : Shared} {σ : St} {H : Hp} {R : V → V → Hp → Prop} (I : Inv X pins σ H s)
    (h : ta σ H fun x H1 => tb σ H1 fun y H2 => R x y H2) {Q : Value → Shared → Prop} {f : Value → Value → Sem Value}
    (hf : ∀ v u s2 x y H2, Inv X pins σ H2 s2 → RelV x v → RelV y u → R x y H2 → wpAny (model X.prog X.w) X.A (f v u) Q X.xe s2) :
    wpAny (model X.prog X.w) X.A (eval a X.env) (fun v s₁ => wpAny (model X.prog X.w) X.A (eval b X.env) (fun u s₂ => wpAny (model X.prog X.w) X.A (f v u) Q X.xe s₂) X.xe s₁) X.xe s := by
  refine thn (ha pins s σ H _ I h) fun v s1 ⟨x, H1, I1, r1, q1⟩ => ?_
  refine thn (hb pins s1 σ H1 _ I1 q1) fun u s2 ⟨y, H2, I2, r2, q2⟩ => ?_
  exact hf v u s2 x y H2 I2 r1 r2 q2

theorem pe_op {op : Operator} {r : R2} (ho : OpR X (binaryOp op) r) (ha : PE X a ta) (hb : PE X b tb) : PE X (.BinOp a op b pos) (tOp r ta tb) := by
  intro pins s σ H Q I h
  exact wpAny_BinOp (binT ha hb I h fun v u s2 x y H2 I2 rx ry q => ho pins s2 σ H2 x y v u Q I2 rx ry q)
theorem opI {f : Value → Value → Sem Value} {C : Int → Int → Prop} {g : Int → Int → Int}
    (rule : ∀ (i j : Int) (t u : Tok) (s : Shared) (Q : Value → Shared → Prop) (E : Value → Shared → Prop), C i j → Q (.int (g i j) s.toks) { s with toks := s.toks + 1 } → wpAny (model X.prog X.w) X.A (f (.int i t) (.int j u)) Q E s) :
    OpR X f (rI C fun i j => .int (g i j)) := by
  intro pins s σ H x y v u Q I rx ry h
  obtain ⟨i, j, rfl, rfl, hc, q⟩ := h
  obtain ⟨t, rfl⟩ := rx
  obtain ⟨t', rfl⟩ := ry
  exact rule i j t t' s _ _ hc ⟨.int (g i j), H, I.tok _, ⟨_, rfl⟩, q⟩
theorem opI0 {f : Value → Value → Sem Value} {g : Int → Int → Int}
    (rule : ∀ (i j : Int) (t u : Tok) (s : Shared) (Q : Value → Shared → Prop) (E : Value → Shared → Prop), Q (.int (g i j) s.toks) { s with toks := s.toks + 1 } → wpAny (model X.prog X.w) X.A (f (.int i t) (.int j u)) Q E s) :
    OpR X f (rI0 fun i j => .int (g i j)) := by
  intro pins s σ H x y v u Q I rx ry h
  obtain ⟨i, j, rfl, rfl, q⟩ := h
  obtain ⟨t, rfl⟩ := rx
  obtain ⟨t', rfl⟩ := ry
  exact rule i j t t' s _ _ ⟨.int (g i j), H, I.tok _, ⟨_, rfl⟩, q⟩
theorem opB0 {f : Value → Value → Sem Value} {g : Int → Int → Bool}
    (rule : ∀ (i j : Int) (t u : Tok) (s : Shared) (Q : Value → Shared → Prop) (E : Value → Shared → Prop), Q (.bool (g i j)) s → wpAny (model X.prog X.w) X.A (f (.int i t) (.int j u)) Q E s) :
    OpR X f (rI0 fun i j => .bl (g i j)) := by
  intro pins s σ H x y v u Q I rx ry h
  obtain ⟨i, j, rfl, rfl, q⟩ := h
  obtain ⟨t, rfl⟩ := rx
  obtain ⟨t', rfl⟩ := ry
  exact rule i j t t' s _ _ ⟨.bl (g i j), H, I, rfl, q⟩

def CDivN (i j : Int) : Prop := j ≠ 0 ∧ j.natAbs < 1073741824
def CPow (i j : Int) : Prop := 0 ≤ j ∧ j ≤ 1000000 ∧ i.natAbs < 2 ^ 64
def CMul (i j : Int) : Prop := (-(2 ^ 64) < i ∧ i < 2 ^ 64) ∨ (-(2 ^ 64) < j ∧ j < 2 ^ 64)
theorem CMul.ok {i j : Int} (h : CMul i j) : IntMulOk i j := by
  rcases h with ⟨h1, h2⟩ | ⟨h1, h2⟩
  · exact .of_left (intBits_le_64 h1 h2)
  · exact .of_right (intBits_le_64 h1 h2)
theorem op_add : OpR X (binaryOp .Add) (rI0 fun i j => .int (i + j)) := opI0 fun _ _ _ _ _ _ _ q => add_int q
theorem op_sub : OpR X (binaryOp .Sub) (rI0 fun i j => .int (i - j)) := opI0 fun _ _ _ _ _ _ _ q => sub_int q
theorem op_mul : OpR X (binaryOp .Mult) (rI CMul fun i j => .int (i * j)) := opI fun _ _ _ _ _ _ _ hc q => mul_int q hc.ok
theorem op_fdivN : OpR X (binaryOp .FloorDiv) (rI CDivN fun i j => .int (i.fdiv j)) := opI fun _ _ _ _ _ _ _ hc q => floordiv_int hc.1 q (.inl (PyProof.noPylong_small hc.2))
theorem op_modN : OpR X (binaryOp .Mod) (rI (fun _ j => j ≠ 0) fun i j => .int (i.fmod j)) := opI fun _ _ _ _ _ _ _ hc q => mod_int' hc q
theorem op_pow : OpR X (binaryOp .Pow) (rI CPow fun i j => .int (i ^ j.toNat)) := opI fun _ _ _ _ _ _ _ hc q => pow_int_small hc.1 hc.2.1 hc.2.2 q
end

/-- the scalars that == tells apart as data does -/
def scal : V → V → Bool
  | .non, .non => true | .non, .int _ => true | .int _, .non => true | .non, .bl _ => true | .bl _, .non => true | .non, .str _ => true | .str _, .non => true
  | .int _, .int _ => true | .bl _, .bl _ => true | .str _, .str _ => true | .byt _, .byt _ => true
  | .int _, .str _ => true | .str _, .int _ => true | .bl _, .str _ => true | .str _, .bl _ => true
  | _, _ => false
def rEq : R2 := fun x y H Q => scal x y = true ∧ Q (.bl (decide (x = y))) H
def rNe : R2 := fun x y H Q => scal x y = true ∧ Q (.bl (!decide (x = y))) H

theorem dec_int {i j : Int} : decide (V.int i = V.int j) = (i == j) := by
  rw [Bool.eq_iff_iff]
  simp
theorem dec_bl {i j : Bool} : decide (V.bl i = V.bl j) = (i == j) := by
  rw [Bool.eq_iff_iff]
  simp
theorem dec_str {i j : Str} : decide (V.str i = V.str j) = (i == j) := by
  rw [Bool.eq_iff_iff]
  simp
theorem dec_byt {i j : Array UInt8} : decide (V.byt i = V.byt j) = (i.toList == j.toList) := by
  rw [Bool.eq_iff_iff]
  cases i
  cases j
  simp

section
variable {X : Cx} {a b c : Expr} {ta tb tc : TE} {pos : Pos}
theorem fin_bl {pins : List (Addr × Obj)} {σ : St} {H : Hp} {s : Shared} {Q : VK} {k k' : Bool} (I : Inv X pins σ H s) (q : Q (.bl k) H) (e : k = k') : EP X pins σ Q (.bool k') s := by
  subst e
  exact ⟨.bl k, H, I, rfl, q⟩
theorem op_eq : OpR X (compareOp .Eq) rEq := by
  intro pins s σ H x y v u Q I rx ry h
  obtain ⟨hs, q⟩ := h
  cases x with
  | non =>
    cases rx
    cases y with
    | non => cases ry; exact PySem.EqNone.eq_none_none (fin_bl I q (by simp))
    | bl j => cases ry; exact PySem.EqNone.eq_none_bool (fin_bl I q (by simp))
    | int j => obtain ⟨t', rfl⟩ := ry; exact PySem.EqNone.eq_none_int (fin_bl I q (by simp))
    | str j => obtain ⟨t', rfl⟩ := ry; exact PySem.EqNone.eq_none_str (fin_bl I q (by simp))
    | _ => exact absurd (show false = true from hs) Bool.false_ne_true
  | bl i =>
    cases rx
    cases y with
    | non => cases ry; exact PySem.EqNone.eq_bool_none (fin_bl I q (by simp))
    | bl j => cases ry; exact eq_bool (fin_bl I q dec_bl)
    | str j => obtain ⟨t', rfl⟩ := ry; exact PySem.EqMixed.eq_bool_str (fin_bl I q (by simp))
    | _ => exact absurd (show false = true from hs) Bool.false_ne_true
  | int i =>
    obtain ⟨t, rfl⟩ := rx
    cases y with
    | non => cases ry; exact PySem.EqNone.eq_int_none (fin_bl I q (by simp))
    | int j => obtain ⟨t', rfl⟩ := ry; exact eq_int (fin_bl I q dec_int)
    | str j => obtain ⟨t', rfl⟩ := ry; exact PySem.EqMixed.eq_int_str (fin_bl I q (by simp))
    | _ => exact absurd (show false = true from hs) Bool.false_ne_true
  | str i =>
    obtain ⟨t, rfl⟩ := rx
    cases y with
    | non => cases ry; exact PySem.EqNone.eq_str_none (fin_bl I q (by simp))
    | bl j => cases ry; exact PySem.EqMixed.eq_str_bool (fin_bl I q (by simp))
    | int j => obtain ⟨t', rfl⟩ := ry; exact PySem.EqMixed.eq_str_int (fin_bl I q (by simp))
    | str j => obtain ⟨t', rfl⟩ := ry; exact eq_str (fin_bl I q dec_str)
    | _ => exact absurd (show false = true from hs) Bool.false_ne_true
  | byt i =>
    obtain ⟨t, rfl⟩ := rx
    cases y with
    | byt j => obtain ⟨t', rfl⟩ := ry; exact PySem.W.eq_bytes (fin_bl I q dec_byt)
    | _ => exact absurd (show false = true from hs) Bool.false_ne_true
  | _ => cases y <;> exact absurd (show false = true from hs) Bool.false_ne_true
theorem op_ne : OpR X (compareOp .NotEq) rNe := by
  intro pins s σ H x y v u Q I rx ry h
  obtain ⟨hs, q⟩ := h
  cases x with
  | non =>
    cases rx
    cases y with
    | non => cases ry; exact PySem.EqNone.ne_none_none (fin_bl I q (by simp))
    | bl j => cases ry; exact PySem.EqNone.ne_none_bool (fin_bl I q (by simp))
    | int j => obtain ⟨t', rfl⟩ := ry; exact PySem.EqNone.ne_none_int (fin_bl I q (by simp))
    | str j => obtain ⟨t', rfl⟩ := ry; exact PySem.EqNone.ne_none_str (fin_bl I q (by simp))
    | _ => exact absurd (show false = true from hs) Bool.false_ne_true
  | bl i =>
    cases rx
    cases y with
    | non => cases ry; exact PySem.EqNone.ne_bool_none (fin_bl I q (by simp))
    | bl j => cases ry; exact ne_bool (fin_bl I q (congrArg not dec_bl))
    | str j => obtain ⟨t', rfl⟩ := ry; exact PySem.EqMixed.ne_bool_str (fin_bl I q (by simp))
    | _ => exact absurd (show false = true from hs) Bool.false_ne_true
  | int i =>
    obtain ⟨t, rfl⟩ := rx
    cases y with
    | non => cases ry; exact PySem.EqNone.ne_int_none (fin_bl I q (by simp))
    | int j => obtain ⟨t', rfl⟩ := ry; exact ne_int (fin_bl I q (congrArg not dec_int))
    | str j => obtain ⟨t', rfl⟩ := ry; exact PySem.EqMixed.ne_int_str (fin_bl I q (by simp))
    | _ => exact absurd (show false = true from hs) Bool.false_ne_true
  | str i =>
    obtain ⟨t, rfl⟩ := rx
    cases y with
    | non => cases ry; exact PySem.EqNone.ne_str_none (fin_bl I q (by simp))
    | bl j => cases ry; exact PySem.EqMixed.ne_str_bool (fin_bl I q (by simp))
    | int j => obtain ⟨t', rfl⟩ := ry; exact PySem.EqMixed.ne_str_int (fin_bl I q (by simp))
    | str j => obtain ⟨t', rfl⟩ := ry; exact ne_str (fin_bl I q (congrArg not dec_str))
    | _ => exact absurd (show false = true from hs) Bool.false_ne_true
  | byt i =>
    obtain ⟨t, rfl⟩ := rx
    cases y with
    | byt j => obtain ⟨t', rfl⟩ := ry; exact PySem.W.ne_bytes (fin_bl I q (congrArg not dec_byt))
    | _ => exact absurd (show false = true from hs) Bool.false_ne_true
  | _ => cases y <;> exact absurd (show false = true from hs) Bool.false_ne_true

theorem op_lt : OpR X (compareOp .Lt) (rI0 fun i j => .bl (decide (i < j))) := opB0 fun _ _ _ _ _ _ _ q => lt_int q
theorem op_gt : OpR X (compareOp .Gt) (rI0 fun i j => .bl (decide (j < i))) := opB0 fun _ _ _ _ _ _ _ q => gt_int q
theorem op_ge : OpR X (compareOp .GtE) (rI0 fun i j => .bl (decide (j ≤ i))) := opB0 fun _ _ _ _ _ _ _ q => ge_int q
/-- two rules for one operation: by cases -/
theorem OpR.or {f : Value → Value → Sem Value} {r r' : R2} (h : OpR X f r) (h' : OpR X f r') : OpR X f (fun x y H Q => r x y H Q ∨ r' x y H Q) := by
  intro pins s σ H x y v u Q I rx ry q
  rcases q with q | q
  · exact h pins s σ H x y v u Q I rx ry q
  · exact h' pins s σ H x y v u Q I rx ry q

theorem nomark (b : Expr) {op : CmpOp} (h : op ≠ .In := by decide) (h2 : op ≠ .NotIn := by decide) : behindInMarks op b = false := by
  have e1 : (op == CmpOp.In) = false := by cases op <;> first | rfl | exact absurd rfl h
  have e2 : (op == CmpOp.NotIn) = false := by cases op <;> first | rfl | exact absurd rfl h2
  cases b <;> simp [behindInMarks, e1, e2]
/-- a comparison as a value; hm: nomark b, or (for in, not in) by with_unfolding_all rfl -/
theorem pe_cmpR {op : CmpOp} {r : R2} (ho : OpR X (compareOp op) r) (ha : PE X a ta) (hb : PE X b tb) (hm : behindInMarks op b = false) : PE X (.Compare a [op] [b] pos) (tOp r ta tb) := by
  intro pins s σ H Q I h
  exact wpAny_Compare1 (binT ha hb I h fun v u s2 x y H2 I2 rx ry q => ho pins s2 σ H2 x y v u Q I2 rx ry q) hm
/-- a reading of a value as a test -/
def tTest (t : TE) : TT := fun σ H Q => t σ H fun x H' => ∃ k, x = .bl k ∧ Q k H'
theorem pt_cmpR {op : CmpOp} {r : R2} (ho : OpR X (compareOp op) r) (ha : PE X a ta) (hb : PE X b tb) (hm : behindInMarks op b = false) : PT X (.Compare a [op] [b] pos) (tTest (tOp r ta tb)) := by
  intro pins s σ H Q I h
  refine wpAny_isTrue_Compare1 (thn (ha pins s σ H _ I h) fun v s1 ⟨x, H1, I1, r1, q1⟩ => thn (hb pins s1 σ H1 _ I1 q1) fun u s2 ⟨y, H2, I2, r2, q2⟩ =>
    thn (ho pins s2 σ H2 x y v u _ I2 r1 r2 q2) fun c s3 ⟨z, H3, I3, r3, k, e, q3⟩ => ?_) hm
  subst e
  cases r3
  exact wpAny_truthy_bool ⟨H3, I3, q3⟩
/-- a op1 b op2 c -/
def tChain (r r' : R2) (ta tb tc : TE) : TE := fun σ H Q => ta σ H fun x H1 => tb σ H1 fun y H2 => r x y H2 fun z H3 => ∃ k, z = .bl k ∧
  (if k = true then tc σ H3 fun w' H4 => r' y w' H4 Q else Q (.bl false) H3)
theorem pe_chain {op op' : CmpOp} {r r' : R2} (ho : OpR X (compareOp op) r) (ho' : OpR X (compareOp op') r') (ha : PE X a ta) (hb : PE X b tb) (hc : PE X c tc)
    (hm : lastMarks [op, op'] [b, c] = false := by with_unfolding_all rfl) : PE X (.Compare a [op, op'] [b, c] pos) (tChain r r' ta tb tc) := by
  intro pins s σ H Q I h
  refine Compare_chain (thn (ha pins s σ H _ I h) fun v s1 ⟨x, H1, I1, r1, q1⟩ => chain_link (thn (hb pins s1 σ H1 _ I1 q1) fun u s2 ⟨y, H2, I2, r2, q2⟩ =>
    thn (ho pins s2 σ H2 x y v u _ I2 r1 r2 q2) fun d s3 ⟨z, H3, I3, r3, k, e, q3⟩ => ?_)) hm
  subst e
  cases r3
  refine wpAny_truthy_bool ?_
  cases k with
  | false => exact ite_ff ⟨.bl false, H3, I3, rfl, q3⟩
  | true => exact ite_tt (chain_last (thn (hc pins s3 σ H3 _ I3 q3) fun w' s4 ⟨z', H4, I4, r4, q4⟩ => ho' pins s4 σ H4 y z' u w' Q I4 r2 r4 q4))
theorem pt_chain {op op' : CmpOp} {r r' : R2} (ho : OpR X (compareOp op) r) (ho' : OpR X (compareOp op') r') (ha : PE X a ta) (hb : PE X b tb) (hc : PE X c tc)
    (hm : lastMarks [op, op'] [b, c] = false := by with_unfolding_all rfl) : PT X (.Compare a [op, op'] [b, c] pos) (tTest (tChain r r' ta tb tc)) := by
  intro pins s σ H Q I h
  refine isTrue_chain (thn (ha pins s σ H _ I h) fun v s1 ⟨x, H1, I1, r1, q1⟩ => test_link (thn (hb pins s1 σ H1 _ I1 q1) fun u s2 ⟨y, H2, I2, r2, q2⟩ =>
    thn (ho pins s2 σ H2 x y v u _ I2 r1 r2 q2) fun d s3 ⟨z, H3, I3, r3, k, e, q3⟩ => ?_)) hm
  subst e
  cases r3
  refine wpAny_truthy_bool ?_
  cases k with
  | false =>
    obtain ⟨k', e', q'⟩ := q3
    cases e'
    exact ite_ff ⟨H3, I3, q'⟩
  | true =>
    refine ite_tt (test_last (thn (hc pins s3 σ H3 _ I3 q3) fun w' s4 ⟨z', H4, I4, r4, q4⟩ => thn (ho' pins s4 σ H4 y z' u w' _ I4 r2 r4 q4) fun d' s5 ⟨z2, H5, I5, r5, k2, e2, q5⟩ => ?_))
    subst e2
    cases r5
    exact wpAny_truthy_bool ⟨H5, I5, q5⟩

/-- a value's truth by the abstract heap -/
def TruV (K : PySem.W.Frag) (x : V) (H : Hp) (k : Bool) : Prop :=
  match x with
  | .non => k = false
  | .bl b => k = b
  | .int i => k = (i != 0)
  | .str y => y.length ≤ sizeLine ∧ k = ((y.length : Int) != 0)
  | .byt y => y.size ≤ sizeLine ∧ k = ((y.size : Int) != 0)
  | .ref p => (∃ xs, SqL K H p xs ∧ k = !xs.isEmpty) ∨ (∃ xs, SqT K H p xs ∧ k = !xs.isEmpty) ∨ ∃ kvs, H p = some (.dK kvs) ∧ k = !kvs.isEmpty
  | _ => False
theorem isEmpty_kv {κ : Type} {kvs : List (κ × V)} {vs : List (κ × Value)} (r : KV kvs vs) : (!vs.isEmpty) = !kvs.isEmpty := by
  cases r <;> rfl
theorem isEmpty_of {xs : List V} {its : List Value} (r : Vals xs its) : (!its.toArray.isEmpty) = !xs.isEmpty := by
  cases r <;> simp
theorem line63 : (sizeLine : Nat) < 2 ^ 63 := by rw [sizeLine_eq]; decide
theorem tru_ok : TruR X (fun x H Q => ∃ k, TruV X.K x H k ∧ Q k H) := by
  intro pins s σ H x v Q I rx h
  obtain ⟨k, e, q⟩ := h
  have hl := line63
  have hs : sizeLine = 16777216 := sizeLine_eq
  cases x with
  | non =>
    cases rx
    have e' : k = false := e
    subst e'
    exact truthy_none ⟨H, I, q⟩
  | bl b =>
    cases rx
    have e' : k = b := e
    subst e'
    exact wpAny_truthy_bool ⟨H, I, q⟩
  | int i =>
    obtain ⟨t, rfl⟩ := rx
    have e' : k = (i != 0) := e
    subst e'
    exact PySem.P.truthy_int ⟨H, I, q⟩
  | str y =>
    obtain ⟨t, rfl⟩ := rx
    obtain ⟨hy, e'⟩ : y.length ≤ sizeLine ∧ k = ((y.length : Int) != 0) := e
    subst e'
    exact PySem.P.truthy_str (by omega) ⟨H, I.tok _, q⟩
  | byt y =>
    obtain ⟨t, rfl⟩ := rx
    obtain ⟨hy, e'⟩ : y.size ≤ sizeLine ∧ k = ((y.size : Int) != 0) := e
    subst e'
    exact PySem.W.truthy_bytes (by omega) ⟨H, I.tok _, q⟩
  | ref p =>
    cases rx
    have e' : (∃ xs, SqL X.K H p xs ∧ k = !xs.isEmpty) ∨ (∃ xs, SqT X.K H p xs ∧ k = !xs.isEmpty) ∨ ∃ kvs, H p = some (.dK kvs) ∧ k = !kvs.isEmpty := e
    rcases e' with ⟨xs, hx, e'⟩ | ⟨xs, hx, e'⟩ | ⟨kvs, hx, e'⟩
    · subst e'
      obtain ⟨its, r, pl, hz⟩ := I.list hx
      have hlen := r.length
      exact wpAny_truthy_list pl.isList (by simp only [List.size_toArray]; omega) ⟨H, I.tok _, by rw [isEmpty_of r]; exact q⟩
    · subst e'
      obtain ⟨its, r, pl, hz⟩ := I.tuple hx
      have hlen := r.length
      exact truthy_tuple pl (by simp only [List.size_toArray]; omega) ⟨H, I.tok _, by rw [isEmpty_of r]; exact q⟩
    · subst e'
      obtain ⟨hz, hS, vs, r, m⟩ : kvs.length ≤ sizeLine ∧ (p == sysModules) = false ∧ ∃ vs, KV kvs vs ∧ s.heap.DictOf (mixKind X.prog X.w) p vs := I.hok p _ hx
      have hlen : kvs.length = vs.length := Paired.length r
      exact wpAny_truthy_dict hS m (by omega) ⟨H, I.tok _, by rw [isEmpty_kv r]; exact q⟩
  | _ => exact (show False from e).elim
/-- any expression whose test is its value's truth (a name, a call, a subscript, a field ..: he by fun _ => rfl) -/
theorem pt_truth (ha : PE X a ta) (he : ∀ whole, isTrue a X.env whole = (do let v ← whole; standAt a.pos; holding [v] (truthy v))) :
    PT X a (fun σ H Q => ta σ H fun x H' => ∃ k, TruV X.K x H' k ∧ Q k H') := by
  intro pins s σ H Q I h
  exact isTrue_plain (thn (ha pins s σ H _ I h) fun v s1 ⟨x, H1, I1, r1, q1⟩ => tru_ok pins s1 σ H1 x v Q I1 r1 q1) (he _)

theorem op_add_str : OpR X (binaryOp .Add) (fun x y H Q => ∃ i j, x = .str i ∧ y = .str j ∧ i.length + j.length ≤ sizeLine ∧ Q (.str (i ++ j)) H) := by
  intro pins s σ H x y v u Q I rx ry h
  obtain ⟨i, j, rfl, rfl, hz, q⟩ := h
  obtain ⟨t, rfl⟩ := rx
  obtain ⟨t', rfl⟩ := ry
  exact add_str (fun t' tk => ⟨.str (i ++ j), H, I.tok _, ⟨_, rfl⟩, q⟩) hz
theorem vals1 {x : V} {us : List Value} (r : Vals [x] us) : ∃ u, us = [u] ∧ RelV x u := by
  cases r with
  | cons r1 r2 => cases r2; exact ⟨_, rfl, r1⟩
theorem vals2 {x y : V} {us : List Value} (r : Vals [x, y] us) : ∃ u w', us = [u, w'] ∧ RelV x u ∧ RelV y w' := by
  cases r with
  | cons r1 r2 =>
    cases r2 with
    | cons r3 r4 => cases r4; exact ⟨_, _, rfl, r1, r3⟩
theorem call_abs : CallR X (.builtin "abs") (fun xs H Q => ∃ i, xs = [.int i] ∧ Q (.int (if i < 0 then -i else i)) H) := by
  intro pins s σ H xs us Q I r h
  obtain ⟨i, rfl, q⟩ := h
  obtain ⟨u, rfl, t, rfl⟩ := vals1 r
  exact call_abs_int fun u tk => ⟨.int (if i < 0 then -i else i), H, I.tok _, ⟨_, rfl⟩, q⟩
theorem call_max2 (hc : X.calm = true) : CallR X (.builtin "max") (fun xs H Q => ∃ i j, xs = [.int i, .int j] ∧ Q (.int (if j > i then j else i)) H) := by
  intro pins s σ H xs us Q I r h
  obtain ⟨i, j, rfl, q⟩ := h
  obtain ⟨u, w', rfl, ⟨t, rfl⟩, ⟨t', rfl⟩⟩ := vals2 r
  refine max_two_ints (I.ok.hd hc) fun h' tk k => ⟨_, H, I.kept k, ?_, q⟩
  by_cases hj : j > i
  · rw [if_pos hj, if_pos hj]; exact ⟨_, rfl⟩
  · rw [if_neg hj, if_neg hj]; exact ⟨_, rfl⟩
theorem call_min2 (hc : X.calm = true) : CallR X (.builtin "min") (fun xs H Q => ∃ i j, xs = [.int i, .int j] ∧ Q (.int (if j < i then j else i)) H) := by
  intro pins s σ H xs us Q I r h
  obtain ⟨i, j, rfl, q⟩ := h
  obtain ⟨u, w', rfl, ⟨t, rfl⟩, ⟨t', rfl⟩⟩ := vals2 r
  refine min_two_ints (I.ok.hd hc) fun h' tk k => ⟨_, H, I.kept k, ?_, q⟩
  by_cases hj : j < i
  · rw [if_pos hj, if_pos hj]; exact ⟨_, rfl⟩
  · rw [if_neg hj, if_neg hj]; exact ⟨_, rfl⟩
/-- len of a str, a bytes, a list, a tuple -/
def LenV (K : PySem.W.Frag) (x : V) (H : Hp) (n : Nat) : Prop :=
  match x with
  | .str y => y.length ≤ sizeLine ∧ n = y.length
  | .byt y => y.size ≤ sizeLine ∧ n = y.size
  | .ref p => (∃ xs, SqL K H p xs ∧ n = xs.length) ∨ ∃ xs, SqT K H p xs ∧ n = xs.length
  | _ => False
theorem call_len : CallR X (.builtin "len") (fun xs H Q => ∃ x n, xs = [x] ∧ LenV X.K x H n ∧ Q (.int n) H) := by
  intro pins s σ H xs us Q I r h
  obtain ⟨x, n, rfl, e, q⟩ := h
  obtain ⟨u, rfl, rx⟩ := vals1 r
  have hl := line63
  have hs : sizeLine = 16777216 := sizeLine_eq
  cases x with
  | str y =>
    obtain ⟨t, rfl⟩ := rx
    obtain ⟨hy, e'⟩ : y.length ≤ sizeLine ∧ n = y.length := e
    subst e'
    exact len_str (by omega) ⟨.int _, H, I.tok _, ⟨_, rfl⟩, q⟩
  | byt y =>
    obtain ⟨t, rfl⟩ := rx
    obtain ⟨hy, e'⟩ : y.size ≤ sizeLine ∧ n = y.size := e
    subst e'
    exact PySem.W.len_bytes (by omega) ⟨.int _, H, I.tok _, ⟨_, rfl⟩, q⟩
  | ref p =>
    cases rx
    have e' : (∃ xs, SqL X.K H p xs ∧ n = xs.length) ∨ ∃ xs, SqT X.K H p xs ∧ n = xs.length := e
    rcases e' with ⟨xs, hx, e'⟩ | ⟨xs, hx, e'⟩
    · subst e'
      obtain ⟨its, r', pl, hz⟩ := I.list hx
      have hlen := r'.length
      exact Calls.call_len_list pl.isList (by simp only [List.size_toArray]; omega) ⟨.int xs.length, H, I.tok _, ⟨_, by simp only [List.size_toArray]; rw [hlen]⟩, q⟩
    · subst e'
      obtain ⟨its, r', pl, hz⟩ := I.tuple hx
      have hlen := r'.length
      exact len_tuple pl (by simp only [List.size_toArray]; omega) ⟨.int xs.length, H, I.tok _, ⟨_, by simp only [List.size_toArray]; rw [hlen]⟩, q⟩
  | _ => exact (show False from e).elim
end
end L2

namespace L2
open PySem PySem.Spec PyProof.Rows

structure ObjM (h : Heap) (x dx C : Addr) (mA : Str → Option Value) : Prop where
  obj : h.get? x = some (PySem.W.instObj C dx)
  ns : h.Ns1 dx mA
  ne : dx ≠ x

theorem lookIn_ns {h : Heap} {dx : Addr} {mA : Str → Option Value} (n : h.Ns1 dx mA) : ∃ od, h.get? dx = some od ∧ ∀ name, PySem.W.lookIn name od = some (mA name) := by
  obtain ⟨o, es, ep, ho, hd, hk, _, hm⟩ := n
  refine ⟨o, ho, fun name => ?_⟩
  have e := hm name
  unfold nsFind findBy at e
  rw [← Array.find?_toList] at e
  unfold PySem.W.lookIn
  rw [hd]
  dsimp only
  split
  · rename_i y q
    rw [q] at e
    exact congrArg some e
  · rename_i q
    rw [q] at e
    have a : es.toList.any (·.refKey) = false := by
      rw [List.any_eq_false]
      intro y hy
      obtain ⟨z, t, hkey⟩ := hk y (Array.mem_toList_iff.mp hy)
      simp [DictEntry.refKey, hkey]
    have a' : ¬ es.toList.any (·.refKey) = true := by rw [a]; exact Bool.false_ne_true
    rw [if_neg a']
    exact congrArg some e

theorem ObjM.look {h : Heap} {x dx C : Addr} {mA : Str → Option Value} (I : ObjM h x dx C mA) : ∃ od, PySem.W.InstAt h x (PySem.W.instObj C dx) C (some od) ∧ ∀ name, PySem.W.lookIn name od = some (mA name) :=
  let ⟨od, ho, hl⟩ := lookIn_ns I.ns
  ⟨od, ⟨I.obj, rfl, rfl, ho⟩, hl⟩

section
variable {prog : Program} {w : World} {A : Around} {E : Value → Shared → Prop} {s : Shared} {K : PySem.W.Frag} {x dx C f : Addr} {mA : Str → Option Value} {name : Str} {v : Value}

theorem get_map {expr : Bool} {Q : Value → Shared → Prop} (X : K.In s.heap) (I : ObjM s.heap x dx C mA) (hg : PySem.W.plainGet K C name = true) (hh : PySem.W.hasDictIn K C = true)
    (ha : PySem.W.findIn K (.ref C) name = some none) (hv : mA name = some v) (hv' : PySem.W.handedIn v = true) (h : Q v { s with toks := s.toks + 1 }) :
    wpAny (model prog w) A (getAttr (.ref x) name expr) Q E s := by
  obtain ⟨od, J, hl⟩ := I.look
  exact PySem.W.get_value X J (PySem.W.plainGet_of hg).1 (PySem.W.findObj_own hh ha rfl (by rw [hl, hv])) hv' h

end

theorem RelO.some_of {v : V} {o : Option Value} (r : RelO (some v) o) : ∃ u, o = some u ∧ RelV v u := by
  cases o with
  | none => exact (show False from r).elim
  | some u => exact ⟨u, rfl, r⟩
theorem RelO.none_of {o : Option Value} (r : RelO none o) : o = none := by
  cases o with
  | none => rfl
  | some u => exact (show False from r).elim
section
variable {P : Program} {w : World} {H H' : Hp} {h h' : Heap} {a C dx : Addr} {fs fs' : List (Str × V)}
theorem ins_get (hok : HOk P w H h) (e : H a = some (.ins C dx fs)) : ∃ mA, ObjM h a dx C mA ∧ (∀ f, RelO (fs.lookup f) (mA f)) ∧ PySem.Within mA (fs.map (·.1)) ∧ fs.length ≤ 1000 ∧ H dx = some (.own a) := by
  obtain ⟨d, z, ne, ob, mA, n, r, q⟩ := (show ObjOk P w H h a (.ins C dx fs) from hok a _ e)
  exact ⟨mA, ⟨ob, n, ne⟩, r, q, z, d⟩
end

structure Cls (K : PySem.W.Frag) (C : Addr) : Prop where
  pg : PySem.W.plainGet K C Str.empty = true
  hd : PySem.W.hasDictIn K C = true
  po : PySem.W.plainOver K C = true
  sa : PySem.W.findIn K (.ref C) "__setattr__" = some (some (.builtin "object.__setattr__"))
theorem Cls.get {K : PySem.W.Frag} {C : Addr} (c : Cls K C) (f : Str) : PySem.W.plainGet K C f = true := c.pg
/-- no class of it has the name -/
def NoAttr (K : PySem.W.Frag) (C : Addr) (f : Str) : Prop := PySem.W.findIn K (.ref C) f = some none
/-- a constant of the class -/
structure Con (K : PySem.W.Frag) (C : Addr) (f : Str) (v : V) (u : Value) : Prop where
  at_ : PySem.W.findIn K (.ref C) f = some (some u)
  rel : RelV v u
  get : PySem.W.specialIn K u "__get__" = some none
  cp : PySem.W.copiedNames.contains f = false
/-- a method: a plain def of the class or of one above it -/
structure Meth (K : PySem.W.Frag) (C : Addr) (m : Str) (f : Addr) : Prop where
  at_ : PySem.W.findIn K (.ref C) m = some (some (.ref f))
  fn : PySem.W.isFn K (.ref f) = true
  kp : PySem.W.keepIn K (.ref f) = true

section
variable {X : Cx} {pins : List (Addr × Obj)} {σ : St} {H : Hp} {s : Shared} {a C dx : Addr} {fs : List (Str × V)} {f : Str} {v : V} {A : Around} {E : Value → Shared → Prop}

/-- a new instance, tracked, without attributes -/
theorem Inv.made (I : Inv X pins σ H s) : Inv X pins σ (upd (upd H s.heap.objs.size (.own (s.heap.objs.size + 1))) (s.heap.objs.size + 1) (.ins C s.heap.objs.size []))
    { s with heap := (s.heap.push PySem.W.emptyDict).push (PySem.W.instObj C s.heap.objs.size) } := by
  have e1 : (s.heap.push PySem.W.emptyDict).get? s.heap.objs.size = some PySem.W.emptyDict := Heap.get?_push_size s.heap rfl
  have e2 : ((s.heap.push PySem.W.emptyDict).push (PySem.W.instObj C s.heap.objs.size)).get? (s.heap.objs.size + 1) = some (PySem.W.instObj C s.heap.objs.size) := by
    have := Heap.get?_push_size (s.heap.push PySem.W.emptyDict) (o := PySem.W.instObj C s.heap.objs.size) rfl
    rwa [Heap.size_push] at this
  have e3 : (s.heap.push PySem.W.emptyDict).Ns s.heap.objs.size (fun _ => none) := ⟨PySem.W.emptyDict, #[], _, e1, rfl, (fun e he => absurd he (by simp)), fun _ => rfl⟩
  have I1 := I.laid (a := s.heap.objs.size) (o := .own (s.heap.objs.size + 1)) (h' := s.heap.push PySem.W.emptyDict) (t' := s.toks) (fun b u q => Heap.get?_push_of_some _ q) (Nat.le_refl _) ⟨_, e1⟩
  refine I1.laid (a := s.heap.objs.size + 1) (o := .ins C s.heap.objs.size []) (t' := s.toks) (fun b u q => Heap.get?_push_of_some _ q) (Nat.le_of_eq (Heap.size_push _ _)) ?_
  have ne : s.heap.objs.size ≠ s.heap.objs.size + 1 := Nat.ne_of_lt (Nat.lt_succ_self _)
  refine ⟨by rw [upd_ne ne, upd_same], Nat.zero_le _, ne, e2, fun _ => none, (Heap.Ns1.of_empty e3).at fun o q => Heap.get?_push_of_some _ q, fun _ => True.intro, fun y hy => absurd rfl hy⟩

end

section
variable {X : Cx} {o e value : Expr} {f : Str} {pos pos' tpos : Pos} {ta tv : TE}
end

section
variable {X : Cx} {pins : List (Addr × Obj)} {σ : St} {H : Hp} {s : Shared} {A : Around} {E : Value → Shared → Prop} {Q : Value → Shared → Prop} {c : Value} {b : Bool}
/-- the type of a value, as the fragment's deciders take it; for an instance its class -/
inductive TyOf (K : PySem.W.Frag) (H : Hp) : V → Value → Prop where
  | non : TyOf K H .non (.type "NoneType")
  | bl (x : Bool) : TyOf K H (.bl x) (.type "bool")
  | int (i : Int) : TyOf K H (.int i) (.type "int")
  | str (x : Str) : TyOf K H (.str x) (.type "str")
  | flt (x : UInt64) : TyOf K H (.flt x) (.type "float")
  | lst {a : Addr} {xs : List V} (e : H a = some (.lst xs)) : TyOf K H (.ref a) (.type "list")
  | frz {a : Addr} {o : Obj} {xs : List V} (e : H a = some (.frz o (.lst xs))) : TyOf K H (.ref a) (.type "list")
  | tup {a : Addr} {xs : List V} (e : H a = some (.tup xs)) : TyOf K H (.ref a) (.type "tuple")
  | dK {a : Addr} {kvs : List (Key × V)} (e : H a = some (.dK kvs)) : TyOf K H (.ref a) (.type "dict")
  | dT {a : Addr} {kvs : List (List Key × V)} (e : H a = some (.dT kvs)) : TyOf K H (.ref a) (.type "dict")
  | ins {a C dx : Addr} {fs : List (Str × V)} (e : H a = some (.ins C dx fs)) (cl : Cls K C) (ha : PySem.W.findIn K (.ref C) "__class__" = some (some (.builtin "object.__class__")))
      (hn : PySem.W.specialIn K (.builtin "object.__class__") "__get__" = some (some (.builtin "getset_descriptor.__get__"))) (htk : PySem.W.takesIn K (.builtin "object.__class__") = some true)
      (hm : PySem.W.mroIn K C (.type "object") = some true) : TyOf K H (.ref a) (.ref C)
/-- isinstance(x, c) for one class c, a built-in or an own one: kitOne's answer -/
theorem isinst_ok {x : V} {u t : Value} (I : Inv X pins σ H s) (rx : RelV x u) (ty : TyOf X.K H x t) (e : PySem.W.kitOne X.K t c = some b) (h : ∀ tk, Q (.bool b) { s with toks := tk }) :
    wpAny (model X.prog X.w) A (call (.builtin "isinstance") [u, c]) Q E s := by
  cases ty with
  | non => cases (show u = Value.none from rx); exact PySem.W.kia_one PySem.W.kitx_none I.kIn True.intro e (fun z => nomatch z) h
  | bl y => cases (show u = Value.bool y from rx); exact PySem.W.kia_one PySem.W.kitx_bool I.kIn True.intro e (fun z => nomatch z) h
  | int i => obtain ⟨t, q⟩ := (show ∃ t, u = Value.int i t from rx); cases q; exact PySem.W.kia_one PySem.W.kitx_int I.kIn True.intro e (fun z => nomatch z) h
  | str y => obtain ⟨t, q⟩ := (show ∃ t, u = Value.str y t from rx); cases q; exact PySem.W.kia_one PySem.W.kitx_str I.kIn True.intro e (fun z => nomatch z) h
  | flt y => obtain ⟨t, q⟩ := (show ∃ t, u = Value.float y t from rx); cases q; exact PySem.W.kia_one PySem.W.kitx_float I.kIn True.intro e (fun z => nomatch z) h
  | @lst a xs ea =>
    cases (show u = Value.ref a from rx)
    obtain ⟨_, _, n, _, h1⟩ := (show ObjOk X.prog X.w H s.heap a (.lst xs) from I.hok a _ ea)
    exact PySem.W.kia_one PySem.W.kitx_list I.kIn ⟨_, h1, rfl⟩ e (fun z => nomatch z) h
  | @frz a ob xs ea =>
    cases (show u = Value.ref a from rx)
    obtain ⟨_, _, _, n, _, h1⟩ := (show ObjOk X.prog X.w H s.heap a (.frz ob (.lst xs)) from I.hok a _ ea)
    exact PySem.W.kia_one PySem.W.kitx_list I.kIn ⟨_, h1, rfl⟩ e (fun z => nomatch z) h
  | @tup a xs ea =>
    cases (show u = Value.ref a from rx)
    obtain ⟨_, _, _, p⟩ := (show ObjOk X.prog X.w H s.heap a (.tup xs) from I.hok a _ ea)
    obtain ⟨o, h1, h2, _⟩ := p
    exact PySem.W.kia_one PySem.W.kitx_tuple I.kIn ⟨o, h1, h2⟩ e (fun z => nomatch z) h
  | @dK a kvs ea =>
    cases (show u = Value.ref a from rx)
    obtain ⟨_, _, vs, _, p⟩ := (show ObjOk X.prog X.w H s.heap a (.dK kvs) from I.hok a _ ea)
    obtain ⟨o, es, ep, h1, h2, _⟩ := p
    exact PySem.W.kia_one PySem.W.kitx_dict I.kIn ⟨o, h1, h2.1⟩ e (fun z => nomatch z) h
  | @dT a kvs ea =>
    cases (show u = Value.ref a from rx)
    obtain ⟨_, _, xs, _, o, es, ep, h1, h2, _⟩ := (show ObjOk X.prog X.w H s.heap a (.dT kvs) from I.hok a _ ea)
    exact PySem.W.kia_one PySem.W.kitx_dict I.kIn ⟨o, h1, h2.1⟩ e (fun z => nomatch z) h
  | @ins a C dx fs ea cl ha hn htk hm =>
    cases (show u = Value.ref a from rx)
    obtain ⟨mA, O, _⟩ := ins_get I.hok ea
    obtain ⟨od, J, _⟩ := O.look
    exact PySem.W.kia_one (PySem.W.kitx_own (cl.get _) cl.hd ha hn htk hm) I.kIn J e (fun z => nomatch z) h
end
end L2

namespace L2
open PySem PySem.Spec PyProof.Rows

structure Room (k : Nat) (A : Around) : Prop where
  hd : A.handled = none
  dp : A.depth + 3 * k + 5 < recursionLimit
  un : A.units + 16 * k + 200 < cLine
theorem Room.mono {j k : Nat} {A : Around} (r : Room k A) (h : j ≤ k) : Room j A := ⟨r.hd, by have := r.dp; omega, by have := r.un; omega⟩
theorem Room.deeper {k : Nat} {A : Around} (r : Room (k + 1) A) (env : Env) : Room k (A.deeper env) :=
  ⟨r.hd, by have := r.dp; show A.depth + 1 + 3 * k + 5 < _; omega, by have := r.un; show A.units + 3 + 16 * k + 200 < _; omega⟩
theorem Room.in1 {k : Nat} {A : Around} (r : Room (k + 1) A) : Room k A.in1 :=
  ⟨r.hd, by have := r.dp; show A.depth + 3 * k + 5 < _; omega, by have := r.un; show A.units + 1 + 16 * k + 200 < _; omega⟩
theorem Room.depth {k : Nat} {A : Around} (r : Room k A) : A.depth < recursionLimit := by have := r.dp; omega
theorem Room.units {k : Nat} {A : Around} (r : Room k A) : A.units + 64 < cLine := by have := r.un; omega
def tNil : TA := fun _ H Q => Q [] H
def tCons (ta : TE) (tr : TA) : TA := fun σ H Q => ta σ H fun x H1 => tr σ H1 fun xs H2 => Q (x :: xs) H2
section
variable {X : Cx} {e : Expr} {es : List Expr} {te : TE} {t : TA} {pos : Pos}
theorem pa_nil : PA X [] tNil := fun _ _ _ _ H Q I h => Calls.spliced_nil ⟨[], H, I, .nil, h⟩
theorem pa_cons (ha : PE X e te) (hr : PA X es t) (hs : starEach (e :: es) X.env = (false, eval e X.env) :: starEach es X.env := by rfl) : PA X (e :: es) (tCons te t) := by
  intro pos pins s σ H Q I h
  rw [hs]
  show wpAny _ _ (spliced ((false, eval e X.env) :: backTo pos (starEach es X.env))) _ _ s
  refine Calls.spliced_cons (thn (ha pins s σ H _ I h) fun u s1 ⟨x, H1, I1, r1, q1⟩ => ?_)
  exact thn (hr pos pins s1 σ H1 _ I1 q1) fun us s2 ⟨xs, H2, I2, r2, q2⟩ => ⟨x :: xs, H2, I2, .cons r1 r2, q2⟩

/-- a tuple, a list of written items -/
def tTup (t : TA) : TE := fun σ H Q => t σ H fun xs H1 => xs.length ≤ sizeLine ∧ ∀ p, H1 p = none → Q (.ref p) (upd H1 p (.tup xs))
def tLst (t : TA) : TE := fun σ H Q => t σ H fun xs H1 => xs.length ≤ sizeLine ∧ ∀ p, H1 p = none → Q (.ref p) (upd H1 p (.lst xs))
theorem pe_tup {x1} (h : PA X es t) : PE X (.Tuple es x1 pos) (tTup t) := by
  intro pins s σ H Q I hq
  refine wpAny_Tuple_spliced (thn (h pos pins s σ H _ I hq) fun us s1 ⟨xs, H1, I1, r, z, q⟩ => ⟨by rw [← r.length]; exact z, ?_⟩)
  have hf : H1 s1.heap.objs.size = none := I1.hok.fresh (Nat.le_refl _)
  refine ⟨.ref s1.heap.objs.size, upd H1 s1.heap.objs.size (.tup xs), I1.laid (t' := s1.toks) (fun b u e => Heap.get?_push_of_some _ e) (Nat.le_refl _) ?_, rfl, q _ hf⟩
  exact ⟨z, us, r, ⟨_, Heap.get?_push_size _ rfl, rfl, _, rfl, rfl⟩⟩
theorem pe_lst (h : PA X es t) : PE X (.List es pos) (tLst t) := by
  intro pins s σ H Q I hq
  refine wpAny_List_spliced (thn (h pos pins s σ H _ I hq) fun us s1 ⟨xs, H1, I1, r, z, q⟩ => ⟨by rw [← r.length]; exact z, ?_⟩)
  have hf : H1 s1.heap.objs.size = none := I1.hok.fresh (Nat.le_refl _)
  refine ⟨.ref s1.heap.objs.size, upd H1 s1.heap.objs.size (.lst xs), I1.laid (t' := s1.toks) (fun b u e => Heap.get?_push_of_some _ e) (Nat.le_refl _) ?_, rfl, q _ hf⟩
  exact ⟨z, us, 0, r, Heap.get?_push_size _ rfl⟩
end

/-- a def's promise: the bound arguments in the parameters' order, the heap, the wanted end, the wanted exception -/
abbrev Sp := List V → Hp → VK → XK → Prop
/-- how an exception lies behind a call (file 08 gives it): the callers' frames, abstract heap and state ahead of the call, the wish, the exception, the state -/
abbrev CXT := List Env → Hp → Shared → XK → Value → Shared → Prop

/-- the state at a call -/
structure Env0 (P : Program) (w : World) (K : PySem.W.Frag) (mg : Str → Option Value) (base : Heap) (A : Around) (outer : List Env) (s : Shared) (H : Hp) : Prop where
  frames : A.frames = some outer
  mod : Mod K mg base
  bs : ∀ b o, base.get? b = some o → s.heap.get? b = some o ∧ H b = none
  bsz : base.objs.size ≤ s.heap.objs.size
  funs : s.heap.FunFrames base outer
  frf : ∀ b ∈ frs outer, H b = none
  hok : HOk P w H s.heap
  bare : AllBare s.gens
/-- a call's end -/
def CE (outer : List Env) (P : Program) (w : World) (H : Hp) (s : Shared) (Q : VK) (u : Value) (s' : Shared) : Prop :=
  ∃ v H', s'.os = s.os ∧ AllBare s'.gens ∧ Un (frs outer) [] H H' s.heap s'.heap ∧ HOk P w H' s'.heap ∧ RelV v u ∧ Q v H'
def CR (CX : CXT) (outer : List Env) (P : Program) (w : World) (H : Hp) (s : Shared) (Q : VK) (E : XK) (r : Result) (s' : Shared) : Prop :=
  match r with
  | .ok (.ret u) => CE outer P w H s Q u s'
  | .ok _ => False
  | .error e => CX outer H s E e s'
structure FnOk (P : Program) (w : World) (K : PySem.W.Frag) (mg : Str → Option Value) (base : Heap) (CX : CXT) (k : Nat) (f : Addr) (fd : FuncData) (ps : List Str) (sp : Sp) : Prop where
  len : ∀ vs H Q E, sp vs H Q E → vs.length = ps.length
  run : ∀ (A : Around) (outer : List Env) (s : Shared) (H : Hp) (args : Args) (us : List Value) (vs : List V) (Q : VK) (E : XK), Room k A → Env0 P w K mg base A outer s H → BindsTo s fd args (ps.zip us) → Vals vs us → sp vs H Q E →
    codeAny (model P w) A (.call (.ref f) args) (CR CX outer P w H s Q E) s
theorem FnOk.mono {P : Program} {w : World} {K : PySem.W.Frag} {mg : Str → Option Value} {base : Heap} {CX : CXT} {j k : Nat} {f : Addr} {fd : FuncData} {ps : List Str} {sp : Sp} (F : FnOk P w K mg base CX j f fd ps sp) (h : j ≤ k) :
    FnOk P w K mg base CX k f fd ps sp := ⟨F.len, fun A outer s H args us vs Q E hr => F.run A outer s H args us vs Q E (hr.mono h)⟩
/-- a weaker promise -/
theorem FnOk.imp {P : Program} {w : World} {K : PySem.W.Frag} {mg : Str → Option Value} {base : Heap} {CX : CXT} {k : Nat} {f : Addr} {fd : FuncData} {ps : List Str} {sp sp' : Sp} (F : FnOk P w K mg base CX k f fd ps sp)
    (h : ∀ vs H Q E, sp' vs H Q E → sp vs H Q E) : FnOk P w K mg base CX k f fd ps sp' :=
  ⟨fun vs H Q E q => F.len vs H Q E (h _ _ _ _ q), fun A outer s H args us vs Q E hr he hb hv hs => F.run A outer s H args us vs Q E hr he hb hv (h _ _ _ _ hs)⟩

theorem Env0.in1 {P : Program} {w : World} {K : PySem.W.Frag} {mg : Str → Option Value} {base : Heap} {A : Around} {outer : List Env} {s : Shared} {H : Hp} (e : Env0 P w K mg base A outer s H) :
    Env0 P w K mg base A.in1 outer s H := ⟨e.frames, e.mod, e.bs, e.bsz, e.funs, e.frf, e.hok, e.bare⟩

section
variable {X : Cx} {pins : List (Addr × Obj)} {σ : St} {H : Hp} {s s' : Shared}
/-- from a body: what a callee wants -/
theorem Inv.env0 (I : Inv X pins σ H s) : Env0 X.prog X.w X.K X.mg X.base X.A X.stack s H :=
  ⟨I.ok.frames, I.ok.mod, I.bs, Nat.le_trans I.ok.bsz I.sz, I.stack, I.stkFree, I.hok, I.bare⟩
/-- behind a call -/
theorem Inv.after {Q : VK} {u : Value} (I : Inv X pins σ H s) (h : CE X.stack X.prog X.w H s Q u s') : EP X pins σ Q u s' := by
  obtain ⟨v, H', os, bare, un, hok, r, q⟩ := h
  obtain ⟨hh, g, d, t, os'⟩ := s'
  obtain rfl : os' = s.os := os
  exact ⟨v, H', I.call (h' := hh) (g' := g) (d' := d) (t' := t) (ch := []) un hok bare (fun b z => absurd z (by simp)), r, q⟩
end

/-- f(..): the written arguments, then the defaults dvs; E: what is wanted of an exception -/
def tCall (sp : Sp) (dvs : List V) (E : XK) (t : TA) : TE := fun σ H Q => t σ H fun vs H1 => sp (vs ++ dvs) H1 Q E
/-- how the parameters are bound: us the positional arguments, kw the keywords' values by name, ds the defaults that fill up -/
def Binds (K : PySem.W.Frag) (fd : FuncData) (ps : List Str) (ds : List Value) : Prop :=
  ∀ (s : Shared) (us : List Value), K.In s.heap → (us ++ ds).length = ps.length → BindsTo s fd ⟨us, []⟩ (ps.zip (us ++ ds))
/-- every parameter is given -/
theorem Binds.all {K : PySem.W.Frag} {fd : FuncData} {ps : List Str} (h : ∀ us : List Value, us.length = ps.length → bindArgs fd ⟨us, []⟩ = pure (ps.zip us)) : Binds K fd ps [] := fun s us _ hl => by
  rw [List.append_nil] at hl ⊢
  exact .of_eq (h us hl)

/-- an exception of a callee reaches what this body wants of exceptions -/
def Passes (CX : CXT) (X : Cx) (E : XK) : Prop := ∀ (pins : List (Addr × Obj)) (σ : St) (H : Hp) (s : Shared) (e : Value) (s' : Shared), Inv X pins σ H s → CX X.stack H s E e s' → X.xe e s'

section
variable {X : Cx} {CX : CXT} {k : Nat} {f C : Addr} {fd : FuncData} {ps : List Str} {sp : Sp} {dvs : List V} {ds : List Value} {E : XK} {x m : Str} {p pos apos : Pos} {e o : Expr} {es : List Expr} {ta : TE} {t : TA}

/-- the callee runs -/
theorem run_fn {pins : List (Addr × Obj)} {σ : St} {H : Hp} {s : Shared} {Q : VK} {us : List Value} {vs : List V} (F : FnOk X.prog X.w X.K X.mg X.base CX k f fd ps sp) (hr : Room k X.A) (hb : Binds X.K fd ps ds) (hd : Vals dvs ds) (hx : Passes CX X E)
    (I : Inv X pins σ H s) (r : Vals vs us) (h : sp (vs ++ dvs) H Q E) : wpAny (model X.prog X.w) X.A (call (.ref f) us) (EP X pins σ Q) X.xe s := by
  have r2 : Vals (vs ++ dvs) (us ++ ds) := r.append hd
  have hl : (us ++ ds).length = ps.length := by rw [← r2.length]; exact F.len _ _ _ _ h
  refine wpAny_call (codeAny_mono (F.run X.A X.stack s H ⟨us, []⟩ (us ++ ds) (vs ++ dvs) Q E hr I.env0 (hb s us I.kIn hl) r2 h) fun r s' hq => ?_)
  cases r with
  | error e => exact hx pins σ H s e s' I hq
  | ok fl =>
    cases fl with
    | ret u => exact I.after hq
    | next => exact False.elim hq
    | brk => exact False.elim hq
    | cont => exact False.elim hq

theorem pe_call (F : FnOk X.prog X.w X.K X.mg X.base CX k f fd ps sp) (hr : Room k X.A) (hg : Gl X x) (hm : X.mg x = some (.ref f)) (hk : PySem.W.keepIn X.K (.ref f) = true) (hb : Binds X.K fd ps ds) (hd : Vals dvs ds) (hx : Passes CX X E)
    (ha : PA X (e :: es) t) (hdb : (x == ("__debug__" : Str)) = false := by decide) (he : starEach (e :: es) X.env = (false, eval e X.env) :: starEach es X.env := by rfl) (hpl : (backTo pos (starEach es X.env)).any (·.1) = false := by rfl) :
    PE X (.Call (.Name x p) (e :: es) [] pos) (tCall sp dvs E t) := by
  intro pins s σ H Q I h
  refine wpAny_Call_Name_kw (ld_glob I hg hm ?_ hdb)
  refine PySem.W.callWith_K (h₀ := X.base) I.ok.mod.kin hk (thn (ha pos pins s σ H _ I h) fun us s1 ⟨vs, H1, I1, r, q⟩ => ⟨I1.kIn, ?_⟩) he hpl
  exact run_fn F hr hb hd hx I1 r q
/-- what a class must have to be made -/
structure Mk (K : PySem.W.Frag) (C f : Addr) : Prop where
  makes : PySem.W.makesIn K C = true
  init : PySem.W.findIn K (.ref C) "__init__" = some (some (.ref f))
  fn : PySem.W.isFn K (.ref f) = true
  kp : PySem.W.keepIn K (.ref C) = true

end

section
variable {X : Cx} {CX : CXT} {k : Nat} {f C : Addr} {fd : FuncData} {ps ks : List Str} {sp : Sp} {E : XK} {x m : Str} {p pos apos kpos : Pos} {e o : Expr} {es : List Expr} {kws : List Keyword} {te ta : TE} {t tk : TA} {nm : Option Str}
/-- how a call with keywords binds: g puts the positional values us and the keywords' values ws (names ks) in the parameters' order, defaults among them -/
structure KBinds (K : PySem.W.Frag) (fd : FuncData) (ps ks : List Str) (g : List Value → List Value → List Value) (gV : List V → List V → List V) : Prop where
  to : ∀ (s : Shared) (us ws : List Value), K.In s.heap → (g us ws).length = ps.length → BindsTo s fd ⟨us, ks.zip ws⟩ (ps.zip (g us ws))
  rel : ∀ {vs : List V} {us : List Value} {zs : List V} {ws : List Value}, Vals vs us → Vals zs ws → Vals (gV vs zs) (g us ws)
variable {g : List Value → List Value → List Value} {gV : List V → List V → List V}
end

/-- names: the parameters first -/
structure FnScope (N P : List Str) (sc : Scope) : Prop where
  kind : sc.kind = .function
  co : sc.isCoroutine = false
  gen : sc.isGenerator = false
  nd : N.Nodup
  pre : N.take P.length = P
  par : ∀ x ∈ P, sc.names.lookup x = some .local ∨ sc.names.lookup x = some .cell
  nofree : ∀ y ∈ sc.names, y.2 ≠ .free

theorem bindL_out {kindOf : Str → Option NameKind} {x : Str} : ∀ {binds : List (Str × Value)} {m : Str → Option Value}, (∀ v, (x, v) ∉ binds) → bindL kindOf binds m x = m x
  | [], _, _ => rfl
  | (n, v) :: r, m, h => by
    unfold bindL
    rw [bindL_out fun w hw => h w (List.mem_cons_of_mem _ hw)]
    split
    · have : x ≠ n := by rintro rfl; exact h v List.mem_cons_self
      simp [this]
    · rfl
theorem bindC_out {kindOf : Str → Option NameKind} {x : Str} : ∀ {binds : List (Str × Value)} {m : Str → Option Value}, (∀ v, (x, v) ∉ binds) → bindC kindOf binds m x = m x
  | [], _, _ => rfl
  | (n, v) :: r, m, h => by
    unfold bindC
    rw [bindC_out fun w hw => h w (List.mem_cons_of_mem _ hw)]
    split
    · rfl
    · have : x ≠ n := by rintro rfl; exact h v List.mem_cons_self
      simp [this]
theorem bindL_get {kindOf : Str → Option NameKind} {x : Str} {v : Value} : ∀ {P : List Str} {vs : List Value} {i : Nat} {m : Str → Option Value}, P.Nodup → P[i]? = some x → vs[i]? = some v → kindOf x = some .local →
    bindL kindOf (P.zip vs) m x = some v
  | [], _, _, _, _, h, _, _ => by simp at h
  | _ :: _, [], _, _, _, _, h, _ => by simp at h
  | p :: P, w :: vs, 0, m, nd, h1, h2, hk => by
    simp at h1 h2; subst h1; subst h2
    show bindL kindOf ((p, w) :: P.zip vs) m p = _
    unfold bindL
    rw [bindL_out fun v hv => (List.nodup_cons.mp nd).1 (List.of_mem_zip hv).1, if_pos hk]
    simp
  | p :: P, w :: vs, i + 1, m, nd, h1, h2, hk => by
    show bindL kindOf ((p, w) :: P.zip vs) m x = _
    unfold bindL
    exact bindL_get (i := i) (List.nodup_cons.mp nd).2 (by simpa using h1) (by simpa using h2) hk
theorem bindC_get {kindOf : Str → Option NameKind} {x : Str} {v : Value} : ∀ {P : List Str} {vs : List Value} {i : Nat} {m : Str → Option Value}, P.Nodup → P[i]? = some x → vs[i]? = some v → kindOf x ≠ some .local →
    bindC kindOf (P.zip vs) m x = some v
  | [], _, _, _, _, h, _, _ => by simp at h
  | _ :: _, [], _, _, _, _, h, _ => by simp at h
  | p :: P, w :: vs, 0, m, nd, h1, h2, hk => by
    simp at h1 h2; subst h1; subst h2
    show bindC kindOf ((p, w) :: P.zip vs) m p = _
    unfold bindC
    rw [bindC_out fun v hv => (List.nodup_cons.mp nd).1 (List.of_mem_zip hv).1, if_neg hk]
    simp
  | p :: P, w :: vs, i + 1, m, nd, h1, h2, hk => by
    show bindC kindOf ((p, w) :: P.zip vs) m x = _
    unfold bindC
    exact bindC_get (i := i) (List.nodup_cons.mp nd).2 (by simpa using h1) (by simpa using h2) hk

/-- the names' values at the entry -/
def start (N : List Str) (vs : List V) : St := vs.map some ++ List.replicate (N.length - vs.length) none

/-- the context of a def's body, at its entry; an exception leaves the frame, then lies as CX says -/
def cxOf (CX : CXT) (P : Program) (w : World) (K : PySem.W.Frag) (mg : Str → Option Value) (base : Heap) (N : List Str) (qual : Str) (scope : Scope) (f : Addr) (cd : Value) (A : Around) (outer : List Env) (s : Shared) (H : Hp) (E : XK) : Cx where
  prog := P
  w := w
  K := K
  mg := mg
  base := base
  A := A.deeper (envOfC qual scope s.heap.objs.size f cd)
  N := N
  s_0 := s
  H_0 := H
  env := envOfC qual scope s.heap.objs.size f cd
  outer := outer
  stack := envOfC qual scope s.heap.objs.size f cd :: outer
  ex := []
  calm := true
  fn := fun _ => true
  pn := []
  xe := fun e s' => wpAny (model P w) (A.deeper (envOfC qual scope s.heap.objs.size f cd)) (leaving (envOfC qual scope s.heap.objs.size f cd) e) (fun _ s'' => CX outer H s E e s'') (fun e' s'' => CX outer H s E e' s'') s'

theorem cell_has {sc : Scope} {n : Nat} {x : Str} (h : sc.names.lookup x = some .cell) : ∃ c, (cellsFrom n sc.names []).lookup x = some c := by
  have q := PySem.W.cellsFrom_some sc.names n [] (.inl h)
  exact Option.isSome_iff_exists.mp q

theorem inv_start {CX : CXT} {P : Program} {w : World} {K : PySem.W.Frag} {mg : Str → Option Value} {base : Heap} {N ps : List Str} {qual : Str} {scope : Scope} {f : Addr} {cd : Value} {A : Around} {outer : List Env} {s s1 : Shared} {H : Hp} {E : XK} {us : List Value} {vs : List V}
    (S : FnScope N ps scope) (hd : A.handled = none) (e0 : Env0 P w K mg base A outer s H) (hl : vs.length = ps.length) (r : Vals vs us)
    (x : InCallC s s.heap.objs.size (bindL (envOfC qual scope s.heap.objs.size f cd).kindOf (ps.zip us) fun _ => none) (cellsFrom (s.heap.objs.size + 1) scope.names []) (bindC (envOfC qual scope s.heap.objs.size f cd).kindOf (ps.zip us) fun _ => none) s1) :
    Inv (cxOf CX P w K mg base N qual scope f cd A outer s H E) [] (start N vs) H s1 := by
  have hpl : ps.length ≤ N.length := by have := congrArg List.length S.pre; rw [List.length_take] at this; omega
  obtain ⟨h1, tk, rfl, hk⟩ := x.done
  have noA : ∀ b : Addr, b ∉ (cxOf CX P w K mg base N qual scope f cd A outer s H E).ex := fun b z => absurd (show b ∈ ([] : List Addr) from z) (by simp)
  refine ⟨⟨e0.mod, S.kind, rfl, rfl, Nat.le_refl _, fun y z c h1 h2 => ?_, fun y hy => ?_, fun y c _ h => ?_, fun _ => hd, Around.frames_deeper e0.frames, .inr ⟨rfl, rfl⟩, fun b z => absurd z (noA b), e0.bs, e0.bsz, fun b _ _ => noA b, fun b z => absurd z (noA b), e0.funs, e0.frf⟩,
    rfl, e0.bare, Un.kept hk, ⟨_, x.toInCall.ns, fun i y v h1 h2 h3 => ?_⟩, fun y c h => ⟨_, x.cell y c h⟩, e0.hok.fresh (Nat.le_refl _), fun y c h => ?_, fun p hp => absurd (show p ∈ ([] : List (Addr × Obj)) from hp) (by simp), e0.hok.kept hk, ?_⟩
  · exact name_of_addr x.apart (PySem.mem_of_lookup h1) (PySem.mem_of_lookup h2)
  · have hy : scope.names.lookup y = some .cell ∨ scope.names.lookup y = some .free := hy
    rcases hy with hy | hy
    · exact cell_has hy
    · exact absurd rfl (S.nofree _ (PySem.mem_of_lookup hy))
  · exact Nat.le_of_lt (x.above y c (PySem.mem_of_lookup h))
  · have hi : i < vs.length := by
      unfold start at h2
      by_cases hi : i < vs.length
      · exact hi
      · rw [List.getElem?_append_right (by simpa using hi)] at h2
        rw [List.getElem?_replicate] at h2
        split at h2 <;> cases h2
    have ha : vs[i]? = some v := by
      unfold start at h2
      rw [List.getElem?_append_left (by simpa using hi), List.getElem?_map] at h2
      cases e : vs[i]? with
      | none => rw [e] at h2; cases h2
      | some a => rw [e] at h2; cases h2; rfl
    obtain ⟨u, hu, rv⟩ := r.get ha
    have hp : ps[i]? = some y := by
      rw [← S.pre, List.getElem?_take_of_lt (by omega)]; exact h1
    have ndP : ps.Nodup := by rw [← S.pre]; exact S.nd.sublist (List.take_sublist _ _)
    refine ⟨u, rv, ?_⟩
    rcases S.par y (List.mem_of_getElem? hp) with k | k
    · exact .inl ⟨k, bindL_get ndP hp hu k⟩
    · obtain ⟨c, e⟩ := cell_has (n := s.heap.objs.size + 1) k
      refine .inr ⟨.inl k, c, e, ?_⟩
      have q := x.cell y c e
      rw [bindC_get ndP hp hu (by show scope.names.lookup y ≠ _; rw [k]; decide)] at q
      exact q
  · exact e0.hok.fresh (Nat.le_of_lt (x.above y c (PySem.mem_of_lookup h)))
  · unfold start
    show _ = N.length
    rw [List.length_append, List.length_map, List.length_replicate]
    omega

/-- THE RULE: a def (or a method) of the text, by its body. The body's reading t is chosen for each entry; it is run at the parameters' values -/
theorem fn_of {CX : CXT} {P : Program} {w : World} {K : PySem.W.Frag} {mg : Str → Option Value} {base : Heap} {k : Nat} {f : Addr} {name qual : Str} {params : Arguments} {body : List Stmt} {scope : Scope} {dV kV doc pm cdv ct oc : Value} {an od : Option Addr}
    {osl : Array (Option Value)} {N ps : List Str} {sp : Sp} (lk : K.lookup f = some ⟨oc, od, .func (PySem.W.fnOf name qual params body scope dV kV doc pm an cdv ct), osl⟩) (hcd : PySem.W.codeIn K cdv qual = true) (S : FnScope N ps scope)
    (len : ∀ vs H Q E, sp vs H Q E → vs.length = ps.length)
    (hbody : ∀ (A : Around) (outer : List Env) (s : Shared) (H : Hp) (vs : List V) (Q : VK) (E : XK), Room k (A.deeper (envOfC qual scope s.heap.objs.size f cdv)) → sp vs H Q E →
      ∃ t, PSs (cxOf CX P w K mg base N qual scope f cdv A outer s H E) body t ∧ t { nx := fun _ H' => Q .non H', rt := Q } (start N vs) H) :
    FnOk P w K mg base CX (k + 1) f (PySem.W.fnOf name qual params body scope dV kV doc pm an cdv ct) ps sp := by
  refine ⟨len, fun A outer s H args us vs Q E hr e0 hb r hsp => ?_⟩
  have hl := len _ _ _ _ hsp
  have KX : K.In s.heap := e0.mod.kin.keeps fun b o e => (e0.bs b o e).1
  have lim : s.heap.NoLimit := e0.mod.nolimit.keeps fun b o e => (e0.bs b o e).1
  have hkind : ∀ y ∈ ps.zip us, scope.names.lookup y.1 = some .local ∨ (scope.names.lookup y.1 = some .cell ∧ ((cellsFrom (s.heap.objs.size + 1) scope.names []).lookup y.1).isSome = true) := fun ⟨n, v⟩ hy => by
    rcases S.par n (List.of_mem_zip hy).1 with q | q
    · exact .inl q
    · exact .inr ⟨q, PySem.W.cellsFrom_some _ _ _ (.inl q)⟩
  refine codeAny_call_function hr.depth (KX _ _ lk) rfl S.co S.gen rfl (PySem.W.codeRec_of KX hcd) (hb _ _ _ _ ?_)
  refine wpAny_newFunctionEnv_cells S.kind hkind fun env he s1 x => ?_
  subst he
  refine ⟨lim.keeps x.toInCall.keep, codeAny_func ?_⟩
  obtain ⟨t, ht, hq⟩ := hbody A outer s H vs Q E (hr.deeper _) hsp
  have I : Inv (cxOf CX P w K mg base N qual scope f cdv A outer s H E) [] (start N vs) H s1 := inv_start S hr.hd e0 hl r x
  refine wpAny_mono (ht [] s1 (start N vs) H _ I hq) (fun fl s' hs => ?_) fun e s' hs => hs
  have fin : ∀ {σ' : St} {H' : Hp} {v : V} {u : Value}, Inv (cxOf CX P w K mg base N qual scope f cdv A outer s H E) [] σ' H' s' → RelV v u → Q v H' → CE outer P w H s Q u s' :=
    fun {σ' H' v u} J rv q => ⟨v, H', J.os, J.bare, J.base, J.hok, rv, q⟩
  cases fl with
  | ret u =>
    obtain ⟨v, σ', H', J, rv, q⟩ := hs
    exact fin J rv q
  | next =>
    obtain ⟨σ', H', J, q⟩ := hs
    exact fin (v := V.non) (u := Value.none) J rfl q
  | brk =>
    obtain ⟨_, _, _, q⟩ := hs
    exact False.elim q
  | cont =>
    obtain ⟨_, _, _, q⟩ := hs
    exact False.elim q
end L2

namespace L2
open PySem PySem.Spec PyProof.Rows
section
variable {X : Cx} {x : Str} {p pos : Pos} {e : Expr} {es : List Expr} {t : TA} {id T : String} {r : List V → Hp → VK → Prop}

def tCB (r : List V → Hp → VK → Prop) (t : TA) : TE := fun σ H Q => t σ H fun vs H1 => r vs H1 Q
/-- f(e, ..), f a built-in function -/
theorem pe_callB (hc : CallR X (.builtin id) r) (hg : Gl X x) (hm : X.mg x = none) (hv : bootBuiltins x = some (.builtin id)) (ha : PA X (e :: es) t) (hn : x ≠ "__name__" := by decide) (hdb : (x == ("__debug__" : Str)) = false := by decide)
    (he : starEach (e :: es) X.env = (false, eval e X.env) :: starEach es X.env := by rfl) (hpl : (backTo pos (starEach es X.env)).any (·.1) = false := by rfl) : PE X (.Call (.Name x p) (e :: es) [] pos) (tCB r t) := by
  intro pins s σ H Q I h
  refine wpAny_Call_Name_kw (ld_blt I hg hm hv ?_ hn hdb)
  exact PyProof.Rows.callWith_builtin1 (thn (ha pos pins s σ H _ I h) fun us s1 ⟨vs, H1, I1, r1, q1⟩ => hc pins s1 σ H1 vs us Q I1 r1 q1) he hpl
/-- T(e, ..), T a built-in type -/
theorem pe_callTy (hc : CallR X (.type T) r) (hg : Gl X x) (hm : X.mg x = none) (hv : bootBuiltins x = some (.type T)) (ha : PA X (e :: es) t) (hn : x ≠ "__name__" := by decide) (hdb : (x == ("__debug__" : Str)) = false := by decide)
    (he : starEach (e :: es) X.env = (false, eval e X.env) :: starEach es X.env := by rfl) (hpl : (backTo pos (starEach es X.env)).any (·.1) = false := by rfl) : PE X (.Call (.Name x p) (e :: es) [] pos) (tCB r t) := by
  intro pins s σ H Q I h
  refine wpAny_Call_Name_kw (ld_blt I hg hm hv ?_ hn hdb)
  exact PyProof.Rows.callWith_type1 (thn (ha pos pins s σ H _ I h) fun us s1 ⟨vs, H1, I1, r1, q1⟩ => hc pins s1 σ H1 vs us Q I1 r1 q1) he hpl
end
end L2

namespace HT
open PySem PyProof.Rows

section
open PySem.SeqAt
open PySem.AutoSeq1 (wpAny_loadPart')
open PySem.MeetsSeq PySem.MeetsSeq2 PySem.MeetsSeq3

end

section
variable {prog : Program} {w : World} {A : Around} {E : Value → Shared → Prop} {s : Shared}

/-- t + u, t not empty -/
theorem cat_tup {t b : Addr} {vs ws : List Value} {Q : Value → Shared → Prop} (ht : IsTup s.heap t vs.toArray) (hb : IsTup s.heap b ws.toArray) (hv : vs ≠ [])
    (h1 : ws = [] → Q (.ref t) s) (h2 : ws ≠ [] → Q (.ref s.heap.objs.size) { s with heap := s.heap.push { cls := .type "tuple", data := .seq (vs ++ ws).toArray } })
    (hsz : vs.length + ws.length ≤ sizeLine) : wpAny (model prog w) A (binaryOp .Add (.ref t) (.ref b)) Q E s := by
  obtain ⟨⟨cls, dd, data, sl⟩, ho, hc, n, hd⟩ := id ht
  obtain ⟨⟨cls2, dd2, data2, sl2⟩, ho2, hc2, n2, hd2⟩ := id hb
  simp only at hc hd hc2 hd2
  subst hc hd hc2 hd2
  have e : vs.toArray ++ ws.toArray = (vs ++ ws).toArray := by simp
  by_cases hw : ws = []
  · exact concat_meets ⟨_, ho, rfl⟩ ⟨_, ho2, rfl⟩ noFill_tuple_add seq_tuple_add PySem.F.slot_tuple_add PySem.F.entry_tuple_add (PySem.F.args_tuple_add_2 _ _)
      (tuple_addW1 t b vs.toArray ws.toArray n n2 dd dd2 sl sl2 (by simpa using hv) (by simp [hw])) ⟨ho, ho2, h1 hw⟩
  · refine concat_meets ⟨_, ho, rfl⟩ ⟨_, ho2, rfl⟩ noFill_tuple_add seq_tuple_add PySem.F.slot_tuple_add PySem.F.entry_tuple_add (PySem.F.args_tuple_add_2 _ _)
      (tuple_addW2 t b vs.toArray ws.toArray n n2 dd dd2 sl sl2 (by simpa using hv) (by simpa using hw) (by rw [List.size_toArray, List.size_toArray]; exact hsz)) ⟨ho, ho2, ?_⟩
    rw [e]
    exact h2 hw

/-- a slice's bound as a place among n (d where it is left out) -/
def sIx (n d : Nat) : Option Int → Nat
  | none => d
  | some v => if v < 0 then (v + (n : Int)).toNat else min v.toNat n
theorem sIx_none (n d : Nat) : sIx n d none = d := rfl
theorem sIx_nat (n d k : Nat) : sIx n d (some (k : Int)) = min k n := by
  show (if (k : Int) < 0 then ((k : Int) + (n : Int)).toNat else min (k : Int).toNat n) = min k n
  rw [if_neg (by omega), Int.toNat_natCast]
theorem sIx_le (n d : Nat) (hd : d ≤ n) (o : Option Int) : sIx n d o ≤ n := by
  cases o with
  | none => exact hd
  | some v =>
    show (if v < 0 then (v + (n : Int)).toNat else min v.toNat n) ≤ n
    by_cases hv : v < 0
    · rw [if_pos hv]; omega
    · rw [if_neg hv]; exact Nat.min_le_right _ _
theorem clip_eq (v : Int) (n d : Nat) : (if v < 0 then max (v + (n : Int)) 0 else min v (n : Int)) = ((sIx n d (some v) : Nat) : Int) := by
  show (if v < 0 then max (v + (n : Int)) 0 else min v (n : Int)) = (((if v < 0 then (v + (n : Int)).toNat else min v.toNat n) : Nat) : Int)
  by_cases hv : v < 0
  · simp only [if_pos hv]; omega
  · simp only [if_neg hv]; omega
theorem adjust_gen (lo hi : Option Int) (n : Nat) : Builtin.Slice.sliceAdjust lo hi 1 (n : Int) = (((sIx n 0 lo : Nat) : Int), ((sIx n n hi : Nat) : Int)) := by
  have h1 : ¬ ((1 : Int) < 0) := by omega
  unfold Builtin.Slice.sliceAdjust
  simp only [h1, if_false]
  refine Prod.ext ?_ ?_
  · cases lo with
    | none => rfl
    | some v => exact clip_eq v n 0
  · cases hi with
    | none => rfl
    | some v => exact clip_eq v n n
theorem places_gen (i j : Nat) : Builtin.Slice.slicePlaces (i : Int) (j : Int) 1 = j - i := by
  unfold Builtin.Slice.slicePlaces
  have h1 : (1 : Int) > 0 := by omega
  simp only [h1, if_true, Int.ediv_one]
  split <;> omega
theorem slicePart_ {v : Value} {o : Option Int} {Q : Option Int → Shared → Prop} (p : IsPart v o) (h : Q o s) : wpAny (model prog w) A (Builtin.Slice.slicePartIndex v) Q E s := by
  cases p with
  | none => exact slicePart_none h
  | int i t => exact slicePart_int h
theorem sliceApplied_gen {sl : Addr} {vl vu : Value} {lo hi : Option Int} {n : Nat} {Q : Int × Int × Nat → Shared → Prop} (hs : s.heap.IsSliceOf sl vl vu .none) (pl : IsPart vl lo) (pu : IsPart vu hi)
    (h : Q (((sIx n 0 lo : Nat) : Int), 1, sIx n n hi - sIx n 0 lo) s) : wpAny (model prog w) A (Builtin.Slice.sliceApplied (.ref sl) (pure (n : Int))) Q E s := by
  obtain ⟨os, hos, hcs, hds⟩ := id hs
  unfold Builtin.Slice.sliceApplied Builtin.Slice.sliceFields
  refine wpAny_bind (wpAny_bind (wpAny_field hos hds (x := vl) rfl (wpAny_bind (wpAny_field hos hds (x := vu) rfl (wpAny_bind (wpAny_field hos hds (x := .none) rfl (wpAny_pure ?_)))))))
  refine wpAny_bind (slicePart_none ?_)
  show wpAny _ _ (if ((1 : Int) == 0) = true then _ else _) _ _ s
  rw [if_neg (by decide)]
  refine wpAny_bind (slicePart_ pl (wpAny_bind (slicePart_ pu (wpAny_bind (wpAny_pure ?_)))))
  show wpAny _ _ (match Builtin.Slice.sliceAdjust lo hi 1 (n : Int) with | (lo, hi) => pure (lo, (1 : Int), Builtin.Slice.slicePlaces lo hi 1)) _ _ s
  rw [adjust_gen lo hi n]
  show wpAny _ _ (pure (((sIx n 0 lo : Nat) : Int), (1 : Int), Builtin.Slice.slicePlaces ((sIx n 0 lo : Nat) : Int) ((sIx n n hi : Nat) : Int) 1)) _ _ s
  rw [places_gen]
  exact wpAny_pure h
theorem pick_gen (xs : Array Value) (i k : Nat) : ((List.range k).filterMap fun (m : Nat) => xs[((i : Int) + (m : Int) * 1).toNat]?).toArray = ((xs.toList.drop i).take k).toArray := by
  have e : (fun (m : Nat) => xs[((i : Int) + (m : Int) * 1).toNat]?) = fun m => xs[i + m]? := by
    funext m
    have : ((i : Int) + (m : Int) * 1).toNat = i + m := by omega
    rw [this]
  rw [e]
  have := pick_run xs i k
  rw [List.filterMap_map] at this
  have e2 : ((fun x => xs[x]?) ∘ fun x => i + x) = fun m => xs[i + m]? := rfl
  rw [e2] at this
  rw [this]

theorem getItem_tuple_cut {t sl : Addr} {items : Array Value} {vl vu : Value} {lo hi : Option Int} {Q : Value → Shared → Prop} (ht : IsTup s.heap t items) (hs : s.heap.IsSliceOf sl vl vu .none) (pl : IsPart vl lo) (pu : IsPart vu hi)
    (hw : ¬ (sIx items.size 0 lo = 0 ∧ sIx items.size items.size hi = items.size))
    (h : Q (.ref s.heap.objs.size) { s with heap := s.heap.push { cls := .type "tuple", data := .seq ((items.toList.drop (sIx items.size 0 lo)).take (sIx items.size items.size hi - sIx items.size 0 lo)).toArray } })
    (hsz : items.size ≤ sizeLine) : wpAny (model prog w) A (getItem (.ref t) (.ref sl)) Q E s := by
  have htake : sizeOk (.seq ((items.toList.drop (sIx items.size 0 lo)).take (sIx items.size items.size hi - sIx items.size 0 lo)).toArray) := by
    show ((items.toList.drop (sIx items.size 0 lo)).take (sIx items.size items.size hi - sIx items.size 0 lo)).toArray.size ≤ sizeLine
    rw [List.size_toArray, List.length_take, List.length_drop, Array.length_toList]
    omega
  have hj : sIx items.size items.size hi ≤ items.size := sIx_le _ _ (Nat.le_refl _) hi
  obtain ⟨os, hos, hcs, hds⟩ := id hs
  have hTs : s.TypeIs (.ref sl) "slice" := ⟨os, hos, hcs⟩
  unfold getItem
  try with_reducible refine wpAny_holding ?_
  first | refine wpAny_bind (wpAny_pure ?_) | skip
  refine wpAny_bind (wpAny_sequenceKey ht.typeIs (by decide) ?_)
  refine wpAny_bind (wpAny_callSpecial?_slot (name := Str.ofString "__getitem__") ht.typeIs PyProof.Rows.slot_tuple_getitem
    (wpAny_call_entry PyProof.Rows.slot_tuple_getitem ht.typeIs entry_tuple_getitem ?_ (args_tuple_getitem _ _)))
  show wpAny _ _ (Builtin.Tuple.tupleItemsOf (.ref t) >>= _) _ _ s
  refine wpAny_bind (tupleItemsOf_ ht ?_)
  refine wpAny_bind (wpAny_typeOf hTs ?_)
  rw [if_pos (by decide)]
  refine wpAny_bind (sliceApplied_gen hs pl pu ?_)
  have hno : ¬ ((((sIx items.size 0 lo : Nat) : Int) == 0 && (1 : Int) == 1 && (sIx items.size items.size hi - sIx items.size 0 lo) == items.size) = true) := by
    intro q
    rw [Bool.and_eq_true, Bool.and_eq_true] at q
    have q1 : ((sIx items.size 0 lo : Nat) : Int) = 0 := eq_of_beq q.1.1
    have q2 : sIx items.size items.size hi - sIx items.size 0 lo = items.size := eq_of_beq q.2
    exact hw ⟨by omega, by omega⟩
  show wpAny _ _ (if (((sIx items.size 0 lo : Nat) : Int) == 0 && (1 : Int) == 1 && (sIx items.size items.size hi - sIx items.size 0 lo) == items.size) = true then _ else _) _ _ s
  rw [if_neg hno, pick_gen]
  first
    | exact wpAny_bind (m := Builtin.Tuple.tupleExact _) (wpAny_newObj_type (wpAny_pure ⟨_, rfl, wpAny_pure h⟩) htake)
    | exact wpAny_bind (m := Builtin.Tuple.tupleExact _) (wpAny_newObj_type (wpAny_bind (wpAny_pure (wpAny_pure ⟨_, rfl, wpAny_pure h⟩))) htake)
    | exact wpAny_bind (wpAny_bind (m := Builtin.Tuple.tupleExact _) (wpAny_newObj_type (wpAny_pure (wpAny_pure ⟨_, rfl, wpAny_pure h⟩)) htake))
    | exact wpAny_bind (wpAny_bind (m := Builtin.Tuple.tupleExact _) (wpAny_newObj_type (wpAny_pure ⟨_, rfl, wpAny_pure h⟩) htake))
end
end HT

namespace L2
open PySem PySem.Spec PyProof.Rows

abbrev TO := St → Hp → (Option Int → Hp → Prop) → Prop
/-- a slice's part (left out, or an int) -/
def PO (X : Cx) (e : Option Expr) (t : TO) : Prop :=
  ∀ (pins : List (Addr × Obj)) (s : Shared) (σ : St) (H : Hp) (Q : Option Int → Hp → Prop), Inv X pins σ H s → t σ H Q →
    wpAny (model X.prog X.w) X.A (evalPart e X.env) (fun u s' => ∃ o H', Inv X pins σ H' s' ∧ IsPart u o ∧ Q o H') X.xe s
def tNoPart : TO := fun _ H Q => Q none H
def tPart (t : TE) : TO := fun σ H Q => t σ H fun x H1 => ∃ i, x = .int i ∧ Q (some i) H1

section
variable {X : Cx} {e : Expr} {te : TE} {lo hi : Option Expr} {tl th : TO} {pos p2 : Pos}

theorem po_none : PO X none tNoPart := by
  intro pins s σ H Q I h
  rw [evalPart_none]
  exact wpAny_pure ⟨none, H, I, .none, h⟩
theorem po_some (h : PE X e te) : PO X (some e) (tPart te) := by
  intro pins s σ H Q I hw
  rw [evalPart_some]
  refine thn (h pins s σ H _ I hw) fun u s1 ⟨x, H1, I1, r1, q1⟩ => ?_
  obtain ⟨i, rfl, q⟩ := q1
  obtain ⟨t, rfl⟩ := r1
  exact ⟨some i, H1, I1, .int i t, q⟩

/-- what a slice of a value is, by values: the slice object stands at sl -/
def SlR (X : Cx) (r : V → Option Int → Option Int → Hp → VK → Prop) : Prop :=
  ∀ (pins : List (Addr × Obj)) (s : Shared) (σ : St) (H : Hp) (x : V) (v vl vu : Value) (lo hi : Option Int) (sl : Addr) (Q : VK), Inv X pins σ H s → RelV x v → s.heap.IsSliceOf sl vl vu .none → IsPart vl lo → IsPart vu hi → r x lo hi H Q →
    ∃ T id, typeLookup (.type T) "__getitem__" = pure (some (.builtin id)) ∧ s.TypeIs v T ∧ wpAny (model X.prog X.w) X.A (getItem v (.ref sl)) (EP X pins σ Q) X.xe s
theorem SlR.or {r r' : V → Option Int → Option Int → Hp → VK → Prop} (h : SlR X r) (h' : SlR X r') : SlR X (fun x lo hi H Q => r x lo hi H Q ∨ r' x lo hi H Q) := by
  intro pins s σ H x v vl vu lo hi sl Q I rx hs pl pu q
  rcases q with q | q
  · exact h pins s σ H x v vl vu lo hi sl Q I rx hs pl pu q
  · exact h' pins s σ H x v vl vu lo hi sl Q I rx hs pl pu q
def tSl (r : V → Option Int → Option Int → Hp → VK → Prop) (te : TE) (tl th : TO) : TE := fun σ H Q => te σ H fun x H1 => tl σ H1 fun l H2 => th σ H2 fun u H3 => r x l u H3 Q
/-- a[lo:hi], any a -/
theorem pe_slice {r : V → Option Int → Option Int → Hp → VK → Prop} (hr : SlR X r) (he : PE X e te) (hl : PO X lo tl) (hu : PO X hi th) : PE X (.Subscript e (.Slice lo hi none p2) pos) (tSl r te tl th) := by
  intro pins s σ H Q I h
  refine Subscript_ (thn (he pins s σ H _ I h) fun v s1 ⟨x, H1, I1, r1, q1⟩ => ?_)
  refine wpAny_Slice (thn (hl pins s1 σ H1 _ I1 q1) fun vl s2 ⟨l, H2, I2, pl, q2⟩ => thn (hu pins s2 σ H2 _ I2 q2) fun vu s3 ⟨u, H3, I3, pu, q3⟩ => ?_)
  rw [evalPart_none]
  refine wpAny_pure ?_
  have I4 : Inv X pins σ H3 { s3 with heap := s3.heap.push { cls := .type "slice", data := .fields #[vl, vu, .none] } } := I3.kept (t' := s3.toks) fun b ob q => Heap.get?_push_of_some _ q
  obtain ⟨T, id, hT, ht, hg⟩ := hr pins { s3 with heap := s3.heap.push { cls := .type "slice", data := .fields #[vl, vu, .none] } } σ H3 x v vl vu l u s3.heap.objs.size Q I4 r1 (Heap.IsSliceOf.new ..) pl pu q3
  show wpAny (model X.prog X.w) X.A (subscriptTail e (.Slice lo hi none p2) v (.ref s3.heap.objs.size)) (EP X pins σ Q) X.xe { s3 with heap := s3.heap.push { cls := .type "slice", data := .fields #[vl, vu, .none] } }
  exact tail_any (ops := [.ref s3.heap.objs.size, v]) ht hT hg (by with_unfolding_all rfl)

/-- the items of xs[lo:hi] -/
def cutV (xs : List V) (lo hi : Option Int) : List V := (xs.drop (HT.sIx xs.length 0 lo)).take (HT.sIx xs.length xs.length hi - HT.sIx xs.length 0 lo)
theorem cutV_length (xs : List V) (lo hi : Option Int) : (cutV xs lo hi).length ≤ xs.length := by
  unfold cutV
  rw [List.length_take, List.length_drop]
  omega
/-- t[lo:hi], not the whole of it (the whole would be t itself) -/
def rSlT (K : PySem.W.Frag) : V → Option Int → Option Int → Hp → VK → Prop := fun x lo hi H Q => ∃ a xs, x = .ref a ∧ SqT K H a xs ∧
  ¬ (HT.sIx xs.length 0 lo = 0 ∧ HT.sIx xs.length xs.length hi = xs.length) ∧ ∀ p, H p = none → Q (.ref p) (upd H p (.tup (cutV xs lo hi)))
theorem sl_tup : SlR X (rSlT X.K) := by
  intro pins s σ H x v vl vu lo hi sl Q I rx hs pl pu h
  obtain ⟨a, xs, rfl, hx, hw, q⟩ := h
  cases rx
  obtain ⟨its, r, ht, hz⟩ := I.tuple hx
  have hlen : its.toArray.size = xs.length := by rw [List.size_toArray]; exact r.length.symm
  refine ⟨"tuple", _, PyProof.Rows.slot_tuple_getitem.lookup, ht.typeIs, ?_⟩
  refine HT.getItem_tuple_cut ht hs pl pu (by rw [hlen]; exact hw) ?_ (by rw [hlen]; exact hz)
  rw [hlen]
  refine ⟨.ref s.heap.objs.size, _, I.laid (t' := s.toks) (o := .tup (cutV xs lo hi)) (fun b ob q => Heap.get?_push_of_some _ q) (Nat.le_refl _) ?_, rfl, q _ (I.hok.fresh (Nat.le_refl _))⟩
  exact ⟨Nat.le_trans (cutV_length xs lo hi) hz, _, (r.drop (HT.sIx xs.length 0 lo)).take (HT.sIx xs.length xs.length hi - HT.sIx xs.length 0 lo), IsTupD.new _ _⟩

/-- t + u, t not empty: u empty gives t itself -/
def rCatT (K : PySem.W.Frag) : R2 := fun x y H Q => ∃ a b xs ys, x = .ref a ∧ y = .ref b ∧ SqT K H a xs ∧ SqT K H b ys ∧ xs ≠ [] ∧ xs.length + ys.length ≤ sizeLine ∧
  (ys = [] → Q (.ref a) H) ∧ (ys ≠ [] → ∀ p, H p = none → Q (.ref p) (upd H p (.tup (xs ++ ys))))
theorem Vals.nil_iff {xs : List V} {us : List Value} (r : Vals xs us) : us = [] ↔ xs = [] := by
  cases r with
  | nil => simp
  | cons _ _ => simp
theorem op_catT : OpR X (binaryOp .Add) (rCatT X.K) := by
  intro pins s σ H x y v u Q I rx ry h
  obtain ⟨a, b, xs, ys, rfl, rfl, ha, hb, hx, hz, q1, q2⟩ := h
  cases rx
  cases ry
  obtain ⟨its, r1, p1, _⟩ := I.tuple ha
  obtain ⟨its2, r2, p2, _⟩ := I.tuple hb
  refine HT.cat_tup p1 p2 (fun z => hx (r1.nil_iff.mp z)) (fun z => ⟨.ref a, H, I, rfl, q1 (r2.nil_iff.mp z)⟩) (fun z => ?_) (by rw [← r1.length, ← r2.length]; exact hz)
  refine ⟨.ref s.heap.objs.size, _, I.laid (t' := s.toks) (o := .tup (xs ++ ys)) (fun b ob q => Heap.get?_push_of_some _ q) (Nat.le_refl _) ?_, rfl, q2 (fun w => z (r2.nil_iff.mpr w)) _ (I.hok.fresh (Nat.le_refl _))⟩
  exact ⟨by rw [List.length_append]; exact hz, _, r1.append r2, IsTupD.new _ _⟩
end
end L2

namespace L2
open PySem PySem.Spec PyProof.Rows

/-- the place that an index of any sign means -/
def ixN (n : Nat) (i : Int) : Option Nat := if 0 ≤ i then (if i < n then some i.toNat else none) else if -(n : Int) ≤ i then some (i + n).toNat else none
def atI {α : Type} (xs : List α) (i : Int) : Option α := (ixN xs.length i).bind fun j => xs[j]?
theorem ixN_seq {n : Nat} {i : Int} {j : Nat} (h : ixN n i = some j) : seqIndex? i n = some j ∧ j < n ∧ -(n : Int) ≤ i ∧ i < n := by
  unfold ixN at h
  by_cases h0 : 0 ≤ i
  · rw [if_pos h0] at h
    by_cases h1 : i < n
    · rw [if_pos h1] at h
      have e : i.toNat = j := Option.some.inj h
      exact ⟨by rw [seqIndex_of h0 h1, e], by omega, by omega, h1⟩
    · rw [if_neg h1] at h; cases h
  · rw [if_neg h0] at h
    by_cases h1 : -(n : Int) ≤ i
    · rw [if_pos h1] at h
      have e : (i + n).toNat = j := Option.some.inj h
      exact ⟨by rw [seqIndex_neg (by omega) h1, e], by omega, h1, by omega⟩
    · rw [if_neg h1] at h; cases h
theorem atI_get {α : Type} {xs : List α} {i : Int} {v : α} (h : atI xs i = some v) : ∃ j, seqIndex? i xs.length = some j ∧ xs[j]? = some v ∧ j < xs.length ∧ -(xs.length : Int) ≤ i ∧ i < xs.length := by
  unfold atI at h
  cases e : ixN xs.length i with
  | none => rw [e] at h; cases h
  | some j =>
    rw [e] at h
    obtain ⟨h1, h2, h3, h4⟩ := ixN_seq e
    exact ⟨j, h1, h, h2, h3, h4⟩
theorem atI_nat {α : Type} {xs : List α} {j : Nat} {v : α} (h : xs[j]? = some v) : atI xs (j : Int) = some v := by
  have hj : j < xs.length := (List.getElem?_eq_some_iff.mp h).1
  have e : ixN xs.length (j : Int) = some j := by
    unfold ixN
    rw [if_pos (by omega), if_pos (by omega)]; simp
  unfold atI; rw [e]; exact h
/-- what stands as an index of a plain subscript -/
def PlainIx (b : Expr) : Prop := ∀ o i, subscripted b false o i = operate [o, i] (getItem o i)
/-- a subscript by values -/
def IxR (X : Cx) (r : R2) : Prop :=
  ∀ (value slice : Expr) (pins : List (Addr × Obj)) (s : Shared) (σ : St) (H : Hp) (x y : V) (v u : Value) (Q : VK), Inv X pins σ H s → RelV x v → RelV y u → r x y H Q →
    subscripted slice false v u = operate [v, u] (getItem v u) → wpAny (model X.prog X.w) X.A (subscriptTail value slice v u) (EP X pins σ Q) X.xe s
/-- a call of a builtin's method by values: the receiver, the arguments -/
def MtR (X : Cx) (id : String) (r : V → List V → Hp → VK → Prop) : Prop :=
  ∀ (pins : List (Addr × Obj)) (s : Shared) (σ : St) (H : Hp) (x : V) (xs : List V) (v : Value) (us : List Value) (Q : VK), Inv X pins σ H s → RelV x v → Vals xs us → r x xs H Q →
    wpAny (model X.prog X.w) X.A (call (.builtin id) (v :: us)) (EP X pins σ Q) X.xe s
section
variable {X : Cx} {a b : Expr} {ta tb : TE} {pos : Pos}
theorem IxR.or {r r' : R2} (h : IxR X r) (h' : IxR X r') : IxR X (fun x y H Q => r x y H Q ∨ r' x y H Q) := by
  intro value slice pins s σ H x y v u Q I rx ry q hs
  rcases q with q | q
  · exact h value slice pins s σ H x y v u Q I rx ry q hs
  · exact h' value slice pins s σ H x y v u Q I rx ry q hs
theorem MtR.or {id : String} {r r' : V → List V → Hp → VK → Prop} (h : MtR X id r) (h' : MtR X id r') : MtR X id (fun x xs H Q => r x xs H Q ∨ r' x xs H Q) := by
  intro pins s σ H x xs v us Q I rx rs q
  rcases q with q | q
  · exact h pins s σ H x xs v us Q I rx rs q
  · exact h' pins s σ H x xs v us Q I rx rs q
/-- a[b] -/
theorem pe_ix {r : R2} (hr : IxR X r) (ha : PE X a ta) (hb : PE X b tb) (hs : PlainIx b) : PE X (.Subscript a b pos) (tOp r ta tb) := by
  intro pins s σ H Q I h
  exact Subscript_ (binT ha hb I h fun v u s2 x y H2 I2 rx ry q => hr a b pins s2 σ H2 x y v u Q I2 rx ry q (hs _ _))

def rIxL (K : PySem.W.Frag) : R2 := fun x y H Q => ∃ p xs i v, x = .ref p ∧ y = .int i ∧ SqL K H p xs ∧ atI xs i = some v ∧ Q v H
def rIxT (K : PySem.W.Frag) : R2 := fun x y H Q => ∃ p xs i v, x = .ref p ∧ y = .int i ∧ SqT K H p xs ∧ atI xs i = some v ∧ Q v H
def rIxS : R2 := fun x y H Q => ∃ z i c, x = .str z ∧ y = .int i ∧ z.length ≤ sizeLine ∧ atI z.cps.toList i = some c ∧ Q (.str ⟨#[c]⟩) H
theorem ix_list : IxR X (rIxL X.K) := by
  intro value slice pins s σ H x y v u Q I rx ry h hs
  obtain ⟨p, xs, i, z, rfl, rfl, hq, he, q⟩ := h
  cases rx
  obtain ⟨t, rfl⟩ := ry
  obtain ⟨its, r, pl, hz⟩ := I.list hq
  obtain ⟨j, h1, h2, h3, h4, h5⟩ := atI_get he
  obtain ⟨w, ew, rw'⟩ := r.get h2
  have hl := r.length
  have hn := line63
  have fin : EP X pins σ Q w s := ⟨z, H, I, rw', q⟩
  by_cases h0 : 0 ≤ i
  · have hj : i.toNat = j := by
      rw [seqIndex_of h0 h5] at h1
      exact Option.some.inj h1
    exact item_listR pl.isList h0 (by omega) (by rw [hj]; simpa using ew) fin hs
  · have hj : (i + (its.toArray.size : Int)).toNat = j := by
      rw [seqIndex_neg (by omega) h4] at h1
      rw [List.size_toArray, ← hl]
      exact Option.some.inj h1
    exact subscriptTail_builtinR (x := w) pl.isList.typeIs slot_list_getitem.lookup
      (wpAny_getItem_list_neg (Q := fun r s' => r = w ∧ EP X pins σ Q r s') pl.isList (by omega) (by rw [List.size_toArray] <;> omega) (by omega) (by rw [hj]; simpa using ew) ⟨rfl, fin⟩) hs
theorem ix_tup : IxR X (rIxT X.K) := by
  intro value slice pins s σ H x y v u Q I rx ry h hs
  obtain ⟨p, xs, i, z, rfl, rfl, hq, he, q⟩ := h
  cases rx
  obtain ⟨t, rfl⟩ := ry
  obtain ⟨its, r, pl, hz⟩ := I.tuple hq
  obtain ⟨j, h1, h2, h3, h4, h5⟩ := atI_get he
  obtain ⟨w, ew, rw'⟩ := r.get h2
  have hl := r.length
  have hn := line63
  have fin : EP X pins σ Q w s := ⟨z, H, I, rw', q⟩
  exact subscriptTail_builtinR (x := w) pl.typeIs slot_tuple_getitem.lookup
    (getItem_tuple (j := j) (Q := fun r s' => r = w ∧ EP X pins σ Q r s') pl (by omega) (by omega) (by rw [List.size_toArray, ← hl]; exact h1) (by simpa using ew) ⟨rfl, fin⟩) hs
theorem ix_str : IxR X rIxS := by
  intro value slice pins s σ H x y v u Q I rx ry h hs
  obtain ⟨z, i, c, rfl, rfl, hz, he, q⟩ := h
  obtain ⟨t, rfl⟩ := rx
  obtain ⟨t', rfl⟩ := ry
  obtain ⟨j, h1, h2, h3, h4, h5⟩ := atI_get he
  have hl : z.cps.toList.length = z.length := by simp [Str.length]
  rw [hl] at h1 h4 h5
  have hn := line63
  exact tail_any (typeIs_str s z t) slot_str_getitem.lookup (getItem_str (c := c) (by
    have e1 : decide (i < -(2 ^ 63 : Int)) = false := decide_eq_false (by omega)
    have e2 : decide (i ≥ 2 ^ 63) = false := decide_eq_false (by omega)
    rw [e1, e2, Bool.or_false]) (by rw [h1]; simpa using h2) ⟨.str ⟨#[c]⟩, H, I.tok _, ⟨_, rfl⟩, q⟩) hs
/-- list, tuple or str -/
def rIx (K : PySem.W.Frag) : R2 := fun x y H Q => rIxL K x y H Q ∨ rIxT K x y H Q ∨ rIxS x y H Q
theorem ix_seq : IxR X (rIx X.K) := ix_list.or (ix_tup.or ix_str)

/-- the list's object behind a store -/
theorem mapSeq_set (its : List Value) (n j : Nat) (u : Value) : Obj.mapSeq (·.setIfInBounds j u) { cls := .type "list", data := .seq its.toArray n } = { cls := .type "list", data := .seq (its.set j u).toArray n } := by
  simp [Obj.mapSeq]
theorem Inv.lst {pins : List (Addr × Obj)} {σ : St} {H : Hp} {s : Shared} {p : Addr} {xs : List V} (I : Inv X pins σ H s) (h : H p = some (.lst xs)) :
    ∃ (its : List Value) (n : Nat), Vals xs its ∧ s.heap.get? p = some { cls := .type "list", data := .seq its.toArray n } ∧ xs.length ≤ sizeLine := by
  obtain ⟨z, its, n, r, e⟩ := I.hok p _ h
  exact ⟨its, n, r, e, z⟩
/-- the list at p is written by an update of its object -/
theorem Inv.lstUpd {pins : List (Addr × Obj)} {σ : St} {H : Hp} {s : Shared} {p : Addr} {xs ys : List V} {its its' : List Value} {n n' : Nat} {f : Obj → Obj} (I : Inv X pins σ H s) (h : H p = some (.lst xs))
    (ho : s.heap.get? p = some { cls := .type "list", data := .seq its.toArray n }) (hf : f { cls := .type "list", data := .seq its.toArray n } = { cls := .type "list", data := .seq its'.toArray n' }) (r : Vals ys its') (hz : ys.length ≤ sizeLine) (t : Nat) :
    Inv X pins σ (upd H p (.lst ys)) { s with heap := s.heap.update p f, toks := t } := by
  have e : (s.heap.update p f).get? p = some { cls := .type "list", data := .seq its'.toArray n' } := by
    rw [Heap.get?_update_self f ho (by rw [hf] <;> rfl), hf]
  refine I.write (x := p) (e := p) (by rw [h]; trivial) (.inl rfl) (fun b u hb q => (Heap.get?_update_other _ _ (Ne.symm hb)).trans q) ⟨_, e⟩ ?_
  exact ⟨hz, its', n', r, e⟩
def rSetL : V → V → V → Hp → (Hp → Prop) → Prop := fun o i v H Q => ∃ p xs k j, o = .ref p ∧ i = .int k ∧ H p = some (.lst xs) ∧ ixN xs.length k = some j ∧ Q (upd H p (.lst (xs.set j v)))
theorem set_list : PSet X rSetL := by
  intro pins s σ H o i v ov iv u Q I ro ri rv h
  obtain ⟨p, xs, k, j, rfl, rfl, hp, hj, q⟩ := h
  cases ro
  obtain ⟨t, rfl⟩ := ri
  obtain ⟨its, n, r, ho, hz⟩ := I.lst hp
  obtain ⟨h1, h2, h3, h4⟩ := ixN_seq hj
  have hl := r.length
  have hn := line63
  have I' : Inv X pins σ (upd H p (.lst (xs.set j v))) { s with heap := s.heap.update p (Obj.mapSeq (·.setIfInBounds j u)) } :=
    I.lstUpd hp ho (mapSeq_set its n j u) (r.set rv j) (by rw [List.length_set]; exact hz) s.toks
  by_cases h0 : 0 ≤ k
  · have hk : k.toNat = j := by
      rw [seqIndex_of h0 h4] at h1
      exact Option.some.inj h1
    exact PySem.W.ki_setAt ho h0 (by omega) (by rw [List.size_toArray, ← hl]; exact h4) (by rw [hk]; exact ⟨_, I', q⟩)
  · have hk : (k + (its.toArray.size : Int)).toNat = j := by
      rw [seqIndex_neg (by omega) h3] at h1
      rw [List.size_toArray, ← hl]
      exact Option.some.inj h1
    exact PySem.W.ki_setBack ho (by omega) (by rw [List.size_toArray, ← hl]; exact h3) (by omega) (by rw [hk]; exact ⟨_, I', q⟩)

def flatV : V → Bool
  | .non => true
  | .bl _ => true
  | .int _ => true
  | .str _ => true
  | _ => false
/-- == of flat values -/
def eqV : V → V → Bool
  | .non, .non => true
  | .bl a, .bl b => a == b
  | .bl a, .int b => (if a then 1 else 0) == b
  | .int a, .bl b => a == (if b then 1 else 0)
  | .int a, .int b => a == b
  | .str a, .str b => a == b
  | _, _ => false
theorem eqAt_V {A : Around} {s : Shared} {y x : V} {u v : Value} (ry : RelV y u) (rx : RelV x v) (fy : flatV y = true) (fx : flatV x = true) : SeqAt.EqAt A s u v (eqV y x) := by
  cases y with
  | non =>
    cases ry
    cases x with
    | non => cases rx; exact SeqAt.EqAt.same _
    | bl b => cases rx; exact SeqAt.EqAt.none_bool b
    | int b => obtain ⟨t, rfl⟩ := rx; exact SeqAt.EqAt.none_int b t
    | str b => obtain ⟨t, rfl⟩ := rx; exact SeqAt.EqAt.none_str b t
    | _ => exact absurd (show false = true from fx) Bool.false_ne_true
  | bl a =>
    cases ry
    cases x with
    | non => cases rx; exact SeqAt.EqAt.bool_none a
    | bl b => cases rx; exact SeqAt.EqAt.bool_bool a b
    | int b => obtain ⟨t, rfl⟩ := rx; exact SeqAt.EqAt.bool_int a b t
    | str b => obtain ⟨t, rfl⟩ := rx; exact SeqAt.EqAt.bool_str a b t
    | _ => exact absurd (show false = true from fx) Bool.false_ne_true
  | int a =>
    obtain ⟨t', rfl⟩ := ry
    cases x with
    | non => cases rx; exact SeqAt.EqAt.int_none a t'
    | bl b => cases rx; exact SeqAt.EqAt.int_bool a t' b
    | int b => obtain ⟨t, rfl⟩ := rx; exact SeqAt.EqAt.int_int a t' b t
    | str b => obtain ⟨t, rfl⟩ := rx; exact SeqAt.EqAt.int_str a t' b t
    | _ => exact absurd (show false = true from fx) Bool.false_ne_true
  | str a =>
    obtain ⟨t', rfl⟩ := ry
    cases x with
    | non => cases rx; exact SeqAt.EqAt.str_none a t'
    | bl b => cases rx; exact SeqAt.EqAt.str_bool a t' b
    | int b => obtain ⟨t, rfl⟩ := rx; exact SeqAt.EqAt.str_int a t' b t
    | str b => obtain ⟨t, rfl⟩ := rx; exact SeqAt.EqAt.str_str a t' b t
    | _ => exact absurd (show false = true from fx) Bool.false_ne_true
  | _ => exact absurd (show false = true from fy) Bool.false_ne_true
/-- the items' answers, read off the values (a value's own answer does not lean on its token) -/
def eqU (x : V) (u : Value) : Bool := match u with
  | .none => eqV .non x
  | .bool b => eqV (.bl b) x
  | .int i _ => eqV (.int i) x
  | .str z _ => eqV (.str z) x
  | _ => false
theorem eqU_of {x y : V} {u : Value} (r : RelV y u) (f : flatV y = true) : eqU x u = eqV y x := by
  cases y with
  | non => cases r; rfl
  | bl b => cases r; rfl
  | int i => obtain ⟨t, rfl⟩ := r; rfl
  | str z => obtain ⟨t, rfl⟩ := r; rfl
  | _ => exact absurd (show false = true from f) Bool.false_ne_true
theorem any_eqU {x : V} : ∀ {xs : List V} {us : List Value}, Vals xs us → xs.all flatV = true → us.any (eqU x) = xs.any fun y => eqV y x
  | _, _, .nil, _ => rfl
  | y :: xs, u :: us, .cons r t, f => by
    rw [List.all_cons, Bool.and_eq_true] at f
    rw [List.any_cons, List.any_cons, eqU_of r f.1, any_eqU t f.2]
theorem mem_eqAt {A : Around} {s : Shared} {x : V} {v : Value} (rx : RelV x v) (fx : flatV x = true) : ∀ {xs : List V} {us : List Value}, Vals xs us → xs.all flatV = true → ∀ u ∈ us, SeqAt.EqAt A s u v (eqU x u)
  | _, _, .nil, _ => fun u hu => by cases hu
  | y :: xs, u :: us, .cons r t, f => fun u' hu => by
    rw [List.all_cons, Bool.and_eq_true] at f
    rcases List.mem_cons.mp hu with rfl | hu
    · rw [eqU_of r f.1]; exact eqAt_V r rx f.1 fx
    · exact mem_eqAt rx fx t f.2 u' hu
def inV (x : V) (xs : List V) : Bool := xs.any fun y => eqV y x
/-- x in a list or tuple of flat items -/
def rIn (K : PySem.W.Frag) (neg : Bool) : R2 := fun x y H Q => ∃ p xs, y = .ref p ∧ (SqL K H p xs ∨ SqT K H p xs) ∧ flatV x = true ∧ xs.all flatV = true ∧ Q (.bl (if neg then !inV x xs else inV x xs)) H
theorem op_notIn_seq : OpR X (compareOp .NotIn) (rIn X.K true) := by
  intro pins s σ H x y v u Q I rx ry h
  obtain ⟨p, xs, rfl, hq, fx, fs, q⟩ := h
  cases ry
  rcases hq with hq | hq
  · obtain ⟨its, r, pl, hz⟩ := I.list hq
    refine SeqAt.notIn_listAt (eqU x) pl.isList (fun w hw => mem_eqAt rx fx r fs w (by simpa using hw)) ⟨.bl _, H, I, rfl, ?_⟩
    rw [show its.toArray.any (eqU x) = its.any (eqU x) by simp, any_eqU r fs]
    exact q
  · obtain ⟨its, r, pl, hz⟩ := I.tuple hq
    refine SeqAt.notIn_tupleAt (eqU x) pl (fun w hw => mem_eqAt rx fx r fs w (by simpa using hw)) ⟨.bl _, H, I, rfl, ?_⟩
    rw [show its.toArray.any (eqU x) = its.any (eqU x) by simp, any_eqU r fs]
    exact q
theorem CallR.or {f : Value} {r r' : List V → Hp → VK → Prop} (h : CallR X f r) (h' : CallR X f r') : CallR X f (fun xs H Q => r xs H Q ∨ r' xs H Q) := by
  intro pins s σ H xs us Q I rs q
  rcases q with q | q
  · exact h pins s σ H xs us Q I rs q
  · exact h' pins s σ H xs us Q I rs q
theorem call_list_of : CallR X (.type "list") (fun xs H Q => ∃ p ys, xs = [.ref p] ∧ (SqL X.K H p ys ∨ SqT X.K H p ys) ∧ ∀ l, H l = none → Q (.ref l) (upd H l (.lst ys))) := by
  intro pins s σ H xs us Q I r h
  obtain ⟨p, ys, rfl, hq, q⟩ := h
  obtain ⟨u, rfl, rx⟩ := vals1 r
  cases rx
  have fin : ∀ (its : List Value), Vals ys its → ys.length ≤ sizeLine → ∀ (h' : Heap) (c' : Nat), (∀ b o', s.heap.get? b = some o' → h'.get? b = some o') →
      h'.get? s.heap.objs.size = some { cls := .type "list", dict := none, data := .seq its.toArray c', slots := #[] } → EP X pins σ Q (.ref s.heap.objs.size) { s with heap := h' } := fun its r' hz h' c' kp e =>
    ⟨.ref s.heap.objs.size, _, I.laid (t' := s.toks) kp (Nat.le_refl _) (show ObjOk X.prog X.w _ h' _ (.lst ys) from ⟨hz, its, c', r', e⟩), rfl, q _ (I.hok.fresh (Nat.le_refl _))⟩
  rcases hq with hq | hq
  · obtain ⟨its, r', pl, hz⟩ := I.list hq
    have hlen := r'.length
    obtain ⟨o, ho, hc, n, hd⟩ := pl.isList
    exact call_list_seq p (.inl rfl) ho hc hd (fun h' c' kp e => fin its r' hz h' c' kp e) (by simp only [List.size_toArray] <;> omega)
  · obtain ⟨its, r', pl, hz⟩ := I.tuple hq
    have hlen := r'.length
    obtain ⟨o, ho, hc, n, hd⟩ := pl
    exact call_list_seq p (.inr rfl) ho hc hd (fun h' c' kp e => fin its r' hz h' c' kp e) (by simp only [List.size_toArray] <;> omega)
theorem call_tuple_of : CallR X (.type "tuple") (fun xs H Q => ∃ p ys, xs = [.ref p] ∧ ((SqL X.K H p ys ∧ ∀ l, H l = none → Q (.ref l) (upd H l (.tup ys))) ∨ (SqT X.K H p ys ∧ Q (.ref p) H))) := by
  intro pins s σ H xs us Q I r h
  obtain ⟨p, ys, rfl, h⟩ := h
  obtain ⟨u, rfl, rx⟩ := vals1 r
  cases rx
  rcases h with ⟨hq, q⟩ | ⟨hq, q⟩
  · obtain ⟨its, r', pl, hz⟩ := I.list hq
    have hlen := r'.length
    refine call_tuple_list pl.isList (fun h' kp => ?_) (by simp only [List.size_toArray] <;> omega)
    have I1 : Inv X pins σ H { s with heap := h' } := I.kept (t' := s.toks) kp
    have I2 : Inv X pins σ (upd H h'.objs.size (.tup ys)) { s with heap := h'.push { cls := .type "tuple", data := .seq its.toArray } } :=
      I1.laid (t' := s.toks) (fun b o e => Heap.get?_push_of_some _ e) (Nat.le_refl _) (show ObjOk X.prog X.w _ _ _ (.tup ys) from ⟨hz, its, r', IsTupD.new _ _⟩)
    exact ⟨.ref h'.objs.size, _, I2, rfl, q _ (I1.hok.fresh (Nat.le_refl _))⟩
  · obtain ⟨its, r', pl, hz⟩ := I.tuple hq
    exact call_tuple_same pl ⟨.ref p, H, I, rfl, q⟩

/-- the value is of that builtin type -/
def tyV (K : PySem.W.Frag) (T : String) (x : V) (H : Hp) : Prop := match x with
  | .str _ => T = "str"
  | .int _ => T = "int"
  | .ref p => (T = "list" ∧ ∃ xs, SqL K H p xs) ∨ (T = "tuple" ∧ ∃ o, K.lookup p = some o ∧ o.cls = .type "tuple" ∧ o.dict = none) ∨
      (T = "dict" ∧ ((∃ kvs, H p = some (.dK kvs)) ∨ ∃ kvs, H p = some (.dT kvs))) ∨ (T = "set" ∧ ∃ S n, H p = some (.set S n))
  | _ => False
theorem tyV_is {pins : List (Addr × Obj)} {σ : St} {H : Hp} {s : Shared} {T : String} {x : V} {v : Value} (I : Inv X pins σ H s) (r : RelV x v) (ty : tyV X.K T x H) :
    s.TypeIs v T ∧ ∀ a, v = .ref a → ∃ ob, s.heap.get? a = some ob ∧ ob.dict = none := by
  cases x with
  | str z =>
    obtain ⟨t, rfl⟩ := r
    cases (show T = "str" from ty)
    exact ⟨typeIs_str s z t, fun _ e => nomatch e⟩
  | int i =>
    obtain ⟨t, rfl⟩ := r
    cases (show T = "int" from ty)
    exact ⟨typeIs_int s i t, fun _ e => nomatch e⟩
  | ref p =>
    cases r
    rcases ty with ⟨rfl, xs, hq⟩ | ⟨rfl, o, hk, hc, hd⟩ | ⟨rfl, hk⟩ | ⟨rfl, S, n, hk⟩
    · obtain ⟨its, _, pl, _⟩ := I.list hq
      refine ⟨pl.isList.typeIs, fun a e => ?_⟩
      cases e
      obtain ⟨o, n, e, c, hd, _⟩ := pl
      exact ⟨o, e, hd⟩
    · refine ⟨⟨o, I.kIn p o hk, hc⟩, fun a e => ?_⟩
      cases e
      exact ⟨o, I.kIn _ o hk, hd⟩
    · have z : ∃ o, s.heap.get? p = some o ∧ o.ExactDict := by
        rcases hk with ⟨kvs, hk⟩ | ⟨kvs, hk⟩
        · obtain ⟨_, _, _, _, o, _, _, e, ex, _⟩ := I.hok p _ hk
          exact ⟨o, e, ex⟩
        · obtain ⟨_, _, _, _, o, _, _, e, ex, _⟩ := I.hok p _ hk
          exact ⟨o, e, ex⟩
      obtain ⟨o, e, ex⟩ := z
      refine ⟨⟨o, e, ex.1⟩, fun a e2 => ?_⟩
      cases e2
      exact ⟨o, e, ex.2.1⟩
    · obtain ⟨o, _, _, _, e, ex, _⟩ := I.hok p _ hk
      refine ⟨⟨o, e, ex.1⟩, fun a e2 => ?_⟩
      cases e2
      exact ⟨o, e, ex.2.1⟩
  | _ => exact False.elim ty
def tBM0 (K : PySem.W.Frag) (T : String) (r : V → List V → Hp → VK → Prop) (to : TE) : TE := fun σ H Q => to σ H fun x H1 => tyV K T x H1 ∧ r x [] H1 Q
def tBM (K : PySem.W.Frag) (T : String) (r : V → List V → Hp → VK → Prop) (to : TE) (t : TA) : TE := fun σ H Q => to σ H fun x H1 => tyV K T x H1 ∧ t σ H1 fun xs H2 => r x xs H2 Q
variable {o e : Expr} {es : List Expr} {to : TE} {t : TA} {name : Str} {apos cpos : Pos} {T id : String} {r : V → List V → Hp → VK → Prop}
theorem pe_bm0 (pa : PlainAttrs T) (slot : Slot T name id) (hty : typeOf (.builtin id) = pure (.type "method_descriptor")) (hm : MtR X id r) (ho : PE X o to)
    (hbase : attributeBase o name X.env (eval o X.env) = eval o X.env := by rfl) (hline : (apos.endLine == cpos.line) = true := by rfl) : PE X (.Call (.Attribute o name apos) [] [] cpos) (tBM0 X.K T r to) := by
  intro pins s σ H Q I h
  refine wpAny_Call_method0_late hbase hline (thn (ho pins s σ H _ I h) fun v s1 ⟨x, H1, I1, r1, ty, q1⟩ => ?_)
  obtain ⟨h1, h2⟩ := tyV_is I1 r1 ty
  exact ⟨T, id, pa, slot, hty, h1, h2, Calls.callWith_builtin rfl (PySem.evalArgs_none (hm pins s1 σ H1 x [] v [] Q I1 r1 .nil q1))⟩
theorem pe_bm (pa : PlainAttrs T) (slot : Slot T name id) (hty : typeOf (.builtin id) = pure (.type "method_descriptor")) (hm : MtR X id r) (ho : PE X o to) (ha : PA X (e :: es) t)
    (hbase : attributeBase o name X.env (eval o X.env) = eval o X.env := by rfl)
    (hfew : ((backTo cpos (starEach (e :: es) X.env)).all (fun x => !x.1) && (backToKw cpos (keywordEach [] X.env)).all (fun x => x.1.isSome)
      && decide ((e :: es).length + ([] : List Keyword).length + (if ([] : List Keyword).isEmpty then 0 else 1) < 30)) = true := by rfl)
    (hline : (apos.endLine == cpos.line) = true := by rfl) (hs : starEach (e :: es) X.env = (false, eval e X.env) :: starEach es X.env := by rfl) (hplain : (backTo cpos (starEach es X.env)).any (·.1) = false := by rfl) :
    PE X (.Call (.Attribute o name apos) (e :: es) [] cpos) (tBM X.K T r to t) := by
  intro pins s σ H Q I h
  refine wpAny_Call_method_late hbase hfew hline rfl (thn (ho pins s σ H _ I h) fun v s1 ⟨x, H1, I1, r1, ty, q1⟩ => ?_)
  obtain ⟨h1, h2⟩ := tyV_is I1 r1 ty
  refine ⟨T, id, pa, slot, hty, h1, h2, ?_⟩
  have hA := ha cpos pins s1 σ H1 _ I1 q1
  rw [hs] at hA ⊢
  refine Calls.callWith_builtin (by show (false || (backTo cpos (starEach es X.env)).any (·.1)) = false; rw [hplain] <;> rfl) (Calls.evalArgs_plain ?_)
  exact thn hA fun us s2 ⟨vs, H2, I2, r2, q2⟩ => hm pins s2 σ H2 x vs v us Q I2 r1 r2 q2
end
end L2

namespace L2
open PySem PySem.Spec PyProof.Rows

def MtM (X : Cx) (id : String) (r : V → List V → Hp → VK → Prop) : Prop :=
  ∀ (pins : List (Addr × Obj)) (s : Shared) (σ : St) (H : Hp) (x : V) (xs : List V) (v : Value) (us : List Value) (Q : VK), Inv X pins σ H s → RelV x v → Vals xs us → r x xs H Q →
    wpAny (model X.prog X.w) X.A (call (.builtin id) (v :: us)) (EP X pins σ Q) X.xe s

theorem Vals.one : ∀ {x : V} {us : List Value}, Vals [x] us → ∃ u, us = [u] ∧ RelV x u
  | _, _, .cons r .nil => ⟨_, rfl, r⟩
theorem Vals.two : ∀ {x y : V} {us : List Value}, Vals [x, y] us → ∃ u v, us = [u, v] ∧ RelV x u ∧ RelV y v
  | _, _, _, .cons r (.cons q .nil) => ⟨_, _, rfl, r, q⟩
theorem Vals.zero : ∀ {us : List Value}, Vals [] us → us = []
  | _, .nil => rfl
theorem Vals.dropLast {xs : List V} {us : List Value} (h : Vals xs us) : Vals xs.dropLast us.dropLast := by
  induction h with
  | nil => exact .nil
  | cons r t ih =>
    cases t with
    | nil => exact .nil
    | cons q t' => exact .cons r ih
theorem Vals.eraseIdx : ∀ {xs : List V} {us : List Value} (i : Nat), Vals xs us → Vals (xs.eraseIdx i) (us.eraseIdx i)
  | _, _, _, .nil => .nil
  | _, _, 0, .cons _ t => t
  | _, _, i + 1, .cons r t => .cons r (Vals.eraseIdx i t)
theorem Vals.reverse {xs : List V} {us : List Value} (h : Vals xs us) : Vals xs.reverse us.reverse := by
  induction h with
  | nil => exact .nil
  | cons r t ih => rw [List.reverse_cons, List.reverse_cons]; exact Vals.append ih (.cons r .nil)
theorem erase_last {α : Type} (l : List α) : l.eraseIdx (l.length - 1) = l.dropLast := by
  induction l with
  | nil => rfl
  | cons a r ih =>
    cases r with
    | nil => rfl
    | cons b r =>
      have e : (a :: b :: r).length - 1 = ((b :: r).length - 1) + 1 := by
        have h1 : (a :: b :: r).length = r.length + 2 := rfl
        have h2 : (b :: r).length = r.length + 1 := rfl
        omega
      rw [e, List.eraseIdx_cons_succ, ih]
      all_goals rfl
section
variable {X : Cx} {pins : List (Addr × Obj)} {σ : St} {H : Hp} {s : Shared} {l b : Addr} {xs ys zs : List V}

theorem Inv.lset {its its' : List Value} {n : Nat} {f : Array Value → Array Value} {t' : Nat} (I : Inv X pins σ H s) (hH : H l = some (.lst xs))
    (e : s.heap.get? l = some { cls := .type "list", data := .seq its.toArray n }) (hf : f its.toArray = its'.toArray) (hv : Vals ys its') (hz : ys.length ≤ sizeLine) :
    Inv X pins σ (upd H l (.lst ys)) { s with heap := s.heap.update l (Obj.mapSeq f), toks := t' } := by
  have q := PySem.IsL.update e f
  rw [hf] at q
  refine I.write (x := l) (e := l) (by rw [hH]; exact trivial) (.inl rfl) (fun b' u hb hu => (Heap.get?_update_other s.heap (Obj.mapSeq f) (Ne.symm hb)).trans hu) ⟨_, q⟩ ?_
  exact ⟨hz, its', _, hv, q⟩
theorem Inv.lnew {its : List Value} {t' : Nat} (I : Inv X pins σ H s) (hv : Vals ys its) (hz : ys.length ≤ sizeLine) :
    Inv X pins σ (upd H s.heap.objs.size (.lst ys)) { s with heap := s.heap.push { cls := .type "list", data := .seq its.toArray }, toks := t' } :=
  I.laid (fun _ _ q => Heap.get?_push_of_some _ q) (Nat.le_refl _) ⟨hz, its, 0, hv, Heap.get?_push_size _ rfl⟩
theorem Inv.fresh (I : Inv X pins σ H s) : H s.heap.objs.size = none := I.hok.fresh (Nat.le_refl _)
theorem Inv.lstM (I : Inv X pins σ H s) (hH : H l = some (.lst xs)) : xs.length ≤ sizeLine ∧ ∃ (its : List Value) (n : Nat), Vals xs its ∧ xs.length = its.length ∧ s.heap.get? l = some { cls := .type "list", data := .seq its.toArray n } := by
  obtain ⟨z, its, n, r, e⟩ := I.hok l _ hH
  exact ⟨z, its, n, r, r.length, e⟩

theorem notLongL {n : Nat} (h : n ≤ sizeLine) : Builtin.List.listTooLong n = false := by
  unfold Builtin.List.listTooLong
  exact decide_eq_false (by omega)
end

section
variable {X : Cx}

def rAppend : V → List V → Hp → VK → Prop := fun x vs H Q => ∃ l xs y, x = .ref l ∧ vs = [y] ∧ H l = some (.lst xs) ∧ xs.length < sizeLine ∧ Q .non (upd H l (.lst (xs ++ [y])))
theorem mt_append : MtM X "list.append" rAppend := by
  intro pins s σ H x vs v us Q I rx rv h
  obtain ⟨l, xs, y, rfl, rfl, hH, hz, q⟩ := h
  cases rx
  obtain ⟨u, rfl, ru⟩ := rv.one
  obtain ⟨z, its, n, r, hl, e⟩ := I.lstM hH
  refine call_meets F.slot_list_append ⟨_, e, rfl⟩ F.entry_list_append (F.args_list_append_2 _ _) (PySem.list_append l its.toArray n u (by rw [List.size_toArray]; omega)) ⟨e, ?_⟩
  refine ⟨.non, _, I.lset (its' := its ++ [u]) hH e (by simp) (r.append (.cons ru .nil)) ?_, rfl, q⟩
  rw [List.length_append, List.length_singleton]
  omega

def rExtend : V → List V → Hp → VK → Prop := fun x vs H Q => ∃ l b xs zs, x = .ref l ∧ vs = [.ref b] ∧ H l = some (.lst xs) ∧ H b = some (.lst zs) ∧ xs.length + zs.length ≤ sizeLine ∧ Q .non (upd H l (.lst (xs ++ zs)))
theorem mt_extend : MtM X "list.extend" rExtend := by
  intro pins s σ H x vs v us Q I rx rv h
  obtain ⟨l, b, xs, zs, rfl, rfl, hH, hB, hz, q⟩ := h
  cases rx
  obtain ⟨u, rfl, ru⟩ := rv.one
  cases ru
  obtain ⟨z, its, n, r, hl, e⟩ := I.lstM hH
  obtain ⟨z2, its2, n2, r2, hl2, e2⟩ := I.lstM hB
  have hsz : its.toArray.size + its2.toArray.size ≤ sizeLine := by rw [List.size_toArray, List.size_toArray]; omega
  have hlong : ¬ (!its.toArray.isEmpty && Builtin.List.listTooLong (its.toArray.size + its2.toArray.size)) = true := by
    rw [notLongL hsz, Bool.and_false]
    exact Bool.false_ne_true
  refine call_meets F.slot_list_extend ⟨_, e, rfl⟩ F.entry_list_extend (F.args_list_extend_2 _ _)
    (AutoSeq1.list_extend_list_list_0 l its.toArray n b its2.toArray n2 hlong (by rw [List.size_toArray]; omega) (by omega)) ⟨e, e2, ?_⟩
  refine ⟨.non, _, I.lset (its' := its ++ its2) hH e (by simp) (r.append r2) ?_, rfl, q⟩
  rw [List.length_append]
  omega

def rPop : V → List V → Hp → VK → Prop := fun x vs H Q => ∃ l xs y, x = .ref l ∧ vs = [] ∧ H l = some (.lst xs) ∧ xs[xs.length - 1]? = some y ∧ Q y (upd H l (.lst xs.dropLast))
theorem mt_pop : MtM X "list.pop" rPop := by
  intro pins s σ H x vs v us Q I rx rv h
  obtain ⟨l, xs, y, rfl, rfl, hH, hy, q⟩ := h
  cases rx
  have hus := rv.zero
  subst hus
  obtain ⟨z, its, n, r, hl, e⟩ := I.lstM hH
  obtain ⟨u, hu, ru⟩ := r.get hy
  have hy' : its.toArray[its.toArray.size - 1]? = some u := by
    show its.toArray[its.length - 1]? = some u
    rw [← Array.getElem?_toList, ← hl]
    exact hu
  refine call_meets F.slot_list_pop ⟨_, e, rfl⟩ F.entry_list_pop (F.args_list_pop_1 _) (MeetsSeq.list_pop_last l its.toArray n u hy' (by rw [List.size_toArray]; omega)) ⟨e, ?_⟩
  refine ⟨y, _, I.lset (its' := its.dropLast) hH e ?_ r.dropLast ?_, ru, q⟩
  · show its.toArray.eraseIdxIfInBounds (its.toArray.size - 1) = its.dropLast.toArray
    rw [List.size_toArray, List.eraseIdxIfInBounds_toArray, erase_last]
  · rw [List.length_dropLast]
    omega

def rCat : R2 := fun x y H Q => ∃ l b xs zs, x = .ref l ∧ y = .ref b ∧ H l = some (.lst xs) ∧ H b = some (.lst zs) ∧ xs.length + zs.length ≤ sizeLine ∧ ∀ p, H p = none → Q (.ref p) (upd H p (.lst (xs ++ zs)))
theorem op_cat : OpR X (binaryOp .Add) rCat := by
  intro pins s σ H x y v u Q I rx ry h
  obtain ⟨l, b, xs, zs, rfl, rfl, hH, hB, hz, q⟩ := h
  cases rx
  cases ry
  obtain ⟨z, its, n, r, hl, e⟩ := I.lstM hH
  obtain ⟨z2, its2, n2, r2, hl2, e2⟩ := I.lstM hB
  refine PySem.P.add_list e e2 ?_ (by rw [List.size_toArray, List.size_toArray]; omega)
  have ea : its.toArray ++ its2.toArray = (its ++ its2).toArray := by simp
  rw [ea]
  exact ⟨.ref _, _, I.lnew (t' := s.toks) (r.append r2) (by rw [List.length_append]; omega), rfl, q _ I.fresh⟩
end

section
variable {prog : Program} {w : World} {A : Around} {E : Value → Shared → Prop} {s : Shared}
end

section
variable {X : Cx}
end
end L2

namespace L2
open PySem PySem.Spec PyProof.Rows

theorem Vals.ints : ∀ {ns : List Int} {us : List Value}, Vals (ns.map V.int) us → IntsAre us ns
  | [], us, h => by
    rw [List.map_nil] at h
    cases h
    exact IntsAre.nil
  | n :: ns, us, h => by
    rw [List.map_cons] at h
    cases h with
    | cons r t =>
      obtain ⟨k, rfl⟩ := r
      exact IntsAre.cons n k (Vals.ints t)
theorem Vals.strs : ∀ {xs : List Str} {us : List Value}, Vals (xs.map V.str) us → StrsAre us xs
  | [], us, h => by
    rw [List.map_nil] at h
    cases h
    exact StrsAre.nil
  | x :: xs, us, h => by
    rw [List.map_cons] at h
    cases h with
    | cons r t =>
      obtain ⟨k, rfl⟩ := r
      exact StrsAre.cons x k (Vals.strs t)
theorem vals_of_strs : ∀ {us : List Value} {xs : List Str}, StrsAre us xs → Vals (xs.map V.str) us
  | _, _, .nil => by rw [List.map_nil]; exact Paired.nil
  | _, _, .cons x t h => by rw [List.map_cons]; exact Paired.cons (show RelV (V.str x) (Value.str x t) from ⟨t, rfl⟩) (vals_of_strs h)
theorem Vals.ref1 {a : Addr} {us : List Value} (r : Vals [V.ref a] us) : us = [Value.ref a] := by
  cases r with
  | cons r t =>
    cases t
    cases r
    rfl
section
variable {prog : Program} {w : World} {A : Around} {E : Value → Shared → Prop} {s : Shared} {l : Addr} {its : List Value} {ns : List Int} {Q : Value → Shared → Prop}
theorem max_raw (hh : A.handled = none) (hl : s.heap.IsList l its.toArray) (hi : IntsAre its ns) (hne : 0 < ns.length)
    (h : ∀ h' tk M t', (∀ b o, s.heap.get? b = some o → h'.get? b = some o) → M ∈ ns → (∀ a, a ∈ ns → a ≤ M) → Q (.int M t') { s with heap := h', toks := tk }) : wpAny (model prog w) A (call (.builtin "max") [.ref l]) Q E s := by
  obtain ⟨xs, e⟩ := hi.allInts.items
  have hn : numsOf (intItems xs).toList = ns := by rw [← e]; exact hi.numsOf
  rw [nums_intItems] at hn
  subst hn
  rw [e] at hl
  have hsz : 0 < xs.size := by simpa using hne
  refine PySem.max_intList hh hl hsz fun v h' tk hv hk => ?_
  obtain ⟨t, rfl⟩ := intItems_at hv
  obtain ⟨h1, h2⟩ := argBest_gt (numAt xs) (xs.size - 1)
  refine h h' tk _ t hk ?_ fun a ha => ?_
  · rw [numAt_eq]; exact PySem.getD_mem (by rw [List.length_map, Array.length_toList]; omega)
  · obtain ⟨j, hj, rfl⟩ := mem_getD ha
    rw [List.length_map, Array.length_toList] at hj
    rw [← numAt_eq]; exact h2 j (by omega)
end

section
variable {X : Cx}
/-- max(xs), min(xs) of a list of ints -/
def rMax (K : PySem.W.Frag) : List V → Hp → VK → Prop := fun vs H Q => ∃ (a : Addr) (ns : List Int), vs = [V.ref a] ∧ SqL K H a (ns.map V.int) ∧ 0 < ns.length ∧ ∀ m, m ∈ ns → (∀ y, y ∈ ns → y ≤ m) → Q (.int m) H
theorem cr_max (hc : X.calm = true) : CallR X (.builtin "max") (rMax X.K) := by
  intro pins s σ H vs us Q I r h
  obtain ⟨a, ns, rfl, hs, hne, q⟩ := h
  obtain ⟨its, rv, hl, _⟩ := I.list hs
  rw [Vals.ref1 r]
  exact max_raw (I.ok.hd hc) hl.isList rv.ints hne fun h' tk m t' hk h1 h2 => ⟨.int _, H, I.kept hk, ⟨_, rfl⟩, q m h1 h2⟩
end

section
variable {X : Cx}
end

section
variable {X : Cx}
end

section
variable {X : Cx}
end

mutual
inductive Dp (K : PySem.W.Frag) (H : Hp) : V → PyData → Prop
  | non : Dp K H .non .none
  | bl (b : Bool) : Dp K H (.bl b) (.bool b)
  | int (i : Int) : Dp K H (.int i) (.int i)
  | str (x : Str) : Dp K H (.str x) (.str x)
  | lst {a : Addr} {xs : List V} {ds : List PyData} : SqL K H a xs → DpAll K H xs ds → Dp K H (.ref a) (.list ds)
  | tup {a : Addr} {xs : List V} {ds : List PyData} : SqT K H a xs → DpAll K H xs ds → Dp K H (.ref a) (.tuple ds)
inductive DpAll (K : PySem.W.Frag) (H : Hp) : List V → List PyData → Prop
  | nil : DpAll K H [] []
  | cons {v : V} {vs : List V} {d : PyData} {ds : List PyData} : Dp K H v d → DpAll K H vs ds → DpAll K H (v :: vs) (d :: ds)
end
section
variable {X : Cx} {pins : List (Addr × Obj)} {σ : St} {H : Hp} {s : Shared}
mutual
theorem Dp.reads (I : Inv X pins σ H s) : ∀ (d : PyData) (v : V) (u : Value), Dp X.K H v d → RelV v u → ∃ as, Reads s.heap u d as
  | .none, _, _, h, r => by
    cases h
    cases r
    exact ⟨_, Reads.none⟩
  | .bool b, _, _, h, r => by
    cases h
    cases r
    exact ⟨_, Reads.bool b⟩
  | .int i, _, _, h, r => by
    cases h
    obtain ⟨t, rfl⟩ := r
    exact ⟨_, Reads.int i t⟩
  | .str x, _, _, h, r => by
    cases h
    obtain ⟨t, rfl⟩ := r
    exact ⟨_, Reads.str x t⟩
  | .list ds, _, _, h, r => by
    cases h with
    | lst hs ha =>
      cases r
      obtain ⟨its, rv, ⟨o, n, ho, hc, _, hd⟩, _⟩ := I.list hs
      obtain ⟨as, hr⟩ := Dp.readsAll I ds _ its ha rv
      exact ⟨_, Reads.list ho hc hd hr⟩
  | .tuple ds, _, _, h, r => by
    cases h with
    | tup hs ha =>
      cases r
      obtain ⟨its, rv, ⟨o, ho, hc, n, hd⟩, _⟩ := I.tuple hs
      obtain ⟨as, hr⟩ := Dp.readsAll I ds _ its ha rv
      exact ⟨_, Reads.tuple ho hc hd hr⟩
  | .dict _, _, _, h, _ => by cases h
theorem Dp.readsAll (I : Inv X pins σ H s) : ∀ (ds : List PyData) (vs : List V) (us : List Value), DpAll X.K H vs ds → Vals vs us → ∃ as, ReadsAll s.heap us ds as
  | [], _, _, h, r => by
    cases h
    cases r
    exact ⟨_, ReadsAll.nil⟩
  | d :: ds, _, _, h, r => by
    cases h with
    | cons h1 h2 =>
      cases r with
      | cons r1 r2 =>
        obtain ⟨as, q1⟩ := Dp.reads I d _ _ h1 r1
        obtain ⟨bs, q2⟩ := Dp.readsAll I ds _ _ h2 r2
        exact ⟨_, ReadsAll.cons q1 q2⟩
end
end
section
variable {X : Cx}
def rNeD (K : PySem.W.Frag) : R2 := fun x y H Q => ∃ d e, Dp K H x d ∧ Dp K H y e ∧ SeqAt.shaped d = true ∧ SeqAt.shaped e = true ∧ Q (.bl (!PyData.eqv d e)) H
theorem op_neD (hu : X.A.units + 64 < cLine) : OpR X (compareOp .NotEq) (rNeD X.K) := by
  intro pins s σ H x y v u Q I rx ry h
  obtain ⟨d, e, hd, he, sd, se, q⟩ := h
  obtain ⟨as, r1⟩ := Dp.reads I d x v hd rx
  obtain ⟨bs, r2⟩ := Dp.reads I e y u he ry
  exact SeqAt.compareNe_shaped r1 r2 sd se hu ⟨.bl _, H, I, rfl, q⟩
end
end L2

namespace L2
open PySem PySem.Spec PyProof.Rows
abbrev CellAt (h : Heap) (c : Addr) (v : Option Value) : Prop := h.IsCell c v
def relS (scope sc : Scope) : Scope :=
  { scope with names := scope.names.map fun (n, k) => if (k == .free && sc.kind == .function && sc.names.lookup n == some .cell) then (n, .cell) else (n, k) }

def cloFrom (cells : List (Str × Addr)) : List (Str × NameKind) → List (Str × Addr) → List (Str × Addr)
  | [], acc => acc
  | (n, k) :: r, acc => if k == .free then cloFrom cells r ((n, (cells.lookup n).getD 0) :: acc) else cloFrom cells r acc

theorem closure_loop (env : Env) (f : Str × NameKind → List (Str × Addr) → Sem (ForInStep (List (Str × Addr))))
    (hf : ∀ n k c, f (n, k) c = if k == .free then (do let a ← cellOf env n; pure (.yield ((n, a) :: c))) else pure (.yield c)) :
    ∀ (names : List (Str × NameKind)) (acc : List (Str × Addr)), (∀ y ∈ names, y.2 = .free → ∃ c, env.cells.lookup y.1 = some c) → forIn names acc f = pure (cloFrom env.cells names acc)
  | [], acc, _ => by rw [List.forIn_nil]; rfl
  | (n, k) :: r, acc, h => by
    rw [List.forIn_cons, hf]
    have ih := fun acc => closure_loop env f hf r acc fun y hy => h y (List.mem_cons_of_mem _ hy)
    unfold cloFrom
    by_cases hk : (k == NameKind.free) = true
    · rw [if_pos hk, if_pos hk]
      obtain ⟨c, hc⟩ := h (n, k) List.mem_cons_self (by simpa using hk)
      have e : cellOf env n = pure c := by unfold cellOf; rw [hc]
      rw [e]
      have e2 : (env.cells.lookup n).getD 0 = c := by rw [hc]; rfl
      rw [e2]
      exact ih _
    · rw [if_neg hk, if_neg hk]
      exact ih _
theorem closure_ok {scope : Scope} {env : Env} (h : ∀ y ∈ scope.names, y.2 = .free → ∃ c, env.cells.lookup y.1 = some c) : closureFor scope env = pure (cloFrom env.cells scope.names []) := by
  simp only [closureFor]
  rw [closure_loop env _ (fun n k c => rfl) scope.names [] h]
  rfl

theorem mem_lookup {α : Type} : ∀ {l : List (Str × α)} {n : Str} {c : α}, (n, c) ∈ l → ∃ c', l.lookup n = some c'
  | (k, v) :: r, n, c, h => by
    rw [List.lookup_cons]
    cases hb : n == k with
    | true => exact ⟨_, rfl⟩
    | false =>
      rcases List.mem_cons.mp h with e | h
      · cases e; simp at hb
      · exact mem_lookup h

theorem cloFrom_mem {cells : List (Str × Addr)} : ∀ {names : List (Str × NameKind)} {acc : List (Str × Addr)} {n : Str} {c : Addr}, (n, c) ∈ cloFrom cells names acc → (n, c) ∈ acc ∨ ((n, .free) ∈ names ∧ c = (cells.lookup n).getD 0)
  | [], _, _, _, h => .inl h
  | (m, k) :: r, acc, n, c, h => by
    unfold cloFrom at h
    split at h
    · rename_i hk
      have hk : k = .free := by simpa using hk
      rcases cloFrom_mem h with h | ⟨h1, h2⟩
      · rcases List.mem_cons.mp h with e | h
        · cases e; exact .inr ⟨hk ▸ List.mem_cons_self, rfl⟩
        · exact .inl h
      · exact .inr ⟨List.mem_cons_of_mem _ h1, h2⟩
    · rcases cloFrom_mem h with h | ⟨h1, h2⟩
      · exact .inl h
      · exact .inr ⟨List.mem_cons_of_mem _ h1, h2⟩
theorem cloFrom_acc {cells : List (Str × Addr)} : ∀ {names : List (Str × NameKind)} {acc : List (Str × Addr)} {p : Str × Addr}, p ∈ acc → p ∈ cloFrom cells names acc
  | [], _, _, h => h
  | (m, k) :: r, acc, p, h => by
    unfold cloFrom
    split
    · exact cloFrom_acc (List.mem_cons_of_mem _ h)
    · exact cloFrom_acc h
theorem cloFrom_has {cells : List (Str × Addr)} : ∀ {names : List (Str × NameKind)} {acc : List (Str × Addr)} {n : Str}, (n, .free) ∈ names → (n, (cells.lookup n).getD 0) ∈ cloFrom cells names acc
  | (m, k) :: r, acc, n, h => by
    unfold cloFrom
    rcases List.mem_cons.mp h with e | h
    · cases e
      exact cloFrom_acc List.mem_cons_self
    · split
      · exact cloFrom_has h
      · exact cloFrom_has h

theorem cells_mem : ∀ {names : List (Str × NameKind)} {h : Heap} {acc : List (Str × Addr)} {x : Str} {c : Addr}, (x, c) ∈ cellsFrom h.objs.size names acc →
    (x, c) ∈ acc ∨ ((x, .cell) ∈ names ∧ h.objs.size ≤ c ∧ CellAt (pushCells h names) c none)
  | [], _, _, _, _, h => .inl h
  | (n, k) :: r, h, acc, x, c, hm => by
    unfold cellsFrom at hm
    unfold pushCells
    split at hm
    · rename_i hk
      rw [if_pos hk]
      have hk : k = .cell := by simpa using hk
      rw [← Heap.size_push h { cls := .type "cell", data := .cell none }] at hm
      rcases cells_mem hm with hm | ⟨h1, h2, h3⟩
      · rcases List.mem_cons.mp hm with e | hm
        · cases e
          exact .inr ⟨hk ▸ List.mem_cons_self, Nat.le_refl _, _, pushCells_keeps r _ _ _ (Heap.get?_push_size _ rfl), rfl⟩
        · exact .inl hm
      · rw [Heap.size_push] at h2
        exact .inr ⟨List.mem_cons_of_mem _ h1, Nat.le_of_succ_le h2, h3⟩
    · rename_i hk
      rw [if_neg hk]
      rcases cells_mem hm with hm | ⟨h1, h2, h3⟩
      · exact .inl hm
      · exact .inr ⟨List.mem_cons_of_mem _ h1, h2, h3⟩
theorem cells_acc : ∀ {names : List (Str × NameKind)} {n : Nat} {acc : List (Str × Addr)} {p : Str × Addr}, p ∈ acc → p ∈ cellsFrom n names acc
  | [], _, _, _, h => h
  | (m, k) :: r, n, acc, p, h => by
    unfold cellsFrom
    split
    · exact cells_acc (List.mem_cons_of_mem _ h)
    · exact cells_acc h
theorem cells_has : ∀ {names : List (Str × NameKind)} {n : Nat} {acc : List (Str × Addr)} {x : Str}, (x, .cell) ∈ names → ∃ c, (x, c) ∈ cellsFrom n names acc
  | (m, k) :: r, n, acc, x, h => by
    unfold cellsFrom
    rcases List.mem_cons.mp h with e | h
    · cases e
      exact ⟨n, cells_acc List.mem_cons_self⟩
    · split
      · exact cells_has h
      · exact cells_has h
theorem cells_inj : ∀ {names : List (Str × NameKind)} {h : Heap} {acc : List (Str × Addr)} {x y : Str} {c : Addr}, (∀ p ∈ acc, p.2 < h.objs.size) → (∀ x y c, (x, c) ∈ acc → (y, c) ∈ acc → x = y) →
    (x, c) ∈ cellsFrom h.objs.size names acc → (y, c) ∈ cellsFrom h.objs.size names acc → x = y
  | [], _, _, _, _, _, _, hi, h1, h2 => hi _ _ _ h1 h2
  | (n, k) :: r, h, acc, x, y, c, hl, hi, h1, h2 => by
    unfold cellsFrom at h1 h2
    split at h1
    · rename_i hk
      rw [if_pos hk] at h2
      rw [← Heap.size_push h { cls := .type "cell", data := .cell none }] at h1 h2
      refine cells_inj (h := h.push _) (fun p hp => ?_) (fun x y c a b => ?_) h1 h2
      · rw [Heap.size_push]
        rcases List.mem_cons.mp hp with rfl | hp
        · exact Nat.lt_succ_self _
        · exact Nat.lt_succ_of_lt (hl p hp)
      · rcases List.mem_cons.mp a with e | a <;> rcases List.mem_cons.mp b with e' | b
        · cases e; cases e'; rfl
        · cases e; exact absurd (hl _ b) (Nat.lt_irrefl _)
        · cases e'; exact absurd (hl _ a) (Nat.lt_irrefl _)
        · exact hi _ _ _ a b
    · rename_i hk
      rw [if_neg hk] at h2
      exact cells_inj hl hi h1 h2

theorem newEnv_comp {M : Model} {A : Around} {E : Value → Shared → Prop} {s : Shared} {scope : Scope} {globals : Addr} {closure : List (Str × Addr)} {qual : Str} {func : Option Addr} {code : Value} {around : Env} {builtins : Addr} {Q : Env → Shared → Prop}
    (h : Q (newEnv scope s.heap.objs.size globals (cellsFrom (s.heap.objs.size + 1) scope.names closure) qual func code (some around) builtins)
      { s with heap := pushCells (s.heap.push { cls := .type "dict", data := .dict #[] }) scope.names }) :
    wpAny M A (newFunctionEnv scope globals closure [] qual func code (some around) builtins) Q E s := by
  simp only [newFunctionEnv, Option.isSome_some, if_true]
  refine wpAny_bind (wpAny_alloc ?_)
  refine wpAny_bind (wpAny_layCells _ (fun n k c => rfl) scope.names closure _ _ ?_)
  rw [show ({ s with heap := s.heap.push { cls := .type "dict", data := .dict #[] } } : Shared).heap.objs.size = s.heap.objs.size + 1 from Heap.size_push ..]
  rw [List.forIn_nil]
  exact wpAny_bind (wpAny_pure (wpAny_pure h))

/-- every name of the written scope, in the scope that runs -/
theorem lookup_relS {sc : Scope} : ∀ {names : List (Str × NameKind)} {x : Str} {k : NameKind},
    (names.map fun (n, k) => if (k == NameKind.free && sc.kind == .function && sc.names.lookup n == some .cell) then (n, NameKind.cell) else (n, k)).lookup x = some k →
    ∃ k', names.lookup x = some k' ∧ (k = k' ∨ (k' = .free ∧ k = .cell))
  | [], _, _, h => by simp at h
  | (n, k₀) :: r, x, k, h => by
    have ih := @lookup_relS sc r x k
    have h' : List.lookup x ((if (k₀ == NameKind.free && sc.kind == .function && sc.names.lookup n == some .cell) = true then (n, NameKind.cell) else (n, k₀)) :: (r.map _)) = some k := h
    cases hx : x == n with
    | true =>
      simp only [List.lookup_cons, hx]
      by_cases hc : (k₀ == NameKind.free && sc.kind == .function && sc.names.lookup n == some .cell) = true
      · rw [if_pos hc] at h'
        simp only [List.lookup_cons, hx] at h'
        cases h'
        simp only [Bool.and_eq_true, beq_iff_eq] at hc
        exact ⟨k₀, rfl, .inr ⟨hc.1.1, rfl⟩⟩
      · rw [if_neg hc] at h'
        simp only [List.lookup_cons, hx] at h'
        cases h'
        exact ⟨_, rfl, .inl rfl⟩
    | false =>
      simp only [List.lookup_cons, hx]
      by_cases hc : (k₀ == NameKind.free && sc.kind == .function && sc.names.lookup n == some .cell) = true
      · rw [if_pos hc] at h'
        simp only [List.lookup_cons, hx] at h'
        exact ih h'
      · rw [if_neg hc] at h'
        simp only [List.lookup_cons, hx] at h'
        exact ih h'
/-- the names of a comprehension's block: its own (with their places in N), or captured -/
structure BlkOk (N : List Str) (sc scope : Scope) (own : List (Str × Nat)) : Prop where
  kind : scope.kind = .function
  uniq : ∀ y ∈ scope.names, scope.names.lookup y.1 = some y.2
  ix : ∀ p ∈ own, N[p.2]? = some p.1
  free : ∀ y ∈ scope.names, y.2 = .free → sc.names.lookup y.1 = some .cell ∨ sc.names.lookup y.1 = some .free
  own : ∀ y ∈ scope.names, y.2 = .local ∨ y.2 = .cell → y.1 ∈ own.map (·.1) ∨ y.1 ∉ N
/-- the slots of the block's own names forgotten -/
def wipe (σ : St) : List Nat → St
  | [] => σ
  | v :: vs => (wipe σ vs).set v none
theorem wipe_length (σ : St) : ∀ vs : List Nat, (wipe σ vs).length = σ.length
  | [] => rfl
  | v :: vs => by unfold wipe; rw [List.length_set, wipe_length σ vs]
theorem wipe_some {σ : St} {i : Nat} {x : V} : ∀ {vs : List Nat}, (wipe σ vs)[i]? = some (some x) → σ[i]? = some (some x) ∧ i ∉ vs
  | [], h => ⟨h, by simp⟩
  | v :: vs, h => by
    unfold wipe at h
    by_cases hi : v = i
    · subst hi
      by_cases hv : v < (wipe σ vs).length
      · rw [List.getElem?_set_self hv] at h; cases h
      · rw [List.getElem?_eq_none (by simpa using hv)] at h; cases h
    · rw [List.getElem?_set_ne hi] at h
      obtain ⟨h1, h2⟩ := wipe_some h
      exact ⟨h1, by simp only [List.mem_cons, not_or]; exact ⟨fun e => hi e.symm, h2⟩⟩

/-- the context of a block that starts at s, its iterator's objects at fp -/
abbrev Cx.blk (X : Cx) (s : Shared) (H : Hp) (scope : Scope) (cenv : Env) (fp : List Addr) : Cx := { X with s_0 := s, H_0 := H, env := cenv, outer := X.stack, ex := fp, fn := fun x => scope.names.lookup x == some .cell, pn := [], xe := fun _ _ => False }
section
variable {X : Cx} {pins : List (Addr × Obj)} {σ : St} {H : Hp} {s : Shared}
theorem block_start {scope : Scope} {own : List (Str × Nat)} {fp : List Addr} (I : Inv X pins σ H s) (ok : BlkOk X.N X.env.scope scope own) (hN : X.N.Nodup) (hfp : ∀ b ∈ fp, FpOk X pins H b ∧ b < s.heap.objs.size) :
    Inv (X.blk s H scope (compEnvC scope (cellsFrom (s.heap.objs.size + 1) scope.names (cloFrom X.env.cells scope.names [])) s.heap.objs.size X.env) fp) [] (wipe σ (own.map (·.2))) H { s with heap := pushCells (s.heap.push { cls := .type "dict", data := .dict #[] }) scope.names } := by
  have hfree : ∀ y ∈ scope.names, y.2 = .free → ∃ c, X.env.cells.lookup y.1 = some c := fun y hy e => by
    rcases ok.free y hy e with k | k
    · exact I.ok.has _ (.inl k)
    · exact I.ok.has _ (.inr k)
  generalize hcenv : compEnvC scope (cellsFrom (s.heap.objs.size + 1) scope.names (cloFrom X.env.cells scope.names [])) s.heap.objs.size X.env = cenv
  have kp : ∀ b o, s.heap.get? b = some o → (pushCells (s.heap.push { cls := .type "dict", data := .dict #[] }) scope.names).get? b = some o := fun b o e => pushCells_keeps _ _ _ _ (Heap.get?_push_of_some _ e)
  have hL : cenv.locals = s.heap.objs.size := by rw [← hcenv]; rfl
  have hcl : cenv.cells = cellsFrom (s.heap.objs.size + 1) scope.names (cloFrom X.env.cells scope.names []) := by rw [← hcenv]; rfl
  have hsc : cenv.scope = relS scope X.env.scope := by rw [← hcenv]; rfl
  rw [← Heap.size_push s.heap { cls := .type "dict", data := .dict #[] }] at hcl
  have cm : ∀ {y c}, (y, c) ∈ cloFrom X.env.cells scope.names [] → X.env.cells.lookup y = some c ∧ c < s.heap.objs.size := fun {y c} hm => by
    rcases cloFrom_mem hm with hm | ⟨h1, rfl⟩
    · cases hm
    · obtain ⟨c, hc⟩ := hfree _ h1 rfl
      rw [hc]
      obtain ⟨w, z⟩ := I.cell _ _ hc
      exact ⟨rfl, z.lt⟩
  have mem : ∀ {y c}, cenv.cells.lookup y = some c → (X.env.cells.lookup y = some c ∧ c < s.heap.objs.size) ∨ (s.heap.objs.size + 1 ≤ c ∧ CellAt (pushCells (s.heap.push { cls := .type "dict", data := .dict #[] }) scope.names) c none) := fun {y c} e => by
    rw [hcl] at e
    rcases cells_mem (PySem.mem_of_lookup e) with hm | ⟨_, h2, h3⟩
    · exact .inl (cm hm)
    · rw [Heap.size_push] at h2; exact .inr ⟨h2, h3⟩
  have look : ∀ {y}, scope.names.lookup y = some .free → ∃ c, cenv.cells.lookup y = some c ∧ X.env.cells.lookup y = some c := fun {y} hl => by
    have hy : (y, NameKind.free) ∈ scope.names := PySem.mem_of_lookup hl
    obtain ⟨c', e'⟩ := mem_lookup (cells_acc (names := scope.names) (n := (s.heap.push { cls := .type "dict", data := .dict #[] }).objs.size) (cloFrom_has (cells := X.env.cells) (acc := []) hy))
    rw [← hcl] at e'
    refine ⟨c', e', ?_⟩
    rw [hcl] at e'
    rcases cells_mem (PySem.mem_of_lookup e') with hm | ⟨h1, _, _⟩
    · exact (cm hm).1
    · have := ok.uniq _ h1
      rw [hl] at this; cases this
  have okB : (X.blk s H scope cenv fp).Ok := by
    refine ⟨I.ok.mod, by show cenv.scope.kind = _; rw [hsc]; exact ok.kind, by show cenv.globals = _; rw [← hcenv]; exact I.ok.glob, by show cenv.builtins = _; rw [← hcenv]; exact I.ok.blt, by show s.heap.objs.size ≤ cenv.locals; rw [hL]; exact Nat.le_refl _,
      fun y z c e1 e2 => ?_, fun y hy => ?_, fun y c z e => ?_, I.ok.hd, I.ok.frames, .inl rfl, fun b hb => ⟨?_, fun y c e z => ?_⟩, I.bs, Nat.le_trans I.ok.bsz I.sz, fun b o e hb => ?_, fun b hb z => ?_, I.stack, I.stkFree⟩
    · have e1 : cenv.cells.lookup y = some c := e1
      have e2 : cenv.cells.lookup z = some c := e2
      rw [hcl] at e1 e2
      refine cells_inj (fun p hp => ?_) (fun y z c a b => I.ok.inj y z c (cm a).1 (cm b).1) (PySem.mem_of_lookup e1) (PySem.mem_of_lookup e2)
      rw [Heap.size_push]
      exact Nat.lt_succ_of_lt (cm (y := p.1) (c := p.2) hp).2
    · show ∃ c, cenv.cells.lookup y = some c
      have key : ∀ k, cenv.kindOf y = some k → (k = .cell ∨ k = .free) → ∃ c, cenv.cells.lookup y = some c := fun k hk hk' => by
        unfold Env.kindOf at hk
        rw [hsc] at hk
        obtain ⟨k', e, r⟩ := lookup_relS hk
        have : k' = .cell ∨ k' = .free := by
          rcases r with rfl | ⟨rfl, _⟩
          · exact hk'
          · exact .inr rfl
        rcases this with rfl | rfl
        · obtain ⟨c, hm⟩ := cells_has (n := (s.heap.push { cls := .type "dict", data := .dict #[] }).objs.size) (acc := cloFrom X.env.cells scope.names []) (PySem.mem_of_lookup e)
          obtain ⟨c', e'⟩ := mem_lookup hm
          exact ⟨c', by rw [hcl]; exact e'⟩
        · obtain ⟨c, h1, _⟩ := look e
          exact ⟨c, h1⟩
      rcases hy with hy | hy
      · exact key _ hy (.inl rfl)
      · exact key _ hy (.inr rfl)
    · have z : (scope.names.lookup y == some NameKind.cell) = true := z
      have z : scope.names.lookup y = some .cell := by simpa using z
      have e : cenv.cells.lookup y = some c := e
      rw [hcl] at e
      rcases cells_mem (PySem.mem_of_lookup e) with hm | ⟨_, h2, _⟩
      · rcases cloFrom_mem hm with hm | ⟨h1, _⟩
        · cases hm
        · have q := ok.uniq _ h1
          rw [z] at q; cases q
      · rw [Heap.size_push] at h2
        exact Nat.le_of_succ_le h2
    · show b ≠ cenv.locals
      rw [hL]; exact Nat.ne_of_lt (hfp b hb).2
    · have e : cenv.cells.lookup y = some c := e
      rcases mem e with ⟨h1, _⟩ | ⟨h1, _⟩
      · exact (hfp b hb).1.2.2.2.2.1 y c h1 z
      · have h2 : s.heap.objs.size + 1 ≤ b := by rw [← z]; exact h1
        exact absurd (Nat.lt_of_lt_of_le (hfp b hb).2 (Nat.le_of_succ_le h2)) (Nat.lt_irrefl _)
    · rcases (hfp b hb).1.2.2.2.1 with z | z
      · exact I.ok.noex b o e z
      · exact absurd (Nat.lt_of_lt_of_le (Heap.lt_size e) (Nat.le_trans I.ok.bsz z)) (Nat.lt_irrefl _)
    · rcases List.mem_cons.mp (I.stkSub b z) with z | z
      · exact (hfp b hb).1.2.1 z
      · exact (hfp b hb).1.2.2.1 z
  refine ⟨okB, rfl, I.bare, Un.kept kp, ⟨fun _ => none, ?_, fun i y av e1 e2 e3 => ?_⟩, fun y c e => ?_, ?_, fun y c e => ?_, fun p hp => ?_, I.hok.kept kp, by rw [wipe_length]; exact I.len⟩
  · show Heap.Ns _ cenv.locals _
    rw [hL]
    exact Heap.Ns.keeps (Heap.Ns.new ..) fun b o e => pushCells_keeps _ _ _ _ e
  · obtain ⟨e2, hne⟩ := wipe_some e2
    have hfr : scope.names.lookup y = some .free ∧ (cenv.kindOf y = some .cell ∨ cenv.kindOf y = some .free) := by
      have key : ∀ k, cenv.scope.names.lookup y = some k → k = .local ∨ k = .cell ∨ k = .free → scope.names.lookup y = some .free ∧ (cenv.kindOf y = some .cell ∨ cenv.kindOf y = some .free) := fun k hk hk' => by
        have hk0 := hk
        rw [hsc] at hk
        obtain ⟨k', e, r⟩ := lookup_relS hk
        have no : ¬ (k' = .local ∨ k' = .cell) := fun hh => by
          rcases ok.own _ (PySem.mem_of_lookup e) hh with e' | e'
          · obtain ⟨p, hp, hpy⟩ := List.mem_map.mp e'
            have e3 := ok.ix p hp
            have : p.1 = y := hpy
            rw [this] at e3
            exact hne (List.mem_map.mpr ⟨p, hp, nodup_ix hN e3 e1⟩)
          · exact e' (List.mem_of_getElem? e1)
        rcases r with rfl | ⟨rfl, rfl⟩
        · rcases hk' with rfl | rfl | rfl
          · exact absurd (.inl rfl) no
          · exact absurd (.inr rfl) no
          · exact ⟨e, .inr hk0⟩
        · exact ⟨e, .inl hk0⟩
      have e3 : Vis cenv.scope y := e3
      rcases e3 with e3 | e3 | e3
      · exact key _ e3 (.inl rfl)
      · exact key _ e3 (.inr (.inl rfl))
      · exact key _ e3 (.inr (.inr rfl))
    obtain ⟨m, hn, hl⟩ := I.loc
    have hvis : Vis X.env.scope y := (ok.free _ (PySem.mem_of_lookup hfr.1) rfl).elim (fun k => .inr (.inl k)) (fun k => .inr (.inr k))
    obtain ⟨w, r, q⟩ := hl i y av e1 e2 hvis
    refine ⟨w, r, .inr ⟨hfr.2, ?_⟩⟩
    obtain ⟨c, h1, h2⟩ := look hfr.1
    rcases q with ⟨k, _⟩ | ⟨_, c', e', z⟩
    · have k : X.env.scope.names.lookup y = some .local := k
      rcases ok.free _ (PySem.mem_of_lookup hfr.1) rfl with k' | k' <;> rw [show X.env.scope.names.lookup y = _ from k'] at k <;> cases k
    · rw [h2] at e'; cases e'
      exact ⟨c, h1, z.keeps kp⟩
  · have e : cenv.cells.lookup y = some c := e
    rcases mem e with ⟨h1, _⟩ | ⟨_, z⟩
    · obtain ⟨w, z⟩ := I.cell y c h1
      exact ⟨w, z.keeps kp⟩
    · exact ⟨_, z⟩
  · show H cenv.locals = none
    rw [hL]; exact I.hok.fresh (Nat.le_refl _)
  · have e : cenv.cells.lookup y = some c := e
    rcases mem e with ⟨h1, _⟩ | ⟨h1, _⟩
    · exact I.freeC y c h1
    · exact I.hok.fresh (Nat.le_of_succ_le h1)
  · exact absurd (show p ∈ ([] : List (Addr × Obj)) ++ [] from hp) (by simp)

/-- an item appended to a tracked list -/
theorem app_ok {E : Value → Shared → Prop} {D : Addr} {xs : List V} {y : V} {v : Value} {Q : Value → Shared → Prop} (I : Inv X pins σ H s) (hD : H D = some (.lst xs)) (hz : xs.length < sizeLine) (r : RelV y v)
    (h : ∀ s', Inv X pins σ (upd H D (.lst (xs ++ [y]))) s' → Q .none s') : wpAny (model X.prog X.w) X.A (call (.builtin "list.append") [.ref D, v]) Q E s := by
  obtain ⟨hz', its, n, ri, e⟩ := I.hok D _ hD
  have hl := ri.length
  refine append_at (hsz := by rw [List.size_toArray]; omega) e fun h' sb ho' => ?_
  refine h { s with heap := h' } (I.write (t' := s.toks) (by rw [hD]; trivial) (.inl rfl) (fun b u hb q => (sb.2 b hb).trans q) ⟨_, ho'⟩ ⟨by rw [List.length_append]; exact hz, its ++ [v], n + 1, ri.append (.cons r .nil), ?_⟩)
  rw [ho']
  simp

/-- a clause's tests -/
def PTs (X : Cx) (ifs : List Expr) (t : TT) : Prop :=
  ∀ (pins : List (Addr × Obj)) (s : Shared) (σ : St) (H : Hp) (Q : Bool → Hp → Prop), Inv X pins σ H s → t σ H Q →
    wpAny (model X.prog X.w) X.A (forIn ifs true fun c r => if r = true then do let ok ← isTrue c X.env (eval c X.env); pure (ForInStep.yield ok) else pure (ForInStep.yield r)) (TP X pins σ Q) X.xe s
def tYes : TT := fun _ H Q => Q true H
theorem pts_nil : PTs X [] tYes := fun _ _ _ H _ I h => wpAny_tests_nil ⟨H, I, h⟩
theorem pts_one {c : Expr} {t : TT} (h : PT X c t) : PTs X [c] t := fun pins s σ H Q I hw => wpAny_tests_one (h pins s σ H Q I hw)
end

theorem thnF {α : Type} {t : Sem α} {Q Q' : α → Shared → Prop} {M : Model} {A : Around} {E : Value → Shared → Prop} {s : Shared} (h : wpAny M A t Q (fun _ _ => False) s) (hQ : ∀ a s, Q a s → Q' a s) : wpAny M A t Q' E s := wpAny_mono h hQ fun _ _ z => False.elim z

/-- the loop of a list comprehension's block, the target of any form (codeAny_compLoop_tests asks a target that no tuple goes to; statement and proof follow it, PyProof/CompMap.lean:41-61, with the step letOwnedTupleGo kept) -/
theorem compLoop_any {prog : Program} {w : World} {A : Around} {R : Result → Shared → Prop} {s : Shared} {elt target iter : Expr} {ifs : List Expr} {scope : Scope} {pos : Pos} {it acc : Value} {env : Env} (I : Nat → Shared → Prop)
    (turn : ∀ n s, I n s → wpAny (model prog w) A (pyNext it) (fun r s₁ => match r with
      | none => R (.ok .next) s₁
      | some v => wpAny (model prog w) A (letOwnedTupleGo target it v) (fun _ s₁' => wpAny (model prog w) A (assign target env v) (fun _ s₂ =>
          wpAny (model prog w) A (forIn ifs true fun c r => if r = true then do let ok ← isTrue c env (eval c env); pure (ForInStep.yield ok) else pure (ForInStep.yield r)) (fun ok s₃ =>
            if ok = true then wpAny (model prog w) A (eval elt env) (fun x s₄ =>
              wpAny (model prog w) A (call (.builtin "list.append") [acc, x]) (fun _ s₅ => ∃ m, m < n ∧ I m s₅) (notedBy (model prog w) A env fun e s' => R (.error e) s') s₄) (notedBy (model prog w) A env fun e s' => R (.error e) s') s₃
            else ∃ m, m < n ∧ I m s₃) (notedBy (model prog w) A env fun e s' => R (.error e) s') s₂) (notedBy (model prog w) A env fun e s' => R (.error e) s') s₁') (notedBy (model prog w) A env fun e s' => R (.error e) s') s₁) (notedBy (model prog w) A env fun e s' => R (.error e) s') s)
    (n : Nat) (h : I n s) :
    codeAny (model prog w) A (.compLoop (.ListComp elt [⟨target, iter, ifs, 0⟩] scope pos) 0 it acc env) R s := by
  refine codeAny_loop rfl I (fun n s hI => ?_) n h
  show wpAny _ A ((compTurn (.ListComp elt [⟨target, iter, ifs, 0⟩] scope pos) 0 it acc env).onRaise (fun x => do noteFrame x env; theTreesLotGoes x)) _ _ s
  refine wpAny_noted ?_
  rw [compTurn_list]
  refine wpAny_bind (wpAny_standAt (wpAny_bind (wpAny_mono (turn n s hI) (fun r s₁ h₁ => ?_) fun _ _ h' => h')))
  cases r with
  | none => exact wpAny_pure h₁
  | some v =>
    refine wpAny_bind (wpAny_mono h₁ (fun _ s₁' h₁' => ?_) fun _ _ h' => h')
    refine wpAny_bind (wpAny_mono h₁' (fun _ s₂ h₂ => wpAny_bind (wpAny_mono h₂ (fun ok s₃ h₃ => ?_) fun _ _ h' => h')) fun _ _ h' => h')
    cases ok with
    | false => exact wpAny_pure ⟨rfl, h₃⟩
    | true =>
      exact wpAny_bind (wpAny_bind (wpAny_mono h₃ (fun x s₄ h₄ => wpAny_bind (wpAny_mono h₄ (fun _ s₅ h₅ => wpAny_pure (wpAny_pure ⟨rfl, h₅⟩)) fun _ _ h' => h')) fun _ _ h' => h'))

section
variable {X : Cx}
/-- [elt for target in iter if ..]: D the new list; W by the turn and a measure, Nx what a turn is to reach -/
def tLc (wi : TI) (g : TG) (tt : TT) (te : TE) (vs : List Nat) : TE := fun σ H Q => wi σ H fun J H1 => ∀ D, H1 D = none → ∃ W : Nat → Nat → Hp → Prop, (∃ m, W 0 m (upd H1 D (.lst []))) ∧ ∀ i m H, W i m H →
  (J.stop i H ∧ Q (.ref D) H) ∨ (J.go i H ∧ ∃ Nx : Hp → Prop, (∀ H', Nx H' → ∃ m', m' < m ∧ W (i + 1) m' H') ∧ ∀ x H', J.yld i H x H' → g x (wipe σ vs) H' fun σ2 H2 => wipe σ2 vs = wipe σ vs ∧ tt σ2 H2 fun b H3 =>
    if b = true then te σ2 H3 fun y H4 => ∃ acc, H4 D = some (.lst acc) ∧ acc.length < sizeLine ∧ Nx (upd H4 D (.lst (acc ++ [y]))) else Nx H3)
theorem lc_core {pins : List (Addr × Obj)} {s : Shared} {σ : St} {H : Hp} {Q : VK} {elt tg iter : Expr} {ifs : List Expr} {scope : Scope} {own : List (Str × Nat)} {pos pos' : Pos} {wi : TI} {g : TG} {tt : TT} {te : TE} {use : Option (Value → Sem Unit)} {Qf : Value → Shared → Prop}
    (hc : X.calm = true) (hN : X.N.Nodup) (I : Inv X pins σ H s) (hi : PI X tg iter wi) (ok : BlkOk X.N X.env.scope scope own)
    (hg : ∀ (s : Shared) (H : Hp) (C : Addr) (cl : List (Str × Addr)) (fp : List Addr), PG (X.blk s H scope (compEnvC scope cl C X.env) fp) tg g) (ht : ∀ (s : Shared) (H : Hp) (C : Addr) (cl : List (Str × Addr)) (fp : List Addr), PTs (X.blk s H scope (compEnvC scope cl C X.env) fp) ifs tt)
    (he : ∀ (s : Shared) (H : Hp) (C : Addr) (cl : List (Str × Addr)) (fp : List Addr), PE (X.blk s H scope (compEnvC scope cl C X.env) fp) elt te) (hs : ∀ x, foldedSetIterable iter X.env x = pure x)
    (h : tLc wi g tt te (own.map (·.2)) σ H Q)
    (hRR : ∀ D C s' m H', Inv X pins σ H' s' → Q (.ref D) H' → s'.heap.Ns C m → FpOk X pins H' C → compPost (model X.prog X.w) X.A X.xe use Qf (.ref D) C (.ok .next) s') :
    wpAny (model X.prog X.w) X.A (comprehension (.ListComp elt [⟨tg, iter, ifs, 0⟩] scope pos) scope X.env pos' (newList []) false (eval iter X.env) use) Qf X.xe s := by
  have hfree : ∀ y ∈ scope.names, y.2 = .free → ∃ c, X.env.cells.lookup y.1 = some c := fun y hy e => by
    rcases ok.free y hy e with k | k
    · exact I.ok.has _ (.inl k)
    · exact I.ok.has _ (.inr k)
  refine wpAny_comprehension_free (use := use) rfl hs (closure_ok hfree) ok.kind (fun y hy e => by rw [ok.uniq y hy, e])
    (thn (hi pins s σ H _ I h) fun xv s1 hx => thn hx fun itv s2 h2 => ?_)
  obtain ⟨it, fp, tn, J, H2, e, I2, T, st2, f2, q⟩ := h2
  subst e
  refine wpAny_newObj_type (newEnv_comp ?_) (by show 0 ≤ sizeLine; decide)
  generalize hD : s2.heap.objs.size = D
  have hDn : H2 D = none := I2.hok.fresh (Nat.le_of_eq hD)
  obtain ⟨W, ⟨m0, w0⟩, turn⟩ := q D hDn
  -- the new list
  generalize hs3 : ({ s2 with heap := s2.heap.push { cls := .type "list", data := .seq ([] : List Value).toArray } } : Shared) = s3
  have I3 : Inv X pins σ (upd H2 D (.lst [])) s3 := by
    rw [← hs3]
    refine I2.laid (t' := s2.toks) (fun b o e => Heap.get?_push_of_some _ e) (Nat.le_of_eq hD) ⟨Nat.zero_le _, [], 0, .nil, ?_⟩
    rw [← hD]
    exact Heap.get?_push_size _ rfl
  have h3 : s3.heap = s2.heap.push { cls := .type "list", data := .seq ([] : List Value).toArray } := by rw [← hs3]
  have sz : ∀ b ∈ fp, b < s2.heap.objs.size := fun b hb => by
    obtain ⟨o, e, _⟩ := T.obj _ _ st2 b hb
    exact Heap.lt_size e
  have f3 : ∀ b ∈ fp, FpOk X pins (upd H2 D (.lst [])) b ∧ b < s3.heap.objs.size := fun b hb => by
    have hlt := sz b hb
    refine ⟨⟨?_, (f2 b hb).2⟩, by rw [h3, Heap.size_push]; exact Nat.lt_succ_of_lt hlt⟩
    rw [upd_ne (by rw [← hD]; exact Nat.ne_of_lt hlt)]
    exact (f2 b hb).1
  have st3 : tn 0 s3.heap := T.keep _ _ _ st2 fun b _ o e => by rw [h3]; exact Heap.get?_push_of_some _ e
  have I4 := block_start I3 ok hN f3
  have pg := hg s3 (upd H2 D (.lst [])) s3.heap.objs.size (cellsFrom (s3.heap.objs.size + 1) scope.names (cloFrom X.env.cells scope.names [])) fp
  have pt := ht s3 (upd H2 D (.lst [])) s3.heap.objs.size (cellsFrom (s3.heap.objs.size + 1) scope.names (cloFrom X.env.cells scope.names [])) fp
  have pe := he s3 (upd H2 D (.lst [])) s3.heap.objs.size (cellsFrom (s3.heap.objs.size + 1) scope.names (cloFrom X.env.cells scope.names [])) fp
  show codeAny _ _ (.compStart (.ListComp elt [⟨tg, iter, ifs, 0⟩] scope pos) 0 (.ref it) (.ref D) (compEnvC scope (cellsFrom (s3.heap.objs.size + 1) scope.names (cloFrom X.env.cells scope.names [])) s3.heap.objs.size X.env)) (compPost (model X.prog X.w) X.A X.xe use Qf (.ref D) s3.heap.objs.size) { s3 with heap := pushCells (s3.heap.push { cls := .type "dict", data := .dict #[] }) scope.names }
  have nfp : ∀ b ∈ fp, (upd H2 D (.lst [])) b = none := fun b hb => (f3 b hb).1.1
  generalize hce : compEnvC scope (cellsFrom (s3.heap.objs.size + 1) scope.names (cloFrom X.env.cells scope.names [])) s3.heap.objs.size X.env = ce at I4 pg pt pe ⊢
  have cL : ce.locals = s3.heap.objs.size := by subst hce; rfl
  generalize hH3 : upd H2 D (.lst []) = H3 at I3 I4 pg pt pe w0 nfp f3
  generalize hs4 : ({ s3 with heap := pushCells (s3.heap.push { cls := .type "dict", data := .dict #[] }) scope.names } : Shared) = s4 at I4 ⊢
  have st4 : tn 0 s4.heap := T.keep _ _ _ st3 fun b _ o e => by rw [← hs4]; exact pushCells_keeps _ _ _ _ (Heap.get?_push_of_some _ e)
  have stat : ∀ {σ' : St} {H' : Hp} {s' : Shared}, Inv (X.blk s3 H3 scope ce fp) [] σ' H' s' → (∀ b ∈ fp, H' b = none) → ∀ b ∈ fp, FpOk (X.blk s3 H3 scope ce fp) [] H' b := fun {σ' H' s'} I' hn b hb =>
    ⟨hn b hb, (I'.ok.exf b hb).1, I'.ok.exfs b hb, .inl hb, fun x c e => (I'.ok.exf b hb).2 x c e, fun p hp => absurd (show p ∈ ([] : List (Addr × Obj)) ++ [] from hp) (by simp)⟩
  have loop : codeAny (model X.prog X.w) X.A (.compLoop (.ListComp elt [⟨tg, iter, ifs, 0⟩] scope pos) 0 (.ref it) (.ref D) ce) (compPost (model X.prog X.w) X.A X.xe use Qf (.ref D) s3.heap.objs.size) s4 := by
    refine compLoop_any (fun n s' => ∃ i H', Inv (X.blk s3 H3 scope ce fp) [] (wipe σ (own.map (·.2))) H' s' ∧ tn i s'.heap ∧ (∀ b ∈ fp, H' b = none) ∧ W i n H') ?_ m0 ⟨0, H3, I4, st4, nfp, w0⟩
    rintro n s5 ⟨i, H5, I5, st5, n5, w5⟩
    rcases turn i n H5 w5 with ⟨stop, qq⟩ | ⟨go, Nx, hNx, step⟩
    · have td := T.done (X.blk s3 H3 scope ce fp) rfl rfl rfl hc i [] s5 _ H5 (fun _ _ => False) I5 (stat I5 n5) st5 stop
      refine thnF td fun r s6 ⟨hr, I6⟩ => ?_
      subst hr
      -- back in the def's context
      have I7 : Inv X pins σ H5 s6 := I3.call' (ch := fp) I6.os I6.base I6.hok I6.bare fun b hb => ⟨(f3 b hb).1.2.2.2.1, (f3 b hb).1.2.1, (f3 b hb).1.2.2.2.2.1, (f3 b hb).1.2.2.2.2.2⟩
      have nC : H5 s3.heap.objs.size = none := by
        have z : H5 ce.locals = none := I6.free
        rw [cL] at z
        exact z
      obtain ⟨m, hn, _⟩ := I6.loc
      have hn : s6.heap.Ns ce.locals m := hn
      rw [cL] at hn
      exact hRR D s3.heap.objs.size s6 m H5 I7 qq hn (I3.fpOk (Nat.le_refl _) nC)
    · have ti := T.item (X.blk s3 H3 scope ce fp) rfl rfl rfl hc i [] s5 _ H5 (fun _ _ => False) I5 (stat I5 n5) st5 go
      refine thnF ti fun r s6 ⟨u, hr, h6⟩ => ?_
      subst hr
      refine thnF h6 fun _ s7 ⟨x, H7, I7, r7, y7, st7, n7⟩ => ?_
      have I7' := I7.pinned (stat I7 n7) (T.obj _ _ st7)
      refine thnF (pg _ s7 _ H7 x u _ I7' r7 (step x H7 y7)) fun _ s8 ⟨σ8, H8, I8, hw8, q8⟩ => ?_
      refine thnF (pt _ s8 σ8 H8 _ I8 q8) fun b s9 ⟨H9, I9, q9⟩ => ?_
      -- the turn's end
      have fin : ∀ {s' : Shared} {H' : Hp}, Inv (X.blk s3 H3 scope ce fp) ([] ++ pinsAt fp s7.heap) σ8 H' s' → Nx H' → ∃ m, m < n ∧ ∃ i H', Inv (X.blk s3 H3 scope ce fp) [] (wipe σ (own.map (·.2))) H' s' ∧ tn i s'.heap ∧ (∀ b ∈ fp, H' b = none) ∧ W i m H' := fun {s' H'} I' nx => by
        obtain ⟨m', hm, w'⟩ := hNx H' nx
        have pin' : ∀ b ∈ fp, ∀ o, s7.heap.get? b = some o → s'.heap.get? b = some o ∧ H' b = none := fun b hb o e =>
          let z := I'.pin (b, o) (List.mem_append_right _ (List.mem_append_right _ (mem_pinsAt hb e)))
          ⟨z.1, z.2.1⟩
        have hl : (wipe σ (own.map (·.2))).length = σ8.length := by rw [← hw8, wipe_length]
        refine ⟨m', hm, i + 1, H', (I'.unpinned (pins := [])).weak hl (fun j v e => ?_), T.keep _ _ _ st7 fun b hb o e => (pin' b hb o e).1, fun b hb => ?_, w'⟩
        · rw [← hw8] at e
          exact (wipe_some e).1
        · obtain ⟨o, e, _⟩ := T.obj _ _ st7 b hb
          exact (pin' b hb o e).2
      cases b with
      | false =>
        simp only [Bool.false_eq_true, if_false] at q9 ⊢
        exact fin I9 q9
      | true =>
        simp only [if_true] at q9 ⊢
        refine thnF (pe _ s9 σ8 H9 _ I9 q9) fun z s10 ⟨yv, H10, I10, r10, acc, hD10, hz10, nx⟩ => ?_
        exact app_ok (X := X.blk s3 H3 scope ce fp) I10 hD10 hz10 r10 fun s11 I11 => fin I11 nx
  exact codeAny_compStart_list loop (T.self X.A 0 _ _ _ st4 loop)
/-- as a value -/
theorem pe_lc {elt tg iter : Expr} {ifs : List Expr} {scope : Scope} {own : List (Str × Nat)} {pos : Pos} {wi : TI} {g : TG} {tt : TT} {te : TE} (hc : X.calm = true) (hN : X.N.Nodup) (hi : PI X tg iter wi) (ok : BlkOk X.N X.env.scope scope own)
    (hg : ∀ (s : Shared) (H : Hp) (C : Addr) (cl : List (Str × Addr)) (fp : List Addr), PG (X.blk s H scope (compEnvC scope cl C X.env) fp) tg g) (ht : ∀ (s : Shared) (H : Hp) (C : Addr) (cl : List (Str × Addr)) (fp : List Addr), PTs (X.blk s H scope (compEnvC scope cl C X.env) fp) ifs tt)
    (he : ∀ (s : Shared) (H : Hp) (C : Addr) (cl : List (Str × Addr)) (fp : List Addr), PE (X.blk s H scope (compEnvC scope cl C X.env) fp) elt te) (hs : ∀ x, foldedSetIterable iter X.env x = pure x := by intro _; rfl) :
    PE X (.ListComp elt [⟨tg, iter, ifs, 0⟩] scope pos) (tLc wi g tt te (own.map (·.2))) := by
  intro pins s σ H Q I h
  rw [eval_ListComp]
  refine lc_core hc hN I hi ok hg ht he hs h fun D C s' m H' I' q hn f => ⟨m, hn, fun h'' sb => ?_⟩
  obtain ⟨f0, f1, f2, f3, f4, f5⟩ := f
  exact ⟨.ref D, H', I'.turned (t' := s'.toks) (fun b o hb e => (sb.2 b hb).trans e) f0 f1 f3 f4 f5, rfl, q⟩
/-- name = [..] on one line, the name a local -/
theorem ps_setLc {i : Nat} {y : Str} {py : Pos} {elt tg iter : Expr} {ifs : List Expr} {scope : Scope} {own : List (Str × Nat)} {pos spos : Pos} {wi : TI} {g : TG} {tt : TT} {te : TE} (hc : X.calm = true) (hN : X.N.Nodup) (hy : X.N[i]? = some y) (hyl : X.env.scope.names.lookup y = some .local)
    (hsw : swapsWith (.ListComp elt [⟨tg, iter, ifs, 0⟩] scope pos) (some (.Name y py)) spos.line X.env = pure true) (hi : PI X tg iter wi) (ok : BlkOk X.N X.env.scope scope own)
    (hg : ∀ (s : Shared) (H : Hp) (C : Addr) (cl : List (Str × Addr)) (fp : List Addr), PG (X.blk s H scope (compEnvC scope cl C X.env) fp) tg g) (ht : ∀ (s : Shared) (H : Hp) (C : Addr) (cl : List (Str × Addr)) (fp : List Addr), PTs (X.blk s H scope (compEnvC scope cl C X.env) fp) ifs tt)
    (he : ∀ (s : Shared) (H : Hp) (C : Addr) (cl : List (Str × Addr)) (fp : List Addr), PE (X.blk s H scope (compEnvC scope cl C X.env) fp) elt te) (hs : ∀ x, foldedSetIterable iter X.env x = pure x := by intro _; rfl) :
    PS X (.Assign [.Name y py] (.ListComp elt [⟨tg, iter, ifs, 0⟩] scope pos) spos) (tAsg (tLc wi g tt te (own.map (·.2))) (gName i)) := by
  intro pins s σ H D I h
  rw [exec_Assign_Name_used _ _ _ _ hsw]
  refine wpAny_bind (wpAny_standAt (wpAny_bind ?_))
  show wpAny _ X.A (do let _ ← comprehension (.ListComp elt [⟨tg, iter, ifs, 0⟩] scope pos) scope X.env (firstIterPos [⟨tg, iter, ifs, 0⟩] pos) (newList []) false (eval iter X.env) (some (assign (.Name y py) X.env))) _ _ s
  have h : tLc wi g tt te (own.map (·.2)) σ H (fun x H1 => gName i x σ H1 D.nx) := h
  refine wpAny_bind (thn (lc_core (Qf := fun _ s' => SP X pins D .next s') hc hN I hi ok hg ht he hs h fun L C s' m H' I' q hn f => ?_) fun _ s' hq => wpAny_pure (wpAny_pure hq))
  show wpAny _ _ (assign (.Name y py) X.env (.ref L)) _ _ _
  refine wpAny_assign_Name (store_ok2 (v := V.ref L) I' hN hy (.inl hyl) rfl (fun s2 I2 ⟨a, sb, ha⟩ => ?_) (.inr hyl))
  obtain ⟨f0, f1, f2, f3, f4, f5⟩ := f
  have haC : C ≠ a := by
    rcases ha with z | z
    · rw [z]; exact f1
    · exact fun e => f4 y a z e.symm
  refine ⟨m, hn.sameBut sb haC, fun h3 sb3 => ?_⟩
  exact ⟨_, H', I2.turned (t' := s2.toks) (fun b o hb e => (sb3.2 b hb).trans e) f0 f1 f3 f4 f5, q⟩
theorem sw_true {elt : Expr} {gs : List Comprehension} {scope : Scope} {pos py : Pos} {y : Str} {l : Nat} {env : Env} (hk : env.scope.kind = .function) (hy : env.scope.names.lookup y = some .local) (hl : (py.line == pos.line) = true)
    (ha : (scope.names.any fun (n, k) => n == y && (k == .local || k == .cell)) = false) : swapsWith (.ListComp elt gs scope pos) (some (.Name y py)) l env = pure true := by
  have ky : env.kindOf y = some .local := hy
  have hb : env.blockKind = .function := by unfold Env.blockKind; rw [hk]; rfl
  unfold swapsWith
  simp only [hb, ky, ha, Expr.pos, hl]
  rfl
end

/-- over a list that the block leaves as it is -/
theorem lc_list {K : PySem.W.Frag} {a : Addr} {xs : List V} {g : TG} {tt : TT} {te : TE} {vs : List Nat} {σ : St} {H1 : Hp} {D : Addr} {Qd : Hp → Prop} (Pv : Nat → Hp → Prop) (h0 : Pv 0 (upd H1 D (.lst []))) (hl : ∀ i H, i ≤ xs.length → Pv i H → SqL K H a xs)
    (hs : ∀ i x H, xs[i]? = some x → Pv i H → g x (wipe σ vs) H fun σ2 H2 => wipe σ2 vs = wipe σ vs ∧ tt σ2 H2 fun b H3 =>
      if b = true then te σ2 H3 fun y H4 => ∃ acc, H4 D = some (.lst acc) ∧ acc.length < sizeLine ∧ Pv (i + 1) (upd H4 D (.lst (acc ++ [y]))) else Pv (i + 1) H3) (hd : ∀ H, Pv xs.length H → Qd H) :
    ∃ W : Nat → Nat → Hp → Prop, (∃ m, W 0 m (upd H1 D (.lst []))) ∧ ∀ i m H, W i m H →
      ((Itl K a).stop i H ∧ Qd H) ∨ ((Itl K a).go i H ∧ ∃ Nx : Hp → Prop, (∀ H', Nx H' → ∃ m', m' < m ∧ W (i + 1) m' H') ∧ ∀ x H', (Itl K a).yld i H x H' → g x (wipe σ vs) H' fun σ2 H2 => wipe σ2 vs = wipe σ vs ∧ tt σ2 H2 fun b H3 =>
        if b = true then te σ2 H3 fun y H4 => ∃ acc, H4 D = some (.lst acc) ∧ acc.length < sizeLine ∧ Nx (upd H4 D (.lst (acc ++ [y]))) else Nx H3) := by
  refine ⟨fun i m H => m = xs.length - i ∧ i ≤ xs.length ∧ Pv i H, ⟨xs.length, by simp, Nat.zero_le _, h0⟩, ?_⟩
  rintro i m H ⟨rfl, hi, p⟩
  have q := hl i H hi p
  by_cases hlt : i < xs.length
  · refine .inr ⟨⟨xs, xs[i], q, by simp [hlt]⟩, Pv (i + 1), fun H' p' => ⟨xs.length - (i + 1), by omega, rfl, hlt, p'⟩, fun x H' y => ?_⟩
    obtain ⟨e, y⟩ := y
    subst e
    exact hs i x _ (y xs q) p
  · have e : i = xs.length := by omega
    subst e
    exact .inl ⟨⟨xs, q, Nat.le_refl _⟩, hd H p⟩
/-- over a tuple -/
theorem lc_tup {K : PySem.W.Frag} {a : Addr} {xs : List V} {g : TG} {tt : TT} {te : TE} {vs : List Nat} {σ : St} {H1 : Hp} {D : Addr} {Qd : Hp → Prop} (Pv : Nat → Hp → Prop) (h0 : Pv 0 (upd H1 D (.lst []))) (hl : ∀ i H, i ≤ xs.length → Pv i H → SqT K H a xs)
    (hs : ∀ i x H, xs[i]? = some x → Pv i H → g x (wipe σ vs) H fun σ2 H2 => wipe σ2 vs = wipe σ vs ∧ tt σ2 H2 fun b H3 =>
      if b = true then te σ2 H3 fun y H4 => ∃ acc, H4 D = some (.lst acc) ∧ acc.length < sizeLine ∧ Pv (i + 1) (upd H4 D (.lst (acc ++ [y]))) else Pv (i + 1) H3) (hd : ∀ H, Pv xs.length H → Qd H) :
    ∃ W : Nat → Nat → Hp → Prop, (∃ m, W 0 m (upd H1 D (.lst []))) ∧ ∀ i m H, W i m H →
      ((Itt K a).stop i H ∧ Qd H) ∨ ((Itt K a).go i H ∧ ∃ Nx : Hp → Prop, (∀ H', Nx H' → ∃ m', m' < m ∧ W (i + 1) m' H') ∧ ∀ x H', (Itt K a).yld i H x H' → g x (wipe σ vs) H' fun σ2 H2 => wipe σ2 vs = wipe σ vs ∧ tt σ2 H2 fun b H3 =>
        if b = true then te σ2 H3 fun y H4 => ∃ acc, H4 D = some (.lst acc) ∧ acc.length < sizeLine ∧ Nx (upd H4 D (.lst (acc ++ [y]))) else Nx H3) := by
  refine ⟨fun i m H => m = xs.length - i ∧ i ≤ xs.length ∧ Pv i H, ⟨xs.length, by simp, Nat.zero_le _, h0⟩, ?_⟩
  rintro i m H ⟨rfl, hi, p⟩
  have q := hl i H hi p
  by_cases hlt : i < xs.length
  · refine .inr ⟨⟨xs, xs[i], q, by simp [hlt]⟩, Pv (i + 1), fun H' p' => ⟨xs.length - (i + 1), by omega, rfl, hlt, p'⟩, fun x H' y => ?_⟩
    obtain ⟨e, y⟩ := y
    subst e
    exact hs i x _ (y xs q) p
  · have e : i = xs.length := by omega
    subst e
    exact .inl ⟨⟨xs, q, Nat.le_refl _⟩, hd H p⟩
def blkC (N : List Str) (sc scope : Scope) (own : List (Str × Nat)) : Bool :=
  (match scope.kind with | .function => true | _ => false) && (scope.names.all fun y => decide (scope.names.lookup y.1 = some y.2)) && (own.all fun p => decide (N[p.2]? = some p.1)) &&
    (scope.names.all fun y => match y.2 with
      | .free => (match sc.names.lookup y.1 with | some .cell => true | some .free => true | _ => false)
      | .local => decide (y.1 ∈ own.map (·.1)) || decide (y.1 ∉ N)
      | .cell => decide (y.1 ∈ own.map (·.1)) || decide (y.1 ∉ N)
      | _ => true)
theorem blkOk_by {N : List Str} {sc scope : Scope} {own : List (Str × Nat)} (h : blkC N sc scope own = true) : BlkOk N sc scope own := by
  unfold blkC at h
  simp only [Bool.and_eq_true, List.all_eq_true, decide_eq_true_eq] at h
  obtain ⟨⟨⟨h1, h2⟩, h3⟩, h4⟩ := h
  refine ⟨?_, h2, h3, fun y hy e => ?_, fun y hy e => ?_⟩
  · split at h1
    · assumption
    · cases h1
  · have q := h4 y hy
    simp only [e] at q
    split at q <;> first | exact .inl (by assumption) | exact .inr (by assumption) | cases q
  · have q := h4 y hy
    rcases e with e | e <;> (simp only [e, Bool.or_eq_true, decide_eq_true_eq] at q; exact q)
end L2

namespace L2
open PySem PySem.Spec PyProof.Rows

section
variable {prog : Program} {w : World} {A : Around} {R : Result → Shared → Prop} {s : Shared} {elt t0 i0 t1 i1 : Expr} {ifs0 ifs1 : List Expr} {scope : Scope} {pos : Pos} {it acc : Value} {env : Env}
end

section
variable {X : Cx}
end
end L2

namespace L2
open PySem PySem.Spec PyProof.Rows

section
variable {κ : Type} [DecidableEq κ]
def valV (kvs : List (κ × V)) (k : κ) : Option V := (kvs.find? fun kv => decide (kv.1 = k)).map (·.2)
/-- in its place, or at the end -/
def putK (kvs : List (κ × V)) (k : κ) (v : V) : List (κ × V) :=
  if (kvs.any fun kv => decide (kv.1 = k)) = true then kvs.map (fun kv => if kv.1 = k then (kv.1, v) else kv) else kvs ++ [(k, v)]
def dropK (kvs : List (κ × V)) (k : κ) : List (κ × V) := kvs.filter fun kv => decide (kv.1 ≠ k)

theorem valV_pos {p : κ × V} {r : List (κ × V)} {k : κ} (e : p.1 = k) : valV (p :: r) k = some p.2 := by simp [valV, List.find?_cons, e]
theorem valV_neg {p : κ × V} {r : List (κ × V)} {k : κ} (e : ¬ p.1 = k) : valV (p :: r) k = valV r k := by simp [valV, List.find?_cons, e]
theorem valV_any (k : κ) : ∀ kvs : List (κ × V), (kvs.any fun kv => decide (kv.1 = k)) = (valV kvs k).isSome
  | [] => rfl
  | p :: r => by
    rw [List.any_cons]
    by_cases e : p.1 = k
    · simp only [valV_pos e, decide_eq_true e, Bool.true_or, Option.isSome_some]
    · rw [valV_neg e, decide_eq_false e, Bool.false_or]; exact valV_any k r
theorem length_putK (kvs : List (κ × V)) (k : κ) (v : V) : (putK kvs k v).length ≤ kvs.length + 1 := by
  unfold putK
  split
  · rw [List.length_map]; omega
  · rw [List.length_append, List.length_cons, List.length_nil]; omega
theorem RelO.isSome_eq {o : Option V} {u : Option Value} (r : RelO o u) : o.isSome = u.isSome := by
  cases o with
  | none => cases u with
    | none => rfl
    | some _ => exact (show False from r).elim
  | some _ => cases u with
    | none => exact (show False from r).elim
    | some _ => rfl
theorem RelO.getD {o : Option V} {u : Option Value} {d : V} {d' : Value} (r : RelO o u) (rd : RelV d d') : RelV (o.getD d) (u.getD d') := by
  cases o with
  | none => cases u with
    | none => exact rd
    | some _ => exact (show False from r).elim
  | some _ => cases u with
    | none => exact (show False from r).elim
    | some _ => exact r

/-- raw tables of the same keys -/
theorem KV.val {kvs : List (κ × V)} {vs : List (κ × Value)} (r : KV kvs vs) (k : κ) : RelO (valV kvs k) (valueAt vs k) := by
  unfold KV at r
  induction r with
  | nil => exact True.intro
  | @cons p q ps qs h t ih =>
    obtain ⟨h1, h2⟩ := h
    by_cases e : p.1 = k
    · have e' : q.1 = k := h1.symm.trans e
      have b : valueAt (q :: qs) k = some q.2 := by simp [valueAt, List.find?_cons, e']
      rw [valV_pos e, b]; exact h2
    · have e' : ¬ q.1 = k := fun z => e (h1.trans z)
      have b : valueAt (q :: qs) k = valueAt qs k := by simp [valueAt, List.find?_cons, e']
      rw [valV_neg e, b]; exact ih
theorem KV.any {kvs : List (κ × V)} {vs : List (κ × Value)} (r : KV kvs vs) (k : κ) : (kvs.any fun kv => decide (kv.1 = k)) = vs.any fun kv => decide (kv.1 = k) := by
  unfold KV at r
  induction r with
  | nil => rfl
  | cons h t ih => rw [List.any_cons, List.any_cons, ih, h.1]
theorem KV.repl {kvs : List (κ × V)} {vs : List (κ × Value)} (r : KV kvs vs) (k : κ) {y : V} {u : Value} (ry : RelV y u) :
    KV (kvs.map fun kv => if kv.1 = k then (kv.1, y) else kv) (vs.map fun kv => if kv.1 = k then (kv.1, u) else kv) := by
  unfold KV at r ⊢
  induction r with
  | nil => exact .nil
  | @cons p q ps qs h t ih =>
    rw [List.map_cons, List.map_cons]
    refine .cons ?_ ih
    obtain ⟨h1, h2⟩ := h
    by_cases e : p.1 = k
    · rw [if_pos e, if_pos (h1.symm.trans e)]; exact ⟨h1, ry⟩
    · rw [if_neg e, if_neg (fun z => e (h1.trans z))]; exact ⟨h1, h2⟩
theorem KV.put {kvs : List (κ × V)} {vs : List (κ × Value)} (r : KV kvs vs) (k : κ) {y : V} {u : Value} (ry : RelV y u) : KV (putK kvs k y) (stored vs k u) := by
  unfold putK stored
  rw [r.any k]
  by_cases e : (vs.any fun kv => decide (kv.1 = k)) = true
  · rw [if_pos e, if_pos e]; exact r.repl k ry
  · rw [if_neg e, if_neg e]; exact Paired.snoc r ⟨rfl, ry⟩
theorem KV.drop {kvs : List (κ × V)} {vs : List (κ × Value)} (r : KV kvs vs) (k : κ) : KV (dropK kvs k) (without vs k) := by
  unfold KV at r ⊢
  unfold dropK without
  induction r with
  | nil => exact .nil
  | @cons p q ps qs h t ih =>
    obtain ⟨h1, h2⟩ := h
    rw [List.filter_cons, List.filter_cons]
    by_cases e : p.1 = k
    · have a : ¬ decide (p.1 ≠ k) = true := by simp [e]
      have b : ¬ decide (q.1 ≠ k) = true := by simp [h1.symm.trans e]
      rw [if_neg a, if_neg b]; exact ih
    · have e' : ¬ q.1 = k := fun z => e (h1.trans z)
      have a : decide (p.1 ≠ k) = true := by simp [e]
      have b : decide (q.1 ≠ k) = true := by simp [e']
      rw [if_pos a, if_pos b]; exact .cons ⟨h1, h2⟩ ih
theorem KV.keys {kvs : List (κ × V)} {vs : List (κ × Value)} (r : KV kvs vs) : kvs.map (·.1) = vs.map (·.1) := by
  unfold KV at r
  induction r with
  | nil => rfl
  | cons h t ih => rw [List.map_cons, List.map_cons, ih, h.1]
theorem KV.length {kvs : List (κ × V)} {vs : List (κ × Value)} (r : KV kvs vs) : kvs.length = vs.length := Paired.length r
end


theorem kV_is {P : Program} {w : World} {k : Key} {u : Value} (r : RelV (kV k) u) : (mixKind P w).is k u = true := by
  cases k with
  | inl i => obtain ⟨t, e⟩ := (show ∃ t, u = Value.int i t from r); subst e; exact mixKind_int P w i t
  | inr x => obtain ⟨t, e⟩ := (show ∃ t, u = Value.str x t from r); subst e; exact mixKind_str P w x t
theorem items_are {P : Program} {w : World} : ∀ {ks : List Key} {us : List Value}, Vals (ks.map kV) us → ItemsAre (mixKind P w) ks us
  | [], _, r => by rw [List.map_nil] at r; cases r; exact .nil
  | k :: ks, _, r => by
    rw [List.map_cons] at r
    cases r with
    | cons h t => exact .cons (kV_is h) (items_are t)

/-- raw entries of a dict with tuple keys -/
abbrev KT (H : Hp) : List (List Key × V) → List (List Key × Addr × Value) → Prop := Paired fun p q => p.1 = q.1 ∧ H q.2.1 = some (.tup (p.1.map kV)) ∧ RelV p.2 q.2.2
theorem KT.val {H : Hp} {kvs : List (List Key × V)} {xs : List (List Key × Addr × Value)} (r : KT H kvs xs) (k : List Key) : RelO (valV kvs k) ((atKey xs k).map (·.2)) := by
  induction r with
  | nil => exact True.intro
  | @cons p q ps qs h t ih =>
    obtain ⟨h1, _, h2⟩ := h
    by_cases e : p.1 = k
    · have e' : q.1 = k := h1.symm.trans e
      have b : atKey (q :: qs) k = some q.2 := by simp [atKey, List.find?_cons, e']
      rw [valV_pos e, b]; exact h2
    · have e' : ¬ q.1 = k := fun z => e (h1.trans z)
      have b : atKey (q :: qs) k = atKey qs k := by simp [atKey, List.find?_cons, e']
      rw [valV_neg e, b]; exact ih
theorem KT.repl {H : Hp} {kvs : List (List Key × V)} {xs : List (List Key × Addr × Value)} (r : KT H kvs xs) (k : List Key) {y : V} {u : Value} (ry : RelV y u) :
    KT H (kvs.map fun kv => if kv.1 = k then (kv.1, y) else kv) (xs.map (putAt k u)) := by
  induction r with
  | nil => exact .nil
  | @cons p q ps qs h t ih =>
    rw [List.map_cons, List.map_cons]
    refine .cons ?_ ih
    obtain ⟨h1, h2, h3⟩ := h
    unfold putAt
    by_cases e : p.1 = k
    · rw [if_pos e, if_pos (h1.symm.trans e)]; exact ⟨h1, h2, ry⟩
    · rw [if_neg e, if_neg (fun z => e (h1.trans z))]; exact ⟨h1, h2, h3⟩
theorem KT.put {H : Hp} {kvs : List (List Key × V)} {xs : List (List Key × Addr × Value)} (r : KT H kvs xs) (k : List Key) {b : Addr} {y : V} {u : Value} (hb : H b = some (.tup (k.map kV))) (ry : RelV y u) :
    KT H (putK kvs k y) (storedH xs k b u) := by
  have e : (kvs.any fun kv => decide (kv.1 = k)) = (atKey xs k).isSome := by
    rw [valV_any, (r.val k).isSome_eq, Option.isSome_map]
  unfold putK storedH
  rw [e]
  by_cases q : (atKey xs k).isSome = true
  · rw [if_pos q, if_pos q]; exact r.repl k ry
  · rw [if_neg q, if_neg q]; exact Paired.snoc r ⟨rfl, hb, ry⟩
theorem KT.keeps {H H' : Hp} {kvs : List (List Key × V)} {xs : List (List Key × Addr × Value)} (r : KT H kvs xs) (ht : ∀ b ys, H b = some (.tup ys) → H' b = some (.tup ys)) : KT H' kvs xs :=
  Paired.mapP r fun _ _ z => ⟨z.1, ht _ _ z.2.1, z.2.2⟩

section
variable {P : Program} {w : World} {H : Hp} {h : Heap} {a : Addr}
theorem rd_of {u : HO} (ok : HOk P w H h) (e : Rd H a u) : ObjOk P w H h a u := e.ok ok
theorem dk_rd {kvs : List (Key × V)} (ok : HOk P w H h) (e : Rd H a (.dK kvs)) : kvs.length ≤ sizeLine ∧ (a == sysModules) = false ∧ ∃ vs, KV kvs vs ∧ h.DictOf (mixKind P w) a vs :=
  show ObjOk P w H h a (.dK kvs) from rd_of ok e
theorem dk_of {kvs : List (Key × V)} (ok : HOk P w H h) (e : H a = some (.dK kvs)) : kvs.length ≤ sizeLine ∧ (a == sysModules) = false ∧ ∃ vs, KV kvs vs ∧ h.DictOf (mixKind P w) a vs := dk_rd ok (.inl e)
/-- a tracked tuple of ints and texts is a key -/
theorem key_of {ks : List Key} (ok : HOk P w H h) (e : H a = some (.tup (ks.map kV))) : (tupleKind (mixKind P w)).is h ks a := by
  obtain ⟨_, its, r, o, h1, h2, n, h3, _⟩ := (show ObjOk P w H h a (.tup (ks.map kV)) from ok a _ e)
  exact ⟨o, its.toArray, n, h1, h2, h3, by simpa using items_are r⟩
theorem dt_rd {kvs : List (List Key × V)} (ok : HOk P w H h) (e : Rd H a (.dT kvs)) : kvs.length ≤ sizeLine ∧ (a == sysModules) = false ∧
    ∃ xs, KT H kvs xs ∧ h.DictOfH (tupleKind (mixKind P w)) a xs := by
  obtain ⟨z, y, xs, r, o, es, ep, h1, h2, h3, h4, h5⟩ := (show ObjOk P w H h a (.dT kvs) from rd_of ok e)
  refine ⟨z, y, xs, r, o, es, ep, h1, h2, h3, h4, fun x hx => ?_, h5⟩
  have all : ∀ {l : List (List Key × V)} {m : List (List Key × Addr × Value)}, KT H l m → ∀ x ∈ m, (tupleKind (mixKind P w)).is h x.1 x.2.1 := by
    intro l m q
    induction q with
    | nil => intro x hx; exact nomatch hx
    | @cons p q ps qs hq t ih =>
      intro x hx
      rcases List.mem_cons.mp hx with e | hx
      · subst e
        exact key_of ok (by rw [← hq.1]; exact hq.2.1)
      · exact ih x hx
  exact all r x hx
theorem dt_of {kvs : List (List Key × V)} (ok : HOk P w H h) (e : H a = some (.dT kvs)) : kvs.length ≤ sizeLine ∧ (a == sysModules) = false ∧
    ∃ xs, KT H kvs xs ∧ h.DictOfH (tupleKind (mixKind P w)) a xs := dt_rd ok (.inl e)
end

/-- what the dict at a holds at the key y -/
def DGet (H : Hp) (a : Addr) (y : V) (r : Option V) : Prop :=
  (∃ kvs k, Rd H a (.dK kvs) ∧ y = kV k ∧ r = valV kvs k) ∨ ∃ kvs k b, Rd H a (.dT kvs) ∧ y = .ref b ∧ H b = some (.tup (k.map kV)) ∧ r = valV kvs k
/-- the heap behind a[y] = v -/
def DPut (H : Hp) (a : Addr) (y v : V) (H' : Hp) : Prop :=
  (∃ kvs k, H a = some (.dK kvs) ∧ y = kV k ∧ kvs.length < sizeLine ∧ H' = upd H a (.dK (putK kvs k v))) ∨
  ∃ kvs k b, H a = some (.dT kvs) ∧ y = .ref b ∧ H b = some (.tup (k.map kV)) ∧ kvs.length < sizeLine ∧ H' = upd H a (.dT (putK kvs k v))
theorem DGet.k {H : Hp} {a : Addr} {kvs : List (Key × V)} {k : Key} (e : H a = some (.dK kvs)) : DGet H a (kV k) (valV kvs k) := .inl ⟨kvs, k, .inl e, rfl, rfl⟩
theorem DGet.t {H : Hp} {a b : Addr} {kvs : List (List Key × V)} {k : List Key} (e : H a = some (.dT kvs)) (eb : H b = some (.tup (k.map kV))) : DGet H a (.ref b) (valV kvs k) := .inr ⟨kvs, k, b, .inl e, rfl, eb, rfl⟩
theorem DPut.k {H : Hp} {a : Addr} {kvs : List (Key × V)} {k : Key} {v : V} (e : H a = some (.dK kvs)) (hl : kvs.length < sizeLine) : DPut H a (kV k) v (upd H a (.dK (putK kvs k v))) := .inl ⟨kvs, k, e, rfl, hl, rfl⟩
theorem DPut.t {H : Hp} {a b : Addr} {kvs : List (List Key × V)} {k : List Key} {v : V} (e : H a = some (.dT kvs)) (eb : H b = some (.tup (k.map kV))) (hl : kvs.length < sizeLine) :
    DPut H a (.ref b) v (upd H a (.dT (putK kvs k v))) := .inr ⟨kvs, k, b, e, rfl, eb, hl, rfl⟩


section
variable {X : Cx} {pins : List (Addr × Obj)} {σ : St} {H : Hp} {s : Shared} {a : Addr} {y v : V} {u r : Value} {o : Option V} {A : Around} {E : Value → Shared → Prop}

theorem Inv.big (I : Inv X pins σ H s) : sysModules < s.heap.objs.size := by
  have h : mainGlobals < s.heap.objs.size := (I.mod.glob.keeps I.bk).lt
  exact Nat.lt_trans (by decide) h

/-- d[y], there -/
theorem d_getItem {Q : Value → Shared → Prop} (hu : A.units + 1 < cLine) (I : Inv X pins σ H s) (g : DGet H a y (some v)) (ry : RelV y u) (h : ∀ w' s', Inv X pins σ H s' → RelV v w' → Q w' s') :
    wpAny (model X.prog X.w) A (getItem (.ref a) u) Q E s := by
  rcases g with ⟨kvs, k, e, ey, l⟩ | ⟨kvs, k, b, e, ey, eb, l⟩
  · subst ey
    obtain ⟨z, hd, vs, rel, dd⟩ := dk_rd I.hok e
    obtain ⟨w', hw, rw'⟩ := RelO.some_of (v := v) (o := valueAt vs k) (by rw [l]; exact rel.val k)
    exact wpAny_getItem_of (kV_is ry) dd.mapOf hw (h w' _ (I.tok _) rw')
  · subst ey
    cases (show u = Value.ref b from ry)
    obtain ⟨z, hd, xs, rel, dd⟩ := dt_rd I.hok e
    obtain ⟨w', hw, rw'⟩ := RelO.some_of (v := v) (o := (atKey xs k).map (·.2)) (by rw [l]; exact rel.val k)
    obtain ⟨p, hp, hp2⟩ := Option.map_eq_some_iff.mp hw
    refine wpAny_getItem_heap (tupleKind_room_in1 hu) (key_of I.hok eb) dd hp ?_
    rw [hp2]
    exact h w' _ (I.tok _) rw'
/-- a dict's object is replaced -/
theorem d_write {h' : Heap} {t' : Nat} {ob : HO} (I : Inv X pins σ H s) (mu : Mut (H a)) (hs : Heap.SameBut a s.heap h') (he : ∃ q, h'.get? a = some q) (new : ObjOk X.prog X.w (upd H a ob) h' a ob) :
    Inv X pins σ (upd H a ob) { s with heap := h', toks := t' } :=
  I.write (x := a) (e := a) mu (.inl rfl) (fun b q hb z => (hs.2 b hb).trans z) he new
theorem dk_new {P : Program} {w : World} {H' : Hp} {h' : Heap} {kvs : List (Key × V)} {vs : List (Key × Value)} (z : kvs.length ≤ sizeLine) (hd : (a == sysModules) = false) (rel : KV kvs vs) (dd : h'.DictOf (mixKind P w) a vs) :
    ObjOk P w H' h' a (.dK kvs) := ⟨z, hd, vs, rel, dd⟩
/-- d[y] = v -/
theorem d_setItem {H' : Hp} {Q : Unit → Shared → Prop} (hu : A.units + 1 < cLine) (I : Inv X pins σ H s) (g : DPut H a y v H') (ry : RelV y u) (rv : RelV v r) (h : ∀ s', Inv X pins σ H' s' → Q () s') :
    wpAny (model X.prog X.w) A (setItem (.ref a) u r) Q E s := by
  rcases g with ⟨kvs, k, e, ey, l, eH⟩ | ⟨kvs, k, b, e, ey, eb, l, eH⟩
  · subst ey eH
    obtain ⟨z, hd, vs, rel, dd⟩ := dk_of I.hok e
    have hz : vs.length ≤ sizeLine := by rw [← rel.length]; exact z
    have hl : (putK kvs k v).length ≤ sizeLine := by have := length_putK kvs k v; omega
    refine wpAny_setItem_pairs (hsz := hz) (kV_is ry) dd fun h' dd' hs => h _ ?_
    have he : ∃ q, h'.get? a = some q := let ⟨q, _, _, hq, _⟩ := dd'; ⟨q, hq⟩
    exact d_write I (by rw [e]; exact True.intro) hs he (dk_new hl hd (rel.put k rv) dd')
  · subst ey eH
    cases (show u = Value.ref b from ry)
    obtain ⟨z, hd, xs, rel, dd⟩ := dt_of I.hok e
    have hz : xs.length ≤ sizeLine := by rw [← Paired.length rel]; exact z
    have hl : (putK kvs k v).length ≤ sizeLine := by have := length_putK kvs k v; omega
    refine wpAny_setItem_heap (hsz := hz) (tupleKind_room_in1 hu) (key_of I.hok eb) dd fun h' dd' hs => h _ ?_
    obtain ⟨q, es, ep, hq, h2, h3, h4, _, h5⟩ := dd'
    refine d_write I (by rw [e]; exact True.intro) hs ⟨q, hq⟩ ⟨hl, hd, _, (rel.put k eb rv).keeps fun c ys ec => ?_, q, es, ep, hq, h2, h3, h4, h5⟩
    rw [upd_ne (ne_of ec e (fun z => nomatch z))]
    exact ec
end

section
variable {X : Cx} {pins : List (Addr × Obj)} {σ : St} {H : Hp} {s : Shared} {a : Addr} {kvs : List (Key × V)} {k : Key} {u : Value} {A : Around} {E : Value → Shared → Prop}
end


/-- the element of a subscription, not a slice -/
def NoSl (i : Expr) : Prop := ∀ ov iv, subscripted i false ov iv = operate [ov, iv] (getItem ov iv)
theorem subD_of {prog : Program} {w : World} {A : Around} {E : Value → Shared → Prop} {s : Shared} {env : Env} {value slice : Expr} {pos : Pos} {T id : String} {Q : Value → Shared → Prop}
    (hl : typeLookup (.type T) "__getitem__" = pure (some (.builtin id))) (hs : NoSl slice)
    (h : wpAny (model prog w) A (eval value env) (fun o s₁ => wpAny (model prog w) A (eval slice env) (fun i s₂ => s₂.TypeIs o T ∧ wpAny (model prog w) A (getItem o i) Q E s₂) E s₁) E s) :
    wpAny (model prog w) A (eval (.Subscript value slice pos) env) Q E s := by
  refine Subscript_ (wpAny_mono h (fun o s₁ h₁ => wpAny_mono h₁ (fun i s₂ h₂ => ?_) fun _ _ x => x) fun _ _ x => x)
  obtain ⟨hT, h₂⟩ := h₂
  unfold subscriptTail
  refine wpAny_bind ?_
  rw [getitemInPython_of_ne hT.not_modules]
  refine wpAny_bind (wpAny_specialOf hT hl ?_)
  have fin : wpAny (model prog w) A (subscripted slice false o i) (fun r s₃ => wpAny (model prog w) A (letTemporaryGo value o r >>= fun _ => pure r) Q E s₃) E s₂ := by
    rw [hs o i]
    exact wpAny_operating (wpAny_mono h₂ (fun r s₃ h₃ => wpAny_bind (wpAny_letTemporaryGo (wpAny_pure h₃))) fun _ _ x => x)
  first
    | exact wpAny_pure (wpAny_bind fin)
    | exact wpAny_bind (wpAny_pure (wpAny_bind fin))
    | exact wpAny_bind fin

theorem dict_typeIs {X : Cx} {pins : List (Addr × Obj)} {σ : St} {H : Hp} {s : Shared} {a : Addr} {y : V} {o : Option V} (I : Inv X pins σ H s) (g : DGet H a y o) : s.TypeIs (.ref a) "dict" := by
  rcases g with ⟨kvs, k, e, _, _⟩ | ⟨kvs, k, b, e, _, _, _⟩
  · obtain ⟨_, _, vs, _, dd⟩ := dk_rd I.hok e
    exact dd.typeIs
  · obtain ⟨_, _, xs, _, dd⟩ := dt_rd I.hok e
    exact dd.typeIs
/-- d[y] -/
def tDGet (td ty : TE) : TE := fun σ H Q => td σ H fun x H1 => ty σ H1 fun y H2 => ∃ a v, x = .ref a ∧ DGet H2 a y (some v) ∧ Q v H2
/-- d[y] = v -/
def sDPut (td ty tv : TE) : TS := fun D σ H => tv σ H fun v H1 => td σ H1 fun x H2 => ty σ H2 fun y H3 => ∃ a H4, x = .ref a ∧ DPut H3 a y v H4 ∧ D.nx σ H4
section
variable {X : Cx} {o i e value : Expr} {pos pos' tpos : Pos} {td ty tv : TE}
theorem pe_dget (hu : X.A.units + 1 < cLine) (ho : PE X o td) (hi : PE X i ty) (hs : NoSl i) : PE X (.Subscript o i pos) (tDGet td ty) := by
  intro pins s σ H Q I h
  refine subD_of PySem.F.slot_dict_getitem.lookup hs (thn (ho pins s σ H _ I h) fun u s1 ⟨x, H1, I1, rx, q1⟩ => thn (hi pins s1 σ H1 _ I1 q1) fun iv s2 ⟨y, H2, I2, ry, a, v, ex, g, q2⟩ => ?_)
  subst ex
  obtain rfl : u = Value.ref a := rx
  exact ⟨dict_typeIs I2 g, d_getItem hu I2 g ry fun w' s3 I3 rw' => ⟨v, H2, I3, rw', q2⟩⟩
theorem ps_dput (hu : X.A.units + 1 < cLine) (ho : PE X o td) (hi : PE X i ty) (hv : PE X value tv) (hs : swapsWith value (some (.Subscript o i pos')) pos.line X.env = pure false) :
    PS X (.Assign [.Subscript o i pos'] value pos) (sDPut td ty tv) := by
  intro pins s σ H D I h
  refine wpAny_Assign_Subscript (thn (hv pins s σ H _ I h) fun r s1 ⟨v, H1, I1, rv, q1⟩ => thn (ho pins s1 σ H1 _ I1 q1) fun u s2 ⟨x, H2, I2, rx, q2⟩ => thn (hi pins s2 σ H2 _ I2 q2) fun iv s3 ⟨y, H3, I3, ry, a, H4, ex, g, q3⟩ => ?_) hs
  subst ex
  obtain rfl : u = Value.ref a := rx
  exact d_setItem hu I3 g ry rv fun s4 I4 => ⟨σ, H4, I4, q3⟩
end


theorem dk_empty {P : Program} {w : World} {H : Hp} (h : Heap) (hb : sysModules < h.objs.size) : ObjOk P w H (h.push { cls := .type "dict", data := .dict #[] }) h.objs.size (.dK []) :=
  ⟨Nat.zero_le _, beq_eq_false_iff_ne.mpr (Ne.symm (Nat.ne_of_lt hb)), [], .nil, Heap.DictOf.new h⟩
/-- {}, to be a dict of the kind that is wanted -/
def tDNewK : TE := fun _ H Q => ∀ p, H p = none → Q (.ref p) (upd H p (.dK []))
section
variable {X : Cx} {pos : Pos}
theorem pe_dnewK : PE X (.Dict [] [] pos) tDNewK := fun pins s σ H Q I h =>
  wpAny_Dict_empty ⟨.ref s.heap.objs.size, _, I.laid (a := s.heap.objs.size) (o := .dK []) (t' := s.toks) (fun _ _ q => Heap.get?_push_of_some _ q) (Nat.le_refl _) (dk_empty s.heap I.big), rfl, h _ (I.hok.fresh (Nat.le_refl _))⟩
end

/-- a method call o.m(e) of a built-in, with one argument: what must be seen of the text -/
structure M1 (X : Cx) (o : Expr) (m : Str) (apos : Pos) (e : Expr) (cpos : Pos) : Prop where
  base : attributeBase o m X.env (eval o X.env) = eval o X.env
  few : ((backTo cpos (starEach [e] X.env)).all (fun x => !x.1) && (backToKw cpos (keywordEach [] X.env)).all (fun x => x.1.isSome)
    && decide (([e] : List Expr).length + ([] : List Keyword).length + (if ([] : List Keyword).isEmpty then 0 else 1) < 30)) = true
  line : (apos.endLine == cpos.line) = true
  trees : backTo cpos (starEach [e] X.env) = [(false, eval e X.env)]
structure M2 (X : Cx) (o : Expr) (m : Str) (apos : Pos) (e f : Expr) (cpos : Pos) : Prop where
  base : attributeBase o m X.env (eval o X.env) = eval o X.env
  few : ((backTo cpos (starEach [e, f] X.env)).all (fun x => !x.1) && (backToKw cpos (keywordEach [] X.env)).all (fun x => x.1.isSome)
    && decide (([e, f] : List Expr).length + ([] : List Keyword).length + (if ([] : List Keyword).isEmpty then 0 else 1) < 30)) = true
  line : (apos.endLine == cpos.line) = true
  trees : backTo cpos (starEach [e, f] X.env) = [(false, eval e X.env), (false, eval f X.env)]

/-- a is a dict, whatever its keys -/
def IsD (H : Hp) (a : Addr) : Prop := (∃ kvs, Rd H a (.dK kvs)) ∨ ∃ kvs, Rd H a (.dT kvs)
theorem isD_at {X : Cx} {pins : List (Addr × Obj)} {σ : St} {H : Hp} {s : Shared} {a : Addr} (I : Inv X pins σ H s) (d : IsD H a) :
    s.TypeIs (.ref a) "dict" ∧ (∀ b, Value.ref a = .ref b → ∃ ob, s.heap.get? b = some ob ∧ ob.dict = none) ∧ (a == sysModules) = false := by
  rcases d with ⟨kvs, e⟩ | ⟨kvs, e⟩
  · obtain ⟨_, hd, vs, _, dd⟩ := dk_rd I.hok e
    refine ⟨dd.typeIs, fun b q => ?_, hd⟩
    cases q
    obtain ⟨ob, _, _, h1, h2, _⟩ := dd
    exact ⟨ob, h1, h2.2.1⟩
  · obtain ⟨_, hd, xs, _, dd⟩ := dt_rd I.hok e
    refine ⟨dd.typeIs, fun b q => ?_, hd⟩
    cases q
    obtain ⟨ob, _, _, h1, h2, _⟩ := dd
    exact ⟨ob, h1, h2.2.1⟩

section
variable {X : Cx} {pins : List (Addr × Obj)} {σ : St} {H : Hp} {s : Shared} {a : Addr} {y d : V} {u r : Value} {o : Option V} {A : Around} {E : Value → Shared → Prop}
/-- d.get(y, x) -/
theorem d_get2 {Q : Value → Shared → Prop} (hu : A.units + 1 < cLine) (I : Inv X pins σ H s) (g : DGet H a y o) (ry : RelV y u) (rd : RelV d r) (h : ∀ w' s', Inv X pins σ H s' → RelV (o.getD d) w' → Q w' s') :
    wpAny (model X.prog X.w) A (call (.builtin "dict.get") [.ref a, u, r]) Q E s := by
  rcases g with ⟨kvs, k, e, ey, l⟩ | ⟨kvs, k, b, e, ey, eb, l⟩
  · subst ey
    obtain ⟨z, hd, vs, rel, dd⟩ := dk_rd I.hok e
    refine call_meetsIn PySem.F.slot_dict_get dd.typeIs PySem.F.entry_dict_get (PySem.F.args_dict_get_3 _ _ _) (meets_dict_get_default (mixKind X.prog X.w) a (kV_is ry) hd r) ⟨_, dd.mapOf, h _ _ (I.tok _) ?_⟩
    rw [l]
    exact (rel.val k).getD rd
  · subst ey
    cases (show u = Value.ref b from ry)
    obtain ⟨z, hd, xs, rel, dd⟩ := dt_rd I.hok e
    refine call_meetsIn PySem.F.slot_dict_get dd.typeIs PySem.F.entry_dict_get (PySem.F.args_dict_get_3 _ _ _) (meetsH_dict_get_default (tupleKind (mixKind X.prog X.w)) a b hd r) ⟨tupleKind_room_in1 hu, k, xs, key_of I.hok eb, dd, h _ _ (I.tok _) ?_⟩
    rw [l]
    exact (rel.val k).getD rd
end

def tDGet2 (td ty tx : TE) : TE := fun σ H Q => td σ H fun x H1 => ∃ a, x = .ref a ∧ IsD H1 a ∧ ty σ H1 fun y H2 => tx σ H2 fun z H3 => ∃ o, DGet H3 a y o ∧ Q (o.getD z) H3
section
variable {X : Cx} {o e f : Expr} {apos cpos : Pos} {td ty tx : TE}
theorem pe_dget2 (hu : X.A.units + 1 < cLine) (ho : PE X o td) (he : PE X e ty) (hf : PE X f tx) (m : M2 X o "get" apos e f cpos) : PE X (.Call (.Attribute o "get" apos) [e, f] [] cpos) (tDGet2 td ty tx) := by
  intro pins s σ H Q I h
  refine wpAny_Call_method m.base m.few m.line PySem.F.plainAttrs_dict PySem.F.slot_dict_get PySem.F.type_dict_get (thn (ho pins s σ H _ I h) fun u s1 ⟨x, H1, I1, rx, a, ex, d, q1⟩ => ?_)
  subst ex
  obtain rfl : u = Value.ref a := rx
  obtain ⟨t1, t2, _⟩ := isD_at I1 d
  refine ⟨t1, t2, ?_⟩
  rw [m.trees]
  refine Calls.callWith_builtin rfl (Calls.evalArgs_plain (Calls.spliced_cons (thn (he pins s1 σ H1 _ I1 q1) fun iv s2 ⟨y, H2, I2, ry, q2⟩ =>
    Calls.spliced_cons (thn (hf pins s2 σ H2 _ I2 q2) fun fv s3 ⟨z, H3, I3, rz, ov, g, q3⟩ => Calls.spliced_nil ?_))))
  exact d_get2 hu I3 g ry rz fun w' s4 I4 rw' => ⟨_, H3, I4, rw', q3⟩
end

section
variable {X : Cx} {pins : List (Addr × Obj)} {σ : St} {H : Hp} {s : Shared} {a : Addr} {kvs : List (Key × V)} {A : Around} {E : Value → Shared → Prop}
end


section
variable {X : Cx} {pins : List (Addr × Obj)} {σ : St} {H : Hp} {s : Shared} {a : Addr} {y : V} {u : Value} {A : Around} {E : Value → Shared → Prop}
end
end L2

namespace L2
open PySem PySem.Spec PyProof.Rows

section
variable {prog : Program} {w : World} {A : Around} {E : Value → Shared → Prop}
end

section
variable {X : Cx}
end
end L2

namespace L2
open PySem PySem.Spec PyProof.Rows

section
variable {X : Cx} {pins : List (Addr × Obj)} {σ : St} {H : Hp} {s : Shared} {h' : Heap}
end
section
variable {X : Cx}
theorem pi_one {tg : Expr} {pins : List (Addr × Obj)} {σ : St} {H : Hp} {s : Shared} {R : It → Hp → Prop} {J : It} {tn : Nat → Heap → Prop} {tk : Nat} (I : Inv X pins σ H s) (o : Obj)
    (T : Turn X.prog X.w X.K tg J [s.heap.objs.size] s.heap.objs.size tn) (st : tn 0 (s.heap.push o)) (q : R J H) : PIE X pins σ tg R (.ref s.heap.objs.size) { s with heap := s.heap.push o, toks := tk } := by
  refine ⟨s.heap.objs.size, [s.heap.objs.size], tn, J, H, rfl, I.kept fun b ob e => Heap.get?_push_of_some _ e, T, st, fun b hb => ?_, q⟩
  have e : b = s.heap.objs.size := by simpa using hb
  subst e
  exact I.fpOk (Nat.le_refl _) (I.hok.fresh (Nat.le_refl _))
end

/-- range(i, j, c): small bounds, n items -/
def RgC (i j c : Int) (n : Nat) : Prop := c ≠ 0 ∧ c.natAbs < 1073741824 ∧ Builtin.Range.small i j c = true ∧ Builtin.Range.rangeSize i j c = n
theorem RgC.neg {i j : Int} (ha : -(2 ^ 62) ≤ i) (ha' : i < 2 ^ 62) (hb : -(2 ^ 62) ≤ j) (hb' : j < 2 ^ 62) : RgC i j (-1) (i - j).toNat :=
  ⟨by decide, by decide, PySem.W.small_down ha ha' hb hb', PySem.W.rangeSize_downNat i j⟩
section
variable {X : Cx} {tg : Expr}
end
section
variable {X : Cx} {tg : Expr}
end

def Its (x : Str) : It := ⟨fun i _ => i < x.cps.size, fun i H v H' => H' = H ∧ ∃ c, x.cps[i]? = some c ∧ v = .str ⟨#[c]⟩, fun i _ => x.cps.size ≤ i⟩
theorem turn_str {P : Program} {w : World} {K : PySem.W.Frag} {tg : Expr} (it : Addr) (x : Str) (t : Tok) (ty : String) (hty : ty = "str_ascii_iterator" ∨ ty = "str_iterator") :
    Turn P w K tg (Its x) [it] it (fun i h => h.IsStrIter it ty x t i) where
  mem := by simp
  obj := fun i h st b hb => by
    have e : b = it := by simpa using hb
    subst e
    obtain ⟨o, e, c, d⟩ := st
    exact ⟨o, e, fun v z => by rw [d] at z; cases z⟩
  keep := fun i h h' st k => let ⟨o, ho, r⟩ := st; ⟨o, k it (by simp) o ho, r⟩
  item := by
    intro X hP hw hK hc i pins s σ H E I hf st hg
    subst hP hw hK
    obtain ⟨f0, f1, f2, f3, f4, f5⟩ := hf it (by simp)
    have W : Walks X.prog X.w X.A it [it] [it] x.cps.size (SignAt x) (fun i h => h.IsStrIter it ty x t i) := by
      rcases hty with e | e
      · rw [e]; exact Walks.strAscii (I.ok.hd hc) it x t
      · rw [e]; exact Walks.strWide (I.ok.hd hc) it x t
    have hno : ["enumerate", "zip", "dict_itemiterator", "dict_reverseitemiterator", "odict_iterator", "itertools.zip_longest", "itertools.pairwise"].contains ty = false := by
      rcases hty with e | e
      · rw [e]; decide
      · rw [e]; decide
    refine W.item i s _ _ hg st fun v h' tk hv st' kk => ?_
    obtain ⟨c, u, hcx, rfl⟩ := hv
    have I1 : Inv X pins σ H { s with heap := h', toks := tk } := I.turned (fun b o hb e => kk b o (by simpa using hb) e) f0 f1 f3 f4 f5
    obtain ⟨oi, e, cc, dd⟩ := id st'
    exact ⟨_, rfl, go_of (s := { s with heap := h', toks := tk }) e cc dd hno ⟨.str ⟨#[c]⟩, H, I1, ⟨u, rfl⟩, ⟨rfl, c, hcx, rfl⟩, st', fun b hb => (hf b hb).1⟩⟩
  done := by
    intro X hP hw hK hc i pins s σ H E I hf st hg
    subst hP hw hK
    obtain ⟨f0, f1, f2, f3, f4, f5⟩ := hf it (by simp)
    have hx : x.cps[i]? = none := Array.getElem?_eq_none hg
    rcases hty with e | e
    · rw [e] at st
      exact wpAny_pyNext_ascii_end (I.ok.hd hc) st hx fun h' eb => ⟨rfl, I.turned (t' := s.toks) (fun b o hb e => eb b o hb e) f0 f1 f3 f4 f5⟩
    · rw [e] at st
      exact wpAny_pyNext_wide_end (I.ok.hd hc) st hx fun h' eb => ⟨rfl, I.turned (t' := s.toks) (fun b o hb e => eb b o hb e) f0 f1 f3 f4 f5⟩
  self := fun A i s Q E st h => by
    rcases hty with e | e
    · rw [e] at st; exact wpAny_pyIter_striter_ascii st h
    · rw [e] at st; exact wpAny_pyIter_striter_wide st h
def iStr (te : TE) : TI := fun σ H R => te σ H fun v H1 => ∃ x, v = .str x ∧ R (Its x) H1
theorem pi_str {X : Cx} {tg e : Expr} {te : TE} (he : PE X e te) : PI X tg e (iStr te) := by
  intro pins s σ H R I h
  refine thn (he pins s σ H _ I h) fun v s1 ⟨y, H1, I1, r1, x, ex, q⟩ => ?_
  subst ex
  obtain ⟨t, rfl⟩ := r1
  cases ha : x.cps.all (· < 128)
  · exact wpAny_pyIter_wide ha (pi_one (tk := s1.toks) I1 _ (turn_str _ x t "str_iterator" (.inr rfl)) ⟨_, Heap.get?_push_size _ rfl, rfl, rfl⟩ q)
  · exact wpAny_pyIter_ascii ha (pi_one (tk := s1.toks) I1 _ (turn_str _ x t "str_ascii_iterator" (.inl rfl)) ⟨_, Heap.get?_push_size _ rfl, rfl, rfl⟩ q)

section
variable {prog : Program} {w : World} {A : Around} {E : Value → Shared → Prop} {s : Shared}
end

section
variable {X : Cx} {pins : List (Addr × Obj)} {σ : St} {H : Hp} {s : Shared} {d : Addr} {o : Obj}
end

section
variable {P : Program} {w : World} {K : PySem.W.Frag} {tg : Expr} {d : Addr} {o : Obj} {es : Array DictEntry} {ep : Nat}
end

section
variable {X : Cx} {tg e : Expr} {td : TE} {apos cpos : Pos}
end

end L2

section 
namespace Bits
open PySem PyProof.Rows

end Bits
end 

section 
namespace TL
open PySem PySem.Builtin PySem.Builtin.Str PySem.StrLaws

abbrev tl (x : Str) : List Nat := x.cps.toList
/-- S stands at the head of l -/
def pre (S l : List Nat) : Bool := l.take S.length == S
/-- what stands before the first S, and behind it -/
def par (S : List Nat) : List Nat → List Nat → Option (List Nat × List Nat)
  | _, [] => none
  | acc, c :: r => if pre S (c :: r) = true then some (acc, (c :: r).drop S.length) else par S (acc ++ [c]) r

end TL
end 

namespace L2
open PySem PySem.Spec PyProof.Rows

theorem strs_of_vals : ∀ {ys : List Str} {us : List Value}, Vals (ys.map V.str) us → StrsAre us ys
  | [], _, .nil => .nil
  | y :: ys, _, .cons r t => by
    obtain ⟨k, rfl⟩ := r
    exact .cons y k (strs_of_vals t)

section
variable {X : Cx} {pins : List (Addr × Obj)} {σ : St} {H : Hp} {s : Shared} {Q : VK}
end

section
variable {X : Cx}

/-- sep.join(a list | a tuple of texts) -/
theorem mt_join : MtR X "str.join" (fun x xs H Q => ∃ a p, ∃ ys : List Str, x = .str a ∧ xs = [.ref p] ∧ (SqL X.K H p (ys.map V.str) ∨ SqT X.K H p (ys.map V.str)) ∧
    (ys.map (·.length)).sum + ys.length * a.length ≤ 16777216 ∧ Q (.str (Txt.join a ys)) H) := by
  intro pins s σ H x xs v us Q I rx rs h
  obtain ⟨a, p, ys, rfl, rfl, hp, hz, h⟩ := h
  obtain ⟨t, rfl⟩ := rx
  cases rs with
  | cons r1 rs =>
    cases rs
    cases r1
    rcases hp with hp | hp
    · obtain ⟨its, r, ⟨o, n, ho, hc, _, hd⟩, _⟩ := I.list hp
      exact PyProof.Rows.join_list (items := its.toArray) ⟨o, ho, hc, n, hd⟩ (by rw [List.toList_toArray]; exact strs_of_vals r) hz fun t' k => ⟨.str _, H, I.tok k, ⟨t', rfl⟩, h⟩
    · obtain ⟨its, r, ht, _⟩ := I.tuple hp
      exact PyProof.Rows.join_tuple (items := its.toArray) ht (by rw [List.toList_toArray]; exact strs_of_vals r) hz fun t' k => ⟨.str _, H, I.tok k, ⟨t', rfl⟩, h⟩

end

section
variable {X : Cx} {o e : Expr} {to te : TE}
def tM1 (r : V → List V → Hp → VK → Prop) (to te : TE) : TE := fun σ H Q => to σ H fun x H1 => (∃ a, x = .str a) ∧ te σ H1 fun y H2 => r x [y] H2 Q
theorem pe_m1 {id : String} {name : Str} {apos pos : Pos} {r : V → List V → Hp → VK → Prop} (slot : Slot "str" name id) (ty : typeOf (.builtin id) = pure (.type "method_descriptor")) (rule : MtR X id r) (ho : PE X o to) (he : PE X e te)
    (hs : starEach [e] X.env = [(false, eval e X.env)] := by rfl) (hbase : attributeBase o name X.env (eval o X.env) = eval o X.env := by rfl) (hline : (apos.endLine == pos.line) = true := by rfl) :
    PE X (.Call (.Attribute o name apos) [e] [] pos) (tM1 r to te) := by
  intro pins s σ H Q I h
  refine PySem.Call_method1 hbase hs hline (thn (ho pins s σ H _ I h) fun v s1 ⟨x, H1, I1, r1, q1⟩ => ?_)
  obtain ⟨⟨a, rfl⟩, q1⟩ := q1
  obtain ⟨t, rfl⟩ := _root_.id r1
  refine ⟨"str", _, F.plainAttrs_str, slot, ty, typeIs_str _ _ _, (fun _ e => nomatch e), Calls.callWith_builtin rfl (Calls.evalArgs_plain (Calls.spliced_cons ?_))⟩
  exact thn (he pins s1 σ H1 _ I1 q1) fun u s2 ⟨y, H2, I2, r2, q2⟩ => Calls.spliced_nil (rule pins s2 σ H2 _ [y] _ [u] Q I2 r1 (.cons r2 .nil) q2)

theorem pe_join {apos pos : Pos} (ho : PE X o to) (he : PE X e te) (hs : starEach [e] X.env = [(false, eval e X.env)] := by rfl) (hbase : attributeBase o "join" X.env (eval o X.env) = eval o X.env := by rfl) (hline : (apos.endLine == pos.line) = true := by rfl) :
    PE X (.Call (.Attribute o "join" apos) [e] [] pos) (tM1 (fun x xs H Q => ∃ a p, ∃ ys : List Str, x = .str a ∧ xs = [.ref p] ∧ (SqL X.K H p (ys.map V.str) ∨ SqT X.K H p (ys.map V.str)) ∧
      (ys.map (·.length)).sum + ys.length * a.length ≤ 16777216 ∧ Q (.str (Txt.join a ys)) H) to te) :=
  pe_m1 F.slot_str_join F.type_str_join mt_join ho he hs hbase hline
end
end L2

namespace L2
open PySem PySem.Spec PyProof.Rows

section
variable {X : Cx}
theorem op_le_str : OpR X (compareOp .LtE) (fun x y H Q => ∃ i j, x = .str i ∧ y = .str j ∧ Q (.bl (!decide (j.cps.toList < i.cps.toList))) H) := by
  intro pins s σ H x y v u Q I rx ry h
  obtain ⟨i, j, rfl, rfl, q⟩ := h
  obtain ⟨t, rfl⟩ := rx
  obtain ⟨t', rfl⟩ := ry
  exact PySem.P.le_str (fin_bl I q rfl)
end

theorem IsPart.raw {v : Value} {o : Option Int} (p : IsPart v o) : ∃ l : Option (Int × Tok), v = partValue l ∧ l.map (·.1) = o := by
  cases p with
  | none => exact ⟨none, rfl, rfl⟩
  | int i t => exact ⟨some (i, t), rfl, rfl⟩

/-- z[lo:hi] -/
def cutS (z : Str) (lo hi : Option Int) : Str :=
  ⟨((z.cps.toList.drop (HT.sIx z.length 0 lo)).take (HT.sIx z.length z.length hi - HT.sIx z.length 0 lo)).toArray⟩
end L2

namespace Att
open PySem PySem.W PySem.Calls PyProof.Rows

theorem ints_of_wellAll {P : Params} {h : Heap} : ∀ (ns : List Int) (vs : List Value), WellAll P h vs (ns.map WData.int) → IntsAre vs ns := by
  intro ns
  induction ns with
  | nil =>
    intro vs w
    rw [List.map_nil] at w
    cases w
    exact .nil
  | cons n ns ih =>
    intro vs w
    rw [List.map_cons] at w
    cases w with
    | cons a b =>
      cases a
      exact .cons _ _ (ih _ b)

theorem script_of {l : OpenLaw} {n : Nat} (hn : l.most = some n) {P : Params} {h : Heap} {args : List WData} {vals : List Value}
    (hpre : l.row.toRowW.claim.pre args = true) (hwl : WellAll P h vals args) :
    ∃ a vs ns, vals = [Value.ref a] ∧ args = [WData.list (ns.map WData.int)] ∧ h.get? a = some { cls := .type "list", data := .seq vs.toArray } ∧ IntsAre vs ns ∧ ns.length ≤ n := by
  have hsh : WShape.hasAll [] args [.list .int] = true := (pre_splitW hpre).1
  have hc : l.pre.holds [] { args := args } = true := (pre_splitW hpre).2
  obtain ⟨d, r, rfl, h1, h2⟩ := hasAllW_cons hsh
  obtain rfl := hasAllW_nil h2
  obtain ⟨xs, rfl, h3⟩ := hasW_list h1
  obtain ⟨ns, rfl⟩ := items_int h3
  have hlen : ns.length ≤ n := by
    unfold OpenLaw.pre at hc
    have h4 : (WTm.not (.lt (.lit (.int (n : Int))) (.len (.arg 0)))).holds [] { args := [.list (ns.map .int)] } = true := by
      have h4 := (holds_andW hc).1
      rw [hn] at h4
      exact h4
    have h5 := condW_of h4 (w_not (w_lt w_lit (w_len_list (w_arg rfl))))
    rw [List.length_map] at h5
    refine Nat.le_of_not_lt fun q => ?_
    have q' : (n : Int) < ((ns.length : Nat) : Int) := by omega
    first
      | (rw [decide_eq_true q'] at h5; exact absurd h5 (by decide))
      | (simp at h5; omega)
  cases hwl with
  | cons w1 w2 =>
    cases w2
    cases w1 with
    | list ho hall => exact ⟨_, _, ns, rfl, rfl, ho, ints_of_wellAll ns _ hall, hlen⟩

theorem post_true (l : OpenLaw) (args : List WData) : l.row.toRowW.claim.post args (.bool true) args = true :=
  postW_of (r := l.row.toRowW) (X := (true == true))
    (show WShape.has [] (.bool true) .bool = true by first | rfl | decide | simp [WShape.has, WShape.arms, WShape.armsAll])
    (show (WTm.eq .res (.lit (.bool true))).value [] { args := args, res := some (.bool true), after := args } = some (.bool (true == true)) from w_eq_bool (w_res rfl) w_lit) rfl

/-- the same from a codeAny of the CALL (for a layer whose function contracts speak of calls) -/
theorem attach_call {l : OpenLaw} {n : Nat} {q : Program} {loose : List Str} {XP : (Str → Option Value) → Heap → Prop} {YP : World → Heap → Prop} {d : DefRec}
    (hn : l.most = some n) (hdf : d.params.defaults = [])
    (call : ∀ (w : World) (s₀ s₁ : Shared) (mg mb : Str → Option Value) (fa : Addr) (o : Obj) (pm cd doc : Value) (a : Addr) (vs : List Value) (ns : List Int),
      Ground q loose [] XP w s₀ mg mb s₁.heap → YP w s₁.heap →
      s₁.heap.get? fa = some o → o.data = .func (docDef d.name d.params d.body d.scope pm cd doc) → s₁.heap.CodeRec cd d.name → mg d.name = some (.ref fa) →
      s₁.heap.get? a = some { cls := .type "list", data := .seq vs.toArray } → IntsAre vs ns → ns.length ≤ n → s₁.gens = #[] →
      codeAny (model l.prog w) callerA (.call (.ref fa) ⟨[.ref a], []⟩) (fun r s' => r = .ok (.ret (.bool true)) ∧ OldK s₁.heap s'.heap ∧ s'.os = s₁.os ∧ AllBare s'.gens) s₁) :
    WalkO q loose XP YP l.row.toRowW d [] (fun f vs => PySem.call f vs) := by
  intro w s₀ s₁ mg mb G Y fa o pm cd doc dV kV ho hd hcd hD hmg hg args vals as hpre hlay hrd hwl hlo
  obtain rfl : dV = .none := Dflts.none hD hdf
  obtain rfl : kV = .none := Dflts.noKw hD
  obtain ⟨a, vs, ns, rfl, rfl, hobj, hints, hlen⟩ := script_of hn hpre hwl
  refine enter_call (codeAny_mono (call w s₀ s₁ mg mb fa o pm cd doc a vs ns G Y ho (fd_plain hd) hcd hmg hobj hints hlen hg) fun r s' hq => ?_)
  obtain ⟨rfl, h2, h3, h4⟩ := hq
  exact ⟨.inl ⟨.bool true, .bool true, [], rfl, fun _ => rfl, .bool true, post_true l _, fun _ => ⟨List.Pairwise.nil, fun _ hm => (nomatch hm)⟩⟩, h2, h3, h4⟩

section
variable {prog : Program} {w : World} {A : Around} {E : Value → Shared → Prop} {s : Shared} {K : Frag}

end
end Att

namespace L2
open PySem PySem.Spec PyProof.Rows

theorem vals_ints : ∀ {vs : List Value} {ns : List Int}, IntsAre vs ns → Vals (ns.map V.int) vs
  | _, _, .nil => .nil
  | _, _, .cons n t h => .cons ⟨t, rfl⟩ (vals_ints h)

end L2

namespace L2
open PySem PySem.Spec PyProof.Rows

end L2

namespace L2
open PySem PySem.Spec PyProof.Rows

def defArgs (s : Stmt) : Arguments := match s with
  | .FunctionDef _ a _ _ _ _ _ _ _ _ => a
  | _ => { posonlyargs := [], args := [], vararg := none, kwonlyargs := [], kw_defaults := [], kwarg := none, defaults := [] }
def defBody (s : Stmt) : List Stmt := match s with
  | .FunctionDef _ _ b _ _ _ _ _ _ _ => b
  | _ => []
def defScope (s : Stmt) : Scope := match s with
  | .FunctionDef _ _ _ _ _ _ sc _ _ _ => sc
  | _ => { kind := .function, names := [], isGenerator := false, isCoroutine := false }

abbrev CX0 : CXT := fun _ _ _ _ _ _ => False
abbrev E0 : XK := fun _ _ _ => False
theorem pass0 {X : Cx} : Passes CX0 X E0 := fun _ _ _ _ _ _ _ h => h.elim

structure Fun (K : PySem.W.Frag) (x qual : Str) (st : Stmt) (f : Addr) (fd : FuncData) : Prop where
  ex : ∃ (oc : Value) (od : Option Addr) (kV doc pm : Value) (an : Option Addr) (cdv ct : Value) (osl : Array (Option Value)),
    fd = PySem.W.fnOf x qual (defArgs st) (defBody st) (defScope st) .none kV doc pm an cdv ct ∧ K.lookup f = some ⟨oc, od, .func fd, osl⟩ ∧ PySem.W.codeIn K cdv qual = true
  kp : PySem.W.keepIn K (.ref f) = true
section
variable {P : Program} {w : World} {K : PySem.W.Frag} {mg : Str → Option Value} {base : Heap}
/-- THE RULE for a def: its body as a term of rules, and the reading of that term -/
theorem Fun.ok {x qual : Str} {st : Stmt} {f : Addr} {fd : FuncData} {N ps : List Str} {k : Nat} {sp : Sp} (F : Fun K x qual st f fd) (S : FnScope N ps (defScope st)) (len : ∀ vs H Q E, sp vs H Q E → vs.length = ps.length)
    (hbody : ∀ (cdv : Value) (A : Around) (outer : List Env) (s : Shared) (H : Hp) (vs : List V) (Q : VK) (E : XK), Room k (A.deeper (envOfC qual (defScope st) s.heap.objs.size f cdv)) → sp vs H Q E →
      ∃ t, PSs (cxOf CX0 P w K mg base N qual (defScope st) f cdv A outer s H E).nox (defBody st) t ∧ t { nx := fun _ H' => Q .non H', rt := Q } (start N vs) H) : FnOk P w K mg base CX0 (k + 1) f fd ps sp := by
  obtain ⟨oc, od, kV, doc, pm, an, cdv, ct, osl, rfl, lk, hcd⟩ := F.ex
  refine fn_of lk hcd S len fun A outer s H vs Q E hr hsp => ?_
  obtain ⟨t, h, q⟩ := hbody cdv A outer s H vs Q E hr hsp
  exact ⟨t, h.nox, q⟩
/-- how its arguments bind (no defaults): h is «fun _ _ _ _ _ _ us hl => match us, hl with | [_, _], _ => rfl», one _ a parameter -/
theorem Fun.binds {x qual : Str} {st : Stmt} {f : Addr} {fd : FuncData} {ps : List Str} (F : Fun K x qual st f fd)
    (h : ∀ (kV doc pm : Value) (an : Option Addr) (cdv ct : Value) (us : List Value), us.length = ps.length → bindArgs (PySem.W.fnOf x qual (defArgs st) (defBody st) (defScope st) .none kV doc pm an cdv ct) ⟨us, []⟩ = pure (ps.zip us)) : Binds K fd ps [] := by
  obtain ⟨oc, od, kV, doc, pm, an, cdv, ct, osl, rfl, lk, hcd⟩ := F.ex
  exact .all (h kV doc pm an cdv ct)
theorem fun_mk {x qual : Str} {st : Stmt} {f : Addr} {oc : Value} {od an : Option Addr} {osl : Array (Option Value)} {kV doc pm cdv ct : Value} (l : K.lookup f = some ⟨oc, od, .func (PySem.W.fnOf x qual (defArgs st) (defBody st) (defScope st) .none kV doc pm an cdv ct), osl⟩)
    (c : PySem.W.codeIn K cdv qual = true) (k : PySem.W.keepIn K (.ref f) = true) : Fun K x qual st f (PySem.W.fnOf x qual (defArgs st) (defBody st) (defScope st) .none kV doc pm an cdv ct) := ⟨⟨oc, od, kV, doc, pm, an, cdv, ct, osl, rfl, l, c⟩, k⟩
end
theorem hu_of {A : Around} {k : Nat} (hr : Room k A) : A.units + 1 < cLine := Nat.lt_of_le_of_lt (Nat.add_le_add_left (by decide : 1 ≤ 64) _) hr.units
theorem small1000 {n : Nat} (h : n ≤ 1000) : n < sizeLine := Nat.lt_of_le_of_lt h (by decide)

section
variable {X : Cx}
theorem pv (i : Nat) {x : Str} {pos : Pos} (hN : X.N[i]? = some x := by rfl) (hv : Vis X.env.scope x := by first | exact Or.inl rfl | exact Or.inr (Or.inl rfl) | exact Or.inr (Or.inr rfl)) (hd : (x == ("__debug__" : Str)) = false := by decide)
    (hcd : (x == ("__classdict__" : Str)) = false := by decide) : PE X (.Name x pos) (tVar i) := pe_var hN hv hd hcd
end

theorem iteF {A B : Prop} (h : B) : if false = true then A else B := by
  rw [if_neg Bool.false_ne_true]
  exact h
theorem iteT {A B : Prop} (h : A) : if true = true then A else B := by
  rw [if_pos rfl]
  exact h
theorem ite2 {c A B : Prop} [Decidable c] (h1 : c → A) (h2 : ¬ c → B) : if c then A else B := by
  by_cases h : c
  · rw [if_pos h]
    exact h1 h
  · rw [if_neg h]
    exact h2 h
theorem iteNS {c A B : Prop} [Decidable c] (hc : c) (h : B) : if (!decide c) = true then A else B := by
  rw [decide_eq_true hc]
  exact iteF h

/-- all that was tracked is as it was -/
def Same (H H' : Hp) : Prop := ∀ b o, H b = some o → H' b = some o
theorem Same.refl (H : Hp) : Same H H := fun _ _ h => h
theorem Same.trans {H H1 H2 : Hp} (a : Same H H1) (b : Same H1 H2) : Same H H2 := fun c o h => b c o (a c o h)
theorem Same.free {H H' : Hp} (e : Same H H') {l : Addr} (h : H' l = Option.none) : H l = Option.none := by
  cases q : H l with
  | none => rfl
  | some o =>
    rw [e l o q] at h
    cases h
theorem Same.seq {K : PySem.W.Frag} {H H' : Hp} {a : Addr} {xs : List V} (e : Same H H') (h : SqL K H a xs) : SqL K H' a xs := by
  rcases h with (h | ⟨o, h⟩) | h
  · exact .inl (.inl (e _ _ h))
  · exact .inl (.inr ⟨o, e _ _ h⟩)
  · exact .inr h

section
variable {κ : Type} [DecidableEq κ]
end
theorem sum_set : ∀ {l : List Int} {j : Nat} {z y : Int}, l[j]? = some z → (l.set j y).sum = l.sum - z + y
  | [], j, z, y, h => by simp at h
  | a :: r, 0, z, y, h => by
    have e : a = z := Option.some.inj h
    subst e
    show (y :: r).sum = (a :: r).sum - a + y
    rw [List.sum_cons, List.sum_cons]
    omega
  | a :: r, j + 1, z, y, h => by
    have ih := sum_set (l := r) (j := j) (z := z) (y := y) h
    show (a :: r.set j y).sum = (a :: r).sum - z + y
    rw [List.sum_cons, List.sum_cons, ih]
    omega
/-- a new instance and its __init__ leave all that was tracked as it was -/
theorem Same.made {H H1 : Hp} {x dx C : Addr} (nx : H x = Option.none) (nd : H dx = Option.none) (k : ∀ b o, (upd (upd H dx (.own x)) x (.ins C dx [])) b = some o → b ≠ x → H1 b = some o) : Same H H1 := fun b o e =>
  k b o (by rw [upd_ne (ne_of_none e nx), upd_ne (ne_of_none e nd)]; exact e) (ne_of_none e nx)
end L2

set_option Elab.async false
set_option linter.all false
set_option maxRecDepth 100000
set_option maxHeartbeats 4000000
namespace L2
open PySem PySem.Spec PyProof.Rows

section
variable {X : Cx}
def rIsi (K : PySem.W.Frag) : List V → Hp → VK → Prop := fun vs H Q => ∃ (x : V) (n : String) (t : Value) (b : Bool), vs = [x, .ty n] ∧ TyOf K H x t ∧ PySem.W.kitOne K t (.type n) = some b ∧ Q (.bl b) H
theorem cr_isi : CallR X (.builtin "isinstance") (rIsi X.K) := by
  intro pins s σ H vs us Q I r h
  obtain ⟨x, n, t, b, rfl, ty, e, q⟩ := h
  cases r with
  | cons r1 r2 =>
    cases r2 with
    | cons r2 r3 =>
      cases r3
      cases r2
      exact isinst_ok I r1 ty e fun tk => ⟨.bl b, H, I.tok tk, rfl, q⟩

theorem call_rng1 : CallR X (.type "range") (fun vs H Q => ∃ n : Int, vs = [.int n] ∧ ∀ p, H p = none → Q (.ref p) (upd H p (.rng 0 n))) := by
  intro pins s σ H vs us Q I r h
  obtain ⟨n, rfl, q⟩ := h
  obtain ⟨u, rfl, t, rfl⟩ := vals1 r
  refine call_range_1 ⟨.ref s.heap.objs.size, upd H s.heap.objs.size (.rng 0 n), I.laid (fun b u e => Heap.get?_push_of_some _ e) (Nat.le_refl _) ?_, rfl, q _ (I.hok.fresh (Nat.le_refl _))⟩
  exact ⟨_, _, _, Heap.get?_push_size _ rfl⟩

def upto (n : Nat) : List V := (List.range n).map fun (i : Nat) => V.int (i : Int)
theorem upto_length (n : Nat) : (upto n).length = n := by unfold upto; rw [List.length_map, List.length_range]
theorem upto_get {n i : Nat} (h : i < n) : (upto n)[i]? = some (.int (i : Int)) := by
  unfold upto
  rw [List.getElem?_map, List.getElem?_range h]
  rfl
theorem vals_upto : ∀ {n : Nat} {acc : Array Value}, ItemsOf (fun i v => ∃ t, v = Value.int (0 + (i : Int) * 1) t) acc n → Vals (upto n) acc.toList := by
  intro n acc h
  obtain ⟨hs, hv⟩ := h
  have gen : ∀ (l : List Value) (k : Nat), (∀ j v, l[j]? = some v → ∃ t, v = Value.int ((k + j : Nat) : Int) t) → Vals ((List.range' k l.length).map fun (i : Nat) => V.int (i : Int)) l := by
    intro l
    induction l with
    | nil => intro k _; exact .nil
    | cons a r ih =>
      intro k hk
      show Vals ((List.range' k (r.length + 1)).map _) _
      rw [List.range'_succ, List.map_cons]
      refine .cons ?_ (ih (k + 1) fun j v e => ?_)
      · obtain ⟨t, e⟩ := hk 0 a rfl
        exact ⟨t, e⟩
      · obtain ⟨t, e⟩ := hk (j + 1) v (by simpa using e)
        exact ⟨t, by rw [e]; congr 1; omega⟩
  have e : upto n = (List.range' 0 acc.toList.length).map fun (i : Nat) => V.int (i : Int) := by
    unfold upto; rw [Array.length_toList, hs, List.range_eq_range']
  rw [e]
  refine gen _ 0 fun j v e => ?_
  obtain ⟨t, e'⟩ := hv j v (by rw [← Array.getElem?_toList]; exact e)
  exact ⟨t, by rw [e']; congr 1; omega⟩
theorem call_list_rng (hc : X.calm = true) : CallR X (.type "list") (fun vs H Q => ∃ (p : Addr) (n : Nat), vs = [.ref p] ∧ H p = some (.rng 0 (n : Int)) ∧ n ≤ 1000 ∧ ∀ l, H l = none → Q (.ref l) (upd H l (.lst (upto n)))) := by
  intro pins s σ H vs us Q I r h
  obtain ⟨p, n, rfl, hp, hn, q⟩ := h
  obtain ⟨u, rfl, ru⟩ := vals1 r
  cases ru
  obtain ⟨t1, t2, t3, hob⟩ := I.hok p _ hp
  have hz : n ≤ sizeLine := Nat.le_of_lt (small1000 hn)
  refine call_list_range (n := n) (I.ok.hd hc) hob (small_one (by decide) (by decide) (by omega) (by omega)) (rangeSize_nat _ _ |>.trans (by simp)) (by omega) fun h' tk acc c' hk hS hacc => ?_
  refine ⟨.ref s.heap.objs.size, upd H s.heap.objs.size (.lst (upto n)), I.laid hk (Nat.le_refl _) ⟨by rw [upto_length]; exact hz, acc.toList, c', vals_upto hacc, ?_⟩, rfl, q _ (I.hok.fresh (Nat.le_refl _))⟩
  rw [hS]

def tStar (K : PySem.W.Frag) (te : TE) (t : TA) : TA := fun σ H Q => te σ H fun x H1 => ∃ a xs, x = .ref a ∧ (SqL K H1 a xs ∨ SqT K H1 a xs) ∧ t σ H1 fun ys H2 => Q (xs ++ ys) H2
theorem pa_star {e : Expr} {es : List Expr} {te : TE} {t : TA} {p : Pos} (ha : PE X e te) (hr : PA X es t) : PA X (.Starred e p :: es) (tStar X.K te t) := by
  intro pos pins s σ H Q I h
  refine PySem.W.items_star (thn (ha pins s σ H _ I h) fun u s1 ⟨x, H1, I1, r1, a, xs, ex, hs, q⟩ => ?_)
  subst ex
  cases r1
  have fin : ∀ (its : List Value), Vals xs its → ∀ h', (∀ b o', s1.heap.get? b = some o' → h'.get? b = some o') → wpAny (model X.prog X.w) X.A (spliced (backTo pos (starEach es X.env))) (fun vs s₃ => AP X pins σ Q (its ++ vs) s₃) X.xe { s1 with heap := h' } := by
    intro its rv h' hk
    have I2 : Inv X pins σ H1 { s1 with heap := h' } := I1.kept (t' := s1.toks) hk
    exact thn (hr pos pins _ σ H1 _ I2 q) fun us s3 ⟨ys, H3, I3, r3, q3⟩ => ⟨xs ++ ys, H3, I3, rv.append r3, q3⟩
  unfold PySem.W.StarOf notIterableAtAll
  rcases hs with hs | hs
  · obtain ⟨its, rv, hl, hz⟩ := I1.list hs
    have hlen := rv.length
    obtain ⟨o, ho, hc, n, hd⟩ := hl.isList
    refine wpAny_bind (wpAny_specialOf ⟨o, ho, hc⟩ PySem.F.slot_list_iter.lookup (wpAny_pure ⟨rfl, ?_⟩))
    exact wpAny_collect_seq a (.inl rfl) ho hc hd (fun h' hk => fin its rv h' hk) (by rw [List.size_toArray]; omega)
  · obtain ⟨its, rv, ⟨o, ho, hc, n, hd⟩, hz⟩ := I1.tuple hs
    have hlen := rv.length
    refine wpAny_bind (wpAny_specialOf ⟨o, ho, hc⟩ PySem.F.slot_tuple_iter.lookup (wpAny_pure ⟨rfl, ?_⟩))
    exact wpAny_collect_seq a (.inr rfl) ho hc hd (fun h' hk => fin its rv h' hk) (by rw [List.size_toArray]; omega)
end
end L2
namespace L2
open PySem PySem.Spec PyProof.Rows PySem.Calls

section
variable {prog : Program} {w : World} {A : Around} {E : Value → Shared → Prop} {s : Shared}
end
open AutoSeq1 (wpAny_loadPart') in
section
variable {X : Cx} {e : Expr} {te : TE} {p p2 pos pos2 : Pos}
end
end L2
namespace L2
open PySem PySem.Spec PyProof.Rows

def Fn (P : Program) (w : World) (K : PySem.W.Frag) (mg : Str → Option Value) (base : Heap) (x : Str) (k : Nat) (ps : List Str) (sp : Sp) : Prop :=
  ∃ (f : Addr) (fd : FuncData), FnOk P w K mg base CX0 k f fd ps sp ∧ Binds K fd ps [] ∧ PySem.W.keepIn K (.ref f) = true ∧ mg x = some (.ref f)
theorem Fn.mono {P : Program} {w : World} {K : PySem.W.Frag} {mg : Str → Option Value} {base : Heap} {x : Str} {j k : Nat} {ps : List Str} {sp : Sp} (F : Fn P w K mg base x j ps sp) (h : j ≤ k) : Fn P w K mg base x k ps sp := by
  obtain ⟨f, fd, a, b, c, d⟩ := F
  exact ⟨f, fd, a.mono h, b, c, d⟩
/-- a module's constant -/
def Gv (mg : Str → Option Value) (x : Str) (v : V) : Prop := ∃ u, mg x = some u ∧ RelV v u
structure Blt (mg : Str → Option Value) : Prop where
  b_len : mg "len" = none
  b_isinstance : mg "isinstance" = none
  b_abs : mg "abs" = none
  b_min : mg "min" = none
  b_max : mg "max" = none
  b_range : mg "range" = none
  b_list : mg "list" = none
  b_tuple : mg "tuple" = none
  b_sorted : mg "sorted" = none
  b_set : mg "set" = none
  b_reversed : mg "reversed" = none
  b_str : mg "str" = none
  b_int : mg "int" = none
  b_bool : mg "bool" = none
  b_sum : mg "sum" = none
  b_any : mg "any" = none
  b_all : mg "all" = none
  b_dict : mg "dict" = none
  b_enumerate : mg "enumerate" = none
  b_zip : mg "zip" = none
theorem se_BinOp {a b c d} {es : List Expr} {env : Env} : starEach (.BinOp a b c d :: es) env = (false, eval (.BinOp a b c d) env) :: starEach es env := rfl
theorem se_ListComp {a b c d} {es : List Expr} {env : Env} : starEach (.ListComp a b c d :: es) env = (false, eval (.ListComp a b c d) env) :: starEach es env := rfl
theorem se_Call {a b c d} {es : List Expr} {env : Env} : starEach (.Call a b c d :: es) env = (false, eval (.Call a b c d) env) :: starEach es env := rfl
theorem se_Constant {a b c} {es : List Expr} {env : Env} : starEach (.Constant a b c :: es) env = (false, eval (.Constant a b c) env) :: starEach es env := rfl
theorem se_Subscript {a b c} {es : List Expr} {env : Env} : starEach (.Subscript a b c :: es) env = (false, eval (.Subscript a b c) env) :: starEach es env := rfl
theorem se_Name {a b} {es : List Expr} {env : Env} : starEach (.Name a b :: es) env = (false, eval (.Name a b) env) :: starEach es env := rfl
theorem se_Tuple {a b c} {es : List Expr} {env : Env} : starEach (.Tuple a b c :: es) env = (false, eval (.Tuple a b c) env) :: starEach es env := rfl
theorem sw_BinOp {a b c d} {t : Option Expr} {l : Nat} {env : Env} : swapsWith (.BinOp a b c d) t l env = pure false := rfl
theorem sw_IfExp {a b c d} {t : Option Expr} {l : Nat} {env : Env} : swapsWith (.IfExp a b c d) t l env = pure false := rfl
theorem sw_Dict {a b c} {t : Option Expr} {l : Nat} {env : Env} : swapsWith (.Dict a b c) t l env = pure false := rfl
theorem sw_Call {a b c d} {t : Option Expr} {l : Nat} {env : Env} : swapsWith (.Call a b c d) t l env = pure false := rfl
theorem sw_Constant {a b c} {t : Option Expr} {l : Nat} {env : Env} : swapsWith (.Constant a b c) t l env = pure false := rfl
theorem sw_Subscript {a b c} {t : Option Expr} {l : Nat} {env : Env} : swapsWith (.Subscript a b c) t l env = pure false := rfl
theorem sw_Name {a b} {t : Option Expr} {l : Nat} {env : Env} : swapsWith (.Name a b) t l env = pure false := rfl
theorem sw_List {a b} {t : Option Expr} {l : Nat} {env : Env} : swapsWith (.List a b) t l env = pure false := rfl
section
variable {X : Cx} {x : Str} {p pos : Pos} {e : Expr} {es : List Expr} {t : TA} {j k : Nat} {ps : List Str} {sp : Sp}
theorem pe_fn (G : Fn X.prog X.w X.K X.mg X.base x j ps sp) (hr : Room k X.A) (hg : Gl X x) (ha : PA X (e :: es) t) (hjk : j ≤ k := by omega) (hdb : (x == ("__debug__" : Str)) = false := by decide)
    (he : starEach (e :: es) X.env = (false, eval e X.env) :: starEach es X.env := by rfl) (hpl : (backTo pos (starEach es X.env)).any (·.1) = false := by rfl) : PE X (.Call (.Name x p) (e :: es) [] pos) (tCall sp [] E0 t) := by
  obtain ⟨f, fd, F, b, kp, m⟩ := G
  exact pe_call F (hr.mono hjk) hg m kp b .nil pass0 ha hdb he hpl
theorem pe_gv {v : V} (hg : Gl X x) (h : Gv X.mg x v) (hd : (x == ("__debug__" : Str)) = false := by decide) : PE X (.Name x pos) (tC v) := by
  obtain ⟨u, hm, r⟩ := h
  exact pe_glob hg hm r hd
theorem pe_tyn {T : String} (hg : Gl X x) (hm : X.mg x = none) (hv : bootBuiltins x = some (.type T)) (hn : x ≠ "__name__" := by decide) (hd : (x == ("__debug__" : Str)) = false := by decide) : PE X (.Name x pos) (tC (.ty T)) :=
  pe_bltn hg hm hv rfl hn hd
theorem get_list : PGet X (rIxL X.K) := by
  intro pins s σ H o i ov iv Q I ro ri h
  obtain ⟨p, xs, k, v, rfl, rfl, hS, hv, q⟩ := h
  cases ro
  obtain ⟨t, rfl⟩ := ri
  obtain ⟨its, r, pl, hz⟩ := I.list hS
  obtain ⟨j, h1, h2, h3, h4, h5⟩ := atI_get hv
  obtain ⟨w, ew, rw'⟩ := r.get h2
  have hl := r.length
  have hn := line63
  have fin : EP X pins σ Q w s := ⟨v, H, I, rw', q⟩
  by_cases h0 : 0 ≤ k
  · have hj : k.toNat = j := by
      rw [seqIndex_of h0 h5] at h1
      exact Option.some.inj h1
    exact wpAny_getItem_list pl.isList h0 (by omega) (by rw [hj]; simpa using ew) fin
  · have hj : (k + (its.toArray.size : Int)).toNat = j := by
      rw [seqIndex_neg (by omega) h4] at h1
      rw [List.size_toArray, ← hl]
      exact Option.some.inj h1
    exact wpAny_getItem_list_neg pl.isList (by omega) (by rw [List.size_toArray] <;> omega) (by omega) (by rw [hj]; simpa using ew) fin
def intE : Expr → Option Int
  | .Constant (.int i) _ _ => some i
  | _ => none
def intsE : List Expr → Option (List Int)
  | [] => some []
  | e :: r => match intE e, intsE r with
    | some i, some l => some (i :: l)
    | _, _ => none
def tInts (ns : List Int) : TA := fun _ H Q => Q (ns.map V.int) H
theorem pa_ints : ∀ {es : List Expr} {ns : List Int}, intsE es = some ns → PA X es (tInts ns)
  | [], ns, h => by
    have e : ns = [] := by simpa [intsE] using h.symm
    subst e
    exact pa_nil
  | e :: r, ns, h => by
    unfold intsE at h
    split at h
    · rename_i i l h1 h2
      injection h with h
      subst h
      unfold intE at h1
      split at h1
      · injection h1 with h1
        subst h1
        exact pa_cons pe_int (pa_ints h2) se_Constant
      · cases h1
    · cases h
theorem pe_tupI {es : List Expr} {k : Nat} {ns : List Int} (h : intsE es = some ns) : PE X (.Tuple es k pos) (tTup (tInts ns)) := pe_tup (pa_ints h)
def intsT : Expr → Option (List Int)
  | .Tuple es _ _ => intsE es
  | _ => none
theorem pe_tupE {E : Expr} {ns : List Int} (h : intsT E = some ns) : PE X E (tTup (tInts ns)) := by
  unfold intsT at h
  split at h
  · exact pe_tupI h
  · cases h
end
def asgVal (s : Stmt) : Expr := match s with
  | .Assign _ e _ => e
  | _ => .Name "x" ⟨0, 0, 0, 0⟩
def setVal (s : Stmt) (e : Expr) : Stmt := match s with
  | .Assign t _ p => .Assign t e p
  | s => s
end L2
namespace EB
open PySem L2

/-- a word: a letter by its code, or a deed (up: true) with its arms -/
inductive Wd where
  | letter (c : Nat)
  | node (u : Bool) (arms : List Wd)
def deedS (u : Bool) : Str := if u then "up" else "down"
def sepS (u : Bool) : Str := if u then "|" else "&"
def sgn (c : Nat) : Str := ⟨#[c]⟩
mutual
def Wd.places : Wd → Nat
  | .letter _ => 1
  | .node _ ws => placesL ws
def placesL : List Wd → Nat
  | [] => 0
  | w :: ws => w.places + placesL ws
end
mutual
def Wd.depth : Wd → Nat
  | .letter _ => 0
  | .node _ ws => depthL ws + 1
def depthL : List Wd → Nat
  | [] => 0
  | w :: ws => max w.depth (depthL ws)
end
mutual
def Wd.ok : Wd → Prop
  | .letter c => 97 ≤ c ∧ c ≤ 122
  | .node _ ws => 2 ≤ ws.length ∧ okL ws
def okL : List Wd → Prop
  | [] => True
  | w :: ws => w.ok ∧ okL ws
end
mutual
def Wd.text : Wd → Str
  | .letter c => sgn c
  | .node u ws => (("(" : Str) ++ Txt.join (sepS u) (textL ws)) ++ (")" : Str)
def textL : List Wd → List Str
  | [] => []
  | w :: ws => w.text :: textL ws
end
mutual
def Wd.turn : Wd → Wd
  | .letter c => .letter c
  | .node u ws => .node (!u) (turnL ws)
def turnL : List Wd → List Wd
  | [] => []
  | w :: ws => w.turn :: turnL ws
end
mutual
def Wd.toD : Wd → PyData
  | .letter c => .str (sgn c)
  | .node u ws => .tuple (.str (deedS u) :: toDL ws)
def toDL : List Wd → List PyData
  | [] => []
  | w :: ws => w.toD :: toDL ws
end
mutual
def WAt (H : Hp) : Wd → V → Prop
  | .letter c, v => v = .str (sgn c)
  | .node u ws, v => ∃ a vs, v = .ref a ∧ H a = some (.tup (.str (deedS u) :: vs)) ∧ WAts H ws vs
def WAts (H : Hp) : List Wd → List V → Prop
  | [], vs => vs = []
  | w :: ws, vs => ∃ v vs', vs = v :: vs' ∧ WAt H w v ∧ WAts H ws vs'
end
/-- tuples stay -/
def KT (H H' : Hp) : Prop := ∀ a xs, H a = some (.tup xs) → H' a = some (.tup xs)
theorem KT.refl (H : Hp) : KT H H := fun _ _ h => h
theorem KT.trans {H H1 H2 : Hp} (a : KT H H1) (b : KT H1 H2) : KT H H2 := fun c xs h => b c xs (a c xs h)
theorem KT.of {H H' : Hp} (h : Same H H') : KT H H' := fun a xs e => h a _ e
theorem KT.new {H : Hp} {p : Addr} {o : HO} (h : H p = none) : KT H (upd H p o) := fun a xs e => by rw [upd_ne (ne_of_none e h)]; exact e
theorem KT.lst {H : Hp} {p : Addr} {o : HO} {xs : List V} (h : H p = some (.lst xs)) : KT H (upd H p o) := fun a ys e => by
  rw [upd_ne (ne_of e h (by intro z; cases z))]; exact e
mutual
theorem WAt.mono {H H' : Hp} (k : KT H H') : ∀ (w : Wd) (v : V), WAt H w v → WAt H' w v
  | .letter c, v, h => by unfold WAt at h ⊢; exact h
  | .node u ws, v, h => by
    unfold WAt at h ⊢
    obtain ⟨a, vs, e, h1, h2⟩ := h
    exact ⟨a, vs, e, k _ _ h1, WAts.mono k ws vs h2⟩
theorem WAts.mono {H H' : Hp} (k : KT H H') : ∀ (ws : List Wd) (vs : List V), WAts H ws vs → WAts H' ws vs
  | [], vs, h => by unfold WAts at h ⊢; exact h
  | w :: ws, vs, h => by
    unfold WAts at h ⊢
    obtain ⟨v, vs', e, h1, h2⟩ := h
    exact ⟨v, vs', e, WAt.mono k w v h1, WAts.mono k ws vs' h2⟩
end
theorem WAts.length {H : Hp} : ∀ (ws : List Wd) (vs : List V), WAts H ws vs → vs.length = ws.length
  | [], vs, h => by unfold WAts at h; rw [h]; rfl
  | w :: ws, vs, h => by
    unfold WAts at h
    obtain ⟨v, vs', e, h1, h2⟩ := h
    rw [e, List.length_cons, List.length_cons, WAts.length ws vs' h2]
theorem WAts.get {H : Hp} : ∀ (ws : List Wd) (vs : List V) (i : Nat) (v : V), WAts H ws vs → vs[i]? = some v → ∃ w, ws[i]? = some w ∧ WAt H w v
  | [], vs, i, v, h, e => by unfold WAts at h; rw [h] at e; simp at e
  | w :: ws, vs, i, v, h, e => by
    unfold WAts at h
    obtain ⟨v', vs', e', h1, h2⟩ := h
    subst e'
    cases i with
    | zero => simp at e; subst e; exact ⟨w, rfl, h1⟩
    | succ i =>
      obtain ⟨w', a, b⟩ := WAts.get ws vs' i v h2 (by simpa using e)
      exact ⟨w', by simpa using a, b⟩
theorem WAts.snoc {H : Hp} {w : Wd} {v : V} (hw : WAt H w v) : ∀ (ws : List Wd) (vs : List V), WAts H ws vs → WAts H (ws ++ [w]) (vs ++ [v])
  | [], vs, h => by unfold WAts at h; subst h; exact ⟨v, [], rfl, hw, rfl⟩
  | w' :: ws, vs, h => by
    unfold WAts at h
    obtain ⟨v', vs', e', h1, h2⟩ := h
    subst e'
    show WAts H (w' :: (ws ++ [w])) (v' :: (vs' ++ [v]))
    exact ⟨v', vs' ++ [v], rfl, h1, WAts.snoc hw ws vs' h2⟩
theorem WAts.append {H : Hp} : ∀ (ws zs : List Wd) (vs us : List V), WAts H ws vs → WAts H zs us → WAts H (ws ++ zs) (vs ++ us)
  | [], zs, vs, us, h, g => by unfold WAts at h; subst h; exact g
  | w' :: ws, zs, vs, us, h, g => by
    unfold WAts at h
    obtain ⟨v', vs', e', h1, h2⟩ := h
    subst e'
    exact ⟨v', vs' ++ us, rfl, h1, WAts.append ws zs vs' us h2 g⟩
theorem WAts.take {H : Hp} : ∀ (n : Nat) (ws : List Wd) (vs : List V), WAts H ws vs → WAts H (ws.take n) (vs.take n)
  | 0, ws, vs, h => by rw [List.take_zero, List.take_zero]; rfl
  | n + 1, [], vs, h => by unfold WAts at h; subst h; rfl
  | n + 1, w :: ws, vs, h => by
    unfold WAts at h
    obtain ⟨v', vs', e', h1, h2⟩ := h
    subst e'
    exact ⟨v', vs'.take n, rfl, h1, WAts.take n ws vs' h2⟩
theorem WAts.drop {H : Hp} : ∀ (n : Nat) (ws : List Wd) (vs : List V), WAts H ws vs → WAts H (ws.drop n) (vs.drop n)
  | 0, ws, vs, h => h
  | n + 1, [], vs, h => by unfold WAts at h; subst h; rfl
  | n + 1, w :: ws, vs, h => by
    unfold WAts at h
    obtain ⟨v', vs', e', h1, h2⟩ := h
    subst e'
    exact WAts.drop n ws vs' h2
mutual
theorem WAt.dp {K : PySem.W.Frag} {H : Hp} : ∀ (w : Wd) (v : V), WAt H w v → Dp K H v w.toD
  | .letter c, v, h => by unfold WAt at h; subst h; exact .str _
  | .node u ws, v, h => by
    unfold WAt at h
    obtain ⟨a, vs, rfl, h1, h2⟩ := h
    exact .tup (SqT.of h1) (.cons (.str _) (WAts.dp ws vs h2))
theorem WAts.dp {K : PySem.W.Frag} {H : Hp} : ∀ (ws : List Wd) (vs : List V), WAts H ws vs → DpAll K H vs (toDL ws)
  | [], vs, h => by unfold WAts at h; subst h; exact .nil
  | w :: ws, vs, h => by
    unfold WAts at h
    obtain ⟨v, vs', rfl, h1, h2⟩ := h
    exact .cons (WAt.dp w v h1) (WAts.dp ws vs' h2)
end
theorem okL_mem : ∀ {ws : List Wd}, okL ws → ∀ w ∈ ws, w.ok
  | [], _, w, h => by simp at h
  | a :: ws, h, w, m => by
    rcases List.mem_cons.mp m with e | m
    · subst e; exact h.1
    · exact okL_mem h.2 w m
theorem okL_of : ∀ {ws : List Wd}, (∀ w ∈ ws, w.ok) → okL ws
  | [], _ => trivial
  | a :: ws, h => ⟨h a List.mem_cons_self, okL_of fun w m => h w (List.mem_cons_of_mem _ m)⟩
theorem depthL_mem : ∀ {ws : List Wd} {w : Wd}, w ∈ ws → w.depth ≤ depthL ws
  | [], w, h => by simp at h
  | a :: ws, w, m => by
    unfold depthL
    rcases List.mem_cons.mp m with e | m
    · subst e; exact Nat.le_max_left _ _
    · exact Nat.le_trans (depthL_mem m) (Nat.le_max_right _ _)
theorem depthL_le : ∀ {ws : List Wd} {n : Nat}, (∀ w ∈ ws, w.depth ≤ n) → depthL ws ≤ n
  | [], n, _ => Nat.zero_le _
  | a :: ws, n, h => by
    unfold depthL
    exact Nat.max_le.mpr ⟨h a List.mem_cons_self, depthL_le fun w m => h w (List.mem_cons_of_mem _ m)⟩
theorem placesL_mem : ∀ {ws : List Wd} {w : Wd}, w ∈ ws → w.places ≤ placesL ws
  | [], w, h => by simp at h
  | a :: ws, w, m => by
    unfold placesL
    rcases List.mem_cons.mp m with e | m
    · subst e; exact Nat.le_add_right _ _
    · exact Nat.le_trans (placesL_mem m) (Nat.le_add_left _ _)
theorem placesL_append (ws zs : List Wd) : placesL (ws ++ zs) = placesL ws + placesL zs := by
  induction ws with
  | nil => show placesL zs = 0 + placesL zs; omega
  | cons w ws ih => show w.places + placesL (ws ++ zs) = (w.places + placesL ws) + placesL zs; rw [ih]; omega
mutual
theorem places_pos : ∀ (w : Wd), w.ok → 1 ≤ w.places
  | .letter c, _ => Nat.le_refl _
  | .node u ws, h => by
    have q := placesL_len ws h.2
    show 1 ≤ placesL ws
    have := h.1
    omega
theorem placesL_len : ∀ (ws : List Wd), okL ws → ws.length ≤ placesL ws
  | [], _ => Nat.le_refl _
  | w :: ws, h => by
    have a := places_pos w h.1
    have b := placesL_len ws h.2
    show ws.length + 1 ≤ w.places + placesL ws
    omega
end
mutual
theorem depth_places : ∀ (w : Wd), w.ok → w.depth + 1 ≤ w.places
  | .letter c, _ => Nat.le_refl _
  | .node u ws, h => by
    show depthL ws + 1 + 1 ≤ placesL ws
    have h1 := h.1
    match ws, h1, h.2 with
    | a :: b :: r, _, ho =>
      have d1 := depth_places a ho.1
      have p1 := places_pos b ho.2.1
      have d2 := depthL_places (b :: r) ho.2 (by simp)
      have pa := places_pos a ho.1
      show max a.depth (depthL (b :: r)) + 1 + 1 ≤ a.places + placesL (b :: r)
      have p2 : 1 ≤ placesL (b :: r) := by show 1 ≤ b.places + placesL r; omega
      omega
theorem depthL_places : ∀ (ws : List Wd), okL ws → ws ≠ [] → depthL ws + 1 ≤ placesL ws
  | [], _, h => absurd rfl h
  | [w], h, _ => by
    have d1 := depth_places w h.1
    show max w.depth 0 + 1 ≤ w.places + 0
    omega
  | w :: b :: r, h, _ => by
    have d1 := depth_places w h.1
    have d2 := depthL_places (b :: r) h.2 (by simp)
    show max w.depth (depthL (b :: r)) + 1 ≤ w.places + placesL (b :: r)
    omega
end
theorem strOk_sgn {c : Nat} (h : c ≤ 122) : PyData.strOk (sgn c) = true := by
  have : ∀ c : Fin 123, PyData.strOk (sgn c.val) = true := by decide +kernel
  exact this ⟨c, by omega⟩
theorem strOk_deed (u : Bool) : PyData.strOk (deedS u) = true := by cases u <;> decide +kernel
mutual
theorem canLay_wd : ∀ (w : Wd), w.ok → w.toD.canLay0 = true
  | .letter c, h => by show PyData.strOk (sgn c) = true; exact strOk_sgn h.2
  | .node u ws, h => by
    show (PyData.strOk (deedS u) && PyData.canLayAll0 (toDL ws)) = true
    rw [strOk_deed, canLay_wdL ws h.2]; rfl
theorem canLay_wdL : ∀ (ws : List Wd), okL ws → PyData.canLayAll0 (toDL ws) = true
  | [], _ => rfl
  | w :: ws, h => by
    show (w.toD.canLay0 && PyData.canLayAll0 (toDL ws)) = true
    rw [canLay_wd w h.1, canLay_wdL ws h.2]; rfl
end
mutual
theorem depth_wd : ∀ (w : Wd), w.toD.depth = w.depth
  | .letter c => rfl
  | .node u ws => by
    show max 0 (PyData.depthAll (toDL ws)) + 1 = depthL ws + 1
    rw [depth_wdL ws]; omega
theorem depth_wdL : ∀ (ws : List Wd), PyData.depthAll (toDL ws) = depthL ws
  | [] => rfl
  | w :: ws => by
    show max w.toD.depth (PyData.depthAll (toDL ws)) = max w.depth (depthL ws)
    rw [depth_wd w, depth_wdL ws]
end
theorem shaped_wd {w : Wd} (h : w.ok) (hd : w.depth ≤ 64) : SeqAt.shaped w.toD = true := by
  unfold SeqAt.shaped
  rw [canLay_wd w h, depth_wd, Bool.true_and]
  exact decide_eq_true hd
theorem deed_inj {a b : Bool} (h : (deedS a == deedS b) = true) : a = b := by
  revert h; cases a <;> cases b <;> decide
theorem beq_str {a b : Str} : (a == b) = true ↔ a = b := beq_iff_eq
mutual
theorem eqv_wd : ∀ (a b : Wd), PyData.eqv a.toD b.toD = true → a = b
  | .letter c, .letter d, h => by
    have h : (sgn c == sgn d) = true := h
    have e := beq_str.mp h
    have e2 : (#[c] : Array Nat) = #[d] := congrArg Str.cps e
    simp at e2
    rw [e2]
  | .letter c, .node u ws, h => by cases h
  | .node u ws, .letter c, h => by cases h
  | .node u ws, .node v zs, h => by
    have h : ((deedS u == deedS v) && PyData.eqvAll (toDL ws) (toDL zs)) = true := h
    rw [Bool.and_eq_true] at h
    rw [deed_inj h.1, eqv_wdL ws zs h.2]
theorem eqv_wdL : ∀ (ws zs : List Wd), PyData.eqvAll (toDL ws) (toDL zs) = true → ws = zs
  | [], [], _ => rfl
  | [], _ :: _, h => by cases h
  | _ :: _, [], h => by cases h
  | a :: ws, b :: zs, h => by
    have h : (PyData.eqv a.toD b.toD && PyData.eqvAll (toDL ws) (toDL zs)) = true := h
    rw [Bool.and_eq_true] at h
    rw [eqv_wd a b h.1, eqv_wdL ws zs h.2]
end
theorem eqv_self {a : Wd} (h : a.ok) : PyData.eqv a.toD a.toD = true := SeqAt.eqv_refl _ (canLay_wd a h)
end EB
namespace EB
open PySem L2

def sepC (u : Bool) : Nat := if u then 124 else 38
mutual
def Wd.codes : Wd → List Nat
  | .letter c => [c]
  | .node u ws => 40 :: midC u ws
/-- the arms, the first one without a sign ahead, then the closing bracket -/
def midC (u : Bool) : List Wd → List Nat
  | [] => [41]
  | w :: ws => w.codes ++ tailC u ws
def tailC (u : Bool) : List Wd → List Nat
  | [] => [41]
  | w :: ws => sepC u :: (w.codes ++ tailC u ws)
end
theorem app_cps (a b : Str) : (a ++ b).cps.toList = a.cps.toList ++ b.cps.toList := by
  show (a.cps ++ b.cps).toList = _
  rw [Array.toList_append]
theorem glue_cps (sep : Str) : ∀ (rest : List Str) (acc : Array Nat), (rest.foldl (fun acc p => acc ++ sep.cps ++ p.cps) acc).toList = acc.toList ++ (rest.flatMap fun p => sep.cps.toList ++ p.cps.toList)
  | [], acc => by simp
  | p :: r, acc => by
    rw [List.foldl_cons, glue_cps sep r, Array.toList_append, Array.toList_append, List.flatMap_cons, List.append_assoc, List.append_assoc, List.append_assoc]
theorem join_cps (sep x : Str) (rest : List Str) : (Txt.join sep (x :: rest)).cps.toList = x.cps.toList ++ (rest.flatMap fun p => sep.cps.toList ++ p.cps.toList) :=
  glue_cps sep rest x.cps
theorem sep_cps (u : Bool) : (sepS u).cps.toList = [sepC u] := by cases u <;> decide +kernel
theorem open_cps : ("(" : Str).cps.toList = [40] := by decide +kernel
theorem close_cps : (")" : Str).cps.toList = [41] := by decide +kernel
mutual
theorem text_codes : ∀ (w : Wd), w.ok → w.text.cps.toList = w.codes
  | .letter c, _ => rfl
  | .node u ws, h => by
    show ((("(" : Str) ++ Txt.join (sepS u) (textL ws)) ++ (")" : Str)).cps.toList = 40 :: midC u ws
    match ws, h.1, h.2 with
    | a :: r, _, ho =>
      rw [app_cps, app_cps, open_cps, close_cps]
      show [40] ++ (Txt.join (sepS u) (a.text :: textL r)).cps.toList ++ [41] = 40 :: (a.codes ++ tailC u r)
      rw [join_cps, text_codes a ho.1, sep_cps, List.append_assoc, List.append_assoc, tail_codes u r ho.2]
      rfl
theorem tail_codes (u : Bool) : ∀ (ws : List Wd), okL ws → ((textL ws).flatMap fun p => [sepC u] ++ p.cps.toList) ++ [41] = tailC u ws
  | [], _ => rfl
  | w :: ws, h => by
    show ((w.text :: textL ws).flatMap fun p => [sepC u] ++ p.cps.toList) ++ [41] = sepC u :: (w.codes ++ tailC u ws)
    rw [List.flatMap_cons, text_codes w h.1, List.append_assoc, tail_codes u ws h.2]
    rfl
end
theorem sepC_ne {u : Bool} : sepC u ≠ 41 := by cases u <;> decide
theorem sepC_inj {u v : Bool} (h : sepC u = sepC v) : u = v := by revert h; cases u <;> cases v <;> decide
mutual
theorem codes_inj : ∀ (a b : Wd) (r s : List Nat), a.ok → b.ok → a.codes ++ r = b.codes ++ s → a = b ∧ r = s
  | .letter c, .letter d, r, s, _, _, h => by
    have h : c :: r = d :: s := h
    injection h with h1 h2
    exact ⟨by rw [h1], h2⟩
  | .letter c, .node u ws, r, s, ha, _, h => by
    have h : c :: r = 40 :: (midC u ws ++ s) := h
    injection h with h1 h2
    have := ha.1
    omega
  | .node u ws, .letter d, r, s, _, hb, h => by
    have h : 40 :: (midC u ws ++ r) = d :: s := h
    injection h with h1 h2
    have := hb.1
    omega
  | .node u ws, .node v zs, r, s, ha, hb, h => by
    have h : 40 :: (midC u ws ++ r) = 40 :: (midC v zs ++ s) := h
    injection h with _ h
    match ws, zs, ha.1, hb.1, ha.2, hb.2, h with
    | a :: a' :: ws', b :: b' :: zs', _, _, oa, ob, h =>
      have h : (a.codes ++ (sepC u :: (a'.codes ++ tailC u ws'))) ++ r = (b.codes ++ (sepC v :: (b'.codes ++ tailC v zs'))) ++ s := h
      rw [List.append_assoc, List.append_assoc] at h
      obtain ⟨e1, h9⟩ := codes_inj a b _ _ oa.1 ob.1 h
      have h0 : sepC u :: ((a'.codes ++ tailC u ws') ++ r) = sepC v :: ((b'.codes ++ tailC v zs') ++ s) := h9
      injection h0 with e2 _
      have e3 := sepC_inj e2
      subst e3
      subst e1
      obtain ⟨e4, e5⟩ := tail_inj u (a' :: ws') (b' :: zs') r s oa.2 ob.2 h9
      exact ⟨by rw [e4], e5⟩
theorem tail_inj (u : Bool) : ∀ (ws zs : List Wd) (r s : List Nat), okL ws → okL zs → tailC u ws ++ r = tailC u zs ++ s → ws = zs ∧ r = s
  | [], [], r, s, _, _, h => by
    have h : 41 :: r = 41 :: s := h
    injection h with _ h
    exact ⟨rfl, h⟩
  | [], b :: zs, r, s, _, _, h => by
    have h : 41 :: r = sepC u :: ((b.codes ++ tailC u zs) ++ s) := h
    injection h with h _
    exact absurd h.symm sepC_ne
  | a :: ws, [], r, s, _, _, h => by
    have h : sepC u :: ((a.codes ++ tailC u ws) ++ r) = 41 :: s := h
    injection h with h _
    exact absurd h sepC_ne
  | a :: ws, b :: zs, r, s, oa, ob, h => by
    have h : sepC u :: ((a.codes ++ tailC u ws) ++ r) = sepC u :: ((b.codes ++ tailC u zs) ++ s) := h
    injection h with _ h
    rw [List.append_assoc, List.append_assoc] at h
    obtain ⟨e1, h⟩ := codes_inj a b _ _ oa.1 ob.1 h
    obtain ⟨e2, h⟩ := tail_inj u ws zs r s oa.2 ob.2 h
    exact ⟨by rw [e1, e2], h⟩
end
theorem text_inj {a b : Wd} (ha : a.ok) (hb : b.ok) (h : a.text = b.text) : a = b := by
  have e : a.codes = b.codes := by rw [← text_codes a ha, ← text_codes b hb, h]
  exact (codes_inj a b [] [] ha hb (by rw [e])).1
mutual
theorem codes_len : ∀ (w : Wd), w.ok → w.codes.length + 3 ≤ 4 * w.places
  | .letter c, _ => by show 1 + 3 ≤ 4 * 1; omega
  | .node u ws, h => by
    show (40 :: midC u ws).length + 3 ≤ 4 * placesL ws
    match ws, h.1, h.2 with
    | a :: b :: r, _, ho =>
      have q := codes_len a ho.1
      have p := tail_len u (b :: r) ho.2
      have l := placesL_len (b :: r) ho.2
      show (a.codes ++ tailC u (b :: r)).length + 1 + 3 ≤ 4 * (a.places + placesL (b :: r))
      rw [List.length_append]
      have l2 : (b :: r).length = r.length + 1 := rfl
      omega
theorem tail_len (u : Bool) : ∀ (ws : List Wd), okL ws → (tailC u ws).length + 2 * ws.length ≤ 4 * placesL ws + 1
  | [], _ => by show 1 + 2 * 0 ≤ 4 * 0 + 1; omega
  | w :: ws, h => by
    have q := codes_len w h.1
    have p := tail_len u ws h.2
    show (w.codes ++ tailC u ws).length + 1 + 2 * (ws.length + 1) ≤ 4 * (w.places + placesL ws) + 1
    rw [List.length_append]
    omega
end
theorem text_len {w : Wd} (h : w.ok) : w.text.length + 3 ≤ 4 * w.places := by
  have e : w.text.length = w.codes.length := by rw [← text_codes w h]; show w.text.cps.size = _; rw [Array.length_toList]
  rw [e]
  exact codes_len w h
theorem textL_len : ∀ {ws : List Wd}, okL ws → ((textL ws).map (·.length)).sum + (textL ws).length * 1 ≤ 4 * placesL ws
  | [], _ => by show 0 + 0 ≤ 0; omega
  | w :: ws, h => by
    have q := text_len h.1
    have p := textL_len h.2
    show (w.text.length + ((textL ws).map (·.length)).sum) + ((textL ws).length + 1) * 1 ≤ 4 * (w.places + placesL ws)
    omega
theorem textL_map (ws : List Wd) : textL ws = ws.map Wd.text := by
  induction ws with
  | nil => rfl
  | cons a r ih => show a.text :: textL r = a.text :: r.map Wd.text; rw [ih]
theorem turnL_map (ws : List Wd) : turnL ws = ws.map Wd.turn := by
  induction ws with
  | nil => rfl
  | cons a r ih => show a.turn :: turnL r = a.turn :: r.map Wd.turn; rw [ih]
theorem join_len (sep : Str) (ts : List Str) (h : sep.length = 1) : (Txt.join sep ts).length ≤ (ts.map (·.length)).sum + ts.length * 1 := by
  show (Builtin.Str.glued sep ts).length ≤ _
  rw [size_glued, h]
  omega
theorem sep_len (u : Bool) : (sepS u).length = 1 := by cases u <;> decide +kernel
mutual
theorem turn_ok : ∀ (w : Wd), w.ok → w.turn.ok
  | .letter c, h => h
  | .node u ws, h => by
    show 2 ≤ (turnL ws).length ∧ okL (turnL ws)
    refine ⟨?_, turn_okL ws h.2⟩
    rw [turnL_map, List.length_map]
    exact h.1
theorem turn_okL : ∀ (ws : List Wd), okL ws → okL (turnL ws)
  | [], _ => trivial
  | w :: ws, h => ⟨turn_ok w h.1, turn_okL ws h.2⟩
end
mutual
theorem turn_places : ∀ (w : Wd), w.turn.places = w.places
  | .letter c => rfl
  | .node u ws => turn_placesL ws
theorem turn_placesL : ∀ (ws : List Wd), placesL (turnL ws) = placesL ws
  | [] => rfl
  | w :: ws => by show w.turn.places + placesL (turnL ws) = w.places + placesL ws; rw [turn_places w, turn_placesL ws]
end
mutual
theorem turn_depth : ∀ (w : Wd), w.turn.depth = w.depth
  | .letter c => rfl
  | .node u ws => by show depthL (turnL ws) + 1 = depthL ws + 1; rw [turn_depthL ws]
theorem turn_depthL : ∀ (ws : List Wd), depthL (turnL ws) = depthL ws
  | [] => rfl
  | w :: ws => by show max w.turn.depth (depthL (turnL ws)) = max w.depth (depthL ws); rw [turn_depth w, turn_depthL ws]
end
mutual
theorem turn_turn : ∀ (w : Wd), w.turn.turn = w
  | .letter c => rfl
  | .node u ws => by show Wd.node (!(!u)) (turnL (turnL ws)) = .node u ws; rw [Bool.not_not, turn_turnL ws]
theorem turn_turnL : ∀ (ws : List Wd), turnL (turnL ws) = ws
  | [] => rfl
  | w :: ws => by show w.turn.turn :: turnL (turnL ws) = w :: ws; rw [turn_turn w, turn_turnL ws]
end
end EB
namespace EB
open PySem PySem.Spec PyProof.Rows L2

/-- a def of the text, as it stands behind the top -/
def Def (K : PySem.W.Frag) (mg : Str → Option Value) (x : Str) (st : Stmt) (ps : List Str) : Prop := ∃ (f : Addr) (fd : FuncData), Fun K x x st f fd ∧ Binds K fd ps [] ∧ mg x = some (.ref f)
theorem Def.ok {P : Program} {w : World} {K : PySem.W.Frag} {mg : Str → Option Value} {base : Heap} {x : Str} {st : Stmt} {N ps : List Str} {k : Nat} {sp : Sp} (D : Def K mg x st ps) (S : FnScope N ps (defScope st)) (len : ∀ vs H Q E, sp vs H Q E → vs.length = ps.length)
    (hbody : ∀ (f : Addr) (cdv : Value) (A : Around) (outer : List Env) (s : Shared) (H : Hp) (vs : List V) (Q : VK) (E : XK), Room k (A.deeper (envOfC x (defScope st) s.heap.objs.size f cdv)) → sp vs H Q E →
      ∃ t, PSs (cxOf CX0 P w K mg base N x (defScope st) f cdv A outer s H E).nox (defBody st) t ∧ t { nx := fun _ H' => Q .non H', rt := Q } (start N vs) H) : Fn P w K mg base x (k + 1) ps sp := by
  obtain ⟨f, fd, F, b, m⟩ := D
  exact ⟨f, fd, F.ok S len fun cdv A outer s H vs Q E hr h => hbody f cdv A outer s H vs Q E hr h, b, F.kp, m⟩
theorem Fn.none {P : Program} {w : World} {K : PySem.W.Frag} {mg : Str → Option Value} {base : Heap} {x : Str} {st : Stmt} {ps : List Str} {k : Nat} {sp : Sp} (D : Def K mg x st ps) (no : ∀ vs H Q E, ¬ sp vs H Q E) : Fn P w K mg base x k ps sp := by
  obtain ⟨f, fd, F, b, m⟩ := D
  exact ⟨f, fd, ⟨fun vs H Q E h => absurd h (no vs H Q E), fun A outer s H args us vs Q E _ _ _ _ h => absurd h (no vs H Q E)⟩, b, F.kp, m⟩

theorem same_new {H : Hp} {p : Addr} (h : H p = none) (o : HO) : Same H (upd H p o) := fun b u q => by rw [upd_ne (ne_of_none q h)]; exact q
theorem small {n : Nat} (h : n ≤ 1000) : n ≤ sizeLine := Nat.le_of_lt (small1000 h)
theorem sz {n : Nat} (h : n ≤ 16000000) : n ≤ sizeLine := by rw [sizeLine_eq]; omega
theorem szl {n : Nat} (h : n ≤ 16000000) : n < sizeLine := by rw [sizeLine_eq]; omega

/-- the bag: three numbers -/
def Bag (H : Hp) (p : Addr) : Prop := ∃ x m j : Int, H p = some (.lst [.int x, .int m, .int j]) ∧ 0 ≤ x ∧ 0 ≤ m ∧ m < 2147483629 ∧ 0 ≤ j ∧ j < 11
/-- all but the bag as it was -/
structure Drawn (p : Addr) (H H' : Hp) : Prop where
  keep : ∀ b o, b ≠ p → H b = some o → H' b = some o
  bag : Bag H' p
  was : ∃ xs, H p = some (.lst xs)
theorem Bag.was {H : Hp} {p : Addr} (b : Bag H p) : ∃ xs, H p = some (.lst xs) := let ⟨_, _, _, h, _⟩ := b; ⟨_, h⟩
theorem Drawn.refl {p : Addr} {H : Hp} (b : Bag H p) : Drawn p H H := ⟨fun _ _ _ h => h, b, b.was⟩
theorem Drawn.trans {p : Addr} {H H1 H2 : Hp} (a : Drawn p H H1) (b : Drawn p H1 H2) : Drawn p H H2 := ⟨fun c o hc h => b.keep c o hc (a.keep c o hc h), b.bag, a.was⟩
theorem Drawn.kt {p : Addr} {H H' : Hp} (a : Drawn p H H') : KT H H' := fun b xs h => by
  obtain ⟨ys, e⟩ := a.was
  exact a.keep b _ (ne_of h e (by intro z; cases z)) h
theorem Drawn.same {p : Addr} {H H1 H2 : Hp} (a : Drawn p H H1) (b : Same H1 H2) : Drawn p H H2 := ⟨fun c o hc h => b c o (a.keep c o hc h), let ⟨x, m, j, h, r⟩ := a.bag; ⟨x, m, j, b _ _ h, r⟩, a.was⟩
theorem Bag.same {p : Addr} {H H' : Hp} (b : Bag H p) (s : Same H H') : Bag H' p := let ⟨x, m, j, h, r⟩ := b; ⟨x, m, j, s _ _ h, r⟩
theorem Same.drawn {p : Addr} {H H' : Hp} (s : Same H H') (b : Bag H p) : Drawn p H H' := ⟨fun c o _ h => s c o h, b.same s, b.was⟩
theorem Drawn.sq {K : PySem.W.Frag} {p a : Addr} {H H' : Hp} {xs : List V} (d : Drawn p H H') (h : SqL K H a xs) (ne : a ≠ p) : SqL K H' a xs := by
  rcases h with (h | ⟨o, h⟩) | h
  · exact .inl (.inl (d.keep _ _ ne h))
  · exact .inl (.inr ⟨o, d.keep _ _ ne h⟩)
  · exact .inr h
theorem Drawn.of_new {p q : Addr} {H H1 H2 : Hp} (n : H p = none) (s : Same H H1) (d : Drawn p H1 H2) : Same H H2 := fun b o h => d.keep b o (ne_of_none h n) (s b o h)

def sp_bag (K : PySem.W.Frag) : Sp := fun vs H Q _ => ∃ (a : Addr) (ns : List Int) (k : Int), vs = [.ref a, .int k] ∧ SqL K H a (ns.map V.int) ∧ ns.length ≤ 63 ∧ 0 ≤ k ∧ k ≤ 1000 ∧
  ∀ (r : Addr) (H' : Hp), Same H H' → H r = none → Bag H' r → Q (.ref r) H'
def sp_draw : Sp := fun vs H Q _ => ∃ (p : Addr) (n : Int), vs = [.ref p, .int n] ∧ Bag H p ∧ 0 < n ∧ n < 1073741824 ∧ ∀ (r : Int) (H' : Hp), Drawn p H H' → 0 ≤ r → r < n → Q (.int r) H'
def sp_many (K : PySem.W.Frag) : Sp := fun vs H Q _ => ∃ (a : Addr) (ns : List Int) (lo hi : Int), vs = [.ref a, .int lo, .int hi] ∧ SqL K H a (ns.map V.int) ∧ ns.length ≤ 63 ∧ 0 ≤ lo ∧ lo ≤ 100 ∧ 0 ≤ hi ∧ hi ≤ 100 ∧
  ∀ (r : Addr) (n : Nat) (H' : Hp), Same H H' → H r = none → H' r = some (.lst (upto n)) → n ≤ 100 → Q (.ref r) H'
def Lets (x : Str) : Prop := 0 < x.length ∧ x.length ≤ 100 ∧ ∀ c ∈ x.cps.toList, 97 ≤ c ∧ c ≤ 122
def sp_abc : Sp := fun vs H Q _ => ∃ (p : Addr), vs = [.ref p] ∧ Bag H p ∧ ∀ (x : Str) (H' : Hp), Drawn p H H' → Lets x → Q (.str x) H'
def sp_places : Sp := fun vs H Q _ => ∃ (p : Addr), vs = [.ref p] ∧ Bag H p ∧ ∀ (r : Int) (H' : Hp), Drawn p H H' → 1 ≤ r → r ≤ 12 → Q (.int r) H'
mutual
def Wd.lin (x : List Nat) : Wd → Prop
  | .letter c => c ∈ x
  | .node _ ws => linL x ws
def linL (x : List Nat) : List Wd → Prop
  | [] => True
  | w :: ws => w.lin x ∧ linL x ws
end
def sp_word (n : Nat) : Sp := fun vs H Q _ => ∃ (p : Addr) (k : Nat) (x : Str), vs = [.ref p, .int k, .str x] ∧ Bag H p ∧ 1 ≤ k ∧ k ≤ n ∧ k ≤ 100 ∧ Lets x ∧
  ∀ (v : V) (w : Wd) (H' : Hp), Drawn p H H' → WAt H' w v → w.ok → w.places = k → w.lin x.cps.toList → Q v H'

def isLet (x : Str) : Bool := decide (x.length = 1) && (!decide (x.cps.toList < ("a" : Str).cps.toList) && !decide (("z" : Str).cps.toList < x.cps.toList))
def Wd.isL : Wd → Bool
  | .letter _ => true
  | .node _ _ => false
theorem isLet_sgn {c : Nat} (h : 97 ≤ c ∧ c ≤ 122) : isLet (sgn c) = true := by
  have : ∀ c : Fin 123, 97 ≤ c.val → isLet (sgn c.val) = true := by decide +kernel
  exact this ⟨c, by omega⟩ h.1
def sp_is_letter (K : PySem.W.Frag) : Sp := fun vs H Q _ => ∃ v : V, vs = [v] ∧ ((∃ x : Str, v = .str x ∧ x.length ≤ 16000000 ∧ Q (.bl (isLet x)) H) ∨ ∃ t, TyOf K H v t ∧ PySem.W.kitOne K t (.type "str") = some false ∧ Q (.bl false) H)
def sp_deed_turned : Sp := fun vs H Q _ => ∃ u : Bool, vs = [.str (deedS u)] ∧ Q (.str (deedS (!u))) H
def sp_joined_texts (K : PySem.W.Frag) : Sp := fun vs H Q _ => ∃ (u : Bool) (p : Addr) (ts : List Str), vs = [.str (deedS u), .ref p] ∧ SqL K H p (ts.map V.str) ∧ (ts.map (·.length)).sum + ts.length * 1 ≤ 15000000 ∧
  Q (.str ((("(" : Str) ++ Txt.join (sepS u) ts) ++ (")" : Str))) H
/-- a word's text -/
def sp_text (n : Nat) : Sp := fun vs H Q _ => ∃ (v : V) (w : Wd), vs = [v] ∧ WAt H w v ∧ w.ok ∧ w.places ≤ 10000 ∧ w.depth < n ∧ ∀ H', Same H H' → Q (.str w.text) H'
/-- a word turned over -/
def sp_turn (n : Nat) : Sp := fun vs H Q _ => ∃ (v : V) (w : Wd), vs = [v] ∧ WAt H w v ∧ w.ok ∧ w.places ≤ 900 ∧ w.depth < n ∧ ∀ r H', Same H H' → WAt H' w.turn r → Q r H'
/-- a word's value is a text just where it is a letter -/
theorem WAt.tyof {K : PySem.W.Frag} {H : Hp} {w : Wd} {v : V} (h : WAt H w v) : TyOf K H v (if w.isL then .type "str" else .type "tuple") := by
  cases w with
  | letter c => unfold WAt at h; subst h; exact .str _
  | node u ws => unfold WAt at h; obtain ⟨a, vs, rfl, h1, _⟩ := h; exact .tup h1
theorem kit_str_str (K : PySem.W.Frag) : PySem.W.kitOne K (.type "str") (.type "str") = some true := rfl
theorem kit_tup_str (K : PySem.W.Frag) : PySem.W.kitOne K (.type "tuple") (.type "str") = some false := by kernel_rfl
theorem kit_isL (K : PySem.W.Frag) (w : Wd) : PySem.W.kitOne K (if w.isL then .type "str" else .type "tuple") (.type "str") = some w.isL := by
  cases w with
  | letter c => exact kit_str_str K
  | node u ws => exact kit_tup_str K
end EB
namespace EB
open PySem PySem.Spec PyProof.Rows L2

theorem at0 {α : Type} (x : α) (xs : List α) : atI (x :: xs) 0 = some x := atI_nat (j := 0) rfl
theorem at_nat {α : Type} {xs : List α} {k : Int} {v : α} (h0 : 0 ≤ k) (h : xs[k.toNat]? = some v) : atI xs k = some v := by
  have e : k = ((k.toNat : Nat) : Int) := by omega
  rw [e]; exact atI_nat h
theorem sIx_to (n d : Nat) {k : Int} (h0 : 0 ≤ k) : HT.sIx n d (some k) = min k.toNat n := by
  obtain ⟨m, rfl⟩ := Int.eq_ofNat_of_zero_le h0
  exact HT.sIx_nat n d m
theorem cut_from (xs : List V) {k : Int} (h0 : 0 ≤ k) : cutV xs (some k) none = xs.drop k.toNat := by
  unfold cutV
  rw [sIx_to _ _ h0, HT.sIx_none]
  by_cases h : k.toNat ≤ xs.length
  · rw [Nat.min_eq_left h, List.take_of_length_le (by rw [List.length_drop]; exact Nat.le_refl _)]
  · rw [List.drop_eq_nil_of_le (by omega), List.drop_eq_nil_of_le (by omega)]; simp
theorem cut1 (x : V) (vs : List V) : cutV (x :: vs) (some 1) none = vs := by rw [cut_from _ (by decide)]; rfl
theorem nw_from {xs : List V} {k : Int} (h0 : 0 < k) (h : 0 < xs.length) (o : Option Int) : ¬ (HT.sIx xs.length 0 (some k) = 0 ∧ HT.sIx xs.length xs.length o = xs.length) := by
  rintro ⟨h1, _⟩
  rw [sIx_to _ _ (by omega)] at h1
  omega
/-- a statement by what holds behind it -/
theorem seq {t u : TS} {D : Ends} {σ : L2.St} {H : Hp} (R : L2.St → Hp → Prop) (h : ∀ C : L2.St → Hp → Prop, (∀ σ' H', R σ' H' → C σ' H') → t { D with nx := C } σ H) (hn : ∀ σ' H', R σ' H' → u D σ' H') : tSeq t u D σ H := h _ hn
theorem set_ {te : TE} {i : Nat} {u : TS} {D : Ends} {σ : L2.St} {H : Hp} (h : te σ H fun x H1 => u D (σ.set i (some x)) H1) : tSeq (tAsg te (gName i)) u D σ H := h
theorem set_c {v : V} {i : Nat} {u : TS} {D : Ends} {σ : L2.St} {H : Hp} (h : u D (σ.set i (some v)) H) : tSeq (tAsg (tC v) (gName i)) u D σ H := h
theorem fmod_range {i j : Int} (h : 0 < j) : 0 ≤ i.fmod j ∧ i.fmod j < j := by
  rw [Int.fmod_eq_emod_of_nonneg _ (Int.le_of_lt h)]
  exact ⟨Int.emod_nonneg _ (by omega), Int.emod_lt_of_pos _ h⟩
theorem fdiv_nonneg {i j : Int} (hi : 0 ≤ i) (h : 0 < j) : 0 ≤ i.fdiv j := by
  rw [Int.fdiv_eq_ediv_of_nonneg _ (Int.le_of_lt h)]
  exact Int.ediv_nonneg hi (by omega)
/-- [e for x in t] where nothing that stands is changed -/
theorem lc_each {K : PySem.W.Frag} {b D : Addr} {vs : List V} {te : TE} {j : Nat} {σ : L2.St} {H1 : Hp} {Qd : Hp → Prop} (hb : SqT K H1 b vs) (hD : H1 D = none) (hl : vs.length ≤ 1000000) (R : Nat → V → Hp → Prop) (Rm : ∀ i y H H', KT H H' → R i y H → R i y H')
    (step : ∀ (i : Nat) (x : V) (H' : Hp) (C : VK), vs[i]? = some x → Same H1 H' → (∀ y H'', Same H' H'' → R i y H'' → C y H'') → te ((wipe σ [j]).set j (some x)) H' C)
    (hw : ∀ x : V, wipe ((wipe σ [j]).set j (some x)) [j] = wipe σ [j])
    (fin : ∀ (H2 : Hp) (acc : List V), Same H1 H2 → H2 D = some (.lst acc) → acc.length = vs.length → (∀ (i : Nat) (y : V), acc[i]? = some y → R i y H2) → Qd H2) :
    ∃ W : Nat → Nat → Hp → Prop, (∃ m, W 0 m (upd H1 D (.lst []))) ∧ ∀ i m H, W i m H →
      ((Itt K b).stop i H ∧ Qd H) ∨ ((Itt K b).go i H ∧ ∃ Nx : Hp → Prop, (∀ H', Nx H' → ∃ m', m' < m ∧ W (i + 1) m' H') ∧ ∀ x H', (Itt K b).yld i H x H' → gName j x (wipe σ [j]) H' fun σ2 H2 => wipe σ2 [j] = wipe σ [j] ∧ tYes σ2 H2 fun b H3 =>
        if b = true then te σ2 H3 fun y H4 => ∃ acc, H4 D = some (.lst acc) ∧ acc.length < sizeLine ∧ Nx (upd H4 D (.lst (acc ++ [y]))) else Nx H3) := by
  have sqS : ∀ {H2 : Hp}, Same H1 H2 → SqT K H2 b vs := fun s => by
    rcases hb with (h | ⟨o, h⟩) | h
    · exact .inl (.inl (s _ _ h))
    · exact .inl (.inr ⟨o, s _ _ h⟩)
    · exact .inr h
  refine lc_tup (K := K) (a := b) (xs := vs) (fun i H => Same H1 H ∧ ∃ acc : List V, H D = some (.lst acc) ∧ acc.length = i ∧ ∀ (k : Nat) (y : V), acc[k]? = some y → R k y H) ?_ ?_ ?_ ?_
  · exact ⟨same_new hD _, [], upd_same, rfl, fun k y e => by simp at e⟩
  · rintro i H - ⟨s, -⟩
    exact sqS s
  · rintro i x H ex ⟨s, acc, hacc, hlen, hR⟩
    refine ⟨hw x, ?_⟩
    unfold tYes
    dsimp only
    rw [if_pos rfl]
    refine step i x H _ ex s fun y H4 s4 r4 => ?_
    have hx : i < vs.length := (List.getElem?_eq_some_iff.mp ex).1
    have hd4 : H4 D = some (.lst acc) := s4 _ _ hacc
    refine ⟨acc, hd4, szl (by omega), ?_, acc ++ [y], upd_same, by rw [List.length_append, hlen]; rfl, fun k z ek => ?_⟩
    · intro c o hc
      rw [upd_ne (ne_of_none hc hD)]
      exact s4 _ _ (s _ _ hc)
    · have kt : KT H4 (upd H4 D (.lst (acc ++ [y]))) := KT.lst hd4
      rw [List.getElem?_append] at ek
      split at ek
      · exact Rm _ _ _ _ ((KT.of s4).trans kt) (hR k z ek)
      · have ek2 : k = acc.length := by
          have := (List.getElem?_eq_some_iff.mp ek).1
          simp at this
          omega
        subst ek2
        simp at ek
        subst ek
        rw [hlen]
        exact Rm _ _ _ _ kt r4
  · rintro H ⟨s, acc, hacc, hlen, hR⟩
    exact fin H acc s hacc hlen hR
theorem Drawn.upd {p q : Addr} {H H' : Hp} {o : HO} (d : Drawn p H H') (n : H q = none) : Drawn p H (upd H' q o) := by
  obtain ⟨ys, e⟩ := d.was
  have ne : p ≠ q := ne_of_none e n
  refine ⟨fun b u hb h => ?_, ?_, d.was⟩
  · rw [upd_ne (ne_of_none h n)]
    exact d.keep b u hb h
  · obtain ⟨x, m, j, h, r⟩ := d.bag
    exact ⟨x, m, j, by rw [upd_ne ne]; exact h, r⟩
/-- [e for x in list] where the bag may be drawn from -/
theorem lc_drawn {K : PySem.W.Frag} {b D p : Addr} {vs : List V} {te : TE} {j : Nat} {σ : L2.St} {H1 : Hp} {Qd : Hp → Prop} (hB : Bag H1 p) (hb : SqL K H1 b vs) (ne : b ≠ p) (hD : H1 D = none) (hl : vs.length ≤ 1000000) (R : Nat → V → Hp → Prop) (Rm : ∀ i y H H', KT H H' → R i y H → R i y H')
    (step : ∀ (i : Nat) (x : V) (H' : Hp) (C : VK), vs[i]? = some x → Drawn p H1 H' → (∀ y H'', Drawn p H' H'' → R i y H'' → C y H'') → te ((wipe σ [j]).set j (some x)) H' C)
    (hw : ∀ x : V, wipe ((wipe σ [j]).set j (some x)) [j] = wipe σ [j])
    (fin : ∀ (H2 : Hp) (acc : List V), Drawn p H1 H2 → H2 D = some (.lst acc) → acc.length = vs.length → (∀ (i : Nat) (y : V), acc[i]? = some y → R i y H2) → Qd H2) :
    ∃ W : Nat → Nat → Hp → Prop, (∃ m, W 0 m (upd H1 D (.lst []))) ∧ ∀ i m H, W i m H →
      ((Itl K b).stop i H ∧ Qd H) ∨ ((Itl K b).go i H ∧ ∃ Nx : Hp → Prop, (∀ H', Nx H' → ∃ m', m' < m ∧ W (i + 1) m' H') ∧ ∀ x H', (Itl K b).yld i H x H' → gName j x (wipe σ [j]) H' fun σ2 H2 => wipe σ2 [j] = wipe σ [j] ∧ tYes σ2 H2 fun b H3 =>
        if b = true then te σ2 H3 fun y H4 => ∃ acc, H4 D = some (.lst acc) ∧ acc.length < sizeLine ∧ Nx (upd H4 D (.lst (acc ++ [y]))) else Nx H3) := by
  have nDp : D ≠ p := by
    obtain ⟨ys, e⟩ := hB.was
    exact (ne_of_none e hD).symm
  refine lc_list (K := K) (a := b) (xs := vs) (fun i H => Drawn p H1 H ∧ ∃ acc : List V, H D = some (.lst acc) ∧ acc.length = i ∧ ∀ (k : Nat) (y : V), acc[k]? = some y → R k y H) ?_ ?_ ?_ ?_
  · exact ⟨(Drawn.refl hB).upd hD, [], upd_same, rfl, fun k y e => by simp at e⟩
  · rintro i H - ⟨s, -⟩
    exact s.sq hb ne
  · rintro i x H ex ⟨s, acc, hacc, hlen, hR⟩
    refine ⟨hw x, ?_⟩
    unfold tYes
    dsimp only
    rw [if_pos rfl]
    refine step i x H _ ex s fun y H4 s4 r4 => ?_
    have hx : i < vs.length := (List.getElem?_eq_some_iff.mp ex).1
    have hd4 : H4 D = some (.lst acc) := s4.keep _ _ nDp hacc
    refine ⟨acc, hd4, szl (by omega), (s.trans s4).upd hD, acc ++ [y], upd_same, by rw [List.length_append, hlen]; rfl, fun k z ek => ?_⟩
    have kt : KT H4 (upd H4 D (.lst (acc ++ [y]))) := KT.lst hd4
    rw [List.getElem?_append] at ek
    split at ek
    · exact Rm _ _ _ _ (s4.kt.trans kt) (hR k z ek)
    · have ek2 : k = acc.length := by
        have := (List.getElem?_eq_some_iff.mp ek).1
        simp at this
        omega
      subst ek2
      simp at ek
      subst ek
      rw [hlen]
      exact Rm _ _ _ _ kt r4
  · rintro H ⟨s, acc, hacc, hlen, hR⟩
    exact fin H acc s hacc hlen hR
theorem get_map {α β : Type} {f : α → β} {l : List α} {m : List β} (hl : m.length = l.length) (h : ∀ (i : Nat) (y : β), m[i]? = some y → ∃ x, l[i]? = some x ∧ y = f x) : m = l.map f := by
  apply List.ext_getElem?
  intro i
  by_cases hi : i < m.length
  · obtain ⟨x, hx, e⟩ := h i m[i] (List.getElem?_eq_getElem hi)
    rw [List.getElem?_eq_getElem hi, List.getElem?_map, hx, e]; rfl
  · rw [List.getElem?_eq_none (by omega), List.getElem?_eq_none (by rw [List.length_map]; omega)]
theorem WAts.of_get {H : Hp} : ∀ (ws : List Wd) (vs : List V), vs.length = ws.length → (∀ (i : Nat) (v : V), vs[i]? = some v → ∃ w, ws[i]? = some w ∧ WAt H w v) → WAts H ws vs
  | [], vs, hl, _ => by
    have : vs = [] := List.length_eq_zero_iff.mp hl
    exact this
  | w :: ws, [], hl, _ => by cases hl
  | w :: ws, v :: vs, hl, h => by
    obtain ⟨w', e, hw⟩ := h 0 v rfl
    have e' : w = w' := by simpa using e
    subst e'
    refine ⟨v, vs, rfl, hw, WAts.of_get ws vs (by simpa using hl) fun i x ex => ?_⟩
    obtain ⟨w2, e2, h2⟩ := h (i + 1) x (by simpa using ex)
    exact ⟨w2, by simpa using e2, h2⟩
end EB
namespace L2
open PySem PySem.Spec PyProof.Rows
section
variable {X : Cx}
end
end L2
namespace HT
open PySem PyProof.Rows
section
variable {prog : Program} {w : World} {A : Around} {E : Value → Shared → Prop} {s : Shared}
end
end HT
namespace L2
open PySem PySem.Spec PyProof.Rows
section
variable {X : Cx}
theorem list_extend_tup (l b : Addr) (items items2 : Array Value) (n n2 : Nat) (dd2 : Option Addr) (sl2 : Array (Option Value)) (hs0 : ¬(!items.isEmpty && Builtin.List.listTooLong (items.size + items2.size)) = true) (hs2 : items.size + items2.size ≤ sizeLine) :
    Meets (Builtin.«list.extend» ⟨[.ref l, .ref b], []⟩) (fun _ R s => s.heap.get? l = some { cls := .type "list", dict := none, data := .seq items n, slots := #[] } ∧ s.heap.get? b = some { cls := .type "tuple", dict := dd2, data := .seq items2 n2, slots := sl2 } ∧
      R (.ok (.ret Value.none)) { s with heap := s.heap.update l (Obj.mapSeq fun x => x ++ items2) }) := by
  intro prog w A R s h
  obtain ⟨hl, hb, h⟩ := h
  show wpAny _ A.in1 (Builtin.List.listExtendWith (.ref l) (.ref b) .none) _ _ s
  unfold Builtin.List.listExtendWith
  refine wpAny_bind (wpAny_typeOf (T := "tuple") ⟨_, hb, rfl⟩ (?_ : wpAny _ _ _ _ _ _))
  rw [if_pos (by simp)]
  refine wpAny_bind (listItems_at hb rfl (wpAny_bind (listItems_at hl rfl (?_ : wpAny _ _ _ _ _ _))))
  rw [if_neg hs0]
  refine wpAny_bind (listUpdate_at hl rfl (?_ : wpAny _ _ _ _ _ _) (hsz2 := by rw [Array.size_append]; omega))
  exact wpAny_pure h
/-- xs.extend(t), t a tuple -/
def rExtendT (K : PySem.W.Frag) : V → List V → Hp → VK → Prop := fun x vs H Q => ∃ l b xs zs, x = .ref l ∧ vs = [.ref b] ∧ H l = some (.lst xs) ∧ SqT K H b zs ∧ xs.length + zs.length ≤ sizeLine ∧ Q .non (upd H l (.lst (xs ++ zs)))
theorem mt_extendT : MtM X "list.extend" (rExtendT X.K) := by
  intro pins s σ H x vs v us Q I rx rv h
  obtain ⟨l, b, xs, zs, rfl, rfl, hH, hB, hz, q⟩ := h
  cases rx
  obtain ⟨u, rfl, ru⟩ := rv.one
  cases ru
  obtain ⟨z, its, n, r, hl, e⟩ := I.lstM hH
  obtain ⟨its2, r2, p2, _⟩ := I.tuple hB
  have hl2 := r2.length
  obtain ⟨⟨cls2, dd2, data2, sl2⟩, ho2, hc2, n2, hd2⟩ := id p2
  simp only at hc2 hd2
  subst hc2 hd2
  have hsz : its.toArray.size + its2.toArray.size ≤ sizeLine := by rw [List.size_toArray, List.size_toArray]; omega
  have hlong : ¬ (!its.toArray.isEmpty && Builtin.List.listTooLong (its.toArray.size + its2.toArray.size)) = true := by
    rw [notLongL hsz, Bool.and_false]; exact Bool.false_ne_true
  refine call_meets F.slot_list_extend ⟨_, e, rfl⟩ F.entry_list_extend (F.args_list_extend_2 _ _) (list_extend_tup l b its.toArray its2.toArray n n2 dd2 sl2 hlong hsz) ⟨e, ho2, ?_⟩
  refine ⟨.non, _, I.lset (its' := its ++ its2) hH e (by simp) (r.append r2) ?_, rfl, q⟩
  rw [List.length_append]; omega
end
end L2
namespace EB
open PySem PySem.Spec PyProof.Rows L2

mutual
def DAt (H : Hp) (p : Addr) : PyData → V → Prop
  | .none, v => v = .non
  | .bool b, v => v = .bl b
  | .int i, v => v = .int i
  | .str x, v => v = .str x
  | .tuple ds, v => ∃ a vs, v = .ref a ∧ H a = some (.tup vs) ∧ DAts H p ds vs
  | .list ds, v => ∃ a vs, v = .ref a ∧ a ≠ p ∧ H a = some (.lst vs) ∧ DAts H p ds vs
  | .dict _, _ => False
def DAts (H : Hp) (p : Addr) : List PyData → List V → Prop
  | [], vs => vs = []
  | d :: ds, vs => ∃ v vs', vs = v :: vs' ∧ DAt H p d v ∧ DAts H p ds vs'
end
/-- all but p stays -/
def Dk (p : Addr) (H H' : Hp) : Prop := ∀ b o, b ≠ p → H b = some o → H' b = some o
theorem Dk.refl {p : Addr} {H : Hp} : Dk p H H := fun _ _ _ h => h
theorem Dk.trans {p : Addr} {H H1 H2 : Hp} (a : Dk p H H1) (b : Dk p H1 H2) : Dk p H H2 := fun c o hc h => b c o hc (a c o hc h)
theorem Dk.of {p : Addr} {H H' : Hp} (s : Same H H') : Dk p H H' := fun c o _ h => s c o h
theorem Drawn.dk {p : Addr} {H H' : Hp} (d : Drawn p H H') : Dk p H H' := d.keep
/-- the bag is a list, so tuples are apart from it -/
def LstAt (H : Hp) (p : Addr) : Prop := ∃ xs, H p = some (.lst xs)
mutual
theorem DAt.mono {p : Addr} {H H' : Hp} (k : Dk p H H') (l : LstAt H p) : ∀ (d : PyData) (v : V), DAt H p d v → DAt H' p d v
  | .none, v, h => by unfold DAt at h ⊢; exact h
  | .bool b, v, h => by unfold DAt at h ⊢; exact h
  | .int i, v, h => by unfold DAt at h ⊢; exact h
  | .str x, v, h => by unfold DAt at h ⊢; exact h
  | .tuple ds, v, h => by
    unfold DAt at h ⊢
    obtain ⟨a, vs, e, h1, h2⟩ := h
    obtain ⟨ys, e2⟩ := id l
    exact ⟨a, vs, e, k a _ (ne_of h1 e2 (by intro z; cases z)) h1, DAts.mono k l ds vs h2⟩
  | .list ds, v, h => by
    unfold DAt at h ⊢
    obtain ⟨a, vs, e, ne, h1, h2⟩ := h
    exact ⟨a, vs, e, ne, k a _ ne h1, DAts.mono k l ds vs h2⟩
  | .dict kvs, v, h => by unfold DAt at h; exact h.elim
theorem DAts.mono {p : Addr} {H H' : Hp} (k : Dk p H H') (l : LstAt H p) : ∀ (ds : List PyData) (vs : List V), DAts H p ds vs → DAts H' p ds vs
  | [], vs, h => by unfold DAts at h ⊢; exact h
  | d :: ds, vs, h => by
    unfold DAts at h ⊢
    obtain ⟨v, vs', e, h1, h2⟩ := h
    exact ⟨v, vs', e, DAt.mono k l d v h1, DAts.mono k l ds vs' h2⟩
end
mutual
theorem DAt.mono2 {q D : Addr} {H H' : Hp} (k : ∀ c o, c ≠ D → H c = some o → H' c = some o) (l : LstAt H D) : ∀ (d : PyData) (v : V), DAt H q d v → DAt H D d v → DAt H' q d v
  | .none, v, h, _ => by unfold DAt at h ⊢; exact h
  | .bool b, v, h, _ => by unfold DAt at h ⊢; exact h
  | .int i, v, h, _ => by unfold DAt at h ⊢; exact h
  | .str x, v, h, _ => by unfold DAt at h ⊢; exact h
  | .tuple ds, v, h, g => by
    unfold DAt at h g ⊢
    obtain ⟨a, vs, e, h1, h2⟩ := h
    obtain ⟨a', vs', e', g1, g2⟩ := g
    rw [e] at e'
    injection e' with e'
    subst e'
    rw [h1] at g1
    injection g1 with g1
    injection g1 with g1
    subst g1
    obtain ⟨ys, e2⟩ := id l
    exact ⟨a, vs, e, k a _ (ne_of h1 e2 (by intro z; cases z)) h1, DAts.mono2 k l ds vs h2 g2⟩
  | .list ds, v, h, g => by
    unfold DAt at h g ⊢
    obtain ⟨a, vs, e, ne, h1, h2⟩ := h
    obtain ⟨a', vs', e', ne', g1, g2⟩ := g
    rw [e] at e'
    injection e' with e'
    subst e'
    rw [h1] at g1
    injection g1 with g1
    injection g1 with g1
    subst g1
    exact ⟨a, vs, e, ne, k a _ ne' h1, DAts.mono2 k l ds vs h2 g2⟩
  | .dict kvs, v, h, _ => by unfold DAt at h; exact h.elim
theorem DAts.mono2 {q D : Addr} {H H' : Hp} (k : ∀ c o, c ≠ D → H c = some o → H' c = some o) (l : LstAt H D) : ∀ (ds : List PyData) (vs : List V), DAts H q ds vs → DAts H D ds vs → DAts H' q ds vs
  | [], vs, h, _ => by unfold DAts at h ⊢; exact h
  | d :: ds, vs, h, g => by
    unfold DAts at h g ⊢
    obtain ⟨v, vs', e, h1, h2⟩ := h
    obtain ⟨v', vs'', e', g1, g2⟩ := g
    rw [e] at e'
    injection e' with e1 e2
    subst e1
    subst e2
    exact ⟨v, vs', e, DAt.mono2 k l d v h1 g1, DAts.mono2 k l ds vs' h2 g2⟩
end
mutual
theorem DAt.same {p : Addr} {H H' : Hp} (s : Same H H') : ∀ (d : PyData) (v : V), DAt H p d v → DAt H' p d v
  | .none, v, h => by unfold DAt at h ⊢; exact h
  | .bool b, v, h => by unfold DAt at h ⊢; exact h
  | .int i, v, h => by unfold DAt at h ⊢; exact h
  | .str x, v, h => by unfold DAt at h ⊢; exact h
  | .tuple ds, v, h => by
    unfold DAt at h ⊢
    obtain ⟨a, vs, e, h1, h2⟩ := h
    exact ⟨a, vs, e, s _ _ h1, DAts.same s ds vs h2⟩
  | .list ds, v, h => by
    unfold DAt at h ⊢
    obtain ⟨a, vs, e, ne, h1, h2⟩ := h
    exact ⟨a, vs, e, ne, s _ _ h1, DAts.same s ds vs h2⟩
  | .dict kvs, v, h => by unfold DAt at h; exact h.elim
theorem DAts.same {p : Addr} {H H' : Hp} (s : Same H H') : ∀ (ds : List PyData) (vs : List V), DAts H p ds vs → DAts H' p ds vs
  | [], vs, h => by unfold DAts at h ⊢; exact h
  | d :: ds, vs, h => by
    unfold DAts at h ⊢
    obtain ⟨v, vs', e, h1, h2⟩ := h
    exact ⟨v, vs', e, DAt.same s d v h1, DAts.same s ds vs' h2⟩
end
theorem DAts.length {H : Hp} {p : Addr} : ∀ (ds : List PyData) (vs : List V), DAts H p ds vs → vs.length = ds.length
  | [], vs, h => by unfold DAts at h; rw [h]; rfl
  | d :: ds, vs, h => by
    unfold DAts at h
    obtain ⟨v, vs', e, h1, h2⟩ := h
    rw [e, List.length_cons, List.length_cons, DAts.length ds vs' h2]
theorem DAts.get {H : Hp} {p : Addr} : ∀ (ds : List PyData) (vs : List V) (i : Nat) (v : V), DAts H p ds vs → vs[i]? = some v → ∃ d, ds[i]? = some d ∧ DAt H p d v
  | [], vs, i, v, h, e => by unfold DAts at h; rw [h] at e; simp at e
  | d :: ds, vs, i, v, h, e => by
    unfold DAts at h
    obtain ⟨v', vs', e', h1, h2⟩ := h
    subst e'
    cases i with
    | zero => simp at e; subst e; exact ⟨d, rfl, h1⟩
    | succ i =>
      obtain ⟨w', a, b⟩ := DAts.get ds vs' i v h2 (by simpa using e)
      exact ⟨w', by simpa using a, b⟩
theorem DAts.append {H : Hp} {p : Addr} : ∀ (ds es : List PyData) (vs us : List V), DAts H p ds vs → DAts H p es us → DAts H p (ds ++ es) (vs ++ us)
  | [], es, vs, us, h, g => by unfold DAts at h; subst h; exact g
  | d :: ds, es, vs, us, h, g => by
    unfold DAts at h
    obtain ⟨v', vs', e', h1, h2⟩ := h
    subst e'
    exact ⟨v', vs' ++ us, rfl, h1, DAts.append ds es vs' us h2 g⟩
theorem DAts.take {H : Hp} {p : Addr} : ∀ (n : Nat) (ds : List PyData) (vs : List V), DAts H p ds vs → DAts H p (ds.take n) (vs.take n)
  | 0, ds, vs, h => by rw [List.take_zero, List.take_zero]; rfl
  | n + 1, [], vs, h => by unfold DAts at h; subst h; rfl
  | n + 1, d :: ds, vs, h => by
    unfold DAts at h
    obtain ⟨v', vs', e', h1, h2⟩ := h
    subst e'
    exact ⟨v', vs'.take n, rfl, h1, DAts.take n ds vs' h2⟩
theorem DAts.drop {H : Hp} {p : Addr} : ∀ (n : Nat) (ds : List PyData) (vs : List V), DAts H p ds vs → DAts H p (ds.drop n) (vs.drop n)
  | 0, ds, vs, h => h
  | n + 1, [], vs, h => by unfold DAts at h; subst h; rfl
  | n + 1, d :: ds, vs, h => by
    unfold DAts at h
    obtain ⟨v', vs', e', h1, h2⟩ := h
    subst e'
    exact DAts.drop n ds vs' h2
theorem DAts.of_get {H : Hp} {p : Addr} : ∀ (ds : List PyData) (vs : List V), vs.length = ds.length → (∀ (i : Nat) (v : V), vs[i]? = some v → ∃ d, ds[i]? = some d ∧ DAt H p d v) → DAts H p ds vs
  | [], vs, hl, _ => by
    have : vs = [] := List.length_eq_zero_iff.mp hl
    exact this
  | d :: ds, [], hl, _ => by cases hl
  | d :: ds, v :: vs, hl, h => by
    obtain ⟨w', e, hw⟩ := h 0 v rfl
    have e' : d = w' := by simpa using e
    subst e'
    refine ⟨v, vs, rfl, hw, DAts.of_get ds vs (by simpa using hl) fun i x ex => ?_⟩
    obtain ⟨w2, e2, h2⟩ := h (i + 1) x (by simpa using ex)
    exact ⟨w2, by simpa using e2, h2⟩
mutual
theorem DAt.dp {K : PySem.W.Frag} {H : Hp} {p : Addr} : ∀ (d : PyData) (v : V), DAt H p d v → Dp K H v d
  | .none, v, h => by unfold DAt at h; subst h; exact .non
  | .bool b, v, h => by unfold DAt at h; subst h; exact .bl _
  | .int i, v, h => by unfold DAt at h; subst h; exact .int _
  | .str x, v, h => by unfold DAt at h; subst h; exact .str _
  | .tuple ds, v, h => by
    unfold DAt at h
    obtain ⟨a, vs, rfl, h1, h2⟩ := h
    exact .tup (SqT.of h1) (DAts.dp ds vs h2)
  | .list ds, v, h => by
    unfold DAt at h
    obtain ⟨a, vs, rfl, _, h1, h2⟩ := h
    exact .lst (SqL.of h1) (DAts.dp ds vs h2)
  | .dict _, v, h => by unfold DAt at h; exact h.elim
theorem DAts.dp {K : PySem.W.Frag} {H : Hp} {p : Addr} : ∀ (ds : List PyData) (vs : List V), DAts H p ds vs → DpAll K H vs ds
  | [], vs, h => by unfold DAts at h; subst h; exact .nil
  | d :: ds, vs, h => by
    unfold DAts at h
    obtain ⟨v, vs', rfl, h1, h2⟩ := h
    exact .cons (DAt.dp d v h1) (DAts.dp ds vs' h2)
end
mutual
def sz' : PyData → Nat
  | .tuple ds => szL ds + 1
  | .list ds => szL ds + 1
  | _ => 1
def szL : List PyData → Nat
  | [] => 0
  | d :: ds => sz' d + szL ds
end
mutual
def Gd : PyData → Prop
  | .str x => PyData.strOk x = true ∧ x.length ≤ 1000
  | .tuple ds => GdL ds
  | .list ds => GdL ds
  | .dict _ => False
  | _ => True
def GdL : List PyData → Prop
  | [] => True
  | d :: ds => Gd d ∧ GdL ds
end
theorem GdL_mem : ∀ {ds : List PyData}, GdL ds → ∀ d ∈ ds, Gd d
  | [], _, d, h => by simp at h
  | a :: ds, h, d, m => by
    rcases List.mem_cons.mp m with e | m
    · subst e; exact h.1
    · exact GdL_mem h.2 d m
theorem GdL_of : ∀ {ds : List PyData}, (∀ d ∈ ds, Gd d) → GdL ds
  | [], _ => trivial
  | a :: ds, h => ⟨h a List.mem_cons_self, GdL_of fun w m => h w (List.mem_cons_of_mem _ m)⟩
theorem szL_append (a b : List PyData) : szL (a ++ b) = szL a + szL b := by
  induction a with
  | nil => show szL b = 0 + szL b; omega
  | cons d r ih => show sz' d + szL (r ++ b) = (sz' d + szL r) + szL b; rw [ih]; omega
theorem sz_pos (d : PyData) : 1 ≤ sz' d := by
  cases d with
  | tuple ds => show 1 ≤ szL ds + 1; omega
  | list ds => show 1 ≤ szL ds + 1; omega
  | _ => exact Nat.le_refl _
theorem szL_len : ∀ (ds : List PyData), ds.length ≤ szL ds
  | [] => Nat.le_refl _
  | d :: ds => by
    have a := sz_pos d
    have b := szL_len ds
    show ds.length + 1 ≤ sz' d + szL ds
    omega
mutual
theorem canLay_gd : ∀ (d : PyData), Gd d → d.canLay0 = true
  | .none, _ => rfl
  | .bool _, _ => rfl
  | .int _, _ => rfl
  | .str x, h => h.1
  | .tuple ds, h => canLay_gdL ds h
  | .list ds, h => canLay_gdL ds h
  | .dict _, h => h.elim
theorem canLay_gdL : ∀ (ds : List PyData), GdL ds → PyData.canLayAll0 ds = true
  | [], _ => rfl
  | d :: ds, h => by
    show (d.canLay0 && PyData.canLayAll0 ds) = true
    rw [canLay_gd d h.1, canLay_gdL ds h.2]; rfl
end
theorem shaped_gd {d : PyData} (h : Gd d) (hd : d.depth ≤ 64) : SeqAt.shaped d = true := by
  unfold SeqAt.shaped
  rw [canLay_gd d h, Bool.true_and]
  exact decide_eq_true hd
mutual
theorem WAt.d {H : Hp} {p : Addr} : ∀ (w : Wd) (v : V), WAt H w v → DAt H p w.toD v
  | .letter c, v, h => by unfold WAt at h; exact h
  | .node u ws, v, h => by
    unfold WAt at h
    obtain ⟨a, vs, rfl, h1, h2⟩ := h
    exact ⟨a, _, rfl, h1, ⟨_, _, rfl, rfl, WAts.d ws vs h2⟩⟩
theorem WAts.d {H : Hp} {p : Addr} : ∀ (ws : List Wd) (vs : List V), WAts H ws vs → DAts H p (toDL ws) vs
  | [], vs, h => by unfold WAts at h; exact h
  | w :: ws, vs, h => by
    unfold WAts at h
    obtain ⟨v, vs', rfl, h1, h2⟩ := h
    exact ⟨v, vs', rfl, WAt.d w v h1, WAts.d ws vs' h2⟩
end
theorem deed_len (u : Bool) : (deedS u).length ≤ 1000 := by cases u <;> decide +kernel
mutual
theorem gd_wd : ∀ (w : Wd), w.ok → Gd w.toD
  | .letter c, h => ⟨strOk_sgn h.2, by show 1 ≤ 1000; decide⟩
  | .node u ws, h => ⟨⟨strOk_deed u, deed_len u⟩, gd_wdL ws h.2⟩
theorem gd_wdL : ∀ (ws : List Wd), okL ws → GdL (toDL ws)
  | [], _ => trivial
  | w :: ws, h => ⟨gd_wd w h.1, gd_wdL ws h.2⟩
end
mutual
theorem sz_wd : ∀ (w : Wd), w.ok → sz' w.toD + 2 ≤ 3 * w.places
  | .letter c, _ => by show 1 + 2 ≤ 3 * 1; omega
  | .node u ws, h => by
    show (1 + szL (toDL ws) + 1) + 2 ≤ 3 * placesL ws
    have q := sz_wdL ws h.2
    have := h.1
    omega
theorem sz_wdL : ∀ (ws : List Wd), okL ws → szL (toDL ws) + 2 * ws.length ≤ 3 * placesL ws
  | [], _ => by show 0 + 0 ≤ 0; omega
  | w :: ws, h => by
    have a := sz_wd w h.1
    have b := sz_wdL ws h.2
    show (sz' w.toD + szL (toDL ws)) + 2 * (ws.length + 1) ≤ 3 * (w.places + placesL ws)
    omega
end
def tyD : PyData → Value
  | .none => .type "NoneType"
  | .bool _ => .type "bool"
  | .int _ => .type "int"
  | .str _ => .type "str"
  | .tuple _ => .type "tuple"
  | .list _ => .type "list"
  | .dict _ => .type "dict"
theorem DAt.tyof {K : PySem.W.Frag} {H : Hp} {p : Addr} {d : PyData} {v : V} (h : DAt H p d v) : TyOf K H v (tyD d) := by
  cases d with
  | none => unfold DAt at h; subst h; exact .non
  | bool b => unfold DAt at h; subst h; exact .bl _
  | int i => unfold DAt at h; subst h; exact .int _
  | str x => unfold DAt at h; subst h; exact .str _
  | tuple ds => unfold DAt at h; obtain ⟨a, vs, rfl, h1, _⟩ := h; exact .tup h1
  | list ds => unfold DAt at h; obtain ⟨a, vs, rfl, _, h1, _⟩ := h; exact .lst h1
  | dict _ => unfold DAt at h; exact h.elim
def isS : PyData → Bool
  | .str _ => true
  | _ => false
def isT : PyData → Bool
  | .tuple _ => true
  | _ => false
theorem kit_S (K : PySem.W.Frag) (d : PyData) : PySem.W.kitOne K (tyD d) (.type "str") = some (isS d) := by
  cases d <;> kernel_rfl
theorem kit_T (K : PySem.W.Frag) (d : PyData) : PySem.W.kitOne K (tyD d) (.type "tuple") = some (isT d) := by
  cases d <;> kernel_rfl
def isDeed : PyData → Bool
  | .str x => decide (x = ("up" : Str)) || decide (x = ("down" : Str))
  | _ => false
mutual
def isW : PyData → Bool
  | .str x => isLet x
  | .tuple ds => match ds with
    | [] => false
    | d :: r => decide (2 ≤ r.length) && isDeed d && isWL r
  | _ => false
def isWL : List PyData → Bool
  | [] => true
  | d :: ds => isW d && isWL ds
end
theorem isWL_append (a b : List PyData) : isWL (a ++ b) = (isWL a && isWL b) := by
  induction a with
  | nil => rfl
  | cons d r ih => show (isW d && isWL (r ++ b)) = ((isW d && isWL r) && isWL b); rw [ih, Bool.and_assoc]
/-- [e for x in xs], a list or a tuple, where nothing that stands is changed -/
theorem lc_eachL {K : PySem.W.Frag} {b D : Addr} {vs : List V} {te : TE} {j : Nat} {σ : L2.St} {H1 : Hp} {Qd : Hp → Prop} (hb : SqL K H1 b vs) (hD : H1 D = none) (hl : vs.length ≤ 1000000) (R : Nat → V → Hp → Prop) (Rm : ∀ i y H H', (∀ c o, c ≠ D → H c = some o → H' c = some o) → LstAt H D → R i y H → R i y H')
    (step : ∀ (i : Nat) (x : V) (H' : Hp) (C : VK), vs[i]? = some x → Same H1 H' → LstAt H' D → (∀ y H'', Same H' H'' → R i y H'' → C y H'') → te ((wipe σ [j]).set j (some x)) H' C)
    (hw : ∀ x : V, wipe ((wipe σ [j]).set j (some x)) [j] = wipe σ [j])
    (fin : ∀ (H2 : Hp) (acc : List V), Same H1 H2 → H2 D = some (.lst acc) → acc.length = vs.length → (∀ (i : Nat) (y : V), acc[i]? = some y → R i y H2) → Qd H2) :
    ∃ W : Nat → Nat → Hp → Prop, (∃ m, W 0 m (upd H1 D (.lst []))) ∧ ∀ i m H, W i m H →
      ((Itl K b).stop i H ∧ Qd H) ∨ ((Itl K b).go i H ∧ ∃ Nx : Hp → Prop, (∀ H', Nx H' → ∃ m', m' < m ∧ W (i + 1) m' H') ∧ ∀ x H', (Itl K b).yld i H x H' → gName j x (wipe σ [j]) H' fun σ2 H2 => wipe σ2 [j] = wipe σ [j] ∧ tYes σ2 H2 fun b H3 =>
        if b = true then te σ2 H3 fun y H4 => ∃ acc, H4 D = some (.lst acc) ∧ acc.length < sizeLine ∧ Nx (upd H4 D (.lst (acc ++ [y]))) else Nx H3) := by
  refine lc_list (K := K) (a := b) (xs := vs) (fun i H => Same H1 H ∧ ∃ acc : List V, H D = some (.lst acc) ∧ acc.length = i ∧ ∀ (k : Nat) (y : V), acc[k]? = some y → R k y H) ?_ ?_ ?_ ?_
  · exact ⟨same_new hD _, [], upd_same, rfl, fun k y e => by simp at e⟩
  · rintro i H - ⟨s, -⟩
    exact s.seq hb
  · rintro i x H ex ⟨s, acc, hacc, hlen, hR⟩
    refine ⟨hw x, ?_⟩
    unfold tYes
    dsimp only
    rw [if_pos rfl]
    refine step i x H _ ex s ⟨_, hacc⟩ fun y H4 s4 r4 => ?_
    have hx : i < vs.length := (List.getElem?_eq_some_iff.mp ex).1
    have hd4 : H4 D = some (.lst acc) := s4 _ _ hacc
    have s14 := s.trans s4
    have ku : ∀ c o, c ≠ D → H4 c = some o → (upd H4 D (.lst (acc ++ [y]))) c = some o := fun c o hc h => by rw [upd_ne hc]; exact h
    refine ⟨acc, hd4, szl (by omega), ?_, acc ++ [y], upd_same, by rw [List.length_append, hlen]; rfl, fun k z ek => ?_⟩
    · intro c o hc
      rw [upd_ne (ne_of_none hc hD)]
      exact s14 _ _ hc
    · rw [List.getElem?_append] at ek
      split at ek
      · exact Rm _ _ _ _ (fun c o hc h => ku c o hc (s4 c o h)) ⟨_, hacc⟩ (hR k z ek)
      · have ek2 : k = acc.length := by
          have := (List.getElem?_eq_some_iff.mp ek).1
          simp at this
          omega
        subst ek2
        simp at ek
        subst ek
        rw [hlen]
        exact Rm _ _ _ _ ku ⟨_, hd4⟩ r4
  · rintro H ⟨s, acc, hacc, hlen, hR⟩
    exact fin H acc s hacc hlen hR
/-- while, by a word with its measure -/
theorem while_m {c : TT} {tb : TS} {D : Ends} {σ : L2.St} {H : Hp} (Pv : Nat → L2.St → Hp → Prop) (m0 : Nat) (h0 : Pv m0 σ H)
    (hs : ∀ m σ H, Pv m σ H → c σ H fun b H1 => if b = true then tb { D with nx := fun σ' H' => ∃ m', m' < m ∧ Pv m' σ' H', ct := fun σ' H' => ∃ m', m' < m ∧ Pv m' σ' H', bk := D.nx } σ H1 else D.nx σ H1)
    (mono : ∀ σ H Q Q', (∀ b H1, Q b H1 → Q' b H1) → c σ H Q → c σ H Q') : tWhile c tb D σ H := by
  refine ⟨Pv, ⟨m0, h0⟩, fun m σ H p => mono σ H _ _ (fun b H1 q => ?_) (hs m σ H p)⟩
  cases b with
  | true => exact ⟨_, fun σ' H' h => h, q⟩
  | false => exact q
def sp_is_deed : Sp := fun vs H Q _ => ∃ (v : V) (p : Addr) (d : PyData), vs = [v] ∧ DAt H p d v ∧ Q (.bl (isDeed d)) H
def hasD : PyData → Bool
  | .tuple ds => match ds with
    | [] => false
    | d :: r => decide (2 ≤ r.length) && isDeed d
  | _ => false
def sp_hasD : Sp := fun vs H Q _ => ∃ (v : V) (p : Addr) (d : PyData), vs = [v] ∧ DAt H p d v ∧ Q (.bl (hasD d)) H
def sp_is_word : Sp := fun vs H Q _ => ∃ (v : V) (p : Addr) (d : PyData), vs = [v] ∧ DAt H p d v ∧ Gd d ∧ sz' d ≤ 100000 ∧ ∀ H', Same H H' → Q (.bl (isW d)) H'
end EB
namespace EB
open PySem PySem.Spec PyProof.Rows L2

def txtV : Value → Str
  | .str x _ => x
  | _ => ⟨#[]⟩
theorem txtV_is {k : Str} {v : Value} (h : (PySem.strKind P w).is k v = true) : txtV v = k := by
  obtain ⟨t, rfl⟩ := Value.isStrOf_shape h
  rfl
def txts (es : Array (Int × Value)) : List Str := es.toList.map fun e => txtV e.2
/-- whether the table of a set is led, in this world -/
def ledIn (w : World) : Bool := !w.params.followText "set-order"
structure TxS (P : Program) (w : World) (h : Heap) (a : Addr) (es : Array (Int × Value)) (ep : Nat) (t : SetTable) : Prop where
  obj : h.get? a = some { cls := .type "set", dict := none, data := .set es ep t, slots := #[] }
  els : ElemsOf (PySem.strKind P w) es.toList
  fit : t.fits es.size = true
  few : es.size < scanBound
  led : t.led = ledIn w
  pl : es.size ≠ 0 → t.plain = false
  nd : (txts es).Nodup
theorem lay_led (t : SetTable) (es : Array (Int × Value)) (h : Int) (x : Value) : (layNew t es h x).2.1.led = t.led := by
  unfold layNew
  cases t.freeSlot h with
  | none => rfl
  | some q =>
    obtain ⟨slot, d⟩ := q
    show ((t.put slot).1.orStandIn _).led = t.led
    unfold SetTable.orStandIn
    split <;> rfl
theorem relay_led (t : SetTable) (es : Array (Int × Value)) (n : Nat) : (relayAll t es n).2.1.led = t.led ∧ (t.plain = false → (relayAll t es n).2.1.plain = false) := by
  unfold relayAll
  split
  · rename_i t' order e
    have key : t'.led = t.led ∧ t'.plain = t.plain := by
      unfold SetTable.relaid SetTable.laid at e
      cases hc : SetTable.layClean (SetTable.sizeAbove n - 1) (es.map (·.1)) with
      | none => rw [hc] at e; cases e
      | some own =>
        rw [hc] at e
        injection e with e
        injection e with e1 e2
        subst e1
        exact ⟨rfl, rfl⟩
    dsimp only
    split
    · exact ⟨key.1, fun h => key.2.trans h⟩
    · exact ⟨rfl, fun _ => rfl⟩
  · exact ⟨rfl, fun _ => rfl⟩
theorem txts_perm {es es' : Array (Int × Value)} (p : es'.toList.Perm es.toList) : (txts es').Perm (txts es) := p.map _
section
variable {P : Program} {w : World} {A : Around} {E : Value → Shared → Prop} {s : Shared}
theorem TxS.mem {h : Heap} {a : Addr} {es : Array (Int × Value)} {ep : Nat} {t : SetTable} (T : TxS P w h a es ep t) (k : Str) : k ∈ txts es ↔ ∃ e ∈ es.toList, (PySem.strKind P w).is k e.2 = true := by
  unfold txts
  rw [List.mem_map]
  constructor
  · rintro ⟨e, he, rfl⟩
    obtain ⟨⟨k, hk, _⟩, _⟩ := T.els e he
    exact ⟨e, he, by rw [txtV_is hk]; exact hk⟩
  · rintro ⟨e, he, hk⟩
    exact ⟨e, he, txtV_is hk⟩
/-- one store in the set -/
theorem txs_put {a : Addr} {es : Array (Int × Value)} {ep : Nat} {t : SetTable} {es' : Array (Int × Value)} {t' : SetTable} {Q : Unit → Shared → Prop} (T : TxS P w s.heap a es ep t)
    (e' : ElemsOf (PySem.strKind P w) es'.toList) (f' : t'.fits es'.size = true) (b' : es'.size < scanBound) (l' : t'.led = ledIn w) (p' : es'.size ≠ 0 → t'.plain = false) (n' : (txts es').Nodup)
    (h : ∀ h', Heap.SameBut a s.heap h' → TxS P w h' a es' (ep + 1) t' → Q () { s with heap := h' }) : wpAny (model P w) A (storeSet a es' t') Q E s := by
  refine wpAny_storeSet_of T.obj rfl ?_ (fits_of_scanBound b')
  have hg := Heap.get?_update_self (Obj.putSet es' t') T.obj rfl
  exact h _ (Heap.SameBut.update _ _ _) ⟨hg, e', f', b', l', p', n'⟩
theorem txs_add {a : Addr} {es : Array (Int × Value)} {ep : Nat} {t : SetTable} {x : Str} {tk : Tok} {Q : Bool → Shared → Prop} (T : TxS P w s.heap a es ep t) (room : es.size + 1 < scanBound)
    (h : ∀ b h' es' ep' t', Heap.SameBut a s.heap h' → TxS P w h' a es' ep' t' → es'.size ≤ es.size + 1 → (∀ y, y ∈ txts es' ↔ y ∈ txts es ∨ y = x) → Q b { s with heap := h' }) :
    wpAny (model P w) A (setAddHashed a (.str x tk) (hashStr w x)) Q E s := by
  have hk : (PySem.strKind P w).is x (.str x tk) = true := by show Value.isStrOf x (.str x tk) = true; simp [Value.isStrOf]
  have hsc : (Value.str x tk).scannable = true := rfl
  unfold setAddHashed
  unfold setAddHashedIn
  refine wpAny_holding (wpAny_bind (wpAny_setState_of T.obj rfl T.fit ?_))
  dsimp only
  rw [byScan_of hsc T.few T.els]
  simp only [↓reduceIte]
  unfold setAddByScan
  refine wpAny_bind (wpAny_bind (wpAny_rule (wpAny_bind (wpAny_setScan_of (knd := PySem.strKind P w) (k := x) hk T.obj rfl T.fit T.els ?_))))
  cases hr : List.findIdx? (fun e => (PySem.strKind P w).is x e.2) es.toList with
  | some j =>
    dsimp only
    obtain ⟨lt, yes, -⟩ := List.findIdx?_eq_some_iff_getElem.mp hr
    have hx : x ∈ txts es := (T.mem x).mpr ⟨_, List.getElem_mem lt, yes⟩
    refine wpAny_pure ?_
    refine wpAny_pure ?_
    exact h _ s.heap es ep t (Heap.SameBut.refl a s.heap) T (Nat.le_succ _) fun y => ⟨.inl, fun z => z.elim id fun e => e ▸ hx⟩
  | none =>
    dsimp only
    have hx : x ∉ txts es := fun hm => by
      obtain ⟨e, he, hp⟩ := (T.mem x).mp hm
      have no := List.findIdx?_eq_none_iff.mp hr e he
      rw [hp] at no
      cases no
    have pm := layNew_perm t es (hashStr w x) (.str x tk)
    have ft := layNew_fits t es (hashStr w x) (.str x tk)
    have ld := lay_led t es (hashStr w x) (.str x tk)
    generalize hL : layNew t es (hashStr w x) (.str x tk) = L at pm ft ld ⊢
    obtain ⟨es1, t1, wd, gv⟩ := L
    dsimp only at pm ft ld ⊢
    rw [Array.toList_push] at pm
    have el1 : ElemsOf (PySem.strKind P w) es1.toList := (T.els.push (k := x) hk hsc).perm pm
    have sz1 : es1.size = es.size + 1 := by rw [← Array.length_toList, pm.length_eq, List.length_append, Array.length_toList]; rfl
    have tx1 : (txts es1).Perm (txts es ++ [x]) := by
      have := pm.map fun e : Int × Value => txtV e.2
      rw [List.map_append] at this
      exact this
    have nd1 : (txts es1).Nodup := by
      refine tx1.nodup_iff.mpr (List.nodup_append.mpr ⟨T.nd, by simp, ?_⟩)
      intro y hy z hz e
      rw [List.mem_singleton.mp hz] at e
      exact hx (e ▸ hy)
    have mem1 : ∀ y, y ∈ txts es1 ↔ y ∈ txts es ∨ y = x := fun y => by rw [tx1.mem_iff, List.mem_append, List.mem_singleton]
    have gw : ∀ (g : Bool) {z : Shared} {R : Unit → Shared → Prop}, R () z → wpAny (model P w) A (match g with | true => rule "set.scan.the-table-gave-way" | false => pure ()) R E z :=
      fun g z R r => by cases g <;> first | exact wpAny_pure r | exact wpAny_rule r
    refine wpAny_bind (gw _ ?_)
    have fin : ∀ (G : Bool → Sem Unit) (hG : ∀ (g : Bool) {z : Shared} {R : Unit → Shared → Prop}, R () z → wpAny (model P w) A (G g) R E z) (t2 : SetTable), t2.fits es1.size = true → t2.led = ledIn w → t2.plain = false →
        wpAny (model P w) A (do
          storeSet a es1 t2
          if (!wd && t2.tooFull) = true then do
              G (relayAll t2 es1 (SetTable.grown es1.size)).2.2
              storeSet a (relayAll t2 es1 (SetTable.grown es1.size)).1 (relayAll t2 es1 (SetTable.grown es1.size)).2.1
              pure (some true)
            else pure (some true)) (fun r s' => ∃ b, r = some b ∧ Q b s') E s := by
      intro G hG t2 f2 l2 p2
      refine wpAny_bind (txs_put T el1 f2 (by omega) l2 (fun _ => p2) nd1 fun h1 sb1 T1 => ?_)
      split
      · refine wpAny_bind (hG _ ?_)
        have pm2 := relayAll_perm t2 es1 (SetTable.grown es1.size)
        have ft2 := relayAll_fits t2 es1 (SetTable.grown es1.size)
        have ld2 := relay_led t2 es1 (SetTable.grown es1.size)
        have sz2 : (relayAll t2 es1 (SetTable.grown es1.size)).1.size = es1.size := by rw [← Array.length_toList, pm2.length_eq, Array.length_toList]
        refine wpAny_bind (txs_put (s := { s with heap := h1 }) T1 (el1.perm pm2) ft2 (by omega) (ld2.1.trans l2) (fun _ => ld2.2 p2) ((txts_perm pm2).nodup_iff.mpr nd1) fun h2 sb2 T2 => ?_)
        exact wpAny_pure ⟨true, rfl, h _ h2 _ _ _ (sb1.trans sb2) T2 (by omega) fun y => by rw [(txts_perm pm2).mem_iff]; exact mem1 y⟩
      · exact wpAny_pure ⟨true, rfl, h _ h1 _ _ _ sb1 T1 (by omega) mem1⟩
    split
    · refine wpAny_bind ?_
      rw [hashByValue_scannable 8 hsc]
      refine wpAny_pure ?_
      refine wpAny_mono (fin _ gw { t1 with plain := false } ?_ (ld.trans T.led) rfl) (fun r s' => ?_) fun _ _ z => z
      · cases t1; exact ft
      · rintro ⟨b, rfl, q⟩
        exact wpAny_pure q
    · rename_i np
      refine wpAny_bind (wpAny_pure ?_)
      simp only [↓reduceIte]
      refine wpAny_mono (fin _ gw t1 ft (ld.trans T.led) (Bool.eq_false_iff.mpr np)) (fun r s' => ?_) fun _ _ z => z
      rintro ⟨b, rfl, q⟩
      exact wpAny_pure q
theorem txs_at {h h' : Heap} {a : Addr} {es : Array (Int × Value)} {ep : Nat} {t : SetTable} (T : TxS P w h a es ep t) (k : ∀ o, h.get? a = some o → h'.get? a = some o) : TxS P w h' a es ep t := ⟨k _ T.obj, T.els, T.fit, T.few, T.led, T.pl, T.nd⟩
/-- the texts of a walk, one by one into the set -/
theorem txs_loop {R : Result → Shared → Prop} {I : Addr} {fp wr : List Addr} {G : Array GenState → Array GenState → Prop} {n : Nat} {Pv : Nat → Value → Prop} {St : Nat → Shared → Prop}
    (W : WalksS P w A.in1 I fp wr G n Pv St) (S : Addr) (hS : S ∉ fp) (val : Nat → Str) (hv : ∀ i v, Pv i v → ∃ t, v = .str (val i) t) (hb : n + 1 < scanBound) :
    ∀ (k i : Nat) (s : Shared) (es : Array (Int × Value)) (ep : Nat) (t : SetTable), n - i = k → i ≤ n → St i s → TxS P w s.heap S es ep t → es.size ≤ i → (∀ y, y ∈ txts es ↔ ∃ j, j < i ∧ val j = y) →
      (∀ s' es' ep' t', Moved (S :: wr) G s s' → TxS P w s'.heap S es' ep' t' → es'.size ≤ n → (∀ y, y ∈ txts es' ↔ ∃ j, j < n ∧ val j = y) → R (.ok (.ret .none)) s') →
      codeAny (model P w) A (.builtin "set.update.loop" ⟨[.ref S, .ref I], []⟩) R s := by
  have nw : S ∉ wr := fun z => hS (W.sub _ z)
  have up : ∀ b ∈ wr, b ∈ S :: wr := fun b z => List.mem_cons_of_mem _ z
  intro k
  induction k with
  | zero =>
    intro i s es ep t hk hi st T hz hm hR
    have e : i = n := by omega
    subst e
    refine codeAny_builtin F.entry_set_update_loop ?_
    rw [Around.under_plainId F.plain_set_update_loop _]
    show wpAny _ A.in1 (pyNext (.ref I) >>= _) _ _ s
    refine wpAny_bind (W.done s _ _ st fun s' mv => ?_)
    show wpAny _ A.in1 (ret Value.none) _ _ s'
    exact wpAny_pure (hR s' es ep t (mv.mono up) (txs_at T fun o q => mv.heap S o nw q) hz hm)
  | succ k ih =>
    intro i s es ep t hk hi st T hz hm hR
    have lt : i < n := by omega
    refine codeAny_builtin F.entry_set_update_loop ?_
    rw [Around.under_plainId F.plain_set_update_loop _]
    show wpAny _ A.in1 (pyNext (.ref I) >>= _) _ _ s
    refine wpAny_bind (W.item i s _ _ lt st fun v s1 pv st1 mv => ?_)
    obtain ⟨tk, rfl⟩ := hv i v pv
    have T1 := txs_at T fun o q => mv.heap S o nw q
    show wpAny _ A.in1 (holding [Value.str (val i) tk] (setAdd S (.str (val i) tk)) >>= _) _ _ s1
    refine wpAny_bind (wpAny_holding ?_)
    unfold setAdd
    refine wpAny_holding (wpAny_bind (wpAny_pyHash_str ?_))
    refine txs_add (s := { s1 with toks := s1.toks + 1 }) T1 (by omega) fun b h2 es2 ep2 t2 sb T2 hz2 hm2 => ?_
    refine wpAny_pure ⟨plainId_quiet F.plain_set_update_loop _, ih (i + 1) _ es2 ep2 t2 (by omega) lt (W.frame _ s1 _ _ st1 (Nat.le_succ _) fun c hc o q => ?_) T2 (by omega) (fun y => ?_) fun s3 es3 ep3 t3 mv3 T3 hz3 hm3 => ?_⟩
    · rw [sb.2 c fun z => hS (z ▸ hc)]; exact q
    · rw [hm2 y, hm y]
      constructor
      · rintro (⟨j, hj, e⟩ | e)
        · exact ⟨j, by omega, e⟩
        · exact ⟨i, by omega, e.symm⟩
      · rintro ⟨j, hj, e⟩
        by_cases z : j = i
        · subst z; exact .inr e.symm
        · exact .inl ⟨j, by omega, e⟩
    · refine hR s3 es3 ep3 t3 (Moved.trans W.gtrans ((mv.mono up).then_heap (Nat.le_succ _) fun c o hc q => ?_) mv3) T3 hz3 hm3
      rw [sb.2 c fun z => hc (by rw [z]; exact List.mem_cons_self)]; exact q
/-- set(..): the empty one -/
theorem txs_new (a : Value) {Q₁ : Value → Shared → Prop} (h : Q₁ (.ref s.heap.objs.size) { s with heap := s.heap.push { cls := .type "set", dict := none, data := .set #[] 0 (.fresh 0 0 (ledIn w)) } }) :
    codeAny (model P w) A (.call (.builtin "set.__new__") ⟨[.type "set", a], []⟩) (wants Q₁ E) s := by
  refine codeAny_of_tree ?_
  show wpAny _ A.in1 (checkBuiltinCall "set.__new__" ⟨[.type "set", a], []⟩ >>= fun _ => again (.builtin "set.__new__" ⟨[.type "set", a], []⟩)) _ _ s
  refine wpAny_bind (wpAny_of_eq (PySem.F.newCall_set_1 a) (wpAny_pure ⟨plainId_quiet PySem.F.plain_set_new _, codeAny_builtin PySem.F.entry_set_new ?_⟩))
  rw [Around.under_plainId PySem.F.plain_set_new _]
  unfold Builtin.«set.__new__»
  unfold Builtin.Frozenset.newClass
  have sub := sub_set_self
  obtain ⟨hp, g, d, tk, os⟩ := s
  dsimp only
  wp_walk
  refine wpAny_askSetting ?_
  refine wpAny_pure ?_
  dsimp only
  simp only [newObj]
  refine wpAny_bind (wpAny_alloc (wpAny_pure ?_))
  exact wpAny_pure h
end
end EB
namespace EB
open PySem PySem.Spec PyProof.Rows L2

theorem sit_next : Slot "set_iterator" "__next__" "set_iterator.__next__" :=
  .of (owner := "set_iterator") (n := "__next__") (by (rw [typeLookup_type, builtinLookup_eq_fast]); kernel_rfl) (by decide +kernel) (by decide +kernel) (by decide +kernel) (.inl (by decide +kernel)) (by (rw [isSubtype_type]); kernel_rfl)
theorem sit_entry : entryFor table "set_iterator.__next__" = some Builtin.«set_iterator.__next__» := entryFor_of_tree (by kernel_rfl)
theorem sit_owner : Manifest.owners.lookup (String.ofList ['r', 'o', 't', 'a', 'r', 'e', 't', 'i', '_', 't', 'e', 's'].reverse) = some Manifest.sig_set_iterator := by kernel_rfl
theorem sit_args (a : Value) : argsOk "set_iterator.__next__" ⟨[a], []⟩ := by
  unfold argsOk
  rw [signature?_of (id := "set_iterator.__next__") (n := ['_', '_', 't', 'x', 'e', 'n', '_', '_']) (o := ['r', 'o', 't', 'a', 'r', 'e', 't', 'i', '_', 't', 'e', 's']) (by kernel_rfl) sit_owner]
  kernel_rfl
theorem sit_made : entryFor table "set.__iter__" = some Builtin.«frozenset.__iter__» :=
  entryFor_alias (id' := "frozenset.__iter__") (by kernel_rfl) rfl (by decide +kernel) (by kernel_rfl)
theorem strs_at : ∀ {vs : List Value} {xs : List Str}, StrsAre vs xs → ∀ (i : Nat) (v : Value), vs[i]? = some v → ∃ t, v = .str (xs.getD i ⟨#[]⟩) t
  | _, _, .nil, i, v, h => by simp at h
  | _, _, .cons y t r, 0, v, h => by simp at h; exact ⟨t, by rw [← h]; rfl⟩
  | _, _, .cons y t r, i + 1, v, h => strs_at r i v (by simpa using h)
theorem mem_getD (xs : List Str) (y : Str) : (∃ j, j < xs.length ∧ xs.getD j ⟨#[]⟩ = y) ↔ y ∈ xs := by
  constructor
  · rintro ⟨j, hj, e⟩
    rw [← e, List.getD_eq_getElem?_getD, List.getElem?_eq_getElem hj]
    exact List.getElem_mem hj
  · intro m
    obtain ⟨j, hj, e⟩ := List.mem_iff_getElem.mp m
    exact ⟨j, hj, by rw [List.getD_eq_getElem?_getD, List.getElem?_eq_getElem hj]; exact e⟩
section
variable {P : Program} {w : World} {A : Around} {E : Value → Shared → Prop} {s : Shared}
abbrev noSet (w : World) : Obj := { cls := .type "set", dict := none, data := .set #[] 0 (.fresh 0 0 (ledIn w)) }
theorem txs_none {h : Heap} {a : Addr} (e : h.get? a = some (noSet w)) : TxS P w h a #[] 0 (.fresh 0 0 (ledIn w)) :=
  ⟨e, fun _ m => (by simp at m), rfl, (by unfold scanBound; decide), rfl, fun z => absurd rfl z, List.nodup_nil⟩
set_option maxHeartbeats 6400000 in
/-- set(xs) of a list of texts -/
theorem txs_of {l : Addr} {items : Array Value} {xs : List Str} {Q : Value → Shared → Prop} (hh : A.handled = none) (hl : s.heap.IsList l items) (hx : StrsAre items.toList xs) (hb : items.size + 1 < scanBound)
    (h : ∀ (h' : Heap) (tk : Nat) (es : Array (Int × Value)) (ep : Nat) (t : SetTable), TxS P w h' s.heap.objs.size es ep t → es.size ≤ xs.length → (∀ y, y ∈ txts es ↔ y ∈ xs) → (∀ b o, s.heap.get? b = some o → h'.get? b = some o) → Q (.ref s.heap.objs.size) { s with heap := h', toks := tk }) :
    wpAny (model P w) A (call (.type "set") [.ref l]) Q E s := by
  have hlen : items.size = xs.length := by rw [← Array.length_toList]; exact hx.length
  obtain ⟨c, tl, mro⟩ := PySem.F.called_set.mro
  have made := PySem.F.called_set.made
  have subs := PySem.F.called_set.sub
  refine wpAny_call (codeAny_of_tree ?_)
  show wpAny _ _ (callAny (.type "set") _) _ _ _
  refine wpAny_pure ⟨Code.quiet_builtin _ (by decide +kernel), codeAny_builtin PySem.F.entry_type_call ?_⟩
  rw [Around.under_plain (weight_type_call_type "set" [.ref l] []) rfl]
  have g1 := PySem.F.called_set.notType
  have g2 := PySem.F.called_set.canCreate
  have g3 := PySem.F.typeCall_set_1 (.ref l)
  repeat (any_goals (first | assumption | wp_step))
  refine codeAny_mono (txs_new (P := P) (w := w) (.ref l) (E := E) (Q₁ := fun obj s₁ => obj = .ref s.heap.objs.size ∧ s₁ = { s with heap := s.heap.push (noSet w) }) ⟨rfl, rfl⟩) fun r s₁ hr => ?_
  cases r with
  | error e => exact hr
  | ok fl =>
    cases fl with
    | ret obj =>
      obtain ⟨rfl, rfl⟩ := hr
      have hS : (s.heap.push (noSet w)).get? s.heap.objs.size = some (noSet w) := Heap.get?_push_size _ rfl
      have hT : Shared.TypeIs { s with heap := s.heap.push (noSet w) } (.ref s.heap.objs.size) "set" := ⟨_, hS, rfl⟩
      have i1 := PySem.F.called_set.init.lookup
      have i2 := PySem.F.called_set.init.bind (.ref s.heap.objs.size)
      repeat (any_goals (first | assumption | wp_step))
      refine codeAny_mono (codeAny_call_builtin (R := wants (fun r s₂ => r = .none ∧ ∃ h' tk es ep t, s₂ = { s with heap := h', toks := tk } ∧ TxS P w h' s.heap.objs.size es ep t ∧ es.size ≤ xs.length ∧ (∀ y, y ∈ txts es ↔ y ∈ xs) ∧
          (∀ b o, s.heap.get? b = some o → h'.get? b = some o)) E) PySem.F.called_set.init.plain PySem.F.entry_set_init (check_set_init_1 hT ?_)) fun r₂ s₂ hr₂ => ?_
      · obtain ⟨ol, hol, hcl, nl, hdl⟩ := hl
        obtain ⟨ocls, odict, odata, oslots⟩ := ol
        simp only at hcl hdl
        subst hcl
        subst hdl
        have hol2 : (s.heap.push (noSet w)).get? l = some { cls := .type "list", dict := odict, data := .seq items nl, slots := oslots } := Heap.get?_push_of_some _ hol
        have n1 := PySem.F.sub_list_set
        have n2 := PySem.F.sub_list_frozenset
        have n3 : (Value.type "list" == Value.type "dict") = false := by decide
        have hl1 : (s.heap.push (noSet w)).IsList l items := ⟨_, hol2, rfl, nl, rfl⟩
        unfold Builtin.«set.__init__» noKeywords
        unfold Builtin.Frozenset.updateFrom
        generalize hPI : pyIter = PI
        wp_walk
        subst hPI
        refine wpAny_pyIter_list hl1 ?_
        refine wpAny_bind (wpAny_runValue ?_)
        have lt : l < s.heap.objs.size := Heap.lt_size hol
        have h3 : A.in1.in1.in1.handled = none := by simp [hh]
        have neI : l ≠ (s.heap.push (noSet w)).objs.size := by rw [Heap.size_push]; exact Nat.ne_of_lt (Nat.lt_succ_of_lt lt)
        have nf : s.heap.objs.size ∉ [(s.heap.push (noSet w)).objs.size, l] := by
          rw [Heap.size_push]
          intro z
          rcases List.mem_cons.mp z with z | z
          · exact absurd z (Nat.ne_of_lt (Nat.lt_succ_self _))
          · exact absurd (List.mem_singleton.mp z) (Nat.ne_of_gt lt)
        refine txs_loop ((Walks.list h3 _ l neI items).toS) s.heap.objs.size nf (fun i => xs.getD i ⟨#[]⟩) (fun i v e => strs_at hx i v (by rw [Array.getElem?_toList]; exact e)) hb (items.size - 0) 0 _ #[] 0 (.fresh 0 0 (ledIn w)) (by omega) (Nat.zero_le _)
          ⟨⟨_, Heap.get?_push_size _ rfl, rfl, rfl⟩, hl1.push _⟩ (txs_none (Heap.get?_push_of_some _ hS)) (Nat.le_refl _) (fun y => ⟨fun z => by simp [txts] at z, fun ⟨j, z, _⟩ => absurd z (Nat.not_lt_zero _)⟩) ?_
        intro s' es ep t mv T hz hm
        obtain ⟨h', g', d', tk', os'⟩ := s'
        have eg : g' = s.gens := mv.gens
        have ed : d' = s.drawn := mv.drawn
        have eo : os' = s.os := mv.os
        subst eg
        subst ed
        subst eo
        show wpAny _ _ _ _ _ _
        refine wpAny_pure ?_
        show wpAny _ _ (ret Value.none) _ _ _
        refine wpAny_pure ⟨rfl, h', tk', es, ep, t, rfl, T, by omega, fun y => ?_, fun b o e => ?_⟩
        · rw [hm y, hlen]; exact mem_getD xs y
        · have hb1 := Heap.lt_size e
          refine mv.heap b o (fun z => ?_) (Heap.get?_push_of_some _ (Heap.get?_push_of_some _ e))
          rcases List.mem_cons.mp z with z | z
          · exact absurd z (Nat.ne_of_lt hb1)
          · have z2 := List.mem_singleton.mp z
            rw [Heap.size_push] at z2
            exact absurd z2 (Nat.ne_of_lt (Nat.lt_succ_of_lt hb1))
      · cases r₂ with
        | error e => exact hr₂
        | ok fl₂ =>
          cases fl₂ with
          | ret r =>
            obtain ⟨rfl, h', tk, es, ep, t, rfl, T, hz, hm, hk⟩ := hr₂
            repeat (any_goals (first | assumption | wp_step))
            exact h _ _ es ep t T hz hm hk
          | _ => exact hr₂.elim
    | _ => exact hr.elim
end
end EB
namespace EB
open PySem PySem.Spec PyProof.Rows L2

theorem cons_erase {α : Type} : ∀ (l : List α) (i : Nat) (h : i < l.length), (l[i] :: l.eraseIdx i).Perm l
  | a :: r, 0, h => .rfl
  | a :: r, i + 1, h => (List.Perm.swap a (r[i]'(by simpa using h)) (r.eraseIdx i)).trans ((cons_erase r i (by simpa using h)).cons a)
theorem pick_perm {α : Type} (next : Nat → Nat) : ∀ (n k : Nat) (l : List α) (out : Array α), l.length = n → (pickOrder.go next n k l out).toList.Perm (out.toList ++ l)
  | 0, k, l, out, h => by
    have e : l = [] := List.length_eq_zero_iff.mp h
    subst e
    show out.toList.Perm _
    rw [List.append_nil]
  | n + 1, k, l, out, h => by
    have lt : next k % l.length < l.length := Nat.mod_lt _ (by omega)
    unfold pickOrder.go
    rw [List.getElem?_eq_getElem lt]
    dsimp only
    have q := pick_perm next n (k + 1) (l.eraseIdx (next k % l.length)) (out.push l[next k % l.length]) (by rw [List.length_eraseIdx_of_lt lt]; omega)
    refine q.trans ?_
    rw [Array.toList_push, List.append_assoc]
    exact List.Perm.append_left _ (cons_erase _ _ lt)
section
variable {P : Program} {w : World} {A : Around} {E : Value → Shared → Prop} {s : Shared}
theorem wp_choose_ {src : Source} {n : Nat} {Q : Nat → Shared → Prop} (hn : 0 < n) (h : ∀ i d, i < n → Q i { s with drawn := d }) : wpAny (model P w) A (choose src n) Q E s := by
  intro Γ p hΓ
  unfold choose
  rw [Sem.wp_choose]
  exact ⟨by omega, h _ _ (Nat.mod_lt _ hn)⟩
theorem draw_perm {α : Type} : ∀ (n : Nat) (l : List α) (s : Shared) (Q : List α → Shared → Prop), l.length = n → (∀ r d, r.Perm l → Q r { s with drawn := d }) → wpAny (model P w) A (drawOrder n l) Q E s
  | 0, l, s, Q, h, q => by
    have e : l = [] := List.length_eq_zero_iff.mp h
    subst e
    exact wpAny_pure (q [] s.drawn .rfl)
  | n + 1, l, s, Q, h, q => by
    cases l with
    | nil => cases h
    | cons a r =>
      unfold drawOrder
      refine wpAny_bind (wp_choose_ (by show 0 < (a :: r).length; rw [List.length_cons]; omega) fun i d hi => ?_)
      rw [List.getElem?_eq_getElem hi]
      dsimp only
      refine wpAny_bind (draw_perm n _ _ _ (by rw [List.length_eraseIdx_of_lt hi]; omega) fun r' d' p => ?_)
      exact wpAny_pure (q _ _ ((p.cons _).trans (cons_erase _ _ hi)))
abbrev sitObj (first : Value) (i : Nat) (S : Addr) (n ep : Nat) : Obj := { cls := .type "set_iterator", data := .fields #[first, .int i 0, .ref S, .int n 0, .int ep 0] }
theorem sit_step {I : Addr} {o : Obj} {Q : Option Value → Shared → Prop} (ho : s.heap.get? I = some o) (hc : o.cls = .type "set_iterator")
    (h : wpAny (model P w) A.in1 (Builtin.«set_iterator.__next__» ⟨[.ref I], []⟩) (fun fin s' => ∃ r, fin = .done (.ret r) ∧ Q (some r) s')
      (fun e s' => Shared.TypeIs s' e "StopIteration" ∧ Q none s') s) : wpAny (model P w) A (pyNext (.ref I)) Q E s := by
  have hT : s.TypeIs (.ref I) "set_iterator" := ⟨o, ho, hc⟩
  unfold pyNext
  refine wpAny_bind (wpAny_attempt (wpAny_callSpecial?_slot (name := Str.ofString "__next__") hT sit_next (wpAny_call_entry sit_next hT sit_entry ?_ (sit_args _))))
  refine wpAny_mono h (fun fin s' => ?_) fun e s' => ?_
  · rintro ⟨r, rfl, q⟩
    exact ⟨r, rfl, wpAny_pure q⟩
  · rintro ⟨hT', q⟩
    refine wpAny_bind (wpAny_isInstance (T := "StopIteration") (b := true) hT' isSubtype_stop ?_)
    exact wpAny_pure q
/-- the end of a walk -/
theorem sit_stop {Q : Fin → Shared → Prop} {R : Value → Shared → Prop} (hh : A.handled = none) (h : ∀ e h', (∀ b o, s.heap.get? b = some o → h'.get? b = some o) → Shared.TypeIs { s with heap := h' } e "StopIteration" → R e { s with heap := h' }) :
    wpAny (model P w) A (newExc (.type "StopIteration") [] >>= raiseNew) Q R s := by
  refine wpAny_bind ?_
  simp only [newExc, newTuple]
  refine wpAny_bind (wpAny_newObj_type ?_ (by size_fits))
  refine wpAny_bind (m := firstArgMember _ _) (wpAny_of_eq (a := Value.none) (by first | rfl | (simp only [firstArgMember]; rfl)) ?_)
  refine wpAny_newObj_type ?_ (by size_fits)
  simp only [raiseNew]
  refine wpAny_bind (wpAny_handled ?_)
  rw [hh]
  refine wpAny_bind (wpAny_pure (wpAny_throw ?_))
  exact h _ _ (fun b o e => Heap.get?_push_of_some _ (Heap.get?_push_of_some _ e)) ⟨_, Heap.get?_push_size _ rfl, rfl⟩
theorem sit_body {I S : Addr} {first : Value} {i : Nat} {es : Array (Int × Value)} {ep : Nat} {t : SetTable} {Q : Fin → Shared → Prop} {R : Value → Shared → Prop} (T : TxS P w s.heap S es ep t) (hI : s.heap.get? I = some (sitObj first i S es.size ep))
    (h : wpAny (model P w) A (match first with
      | .int slot _ => do
        match ← setNext S slot.toNat i ep with
        | some (x, next) =>
          setField (.ref I) 0 (rawInt next)
          setField (.ref I) 1 (rawInt (i + 1))
          ret x
        | none => setField (.ref I) 2 .none; newExc (.type "StopIteration") [] >>= raiseNew
      | _ => do
        let some places ← seqItems? first | unsupported "internal:set_iterator"
        match places[i]? with
        | some (.int place _) =>
          let x ← setNextDrawn S place.toNat ep
          setField (.ref I) 1 (rawInt (i + 1))
          ret x
        | some _ => unsupported "internal:set_iterator"
        | none => setField (.ref I) 0 (rawInt 0); setField (.ref I) 2 .none; newExc (.type "StopIteration") [] >>= raiseNew) Q R s) :
    wpAny (model P w) A (Builtin.«set_iterator.__next__» ⟨[.ref I], []⟩) Q R s := by
  unfold Builtin.«set_iterator.__next__»
  refine wpAny_bind (wpAny_pure ?_)
  refine wpAny_bind (wpAny_fieldsOf hI rfl ?_)
  show wpAny _ _ (setEntries S >>= _) _ _ s
  refine wpAny_bind (wpAny_setEntries_of T.obj rfl T.fit ?_)
  rw [if_neg (by simp)]
  exact h
theorem sit_iter : Slot "set_iterator" "__iter__" "set_iterator.__iter__" :=
  .of (owner := "set_iterator") (n := "__iter__") (by (rw [typeLookup_type, builtinLookup_eq_fast]); kernel_rfl) (by decide +kernel) (by decide +kernel) (by decide +kernel) (.inl (by decide +kernel)) (by (rw [isSubtype_type]); kernel_rfl)
theorem sit_iterE : entryFor table "set_iterator.__iter__" = some Builtin.«dict_keyiterator.__iter__» :=
  entryFor_alias (id' := "dict_keyiterator.__iter__") (by kernel_rfl) rfl (by decide +kernel) (by kernel_rfl)
theorem sit_iterA (a : Value) : argsOk "set_iterator.__iter__" ⟨[a], []⟩ := by
  unfold argsOk
  rw [signature?_of (id := "set_iterator.__iter__") (n := ['_', '_', 'r', 'e', 't', 'i', '_', '_']) (o := ['r', 'o', 't', 'a', 'r', 'e', 't', 'i', '_', 't', 'e', 's']) (by kernel_rfl) sit_owner]
  kernel_rfl
theorem sit_self {I : Addr} {o : Obj} {Q : Value → Shared → Prop} (ho : s.heap.get? I = some o) (hc : o.cls = .type "set_iterator") (h : Q (.ref I) s) : wpAny (model P w) A (pyIter (.ref I)) Q E s := by
  have hT : s.TypeIs (.ref I) "set_iterator" := ⟨o, ho, hc⟩
  refine wpAny_pyIter_slot hT sit_iter (wpAny_call_entry sit_iter hT sit_iterE ?_ (sit_iterA _))
  show wpAny _ _ (ret (.ref I)) _ _ s
  exact wpAny_pure ⟨_, rfl, "set_iterator", _, hT, sit_next.lookup, h⟩
theorem wp_byText {Q : Bool → Shared → Prop} (h : Q (w.params.followText "set-order") s) : wpAny (model P w) A setsByText Q E s := by
  unfold setsByText
  exact wpAny_bind (wpAny_askSetting (wpAny_pure h))
theorem pick_all (next : Nat → Nat) (es : Array (Int × Value)) : (pickOrder next es).toList.Perm es.toList := by
  have q := pick_perm next es.size 0 es.toList #[] (by rw [Array.length_toList])
  rw [List.nil_append] at q
  exact q
theorem sit_two {I : Addr} {f g : Value} {i : Nat} {S : Addr} {n ep : Nat} {x : Value} {Q : Fin → Shared → Prop} {R : Value → Shared → Prop} (hI : s.heap.get? I = some (sitObj f i S n ep))
    (h : ∀ h', h'.get? I = some (sitObj g (i + 1) S n ep) → (∀ b o, b ∉ [I] → s.heap.get? b = some o → h'.get? b = some o) → Q (.done (.ret x)) { s with heap := h' }) :
    wpAny (model P w) A (setField (.ref I) 0 g >>= fun _ => setField (.ref I) 1 (rawInt (i + 1)) >>= fun _ => ret x) Q R s := by
  refine wpAny_bind (wpAny_setField_rec hI (by simp) fun h1 e1 s1 => ?_)
  refine wpAny_bind (wpAny_setField_rec (s := { s with heap := h1 }) e1 (by simp) fun h2 e2 s2 => ?_)
  refine wpAny_pure (h h2 ?_ fun b o hb e => ?_)
  · rw [e2]; simp [rawInt]
  · have nb : b ≠ I := fun z => hb (by rw [z]; exact List.mem_cons_self)
    rw [s2.2 b nb, s1.2 b nb]; exact e
theorem sit_end {I : Addr} {f : Value} {i : Nat} {S : Addr} {n ep : Nat} {Q : Fin → Shared → Prop} {Q' : Option Value → Shared → Prop} (hh : A.handled = none) (hI : s.heap.get? I = some (sitObj f i S n ep))
    (h : ∀ h' tk, (∀ b o, b ∉ [I] → s.heap.get? b = some o → h'.get? b = some o) → Q' none { s with heap := h', toks := tk }) :
    wpAny (model P w) A (setField (.ref I) 2 .none >>= fun _ => newExc (.type "StopIteration") [] >>= raiseNew) Q (fun e s' => Shared.TypeIs s' e "StopIteration" ∧ Q' none s') s := by
  refine wpAny_bind (wpAny_setField_rec hI (by simp) fun h1 e1 s1 => ?_)
  refine sit_stop (s := { s with heap := h1 }) hh fun e h2 k2 hT => ⟨hT, h h2 s.toks fun b o hb q => k2 b o ?_⟩
  have nb : b ≠ I := fun z => hb (by rw [z]; exact List.mem_cons_self)
  show h1.get? b = some o
  rw [s1.2 b nb]; exact q
theorem sit_text {I S : Addr} {es : Array (Int × Value)} {ep : Nat} {t : SetTable} (hh : A.handled = none) (ft : w.params.followText "set-order" = true) (ne : S ≠ I) :
    Walks P w A I [I, S] [I] es.size (fun i v => ((pickOrder (w.params.setOrder S ep) es).toList.map (·.2))[i]? = some v) (fun i h => TxS P w h S es ep t ∧ h.get? I = some (sitObj (.int 0 0) i S es.size ep)) where
  sub := fun b hb => by rw [List.mem_singleton.mp hb]; exact List.mem_cons_self
  frame := fun i h h' st k => ⟨txs_at st.1 fun o e => k S (by simp) o e, k I (by simp) _ st.2⟩
  item := fun i s Q E hi st hQ => by
    refine sit_step st.2 rfl (sit_body st.1 st.2 ?_)
    refine wpAny_bind ?_
    unfold setNext
    refine wpAny_bind (wpAny_setState_of st.1.obj rfl st.1.fit ?_)
    dsimp only
    refine wpAny_bind (wp_byText ?_)
    rw [if_pos ft, if_neg (by simp)]
    refine wpAny_bind ?_
    unfold setWalk
    refine wpAny_bind (wpAny_setState_of st.1.obj rfl st.1.fit ?_)
    dsimp only
    refine wpAny_bind (wp_byText ?_)
    rw [if_pos ft]
    refine wpAny_bind (wpAny_askSetting (wpAny_pure ?_))
    have len := (pick_all (w.params.setOrder S ep) es).length_eq
    rw [Array.length_toList, Array.length_toList] at len
    have hi' : i < (pickOrder (w.params.setOrder S ep) es).size := by omega
    refine wpAny_pure ?_
    dsimp only
    rw [show (model P w).w = w from rfl, Array.getElem?_eq_getElem hi']
    refine sit_two (g := .int 0 0) st.2 fun h' e' k' => ⟨_, rfl, hQ _ h' s.toks ?_ ⟨txs_at st.1 fun o q => k' S o (by simpa using ne) q, e'⟩ k'⟩
    rw [List.getElem?_map, Array.getElem?_toList, Array.getElem?_eq_getElem hi']
    rfl
  done := fun s Q E st hQ => by
    refine sit_step st.2 rfl (sit_body st.1 st.2 ?_)
    refine wpAny_bind ?_
    unfold setNext
    refine wpAny_bind (wpAny_setState_of st.1.obj rfl st.1.fit ?_)
    dsimp only
    refine wpAny_bind (wp_byText ?_)
    rw [if_pos ft, if_neg (by simp)]
    refine wpAny_bind ?_
    unfold setWalk
    refine wpAny_bind (wpAny_setState_of st.1.obj rfl st.1.fit ?_)
    dsimp only
    refine wpAny_bind (wp_byText ?_)
    rw [if_pos ft]
    refine wpAny_bind (wpAny_askSetting (wpAny_pure ?_))
    have len := (pick_all (w.params.setOrder S ep) es).length_eq
    rw [Array.length_toList, Array.length_toList] at len
    refine wpAny_pure ?_
    dsimp only
    rw [show (model P w).w = w from rfl, Array.getElem?_eq_none (by omega)]
    exact sit_end hh st.2 hQ
  self := fun i s Q E st hQ => sit_self st.2 rfl hQ
/-- an order that was drawn: its places in a tuple -/
theorem sit_drawn {I S D : Addr} {es : Array (Int × Value)} {ep : Nat} {t : SetTable} {ps : List Nat} (hh : A.handled = none) (hp : ps.Perm (List.range es.size)) (ne : S ≠ I) (nd : D ≠ I) :
    Walks P w A I [I, S, D] [I] es.size (fun i v => ∃ p e, ps[i]? = some p ∧ es[p]? = some e ∧ v = e.2) (fun i h => TxS P w h S es ep t ∧ h.get? I = some (sitObj (.ref D) i S es.size ep) ∧ h.get? D = some { cls := .type "tuple", data := .seq (ps.map fun (p : Nat) => rawInt p).toArray }) where
  sub := fun b hb => by rw [List.mem_singleton.mp hb]; exact List.mem_cons_self
  frame := fun i h h' st k => ⟨txs_at st.1 fun o e => k S (by simp) o e, k I (by simp) _ st.2.1, k D (by simp) _ st.2.2⟩
  item := fun i s Q E hi st hQ => by
    have hl : ps.length = es.size := by rw [hp.length_eq, List.length_range]
    have hpi : i < ps.length := by omega
    have hm : ps[i] < es.size := List.mem_range.mp (hp.mem_iff.mp (List.getElem_mem hpi))
    refine sit_step st.2.1 rfl (sit_body st.1 st.2.1 ?_)
    refine wpAny_bind (wpAny_seqItems st.2.2 rfl ?_)
    dsimp only
    have e1 : (ps.map fun (p : Nat) => rawInt p).toArray[i]? = some (rawInt ps[i]) := by
      rw [List.getElem?_toArray, List.getElem?_map, List.getElem?_eq_getElem hpi]
      rfl
    rw [e1]
    show wpAny _ _ (setNextDrawn S ps[i] ep >>= _) _ _ s
    refine wpAny_bind ?_
    unfold setNextDrawn
    refine wpAny_bind (wpAny_setState_of st.1.obj rfl st.1.fit ?_)
    dsimp only
    rw [if_neg (by simp), Array.getElem?_eq_getElem hm]
    refine wpAny_pure ?_
    refine wpAny_bind (wpAny_setField_rec st.2.1 (by simp) fun h1 e1 s1 => ?_)
    have kp : ∀ b o, b ∉ [I] → s.heap.get? b = some o → h1.get? b = some o := fun b o hb e => by
      rw [s1.2 b fun z => hb (by rw [z]; exact List.mem_cons_self)]; exact e
    refine wpAny_pure ⟨_, rfl, hQ _ h1 s.toks ⟨ps[i], es[ps[i]], List.getElem?_eq_getElem hpi, Array.getElem?_eq_getElem hm, rfl⟩ ⟨txs_at st.1 fun o q => kp S o (by simpa using ne) q, ?_, kp D _ (by simpa using nd) st.2.2⟩ kp⟩
    rw [e1]; simp [rawInt]
  done := fun s Q E st hQ => by
    have hl : ps.length = es.size := by rw [hp.length_eq, List.length_range]
    refine sit_step st.2.1 rfl (sit_body st.1 st.2.1 ?_)
    refine wpAny_bind (wpAny_seqItems st.2.2 rfl ?_)
    dsimp only
    have e1 : (ps.map fun (p : Nat) => rawInt p).toArray[es.size]? = none := by
      rw [List.getElem?_toArray, List.getElem?_map, List.getElem?_eq_none (by omega)]
      rfl
    rw [e1]
    refine wpAny_bind (wpAny_setField_rec st.2.1 (by simp) fun h1 e1 s1 => ?_)
    refine sit_end (s := { s with heap := h1 }) (f := rawInt 0) (i := es.size) (S := S) (n := es.size) (ep := ep) hh (by rw [e1]; simp [rawInt]) fun h2 tk k2 => hQ h2 tk fun b o hb e => k2 b o hb ?_
    show h1.get? b = some o
    rw [s1.2 b fun z => hb (by rw [z]; exact List.mem_cons_self)]; exact e
  self := fun i s Q E st hQ => sit_self st.2.1 rfl hQ
/-- at most one: by its place -/
theorem below_one {j k : Nat} : SetTable.below #[j] k = if j < k then 1 else 0 := by
  show SetTable.below.go #[j] k 1 0 1 = _
  unfold SetTable.below.go
  rw [if_pos (by decide)]
  show (if j < k then SetTable.below.go #[j] k 0 (0 + 1) 1 else SetTable.below.go #[j] k 0 0 0) = _
  split <;> rfl
theorem led_ok {h : Heap} {S : Addr} {es : Array (Int × Value)} {ep : Nat} {t : SetTable} {Q : Unit → Shared → Prop} (T : TxS P w h S es ep t) (ft : w.params.followText "set-order" = false) (q : Q () s) :
    wpAny (model P w) A (if (!t.led && !es.isEmpty) = true then unsupported "set:maker-not-led" else pure ()) Q E s := by
  rw [T.led]
  unfold ledIn
  rw [ft, if_neg (by simp)]
  exact wpAny_pure q
theorem sit_few {I S : Addr} {es : Array (Int × Value)} {ep : Nat} {t : SetTable} (hh : A.handled = none) (ft : w.params.followText "set-order" = false) (ne : S ≠ I) (few : es.size ≤ 1) :
    Walks P w A I [I, S] [I] es.size (fun i v => (es.toList.map (·.2))[i]? = some v) (fun i h => TxS P w h S es ep t ∧ h.get? I = some (sitObj (rawInt ((if i = 0 then 0 else t.place.getD 0 0 + 1 : Nat) : Int)) i S es.size ep)) where
  sub := fun b hb => by rw [List.mem_singleton.mp hb]; exact List.mem_cons_self
  frame := fun i h h' st k => ⟨txs_at st.1 fun o e => k S (by simp) o e, k I (by simp) _ st.2⟩
  item := fun i s Q E hi st hQ => by
    have i0 : i = 0 := by omega
    subst i0
    have e1 : es.size = 1 := by omega
    refine sit_step st.2 rfl (sit_body st.1 st.2 ?_)
    refine wpAny_bind ?_
    unfold setNext
    refine wpAny_bind (wpAny_setState_of st.1.obj rfl st.1.fit ?_)
    dsimp only
    refine wpAny_bind (wp_byText ?_)
    rw [if_neg (by rw [ft]; decide)]
    refine wpAny_ite_split (fun c => absurd (show (!t.plain && decide (es.size > 1)) = true from c) (by rw [decide_eq_false (by omega)]; simp)) fun _ => ?_
    obtain ⟨x, hx⟩ : ∃ x, es = #[x] := by
      obtain ⟨l⟩ := es
      match l, e1 with
      | [x], _ => exact ⟨x, rfl⟩
    obtain ⟨j, hj⟩ : ∃ j, t.place = #[j] := by
      have f := st.1.fit
      unfold SetTable.fits at f
      have f1 : t.place.size = es.size := by
        have := (Bool.and_eq_true _ _ ▸ f).1
        exact eq_of_beq this
      rw [e1] at f1
      generalize t.place = pl at f1
      obtain ⟨l⟩ := pl
      match l, f1 with
      | [x], _ => exact ⟨x, rfl⟩
    refine wpAny_bind (led_ok st.1 ft ?_)
    refine wpAny_pure ?_
    rw [hj]
    show wpAny (model P w) A.in1 (match (match es[SetTable.below #[j] 0]?, (#[j] : Array Nat)[SetTable.below #[j] 0]? with | some (_, x), some j => some (x, j + 1) | _, _ => none) with
      | some (x, next) => setField (.ref I) 0 (rawInt next) >>= fun _ => setField (.ref I) 1 (rawInt (((0 : Nat) : Int) + 1)) >>= fun _ => ret x
      | none => setField (.ref I) 2 .none >>= fun _ => newExc (.type "StopIteration") [] >>= raiseNew) _ _ s
    rw [below_one, if_neg (Nat.not_lt_zero _), hx]
    refine sit_two (i := 0) st.2 fun h' e' k' => ⟨_, rfl, hQ _ h' s.toks (by rw [hx]; rfl) ⟨txs_at st.1 fun o q => k' S o (by simpa using ne) q, ?_⟩ k'⟩
    rw [e', hj]; rfl
  done := fun s Q E st hQ => by
    refine sit_step st.2 rfl (sit_body st.1 st.2 ?_)
    refine wpAny_bind ?_
    unfold setNext
    refine wpAny_bind (wpAny_setState_of st.1.obj rfl st.1.fit ?_)
    dsimp only
    refine wpAny_bind (wp_byText ?_)
    rw [if_neg (by rw [ft]; decide)]
    refine wpAny_ite_split (fun c => absurd (show (!t.plain && decide (es.size > 1)) = true from c) (by rw [decide_eq_false (by omega)]; simp)) fun _ => ?_
    refine wpAny_bind (led_ok st.1 ft ?_)
    refine wpAny_pure ?_
    have f1 : t.place.size = es.size := by
      have f := st.1.fit
      unfold SetTable.fits at f
      have := (Bool.and_eq_true _ _ ▸ f).1
      exact eq_of_beq this
    have none_ : es[SetTable.below t.place (((if es.size = 0 then 0 else t.place.getD 0 0 + 1 : Nat) : Int)).toNat]? = none := by
      rcases Nat.eq_zero_or_pos es.size with z | z
      · exact Array.getElem?_eq_none (by omega)
      · rw [if_neg (by omega)]
        rw [show es.size = 1 by omega] at f1
        generalize t.place = pl at f1
        obtain ⟨l⟩ := pl
        match l, f1 with
        | [x], _ =>
          refine Array.getElem?_eq_none ?_
          show es.size ≤ SetTable.below #[x] (x + 1)
          rw [below_one, if_pos (by omega)]
          omega
    rw [none_]
    exact sit_end hh st.2 hQ
  self := fun i s Q E st hQ => sit_self st.2 rfl hQ
end
end EB
namespace EB
open PySem PySem.Spec PyProof.Rows L2

section
variable {P : Program} {w : World} {A : Around} {E : Value → Shared → Prop} {s : Shared}
/-- an iterator over the set, whatever its order -/
def SitOk (P : Program) (w : World) (n0 : Nat) (h' : Heap) (I S : Addr) (es : Array (Int × Value)) : Prop :=
  ∃ (fp : List Addr) (Pv : Nat → Value → Prop) (St : Nat → Heap → Prop), (∀ A : Around, A.handled = none → Walks P w A I fp [I] es.size Pv St) ∧ St 0 h' ∧ (∀ b ∈ fp, b = S ∨ n0 ≤ b) ∧
    ∀ vals : List Value, vals.length = es.size → (∀ i v, vals[i]? = some v → Pv i v) → vals.Perm (es.toList.map (·.2))
theorem eq_of_at {l m : List Value} (hl : l.length = m.length) (h : ∀ (i : Nat) (v : Value), l[i]? = some v → m[i]? = some v) : l = m := by
  apply List.ext_getElem?
  intro i
  by_cases hi : i < l.length
  · rw [List.getElem?_eq_getElem hi, h i _ (List.getElem?_eq_getElem hi)]
  · rw [List.getElem?_eq_none (by omega), List.getElem?_eq_none (by omega)]
theorem range_all (es : Array (Int × Value)) : (List.range es.size).map (fun p => (es.getD p (0, .none)).2) = es.toList.map (·.2) := by
  apply List.ext_getElem?
  intro i
  rw [List.getElem?_map, List.getElem?_map]
  by_cases hi : i < es.size
  · rw [List.getElem?_range hi, List.getElem?_eq_getElem (by rw [Array.length_toList]; exact hi)]
    simp [Array.getD, hi]
  · rw [List.getElem?_eq_none (by rw [List.length_range]; omega), List.getElem?_eq_none (by rw [Array.length_toList]; omega)]
    rfl
theorem txs_iter {S : Addr} {es : Array (Int × Value)} {ep : Nat} {t : SetTable} {Q : Value → Shared → Prop} (T : TxS P w s.heap S es ep t)
    (h : ∀ (I : Addr) (h' : Heap) (d : PySem.Drawn), (∀ b o, s.heap.get? b = some o → h'.get? b = some o) → s.heap.objs.size ≤ I → I < h'.objs.size → SitOk P w s.heap.objs.size h' I S es → Q (.ref I) { s with heap := h', drawn := d }) :
    wpAny (model P w) A (pyIter (.ref S)) Q E s := by
  have hT : s.TypeIs (.ref S) "set" := ⟨_, T.obj, rfl⟩
  have lt : S < s.heap.objs.size := Heap.lt_size T.obj
  refine wpAny_pyIter_slot hT PySem.F.slot_set_iter (wpAny_call_entry PySem.F.slot_set_iter hT sit_made ?_ (PySem.F.args_set_iter_1 _))
  unfold Builtin.«frozenset.__iter__»
  refine wpAny_bind (m := Builtin.Frozenset.slot0 _ _) (wpAny_bind (wpAny_pure (wpAny_pure ?_)))
  unfold Builtin.Frozenset.sizeOf
  refine wpAny_bind (wpAny_bind (wpAny_setEntries_of T.obj rfl T.fit (wpAny_pure ?_)))
  refine wpAny_bind ?_
  unfold setDrawn
  refine wpAny_bind (wpAny_setState_of T.obj rfl T.fit ?_)
  dsimp only
  refine wpAny_bind (wp_byText (wpAny_pure ?_))
  refine wpAny_ite_split (fun c => ?_) fun c => ?_
  · have c1 : (!w.params.followText "set-order" && (!t.plain && decide (es.size > 1))) = true := c
    refine wpAny_bind (draw_perm es.size _ _ _ (List.length_range) fun ps d hp => ?_)
    have hz : ps.length ≤ sizeLine := by rw [hp.length_eq, List.length_range]; exact fits_of_scanBound T.few
    refine wpAny_bind (wpAny_newTuple (items := ps.map fun (p : Nat) => rawInt p) ?_ (by rw [List.length_map]; exact hz))
    have T1 := txs_at (P := P) (w := w) T (h' := s.heap.push { cls := .type "tuple", data := .seq (ps.map fun (p : Nat) => rawInt p).toArray }) fun o e => Heap.get?_push_of_some _ e
    refine wpAny_bind ?_
    unfold setEpoch
    refine wpAny_bind (wpAny_setState_of T1.obj rfl T1.fit (wpAny_pure ?_))
    refine wpAny_bind (wpAny_newObj_type ?_)
    refine wpAny_pure ⟨_, rfl, "set_iterator", _, ⟨_, Heap.get?_push_size _ rfl, rfl⟩, sit_next.lookup, ?_⟩
    refine h _ _ d (fun b o e => Heap.get?_push_of_some _ (Heap.get?_push_of_some _ e)) (by rw [Heap.size_push]; exact Nat.le_succ _) (Heap.lt_size (Heap.get?_push_size _ rfl)) ?_
    have n1 : S ≠ (s.heap.push { cls := .type "tuple", data := .seq (ps.map fun (p : Nat) => rawInt p).toArray }).objs.size := by rw [Heap.size_push]; exact Nat.ne_of_lt (Nat.lt_succ_of_lt lt)
    have n2 : s.heap.objs.size ≠ (s.heap.push { cls := .type "tuple", data := .seq (ps.map fun (p : Nat) => rawInt p).toArray }).objs.size := by rw [Heap.size_push]; exact Nat.ne_of_lt (Nat.lt_succ_self _)
    refine ⟨_, _, _, fun A hh => sit_drawn hh hp n1 n2 (ep := ep) (t := t), ⟨txs_at T1 fun o e => Heap.get?_push_of_some _ e, Heap.get?_push_size _ rfl, Heap.get?_push_of_some _ (Heap.get?_push_size _ rfl)⟩, fun b hb => ?_, fun vals hl hv => ?_⟩
    · rcases List.mem_cons.mp hb with e | hb
      · rw [e, Heap.size_push]; exact .inr (Nat.le_succ _)
      · rcases List.mem_cons.mp hb with e | hb
        · exact .inl e
        · rw [List.mem_singleton.mp hb]; exact .inr (Nat.le_refl _)
    · have e : vals = ps.map (fun p => (es.getD p (0, .none)).2) := by
        refine eq_of_at (by rw [hl, List.length_map, hp.length_eq, List.length_range]) fun i v hiv => ?_
        obtain ⟨p, e, h1, h2, rfl⟩ := hv i v hiv
        rw [List.getElem?_map, h1]
        have hp2 : p < es.size := by
          have := Array.getElem?_eq_some_iff.mp h2
          exact this.1
        rw [Array.getElem?_eq_getElem hp2] at h2
        injection h2 with h2
        subst h2
        simp [Array.getD, hp2]
      rw [e, ← range_all es]
      exact hp.map _
  · have c1 : ¬ (!w.params.followText "set-order" && (!t.plain && decide (es.size > 1))) = true := c
    refine wpAny_bind (wpAny_pure ?_)
    refine wpAny_bind ?_
    unfold setEpoch
    refine wpAny_bind (wpAny_setState_of T.obj rfl T.fit (wpAny_pure ?_))
    refine wpAny_bind (wpAny_newObj_type ?_)
    refine wpAny_pure ⟨_, rfl, "set_iterator", _, ⟨_, Heap.get?_push_size _ rfl, rfl⟩, sit_next.lookup, ?_⟩
    refine h _ _ s.drawn (fun b o e => Heap.get?_push_of_some _ e) (Nat.le_refl _) (by rw [Heap.size_push]; exact Nat.lt_succ_self _) ?_
    have n1 : S ≠ s.heap.objs.size := Nat.ne_of_lt lt
    have T1 := fun (o' : Obj) => txs_at (P := P) (w := w) T (h' := s.heap.push o') fun o e => Heap.get?_push_of_some _ e
    have fpok : ∀ b ∈ [s.heap.objs.size, S], b = S ∨ s.heap.objs.size ≤ b := fun b hb => by
      rcases List.mem_cons.mp hb with e | hb
      · rw [e]; exact .inr (Nat.le_refl _)
      · exact .inl (List.mem_singleton.mp hb)
    cases ft : w.params.followText "set-order" with
    | true =>
      refine ⟨_, _, _, fun A hh => sit_text hh ft n1 (es := es) (ep := ep) (t := t), ⟨T1 _, Heap.get?_push_size _ rfl⟩, fpok, fun vals hl hv => ?_⟩
      have pa := pick_all (w.params.setOrder S ep) es
      have e : vals = (pickOrder (w.params.setOrder S ep) es).toList.map (·.2) := eq_of_at (by rw [hl, List.length_map, pa.length_eq, Array.length_toList]) hv
      rw [e]
      exact pa.map _
    | false =>
      have few : es.size ≤ 1 := by
        rw [ft] at c1
        rcases Nat.lt_or_ge 1 es.size with z | z
        · rw [T.pl (by omega), decide_eq_true z] at c1
          exact absurd rfl c1
        · exact z
      refine ⟨_, _, _, fun A hh => sit_few hh ft n1 few (es := es) (ep := ep) (t := t), ⟨T1 _, Heap.get?_push_size _ rfl⟩, fpok, fun vals hl hv => ?_⟩
      have e : vals = es.toList.map (·.2) := eq_of_at (by rw [hl, List.length_map, Array.length_toList]) hv
      rw [e]
theorem set_hint {S : Addr} {Q : Bool → Shared → Prop} (hT : s.TypeIs (.ref S) "set") (h : Q false s) : wpAny (model P w) A (Builtin.List.listLengthHint (.ref S)) Q E s := by
  unfold Builtin.List.listLengthHint
  refine wpAny_bind (wpAny_specialOf hT PySem.F.slot_set_len.lookup ?_)
  generalize hid : ("set.__len__" : String) = id0
  wp_delta
  rw [show splitId id0 = some ("set", "__len__") from by subst hid; decide +kernel]
  subst hid
  refine wpAny_bind (wpAny_isInstance (T := "set") (b := true) hT sub_set_self ?_)
  refine wpAny_ite_split (fun z => absurd z (by decide)) fun _ => ?_
  refine wpAny_ite_split (fun _ => ?_) fun z => absurd (by decide +kernel) z
  exact wpAny_bind (wpAny_typeOf hT (wpAny_pure h))
/-- the members of a set, in some order -/
theorem txs_collect {S : Addr} {es : Array (Int × Value)} {ep : Nat} {t : SetTable} {R : List Value → Shared → Prop} (hh : A.handled = none) (T : TxS P w s.heap S es ep t)
    (h : ∀ (h' : Heap) (tk : Nat) (d : PySem.Drawn) (vs : List Value), (∀ b o, s.heap.get? b = some o → h'.get? b = some o) → s.heap.objs.size ≤ h'.objs.size → vs.Perm (es.toList.map (·.2)) → R vs { s with heap := h', toks := tk, drawn := d }) :
    wpAny (model P w) A (collect (.ref S)) R E s := by
  have lt : S < s.heap.objs.size := Heap.lt_size T.obj
  unfold collect
  refine wpAny_bind (wpAny_runValue (codeAny_builtin entry_proto_collect' ?_))
  rw [Around.under_plainId PySem.F.plain_proto_collect _]
  show wpAny _ A.in1 (newList [] >>= fun l => again (.builtin "list.__iadd__" ⟨[l, .ref S], []⟩)) _ _ s
  refine wpAny_bind (wpAny_newObj_type ?_)
  refine wpAny_pure ⟨plainId_quiet PySem.F.plain_list_iadd _, codeAny_builtin entry_list_iadd' ?_⟩
  rw [Around.under_plainId PySem.F.plain_list_iadd _]
  generalize hL : s.heap.objs.size = L
  generalize hh0 : s.heap.push { cls := .type "list", data := .seq ([] : List Value).toArray } = h0
  have L0 : h0.get? L = some { cls := .type "list", data := .seq #[] } := by rw [← hh0, ← hL]; exact Heap.get?_push_size _ rfl
  have k0 : ∀ b o, s.heap.get? b = some o → h0.get? b = some o := fun b o e => by rw [← hh0]; exact Heap.get?_push_of_some _ e
  have T0 := txs_at (P := P) (w := w) T fun o e => k0 S o e
  have neS : L ≠ S := by rw [← hL]; exact Nat.ne_of_gt lt
  have sz0 : h0.objs.size = L + 1 := by rw [← hh0, Heap.size_push, hL]
  show wpAny _ A.in1 (Builtin.List.listExtendWith (.ref L) (.ref S) (.ref L)) _ _ { s with heap := h0 }
  unfold Builtin.List.listExtendWith
  have hT : Shared.TypeIs { s with heap := h0 } (.ref S) "set" := ⟨_, T0.obj, rfl⟩
  refine wpAny_bind (wpAny_typeOf hT ?_)
  have h1 : Builtin.List.listSameRef (.ref L) (.ref S) = false := by simp [Builtin.List.listSameRef, neS]
  rw [if_neg (by rw [h1]; decide)]
  refine wpAny_bind (txs_iter (s := { s with heap := h0 }) T0 fun I h2 d k2 hI1 hI2 ok => ?_)
  obtain ⟨fp, Pv, St, W, st, hfp, perm⟩ := ok
  have hT2 : Shared.TypeIs { s with heap := h2, drawn := d } (.ref S) "set" := ⟨_, k2 _ _ T0.obj, rfl⟩
  refine wpAny_bind (wpAny_holding (set_hint hT2 ?_))
  refine wpAny_ite_split (fun _ => ?_) fun z => absurd (by decide +kernel) z
  refine wpAny_bind (wpAny_rule ?_)
  refine wpAny_bind ?_
  have L2 := k2 _ _ L0
  show wpAny _ _ (updateSeq L (·.push .none) >>= fun _ => updateSeq L (·.pop)) _ _ _
  refine wpAny_bind (wpAny_updateSeq L2 rfl ?_)
  have L3 := Heap.get?_update_self (Obj.mapSeq (·.push Value.none)) L2 rfl
  refine wpAny_updateSeq (hz := by seq_fits) L3 rfl ?_
  have L4 := Heap.get?_update_self (Obj.mapSeq (·.pop)) L3 rfl
  have oth : ∀ b o, b ≠ L → h2.get? b = some o → ((h2.update L (Obj.mapSeq (·.push Value.none))).update L (Obj.mapSeq (·.pop))).get? b = some o :=
    fun b o nb e => (Heap.get?_update_other _ _ (Ne.symm nb)).trans ((Heap.get?_update_other _ _ (Ne.symm nb)).trans e)
  have nf : L ∉ fp := fun z => by
    rcases hfp L z with e | e
    · exact neS e
    · have e' : h0.objs.size ≤ L := e
      rw [sz0] at e'
      exact absurd e' (Nat.not_succ_le_self _)
  have hh2 : A.in1.handled = none := hh
  refine wpAny_pure ⟨plainId_quiet PySem.F.plain_extend_loop _, ?_⟩
  refine codeAny_extend_loopS (W A.in1 hh2).toS (fits_of_scanBound T.few) L nf _ es.size 0 _ #[] _ rfl (Nat.zero_le _) ((W A.in1 hh2).frame 0 _ _ st fun b hb o e => oth b o (fun z => nf (z ▸ hb)) e) L4 (ItemsOf.nil _) fun s' acc c mv L5 hacc => ?_
  rw [Moved.eq_with mv]
  show wpAny _ A (load L >>= _) _ _ _
  refine wpAny_bind (wpAny_load L5 ?_)
  refine wpAny_pure (h s'.heap s'.toks d acc.toList (fun b o e => ?_) (by rw [hL]; exact Nat.le_of_lt (Heap.lt_size L5)) (perm _ (by rw [Array.length_toList]; exact hacc.1) fun i v e => hacc.2 i v (by rw [← Array.getElem?_toList]; exact e)))
  have hb : b < L := by rw [← hL]; exact Heap.lt_size e
  refine mv.heap b o (fun z => ?_) (oth b o (Nat.ne_of_lt hb) (k2 _ _ (k0 _ _ e)))
  rcases List.mem_cons.mp z with z | z
  · exact absurd z (Nat.ne_of_lt hb)
  · have hI3 : L + 1 ≤ I := by rw [← sz0]; exact hI1
    exact absurd (List.mem_singleton.mp z) (Nat.ne_of_lt (Nat.lt_of_lt_of_le (Nat.lt_succ_of_lt hb) hI3))
end
end EB
namespace EB
open PySem PySem.Spec PyProof.Rows L2

section
variable {P : Program} {w : World} {A : Around} {E : Value → Shared → Prop} {s : Shared}
/-- sorted(v), where what v gives are texts -/
theorem sorted_from {v : Value} {Q : Value → Shared → Prop}
    (hc : wpAny (model P w) A.in1 (collect v) (fun vs s1 => ∃ (xs : List Str) (h1 : Heap) (tk : Nat) (d : PySem.Drawn), s1 = { s with heap := h1, toks := tk, drawn := d } ∧ StrsAre vs xs ∧ vs.length ≤ sizeLine ∧ (∀ b o, s.heap.get? b = some o → h1.get? b = some o) ∧ s.heap.objs.size ≤ h1.objs.size ∧
      ∀ (ys : List Str) (D : Addr) (h2 : Heap) (out : Array Value) (e : Nat), StrsAre out.toList ys → ys.Perm xs → sortedS ys = true → (∀ b o, s.heap.get? b = some o → h2.get? b = some o) → s.heap.objs.size ≤ D → h2.get? D = some (seqObj "list" out e) → Q (.ref D) { s with heap := h2, toks := tk, drawn := d }) E s) :
    wpAny (model P w) A (call (.builtin "sorted") [v]) Q E s := by
  refine Calls.call_function_entry kind_sorted plain_sorted entry_sorted (args_sorted1 _) ?_
  unfold Builtin.«sorted»
  refine wpAny_bind (m := checkCount "sorted" 1 1 _) (wpAny_pure ?_)
  refine wpAny_bind (wpAny_mono hc (fun vs s1 => ?_) fun _ _ z => z)
  rintro ⟨xs, h1, tk, d, rfl, hS, hz, k1, le, q⟩
  refine wpAny_bind (wpAny_newList ?_ hz)
  have hl : (h1.push (seqObj "list" vs.toArray 0)).get? h1.objs.size = some (seqObj "list" vs.toArray 0) := Heap.get?_push_size _ rfl
  refine wpAny_bind (wpAny_holding (wpAny_call_entry slot_list_sort ⟨_, hl, rfl⟩ entry_list_sort (list_sort_treeKAny (s := { s with heap := h1.push (seqObj "list" vs.toArray 0), toks := tk, drawn := d }) strKind_oneLt hl hS.keysOf (fun v₁ v₂ rest e => keyKind_strs (by rw [← e]; exact hS)) hz fun st' hp hs => ⟨_, rfl, ?_⟩) (args_list_sort _)))
  obtain ⟨ys, y1, y2, y3⟩ := sorted_out_str hS hp hs
  obtain ⟨e, he⟩ := sortedHeap_at (vs := vs) (out := (arrOf st').map (·.2)) hl
  refine wpAny_pure ⟨_, rfl, q ys _ _ _ e y1 y2 y3 (fun b o hb => ?_) le he⟩
  have lt := Heap.lt_size (k1 b o hb)
  rw [sortedHeap_old (Nat.ne_of_lt lt) (by rw [Heap.size_push]; exact Nat.lt_succ_of_lt lt)]
  exact Heap.get?_push_of_some _ (k1 b o hb)
end
theorem Inv_drawn {X : Cx} {pins : List (Addr × Obj)} {σ : L2.St} {H : Hp} {s : Shared} {d : PySem.Drawn} (I : Inv X pins σ H s) : Inv X pins σ H { s with drawn := d } :=
  ⟨I.ok, I.os, I.bare, I.base, I.loc, I.cell, I.free, I.freeC, I.pin, I.hok, I.len⟩
theorem strs_map : ∀ (vs : List Value), (∀ v ∈ vs, ∃ x t, v = .str x t) → StrsAre vs (vs.map txtV)
  | [], _ => .nil
  | v :: vs, h => by
    obtain ⟨x, t, rfl⟩ := h v List.mem_cons_self
    exact .cons x t (strs_map vs fun u m => h u (List.mem_cons_of_mem _ m))
section
variable {X : Cx} {e : Expr} {te : TE} {p p2 pos pos2 : Pos}
/-- sorted(set(xs)), texts -/
def tSortSet (K : PySem.W.Frag) (te : TE) : TE := fun σ H Q => te σ H fun x H1 => ∃ (a : Addr) (xs : List Str), x = .ref a ∧ SqL K H1 a (xs.map V.str) ∧ xs.length ≤ 4000 ∧
  ∀ (ys : List Str) (l : Addr), sortedS ys = true → ys.Nodup → (∀ y, y ∈ ys ↔ y ∈ xs) → H1 l = none → Q (.ref l) (upd H1 l (.lst (ys.map V.str)))
theorem pe_sortset (hc : X.calm = true) (hg : Gl X "sorted") (hm : X.mg "sorted" = none) (hg2 : Gl X "set") (hm2 : X.mg "set" = none) (he : PE X e te)
    (hs : starEach [e] X.env = [(false, eval e X.env)] := by rfl) : PE X (.Call (.Name "sorted" p) [.Call (.Name "set" p2) [e] [] pos2] [] pos) (tSortSet X.K te) := by
  intro pins s σ H Q I h
  refine wpAny_Call_Name_kw (ld_blt I hg hm (by decide +kernel : bootBuiltins "sorted" = some (.builtin "sorted")) (PyProof.Rows.callWith_builtin1 ?_ rfl rfl))
  refine Calls.spliced_cons (wpAny_Call_Name_kw (ld_blt I hg2 hm2 (by decide +kernel : bootBuiltins "set" = some (.type "set")) (PyProof.Rows.callWith_type1 (T := "set") ?_ hs rfl)))
  rw [hs]
  show wpAny _ _ (spliced ((false, eval e X.env) :: [])) _ _ s
  refine Calls.spliced_cons (thn (he pins s σ H _ I h) fun u s1 ⟨x, H1, I1, r1, a, xs, ex, hq, hx, q⟩ => Calls.spliced_nil ?_)
  subst ex
  cases r1
  obtain ⟨its, rv, pl, hz⟩ := I1.list hq
  have hlen := rv.length
  rw [List.length_map] at hlen
  have hh := I1.ok.hd hc
  refine txs_of (P := X.prog) (w := X.w) hh pl.isList (by simpa using rv.strs) (by rw [List.size_toArray]; unfold scanBound; omega) fun h2 tk es ep t T hes mem k2 => Calls.spliced_nil ?_
  refine sorted_from (txs_collect (s := { s1 with heap := h2, toks := tk }) hh T fun h3 tk3 d3 vs k3 le3 perm => ?_)
  have hv : ∀ v ∈ vs, ∃ x t, v = .str x t := fun v m => by
    obtain ⟨e, he, rfl⟩ := List.mem_map.mp (perm.mem_iff.mp m)
    obtain ⟨⟨k, hk, _⟩, _⟩ := T.els e he
    obtain ⟨t, et⟩ := Value.isStrOf_shape hk
    exact ⟨k, t, et⟩
  have pt : (vs.map txtV).Perm (txts es) := by
    have := perm.map txtV
    rw [List.map_map] at this
    exact this
  have szv : vs.length ≤ sizeLine := by rw [perm.length_eq, List.length_map, Array.length_toList]; exact fits_of_scanBound T.few
  refine ⟨vs.map txtV, h3, tk3, d3, rfl, strs_map vs hv, szv, k3, le3, fun ys D h4 out e4 y1 y2 y3 k4 le4 h4D => ?_⟩
  have kk : ∀ b o, s1.heap.get? b = some o → h4.get? b = some o := fun b o e => k4 b o (k2 b o e)
  have I2 : Inv X pins σ H1 { s1 with drawn := d3 } := Inv_drawn I1
  have leD : s1.heap.objs.size ≤ D := Nat.le_trans (Nat.le_of_lt (Heap.lt_size T.obj)) le4
  have ylen : (ys.map V.str).length ≤ sizeLine := by rw [List.length_map, y2.length_eq, List.length_map]; exact szv
  refine ⟨.ref D, upd H1 D (.lst (ys.map V.str)), I2.laid (t' := tk3) kk leD ⟨ylen, out.toList, e4, vals_of_strs y1, h4D⟩, rfl, q ys D y3 ?_ (fun y => ?_) (I1.hok.fresh leD)⟩
  · exact (y2.trans pt).nodup_iff.mpr T.nd
  · rw [(y2.trans pt).mem_iff]; exact mem y
end
section
variable {P : Program} {w : World} {A : Around} {E : Value → Shared → Prop} {s : Shared} {K : Type} [DecidableEq K] {knd : PySem.KeyKind P w K}
/-- the keys of a dict, in their order -/
theorem dict_collect {a : Addr} {kvs : List (K × Value)} {ep : Nat} {R : List Value → Shared → Prop} (hh : A.handled = none) (lo : (a == sysModules) = false) (hD : s.heap.DictAt knd a kvs ep) (hn : kvs.length ≤ sizeLine)
    (h : ∀ (h' : Heap) (tk : Nat) (vs : List Value), (∀ b o, s.heap.get? b = some o → h'.get? b = some o) → s.heap.objs.size ≤ h'.objs.size → vs.length = kvs.length → (∀ (i : Nat) (v : Value), vs[i]? = some v → ∃ k x, kvs[i]? = some (k, x) ∧ knd.is k v = true) → R vs { s with heap := h', toks := tk }) :
    wpAny (model P w) A (collect (.ref a)) R E s := by
  have KS := PySem.W.kdl_dict (prog := P) (w := w) (knd := knd) (d := a) (kvs := kvs) (ep := ep) lo
  have lt := hD.lt_size
  unfold collect
  refine wpAny_bind (wpAny_runValue (codeAny_builtin entry_proto_collect' ?_))
  rw [Around.under_plainId PySem.F.plain_proto_collect _]
  show wpAny _ A.in1 (newList [] >>= fun l => again (.builtin "list.__iadd__" ⟨[l, .ref a], []⟩)) _ _ s
  refine wpAny_bind (wpAny_newObj_type ?_)
  refine wpAny_pure ⟨plainId_quiet PySem.F.plain_list_iadd _, codeAny_builtin entry_list_iadd' ?_⟩
  rw [Around.under_plainId PySem.F.plain_list_iadd _]
  have hL : (s.heap.push { cls := .type "list", data := .seq ([] : List Value).toArray }).get? s.heap.objs.size = some { cls := .type "list", data := .seq #[] } := Heap.get?_push_size _ rfl
  show wpAny _ A.in1 (Builtin.List.listExtendWith (.ref s.heap.objs.size) (.ref a) (.ref s.heap.objs.size)) _ _ _
  have key := PySem.W.kdl_extend (A := A) (s := { s with heap := s.heap.push { cls := .type "list", data := .seq ([] : List Value).toArray } })
    (R := fun (q : Result) (s' : Shared) => ∃ (h' : Heap) (tk : Nat) (acc : Array Value) (c : Nat), q = .ok (.ret (.ref s.heap.objs.size)) ∧ s' = { s with heap := h', toks := tk } ∧ (∀ b o, s.heap.get? b = some o → h'.get? b = some o) ∧
      h'.get? s.heap.objs.size = some { cls := .type "list", dict := none, data := .seq acc c, slots := #[] } ∧ ItemsOf (fun i v => ∃ k x, kvs[i]? = some (k, x) ∧ knd.is k v = true) acc kvs.length)
    KS hh (hD.push _) s.heap.objs.size (Nat.ne_of_gt lt) (Nat.ne_of_gt lt) (.ref s.heap.objs.size) 0 hL
    (fun h' tk acc c k hS hacc => ⟨h', tk, acc, c, rfl, rfl, fun b o e => k b o (Nat.ne_of_lt (Heap.lt_size e)) (Heap.get?_push_of_some _ e), hS, hacc⟩) hn
  have fin : ∀ (h' : Heap) (tk : Nat) (acc : Array Value) (c : Nat), (∀ b o, s.heap.get? b = some o → h'.get? b = some o) → h'.get? s.heap.objs.size = some { cls := .type "list", dict := none, data := .seq acc c, slots := #[] } →
      ItemsOf (fun i v => ∃ k x, kvs[i]? = some (k, x) ∧ knd.is k v = true) acc kvs.length → R acc.toList { s with heap := h', toks := tk } := fun h' tk acc c k hS hacc =>
    h h' tk acc.toList k (Nat.le_of_lt (Heap.lt_size hS)) (by rw [Array.length_toList]; exact hacc.1) fun i v e => hacc.2 i v (by rw [← Array.getElem?_toList]; exact e)
  refine wpAny_mono key (fun fn s' x => ?_) fun e s' x => ?_
  · cases fn with
    | done f =>
      obtain ⟨h', tk, acc, c, e, rfl, k, hS, hacc⟩ := x
      cases e
      show wpAny _ A (load s.heap.objs.size >>= _) _ _ _
      exact wpAny_bind (wpAny_load hS (wpAny_pure (fin h' tk acc c k hS hacc)))
    | again c₁ =>
      refine ⟨x.1, codeAny_mono x.2 fun q s₂ y => ?_⟩
      obtain ⟨h', tk, acc, c, rfl, rfl, k, hS, hacc⟩ := y
      show wpAny _ A (load s.heap.objs.size >>= _) _ _ _
      exact wpAny_bind (wpAny_load hS (wpAny_pure (fin h' tk acc c k hS hacc)))
  · obtain ⟨_, _, _, _, z, _⟩ := x
    cases z
end
section
variable {X : Cx}
abbrev tK (kvs : List (Str × V)) : List (Key × V) := kvs.map fun p => (.inr p.1, p.2)
/-- sorted(d), a dict whose keys are texts -/
def rSortD : List V → Hp → VK → Prop := fun vs H Q => ∃ (a : Addr) (kvs : List (Str × V)), vs = [.ref a] ∧ H a = some (.dK (tK kvs)) ∧
  ∀ (ys : List Str) (l : Addr), ys.Perm (kvs.map (·.1)) → sortedS ys = true → H l = none → Q (.ref l) (upd H l (.lst (ys.map V.str)))
theorem kv_keys : ∀ {kvs : List (Str × V)} {xs : List (Key × Value)}, KV (tK kvs) xs → xs.map (·.1) = kvs.map fun p => (.inr p.1 : Key)
  | [], _, h => by cases h; rfl
  | p :: kvs, _, h => by
    cases h with
    | cons a b => rw [List.map_cons, List.map_cons, ← a.1, kv_keys b]
theorem cr_sortD (hc : X.calm = true) : CallR X (.builtin "sorted") rSortD := by
  intro pins s σ H vs us Q I r h
  obtain ⟨a, kvs, rfl, ha, q⟩ := h
  rw [Vals.ref1 r]
  obtain ⟨hz, lo, xs, hkv, hD⟩ := dk_of I.hok ha
  obtain ⟨ep, hat⟩ := hD.dictAt
  have hh := I.ok.hd hc
  have ek := kv_keys hkv
  have hlen : xs.length = kvs.length := by have := congrArg List.length ek; rw [List.length_map, List.length_map] at this; exact this
  have hz' : xs.length ≤ sizeLine := by rw [hlen]; rw [List.length_map] at hz; exact hz
  refine sorted_from (dict_collect (A := X.A.in1) hh lo hat hz' fun h1 tk ws k1 le1 hl hw => ?_)
  have hv : ∀ (i : Nat) (v : Value), ws[i]? = some v → ∃ t, v = .str ((kvs.map (·.1)).getD i ⟨#[]⟩) t := fun i v e => by
    obtain ⟨k, x, e1, e2⟩ := hw i v e
    have e3 : (xs.map (·.1))[i]? = some k := by rw [List.getElem?_map, e1]; rfl
    rw [ek, List.getElem?_map] at e3
    cases e4 : kvs[i]? with
    | none => rw [e4] at e3; cases e3
    | some p =>
      rw [e4] at e3
      have e5 : (Sum.inr p.1 : Key) = k := by injection e3
      subst e5
      rcases keyIs_shape (show keyIs (.inr p.1) v = true from e2) with ⟨j, t, z, _⟩ | ⟨y, t, z, ev⟩
      · cases z
      · injection z with z
        refine ⟨t, ?_⟩
        rw [ev, List.getD_eq_getElem?_getD, List.getElem?_map, e4, ← z]
        rfl
  have sAre : StrsAre ws (kvs.map (·.1)) := by
    have : ∀ (ws : List Value) (ks : List Str), ws.length = ks.length → (∀ (i : Nat) (v : Value), ws[i]? = some v → ∃ t, v = .str (ks.getD i ⟨#[]⟩) t) → StrsAre ws ks := by
      intro ws
      induction ws with
      | nil => intro ks hl _; cases ks with | nil => exact .nil | cons _ _ => cases hl
      | cons v ws ih =>
        intro ks hl hv
        cases ks with
        | nil => cases hl
        | cons k ks =>
          obtain ⟨t, e⟩ := hv 0 v rfl
          rw [e]
          exact .cons k t (ih ks (by simpa using hl) fun i u e => hv (i + 1) u (by simpa using e))
    exact this ws _ (by rw [hl, hlen, List.length_map]) hv
  refine ⟨kvs.map (·.1), h1, tk, s.drawn, rfl, sAre, by rw [hl]; exact hz', k1, le1, fun ys D h4 out e4 y1 y2 y3 k4 le4 h4D => ?_⟩
  have ylen : (ys.map V.str).length ≤ sizeLine := by rw [List.length_map, y2.length_eq, List.length_map, ← hlen]; exact hz'
  exact ⟨.ref D, upd H D (.lst (ys.map V.str)), I.laid (t' := tk) k4 le4 ⟨ylen, out.toList, e4, vals_of_strs y1, h4D⟩, rfl, q ys D y2 y3 (I.hok.fresh le4)⟩
end
end EB
namespace EB
open PySem PySem.Spec PyProof.Rows L2

theorem lt_tri : ∀ (a b : List Nat), ltCps a b = false → ltCps b a = false → a = b
  | [], [], _, _ => rfl
  | [], _ :: _, h, _ => by cases h
  | _ :: _, [], _, h => by cases h
  | x :: r, y :: t, h, g => by
    have h' : (decide (x < y) || (x == y && ltCps r t)) = false := h
    have g' : (decide (y < x) || (y == x && ltCps t r)) = false := g
    simp only [Bool.or_eq_false_iff, decide_eq_false_iff_not] at h' g'
    have e : x = y := by omega
    subst e
    have h2 := h'.2
    have g2 := g'.2
    simp only [beq_self_eq_true, Bool.true_and] at h2 g2
    rw [lt_tri r t h2 g2]
theorem lt_step : ∀ (a b c : List Nat), ltCps b a = false → ltCps c b = false → ltCps c a = false
  | _, _, [], h, g => by
    rename_i a b
    cases b with
    | nil => exact h
    | cons y t => cases g
  | [], _, _ :: _, _, _ => rfl
  | x :: r, [], z :: u, h, _ => by cases h
  | x :: r, y :: t, z :: u, h, g => by
    have h' : (decide (y < x) || (y == x && ltCps t r)) = false := h
    have g' : (decide (z < y) || (z == y && ltCps u t)) = false := g
    show (decide (z < x) || (z == x && ltCps u r)) = false
    simp only [Bool.or_eq_false_iff, decide_eq_false_iff_not, Bool.and_eq_false_iff, beq_eq_false_iff_ne] at h' g' ⊢
    refine ⟨by omega, ?_⟩
    by_cases e : z = x
    · right
      have e1 : y = x := by omega
      have e2 : z = y := by omega
      exact lt_step r t u (h'.2.resolve_left fun q => q e1) (g'.2.resolve_left fun q => q e2)
    · exact .inl e
def leS (a b : Str) : Prop := ltCps b.cps.toList a.cps.toList = false
theorem rising_le : ∀ (r : List Str) (p : Str), risingS p r = true → ∀ y ∈ r, leS p y
  | [], _, _, _, m => by simp at m
  | x :: r, p, h, y, m => by
    have h' : (!ltCps x.cps.toList p.cps.toList && risingS x r) = true := h
    rw [Bool.and_eq_true, Bool.not_eq_true'] at h'
    rcases List.mem_cons.mp m with e | m
    · subst e; exact h'.1
    · exact lt_step _ _ _ h'.1 (rising_le r x h'.2 y m)
theorem sorted_pw : ∀ (l : List Str), sortedS l = true → l.Pairwise leS
  | [], _ => .nil
  | [x], _ => by simp
  | x :: y :: r, h => by
    have h' : (!ltCps y.cps.toList x.cps.toList && risingS y r) = true := h
    rw [Bool.and_eq_true, Bool.not_eq_true'] at h'
    exact .cons (rising_le (y :: r) x h) (sorted_pw (y :: r) h'.2)
theorem sorted_one {l m : List Str} (hl : sortedS l = true) (hm : sortedS m = true) (p : l.Perm m) : l = m := by
  refine List.Perm.eq_of_pairwise (le := leS) (fun a b _ _ h g => ?_) (sorted_pw l hl) (sorted_pw m hm) p
  have e := lt_tri _ _ g h
  cases a; cases b
  congr 1
  exact Array.toList_inj.mp e
theorem sorted_mem {l m : List Str} (hl : sortedS l = true) (hm : sortedS m = true) (nl : l.Nodup) (nm : m.Nodup) (h : ∀ x, x ∈ l ↔ x ∈ m) : l = m :=
  sorted_one hl hm ((List.perm_ext_iff_of_nodup nl nm).mpr h)
mutual
def Wd.lets : Wd → List Nat
  | .letter c => [c]
  | .node _ ws => letsL ws
def letsL : List Wd → List Nat
  | [] => []
  | w :: ws => w.lets ++ letsL ws
end
mutual
def Wd.parts : Wd → List Wd
  | .letter c => [.letter c]
  | .node u ws => partsL ws ++ [.node u ws]
def partsL : List Wd → List Wd
  | [] => []
  | w :: ws => w.parts ++ partsL ws
end
theorem letsL_append (a b : List Wd) : letsL (a ++ b) = letsL a ++ letsL b := by
  induction a with
  | nil => rfl
  | cons w r ih => show w.lets ++ letsL (r ++ b) = (w.lets ++ letsL r) ++ letsL b; rw [ih, List.append_assoc]
mutual
theorem lets_len : ∀ (w : Wd), w.lets.length = w.places
  | .letter c => rfl
  | .node u ws => lets_lenL ws
theorem lets_lenL : ∀ (ws : List Wd), (letsL ws).length = placesL ws
  | [] => rfl
  | w :: ws => by show (w.lets ++ letsL ws).length = w.places + placesL ws; rw [List.length_append, lets_len w, lets_lenL ws]
end
mutual
theorem lets_turn : ∀ (w : Wd), w.turn.lets = w.lets
  | .letter c => rfl
  | .node u ws => lets_turnL ws
theorem lets_turnL : ∀ (ws : List Wd), letsL (turnL ws) = letsL ws
  | [] => rfl
  | w :: ws => by show w.turn.lets ++ letsL (turnL ws) = w.lets ++ letsL ws; rw [lets_turn w, lets_turnL ws]
end
mutual
theorem lets_ok : ∀ (w : Wd), w.ok → ∀ c ∈ w.lets, 97 ≤ c ∧ c ≤ 122
  | .letter c, h, d, m => by rw [List.mem_singleton.mp m]; exact h
  | .node u ws, h, d, m => lets_okL ws h.2 d m
theorem lets_okL : ∀ (ws : List Wd), okL ws → ∀ c ∈ letsL ws, 97 ≤ c ∧ c ≤ 122
  | [], _, d, m => by simp [letsL] at m
  | w :: ws, h, d, m => by
    rcases List.mem_append.mp m with m | m
    · exact lets_ok w h.1 d m
    · exact lets_okL ws h.2 d m
end
mutual
theorem parts_turn : ∀ (w : Wd), w.turn.parts = w.parts.map Wd.turn
  | .letter c => rfl
  | .node u ws => by
    show partsL (turnL ws) ++ [Wd.node (!u) (turnL ws)] = (partsL ws ++ [Wd.node u ws]).map Wd.turn
    rw [List.map_append, parts_turnL ws]; rfl
theorem parts_turnL : ∀ (ws : List Wd), partsL (turnL ws) = (partsL ws).map Wd.turn
  | [] => rfl
  | w :: ws => by
    show w.turn.parts ++ partsL (turnL ws) = (w.parts ++ partsL ws).map Wd.turn
    rw [List.map_append, parts_turn w, parts_turnL ws]
end
theorem parts_self (w : Wd) : w ∈ w.parts := by
  cases w with
  | letter c => exact List.mem_singleton.mpr rfl
  | node u ws => exact List.mem_append_right _ (List.mem_singleton.mpr rfl)
mutual
theorem parts_ok : ∀ (w : Wd), w.ok → ∀ x ∈ w.parts, x.ok ∧ x.places ≤ w.places ∧ x.depth ≤ w.depth
  | .letter c, h, x, m => by rw [List.mem_singleton.mp m]; exact ⟨h, Nat.le_refl _, Nat.le_refl _⟩
  | .node u ws, h, x, m => by
    rcases List.mem_append.mp m with m | m
    · obtain ⟨a, b, c⟩ := parts_okL ws h.2 x m
      exact ⟨a, b, Nat.le_succ_of_le c⟩
    · rw [List.mem_singleton.mp m]; exact ⟨h, Nat.le_refl _, Nat.le_refl _⟩
theorem parts_okL : ∀ (ws : List Wd), okL ws → ∀ x ∈ partsL ws, x.ok ∧ x.places ≤ placesL ws ∧ x.depth ≤ depthL ws
  | [], _, x, m => by simp [partsL] at m
  | w :: ws, h, x, m => by
    show x.ok ∧ x.places ≤ w.places + placesL ws ∧ x.depth ≤ max w.depth (depthL ws)
    rcases List.mem_append.mp m with m | m
    · obtain ⟨a, b, c⟩ := parts_ok w h.1 x m
      exact ⟨a, by omega, by omega⟩
    · obtain ⟨a, b, c⟩ := parts_okL ws h.2 x m
      exact ⟨a, by omega, by omega⟩
end
mutual
theorem parts_len : ∀ (w : Wd), w.ok → w.parts.length + 1 ≤ 2 * w.places
  | .letter c, _ => by show 1 + 1 ≤ 2 * 1; omega
  | .node u ws, h => by
    show (partsL ws ++ [Wd.node u ws]).length + 1 ≤ 2 * placesL ws
    have q := parts_lenL ws h.2
    rw [List.length_append]
    have := h.1
    show (partsL ws).length + 1 + 1 ≤ _
    omega
theorem parts_lenL : ∀ (ws : List Wd), okL ws → (partsL ws).length + ws.length ≤ 2 * placesL ws
  | [], _ => Nat.le_refl _
  | w :: ws, h => by
    have a := parts_len w h.1
    have b := parts_lenL ws h.2
    show (w.parts ++ partsL ws).length + (ws.length + 1) ≤ 2 * (w.places + placesL ws)
    rw [List.length_append]
    omega
end
theorem nodup_map {α β : Type} {f : α → β} : ∀ {l : List α}, l.Nodup → (∀ a ∈ l, ∀ b ∈ l, f a = f b → a = b) → (l.map f).Nodup
  | [], _, _ => List.nodup_nil
  | a :: l, h, hf => by
    obtain ⟨h1, h2⟩ := List.nodup_cons.mp h
    refine List.nodup_cons.mpr ⟨fun m => ?_, nodup_map h2 fun x hx y hy => hf x (List.mem_cons_of_mem _ hx) y (List.mem_cons_of_mem _ hy)⟩
    obtain ⟨b, hb, e⟩ := List.mem_map.mp m
    exact h1 (hf b (List.mem_cons_of_mem _ hb) a List.mem_cons_self e ▸ hb)
end EB
namespace EB
open PySem PySem.Spec PyProof.Rows L2

theorem partsL_append (a b : List Wd) : partsL (a ++ b) = partsL a ++ partsL b := by
  induction a with
  | nil => rfl
  | cons w r ih => show w.parts ++ partsL (r ++ b) = (w.parts ++ partsL r) ++ partsL b; rw [ih, List.append_assoc]
theorem partsL_one (w : Wd) : partsL [w] = w.parts := List.append_nil _
theorem take_one {ws : List Wd} {i : Nat} {z : Wd} (h : ws[i]? = some z) : ws.take (i + 1) = ws.take i ++ [z] := by rw [List.take_add_one, h]; rfl
theorem places_take {ws : List Wd} {i : Nat} {z : Wd} (h : ws[i]? = some z) : placesL (ws.take i) + z.places ≤ placesL ws := by
  have e := List.take_append_drop (i + 1) ws
  rw [take_one h] at e
  have q : placesL ws = placesL (ws.take i) + z.places + placesL (ws.drop (i + 1)) := by
    conv => lhs; rw [← e]
    rw [placesL_append, placesL_append]
    rfl
  omega
def bkv (ws : List Wd) (vs : List V) : List (Str × V) := (ws.map Wd.text).zip vs
def Book (H : Hp) (q : Addr) (ws : List Wd) : Prop := ∃ vs, H q = some (.dK (tK (bkv ws vs))) ∧ WAts H ws vs ∧ (∀ x ∈ ws, x.ok) ∧ ws.Nodup
theorem Book.mono {H H' : Hp} {q : Addr} {ws : List Wd} (b : Book H q ws) (k : KT H H') (e : H' q = H q) : Book H' q ws := by
  obtain ⟨vs, h, hw, ho, nd⟩ := b
  exact ⟨vs, by rw [e]; exact h, WAts.mono k _ _ hw, ho, nd⟩
theorem Book.same {H H' : Hp} {q : Addr} {ws : List Wd} (b : Book H q ws) (s : Same H H') : Book H' q ws := by
  obtain ⟨vs, h, hw, ho, nd⟩ := b
  exact ⟨vs, s _ _ h, WAts.mono (KT.of s) _ _ hw, ho, nd⟩
theorem bkv_len {H : Hp} {ws : List Wd} {vs : List V} (h : WAts H ws vs) : (bkv ws vs).length = ws.length := by
  unfold bkv
  rw [List.length_zip, List.length_map, WAts.length ws vs h, Nat.min_self]
theorem bkv_keys {H : Hp} {ws : List Wd} {vs : List V} (h : WAts H ws vs) : (bkv ws vs).map (·.1) = ws.map Wd.text := by
  unfold bkv
  rw [List.map_fst_zip (by rw [List.length_map, WAts.length ws vs h]; exact Nat.le_refl _)]
theorem book_get {H : Hp} : ∀ {ws : List Wd} {vs : List V}, WAts H ws vs → (∀ x ∈ ws, x.ok) → ∀ x ∈ ws, ∃ v, valV (tK (bkv ws vs)) (.inr x.text) = some v ∧ WAt H x v
  | [], _, _, _, x, m => by simp at m
  | w :: ws, vs, h, ho, x, m => by
    obtain ⟨v, r, rfl, h1, h2⟩ := h
    by_cases e : w.text = x.text
    · have e2 := text_inj (ho w List.mem_cons_self) (ho x m) e
      subst e2
      exact ⟨v, valV_pos rfl, h1⟩
    · rcases List.mem_cons.mp m with z | m
      · exact absurd (by rw [z]) e
      · obtain ⟨u, g1, g2⟩ := book_get h2 (fun y my => ho y (List.mem_cons_of_mem _ my)) x m
        refine ⟨u, ?_, g2⟩
        show valV ((Sum.inr w.text, v) :: tK (bkv ws r)) (.inr x.text) = some u
        have ne : ¬ ((Sum.inr w.text : Key) = .inr x.text) := fun z => e (by injection z)
        unfold valV at g1 ⊢
        rw [List.find?_cons]
        dsimp only
        rw [decide_eq_false ne]
        exact g1
theorem any_key {H : Hp} : ∀ {ws : List Wd} {vs : List V} (t : Str), WAts H ws vs → ((tK (bkv ws vs)).any fun kv => decide (kv.1 = .inr t)) = (ws.map Wd.text).any fun x => decide (x = t)
  | [], vs, t, h => rfl
  | w :: ws, vs, t, h => by
    obtain ⟨v, r, rfl, h1, h2⟩ := h
    show (decide ((Sum.inr w.text : Key) = .inr t) || ((tK (bkv ws r)).any fun kv => decide (kv.1 = .inr t))) = (decide (w.text = t) || (ws.map Wd.text).any fun x => decide (x = t))
    rw [any_key t h2]
    congr 1
    by_cases e : w.text = t
    · rw [decide_eq_true e, decide_eq_true (by rw [e])]
    · rw [decide_eq_false e, decide_eq_false fun z => e (by injection z)]
theorem book_repl {H : Hp} {x : Wd} {u : V} (hx : x.ok) (hu : WAt H x u) : ∀ {ws : List Wd} {vs : List V}, WAts H ws vs → (∀ y ∈ ws, y.ok) →
    ∃ vs', (tK (bkv ws vs)).map (fun kv => if kv.1 = .inr x.text then (kv.1, u) else kv) = tK (bkv ws vs') ∧ WAts H ws vs'
  | [], vs, h, _ => ⟨vs, rfl, h⟩
  | w :: ws, vs, h, ho => by
    obtain ⟨v, r, rfl, h1, h2⟩ := h
    obtain ⟨r', e', h3⟩ := book_repl hx hu h2 fun y my => ho y (List.mem_cons_of_mem _ my)
    by_cases e : w.text = x.text
    · have e2 := text_inj (ho w List.mem_cons_self) hx e
      subst e2
      refine ⟨u :: r', ?_, u, r', rfl, hu, h3⟩
      show (if (Sum.inr w.text : Key) = .inr w.text then (Sum.inr w.text, u) else (Sum.inr w.text, v)) :: _ = (Sum.inr w.text, u) :: _
      rw [if_pos rfl]
      exact congrArg (List.cons _) e'
    · refine ⟨v :: r', ?_, v, r', rfl, h1, h3⟩
      show (if (Sum.inr w.text : Key) = .inr x.text then (Sum.inr w.text, u) else (Sum.inr w.text, v)) :: _ = (Sum.inr w.text, v) :: _
      rw [if_neg fun z => e (by injection z)]
      exact congrArg (List.cons _) e'
theorem bkv_snoc {H : Hp} {x : Wd} {u : V} : ∀ {ws : List Wd} {vs : List V}, WAts H ws vs → bkv (ws ++ [x]) (vs ++ [u]) = bkv ws vs ++ [(x.text, u)]
  | [], vs, h => by unfold WAts at h; subst h; rfl
  | w :: ws, vs, h => by
    obtain ⟨v, r, rfl, h1, h2⟩ := h
    show (w.text, v) :: bkv (ws ++ [x]) (r ++ [u]) = _
    rw [bkv_snoc h2]
    rfl
/-- what stands behind book[text] = word -/
theorem Book.put {H : Hp} {q : Addr} {ws : List Wd} {x : Wd} {u : V} (b : Book H q ws) (hx : x.ok) (hu : WAt H x u) (hz : ws.length < sizeLine) :
    ∃ H' ws', DPut H q (.str x.text) u H' ∧ Book H' q ws' ∧ (∀ c, c ≠ q → H' c = H c) ∧ ∀ y, y ∈ ws' ↔ y ∈ ws ∨ y = x := by
  obtain ⟨vs, h, hw, ho, nd⟩ := b
  have kt : ∀ o : HO, KT H (upd H q o) := fun o a xs e => by
    rw [upd_ne (ne_of e h (by intro z; cases z))]; exact e
  have dp : DPut H q (.str x.text) u (upd H q (.dK (putK (tK (bkv ws vs)) (.inr x.text) u))) := .inl ⟨_, .inr x.text, h, rfl, by rw [List.length_map, bkv_len hw]; exact hz, rfl⟩
  by_cases c : ((tK (bkv ws vs)).any fun kv => decide (kv.1 = .inr x.text)) = true
  · obtain ⟨vs', e, h3⟩ := book_repl hx hu hw ho
    have hm : x ∈ ws := by
      rw [any_key _ hw, List.any_eq_true] at c
      obtain ⟨y, my, ey⟩ := c
      obtain ⟨z, mz, rfl⟩ := List.mem_map.mp my
      exact text_inj (ho z mz) hx (of_decide_eq_true ey) ▸ mz
    refine ⟨_, ws, dp, ⟨vs', ?_, WAts.mono (kt _) _ _ h3, ho, nd⟩, fun c hc => upd_ne hc, fun y => ⟨.inl, fun z => z.elim id fun e => e ▸ hm⟩⟩
    rw [upd_same]
    unfold putK
    rw [if_pos c, e]
  · have hm : x ∉ ws := fun m => c (by
      rw [any_key _ hw, List.any_eq_true]
      exact ⟨x.text, List.mem_map.mpr ⟨x, m, rfl⟩, decide_eq_true rfl⟩)
    refine ⟨_, ws ++ [x], dp, ⟨vs ++ [u], ?_, WAts.mono (kt _) _ _ (WAts.snoc hu _ _ hw), fun y my => ?_, ?_⟩, fun c hc => upd_ne hc, fun y => by rw [List.mem_append, List.mem_singleton]⟩
    · rw [upd_same, bkv_snoc hw]
      unfold putK
      rw [if_neg c]
      show some (HO.dK (tK (bkv ws vs) ++ [(Sum.inr x.text, u)])) = some (HO.dK (tK (bkv ws vs ++ [(x.text, u)])))
      rw [show tK (bkv ws vs ++ [(x.text, u)]) = tK (bkv ws vs) ++ [(Sum.inr x.text, u)] from List.map_append]
    · rcases List.mem_append.mp my with my | my
      · exact ho y my
      · rw [List.mem_singleton.mp my]; exact hx
    · refine List.nodup_append.mpr ⟨nd, by simp, fun a ha b hb e => ?_⟩
      rw [List.mem_singleton.mp hb] at e
      exact hm (e ▸ ha)
/-- how many -/
theorem Book.few {H : Hp} {q : Addr} {ws : List Wd} (b : Book H q ws) {m : List Wd} (h : ∀ x ∈ ws, x ∈ m) : ws.length ≤ m.length := by
  obtain ⟨vs, _, _, _, nd⟩ := b
  exact List.Nodup.length_le_of_subset nd h
def sp_standing : Sp := fun vs H Q _ => ∃ (v : V) (w : Wd), vs = [v] ∧ WAt H w v ∧ w.ok ∧ w.places ≤ 2000 ∧
  ∀ (l : Addr) (xs : List Str) (H' : Hp), Same H H' → H l = none → H' l = some (.lst (xs.map V.str)) → xs.Perm (w.lets.map sgn) → Q (.ref l) H'
def sp_nplaces : Sp := fun vs H Q _ => ∃ (v : V) (w : Wd), vs = [v] ∧ WAt H w v ∧ w.ok ∧ w.places ≤ 2000 ∧ ∀ H', Same H H' → Q (.int (w.places : Nat)) H'
def sp_letters : Sp := fun vs H Q _ => ∃ (v : V) (w : Wd), vs = [v] ∧ WAt H w v ∧ w.ok ∧ w.places ≤ 2000 ∧
  ∀ (l : Addr) (ys : List Str) (H' : Hp), Same H H' → H l = none → H' l = some (.tup (ys.map V.str)) → sortedS ys = true → ys.Nodup → (∀ y, y ∈ ys ↔ y ∈ w.lets.map sgn) → Q (.ref l) H'
def sp_gather (n : Nat) : Sp := fun vs H Q _ => ∃ (v : V) (q : Addr) (w : Wd) (ws : List Wd), vs = [v, .ref q] ∧ WAt H w v ∧ w.ok ∧ w.places ≤ 2000 ∧ w.depth < n ∧ Book H q ws ∧ ws.length + 2 * w.places ≤ 10000 ∧
  ∀ (ws' : List Wd) (H' : Hp), Dk q H H' → Book H' q ws' → (∀ x, x ∈ ws' ↔ x ∈ ws ∨ x ∈ w.parts) → Q (.str w.text) H'
def sp_parts (n : Nat) : Sp := fun vs H Q _ => ∃ (v : V) (w : Wd), vs = [v] ∧ WAt H w v ∧ w.ok ∧ w.places ≤ 2000 ∧ w.depth < n ∧
  ∀ (l : Addr) (ws : List Wd) (us : List V) (H' : Hp), Same H H' → H l = none → H' l = some (.tup us) → WAts H' ws us → sortedS (ws.map Wd.text) = true → ws.Nodup → (∀ x, x ∈ ws ↔ x ∈ w.parts) → Q (.ref l) H'
theorem perm_pre {α β : Type} {f : α → β} : ∀ (m : List β) (l : List α), m.Perm (l.map f) → ∃ l' : List α, l'.Perm l ∧ l'.map f = m
  | [], l, h => by
    have e : l.map f = [] := h.symm.eq_nil
    have e2 : l = [] := List.map_eq_nil_iff.mp e
    exact ⟨[], by rw [e2], rfl⟩
  | b :: m, l, h => by
    obtain ⟨a, ha, rfl⟩ := List.mem_map.mp (h.mem_iff.mp List.mem_cons_self)
    obtain ⟨s, t, rfl⟩ := List.append_of_mem ha
    have p1 : (s ++ a :: t).Perm (a :: (s ++ t)) := List.perm_middle
    have h2 : m.Perm ((s ++ t).map f) := (h.trans (p1.map f)).cons_inv
    obtain ⟨l', q1, q2⟩ := perm_pre m (s ++ t) h2
    exact ⟨a :: l', (q1.cons a).trans p1.symm, by rw [List.map_cons, q2]⟩
theorem none_of {H H' : Hp} (s : Same H H') {a : Addr} (h : H' a = none) : H a = none := by
  cases e : H a with
  | none => rfl
  | some o => rw [s _ _ e] at h; cases h
/-- [e for x in t], where something goes on -/
theorem lc_inv {K : PySem.W.Frag} {b D : Addr} {vs : List V} {te : TE} {j : Nat} {σ : L2.St} {H1 : Hp} {Qd : Hp → Prop} (Iv : Nat → Hp → Prop) (R : Nat → V → Prop) (h0 : Iv 0 (upd H1 D (.lst []))) (hl : vs.length ≤ 1000000)
    (st : ∀ i H, Iv i H → H b = some (.tup vs)) (up : ∀ i H acc, Iv i H → Iv i (upd H D (.lst acc)))
    (step : ∀ (i : Nat) (x : V) (H' : Hp) (C : VK), vs[i]? = some x → Iv i H' → (∃ ys, H' D = some (.lst ys)) → (∀ y H'', H'' D = H' D → Iv (i + 1) H'' → R i y → C y H'') → te ((wipe σ [j]).set j (some x)) H' C)
    (hw : ∀ x : V, wipe ((wipe σ [j]).set j (some x)) [j] = wipe σ [j])
    (fin : ∀ (H2 : Hp) (acc : List V), Iv vs.length H2 → H2 D = some (.lst acc) → acc.length = vs.length → (∀ (i : Nat) (y : V), acc[i]? = some y → R i y) → Qd H2) :
    ∃ W : Nat → Nat → Hp → Prop, (∃ m, W 0 m (upd H1 D (.lst []))) ∧ ∀ i m H, W i m H →
      ((Itt K b).stop i H ∧ Qd H) ∨ ((Itt K b).go i H ∧ ∃ Nx : Hp → Prop, (∀ H', Nx H' → ∃ m', m' < m ∧ W (i + 1) m' H') ∧ ∀ x H', (Itt K b).yld i H x H' → gName j x (wipe σ [j]) H' fun σ2 H2 => wipe σ2 [j] = wipe σ [j] ∧ tYes σ2 H2 fun b H3 =>
        if b = true then te σ2 H3 fun y H4 => ∃ acc, H4 D = some (.lst acc) ∧ acc.length < sizeLine ∧ Nx (upd H4 D (.lst (acc ++ [y]))) else Nx H3) := by
  refine lc_tup (K := K) (a := b) (xs := vs) (fun i H => Iv i H ∧ ∃ acc : List V, H D = some (.lst acc) ∧ acc.length = i ∧ ∀ (k : Nat) (y : V), acc[k]? = some y → R k y) ?_ ?_ ?_ ?_
  · exact ⟨h0, [], upd_same, rfl, fun k y e => by simp at e⟩
  · rintro i H - ⟨s, -⟩
    exact SqT.of (st i H s)
  · rintro i x H ex ⟨s, acc, hacc, hlen, hR⟩
    refine ⟨hw x, ?_⟩
    unfold tYes
    dsimp only
    rw [if_pos rfl]
    refine step i x H _ ex s ⟨_, hacc⟩ fun y H4 hD4 s4 r4 => ?_
    have hx : i < vs.length := (List.getElem?_eq_some_iff.mp ex).1
    refine ⟨acc, by rw [hD4]; exact hacc, szl (by omega), up _ _ _ s4, acc ++ [y], upd_same, by rw [List.length_append, hlen]; rfl, fun k z ek => ?_⟩
    rw [List.getElem?_append] at ek
    split at ek
    · exact hR k z ek
    · have ek2 : k = acc.length := by
        have := (List.getElem?_eq_some_iff.mp ek).1
        simp at this
        omega
      subst ek2
      simp at ek
      subst ek
      rw [hlen]
      exact r4
  · rintro H ⟨s, acc, hacc, hlen, hR⟩
    exact fin H acc s hacc hlen hR
mutual
theorem codes_small : ∀ (w : Wd), w.ok → ∀ c ∈ w.codes, c ≤ 124
  | .letter c, h, d, m => by rw [List.mem_singleton.mp m]; have := h.2; omega
  | .node u ws, h, d, m => by
    rcases List.mem_cons.mp m with e | m
    · omega
    · exact mid_small u ws h.2 d m
theorem mid_small (u : Bool) : ∀ (ws : List Wd), okL ws → ∀ c ∈ midC u ws, c ≤ 124
  | [], _, d, m => by
    have : d = 41 := by simpa [midC] using m
    omega
  | w :: ws, h, d, m => by
    rcases List.mem_append.mp m with m | m
    · exact codes_small w h.1 d m
    · exact tail_small u ws h.2 d m
theorem tail_small (u : Bool) : ∀ (ws : List Wd), okL ws → ∀ c ∈ tailC u ws, c ≤ 124
  | [], _, d, m => by
    have : d = 41 := by simpa [tailC] using m
    omega
  | w :: ws, h, d, m => by
    have hs : sepC u ≤ 124 := by cases u <;> decide
    rcases List.mem_cons.mp m with e | m
    · omega
    · rcases List.mem_append.mp m with m | m
      · exact codes_small w h.1 d m
      · exact tail_small u ws h.2 d m
end
theorem strs_dp {K : PySem.W.Frag} {H : Hp} : ∀ (ys : List Str), DpAll K H (ys.map V.str) (ys.map PyData.str)
  | [] => .nil
  | y :: ys => .cons (.str y) (strs_dp ys)
theorem gd_strs : ∀ {ys : List Str}, (∀ y ∈ ys, PyData.strOk y = true ∧ y.length ≤ 1000) → GdL (ys.map PyData.str)
  | [], _ => trivial
  | y :: ys, h => ⟨h y List.mem_cons_self, gd_strs fun z m => h z (List.mem_cons_of_mem _ m)⟩
theorem depth_strs : ∀ (ys : List Str), PyData.depthAll (ys.map PyData.str) = 0
  | [] => rfl
  | y :: ys => by show max 0 (PyData.depthAll (ys.map PyData.str)) = 0; rw [depth_strs ys]; rfl
theorem shaped_strsT {ys : List Str} (h : ∀ y ∈ ys, PyData.strOk y = true ∧ y.length ≤ 1000) : SeqAt.shaped (.tuple (ys.map PyData.str)) = true :=
  shaped_gd (d := .tuple (ys.map PyData.str)) (gd_strs h) (by show PyData.depthAll (ys.map PyData.str) + 1 ≤ 64; rw [depth_strs]; decide)
theorem shaped_strsL {ys : List Str} (h : ∀ y ∈ ys, PyData.strOk y = true ∧ y.length ≤ 1000) : SeqAt.shaped (.list (ys.map PyData.str)) = true :=
  shaped_gd (d := .list (ys.map PyData.str)) (gd_strs h) (by show PyData.depthAll (ys.map PyData.str) + 1 ≤ 64; rw [depth_strs]; decide)
theorem eqv_gd {d : PyData} (h : Gd d) : PyData.eqv d d = true := SeqAt.eqv_refl d (canLay_gd d h)
theorem sgn_str {w : Wd} (h : w.ok) {ys : List Str} (m : ∀ y, y ∈ ys ↔ y ∈ w.lets.map sgn) : ∀ y ∈ ys, PyData.strOk y = true ∧ y.length ≤ 1000 := fun y hy => by
  obtain ⟨c, hc, rfl⟩ := List.mem_map.mp ((m y).mp hy)
  exact ⟨strOk_sgn (lets_ok w h c hc).2, by show 1 ≤ 1000; decide⟩
end EB
namespace EB
open PySem PySem.Spec PyProof.Rows L2

/-- [e for c in text if ..] -/
theorem lc_txt {x : Str} {g : TG} {tt : TT} {te : TE} {vs : List Nat} {σ : L2.St} {H1 : Hp} {D : Addr} {Qd : Hp → Prop} (Pv : Nat → Hp → Prop) (h0 : Pv 0 (upd H1 D (.lst [])))
    (hs : ∀ i c H, x.cps.toList[i]? = some c → Pv i H → g (.str (sgn c)) (wipe σ vs) H fun σ2 H2 => wipe σ2 vs = wipe σ vs ∧ tt σ2 H2 fun b H3 =>
      if b = true then te σ2 H3 fun y H4 => ∃ acc, H4 D = some (.lst acc) ∧ acc.length < sizeLine ∧ Pv (i + 1) (upd H4 D (.lst (acc ++ [y]))) else Pv (i + 1) H3) (hd : ∀ H, Pv x.cps.toList.length H → Qd H) :
    ∃ W : Nat → Nat → Hp → Prop, (∃ m, W 0 m (upd H1 D (.lst []))) ∧ ∀ i m H, W i m H →
      ((Its x).stop i H ∧ Qd H) ∨ ((Its x).go i H ∧ ∃ Nx : Hp → Prop, (∀ H', Nx H' → ∃ m', m' < m ∧ W (i + 1) m' H') ∧ ∀ v H', (Its x).yld i H v H' → g v (wipe σ vs) H' fun σ2 H2 => wipe σ2 vs = wipe σ vs ∧ tt σ2 H2 fun b H3 =>
        if b = true then te σ2 H3 fun y H4 => ∃ acc, H4 D = some (.lst acc) ∧ acc.length < sizeLine ∧ Nx (upd H4 D (.lst (acc ++ [y]))) else Nx H3) := by
  have len : x.cps.toList.length = x.cps.size := Array.length_toList
  refine ⟨fun i m H => m = x.cps.size - i ∧ i ≤ x.cps.size ∧ Pv i H, ⟨x.cps.size, by simp, Nat.zero_le _, h0⟩, ?_⟩
  rintro i m H ⟨rfl, hi, p⟩
  by_cases lt : i < x.cps.size
  · refine .inr ⟨lt, Pv (i + 1), fun H' p' => ⟨x.cps.size - (i + 1), by omega, rfl, lt, p'⟩, fun v H' y => ?_⟩
    obtain ⟨rfl, c, ec, rfl⟩ := y
    exact hs i c _ (by rw [Array.getElem?_toList]; exact ec) p
  · have e : i = x.cps.size := by omega
    subst e
    exact .inl ⟨Nat.le_refl _, hd H (by rw [len]; exact p)⟩
def isC (c : Nat) : Bool := decide (97 ≤ c) && decide (c ≤ 122)
theorem ge_a (c : Nat) : (!decide ((sgn c).cps.toList < ("a" : Str).cps.toList)) = decide (97 ≤ c) := by
  have e : ("a" : Str).cps.toList = [97] := by decide +kernel
  rw [e]
  show (!decide ([c] < [97])) = _
  have : ([c] < [97]) ↔ c < 97 := by
    rw [List.cons_lt_cons_iff]
    simp
  by_cases h : c < 97
  · rw [decide_eq_true (this.mpr h), decide_eq_false (by omega)]; rfl
  · rw [decide_eq_false (fun z => h (this.mp z)), decide_eq_true (by omega)]; rfl
theorem le_z (c : Nat) : (!decide (("z" : Str).cps.toList < (sgn c).cps.toList)) = decide (c ≤ 122) := by
  have e : ("z" : Str).cps.toList = [122] := by decide +kernel
  rw [e]
  show (!decide ([122] < [c])) = _
  have : ([122] < [c]) ↔ 122 < c := by
    rw [List.cons_lt_cons_iff]
    simp
  by_cases h : 122 < c
  · rw [decide_eq_true (this.mpr h), decide_eq_false (by omega)]; rfl
  · rw [decide_eq_false (fun z => h (this.mp z)), decide_eq_true (by omega)]; rfl
mutual
theorem codes_lets : ∀ (w : Wd), w.ok → w.codes.filter isC = w.lets
  | .letter c, h => by
    show ([c].filter isC) = [c]
    have : isC c = true := by unfold isC; rw [decide_eq_true h.1, decide_eq_true h.2]; rfl
    rw [List.filter_cons_of_pos this]; rfl
  | .node u ws, h => by
    show ((40 :: midC u ws).filter isC) = letsL ws
    rw [List.filter_cons_of_neg (by decide)]
    exact mid_lets u ws h.2
theorem mid_lets (u : Bool) : ∀ (ws : List Wd), okL ws → (midC u ws).filter isC = letsL ws
  | [], _ => by show ([41].filter isC) = []; decide
  | w :: ws, h => by
    show ((w.codes ++ tailC u ws).filter isC) = w.lets ++ letsL ws
    rw [List.filter_append, codes_lets w h.1, tail_lets u ws h.2]
theorem tail_lets (u : Bool) : ∀ (ws : List Wd), okL ws → (tailC u ws).filter isC = letsL ws
  | [], _ => by show ([41].filter isC) = []; decide
  | w :: ws, h => by
    show ((sepC u :: (w.codes ++ tailC u ws)).filter isC) = w.lets ++ letsL ws
    have : ¬ isC (sepC u) = true := by cases u <;> decide
    rw [List.filter_cons_of_neg this, List.filter_append, codes_lets w h.1, tail_lets u ws h.2]
end
def sp_signs (n : Nat) : Sp := fun vs H Q _ => ∃ (v : V) (w : Wd), vs = [v] ∧ WAt H w v ∧ w.ok ∧ w.places ≤ 2000 ∧ w.depth < n ∧
  ∀ (l : Addr) (H' : Hp), Same H H' → H l = none → H' l = some (.lst ((w.lets.map sgn).map V.str)) → Q (.ref l) H'
end EB
namespace L2
open PySem PySem.Spec PyProof.Rows

theorem se_DictComp {a b c d e} {es : List Expr} {env : Env} : starEach (.DictComp a b c d e :: es) env = (false, eval (.DictComp a b c d e) env) :: starEach es env := rfl
section
variable {X : Cx} {pins : List (Addr × Obj)} {σ : St} {H : Hp} {s : Shared} {a : Addr} {kvs : List (Key × V)} {k : Key} {v : V} {u r : Value} {A : Around} {E : Value → Shared → Prop}
/-- an entry of a tracked dict -/
theorem dset_ok {Q : Unit → Shared → Prop} (I : Inv X pins σ H s) (e : H a = some (.dK kvs)) (l : kvs.length < sizeLine) (ry : RelV (kV k) u) (rv : RelV v r) (h : ∀ s', Inv X pins σ (upd H a (.dK (putK kvs k v))) s' → Q () s') :
    wpAny (model X.prog X.w) A (dictSet a u r) Q E s := by
  obtain ⟨z, hd, vs, rel, dd⟩ := dk_of I.hok e
  have hz : vs.length ≤ sizeLine := by rw [← rel.length]; exact z
  have hl : (putK kvs k v).length ≤ sizeLine := by have := length_putK kvs k v; omega
  refine wpAny_dictSet_pairs (hsz := hz) (kV_is ry) dd fun h' dd' hs => h _ ?_
  have he : ∃ q, h'.get? a = some q := let ⟨q, _, _, hq, _⟩ := dd'; ⟨q, hq⟩
  exact d_write I (by rw [e]; exact True.intro) hs he (dk_new hl hd (rel.put k rv) dd')
end
theorem compLoop_anyD {prog : Program} {w : World} {A : Around} {R : Result → Shared → Prop} {s : Shared} {kx vx target iter : Expr} {ifs : List Expr} {scope : Scope} {pos : Pos} {it : Value} {D : Addr} {env : Env} (I : Nat → Shared → Prop)
    (turn : ∀ n s, I n s → wpAny (model prog w) A (pyNext it) (fun r s₁ => match r with
      | none => R (.ok .next) s₁
      | some v => wpAny (model prog w) A (letOwnedTupleGo target it v) (fun _ s₁' => wpAny (model prog w) A (assign target env v) (fun _ s₂ =>
          wpAny (model prog w) A (forIn ifs true fun c r => if r = true then do let ok ← isTrue c env (eval c env); pure (ForInStep.yield ok) else pure (ForInStep.yield r)) (fun ok s₃ =>
            if ok = true then wpAny (model prog w) A (eval kx env) (fun ku s₄ => wpAny (model prog w) A (eval vx env) (fun vu s₅ =>
              wpAny (model prog w) A (dictSet D ku vu) (fun _ s₆ => ∃ m, m < n ∧ I m s₆) (notedBy (model prog w) A env fun e s' => R (.error e) s') s₅) (notedBy (model prog w) A env fun e s' => R (.error e) s') s₄) (notedBy (model prog w) A env fun e s' => R (.error e) s') s₃
            else ∃ m, m < n ∧ I m s₃) (notedBy (model prog w) A env fun e s' => R (.error e) s') s₂) (notedBy (model prog w) A env fun e s' => R (.error e) s') s₁') (notedBy (model prog w) A env fun e s' => R (.error e) s') s₁) (notedBy (model prog w) A env fun e s' => R (.error e) s') s)
    (n : Nat) (h : I n s) :
    (codeAny (model prog w) A (.compLoop (.DictComp kx vx [⟨target, iter, ifs, 0⟩] scope pos) 0 it (.ref D) env) R s) := by
  refine codeAny_loop rfl I (fun n s hI => ?_) n h
  show wpAny _ A ((compTurn (.DictComp kx vx [⟨target, iter, ifs, 0⟩] scope pos) 0 it (.ref D) env).onRaise (fun x => do noteFrame x env; theTreesLotGoes x)) _ _ s
  refine wpAny_noted ?_
  rw [compTurn_dict]
  refine wpAny_bind (wpAny_standAt (wpAny_bind (wpAny_mono (turn n s hI) (fun r s₁ h₁ => ?_) fun _ _ h' => h')))
  cases r with
  | none => exact wpAny_pure h₁
  | some v =>
    refine wpAny_bind (wpAny_mono h₁ (fun _ s₁' h₁' => ?_) fun _ _ h' => h')
    refine wpAny_bind (wpAny_mono h₁' (fun _ s₂ h₂ => wpAny_bind (wpAny_mono h₂ (fun ok s₃ h₃ => ?_) fun _ _ h' => h')) fun _ _ h' => h')
    cases ok with
    | false => exact wpAny_pure ⟨rfl, h₃⟩
    | true =>
      exact wpAny_bind (wpAny_bind (wpAny_mono h₃ (fun kv s₄ h₄ => wpAny_bind (wpAny_holding (wpAny_mono h₄ (fun vv s₅ h₅ => wpAny_bind (wpAny_standAt (wpAny_holding (wpAny_mono h₅ (fun _ s₆ h₆ => wpAny_pure ⟨rfl, h₆⟩) fun _ _ h' => h')))) fun _ _ h' => h'))) fun _ _ h' => h'))

section
variable {X : Cx}
/-- {key: value for target in iter if ..}: D the new dict -/
def tDc (wi : TI) (g : TG) (tt : TT) (tk tv : TE) (vs : List Nat) : TE := fun σ H Q => wi σ H fun J H1 => ∀ D, H1 D = none → ∃ W : Nat → Nat → Hp → Prop, (∃ m, W 0 m (upd H1 D (.dK []))) ∧ ∀ i m H, W i m H →
  (J.stop i H ∧ Q (.ref D) H) ∨ (J.go i H ∧ ∃ Nx : Hp → Prop, (∀ H', Nx H' → ∃ m', m' < m ∧ W (i + 1) m' H') ∧ ∀ x H', J.yld i H x H' → g x (wipe σ vs) H' fun σ2 H2 => wipe σ2 vs = wipe σ vs ∧ tt σ2 H2 fun b H3 =>
    if b = true then tk σ2 H3 fun y H4 => tv σ2 H4 fun z H5 => ∃ kvs k, y = kV k ∧ H5 D = some (.dK kvs) ∧ kvs.length < sizeLine ∧ Nx (upd H5 D (.dK (putK kvs k z))) else Nx H3)
theorem dc_core {pins : List (Addr × Obj)} {s : Shared} {σ : St} {H : Hp} {Q : VK} {kx vx tg iter : Expr} {ifs : List Expr} {scope : Scope} {own : List (Str × Nat)} {pos pos' : Pos} {wi : TI} {g : TG} {tt : TT} {tk tv : TE} {use : Option (Value → Sem Unit)} {Qf : Value → Shared → Prop}
    (hc : X.calm = true) (hN : X.N.Nodup) (I : Inv X pins σ H s) (hi : PI X tg iter wi) (ok : BlkOk X.N X.env.scope scope own)
    (hg : ∀ (s : Shared) (H : Hp) (C : Addr) (cl : List (Str × Addr)) (fp : List Addr), PG (X.blk s H scope (compEnvC scope cl C X.env) fp) tg g) (ht : ∀ (s : Shared) (H : Hp) (C : Addr) (cl : List (Str × Addr)) (fp : List Addr), PTs (X.blk s H scope (compEnvC scope cl C X.env) fp) ifs tt)
    (hk : ∀ (s : Shared) (H : Hp) (C : Addr) (cl : List (Str × Addr)) (fp : List Addr), PE (X.blk s H scope (compEnvC scope cl C X.env) fp) kx tk) (hv : ∀ (s : Shared) (H : Hp) (C : Addr) (cl : List (Str × Addr)) (fp : List Addr), PE (X.blk s H scope (compEnvC scope cl C X.env) fp) vx tv) (hs : ∀ x, foldedSetIterable iter X.env x = pure x)
    (h : tDc wi g tt tk tv (own.map (·.2)) σ H Q)
    (hRR : ∀ D C s' m H', Inv X pins σ H' s' → Q (.ref D) H' → s'.heap.Ns C m → FpOk X pins H' C → compPost (model X.prog X.w) X.A X.xe use Qf (.ref D) C (.ok .next) s') :
    wpAny (model X.prog X.w) X.A (comprehension (.DictComp kx vx [⟨tg, iter, ifs, 0⟩] scope pos) scope X.env pos' newDict false (eval iter X.env) use) Qf X.xe s := by
  have hfree : ∀ y ∈ scope.names, y.2 = .free → ∃ c, X.env.cells.lookup y.1 = some c := fun y hy e => by
    rcases ok.free y hy e with k | k
    · exact I.ok.has _ (.inl k)
    · exact I.ok.has _ (.inr k)
  refine wpAny_comprehension_free (use := use) rfl hs (closure_ok hfree) ok.kind (fun y hy e => by rw [ok.uniq y hy, e])
    (thn (hi pins s σ H _ I h) fun xv s1 hx => thn hx fun itv s2 h2 => ?_)
  obtain ⟨it, fp, tn, J, H2, e, I2, T, st2, f2, q⟩ := h2
  subst e
  refine wpAny_newObj_type (newEnv_comp ?_)
  generalize hD : s2.heap.objs.size = D
  have hDn : H2 D = none := I2.hok.fresh (Nat.le_of_eq hD)
  obtain ⟨W, ⟨m0, w0⟩, turn⟩ := q D hDn
  -- the new list
  generalize hs3 : ({ s2 with heap := s2.heap.push { cls := .type "dict", data := .dict #[] } } : Shared) = s3
  have I3 : Inv X pins σ (upd H2 D (.dK [])) s3 := by
    rw [← hs3]
    refine I2.laid (t' := s2.toks) (fun b o e => Heap.get?_push_of_some _ e) (Nat.le_of_eq hD) ?_
    rw [← hD]
    exact dk_empty s2.heap I2.big
  have h3 : s3.heap = s2.heap.push { cls := .type "dict", data := .dict #[] } := by rw [← hs3]
  have sz : ∀ b ∈ fp, b < s2.heap.objs.size := fun b hb => by
    obtain ⟨o, e, _⟩ := T.obj _ _ st2 b hb
    exact Heap.lt_size e
  have f3 : ∀ b ∈ fp, FpOk X pins (upd H2 D (.dK [])) b ∧ b < s3.heap.objs.size := fun b hb => by
    have hlt := sz b hb
    refine ⟨⟨?_, (f2 b hb).2⟩, by rw [h3, Heap.size_push]; exact Nat.lt_succ_of_lt hlt⟩
    rw [upd_ne (by rw [← hD]; exact Nat.ne_of_lt hlt)]
    exact (f2 b hb).1
  have st3 : tn 0 s3.heap := T.keep _ _ _ st2 fun b _ o e => by rw [h3]; exact Heap.get?_push_of_some _ e
  have I4 := block_start I3 ok hN f3
  have pg := hg s3 (upd H2 D (.dK [])) s3.heap.objs.size (cellsFrom (s3.heap.objs.size + 1) scope.names (cloFrom X.env.cells scope.names [])) fp
  have pt := ht s3 (upd H2 D (.dK [])) s3.heap.objs.size (cellsFrom (s3.heap.objs.size + 1) scope.names (cloFrom X.env.cells scope.names [])) fp
  have pk := hk s3 (upd H2 D (.dK [])) s3.heap.objs.size (cellsFrom (s3.heap.objs.size + 1) scope.names (cloFrom X.env.cells scope.names [])) fp
  have pv := hv s3 (upd H2 D (.dK [])) s3.heap.objs.size (cellsFrom (s3.heap.objs.size + 1) scope.names (cloFrom X.env.cells scope.names [])) fp
  show codeAny _ _ (.compStart (.DictComp kx vx [⟨tg, iter, ifs, 0⟩] scope pos) 0 (.ref it) (.ref D) (compEnvC scope (cellsFrom (s3.heap.objs.size + 1) scope.names (cloFrom X.env.cells scope.names [])) s3.heap.objs.size X.env)) (compPost (model X.prog X.w) X.A X.xe use Qf (.ref D) s3.heap.objs.size) { s3 with heap := pushCells (s3.heap.push { cls := .type "dict", data := .dict #[] }) scope.names }
  have nfp : ∀ b ∈ fp, (upd H2 D (.dK [])) b = none := fun b hb => (f3 b hb).1.1
  generalize hce : compEnvC scope (cellsFrom (s3.heap.objs.size + 1) scope.names (cloFrom X.env.cells scope.names [])) s3.heap.objs.size X.env = ce at I4 pg pt pk pv ⊢
  have cL : ce.locals = s3.heap.objs.size := by subst hce; rfl
  generalize hH3 : upd H2 D (.dK []) = H3 at I3 I4 pg pt pk pv w0 nfp f3
  generalize hs4 : ({ s3 with heap := pushCells (s3.heap.push { cls := .type "dict", data := .dict #[] }) scope.names } : Shared) = s4 at I4 ⊢
  have st4 : tn 0 s4.heap := T.keep _ _ _ st3 fun b _ o e => by rw [← hs4]; exact pushCells_keeps _ _ _ _ (Heap.get?_push_of_some _ e)
  have stat : ∀ {σ' : St} {H' : Hp} {s' : Shared}, Inv (X.blk s3 H3 scope ce fp) [] σ' H' s' → (∀ b ∈ fp, H' b = none) → ∀ b ∈ fp, FpOk (X.blk s3 H3 scope ce fp) [] H' b := fun {σ' H' s'} I' hn b hb =>
    ⟨hn b hb, (I'.ok.exf b hb).1, I'.ok.exfs b hb, .inl hb, fun x c e => (I'.ok.exf b hb).2 x c e, fun p hp => absurd (show p ∈ ([] : List (Addr × Obj)) ++ [] from hp) (by simp)⟩
  have loop : codeAny (model X.prog X.w) X.A (.compLoop (.DictComp kx vx [⟨tg, iter, ifs, 0⟩] scope pos) 0 (.ref it) (.ref D) ce) (compPost (model X.prog X.w) X.A X.xe use Qf (.ref D) s3.heap.objs.size) s4 := by
    refine compLoop_anyD (fun n s' => ∃ i H', Inv (X.blk s3 H3 scope ce fp) [] (wipe σ (own.map (·.2))) H' s' ∧ tn i s'.heap ∧ (∀ b ∈ fp, H' b = none) ∧ W i n H') ?_ m0 ⟨0, H3, I4, st4, nfp, w0⟩
    rintro n s5 ⟨i, H5, I5, st5, n5, w5⟩
    rcases turn i n H5 w5 with ⟨stop, qq⟩ | ⟨go, Nx, hNx, step⟩
    · have td := T.done (X.blk s3 H3 scope ce fp) rfl rfl rfl hc i [] s5 _ H5 (fun _ _ => False) I5 (stat I5 n5) st5 stop
      refine thnF td fun r s6 ⟨hr, I6⟩ => ?_
      subst hr
      -- back in the def's context
      have I7 : Inv X pins σ H5 s6 := I3.call' (ch := fp) I6.os I6.base I6.hok I6.bare fun b hb => ⟨(f3 b hb).1.2.2.2.1, (f3 b hb).1.2.1, (f3 b hb).1.2.2.2.2.1, (f3 b hb).1.2.2.2.2.2⟩
      have nC : H5 s3.heap.objs.size = none := by
        have z : H5 ce.locals = none := I6.free
        rw [cL] at z
        exact z
      obtain ⟨m, hn, _⟩ := I6.loc
      have hn : s6.heap.Ns ce.locals m := hn
      rw [cL] at hn
      exact hRR D s3.heap.objs.size s6 m H5 I7 qq hn (I3.fpOk (Nat.le_refl _) nC)
    · have ti := T.item (X.blk s3 H3 scope ce fp) rfl rfl rfl hc i [] s5 _ H5 (fun _ _ => False) I5 (stat I5 n5) st5 go
      refine thnF ti fun r s6 ⟨u, hr, h6⟩ => ?_
      subst hr
      refine thnF h6 fun _ s7 ⟨x, H7, I7, r7, y7, st7, n7⟩ => ?_
      have I7' := I7.pinned (stat I7 n7) (T.obj _ _ st7)
      refine thnF (pg _ s7 _ H7 x u _ I7' r7 (step x H7 y7)) fun _ s8 ⟨σ8, H8, I8, hw8, q8⟩ => ?_
      refine thnF (pt _ s8 σ8 H8 _ I8 q8) fun b s9 ⟨H9, I9, q9⟩ => ?_
      -- the turn's end
      have fin : ∀ {s' : Shared} {H' : Hp}, Inv (X.blk s3 H3 scope ce fp) ([] ++ pinsAt fp s7.heap) σ8 H' s' → Nx H' → ∃ m, m < n ∧ ∃ i H', Inv (X.blk s3 H3 scope ce fp) [] (wipe σ (own.map (·.2))) H' s' ∧ tn i s'.heap ∧ (∀ b ∈ fp, H' b = none) ∧ W i m H' := fun {s' H'} I' nx => by
        obtain ⟨m', hm, w'⟩ := hNx H' nx
        have pin' : ∀ b ∈ fp, ∀ o, s7.heap.get? b = some o → s'.heap.get? b = some o ∧ H' b = none := fun b hb o e =>
          let z := I'.pin (b, o) (List.mem_append_right _ (List.mem_append_right _ (mem_pinsAt hb e)))
          ⟨z.1, z.2.1⟩
        have hl : (wipe σ (own.map (·.2))).length = σ8.length := by rw [← hw8, wipe_length]
        refine ⟨m', hm, i + 1, H', (I'.unpinned (pins := [])).weak hl (fun j v e => ?_), T.keep _ _ _ st7 fun b hb o e => (pin' b hb o e).1, fun b hb => ?_, w'⟩
        · rw [← hw8] at e
          exact (wipe_some e).1
        · obtain ⟨o, e, _⟩ := T.obj _ _ st7 b hb
          exact (pin' b hb o e).2
      cases b with
      | false =>
        simp only [Bool.false_eq_true, if_false] at q9 ⊢
        exact fin I9 q9
      | true =>
        simp only [if_true] at q9 ⊢
        refine thnF (pk _ s9 σ8 H9 _ I9 q9) fun z s10 ⟨yv, H10, I10, r10, q10⟩ => ?_
        refine thnF (pv _ s10 σ8 H10 _ I10 q10) fun u2 s11 ⟨zv, H11, I11, r11, kvs, k, ek, hD11, hz11, nx⟩ => ?_
        subst ek
        exact dset_ok (X := X.blk s3 H3 scope ce fp) I11 hD11 hz11 r10 r11 fun s12 I12 => fin I12 nx
  exact codeAny_compStart_dict loop (T.self X.A 0 _ _ _ st4 loop)
/-- as a value -/
theorem pe_dc {kx vx tg iter : Expr} {ifs : List Expr} {scope : Scope} {own : List (Str × Nat)} {pos : Pos} {wi : TI} {g : TG} {tt : TT} {tk tv : TE} (hc : X.calm = true) (hN : X.N.Nodup) (hi : PI X tg iter wi) (ok : BlkOk X.N X.env.scope scope own)
    (hg : ∀ (s : Shared) (H : Hp) (C : Addr) (cl : List (Str × Addr)) (fp : List Addr), PG (X.blk s H scope (compEnvC scope cl C X.env) fp) tg g) (ht : ∀ (s : Shared) (H : Hp) (C : Addr) (cl : List (Str × Addr)) (fp : List Addr), PTs (X.blk s H scope (compEnvC scope cl C X.env) fp) ifs tt)
    (hk : ∀ (s : Shared) (H : Hp) (C : Addr) (cl : List (Str × Addr)) (fp : List Addr), PE (X.blk s H scope (compEnvC scope cl C X.env) fp) kx tk) (hv : ∀ (s : Shared) (H : Hp) (C : Addr) (cl : List (Str × Addr)) (fp : List Addr), PE (X.blk s H scope (compEnvC scope cl C X.env) fp) vx tv) (hs : ∀ x, foldedSetIterable iter X.env x = pure x := by intro _; rfl) :
    PE X (.DictComp kx vx [⟨tg, iter, ifs, 0⟩] scope pos) (tDc wi g tt tk tv (own.map (·.2))) := by
  intro pins s σ H Q I h
  rw [arm_eval_DictComp]
  refine dc_core hc hN I hi ok hg ht hk hv hs h fun D C s' m H' I' q hn f => ⟨m, hn, fun h'' sb => ?_⟩
  obtain ⟨f0, f1, f2, f3, f4, f5⟩ := f
  exact ⟨.ref D, H', I'.turned (t' := s'.toks) (fun b o hb e => (sb.2 b hb).trans e) f0 f1 f3 f4 f5, rfl, q⟩
end
theorem dc_tup {K : PySem.W.Frag} {a : Addr} {xs : List V} {g : TG} {tt : TT} {tk tv : TE} {vs : List Nat} {σ : St} {H1 : Hp} {D : Addr} {Qd : Hp → Prop} (Pv : Nat → Hp → Prop) (h0 : Pv 0 (upd H1 D (.dK []))) (hl : ∀ i H, i ≤ xs.length → Pv i H → SqT K H a xs)
    (hs : ∀ i x H, xs[i]? = some x → Pv i H → g x (wipe σ vs) H fun σ2 H2 => wipe σ2 vs = wipe σ vs ∧ tt σ2 H2 fun b H3 =>
      if b = true then tk σ2 H3 fun y H4 => tv σ2 H4 fun z H5 => ∃ kvs k, y = kV k ∧ H5 D = some (.dK kvs) ∧ kvs.length < sizeLine ∧ Pv (i + 1) (upd H5 D (.dK (putK kvs k z))) else Pv (i + 1) H3) (hd : ∀ H, Pv xs.length H → Qd H) :
    ∃ W : Nat → Nat → Hp → Prop, (∃ m, W 0 m (upd H1 D (.dK []))) ∧ ∀ i m H, W i m H →
      ((Itt K a).stop i H ∧ Qd H) ∨ ((Itt K a).go i H ∧ ∃ Nx : Hp → Prop, (∀ H', Nx H' → ∃ m', m' < m ∧ W (i + 1) m' H') ∧ ∀ x H', (Itt K a).yld i H x H' → g x (wipe σ vs) H' fun σ2 H2 => wipe σ2 vs = wipe σ vs ∧ tt σ2 H2 fun b H3 =>
        if b = true then tk σ2 H3 fun y H4 => tv σ2 H4 fun z H5 => ∃ kvs k, y = kV k ∧ H5 D = some (.dK kvs) ∧ kvs.length < sizeLine ∧ Nx (upd H5 D (.dK (putK kvs k z))) else Nx H3) := by
  refine ⟨fun i m H => m = xs.length - i ∧ i ≤ xs.length ∧ Pv i H, ⟨xs.length, by simp, Nat.zero_le _, h0⟩, ?_⟩
  rintro i m H ⟨rfl, hi, p⟩
  have q := hl i H hi p
  by_cases hlt : i < xs.length
  · refine .inr ⟨⟨xs, xs[i], q, by simp [hlt]⟩, Pv (i + 1), fun H' p' => ⟨xs.length - (i + 1), by omega, rfl, hlt, p'⟩, fun x H' y => ?_⟩
    obtain ⟨e, y⟩ := y
    subst e
    exact hs i x _ (y xs q) p
  · have e : i = xs.length := by omega
    subst e
    exact .inl ⟨⟨xs, q, Nat.le_refl _⟩, hd H p⟩
end L2
namespace EB
open PySem PySem.Spec PyProof.Rows L2

mutual
def Wd.put (f : Nat → Option Wd) : Wd → Wd
  | .letter c => (f c).getD (.letter c)
  | .node u ws => .node u (putL f ws)
def putL (f : Nat → Option Wd) : List Wd → List Wd
  | [] => []
  | w :: ws => w.put f :: putL f ws
end
theorem putL_map (f : Nat → Option Wd) : ∀ ws : List Wd, putL f ws = ws.map (Wd.put f)
  | [] => rfl
  | w :: ws => by show w.put f :: putL f ws = w.put f :: ws.map (Wd.put f); rw [putL_map f ws]
def look (rs : List (Nat × Wd)) (c : Nat) : Option Wd := match rs with
  | [] => none
  | r :: rs => if r.1 = c then some r.2 else look rs c
theorem look_mem : ∀ {rs : List (Nat × Wd)} {c : Nat} {x : Wd}, look rs c = some x → (c, x) ∈ rs
  | [], c, x, h => by cases h
  | r :: rs, c, x, h => by
    unfold look at h
    split at h
    · rename_i e
      injection h with h
      subst h
      subst e
      exact List.mem_cons_self
    · exact List.mem_cons_of_mem _ (look_mem h)
theorem look_of : ∀ {rs : List (Nat × Wd)} {c : Nat} {x : Wd}, (rs.map (·.1)).Nodup → (c, x) ∈ rs → look rs c = some x
  | [], c, x, _, h => by simp at h
  | r :: rs, c, x, nd, h => by
    rw [List.map_cons, List.nodup_cons] at nd
    unfold look
    rcases List.mem_cons.mp h with e | h
    · subst e; rw [if_pos rfl]
    · rw [if_neg fun e => nd.1 (by rw [e]; exact List.mem_map.mpr ⟨_, h, rfl⟩)]
      exact look_of nd.2 h
theorem look_none {rs : List (Nat × Wd)} {c : Nat} : look rs c = none ↔ c ∉ rs.map (·.1) := by
  induction rs with
  | nil => exact Iff.intro (fun _ => by simp) (fun _ => rfl)
  | cons r rs ih =>
    unfold look
    rw [List.map_cons, List.mem_cons, not_or]
    by_cases e : r.1 = c
    · rw [if_pos e]
      exact Iff.intro (fun h => by cases h) (fun h => absurd e.symm h.1)
    · rw [if_neg e, ih]
      exact Iff.intro (fun h => ⟨fun z => e z.symm, h⟩) (fun h => h.2)
/-- rows of m places, d deep, at most -/
structure GoodR (m d : Nat) (rs : List (Nat × Wd)) : Prop where
  nd : (rs.map (·.1)).Nodup
  ok : ∀ r ∈ rs, (97 ≤ r.1 ∧ r.1 ≤ 122) ∧ r.2.ok ∧ r.2.places ≤ m ∧ r.2.depth ≤ d
theorem GoodR.few {m d : Nat} {rs : List (Nat × Wd)} (h : GoodR m d rs) : rs.length ≤ 123 := by
  have : ∀ x ∈ rs.map (·.1), x ∈ List.range 123 := fun x hx => by
    obtain ⟨r, mr, rfl⟩ := List.mem_map.mp hx
    have := (h.ok r mr).1
    exact List.mem_range.mpr (by omega)
  have l := List.Nodup.length_le_of_subset h.nd this
  rw [List.length_map, List.length_range] at l
  exact l
theorem GoodR.mono {m d m' d' : Nat} {rs : List (Nat × Wd)} (h : GoodR m d rs) (hm : m ≤ m') (hd : d ≤ d') : GoodR m' d' rs :=
  ⟨h.nd, fun r mr => let ⟨a, b, c, e⟩ := h.ok r mr; ⟨a, b, Nat.le_trans c hm, Nat.le_trans e hd⟩⟩
theorem GoodR.nil {m d : Nat} : GoodR m d [] := ⟨List.nodup_nil, fun r h => by simp at h⟩
mutual
theorem put_ok {m d : Nat} {rs : List (Nat × Wd)} (g : GoodR m d rs) : ∀ (x : Wd), x.ok → (x.put (look rs)).ok
  | .letter c, h => by
    show ((look rs c).getD (.letter c)).ok
    cases e : look rs c with
    | none => exact h
    | some y => exact (g.ok _ (look_mem e)).2.1
  | .node u ws, h => by
    show 2 ≤ (putL (look rs) ws).length ∧ okL (putL (look rs) ws)
    exact ⟨by rw [putL_map, List.length_map]; exact h.1, put_okL g ws h.2⟩
theorem put_okL {m d : Nat} {rs : List (Nat × Wd)} (g : GoodR m d rs) : ∀ (ws : List Wd), okL ws → okL (putL (look rs) ws)
  | [], _ => trivial
  | w :: ws, h => ⟨put_ok g w h.1, put_okL g ws h.2⟩
end
mutual
theorem put_places {m d : Nat} (h1 : 1 ≤ m) {rs : List (Nat × Wd)} (g : GoodR m d rs) : ∀ (x : Wd), (x.put (look rs)).places ≤ x.places * m
  | .letter c => by
    show ((look rs c).getD (.letter c)).places ≤ 1 * m
    cases e : look rs c with
    | none => show 1 ≤ 1 * m; omega
    | some y => have : y.places ≤ m := (g.ok _ (look_mem e)).2.2.1; show y.places ≤ 1 * m; omega
  | .node u ws => put_placesL h1 g ws
theorem put_placesL {m d : Nat} (h1 : 1 ≤ m) {rs : List (Nat × Wd)} (g : GoodR m d rs) : ∀ (ws : List Wd), placesL (putL (look rs) ws) ≤ placesL ws * m
  | [] => Nat.zero_le _
  | w :: ws => by
    show (w.put (look rs)).places + placesL (putL (look rs) ws) ≤ (w.places + placesL ws) * m
    rw [Nat.add_mul]
    exact Nat.add_le_add (put_places h1 g w) (put_placesL h1 g ws)
end
mutual
theorem put_depth {m d : Nat} {rs : List (Nat × Wd)} (g : GoodR m d rs) : ∀ (x : Wd), (x.put (look rs)).depth ≤ x.depth + d
  | .letter c => by
    show ((look rs c).getD (.letter c)).depth ≤ 0 + d
    cases e : look rs c with
    | none => exact Nat.zero_le _
    | some y => have : y.depth ≤ d := (g.ok _ (look_mem e)).2.2.2; show y.depth ≤ 0 + d; omega
  | .node u ws => by
    have := put_depthL g ws
    show depthL (putL (look rs) ws) + 1 ≤ depthL ws + 1 + d
    omega
theorem put_depthL {m d : Nat} {rs : List (Nat × Wd)} (g : GoodR m d rs) : ∀ (ws : List Wd), depthL (putL (look rs) ws) ≤ depthL ws + d
  | [] => Nat.zero_le _
  | w :: ws => by
    have a := put_depth g w
    have b := put_depthL g ws
    show max (w.put (look rs)).depth (depthL (putL (look rs) ws)) ≤ max w.depth (depthL ws) + d
    omega
end
def RowAt (H : Hp) (r : Nat × Wd) (v : V) : Prop := ∃ b u, v = .ref b ∧ H b = some (.tup [.str (sgn r.1), u]) ∧ WAt H r.2 u
def RowL (H : Hp) : List (Nat × Wd) → List V → Prop
  | [], vs => vs = []
  | r :: rs, vs => ∃ v vs', vs = v :: vs' ∧ RowAt H r v ∧ RowL H rs vs'
def RowsAt (H : Hp) (rs : List (Nat × Wd)) (v : V) : Prop := ∃ a vs, v = .ref a ∧ H a = some (.tup vs) ∧ RowL H rs vs
theorem RowAt.mono {H H' : Hp} (k : KT H H') {r : Nat × Wd} {v : V} (h : RowAt H r v) : RowAt H' r v :=
  let ⟨b, u, e, hb, hu⟩ := h; ⟨b, u, e, k _ _ hb, WAt.mono k _ _ hu⟩
theorem RowL.mono {H H' : Hp} (k : KT H H') : ∀ {rs : List (Nat × Wd)} {vs : List V}, RowL H rs vs → RowL H' rs vs
  | [], _, h => h
  | _ :: _, _, ⟨v, vs', e, h1, h2⟩ => ⟨v, vs', e, h1.mono k, RowL.mono k h2⟩
theorem RowsAt.mono {H H' : Hp} (k : KT H H') {rs : List (Nat × Wd)} {v : V} (h : RowsAt H rs v) : RowsAt H' rs v :=
  let ⟨a, vs, e, ha, hr⟩ := h; ⟨a, vs, e, k _ _ ha, hr.mono k⟩
theorem RowL.length {H : Hp} : ∀ {rs : List (Nat × Wd)} {vs : List V}, RowL H rs vs → vs.length = rs.length
  | [], vs, h => by rw [show vs = [] from h]; rfl
  | _ :: _, _, ⟨v, vs', e, h1, h2⟩ => by rw [e, List.length_cons, List.length_cons, RowL.length h2]
theorem RowL.get {H : Hp} : ∀ {rs : List (Nat × Wd)} {vs : List V} {i : Nat} {v : V}, RowL H rs vs → vs[i]? = some v → ∃ r, rs[i]? = some r ∧ RowAt H r v
  | [], vs, i, v, h, e => by rw [show vs = [] from h] at e; simp at e
  | r :: rs, vs, i, v, ⟨v', vs', e', h1, h2⟩, e => by
    subst e'
    cases i with
    | zero => simp at e; subst e; exact ⟨r, rfl, h1⟩
    | succ i =>
      obtain ⟨r', a, b⟩ := RowL.get h2 (by simpa using e)
      exact ⟨r', by simpa using a, b⟩
theorem RowL.snoc {H : Hp} {r : Nat × Wd} {v : V} (hr : RowAt H r v) : ∀ {rs : List (Nat × Wd)} {vs : List V}, RowL H rs vs → RowL H (rs ++ [r]) (vs ++ [v])
  | [], vs, h => by rw [show vs = [] from h]; exact ⟨v, [], rfl, hr, rfl⟩
  | r' :: rs, _, ⟨v', vs', e', h1, h2⟩ => by subst e'; exact ⟨v', vs' ++ [v], rfl, h1, RowL.snoc hr h2⟩
/-- a dict of rows: the word by the letter -/
def rkv (rs : List (Nat × Wd)) (us : List V) : List (Str × V) := (rs.map fun r => sgn r.1).zip us
def RowD (H : Hp) (q : Addr) (rs : List (Nat × Wd)) : Prop := ∃ us, H q = some (.dK (tK (rkv rs us))) ∧ WAts H (rs.map (·.2)) us
theorem RowD.same {H H' : Hp} {q : Addr} {rs : List (Nat × Wd)} (h : RowD H q rs) (s : Same H H') : RowD H' q rs :=
  let ⟨us, a, b⟩ := h; ⟨us, s _ _ a, WAts.mono (KT.of s) _ _ b⟩
theorem sgn_inj {a b : Nat} (h : sgn a = sgn b) : a = b := by
  have e : (#[a] : Array Nat) = #[b] := congrArg Str.cps h
  simpa using e
theorem rkv_len {H : Hp} {rs : List (Nat × Wd)} {us : List V} (h : WAts H (rs.map (·.2)) us) : (rkv rs us).length = rs.length := by
  unfold rkv
  rw [List.length_zip, List.length_map, WAts.length _ _ h, List.length_map, Nat.min_self]
theorem rows_get {H : Hp} : ∀ {rs : List (Nat × Wd)} {us : List V}, WAts H (rs.map (·.2)) us → ∀ c, (look rs c = none ∧ valV (tK (rkv rs us)) (.inr (sgn c)) = none) ∨ ∃ y v, look rs c = some y ∧ valV (tK (rkv rs us)) (.inr (sgn c)) = some v ∧ WAt H y v
  | [], us, h, c => .inl ⟨rfl, rfl⟩
  | r :: rs, us, h, c => by
    obtain ⟨v, us', rfl, h1, h2⟩ := h
    by_cases e : r.1 = c
    · subst e
      exact .inr ⟨r.2, v, by unfold look; rw [if_pos rfl], valV_pos rfl, h1⟩
    · have ne : ¬ ((Sum.inr (sgn r.1) : Key) = .inr (sgn c)) := fun z => e (sgn_inj (by injection z))
      have ev : valV (tK (rkv (r :: rs) (v :: us'))) (.inr (sgn c)) = valV (tK (rkv rs us')) (.inr (sgn c)) := by
        show valV ((Sum.inr (sgn r.1), v) :: tK (rkv rs us')) (.inr (sgn c)) = _
        unfold valV
        rw [List.find?_cons]
        dsimp only
        rw [decide_eq_false ne]
      have el : look (r :: rs) c = look rs c := by show (if r.1 = c then some r.2 else look rs c) = _; rw [if_neg e]
      rw [ev, el]
      exact rows_get h2 c
theorem rkv_new {H : Hp} : ∀ {rs : List (Nat × Wd)} {us : List V} {c : Nat}, WAts H (rs.map (·.2)) us → c ∉ rs.map (·.1) → ((tK (rkv rs us)).any fun kv => decide (kv.1 = .inr (sgn c))) = false
  | [], us, c, h, _ => rfl
  | r :: rs, us, c, h, n => by
    obtain ⟨v, us', rfl, h1, h2⟩ := h
    rw [List.map_cons, List.mem_cons, not_or] at n
    show (decide ((Sum.inr (sgn r.1) : Key) = .inr (sgn c)) || ((tK (rkv rs us')).any fun kv => decide (kv.1 = .inr (sgn c)))) = false
    rw [rkv_new h2 n.2, decide_eq_false fun z => n.1 (sgn_inj (by injection z)).symm]
    rfl
theorem rkv_snoc {H : Hp} {r : Nat × Wd} {v : V} : ∀ {rs : List (Nat × Wd)} {us : List V}, WAts H (rs.map (·.2)) us → rkv (rs ++ [r]) (us ++ [v]) = rkv rs us ++ [(sgn r.1, v)]
  | [], us, h => by rw [show us = [] from h]; rfl
  | a :: rs, us, h => by
    obtain ⟨u, us', rfl, h1, h2⟩ := h
    show (sgn a.1, u) :: rkv (rs ++ [r]) (us' ++ [v]) = _
    rw [rkv_snoc h2]
    rfl
/-- a row more -/
theorem rows_put {H : Hp} {rs : List (Nat × Wd)} {us : List V} {r : Nat × Wd} {v : V} (h : WAts H (rs.map (·.2)) us) (n : r.1 ∉ rs.map (·.1)) : putK (tK (rkv rs us)) (.inr (sgn r.1)) v = tK (rkv (rs ++ [r]) (us ++ [v])) := by
  unfold putK
  rw [if_neg (by rw [rkv_new h n]; decide), rkv_snoc h, show tK (rkv rs us ++ [(sgn r.1, v)]) = tK (rkv rs us) ++ [(Sum.inr (sgn r.1), v)] from List.map_append]
def sp_put_rows (n : Nat) : Sp := fun vs H Q _ => ∃ (v : V) (q : Addr) (w : Wd) (rs : List (Nat × Wd)), vs = [v, .ref q] ∧ WAt H w v ∧ w.ok ∧ w.places ≤ 2000 ∧ w.depth < n ∧ RowD H q rs ∧ rs.length ≤ 200 ∧
  ∀ (v' : V) (H' : Hp), Same H H' → WAt H' (w.put (look rs)) v' → Q v' H'
def sp_put_in (n : Nat) : Sp := fun vs H Q _ => ∃ (v r : V) (w : Wd) (rs : List (Nat × Wd)), vs = [v, r] ∧ WAt H w v ∧ w.ok ∧ w.places ≤ 2000 ∧ w.depth < n ∧ RowsAt H rs r ∧ GoodR 2000 60 rs ∧
  ∀ (v' : V) (H' : Hp), Same H H' → WAt H' (w.put (look rs)) v' → Q v' H'
def sp_choice (K : PySem.W.Frag) (n : Nat) : Sp := fun vs H Q _ => ∃ (p l : Addr) (xs : List Str) (m : Nat), vs = [.ref p, .ref l, .int m] ∧ Bag H p ∧ l ≠ p ∧ SqL K H l (xs.map V.str) ∧ xs.length ≤ 2000 ∧ (∀ x ∈ xs, ∃ c, x = sgn c ∧ 97 ≤ c ∧ c ≤ 122) ∧ 1 ≤ m ∧ m ≤ n ∧ m ≤ 100 ∧
  ∀ (v : V) (rs : List (Nat × Wd)) (H' : Hp), Drawn p H H' → RowsAt H' rs v → GoodR m (m - 1) rs → Q v H'
end EB
namespace GN
open PySem
end GN
namespace L2
open PySem PySem.Spec PyProof.Rows

def tabφ (P : Addr) : Heap → Prop := fun h => ∃ ps : Array Value, h.get? P = some (PySem.W.tabObj ps) ∧ TriplesOk ps.toList
abbrev tabO (P : Addr) : HO := .ext (tabφ P)
theorem tab_ok {Pr : Program} {w : World} {H : Hp} {h : Heap} {P : Addr} (x : tabφ P h) : ObjOk Pr w H h P (tabO P) :=
  ⟨x, let ⟨_, e, _⟩ := x; ⟨_, e⟩, fun _ _ ⟨ps, e, t⟩ k => ⟨ps, k _ e, t⟩⟩
/-- the module of the built-ins, as the globals name it -/
def BM (mg : Str → Option Value) (base : Heap) : Prop := ∃ bm ob, mg "__builtins__" = some (.ref bm) ∧ bm ≠ builtinsNs ∧ base.get? bm = some ob ∧ ob.cls = .type "module" ∧ ob.dict = some builtinsNs ∧ ob.data = .plain

/-- the context of a generator's body: its frame at cenv.locals, made at the state s -/
abbrev Cx.gen (X : Cx) (A : Around) (s : Shared) (H : Hp) (cenv : Env) (fp : List Addr) : Cx := { X with A := A, s_0 := s, H_0 := H, env := cenv, outer := X.stack, stack := cenv :: X.stack, ex := fp, fn := fun _ => false, pn := [], xe := fun _ _ => False }

section
variable {X : Cx} {pins : List (Addr × Obj)} {σ : St} {H : Hp} {s : Shared}
end
section
variable {X : Cx} {pins : List (Addr × Obj)} {σ : St} {H : Hp} {s : Shared}
end
end L2
namespace L2
open PySem PySem.Spec PyProof.Rows

section
variable {X : Cx} {s3 : Shared} {H3 : Hp} {ce : Env} {fp : List Addr} {A2 : Around} {elt tg iter : Expr} {scope : Scope} {pos : Pos} {it a : Addr} {go : Obj} {tn : Nat → Heap → Prop} {J : It} {g : TG} {te : TE} {vs : List Nat} {σ : St} {Q : VK} {W : Nat → Nat → Hp → Prop}

abbrev geC (elt tg iter : Expr) (scope : Scope) (pos : Pos) : Expr := .GeneratorExp elt [⟨tg, iter, [], 0⟩] scope pos

end
end L2
namespace L2
open PySem PySem.Spec PyProof.Rows
section
variable {X : Cx} {s3 : Shared} {H3 : Hp} {ce : Env} {fp : List Addr} {A2 A' : Around} {elt tg iter : Expr} {scope : Scope} {pos : Pos} {it a : Addr} {go : Obj} {tn : Nat → Heap → Prop} {J : It} {σ : St} {Q : VK}
end

theorem Room.gen {k : Nat} {A : Around} {elt tg iter : Expr} {scope : Scope} {pos : Pos} {it : Value} {ce : Env} (r : Room (k + 1) A) : Room k (A.in1.in1.over (.compLoop (geC elt tg iter scope pos) 0 it .none ce) []) :=
  ⟨r.hd, by have := r.dp; show A.depth + 0 + 1 + 3 * k + 5 < _; omega, by have := r.un; show A.units + 1 + 1 + 0 + 3 + 16 * k + 200 < _; omega⟩
section
variable {X : Cx}
end
end L2
namespace L2
open PySem PySem.Spec PyProof.Rows

def lamT0 (P : Addr) (pos : Pos) : Heap → Prop := fun h => ∃ ps : Array Value, h.get? P = some (PySem.W.tabObj ps) ∧ TriplesOk ps.toList ∧ codeAmong pos ps.toList = none
def lamT1 (P c : Addr) (pos : Pos) : Heap → Prop := fun h => ∃ ps : Array Value, h.get? P = some (PySem.W.tabObj ps) ∧ TriplesOk ps.toList ∧ codeAmong pos ps.toList = some (.ref c)
def lamC (c : Addr) (qual : Str) : Heap → Prop := fun h => h.CodeRec (.ref c) qual
theorem lamT0_ok {Pr : Program} {w : World} {H : Hp} {h : Heap} {P : Addr} {pos : Pos} (x : lamT0 P pos h) : ObjOk Pr w H h P (.ext (lamT0 P pos)) :=
  ⟨x, let ⟨_, e, _⟩ := x; ⟨_, e⟩, fun _ _ ⟨ps, e, t⟩ k => ⟨ps, k _ e, t⟩⟩
theorem lamT1_ok {Pr : Program} {w : World} {H : Hp} {h : Heap} {P c : Addr} {pos : Pos} (x : lamT1 P c pos h) : ObjOk Pr w H h P (.ext (lamT1 P c pos)) :=
  ⟨x, let ⟨_, e, _⟩ := x; ⟨_, e⟩, fun _ _ ⟨ps, e, t⟩ k => ⟨ps, k _ e, t⟩⟩
theorem lamC_ok {Pr : Program} {w : World} {H : Hp} {h : Heap} {c : Addr} {qual : Str} (x : lamC c qual h) : ObjOk Pr w H h c (.ext (lamC c qual)) := by
  refine ⟨x, ?_, fun h1 h2 y k => ?_⟩
  · obtain ⟨c', oc, vs, t, e, ho, _⟩ := x
    cases e
    exact ⟨_, ho⟩
  · obtain ⟨c', oc, vs, t, e, ho, r⟩ := y
    cases e
    exact ⟨c, oc, vs, t, rfl, k _ ho, r⟩
/-- the table is known: the lambda's record is not made yet, or it stands at c -/
def LamAt (P c : Addr) (pos : Pos) (qual : Str) (H : Hp) : Prop := H P = some (.ext (lamT1 P c pos)) ∧ H c = some (.ext (lamC c qual))
def LamT (P : Addr) (pos : Pos) (qual : Str) (H : Hp) : Prop := H P = some (.ext (lamT0 P pos)) ∨ ∃ c, LamAt P c pos qual H
/-- but for the table at P all stays -/
def SameP (P : Addr) (H H' : Hp) : Prop := ∀ b o, b ≠ P → H b = some o → H' b = some o

abbrev lamF (qual : Str) (params : Arguments) (body : Expr) (scope : Scope) (clos : List (Str × Addr)) (pm : Value) (c : Addr) (ctv : Value) : Obj := PySem.W.kla_obj "<lambda>" qual params body scope clos pm c ctv
abbrev lamE (qual : Str) (scope : Scope) (L f c : Addr) (clos : List (Str × Addr)) : Env := PySem.W.envX qual scope L f (.ref c) clos

section
variable {X : Cx} {pins : List (Addr × Obj)} {σ : St} {H : Hp} {s : Shared}
theorem lam_write {P c : Addr} {h' : Heap} {tk : Nat} {φ ψ : Heap → Prop} {o : HO} (I : Inv X pins σ H s) (hP : H P = some (.ext φ)) (hx : Heap.ExtBut P s.heap h') (hge : s.heap.objs.size ≤ c) (hp : ∃ u, h'.get? P = some u)
    (n1 : ObjOk X.prog X.w (upd (upd H P (.ext ψ)) c o) h' P (.ext ψ)) (n2 : ObjOk X.prog X.w (upd (upd H P (.ext ψ)) c o) h' c o) : Inv X pins σ (upd (upd H P (.ext ψ)) c o) { s with heap := h', toks := tk } := by
  have hc : H c = none := I.hok.fresh hge
  have pc : P ≠ c := ne_of_none hP hc
  have no : ∀ b u, H b = some u → u ≠ .ext φ → b ≠ P := fun b u e ne z => by subst z; rw [hP] at e; cases e; exact ne rfl
  have get : ∀ b u, H b = some u → b ≠ P → upd (upd H P (.ext ψ)) c o b = some u := fun b u e ne => by rw [upd_ne (ne_of_none e hc), upd_ne ne]; exact e
  have neP : ∀ b, H b = none → b ≠ P := fun b e z => by subst z; rw [hP] at e; cases e
  refine I.un ⟨fun b u e n _ _ => hx b u (neP b n) e, fun b u e n _ _ => ⟨u.slots, hx b u (neP b n) e⟩, fun b u e n _ => ?_, fun b u e _ => ?_, fun b xs e => get b _ e (no b _ e (by simp)), fun b u x e => get b _ e (no b _ e (by simp)), fun b ps e => ⟨#[], ?_⟩, fun b xs u e g _ => hx b u (no b _ e (by simp)) g⟩ fun b u e => ?_
  · have : b ≠ c := fun z => absurd (Nat.lt_of_lt_of_le (Heap.lt_size e) hge) (by rw [z]; exact Nat.lt_irrefl _)
    rw [upd_ne this, upd_ne (neP b n)]; exact n
  · by_cases hb : b = P
    · subst hb; exact hp
    · exact ⟨u, hx b u hb e⟩
  · rw [get b _ e (no b _ e (by simp))]; simp
  · by_cases hb : b = c
    · subst hb; rw [upd_same] at e; cases e; exact n2
    · rw [upd_ne hb] at e
      by_cases hb2 : b = P
      · subst hb2; rw [upd_same] at e; cases e; exact n1
      · rw [upd_ne hb2] at e
        refine (I.hok b u e).stay (fun d v hd q => hx d v ?_ q) (fun d q => get d _ q (no d _ q (by simp))) fun d xs q => get d _ q (no d _ q (by simp))
        rcases hd with z | z
        · rw [z]; exact hb2
        · exact no d _ z (by simp)

/-- the lambda is made: a function object, pinned -/
theorem lam_make {c P : Addr} {pos : Pos} {params : Arguments} {body : Expr} {scope : Scope} {E : Value → Shared → Prop} {Q : Value → Shared → Prop} {n : Nat} (I : Inv X pins σ H s) (hc : X.env.code = .ref c) (hk : PySem.W.codeHdIn X.K c P = true)
    (hT : LamT P pos (X.env.qual ++ "<lambda>") H) (hbm : BM X.mg X.base) (hfree : ∀ y ∈ scope.names, y.2 = .free → ∃ c, X.env.cells.lookup y.1 = some c)
    (q : ∀ c' f pm ctv H' s', s.heap.objs.size ≤ f → Inv X (pins ++ [(f, lamF (X.env.qual ++ "<lambda>") params body scope (cloFrom X.env.cells scope.names []) pm c' ctv)]) σ H' s' → SameP P H H' → LamAt P c' pos (X.env.qual ++ "<lambda>") H' → Q (.ref f) s') :
    wpAny (model X.prog X.w) X.A (makeFunction "<lambda>" (X.env.qual ++ "<lambda>") params (.expr body) scope X.env [] [] [] pos n) Q E s := by
  have hcl := closure_ok hfree
  have hd := PySem.W.codeHd_of_K I.kIn hk
  have hg := I.mod.glob.keeps I.bk
  obtain ⟨bm, ob, b1, b2, b3, b4, b5, b6⟩ := hbm
  have gb : mainGlobals ≠ bm := fun z => by
    obtain ⟨o, es, ep, e, hd, _⟩ := I.mod.glob
    rw [z, b3] at e; cases e; rw [b6] at hd; cases hd
  have untr : ∀ {b u}, X.base.get? b = some u → H b = none := fun {b u} e => (I.bs b u e).2
  have fin : ∀ {H' : Hp} {h' : Heap} {tk : Nat} {c' ctv pm}, Inv X pins σ H' { s with heap := h', toks := tk } → s.heap.objs.size ≤ h'.objs.size → SameP P H H' → LamAt P c' pos (X.env.qual ++ "<lambda>") H' →
      Q (.ref h'.objs.size) { s with heap := h'.push (lamF (X.env.qual ++ "<lambda>") params body scope (cloFrom X.env.cells scope.names []) pm c' ctv), toks := tk } := fun {H' h' tk c' ctv pm} J hsz sp la => by
    have J2 := J.kept (t' := tk) (h' := h'.push (lamF (X.env.qual ++ "<lambda>") params body scope (cloFrom X.env.cells scope.names []) pm c' ctv)) fun b u e => Heap.get?_push_of_some _ e
    refine q c' _ pm ctv H' _ hsz (J2.pins_of fun p hp => ?_) sp la
    rcases List.mem_append.mp hp with hp | hp
    · exact J2.pin p (List.mem_append_right _ hp)
    · rw [List.mem_singleton.mp hp]
      refine ⟨Heap.get?_push_size _ rfl, J.hok.fresh (Nat.le_refl _), Nat.ne_of_gt J.lt, J.nofs (Nat.le_refl _), fun v z => by cases z⟩
  rcases hT with hT | ⟨c', hT, hC⟩
  · obtain ⟨⟨ps, e, t, hnf⟩, _, _⟩ := I.hok P _ hT
    have neP : ∀ {b u}, X.base.get? b = some u → b ≠ P := fun {b u} e z => by have := untr e; rw [z, hT] at this; cases this
    have gP : mainGlobals ≠ P := by
      obtain ⟨o, es, ep, e, _⟩ := I.mod.glob
      exact neP e
    refine PySem.W.kla_makeFunction (mg := X.mg) hcl I.ok.glob hg hc (hd) e t hnf gP ⟨bm, ob, b1, b2, ?_, neP b3, I.bk _ _ b3, b4, b5, b6⟩ fun c' ctv h' tk hx hge hlt hrec htb => ?_
    · exact fun z => gb z.symm
    · refine fin (c' := c') (lam_write (ψ := lamT1 P c' pos) (o := .ext (lamC c' (X.env.qual ++ "<lambda>"))) I hT hx hge ⟨_, htb⟩ (lamT1_ok ⟨_, htb, ?_, ?_⟩) (lamC_ok hrec)) ?_ ?_ ⟨?_, upd_same⟩
      · rw [Array.toList_append]; exact TriplesOk_snoc _ _ _ _ t
      · rw [Array.toList_append]; exact codeAmong_snoc _ t hnf
      · exact Nat.le_trans hge (Nat.le_of_lt hlt)
      · intro b u hb e'
        rw [upd_ne (ne_of_none e' (I.hok.fresh hge)), upd_ne hb]; exact e'
      · rw [upd_ne (ne_of_none hT (I.hok.fresh hge)), upd_same]
  · obtain ⟨⟨ps, e, t, hf⟩, _, _⟩ := I.hok P _ hT
    have neP : ∀ {b u}, X.base.get? b = some u → b ≠ P := fun {b u} e z => by have := untr e; rw [z, hT] at this; cases this
    refine PySem.W.kla_makeFunctionHit (mg := X.mg) hcl I.ok.glob hg hc hd e t hf ⟨bm, ob, b1, b2, fun z => gb z.symm, neP b3, I.bk _ _ b3, b4, b5, b6⟩ fun ctv h' tk hk hsz => ?_
    exact fin (I.kept (t' := tk) hk) hsz (fun _ _ _ e => e) ⟨hT, hC⟩
end

/-- the context of a lambda's body -/
abbrev Cx.lam (X : Cx) (A : Around) (s : Shared) (H : Hp) (cenv : Env) : Cx := { X with A := A.deeper cenv, s_0 := s, H_0 := H, env := cenv, outer := X.stack, stack := cenv :: X.stack, ex := [], fn := fun _ => false, pn := [], calm := true, xe := fun _ _ => False }
section
variable {X : Cx} {pins : List (Addr × Obj)} {σ : St} {H : Hp} {s : Shared}
theorem lam_start {scope : Scope} {y : Str} {i : Nat} {A : Around} {f c : Addr} {qual : Str} {h' : Heap} {tk : Nat} {v : V} {u : Value} (I : Inv X pins σ H s) (ok : BlkOk X.N X.env.scope scope [(y, i)]) (hN : X.N.Nodup) (hcl : ∀ y ∈ scope.names, y.2 ≠ .cell) (hy : scope.names.lookup y = some .local)
    (hfr : A.frames = some X.stack) (hhd : A.handled = none)
    (hn : h'.Ns s.heap.objs.size fun z => [(y, u)].reverse.lookup z) (hs : Heap.SameBut s.heap.objs.size (s.heap.push { cls := .type "frame", data := .dict #[] }) h') (r : RelV v u) :
    Inv (X.lam A s H (lamE qual scope s.heap.objs.size f c (cloFrom X.env.cells scope.names []))) [] ((wipe σ [i]).set i (some v)) H { s with toks := tk, heap := h' } := by
  have hfree : ∀ y ∈ scope.names, y.2 = .free → ∃ c, X.env.cells.lookup y.1 = some c := fun y hy e => by
    rcases ok.free y hy e with k | k
    · exact I.ok.has _ (.inl k)
    · exact I.ok.has _ (.inr k)
  generalize hcenv : lamE qual scope s.heap.objs.size f c (cloFrom X.env.cells scope.names []) = cenv
  have kp : ∀ b o, s.heap.get? b = some o → h'.get? b = some o := fun b o e => hs.extBut b o (Nat.ne_of_lt (Heap.lt_size e)) (Heap.get?_push_of_some _ e)
  have hsz : h'.objs.size = s.heap.objs.size + 1 := by rw [hs.1, Heap.size_push]
  have hL : cenv.locals = s.heap.objs.size := by rw [← hcenv]
  have hcc : cenv.cells = cloFrom X.env.cells scope.names [] := by rw [← hcenv]
  have hsc : cenv.scope = scope := by rw [← hcenv]
  have cm : ∀ {y c}, (y, c) ∈ cloFrom X.env.cells scope.names [] → X.env.cells.lookup y = some c ∧ c < s.heap.objs.size := fun {y c} hm => by
    rcases cloFrom_mem hm with hm | ⟨h1, rfl⟩
    · cases hm
    · obtain ⟨c, hc⟩ := hfree _ h1 rfl
      rw [hc]
      obtain ⟨w, z⟩ := I.cell _ _ hc
      exact ⟨rfl, z.lt⟩
  have mem : ∀ {y c}, cenv.cells.lookup y = some c → X.env.cells.lookup y = some c ∧ c < s.heap.objs.size := fun {y c} e => by
    rw [hcc] at e
    exact cm (PySem.mem_of_lookup e)
  have look : ∀ {y}, scope.names.lookup y = some .free → ∃ c, cenv.cells.lookup y = some c ∧ X.env.cells.lookup y = some c := fun {y} hl => by
    have hy : (y, NameKind.free) ∈ scope.names := PySem.mem_of_lookup hl
    obtain ⟨c', e'⟩ := mem_lookup (cloFrom_has (cells := X.env.cells) (acc := []) hy)
    rw [← hcc] at e'
    exact ⟨c', e', (mem e').1⟩
  have hiN : X.N[i]? = some y := ok.ix (y, i) (List.mem_singleton.mpr rfl)
  have okG : (X.lam A s H cenv).Ok := by
    refine ⟨I.ok.mod, by show cenv.scope.kind = _; rw [hsc]; exact ok.kind, by show cenv.globals = _; rw [← hcenv], by show cenv.builtins = _; rw [← hcenv], by show s.heap.objs.size ≤ cenv.locals; rw [hL]; exact Nat.le_refl _,
      fun y z c e1 e2 => I.ok.inj y z c (mem e1).1 (mem e2).1, fun y hy => ?_, fun y c z e => (by cases z), fun _ => hhd, Around.frames_deeper hfr, .inr ⟨rfl, by show cenv.frame = some cenv.locals; rw [← hcenv]⟩, fun b hb => absurd (show b ∈ ([] : List Addr) from hb) (by simp), I.bs, Nat.le_trans I.ok.bsz I.sz, fun b o e hb => absurd (show b ∈ ([] : List Addr) from hb) (by simp), fun b hb z => absurd (show b ∈ ([] : List Addr) from hb) (by simp), I.stack, I.stkFree⟩
    · show ∃ c, cenv.cells.lookup y = some c
      have key : ∀ k, cenv.scope.names.lookup y = some k → (k = .cell ∨ k = .free) → ∃ c, cenv.cells.lookup y = some c := fun k hk hk' => by
        rw [hsc] at hk
        rcases hk' with rfl | rfl
        · exact absurd rfl (hcl _ (PySem.mem_of_lookup hk))
        · obtain ⟨c, h1, _⟩ := look hk
          exact ⟨c, h1⟩
      rcases hy with hy | hy
      · exact key _ hy (.inl rfl)
      · exact key _ hy (.inr rfl)
  refine ⟨okG, rfl, I.bare, Un.kept kp, ⟨_, by show Heap.Ns _ cenv.locals _; rw [hL]; exact hn, fun j x av e1 e2 e3 => ?_⟩, fun y c e => ?_, ?_, fun y c e => ?_, fun p hp => absurd (show p ∈ ([] : List (Addr × Obj)) from hp) (by simp), I.hok.kept kp, by rw [List.length_set, wipe_length]; exact I.len⟩
  · by_cases hj : j = i
    · subst hj
      have e1 : X.N[j]? = some x := e1
      rw [hiN] at e1; cases e1
      have lt : j < (wipe σ [j]).length := by rw [wipe_length, I.len]; exact (List.getElem?_eq_some_iff.mp hiN).1
      rw [List.getElem?_set_self lt] at e2; cases e2
      refine ⟨u, r, .inl ⟨?_, ?_⟩⟩
      · show cenv.scope.names.lookup _ = _; rw [hsc]; exact hy
      · simp
    · rw [List.getElem?_set_ne (Ne.symm hj)] at e2
      obtain ⟨e2, hne⟩ := wipe_some e2
      have hfr2 : scope.names.lookup x = some .free ∧ cenv.kindOf x = some .free := by
        have key : ∀ k, cenv.scope.names.lookup x = some k → k = .local ∨ k = .cell ∨ k = .free → scope.names.lookup x = some .free ∧ cenv.kindOf x = some .free := fun k hk hk' => by
          have hk0 := hk
          rw [hsc] at hk
          have no : ¬ (k = .local ∨ k = .cell) := fun hh => by
            rcases ok.own _ (PySem.mem_of_lookup hk) hh with e' | e'
            · obtain ⟨p, hp, hpy⟩ := List.mem_map.mp e'
              have e3 := ok.ix p hp
              have : p.1 = x := hpy
              rw [this] at e3
              exact hne (List.mem_map.mpr ⟨p, hp, nodup_ix hN e3 e1⟩)
            · exact e' (List.mem_of_getElem? e1)
          rcases hk' with rfl | rfl | rfl
          · exact absurd (.inl rfl) no
          · exact absurd (.inr rfl) no
          · exact ⟨hk, hk0⟩
        have e3 : Vis cenv.scope x := e3
        rcases e3 with e3 | e3 | e3
        · exact key _ e3 (.inl rfl)
        · exact key _ e3 (.inr (.inl rfl))
        · exact key _ e3 (.inr (.inr rfl))
      obtain ⟨m, hn, hl⟩ := I.loc
      have hvis : Vis X.env.scope x := (ok.free _ (PySem.mem_of_lookup hfr2.1) rfl).elim (fun k => .inr (.inl k)) (fun k => .inr (.inr k))
      obtain ⟨w, r, q⟩ := hl j x av e1 e2 hvis
      refine ⟨w, r, .inr ⟨.inr hfr2.2, ?_⟩⟩
      obtain ⟨c, h1, h2⟩ := look hfr2.1
      rcases q with ⟨k, _⟩ | ⟨_, c', e', z⟩
      · have k : X.env.scope.names.lookup x = some .local := k
        rcases ok.free _ (PySem.mem_of_lookup hfr2.1) rfl with k' | k' <;> rw [show X.env.scope.names.lookup x = _ from k'] at k <;> cases k
      · rw [h2] at e'; cases e'
        exact ⟨c, h1, z.keeps kp⟩
  · obtain ⟨w, z⟩ := I.cell y c (mem e).1
    exact ⟨w, z.keeps kp⟩
  · show H cenv.locals = none
    rw [hL]; exact I.hok.fresh (Nat.le_refl _)
  · exact I.freeC y c (mem e).1
/-- the lambda is called with one value -/
theorem lam_call {A : Around} {f c : Addr} {ctv pm : Value} {y : Str} {i : Nat} {scope : Scope} {qual : Str} {body : Expr} {params : Arguments} {te : TE} {k : Nat} {v : V} {u : Value} {Q : VK} (I : Inv X pins σ H s)
    (hp : (f, lamF qual params body scope (cloFrom X.env.cells scope.names []) pm c ctv) ∈ pins) (hcd : H c = some (.ext (lamC c qual))) (hfr : A.frames = some X.stack) (hr : Room (k + 1) A)
    (ok : BlkOk X.N X.env.scope scope [(y, i)]) (hN : X.N.Nodup) (hcl : ∀ y ∈ scope.names, y.2 ≠ .cell) (hy : scope.names.lookup y = some .local) (hco : scope.isCoroutine = false) (hgen : scope.isGenerator = false)
    (hbind : ∀ u, bindArgs (PySem.W.kla_fn "<lambda>" qual params body scope (cloFrom X.env.cells scope.names []) pm (.ref c) ctv) ⟨[u], []⟩ = pure [(y, u)])
    (he : ∀ (A' : Around) (s : Shared) (H : Hp) (ql : Str) (L f' c' : Addr) (cl : List (Str × Addr)), Room k (A'.deeper (lamE ql scope L f' c' cl)) → PE (X.lam A' s H (lamE ql scope L f' c' cl)) body te)
    (r : RelV v u) (h : te ((wipe σ [i]).set i (some v)) H Q) :
    wpAny (model X.prog X.w) A (call (.ref f) [u]) (fun x s' => ∃ z H', RelV z x ∧ Inv X pins σ H' s' ∧ Q z H') (fun _ _ => False) s := by
  refine wpAny_call ?_
  have pin := I.pin _ (List.mem_append_right _ hp)
  have hC : s.heap.CodeRec (.ref c) qual := (I.hok c _ hcd).1
  refine PySem.W.kla_callFunE hr.depth pin.1 rfl hco hgen rfl hC ?_
  rw [hbind]
  refine wpAny_pure (wpAny_newFunctionEnv hcl (fun x hx => by rw [List.mem_singleton.mp hx]; exact hy) (fun h' hn hs => ⟨I.nolimit.fresh _ hs, ?_⟩) ok.kind)
  show codeAny _ _ (.expr body (lamE qual scope s.heap.objs.size f c (cloFrom X.env.cells scope.names []))) _ _
  have I2 := lam_start (f := f) (c := c) (qual := qual) (tk := s.toks + 1) I ok hN hcl hy hfr hr.hd hn hs r
  refine PySem.W.kla_codeExpr (wpAny_mono (he A s H qual s.heap.objs.size f c (cloFrom X.env.cells scope.names []) (hr.deeper _) [] _ _ H Q I2 h) (fun x s' ⟨z, H', J, rv, q⟩ => ?_) fun _ _ z => z.elim)
  exact ⟨z, H', rv, I.call' (ch := []) J.os J.base J.hok J.bare fun b hb => absurd hb (by simp), q⟩
end
end L2
namespace L2
open PySem PySem.Spec PyProof.Rows

section
variable {X : Cx} {pins : List (Addr × Obj)} {σ : St} {H : Hp} {s : Shared}
/-- the object of one pin changes -/
theorem Inv.repin {pins1 pins2 : List (Addr × Obj)} {a : Addr} {o o' : Obj} {h' : Heap} {tk : Nat} (I : Inv X (pins1 ++ (a, o) :: pins2) σ H s) (k : ∀ b u, b ≠ a → s.heap.get? b = some u → h'.get? b = some u) (e : h'.get? a = some o') (hn : ∀ v, o'.data ≠ .cell v)
    (h0 : X.s_0.heap.objs.size ≤ a) (hd : ∀ p ∈ X.pn ++ (pins1 ++ pins2), p.1 ≠ a) : Inv X (pins1 ++ (a, o') :: pins2) σ H { s with heap := h', toks := tk } := by
  have pa := I.pin (a, o) (List.mem_append_right _ (List.mem_append_right _ (.head _)))
  have J : Inv X (pins1 ++ pins2) σ H { s with heap := h', toks := tk } := by
    refine (I.pins_of (pins' := pins1 ++ pins2) fun p hp => I.pin p (List.mem_append_right _ ?_)).turned (it := a) k pa.2.1 pa.2.2.1 (.inr h0) (fun x c ec z => ?_) hd
    · rcases List.mem_append.mp hp with hp | hp
      · exact List.mem_append_left _ hp
      · exact List.mem_append_right _ (.tail _ hp)
    · obtain ⟨v, ob, ho, hdt⟩ := I.cell x c ec
      rw [z, pa.1] at ho
      cases ho
      exact pa.2.2.2.2 v hdt
  refine J.pins_of fun p hp => ?_
  rcases List.mem_append.mp hp with hp | hp
  · exact J.pin p (List.mem_append_right _ (List.mem_append_left _ hp))
  · rcases List.mem_cons.mp hp with rfl | hp
    · exact ⟨e, pa.2.1, pa.2.2.1, pa.2.2.2.1, hn⟩
    · exact J.pin p (List.mem_append_right _ (List.mem_append_right _ hp))
/-- an object is pinned that was made just now -/
theorem Inv.pinNew {o : Obj} {tk : Nat} (I : Inv X pins σ H s) (hf : o.isFreed = false) (hn : ∀ v, o.data ≠ .cell v) : Inv X (pins ++ [(s.heap.objs.size, o)]) σ H { s with heap := s.heap.push o, toks := tk } := by
  have J := I.kept (t' := tk) (h' := s.heap.push o) fun b u e => Heap.get?_push_of_some _ e
  refine J.pins_of fun p hp => ?_
  rcases List.mem_append.mp hp with hp | hp
  · exact J.pin p (List.mem_append_right _ hp)
  · rw [List.mem_singleton.mp hp]
    exact ⟨Heap.get?_push_size _ hf, I.hok.fresh (Nat.le_refl _), Nat.ne_of_gt I.lt, I.nofs (Nat.le_refl _), hn⟩
theorem Inv.unpin1 {q : List (Addr × Obj)} (I : Inv X (pins ++ q) σ H s) : Inv X pins σ H s := I.pins_of fun p hp => I.pin p (List.mem_append_right _ (List.mem_append_left _ hp))
theorem Inv.pinLt (I : Inv X pins σ H s) {p : Addr × Obj} (hp : p ∈ X.pn ++ pins) : p.1 < s.heap.objs.size := Heap.lt_size (I.pin p hp).1

end
section
variable {X : Cx}
end
end L2
namespace L2
open PySem PySem.Spec PyProof.Rows

theorem paired_perm {α β : Type} {R : α → β → Prop} {B B' : List β} (p : B'.Perm B) : ∀ {A : List α}, Paired R A B → ∃ A', A'.Perm A ∧ Paired R A' B' := by
  induction p with
  | nil => intro A h; exact ⟨A, .refl _, h⟩
  | cons b p ih =>
    intro A h
    cases h with
    | cons r t =>
      obtain ⟨A', p', q'⟩ := ih t
      exact ⟨_ :: A', p'.cons _, .cons r q'⟩
  | swap b c l =>
    intro A h
    cases h with
    | cons r t =>
      cases t with
      | cons r2 t2 => exact ⟨_ :: _ :: _, .swap _ _ _, .cons r2 (.cons r t2)⟩
  | trans p q ih1 ih2 =>
    intro A h
    obtain ⟨A', p', q'⟩ := ih2 h
    obtain ⟨A'', p'', q''⟩ := ih1 q'
    exact ⟨A'', p''.trans p', q''⟩
/-- a key and a thing, as values -/
def KyV (a : Str × V) (b : Value × Value) : Prop := (∃ t, b.1 = .str a.1 t) ∧ RelV a.2 b.2
theorem kyv_zip : ∀ {ks : List Str} {xs : List V} {keys vs : List Value}, StrsAre keys ks → Vals xs vs → Paired KyV (ks.zip xs) (keys.zip vs)
  | _, _, _, _, .nil, _ => .nil
  | _, _, _, _, .cons _ _ _, .nil => .nil
  | _, _, _, _, .cons k t h, .cons r q => .cons ⟨⟨t, rfl⟩, r⟩ (kyv_zip h q)
theorem kyv_snd : ∀ {ps : List (Str × V)} {qs : List (Value × Value)}, Paired KyV ps qs → Vals (ps.map (·.2)) (qs.map (·.2))
  | _, _, .nil => .nil
  | _, _, .cons r t => .cons r.2 (kyv_snd t)
theorem paired_at {α β : Type} {R : α → β → Prop} : ∀ {A : List α} {B : List β} {i : Nat} {b : β}, Paired R A B → B[i]? = some b → ∃ a, A[i]? = some a ∧ R a b
  | _, _, 0, _, .cons r t, h => by cases h; exact ⟨_, rfl, r⟩
  | _, _, i + 1, _, .cons r t, h => by
    obtain ⟨a, e, q⟩ := paired_at (i := i) t (by simpa using h)
    exact ⟨a, by simpa using e, q⟩
/-- what a sort by texts comes to -/
theorem sortk_out {keys vs : List Value} {ks : List Str} {xs : List V} (hk : StrsAre keys ks) (hv : Vals xs vs) {arr : Array Keyed} (hp : arr.Perm (keys.toArray.zip vs.toArray)) (hs : SortedToK strKind arr arr.size) :
    ∃ ps : List (Str × V), ps.Perm (ks.zip xs) ∧ sortedS (ps.map (·.1)) = true ∧ Vals (ps.map (·.2)) (arr.map (·.2)).toList := by
  have hl : arr.toList.Perm (keys.zip vs) := by
    have := Array.perm_iff_toList_perm.mp hp
    simpa using this
  obtain ⟨ps, p1, p2⟩ := paired_perm hl (kyv_zip hk hv)
  refine ⟨ps, p1, sortedS_of_pairwise _ ?_, by rw [Array.toList_map]; exact kyv_snd p2⟩
  have pl := p2.length
  rw [List.pairwise_iff_getElem]
  intro i j hi hj hij
  have hi' : i < arr.size := by rw [List.length_map, pl] at hi; simpa using hi
  have hj' : j < arr.size := by rw [List.length_map, pl] at hj; simpa using hj
  have h1 := hs i j (Nat.le_of_lt hij) hj'
  obtain ⟨a, ea, ⟨t, ka⟩, _⟩ := paired_at p2 (i := i) (b := arr[i]) (by simp [hi'])
  obtain ⟨b, eb, ⟨u, kb⟩, _⟩ := paired_at p2 (i := j) (b := arr[j]) (by simp [hj'])
  rw [KK_str hi' (x := a.1) (t := t) (q := arr[i].2) (Prod.ext ka rfl), KK_str hj' (x := b.1) (t := u) (q := arr[j].2) (Prod.ext kb rfl)] at h1
  change decide (b.1.cps.toList < a.1.cps.toList) = false at h1
  have e1 : (ps.map (·.1))[i] = a.1 := by
    have : ps[i]? = some a := ea
    rw [List.getElem_map]
    rw [List.getElem?_eq_some_iff] at this
    obtain ⟨_, e⟩ := this; rw [e]
  have e2 : (ps.map (·.1))[j] = b.1 := by
    have : ps[j]? = some b := eb
    rw [List.getElem_map]
    rw [List.getElem?_eq_some_iff] at this
    obtain ⟨_, e⟩ := this; rw [e]
  rw [e1, e2, ltCps_eq]
  exact h1

section
variable {X : Cx} {pins : List (Addr × Obj)} {σ : St} {H : Hp} {s : Shared} {E : Value → Shared → Prop} {A : Around}
/-- a pinned list is tracked -/
theorem Inv.track {D : Addr} {out : List Value} {c : Nat} {xs : List V} (I : Inv X (pins ++ [(D, seqObj "list" out.toArray c)]) σ H s) (hz : xs.length ≤ sizeLine) (r : Vals xs out) (h0 : X.s_0.heap.objs.size ≤ D) (hd : ∀ p ∈ X.pn ++ pins, p.1 ≠ D) : Inv X pins σ (upd H D (.lst xs)) s := by
  have pd := I.pin (D, seqObj "list" out.toArray c) (List.mem_append_right _ (List.mem_append_right _ (.head _)))
  have nD : H D = none := pd.2.1
  have lt : ∀ b o, X.s_0.heap.get? b = some o → b ≠ D := fun b o e z => absurd (Nat.lt_of_lt_of_le (Heap.lt_size e) h0) (by rw [z]; exact Nat.lt_irrefl _)
  have up : ∀ b u, H b = some u → upd H D (.lst xs) b = some u := fun b u e => by rw [upd_ne (ne_of_none e nD)]; exact e
  refine ⟨I.ok, I.os, I.bare, ⟨I.base.keep, I.base.slot, fun b o e n hx => ?_, I.base.there, fun b x e => up b _ (I.base.tups b x e), fun b o u e => up b _ (I.base.frzs b o u e), fun b ps e => ?_, I.base.tupo⟩, I.loc, I.cell, ?_, fun x c ec => ?_, fun p hp => ?_, fun b u e => ?_, I.len⟩
  · rw [upd_ne (lt b o e)]; exact I.base.free b o e n hx
  · obtain ⟨m, e⟩ := I.base.tbls b ps e
    exact ⟨m, up b _ e⟩
  · rw [upd_ne (Ne.symm pd.2.2.1)]; exact I.free
  · have : c ≠ D := fun z => by
      obtain ⟨v, ob, ho, hdt⟩ := I.cell x c ec
      rw [z, pd.1] at ho; cases ho
      exact pd.2.2.2.2 v hdt
    rw [upd_ne this]; exact I.freeC x c ec
  · have q := I.pin p (by rw [← List.append_assoc]; exact List.mem_append_left _ hp)
    exact ⟨q.1, by rw [upd_ne (hd p hp)]; exact q.2.1, q.2.2⟩
  · by_cases hb : b = D
    · subst hb; rw [upd_same] at e; cases e
      exact ⟨hz, out, c, r, pd.1⟩
    · rw [upd_ne hb] at e
      exact (I.hok b u e).stay (fun _ _ _ q => q) (fun d q => up d _ q) fun d x q => up d _ q

/-- the sort of a list's things by the texts that a function tells of them -/
theorem sortk_tail {D kS : Addr} {keys : List Value} {vs : List Value} {e e1 : Nat} {ks : List Str} {xs : List V} {st : SortSt} {Pq : Fin → Shared → Prop} (I : Inv X (pins ++ [(kS, seqObj "list" keys.toArray e), (D, seqObj "list" #[] e1)]) σ H s) (hka : kS ≠ D)
    (h0k : X.s_0.heap.objs.size ≤ kS) (h0D : X.s_0.heap.objs.size ≤ D) (hnk : ∀ p ∈ X.pn ++ pins, p.1 ≠ kS) (hnD : ∀ p ∈ X.pn ++ pins, p.1 ≠ D)
    (hk : StrsAre keys ks) (hv : Vals xs vs) (hlen : keys.length = vs.length) (hZ : vs.length ≤ sizeLine) (hp : (arrOf st).Perm (keys.toArray.zip vs.toArray)) (hs : SortedToK strKind (arrOf st) (arrOf st).size) (hfl : failedOf st = none)
    (h : ∀ (ps : List (Str × V)) s', ps.Perm (ks.zip xs) → sortedS (ps.map (·.1)) = true → Inv X pins σ (upd H D (.lst (ps.map (·.2)))) s' → Pq (.done (.ret .none)) s') :
    wpAny (model X.prog X.w) A (ksk_tail D false e1 (.ref kS) st) Pq E s := by
  have hZ2 := hZ
  rw [sizeLine_eq] at hZ2
  have nk := I.pin (kS, seqObj "list" keys.toArray e) (List.mem_append_right _ (List.mem_append_right _ (.head _)))
  have na := I.pin (D, seqObj "list" #[] e1) (List.mem_append_right _ (List.mem_append_right _ (.tail _ (.head _))))
  have hsz2 : (arrOf st).size = vs.length := by rw [hp.size_eq, Array.size_zip, List.size_toArray, List.size_toArray, hlen, Nat.min_self]
  have hout : ((arrOf st).map (·.2)).size = vs.length := by rw [Array.size_map]; exact hsz2
  have s1 := Heap.SameBut.update s.heap kS (Obj.mapSeq fun _ => (#[] : Array Value))
  have na1 : (s.heap.update kS (Obj.mapSeq fun _ => (#[] : Array Value))).get? D = some (seqObj "list" #[] e1) := (s1.2 D hka.symm).trans na.1
  obtain ⟨c1, hc1⟩ : ∃ c1, (s.heap.update kS (Obj.mapSeq fun _ => (#[] : Array Value))).get? kS = some (seqObj "list" #[] c1) := ⟨_, get?_update_seq nk.1 fun _ => #[]⟩
  have s2 := Heap.SameBut.update (s.heap.update kS (Obj.mapSeq fun _ => (#[] : Array Value))) D (Obj.mapSeq fun _ => (arrOf st).map (·.2))
  obtain ⟨c2, hc2⟩ : ∃ c2, ((s.heap.update kS (Obj.mapSeq fun _ => (#[] : Array Value))).update D (Obj.mapSeq fun _ => (arrOf st).map (·.2))).get? D = some (seqObj "list" ((arrOf st).map (·.2)) c2) :=
    ⟨_, get?_update_seq na1 fun _ => (arrOf st).map (·.2)⟩
  unfold ksk_tail
  try dsimp only
  refine wpAny_bind (listUpdate_at nk.1 rfl ?_ (by rw [List.size_toArray, hlen, sizeLine_eq]; omega) (Nat.zero_le _))
  refine wpAny_bind (wpAny_letGo ?_)
  refine wpAny_bind (seqEpoch_at na1 rfl ?_)
  refine wpAny_bind (listUpdate_at na1 rfl ?_ (Nat.zero_le _) (Nat.le_trans (Nat.le_of_eq (by first | exact hout | simpa using hout)) (by rw [sizeLine_eq]; omega)))
  rw [hfl]
  simp only [bne_self_eq_false, Bool.false_eq_true, if_false]
  obtain ⟨ps, p1, p2, p3⟩ := sortk_out hk hv hp hs
  have I1 : Inv X (pins ++ [(kS, seqObj "list" #[] c1), (D, seqObj "list" #[] e1)]) σ H { s with heap := s.heap.update kS (Obj.mapSeq fun _ => (#[] : Array Value)), toks := s.toks } :=
    I.repin (tk := s.toks) (fun b u hb q => (s1.2 b hb).trans q) hc1 (fun v z => by cases z) h0k (fun p hp => by
      rw [← List.append_assoc] at hp
      rcases List.mem_append.mp hp with hp | hp
      · exact hnk p hp
      · rw [List.mem_singleton.mp hp]; exact hka.symm)
  have I2 : Inv X ((pins ++ [(kS, seqObj "list" #[] c1)]) ++ [(D, seqObj "list" ((arrOf st).map (·.2)) c2)]) σ H { s with heap := (s.heap.update kS (Obj.mapSeq fun _ => (#[] : Array Value))).update D (Obj.mapSeq fun _ => (arrOf st).map (·.2)), toks := s.toks } := by
    have I1' : Inv X ((pins ++ [(kS, seqObj "list" #[] c1)]) ++ (D, seqObj "list" #[] e1) :: []) σ H { s with heap := s.heap.update kS (Obj.mapSeq fun _ => (#[] : Array Value)), toks := s.toks } := by simpa using I1
    exact I1'.repin (pins2 := []) (tk := s.toks) (fun b u hb q => (s2.2 b hb).trans q) hc2 (fun v z => by cases z) h0D (fun p hp => by
      rw [List.append_nil, ← List.append_assoc] at hp
      rcases List.mem_append.mp hp with hp | hp
      · exact hnD p hp
      · rw [List.mem_singleton.mp hp]; exact hka)
  have I3 : Inv X (pins ++ [(D, seqObj "list" ((arrOf st).map (·.2)).toList.toArray c2)]) σ H { s with heap := (s.heap.update kS (Obj.mapSeq fun _ => (#[] : Array Value))).update D (Obj.mapSeq fun _ => (arrOf st).map (·.2)), toks := s.toks } :=
    I2.pins_of fun p hp => I2.pin p (List.mem_append_right _ (by
      rw [Array.toArray_toList] at hp
      rcases List.mem_append.mp hp with hp | hp
      · exact List.mem_append_left _ (List.mem_append_left _ hp)
      · exact List.mem_append_right _ hp))
  have hz3 : (ps.map (·.2)).length ≤ sizeLine := by
    rw [p3.length, Array.length_toList, hout]; exact hZ
  exact wpAny_pure (h ps _ p1 p2 (I3.track hz3 p3 h0D hnD))

theorem sortk_end {D kS : Addr} {keys : List Value} {vs : List Value} {e e1 : Nat} {ks : List Str} {xs : List V} {Pq : Fin → Shared → Prop} (I : Inv X (pins ++ [(kS, seqObj "list" keys.toArray e), (D, seqObj "list" #[] e1)]) σ H s) (hka : kS ≠ D)
    (h0k : X.s_0.heap.objs.size ≤ kS) (h0D : X.s_0.heap.objs.size ≤ D) (hnk : ∀ p ∈ X.pn ++ pins, p.1 ≠ kS) (hnD : ∀ p ∈ X.pn ++ pins, p.1 ≠ D)
    (hk : StrsAre keys ks) (hv : Vals xs vs) (hlen : keys.length = vs.length) (hZ : vs.length ≤ sizeLine)
    (h : ∀ (ps : List (Str × V)) s', ps.Perm (ks.zip xs) → sortedS (ps.map (·.1)) = true → Inv X pins σ (upd H D (.lst (ps.map (·.2)))) s' → Pq (.done (.ret .none)) s') :
    wpAny (model X.prog X.w) A (ksk_end D false vs.toArray e1 (.ref kS) keys.toArray) Pq E s := by
  have hZ2 := hZ
  rw [sizeLine_eq] at hZ2
  have hzs : (keys.toArray.zip vs.toArray).size = vs.length := by rw [Array.size_zip, List.size_toArray, List.size_toArray, hlen, Nat.min_self]
  unfold ksk_end
  simp only [Bool.false_eq_true, if_false]
  by_cases h2 : vs.toArray.size < 2
  · rw [if_pos h2, if_pos h2]
    refine wpAny_bind (wpAny_pure ?_)
    rw [StateT.run_pure]
    refine wpAny_bind (wpAny_pure ?_)
    try dsimp only
    refine sortk_tail (st := SortSt.mk' general' (keys.toArray.zip vs.toArray) #[] 7 none) I hka h0k h0D hnk hnD hk hv hlen hZ (Array.Perm.refl _) ?_ rfl h
    intro i j hij hj
    have hj2 : j < (keys.toArray.zip vs.toArray).size := hj
    rw [hzs] at hj2
    rw [List.size_toArray] at h2
    have : i = j := by omega
    subst this
    exact strKind.toKeyOrd.kle_refl _
  · rw [if_neg h2, if_neg h2]
    rw [List.size_toArray] at h2
    have hkk : keyKind' keys.toArray = pure oneType' := by
      match keys, hk, hlen with
      | [], _, hlen => rw [List.length_nil] at hlen; omega
      | [_], _, hlen => rw [List.length_singleton] at hlen; omega
      | v₁ :: v₂ :: rest, hk, _ => exact keyKind_strs hk
    rw [hkk]
    refine wpAny_bind (wpAny_pure ?_)
    have hKO : KeysOf strKind (keys.toArray.zip vs.toArray) := by
      intro p hp
      have hp : p ∈ keys.zip vs := by simpa using hp
      have : p.1 ∈ keys := (List.of_mem_zip (a := p.1) (b := p.2) hp).1
      obtain ⟨x, t, e⟩ := hk.all _ this
      exact ⟨x.cps.toList, by rw [e]⟩
    refine wpAny_bind (wpAny_mono (wpS_sortRunsAny (κ := strKind) (a₀ := keys.toArray.zip vs.toArray) (st := SortSt.mk' oneType' (keys.toArray.zip vs.toArray) #[] 7 none)
      (Q := fun _ st' => (arrOf st').Perm (keys.toArray.zip vs.toArray) ∧ failedOf st' = none ∧ SortedToK strKind (arrOf st') (keys.toArray.zip vs.toArray).size)
      strKind_oneLt hKO ⟨Array.Perm.refl _, rfl, rfl⟩ rfl (by rw [hzs]; omega) fun st' a1 a2 a3 => ⟨a1, a2, a3⟩) ?_ fun _ _ e => e)
    rintro ⟨⟨⟩, st'⟩ s' ⟨rfl, hp, hf, hs⟩
    try dsimp only
    exact sortk_tail I hka h0k h0D hnk hnD hk hv hlen hZ hp (by rw [hp.size_eq]; exact hs) hf h

theorem strs_snoc {x : Str} {t : Tok} : ∀ {vs : List Value} {ss : List Str}, StrsAre vs ss → StrsAre (vs ++ [.str x t]) (ss ++ [x])
  | _, _, .nil => .cons x t .nil
  | _, _, .cons y u h => .cons y u (strs_snoc h)
theorem sortk_rest {D kS f : Addr} {vs : List Value} {e1 : Nat} {ks : List Str} {xs : List V} {Pq : Fin → Shared → Prop} (I : Inv X (pins ++ [(kS, seqObj "list" #[] 0), (D, seqObj "list" #[] e1)]) σ H s) (hka : kS ≠ D)
    (h0k : X.s_0.heap.objs.size ≤ kS) (h0D : X.s_0.heap.objs.size ≤ D) (hnk : ∀ p ∈ X.pn ++ pins, p.1 ≠ kS) (hnD : ∀ p ∈ X.pn ++ pins, p.1 ≠ D)
    (hv : Vals xs vs) (hlen : ks.length = xs.length) (hZ : vs.length ≤ sizeLine)
    (turn : ∀ (i : Nat) (v : V) (u : Value) (k : Str), xs[i]? = some v → RelV v u → ks[i]? = some k → ∀ (own : List (Addr × Obj)) (s : Shared), Inv X (pins ++ own) σ H s → wpAny (model X.prog X.w) A (call (.ref f) [u]) (fun x s' => ∃ t, x = .str k t ∧ Inv X (pins ++ own) σ H s') (fun _ _ => False) s)
    (h : ∀ (ps : List (Str × V)) s', ps.Perm (ks.zip xs) → sortedS (ps.map (·.1)) = true → Inv X pins σ (upd H D (.lst (ps.map (·.2)))) s' → Pq (.done (.ret .none)) s') :
    wpAny (model X.prog X.w) A (ksk_rest D (.ref f) false vs.toArray e1 (.ref kS)) Pq E s := by
  have hZ2 := hZ
  rw [sizeLine_eq] at hZ2
  have hlv := hv.length
  unfold ksk_rest
  refine wpAny_bind (wpAny_rule ?_)
  first
    | rw [List.forIn_toArray]
    | (rw [← Array.forIn_toList]; simp only [List.toList_toArray])
    | rw [← Array.forIn_toList]
  refine wpAny_bind (ksk_fold (fun i s' => ∃ (kA : List Value) (e : Nat), Inv X (pins ++ [(kS, seqObj "list" kA.toArray e), (D, seqObj "list" #[] e1)]) σ H s' ∧ StrsAre kA (ks.take i)) vs 0 s
    ⟨[], 0, I, by simpa using StrsAre.nil⟩ ?step ?done)
  case step =>
    rintro j x s' hx ⟨kA, e, I', hk⟩
    simp only [Nat.zero_add] at hk ⊢
    have hj : j < vs.length := (List.getElem?_eq_some_iff.mp hx).1
    obtain ⟨k, hkj⟩ : ∃ k, ks[j]? = some k := ⟨_, List.getElem?_eq_getElem (by omega)⟩
    obtain ⟨v, hvj⟩ : ∃ v, xs[j]? = some v := ⟨_, List.getElem?_eq_getElem (by omega)⟩
    obtain ⟨u, hu, rv⟩ := hv.get hvj
    rw [hx] at hu; cases hu
    have hz : kA.length ≤ vs.length := by
      have h1 := hk.length
      rw [List.length_take] at h1
      omega
    refine wpAny_bind (wpAny_attempt (wpAny_mono (turn j v x k hvj rv hkj _ s' I') (fun y s'' he => ?_) fun _ _ hF => hF.elim))
    obtain ⟨t2, rfl, I2⟩ := he
    try dsimp only
    have nk := I2.pin (kS, seqObj "list" kA.toArray e) (List.mem_append_right _ (List.mem_append_right _ (.head _)))
    have s1 := Heap.SameBut.update s''.heap kS (Obj.mapSeq (·.push (.str k t2)))
    obtain ⟨c2, hc2⟩ : ∃ c2, (s''.heap.update kS (Obj.mapSeq (·.push (.str k t2)))).get? kS = some (seqObj "list" (kA ++ [Value.str k t2]).toArray c2) := by
      have ea : (kA ++ [Value.str k t2]).toArray = kA.toArray.push (.str k t2) := by simp
      rw [ea]
      exact ⟨_, get?_update_seq nk.1 (·.push (.str k t2))⟩
    have ek : ks.take (j + 1) = ks.take j ++ [k] := by rw [List.take_add_one, hkj]; simp
    refine wpAny_bind (listUpdate_at nk.1 rfl ?_ (by rw [List.size_toArray, sizeLine_eq]; omega) (Nat.le_trans (Nat.le_of_eq (Array.size_push ..)) (by rw [List.size_toArray, sizeLine_eq]; omega)))
    refine wpAny_pure ⟨rfl, kA ++ [.str k t2], c2, ?_, by rw [ek]; exact strs_snoc hk⟩
    exact I2.repin (tk := s''.toks) (fun b u hb q => (s1.2 b hb).trans q) hc2 (fun v z => by cases z) h0k (fun p hp => by
      rw [← List.append_assoc] at hp
      rcases List.mem_append.mp hp with hp | hp
      · exact hnk p hp
      · rw [List.mem_singleton.mp hp]; exact hka.symm)
  case done =>
    rintro s' ⟨kA, e, I', hk⟩
    have hk' : StrsAre kA ks := by
      have e3 : ks.take (0 + vs.length) = ks := List.take_of_length_le (by omega)
      rw [e3] at hk
      exact hk
    have nk := I'.pin (kS, seqObj "list" kA.toArray e) (List.mem_append_right _ (List.mem_append_right _ (.head _)))
    try dsimp only
    refine wpAny_bind (listItems_at nk.1 rfl ?_)
    exact sortk_end I' hka h0k h0D hnk hnD hk' hv (by have := hk'.length; omega) hZ h
theorem sortk {l f : Addr} {ks : List Str} {xs : List V} {Q : Value → Shared → Prop} (I : Inv X pins σ H s) (hl : H l = some (.lst xs)) (hlen : ks.length = xs.length)
    (turn : ∀ (i : Nat) (v : V) (u : Value) (k : Str), xs[i]? = some v → RelV v u → ks[i]? = some k → ∀ (own : List (Addr × Obj)) (s : Shared), Inv X (pins ++ own) σ H s → wpAny (model X.prog X.w) A.in1.in1 (call (.ref f) [u]) (fun x s' => ∃ t, x = .str k t ∧ Inv X (pins ++ own) σ H s') (fun _ _ => False) s)
    (h : ∀ D (ps : List (Str × V)) s', ps.Perm (ks.zip xs) → sortedS (ps.map (·.1)) = true → H D = none → Inv X pins σ (upd H D (.lst (ps.map (·.2)))) s' → Q (.ref D) s') :
    wpAny (model X.prog X.w) A (call (.builtin "sorted") [.ref l] [(Str.ofString "key", .ref f)]) Q E s := by
  obtain ⟨hz, its, n, rv, hlo⟩ := (show ObjOk X.prog X.w H s.heap l (.lst xs) from I.hok l _ hl)
  have hls : s.heap.IsList l its.toArray := ⟨_, hlo, rfl, _, rfl⟩
  have hZ : its.length ≤ sizeLine := by rw [← rv.length]; exact hz
  have hZ2 := hZ
  rw [sizeLine_eq] at hZ2
  refine call_function_entry_kw kind_sorted plain_sorted entry_sorted (ksk_s1 _ _) ?_
  unfold Builtin.«sorted»
  refine wpAny_bind (m := checkCount "sorted" 1 1 _) (wpAny_pure ?_)
  refine wpAny_bind (collect_list hls ?_ (by rw [sizeLine_eq]; omega))
  refine wpAny_bind (wpAny_newList ?_ (by rw [sizeLine_eq]; omega))
  have hsz : ((s.heap.push (seqObj "list" #[] 0)).update s.heap.objs.size (Obj.mapSeq (· ++ its.toArray))).objs.size = s.heap.objs.size + 1 := by
    rw [Heap.size_update, Heap.size_push]
  have hoL : (((s.heap.push (seqObj "list" #[] 0)).update s.heap.objs.size (Obj.mapSeq (· ++ its.toArray))).push (seqObj "list" its.toArray 0)).get? (s.heap.objs.size + 1) = some (seqObj "list" its.toArray 0) := by
    rw [← hsz]; exact Heap.get?_push_size _ rfl
  have keep0 : ∀ b o, s.heap.get? b = some o → ((s.heap.push (seqObj "list" #[] 0)).update s.heap.objs.size (Obj.mapSeq (· ++ its.toArray))).get? b = some o := fun b o q => by
    have hlt : b < s.heap.objs.size := Heap.lt_size q
    rw [Heap.get?_update_ne _ _ _ _ (Nat.ne_of_lt hlt), Heap.get?_push_ne _ _ _ (Nat.ne_of_lt hlt)]
    exact q
  have I1 := (I.kept (t' := s.toks) keep0).pinNew (o := seqObj "list" its.toArray 0) (tk := s.toks) rfl (fun v z => by cases z)
  show wpAny _ _ _ _ _ { s with heap := ((s.heap.push (seqObj "list" #[] 0)).update s.heap.objs.size (Obj.mapSeq (· ++ its.toArray))).push (seqObj "list" its.toArray 0) }
  rw [hsz]
  have I1 : Inv X (pins ++ [(s.heap.objs.size + 1, seqObj "list" its.toArray 0)]) σ H { s with heap := ((s.heap.push (seqObj "list" #[] 0)).update s.heap.objs.size (Obj.mapSeq (· ++ its.toArray))).push (seqObj "list" its.toArray 0), toks := s.toks } := by
    have e : ({ s with heap := (s.heap.push (seqObj "list" #[] 0)).update s.heap.objs.size (Obj.mapSeq (· ++ its.toArray)), toks := s.toks } : Shared).heap.objs.size = s.heap.objs.size + 1 := hsz
    rw [e] at I1; exact I1
  have hD : H (s.heap.objs.size + 1) = none := I.hok.fresh (Nat.le_succ _)
  have pD : ∀ p ∈ X.pn ++ pins, p.1 < s.heap.objs.size := fun p hp => I.pinLt hp
  have z0 : X.s_0.heap.objs.size ≤ s.heap.objs.size := I.sz
  generalize hgh : ((s.heap.push (seqObj "list" #[] 0)).update s.heap.objs.size (Obj.mapSeq (· ++ its.toArray))).push (seqObj "list" its.toArray 0) = h1 at *
  have hszh : h1.objs.size = s.heap.objs.size + 2 := by rw [← hgh, Heap.size_push, hsz]
  have h0D : X.s_0.heap.objs.size ≤ s.heap.objs.size + 1 := Nat.le_succ_of_le z0
  have hnD : ∀ p ∈ X.pn ++ pins, p.1 ≠ s.heap.objs.size + 1 := fun p hp => Nat.ne_of_lt (Nat.lt_succ_of_lt (pD p hp))
  generalize hgD : s.heap.objs.size + 1 = D at *
  refine wpAny_bind (wpAny_holding (wpAny_call_entry_kw slot_list_sort ⟨_, hoL, rfl⟩ entry_list_sort ?body (ksk_l1 _ _)))
  case body =>
    show wpAny (model X.prog X.w) A.in1.in1 (Builtin.«list.sort» ⟨[.ref D], [(Str.ofString "key", .ref f)]⟩) _ _ _
    rw [ksk_t1]
    have s1 := Heap.SameBut.update h1 D (Obj.mapSeq fun _ => (#[] : Array Value))
    obtain ⟨e1, ho1⟩ : ∃ e1, (h1.update D (Obj.mapSeq fun _ => (#[] : Array Value))).get? D = some (seqObj "list" #[] e1) := ⟨_, get?_update_seq hoL fun _ => #[]⟩
    have I2 := I1.repin (pins2 := []) (tk := s.toks) (fun b u hb q => (s1.2 b hb).trans q) ho1 (fun v z => by cases z) h0D (by simpa using hnD)
    have I3 := I2.kept (t' := s.toks) (h' := (h1.update D (Obj.mapSeq fun _ => (#[] : Array Value))).push (seqObj "tuple" its.toArray 0)) fun b u q => Heap.get?_push_of_some _ q
    have I4 := I3.pinNew (o := seqObj "list" #[] 0) (tk := s.toks) rfl (fun v z => by cases z)
    have hkS : ((h1.update D (Obj.mapSeq fun _ => (#[] : Array Value))).push (seqObj "tuple" its.toArray 0)).objs.size = h1.objs.size + 1 := by rw [Heap.size_push, Heap.size_update]
    have e4 : ({ s with heap := (h1.update D (Obj.mapSeq fun _ => (#[] : Array Value))).push (seqObj "tuple" its.toArray 0), toks := s.toks } : Shared).heap.objs.size = h1.objs.size + 1 := hkS
    unfold ksk_tree
    refine wpAny_bind (listItems_at hoL rfl ?_)
    refine wpAny_bind (listUpdate_at hoL rfl ?_ (by rw [List.size_toArray, sizeLine_eq]; omega) (Nat.zero_le _))
    refine wpAny_bind (seqEpoch_at ho1 rfl ?_)
    refine wpAny_bind (wpAny_newTuple ?_ (by show its.length ≤ _; rw [sizeLine_eq]; omega))
    refine wpAny_bind (wpAny_newList ?_ (Nat.zero_le _))
    refine wpAny_holding ?_
    have I5 : Inv X (pins ++ [(h1.objs.size + 1, seqObj "list" #[] 0), (D, seqObj "list" #[] e1)]) σ H { s with heap := ((h1.update D (Obj.mapSeq fun _ => (#[] : Array Value))).push (seqObj "tuple" its.toArray 0)).push (seqObj "list" #[] 0), toks := s.toks } := by
      rw [e4] at I4
      refine I4.pins_of fun p hp => I4.pin p (List.mem_append_right _ ?_)
      simp only [List.mem_append, List.mem_cons, List.mem_singleton, List.not_mem_nil, or_false] at hp ⊢
      rcases hp with hp | hp | hp
      · exact .inl (.inl hp)
      · exact .inr hp
      · exact .inl (.inr hp)
    show wpAny _ _ (ksk_rest D (.ref f) false its.toArray e1 (.ref ((h1.update D (Obj.mapSeq fun _ => (#[] : Array Value))).push (seqObj "tuple" its.toArray 0)).objs.size)) _ _ { s with heap := ((h1.update D (Obj.mapSeq fun _ => (#[] : Array Value))).push (seqObj "tuple" its.toArray 0)).push (seqObj "list" #[] 0) }
    rw [hkS]
    have z5 : s.heap.objs.size + 1 = D := hgD
    refine sortk_rest I5 (by show h1.objs.size + 1 ≠ D; omega) (by show X.s_0.heap.objs.size ≤ h1.objs.size + 1; omega) h0D (fun p hp => Nat.ne_of_lt (Nat.lt_of_lt_of_le (pD p hp) (by rw [hszh]; exact Nat.le_add_right _ 3))) hnD rv hlen hZ turn fun ps s' p1 p2 I6 => ⟨_, rfl, ?_⟩
    exact wpAny_pure ⟨_, rfl, h D ps s' p1 p2 hD I6⟩
end
/-- sorted(e, key=lambda y: b): the elements' keys are texts -/
def tSortK (P : Addr) (pos : Pos) (qual : Str) (ta te : TE) (i : Nat) : TE := fun σ H Q => ta σ H fun x H1 => ∃ (a : Addr) (xs : List V) (ks : List Str), x = .ref a ∧ H1 a = some (.lst xs) ∧ ks.length = xs.length ∧ LamT P pos qual H1 ∧
  ∀ H2, SameP P H1 H2 → LamT P pos qual H2 → (∀ (j : Nat) (v : V) (k : Str), xs[j]? = some v → ks[j]? = some k → te ((wipe σ [i]).set i (some v)) H2 fun y H3 => H3 = H2 ∧ y = .str k) ∧
    ∀ (ps : List (Str × V)) (D : Addr), ps.Perm (ks.zip xs) → sortedS (ps.map (·.1)) = true → H2 D = none → Q (.ref D) (upd H2 D (.lst (ps.map (·.2))))
section
variable {X : Cx}
theorem pe_sortK {e body : Expr} {params : Arguments} {scope : Scope} {y : Str} {i : Nat} {p pos lp kp : Pos} {ta te : TE} {c P : Addr} {k : Nat} (hN : X.N.Nodup) (hr : Room (k + 3) X.A) (hgl : Gl X "sorted") (hm : X.mg "sorted" = none)
    (hcd : X.env.code = .ref c) (hk : PySem.W.codeHdIn X.K c P = true) (hbm : BM X.mg X.base) (ok : BlkOk X.N X.env.scope scope [(y, i)]) (hcl : ∀ y ∈ scope.names, y.2 ≠ .cell) (hy : scope.names.lookup y = some .local) (hco : scope.isCoroutine = false) (hgen : scope.isGenerator = false)
    (hbind : ∀ u qual clos pm c ctv, bindArgs (PySem.W.kla_fn "<lambda>" qual params body scope clos pm (.ref c) ctv) ⟨[u], []⟩ = pure [(y, u)]) (hdef : defaultsOf params X.env = ([], []))
    (ha : PE X e ta) (he : ∀ (A' : Around) (s : Shared) (H : Hp) (ql : Str) (L f' c' : Addr) (cl : List (Str × Addr)), Room k (A'.deeper (lamE ql scope L f' c' cl)) → PE (X.lam A' s H (lamE ql scope L f' c' cl)) body te)
    (hst : starEach [e] X.env = [(false, eval e X.env)] := by rfl) :
    PE X (.Call (.Name "sorted" p) [e] [⟨some "key", .Lambda params body scope lp, kp⟩] pos) (tSortK P lp (X.env.qual ++ "<lambda>") ta te i) := by
  intro pins s σ H Q I h
  have hfree : ∀ y ∈ scope.names, y.2 = .free → ∃ c, X.env.cells.lookup y.1 = some c := fun y hy e => by
    rcases ok.free y hy e with k | k
    · exact I.ok.has _ (.inl k)
    · exact I.ok.has _ (.inr k)
  refine wpAny_Call_Name_kw (ld_blt I hgl hm (by decide +kernel : bootBuiltins "sorted" = some (.builtin "sorted")) (callWith_kw ?_ (by rw [hst]; rfl) (by rw [hst]; rfl)))
  rw [hst]
  show wpAny _ _ (spliced ((false, eval e X.env) :: [])) _ _ s
  refine Calls.spliced_cons (thn (ha pins s σ H _ I h) fun xv s1 hx => ?_)
  obtain ⟨x, H1, I1, rx, a, xs, ks, rfl, hl, hlen, hT, q⟩ := hx
  refine Calls.spliced_nil ?_
  refine kws_cons (PySem.W.kla_eval hdef (lam_make I1 hcd hk hT hbm hfree fun c' f pm ctv H2 s2 hf I2 sp la => ?_))
  refine kws_nil ?_
  have rx : xv = .ref a := rx
  subst rx
  have aP : a ≠ P := fun z => by
    rw [z] at hl
    rcases hT with hT | ⟨_, hT, _⟩ <;> rw [hT] at hl <;> cases hl
  obtain ⟨q1, q2⟩ := q H2 sp (.inr ⟨c', la⟩)
  have hl2 := sp a _ aP hl
  refine sortk I2 hl2 hlen (fun j v u k' hv rv hk' own s3 I3 => ?_) fun D ps s3 p1 p2 hD I3 => ⟨.ref D, _, I3.unpin1, rfl, q2 ps D p1 p2 hD⟩
  have hr2 : Room (k + 1) X.A.in1.in1 := (hr.in1).in1
  refine wpAny_mono (lam_call (A := X.A.in1.in1) (te := te) (Q := fun y H3 => H3 = H2 ∧ y = .str k') I3 (List.mem_append_left _ (List.mem_append_right _ (List.mem_singleton.mpr rfl))) la.2 ?_ hr2 ok hN hcl hy hco hgen (fun u => hbind u _ _ _ _ _) he rv (q1 j v k' hv hk')) (fun x s4 ⟨z, H4, rz, I4, e1, e2⟩ => ?_) fun _ _ z => z
  · exact I.ok.frames
  · subst e1 e2
    obtain ⟨t, rz⟩ := rz
    exact ⟨t, rz, I4⟩
end
end L2
namespace L2
open PySem PySem.Spec PyProof.Rows

/-- a def by its own code object -/
structure FunT (K : PySem.W.Frag) (x qual : Str) (st : Stmt) (f : Addr) (fd : FuncData) (c : Addr) : Prop where
  ex : ∃ (oc : Value) (od : Option Addr) (kV doc pm : Value) (an : Option Addr) (ct : Value) (osl : Array (Option Value)),
    fd = PySem.W.fnOf x qual (defArgs st) (defBody st) (defScope st) .none kV doc pm an (.ref c) ct ∧ K.lookup f = some ⟨oc, od, .func fd, osl⟩ ∧ PySem.W.codeIn K (.ref c) qual = true
  kp : PySem.W.keepIn K (.ref f) = true
section
variable {P : Program} {w : World} {K : PySem.W.Frag} {mg : Str → Option Value} {base : Heap}
theorem FunT.ok {x qual : Str} {st : Stmt} {f c : Addr} {fd : FuncData} {N ps : List Str} {k : Nat} {sp : Sp} (F : FunT K x qual st f fd c) (S : FnScope N ps (defScope st)) (len : ∀ vs H Q E, sp vs H Q E → vs.length = ps.length)
    (hbody : ∀ (A : Around) (outer : List Env) (s : Shared) (H : Hp) (vs : List V) (Q : VK) (E : XK), Room k (A.deeper (envOfC qual (defScope st) s.heap.objs.size f (.ref c))) → sp vs H Q E →
      ∃ t, PSs (cxOf CX0 P w K mg base N qual (defScope st) f (.ref c) A outer s H E).nox (defBody st) t ∧ t { nx := fun _ H' => Q .non H', rt := Q } (start N vs) H) : FnOk P w K mg base CX0 (k + 1) f fd ps sp := by
  obtain ⟨oc, od, kV, doc, pm, an, ct, osl, rfl, lk, hcd⟩ := F.ex
  refine fn_of lk hcd S len fun A outer s H vs Q E hr hsp => ?_
  obtain ⟨t, h, q⟩ := hbody A outer s H vs Q E hr hsp
  exact ⟨t, h.nox, q⟩
theorem FunT.binds {x qual : Str} {st : Stmt} {f c : Addr} {fd : FuncData} {ps : List Str} (F : FunT K x qual st f fd c)
    (h : ∀ (kV doc pm : Value) (an : Option Addr) (cdv ct : Value) (us : List Value), us.length = ps.length → bindArgs (PySem.W.fnOf x qual (defArgs st) (defBody st) (defScope st) .none kV doc pm an cdv ct) ⟨us, []⟩ = pure (ps.zip us)) : Binds K fd ps [] := by
  obtain ⟨oc, od, kV, doc, pm, an, ct, osl, rfl, lk, hcd⟩ := F.ex
  exact .all (h kV doc pm an _ ct)
theorem funT_mk {x qual : Str} {st : Stmt} {f c : Addr} {oc : Value} {od an : Option Addr} {osl : Array (Option Value)} {kV doc pm ct : Value} (l : K.lookup f = some ⟨oc, od, .func (PySem.W.fnOf x qual (defArgs st) (defBody st) (defScope st) .none kV doc pm an (.ref c) ct), osl⟩)
    (e : PySem.W.codeIn K (.ref c) qual = true) (k : PySem.W.keepIn K (.ref f) = true) : FunT K x qual st f (PySem.W.fnOf x qual (defArgs st) (defBody st) (defScope st) .none kV doc pm an (.ref c) ct) c := ⟨⟨oc, od, kV, doc, pm, an, ct, osl, rfl, l, e⟩, k⟩
end

end L2
namespace L2
open PySem PySem.Spec PyProof.Rows
open AutoSeq1 (wpAny_loadPart')
section
variable {prog : Program} {w : World} {A : Around} {E : Value → Shared → Prop} {s : Shared}
end
section
variable {prog : Program} {w : World} {A : Around} {E : Value → Shared → Prop} {s : Shared}
end
end L2
namespace L2
open PySem PySem.Spec PyProof.Rows PySem.Calls
section
variable {X : Cx}
end
/-- a method of the class at C -/
def Mth (P : Program) (w : World) (K : PySem.W.Frag) (mg : Str → Option Value) (base : Heap) (C : Addr) (m : Str) (k : Nat) (ps : List Str) (sp : Sp) : Prop :=
  ∃ f fd, Meth K C m f ∧ FnOk P w K mg base CX0 k f fd ps sp ∧ Binds K fd ps []
/-- how it stands behind the top -/
def MDef (K : PySem.W.Frag) (C : Addr) (m qual : Str) (st : Stmt) (ps : List Str) : Prop := ∃ (f : Addr) (fd : FuncData), Fun K m qual st f fd ∧ Binds K fd ps [] ∧ Meth K C m f
def MDefT (K : PySem.W.Frag) (C : Addr) (m qual : Str) (st : Stmt) (ps : List Str) (c : Addr) : Prop := ∃ (f : Addr) (fd : FuncData), FunT K m qual st f fd c ∧ Binds K fd ps [] ∧ Meth K C m f
section
variable {P : Program} {w : World} {K : PySem.W.Frag} {mg : Str → Option Value} {base : Heap} {C c : Addr} {m qual : Str} {st : Stmt} {N ps : List Str} {k : Nat} {sp : Sp}
theorem MDef.ok (D : MDef K C m qual st ps) (S : FnScope N ps (defScope st)) (len : ∀ vs H Q E, sp vs H Q E → vs.length = ps.length)
    (hbody : ∀ (f : Addr) (cdv : Value) (A : Around) (outer : List Env) (s : Shared) (H : Hp) (vs : List V) (Q : VK) (E : XK), Room k (A.deeper (envOfC qual (defScope st) s.heap.objs.size f cdv)) → sp vs H Q E →
      ∃ t, PSs (cxOf CX0 P w K mg base N qual (defScope st) f cdv A outer s H E).nox (defBody st) t ∧ t { nx := fun _ H' => Q .non H', rt := Q } (start N vs) H) : Mth P w K mg base C m (k + 1) ps sp := by
  obtain ⟨f, fd, F, b, mt⟩ := D
  exact ⟨f, fd, mt, F.ok S len fun cdv A outer s H vs Q E hr h => hbody f cdv A outer s H vs Q E hr h, b⟩
theorem MDefT.ok (D : MDefT K C m qual st ps c) (S : FnScope N ps (defScope st)) (len : ∀ vs H Q E, sp vs H Q E → vs.length = ps.length)
    (hbody : ∀ (f : Addr) (A : Around) (outer : List Env) (s : Shared) (H : Hp) (vs : List V) (Q : VK) (E : XK), Room k (A.deeper (envOfC qual (defScope st) s.heap.objs.size f (.ref c))) → sp vs H Q E →
      ∃ t, PSs (cxOf CX0 P w K mg base N qual (defScope st) f (.ref c) A outer s H E).nox (defBody st) t ∧ t { nx := fun _ H' => Q .non H', rt := Q } (start N vs) H) : Mth P w K mg base C m (k + 1) ps sp := by
  obtain ⟨f, fd, F, b, mt⟩ := D
  exact ⟨f, fd, mt, F.ok S len fun A outer s H vs Q E hr h => hbody f A outer s H vs Q E hr h, b⟩
theorem MDef.none (D : MDef K C m qual st ps) (no : ∀ vs H Q E, ¬ sp vs H Q E) : Mth P w K mg base C m k ps sp := by
  obtain ⟨f, fd, F, b, mt⟩ := D
  exact ⟨f, fd, mt, ⟨fun vs H Q E h => absurd h (no vs H Q E), fun A outer s H args us vs Q E _ _ _ _ h => absurd h (no vs H Q E)⟩, b⟩
theorem MDefT.none (D : MDefT K C m qual st ps c) (no : ∀ vs H Q E, ¬ sp vs H Q E) : Mth P w K mg base C m k ps sp := by
  obtain ⟨f, fd, F, b, mt⟩ := D
  exact ⟨f, fd, mt, ⟨fun vs H Q E h => absurd h (no vs H Q E), fun A outer s H args us vs Q E _ _ _ _ h => absurd h (no vs H Q E)⟩, b⟩
end
section
variable {X : Cx} {C : Addr} {x m : Str} {j k : Nat} {ps : List Str} {sp : Sp} {o e : Expr} {es : List Expr} {ta : TE} {t : TA} {p pos apos : Pos}
end
end L2
namespace EB
open PySem PySem.Spec PyProof.Rows L2

inductive Le : Wd → Wd → Prop
  | letter (c : Nat) : Le (.letter c) (.letter c)
  | ups {as : List Wd} {y : Wd} (h : ∀ a, a ∈ as → Le a y) : Le (.node true as) y
  | downs {x : Wd} {bs : List Wd} (h : ∀ b, b ∈ bs → Le x b) : Le x (.node false bs)
  | frm {as : List Wd} {a y : Wd} (m : a ∈ as) (h : Le a y) : Le (.node false as) y
  | into {x b : Wd} {bs : List Wd} (m : b ∈ bs) (h : Le x b) : Le x (.node true bs)
theorem le_ups {as : List Wd} {y : Wd} : Le (.node true as) y ↔ ∀ a ∈ as, Le a y := by
  constructor
  · intro h
    generalize hx : Wd.node true as = x at h
    induction h with
    | letter c => cases hx
    | ups h _ => cases hx; exact h
    | downs h ih => intro a ma; exact .downs fun b mb => ih b mb hx a ma
    | frm m h _ => cases hx
    | into m h ih => intro a ma; exact .into m (ih hx a ma)
  · exact fun h => .ups h
theorem le_self : ∀ w : Wd, Le w w
  | .letter c => .letter c
  | .node true as => .ups fun a m => .into m (le_self a)
  | .node false as => .downs fun a m => .frm m (le_self a)
termination_by w => sizeOf w
decreasing_by
  all_goals
    have := List.sizeOf_lt_of_mem m
    simp only [Wd.node.sizeOf_spec]
    omega
open Classical in
def signS : Wd → Str
  | .letter c => sgn c
  | .node u _ => deedS u
def Wd.arms : Wd → List Wd
  | .letter _ => []
  | .node _ ws => ws
/-- the numbers k stand for the words as -/
def Nm (ws : List Wd) (k : List Nat) (as : List Wd) : Prop := k.map (fun n => ws[n]?) = as.map some
theorem Nm.mono {ws us : List Wd} {k : List Nat} {as : List Wd} (h : Nm ws k as) : Nm (ws ++ us) k as := by
  have gen : ∀ (k : List Nat) (as : List Wd), k.map (fun n => ws[n]?) = as.map some → k.map (fun n => (ws ++ us)[n]?) = as.map some := by
    intro k
    induction k with
    | nil => intro as h; exact h
    | cons n k ih =>
      intro as h
      cases as with
      | nil => cases h
      | cons a as =>
        rw [List.map_cons, List.map_cons] at h ⊢
        injection h with h1 h2
        rw [ih as h2]
        congr 1
        have lt := (List.getElem?_eq_some_iff.mp h1).1
        rw [List.getElem?_append_left lt]; exact h1
  exact gen k as h
theorem Nm.length {ws : List Wd} {k : List Nat} {as : List Wd} (h : Nm ws k as) : k.length = as.length := by
  have := congrArg List.length h
  rwa [List.length_map, List.length_map] at this
theorem Nm.get {ws : List Wd} {k : List Nat} {as : List Wd} (h : Nm ws k as) {i n : Nat} (e : k[i]? = some n) : ∃ a, as[i]? = some a ∧ ws[n]? = some a := by
  have h1 : (k.map (fun n => ws[n]?))[i]? = some ws[n]? := by rw [List.getElem?_map, e]; rfl
  rw [h, List.getElem?_map] at h1
  cases h2 : as[i]? with
  | none => rw [h2] at h1; cases h1
  | some a => rw [h2] at h1; exact ⟨a, rfl, (Option.some.inj h1).symm⟩
theorem get_inj {ws : List Wd} (nd : ws.Nodup) {a b : Nat} {x : Wd} (h1 : ws[a]? = some x) (h2 : ws[b]? = some x) : a = b := by
  obtain ⟨l1, e1⟩ := List.getElem?_eq_some_iff.mp h1
  obtain ⟨l2, e2⟩ := List.getElem?_eq_some_iff.mp h2
  have pw := List.pairwise_iff_getElem.mp nd
  rcases Nat.lt_trichotomy a b with h | h | h
  · exact absurd (e1.trans e2.symm) (pw a b l1 l2 h)
  · exact h
  · exact absurd (e2.trans e1.symm) (pw b a l2 l1 h)
theorem Nm.inj {ws : List Wd} (nd : ws.Nodup) : ∀ {k k' : List Nat} {as : List Wd}, Nm ws k as → Nm ws k' as → k = k' := by
  intro k
  induction k with
  | nil =>
    intro k' as h h'
    have e1 := h.length
    have e2 := h'.length
    rw [← e1] at e2
    exact (List.length_eq_zero_iff.mp e2).symm
  | cons n k ih =>
    intro k' as h h'
    cases as with
    | nil => cases h
    | cons a as =>
      cases k' with
      | nil => cases h'
      | cons n' k' =>
        unfold Nm at h h'
        rw [List.map_cons, List.map_cons] at h h'
        injection h with h1 h2
        injection h' with h3 h4
        rw [get_inj nd h1 h3, ih h2 h4]
structure PTab (ws : List Wd) (ks : List (List Nat)) : Prop where
  len : ks.length = ws.length
  nd : ws.Nodup
  ok : ∀ w ∈ ws, w.ok
  arm : ∀ (i : Nat) (w : Wd) (k : List Nat), ws[i]? = some w → ks[i]? = some k → Nm ws k w.arms
def keyOf (s : Str) (k : List Nat) : List Key := .inr s :: k.map fun (n : Nat) => (.inl (n : Int) : Key)
def keys (ws : List Wd) (ks : List (List Nat)) : List (List Key) := (ws.zip ks).map fun p => keyOf (signS p.1) p.2
def nums (ws : List Wd) (ks : List (List Nat)) : List (List Key × V) := (keys ws ks).zip (upto ws.length)
section
variable {κ : Type} [DecidableEq κ]
end
theorem PTab.snoc {ws : List Wd} {ks : List (List Nat)} (T : PTab ws ks) {w : Wd} {k : List Nat} (hk : Nm ws k w.arms) (ho : w.ok) (hn : w ∉ ws) : PTab (ws ++ [w]) (ks ++ [k]) := by
  refine ⟨by rw [List.length_append, List.length_append, T.len]; rfl, ?_, fun x m => ?_, fun i x l h1 h2 => ?_⟩
  · rw [List.nodup_append]
    exact ⟨T.nd, List.nodup_cons.mpr ⟨by simp, List.nodup_nil⟩, fun a ma b mb e => hn (by rw [List.mem_singleton.mp mb] at e; rw [← e]; exact ma)⟩
  · rcases List.mem_append.mp m with m | m
    · exact T.ok x m
    · rw [List.mem_singleton.mp m]; exact ho
  · by_cases hi : i < ws.length
    · rw [List.getElem?_append_left hi] at h1
      rw [List.getElem?_append_left (by rw [T.len]; exact hi)] at h2
      exact (T.arm i x l h1 h2).mono
    · have lt := (List.getElem?_eq_some_iff.mp h1).1
      rw [List.length_append] at lt
      have e : i = ws.length := by simp at lt; omega
      subst e
      rw [List.getElem?_append_right (Nat.le_refl _), Nat.sub_self] at h1
      have e2 : (ks ++ [k])[ws.length]? = some k := by
        rw [← T.len, List.getElem?_append_right (Nat.le_refl _), Nat.sub_self]; rfl
      rw [e2] at h2
      cases h1
      cases h2
      exact hk.mono
open Classical in
noncomputable def leN (ws : List Wd) (e : Nat × Nat) : Bool := decide (∃ x y, ws[e.1]? = some x ∧ ws[e.2]? = some y ∧ Le x y)
open Classical in
def pkey (e : Nat × Nat) : List Key := [.inl (e.1 : Int), .inl (e.2 : Int)]
noncomputable def sets (ws : List Wd) (ps : List (Nat × Nat)) : List (List Key × V) := ps.map fun e => (pkey e, .bl (leN ws e))
theorem nodup_le {α : Type} : ∀ {l m : List α}, l.Nodup → (∀ x ∈ l, x ∈ m) → l.length ≤ m.length := by
  intro l
  induction l with
  | nil => intro m _ _; exact Nat.zero_le _
  | cons a l ih =>
    intro m nd h
    obtain ⟨s, t, e⟩ := List.append_of_mem (h a List.mem_cons_self)
    have := ih (m := s ++ t) (List.nodup_cons.mp nd).2 fun x mx => by
      have := h x (List.mem_cons_of_mem _ mx)
      rw [e] at this
      rcases List.mem_append.mp this with q | q
      · exact List.mem_append_left _ q
      · rcases List.mem_cons.mp q with q | q
        · exact absurd (q ▸ mx) (List.nodup_cons.mp nd).1
        · exact List.mem_append_right _ q
    rw [e, List.length_append, List.length_cons, List.length_cons]
    rw [List.length_append] at this
    omega
theorem pairs_few {n : Nat} {ps : List (Nat × Nat)} (nd : ps.Nodup) (h : ∀ e ∈ ps, e.1 < n ∧ e.2 < n) : ps.length ≤ n * n := by
  have nd2 : (ps.map fun e => e.1 * n + e.2).Nodup := nodup_map nd fun a ma b mb e => by
    obtain ⟨a1, a2⟩ := a
    obtain ⟨b1, b2⟩ := b
    have ha := h _ ma
    have hb := h _ mb
    have e : a1 * n + a2 = b1 * n + b2 := e
    have ha2 : a2 < n := ha.2
    have hb2 : b2 < n := hb.2
    have e1 : a1 = b1 := by
      have q1 : (a1 * n + a2) / n = a1 := by rw [Nat.mul_comm, Nat.mul_add_div (by omega), Nat.div_eq_of_lt ha2, Nat.add_zero]
      have q2 : (b1 * n + b2) / n = b1 := by rw [Nat.mul_comm, Nat.mul_add_div (by omega), Nat.div_eq_of_lt hb2, Nat.add_zero]
      rw [← q1, e, q2]
    subst e1
    have : a2 = b2 := by omega
    rw [this]
  have sub : ∀ x ∈ ps.map (fun e => e.1 * n + e.2), x ∈ List.range (n * n) := fun x hx => by
    obtain ⟨e, me, rfl⟩ := List.mem_map.mp hx
    obtain ⟨h1, h2⟩ := h e me
    have : e.1 * n + e.2 < n * n := by
      have : e.1 * n + n ≤ n * n := by
        have : (e.1 + 1) * n ≤ n * n := Nat.mul_le_mul_right n h1
        rw [Nat.add_mul, Nat.one_mul] at this
        exact this
      omega
    exact List.mem_range.mpr this
  have := nodup_le nd2 sub
  rwa [List.length_map, List.length_range] at this
end EB
namespace EB
open PySem PySem.Spec PyProof.Rows L2

/-- the names of the fields -/
def fieldN (m : Str) : Bool := decide (m = "settled") || decide (m = "arms") || decide (m = "signs") || decide (m = "numbers") || decide (m = "shorts") || decide (m = "texts") || decide (m = "words")
/-- where the object's own things stand -/
structure PAd where
  dx : Addr
  nb : Addr
  sg : Addr
  ar : Addr
  st : Addr
  fl : List (Str × V)
  f_nb : fl.lookup ("numbers" : Str) = some (.ref nb)
  f_sg : fl.lookup ("signs" : Str) = some (.ref sg)
  f_ar : fl.lookup ("arms" : Str) = some (.ref ar)
  f_st : fl.lookup ("settled" : Str) = some (.ref st)
  f_no : ∀ m : Str, fieldN m = false → fl.lookup m = none
def pfl (q : PAd) : List (Str × V) := q.fl
/-- what the text must have of the class -/
structure PCls (K : PySem.W.Frag) (C : Addr) : Prop where
  cl : Cls K C
  nb : NoAttr K C "numbers"
  sg : NoAttr K C "signs"
  ar : NoAttr K C "arms"
  st : NoAttr K C "settled"
structure PH (C : Addr) (H : Hp) (p : Addr) (q : PAd) (ws : List Wd) (ks : List (List Nat)) (ps : List (Nat × Nat)) : Prop where
  tab : PTab ws ks
  ob : H p = some (.ins C q.dx (pfl q))
  nb : H q.nb = some (.dT (nums ws ks))
  sg : H q.sg = some (.lst (ws.map fun w => .str (signS w)))
  ar : ∃ as : List Addr, H q.ar = some (.lst (as.map .ref)) ∧ as.length = ks.length ∧ ∀ (i : Nat) (t : Addr) (k : List Nat), as[i]? = some t → ks[i]? = some k → H t = some (.tup (k.map fun (n : Nat) => .int (n : Int)))
  st : H q.st = some (.dT (sets ws ps))
  pn : ps.Nodup
  pl : ∀ e ∈ ps, e.1 < ws.length ∧ e.2 < ws.length
  ne : q.nb ≠ q.st
  na : q.sg ≠ q.ar
theorem PH.moved {C : Addr} {H H' : Hp} {p : Addr} {q : PAd} {ws : List Wd} {ks : List (List Nat)} {ps ps' : List (Nat × Nat)} (h : PH C H p q ws ks ps) (d : Dk q.st H H') (st : H' q.st = some (.dT (sets ws ps'))) (pn : ps'.Nodup) (pl : ∀ e ∈ ps', e.1 < ws.length ∧ e.2 < ws.length) : PH C H' p q ws ks ps' := by
  have n0 : ∀ {b : Addr} {o : HO}, H b = some o → (∀ kvs, o ≠ .dT kvs) → b ≠ q.st := fun {b o} e z => ne_of e h.st (z _)
  refine ⟨h.tab, d _ _ (n0 h.ob (by intro _ z; cases z)) h.ob, d _ _ h.ne h.nb, d _ _ (n0 h.sg (by intro _ z; cases z)) h.sg, ?_, st, pn, pl, h.ne, h.na⟩
  obtain ⟨as, e1, e2, e3⟩ := h.ar
  exact ⟨as, d _ _ (n0 e1 (by intro _ z; cases z)) e1, e2, fun i t k a b => d _ _ (n0 (e3 i t k a b) (by intro _ z; cases z)) (e3 i t k a b)⟩
theorem PH.same {C : Addr} {H H' : Hp} {p : Addr} {q : PAd} {ws : List Wd} {ks : List (List Nat)} {ps : List (Nat × Nat)} (h : PH C H p q ws ks ps) (s : Same H H') : PH C H' p q ws ks ps :=
  h.moved (fun b o _ e => s b o e) (s _ _ h.st) h.pn h.pl
/-- the sign, the arms of a part -/
theorem PH.sign {C : Addr} {H : Hp} {p : Addr} {q : PAd} {ws : List Wd} {ks : List (List Nat)} {ps : List (Nat × Nat)} (h : PH C H p q ws ks ps) {i : Nat} {x : Wd} (e : ws[i]? = some x) : atI (ws.map fun w => V.str (signS w)) (i : Int) = some (.str (signS x)) :=
  atI_nat (by rw [List.getElem?_map, e]; rfl)
theorem PH.arm {C : Addr} {H : Hp} {p : Addr} {q : PAd} {ws : List Wd} {ks : List (List Nat)} {ps : List (Nat × Nat)} (h : PH C H p q ws ks ps) {i : Nat} {x : Wd} (e : ws[i]? = some x) :
    ∃ (as : List Addr) (t : Addr) (k : List Nat), H q.ar = some (.lst (as.map .ref)) ∧ atI (as.map V.ref) (i : Int) = some (.ref t) ∧ H t = some (.tup (k.map fun (n : Nat) => .int (n : Int))) ∧ Nm ws k x.arms := by
  obtain ⟨as, e1, e2, e3⟩ := h.ar
  have lt := (List.getElem?_eq_some_iff.mp e).1
  have l2 : i < ks.length := by rw [h.tab.len]; exact lt
  have l3 : i < as.length := by rw [e2]; exact l2
  have a1 := List.getElem?_eq_getElem l3
  have a2 := List.getElem?_eq_getElem l2
  exact ⟨as, as[i], ks[i], e1, atI_nat (by rw [List.getElem?_map, a1]; rfl), e3 i _ _ a1 a2, h.tab.arm i x _ e a2⟩
theorem depth_mem {w : Wd} : ∀ {ws : List Wd}, w ∈ ws → w.depth ≤ depthL ws
  | a :: ws, m => by
    show w.depth ≤ max a.depth (depthL ws)
    rcases List.mem_cons.mp m with e | m
    · rw [e]; omega
    · have := depth_mem m
      omega
theorem depth_arm {w a : Wd} (m : a ∈ w.arms) : a.depth < w.depth := by
  cases w with
  | letter c => cases m
  | node u ws =>
    have := depth_mem (show a ∈ ws from m)
    show a.depth < depthL ws + 1
    omega
/-- all but the numbers, the signs, the arms -/
def N3 (q : PAd) (H H' : Hp) : Prop := ∀ b o, b ≠ q.nb → b ≠ q.sg → b ≠ q.ar → H b = some o → H' b = some o
theorem N3.refl {q : PAd} {H : Hp} : N3 q H H := fun _ _ _ _ _ h => h
theorem N3.trans {q : PAd} {H H1 H2 : Hp} (a : N3 q H H1) (b : N3 q H1 H2) : N3 q H H2 := fun c o h1 h2 h3 h => b c o h1 h2 h3 (a c o h1 h2 h3 h)
theorem N3.of {q : PAd} {H H' : Hp} (s : Same H H') : N3 q H H' := fun b o _ _ _ h => s b o h
theorem N3.kt {C : Addr} {q : PAd} {H H' : Hp} {p : Addr} {ws : List Wd} {ks : List (List Nat)} {ps : List (Nat × Nat)} (h : PH C H p q ws ks ps) (n : N3 q H H') : KT H H' := fun b xs e => by
  obtain ⟨as, e1, _⟩ := h.ar
  exact n _ _ (ne_of e h.nb (by intro z; cases z)) (ne_of e h.sg (by intro z; cases z)) (ne_of e e1 (by intro z; cases z)) e
theorem PH.put {C : Addr} {H : Hp} {p D : Addr} {q : PAd} {ws : List Wd} {ks : List (List Nat)} {ps : List (Nat × Nat)} {l : List V} (h : PH C H p q ws ks ps) (d1 : D ≠ q.sg) (d2 : D ≠ q.ar) (hD : H D = some (.lst l)) (o : HO) : PH C (upd H D o) p q ws ks ps := by
  have k : ∀ {b : Addr} {u : HO}, H b = some u → u ≠ .lst l → upd H D o b = some u := fun {b u} e z => by rw [upd_ne (ne_of e hD z)]; exact e
  refine ⟨h.tab, k h.ob (by intro z; cases z), k h.nb (by intro z; cases z), by rw [upd_ne d1.symm]; exact h.sg, ?_, k h.st (by intro z; cases z), h.pn, h.pl, h.ne, h.na⟩
  obtain ⟨as, e1, e2, e3⟩ := h.ar
  exact ⟨as, by rw [upd_ne d2.symm]; exact e1, e2, fun i t k' a b => k (e3 i t k' a b) (by intro z; cases z)⟩
theorem N3.put {q : PAd} {H H' : Hp} {D : Addr} {o : HO} (n : N3 q H H') (hD : H D = none) : N3 q H (upd H' D o) := fun b u h1 h2 h3 e => by rw [upd_ne (ne_of_none e hD)]; exact n b u h1 h2 h3 e
theorem Nm.snoc {ws us : List Wd} {k : List Nat} {as : List Wd} {n : Nat} {a : Wd} (h : Nm ws k as) (e : (ws ++ us)[n]? = some a) : Nm (ws ++ us) (k ++ [n]) (as ++ [a]) := by
  have h' := h.mono (us := us)
  unfold Nm at h' ⊢
  rw [List.map_append, List.map_append, h']
  show _ ++ [(ws ++ us)[n]?] = _ ++ [some a]
  rw [e]
end EB
namespace EB
open PySem PySem.Spec PyProof.Rows L2
def Bg (H : Hp) (p : Addr) : Prop := ∃ x m : Int, H p = some (.lst [.int x, .int m]) ∧ 0 ≤ x ∧ 0 ≤ m ∧ m < 2147483648
structure Tk (p : Addr) (H H' : Hp) : Prop where
  keep : ∀ b o, b ≠ p → H b = some o → H' b = some o
  bag : Bg H' p
  was : ∃ xs, H p = some (.lst xs)
theorem Bg.was {H : Hp} {p : Addr} (b : Bg H p) : ∃ xs, H p = some (.lst xs) := let ⟨_, _, h, _⟩ := b; ⟨_, h⟩
theorem Tk.refl {p : Addr} {H : Hp} (b : Bg H p) : Tk p H H := ⟨fun _ _ _ h => h, b, b.was⟩
theorem Tk.trans {p : Addr} {H H1 H2 : Hp} (a : Tk p H H1) (b : Tk p H1 H2) : Tk p H H2 := ⟨fun c o hc h => b.keep c o hc (a.keep c o hc h), b.bag, a.was⟩
theorem Tk.kt {p : Addr} {H H' : Hp} (a : Tk p H H') : KT H H' := fun b xs h => by
  obtain ⟨ys, e⟩ := a.was
  exact a.keep b _ (ne_of h e (by intro z; cases z)) h
theorem Bg.same {p : Addr} {H H' : Hp} (b : Bg H p) (s : Same H H') : Bg H' p := let ⟨x, m, h, r⟩ := b; ⟨x, m, s _ _ h, r⟩
theorem Tk.same {p : Addr} {H H1 H2 : Hp} (a : Tk p H H1) (b : Same H1 H2) : Tk p H H2 := ⟨fun c o hc h => b c o (a.keep c o hc h), a.bag.same b, a.was⟩
theorem Same.tk {p : Addr} {H H' : Hp} (s : Same H H') (b : Bg H p) : Tk p H H' := ⟨fun c o _ h => s c o h, b.same s, b.was⟩
theorem Tk.sq {K : PySem.W.Frag} {p a : Addr} {H H' : Hp} {xs : List V} (d : Tk p H H') (h : SqL K H a xs) (ne : a ≠ p) : SqL K H' a xs := by
  rcases h with (h | ⟨o, h⟩) | h
  · exact .inl (.inl (d.keep _ _ ne h))
  · exact .inl (.inr ⟨o, d.keep _ _ ne h⟩)
  · exact .inr h
theorem Tk.of_new {p : Addr} {H H1 H2 : Hp} (n : H p = none) (s : Same H H1) (d : Tk p H1 H2) : Same H H2 := fun b o h => d.keep b o (ne_of_none h n) (s b o h)
theorem Tk.put {p q : Addr} {H H' : Hp} {o : HO} (d : Tk p H H') (n : H q = none) : Tk p H (upd H' q o) := by
  obtain ⟨ys, e⟩ := d.was
  have ne : p ≠ q := ne_of_none e n
  refine ⟨fun b u hb h => ?_, ?_, d.was⟩
  · rw [upd_ne (ne_of_none h n)]
    exact d.keep b u hb h
  · obtain ⟨x, m, h, r⟩ := d.bag
    exact ⟨x, m, by rw [upd_ne ne]; exact h, r⟩
theorem Tk.tab {p P0 : Addr} {H H' : Hp} (d : Tk p H H') (t : H P0 = some (tabO P0)) : H' P0 = some (tabO P0) := by
  obtain ⟨ys, e⟩ := d.was
  exact d.keep _ _ (ne_of t e (by intro z; cases z)) t
theorem Bg.ne {H : Hp} {p c : Addr} (b : Bg H p) (h : H c = none) : c ≠ p := by
  obtain ⟨ys, e⟩ := b.was
  exact (ne_of_none e h).symm
theorem lets_abcd : Lets (cutS "abcd" none (some 3)) ∧ Lets (cutS "abcd" none (some 4)) ∧ Lets (cutS "abcd" none (some 2)) := by
  unfold Lets
  decide +kernel
theorem any_map {α : Type} {f : α → Bool} {l : List α} : ((l.map f).any id = true) ↔ ∃ a ∈ l, f a = true := by
  rw [List.any_map, List.any_eq_true]; rfl
theorem ret_ {te : TE} {D : Ends} {σ : L2.St} {H : Hp} (h : te σ H D.rt) : tRet te D σ H := h
end EB
namespace EB
open PySem PySem.Spec PyProof.Rows L2
theorem le_tr : ∀ (n : Nat) (x y z : Wd), sizeOf x + sizeOf y + sizeOf z < n → Le x y → Le y z → Le x z
  | 0, _, _, _, h, _, _ => absurd h (Nat.not_lt_zero _)
  | n + 1, x, y, z, h, h1, h2 => by
    have sz : ∀ {u : Bool} {as : List Wd} {a : Wd}, a ∈ as → sizeOf a < sizeOf (Wd.node u as) := fun {u as a} m => by
      have := List.sizeOf_lt_of_mem m
      simp only [Wd.node.sizeOf_spec]
      omega
    cases h1 with
    | letter c => exact h2
    | ups g => exact .ups fun a m => le_tr n a y z (by have := sz (u := true) m; omega) (g a m) h2
    | frm m g => exact .frm m (le_tr n _ y z (by have := sz (u := false) m; omega) g h2)
    | into m g => exact le_tr n x _ z (by have := sz (u := true) m; omega) g (le_ups.mp h2 _ m)
    | downs g =>
      cases h2 with
      | downs k => exact .downs fun b m => le_tr n x _ b (by have := sz (u := false) m; omega) (.downs g) (k b m)
      | frm m k => exact le_tr n x _ z (by have := sz (u := false) m; omega) (g _ m) k
      | into m k => exact .into m (le_tr n x _ _ (by have := sz (u := true) m; omega) (.downs g) k)
theorem le_trans {x y z : Wd} (h1 : Le x y) (h2 : Le y z) : Le x z := le_tr _ x y z (Nat.lt_succ_self _) h1 h2
theorem lin_mem {x : List Nat} : ∀ {ws : List Wd}, linL x ws → ∀ w ∈ ws, w.lin x
  | [], _, w, m => by cases m
  | a :: ws, h, w, m => by
    rcases List.mem_cons.mp m with rfl | m
    · exact h.1
    · exact lin_mem h.2 w m
theorem lin_of {x : List Nat} : ∀ {ws : List Wd}, (∀ w ∈ ws, w.lin x) → linL x ws
  | [], _ => trivial
  | a :: ws, h => ⟨h a List.mem_cons_self, lin_of fun w m => h w (List.mem_cons_of_mem _ m)⟩
theorem places_set1 : ∀ (ws : List Wd) (i : Nat) (x z : Wd), ws[i]? = some x → z.places ≤ x.places + 1 → placesL (ws.set i z) ≤ placesL ws + 1
  | [], i, x, z, h, _ => by simp at h
  | a :: r, 0, x, z, h, hz => by
    have e : a = x := by simpa using h
    subst e
    show z.places + placesL r ≤ a.places + placesL r + 1
    omega
  | a :: r, i + 1, x, z, h, hz => by
    have q := places_set1 r i x z (by simpa using h) hz
    show a.places + placesL (r.set i z) ≤ a.places + placesL r + 1
    omega
/-- w' is w raised at a place -/
structure Rsd (x : List Nat) (w w' : Wd) : Prop where
  ok : w'.ok
  pl : w'.places ≤ w.places + 1
  dp : w'.depth ≤ w.depth + 1
  le : Le w w'
  lin : w.lin x → w'.lin x
theorem Rsd.top {x : List Nat} {w : Wd} {c : Nat} (hw : w.ok) (hc : 97 ≤ c ∧ c ≤ 122) (hm : c ∈ x) : Rsd x w (.node true [.letter c, w]) where
  ok := ⟨Nat.le_refl 2, hc, hw, trivial⟩
  pl := by show 1 + (w.places + 0) ≤ _; omega
  dp := by show max 0 (max w.depth 0) + 1 ≤ _; omega
  le := .into (List.mem_cons_of_mem _ List.mem_cons_self) (le_self w)
  lin := fun h => ⟨hm, h, trivial⟩
theorem Rsd.arm {x : List Nat} {u : Bool} {as : List Wd} (hw : (Wd.node u as).ok) {i : Nat} {a z : Wd} (hi : as[i]? = some a) (r : Rsd x a z) : Rsd x (.node u as) (.node u (as.set i z)) where
  ok := by
    refine ⟨by rw [List.length_set]; exact hw.1, okL_of fun w m => ?_⟩
    rcases List.mem_or_eq_of_mem_set m with m | m
    · exact okL_mem hw.2 w m
    · rw [m]; exact r.ok
  pl := places_set1 as i a z hi r.pl
  dp := by
    show depthL _ + 1 ≤ depthL as + 1 + 1
    have : depthL (as.set i z) ≤ depthL as + 1 := depthL_le fun w m => by
      rcases List.mem_or_eq_of_mem_set m with m | m
      · exact Nat.le_succ_of_le (depthL_mem m)
      · rw [m]
        have := r.dp
        have := depthL_mem (List.mem_of_getElem? hi)
        omega
    omega
  le := by
    have lt := (List.getElem?_eq_some_iff.mp hi).1
    have mz : z ∈ as.set i z := List.mem_of_getElem? (List.getElem?_set_self lt)
    have other : ∀ b ∈ as, (b = a) ∨ b ∈ as.set i z := fun b m => by
      obtain ⟨j, hj⟩ := List.getElem?_of_mem m
      by_cases e : i = j
      · subst e; rw [hi] at hj; exact .inl (Option.some.inj hj).symm
      · exact .inr (List.mem_of_getElem? (by rw [List.getElem?_set_ne e]; exact hj))
    cases u with
    | true =>
      refine .ups fun b m => ?_
      rcases other b m with rfl | m2
      · exact .into mz r.le
      · exact .into m2 (le_self b)
    | false =>
      refine .downs fun b m => ?_
      rcases List.mem_or_eq_of_mem_set m with m | m
      · exact .frm m (le_self b)
      · rw [m]; exact .frm (List.mem_of_getElem? hi) r.le
  lin := fun h => lin_of fun w m => by
    rcases List.mem_or_eq_of_mem_set m with m | m
    · exact lin_mem h w m
    · rw [m]; exact r.lin (lin_mem h a (List.mem_of_getElem? hi))
/-- a word that may be handed to is_below -/
structure WQ (n : Nat) (H : Hp) (x : Wd) (v : V) : Prop where
  at_ : WAt H x v
  ok : x.ok
  pl : x.places ≤ 900
  dp : x.depth < n
theorem WQ.same {n : Nat} {H H' : Hp} {x : Wd} {v : V} (a : WQ n H x v) (s : Same H H') : WQ n H' x v := ⟨WAt.mono (KT.of s) _ _ a.at_, a.ok, a.pl, a.dp⟩
theorem WQ.two {n : Nat} {H : Hp} {x y : Wd} {v u : V} {o : Addr} {d : Bool} (a : WQ n H x v) (b : WQ n H y u) (h : H o = some (.tup [.str (deedS d), v, u])) (hp : x.places + y.places ≤ 900) (hx : x.depth + 1 < n) (hy : y.depth + 1 < n) : WQ n H (.node d [x, y]) (.ref o) :=
  ⟨⟨o, [v, u], rfl, h, v, [u], rfl, a.at_, u, [], rfl, b.at_, rfl⟩, ⟨Nat.le_refl 2, a.ok, b.ok, trivial⟩, by show x.places + (y.places + 0) ≤ 900; omega, by show max x.depth (max y.depth 0) + 1 < n; omega⟩
end EB
namespace EB
open PySem PySem.Spec PyProof.Rows L2
def tagS : Wd → Str
  | .letter _ => ""
  | .node u _ => deedS u
def letS : Wd → Str
  | .letter c => sgn c
  | .node _ _ => ""
/-- an entry: deed, numbers of the arms among ps, letter; nothing of it at an address of av -/
def NAt (H : Hp) (av : Addr → Prop) (ps : List Wd) (w : Wd) (v : V) : Prop :=
  ∃ (t al : Addr) (k : List Nat), v = .ref t ∧ H t = some (.tup [.str (tagS w), .ref al, .str (letS w)]) ∧ H al = some (.lst (k.map fun (n : Nat) => V.int (n : Int))) ∧ ¬ av t ∧ ¬ av al ∧ Nm ps k w.arms ∧ k.length ≤ 10000
structure Ns (H : Hp) (f : Addr) (av : Addr → Prop) (ps : List Wd) (es : List V) : Prop where
  lst : H f = some (.lst es)
  len : es.length = ps.length
  nod : ∀ (i : Nat) (w : Wd) (v : V), ps[i]? = some w → es[i]? = some v → NAt H av (ps.take i) w v
theorem NAt.keep {H H' : Hp} {av : Addr → Prop} {ps : List Wd} {w : Wd} {v : V} (a : NAt H av ps w v) (k : ∀ b o, ¬ av b → H b = some o → H' b = some o) : NAt H' av ps w v := by
  obtain ⟨t, al, n, e, h1, h2, h3, h4, h5⟩ := a
  exact ⟨t, al, n, e, k _ _ h3 h1, k _ _ h4 h2, h3, h4, h5⟩
theorem Ns.keep {H H' : Hp} {f : Addr} {av : Addr → Prop} {ps : List Wd} {es : List V} (a : Ns H f av ps es) (k : ∀ b o, ¬ av b → H b = some o → H' b = some o) (hf : H' f = some (.lst es)) : Ns H' f av ps es :=
  ⟨hf, a.len, fun i w v h1 h2 => (a.nod i w v h1 h2).keep k⟩
theorem Ns.same {H H' : Hp} {f : Addr} {av : Addr → Prop} {ps : List Wd} {es : List V} (a : Ns H f av ps es) (s : Same H H') : Ns H' f av ps es := a.keep (fun b o _ h => s b o h) (s _ _ a.lst)
/-- .. a free address more to be avoided -/
theorem Ns.more {H : Hp} {f : Addr} {av : Addr → Prop} {ps : List Wd} {es : List V} (a : Ns H f av ps es) {D : Addr} (hD : H D = none) : Ns H f (fun b => av b ∨ b = D) ps es :=
  ⟨a.lst, a.len, fun i w v h1 h2 => by
    obtain ⟨t, al, n, e, g1, g2, g3, g4, g5⟩ := a.nod i w v h1 h2
    exact ⟨t, al, n, e, g1, g2, fun z => z.elim g3 (fun z => by rw [z, hD] at g1; cases g1), fun z => z.elim g4 (fun z => by rw [z, hD] at g2; cases g2), g5⟩⟩
theorem Ns.snoc {H : Hp} {f : Addr} {av : Addr → Prop} {ps : List Wd} {es : List V} {w : Wd} {v : V} (a : Ns H f av ps es) (af : av f) (n : NAt H av ps w v) : Ns (upd H f (.lst (es ++ [v]))) f av (ps ++ [w]) (es ++ [v]) := by
  have kp : ∀ b o, ¬ av b → H b = some o → upd H f (.lst (es ++ [v])) b = some o := fun b o nb h => by rw [upd_ne (fun z => nb (by rw [z]; exact af))]; exact h
  refine ⟨upd_same, by rw [List.length_append, List.length_append, a.len]; rfl, fun i x y h1 h2 => ?_⟩
  have hi := (List.getElem?_eq_some_iff.mp h1).1
  rw [List.length_append] at hi
  have hi : i < ps.length + 1 := hi
  by_cases c : i < ps.length
  · rw [List.getElem?_append_left c] at h1
    rw [List.getElem?_append_left (by rw [a.len]; exact c)] at h2
    rw [List.take_append_of_le_length (Nat.le_of_lt c)]
    exact (a.nod i x y h1 h2).keep kp
  · have e : i = ps.length := by omega
    subst e
    rw [List.getElem?_append_right (Nat.le_refl _), Nat.sub_self] at h1
    rw [← a.len, List.getElem?_append_right (Nat.le_refl _), Nat.sub_self] at h2
    cases h1
    cases h2
    rw [List.take_left']
    · exact n.keep kp
    · rfl
def Ky (f : Addr) (H H' : Hp) : Prop := ∀ b o, b ≠ f → H b = some o → H' b = some o
theorem Ky.trans {f : Addr} {H H1 H2 : Hp} (a : Ky f H H1) (b : Ky f H1 H2) : Ky f H H2 := fun c o h e => b c o h (a c o h e)
theorem Ky.of {f : Addr} {H H' : Hp} (s : Same H H') : Ky f H H' := fun b o _ h => s b o h
theorem Ky.kt {f : Addr} {H H' : Hp} {xs : List V} (a : Ky f H H') (h : H f = some (.lst xs)) : KT H H' := fun b xs e => a b _ (ne_of e h (by intro z; cases z)) e
theorem Ky.put {f : Addr} {H : Hp} {o : HO} : Ky f H (upd H f o) := fun b o h e => by rw [upd_ne h]; exact e
end EB
namespace EB
open PySem PySem.Spec PyProof.Rows L2
theorem GoodR.perm {m d : Nat} {rs rs' : List (Nat × Wd)} (g : GoodR m d rs) (p : rs'.Perm rs) : GoodR m d rs' :=
  ⟨(p.map (·.1)).nodup_iff.mpr g.nd, fun r h => g.ok r (p.mem_iff.mp h)⟩
end EB
namespace EB
open PySem PySem.Spec PyProof.Rows L2
/-- v is a way, in memory, that shows that x is below y -/
inductive Wt (H : Hp) : Wd → Wd → V → Prop
  | same {x : Wd} {t : Addr} (h : H t = some (.tup [.str "same"])) : Wt H x x (.ref t)
  | arms {as : List Wd} {y : Wd} {t : Addr} {vs : List V} (h : H t = some (.tup (.str "arms" :: vs))) (hl : vs.length = as.length) (w : ∀ (i : Nat) (a : Wd) (v : V), as[i]? = some a → vs[i]? = some v → Wt H a y v) : Wt H (.node true as) y (.ref t)
  | each {x : Wd} {bs : List Wd} {t : Addr} {vs : List V} (h : H t = some (.tup (.str "each" :: vs))) (hl : vs.length = bs.length) (w : ∀ (i : Nat) (b : Wd) (v : V), bs[i]? = some b → vs[i]? = some v → Wt H x b v) : Wt H x (.node false bs) (.ref t)
  | frm {as : List Wd} {y a : Wd} {t : Addr} {n : Nat} {v : V} (h : H t = some (.tup [.str "from", .int (n : Int), v])) (e : as[n]? = some a) (w : Wt H a y v) : Wt H (.node false as) y (.ref t)
  | into {x b : Wd} {bs : List Wd} {t : Addr} {n : Nat} {v : V} (h : H t = some (.tup [.str "into", .int (n : Int), v])) (e : bs[n]? = some b) (w : Wt H x b v) : Wt H x (.node true bs) (.ref t)
theorem Wt.mono {H H' : Hp} (k : KT H H') {x y : Wd} {v : V} (h : Wt H x y v) : Wt H' x y v := by
  induction h with
  | same h => exact .same (k _ _ h)
  | arms h hl _ ih => exact .arms (k _ _ h) hl ih
  | each h hl _ ih => exact .each (k _ _ h) hl ih
  | frm h e _ ih => exact .frm (k _ _ h) e ih
  | into h e _ ih => exact .into (k _ _ h) e ih
/-- the dict of ways -/
def WD (H : Hp) (d : Addr) (ws : List Wd) : Prop := ∃ es : List ((Nat × Nat) × V), H d = some (.dT (es.map fun e => (pkey e.1, e.2))) ∧ (es.map (·.1)).Nodup ∧ ∀ e ∈ es, ∃ x y, ws[e.1.1]? = some x ∧ ws[e.1.2]? = some y ∧ Wt H x y e.2
theorem WD.at_ {H : Hp} {d : Addr} {ws : List Wd} (h : WD H d ws) : ∃ kvs, H d = some (.dT kvs) := let ⟨_, h, _⟩ := h; ⟨_, h⟩
theorem WD.mono {H H' : Hp} {d : Addr} {ws : List Wd} (h : WD H d ws) (k : KT H H') (hd : ∀ o, H d = some o → H' d = some o) : WD H' d ws := by
  obtain ⟨es, h1, h2, h3⟩ := h
  exact ⟨es, hd _ h1, h2, fun e m => let ⟨x, y, a, b, c⟩ := h3 e m; ⟨x, y, a, b, c.mono k⟩⟩
theorem WD.few {H : Hp} {d : Addr} {ws : List Wd} {es : List ((Nat × Nat) × V)} (h2 : (es.map (·.1)).Nodup) (h3 : ∀ e ∈ es, ∃ x y, ws[e.1.1]? = some x ∧ ws[e.1.2]? = some y ∧ Wt H x y e.2) : es.length ≤ ws.length * ws.length := by
  have := pairs_few (n := ws.length) h2 fun e m => by
    obtain ⟨f, mf, rfl⟩ := List.mem_map.mp m
    obtain ⟨x, y, a, b, _⟩ := h3 f mf
    exact ⟨(List.getElem?_eq_some_iff.mp a).1, (List.getElem?_eq_some_iff.mp b).1⟩
  rwa [List.length_map] at this
/-- all but the settled pairs and the ways -/
def Nk (q : PAd) (d : Addr) (H H' : Hp) : Prop := ∀ b o, b ≠ q.st → b ≠ d → H b = some o → H' b = some o
theorem Nk.trans {q : PAd} {d : Addr} {H H1 H2 : Hp} (a : Nk q d H H1) (b : Nk q d H1 H2) : Nk q d H H2 := fun c o h1 h2 h => b c o h1 h2 (a c o h1 h2 h)
theorem Nk.of {q : PAd} {d : Addr} {H H' : Hp} (s : Same H H') : Nk q d H H' := fun b o _ _ h => s b o h
theorem Nk.dk {q : PAd} {d : Addr} {H H' : Hp} (s : Dk q.st H H') : Nk q d H H' := fun b o h _ e => s b o h e
theorem Nk.refl {q : PAd} {d : Addr} {H : Hp} : Nk q d H H := fun _ _ _ _ h => h
theorem Nk.kt {C : Addr} {q : PAd} {d p : Addr} {H H' : Hp} {ws us : List Wd} {ks : List (List Nat)} {ps : List (Nat × Nat)} (a : Nk q d H H') (P : PH C H p q ws ks ps) (W : WD H d us) : KT H H' := fun b xs e => by
  obtain ⟨kvs, h⟩ := W.at_
  exact a b _ (ne_of e P.st (by intro z; cases z)) (ne_of e h (by intro z; cases z)) e
theorem Nk.tab {C : Addr} {q : PAd} {d p P0 : Addr} {H H' : Hp} {ws us : List Wd} {ks : List (List Nat)} {ps : List (Nat × Nat)} (a : Nk q d H H') (P : PH C H p q ws ks ps) (W : WD H d us) (t : H P0 = some (tabO P0)) : H' P0 = some (tabO P0) := by
  obtain ⟨kvs, h⟩ := W.at_
  exact a _ _ (ne_of t P.st (by intro z; cases z)) (ne_of t h (by intro z; cases z)) t
theorem Dk.ktP {C : Addr} {q : PAd} {p : Addr} {H H' : Hp} {ws : List Wd} {ks : List (List Nat)} {ps : List (Nat × Nat)} (a : Dk q.st H H') (P : PH C H p q ws ks ps) : KT H H' := fun b xs e => a b _ (ne_of e P.st (by intro z; cases z)) e
theorem WD.dk {C : Addr} {q : PAd} {d p : Addr} {H H' : Hp} {ws us : List Wd} {ks : List (List Nat)} {ps : List (Nat × Nat)} (W : WD H d us) (P : PH C H p q ws ks ps) (nd : d ≠ q.st) (a : Dk q.st H H') : WD H' d us := W.mono (a.ktP P) fun o h => a _ _ nd h
theorem WD.same {d : Addr} {H H' : Hp} {us : List Wd} (W : WD H d us) (s : Same H H') : WD H' d us := W.mono (KT.of s) fun o h => s _ _ h
theorem data_all {K : PySem.W.Frag} {H : Hp} {n : Nat} : ∀ (vs : List V), (∀ (i : Nat) (v : V), vs[i]? = some v → ∃ d, Dp K H v d ∧ d.canLay0 = true ∧ d.depth ≤ n) → ∃ ds, DpAll K H vs ds ∧ PyData.canLayAll0 ds = true ∧ PyData.depthAll ds ≤ n
  | [], _ => ⟨[], .nil, rfl, Nat.zero_le _⟩
  | v :: vs, h => by
    obtain ⟨d, d1, d2, d3⟩ := h 0 v rfl
    obtain ⟨ds, e1, e2, e3⟩ := data_all vs fun i u e => h (i + 1) u (by simpa using e)
    refine ⟨d :: ds, .cons d1 e1, ?_, ?_⟩
    · show (d.canLay0 && PyData.canLayAll0 ds) = true
      rw [d2, e2]; rfl
    · show max d.depth (PyData.depthAll ds) ≤ n
      omega
theorem Wt.data {K : PySem.W.Frag} {H : Hp} {x y : Wd} {v : V} (h : Wt H x y v) : ∃ d ds, Dp K H v (.tuple (d :: ds)) ∧ (PyData.tuple (d :: ds)).canLay0 = true ∧ (PyData.tuple (d :: ds)).depth ≤ x.depth + y.depth + 1 := by
  induction h with
  | same h => exact ⟨_, _, .tup (SqT.of h) (.cons (.str _) .nil), by decide +kernel, by show max 0 0 + 1 ≤ _; omega⟩
  | @arms as y t vs h hl w ih =>
    have h2 : 0 < (Wd.node true as).depth := by show 0 < depthL as + 1; omega
    obtain ⟨ds, e1, e2, e3⟩ := data_all (K := K) (H := H) (n := (Wd.node true as).depth + y.depth) vs fun i v ev => by
      have lt : i < as.length := by rw [← hl]; exact (List.getElem?_eq_some_iff.mp ev).1
      have ea := List.getElem?_eq_getElem lt
      obtain ⟨d, ds, a1, a2, a3⟩ := ih i _ v ea ev
      have := depth_arm (w := .node true as) (List.mem_of_getElem? ea)
      exact ⟨_, a1, a2, by omega⟩
    refine ⟨.str "arms", ds, .tup (SqT.of h) (.cons (.str _) e1), ?_, ?_⟩
    · show (PyData.strOk "arms" && PyData.canLayAll0 ds) = true
      rw [e2]; decide +kernel
    · show max 0 (PyData.depthAll ds) + 1 ≤ _
      omega
  | @each x bs t vs h hl w ih =>
    have h2 : 0 < (Wd.node false bs).depth := by show 0 < depthL bs + 1; omega
    obtain ⟨ds, e1, e2, e3⟩ := data_all (K := K) (H := H) (n := x.depth + (Wd.node false bs).depth) vs fun i v ev => by
      have lt : i < bs.length := by rw [← hl]; exact (List.getElem?_eq_some_iff.mp ev).1
      have eb := List.getElem?_eq_getElem lt
      obtain ⟨d, ds, a1, a2, a3⟩ := ih i _ v eb ev
      have := depth_arm (w := .node false bs) (List.mem_of_getElem? eb)
      exact ⟨_, a1, a2, by omega⟩
    refine ⟨.str "each", ds, .tup (SqT.of h) (.cons (.str _) e1), ?_, ?_⟩
    · show (PyData.strOk "each" && PyData.canLayAll0 ds) = true
      rw [e2]; decide +kernel
    · show max 0 (PyData.depthAll ds) + 1 ≤ _
      omega
  | @frm as y a t n v h e w ih =>
    obtain ⟨d, ds, a1, a2, a3⟩ := ih
    have := depth_arm (w := .node false as) (List.mem_of_getElem? e)
    refine ⟨_, _, .tup (SqT.of h) (.cons (.str _) (.cons (.int _) (.cons a1 .nil))), ?_, ?_⟩
    · show (PyData.strOk "from" && (true && ((PyData.tuple (d :: ds)).canLay0 && true))) = true
      rw [a2]; decide +kernel
    · show max 0 (max 0 (max (PyData.tuple (d :: ds)).depth 0)) + 1 ≤ _
      omega
  | @into x b bs t n v h e w ih =>
    obtain ⟨d, ds, a1, a2, a3⟩ := ih
    have := depth_arm (w := .node true bs) (List.mem_of_getElem? e)
    refine ⟨_, _, .tup (SqT.of h) (.cons (.str _) (.cons (.int _) (.cons a1 .nil))), ?_, ?_⟩
    · show (PyData.strOk "into" && (true && ((PyData.tuple (d :: ds)).canLay0 && true))) = true
      rw [a2]; decide +kernel
    · show max 0 (max 0 (max (PyData.tuple (d :: ds)).depth 0)) + 1 ≤ _
      omega
/-- a way is a tuple that begins with a text -/
theorem Wt.tup {H : Hp} {x y : Wd} {v : V} (h : Wt H x y v) : ∃ t s r, v = .ref t ∧ H t = some (.tup (.str s :: r)) := by
  cases h with
  | same h => exact ⟨_, _, _, rfl, h⟩
  | arms h _ _ => exact ⟨_, _, _, rfl, h⟩
  | each h _ _ => exact ⟨_, _, _, rfl, h⟩
  | frm h _ _ => exact ⟨_, _, _, rfl, h⟩
  | into h _ _ => exact ⟨_, _, _, rfl, h⟩
end EB
namespace L2
open PySem PySem.Spec PyProof.Rows

def inD (d : PyData) (ds : List PyData) : Bool := ds.any fun e => PyData.eqv e d
def rInD (K : PySem.W.Frag) (neg : Bool) : R2 := fun x y H Q => ∃ (p : Addr) (xs : List V) (d : PyData) (ds : List PyData), y = .ref p ∧ (SqL K H p xs ∨ SqT K H p xs) ∧ Dp K H x d ∧ DpAll K H xs ds ∧ SeqAt.shaped d = true ∧ (∀ e ∈ ds, SeqAt.shaped e = true) ∧ Q (.bl (if neg then !inD d ds else inD d ds)) H
section
variable {X : Cx} {pins : List (Addr × Obj)} {σ : St} {H : Hp} {s : Shared}
noncomputable def eqW (s : Shared) (d : PyData) (u : Value) : Bool := @decide (∃ e as, Reads s.heap u e as ∧ SeqAt.shaped e = true ∧ PyData.eqv e d = true) (Classical.propDecidable _)
theorem eqW_of {d e : PyData} {u : Value} {as : List Addr} (r : Reads s.heap u e as) (he : SeqAt.shaped e = true) : eqW s d u = PyData.eqv e d := by
  unfold eqW
  cases h : PyData.eqv e d with
  | true => exact @decide_eq_true _ (Classical.propDecidable _) ⟨e, as, r, he, h⟩
  | false =>
    refine @decide_eq_false _ (Classical.propDecidable _) ?_
    rintro ⟨e', as', r', he', h'⟩
    rw [SeqAt.Reads.unique e e' u as as' (SeqAt.canLay_of_shaped he) r r'] at h
    rw [h] at h'; cases h'
theorem eqW_all {d : PyData} {v : Value} {bs : List Addr} {A : Around} (hu : A.units + 64 < cLine) (rd : Reads s.heap v d bs) (sd : SeqAt.shaped d = true) : ∀ {us : List Value} {ds : List PyData} {as : List Addr}, ReadsAll s.heap us ds as → (∀ e ∈ ds, SeqAt.shaped e = true) →
    (∀ u ∈ us, SeqAt.EqAt A s u v (eqW s d u)) ∧ us.any (eqW s d) = inD d ds := by
  intro us
  induction us with
  | nil =>
    intro ds as r h
    cases r
    exact ⟨fun u hu => (by cases hu), rfl⟩
  | cons u us ih =>
    intro ds as r h
    cases r with
    | cons r1 r2 =>
      have he := h _ (.head _)
      obtain ⟨i1, i2⟩ := ih r2 fun e m => h e (.tail _ m)
      refine ⟨fun u' m => ?_, ?_⟩
      · rcases List.mem_cons.mp m with rfl | m
        · rw [eqW_of r1 he]
          exact SeqAt.eqAt_reads _ _ A s _ _ _ _ r1 rd (SeqAt.canLay_of_shaped he) (SeqAt.canLay_of_shaped sd) (SeqAt.room_of_shaped he hu)
        · exact i1 u' m
      · unfold inD at *
        rw [List.any_cons, List.any_cons, i2, eqW_of r1 he]
theorem op_inD (hu : X.A.units + 65 < cLine) : OpR X (compareOp .In) (rInD X.K false) := by
  intro pins s σ H x y v u Q I rx ry h
  obtain ⟨p, xs, d, ds, rfl, hq, hd, hds, sd, sds, q⟩ := h
  cases ry
  obtain ⟨bs, rd⟩ := Dp.reads I d x v hd rx
  have hu1 : X.A.in1.units + 64 < cLine := by show X.A.units + 1 + 64 < _; omega
  rcases hq with hq | hq
  · obtain ⟨its, r, pl, hz⟩ := I.list hq
    obtain ⟨as, ra⟩ := Dp.readsAll I ds xs its hds r
    obtain ⟨e1, e2⟩ := eqW_all hu1 rd sd ra sds
    refine SeqAt.in_listAt (eqW s d) pl.isList (fun w hw => e1 w (by simpa using hw)) ⟨.bl _, H, I, rfl, ?_⟩
    rw [show its.toArray.any (eqW s d) = its.any (eqW s d) by simp, e2]
    exact q
  · obtain ⟨its, r, pl, hz⟩ := I.tuple hq
    obtain ⟨as, ra⟩ := Dp.readsAll I ds xs its hds r
    obtain ⟨e1, e2⟩ := eqW_all hu1 rd sd ra sds
    refine SeqAt.in_tupleAt (eqW s d) pl (fun w hw => e1 w (by simpa using hw)) ⟨.bl _, H, I, rfl, ?_⟩
    rw [show its.toArray.any (eqW s d) = its.any (eqW s d) by simp, e2]
    exact q
theorem op_notInD (hu : X.A.units + 65 < cLine) : OpR X (compareOp .NotIn) (rInD X.K true) := by
  intro pins s σ H x y v u Q I rx ry h
  obtain ⟨p, xs, d, ds, rfl, hq, hd, hds, sd, sds, q⟩ := h
  cases ry
  obtain ⟨bs, rd⟩ := Dp.reads I d x v hd rx
  have hu1 : X.A.in1.units + 64 < cLine := by show X.A.units + 1 + 64 < _; omega
  rcases hq with hq | hq
  · obtain ⟨its, r, pl, hz⟩ := I.list hq
    obtain ⟨as, ra⟩ := Dp.readsAll I ds xs its hds r
    obtain ⟨e1, e2⟩ := eqW_all hu1 rd sd ra sds
    refine SeqAt.notIn_listAt (eqW s d) pl.isList (fun w hw => e1 w (by simpa using hw)) ⟨.bl _, H, I, rfl, ?_⟩
    rw [show its.toArray.any (eqW s d) = its.any (eqW s d) by simp, e2]
    exact q
  · obtain ⟨its, r, pl, hz⟩ := I.tuple hq
    obtain ⟨as, ra⟩ := Dp.readsAll I ds xs its hds r
    obtain ⟨e1, e2⟩ := eqW_all hu1 rd sd ra sds
    refine SeqAt.notIn_tupleAt (eqW s d) pl (fun w hw => e1 w (by simpa using hw)) ⟨.bl _, H, I, rfl, ?_⟩
    rw [show its.toArray.any (eqW s d) = its.any (eqW s d) by simp, e2]
    exact q
end
theorem room65 {k : Nat} {A : Around} (r : Room k A) : A.units + 65 < cLine := by have := r.un; omega
end L2
namespace L2
open PySem PySem.Spec PyProof.Rows

/-- how a table starts: a def's with generators, or one with a lambda -/
def TabS (P : Addr) (o : HO) : Prop := o = tabO P ∨ ∃ pos, o = .ext (lamT0 P pos)
/-- how it ends: a table still -/
def TabE (P : Addr) (H : Hp) : Prop := ∃ φ, H P = some (.ext φ) ∧ ∀ h, φ h → ∃ ps, h.get? P = some (PySem.W.tabObj ps)
theorem TabS.ok {P : Addr} {o : HO} {Pr : Program} {w : World} {H : Hp} {h : Heap} (t : TabS P o) (e : h.get? P = some (PySem.W.tabObj #[])) : ObjOk Pr w H h P o := by
  rcases t with rfl | ⟨pos, rfl⟩
  · exact tab_ok ⟨#[], e, trivial⟩
  · exact lamT0_ok ⟨#[], e, trivial, rfl⟩
theorem TabE.tab {P : Addr} {H : Hp} (h : H P = some (tabO P)) : TabE P H := ⟨_, h, fun _ ⟨ps, e, _⟩ => ⟨ps, e⟩⟩
theorem TabE.lam {P : Addr} {pos : Pos} {qual : Str} {H : Hp} (h : LamT P pos qual H) : TabE P H := by
  rcases h with h | ⟨c, h, _⟩
  · exact ⟨_, h, fun _ ⟨ps, e, _⟩ => ⟨ps, e⟩⟩
  · exact ⟨_, h, fun _ ⟨ps, e, _⟩ => ⟨ps, e⟩⟩
/-- the law's call, the tables at Ps tracked -/
theorem law_callL {P : Program} {w : World} {K : PySem.W.Frag} {mg mb : Str → Option Value} {k : Nat} {fa a : Addr} {fd : FuncData} {x : Str} {sp : Sp} {s₁ : Shared} {vs : List Value} {ns : List Int} {Ps : List Addr} {tf : Addr → HO}
    (KX : K.In s₁.heap) (hns : s₁.heap.Ns mainGlobals mg) (hb : s₁.heap.Ns builtinsNs mb) (hbb : ∀ x : Str, x ≠ "__name__" → mb x = bootBuiltins x) (hlim : s₁.heap.NoLimit) (hg : s₁.gens = #[])
    (ha : s₁.heap.get? a = some { cls := .type "list", data := .seq vs.toArray }) (hi : IntsAre vs ns) (hl : ns.length ≤ sizeLine) (hr : Room k callerA) (hbm : BM mg s₁.heap)
    (hT : ∀ P ∈ Ps, s₁.heap.get? P = some (PySem.W.tabObj #[])) (hC : ∀ P ∈ Ps, K.lookup P = none ∧ ∃ c, PySem.W.codeHdIn K c P = true)
    (htf : ∀ P ∈ Ps, TabS P (tf P)) (F : ∀ base : Heap, K.In base → base.Ns mainGlobals mg → BM mg base → FnOk P w K mg base CX0 k fa fd [x] sp) (hbind : ∀ (s : Shared) (u : Value), BindsTo s fd ⟨[u], []⟩ [(x, u)])
    (hsp : ∀ H : Hp, SqL K H a (ns.map V.int) → (∀ P ∈ Ps, H P = some (tf P)) → sp [.ref a] H (fun v H' => v = .bl true ∧ ∀ P ∈ Ps, TabE P H') fun _ _ _ => False) :
    codeAny (model P w) callerA (.call (.ref fa) ⟨[.ref a], []⟩) (fun r s' => r = .ok (.ret (.bool true)) ∧ OldK s₁.heap s'.heap ∧ s'.os = s₁.os ∧ AllBare s'.gens) s₁ := by
  have rv := vals_ints hi
  have lenV := hi.length
  have aP : a ∉ Ps := fun z => by
    have := hT a z
    rw [ha] at this; cases this
  have core : ∀ H : Hp, SqL K H a (ns.map V.int) → HOk P w H s₁.heap → (∀ b u, H b = some u → (b = a ∧ ∃ o xs, u = .frz o (.lst xs)) ∨ (b ∈ Ps ∧ u = tf b)) → (∀ P ∈ Ps, H P = some (tf P)) → (∀ b u, H b = some u → K.lookup b = none) →
      codeAny (model P w) callerA (.call (.ref fa) ⟨[.ref a], []⟩) (fun r s' => r = .ok (.ret (.bool true)) ∧ OldK s₁.heap s'.heap ∧ s'.os = s₁.os ∧ AllBare s'.gens) s₁ := by
    intro H hS hok hA hPs hK
    have base_of : ∀ {b : Addr} {o : Obj}, s₁.heap.get? b = some o → H b = none → (hidT s₁.heap H).get? b = some o := fun e n => hidT_get e n
    have noA : ∀ {b : Addr} {o : Obj}, s₁.heap.get? b = some o → (∀ es n, o.data ≠ .seq es n) → (∀ vs, o.data ≠ .fields vs) → H b = none := fun {b o} e d1 d2 => by
      cases q : H b with
      | none => rfl
      | some u =>
        rcases hA b u q with ⟨rfl, _⟩ | ⟨hp, _⟩
        · rw [ha] at e; cases e; exact absurd rfl (d1 _ _)
        · rw [hT b hp] at e; cases e; exact absurd rfl (d2 _)
    have nsK : ∀ {b : Addr} {m : Str → Option Value}, s₁.heap.Ns b m → (hidT s₁.heap H).Ns b m := fun {b m} ⟨o, es, ep, e, d, r⟩ => ⟨o, es, ep, base_of e (noA e (fun _ _ z => by rw [d] at z; cases z) (fun _ z => by rw [d] at z; cases z)), d, r⟩
    have hKb : K.In (hidT s₁.heap H) := fun b o e => base_of (KX b o e) (by
      cases q : H b with
      | none => rfl
      | some u => rw [hK b u q] at e; cases e)
    have hM : Mod K mg (hidT s₁.heap H) := ⟨hKb, nsK hns, ⟨mb, nsK hb, hbb⟩, let ⟨mc, h1, h2⟩ := hlim; ⟨mc, nsK h1, h2⟩⟩
    have hBM : BM mg (hidT s₁.heap H) := by
      obtain ⟨bm, ob, b1, b2, b3, b4, b5, b6⟩ := hbm
      exact ⟨bm, ob, b1, b2, base_of b3 (noA b3 (fun _ _ z => by rw [b6] at z; cases z) (fun _ z => by rw [b6] at z; cases z)), b4, b5, b6⟩
    have e0 : Env0 P w K mg (hidT s₁.heap H) callerA [] s₁ H := ⟨rfl, hM, fun b o e => of_hidT e, Nat.le_of_eq (hidT_size _ _), trivial, fun b hb => absurd (show b ∈ ([] : List Addr) from hb) (by simp), hok, .of_eq hg⟩
    refine codeAny_mono ((F _ hKb (nsK hns) hBM).run callerA [] s₁ H ⟨[.ref a], []⟩ [.ref a] [.ref a] _ _ hr e0 (hbind s₁ (.ref a)) (.cons rfl .nil) (hsp H hS hPs)) fun r s' h => ?_
    cases r with
    | error e => exact False.elim h
    | ok fl =>
      cases fl with
      | next => exact False.elim h
      | brk => exact False.elim h
      | cont => exact False.elim h
      | ret u =>
        obtain ⟨v, H', os, bare, un, hok', r', q, qT⟩ := h
        subst q
        obtain rfl : u = Value.bool true := r'
        refine ⟨rfl, ⟨fun b o e => ?_, fun b o e => un.there b o e (by simp)⟩, os, bare⟩
        cases q : H b with
        | none => exact .inl (un.keep b o e q (by intro z; exact absurd (show b ∈ ([] : List Addr) from z) (by simp)) (by simp))
        | some u =>
          rcases hA b u q with ⟨rfl, ob, xs, rfl⟩ | ⟨hp, rfl⟩
          · have z2 := un.frzs _ ob _ q
            obtain ⟨e1, _⟩ := hok _ _ q
            obtain ⟨e2, _⟩ := hok' _ _ z2
            rw [e] at e1; cases e1
            exact .inl e2
          · obtain ⟨φ, eφ, hφ⟩ := qT b hp
            obtain ⟨pφ, _, _⟩ := hok' b _ eφ
            obtain ⟨ps, e2⟩ := hφ _ pφ
            rw [hT b hp] at e
            cases e
            obtain ⟨_, c, hc⟩ := hC b hp
            exact .inr (.inl ⟨((PySem.W.codeHd_of_K KX hc).tab (hT b hp)).isCodeTable, rfl, #[], ps, rfl, by rw [e2]; simp⟩)
  let HT : Hp := fun b => if b ∈ Ps then some (tf b) else none
  have okT : ∀ b ∈ Ps, ∀ H : Hp, ObjOk P w H s₁.heap b (tf b) := fun b hb H => (htf b hb).ok (hT b hb)
  cases hk : K.lookup a with
  | some o =>
    have e := KX a o hk
    rw [ha] at e
    cases e
    refine core HT (.inr ⟨_, vs.toArray, _, hk, rfl, rfl, rfl, by rw [List.size_toArray, lenV]; exact hl, by simpa using rv⟩) (fun b u z => ?_) (fun b u z => ?_) (fun b hb => if_pos hb) (fun b u z => ?_)
    · by_cases hp : b ∈ Ps
      · have z' := (if_pos hp).symm.trans z
        cases z'
        exact okT b hp _
      · have z' := (if_neg hp).symm.trans z
        cases z'
    · by_cases hp : b ∈ Ps
      · have z' := (if_pos hp).symm.trans z
        cases z'
        exact .inr ⟨hp, rfl⟩
      · have z' := (if_neg hp).symm.trans z
        cases z'
    · by_cases hp : b ∈ Ps
      · exact (hC b hp).1
      · have z' := (if_neg hp).symm.trans z
        cases z'
  | none =>
    refine core (fun b => if b = a then some (.frz { cls := .type "list", data := .seq vs.toArray } (.lst (ns.map V.int))) else HT b) (.inl (.inr ⟨{ cls := .type "list", data := .seq vs.toArray }, if_pos rfl⟩)) (fun b u z => ?_) (fun b u z => ?_) (fun b hp => ?_) (fun b u z => ?_)
    · by_cases hb : b = a
      · have z' := (if_pos hb).symm.trans z
        cases z'
        subst hb
        exact ⟨ha, by rw [List.length_map]; exact hl, vs, _, rv, ha⟩
      · have z' : HT b = some u := (if_neg hb).symm.trans z
        by_cases hp : b ∈ Ps
        · have z' := (if_pos hp).symm.trans z'
          cases z'
          exact okT b hp _
        · have z' := (if_neg hp).symm.trans z'
          cases z'
    · by_cases hb : b = a
      · have z' := (if_pos hb).symm.trans z
        cases z'
        exact .inl ⟨hb, _, _, rfl⟩
      · have z' : HT b = some u := (if_neg hb).symm.trans z
        by_cases hp : b ∈ Ps
        · have z' := (if_pos hp).symm.trans z'
          cases z'
          exact .inr ⟨hp, rfl⟩
        · have z' := (if_neg hp).symm.trans z'
          cases z'
    · have hb : b ≠ a := fun e => aP (e ▸ hp)
      exact (if_neg hb).trans (if_pos hp)
    · by_cases hb : b = a
      · rw [hb]; exact hk
      · have z' : HT b = some u := (if_neg hb).symm.trans z
        by_cases hp : b ∈ Ps
        · exact (hC b hp).1
        · have z' := (if_neg hp).symm.trans z'
          cases z'
theorem walk_ofL {l : PySem.W.OpenLaw} {n k : Nat} {q : Program} {loose : List Str} {XP : (Str → Option Value) → Heap → Prop} {YP : World → Heap → Prop} {d : DefRec} {K : Params → PySem.W.Frag} {sp : World → Sp} {x : Str} {Ps : List Addr} {tf : Addr → HO}
    (hn : l.most = some n) (hn2 : n ≤ sizeLine) (hdf : d.params.defaults = []) (hr : Room k callerA)
    (hY : ∀ (w : World) (h : Heap), YP w h → (K w.params).In h ∧ ∀ P ∈ Ps, h.get? P = some (PySem.W.tabObj #[])) (hC : ∀ w : World, ∀ P ∈ Ps, (K w.params).lookup P = none ∧ ∃ c, PySem.W.codeHdIn (K w.params) c P = true)
    (htf : ∀ P ∈ Ps, TabS P (tf P)) (F : ∀ (w : World) (mg : Str → Option Value) (fa : Addr) (h : Heap), (K w.params).In h → h.Ns mainGlobals mg → mg d.name = some (.ref fa) →
      ∃ fd : FuncData, (∀ (s : Shared) (u : Value), BindsTo s fd ⟨[u], []⟩ [(x, u)]) ∧
        ∀ base : Heap, (K w.params).In base → base.Ns mainGlobals mg → BM mg base → FnOk l.prog w (K w.params) mg base CX0 k fa fd [x] (sp w))
    (hsp : ∀ (w : World) (H : Hp) (a : Addr) (ns : List Int), ns.length ≤ n → SqL (K w.params) H a (ns.map V.int) → (∀ P ∈ Ps, H P = some (tf P)) → sp w [.ref a] H (fun v H' => v = .bl true ∧ ∀ P ∈ Ps, TabE P H') fun _ _ _ => False) :
    PySem.W.WalkO q loose XP YP l.row.toRowW d [] (fun f vs => PySem.call f vs) := by
  refine Att.attach_call hn hdf fun w s₀ s₁ mg mb fa o pm cd doc a vs ns G Y ho hd hcd hmg hobj hints hlen hg => ?_
  obtain ⟨KX, hT⟩ := hY w _ Y
  obtain ⟨fd, hb, hF⟩ := F w mg fa _ KX G.T.g hmg
  exact law_callL KX G.T.g G.T.b G.T.builtins G.T.nolimit hg hobj hints (Nat.le_trans hlen hn2) hr G.T.bmain hT (hC w) htf hF hb fun H hS hP => hsp w H a ns hlen hS hP
/-- what law(script) promises, the tables at Ps tracked from tf -/
def sp_lawL (K : PySem.W.Frag) (Ps : List Addr) (tf : Addr → HO) : Sp := fun vs H Q _ => ∃ (a : Addr) (ns : List Int), vs = [.ref a] ∧ SqL K H a (ns.map V.int) ∧ ns.length ≤ 63 ∧ (∀ P ∈ Ps, H P = some (tf P)) ∧ ∀ H', (∀ P ∈ Ps, TabE P H') → Q (.bl true) H'
theorem SameP.refl (P : Addr) (H : Hp) : SameP P H H := fun _ _ _ e => e
theorem SameP.trans {P : Addr} {H H1 H2 : Hp} (a : SameP P H H1) (b : SameP P H1 H2) : SameP P H H2 := fun c o n e => b c o n (a c o n e)
theorem SameP.of {P : Addr} {H H' : Hp} (h : Same H H') : SameP P H H' := fun c o _ e => h c o e
theorem LamAt.same {P c : Addr} {pos : Pos} {qual : Str} {H H' : Hp} (h : LamAt P c pos qual H) (s : Same H H') : LamAt P c pos qual H' := ⟨s _ _ h.1, s _ _ h.2⟩
theorem LamT.same {P : Addr} {pos : Pos} {qual : Str} {H H' : Hp} (h : LamT P pos qual H) (s : Same H H') : LamT P pos qual H' := h.elim (fun h => .inl (s _ _ h)) fun ⟨c, h⟩ => .inr ⟨c, h.same s⟩
theorem LamT.ext {P : Addr} {pos : Pos} {qual : Str} {H : Hp} (h : LamT P pos qual H) : ∃ φ, H P = some (.ext φ) := h.elim (fun h => ⟨_, h⟩) fun ⟨_, h, _⟩ => ⟨_, h⟩
theorem SameP.kt {P : Addr} {pos : Pos} {qual : Str} {H H' : Hp} (s : SameP P H H') (h : LamT P pos qual H) : EB.KT H H' := fun c xs e => s c _ (fun z => by
  obtain ⟨φ, q⟩ := h.ext
  rw [z, q] at e; cases e) e
theorem SameP.seq {K : PySem.W.Frag} {P a : Addr} {xs : List V} {pos : Pos} {qual : Str} {H H' : Hp} (s : SameP P H H') (t : LamT P pos qual H) (h : SqL K H a xs) : SqL K H' a xs := by
  obtain ⟨φ, q⟩ := t.ext
  rcases h with (h | ⟨o, h⟩) | h
  · exact .inl (.inl (s a _ (fun z => by rw [z, q] at h; cases h) h))
  · exact .inl (.inr ⟨o, s a _ (fun z => by rw [z, q] at h; cases h) h⟩)
  · exact .inr h
end L2
namespace EB
open PySem PySem.Spec PyProof.Rows L2
/-- a def at the top whose code stands at c: for all(x for ..) in it -/
def DefT (K : PySem.W.Frag) (mg : Str → Option Value) (x : Str) (st : Stmt) (ps : List Str) (c : Addr) : Prop := ∃ (f : Addr) (fd : FuncData), FunT K x x st f fd c ∧ Binds K fd ps [] ∧ mg x = some (.ref f)
theorem DefT.ok {P : Program} {w : World} {K : PySem.W.Frag} {mg : Str → Option Value} {base : Heap} {x : Str} {st : Stmt} {N ps : List Str} {k : Nat} {sp : Sp} {c : Addr} (D : DefT K mg x st ps c) (S : FnScope N ps (defScope st)) (len : ∀ vs H Q E, sp vs H Q E → vs.length = ps.length)
    (hbody : ∀ (f : Addr) (A : Around) (outer : List Env) (s : Shared) (H : Hp) (vs : List V) (Q : VK) (E : XK), Room k (A.deeper (envOfC x (defScope st) s.heap.objs.size f (.ref c))) → sp vs H Q E →
      ∃ t, PSs (cxOf CX0 P w K mg base N x (defScope st) f (.ref c) A outer s H E).nox (defBody st) t ∧ t { nx := fun _ H' => Q .non H', rt := Q } (start N vs) H) : Fn P w K mg base x (k + 1) ps sp := by
  obtain ⟨f, fd, F, b, m⟩ := D
  exact ⟨f, fd, F.ok S len fun A outer s H vs Q E hr h => hbody f A outer s H vs Q E hr h, b, F.kp, m⟩
end EB
namespace EB
open PySem PySem.Spec PyProof.Rows L2

theorem ix_seqJ {X : Cx} {K : PySem.W.Frag} (h : X.K = K) : IxR X (rIx K) := by
  subst h
  exact ix_seq
theorem sum_few {α : Type} {f : α → Nat} {k : Nat} : ∀ (l : List α), (∀ x ∈ l, f x ≤ k) → (l.map f).sum ≤ k * l.length
  | [], _ => Nat.zero_le _
  | x :: l, h => by
    have a := h x List.mem_cons_self
    have b := sum_few l fun y m => h y (List.mem_cons_of_mem _ m)
    rw [List.map_cons, List.sum_cons, List.length_cons, Nat.mul_add, Nat.mul_one]
    omega
theorem inV_rows (rs : List (Nat × Wd)) (c : Nat) : inV (.str (sgn c)) ((rs.map fun r => sgn r.1).map V.str) = decide (c ∈ rs.map (·.1)) := by
  induction rs with
  | nil => rfl
  | cons r rs ih =>
    show (eqV (.str (sgn r.1)) (.str (sgn c)) || inV (.str (sgn c)) ((rs.map fun r => sgn r.1).map V.str)) = decide (c ∈ r.1 :: rs.map (·.1))
    rw [ih]
    show (sgn r.1 == sgn c || decide (c ∈ rs.map (·.1))) = _
    by_cases e : r.1 = c
    · subst e
      rw [beq_self_eq_true, Bool.true_or, decide_eq_true List.mem_cons_self]
    · rw [beq_eq_false_iff_ne.mpr fun z => e (sgn_inj z), Bool.false_or]
      by_cases m : c ∈ rs.map (·.1)
      · rw [decide_eq_true m, decide_eq_true (List.mem_cons_of_mem _ m)]
      · rw [decide_eq_false m, decide_eq_false fun z => (List.mem_cons.mp z).elim (fun q => e q.symm) m]
theorem flat_strs : ∀ (xs : List Str), (xs.map V.str).all flatV = true
  | [] => rfl
  | x :: xs => by rw [List.map_cons, List.all_cons, flat_strs xs]; rfl
def putF2 (f g : Nat → Option Wd) : Nat → Option Wd := fun c => match f c with
  | some y => some (y.put g)
  | none => g c
mutual
theorem put_put (f g : Nat → Option Wd) : ∀ x : Wd, (x.put f).put g = x.put (putF2 f g)
  | .letter c => by
    show ((f c).getD (.letter c)).put g = (putF2 f g c).getD (.letter c)
    unfold putF2
    cases e : f c with
    | none => rfl
    | some y => rfl
  | .node u ws => by show Wd.node u (putL g (putL f ws)) = .node u (putL _ ws); rw [put_putL f g ws]
theorem put_putL (f g : Nat → Option Wd) : ∀ ws : List Wd, putL g (putL f ws) = putL (putF2 f g) ws
  | [] => rfl
  | w :: ws => by show (w.put f).put g :: putL g (putL f ws) = w.put _ :: putL _ ws; rw [put_put f g w, put_putL f g ws]
end
mutual
theorem put_turn (f : Nat → Option Wd) : ∀ x : Wd, (x.put f).turn = x.turn.put fun c => (f c).map Wd.turn
  | .letter c => by
    show ((f c).getD (.letter c)).turn = ((f c).map Wd.turn).getD (.letter c)
    cases f c <;> rfl
  | .node u ws => by show Wd.node (!u) (turnL (putL f ws)) = .node (!u) (putL _ (turnL ws)); rw [put_turnL f ws]
theorem put_turnL (f : Nat → Option Wd) : ∀ ws : List Wd, turnL (putL f ws) = putL (fun c => (f c).map Wd.turn) (turnL ws)
  | [] => rfl
  | w :: ws => by show (w.put f).turn :: turnL (putL f ws) = _ :: _; rw [put_turn f w, put_turnL f ws]
end
theorem look_map {f : Wd → Wd} : ∀ (rs : List (Nat × Wd)) (c : Nat), look (rs.map fun r => (r.1, f r.2)) c = (look rs c).map f
  | [], c => rfl
  | r :: rs, c => by
    show (if r.1 = c then some (f r.2) else look (rs.map fun r => (r.1, f r.2)) c) = (if r.1 = c then some r.2 else look rs c).map f
    split
    · rfl
    · exact look_map rs c
theorem look_append : ∀ (rs zs : List (Nat × Wd)) (c : Nat), look (rs ++ zs) c = (look rs c).or (look zs c)
  | [], zs, c => rfl
  | r :: rs, zs, c => by
    show (if r.1 = c then some r.2 else look (rs ++ zs) c) = (if r.1 = c then some r.2 else look rs c).or (look zs c)
    split
    · rfl
    · exact look_append rs zs c
theorem look_permR {rs zs : List (Nat × Wd)} (p : rs.Perm zs) (nd : (zs.map (·.1)).Nodup) (c : Nat) : look rs c = look zs c := by
  have nd' : (rs.map (·.1)).Nodup := (p.map (·.1)).nodup_iff.mpr nd
  cases e : look zs c with
  | none =>
    rw [look_none] at e ⊢
    exact fun m => e ((p.map (·.1)).mem_iff.mp m)
  | some y => exact look_of nd' (p.mem_iff.mpr (look_mem e))
def joinR (near far : List (Nat × Wd)) : List (Nat × Wd) := near.map (fun r => (r.1, r.2.put (look far))) ++ far.filter fun r => decide (r.1 ∉ near.map (·.1))
theorem look_filter {q : Nat → Bool} : ∀ (rs : List (Nat × Wd)) (c : Nat), look (rs.filter fun r => q r.1) c = if q c then look rs c else none
  | [], c => by simp [look]
  | r :: rs, c => by
    rw [List.filter_cons]
    cases h : q r.1 with
    | true =>
      rw [if_pos rfl]
      show (if r.1 = c then some r.2 else look (rs.filter fun r => q r.1) c) = if q c then (if r.1 = c then some r.2 else look rs c) else none
      rw [look_filter rs c]
      by_cases e : r.1 = c
      · subst e; rw [if_pos rfl, h, if_pos rfl, if_pos rfl]
      · rw [if_neg e, if_neg e]
    | false =>
      rw [if_neg (by decide), look_filter rs c]
      show _ = if q c then (if r.1 = c then some r.2 else look rs c) else none
      by_cases e : r.1 = c
      · subst e; rw [h, if_neg (by decide), if_neg (by decide)]
      · rw [if_neg e]
theorem look_join (near far : List (Nat × Wd)) (c : Nat) : look (joinR near far) c = putF2 (look near) (look far) c := by
  unfold joinR
  rw [look_append, look_map, look_filter (q := fun a => decide (a ∉ near.map (·.1)))]
  unfold putF2
  cases e : look near c with
  | some y => rfl
  | none =>
    rw [look_none] at e
    show (if decide (c ∉ near.map (·.1)) = true then look far c else none) = look far c
    rw [decide_eq_true e, if_pos rfl]
theorem joinR_good {near far : List (Nat × Wd)} (h1 : GoodR 3 2 near) (h2 : GoodR 3 2 far) : GoodR 9 4 (joinR near far) := by
  refine ⟨?_, fun r mr => ?_⟩
  · unfold joinR
    rw [List.map_append, List.map_map]
    refine List.nodup_append.mpr ⟨h1.nd, h2.nd.sublist (List.Sublist.map _ List.filter_sublist), fun a ha b hb e => ?_⟩
    obtain ⟨r, mr, rfl⟩ := List.mem_map.mp hb
    have := (List.mem_filter.mp mr).2
    exact of_decide_eq_true this (e ▸ ha)
  · rcases List.mem_append.mp mr with mr | mr
    · obtain ⟨q, mq, rfl⟩ := List.mem_map.mp mr
      obtain ⟨a, b, c, d⟩ := h1.ok q mq
      refine ⟨a, put_ok h2 _ b, ?_, ?_⟩
      · have := put_places (by decide) h2 q.2
        show (q.2.put (look far)).places ≤ 9
        omega
      · have := put_depth h2 q.2
        show (q.2.put (look far)).depth ≤ 4
        omega
    · obtain ⟨a, b, c, d⟩ := h2.ok r (List.mem_filter.mp mr).1
      exact ⟨a, b, by omega, by omega⟩
/-- the texts in the place of letters -/
def wrS (f : Nat → Option Wd) (c : Nat) : Str := match f c with
  | some y => y.text
  | none => sgn c
def wrC (f : Nat → Option Wd) (c : Nat) : List Nat := (wrS f c).cps.toList
theorem wrC_no {rs : List (Nat × Wd)} {m d : Nat} (g : GoodR m d rs) {c : Nat} (h : ¬ (97 ≤ c ∧ c ≤ 122)) : wrC (look rs) c = [c] := by
  have : look rs c = none := look_none.mpr fun m => by
    obtain ⟨r, mr, rfl⟩ := List.mem_map.mp m
    exact h (g.ok r mr).1
  unfold wrC wrS
  rw [this]; rfl
mutual
theorem put_codes {rs : List (Nat × Wd)} {m d : Nat} (g : GoodR m d rs) : ∀ (x : Wd), x.ok → (x.put (look rs)).codes = x.codes.flatMap (wrC (look rs))
  | .letter c, h => by
    show ((look rs c).getD (.letter c)).codes = [c].flatMap (wrC (look rs))
    rw [List.flatMap_cons, List.flatMap_nil, List.append_nil]
    unfold wrC wrS
    cases e : look rs c with
    | none => rfl
    | some y => exact (text_codes y (g.ok _ (look_mem e)).2.1).symm
  | .node u ws, h => by
    show 40 :: midC u (putL (look rs) ws) = (40 :: midC u ws).flatMap (wrC (look rs))
    rw [List.flatMap_cons, wrC_no g (by decide), put_mid g u ws h.2]; rfl
theorem put_mid {rs : List (Nat × Wd)} {m d : Nat} (g : GoodR m d rs) (u : Bool) : ∀ (ws : List Wd), okL ws → midC u (putL (look rs) ws) = (midC u ws).flatMap (wrC (look rs))
  | [], _ => by show [41] = [41].flatMap _; rw [List.flatMap_cons, wrC_no g (by decide)]; rfl
  | w :: ws, h => by
    show (w.put (look rs)).codes ++ tailC u (putL (look rs) ws) = (w.codes ++ tailC u ws).flatMap _
    rw [List.flatMap_append, put_codes g w h.1, put_tail g u ws h.2]
theorem put_tail {rs : List (Nat × Wd)} {m d : Nat} (g : GoodR m d rs) (u : Bool) : ∀ (ws : List Wd), okL ws → tailC u (putL (look rs) ws) = (tailC u ws).flatMap (wrC (look rs))
  | [], _ => by show [41] = [41].flatMap _; rw [List.flatMap_cons, wrC_no g (by decide)]; rfl
  | w :: ws, h => by
    show sepC u :: ((w.put (look rs)).codes ++ tailC u (putL (look rs) ws)) = (sepC u :: (w.codes ++ tailC u ws)).flatMap _
    rw [List.flatMap_cons, List.flatMap_append, put_codes g w h.1, put_tail g u ws h.2, wrC_no g (by cases u <;> decide)]; rfl
end
theorem join_none : ∀ (ts : List Str), (Txt.join ("" : Str) ts).cps.toList = ts.flatMap fun t => t.cps.toList
  | [] => rfl
  | t :: ts => by
    rw [join_cps, List.flatMap_cons]
    congr 1
theorem put_text {rs : List (Nat × Wd)} {m d : Nat} (g : GoodR m d rs) {x : Wd} (h : x.ok) : Txt.join ("" : Str) (x.codes.map (wrS (look rs))) = (x.put (look rs)).text := by
  have e : (Txt.join ("" : Str) (x.codes.map (wrS (look rs)))).cps.toList = (x.put (look rs)).text.cps.toList := by
    rw [join_none, text_codes _ (put_ok g x h), put_codes g x h, List.flatMap_map]
    rfl
  cases h1 : Txt.join ("" : Str) (x.codes.map (wrS (look rs))) with
  | mk a =>
    cases h2 : (x.put (look rs)).text with
    | mk b =>
      rw [h1, h2] at e
      have : a = b := Array.toList_inj.mp e
      rw [this]
theorem wrS_len {rs : List (Nat × Wd)} {d : Nat} (g : GoodR 3 d rs) (c : Nat) : (wrS (look rs) c).length ≤ 9 := by
  unfold wrS
  cases e : look rs c with
  | none => exact (by decide : 1 ≤ 9)
  | some y =>
    have := g.ok _ (look_mem e)
    have tl := text_len this.2.1
    have p : y.places ≤ 3 := this.2.2.1
    have tl : y.text.length + 3 ≤ 4 * y.places := tl
    show y.text.length ≤ 9
    omega
theorem wr_sum {rs : List (Nat × Wd)} {d : Nat} (g : GoodR 3 d rs) (cs : List Nat) (h : cs.length ≤ 100) : ((cs.map (wrS (look rs))).map (·.length)).sum + (cs.map (wrS (look rs))).length * ("" : Str).length ≤ 16777216 := by
  have := sum_few (f := fun t : Str => t.length) (k := 9) (cs.map (wrS (look rs))) fun x m => by
    obtain ⟨c, _, rfl⟩ := List.mem_map.mp m
    exact wrS_len g c
  have e : ("" : Str).length = 0 := rfl
  rw [e, Nat.mul_zero]
  rw [List.length_map] at this
  omega
/-- the letters' texts, as a dict -/
def tkv (rs : List (Nat × Wd)) : List (Key × V) := rs.map fun r => (.inr (sgn r.1), .str r.2.text)
theorem tkv_snoc {rs : List (Nat × Wd)} {r : Nat × Wd} (n : r.1 ∉ rs.map (·.1)) : putK (tkv rs) (.inr (sgn r.1)) (.str r.2.text) = tkv (rs ++ [r]) := by
  have : ((tkv rs).any fun kv => decide (kv.1 = .inr (sgn r.1))) = false := by
    rw [List.any_eq_false]
    intro kv m
    obtain ⟨q, mq, rfl⟩ := List.mem_map.mp m
    simp only [decide_eq_true_eq]
    intro z
    exact n (List.mem_map.mpr ⟨q, mq, sgn_inj (by injection z)⟩)
  unfold putK
  rw [if_neg (by rw [this]; decide)]
  unfold tkv
  rw [List.map_append]; rfl
theorem tkv_get : ∀ (rs : List (Nat × Wd)) (c : Nat), valV (tkv rs) (.inr (sgn c)) = (look rs c).map fun y => .str y.text
  | [], c => rfl
  | r :: rs, c => by
    by_cases e : r.1 = c
    · subst e
      show valV ((Sum.inr (sgn r.1), V.str r.2.text) :: tkv rs) _ = (if r.1 = r.1 then some r.2 else look rs r.1).map _
      rw [valV_pos rfl, if_pos rfl]; rfl
    · have ne : ¬ ((Sum.inr (sgn r.1) : Key) = .inr (sgn c)) := fun z => e (sgn_inj (by injection z))
      have ev : valV (tkv (r :: rs)) (.inr (sgn c)) = valV (tkv rs) (.inr (sgn c)) := by
        show valV ((Sum.inr (sgn r.1), V.str r.2.text) :: tkv rs) (.inr (sgn c)) = _
        unfold valV
        rw [List.find?_cons]
        dsimp only
        rw [decide_eq_false ne]
      rw [ev, tkv_get rs c]
      show _ = (if r.1 = c then some r.2 else look rs c).map _
      rw [if_neg e]
def sp_written (n : Nat) : Sp := fun vs H Q _ => ∃ (v : V) (x : Wd) (rs : List (Nat × Wd)), vs = [.str x.text, v] ∧ x.ok ∧ x.places ≤ 12 ∧ RowsAt H rs v ∧ GoodR 3 2 rs ∧ 3 ≤ n ∧ ∀ H', Same H H' → Q (.str (x.put (look rs)).text) H'
def sp_joined2 (P1 : Addr) (pos : Pos) (qual : Str) : Sp := fun vs H Q _ => ∃ (v1 v2 : V) (near far : List (Nat × Wd)), vs = [v1, v2] ∧ RowsAt H near v1 ∧ RowsAt H far v2 ∧ GoodR 3 2 near ∧ GoodR 3 2 far ∧ LamT P1 pos qual H ∧
  ∀ (v : V) (rs : List (Nat × Wd)) (H' : Hp), SameP P1 H H' → LamT P1 pos qual H' → RowsAt H' rs v → rs.Perm (joinR near far) → Q v H'
theorem RowL.of_get {H : Hp} : ∀ {rs : List (Nat × Wd)} {vs : List V}, vs.length = rs.length → (∀ (i : Nat) (v : V), vs[i]? = some v → ∃ r, rs[i]? = some r ∧ RowAt H r v) → RowL H rs vs
  | [], vs, h, _ => List.length_eq_zero_iff.mp h
  | r :: rs, [], h, _ => by simp at h
  | r :: rs, v :: vs, h, g => by
    obtain ⟨r', e, q⟩ := g 0 v rfl
    cases e
    exact ⟨v, vs, rfl, q, RowL.of_get (by simpa using h) fun i u e => g (i + 1) u (by simpa using e)⟩
/-- rows ordered by their letters -/
theorem rowL_perm {H : Hp} {rs : List (Nat × Wd)} {vs : List V} (h : RowL H rs vs) {ps : List (Str × V)} (p : ps.Perm ((rs.map fun r => sgn r.1).zip vs)) : ∃ rs', rs'.Perm rs ∧ RowL H rs' (ps.map (·.2)) := by
  have hl := h.length
  have key : ∀ {rs : List (Nat × Wd)} {vs : List V}, RowL H rs vs → Paired (fun (r : Nat × Wd) (q : Str × V) => RowAt H r q.2) rs ((rs.map fun r => sgn r.1).zip vs) := by
    intro rs
    induction rs with
    | nil => intro vs _; exact .nil
    | cons r rs ih =>
      rintro _ ⟨v, vs', rfl, h1, h2⟩
      exact .cons h1 (ih h2)
  obtain ⟨rs', p', q'⟩ := paired_perm p (key h)
  refine ⟨rs', p', ?_⟩
  have back : ∀ {rs : List (Nat × Wd)} {ps : List (Str × V)}, Paired (fun (r : Nat × Wd) (q : Str × V) => RowAt H r q.2) rs ps → RowL H rs (ps.map (·.2)) := by
    intro rs ps h
    induction h with
    | nil => rfl
    | cons r t ih => exact ⟨_, _, rfl, r, ih⟩
  exact back q'
end EB
namespace EB
open PySem PySem.Spec PyProof.Rows L2

theorem isLet_sgn2 {c : Nat} (h : 97 ≤ c ∧ c ≤ 122) : isLet (sgn c) = true := isLet_sgn (c := c) h
theorem isD_deed (u : Bool) : isDeed (.str (deedS u)) = true := by cases u <;> decide +kernel
theorem toDL_len : ∀ ws : List Wd, (toDL ws).length = ws.length
  | [] => rfl
  | w :: ws => by show (toDL ws).length + 1 = ws.length + 1; rw [toDL_len ws]
mutual
theorem isW_wd : ∀ (w : Wd), w.ok → isW w.toD = true
  | .letter c, h => by show isW (.str (sgn c)) = true; unfold isW; exact isLet_sgn2 h
  | .node u ws, h => by
    show isW (.tuple (.str (deedS u) :: toDL ws)) = true
    unfold isW
    dsimp only
    rw [isD_deed, isWL_wd ws h.2, toDL_len, decide_eq_true h.1]; rfl
theorem isWL_wd : ∀ (ws : List Wd), okL ws → isWL (toDL ws) = true
  | [], _ => by show isWL [] = true; unfold isWL; rfl
  | w :: ws, h => by
    show isWL (w.toD :: toDL ws) = true
    unfold isWL
    rw [isW_wd w h.1, isWL_wd ws h.2]; rfl
end
theorem toDL_map : ∀ ws : List Wd, toDL ws = ws.map Wd.toD
  | [] => rfl
  | w :: ws => by show w.toD :: toDL ws = _; rw [toDL_map ws]; rfl
mutual
theorem lets_in : ∀ (w : Wd) (c : Nat), c ∈ w.lets ↔ Wd.letter c ∈ w.parts
  | .letter d, c => by
    show c ∈ [d] ↔ Wd.letter c ∈ [Wd.letter d]
    rw [List.mem_singleton, List.mem_singleton]
    exact ⟨fun e => by rw [e], fun e => by injection e⟩
  | .node u ws, c => by
    show c ∈ letsL ws ↔ Wd.letter c ∈ partsL ws ++ [.node u ws]
    rw [List.mem_append, lets_inL ws c, List.mem_singleton]
    exact ⟨.inl, fun h => h.elim id fun e => by cases e⟩
theorem lets_inL : ∀ (ws : List Wd) (c : Nat), c ∈ letsL ws ↔ Wd.letter c ∈ partsL ws
  | [], c => Iff.intro (fun h => by cases h) (fun h => by cases h)
  | w :: ws, c => by
    show c ∈ w.lets ++ letsL ws ↔ Wd.letter c ∈ w.parts ++ partsL ws
    rw [List.mem_append, List.mem_append, lets_in w c, lets_inL ws c]
end
theorem inD_mem {w : Wd} {ws : List Wd} (m : w ∈ ws) (h : w.ok) : inD w.toD (toDL ws) = true := by
  unfold inD
  rw [toDL_map, List.any_map, List.any_eq_true]
  exact ⟨w, m, eqv_self h⟩
theorem eqv_strs (x y : Str) : PyData.eqv (.str x) (.str y) = (x == y) := by simp [PyData.eqv]
/-- a part is among letters just where it is one of them -/
theorem inD_strs {w : Wd} {ys : List Str} : inD w.toD (ys.map PyData.str) = match w with
    | .letter c => decide (sgn c ∈ ys)
    | _ => false := by
  unfold inD
  rw [List.any_map]
  cases w with
  | letter c =>
    show (ys.any fun y => PyData.eqv (.str y) (.str (sgn c))) = decide (sgn c ∈ ys)
    by_cases m : sgn c ∈ ys
    · rw [decide_eq_true m, List.any_eq_true]
      exact ⟨_, m, by rw [eqv_strs, beq_self_eq_true]⟩
    · rw [decide_eq_false m, List.any_eq_false]
      intro y my
      rw [eqv_strs]
      simp only [beq_iff_eq]
      exact fun e => m (e ▸ my)
  | node u ws =>
    rw [List.any_eq_false]
    intro y my
    show ¬ PyData.eqv (.str y) (.tuple (.str (deedS u) :: toDL ws)) = true
    simp [PyData.eqv]
def isLt (w : Wd) : Bool := match w with
  | .letter _ => true
  | _ => false
theorem sorted_sub {l m : List Str} (h : l.Sublist m) (hm : sortedS m = true) : sortedS l = true := by
  have := (sorted_pw m hm).sublist h
  exact sortedS_of_pairwise l this
theorem isLt_toD {w : Wd} (h : isLt w = true) : w.toD = .str w.text := by
  cases w with
  | letter c => rfl
  | node u ws => cases h
/-- the parts that are letters, in the order of texts, are the letters -/
theorem parts_lets {w : Wd} (hw : w.ok) {ws : List Wd} {ys : List Str} (so : sortedS (ws.map Wd.text) = true) (nd : ws.Nodup) (mem : ∀ x, x ∈ ws ↔ x ∈ w.parts) (so2 : sortedS ys = true) (nd2 : ys.Nodup) (mem2 : ∀ y, y ∈ ys ↔ y ∈ w.lets.map sgn) :
    (ws.filter isLt).map Wd.text = ys := by
  have ok : ∀ x ∈ ws, x.ok := fun x m => (parts_ok w hw x ((mem x).mp m)).1
  refine sorted_mem (sorted_sub (List.Sublist.map _ List.filter_sublist) so) so2 ?_ nd2 fun y => ?_
  · refine nodup_map (nd.sublist List.filter_sublist) fun a ha b hb e => ?_
    exact text_inj (ok a (List.mem_filter.mp ha).1) (ok b (List.mem_filter.mp hb).1) e
  · rw [mem2 y]
    constructor
    · intro m
      obtain ⟨x, mx, rfl⟩ := List.mem_map.mp m
      obtain ⟨m1, m2⟩ := List.mem_filter.mp mx
      cases x with
      | letter c => exact List.mem_map.mpr ⟨c, (lets_in w c).mpr ((mem _).mp m1), rfl⟩
      | node u ws => cases m2
    · intro m
      obtain ⟨c, mc, rfl⟩ := List.mem_map.mp m
      exact List.mem_map.mpr ⟨.letter c, List.mem_filter.mpr ⟨(mem _).mpr ((lets_in w c).mp mc), rfl⟩, rfl⟩
theorem lt_toDs : ∀ (ws : List Wd), (ws.filter isLt).map Wd.toD = ((ws.filter isLt).map Wd.text).map PyData.str := fun ws => by
  rw [List.map_map]
  refine List.map_congr_left fun x m => isLt_toD (List.mem_filter.mp m).2
end EB
namespace LW
open PySem PySem.Spec PyProof.Rows L2 EB
def top (i : Nat) : Stmt := PySem.Challenge.pw_eitherboth_k06_whole_words_put_in_twice.main.body.getD i (.Pass ⟨0, 0, 0, 0⟩)
abbrev s_is_letter : Stmt := top 3
abbrev P_is_letter : List Str := ["thing"]
abbrev N_is_letter : List Str := ["thing"]
theorem sc_is_letter : FnScope N_is_letter P_is_letter (defScope s_is_letter) := ⟨rfl, rfl, rfl, by decide +kernel, rfl, by decide +kernel, by decide +kernel⟩
abbrev s_is_deed : Stmt := top 4
abbrev P_is_deed : List Str := ["thing"]
abbrev N_is_deed : List Str := ["thing"]
theorem sc_is_deed : FnScope N_is_deed P_is_deed (defScope s_is_deed) := ⟨rfl, rfl, rfl, by decide +kernel, rfl, by decide +kernel, by decide +kernel⟩
abbrev s_deed_turned : Stmt := top 5
abbrev P_deed_turned : List Str := ["deed"]
abbrev N_deed_turned : List Str := ["deed"]
theorem sc_deed_turned : FnScope N_deed_turned P_deed_turned (defScope s_deed_turned) := ⟨rfl, rfl, rfl, by decide +kernel, rfl, by decide +kernel, by decide +kernel⟩
abbrev s_has_deed_and_arms : Stmt := top 6
abbrev P_has_deed_and_arms : List Str := ["thing"]
abbrev N_has_deed_and_arms : List Str := ["thing"]
theorem sc_has_deed_and_arms : FnScope N_has_deed_and_arms P_has_deed_and_arms (defScope s_has_deed_and_arms) := ⟨rfl, rfl, rfl, by decide +kernel, rfl, by decide +kernel, by decide +kernel⟩
abbrev s_is_word : Stmt := top 8
abbrev P_is_word : List Str := ["thing"]
abbrev N_is_word : List Str := ["thing", "waiting", "part"]
theorem sc_is_word : FnScope N_is_word P_is_word (defScope s_is_word) := ⟨rfl, rfl, rfl, by decide +kernel, rfl, by decide +kernel, by decide +kernel⟩
abbrev s_standing_letters : Stmt := top 9
abbrev P_standing_letters : List Str := ["word"]
abbrev N_standing_letters : List Str := ["word", "letters", "waiting", "part"]
theorem sc_standing_letters : FnScope N_standing_letters P_standing_letters (defScope s_standing_letters) := ⟨rfl, rfl, rfl, by decide +kernel, rfl, by decide +kernel, by decide +kernel⟩
abbrev s_places_of : Stmt := top 10
abbrev P_places_of : List Str := ["word"]
abbrev N_places_of : List Str := ["word"]
theorem sc_places_of : FnScope N_places_of P_places_of (defScope s_places_of) := ⟨rfl, rfl, rfl, by decide +kernel, rfl, by decide +kernel, by decide +kernel⟩
abbrev s_letters_of : Stmt := top 11
abbrev P_letters_of : List Str := ["word"]
abbrev N_letters_of : List Str := ["word"]
theorem sc_letters_of : FnScope N_letters_of P_letters_of (defScope s_letters_of) := ⟨rfl, rfl, rfl, by decide +kernel, rfl, by decide +kernel, by decide +kernel⟩
abbrev s_joined_texts : Stmt := top 12
abbrev P_joined_texts : List Str := ["deed", "texts"]
abbrev N_joined_texts : List Str := ["deed", "texts", "inner"]
theorem sc_joined_texts : FnScope N_joined_texts P_joined_texts (defScope s_joined_texts) := ⟨rfl, rfl, rfl, by decide +kernel, rfl, by decide +kernel, by decide +kernel⟩
abbrev s_text_of : Stmt := top 13
abbrev P_text_of : List Str := ["word"]
abbrev N_text_of : List Str := ["word", "arm"]
theorem sc_text_of : FnScope N_text_of P_text_of (defScope s_text_of) := ⟨rfl, rfl, rfl, by decide +kernel, rfl, by decide +kernel, by decide +kernel⟩
abbrev s_gather_parts : Stmt := top 14
abbrev P_gather_parts : List Str := ["word", "parts"]
abbrev N_gather_parts : List Str := ["word", "parts", "text", "arm"]
theorem sc_gather_parts : FnScope N_gather_parts P_gather_parts (defScope s_gather_parts) := ⟨rfl, rfl, rfl, by decide +kernel, rfl, by decide +kernel, by decide +kernel⟩
abbrev s_parts_of : Stmt := top 15
abbrev P_parts_of : List Str := ["word"]
abbrev N_parts_of : List Str := ["word", "parts", "text"]
theorem sc_parts_of : FnScope N_parts_of P_parts_of (defScope s_parts_of) := ⟨rfl, rfl, rfl, by decide +kernel, rfl, by decide +kernel, by decide +kernel⟩
abbrev s_put_rows_in : Stmt := top 16
abbrev P_put_rows_in : List Str := ["word", "rows"]
abbrev N_put_rows_in : List Str := ["word", "rows", "arms", "arm"]
theorem sc_put_rows_in : FnScope N_put_rows_in P_put_rows_in (defScope s_put_rows_in) := ⟨rfl, rfl, rfl, by decide +kernel, rfl, by decide +kernel, by decide +kernel⟩
abbrev s_put_in : Stmt := top 17
abbrev P_put_in : List Str := ["word", "choice"]
abbrev N_put_in : List Str := ["word", "choice", "letter", "row"]
theorem sc_put_in : FnScope N_put_in P_put_in (defScope s_put_in) := ⟨rfl, rfl, rfl, by decide +kernel, rfl, by decide +kernel, by decide +kernel⟩
abbrev s_word_turned : Stmt := top 18
abbrev P_word_turned : List Str := ["word"]
abbrev N_word_turned : List Str := ["word", "arms", "arm"]
theorem sc_word_turned : FnScope N_word_turned P_word_turned (defScope s_word_turned) := ⟨rfl, rfl, rfl, by decide +kernel, rfl, by decide +kernel, by decide +kernel⟩
abbrev s__law_bag : Stmt := top 20
abbrev P__law_bag : List Str := ["_law_script", "_law_at"]
abbrev N__law_bag : List Str := ["_law_script", "_law_at", "_law_cell", "_law_mix", "_law_k"]
theorem sc__law_bag : FnScope N__law_bag P__law_bag (defScope s__law_bag) := ⟨rfl, rfl, rfl, by decide +kernel, rfl, by decide +kernel, by decide +kernel⟩
abbrev s__law_draw : Stmt := top 21
abbrev P__law_draw : List Str := ["_law_bag_here", "_law_many_here"]
abbrev N__law_draw : List Str := ["_law_bag_here", "_law_many_here", "_law_digit", "_law_primes", "_law_found", "_law_room"]
theorem sc__law_draw : FnScope N__law_draw P__law_draw (defScope s__law_draw) := ⟨rfl, rfl, rfl, by decide +kernel, rfl, by decide +kernel, by decide +kernel⟩
abbrev s__law_many : Stmt := top 22
abbrev P__law_many : List Str := ["_law_script", "_law_least", "_law_most"]
abbrev N__law_many : List Str := ["_law_script", "_law_least", "_law_most"]
theorem sc__law_many : FnScope N__law_many P__law_many (defScope s__law_many) := ⟨rfl, rfl, rfl, by decide +kernel, rfl, by decide +kernel, by decide +kernel⟩
abbrev s__law_abc : Stmt := top 23
abbrev P__law_abc : List Str := ["_law_bag_here"]
abbrev N__law_abc : List Str := ["_law_bag_here"]
theorem sc__law_abc : FnScope N__law_abc P__law_abc (defScope s__law_abc) := ⟨rfl, rfl, rfl, by decide +kernel, rfl, by decide +kernel, by decide +kernel⟩
abbrev s__law_word : Stmt := top 24
abbrev P__law_word : List Str := ["_law_bag_here", "_law_places_here", "_law_letters"]
abbrev N__law_word : List Str := ["_law_bag_here", "_law_places_here", "_law_letters", "_law_deed", "_law_sizes", "_law_extra", "_law_spot", "_law_size"]
theorem sc__law_word : FnScope N__law_word P__law_word (defScope s__law_word) := ⟨rfl, rfl, rfl, by decide +kernel, rfl, by decide +kernel, by decide +kernel⟩
abbrev s__law_places : Stmt := top 25
abbrev P__law_places : List Str := ["_law_bag_here"]
abbrev N__law_places : List Str := ["_law_bag_here"]
theorem sc__law_places : FnScope N__law_places P__law_places (defScope s__law_places) := ⟨rfl, rfl, rfl, by decide +kernel, rfl, by decide +kernel, by decide +kernel⟩
abbrev s__law_text : Stmt := top 26
abbrev P__law_text : List Str := ["_law_word_here"]
abbrev N__law_text : List Str := ["_law_word_here", "_law_sign", "_law_arm"]
theorem sc__law_text : FnScope N__law_text P__law_text (defScope s__law_text) := ⟨rfl, rfl, rfl, by decide +kernel, rfl, by decide +kernel, by decide +kernel⟩
abbrev s__law_signs : Stmt := top 27
abbrev P__law_signs : List Str := ["_law_word_here"]
abbrev N__law_signs : List Str := ["_law_word_here", "_law_sign"]
theorem sc__law_signs : FnScope N__law_signs P__law_signs (defScope s__law_signs) := ⟨rfl, rfl, rfl, by decide +kernel, rfl, by decide +kernel, by decide +kernel⟩
abbrev s__law_choice : Stmt := top 28
abbrev P__law_choice : List Str := ["_law_bag_here", "_law_letters", "_law_most"]
abbrev N__law_choice : List Str := ["_law_bag_here", "_law_letters", "_law_most", "_law_found", "_law_some", "_law_letter"]
theorem sc__law_choice : FnScope N__law_choice P__law_choice (defScope s__law_choice) := ⟨rfl, rfl, rfl, by decide +kernel, rfl, by decide +kernel, by decide +kernel⟩
abbrev s__law_written : Stmt := top 29
abbrev P__law_written : List Str := ["_law_text_here", "_law_rows"]
abbrev N__law_written : List Str := ["_law_text_here", "_law_rows", "_law_texts", "_law_letter", "_law_word_here", "_law_sign"]
theorem sc__law_written : FnScope N__law_written P__law_written (defScope s__law_written) := ⟨rfl, rfl, rfl, by decide +kernel, rfl, by decide +kernel, by decide +kernel⟩
abbrev s__law_joined : Stmt := top 30
abbrev P__law_joined : List Str := ["_law_near", "_law_far"]
abbrev N__law_joined : List Str := ["_law_near", "_law_far", "_law_letters", "_law_letter", "_law_word_here", "_law_found", "_law_row"]
theorem sc__law_joined : FnScope N__law_joined P__law_joined (defScope s__law_joined) := ⟨rfl, rfl, rfl, by decide +kernel, rfl, by decide +kernel, by decide +kernel⟩
abbrev s_law : Stmt := top 31
abbrev P_law : List Str := ["_law_script"]
abbrev N_law : List Str := ["_law_script", "_law_k", "_law_bag_here", "_law_word_here", "_law_near", "_law_inner", "_law_letter", "_law_other", "_law_far", "_law_told", "_law_over", "_law_parts", "_law_part", "_law_letters"]
theorem sc_law : FnScope N_law P_law (defScope s_law) := ⟨rfl, rfl, rfl, by decide +kernel, rfl, by decide +kernel, by decide +kernel⟩
end LW
namespace LW
open PySem PySem.Spec PyProof.Rows L2 EB

section
variable {P : Program} {w : World} {K : PySem.W.Frag} {mg : Str → Option Value} {base : Heap}
theorem ok_is_letter (D : Def K mg "is_letter" s_is_letter P_is_letter) (hb : Blt mg) : Fn P w K mg base "is_letter" 1 P_is_letter (sp_is_letter K) := by
  have nd := sc_is_letter.nd
  refine D.ok sc_is_letter (fun vs H Q E h => ?_) (fun f cdv A outer s H vs Q E hr h => ?_)
  · obtain ⟨v, rfl, _⟩ := h
    rfl
  obtain ⟨v, rfl, h⟩ := h
  refine ⟨_, (pss_one (ps_ret (pe_and (pe_callB cr_isi (by rfl) hb.b_isinstance (by decide +kernel) (pa_cons (pv 0) (pa_cons (pe_tyn (T := "str") rfl hb.b_str (by decide +kernel)) pa_nil se_Name) se_Name)) (pe_and (pe_cmpR op_eq (pe_callB call_len (by rfl) hb.b_len (by decide +kernel) (pa_cons (pv 0) pa_nil se_Name)) pe_int (nomark _)) (pe_one (pe_chain op_le_str op_le_str pe_str (pv 0) pe_str)))))), ?_⟩
  rcases h with ⟨x, rfl, hx, q⟩ | ⟨t, ty, kt, q⟩
  · refine ⟨_, rfl, _, _, _, _, rfl, .str x, kit_str_str K, true, rfl, ?_⟩
    refine iteT ?_
    refine ⟨_, rfl, _, _, rfl, ⟨sz hx, rfl⟩, rfl, _, rfl, ?_⟩
    unfold isLet at q
    by_cases h1 : x.length = 1
    · rw [h1]
      refine iteT ?_
      rw [decide_eq_true h1, Bool.true_and] at q
      refine ⟨_, rfl, _, _, rfl, rfl, _, rfl, ?_⟩
      cases e : (!decide (x.cps.toList < ("a" : Str).cps.toList)) with
      | true =>
        rw [e, Bool.true_and] at q
        exact iteT ⟨_, _, rfl, rfl, q⟩
      | false =>
        rw [e, Bool.false_and] at q
        exact iteF q
    · have e : decide (V.int (x.length : Int) = V.int 1) = false := decide_eq_false (by intro z; injection z with z; omega)
      rw [e]
      rw [decide_eq_false h1, Bool.false_and] at q
      exact iteF q
  · refine ⟨_, rfl, _, _, _, _, rfl, ty, kt, false, rfl, ?_⟩
    exact iteF q
theorem ok_is_deed (D : Def K mg "is_deed" s_is_deed P_is_deed) (hb : Blt mg) (hg_UP : Gv mg "UP" (.str "up")) (hg_DOWN : Gv mg "DOWN" (.str "down")) : Fn P w K mg base "is_deed" 1 P_is_deed sp_is_deed := by
  have nd := sc_is_deed.nd
  refine D.ok sc_is_deed (fun vs H Q E h => ?_) (fun f cdv A outer s H vs Q E hr h => ?_)
  · obtain ⟨v, p, d, rfl, _⟩ := h
    rfl
  obtain ⟨v, p, d, rfl, hv, q⟩ := h
  refine ⟨_, (pss_one (ps_ret (pe_and (pe_callB cr_isi (by rfl) hb.b_isinstance (by decide +kernel) (pa_cons (pv 0) (pa_cons (pe_tyn (T := "str") rfl hb.b_str (by decide +kernel)) pa_nil se_Name) se_Name)) (pe_one (pe_or (pe_cmpR op_eq (pv 0) (pe_gv rfl hg_UP) (nomark _)) (pe_one (pe_cmpR op_eq (pv 0) (pe_gv rfl hg_DOWN) (nomark _)))))))), ?_⟩
  refine ⟨_, rfl, _, _, _, _, rfl, DAt.tyof hv, kit_S K d, _, rfl, ?_⟩
  cases d with
  | str x =>
    unfold DAt at hv
    subst hv
    refine iteT ?_
    refine ⟨_, rfl, rfl, _, rfl, ?_⟩
    by_cases h1 : x = ("up" : Str)
    · subst h1
      rw [decide_eq_true (show V.str ("up" : Str) = V.str "up" from rfl)]
      exact iteT q
    · have e1 : decide (V.str x = V.str ("up" : Str)) = false := decide_eq_false fun z => h1 (by injection z)
      rw [e1]
      refine iteF ⟨_, rfl, rfl, ?_⟩
      have q' : Q (.bl (decide (x = ("up" : Str)) || decide (x = ("down" : Str)))) H := q
      rw [decide_eq_false h1, Bool.false_or] at q'
      have e2 : decide (V.str x = V.str ("down" : Str)) = decide (x = ("down" : Str)) := by
        by_cases h2 : x = ("down" : Str)
        · rw [decide_eq_true h2]; exact decide_eq_true (by rw [h2])
        · rw [decide_eq_false h2]; exact decide_eq_false fun z => h2 (by injection z)
      rw [e2]
      exact q'
  | _ => exact iteF q
theorem ok_has_deed_and_arms (D : Def K mg "has_deed_and_arms" s_has_deed_and_arms P_has_deed_and_arms) (hb : Blt mg) (G_is_deed : Fn P w K mg base "is_deed" 1 P_is_deed sp_is_deed) : Fn P w K mg base "has_deed_and_arms" 2 P_has_deed_and_arms sp_hasD := by
  have nd := sc_has_deed_and_arms.nd
  refine D.ok sc_has_deed_and_arms (fun vs H Q E h => ?_) (fun f cdv A outer s H vs Q E hr h => ?_)
  · obtain ⟨v, p, d, rfl, _⟩ := h
    rfl
  obtain ⟨v, p, d, rfl, hv, q⟩ := h
  refine ⟨_, (pss_one (ps_ret (pe_and (pe_callB cr_isi (by rfl) hb.b_isinstance (by decide +kernel) (pa_cons (pv 0) (pa_cons (pe_tyn (T := "tuple") rfl hb.b_tuple (by decide +kernel)) pa_nil se_Name) se_Name)) (pe_and (pe_cmpR op_ge (pe_callB call_len (by rfl) hb.b_len (by decide +kernel) (pa_cons (pv 0) pa_nil se_Name)) pe_int (nomark _)) (pe_one (pe_fn G_is_deed hr rfl (pa_cons (pe_ix ix_seq (pv 0) pe_int (fun _ _ => rfl)) pa_nil se_Subscript))))))), ?_⟩
  refine ⟨_, rfl, _, _, _, _, rfl, DAt.tyof hv, kit_T K d, _, rfl, ?_⟩
  cases d with
  | tuple ds =>
    unfold DAt at hv
    obtain ⟨a, vs, rfl, ha, hds⟩ := hv
    have hlen := DAts.length ds vs hds
    refine iteT ?_
    refine ⟨_, rfl, _, _, rfl, .inr ⟨_, SqT.of ha, rfl⟩, _, _, rfl, rfl, _, rfl, ?_⟩
    cases ds with
    | nil =>
      have e : decide ((3 : Int) ≤ ((vs.length : Nat) : Int)) = false := decide_eq_false (by rw [hlen]; show ¬ (3 : Int) ≤ 0; decide)
      rw [e]
      exact iteF q
    | cons d0 r =>
      have q' : Q (.bl (decide (2 ≤ r.length) && isDeed d0)) H := q
      rw [List.length_cons] at hlen
      by_cases h2 : 2 ≤ r.length
      · have e : decide ((3 : Int) ≤ ((vs.length : Nat) : Int)) = true := decide_eq_true (by omega)
        rw [e]
        rw [decide_eq_true h2, Bool.true_and] at q'
        refine iteT ?_
        unfold DAts at hds
        obtain ⟨v0, vs', rfl, h0, hr⟩ := hds
        exact ⟨_, rfl, .inr (.inl ⟨a, _, _, _, rfl, rfl, SqT.of ha, at0 _ _, v0, p, d0, rfl, h0, q'⟩)⟩
      · have e : decide ((3 : Int) ≤ ((vs.length : Nat) : Int)) = false := decide_eq_false (by omega)
        rw [e]
        rw [decide_eq_false h2, Bool.false_and] at q'
        exact iteF q'
  | _ => exact iteF q
def lb (d : PyData) : Bool := match d with | .str x => isLet x | _ => false
theorem let_or {K : PySem.W.Frag} {H : Hp} {p : Addr} {d : PyData} {v : V} (h : DAt H p d v) (g : Gd d) : (∃ x : Str, v = .str x ∧ x.length ≤ 16000000 ∧ isLet x = lb d) ∨ ∃ t, TyOf K H v t ∧ PySem.W.kitOne K t (.type "str") = some false ∧ false = lb d := by
  cases d with
  | str x => unfold DAt at h; exact .inl ⟨x, h, by have := g.2; omega, rfl⟩
  | none => exact .inr ⟨_, DAt.tyof h, kit_S K _, rfl⟩
  | bool b => exact .inr ⟨_, DAt.tyof h, kit_S K _, rfl⟩
  | int b => exact .inr ⟨_, DAt.tyof h, kit_S K _, rfl⟩
  | tuple b => exact .inr ⟨_, DAt.tyof h, kit_S K _, rfl⟩
  | list b => exact .inr ⟨_, DAt.tyof h, kit_S K _, rfl⟩
  | dict b => exact .inr ⟨_, DAt.tyof h, kit_S K _, rfl⟩
theorem ok_is_word (D : Def K mg "is_word" s_is_word P_is_word) (hb : Blt mg) (G_is_letter : Fn P w K mg base "is_letter" 1 P_is_letter (sp_is_letter K)) (G_has_deed_and_arms : Fn P w K mg base "has_deed_and_arms" 2 P_has_deed_and_arms sp_hasD) : Fn P w K mg base "is_word" 3 P_is_word sp_is_word := by
  have nd := sc_is_word.nd
  refine D.ok sc_is_word (fun vs H Q E h => ?_) (fun f cdv A outer s H vs Q E hr h => ?_)
  · obtain ⟨v, p, d, rfl, _⟩ := h
    rfl
  obtain ⟨v, p, d, rfl, hv, hg, hs, q⟩ := h
  refine ⟨_, (pss_cons (ps_set (i := 1) nd rfl (Or.inl rfl) (pe_lst (pa_cons (pv 0) pa_nil se_Name)) (sw_List))
    (pss_cons (ps_while PassesOwn.never (pt_truth (pv 1) (by intro _; rfl)) (pss_cons (ps_set (i := 2) nd rfl (Or.inl rfl) (pe_bm0 PySem.F.plainAttrs_list PySem.F.slot_list_pop PySem.F.type_list_pop mt_pop (pv 1)) (sw_Call))
    (pss_cons (ps_if (pt_val (pe_fn G_is_letter hr rfl (pa_cons (pv 2) pa_nil se_Name))) (pss_one ps_continue) pss_nil)
    (pss_cons (ps_if (pt_not (pt_val (pe_fn G_has_deed_and_arms hr rfl (pa_cons (pv 2) pa_nil se_Name)))) (pss_one (ps_ret pe_bl)) pss_nil)
    (pss_one (ps_expr (pe_bm PySem.F.plainAttrs_list PySem.F.slot_list_extend PySem.F.type_list_extend mt_extendT (pv 1) (pa_cons (pe_slice sl_tup (pv 2) (po_some pe_int) po_none) pa_nil se_Subscript))))))))
    (pss_one (ps_ret pe_bl)))), ?_⟩
  refine ⟨_, rfl, small (by show 1 ≤ 1000; decide), fun L hL => ?_⟩
  refine set_c ?_
  have sL := same_new hL (.lst [v])
  refine seq (fun σ' H' => Same H H' ∧ isW d = true) (fun C hC => ?_) (fun σ' H' h => ?_)
  · refine while_m (fun m σ' H' => ∃ (ds : List PyData) (vs : List V) (x : Option V), m = szL ds ∧ Same H H' ∧ H' L = some (.lst vs) ∧ DAts H p ds vs ∧ GdL ds ∧ szL ds ≤ 100000 ∧ isW d = isWL ds ∧ σ' = [some v, some (.ref L), x]) (szL [d])
      ⟨[d], [v], none, rfl, sL, upd_same, ⟨v, [], rfl, hv, rfl⟩, ⟨hg, trivial⟩, by show sz' d + 0 ≤ _; omega, by show isW d = (isW d && true); rw [Bool.and_true], rfl⟩ ?_ ?_
    · rintro m σ' H' ⟨ds, vs, x, rfl, s, hLv, hds, hgd, hsz, hw, rfl⟩
      have hlen := DAts.length ds vs hds
      have hsl := szL_len ds
      refine ⟨_, rfl, _, .inl ⟨vs, SqL.of hLv, rfl⟩, ?_⟩
      rcases List.eq_nil_or_concat vs with e | ⟨vs', y, e⟩
      · subst e
        refine iteF (hC _ _ ⟨s, ?_⟩)
        have e2 : ds = [] := List.length_eq_zero_iff.mp hlen.symm
        subst e2
        exact hw
      · rw [List.concat_eq_append] at e
        subst e
        have ne : (!(vs' ++ [y]).isEmpty) = true := by simp
        rw [ne]
        refine iteT ?_
        obtain ⟨ds', dy, rfl⟩ : ∃ ds' dy, ds = ds' ++ [dy] := by
          rcases List.eq_nil_or_concat ds with e | ⟨ds', dy, e⟩
          · subst e
            rw [List.length_append] at hlen
            exact absurd hlen (by simp)
          · exact ⟨ds', dy, by rw [e, List.concat_eq_append]⟩
        have l2 : vs'.length = ds'.length := by rw [List.length_append, List.length_append] at hlen; simpa using hlen
        have hds' : DAts H p ds' vs' := by
          have z := DAts.take ds'.length _ _ hds
          rw [List.take_left, ← l2, List.take_left] at z
          exact z
        have hdy : DAt H p dy y := by
          obtain ⟨dz, e1, e2⟩ := DAts.get _ _ vs'.length y hds (by simp)
          rw [l2] at e1
          have e3 : dz = dy := by simpa using e1.symm
          rw [← e3]; exact e2
        have ld := szL_len ds'
        have gy : Gd dy := GdL_mem hgd dy (by simp)
        have gds' : GdL ds' := GdL_of fun z m => GdL_mem hgd z (List.mem_append_left _ m)
        rw [szL_append] at hsz hsl
        rw [isWL_append] at hw
        have sy : szL [dy] = sz' dy := by show sz' dy + 0 = sz' dy; omega
        have wy : isWL [dy] = isW dy := by show (isW dy && true) = isW dy; rw [Bool.and_true]
        rw [wy] at hw
        refine ⟨_, rfl, .inl ⟨rfl, _, SqL.of hLv⟩, L, _, y, rfl, rfl, hLv, by simp, ?_⟩
        rw [List.dropLast_concat]
        have s2 : Same H (upd H' L (.lst vs')) := fun c o h => by rw [upd_ne (ne_of_none h hL)]; exact s c o h
        refine set_c ?_
        have key : lb dy = true → isW dy = true := by
          cases dy with
          | str x => exact fun h => h
          | _ => intro h; cases h
        refine ⟨_, rfl, y, rfl, ?_⟩
        rcases let_or (K := K) (DAt.same s2 dy y hdy) gy with ⟨x0, e0, hx0, eb⟩ | ⟨t0, ty0, kt0, eb⟩
        · refine .inl ⟨x0, e0, hx0, _, rfl, ?_⟩
          rw [eb]
          refine ite2 (fun c => ?_) (fun c => ?_)
          · refine ⟨szL ds', ?_, ds', vs', _, rfl, s2, upd_same, hds', gds', by omega, ?_, rfl⟩
            · rw [szL_append, sy]; have := sz_pos dy; omega
            · rw [hw, key c, Bool.and_true]
          · refine ⟨_, rfl, y, p, dy, rfl, DAt.same s2 dy y hdy, _, rfl, ?_⟩
            have nolet : lb dy = false := Bool.eq_false_iff.mpr c
            cases hD : hasD dy with
            | false =>
              refine iteT ?_
              have wf : isW dy = false := by
                cases dy with
                | str x => exact nolet
                | tuple zs =>
                  cases zs with
                  | nil => rfl
                  | cons d0 r =>
                    show (decide (2 ≤ r.length) && isDeed d0 && isWL r) = false
                    have : (decide (2 ≤ r.length) && isDeed d0) = false := hD
                    rw [this, Bool.false_and]
                | _ => rfl
              have q' := q _ s2
              rw [hw, wf, Bool.and_false] at q'
              exact q'
            | true =>
              refine iteF ?_
              cases dy with
              | tuple zs =>
                cases zs with
                | nil => cases hD
                | cons d0 r =>
                  have hdy' := hdy
                  unfold DAt at hdy'
                  obtain ⟨a, us, rfl, ha, hus⟩ := hdy'
                  unfold DAts at hus
                  obtain ⟨u0, us', rfl, hu0, hur⟩ := hus
                  have lu := DAts.length r us' hur
                  have lr := szL_len r
                  have szy : sz' (.tuple (d0 :: r)) = (sz' d0 + szL r) + 1 := rfl
                  have p0 := sz_pos d0
                  refine ⟨_, rfl, .inl ⟨rfl, _, SqL.of upd_same⟩, _, rfl, _, rfl, a, _, rfl, SqT.of (s2 _ _ ha), nw_from (by decide) (by simp) _, fun b hb2 => ?_⟩
                  rw [cut1]
                  have sb := same_new hb2 (.tup us')
                  have hLb := sb _ _ upd_same
                  refine ⟨L, b, _, _, rfl, rfl, hLb, SqT.of upd_same, sz (by omega), ?_⟩
                  have s3 : Same H (upd (upd (upd H' L (.lst vs')) b (.tup us')) L (.lst (vs' ++ us'))) := fun c o h => by rw [upd_ne (ne_of_none h hL)]; exact sb c o (s2 c o h)
                  refine ⟨szL (ds' ++ r), ?_, ds' ++ r, vs' ++ us', _, rfl, s3, upd_same, DAts.append _ _ _ _ hds' hur, GdL_of fun z m => ?_, ?_, ?_, rfl⟩
                  · rw [szL_append, szL_append, sy, szy]; omega
                  · rcases List.mem_append.mp m with m | m
                    · exact GdL_mem gds' z m
                    · exact GdL_mem (show GdL r from gy.2) z m
                  · rw [szL_append]; omega
                  · rw [hw, isWL_append]
                    show (isWL ds' && (decide (2 ≤ r.length) && isDeed d0 && isWL r)) = (isWL ds' && isWL r)
                    have : (decide (2 ≤ r.length) && isDeed d0) = true := hD
                    rw [this, Bool.true_and]
              | _ => cases hD
        · refine .inr ⟨t0, ty0, kt0, _, rfl, iteF ?_⟩
          have c : ¬ lb dy = true := by rw [← eb]; decide
          refine ⟨_, rfl, y, p, dy, rfl, DAt.same s2 dy y hdy, _, rfl, ?_⟩
          have nolet : lb dy = false := Bool.eq_false_iff.mpr c
          cases hD : hasD dy with
          | false =>
            refine iteT ?_
            have wf : isW dy = false := by
              cases dy with
              | str x => exact nolet
              | tuple zs =>
                cases zs with
                | nil => rfl
                | cons d0 r =>
                  show (decide (2 ≤ r.length) && isDeed d0 && isWL r) = false
                  have : (decide (2 ≤ r.length) && isDeed d0) = false := hD
                  rw [this, Bool.false_and]
              | _ => rfl
            have q' := q _ s2
            rw [hw, wf, Bool.and_false] at q'
            exact q'
          | true =>
            refine iteF ?_
            cases dy with
            | tuple zs =>
              cases zs with
              | nil => cases hD
              | cons d0 r =>
                have hdy' := hdy
                unfold DAt at hdy'
                obtain ⟨a, us, rfl, ha, hus⟩ := hdy'
                unfold DAts at hus
                obtain ⟨u0, us', rfl, hu0, hur⟩ := hus
                have lu := DAts.length r us' hur
                have lr := szL_len r
                have szy : sz' (.tuple (d0 :: r)) = (sz' d0 + szL r) + 1 := rfl
                have p0 := sz_pos d0
                refine ⟨_, rfl, .inl ⟨rfl, _, SqL.of upd_same⟩, _, rfl, _, rfl, a, _, rfl, SqT.of (s2 _ _ ha), nw_from (by decide) (by simp) _, fun b hb2 => ?_⟩
                rw [cut1]
                have sb := same_new hb2 (.tup us')
                have hLb := sb _ _ upd_same
                refine ⟨L, b, _, _, rfl, rfl, hLb, SqT.of upd_same, sz (by omega), ?_⟩
                have s3 : Same H (upd (upd (upd H' L (.lst vs')) b (.tup us')) L (.lst (vs' ++ us'))) := fun c o h => by rw [upd_ne (ne_of_none h hL)]; exact sb c o (s2 c o h)
                refine ⟨szL (ds' ++ r), ?_, ds' ++ r, vs' ++ us', _, rfl, s3, upd_same, DAts.append _ _ _ _ hds' hur, GdL_of fun z m => ?_, ?_, ?_, rfl⟩
                · rw [szL_append, szL_append, sy, szy]; omega
                · rcases List.mem_append.mp m with m | m
                  · exact GdL_mem gds' z m
                  · exact GdL_mem (show GdL r from gy.2) z m
                · rw [szL_append]; omega
                · rw [hw, isWL_append]
                  show (isWL ds' && (decide (2 ≤ r.length) && isDeed d0 && isWL r)) = (isWL ds' && isWL r)
                  have : (decide (2 ≤ r.length) && isDeed d0) = true := hD
                  rw [this, Bool.true_and]
            | _ => cases hD
    · rintro σ' H' Q1 Q2 hQ ⟨v1, e1, k, e2, e3⟩
      exact ⟨v1, e1, k, e2, hQ _ _ e3⟩
  · have e := h.2
    have q' := q H' h.1
    rw [e] at q'
    exact q'
theorem ok_standing_letters (D : Def K mg "standing_letters" s_standing_letters P_standing_letters) (G_is_letter : Fn P w K mg base "is_letter" 1 P_is_letter (sp_is_letter K)) : Fn P w K mg base "standing_letters" 2 P_standing_letters sp_standing := by
  have nd := sc_standing_letters.nd
  refine D.ok sc_standing_letters (fun vs H Q E h => ?_) (fun f cdv A outer s H vs Q E hr h => ?_)
  · obtain ⟨v, x, rfl, _⟩ := h
    rfl
  obtain ⟨v, x, rfl, hv, ho, hp, q⟩ := h
  refine ⟨_, (pss_cons (ps_set (i := 1) nd rfl (Or.inl rfl) (pe_lst pa_nil) (sw_List))
    (pss_cons (ps_set (i := 2) nd rfl (Or.inl rfl) (pe_lst (pa_cons (pv 0) pa_nil se_Name)) (sw_List))
    (pss_cons (ps_while PassesOwn.never (pt_truth (pv 2) (by intro _; rfl)) (pss_cons (ps_set (i := 3) nd rfl (Or.inl rfl) (pe_bm0 PySem.F.plainAttrs_list PySem.F.slot_list_pop PySem.F.type_list_pop mt_pop (pv 2)) (sw_Call))
    (pss_one (ps_if (pt_val (pe_fn G_is_letter hr rfl (pa_cons (pv 3) pa_nil se_Name))) (pss_one (ps_expr (pe_bm PySem.F.plainAttrs_list PySem.F.slot_list_append PySem.F.type_list_append mt_append (pv 1) (pa_cons (pv 3) pa_nil se_Name)))) (pss_one (ps_expr (pe_bm PySem.F.plainAttrs_list PySem.F.slot_list_extend PySem.F.type_list_extend mt_extendT (pv 2) (pa_cons (pe_slice sl_tup (pv 3) (po_some pe_int) po_none) pa_nil se_Subscript))))))))
    (pss_one (ps_ret (pv 1)))))), ?_⟩
  refine ⟨small (by show 0 ≤ 1000; decide), fun L hL => ?_⟩
  refine set_c ?_
  have sL := same_new hL (.lst [])
  refine ⟨_, rfl, small (by show 1 ≤ 1000; decide), fun M hM => ?_⟩
  refine set_c ?_
  have LM : L ≠ M := fun e => by rw [e, upd_same] at hM; cases hM
  have hM0 : H M = none := by rw [upd_ne (Ne.symm LM)] at hM; exact hM
  refine seq (fun σ' H' => ∃ (xs : List Str) (a b : Option V), Same H H' ∧ H' L = some (.lst (xs.map V.str)) ∧ xs.Perm (x.lets.map sgn) ∧ σ' = [some v, some (.ref L), a, b]) (fun C hC => ?_) (fun σ' H' h => ?_)
  · refine while_m (fun m σ' H' => ∃ (ws : List Wd) (vs : List V) (xs : List Str) (y : Option V), m = (partsL ws).length ∧ Same H H' ∧ H' L = some (.lst (xs.map V.str)) ∧ H' M = some (.lst vs) ∧ WAts H ws vs ∧ okL ws ∧ (xs ++ (letsL ws).map sgn).Perm (x.lets.map sgn) ∧ σ' = [some v, some (.ref L), some (.ref M), y]) (partsL [x]).length
      ⟨[x], [v], [], none, rfl, ?_, ?_, upd_same, ⟨v, [], rfl, hv, rfl⟩, ⟨ho, trivial⟩, ?_, rfl⟩ ?_ ?_
    · exact sL.trans (same_new hM _)
    · rw [upd_ne LM]; exact upd_same
    · show ([] ++ (x.lets ++ []).map sgn).Perm _
      rw [List.append_nil, List.nil_append]
    · rintro m σ' H' ⟨ws, vs, xs, y, rfl, s, hLx, hMv, hws, hok, hpm, rfl⟩
      have hlen := WAts.length ws vs hws
      have hpl := hpm.length_eq
      rw [List.length_append, List.length_map, List.length_map, lets_len, lets_lenL] at hpl
      have hwl := placesL_len ws hok
      refine ⟨_, rfl, _, .inl ⟨vs, SqL.of hMv, rfl⟩, ?_⟩
      rcases List.eq_nil_or_concat vs with e | ⟨vs', z, e⟩
      · subst e
        have e2 : ws = [] := List.length_eq_zero_iff.mp hlen.symm
        subst e2
        refine iteF (hC _ _ ⟨xs, _, _, s, hLx, ?_, rfl⟩)
        have hpm' : (xs ++ []).Perm (x.lets.map sgn) := hpm
        rw [List.append_nil] at hpm'
        exact hpm'
      · rw [List.concat_eq_append] at e
        subst e
        rw [show (!(vs' ++ [z]).isEmpty) = true by simp]
        refine iteT ?_
        obtain ⟨ws', wz, rfl⟩ : ∃ ws' wz, ws = ws' ++ [wz] := by
          rcases List.eq_nil_or_concat ws with e | ⟨ds', dy, e⟩
          · subst e
            rw [List.length_append] at hlen
            exact absurd hlen (by simp)
          · exact ⟨ds', dy, by rw [e, List.concat_eq_append]⟩
        have l2 : vs'.length = ws'.length := by rw [List.length_append, List.length_append] at hlen; simpa using hlen
        have hws' : WAts H ws' vs' := by
          have q1 := WAts.take ws'.length _ _ hws
          rw [List.take_left, ← l2, List.take_left] at q1
          exact q1
        have hwz : WAt H wz z := by
          obtain ⟨dz, e1, e2⟩ := WAts.get _ _ vs'.length z hws (by simp)
          rw [l2] at e1
          have e3 : dz = wz := by simpa using e1.symm
          rw [← e3]; exact e2
        have okz : wz.ok := okL_mem hok wz (by simp)
        have ok' : okL ws' := okL_of fun y m => okL_mem hok y (List.mem_append_left _ m)
        rw [letsL_append, List.map_append, ← List.append_assoc] at hpm
        have lz : letsL [wz] = wz.lets := List.append_nil _
        have pz : partsL [wz] = wz.parts := List.append_nil _
        rw [lz] at hpm
        refine ⟨_, rfl, .inl ⟨rfl, _, SqL.of hMv⟩, M, _, z, rfl, rfl, hMv, by simp, ?_⟩
        rw [List.dropLast_concat]
        have s2 : Same H (upd H' M (.lst vs')) := fun c o h => by rw [upd_ne (ne_of_none h hM0)]; exact s c o h
        have hL2 : upd H' M (.lst vs') L = some (.lst (xs.map V.str)) := by rw [upd_ne LM]; exact hLx
        refine set_c ?_
        cases wz with
        | letter c =>
          unfold WAt at hwz
          subst hwz
          refine ⟨_, rfl, _, rfl, .inl ⟨_, rfl, (by show 1 ≤ _; omega), true, ?_, ?_⟩⟩
          · rw [isLet_sgn okz]
          refine iteT ?_
          refine ⟨_, rfl, .inl ⟨rfl, _, SqL.of hL2⟩, _, rfl, L, _, _, rfl, rfl, hL2, szl (by rw [List.length_map]; omega), ?_⟩
          refine ⟨(partsL ws').length, ?_, ws', vs', xs ++ [sgn c], _, rfl, fun a o h => ?_, ?_, ?_, hws', ok', ?_, rfl⟩
          · rw [partsL_append, pz, List.length_append]; show _ < _ + 1; omega
          · rw [upd_ne (ne_of_none h hL)]; exact s2 a o h
          · rw [upd_same, List.map_append]; rfl
          · rw [upd_ne (Ne.symm LM)]; exact upd_same
          · refine List.Perm.trans ?_ hpm
            rw [List.append_assoc, List.append_assoc]
            exact List.Perm.append_left _ List.perm_append_comm
        | node u us =>
          unfold WAt at hwz
          obtain ⟨a, zs, rfl, ha, hzs⟩ := hwz
          have lu := WAts.length us zs hzs
          have lp := placesL_len us okz.2
          refine ⟨_, rfl, _, rfl, .inr ⟨_, .tup (s2 _ _ ha), kit_tup_str K, false, rfl, iteF ?_⟩⟩
          refine ⟨_, rfl, .inl ⟨rfl, _, SqL.of upd_same⟩, _, rfl, _, rfl, a, _, rfl, SqT.of (s2 _ _ ha), nw_from (by decide) (by simp) _, fun b hb2 => ?_⟩
          rw [cut1]
          have sb := same_new hb2 (.tup zs)
          have hMb := sb _ _ (upd_same (H := H') (a := M) (o := .lst vs'))
          rw [placesL_append] at hpl
          have pp : placesL [Wd.node u us] = placesL us := Nat.add_zero _
          refine ⟨M, b, _, _, rfl, rfl, hMb, SqT.of upd_same, sz (by rw [placesL_append] at hwl; rw [List.length_append] at hwl; omega), ?_⟩
          refine ⟨(partsL (ws' ++ us)).length, ?_, ws' ++ us, vs' ++ zs, xs, _, rfl, fun c o h => ?_, ?_, upd_same, WAts.append _ _ _ _ hws' hzs, okL_of fun y m => ?_, ?_, rfl⟩
          · rw [partsL_append, partsL_append, pz, List.length_append, List.length_append]
            show _ < _ + (partsL us ++ [Wd.node u us]).length
            rw [List.length_append]; show _ < _ + (_ + 1); omega
          · rw [upd_ne (ne_of_none h hM0)]; exact sb c o (s2 c o h)
          · rw [upd_ne LM]; exact sb _ _ hL2
          · rcases List.mem_append.mp m with m | m
            · exact okL_mem ok' y m
            · exact okL_mem okz.2 y m
          · rw [letsL_append, List.map_append, ← List.append_assoc]
            exact hpm
    · rintro σ' H' Q1 Q2 hQ ⟨v1, e1, k, e2, e3⟩
      exact ⟨v1, e1, k, e2, hQ _ _ e3⟩
  · obtain ⟨xs, a, b, s, hLx, hpm, rfl⟩ := h
    exact ⟨_, rfl, q L xs H' s hL hLx hpm⟩
theorem ok_places_of (D : Def K mg "places_of" s_places_of P_places_of) (hb : Blt mg) (G_standing_letters : Fn P w K mg base "standing_letters" 2 P_standing_letters sp_standing) : Fn P w K mg base "places_of" 3 P_places_of sp_nplaces := by
  have nd := sc_places_of.nd
  refine D.ok sc_places_of (fun vs H Q E h => ?_) (fun f cdv A outer s H vs Q E hr h => ?_)
  · obtain ⟨v, x, rfl, _⟩ := h
    rfl
  obtain ⟨v, x, rfl, hv, ho, hp, q⟩ := h
  refine ⟨_, (pss_one (ps_ret (pe_callB call_len (by rfl) hb.b_len (by decide +kernel) (pa_cons (pe_fn G_standing_letters hr rfl (pa_cons (pv 0) pa_nil se_Name)) pa_nil se_Call)))), ?_⟩
  refine ⟨_, rfl, v, x, rfl, hv, ho, hp, fun l xs H' s hl hx hpm => ?_⟩
  refine ⟨_, _, rfl, .inl ⟨_, SqL.of hx, rfl⟩, ?_⟩
  have len := hpm.length_eq
  rw [List.length_map, lets_len] at len
  rw [List.length_map, len]
  exact q H' s
theorem ok_letters_of (D : Def K mg "letters_of" s_letters_of P_letters_of) (hb : Blt mg) (G_standing_letters : Fn P w K mg base "standing_letters" 2 P_standing_letters sp_standing) : Fn P w K mg base "letters_of" 3 P_letters_of sp_letters := by
  have nd := sc_letters_of.nd
  refine D.ok sc_letters_of (fun vs H Q E h => ?_) (fun f cdv A outer s H vs Q E hr h => ?_)
  · obtain ⟨v, x, rfl, _⟩ := h
    rfl
  obtain ⟨v, x, rfl, hv, ho, hp, q⟩ := h
  refine ⟨_, (pss_one (ps_ret (pe_callTy call_tuple_of (by rfl) hb.b_tuple (by decide +kernel) (pa_cons (pe_sortset rfl rfl hb.b_sorted rfl hb.b_set (pe_fn G_standing_letters hr rfl (pa_cons (pv 0) pa_nil se_Name))) pa_nil se_Call)))), ?_⟩
  refine ⟨_, rfl, v, x, rfl, hv, ho, hp, fun l xs H' s hl hx hpm => ?_⟩
  have len := hpm.length_eq
  rw [List.length_map, lets_len] at len
  refine ⟨l, xs, rfl, SqL.of hx, by omega, fun ys m hy nd mem hm => ?_⟩
  have sm := same_new hm (.lst (ys.map V.str))
  refine ⟨m, _, rfl, .inl ⟨SqL.of upd_same, fun t ht => ?_⟩⟩
  have s3 := (s.trans sm).trans (same_new ht (.tup (ys.map V.str)))
  exact q t ys _ s3 (none_of (s.trans sm) ht) upd_same hy nd fun y => (mem y).trans hpm.mem_iff
theorem ok_joined_texts (D : Def K mg "joined_texts" s_joined_texts P_joined_texts) (hg_UP : Gv mg "UP" (.str "up")) : Fn P w K mg base "joined_texts" 1 P_joined_texts (sp_joined_texts K) := by
  have nd := sc_joined_texts.nd
  refine D.ok sc_joined_texts (fun vs H Q E h => ?_) (fun f cdv A outer s H vs Q E hr h => ?_)
  · obtain ⟨u, p, ts, rfl, _⟩ := h
    rfl
  obtain ⟨u, p, ts, rfl, hp, hl, q⟩ := h
  refine ⟨_, (pss_cons (ps_set (i := 2) nd rfl (Or.inl rfl) (pe_ifExp (pt_cmpR op_eq (pv 0) (pe_gv rfl hg_UP) (nomark _)) (pe_join pe_str (pv 1)) (pe_join pe_str (pv 1))) (sw_IfExp))
    (pss_one (ps_ret (pe_op op_add_str (pe_op op_add_str pe_str (pv 2)) pe_str)))), ?_⟩
  refine ⟨_, rfl, rfl, _, rfl, ?_⟩
  have jl : (Txt.join (sepS u) ts).length ≤ 15000000 := Nat.le_trans (join_len _ _ (sep_len u)) hl
  have l1 : ("(" : Str).length = 1 := by decide +kernel
  have l2 : (")" : Str).length = 1 := by decide +kernel
  have fin : ∀ (x : Str), x = sepS u → (ts.map (·.length)).sum + ts.length * x.length ≤ 16777216 := by
    intro x e
    rw [e, sep_len]
    omega
  have l3 : (("(" : Str) ++ Txt.join (sepS u) ts).length ≤ 15000001 := by
    show (("(" : Str).cps ++ (Txt.join (sepS u) ts).cps).size ≤ _
    rw [Array.size_append]
    have : ("(" : Str).cps.size = 1 := l1
    have : (Txt.join (sepS u) ts).cps.size ≤ 15000000 := jl
    omega
  cases u with
  | true =>
    refine ⟨⟨_, rfl⟩, _, rfl, _, _, ts, rfl, rfl, .inl hp, fin _ rfl, ?_⟩
    refine ⟨_, rfl, _, _, rfl, rfl, sz (by rw [l1]; exact (by have : (Txt.join "|" ts).length ≤ 15000000 := jl; omega)), _, _, rfl, rfl, sz (by rw [l2]; exact (by have : (("(" : Str) ++ Txt.join "|" ts).length ≤ 15000001 := l3; omega)), ?_⟩
    exact q
  | false =>
    refine ⟨⟨_, rfl⟩, _, rfl, _, _, ts, rfl, rfl, .inl hp, fin _ rfl, ?_⟩
    refine ⟨_, rfl, _, _, rfl, rfl, sz (by rw [l1]; exact (by have : (Txt.join "&" ts).length ≤ 15000000 := jl; omega)), _, _, rfl, rfl, sz (by rw [l2]; exact (by have : (("(" : Str) ++ Txt.join "&" ts).length ≤ 15000001 := l3; omega)), ?_⟩
    exact q
theorem ok_text_of (D : Def K mg "text_of" s_text_of P_text_of) (G_is_letter : Fn P w K mg base "is_letter" 1 P_is_letter (sp_is_letter K)) (G_joined_texts : Fn P w K mg base "joined_texts" 1 P_joined_texts (sp_joined_texts K)) {n : Nat}
    (G_text_of : Fn P w K mg base "text_of" (n + 2) P_text_of (sp_text n)) : Fn P w K mg base "text_of" (n + 3) P_text_of (sp_text (n + 1)) := by
  have nd := sc_text_of.nd
  refine D.ok sc_text_of (fun vs H Q E h => ?_) (fun f cdv A outer s H vs Q E hr h => ?_)
  · obtain ⟨v, x, rfl, _⟩ := h
    rfl
  obtain ⟨v, x, rfl, hv, ho, hp, hd, q⟩ := h
  refine ⟨_, (pss_cons (ps_if (pt_val (pe_fn G_is_letter hr rfl (pa_cons (pv 0) pa_nil se_Name))) (pss_one (ps_ret (pv 0))) pss_nil)
    (pss_one (ps_ret (pe_fn G_joined_texts hr rfl (pa_cons (pe_ix ix_seq (pv 0) pe_int (fun _ _ => rfl)) (pa_cons (pe_lc (own := [("arm", 1)]) (g := (gName 1)) (by rfl) nd (pi_tup (pe_slice sl_tup (pv 0) (po_some pe_int) po_none)) (blkOk_by (own := [("arm", 1)]) (N := N_text_of) (sc := defScope s_text_of) (by decide +kernel)) (fun _ _ _ _ _ => (pg_name (i := 1) nd rfl (Or.inl rfl))) (fun _ _ _ _ _ => pts_nil) (fun _ _ _ _ _  => (pe_fn G_text_of hr rfl (pa_cons (pv 1) pa_nil se_Name)))) pa_nil se_ListComp) se_Subscript))))), ?_⟩
  cases x with
  | letter c =>
    unfold WAt at hv
    subst hv
    refine ⟨_, rfl, _, rfl, .inl ⟨_, rfl, (by show 1 ≤ _; omega), true, ?_, ?_⟩⟩
    · rw [isLet_sgn ho]
    · exact iteT ⟨_, rfl, q H (Same.refl H)⟩
  | node u ws =>
    unfold WAt at hv
    obtain ⟨a, vs, rfl, ha, hvs⟩ := hv
    have hlen := WAts.length ws vs hvs
    have hpl := placesL_len ws ho.2
    have hp' : placesL ws ≤ 10000 := hp
    refine ⟨_, rfl, _, rfl, .inr ⟨_, .tup ha, kit_tup_str K, false, rfl, iteF ?_⟩⟩
    refine ⟨_, rfl, .inr (.inl ⟨a, _, _, _, rfl, rfl, SqT.of ha, at0 _ _, ?_⟩)⟩
    refine ⟨_, rfl, _, rfl, a, _, rfl, SqT.of ha, nw_from (by decide) (by simp) _, fun b hb => ?_⟩
    rw [cut1]
    have sb := same_new hb (.tup vs)
    have hb2 : upd H b (.tup vs) b = some (.tup vs) := upd_same
    refine ⟨b, rfl, ⟨_, SqT.of hb2⟩, fun D hD => ?_⟩
    refine lc_each (SqT.of hb2) hD (by omega) (fun i y _ => ∃ z, ws[i]? = some z ∧ y = .str z.text) (fun _ _ _ _ _ h => h) (fun i x H' C ex s' hC => ?_) (fun x => rfl) (fun H2 acc s2 hacc hl2 hR => ?_)
    · obtain ⟨z, hz, hw⟩ := WAts.get ws vs i x hvs ex
      have hm := List.mem_of_getElem? hz
      have hdz := depthL_mem hm
      have hd' : depthL ws + 1 < n + 1 := hd
      exact ⟨_, rfl, x, z, rfl, WAt.mono (KT.of (sb.trans s')) z x hw, okL_mem ho.2 z hm, Nat.le_trans (placesL_mem hm) hp', by omega, fun H'' s'' => hC _ H'' s'' ⟨z, hz, rfl⟩⟩
    · have e : acc = (textL ws).map V.str := by
        rw [textL_map, List.map_map]
        exact get_map (by omega) fun i y ey => by
          obtain ⟨z, hz, e⟩ := hR i y ey
          exact ⟨z, hz, e⟩
      subst e
      have tl := textL_len ho.2
      exact ⟨u, D, textL ws, rfl, SqL.of hacc, by omega, q H2 (sb.trans s2)⟩
theorem ok_gather_parts (D : Def K mg "gather_parts" s_gather_parts P_gather_parts) (G_is_letter : Fn P w K mg base "is_letter" 1 P_is_letter (sp_is_letter K)) (G_joined_texts : Fn P w K mg base "joined_texts" 1 P_joined_texts (sp_joined_texts K)) {n : Nat}
    (G_gather_parts : Fn P w K mg base "gather_parts" (n + 2) P_gather_parts (sp_gather n)) : Fn P w K mg base "gather_parts" (n + 3) P_gather_parts (sp_gather (n + 1)) := by
  have nd := sc_gather_parts.nd
  refine D.ok sc_gather_parts (fun vs H Q E h => ?_) (fun f cdv A outer s H vs Q E hr h => ?_)
  · obtain ⟨v, q, x, ws, rfl, _⟩ := h
    rfl
  obtain ⟨v, d, x, bs, rfl, hv, ho, hp, hd, hB, hz, q⟩ := h
  refine ⟨_, (pss_cons (ps_if (pt_val (pe_fn G_is_letter hr rfl (pa_cons (pv 0) pa_nil se_Name))) (pss_one (ps_set (i := 2) nd rfl (Or.inl rfl) (pv 0) (sw_Name))) (pss_one (ps_set (i := 2) nd rfl (Or.inl rfl) (pe_fn G_joined_texts hr rfl (pa_cons (pe_ix ix_seq (pv 0) pe_int (fun _ _ => rfl)) (pa_cons (pe_lc (own := [("arm", 3)]) (g := (gName 3)) (by rfl) nd (pi_tup (pe_slice sl_tup (pv 0) (po_some pe_int) po_none)) (blkOk_by (own := [("arm", 3)]) (N := N_gather_parts) (sc := defScope s_gather_parts) (by decide +kernel)) (fun _ _ _ _ _ => (pg_name (i := 3) nd rfl (Or.inl rfl))) (fun _ _ _ _ _ => pts_nil) (fun _ _ _ _ _  => (pe_fn G_gather_parts hr rfl (pa_cons (pv 3) (pa_cons (pv 1) pa_nil se_Name) se_Name)))) pa_nil se_ListComp) se_Subscript)) (sw_Call))))
    (pss_cons (ps_dput (hu_of hr) (pv 1) (pv 2) (pv 0) rfl)
    (pss_one (ps_ret (pv 2))))), ?_⟩
  refine seq (fun σ' H' => ∃ (bs' : List Wd) (a : Option V), Dk d H H' ∧ Book H' d bs' ∧ (∀ y, y ∈ bs' → y ∈ bs ∨ y ∈ x.parts) ∧ (∀ y, y ∈ bs ∨ (y ∈ x.parts ∧ y ≠ x) → y ∈ bs') ∧ σ' = [some v, some (.ref d), some (.str x.text), a]) (fun C hC => ?_) ?_
  · cases x with
    | letter c =>
      unfold WAt at hv
      subst hv
      refine ⟨_, rfl, _, rfl, .inl ⟨_, rfl, (by show 1 ≤ _; omega), true, ?_, ?_⟩⟩
      · rw [isLet_sgn ho]
      refine iteT ⟨_, rfl, hC _ _ ⟨bs, _, Dk.refl, hB, fun y => .inl, fun y z => ?_, rfl⟩⟩
      rcases z with z | ⟨z, ne⟩
      · exact z
      · exact absurd (List.mem_singleton.mp z) ne
    | node u ws =>
      unfold WAt at hv
      obtain ⟨a, vs, rfl, ha, hvs⟩ := hv
      have hlen := WAts.length ws vs hvs
      have hpl := placesL_len ws ho.2
      have hp' : placesL ws ≤ 2000 := hp
      refine ⟨_, rfl, _, rfl, .inr ⟨_, .tup ha, kit_tup_str K, false, rfl, iteF ?_⟩⟩
      refine ⟨_, rfl, .inr (.inl ⟨a, _, _, _, rfl, rfl, SqT.of ha, at0 _ _, ?_⟩)⟩
      refine ⟨_, rfl, _, rfl, a, _, rfl, SqT.of ha, nw_from (by decide) (by simp) _, fun b hb => ?_⟩
      rw [cut1]
      have sb := same_new hb (.tup vs)
      have hb2 : upd H b (.tup vs) b = some (.tup vs) := upd_same
      refine ⟨b, rfl, ⟨_, SqT.of hb2⟩, fun D hD => ?_⟩
      have Db : D ≠ b := fun e => by rw [e, upd_same] at hD; cases hD
      have hD0 : H D = none := by rw [upd_ne Db] at hD; exact hD
      obtain ⟨kv0, hd0⟩ : ∃ kv, H d = some (.dK kv) := let ⟨_, h, _⟩ := hB; ⟨_, h⟩
      have Dd : D ≠ d := (ne_of_none hd0 hD0).symm
      have bd : b ≠ d := (ne_of_none hd0 hb).symm
      have kd : ∀ {H1 : Hp}, Dk d H H1 → KT H H1 := fun dk c xs h => dk c _ (ne_of h hd0 (by intro z; cases z)) h
      have upb : ∀ {H1 : Hp} (o : HO) {c : Addr}, H c = none → Dk d H H1 → Dk d H (upd H1 c o) := fun o c hc dk e w he h => by rw [upd_ne (ne_of_none h hc)]; exact dk e w he h
      refine lc_inv (fun i H' => Dk d H H' ∧ H' b = some (.tup vs) ∧ (∃ ys, H' D = some (.lst ys)) ∧ ∃ bs', Book H' d bs' ∧ ∀ y, y ∈ bs' ↔ y ∈ bs ∨ y ∈ partsL (ws.take i)) (fun i y => ∃ z, ws[i]? = some z ∧ y = .str z.text) ?_ (by omega) (fun i H' h => h.2.1) (fun i H' acc h => ?_) (fun i y H' C ey h hDl hC => ?_) (fun x => rfl) (fun H2 acc h2 hacc hl2 hR => ?_)
      · refine ⟨upb _ hD0 (upb _ hb Dk.refl), by rw [upd_ne (Ne.symm Db)]; exact upd_same, ⟨[], upd_same⟩, bs, ?_, fun y => ⟨.inl, fun z => z.elim id fun z => by simp [partsL] at z⟩⟩
        exact hB.same (sb.trans (same_new hD _))
      · obtain ⟨dk, hbv, ⟨ys, hys⟩, bs', hBk, mem⟩ := h
        refine ⟨upb _ hD0 dk, by rw [upd_ne (Ne.symm Db)]; exact hbv, ⟨acc, upd_same⟩, bs', hBk.mono (KT.lst hys) (upd_ne (Ne.symm Dd)), mem⟩
      · obtain ⟨dk, hbv, ⟨ys, hys⟩, bs', hBk, mem⟩ := h
        obtain ⟨z, hz1, hw⟩ := WAts.get ws vs i y hvs ey
        have hm := List.mem_of_getElem? hz1
        have hdz := depthL_mem hm
        have hd' : depthL ws + 1 < n + 1 := hd
        have pt := places_take hz1
        have okt : okL (ws.take i) := okL_of fun w m => okL_mem ho.2 w (List.mem_of_mem_take m)
        have plt := parts_lenL _ okt
        have fw := hBk.few (m := bs ++ partsL (ws.take i)) fun w m => List.mem_append.mpr ((mem w).mp m)
        rw [List.length_append] at fw
        have hz' : bs.length + 2 * placesL ws ≤ 10000 := hz
        refine ⟨_, rfl, _, rfl, y, d, z, bs', rfl, WAt.mono (kd dk) z y hw, okL_mem ho.2 z hm, Nat.le_trans (placesL_mem hm) hp', by omega, hBk, by omega, fun bs2 H2 dk2 hB2 mem2 => hC _ H2 ?_ ⟨dk.trans dk2, dk2 _ _ bd hbv, ⟨ys, dk2 _ _ Dd hys⟩, bs2, hB2, fun w => ?_⟩ ⟨z, hz1, rfl⟩⟩
        · rw [dk2 _ _ Dd hys, hys]
        · rw [mem2 w, mem w, take_one hz1, partsL_append, partsL_one, List.mem_append, or_assoc]
      · obtain ⟨dk, hbv, -, bs', hBk, mem⟩ := h2
        have e : acc = (textL ws).map V.str := by
          rw [textL_map, List.map_map]
          exact get_map (by omega) fun i y ey => by
            obtain ⟨z, hz, e⟩ := hR i y ey
            exact ⟨z, hz, e⟩
        subst e
        have tl := textL_len ho.2
        rw [hlen, List.take_length] at mem
        refine ⟨u, D, textL ws, rfl, SqL.of hacc, by omega, hC _ _ ⟨bs', _, dk, hBk, fun y m => ?_, fun y z => (mem y).mpr ?_, rfl⟩⟩
        · rcases (mem y).mp m with m | m
          · exact .inl m
          · exact .inr (List.mem_append_left _ m)
        · rcases z with z | ⟨z, ne⟩
          · exact .inl z
          · rcases List.mem_append.mp z with z | z
            · exact .inr z
            · exact absurd (List.mem_singleton.mp z) ne
  rintro σ' H' ⟨bs', a, dk, hB', m1, m2, rfl⟩
  have kd : KT H H' := by
    obtain ⟨kv0, hd0⟩ : ∃ kv, H d = some (.dK kv) := let ⟨_, h, _⟩ := hB; ⟨_, h⟩
    exact fun c xs h => dk c _ (ne_of h hd0 (by intro z; cases z)) h
  have pl := parts_len x ho
  have fw := hB'.few (m := bs ++ x.parts) fun w m => List.mem_append.mpr (m1 w m)
  rw [List.length_append] at fw
  obtain ⟨H2, bs2, dp, hB2, keep, mem⟩ := hB'.put ho (WAt.mono kd _ _ hv) (Nat.lt_of_le_of_lt (show bs'.length ≤ 20000 by omega) (szl (by omega)))
  refine ⟨_, rfl, _, rfl, _, rfl, d, H2, rfl, dp, _, rfl, q bs2 H2 (fun c o hc h => by rw [keep c hc]; exact dk c o hc h) hB2 fun y => ?_⟩
  rw [mem y]
  constructor
  · rintro (z | z)
    · exact m1 y z
    · rw [z]; exact .inr (parts_self x)
  · intro z
    by_cases e : y = x
    · exact .inr e
    · exact .inl (m2 y (z.imp id fun z => ⟨z, e⟩))
theorem ok_parts_of (D : Def K mg "parts_of" s_parts_of P_parts_of) (hb : Blt mg) {n : Nat} (G_gather_parts : Fn P w K mg base "gather_parts" (n + 2) P_gather_parts (sp_gather n)) : Fn P w K mg base "parts_of" (n + 3) P_parts_of (sp_parts n) := by
  have nd := sc_parts_of.nd
  refine D.ok sc_parts_of (fun vs H Q E h => ?_) (fun f cdv A outer s H vs Q E hr h => ?_)
  · obtain ⟨v, x, rfl, _⟩ := h
    rfl
  obtain ⟨v, x, rfl, hv, ho, hp, hd, q⟩ := h
  refine ⟨_, (pss_cons (ps_set (i := 1) nd rfl (Or.inr rfl) pe_dnewK (sw_Dict))
    (pss_cons (ps_expr (pe_fn G_gather_parts hr rfl (pa_cons (pv 0) (pa_cons (pv 1) pa_nil se_Name) se_Name)))
    (pss_one (ps_ret (pe_callTy call_tuple_of (by rfl) hb.b_tuple (by decide +kernel) (pa_cons (pe_lc (own := [("text", 2)]) (g := (gName 2)) (by rfl) nd (pi_list (pe_callB (cr_sortD rfl) (by rfl) hb.b_sorted (by decide +kernel) (pa_cons (pv 1) pa_nil se_Name))) (blkOk_by (own := [("text", 2)]) (N := N_parts_of) (sc := defScope s_parts_of) (by decide +kernel)) (fun _ _ _ _ _ => (pg_name (i := 2) nd rfl (Or.inl rfl))) (fun _ _ _ _ _ => pts_nil) (fun _ _ _ _ _  => (pe_dget (hu_of hr) (pv 1) (pv 2) (fun _ _ => rfl)))) pa_nil se_ListComp)))))), ?_⟩
  refine fun d hd0 => ?_
  refine set_c ?_
  have sd := same_new hd0 (.dK [])
  have hB : Book (upd H d (.dK [])) d [] := ⟨[], upd_same, rfl, fun _ m => by simp at m, List.nodup_nil⟩
  refine ⟨_, rfl, _, rfl, v, d, x, [], rfl, WAt.mono (KT.of sd) _ _ hv, ho, hp, hd, hB, by show 0 + _ ≤ _; omega, fun bs H1 dk hB1 mem => ?_⟩
  have s1 : Same H H1 := fun c o h => dk c o (ne_of_none h hd0) (sd c o h)
  obtain ⟨vs, hq, hws, hok, hnd⟩ := id hB1
  refine ⟨_, rfl, d, bkv bs vs, rfl, hq, fun ys l hys hso hl => ?_⟩
  have sl := same_new hl (.lst (ys.map V.str))
  rw [bkv_keys hws] at hys
  obtain ⟨zs, hzp, rfl⟩ := perm_pre ys bs hys
  have fw := hB1.few (m := x.parts) fun y m => ((mem y).mp m).resolve_left (by simp)
  have pl := parts_len x ho
  have zl := hzp.length_eq
  refine ⟨l, rfl, ⟨_, SqL.of upd_same⟩, fun D hD => ?_⟩
  have Dl : D ≠ l := fun e => by rw [e, upd_same] at hD; cases hD
  have hD1 : H1 D = none := by rw [upd_ne Dl] at hD; exact hD
  refine lc_eachL (SqL.of upd_same) hD (by rw [List.length_map, List.length_map]; omega) (fun i y H' => ∃ z, zs[i]? = some z ∧ WAt H' z y) (fun i y H' H'' k hDl h => ?_) (fun i y H' C ey s' hDl hC => ?_) (fun x => rfl) (fun H2 acc s2 hacc hl2 hR => ?_)
  · obtain ⟨z, hz, h⟩ := h
    obtain ⟨ws', hw'⟩ := hDl
    exact ⟨z, hz, WAt.mono (fun c xs hc => k c _ (ne_of hc hw' (by intro z; cases z)) hc) _ _ h⟩
  · rw [List.map_map, List.getElem?_map] at ey
    cases ez : zs[i]? with
    | none => rw [ez] at ey; cases ey
    | some z =>
      rw [ez] at ey
      have e1 : V.str z.text = y := by injection ey
      subst e1
      have hm : z ∈ bs := hzp.mem_iff.mp (List.mem_of_getElem? ez)
      have s3 := sl.trans s'
      obtain ⟨u, e2, hu⟩ := book_get (WAts.mono (KT.of s3) _ _ hws) hok z hm
      exact ⟨_, rfl, _, rfl, d, u, rfl, .inl ⟨_, .inr z.text, Rd.of (s3 _ _ hq), rfl, e2.symm⟩, hC u H' (Same.refl _) ⟨z, ez, hu⟩⟩
  · refine ⟨D, acc, rfl, .inl ⟨SqL.of hacc, fun t ht => ?_⟩⟩
    have st := same_new ht (.tup acc)
    have s03 := (s1.trans (sl.trans s2)).trans st
    have hws2 : WAts (upd H2 t (.tup acc)) zs acc := WAts.of_get zs acc (by rw [hl2, List.length_map, List.length_map]) fun i y ey => by
      obtain ⟨z, hz, h⟩ := hR i y ey
      exact ⟨z, hz, WAt.mono (KT.of st) _ _ h⟩
    exact q t zs acc _ s03 (none_of (s1.trans (sl.trans s2)) ht) upd_same hws2 hso (hzp.nodup_iff.mpr hnd) fun y => by rw [hzp.mem_iff, mem y]; simp
theorem ok_put_rows_in (D : Def K mg "put_rows_in" s_put_rows_in P_put_rows_in) (G_is_letter : Fn P w K mg base "is_letter" 1 P_is_letter (sp_is_letter K)) {n : Nat}
    (G_put_rows_in : Fn P w K mg base "put_rows_in" (n + 2) P_put_rows_in (sp_put_rows n)) : Fn P w K mg base "put_rows_in" (n + 3) P_put_rows_in (sp_put_rows (n + 1)) := by
  have nd := sc_put_rows_in.nd
  refine D.ok sc_put_rows_in (fun vs H Q E h => ?_) (fun f cdv A outer s H vs Q E hr h => ?_)
  · obtain ⟨v, q, x, rs, rfl, _⟩ := h
    rfl
  obtain ⟨v, d, x, rs, rfl, hv, ho, hp, hd, hR, hl, q⟩ := h
  refine ⟨_, (pss_cons (ps_if (pt_val (pe_fn G_is_letter hr rfl (pa_cons (pv 0) pa_nil se_Name))) (pss_one (ps_ret (pe_dget2 (hu_of hr) (pv 1) (pv 0) (pv 0) ⟨rfl, rfl, rfl, rfl⟩))) pss_nil)
    (pss_cons (ps_setLc (i := 2) (own := [("arm", 3)]) (g := (gName 3)) (by rfl) nd rfl rfl (sw_true rfl rfl rfl (by decide +kernel)) (pi_tup (pe_slice sl_tup (pv 0) (po_some pe_int) po_none)) (blkOk_by (own := [("arm", 3)]) (N := N_put_rows_in) (sc := defScope s_put_rows_in) (by decide +kernel)) (fun _ _ _ _ _ => (pg_name (i := 3) nd rfl (Or.inl rfl))) (fun _ _ _ _ _ => pts_nil) (fun _ _ _ _ _  => (pe_fn G_put_rows_in hr rfl (pa_cons (pv 3) (pa_cons (pv 1) pa_nil se_Name) se_Name))))
    (pss_one (ps_ret (pe_tup (pa_cons (pe_ix ix_seq (pv 0) pe_int (fun _ _ => rfl)) (pa_star (pv 2) pa_nil) se_Subscript)))))), ?_⟩
  cases x with
  | letter c =>
    have hv' := hv
    unfold WAt at hv
    subst hv
    refine ⟨_, rfl, _, rfl, .inl ⟨_, rfl, (by show 1 ≤ _; omega), true, ?_, ?_⟩⟩
    · rw [isLet_sgn ho]
    obtain ⟨us, hdk, hus⟩ := hR
    refine iteT ⟨_, rfl, d, rfl, .inl ⟨_, .inl hdk⟩, _, rfl, _, rfl, _, DGet.k (k := .inr (sgn c)) hdk, ?_⟩
    rcases rows_get hus c with ⟨e1, e2⟩ | ⟨y, v, e1, e2, hy⟩
    · rw [e2]
      refine q _ H (Same.refl H) ?_
      show WAt H ((look rs c).getD (.letter c)) _
      rw [e1]
      exact hv'
    · rw [e2]
      refine q _ H (Same.refl H) ?_
      show WAt H ((look rs c).getD (.letter c)) _
      rw [e1]
      exact hy
  | node u ws =>
    unfold WAt at hv
    obtain ⟨a, vs, rfl, ha, hvs⟩ := hv
    have hlen := WAts.length ws vs hvs
    have hpl := placesL_len ws ho.2
    have hp' : placesL ws ≤ 2000 := hp
    refine ⟨_, rfl, _, rfl, .inr ⟨_, .tup ha, kit_tup_str K, false, rfl, iteF ?_⟩⟩
    refine ⟨_, rfl, _, rfl, a, _, rfl, SqT.of ha, nw_from (by decide) (by simp) _, fun b hb => ?_⟩
    rw [cut1]
    have sb := same_new hb (.tup vs)
    have hb2 : upd H b (.tup vs) b = some (.tup vs) := upd_same
    refine ⟨b, rfl, ⟨_, SqT.of hb2⟩, fun D hD => ?_⟩
    refine lc_each (SqT.of hb2) hD (by omega) (fun i y H => ∃ z, ws[i]? = some z ∧ WAt H (z.put (look rs)) y) (fun i y H H' k h => ?_) (fun i x H' C ex s' hC => ?_) (fun x => rfl) (fun H2 acc s2 hacc hl2 hR2 => ?_)
    · obtain ⟨z, hz, h⟩ := h
      exact ⟨z, hz, WAt.mono k _ _ h⟩
    · obtain ⟨z, hz, hw⟩ := WAts.get ws vs i x hvs ex
      have hm := List.mem_of_getElem? hz
      have hdz := depthL_mem hm
      have hd' : depthL ws + 1 < n + 1 := hd
      exact ⟨_, rfl, _, rfl, x, d, z, rs, rfl, WAt.mono (KT.of (sb.trans s')) z x hw, okL_mem ho.2 z hm, Nat.le_trans (placesL_mem hm) hp', by omega, hR.same (sb.trans s'), hl, fun r H'' s'' hr' => hC _ H'' s'' ⟨z, hz, hr'⟩⟩
    · have s02 := sb.trans s2
      have ha2 := s02 _ _ ha
      refine ⟨_, rfl, .inr (.inl ⟨a, _, _, _, rfl, rfl, SqT.of ha2, at0 _ _, ?_⟩)⟩
      refine ⟨_, rfl, D, _, rfl, .inl (SqL.of hacc), ?_⟩
      refine ⟨sz (by rw [List.length_cons, List.length_append, hl2]; show vs.length + 0 + 1 ≤ _; omega), fun p hp2 => ?_⟩
      refine q _ _ (s02.trans (same_new hp2 _)) ?_
      show WAt _ (.node u (putL (look rs) ws)) _
      refine ⟨p, acc, rfl, by rw [upd_same]; simp, WAts.mono (KT.new hp2) _ _ (WAts.of_get _ _ (by rw [putL_map, List.length_map]; omega) fun i y ey => ?_)⟩
      obtain ⟨z, hz, h⟩ := hR2 i y ey
      exact ⟨z.put (look rs), by rw [putL_map, List.getElem?_map, hz]; rfl, h⟩
theorem ok_put_in (D : Def K mg "put_in" s_put_in P_put_in) {n : Nat} (G_put_rows_in : Fn P w K mg base "put_rows_in" (n + 2) P_put_rows_in (sp_put_rows n)) : Fn P w K mg base "put_in" (n + 3) P_put_in (sp_put_in n) := by
  have nd := sc_put_in.nd
  refine D.ok sc_put_in (fun vs H Q E h => ?_) (fun f cdv A outer s H vs Q E hr h => ?_)
  · obtain ⟨v, q, x, rs, rfl, _⟩ := h
    rfl
  obtain ⟨v, r, x, rs, rfl, hv, ho, hp, hd, hR, hG, q⟩ := h
  refine ⟨_, (pss_one (ps_ret (pe_fn G_put_rows_in hr rfl (pa_cons (pv 0) (pa_cons (pe_dc (own := [("letter", 2), ("row", 3)]) (g := (gTup K 2 (gCons (gName 2) (gCons (gName 3) gNil)))) (by rfl) nd (pi_tup (pv 1)) (blkOk_by (own := [("letter", 2), ("row", 3)]) (N := N_put_in) (sc := defScope s_put_in) (by decide +kernel)) (fun _ _ _ _ _ => (pg_tup rfl (pgs_cons (pg_name (i := 2) nd rfl (Or.inl rfl)) (pgs_cons (pg_name (i := 3) nd rfl (Or.inl rfl)) pgs_nil)))) (fun _ _ _ _ _ => pts_nil) (fun _ _ _ _ _ => (pv 2)) (fun _ _ _ _ _ => (pv 3))) pa_nil se_DictComp) se_Name)))), ?_⟩
  obtain ⟨a, vs, rfl, ha, hvs⟩ := hR
  have hlen := hvs.length
  have hnd := hG.nd
  have hl := hG.few
  refine ⟨_, rfl, _, rfl, a, rfl, ⟨_, SqT.of ha⟩, fun D hD => ?_⟩
  refine dc_tup (K := K) (a := a) (xs := vs) (fun i H' => Same H H' ∧ RowD H' D (rs.take i)) ⟨same_new hD _, [], upd_same, rfl⟩ (fun i H' _ h => SqT.of (h.1 _ _ ha)) (fun i y H' ey h => ?_) (fun H' h => ?_)
  · obtain ⟨s', us, hus, hw⟩ := h
    obtain ⟨r, hr1, b, u, rfl, hb, hu⟩ := hvs.get ey
    have hb' := s' _ _ hb
    refine ⟨b, _, rfl, SqT.of hb', rfl, _, _, rfl, _, _, rfl, rfl, rfl, ?_⟩
    unfold tYes
    dsimp only
    rw [if_pos rfl]
    have tl : (rs.take i).length ≤ rs.length := by rw [List.length_take]; omega
    have nr : r.1 ∉ (rs.take i).map (·.1) := by
      intro m
      have e : rs.take (i + 1) = rs.take i ++ [r] := by rw [List.take_add_one, hr1]; rfl
      have nd2 : ((rs.take (i + 1)).map (·.1)).Nodup := List.Nodup.sublist (List.Sublist.map _ (List.take_sublist _ _)) hnd
      rw [e, List.map_append, List.nodup_append] at nd2
      exact nd2.2.2 _ m r.1 (by simp) rfl
    refine ⟨_, rfl, _, rfl, _, .inr (sgn r.1), rfl, hus, ?_, ?_⟩
    · have := rkv_len hw
      exact szl (by rw [show (tK (rkv (rs.take i) us)).length = _ from List.length_map _]; omega)
    · have kt : ∀ o, KT H' (upd H' D o) := fun o c xs e => by rw [upd_ne (ne_of e hus (by intro z; cases z))]; exact e
      refine ⟨fun c o h => by rw [upd_ne (ne_of_none h hD)]; exact s' c o h, us ++ [u], ?_, ?_⟩
      · rw [upd_same, rows_put hw nr, List.take_add_one, hr1]; rfl
      · rw [List.take_add_one, hr1, List.map_append]
        exact WAts.snoc (WAt.mono (kt _) _ _ (WAt.mono (KT.of s') _ _ hu)) _ _ (WAts.mono (kt _) _ _ hw)
  · obtain ⟨s', hrd⟩ := h
    rw [hlen, List.take_length] at hrd
    exact ⟨v, D, x, rs, rfl, WAt.mono (KT.of s') _ _ hv, ho, hp, hd, hrd, by omega, fun v' H2 s2 hw => q v' H2 (s'.trans s2) hw⟩
theorem ok_deed_turned (D : Def K mg "deed_turned" s_deed_turned P_deed_turned) (hg_UP : Gv mg "UP" (.str "up")) (hg_DOWN : Gv mg "DOWN" (.str "down")) : Fn P w K mg base "deed_turned" 1 P_deed_turned sp_deed_turned := by
  have nd := sc_deed_turned.nd
  refine D.ok sc_deed_turned (fun vs H Q E h => ?_) (fun f cdv A outer s H vs Q E hr h => ?_)
  · obtain ⟨u, rfl, _⟩ := h
    rfl
  obtain ⟨u, rfl, q⟩ := h
  refine ⟨_, (pss_one (ps_ret (pe_ifExp (pt_cmpR op_eq (pv 0) (pe_gv rfl hg_UP) (nomark _)) (pe_gv rfl hg_DOWN) (pe_gv rfl hg_UP)))), ?_⟩
  refine ⟨_, rfl, rfl, _, rfl, ?_⟩
  cases u with
  | true => exact q
  | false => exact q
theorem ok_word_turned (D : Def K mg "word_turned" s_word_turned P_word_turned) (G_is_letter : Fn P w K mg base "is_letter" 1 P_is_letter (sp_is_letter K)) (G_deed_turned : Fn P w K mg base "deed_turned" 1 P_deed_turned sp_deed_turned) {n : Nat}
    (G_word_turned : Fn P w K mg base "word_turned" (n + 2) P_word_turned (sp_turn n)) : Fn P w K mg base "word_turned" (n + 3) P_word_turned (sp_turn (n + 1)) := by
  have nd := sc_word_turned.nd
  refine D.ok sc_word_turned (fun vs H Q E h => ?_) (fun f cdv A outer s H vs Q E hr h => ?_)
  · obtain ⟨v, x, rfl, _⟩ := h
    rfl
  obtain ⟨v, x, rfl, hv, ho, hp, hd, q⟩ := h
  refine ⟨_, (pss_cons (ps_if (pt_val (pe_fn G_is_letter hr rfl (pa_cons (pv 0) pa_nil se_Name))) (pss_one (ps_ret (pv 0))) pss_nil)
    (pss_cons (ps_setLc (i := 1) (own := [("arm", 2)]) (g := (gName 2)) (by rfl) nd rfl rfl (sw_true rfl rfl rfl (by decide +kernel)) (pi_tup (pe_slice sl_tup (pv 0) (po_some pe_int) po_none)) (blkOk_by (own := [("arm", 2)]) (N := N_word_turned) (sc := defScope s_word_turned) (by decide +kernel)) (fun _ _ _ _ _ => (pg_name (i := 2) nd rfl (Or.inl rfl))) (fun _ _ _ _ _ => pts_nil) (fun _ _ _ _ _  => (pe_fn G_word_turned hr rfl (pa_cons (pv 2) pa_nil se_Name))))
    (pss_one (ps_ret (pe_tup (pa_cons (pe_fn G_deed_turned hr rfl (pa_cons (pe_ix ix_seq (pv 0) pe_int (fun _ _ => rfl)) pa_nil se_Subscript)) (pa_star (pv 1) pa_nil) se_Call)))))), ?_⟩
  cases x with
  | letter c =>
    have hv' := hv
    unfold WAt at hv
    subst hv
    refine ⟨_, rfl, _, rfl, .inl ⟨_, rfl, (by show 1 ≤ _; omega), true, ?_, ?_⟩⟩
    · rw [isLet_sgn ho]
    · exact iteT ⟨_, rfl, q _ H (Same.refl H) hv'⟩
  | node u ws =>
    unfold WAt at hv
    obtain ⟨a, vs, rfl, ha, hvs⟩ := hv
    have hlen := WAts.length ws vs hvs
    have hpl := placesL_len ws ho.2
    have hp' : placesL ws ≤ 900 := hp
    refine ⟨_, rfl, _, rfl, .inr ⟨_, .tup ha, kit_tup_str K, false, rfl, iteF ?_⟩⟩
    refine ⟨_, rfl, _, rfl, a, _, rfl, SqT.of ha, nw_from (by decide) (by simp) _, fun b hb => ?_⟩
    rw [cut1]
    have sb := same_new hb (.tup vs)
    have hb2 : upd H b (.tup vs) b = some (.tup vs) := upd_same
    refine ⟨b, rfl, ⟨_, SqT.of hb2⟩, fun D hD => ?_⟩
    refine lc_each (SqT.of hb2) hD (by omega) (fun i y H => ∃ z, ws[i]? = some z ∧ WAt H z.turn y) (fun i y H H' k h => ?_) (fun i x H' C ex s' hC => ?_) (fun x => rfl) (fun H2 acc s2 hacc hl2 hR => ?_)
    · obtain ⟨z, hz, h⟩ := h
      exact ⟨z, hz, WAt.mono k _ _ h⟩
    · obtain ⟨z, hz, hw⟩ := WAts.get ws vs i x hvs ex
      have hm := List.mem_of_getElem? hz
      have hdz := depthL_mem hm
      have hd' : depthL ws + 1 < n + 1 := hd
      exact ⟨_, rfl, x, z, rfl, WAt.mono (KT.of (sb.trans s')) z x hw, okL_mem ho.2 z hm, Nat.le_trans (placesL_mem hm) hp', by omega, fun r H'' s'' hr' => hC _ H'' s'' ⟨z, hz, hr'⟩⟩
    · have s02 := sb.trans s2
      have ha2 := s02 _ _ ha
      refine ⟨_, rfl, .inr (.inl ⟨a, _, _, _, rfl, rfl, SqT.of ha2, at0 _ _, ?_⟩)⟩
      refine ⟨u, rfl, _, rfl, D, _, rfl, .inl (SqL.of hacc), ?_⟩
      refine ⟨small (by rw [List.length_cons, List.length_append, hl2]; show vs.length + 0 + 1 ≤ 1000; omega), fun p hp2 => ?_⟩
      refine q _ _ (s02.trans (same_new hp2 _)) ?_
      show WAt _ (.node (!u) (turnL ws)) _
      refine ⟨p, acc, rfl, by rw [upd_same]; simp, WAts.mono (KT.new hp2) _ _ (WAts.of_get _ _ (by rw [turnL_map, List.length_map]; omega) fun i y ey => ?_)⟩
      obtain ⟨z, hz, h⟩ := hR i y ey
      exact ⟨z.turn, by rw [turnL_map, List.getElem?_map, hz]; rfl, h⟩
theorem ok__law_bag (D : Def K mg "_law_bag" s__law_bag P__law_bag) (hb : Blt mg) : Fn P w K mg base "_law_bag" 1 P__law_bag (sp_bag K) := by
  have nd := sc__law_bag.nd
  refine D.ok sc__law_bag (fun vs H Q E h => ?_) (fun f cdv A outer s H vs Q E hr h => ?_)
  · obtain ⟨a, ns, k, rfl, _⟩ := h
    rfl
  obtain ⟨a, ns, k, rfl, hS, h63, h0, h1, q⟩ := h
  refine ⟨_, (pss_cons (ps_set (i := 2) nd rfl (Or.inl rfl) pe_int (sw_Constant))
    (pss_cons (ps_if (pt_cmpR op_lt (pv 1) (pe_callB call_len (by rfl) hb.b_len (by decide +kernel) (pa_cons (pv 0) pa_nil se_Name)) (nomark _)) (pss_one (ps_set (i := 2) nd rfl (Or.inl rfl) (pe_callB call_abs (by rfl) hb.b_abs (by decide +kernel) (pa_cons (pe_ix ix_seq (pv 0) (pv 1) (fun _ _ => rfl)) pa_nil se_Subscript)) (sw_Call))) pss_nil)
    (pss_cons (ps_set (i := 3) nd rfl (Or.inl rfl) (pe_op op_add pe_int (pe_op op_mul pe_int (pv 1))) (sw_BinOp))
    (pss_cons (ps_for PassesOwn.never rfl (pi_range1 rfl hb.b_range (pa_cons (pe_callB (call_min2 rfl) (by rfl) hb.b_min (by decide +kernel) (pa_cons (pe_callB call_len (by rfl) hb.b_len (by decide +kernel) (pa_cons (pv 0) pa_nil se_Name)) (pa_cons pe_int pa_nil se_Constant) se_Call)) pa_nil se_Call)) (pg_name (i := 4) nd rfl (Or.inl rfl)) (pss_one (ps_set (i := 3) nd rfl (Or.inl rfl) (pe_op op_modN (pe_op op_add (pe_op op_add (pe_op op_pow (pv 3) pe_int) (pe_op op_modN (pe_ix ix_seq (pv 0) (pv 4) (fun _ _ => rfl)) pe_int)) (pv 4)) pe_int) (sw_BinOp))))
    (pss_cons (ps_if (pt_cmpR op_lt (pv 2) (pe_op op_pow pe_int pe_int) (nomark _)) (pss_one (ps_set (i := 2) nd rfl (Or.inl rfl) (pe_op op_pow pe_int pe_int) (sw_BinOp))) pss_nil)
    (pss_one (ps_ret (pe_lst (pa_cons (pe_op op_sub (pv 2) (pe_op op_pow pe_int pe_int)) (pa_cons (pv 3) (pa_cons (pe_op op_modN (pv 1) pe_int) pa_nil se_BinOp) se_Name) se_BinOp))))))))), ?_⟩
  have nz1 : (1000000007 : Int) ≠ 0 := by decide
  have nz2 : (2147483629 : Int) ≠ 0 := by decide
  have nz3 : (11 : Int) ≠ 0 := by decide
  have hl : (ns.map V.int).length = ns.length := List.length_map _
  have item : ∀ i : Int, 0 ≤ i → i < (ns.length : Int) → ∃ v : Int, atI (ns.map V.int) i = some (.int v) := by
    intro i h0 h1
    have hk : i.toNat < ns.length := by omega
    exact ⟨ns[i.toNat], at_nat h0 (by rw [List.getElem?_map, List.getElem?_eq_getElem hk]; rfl)⟩
  refine set_c ?_
  refine seq (fun σ' H' => H' = H ∧ ∃ c : Int, 0 ≤ c ∧ σ' = [some (.ref a), some (.int k), some (.int c), none, none]) (fun C hC => ?_) ?_
  · refine ⟨_, rfl, _, rfl, _, _, rfl, .inl ⟨_, hS, rfl⟩, _, _, rfl, rfl, _, rfl, ?_⟩
    refine ite2 (fun c => ?_) (fun c => ?_)
    · rw [hl] at c
      have c' : k < (ns.length : Int) := of_decide_eq_true c
      obtain ⟨v, hv⟩ := item k h0 c'
      refine ⟨_, rfl, _, rfl, .inl ⟨a, _, _, _, rfl, rfl, hS, hv, _, rfl, ?_⟩⟩
      exact hC _ _ ⟨rfl, _, by split <;> omega, rfl⟩
    · exact hC _ _ ⟨rfl, 0, by omega, rfl⟩
  rintro σ1 H1 ⟨rfl, c, hc, rfl⟩
  refine set_ ?_
  refine ⟨_, rfl, _, _, rfl, rfl, .inl ⟨by decide, by decide⟩, _, _, rfl, rfl, ?_⟩
  refine seq (fun σ' H' => H' = H1 ∧ ∃ (m : Int) (x : Option V), 0 ≤ m ∧ m < 2147483629 ∧ σ' = [some (.ref a), some (.int k), some (.int c), some (.int m), x]) (fun C hC => ?_) ?_
  · obtain ⟨j, hj0, hj1, ej⟩ : ∃ j : Int, 0 ≤ j ∧ j ≤ ns.length ∧ (if (40 : Int) < (((ns.map V.int).length : Nat) : Int) then (40 : Int) else (((ns.map V.int).length : Nat) : Int)) = j := ⟨_, by rw [hl]; split <;> omega, by rw [hl]; split <;> omega, rfl⟩
    refine ⟨_, rfl, _, _, rfl, .inl ⟨_, hS, rfl⟩, _, _, rfl, ?_⟩
    rw [ej]
    refine ⟨j, rfl, by omega, by omega, ?_⟩
    refine for_range (lo := 0) (n := j.toNat) (fun _ σ' H' => H' = H1 ∧ ∃ (m : Int) (x : Option V), 0 ≤ m ∧ m < 2147483629 ∧ σ' = [some (.ref a), some (.int k), some (.int c), some (.int m), x]) ?_ ?_ ?_
    · exact ⟨rfl, 7919 + 31 * k, none, by omega, by omega, rfl⟩
    · rintro i σ' H' hi ⟨rfl, m, x, hm0, hm1, rfl⟩
      obtain ⟨v, hv⟩ := item (0 + (i : Int)) (by omega) (by omega)
      have fr := fmod_range (i := m ^ 3 + v.fmod 1000000007 + (0 + (i : Int))) (j := 2147483629) (by decide)
      refine ⟨_, rfl, _, _, rfl, rfl, ⟨by decide, by decide, by omega⟩, _, rfl, _, rfl, .inl ⟨a, _, _, _, rfl, rfl, hS, hv, _, _, rfl, rfl, nz1, _, _, rfl, rfl, _, rfl, _, _, rfl, rfl, _, _, rfl, rfl, nz2, rfl, _, _, fr.1, fr.2, rfl⟩⟩
    · rintro σ' H' h
      exact hC _ _ h
  rintro σ2 H2 ⟨rfl, m, x, hm0, hm1, rfl⟩
  refine seq (fun σ' H' => H' = H2 ∧ ∃ c : Int, 1000000000000000000 ≤ c ∧ σ' = [some (.ref a), some (.int k), some (.int c), some (.int m), x]) (fun C hC => ?_) ?_
  · refine ⟨_, rfl, _, _, rfl, rfl, ⟨by decide, by decide, by decide⟩, _, _, rfl, rfl, _, rfl, ?_⟩
    refine ite2 (fun z => ?_) (fun z => ?_)
    · exact ⟨_, _, rfl, rfl, ⟨by decide, by decide, by decide⟩, hC _ _ ⟨rfl, _, by decide, rfl⟩⟩
    · have z' : ¬ c < (10 : Int) ^ (18 : Int).toNat := of_decide_eq_false (Bool.eq_false_iff.mpr z)
      exact hC _ _ ⟨rfl, c, by have e : (10 : Int) ^ (18 : Int).toNat = 1000000000000000000 := by decide
                               omega, rfl⟩
  rintro σ3 H3 ⟨rfl, c2, hc2, rfl⟩
  have fr := fmod_range (i := k) (j := 11) (by decide)
  refine ⟨_, rfl, _, _, rfl, rfl, ⟨by decide, by decide, by decide⟩, _, _, rfl, rfl, _, rfl, _, rfl, _, _, rfl, rfl, nz3, small (by show 3 ≤ 1000; decide), fun p hp => ?_⟩
  have e : (10 : Int) ^ (18 : Int).toNat = 1000000000000000000 := by decide
  exact q p _ (same_new hp _) hp ⟨c2 - 10 ^ (18 : Int).toNat, m, k.fmod 11, upd_same, by omega, hm0, hm1, fr.1, fr.2⟩
theorem bag_set {H H' : Hp} {p : Addr} {x m j : Int} (d : Drawn p H H') (h0 : 0 ≤ x) (h1 : 0 ≤ m) (h2 : m < 2147483629) (h3 : 0 ≤ j) (h4 : j < 11) : Drawn p H (upd H' p (.lst [.int x, .int m, .int j])) :=
  ⟨fun b o hb e => by rw [upd_ne hb]; exact d.keep b o hb e, ⟨x, m, j, upd_same, h0, h1, h2, h3, h4⟩, d.was⟩
theorem ok__law_draw (D : Def K mg "_law_draw" s__law_draw P__law_draw) : Fn P w K mg base "_law_draw" 1 P__law_draw sp_draw := by
  have nd := sc__law_draw.nd
  refine D.ok sc__law_draw (fun vs H Q E h => ?_) (fun f cdv A outer s H vs Q E hr h => ?_)
  · obtain ⟨p, n, rfl, _⟩ := h
    rfl
  obtain ⟨p, n, rfl, hB, h0, h1, q⟩ := h
  obtain ⟨E1, e1⟩ : ∃ E, E = asgVal ((defBody s__law_draw).getD 1 (.Pass ⟨0, 0, 0, 0⟩)) := ⟨_, rfl⟩
  have i1 : intsT E1 = some [99991, 99989, 99971, 99961, 99929, 99923, 99907, 99901, 99881, 99877, 99871] := by rw [e1]; rfl
  have w1 : ∀ (t : Option Expr) (l : Nat) (env : Env), swapsWith E1 t l env = pure false := by intro t l env; rw [e1]; rfl
  have b1 : defBody s__law_draw = (defBody s__law_draw).set 1 (setVal ((defBody s__law_draw).getD 1 (.Pass ⟨0, 0, 0, 0⟩)) E1) := by rw [e1]; rfl
  rw [b1]
  refine ⟨_, (pss_cons (ps_if (pt_cmpR op_gt (pe_ix ix_seq (pv 0) pe_int (fun _ _ => rfl)) pe_int (nomark _)) (pss_cons (ps_set (i := 2) nd rfl (Or.inl rfl) (pe_op op_modN (pe_ix ix_seq (pv 0) pe_int (fun _ _ => rfl)) (pv 1)) (sw_BinOp))
    (pss_cons (ps_asg (pe_op op_fdivN (pe_ix ix_seq (pv 0) pe_int (fun _ _ => rfl)) (pv 1)) (pg_sub (pv 0) pe_int set_list))
    (pss_one (ps_ret (pv 2))))) pss_nil)
    (pss_cons (ps_set (i := 3) nd rfl (Or.inl rfl) (pe_tupE i1) (w1 _ _ _))
    (pss_cons (ps_set (i := 4) nd rfl (Or.inl rfl) pe_int (sw_Constant))
    (pss_cons (ps_set (i := 5) nd rfl (Or.inl rfl) pe_int (sw_Constant))
    (pss_cons (ps_while PassesOwn.never (pt_cmpR op_lt (pv 5) (pe_op op_mul (pv 1) pe_int) (nomark _)) (pss_cons (ps_asg (pe_op op_modN (pe_op op_add (pe_op op_mul (pe_ix ix_seq (pv 0) pe_int (fun _ _ => rfl)) pe_int) pe_int) pe_int) (pg_sub (pv 0) pe_int set_list))
    (pss_cons (ps_asg (pe_op op_modN (pe_op op_add (pe_ix ix_seq (pv 0) pe_int (fun _ _ => rfl)) pe_int) pe_int) (pg_sub (pv 0) pe_int set_list))
    (pss_cons (ps_set (i := 4) nd rfl (Or.inl rfl) (pe_op op_add (pe_op op_mul (pv 4) pe_int) (pe_op op_modN (pe_op op_pow (pe_ix ix_seq (pv 0) pe_int (fun _ _ => rfl)) pe_int) (pe_ix ix_seq (pv 3) (pe_ix ix_seq (pv 0) pe_int (fun _ _ => rfl)) (fun _ _ => rfl)))) (sw_BinOp))
    (pss_one (ps_set (i := 5) nd rfl (Or.inl rfl) (pe_op op_mul (pv 5) pe_int) (sw_BinOp)))))))
    (pss_one (ps_ret (pe_op op_modN (pv 4) (pv 1))))))))), ?_⟩
  have nz : n ≠ 0 := by omega
  have nz1 : (2147483629 : Int) ≠ 0 := by decide
  have nz3 : (11 : Int) ≠ 0 := by decide
  obtain ⟨x, m, j, hp, hx, hm0, hm1, hj0, hj1⟩ := hB
  have hB : Bag H p := ⟨x, m, j, hp, hx, hm0, hm1, hj0, hj1⟩
  refine ⟨_, rfl, .inl ⟨p, _, _, _, rfl, rfl, SqL.of hp, at0 _ _, _, _, rfl, rfl, _, rfl, ?_⟩⟩
  refine ite2 (fun c => ?_) (fun c => ?_)
  · refine ⟨_, rfl, .inl ⟨p, _, _, _, rfl, rfl, SqL.of hp, at0 _ _, _, rfl, _, _, rfl, rfl, nz, ?_⟩⟩
    refine ⟨_, rfl, .inl ⟨p, _, _, _, rfl, rfl, SqL.of hp, at0 _ _, _, rfl, _, _, rfl, rfl, ⟨nz, by omega⟩, ?_⟩⟩
    refine ⟨_, rfl, p, _, _, 0, rfl, rfl, hp, rfl, ?_⟩
    have fr := fmod_range (i := x) h0
    exact ⟨_, rfl, q _ _ (bag_set (Drawn.refl hB) (fdiv_nonneg hx h0) hm0 hm1 hj0 hj1) fr.1 fr.2⟩
  · refine ⟨small (by show 11 ≤ 1000; decide), fun t ht => ?_⟩
    refine set_c (set_c (set_c ?_))
    have st := same_new ht (.tup [.int 99991, .int 99989, .int 99971, .int 99961, .int 99929, .int 99923, .int 99907, .int 99901, .int 99881, .int 99877, .int 99871])
    have d0 := Same.drawn st hB
    have tp : t ≠ p := (ne_of_none hp ht).symm
    refine seq (fun σ' H' => ∃ f r : Int, Drawn p H H' ∧ σ' = [some (.ref p), some (.int n), none, some (.ref t), some (.int f), some (.int r)]) (fun C hC => ?_) ?_
    · refine while_by (fun σ' H' => ∃ f r : Int, 1 ≤ r ∧ Drawn p H H' ∧ H' t = some (.tup [.int 99991, .int 99989, .int 99971, .int 99961, .int 99929, .int 99923, .int 99907, .int 99901, .int 99881, .int 99877, .int 99871]) ∧ σ' = [some (.ref p), some (.int n), none, some (.ref t), some (.int f), some (.int r)])
        (fun σ' _ => match σ' with | [_, _, _, _, _, some (.int r)] => (n * 100 - r).toNat | _ => 0) ⟨0, 1, by omega, d0, upd_same, rfl⟩ ?_ ?_
      · rintro σ' H' ⟨f, r, hr1, d, ht', rfl⟩
        refine ⟨_, rfl, _, rfl, _, _, rfl, rfl, .inl ⟨by omega, by omega⟩, _, _, rfl, rfl, _, rfl, ?_⟩
        refine ite2 (fun z => ?_) (fun z => ?_)
        · have z' : r < n * 100 := of_decide_eq_true z
          obtain ⟨x', m', j', hp', hx', hm0', hm1', hj0', hj1'⟩ := d.bag
          have fr := fmod_range (i := m' * 48271 + 12345) (j := 2147483629) (by decide)
          have fr2 := fmod_range (i := j' + 1) (j := 11) (by decide)
          refine ⟨_, rfl, .inl ⟨p, _, _, _, rfl, rfl, SqL.of hp', atI_nat (j := 1) rfl, _, _, rfl, rfl, .inr ⟨by decide, by decide⟩, _, _, rfl, rfl, _, _, rfl, rfl, nz1, ?_⟩⟩
          refine ⟨_, rfl, p, _, _, 1, rfl, rfl, hp', rfl, ?_⟩
          refine ⟨_, rfl, .inl ⟨p, _, _, _, rfl, rfl, SqL.of upd_same, atI_nat (j := 2) rfl, _, _, rfl, rfl, _, _, rfl, rfl, nz3, ?_⟩⟩
          refine ⟨_, rfl, p, _, _, 2, rfl, rfl, upd_same, rfl, ?_⟩
          rw [upd_upd]
          have d2 := bag_set d hx' fr.1 fr.2 fr2.1 fr2.2
          have ht2 : (upd H' p (.lst [.int x', .int ((m' * 48271 + 12345).fmod 2147483629), .int ((j' + 1).fmod 11)])) t = some (.tup [.int 99991, .int 99989, .int 99971, .int 99961, .int 99929, .int 99923, .int 99907, .int 99901, .int 99881, .int 99877, .int 99871]) := by rw [upd_ne tp]; exact ht'
          obtain ⟨pr, hpr, hpr0⟩ : ∃ pr : Int, atI ([.int 99991, .int 99989, .int 99971, .int 99961, .int 99929, .int 99923, .int 99907, .int 99901, .int 99881, .int 99877, .int 99871] : List V) ((j' + 1).fmod 11) = some (.int pr) ∧ pr ≠ 0 := by
            have fin : ∀ k : Fin 11, ∃ pr : Int, ([.int 99991, .int 99989, .int 99971, .int 99961, .int 99929, .int 99923, .int 99907, .int 99901, .int 99881, .int 99877, .int 99871] : List V)[k.val]? = some (.int pr) ∧ pr ≠ 0 := by
              intro k
              match k with
              | ⟨0, _⟩ | ⟨1, _⟩ | ⟨2, _⟩ | ⟨3, _⟩ | ⟨4, _⟩ | ⟨5, _⟩ | ⟨6, _⟩ | ⟨7, _⟩ | ⟨8, _⟩ | ⟨9, _⟩ | ⟨10, _⟩ => exact ⟨_, rfl, by decide⟩
            obtain ⟨pr, h1, h2⟩ := fin ⟨((j' + 1).fmod 11).toNat, by omega⟩
            exact ⟨pr, at_nat fr2.1 h1, h2⟩
          refine ⟨_, rfl, _, _, rfl, rfl, .inr ⟨by decide, by decide⟩, ?_⟩
          refine ⟨_, rfl, .inl ⟨p, _, _, _, rfl, rfl, SqL.of upd_same, atI_nat (j := 1) rfl, _, _, rfl, rfl, ⟨by decide, by decide, by omega⟩, ?_⟩⟩
          refine ⟨_, rfl, _, rfl, .inl ⟨p, _, _, _, rfl, rfl, SqL.of upd_same, atI_nat (j := 2) rfl, .inr (.inl ⟨t, _, _, _, rfl, rfl, SqT.of ht2, hpr, _, _, rfl, rfl, hpr0, _, _, rfl, rfl, ?_⟩)⟩⟩
          refine ⟨_, rfl, _, _, rfl, rfl, .inr ⟨by decide, by decide⟩, ⟨_, _, by omega, d2, ht2, rfl⟩, ?_⟩
          show (n * 100 - r * 99000).toNat < (n * 100 - r).toNat
          omega
        · exact hC _ _ ⟨f, r, d, rfl⟩
      · rintro σ' H' Q1 Q2 hQ ⟨v1, e1, v2, e2, i1, j1, a1, a2, a3, i2, j2, b1, b2, k1, b3, b4⟩
        exact ⟨v1, e1, v2, e2, i1, j1, a1, a2, a3, i2, j2, b1, b2, k1, b3, hQ _ _ b4⟩
    · rintro σ' H' ⟨f, r, d, rfl⟩
      have fr := fmod_range (i := f) h0
      exact ⟨_, rfl, _, rfl, _, _, rfl, rfl, nz, q _ _ d fr.1 fr.2⟩
theorem ok__law_many (D : Def K mg "_law_many" s__law_many P__law_many) (hb : Blt mg) : Fn P w K mg base "_law_many" 1 P__law_many (sp_many K) := by
  have nd := sc__law_many.nd
  refine D.ok sc__law_many (fun vs H Q E h => ?_) (fun f cdv A outer s H vs Q E hr h => ?_)
  · obtain ⟨a, ns, lo, hi, rfl, _⟩ := h
    rfl
  obtain ⟨a, ns, lo, hi, rfl, hS, h63, h0, h1, h2, h3, q⟩ := h
  refine ⟨_, (pss_one (ps_ret (pe_callTy (call_list_rng rfl) (by rfl) hb.b_list (by decide +kernel) (pa_cons (pe_callTy call_rng1 (by rfl) hb.b_range (by decide +kernel) (pa_cons (pe_callB (call_max2 rfl) (by rfl) hb.b_max (by decide +kernel) (pa_cons (pv 1) (pa_cons (pe_callB (call_min2 rfl) (by rfl) hb.b_min (by decide +kernel) (pa_cons (pv 2) (pa_cons (pe_callB call_len (by rfl) hb.b_len (by decide +kernel) (pa_cons (pv 0) pa_nil se_Name)) pa_nil se_Call) se_Name)) pa_nil se_Call) se_Name)) pa_nil se_Call)) pa_nil)))), ?_⟩
  have hl : (ns.map V.int).length = ns.length := List.length_map _
  refine ⟨_, rfl, _, rfl, _, rfl, _, _, rfl, .inl ⟨_, hS, rfl⟩, _, _, rfl, _, _, rfl, ?_⟩
  obtain ⟨n, e, hn⟩ : ∃ n : Nat, (if (if (((ns.map V.int).length : Nat) : Int) < hi then (((ns.map V.int).length : Nat) : Int) else hi) > lo then (if (((ns.map V.int).length : Nat) : Int) < hi then (((ns.map V.int).length : Nat) : Int) else hi) else lo) = (n : Int) ∧ n ≤ 100 := by
    rw [hl]
    refine ⟨(if (if (ns.length : Int) < hi then (ns.length : Int) else hi) > lo then (if (ns.length : Int) < hi then (ns.length : Int) else hi) else lo).toNat, ?_, ?_⟩
    · split <;> split <;> omega
    · split <;> split <;> omega
  rw [e]
  refine ⟨_, rfl, fun p hp => ⟨p, n, rfl, upd_same, by omega, fun l hl2 => ?_⟩⟩
  have sp := same_new hp (.rng 0 (n : Int))
  exact q l n _ (sp.trans (same_new hl2 _)) (sp.free hl2) upd_same hn
theorem lets_abcd : Lets "abcd" := ⟨by decide +kernel, by decide +kernel, by decide +kernel⟩
theorem lets_az : Lets "abcdefghijklmnopqrstuvwxyz" := ⟨by decide +kernel, by decide +kernel, by decide +kernel⟩
theorem ok__law_abc (D : Def K mg "_law_abc" s__law_abc P__law_abc) (G__law_draw : Fn P w K mg base "_law_draw" 1 P__law_draw sp_draw) : Fn P w K mg base "_law_abc" 2 P__law_abc sp_abc := by
  have nd := sc__law_abc.nd
  refine D.ok sc__law_abc (fun vs H Q E h => ?_) (fun f cdv A outer s H vs Q E hr h => ?_)
  · obtain ⟨p, rfl, _⟩ := h
    rfl
  obtain ⟨p, rfl, hB, q⟩ := h
  refine ⟨_, (pss_cons (ps_if (pt_cmpR op_eq (pe_fn G__law_draw hr rfl (pa_cons (pv 0) (pa_cons pe_int pa_nil se_Constant) se_Name)) pe_int (nomark _)) (pss_one (ps_ret pe_str)) pss_nil)
    (pss_one (ps_ret pe_str))), ?_⟩
  refine ⟨_, rfl, p, 4, rfl, hB, by decide, by decide, fun r H1 d h0 h1 => ?_⟩
  refine ⟨rfl, _, rfl, ?_⟩
  refine ite2 (fun _ => ?_) (fun _ => ?_)
  · exact q _ _ d lets_az
  · exact q _ _ d lets_abcd
/-- sizes: whole numbers from 1 on -/
structure Sizes (ss : List Int) (k : Int) : Prop where
  pos : ∀ s ∈ ss, 1 ≤ s
  sum : ss.sum = k
  two : 2 ≤ ss.length
theorem Sizes.app {ss : List Int} {k : Int} (h : Sizes ss k) : Sizes (ss ++ [1]) (k + 1) := by
  refine ⟨fun s hs => ?_, ?_, ?_⟩
  · rcases List.mem_append.mp hs with m | m
    · exact h.pos s m
    · rw [List.mem_singleton.mp m]; decide
  · rw [List.sum_append, h.sum]; rfl
  · rw [List.length_append]; have := h.two; omega
theorem Sizes.inc {ss : List Int} {k : Int} (h : Sizes ss k) {j : Nat} {z : Int} (hj : ss[j]? = some z) : Sizes (ss.set j (z + 1)) (k + 1) := by
  refine ⟨fun s hs => ?_, ?_, ?_⟩
  · rcases List.mem_or_eq_of_mem_set hs with m | m
    · exact h.pos s m
    · have := h.pos z (List.mem_of_getElem? hj)
      omega
  · rw [sum_set hj, h.sum]; omega
  · rw [List.length_set]; exact h.two
theorem Sizes.len {ss : List Int} {k : Int} (h : Sizes ss k) : (ss.length : Int) ≤ k := by
  have : ∀ l : List Int, (∀ s ∈ l, 1 ≤ s) → (l.length : Int) ≤ l.sum := by
    intro l
    induction l with
    | nil => intro _; exact Int.le_refl _
    | cons a r ih =>
      intro hp
      have h1 := hp a List.mem_cons_self
      have h2 := ih fun s m => hp s (List.mem_cons_of_mem _ m)
      rw [List.sum_cons, List.length_cons]
      omega
  rw [← h.sum]
  exact this ss h.pos
theorem Sizes.lt {ss : List Int} {k : Int} (h : Sizes ss k) {s : Int} (m : s ∈ ss) : s < k := by
  obtain ⟨i, hi, e⟩ := List.mem_iff_getElem.mp m
  have gen : ∀ (l : List Int) (i : Nat) (s : Int), (∀ s ∈ l, 1 ≤ s) → l[i]? = some s → s + ((l.length : Int) - 1) ≤ l.sum := by
    intro l
    induction l with
    | nil => intro i s _ e; simp at e
    | cons a r ih =>
      intro i s hp e
      have h1 := hp a List.mem_cons_self
      rw [List.sum_cons, List.length_cons]
      cases i with
      | zero =>
        have e : a = s := by simpa using e
        subst e
        have : ∀ l : List Int, (∀ s ∈ l, 1 ≤ s) → (l.length : Int) ≤ l.sum := by
          intro l
          induction l with
          | nil => intro _; exact Int.le_refl _
          | cons a r ih =>
            intro hp
            have h1 := hp a List.mem_cons_self
            have h2 := ih fun s m => hp s (List.mem_cons_of_mem _ m)
            rw [List.sum_cons, List.length_cons]
            omega
        have h2 := this r fun s m => hp s (List.mem_cons_of_mem _ m)
        omega
      | succ i =>
        have h2 := ih i s (fun s m => hp s (List.mem_cons_of_mem _ m)) (by simpa using e)
        omega
  have g := gen ss i s h.pos (by rw [List.getElem?_eq_getElem hi, e])
  have t := h.two
  rw [h.sum] at g
  omega
theorem ok__law_word (D : Def K mg "_law_word" s__law_word P__law_word) (hb : Blt mg) (G__law_draw : Fn P w K mg base "_law_draw" 1 P__law_draw sp_draw) {n : Nat} (G__law_word : Fn P w K mg base "_law_word" (n + 2) P__law_word (sp_word n)) : Fn P w K mg base "_law_word" (n + 3) P__law_word (sp_word (n + 1)) := by
  have nd := sc__law_word.nd
  refine D.ok sc__law_word (fun vs H Q E h => ?_) (fun f cdv A outer s H vs Q E hr h => ?_)
  · obtain ⟨p, k, x, rfl, _⟩ := h
    rfl
  obtain ⟨p, k, x, rfl, hB, h1, h2, h3, hx, q⟩ := h
  refine ⟨_, (pss_cons (ps_if (pt_cmpR op_eq (pv 1) pe_int (nomark _)) (pss_one (ps_ret (pe_ix ix_seq (pv 2) (pe_fn G__law_draw hr rfl (pa_cons (pv 0) (pa_cons (pe_callB call_len (by rfl) hb.b_len (by decide +kernel) (pa_cons (pv 2) pa_nil se_Name)) pa_nil se_Call) se_Name)) (fun _ _ => rfl)))) pss_nil)
    (pss_cons (ps_set (i := 3) nd rfl (Or.inl rfl) (pe_ix ix_tup (pe_tup (pa_cons pe_str (pa_cons pe_str pa_nil se_Constant) se_Constant)) (pe_fn G__law_draw hr rfl (pa_cons (pv 0) (pa_cons pe_int pa_nil se_Constant) se_Name)) (fun _ _ => rfl)) (sw_Subscript))
    (pss_cons (ps_set (i := 4) nd rfl (Or.inl rfl) (pe_lst (pa_cons pe_int (pa_cons pe_int pa_nil se_Constant) se_Constant)) (sw_List))
    (pss_cons (ps_for PassesOwn.never rfl (pi_range1 rfl hb.b_range (pa_cons (pe_op op_sub (pv 1) pe_int) pa_nil se_BinOp)) (pg_name (i := 5) nd rfl (Or.inl rfl)) (pss_cons (ps_set (i := 6) nd rfl (Or.inl rfl) (pe_fn G__law_draw hr rfl (pa_cons (pv 0) (pa_cons (pe_op op_add (pe_callB call_len (by rfl) hb.b_len (by decide +kernel) (pa_cons (pv 4) pa_nil se_Name)) pe_int) pa_nil se_BinOp) se_Name)) (sw_Call))
    (pss_one (ps_if (pt_cmpR op_eq (pv 6) (pe_callB call_len (by rfl) hb.b_len (by decide +kernel) (pa_cons (pv 4) pa_nil se_Name)) (nomark _)) (pss_one (ps_expr (pe_bm PySem.F.plainAttrs_list PySem.F.slot_list_append PySem.F.type_list_append mt_append (pv 4) (pa_cons pe_int pa_nil se_Constant)))) (pss_one (ps_augS (pv 4) (pv 6) get_list pe_int ip_add set_list))))))
    (pss_one (ps_ret (pe_op op_catT (pe_tup (pa_cons (pv 3) pa_nil se_Name)) (pe_callTy call_tuple_of (by rfl) hb.b_tuple (by decide +kernel) (pa_cons (pe_lc (own := [("_law_size", 7)]) (g := (gName 7)) (by rfl) nd (pi_list (pv 4)) (blkOk_by (own := [("_law_size", 7)]) (N := N__law_word) (sc := defScope s__law_word) (by decide +kernel)) (fun _ _ _ _ _ => (pg_name (i := 7) nd rfl (Or.inl rfl))) (fun _ _ _ _ _ => pts_nil) (fun _ _ _ _ _  => (pe_fn G__law_word hr rfl (pa_cons (pv 0) (pa_cons (pv 7) (pa_cons (pv 2) pa_nil se_Name) se_Name) se_Name)))) pa_nil se_ListComp))))))))), ?_⟩
  refine ⟨_, rfl, rfl, _, rfl, ?_⟩
  refine ite2 (fun c => ?_) (fun c => ?_)
  · have c' : V.int (k : Int) = V.int 1 := of_decide_eq_true c
    have k1 : k = 1 := by injection c' with c'; omega
    subst k1
    obtain ⟨x0, x1, x2⟩ := hx
    have xl : x.cps.toList.length = x.length := by show x.cps.toList.length = x.cps.size; rw [Array.length_toList]
    refine ⟨_, rfl, _, rfl, _, rfl, _, _, rfl, ⟨small (by omega), rfl⟩, p, _, rfl, hB, by omega, by omega, fun r H1 d r0 r1 => ?_⟩
    have hi : r.toNat < x.cps.toList.length := by omega
    refine .inr (.inr ⟨x, r, x.cps.toList[r.toNat], rfl, rfl, small (by omega), at_nat r0 (List.getElem?_eq_getElem hi), ?_⟩)
    have hm := x2 _ (List.getElem_mem hi)
    exact q _ (.letter x.cps.toList[r.toNat]) H1 d rfl hm rfl (List.getElem_mem hi)
  · have k2 : 2 ≤ k := by
      have c' : ¬ V.int (k : Int) = V.int 1 := of_decide_eq_false (Bool.eq_false_iff.mpr c)
      have : ¬ k = 1 := fun e => c' (by rw [e]; rfl)
      omega
    refine ⟨small (by show 2 ≤ 1000; decide), fun t ht => ?_⟩
    have st := same_new ht (.tup [.str "up", .str "down"])
    refine ⟨_, rfl, p, 2, rfl, hB.same st, by decide, by decide, fun r H1 d r0 r1 => ?_⟩
    have tp : t ≠ p := by
      obtain ⟨ys, e⟩ := hB.was
      exact (ne_of_none e ht).symm
    have dH1 : Drawn p H H1 := (Same.drawn st hB).trans d
    have ht1 : H1 t = some (.tup [.str "up", .str "down"]) := d.keep _ _ tp upd_same
    obtain ⟨u, hu⟩ : ∃ u : Bool, atI ([.str "up", .str "down"] : List V) r = some (.str (deedS u)) := by
      have : r = 0 ∨ r = 1 := by omega
      rcases this with rfl | rfl
      · exact ⟨true, at0 _ _⟩
      · exact ⟨false, atI_nat (j := 1) rfl⟩
    refine ⟨t, _, _, _, rfl, rfl, SqT.of ht1, hu, ?_⟩
    refine ⟨small (by show 2 ≤ 1000; decide), fun z hz => ?_⟩
    have hz0 : H z = none := by
      cases e : H z with
      | none => rfl
      | some o =>
        by_cases ez : z = p
        · subst ez
          obtain ⟨_, _, _, e2, _⟩ := dH1.bag
          rw [hz] at e2; cases e2
        · rw [dH1.keep _ _ ez e] at hz; cases hz
    have zp : z ≠ p := by
      obtain ⟨ys, e⟩ := hB.was
      exact (ne_of_none e hz0).symm
    refine set_c ?_
    refine seq (fun σ' H' => ∃ (ss : List Int) (a b : Option V), Drawn p H H' ∧ H' z = some (.lst (ss.map V.int)) ∧ Sizes ss k ∧ σ' = [some (.ref p), some (.int k), some (.str x), some (.str (deedS u)), some (.ref z), a, b, none]) (fun C hC => ?_) ?_
    · refine ⟨_, rfl, _, _, rfl, rfl, _, rfl, by omega, by omega, ?_⟩
      refine for_range (lo := 0) (n := ((k : Int) - 2).toNat) (fun i σ' H' => ∃ (ss : List Int) (a b : Option V), Drawn p H H' ∧ H' z = some (.lst (ss.map V.int)) ∧ Sizes ss (2 + i) ∧ σ' = [some (.ref p), some (.int k), some (.str x), some (.str (deedS u)), some (.ref z), a, b, none]) ?_ ?_ ?_
      · exact ⟨[1, 1], none, none, dH1.upd hz0, upd_same, ⟨by decide, by decide, by decide⟩, rfl⟩
      · rintro i σ' H' hi ⟨ss, a, b, d2, hz2, hs, rfl⟩
        have hl : (ss.map V.int).length = ss.length := List.length_map _
        have hlen := hs.len
        have h2s := hs.two
        refine ⟨_, rfl, _, rfl, _, _, rfl, .inl ⟨_, SqL.of hz2, rfl⟩, _, _, rfl, rfl, p, _, rfl, d2.bag, by omega, by omega, fun r2 H3 d3 r20 r21 => ?_⟩
        have hz3 : H3 z = some (.lst (ss.map V.int)) := d3.keep _ _ zp hz2
        have d03 := d2.trans d3
        refine ⟨_, rfl, _, rfl, _, _, rfl, .inl ⟨_, SqL.of hz3, rfl⟩, rfl, _, rfl, ?_⟩
        refine ite2 (fun c => ?_) (fun c => ?_)
        · refine ⟨_, rfl, .inl ⟨rfl, _, SqL.of hz3⟩, z, _, _, rfl, rfl, hz3, szl (by rw [hl]; omega), ?_⟩
          exact ⟨ss ++ [1], _, _, d03.upd hz0, by rw [upd_same, List.map_append]; rfl, by have e := hs.app; rw [show (2 : Int) + ((i + 1 : Nat) : Int) = 2 + (i : Int) + 1 by omega]; exact e, rfl⟩
        · have c' : ¬ V.int r2 = V.int (((ss.map V.int).length : Nat) : Int) := of_decide_eq_false (Bool.eq_false_iff.mpr c)
          have hr : r2 < (ss.length : Int) := by
            have : ¬ r2 = (ss.length : Int) := fun e => c' (by rw [e, hl])
            rw [hl] at r21
            omega
          have hj : r2.toNat < ss.length := by omega
          have ej : ss[r2.toNat]? = some ss[r2.toNat] := List.getElem?_eq_getElem hj
          have ea : atI (ss.map V.int) r2 = some (.int ss[r2.toNat]) := at_nat r20 (by rw [List.getElem?_map, ej]; rfl)
          have ei : ixN (ss.map V.int).length r2 = some r2.toNat := by
            unfold ixN
            rw [hl, if_pos r20, if_pos hr]
          refine ⟨_, rfl, _, rfl, z, _, _, _, rfl, rfl, SqL.of hz3, ea, _, _, rfl, rfl, z, _, _, _, rfl, rfl, hz3, ei, ?_⟩
          exact ⟨ss.set r2.toNat (ss[r2.toNat] + 1), _, _, d03.upd hz0, by rw [upd_same, List.map_set], by have e := hs.inc ej; rw [show (2 : Int) + ((i + 1 : Nat) : Int) = 2 + (i : Int) + 1 by omega]; exact e, rfl⟩
      · rintro σ' H' ⟨ss, a, b, d2, hz2, hs, rfl⟩
        refine hC _ _ ⟨ss, a, b, d2, hz2, ?_, rfl⟩
        rw [show (k : Int) = 2 + ((((k : Int) - 2).toNat : Nat) : Int) by omega]
        exact hs
    · rintro σ' H' ⟨ss, a, b, d2, hz2, hs, rfl⟩
      have hl : (ss.map V.int).length = ss.length := List.length_map _
      have hlen := hs.len
      have h2s := hs.two
      refine ⟨_, rfl, small (by show 1 ≤ 1000; decide), fun g hg => ?_⟩
      have sg := same_new hg (.tup [.str (deedS u)])
      have dg := d2.same sg
      refine ⟨_, rfl, z, rfl, ⟨_, SqL.of (sg _ _ hz2)⟩, fun D hD => ?_⟩
      refine lc_drawn (p := p) dg.bag (SqL.of (sg _ _ hz2)) zp hD (by rw [hl]; omega) (fun i y H => ∃ (w : Wd) (s : Int), ss[i]? = some s ∧ WAt H w y ∧ w.ok ∧ (w.places : Int) = s ∧ w.lin x.cps.toList) (fun i y H H' k h => ?_) (fun i y H' C ey s' hC => ?_) (fun x => rfl) (fun H2 acc s2 hacc hl2 hR => ?_)
      · obtain ⟨w, s, e1, e2, e3⟩ := h
        exact ⟨w, s, e1, WAt.mono k _ _ e2, e3⟩
      · rw [List.getElem?_map] at ey
        obtain ⟨s, es, rfl⟩ := Option.map_eq_some_iff.mp ey
        have hm := List.mem_of_getElem? es
        have s1 := hs.pos s hm
        have s2 := hs.lt hm
        refine ⟨_, rfl, _, rfl, _, rfl, p, s.toNat, x, ?_, s'.bag, by omega, by omega, by omega, hx, fun v w H'' d'' hw ho hp hli => ?_⟩
        · rw [show ((s.toNat : Nat) : Int) = s by omega]; rfl
        · exact hC v H'' d'' ⟨w, s, es, hw, ho, by omega, hli⟩
      · refine ⟨D, acc, rfl, .inl ⟨SqL.of hacc, fun l hl3 => ?_⟩⟩
        have gp : g ≠ p := by
          obtain ⟨_, _, _, e, _⟩ := d2.bag
          exact (ne_of_none e hg).symm
        have hg2 : H2 g = some (.tup [.str (deedS u)]) := s2.keep _ _ gp upd_same
        have sl := same_new hl3 (.tup acc)
        refine ⟨g, l, _, _, rfl, rfl, SqT.of (sl _ _ hg2), SqT.of upd_same, by simp, small (by rw [hl2, hl]; show 1 + ss.length ≤ 1000; omega), fun e => ?_, fun _ o ho2 => ?_⟩
        · rw [e, hl] at hl2
          have : 0 = ss.length := hl2
          omega
        · have dfin : Drawn p H (upd (upd H2 l (.tup acc)) o (.tup ([.str (deedS u)] ++ acc))) := (((dg.trans s2).same sl).same (same_new ho2 _))
          obtain ⟨ws, hws, hwl⟩ : ∃ ws : List Wd, WAts H2 ws acc ∧ ws.length = acc.length ∧ okL ws ∧ (placesL ws : Int) = ss.sum ∧ linL x.cps.toList ws := by
            have gen : ∀ (acc : List V) (ss : List Int), acc.length = ss.length → (∀ (i : Nat) (y : V), acc[i]? = some y → ∃ (w : Wd) (s : Int), ss[i]? = some s ∧ WAt H2 w y ∧ w.ok ∧ (w.places : Int) = s ∧ w.lin x.cps.toList) →
                ∃ ws : List Wd, WAts H2 ws acc ∧ ws.length = acc.length ∧ okL ws ∧ (placesL ws : Int) = ss.sum ∧ linL x.cps.toList ws := by
              intro acc
              induction acc with
              | nil =>
                intro ss hl _
                have e : ss = [] := List.length_eq_zero_iff.mp hl.symm
                subst e
                exact ⟨[], rfl, rfl, trivial, rfl, trivial⟩
              | cons v r ih =>
                intro ss hl h
                match ss, hl, h with
                | s :: ss', hl, h =>
                  obtain ⟨w, s', e1, e2, e3, e4, e5⟩ := h 0 v rfl
                  have e1 : s = s' := by simpa using e1
                  subst e1
                  obtain ⟨ws, a1, a2, a3, a4, a5⟩ := ih ss' (by simpa using hl) fun i y ey => by
                    obtain ⟨w', s'', b1, b2⟩ := h (i + 1) y (by simpa using ey)
                    exact ⟨w', s'', by simpa using b1, b2⟩
                  refine ⟨w :: ws, ⟨v, r, rfl, e2, a1⟩, by rw [List.length_cons, List.length_cons, a2], ⟨e3, a3⟩, ?_, ⟨e5, a5⟩⟩
                  show ((w.places + placesL ws : Nat) : Int) = (s :: ss').sum
                  rw [List.sum_cons, ← a4, ← e4]
                  omega
            exact gen acc ss (by rw [hl2, hl]) hR
          obtain ⟨hwl, hok, hpl, hli⟩ := hwl
          refine q _ (.node u ws) _ dfin ?_ ⟨by rw [hwl, hl2, hl]; exact h2s, hok⟩ ?_ hli
          · exact ⟨o, acc, rfl, upd_same, WAts.mono ((KT.of sl).trans (KT.new ho2)) _ _ hws⟩
          · show placesL ws = k
            rw [hs.sum] at hpl
            omega
theorem ok__law_places (D : Def K mg "_law_places" s__law_places P__law_places) (G__law_draw : Fn P w K mg base "_law_draw" 1 P__law_draw sp_draw) : Fn P w K mg base "_law_places" 2 P__law_places sp_places := by
  have nd := sc__law_places.nd
  refine D.ok sc__law_places (fun vs H Q E h => ?_) (fun f cdv A outer s H vs Q E hr h => ?_)
  · obtain ⟨p, rfl, _⟩ := h
    rfl
  obtain ⟨p, rfl, hB, q⟩ := h
  refine ⟨_, (pss_cons (ps_if (pt_cmpR op_eq (pe_fn G__law_draw hr rfl (pa_cons (pv 0) (pa_cons pe_int pa_nil se_Constant) se_Name)) pe_int (nomark _)) (pss_one (ps_ret (pe_op op_add pe_int (pe_fn G__law_draw hr rfl (pa_cons (pv 0) (pa_cons pe_int pa_nil se_Constant) se_Name))))) pss_nil)
    (pss_one (ps_ret (pe_op op_add pe_int (pe_fn G__law_draw hr rfl (pa_cons (pv 0) (pa_cons pe_int pa_nil se_Constant) se_Name)))))), ?_⟩
  refine ⟨_, rfl, p, 6, rfl, hB, by decide, by decide, fun r H1 d h0 h1 => ?_⟩
  refine ⟨rfl, _, rfl, ?_⟩
  refine ite2 (fun _ => ?_) (fun _ => ?_)
  · exact ⟨_, rfl, p, 3, rfl, d.bag, by decide, by decide, fun r2 H2 d2 h2 h3 => ⟨_, _, rfl, rfl, q _ _ (d.trans d2) (by omega) (by omega)⟩⟩
  · exact ⟨_, rfl, p, 9, rfl, d.bag, by decide, by decide, fun r2 H2 d2 h2 h3 => ⟨_, _, rfl, rfl, q _ _ (d.trans d2) (by omega) (by omega)⟩⟩
theorem ok__law_text (D : Def K mg "_law_text" s__law_text P__law_text) (hb : Blt mg) {n : Nat} (G__law_text : Fn P w K mg base "_law_text" (n + 1) P__law_text (sp_text n)) : Fn P w K mg base "_law_text" (n + 2) P__law_text (sp_text (n + 1)) := by
  have nd := sc__law_text.nd
  refine D.ok sc__law_text (fun vs H Q E h => ?_) (fun f cdv A outer s H vs Q E hr h => ?_)
  · obtain ⟨v, x, rfl, _⟩ := h
    rfl
  obtain ⟨v, x, rfl, hv, ho, hp, hd, q⟩ := h
  refine ⟨_, (pss_cons (ps_if (pt_val (pe_callB cr_isi (by rfl) hb.b_isinstance (by decide +kernel) (pa_cons (pv 0) (pa_cons (pe_tyn (T := "str") rfl hb.b_str (by decide +kernel)) pa_nil se_Name) se_Name))) (pss_one (ps_ret (pv 0))) pss_nil)
    (pss_cons (ps_set (i := 1) nd rfl (Or.inl rfl) (pe_ifExp (pt_cmpR op_eq (pe_ix ix_seq (pv 0) pe_int (fun _ _ => rfl)) pe_str (nomark _)) pe_str pe_str) (sw_IfExp))
    (pss_one (ps_ret (pe_op op_add_str (pe_op op_add_str pe_str (pe_join (pv 1) (pe_lc (own := [("_law_arm", 2)]) (g := (gName 2)) (by rfl) nd (pi_tup (pe_slice sl_tup (pv 0) (po_some pe_int) po_none)) (blkOk_by (own := [("_law_arm", 2)]) (N := N__law_text) (sc := defScope s__law_text) (by decide +kernel)) (fun _ _ _ _ _ => (pg_name (i := 2) nd rfl (Or.inl rfl))) (fun _ _ _ _ _ => pts_nil) (fun _ _ _ _ _  => (pe_fn G__law_text hr rfl (pa_cons (pv 2) pa_nil se_Name)))))) pe_str))))), ?_⟩
  refine ⟨_, rfl, _, _, _, _, rfl, WAt.tyof hv, kit_isL K x, _, rfl, ?_⟩
  cases x with
  | letter c =>
    unfold WAt at hv
    subst hv
    exact iteT ⟨_, rfl, q H (Same.refl H)⟩
  | node u ws =>
    refine iteF ?_
    unfold WAt at hv
    obtain ⟨a, vs, rfl, ha, hvs⟩ := hv
    have hlen := WAts.length ws vs hvs
    have hpl := placesL_len ws ho.2
    have hp' : placesL ws ≤ 10000 := hp
    refine ⟨_, rfl, .inr (.inl ⟨a, _, _, _, rfl, rfl, SqT.of ha, at0 _ _, ?_⟩)⟩
    refine ⟨rfl, _, rfl, ?_⟩
    have key : ∀ g : V, g = .str (sepS u) → (tRet (tOp (fun x y H Q => ∃ i j, x = .str i ∧ y = .str j ∧ i.length + j.length ≤ sizeLine ∧ Q (.str (i ++ j)) H) (tOp (fun x y H Q => ∃ i j, x = .str i ∧ y = .str j ∧ i.length + j.length ≤ sizeLine ∧ Q (.str (i ++ j)) H) (tC (.str "(")) (tM1 (fun x xs H Q => ∃ a p, ∃ ys : List Str, x = .str a ∧ xs = [.ref p] ∧ (SqL K H p (ys.map V.str) ∨ SqT K H p (ys.map V.str)) ∧
        (ys.map (·.length)).sum + ys.length * a.length ≤ 16777216 ∧ Q (.str (Txt.join a ys)) H) (tVar 1) (tLc (iTup K (tSl (rSlT K) (tVar 0) (tPart (tC (.int 1))) tNoPart)) (gName 2) tYes (tCall (sp_text n) [] E0 (tCons (tVar 2) tNil)) [2]))) (tC (.str ")"))))
        { nx := fun _ H' => Q .non H', rt := Q } [some (.ref a), some g, none] H := by
      intro g eg
      refine ⟨_, rfl, ⟨_, eg⟩, ?_⟩
      refine ⟨_, rfl, _, rfl, a, _, rfl, SqT.of ha, nw_from (by decide) (by simp) _, fun b hb => ?_⟩
      rw [cut1]
      have sb := same_new hb (.tup vs)
      have hb2 : upd H b (.tup vs) b = some (.tup vs) := upd_same
      refine ⟨b, rfl, ⟨_, SqT.of hb2⟩, fun D hD => ?_⟩
      refine lc_each (SqT.of hb2) hD (by omega) (fun i y _ => ∃ z, ws[i]? = some z ∧ y = .str z.text) (fun _ _ _ _ _ h => h) (fun i x H' C ex s' hC => ?_) (fun x => rfl) (fun H2 acc s2 hacc hl2 hR => ?_)
      · obtain ⟨z, hz, hw⟩ := WAts.get ws vs i x hvs ex
        have hm := List.mem_of_getElem? hz
        have hdz := depthL_mem hm
        have hd' : depthL ws + 1 < n + 1 := hd
        exact ⟨_, rfl, x, z, rfl, WAt.mono (KT.of (sb.trans s')) z x hw, okL_mem ho.2 z hm, Nat.le_trans (placesL_mem hm) hp', by omega, fun H'' s'' => hC _ H'' s'' ⟨z, hz, rfl⟩⟩
      · have e : acc = (textL ws).map V.str := by
          rw [textL_map, List.map_map]
          exact get_map (by omega) fun i y ey => by
            obtain ⟨z, hz, e⟩ := hR i y ey
            exact ⟨z, hz, e⟩
        subst e
        have tl := textL_len ho.2
        have jl : (Txt.join (sepS u) (textL ws)).length ≤ 40000 := Nat.le_trans (join_len _ _ (sep_len u)) (by omega)
        have l1 : ("(" : Str).length = 1 := by decide +kernel
        have l2 : (")" : Str).length = 1 := by decide +kernel
        have l3 : (("(" : Str) ++ Txt.join (sepS u) (textL ws)).length ≤ 40001 := by
          show (("(" : Str).cps ++ (Txt.join (sepS u) (textL ws)).cps).size ≤ _
          rw [Array.size_append]
          have : ("(" : Str).cps.size = 1 := l1
          have : (Txt.join (sepS u) (textL ws)).cps.size ≤ 40000 := jl
          omega
        exact ⟨_, D, textL ws, eg, rfl, .inl (SqL.of hacc), by rw [sep_len]; omega, _, _, rfl, rfl, sz (by omega), _, _, rfl, rfl, sz (by omega), q H2 (sb.trans s2)⟩
    cases u with
    | true => exact key _ rfl
    | false => exact key _ rfl
theorem ok__law_signs (D : Def K mg "_law_signs" s__law_signs P__law_signs) {n : Nat} (G__law_text : Fn P w K mg base "_law_text" (n + 1) P__law_text (sp_text n)) : Fn P w K mg base "_law_signs" (n + 2) P__law_signs (sp_signs n) := by
  have nd := sc__law_signs.nd
  refine D.ok sc__law_signs (fun vs H Q E h => ?_) (fun f cdv A outer s H vs Q E hr h => ?_)
  · obtain ⟨v, x, rfl, _⟩ := h
    rfl
  obtain ⟨v, x, rfl, hv, ho, hp, hd, q⟩ := h
  refine ⟨_, (pss_one (ps_ret (pe_lc (own := [("_law_sign", 1)]) (g := (gName 1)) (by rfl) nd (pi_str (pe_fn G__law_text hr rfl (pa_cons (pv 0) pa_nil se_Name))) (blkOk_by (own := [("_law_sign", 1)]) (N := N__law_signs) (sc := defScope s__law_signs) (by decide +kernel)) (fun _ _ _ _ _ => (pg_name (i := 1) nd rfl (Or.inl rfl))) (fun _ _ _ _ _ => (pts_one (pt_chain op_le_str op_le_str pe_str (pv 1) pe_str))) (fun _ _ _ _ _  => (pv 1))))), ?_⟩
  refine ⟨_, rfl, v, x, rfl, hv, ho, by omega, hd, fun H1 s1 => ?_⟩
  refine ⟨x.text, rfl, fun D hD => ?_⟩
  have tc := text_codes x ho
  have cl := codes_len x ho
  refine lc_txt (fun i H' => Same H1 H' ∧ H' D = some (.lst ((((x.codes.take i).filter isC).map sgn).map V.str))) ⟨same_new hD _, upd_same⟩ (fun i c H' ec h => ?_) (fun H' h => ?_)
  · rw [tc] at ec
    obtain ⟨s2, hDl⟩ := h
    refine ⟨rfl, ?_⟩
    have tk : x.codes.take (i + 1) = x.codes.take i ++ [c] := by rw [List.take_add_one, ec]; rfl
    have li : i < x.codes.length := (List.getElem?_eq_some_iff.mp ec).1
    have yes : isC c = true → ∃ acc, H' D = some (.lst acc) ∧ acc.length < sizeLine ∧ Same H1 (upd H' D (.lst (acc ++ [V.str (sgn c)]))) ∧ upd H' D (.lst (acc ++ [V.str (sgn c)])) D = some (.lst ((((x.codes.take (i + 1)).filter isC).map sgn).map V.str)) := fun hc => by
      refine ⟨_, hDl, ?_, fun a o h => ?_, ?_⟩
      · have fl := List.length_filter_le isC (x.codes.take i)
        have tl := List.length_take_le i x.codes
        exact szl (by rw [List.length_map, List.length_map]; omega)
      · rw [upd_ne (ne_of_none h hD)]; exact s2 a o h
      · rw [upd_same, tk, List.filter_append, List.filter_cons_of_pos hc, List.map_append, List.map_append]; rfl
    have no : isC c = false → Same H1 H' ∧ H' D = some (.lst ((((x.codes.take (i + 1)).filter isC).map sgn).map V.str)) := fun hc => by
      refine ⟨s2, ?_⟩
      rw [hDl, tk, List.filter_append, List.filter_cons_of_neg (by rw [hc]; decide)]
      show _ = some (HO.lst ((((x.codes.take i).filter isC ++ []).map sgn).map V.str))
      rw [List.append_nil]
    refine ⟨_, rfl, _, _, rfl, rfl, _, rfl, ?_⟩
    rw [ge_a]
    by_cases h1 : 97 ≤ c
    · rw [decide_eq_true h1]
      refine iteT ⟨_, _, rfl, rfl, _, rfl, ?_⟩
      rw [le_z]
      have e : isC c = decide (c ≤ 122) := by unfold isC; rw [decide_eq_true h1, Bool.true_and]
      rw [← e]
      cases hc : isC c with
      | true => exact iteT ⟨_, rfl, yes hc⟩
      | false => exact iteF (no hc)
    · rw [decide_eq_false h1]
      refine iteF ⟨_, rfl, iteF (no ?_)⟩
      unfold isC; rw [decide_eq_false h1]; rfl
  · rw [tc, List.take_length, codes_lets x ho] at h
    exact q D H' (s1.trans h.1) (none_of s1 hD) h.2
theorem abc26 : Lets "abcdefghijklmnopqrstuvwxyz" := ⟨by decide +kernel, by decide +kernel, by decide +kernel⟩
theorem abc7 : Lets "abcdefz" := ⟨by decide +kernel, by decide +kernel, by decide +kernel⟩
theorem ok__law_choice (D : Def K mg "_law_choice" s__law_choice P__law_choice) (hb : Blt mg) (G__law_draw : Fn P w K mg base "_law_draw" 1 P__law_draw sp_draw) {n : Nat} (G__law_word : Fn P w K mg base "_law_word" (n + 2) P__law_word (sp_word n)) : Fn P w K mg base "_law_choice" (n + 3) P__law_choice (sp_choice K n) := by
  have nd := sc__law_choice.nd
  refine D.ok sc__law_choice (fun vs H Q E h => ?_) (fun f cdv A outer s H vs Q E hr h => ?_)
  · obtain ⟨p, l, xs, m, rfl, _⟩ := h
    rfl
  obtain ⟨p, l, xs, m, rfl, hB, lp, hS, hxl, hxs, h1, h2, h3, q⟩ := h
  refine ⟨_, (pss_cons (ps_set (i := 3) nd rfl (Or.inl rfl) (pe_lst pa_nil) (sw_List))
    (pss_cons (ps_set (i := 4) nd rfl (Or.inl rfl) (pe_op op_cat (pe_callTy call_list_of (by rfl) hb.b_list (by decide +kernel) (pa_cons (pv 1) pa_nil se_Name)) (pe_lst (pa_cons (pe_ix ix_str pe_str (pe_fn G__law_draw hr rfl (pa_cons (pv 0) (pa_cons pe_int pa_nil se_Constant) se_Name)) (fun _ _ => rfl)) pa_nil se_Subscript))) (sw_BinOp))
    (pss_cons (ps_for PassesOwn.never rfl (pi_list (pe_sortset rfl rfl hb.b_sorted rfl hb.b_set (pv 4))) (pg_name (i := 5) nd rfl (Or.inl rfl)) (pss_one (ps_if (pt_cmpR op_gt (pe_fn G__law_draw hr rfl (pa_cons (pv 0) (pa_cons pe_int pa_nil se_Constant) se_Name)) pe_int (nomark _)) (pss_one (ps_expr (pe_bm PySem.F.plainAttrs_list PySem.F.slot_list_append PySem.F.type_list_append mt_append (pv 3) (pa_cons (pe_tup (pa_cons (pv 5) (pa_cons (pe_fn G__law_word hr rfl (pa_cons (pv 0) (pa_cons (pe_op op_add pe_int (pe_fn G__law_draw hr rfl (pa_cons (pv 0) (pa_cons (pv 2) pa_nil se_Name) se_Name))) (pa_cons pe_str pa_nil se_Constant) se_BinOp) se_Name)) pa_nil se_Call) se_Name)) pa_nil se_Tuple)))) pss_nil)))
    (pss_one (ps_ret (pe_callTy call_tuple_of (by rfl) hb.b_tuple (by decide +kernel) (pa_cons (pv 3) pa_nil se_Name))))))), ?_⟩
  refine ⟨small (by show 0 ≤ 1000; decide), fun F hF => ?_⟩
  refine set_c ?_
  have sF := same_new hF (.lst [])
  have nep : ∀ {c : Addr}, H c = none → c ≠ p := fun {c} hc => by
    obtain ⟨ys, e⟩ := hB.was
    exact (ne_of_none e hc).symm
  have Fp := nep hF
  refine set_ ?_
  refine ⟨_, rfl, l, _, rfl, .inl (sF.seq hS), fun l2 hl2 => ?_⟩
  have sl2 := sF.trans (same_new hl2 (.lst (xs.map V.str)))
  refine ⟨_, rfl, p, 26, rfl, hB.same sl2, by decide, by decide, fun r H1 d r0 r1 => ?_⟩
  have d1 : Drawn p H H1 := (Same.drawn sl2 hB).trans d
  obtain ⟨a0, a1, a2⟩ := abc26
  have al : ("abcdefghijklmnopqrstuvwxyz" : Str).cps.toList.length = 26 := by decide +kernel
  have hi : r.toNat < ("abcdefghijklmnopqrstuvwxyz" : Str).cps.toList.length := by omega
  generalize hc0 : ("abcdefghijklmnopqrstuvwxyz" : Str).cps.toList[r.toNat] = c0
  have hc1 : 97 ≤ c0 ∧ c0 ≤ 122 := by rw [← hc0]; exact a2 _ (List.getElem_mem hi)
  refine ⟨_, r, c0, rfl, rfl, small (by omega), at_nat r0 (by rw [← hc0]; exact List.getElem?_eq_getElem hi), ?_⟩
  have hF1 : H1 F = some (.lst []) := d.keep F _ Fp (same_new hl2 _ _ _ upd_same)
  have l2p : l2 ≠ p := nep (none_of sF hl2)
  have hl21 : H1 l2 = some (.lst (xs.map V.str)) := d.keep _ _ l2p upd_same
  refine ⟨small (by show 1 ≤ 1000; decide), fun z hz => ?_⟩
  have sz1 := same_new hz (.lst [.str (sgn c0)])
  refine ⟨l2, z, _, _, rfl, rfl, sz1 _ _ hl21, upd_same, sz (by rw [List.length_map]; show xs.length + 1 ≤ _; omega), fun c hc => ?_⟩
  have sc := sz1.trans (same_new hc (.lst (xs.map V.str ++ [.str (sgn c0)])))
  refine seq (fun σ' H' => ∃ (rs : List (Nat × Wd)) (us : List V) (x5 : Option V), Drawn p H H' ∧ H' F = some (.lst us) ∧ RowL H' rs us ∧ GoodR m (m - 1) rs ∧ σ' = [some (.ref p), some (.ref l), some (.int m), some (.ref F), some (.ref c), x5]) (fun C hC => ?_) ?_
  · refine ⟨_, rfl, c, xs ++ [sgn c0], rfl, by rw [List.map_append]; exact SqL.of upd_same, by rw [List.length_append]; show xs.length + 1 ≤ 4000; omega, fun ys so hso ndy memy hson => ?_⟩
    have sso := sc.trans (same_new hson (.lst (ys.map V.str)))
    have hF2 := sso _ _ hF1
    have d2 := d1.same sso
    have soF : so ≠ F := fun e => by rw [e] at hson; cases (sc _ _ hF1).symm.trans hson
    have sop : so ≠ p := fun e => by
      obtain ⟨_, _, _, e2, _⟩ := d1.bag
      rw [e] at hson; cases (sc _ _ e2).symm.trans hson
    have ylet : ∀ y ∈ ys, ∃ c, y = sgn c ∧ 97 ≤ c ∧ c ≤ 122 := fun y my => by
      rcases List.mem_append.mp ((memy y).mp my) with h | h
      · exact hxs y h
      · exact ⟨c0, List.mem_singleton.mp h, hc1⟩
    have ylen : ys.length ≤ 2001 := by
      have := List.Nodup.length_le_of_subset ndy fun y my => (memy y).mp my
      rw [List.length_append] at this
      have e : [sgn c0].length = 1 := rfl
      omega
    refine ⟨so, rfl, ⟨_, SqL.of upd_same⟩, ?_⟩
    refine for_list (K := K) (xs := ys.map V.str) (fun i σ' H' => ∃ (rs : List (Nat × Wd)) (us : List V) (x5 : Option V), Drawn p H H' ∧ H' so = some (.lst (ys.map V.str)) ∧ H' F = some (.lst us) ∧ RowL H' rs us ∧ (rs.map fun r => sgn r.1).Sublist (ys.take i) ∧
      (∀ r ∈ rs, (97 ≤ r.1 ∧ r.1 ≤ 122) ∧ r.2.ok ∧ r.2.places ≤ m) ∧ σ' = [some (.ref p), some (.ref l), some (.int m), some (.ref F), some (.ref c), x5])
      ⟨[], [], _, d2, upd_same, hF2, rfl, List.Sublist.refl _, fun r h => by simp at h, rfl⟩ (fun i σ' H' _ h => let ⟨_, _, _, _, h, _⟩ := h; SqL.of h) ?_ ?_
    · rintro i x σ' H' ex ⟨rs, us, x5, d3, hso3, hF3, hR, hsub, hok, rfl⟩
      rw [List.getElem?_map] at ex
      obtain ⟨y, ey, rfl⟩ := Option.map_eq_some_iff.mp ex
      obtain ⟨cy, rfl, hcy⟩ := ylet y (List.mem_of_getElem? ey)
      have e1 : ys.take (i + 1) = ys.take i ++ [sgn cy] := by rw [List.take_add_one, ey]; rfl
      have ul := hR.length
      have sl := hsub.length_le
      rw [List.length_map, List.length_take] at sl
      refine ⟨_, rfl, p, 4, rfl, d3.bag, by decide, by decide, fun r2 H4 d4 r20 r21 => ?_⟩
      have d34 := d3.trans d4
      have hso4 := d4.keep _ _ sop hso3
      have hF4 := d4.keep _ _ Fp hF3
      have hR4 := hR.mono d4.kt
      refine ⟨_, _, rfl, rfl, _, rfl, ?_⟩
      refine ite2 (fun _ => ?_) (fun _ => ?_)
      · refine ⟨_, rfl, .inl ⟨rfl, _, SqL.of hF4⟩, ?_⟩
        refine ⟨_, rfl, ?_⟩
        refine ⟨_, rfl, _, rfl, _, rfl, p, m, rfl, d4.bag, by omega, by omega, fun r3 H5 d5 r30 r31 => ?_⟩
        refine ⟨_, _, rfl, rfl, ?_⟩
        refine ⟨p, (1 + r3).toNat, _, by rw [show (((1 + r3).toNat : Nat) : Int) = 1 + r3 by omega]; rfl, d5.bag, by omega, by omega, by omega, abc7, fun v1 w1 H6 d6 hw1 ho1 hp1 _ => ?_⟩
        have d36 := (d34.trans d5).trans d6
        have hso6 := d6.keep _ _ sop (d5.keep _ _ sop hso4)
        have hF6 := d6.keep _ _ Fp (d5.keep _ _ Fp hF4)
        refine ⟨small (by show 2 ≤ 1000; decide), fun t ht => ?_⟩
        have st := same_new ht (.tup [.str (sgn cy), v1])
        refine ⟨F, us, _, rfl, rfl, st _ _ hF6, szl (by omega), ?_⟩
        have kf : KT (upd H6 t (.tup [.str (sgn cy), v1])) (upd (upd H6 t (.tup [.str (sgn cy), v1])) F (.lst (us ++ [.ref t]))) := KT.lst (st _ _ hF6)
        refine ⟨rs ++ [(cy, w1)], us ++ [.ref t], _, (d36.same st).upd hF, ?_, upd_same, ?_, ?_, fun r mr => ?_, rfl⟩
        · rw [upd_ne soF]; exact st _ _ hso6
        · refine RowL.snoc ⟨t, v1, rfl, kf _ _ upd_same, WAt.mono ((KT.of st).trans kf) _ _ hw1⟩ (hR4.mono (((d5.trans d6).kt.trans (KT.of st)).trans kf))
        · rw [e1, List.map_append]
          exact hsub.append (List.Sublist.refl _)
        · rcases List.mem_append.mp mr with mr | mr
          · exact hok r mr
          · rw [List.mem_singleton.mp mr]
            exact ⟨hcy, ho1, by show w1.places ≤ m; omega⟩
      · exact ⟨rs, us, _, d34, hso4, hF4, hR4, by rw [e1]; exact hsub.trans (List.sublist_append_left _ _), hok, rfl⟩
    · rintro σ' H' ⟨rs, us, x5, d3, hso3, hF3, hR, hsub, hok, rfl⟩
      refine hC _ _ ⟨rs, us, _, d3, hF3, hR, ⟨?_, fun r mr => ?_⟩, rfl⟩
      · have nd1 : (rs.map fun r => sgn r.1).Nodup := List.Nodup.sublist (hsub.trans (List.take_sublist _ _)) ndy
        rw [show (rs.map fun r => sgn r.1) = (rs.map (·.1)).map sgn by rw [List.map_map]; rfl] at nd1
        exact List.Pairwise.of_map sgn (fun a b h e => h (by rw [e])) nd1
      · obtain ⟨g1, g2, g3⟩ := hok r mr
        have := depth_places r.2 g2
        exact ⟨g1, g2, g3, by omega⟩
  · rintro σ' H' ⟨rs, us, x5, d3, hF3, hR, hG, rfl⟩
    refine ⟨_, rfl, F, us, rfl, .inl ⟨SqL.of hF3, fun t ht => ?_⟩⟩
    have st := same_new ht (.tup us)
    exact q _ rs _ (d3.same st) ⟨t, us, rfl, upd_same, hR.mono (KT.of st)⟩ hG
theorem ok__law_written (D : Def K mg "_law_written" s__law_written P__law_written) {n : Nat} (G__law_text : Fn P w K mg base "_law_text" (n + 1) P__law_text (sp_text n)) : Fn P w K mg base "_law_written" (n + 2) P__law_written (sp_written n) := by
  have nd := sc__law_written.nd
  refine D.ok sc__law_written (fun vs H Q E h => ?_) (fun f cdv A outer s H vs Q E hr h => ?_)
  · obtain ⟨v, x, rs, rfl, _⟩ := h
    rfl
  obtain ⟨v, x, rs, rfl, ho, hp, hR, hG, hn, q⟩ := h
  refine ⟨_, (pss_cons (ps_set (i := 2) nd rfl (Or.inr rfl) pe_dnewK (sw_Dict))
    (pss_cons (ps_for PassesOwn.never rfl (pi_tup (pv 1)) (pg_tup rfl (pgs_cons (pg_name (i := 3) nd rfl (Or.inl rfl)) (pgs_cons (pg_name (i := 4) nd rfl (Or.inl rfl)) pgs_nil))) (pss_one (ps_dput (hu_of hr) (pv 2) (pv 3) (pe_fn G__law_text hr rfl (pa_cons (pv 4) pa_nil se_Name)) rfl)))
    (pss_one (ps_ret (pe_join pe_str (pe_lc (own := [("_law_sign", 5)]) (g := (gName 5)) (by rfl) nd (pi_str (pv 0)) (blkOk_by (own := [("_law_sign", 5)]) (N := N__law_written) (sc := defScope s__law_written) (by decide +kernel)) (fun _ _ _ _ _ => (pg_name (i := 5) nd rfl (Or.inl rfl))) (fun _ _ _ _ _ => pts_nil) (fun _ _ _ _ _  => (pe_dget2 (hu_of hr) (pv 2) (pv 5) (pv 5) ⟨rfl, rfl, rfl, rfl⟩)))))))), ?_⟩
  obtain ⟨a, vs, rfl, ha, hvs⟩ := hR
  have hlen := hvs.length
  have hnd := hG.nd
  have hl := hG.few
  refine fun d hd0 => ?_
  refine set_c ?_
  have sd := same_new hd0 (.dK [])
  refine seq (fun σ' H' => ∃ x3 x4 : Option V, Same H H' ∧ H' d = some (.dK (tkv rs)) ∧ σ' = [some (.str x.text), some (.ref a), some (.ref d), x3, x4, none]) (fun C hC => ?_) ?_
  · refine ⟨_, rfl, a, rfl, ⟨_, SqT.of (sd _ _ ha)⟩, ?_⟩
    refine for_tup (K := K) (xs := vs) (fun i σ' H' => ∃ x3 x4 : Option V, Same H H' ∧ H' d = some (.dK (tkv (rs.take i))) ∧ σ' = [some (.str x.text), some (.ref a), some (.ref d), x3, x4, none]) ⟨_, _, sd, upd_same, rfl⟩ (fun i σ' H' _ h => let ⟨_, _, s, _⟩ := h; SqT.of (s _ _ ha)) ?_ ?_
    · rintro i y σ' H' ey ⟨x3, x4, s', hd', rfl⟩
      obtain ⟨r, hr1, b, u, rfl, hb, hu⟩ := hvs.get ey
      have hb' := s' _ _ hb
      obtain ⟨ra, rb, rc, rd⟩ := hG.ok r (List.mem_of_getElem? hr1)
      refine ⟨b, _, rfl, SqT.of hb', rfl, _, _, rfl, _, _, rfl, rfl, ?_⟩
      have tl : (rs.take i).length ≤ rs.length := by rw [List.length_take]; omega
      have nr : r.1 ∉ (rs.take i).map (·.1) := by
        intro m
        have e : rs.take (i + 1) = rs.take i ++ [r] := by rw [List.take_add_one, hr1]; rfl
        have nd2 : ((rs.take (i + 1)).map (·.1)).Nodup := List.Nodup.sublist (List.Sublist.map _ (List.take_sublist _ _)) hnd
        rw [e, List.map_append, List.nodup_append] at nd2
        exact nd2.2.2 _ m r.1 (by simp) rfl
      refine ⟨_, rfl, u, r.2, rfl, WAt.mono (KT.of s') _ _ hu, rb, by omega, by omega, fun H2 s2 => ?_⟩
      refine ⟨_, rfl, _, rfl, d, _, rfl, .inl ⟨_, .inr (sgn r.1), s2 _ _ hd', rfl, szl (by unfold tkv; rw [List.length_map]; omega), rfl⟩, ?_⟩
      refine ⟨_, _, fun c o h => ?_, ?_, rfl⟩
      · rw [upd_ne (ne_of_none h hd0)]; exact s2 _ _ (s' c o h)
      · rw [upd_same, tkv_snoc nr, List.take_add_one, hr1]; rfl
    · rintro σ' H' ⟨x3, x4, s', hd', rfl⟩
      rw [hlen, List.take_length] at hd'
      exact hC _ _ ⟨x3, x4, s', hd', rfl⟩
  · rintro σ' H' ⟨x3, x4, s', hd', rfl⟩
    refine ret_ ?_
    refine ⟨⟨_, rfl⟩, _, rfl, x.text, rfl, fun D hD => ?_⟩
    have tc := text_codes x ho
    have cl := codes_len x ho
    refine lc_txt (fun i H'' => Same H' H'' ∧ H'' D = some (.lst (((x.codes.take i).map (wrS (look rs))).map V.str))) ⟨same_new hD _, upd_same⟩ (fun i c H'' ec h => ?_) (fun H'' h => ?_)
    · rw [tc] at ec
      obtain ⟨s2, hDl⟩ := h
      have tk : x.codes.take (i + 1) = x.codes.take i ++ [c] := by rw [List.take_add_one, ec]; rfl
      refine ⟨rfl, ?_⟩
      unfold tYes
      dsimp only
      rw [if_pos rfl]
      have hd2 := s2 _ _ hd'
      refine ⟨_, rfl, d, rfl, (.inl ⟨_, .inl hd2⟩), _, rfl, _, rfl, _, DGet.k (k := .inr (sgn c)) hd2, ?_⟩
      have ev : (valV (tkv rs) (.inr (sgn c))).getD (.str (sgn c)) = .str (wrS (look rs) c) := by
        rw [tkv_get]
        unfold wrS
        cases look rs c <;> rfl
      refine ⟨_, hDl, szl (by rw [List.length_map, List.length_map, List.length_take]; omega), fun b o e => ?_, ?_⟩
      · rw [upd_ne (ne_of_none e hD)]; exact s2 _ _ e
      · rw [upd_same, tk, List.map_append, List.map_append]
        show some (HO.lst (_ ++ [(valV (tkv rs) (.inr (sgn c))).getD (.str (sgn c))])) = _
        rw [ev]; rfl
    · obtain ⟨s2, hDl⟩ := h
      rw [tc, List.take_length] at hDl
      refine ⟨_, D, x.codes.map (wrS (look rs)), rfl, rfl, .inl (SqL.of hDl), ?_, ?_⟩
      · exact wr_sum hG _ (by omega)
      · have := q H'' (s'.trans s2)
        rw [← put_text hG ho] at this
        exact this

def lamp_joined : Pos := ⟨137, 40, 137, 68⟩
theorem ok__law_joined {P1 c : Addr} (D : DefT K mg "_law_joined" s__law_joined P__law_joined c) (hb : Blt mg) (hk : PySem.W.codeHdIn K c P1 = true) (hbm : BM mg base) {n : Nat} (G_put_in : Fn P w K mg base "put_in" (n + 3) P_put_in (sp_put_in n)) (hn : 4 ≤ n) : Fn P w K mg base "_law_joined" (n + 4) P__law_joined (sp_joined2 P1 lamp_joined "_law_joined.<locals>.<lambda>") := by
  have nd := sc__law_joined.nd
  refine D.ok sc__law_joined (fun vs H Q E h => ?_) (fun f A outer s H vs Q E hr h => ?_)
  · obtain ⟨v1, v2, near, far, rfl, _⟩ := h
    rfl
  obtain ⟨v1, v2, near, far, rfl, h1, h2, g1, g2, hT, q⟩ := h
  refine ⟨_, (pss_cons (ps_set (i := 2) nd rfl (Or.inr rfl) (pe_lc (own := [("_law_letter", 3), ("_law_word_here", 4)]) (g := (gTup K 2 (gCons (gName 3) (gCons (gName 4) gNil)))) (by rfl) nd (pi_tup (pv 0)) (blkOk_by (own := [("_law_letter", 3), ("_law_word_here", 4)]) (N := N__law_joined) (sc := defScope s__law_joined) (by decide +kernel)) (fun _ _ _ _ _ => (pg_tup rfl (pgs_cons (pg_name (i := 3) nd rfl (Or.inl rfl)) (pgs_cons (pg_name (i := 4) nd rfl (Or.inl rfl)) pgs_nil)))) (fun _ _ _ _ _ => pts_nil) (fun _ _ _ _ _  => (pv 3))))
    (pss_cons (ps_setLc (i := 5) (own := [("_law_letter", 3), ("_law_word_here", 4)]) (g := (gTup K 2 (gCons (gName 3) (gCons (gName 4) gNil)))) (by rfl) nd rfl rfl (sw_true rfl rfl rfl (by decide +kernel)) (pi_tup (pv 0)) (blkOk_by (own := [("_law_letter", 3), ("_law_word_here", 4)]) (N := N__law_joined) (sc := defScope s__law_joined) (by decide +kernel)) (fun _ _ _ _ _ => (pg_tup rfl (pgs_cons (pg_name (i := 3) nd rfl (Or.inl rfl)) (pgs_cons (pg_name (i := 4) nd rfl (Or.inl rfl)) pgs_nil)))) (fun _ _ _ _ _ => pts_nil) (fun _ _ _ _ _  => (pe_tup (pa_cons (pv 3) (pa_cons (pe_fn G_put_in hr rfl (pa_cons (pv 4) (pa_cons (pv 1) pa_nil se_Name) se_Name)) pa_nil se_Call) se_Name))))
    (pss_cons (ps_expr (pe_bm PySem.F.plainAttrs_list PySem.F.slot_list_extend PySem.F.type_list_extend mt_extend (pv 5) (pa_cons (pe_lc (tt := (tTest (tOp (rIn K true) (tOp (rIx K) (tVar 6) (tC (.int 0))) (tVar 2)))) (own := [("_law_row", 6)]) (g := (gName 6)) (by rfl) nd (pi_tup (pv 1)) (blkOk_by (own := [("_law_row", 6)]) (N := N__law_joined) (sc := defScope s__law_joined) (by decide +kernel)) (fun _ _ _ _ _ => (pg_name (i := 6) nd rfl (Or.inl rfl))) (fun _ _ _ _ _ => (pts_one (pt_cmpR op_notIn_seq (pe_ix ix_seq (pv 6) pe_int (fun _ _ => rfl)) (pv 2) (by rfl)))) (fun _ _ _ _ _  => (pv 6))) pa_nil se_ListComp)))
    (pss_one (ps_ret (pe_callTy call_tuple_of (by rfl) hb.b_tuple (by decide +kernel) (pa_cons (pe_sortK (i := 6) nd hr (by rfl) hb.b_sorted rfl hk hbm (blkOk_by (own := [("_law_row", 6)]) (N := N__law_joined) (sc := defScope s__law_joined) (by decide +kernel)) (by decide +kernel) (by rfl) rfl rfl (fun _ _ _ _ _ _ => rfl) rfl (pv 5) (fun _ _ _ _ _ _ _ _ hr => (pe_ix (ix_seqJ (K := K) rfl) (pv 6) pe_int (fun _ _ => rfl)))) pa_nil se_Call))))))), ?_⟩
  obtain ⟨a1, vs1, rfl, ha1, hv1⟩ := id h1
  obtain ⟨a2, vs2, rfl, ha2, hv2⟩ := id h2
  have l1 := hv1.length
  have l2 := hv2.length
  have f1 := g1.few
  have f2 := g2.few
  refine set_ ?_
  refine ⟨_, rfl, a1, rfl, ⟨_, SqT.of ha1⟩, fun D1 hD1 => ?_⟩
  refine lc_tup (K := K) (xs := vs1) (fun i H' => Same H H' ∧ H' D1 = some (.lst (((near.take i).map fun r => sgn r.1).map V.str))) ⟨same_new hD1 _, upd_same⟩ (fun i H' _ h => SqT.of (h.1 _ _ ha1)) (fun i y H' ey h => ?_) (fun H1 h => ?_)
  · obtain ⟨s', hDl⟩ := h
    obtain ⟨r, hr1, b, u, rfl, hb1, hu⟩ := hv1.get ey
    refine ⟨b, _, rfl, SqT.of (s' _ _ hb1), rfl, _, _, rfl, _, _, rfl, rfl, rfl, ?_⟩
    unfold tYes
    dsimp only
    rw [if_pos rfl]
    refine ⟨_, rfl, _, hDl, szl (by rw [List.length_map, List.length_map, List.length_take]; omega), fun b o e => ?_, ?_⟩
    · rw [upd_ne (ne_of_none e hD1)]; exact s' _ _ e
    · rw [upd_same, List.take_add_one, hr1, List.map_append, List.map_append]; rfl
  obtain ⟨s1, hL⟩ := h
  rw [l1, List.take_length] at hL
  refine set_ ?_
  refine ⟨_, rfl, a1, rfl, ⟨_, SqT.of (s1 _ _ ha1)⟩, fun D2 hD2 => ?_⟩
  refine lc_tup (K := K) (xs := vs1) (fun i H' => Same H1 H' ∧ ∃ us, H' D2 = some (.lst us) ∧ RowL H' ((near.take i).map fun r => (r.1, r.2.put (look far))) us) ⟨same_new hD2 _, [], upd_same, rfl⟩ (fun i H' _ h => SqT.of (h.1 _ _ (s1 _ _ ha1))) (fun i y H' ey h => ?_) (fun H2 h => ?_)
  · obtain ⟨s', us, hDl, hR⟩ := h
    obtain ⟨r, hr1, b, u, rfl, hb1, hu⟩ := hv1.get ey
    have s01 := s1.trans s'
    obtain ⟨ra, rb, rc, rd⟩ := g1.ok r (List.mem_of_getElem? hr1)
    refine ⟨b, _, rfl, SqT.of (s01 _ _ hb1), rfl, _, _, rfl, _, _, rfl, rfl, rfl, ?_⟩
    unfold tYes
    dsimp only
    rw [if_pos rfl]
    refine ⟨_, rfl, ⟨_, rfl, _, rfl, u, .ref a2, r.2, far, rfl, WAt.mono (KT.of s01) _ _ hu, rb, by omega, by omega, h2.mono (KT.of s01), g2.mono (by decide) (by decide), fun v' H3 s3 hw => ?_⟩⟩
    refine ⟨small (by show 2 ≤ 1000; decide), fun t ht => ?_⟩
    have st := s3.trans (same_new ht (.tup [.str (sgn r.1), v']))
    have hD3 := st _ _ hDl
    have ul := hR.length
    refine ⟨_, hD3, szl (by rw [ul, List.length_map, List.length_take]; omega), fun b o e => ?_, us ++ [.ref t], upd_same, ?_⟩
    · have nb : b ≠ D2 := ne_of_none e hD2
      rw [upd_ne nb]; exact st _ _ (s' _ _ e)
    · have kt : KT (upd H3 t (.tup [.str (sgn r.1), v'])) (upd (upd H3 t (.tup [.str (sgn r.1), v'])) D2 (.lst (us ++ [.ref t]))) := KT.lst hD3
      rw [List.take_add_one, hr1, List.map_append]
      refine RowL.snoc ?_ (RowL.mono ((KT.of st).trans kt) hR)
      exact ⟨t, v', rfl, kt _ _ upd_same, WAt.mono ((KT.of (same_new ht _)).trans kt) _ _ hw⟩
  obtain ⟨s2, us, hF, hR⟩ := h
  rw [l1, List.take_length] at hR
  have s02 := s1.trans s2
  have ul := hR.length
  rw [List.length_map] at ul
  have hL2 := s2 _ _ hL
  refine ⟨_, rfl, .inl ⟨rfl, _, SqL.of hF⟩, ?_⟩
  refine ⟨_, rfl, a2, rfl, ⟨_, SqT.of (s02 _ _ ha2)⟩, fun D3 hD3 => ?_⟩
  refine lc_tup (K := K) (xs := vs2) (fun i H' => Same H2 H' ∧ ∃ zs, H' D3 = some (.lst zs) ∧ RowL H' ((far.take i).filter fun r => decide (r.1 ∉ near.map (·.1))) zs) ⟨same_new hD3 _, [], upd_same, rfl⟩ (fun i H' _ h => SqT.of (h.1 _ _ (s02 _ _ ha2))) (fun i y H' ey h => ?_) (fun H3 h => ?_)
  · obtain ⟨s', zs, hDl, hz⟩ := h
    obtain ⟨r, hr1, b, u, rfl, hb1, hu⟩ := hv2.get ey
    have s03 := s02.trans s'
    have zl := hz.length
    refine ⟨rfl, ?_⟩
    refine ⟨_, rfl, .inr (.inl ⟨b, _, _, _, rfl, rfl, SqT.of (s03 _ _ hb1), at0 _ _, ?_⟩)⟩
    refine ⟨_, rfl, D1, _, rfl, .inl (SqL.of (s' _ _ hL2)), rfl, flat_strs _, ?_⟩
    refine ⟨_, rfl, ?_⟩
    rw [if_pos rfl, inV_rows]
    have e1 : far.take (i + 1) = far.take i ++ [r] := by rw [List.take_add_one, hr1]; rfl
    by_cases m : r.1 ∈ near.map (·.1)
    · rw [decide_eq_true m]
      refine iteF ⟨s', zs, hDl, ?_⟩
      rw [e1, List.filter_append, List.filter_cons_of_neg (by rw [decide_eq_false fun z => z m]; decide), List.filter_nil, List.append_nil]
      exact hz
    · rw [decide_eq_false m]
      refine iteT ⟨_, rfl, _, hDl, szl (by have := List.length_filter_le (fun r : Nat × Wd => decide (r.1 ∉ near.map (·.1))) (far.take i); rw [List.length_take] at this; omega), fun b o e => ?_, zs ++ [.ref b], upd_same, ?_⟩
      · rw [upd_ne (ne_of_none e hD3)]; exact s' _ _ e
      · have ef : [r].filter (fun r : Nat × Wd => decide (r.1 ∉ near.map (·.1))) = [r] := by
          rw [List.filter_cons, if_pos (decide_eq_true m)]; rfl
        rw [e1, List.filter_append, ef]
        refine RowL.snoc ?_ (RowL.mono (KT.lst hDl) hz)
        exact RowAt.mono ((KT.of s03).trans (KT.lst hDl)) ⟨b, u, rfl, hb1, hu⟩
  obtain ⟨s3, zs, hZ, hz⟩ := h
  rw [l2, List.take_length] at hz
  have zl := hz.length
  have zl2 := List.length_filter_le (fun r : Nat × Wd => decide (r.1 ∉ near.map (·.1))) far
  have hF3 := s3 _ _ hF
  refine ⟨D2, D3, us, zs, rfl, rfl, hF3, hZ, sz (by omega), ?_⟩
  have kD : KT H3 (upd H3 D2 (.lst (us ++ zs))) := KT.lst hF3
  have hRJ : RowL (upd H3 D2 (.lst (us ++ zs))) (joinR near far) (us ++ zs) := by
    have : ∀ {rs1 rs2 : List (Nat × Wd)} {v1 v2 : List V} {H : Hp}, RowL H rs1 v1 → RowL H rs2 v2 → RowL H (rs1 ++ rs2) (v1 ++ v2) := by
      intro rs1
      induction rs1 with
      | nil => intro rs2 v1 v2 H h1 h2; rw [show v1 = [] from h1]; exact h2
      | cons r rs1 ih =>
        rintro rs2 _ v2 H ⟨v, vs', rfl, h1, h2⟩ h3
        exact ⟨v, vs' ++ v2, rfl, h1, ih h2 h3⟩
    exact this (RowL.mono ((KT.of s3).trans kD) hR) (RowL.mono kD hz)
  have s4 : Same H (upd H3 D2 (.lst (us ++ zs))) := fun b o e => by
    have nb : b ≠ D2 := ne_of_none (s1 _ _ e) hD2
    rw [upd_ne nb]; exact s3 _ _ (s02 _ _ e)
  have hF4 : upd H3 D2 (.lst (us ++ zs)) D2 = some (.lst (us ++ zs)) := upd_same
  generalize upd H3 D2 (.lst (us ++ zs)) = H4 at kD hRJ s4 hF4 ⊢
  have jl := hRJ.length
  refine ⟨_, rfl, D2, us ++ zs, (joinR near far).map (fun r => sgn r.1), rfl, hF4, by rw [List.length_map, jl], hT.same s4, fun H5 sp hT5 => ⟨fun j v k ev ek => ?_, fun ps D pp ps1 hD => ?_⟩⟩
  · have kt5 := sp.kt (hT.same s4)
    obtain ⟨r, er, b, u, rfl, hb1, hu⟩ := hRJ.get ev
    rw [List.getElem?_map, er] at ek
    cases ek
    exact ⟨_, rfl, .inr (.inl ⟨b, _, _, _, rfl, rfl, SqT.of (kt5 _ _ hb1), at0 _ _, rfl, rfl⟩)⟩
  · have kt5 := sp.kt (hT.same s4)
    obtain ⟨rs', pr, hR5⟩ := rowL_perm (RowL.mono kt5 hRJ) pp
    refine ⟨D, _, rfl, .inl ⟨SqL.of upd_same, fun l hl => ?_⟩⟩
    have sl := same_new hl (.tup (ps.map (·.2)))
    have sD := (same_new hD (.lst (ps.map (·.2)))).trans sl
    refine q (.ref l) rs' _ ?_ (hT5.same sD) ⟨l, ps.map (·.2), rfl, upd_same, RowL.mono (KT.of sD) hR5⟩ pr
    exact (SameP.of s4).trans (sp.trans (SameP.of sD))
abbrev qlj : Str := "_law_joined.<locals>.<lambda>"
theorem ok_law {P1 : Addr} {tf : Addr → HO} (htf : tf P1 = .ext (lamT0 P1 lamp_joined)) {f : Addr} {fd : FuncData} (F : Fun K "law" "law" s_law f fd) (hb : Blt mg) (G__law_many : Fn P w K mg base "_law_many" 1 P__law_many (sp_many K)) (G__law_bag : Fn P w K mg base "_law_bag" 1 P__law_bag (sp_bag K)) (G__law_word : Fn P w K mg base "_law_word" 14 P__law_word (sp_word 12))
    (G__law_abc : Fn P w K mg base "_law_abc" 2 P__law_abc sp_abc) (G__law_places : Fn P w K mg base "_law_places" 2 P__law_places sp_places) (G__law_signs : Fn P w K mg base "_law_signs" 26 P__law_signs (sp_signs 24)) (G__law_choice : Fn P w K mg base "_law_choice" 15 P__law_choice (sp_choice K 12))
    (G_put_in : Fn P w K mg base "put_in" 27 P_put_in (sp_put_in 24)) (G_is_word : Fn P w K mg base "is_word" 3 P_is_word sp_is_word) (G_text_of : Fn P w K mg base "text_of" 26 P_text_of (sp_text 24)) (G__law_text : Fn P w K mg base "_law_text" 25 P__law_text (sp_text 24))
    (G__law_written : Fn P w K mg base "_law_written" 26 P__law_written (sp_written 24)) (G__law_joined : Fn P w K mg base "_law_joined" 28 P__law_joined (sp_joined2 P1 lamp_joined qlj)) (G_word_turned : Fn P w K mg base "word_turned" 26 P_word_turned (sp_turn 24)) (G_parts_of : Fn P w K mg base "parts_of" 27 P_parts_of (sp_parts 24))
    (G_places_of : Fn P w K mg base "places_of" 3 P_places_of sp_nplaces) (G_letters_of : Fn P w K mg base "letters_of" 3 P_letters_of sp_letters) : FnOk P w K mg base CX0 40 f fd P_law (sp_lawL K [P1] tf) := by
  have nd := sc_law.nd
  refine F.ok sc_law (fun vs H Q E h => ?_) (fun cdv A outer s H vs Q E hr h => ?_)
  · obtain ⟨a, ns, rfl, _⟩ := h
    rfl
  obtain ⟨a, ns, rfl, hS, h63, hP, q⟩ := h
  have hT : LamT P1 lamp_joined qlj H := .inl (by rw [hP P1 (List.mem_singleton.mpr rfl), htf])
  refine ⟨_, (pss_cons (ps_for PassesOwn.never rfl (pi_list (pe_fn G__law_many hr rfl (pa_cons (pv 0) (pa_cons pe_int (pa_cons pe_int pa_nil se_Constant) se_Constant) se_Name))) (pg_name (i := 1) nd rfl (Or.inl rfl)) (pss_cons (ps_set (i := 2) nd rfl (Or.inl rfl) (pe_fn G__law_bag hr rfl (pa_cons (pv 0) (pa_cons (pv 1) pa_nil se_Name) se_Name)) (sw_Call))
    (pss_cons (ps_set (i := 3) nd rfl (Or.inl rfl) (pe_fn G__law_word hr rfl (pa_cons (pv 2) (pa_cons (pe_fn G__law_places hr rfl (pa_cons (pv 2) pa_nil se_Name)) (pa_cons (pe_fn G__law_abc hr rfl (pa_cons (pv 2) pa_nil se_Name)) pa_nil se_Call) se_Call) se_Name)) (sw_Call))
    (pss_cons (ps_set (i := 4) nd rfl (Or.inl rfl) (pe_fn G__law_choice hr rfl (pa_cons (pv 2) (pa_cons (pe_fn G__law_signs hr rfl (pa_cons (pv 3) pa_nil se_Name)) (pa_cons pe_int pa_nil se_Constant) se_Call) se_Name)) (sw_Call))
    (pss_cons (ps_set (i := 5) nd rfl (Or.inl rfl) (pe_lst pa_nil) (sw_List))
    (pss_cons (ps_for PassesOwn.never rfl (pi_tup (pv 4)) (pg_tup rfl (pgs_cons (pg_name (i := 6) nd rfl (Or.inl rfl)) (pgs_cons (pg_name (i := 7) nd rfl (Or.inl rfl)) pgs_nil))) (pss_one (ps_expr (pe_bm PySem.F.plainAttrs_list PySem.F.slot_list_extend PySem.F.type_list_extend mt_extend (pv 5) (pa_cons (pe_fn G__law_signs hr rfl (pa_cons (pv 7) pa_nil se_Name)) pa_nil se_Call)))))
    (pss_cons (ps_set (i := 8) nd rfl (Or.inl rfl) (pe_fn G__law_choice hr rfl (pa_cons (pv 2) (pa_cons (pv 5) (pa_cons pe_int pa_nil se_Constant) se_Name) se_Name)) (sw_Call))
    (pss_cons (ps_set (i := 9) nd rfl (Or.inl rfl) (pe_fn G_put_in hr rfl (pa_cons (pv 3) (pa_cons (pv 4) pa_nil se_Name) se_Name)) (sw_Call))
    (pss_cons (ps_if (PW.pt (pw_or (pt_not (pt_val (pe_fn G_is_word hr rfl (pa_cons (pv 9) pa_nil se_Name)))) (pw_or1 (pt_cmpR op_ne (pe_fn G_text_of hr rfl (pa_cons (pv 9) pa_nil se_Name)) (pe_fn G__law_written hr rfl (pa_cons (pe_fn G__law_text hr rfl (pa_cons (pv 3) pa_nil se_Name)) (pa_cons (pv 4) pa_nil se_Name) se_Call)) (nomark _))))) (pss_one (ps_ret pe_bl)) pss_nil)
    (pss_cons (ps_if (pt_cmpR (op_neD hr.units) (pe_fn G_put_in hr rfl (pa_cons (pv 9) (pa_cons (pv 8) pa_nil se_Name) se_Name)) (pe_fn G_put_in hr rfl (pa_cons (pv 3) (pa_cons (pe_fn G__law_joined hr rfl (pa_cons (pv 4) (pa_cons (pv 8) pa_nil se_Name) se_Name)) pa_nil se_Call) se_Name)) (nomark _)) (pss_one (ps_ret pe_bl)) pss_nil)
    (pss_cons (ps_set (i := 10) nd rfl (Or.inl rfl) (pe_callTy call_tuple_of (by rfl) hb.b_tuple (by decide +kernel) (pa_cons (pe_lc (own := [("_law_letter", 6), ("_law_other", 7)]) (g := (gTup K 2 (gCons (gName 6) (gCons (gName 7) gNil)))) (by rfl) nd (pi_tup (pv 4)) (blkOk_by (own := [("_law_letter", 6), ("_law_other", 7)]) (N := N_law) (sc := defScope s_law) (by decide +kernel)) (fun _ _ _ _ _ => (pg_tup rfl (pgs_cons (pg_name (i := 6) nd rfl (Or.inl rfl)) (pgs_cons (pg_name (i := 7) nd rfl (Or.inl rfl)) pgs_nil)))) (fun _ _ _ _ _ => pts_nil) (fun _ _ _ _ _  => (pe_tup (pa_cons (pv 6) (pa_cons (pe_fn G_word_turned hr rfl (pa_cons (pv 7) pa_nil se_Name)) pa_nil se_Call) se_Name)))) pa_nil se_ListComp)) (sw_Call))
    (pss_cons (ps_if (pt_cmpR (op_neD hr.units) (pe_fn G_word_turned hr rfl (pa_cons (pv 9) pa_nil se_Name)) (pe_fn G_put_in hr rfl (pa_cons (pe_fn G_word_turned hr rfl (pa_cons (pv 3) pa_nil se_Name)) (pa_cons (pv 10) pa_nil se_Name) se_Call)) (nomark _)) (pss_one (ps_ret pe_bl)) pss_nil)
    (pss_cons (ps_set (i := 11) nd rfl (Or.inr rfl) (pe_fn G_parts_of hr rfl (pa_cons (pv 9) pa_nil se_Name)) (sw_Call))
    (pss_cons (ps_if (PW.pt (pw_or (pt_cmpR (op_notInD (room65 hr)) (pv 9) (pv 11) (by rfl)) (pw_or1 (pt_cmpR op_ne (pe_callB (cr_max rfl) (by rfl) hb.b_max (by decide +kernel) (pa_cons (pe_lc (own := [("_law_part", 12)]) (g := (gName 12)) (by rfl) nd (pi_tup (pv 11)) (blkOk_by (own := [("_law_part", 12)]) (N := N_law) (sc := defScope s_law) (by decide +kernel)) (fun _ _ _ _ _ => (pg_name (i := 12) nd rfl (Or.inl rfl))) (fun _ _ _ _ _ => pts_nil) (fun _ _ _ _ _  => (pe_fn G_places_of hr rfl (pa_cons (pv 12) pa_nil se_Name)))) pa_nil se_ListComp)) (pe_fn G_places_of hr rfl (pa_cons (pv 9) pa_nil se_Name)) (nomark _))))) (pss_one (ps_ret pe_bl)) pss_nil)
    (pss_cons (ps_set (i := 13) nd rfl (Or.inr rfl) (pe_lc (tt := (tTest (tOp (rInD K false) (tVar 6) (tVar 11)))) (own := [("_law_letter", 6)]) (g := (gName 6)) (by rfl) nd (pi_tup (pe_fn G_letters_of hr rfl (pa_cons (pv 9) pa_nil se_Name))) (blkOk_by (own := [("_law_letter", 6)]) (N := N_law) (sc := defScope s_law) (by decide +kernel)) (fun _ _ _ _ _ => (pg_name (i := 6) nd rfl (Or.inl rfl))) (fun _ _ _ _ _ => (pts_one (pt_cmpR (op_inD (room65 hr)) (pv 6) (pv 11) (by rfl)))) (fun _ _ _ _ _  => (pv 6))))
    (pss_one (ps_if (PW.pt (pw_or (pt_cmpR (op_neD hr.units) (pe_callTy call_tuple_of (by rfl) hb.b_tuple (by decide +kernel) (pa_cons (pv 13) pa_nil se_Name)) (pe_fn G_letters_of hr rfl (pa_cons (pv 9) pa_nil se_Name)) (nomark _)) (pw_or1 (pt_cmpR (op_neD hr.units) (pe_lc (tt := (tTest (tOp (rInD K false) (tVar 12) (tVar 13)))) (own := [("_law_part", 12)]) (g := (gName 12)) (by rfl) nd (pi_tup (pv 11)) (blkOk_by (own := [("_law_part", 12)]) (N := N_law) (sc := defScope s_law) (by decide +kernel)) (fun _ _ _ _ _ => (pg_name (i := 12) nd rfl (Or.inl rfl))) (fun _ _ _ _ _ => (pts_one (pt_cmpR (op_inD (room65 hr)) (pv 12) (pv 13) (by rfl)))) (fun _ _ _ _ _  => (pv 12))) (pv 13) (nomark _))))) (pss_one (ps_ret pe_bl)) pss_nil)))))))))))))))))
    (pss_one (ps_ret pe_bl))), ?_⟩
  refine seq (fun _ H' => LamT P1 lamp_joined qlj H') (fun C hC => ?_) (fun σ' H' h => q H' fun p m => by rw [List.mem_singleton.mp m]; exact TabE.lam h)
  refine ⟨_, rfl, a, ns, 2, 6, rfl, hS, h63, by decide, by decide, by decide, by decide, fun r n H1 s1 hr0 hr hn => ?_⟩
  refine ⟨r, rfl, ⟨_, SqL.of hr⟩, ?_⟩
  have hT1 := hT.same s1
  refine for_list (K := K) (xs := upto n) (fun _ σ' H' => SameP P1 H1 H' ∧ LamT P1 lamp_joined qlj H' ∧ ∃ x1 x2 x3 x4 x5 x6 x7 x8 x9 x10 x11 x12 x13 : Option V, σ' = [some (.ref a), x1, x2, x3, x4, x5, x6, x7, x8, x9, x10, x11, x12, x13])
    ⟨SameP.refl _ _, hT1, _, _, _, _, _, _, _, _, _, _, _, _, _, rfl⟩ (fun i σ' H' _ h => h.1.seq hT1 (SqL.of hr)) ?_ (fun σ' H' h => hC _ _ h.2.1)
  rintro i x σ' H' ex ⟨s', hT', x1, x2, x3, x4, x5, x6, x7, x8, x9, x10, x11, x12, x13, rfl⟩
  have hi : i < n := by
    have := (List.getElem?_eq_some_iff.mp ex).1
    rw [upto_length] at this
    exact this
  rw [upto_get hi] at ex
  injection ex with ex
  subst ex
  refine set_ ?_
  refine ⟨_, rfl, _, rfl, a, ns, i, rfl, ((SameP.of s1).trans s').seq hT hS, h63, by omega, by omega, fun b H2 s2 hb0 hB => ?_⟩
  refine set_ ?_
  refine ⟨_, rfl, ?_⟩
  refine ⟨_, rfl, b, rfl, hB, fun k H4 d4 k1 k2 => ?_⟩
  refine ⟨_, rfl, b, rfl, d4.bag, fun lt H5 d5 hlt => ?_⟩
  refine ⟨b, k.toNat, lt, by rw [show ((k.toNat : Nat) : Int) = k by omega]; rfl, d5.bag, by omega, by omega, by omega, hlt, fun v1 w1 H6 d6 hw1 ho1 hp1 _ => ?_⟩
  have d26 := (d4.trans d5).trans d6
  have dp1 := depth_places w1 ho1
  have wlets : ∀ {w : Wd}, w.ok → ∀ y ∈ w.lets.map sgn, ∃ c, y = sgn c ∧ 97 ≤ c ∧ c ≤ 122 := fun {w} ho y my => by
    obtain ⟨c, hc, rfl⟩ := List.mem_map.mp my
    exact ⟨c, rfl, lets_ok w ho c hc⟩
  have wll : (w1.lets.map sgn).length ≤ 12 := by rw [List.length_map, lets_len]; omega
  have nb : ∀ {H0 : Hp} {c : Addr}, Bag H0 b → H0 c = none → c ≠ b := fun {H0 c} hB hc => by
    obtain ⟨ys, e⟩ := hB.was
    exact (ne_of_none e hc).symm
  refine set_ ?_
  refine ⟨_, rfl, _, rfl, v1, w1, rfl, hw1, ho1, by omega, by omega, fun l1 H7 s7 hl10 hl1 => ?_⟩
  have B7 := d6.bag.same s7
  refine ⟨b, l1, _, 3, rfl, B7, nb d6.bag hl10, SqL.of hl1, by omega, wlets ho1, by decide, by decide, by decide, fun v2 rs1 H8 d8 hrs1 hg1 => ?_⟩
  have k8 := (KT.of s7).trans d8.kt
  have d28 := (d26.same s7).trans d8
  have hw8 := WAt.mono k8 _ _ hw1
  refine set_ ?_
  refine ⟨small (by show 0 ≤ 1000; decide), fun F hF => ?_⟩
  have sF := same_new hF (.lst [])
  obtain ⟨a2, vs2, rfl, ha2, hv2⟩ := id hrs1
  have l2 := hv2.length
  have f1 := hg1.few
  refine seq (fun σ' H' => ∃ (xs : List Str) (x6 x7 : Option V), Same H8 H' ∧ H' F = some (.lst (xs.map V.str)) ∧ xs.length ≤ 2000 ∧ (∀ x ∈ xs, ∃ c, x = sgn c ∧ 97 ≤ c ∧ c ≤ 122) ∧ σ' = [some (.ref a), some (.int i), some (.ref b), some v1, some (.ref a2), some (.ref F), x6, x7, x8, x9, x10, x11, x12, x13]) (fun C hC => ?_) ?_
  · refine ⟨_, rfl, a2, rfl, ⟨_, SqT.of (sF _ _ ha2)⟩, ?_⟩
    refine for_tup (K := K) (xs := vs2) (fun i σ' H' => ∃ (xs : List Str) (x6 x7 : Option V), Same H8 H' ∧ H' F = some (.lst (xs.map V.str)) ∧ xs.length ≤ 3 * i ∧ (∀ x ∈ xs, ∃ c, x = sgn c ∧ 97 ≤ c ∧ c ≤ 122) ∧ σ' = [some (.ref a), some (.int _), some (.ref b), some v1, some (.ref a2), some (.ref F), x6, x7, x8, x9, x10, x11, x12, x13])
      ⟨[], _, _, sF, upd_same, Nat.zero_le _, fun x m => by simp at m, rfl⟩ (fun i σ' H' _ h => let ⟨_, _, _, s, _⟩ := h; SqT.of (s _ _ ha2)) ?_ ?_
    · rintro j y σ' H' ey ⟨xs, x6, x7, s9, hF9, hxl, hxs, rfl⟩
      obtain ⟨r, hr1, c, u, rfl, hb1, hu⟩ := hv2.get ey
      obtain ⟨ra, rb, rc, rd⟩ := hg1.ok r (List.mem_of_getElem? hr1)
      refine ⟨c, _, rfl, SqT.of (s9 _ _ hb1), rfl, _, _, rfl, _, _, rfl, rfl, ?_⟩
      refine ⟨_, rfl, .inl ⟨rfl, _, SqL.of hF9⟩, ?_⟩
      refine ⟨_, rfl, u, r.2, rfl, WAt.mono (KT.of s9) _ _ hu, rb, by omega, by omega, fun l3 H10 s10 _ hl3 => ?_⟩
      refine ⟨F, l3, _, _, rfl, rfl, s10 _ _ hF9, hl3, ?_, ?_⟩
      · have hjl := (List.getElem?_eq_some_iff.mp ey).1
        exact sz (by rw [List.length_map, List.length_map, List.length_map, lets_len]; omega)
      · refine ⟨xs ++ r.2.lets.map sgn, _, _, fun b o e => ?_, ?_, ?_, fun x m => ?_, rfl⟩
        · rw [upd_ne (ne_of_none e hF)]; exact s10 _ _ (s9 _ _ e)
        · rw [upd_same, List.map_append]
        · rw [List.length_append, List.length_map, lets_len]; omega
        · rcases List.mem_append.mp m with m | m
          · exact hxs x m
          · exact wlets rb x m
    · rintro σ' H' ⟨xs, x6, x7, s9, hF9, hxl, hxs, rfl⟩
      exact hC _ _ ⟨xs, x6, x7, s9, hF9, by omega, hxs, rfl⟩
  rintro σ' H9 ⟨xs, x6', x7', s9, hF9, hxl, hxs, rfl⟩
  have B9 := d8.bag.same s9
  refine set_ ?_
  refine ⟨_, rfl, _, rfl, b, F, xs, 3, rfl, B9, nb d8.bag hF, SqL.of hF9, hxl, hxs, by decide, by decide, by decide, fun v3 rs2 H10 d10 hrs2 hg2 => ?_⟩
  have k10 : KT H8 H10 := (KT.of s9).trans d10.kt
  have hw10 := WAt.mono k10 _ _ hw8
  have hrs10 := hrs1.mono k10
  have sH : Same H' H10 := Drawn.of_new (q := b) hb0 s2 ((d28.same s9).trans d10)
  have hT10 := hT'.same sH
  have g1' : GoodR 2000 60 rs1 := hg1.mono (by decide) (by decide)
  have g2' : GoodR 2000 60 rs2 := hg2.mono (by decide) (by decide)
  refine set_ ?_
  refine ⟨_, rfl, _, rfl, v1, .ref a2, w1, rs1, rfl, hw10, ho1, by omega, by omega, hrs10, g1', fun v4 H11 s11 hw4 => ?_⟩
  have po := put_ok hg1 w1 ho1
  have pp := put_places (by decide : 1 ≤ 3) hg1 w1
  have pd := put_depth hg1 w1
  have hT11 := hT10.same s11
  have hw11 := WAt.mono (KT.of s11) _ _ hw10
  have hrs11 := hrs10.mono (KT.of s11)
  have hrs211 := hrs2.mono (KT.of s11)
  refine seq (fun σ' H' => Same H11 H' ∧ σ' = [some (.ref a), some (.int i), some (.ref b), some v1, some (.ref a2), some (.ref F), x6', x7', some v3, some v4, x10, x11, x12, x13]) (fun C hC => ?_) ?_
  · refine ⟨_, rfl, v4, 0, (w1.put (look rs1)).toD, rfl, WAt.d _ _ hw4, gd_wd _ po, by have := sz_wd _ po; omega, fun H12 s12 => ?_⟩
    refine ⟨_, rfl, ?_⟩
    rw [isW_wd _ po]
    refine iteF ?_
    refine ⟨_, rfl, v4, _, rfl, WAt.mono (KT.of s12) _ _ hw4, po, by omega, by omega, fun H13 s13 => ?_⟩
    have s123 := s12.trans s13
    refine ⟨_, rfl, v1, w1, rfl, WAt.mono (KT.of s123) _ _ hw11, ho1, by omega, by omega, fun H14 s14 => ?_⟩
    refine ⟨_, rfl, .ref a2, w1, rs1, rfl, ho1, by omega, hrs11.mono (KT.of (s123.trans s14)), hg1, by decide, fun H15 s15 => ?_⟩
    exact ⟨rfl, _, rfl, iteNS rfl (hC _ _ ⟨s123.trans (s14.trans s15), rfl⟩)⟩
  rintro σ' H12 ⟨s12, rfl⟩
  have hT12 := hT11.same s12
  have hw12 := WAt.mono (KT.of s12) _ _ hw11
  have hw412 := WAt.mono (KT.of s12) _ _ hw4
  have hrs12 := hrs11.mono (KT.of s12)
  have hrs212 := hrs211.mono (KT.of s12)
  refine seq (fun σ' H' => SameP P1 H12 H' ∧ LamT P1 lamp_joined qlj H' ∧ σ' = [some (.ref a), some (.int i), some (.ref b), some v1, some (.ref a2), some (.ref F), x6', x7', some v3, some v4, x10, x11, x12, x13]) (fun C hC => ?_) ?_
  · refine ⟨_, rfl, _, rfl, v4, v3, _, rs2, rfl, hw412, po, by omega, by omega, hrs212, g2', fun v5 H13 s13 hw5 => ?_⟩
    refine ⟨_, rfl, _, rfl, _, rfl, .ref a2, v3, rs1, rs2, rfl, hrs12.mono (KT.of s13), hrs212.mono (KT.of s13), hg1, hg2, hT12.same s13, fun v6 rs3 H14 sp14 hT14 hrs3 pr => ?_⟩
    have jg := joinR_good hg1 hg2
    have g3 : GoodR 2000 60 rs3 := ⟨(pr.map (·.1)).nodup_iff.mpr jg.nd, fun r m => (jg.mono (m' := 2000) (d' := 60) (by decide) (by decide)).ok r (pr.mem_iff.mp m)⟩
    have kt14 := sp14.kt (hT12.same s13)
    refine ⟨v1, v6, w1, rs3, rfl, WAt.mono ((KT.of s13).trans kt14) _ _ hw12, ho1, by omega, by omega, hrs3, g3, fun v7 H15 s15 hw7 => ?_⟩
    have e : (w1.put (look rs1)).put (look rs2) = w1.put (look rs3) := by
      rw [put_put]
      congr 1
      funext c
      rw [look_permR pr jg.nd c, look_join]
    have po2 := put_ok hg2 _ po
    have pd2 := put_depth hg2 (w1.put (look rs1))
    rw [← e] at hw7
    refine ⟨_, _, WAt.dp _ _ (WAt.mono (kt14.trans (KT.of s15)) _ _ hw5), WAt.dp _ _ hw7, shaped_wd po2 (by omega), shaped_wd po2 (by omega), _, rfl, ?_⟩
    rw [eqv_self po2]
    exact iteF (hC _ _ ⟨((SameP.of s13).trans sp14).trans (SameP.of s15), hT14.same s15, rfl⟩)
  rintro σ' H13 ⟨sp13, hT13, rfl⟩
  have kt13 := sp13.kt hT12
  have hw13 := WAt.mono kt13 _ _ hw12
  have hw413 := WAt.mono kt13 _ _ hw412
  obtain ⟨a2', vs2', e2, ha13, hv13⟩ := id (hrs12.mono kt13)
  injection e2 with e2
  subst e2
  have l13 := hv13.length
  refine set_ ?_
  refine ⟨_, rfl, a2, rfl, ⟨_, SqT.of ha13⟩, fun D2 hD2 => ?_⟩
  refine lc_tup (K := K) (xs := vs2') (fun i H' => Same H13 H' ∧ ∃ us, H' D2 = some (.lst us) ∧ RowL H' ((rs1.take i).map fun r => (r.1, r.2.turn)) us) ⟨same_new hD2 _, [], upd_same, rfl⟩ (fun i H' _ h => SqT.of (h.1 _ _ ha13)) (fun i y H' ey h => ?_) (fun H14 h => ?_)
  · obtain ⟨s', us, hDl, hR⟩ := h
    obtain ⟨r, hr1, c, u, rfl, hb1, hu⟩ := hv13.get ey
    obtain ⟨ra, rb, rc, rd⟩ := hg1.ok r (List.mem_of_getElem? hr1)
    refine ⟨c, _, rfl, SqT.of (s' _ _ hb1), rfl, _, _, rfl, _, _, rfl, rfl, rfl, ?_⟩
    unfold tYes
    dsimp only
    rw [if_pos rfl]
    refine ⟨_, rfl, ⟨_, rfl, u, r.2, rfl, WAt.mono (KT.of s') _ _ hu, rb, by omega, by omega, fun v' H3 s3 hw => ?_⟩⟩
    refine ⟨small (by show 2 ≤ 1000; decide), fun t ht => ?_⟩
    have st := s3.trans (same_new ht (.tup [.str (sgn r.1), v']))
    have hD3 := st _ _ hDl
    have ul := hR.length
    refine ⟨_, hD3, szl (by rw [ul, List.length_map, List.length_take]; omega), fun b o e => ?_, us ++ [.ref t], upd_same, ?_⟩
    · rw [upd_ne (ne_of_none e hD2)]; exact st _ _ (s' _ _ e)
    · have kt : KT (upd H3 t (.tup [.str (sgn r.1), v'])) (upd (upd H3 t (.tup [.str (sgn r.1), v'])) D2 (.lst (us ++ [.ref t]))) := KT.lst hD3
      rw [List.take_add_one, hr1, List.map_append]
      refine RowL.snoc ?_ (RowL.mono ((KT.of st).trans kt) hR)
      exact ⟨t, v', rfl, kt _ _ upd_same, WAt.mono ((KT.of (same_new ht _)).trans kt) _ _ hw⟩
  obtain ⟨s14, us, hDl, hR⟩ := h
  rw [l13, List.take_length] at hR
  refine ⟨D2, us, rfl, .inl ⟨SqL.of hDl, fun l hl => ?_⟩⟩
  have sl := s14.trans (same_new hl (.tup us))
  have hO : RowsAt (upd H14 l (.tup us)) (rs1.map fun r => (r.1, r.2.turn)) (.ref l) := ⟨l, us, rfl, upd_same, RowL.mono (KT.of (same_new hl _)) hR⟩
  generalize upd H14 l (.tup us) = H15 at sl hO ⊢
  have gT : GoodR 2000 60 (rs1.map fun r => (r.1, r.2.turn)) := by
    refine ⟨by rw [List.map_map]; exact hg1.nd, fun r m => ?_⟩
    obtain ⟨q, mq, rfl⟩ := List.mem_map.mp m
    obtain ⟨ra, rb, rc, rd⟩ := hg1.ok q mq
    refine ⟨ra, turn_ok _ rb, ?_, ?_⟩
    · show q.2.turn.places ≤ 2000; rw [turn_places]; omega
    · show q.2.turn.depth ≤ 60; rw [turn_depth]; omega
  have hw15 := WAt.mono (KT.of sl) _ _ hw13
  have hw415 := WAt.mono (KT.of sl) _ _ hw413
  refine seq (fun σ' H' => Same H15 H' ∧ σ' = [some (.ref a), some (.int i), some (.ref b), some v1, some (.ref a2), some (.ref F), x6', x7', some v3, some v4, some (.ref l), x11, x12, x13]) (fun C hC => ?_) ?_
  · refine ⟨_, rfl, v4, _, rfl, hw415, po, by omega, by omega, fun v8 H16 s16 hw8' => ?_⟩
    refine ⟨_, rfl, v1, w1, rfl, WAt.mono (KT.of s16) _ _ hw15, ho1, by omega, by omega, fun v9 H17 s17 hw9 => ?_⟩
    refine ⟨_, rfl, v9, .ref l, w1.turn, _, rfl, hw9, turn_ok _ ho1, by rw [turn_places]; omega, by rw [turn_depth]; omega, hO.mono (KT.of (s16.trans s17)), gT, fun v10 H18 s18 hw10' => ?_⟩
    have e : w1.turn.put (look (rs1.map fun r => (r.1, r.2.turn))) = (w1.put (look rs1)).turn := by
      rw [put_turn]
      congr 1
      funext c
      exact look_map rs1 c
    rw [e] at hw10'
    have pt := turn_ok _ po
    refine ⟨_, _, WAt.dp _ _ (WAt.mono (KT.of (s17.trans s18)) _ _ hw8'), WAt.dp _ _ hw10', shaped_wd pt (by rw [turn_depth]; omega), shaped_wd pt (by rw [turn_depth]; omega), _, rfl, ?_⟩
    rw [eqv_self pt]
    exact iteF (hC _ _ ⟨s16.trans (s17.trans s18), rfl⟩)
  rintro σ' H16 ⟨s16, rfl⟩
  have hw416 := WAt.mono (KT.of s16) _ _ hw415
  have sF16 : SameP P1 H1 H16 := (s'.trans (SameP.of sH)).trans ((SameP.of (s11.trans s12)).trans (sp13.trans (SameP.of (sl.trans s16))))
  have hT16 : LamT P1 lamp_joined qlj H16 := hT13.same (sl.trans s16)
  generalize w1.put (look rs1) = tw at hw416 po pp pd
  refine set_ ?_
  refine ⟨_, rfl, v4, tw, rfl, hw416, po, by omega, by omega, fun t ws us2 H17 s17 _ ht hws so nd2 mem => ?_⟩
  have wok : ∀ x ∈ ws, x.ok ∧ x.places ≤ tw.places ∧ x.depth ≤ tw.depth := fun x m => parts_ok tw po x ((mem x).mp m)
  have shp : ∀ e ∈ toDL ws, SeqAt.shaped e = true := fun e m => by
    rw [toDL_map] at m
    obtain ⟨x, mx, rfl⟩ := List.mem_map.mp m
    exact shaped_wd (wok x mx).1 (by have := (wok x mx).2.2; omega)
  have hwl := WAts.length _ _ hws
  have wfew : ws.length ≤ 2 * tw.places := by
    have a1 := List.Nodup.length_le_of_subset nd2 fun x m => (mem x).mp m
    have a2 := parts_len tw po
    omega
  have hw417 := WAt.mono (KT.of s17) _ _ hw416
  refine seq (fun σ' H' => Same H17 H' ∧ σ' = [some (.ref a), some (.int i), some (.ref b), some v1, some (.ref a2), some (.ref F), x6', x7', some v3, some v4, some (.ref l), some (.ref t), x12, x13]) (fun C hC => ?_) ?_
  · refine ⟨_, rfl, _, rfl, t, us2, _, _, rfl, .inr (SqT.of ht), WAt.dp _ _ hw417, WAts.dp _ _ hws, shaped_wd po (by omega), shp, _, rfl, ?_⟩
    rw [if_pos rfl, inD_mem ((mem _).mpr (parts_self tw)) po]
    refine iteF ?_
    refine ⟨_, rfl, t, rfl, ⟨_, SqT.of ht⟩, fun D hD => ?_⟩
    refine lc_each (SqT.of ht) hD (by omega) (fun i y H => ∃ x, ws[i]? = some x ∧ y = .int (x.places : Nat)) (fun i y H H' k h => h) (fun i x H' C ex s' hC => ?_) (fun x => rfl) (fun H18 acc s18 hacc hl2 hR2 => ?_)
    · obtain ⟨z, hz, hw⟩ := WAts.get ws us2 i x hws ex
      have hm := wok z (List.mem_of_getElem? hz)
      exact ⟨_, rfl, x, z, rfl, WAt.mono (KT.of s') _ _ hw, hm.1, by have := hm.2.1; omega, fun H'' s'' => hC _ _ s'' ⟨z, hz, rfl⟩⟩
    · have ea : acc = (ws.map fun x => ((x.places : Nat) : Int)).map V.int := by
        refine List.ext_getElem? fun j => ?_
        rw [List.map_map, List.getElem?_map]
        cases ej : acc[j]? with
        | none =>
          have : ws.length ≤ j := by
            have := List.getElem?_eq_none_iff.mp ej
            omega
          rw [List.getElem?_eq_none this]; rfl
        | some y =>
          obtain ⟨x, ex, rfl⟩ := hR2 j y ej
          rw [ex]; rfl
      rw [ea] at hacc
      have hself := (mem _).mpr (parts_self tw)
      refine ⟨D, _, rfl, SqL.of hacc, by rw [List.length_map]; exact List.length_pos_of_mem hself, fun m hm hmax => ?_⟩
      refine ⟨_, rfl, v4, tw, rfl, WAt.mono (KT.of s18) _ _ hw417, po, by omega, fun H19 s19 => ?_⟩
      refine ⟨rfl, _, rfl, iteNS ?_ (hC _ _ ⟨s18.trans s19, rfl⟩)⟩
      obtain ⟨x, mx, rfl⟩ := List.mem_map.mp hm
      have h1 := hmax _ (List.mem_map.mpr ⟨tw, hself, rfl⟩)
      have h2 := (wok x mx).2.1
      have : x.places = tw.places := by omega
      rw [this]
  rintro σ' H18 ⟨s18, rfl⟩
  have ht18 := s18 _ _ ht
  have hws18 := WAts.mono (KT.of s18) _ _ hws
  have hw418 := WAt.mono (KT.of s18) _ _ hw417
  refine set_ ?_
  refine ⟨_, rfl, v4, tw, rfl, hw418, po, by omega, fun l' ys H19 s19 _ hl' so2 nd3 mem2 => ?_⟩
  have gs := sgn_str po mem2
  have ylen : ys.length ≤ tw.places := by
    have := List.Nodup.length_le_of_subset nd3 fun y m => (mem2 y).mp m
    rw [List.length_map, lets_len] at this
    exact this
  have ht19 := s19 _ _ ht18
  have hws19 := WAts.mono (KT.of s19) _ _ hws18
  refine ⟨l', rfl, ⟨_, SqT.of hl'⟩, fun D3 hD3 => ?_⟩
  refine lc_tup (K := K) (xs := ys.map V.str) (fun i H' => Same H19 H' ∧ H' D3 = some (.lst ((ys.take i).map V.str))) ⟨same_new hD3 _, upd_same⟩ (fun i H' _ h => SqT.of (h.1 _ _ hl')) (fun j x H' ex h => ?_) (fun H20 h => ?_)
  · obtain ⟨s', hDl⟩ := h
    rw [List.getElem?_map] at ex
    obtain ⟨y, ey, rfl⟩ := Option.map_eq_some_iff.mp ex
    have my := List.mem_of_getElem? ey
    obtain ⟨c, hc, rfl⟩ := List.mem_map.mp ((mem2 y).mp my)
    have lo := lets_ok tw po c hc
    refine ⟨rfl, ?_⟩
    refine ⟨_, rfl, _, rfl, t, us2, (Wd.letter c).toD, toDL ws, rfl, .inr (SqT.of (s' _ _ ht19)), .str _, WAts.dp _ _ (WAts.mono (KT.of s') _ _ hws19), shaped_wd (w := .letter c) lo (by show 0 ≤ 64; decide), shp, _, rfl, ?_⟩
    rw [if_neg (by decide), inD_mem ((mem _).mpr ((lets_in tw c).mp hc)) lo]
    refine iteT ⟨_, rfl, _, hDl, szl (by rw [List.length_map, List.length_take]; omega), fun b o e => ?_, ?_⟩
    · rw [upd_ne (ne_of_none e hD3)]; exact s' _ _ e
    · rw [upd_same, List.take_add_one, ey, List.map_append]; rfl
  obtain ⟨s20, hL3⟩ := h
  rw [List.length_map, List.take_length] at hL3
  have s1820 := s19.trans s20
  refine ⟨_, rfl, D3, _, rfl, .inl ⟨SqL.of hL3, fun l3 hl3 => ?_⟩⟩
  have s21 := same_new hl3 (.tup (ys.map V.str))
  have hl3' : upd H20 l3 (.tup (ys.map V.str)) l3 = some (.tup (ys.map V.str)) := upd_same
  generalize upd H20 l3 (.tup (ys.map V.str)) = H21 at s21 hl3' ⊢
  have s1821 := s1820.trans s21
  refine ⟨_, rfl, v4, tw, rfl, WAt.mono (KT.of s1821) _ _ hw418, po, by omega, fun l4 ys2 H22 s22 _ hl4 so3 nd4 mem3 => ?_⟩
  have ey : ys = ys2 := sorted_mem so2 so3 nd3 nd4 fun y => by rw [mem2 y, mem3 y]
  subst ey
  refine ⟨.tuple (ys.map PyData.str), .tuple (ys.map PyData.str), .tup (SqT.of (s22 _ _ hl3')) (strs_dp _), .tup (SqT.of hl4) (strs_dp _), shaped_strsT gs, shaped_strsT gs, _, rfl, ?_⟩
  rw [eqv_gd (d := .tuple (ys.map PyData.str)) (gd_strs gs)]
  refine iteF ?_
  have s1822 := s1821.trans s22
  have ht22 := s1822 _ _ ht18
  have hws22 := WAts.mono (KT.of s1822) _ _ hws18
  have hL22 := (s21.trans s22) _ _ hL3
  refine ⟨_, rfl, t, rfl, ⟨_, SqT.of ht22⟩, fun D4 hD4 => ?_⟩
  refine lc_tup (K := K) (xs := us2) (fun i H' => Same H22 H' ∧ ∃ zs, H' D4 = some (.lst zs) ∧ WAts H' ((ws.take i).filter isLt) zs) ⟨same_new hD4 _, [], upd_same, rfl⟩ (fun i H' _ h => SqT.of (h.1 _ _ ht22)) (fun j x H' ex h => ?_) (fun H23 h => ?_)
  · obtain ⟨s', zs, hDl, hz⟩ := h
    obtain ⟨z, ez, hw⟩ := WAts.get ws us2 j x hws22 ex
    have mz := List.mem_of_getElem? ez
    have zo := wok z mz
    have hwz := WAt.mono (KT.of s') _ _ hw
    refine ⟨rfl, ?_⟩
    refine ⟨_, rfl, _, rfl, D3, ys.map V.str, z.toD, ys.map PyData.str, rfl, .inl (SqL.of (s' _ _ hL22)), WAt.dp _ _ hwz, strs_dp _, shaped_wd zo.1 (by have := zo.2.2; omega), fun e m => ?_, _, rfl, ?_⟩
    · obtain ⟨y, my, rfl⟩ := List.mem_map.mp m
      exact shaped_gd (d := .str y) (gs y my) (by show 0 ≤ 64; decide)
    have e1 : ws.take (j + 1) = ws.take j ++ [z] := by rw [List.take_add_one, ez]; rfl
    rw [if_neg (by decide), inD_strs, e1, List.filter_append]
    have zl := WAts.length _ _ hz
    have zl2 := List.length_filter_le isLt (ws.take j)
    rw [List.length_take] at zl2
    cases z with
    | letter c =>
      dsimp only
      rw [decide_eq_true ((mem2 _).mpr (List.mem_map.mpr ⟨c, (lets_in tw c).mpr ((mem _).mp mz), rfl⟩))]
      refine iteT ⟨_, rfl, _, hDl, szl (by omega), fun b o e => ?_, zs ++ [x], upd_same, ?_⟩
      · rw [upd_ne (ne_of_none e hD4)]; exact s' _ _ e
      · exact WAts.snoc (WAt.mono (KT.lst hDl) _ _ hwz) _ _ (WAts.mono (KT.lst hDl) _ _ hz)
    | node u as =>
      refine iteF ⟨s', zs, hDl, ?_⟩
      show WAts H' ((ws.take j).filter isLt ++ []) zs
      rw [List.append_nil]
      exact hz
  obtain ⟨s23, zs, hDl, hz⟩ := h
  rw [hwl, List.take_length] at hz
  refine ⟨_, rfl, .list (toDL (ws.filter isLt)), .list (ys.map PyData.str), .lst (SqL.of hDl) (WAts.dp _ _ hz), .lst (SqL.of (s23 _ _ hL22)) (strs_dp _), ?_, shaped_strsL gs, _, rfl, ?_⟩
  · rw [toDL_map, lt_toDs, parts_lets po so nd2 mem so2 nd3 mem2]
    exact shaped_strsL gs
  · rw [toDL_map, lt_toDs, parts_lets po so nd2 mem so2 nd3 mem2, eqv_gd (d := .list (ys.map PyData.str)) (gd_strs gs)]
    have sEnd := (s17.trans s18).trans (s1822.trans s23)
    exact iteF ⟨sF16.trans (SameP.of sEnd), hT16.same sEnd, _, _, _, _, _, _, _, _, _, _, _, _, _, rfl⟩
end
end LW
namespace LW
open PySem PySem.Spec PyProof.Rows L2 EB
def TF : Addr → HO := fun b => if b = 171 then .ext (lamT0 171 lamp_joined) else tabO b
theorem HTF : ∀ P ∈ ([171] : List Addr), TabS P (TF P) := List.forall_mem_cons.mpr ⟨.inr ⟨_, rfl⟩, fun _ h => nomatch h⟩
theorem all_mk {l : PySem.W.OpenLaw} {w : World} {K : PySem.W.Frag} {h : Heap} {mg : Str → Option Value} {fa : Addr} (X : K.In h) (G : h.Ns mainGlobals mg) (hfa : mg "law" = some (.ref fa))
    {f0 : Addr} {oc0 kV0 dc0 pm0 cd0 ct0 : Value} {od0 an0 : Option Addr} {sl0 : Array (Option Value)} (a0 : PySem.W.nsIn K mainGlobals "is_letter" = some (some (.ref f0))) (l0 : K.lookup f0 = some ⟨oc0, od0, .func (PySem.W.fnOf "is_letter" "is_letter" (defArgs s_is_letter) (defBody s_is_letter) (defScope s_is_letter) .none kV0 dc0 pm0 an0 cd0 ct0), sl0⟩) (c0 : PySem.W.codeIn K cd0 "is_letter" = true) (k0 : PySem.W.keepIn K (.ref f0) = true)
    {f1 : Addr} {oc1 kV1 dc1 pm1 cd1 ct1 : Value} {od1 an1 : Option Addr} {sl1 : Array (Option Value)} (a1 : PySem.W.nsIn K mainGlobals "is_deed" = some (some (.ref f1))) (l1 : K.lookup f1 = some ⟨oc1, od1, .func (PySem.W.fnOf "is_deed" "is_deed" (defArgs s_is_deed) (defBody s_is_deed) (defScope s_is_deed) .none kV1 dc1 pm1 an1 cd1 ct1), sl1⟩) (c1 : PySem.W.codeIn K cd1 "is_deed" = true) (k1 : PySem.W.keepIn K (.ref f1) = true)
    {f2 : Addr} {oc2 kV2 dc2 pm2 cd2 ct2 : Value} {od2 an2 : Option Addr} {sl2 : Array (Option Value)} (a2 : PySem.W.nsIn K mainGlobals "deed_turned" = some (some (.ref f2))) (l2 : K.lookup f2 = some ⟨oc2, od2, .func (PySem.W.fnOf "deed_turned" "deed_turned" (defArgs s_deed_turned) (defBody s_deed_turned) (defScope s_deed_turned) .none kV2 dc2 pm2 an2 cd2 ct2), sl2⟩) (c2 : PySem.W.codeIn K cd2 "deed_turned" = true) (k2 : PySem.W.keepIn K (.ref f2) = true)
    {f3 : Addr} {oc3 kV3 dc3 pm3 cd3 ct3 : Value} {od3 an3 : Option Addr} {sl3 : Array (Option Value)} (a3 : PySem.W.nsIn K mainGlobals "has_deed_and_arms" = some (some (.ref f3))) (l3 : K.lookup f3 = some ⟨oc3, od3, .func (PySem.W.fnOf "has_deed_and_arms" "has_deed_and_arms" (defArgs s_has_deed_and_arms) (defBody s_has_deed_and_arms) (defScope s_has_deed_and_arms) .none kV3 dc3 pm3 an3 cd3 ct3), sl3⟩) (c3 : PySem.W.codeIn K cd3 "has_deed_and_arms" = true) (k3 : PySem.W.keepIn K (.ref f3) = true)
    {f4 : Addr} {oc4 kV4 dc4 pm4 cd4 ct4 : Value} {od4 an4 : Option Addr} {sl4 : Array (Option Value)} (a4 : PySem.W.nsIn K mainGlobals "is_word" = some (some (.ref f4))) (l4 : K.lookup f4 = some ⟨oc4, od4, .func (PySem.W.fnOf "is_word" "is_word" (defArgs s_is_word) (defBody s_is_word) (defScope s_is_word) .none kV4 dc4 pm4 an4 cd4 ct4), sl4⟩) (c4 : PySem.W.codeIn K cd4 "is_word" = true) (k4 : PySem.W.keepIn K (.ref f4) = true)
    {f5 : Addr} {oc5 kV5 dc5 pm5 cd5 ct5 : Value} {od5 an5 : Option Addr} {sl5 : Array (Option Value)} (a5 : PySem.W.nsIn K mainGlobals "standing_letters" = some (some (.ref f5))) (l5 : K.lookup f5 = some ⟨oc5, od5, .func (PySem.W.fnOf "standing_letters" "standing_letters" (defArgs s_standing_letters) (defBody s_standing_letters) (defScope s_standing_letters) .none kV5 dc5 pm5 an5 cd5 ct5), sl5⟩) (c5 : PySem.W.codeIn K cd5 "standing_letters" = true) (k5 : PySem.W.keepIn K (.ref f5) = true)
    {f6 : Addr} {oc6 kV6 dc6 pm6 cd6 ct6 : Value} {od6 an6 : Option Addr} {sl6 : Array (Option Value)} (a6 : PySem.W.nsIn K mainGlobals "places_of" = some (some (.ref f6))) (l6 : K.lookup f6 = some ⟨oc6, od6, .func (PySem.W.fnOf "places_of" "places_of" (defArgs s_places_of) (defBody s_places_of) (defScope s_places_of) .none kV6 dc6 pm6 an6 cd6 ct6), sl6⟩) (c6 : PySem.W.codeIn K cd6 "places_of" = true) (k6 : PySem.W.keepIn K (.ref f6) = true)
    {f7 : Addr} {oc7 kV7 dc7 pm7 cd7 ct7 : Value} {od7 an7 : Option Addr} {sl7 : Array (Option Value)} (a7 : PySem.W.nsIn K mainGlobals "letters_of" = some (some (.ref f7))) (l7 : K.lookup f7 = some ⟨oc7, od7, .func (PySem.W.fnOf "letters_of" "letters_of" (defArgs s_letters_of) (defBody s_letters_of) (defScope s_letters_of) .none kV7 dc7 pm7 an7 cd7 ct7), sl7⟩) (c7 : PySem.W.codeIn K cd7 "letters_of" = true) (k7 : PySem.W.keepIn K (.ref f7) = true)
    {f8 : Addr} {oc8 kV8 dc8 pm8 cd8 ct8 : Value} {od8 an8 : Option Addr} {sl8 : Array (Option Value)} (a8 : PySem.W.nsIn K mainGlobals "joined_texts" = some (some (.ref f8))) (l8 : K.lookup f8 = some ⟨oc8, od8, .func (PySem.W.fnOf "joined_texts" "joined_texts" (defArgs s_joined_texts) (defBody s_joined_texts) (defScope s_joined_texts) .none kV8 dc8 pm8 an8 cd8 ct8), sl8⟩) (c8 : PySem.W.codeIn K cd8 "joined_texts" = true) (k8 : PySem.W.keepIn K (.ref f8) = true)
    {f9 : Addr} {oc9 kV9 dc9 pm9 cd9 ct9 : Value} {od9 an9 : Option Addr} {sl9 : Array (Option Value)} (a9 : PySem.W.nsIn K mainGlobals "text_of" = some (some (.ref f9))) (l9 : K.lookup f9 = some ⟨oc9, od9, .func (PySem.W.fnOf "text_of" "text_of" (defArgs s_text_of) (defBody s_text_of) (defScope s_text_of) .none kV9 dc9 pm9 an9 cd9 ct9), sl9⟩) (c9 : PySem.W.codeIn K cd9 "text_of" = true) (k9 : PySem.W.keepIn K (.ref f9) = true)
    {f10 : Addr} {oc10 kV10 dc10 pm10 cd10 ct10 : Value} {od10 an10 : Option Addr} {sl10 : Array (Option Value)} (a10 : PySem.W.nsIn K mainGlobals "gather_parts" = some (some (.ref f10))) (l10 : K.lookup f10 = some ⟨oc10, od10, .func (PySem.W.fnOf "gather_parts" "gather_parts" (defArgs s_gather_parts) (defBody s_gather_parts) (defScope s_gather_parts) .none kV10 dc10 pm10 an10 cd10 ct10), sl10⟩) (c10 : PySem.W.codeIn K cd10 "gather_parts" = true) (k10 : PySem.W.keepIn K (.ref f10) = true)
    {f11 : Addr} {oc11 kV11 dc11 pm11 cd11 ct11 : Value} {od11 an11 : Option Addr} {sl11 : Array (Option Value)} (a11 : PySem.W.nsIn K mainGlobals "parts_of" = some (some (.ref f11))) (l11 : K.lookup f11 = some ⟨oc11, od11, .func (PySem.W.fnOf "parts_of" "parts_of" (defArgs s_parts_of) (defBody s_parts_of) (defScope s_parts_of) .none kV11 dc11 pm11 an11 cd11 ct11), sl11⟩) (c11 : PySem.W.codeIn K cd11 "parts_of" = true) (k11 : PySem.W.keepIn K (.ref f11) = true)
    {f12 : Addr} {oc12 kV12 dc12 pm12 cd12 ct12 : Value} {od12 an12 : Option Addr} {sl12 : Array (Option Value)} (a12 : PySem.W.nsIn K mainGlobals "put_rows_in" = some (some (.ref f12))) (l12 : K.lookup f12 = some ⟨oc12, od12, .func (PySem.W.fnOf "put_rows_in" "put_rows_in" (defArgs s_put_rows_in) (defBody s_put_rows_in) (defScope s_put_rows_in) .none kV12 dc12 pm12 an12 cd12 ct12), sl12⟩) (c12 : PySem.W.codeIn K cd12 "put_rows_in" = true) (k12 : PySem.W.keepIn K (.ref f12) = true)
    {f13 : Addr} {oc13 kV13 dc13 pm13 cd13 ct13 : Value} {od13 an13 : Option Addr} {sl13 : Array (Option Value)} (a13 : PySem.W.nsIn K mainGlobals "put_in" = some (some (.ref f13))) (l13 : K.lookup f13 = some ⟨oc13, od13, .func (PySem.W.fnOf "put_in" "put_in" (defArgs s_put_in) (defBody s_put_in) (defScope s_put_in) .none kV13 dc13 pm13 an13 cd13 ct13), sl13⟩) (c13 : PySem.W.codeIn K cd13 "put_in" = true) (k13 : PySem.W.keepIn K (.ref f13) = true)
    {f14 : Addr} {oc14 kV14 dc14 pm14 cd14 ct14 : Value} {od14 an14 : Option Addr} {sl14 : Array (Option Value)} (a14 : PySem.W.nsIn K mainGlobals "word_turned" = some (some (.ref f14))) (l14 : K.lookup f14 = some ⟨oc14, od14, .func (PySem.W.fnOf "word_turned" "word_turned" (defArgs s_word_turned) (defBody s_word_turned) (defScope s_word_turned) .none kV14 dc14 pm14 an14 cd14 ct14), sl14⟩) (c14 : PySem.W.codeIn K cd14 "word_turned" = true) (k14 : PySem.W.keepIn K (.ref f14) = true)
    {f15 : Addr} {oc15 kV15 dc15 pm15 cd15 ct15 : Value} {od15 an15 : Option Addr} {sl15 : Array (Option Value)} (a15 : PySem.W.nsIn K mainGlobals "_law_bag" = some (some (.ref f15))) (l15 : K.lookup f15 = some ⟨oc15, od15, .func (PySem.W.fnOf "_law_bag" "_law_bag" (defArgs s__law_bag) (defBody s__law_bag) (defScope s__law_bag) .none kV15 dc15 pm15 an15 cd15 ct15), sl15⟩) (c15 : PySem.W.codeIn K cd15 "_law_bag" = true) (k15 : PySem.W.keepIn K (.ref f15) = true)
    {f16 : Addr} {oc16 kV16 dc16 pm16 cd16 ct16 : Value} {od16 an16 : Option Addr} {sl16 : Array (Option Value)} (a16 : PySem.W.nsIn K mainGlobals "_law_draw" = some (some (.ref f16))) (l16 : K.lookup f16 = some ⟨oc16, od16, .func (PySem.W.fnOf "_law_draw" "_law_draw" (defArgs s__law_draw) (defBody s__law_draw) (defScope s__law_draw) .none kV16 dc16 pm16 an16 cd16 ct16), sl16⟩) (c16 : PySem.W.codeIn K cd16 "_law_draw" = true) (k16 : PySem.W.keepIn K (.ref f16) = true)
    {f17 : Addr} {oc17 kV17 dc17 pm17 cd17 ct17 : Value} {od17 an17 : Option Addr} {sl17 : Array (Option Value)} (a17 : PySem.W.nsIn K mainGlobals "_law_many" = some (some (.ref f17))) (l17 : K.lookup f17 = some ⟨oc17, od17, .func (PySem.W.fnOf "_law_many" "_law_many" (defArgs s__law_many) (defBody s__law_many) (defScope s__law_many) .none kV17 dc17 pm17 an17 cd17 ct17), sl17⟩) (c17 : PySem.W.codeIn K cd17 "_law_many" = true) (k17 : PySem.W.keepIn K (.ref f17) = true)
    {f18 : Addr} {oc18 kV18 dc18 pm18 cd18 ct18 : Value} {od18 an18 : Option Addr} {sl18 : Array (Option Value)} (a18 : PySem.W.nsIn K mainGlobals "_law_abc" = some (some (.ref f18))) (l18 : K.lookup f18 = some ⟨oc18, od18, .func (PySem.W.fnOf "_law_abc" "_law_abc" (defArgs s__law_abc) (defBody s__law_abc) (defScope s__law_abc) .none kV18 dc18 pm18 an18 cd18 ct18), sl18⟩) (c18 : PySem.W.codeIn K cd18 "_law_abc" = true) (k18 : PySem.W.keepIn K (.ref f18) = true)
    {f19 : Addr} {oc19 kV19 dc19 pm19 cd19 ct19 : Value} {od19 an19 : Option Addr} {sl19 : Array (Option Value)} (a19 : PySem.W.nsIn K mainGlobals "_law_word" = some (some (.ref f19))) (l19 : K.lookup f19 = some ⟨oc19, od19, .func (PySem.W.fnOf "_law_word" "_law_word" (defArgs s__law_word) (defBody s__law_word) (defScope s__law_word) .none kV19 dc19 pm19 an19 cd19 ct19), sl19⟩) (c19 : PySem.W.codeIn K cd19 "_law_word" = true) (k19 : PySem.W.keepIn K (.ref f19) = true)
    {f20 : Addr} {oc20 kV20 dc20 pm20 cd20 ct20 : Value} {od20 an20 : Option Addr} {sl20 : Array (Option Value)} (a20 : PySem.W.nsIn K mainGlobals "_law_places" = some (some (.ref f20))) (l20 : K.lookup f20 = some ⟨oc20, od20, .func (PySem.W.fnOf "_law_places" "_law_places" (defArgs s__law_places) (defBody s__law_places) (defScope s__law_places) .none kV20 dc20 pm20 an20 cd20 ct20), sl20⟩) (c20 : PySem.W.codeIn K cd20 "_law_places" = true) (k20 : PySem.W.keepIn K (.ref f20) = true)
    {f21 : Addr} {oc21 kV21 dc21 pm21 cd21 ct21 : Value} {od21 an21 : Option Addr} {sl21 : Array (Option Value)} (a21 : PySem.W.nsIn K mainGlobals "_law_text" = some (some (.ref f21))) (l21 : K.lookup f21 = some ⟨oc21, od21, .func (PySem.W.fnOf "_law_text" "_law_text" (defArgs s__law_text) (defBody s__law_text) (defScope s__law_text) .none kV21 dc21 pm21 an21 cd21 ct21), sl21⟩) (c21 : PySem.W.codeIn K cd21 "_law_text" = true) (k21 : PySem.W.keepIn K (.ref f21) = true)
    {f22 : Addr} {oc22 kV22 dc22 pm22 cd22 ct22 : Value} {od22 an22 : Option Addr} {sl22 : Array (Option Value)} (a22 : PySem.W.nsIn K mainGlobals "_law_signs" = some (some (.ref f22))) (l22 : K.lookup f22 = some ⟨oc22, od22, .func (PySem.W.fnOf "_law_signs" "_law_signs" (defArgs s__law_signs) (defBody s__law_signs) (defScope s__law_signs) .none kV22 dc22 pm22 an22 cd22 ct22), sl22⟩) (c22 : PySem.W.codeIn K cd22 "_law_signs" = true) (k22 : PySem.W.keepIn K (.ref f22) = true)
    {f23 : Addr} {oc23 kV23 dc23 pm23 cd23 ct23 : Value} {od23 an23 : Option Addr} {sl23 : Array (Option Value)} (a23 : PySem.W.nsIn K mainGlobals "_law_choice" = some (some (.ref f23))) (l23 : K.lookup f23 = some ⟨oc23, od23, .func (PySem.W.fnOf "_law_choice" "_law_choice" (defArgs s__law_choice) (defBody s__law_choice) (defScope s__law_choice) .none kV23 dc23 pm23 an23 cd23 ct23), sl23⟩) (c23 : PySem.W.codeIn K cd23 "_law_choice" = true) (k23 : PySem.W.keepIn K (.ref f23) = true)
    {f24 : Addr} {oc24 kV24 dc24 pm24 cd24 ct24 : Value} {od24 an24 : Option Addr} {sl24 : Array (Option Value)} (a24 : PySem.W.nsIn K mainGlobals "_law_written" = some (some (.ref f24))) (l24 : K.lookup f24 = some ⟨oc24, od24, .func (PySem.W.fnOf "_law_written" "_law_written" (defArgs s__law_written) (defBody s__law_written) (defScope s__law_written) .none kV24 dc24 pm24 an24 cd24 ct24), sl24⟩) (c24 : PySem.W.codeIn K cd24 "_law_written" = true) (k24 : PySem.W.keepIn K (.ref f24) = true)
    {f25 : Addr} {oc25 kV25 dc25 pm25 ct25 : Value} {od25 an25 : Option Addr} {sl25 : Array (Option Value)} (a25 : PySem.W.nsIn K mainGlobals "_law_joined" = some (some (.ref f25))) (l25 : K.lookup f25 = some ⟨oc25, od25, .func (PySem.W.fnOf "_law_joined" "_law_joined" (defArgs s__law_joined) (defBody s__law_joined) (defScope s__law_joined) .none kV25 dc25 pm25 an25 (.ref 173) ct25), sl25⟩) (c25 : PySem.W.codeIn K (.ref 173) "_law_joined" = true) (k25 : PySem.W.keepIn K (.ref f25) = true)
    (q25 : PySem.W.codeHdIn K 173 171 = true)
    {f26 : Addr} {oc26 kV26 dc26 pm26 cd26 ct26 : Value} {od26 an26 : Option Addr} {sl26 : Array (Option Value)} (a26 : PySem.W.nsIn K mainGlobals "law" = some (some (.ref f26))) (l26 : K.lookup f26 = some ⟨oc26, od26, .func (PySem.W.fnOf "law" "law" (defArgs s_law) (defBody s_law) (defScope s_law) .none kV26 dc26 pm26 an26 cd26 ct26), sl26⟩) (c26 : PySem.W.codeIn K cd26 "law" = true) (k26 : PySem.W.keepIn K (.ref f26) = true)
    {t_UP : Tok} (g_UP : PySem.W.nsIn K mainGlobals "UP" = some (some (.str "up" t_UP)))
    {t_DOWN : Tok} (g_DOWN : PySem.W.nsIn K mainGlobals "DOWN" = some (some (.str "down" t_DOWN)))
    (z_len : PySem.W.nsIn K mainGlobals "len" = some none)
    (z_isinstance : PySem.W.nsIn K mainGlobals "isinstance" = some none)
    (z_abs : PySem.W.nsIn K mainGlobals "abs" = some none)
    (z_min : PySem.W.nsIn K mainGlobals "min" = some none)
    (z_max : PySem.W.nsIn K mainGlobals "max" = some none)
    (z_range : PySem.W.nsIn K mainGlobals "range" = some none)
    (z_list : PySem.W.nsIn K mainGlobals "list" = some none)
    (z_tuple : PySem.W.nsIn K mainGlobals "tuple" = some none)
    (z_sorted : PySem.W.nsIn K mainGlobals "sorted" = some none)
    (z_set : PySem.W.nsIn K mainGlobals "set" = some none)
    (z_reversed : PySem.W.nsIn K mainGlobals "reversed" = some none)
    (z_str : PySem.W.nsIn K mainGlobals "str" = some none)
    (z_int : PySem.W.nsIn K mainGlobals "int" = some none)
    (z_bool : PySem.W.nsIn K mainGlobals "bool" = some none)
    (z_sum : PySem.W.nsIn K mainGlobals "sum" = some none)
    (z_any : PySem.W.nsIn K mainGlobals "any" = some none)
    (z_all : PySem.W.nsIn K mainGlobals "all" = some none)
    (z_dict : PySem.W.nsIn K mainGlobals "dict" = some none)
    (z_enumerate : PySem.W.nsIn K mainGlobals "enumerate" = some none)
    (z_zip : PySem.W.nsIn K mainGlobals "zip" = some none) :
    ∃ fd : FuncData, (∀ (s : Shared) (v : Value), BindsTo s fd ⟨[v], []⟩ [("_law_script", v)]) ∧ ∀ base : Heap, K.In base → base.Ns mainGlobals mg → BM mg base → FnOk l.prog w K mg base CX0 40 fa fd ["_law_script"] (sp_lawL K [171] TF) := by
  have e := hfa.symm.trans (PySem.W.mg_of X G a26)
  cases e
  have F0 := fun_mk (st := s_is_letter) l0 c0 k0
  have F1 := fun_mk (st := s_is_deed) l1 c1 k1
  have F2 := fun_mk (st := s_deed_turned) l2 c2 k2
  have F3 := fun_mk (st := s_has_deed_and_arms) l3 c3 k3
  have F4 := fun_mk (st := s_is_word) l4 c4 k4
  have F5 := fun_mk (st := s_standing_letters) l5 c5 k5
  have F6 := fun_mk (st := s_places_of) l6 c6 k6
  have F7 := fun_mk (st := s_letters_of) l7 c7 k7
  have F8 := fun_mk (st := s_joined_texts) l8 c8 k8
  have F9 := fun_mk (st := s_text_of) l9 c9 k9
  have F10 := fun_mk (st := s_gather_parts) l10 c10 k10
  have F11 := fun_mk (st := s_parts_of) l11 c11 k11
  have F12 := fun_mk (st := s_put_rows_in) l12 c12 k12
  have F13 := fun_mk (st := s_put_in) l13 c13 k13
  have F14 := fun_mk (st := s_word_turned) l14 c14 k14
  have F15 := fun_mk (st := s__law_bag) l15 c15 k15
  have F16 := fun_mk (st := s__law_draw) l16 c16 k16
  have F17 := fun_mk (st := s__law_many) l17 c17 k17
  have F18 := fun_mk (st := s__law_abc) l18 c18 k18
  have F19 := fun_mk (st := s__law_word) l19 c19 k19
  have F20 := fun_mk (st := s__law_places) l20 c20 k20
  have F21 := fun_mk (st := s__law_text) l21 c21 k21
  have F22 := fun_mk (st := s__law_signs) l22 c22 k22
  have F23 := fun_mk (st := s__law_choice) l23 c23 k23
  have F24 := fun_mk (st := s__law_written) l24 c24 k24
  have F25 := funT_mk (st := s__law_joined) l25 c25 k25
  have F26 := fun_mk (st := s_law) l26 c26 k26
  have D_is_letter : Def K mg "is_letter" s_is_letter P_is_letter := ⟨_, _, F0, F0.binds (ps := P_is_letter) fun _ _ _ _ _ _ us hl => match us, hl with | [_], _ => rfl, PySem.W.mg_of X G a0⟩
  have D_is_deed : Def K mg "is_deed" s_is_deed P_is_deed := ⟨_, _, F1, F1.binds (ps := P_is_deed) fun _ _ _ _ _ _ us hl => match us, hl with | [_], _ => rfl, PySem.W.mg_of X G a1⟩
  have D_deed_turned : Def K mg "deed_turned" s_deed_turned P_deed_turned := ⟨_, _, F2, F2.binds (ps := P_deed_turned) fun _ _ _ _ _ _ us hl => match us, hl with | [_], _ => rfl, PySem.W.mg_of X G a2⟩
  have D_has_deed_and_arms : Def K mg "has_deed_and_arms" s_has_deed_and_arms P_has_deed_and_arms := ⟨_, _, F3, F3.binds (ps := P_has_deed_and_arms) fun _ _ _ _ _ _ us hl => match us, hl with | [_], _ => rfl, PySem.W.mg_of X G a3⟩
  have D_is_word : Def K mg "is_word" s_is_word P_is_word := ⟨_, _, F4, F4.binds (ps := P_is_word) fun _ _ _ _ _ _ us hl => match us, hl with | [_], _ => rfl, PySem.W.mg_of X G a4⟩
  have D_standing_letters : Def K mg "standing_letters" s_standing_letters P_standing_letters := ⟨_, _, F5, F5.binds (ps := P_standing_letters) fun _ _ _ _ _ _ us hl => match us, hl with | [_], _ => rfl, PySem.W.mg_of X G a5⟩
  have D_places_of : Def K mg "places_of" s_places_of P_places_of := ⟨_, _, F6, F6.binds (ps := P_places_of) fun _ _ _ _ _ _ us hl => match us, hl with | [_], _ => rfl, PySem.W.mg_of X G a6⟩
  have D_letters_of : Def K mg "letters_of" s_letters_of P_letters_of := ⟨_, _, F7, F7.binds (ps := P_letters_of) fun _ _ _ _ _ _ us hl => match us, hl with | [_], _ => rfl, PySem.W.mg_of X G a7⟩
  have D_joined_texts : Def K mg "joined_texts" s_joined_texts P_joined_texts := ⟨_, _, F8, F8.binds (ps := P_joined_texts) fun _ _ _ _ _ _ us hl => match us, hl with | [_, _], _ => rfl, PySem.W.mg_of X G a8⟩
  have D_text_of : Def K mg "text_of" s_text_of P_text_of := ⟨_, _, F9, F9.binds (ps := P_text_of) fun _ _ _ _ _ _ us hl => match us, hl with | [_], _ => rfl, PySem.W.mg_of X G a9⟩
  have D_gather_parts : Def K mg "gather_parts" s_gather_parts P_gather_parts := ⟨_, _, F10, F10.binds (ps := P_gather_parts) fun _ _ _ _ _ _ us hl => match us, hl with | [_, _], _ => rfl, PySem.W.mg_of X G a10⟩
  have D_parts_of : Def K mg "parts_of" s_parts_of P_parts_of := ⟨_, _, F11, F11.binds (ps := P_parts_of) fun _ _ _ _ _ _ us hl => match us, hl with | [_], _ => rfl, PySem.W.mg_of X G a11⟩
  have D_put_rows_in : Def K mg "put_rows_in" s_put_rows_in P_put_rows_in := ⟨_, _, F12, F12.binds (ps := P_put_rows_in) fun _ _ _ _ _ _ us hl => match us, hl with | [_, _], _ => rfl, PySem.W.mg_of X G a12⟩
  have D_put_in : Def K mg "put_in" s_put_in P_put_in := ⟨_, _, F13, F13.binds (ps := P_put_in) fun _ _ _ _ _ _ us hl => match us, hl with | [_, _], _ => rfl, PySem.W.mg_of X G a13⟩
  have D_word_turned : Def K mg "word_turned" s_word_turned P_word_turned := ⟨_, _, F14, F14.binds (ps := P_word_turned) fun _ _ _ _ _ _ us hl => match us, hl with | [_], _ => rfl, PySem.W.mg_of X G a14⟩
  have D__law_bag : Def K mg "_law_bag" s__law_bag P__law_bag := ⟨_, _, F15, F15.binds (ps := P__law_bag) fun _ _ _ _ _ _ us hl => match us, hl with | [_, _], _ => rfl, PySem.W.mg_of X G a15⟩
  have D__law_draw : Def K mg "_law_draw" s__law_draw P__law_draw := ⟨_, _, F16, F16.binds (ps := P__law_draw) fun _ _ _ _ _ _ us hl => match us, hl with | [_, _], _ => rfl, PySem.W.mg_of X G a16⟩
  have D__law_many : Def K mg "_law_many" s__law_many P__law_many := ⟨_, _, F17, F17.binds (ps := P__law_many) fun _ _ _ _ _ _ us hl => match us, hl with | [_, _, _], _ => rfl, PySem.W.mg_of X G a17⟩
  have D__law_abc : Def K mg "_law_abc" s__law_abc P__law_abc := ⟨_, _, F18, F18.binds (ps := P__law_abc) fun _ _ _ _ _ _ us hl => match us, hl with | [_], _ => rfl, PySem.W.mg_of X G a18⟩
  have D__law_word : Def K mg "_law_word" s__law_word P__law_word := ⟨_, _, F19, F19.binds (ps := P__law_word) fun _ _ _ _ _ _ us hl => match us, hl with | [_, _, _], _ => rfl, PySem.W.mg_of X G a19⟩
  have D__law_places : Def K mg "_law_places" s__law_places P__law_places := ⟨_, _, F20, F20.binds (ps := P__law_places) fun _ _ _ _ _ _ us hl => match us, hl with | [_], _ => rfl, PySem.W.mg_of X G a20⟩
  have D__law_text : Def K mg "_law_text" s__law_text P__law_text := ⟨_, _, F21, F21.binds (ps := P__law_text) fun _ _ _ _ _ _ us hl => match us, hl with | [_], _ => rfl, PySem.W.mg_of X G a21⟩
  have D__law_signs : Def K mg "_law_signs" s__law_signs P__law_signs := ⟨_, _, F22, F22.binds (ps := P__law_signs) fun _ _ _ _ _ _ us hl => match us, hl with | [_], _ => rfl, PySem.W.mg_of X G a22⟩
  have D__law_choice : Def K mg "_law_choice" s__law_choice P__law_choice := ⟨_, _, F23, F23.binds (ps := P__law_choice) fun _ _ _ _ _ _ us hl => match us, hl with | [_, _, _], _ => rfl, PySem.W.mg_of X G a23⟩
  have D__law_written : Def K mg "_law_written" s__law_written P__law_written := ⟨_, _, F24, F24.binds (ps := P__law_written) fun _ _ _ _ _ _ us hl => match us, hl with | [_, _], _ => rfl, PySem.W.mg_of X G a24⟩
  have D__law_joined : DefT K mg "_law_joined" s__law_joined P__law_joined 173 := ⟨_, _, F25, F25.binds (ps := P__law_joined) fun _ _ _ _ _ _ us hl => match us, hl with | [_, _], _ => rfl, PySem.W.mg_of X G a25⟩
  have hk__law_joined := q25
  have hg_UP : Gv mg "UP" (.str "up") := ⟨_, PySem.W.mg_of X G g_UP, _, rfl⟩
  have hg_DOWN : Gv mg "DOWN" (.str "down") := ⟨_, PySem.W.mg_of X G g_DOWN, _, rfl⟩
  have hb : Blt mg := ⟨PySem.W.mg_none_of X G z_len, PySem.W.mg_none_of X G z_isinstance, PySem.W.mg_none_of X G z_abs, PySem.W.mg_none_of X G z_min, PySem.W.mg_none_of X G z_max, PySem.W.mg_none_of X G z_range, PySem.W.mg_none_of X G z_list, PySem.W.mg_none_of X G z_tuple, PySem.W.mg_none_of X G z_sorted, PySem.W.mg_none_of X G z_set, PySem.W.mg_none_of X G z_reversed, PySem.W.mg_none_of X G z_str, PySem.W.mg_none_of X G z_int, PySem.W.mg_none_of X G z_bool, PySem.W.mg_none_of X G z_sum, PySem.W.mg_none_of X G z_any, PySem.W.mg_none_of X G z_all, PySem.W.mg_none_of X G z_dict, PySem.W.mg_none_of X G z_enumerate, PySem.W.mg_none_of X G z_zip⟩
  refine ⟨PySem.W.fnOf "law" "law" (defArgs s_law) (defBody s_law) (defScope s_law) .none kV26 dc26 pm26 an26 cd26 ct26, fun s v => .of_eq rfl, fun base _ _ hbm => ?_⟩
  have G1 := ok_is_letter (P := l.prog) (w := w) (base := base) D_is_letter hb
  have G2 := ok_is_deed (P := l.prog) (w := w) (base := base) D_is_deed hb hg_UP hg_DOWN
  have G3d := ok_has_deed_and_arms D_has_deed_and_arms hb G2
  have GW := ok_is_word D_is_word hb G1 G3d
  have G3 := ok_joined_texts (P := l.prog) (w := w) (base := base) D_joined_texts hg_UP
  have G4 := ok_standing_letters D_standing_letters G1
  have G5 := ok_places_of D_places_of hb G4
  have G5b := ok_letters_of D_letters_of hb G4
  have GT : ∀ n : Nat, Fn l.prog w K mg base "text_of" (n + 2) P_text_of (sp_text n) := fun n => by
    induction n with
    | zero => exact Fn.none D_text_of fun vs H Q E ⟨_, _, _, _, _, _, h, _⟩ => absurd h (Nat.not_lt_zero _)
    | succ n ih => exact ok_text_of D_text_of G1 G3 ih
  have GG : ∀ n : Nat, Fn l.prog w K mg base "gather_parts" (n + 2) P_gather_parts (sp_gather n) := fun n => by
    induction n with
    | zero => exact Fn.none D_gather_parts fun vs H Q E ⟨_, _, _, _, _, _, _, _, h, _⟩ => absurd h (Nat.not_lt_zero _)
    | succ n ih => exact ok_gather_parts D_gather_parts G1 G3 ih
  have GP := ok_parts_of D_parts_of hb (GG 24)
  have GR : ∀ n : Nat, Fn l.prog w K mg base "put_rows_in" (n + 2) P_put_rows_in (sp_put_rows n) := fun n => by
    induction n with
    | zero => exact Fn.none D_put_rows_in fun vs H Q E ⟨_, _, _, _, _, _, _, _, h, _⟩ => absurd h (Nat.not_lt_zero _)
    | succ n ih => exact ok_put_rows_in D_put_rows_in G1 ih
  have GI := ok_put_in D_put_in (GR 24)
  have G2t := ok_deed_turned (P := l.prog) (w := w) (base := base) D_deed_turned hg_UP hg_DOWN
  have GTu : ∀ n : Nat, Fn l.prog w K mg base "word_turned" (n + 2) P_word_turned (sp_turn n) := fun n => by
    induction n with
    | zero => exact Fn.none D_word_turned fun vs H Q E ⟨_, _, _, _, _, _, h, _⟩ => absurd h (Nat.not_lt_zero _)
    | succ n ih => exact ok_word_turned D_word_turned G1 G2t ih
  have G6 := ok__law_bag (P := l.prog) (w := w) (base := base) D__law_bag hb
  have G7 := ok__law_draw (P := l.prog) (w := w) (base := base) D__law_draw
  have G8 := ok__law_many (P := l.prog) (w := w) (base := base) D__law_many hb
  have G9 := ok__law_abc D__law_abc G7
  have G10 : ∀ n : Nat, Fn l.prog w K mg base "_law_word" (n + 2) P__law_word (sp_word n) := fun n => by
    induction n with
    | zero => exact Fn.none D__law_word fun vs H Q E ⟨_, k, _, _, _, h1, h2, _⟩ => absurd (Nat.le_trans h1 h2) (by decide)
    | succ n ih => exact ok__law_word D__law_word hb G7 ih
  have G11 := ok__law_places D__law_places G7
  have G12 : ∀ n : Nat, Fn l.prog w K mg base "_law_text" (n + 1) P__law_text (sp_text n) := fun n => by
    induction n with
    | zero => exact Fn.none D__law_text fun vs H Q E ⟨_, _, _, _, _, _, h, _⟩ => absurd h (Nat.not_lt_zero _)
    | succ n ih => exact ok__law_text D__law_text hb ih
  have G13 := ok__law_signs D__law_signs (G12 24)
  have G15 := ok__law_choice D__law_choice hb G7 (G10 12)
  have GWr := ok__law_written D__law_written (G12 24)
  have GJ := ok__law_joined D__law_joined hb hk__law_joined hbm GI (by decide)
  exact ok_law (tf := TF) rfl F26 hb G8 G6 (G10 12) G9 G11 G13 G15 GI GW (GT 24) (G12 24) GWr GJ (GTu 24) GP G5 G5b
theorem walk {l : PySem.W.OpenLaw} {q : Program} {loose : List Str} {XP : (Str → Option Value) → Heap → Prop} {YP : World → Heap → Prop} {d : DefRec} {K : Params → PySem.W.Frag} (hn : l.most = some 63) (hdf : d.params.defaults = [])
    (hY : ∀ (w : World) (h : Heap), YP w h → (K w.params).In h ∧ ∀ P ∈ [171], h.get? P = some (PySem.W.tabObj #[])) (hC : ∀ w : World, ∀ P ∈ [171], (K w.params).lookup P = none ∧ ∃ c, PySem.W.codeHdIn (K w.params) c P = true)
    (F : ∀ (w : World) (mg : Str → Option Value) (fa : Addr) (h : Heap), (K w.params).In h → h.Ns mainGlobals mg → mg d.name = some (.ref fa) →
      ∃ fd : FuncData, (∀ (s : Shared) (u : Value), BindsTo s fd ⟨[u], []⟩ [("_law_script", u)]) ∧ ∀ base : Heap, (K w.params).In base → base.Ns mainGlobals mg → BM mg base → FnOk l.prog w (K w.params) mg base CX0 40 fa fd ["_law_script"] (sp_lawL (K w.params) [171] TF)) :
    PySem.W.WalkO q loose XP YP l.row.toRowW d [] (fun f vs => PySem.call f vs) :=
  L2.walk_ofL (n := 63) (k := 40) (x := "_law_script") (tf := TF) (sp := fun w => sp_lawL (K w.params) [171] TF) hn (by decide) hdf ⟨rfl, by decide, by decide⟩ hY hC HTF F (fun _ _ a ns hl hS hP => ⟨a, ns, rfl, hS, hl, hP, fun _ h => ⟨rfl, h⟩⟩)
end LW
open PySem PySem.W PyProof.Rows
local macro_rules | `(tactic| o_head ($f $k $a $e)) => `(tactic| o_head (PySem.W.kmHook $k $a $e [171]))
set_option maxRecDepth 100000 in
set_option maxHeartbeats 0 in
theorem PySem.Challenge.cw_eitherboth_k06_whole_words_put_in_twice_holds : PySem.Challenge.rw_eitherboth_k06_whole_words_put_in_twice.Holds := by
  w_on; o_law; k_head; (case hw => w_witness2)
  k_fill
  refine LW.walk (l := PySem.Challenge.rw_eitherboth_k06_whole_words_put_in_twice) rfl rfl (fun w h Y => ⟨PySem.W.km_in_of Y, PySem.W.km_tabs_of Y⟩) ?HC ?F
  case HC =>
    intro w
    exact List.forall_mem_cons.mpr ⟨⟨by kernel_rfl, 173, by kernel_rfl⟩, fun _ h => nomatch h⟩
  case F =>
    intro w mg fa h KX G hmg
    refine' LW.all_mk KX G hmg ?a0 ?l0 ?c0 ?k0 ?a1 ?l1 ?c1 ?k1 ?a2 ?l2 ?c2 ?k2 ?a3 ?l3 ?c3 ?k3 ?a4 ?l4 ?c4 ?k4 ?a5 ?l5 ?c5 ?k5 ?a6 ?l6 ?c6 ?k6 ?a7 ?l7 ?c7 ?k7 ?a8 ?l8 ?c8 ?k8 ?a9 ?l9 ?c9 ?k9 ?a10 ?l10 ?c10 ?k10 ?a11 ?l11 ?c11 ?k11 ?a12 ?l12 ?c12 ?k12 ?a13 ?l13 ?c13 ?k13 ?a14 ?l14 ?c14 ?k14 ?a15 ?l15 ?c15 ?k15 ?a16 ?l16 ?c16 ?k16 ?a17 ?l17 ?c17 ?k17 ?a18 ?l18 ?c18 ?k18 ?a19 ?l19 ?c19 ?k19 ?a20 ?l20 ?c20 ?k20 ?a21 ?l21 ?c21 ?k21 ?a22 ?l22 ?c22 ?k22 ?a23 ?l23 ?c23 ?k23 ?a24 ?l24 ?c24 ?k24 ?a25 ?l25 ?c25 ?k25 ?q25 ?a26 ?l26 ?c26 ?k26 ?g_UP ?g_DOWN ?z_len ?z_isinstance ?z_abs ?z_min ?z_max ?z_range ?z_list ?z_tuple ?z_sorted ?z_set ?z_reversed ?z_str ?z_int ?z_bool ?z_sum ?z_any ?z_all ?z_dict ?z_enumerate ?z_zip
    (case a0 => k_is)
    (case l0 => k_is)
    (case c0 => k_is)
    (case k0 => k_is)
    (case a1 => k_is)
    (case l1 => k_is)
    (case c1 => k_is)
    (case k1 => k_is)
    (case a2 => k_is)
    (case l2 => k_is)
    (case c2 => k_is)
    (case k2 => k_is)
    (case a3 => k_is)
    (case l3 => k_is)
    (case c3 => k_is)
    (case k3 => k_is)
    (case a4 => k_is)
    (case l4 => k_is)
    (case c4 => k_is)
    (case k4 => k_is)
    (case a5 => k_is)
    (case l5 => k_is)
    (case c5 => k_is)
    (case k5 => k_is)
    (case a6 => k_is)
    (case l6 => k_is)
    (case c6 => k_is)
    (case k6 => k_is)
    (case a7 => k_is)
    (case l7 => k_is)
    (case c7 => k_is)
    (case k7 => k_is)
    (case a8 => k_is)
    (case l8 => k_is)
    (case c8 => k_is)
    (case k8 => k_is)
    (case a9 => k_is)
    (case l9 => k_is)
    (case c9 => k_is)
    (case k9 => k_is)
    (case a10 => k_is)
    (case l10 => k_is)
    (case c10 => k_is)
    (case k10 => k_is)
    (case a11 => k_is)
    (case l11 => k_is)
    (case c11 => k_is)
    (case k11 => k_is)
    (case a12 => k_is)
    (case l12 => k_is)
    (case c12 => k_is)
    (case k12 => k_is)
    (case a13 => k_is)
    (case l13 => k_is)
    (case c13 => k_is)
    (case k13 => k_is)
    (case a14 => k_is)
    (case l14 => k_is)
    (case c14 => k_is)
    (case k14 => k_is)
    (case a15 => k_is)
    (case l15 => k_is)
    (case c15 => k_is)
    (case k15 => k_is)
    (case a16 => k_is)
    (case l16 => k_is)
    (case c16 => k_is)
    (case k16 => k_is)
    (case a17 => k_is)
    (case l17 => k_is)
    (case c17 => k_is)
    (case k17 => k_is)
    (case a18 => k_is)
    (case l18 => k_is)
    (case c18 => k_is)
    (case k18 => k_is)
    (case a19 => k_is)
    (case l19 => k_is)
    (case c19 => k_is)
    (case k19 => k_is)
    (case a20 => k_is)
    (case l20 => k_is)
    (case c20 => k_is)
    (case k20 => k_is)
    (case a21 => k_is)
    (case l21 => k_is)
    (case c21 => k_is)
    (case k21 => k_is)
    (case a22 => k_is)
    (case l22 => k_is)
    (case c22 => k_is)
    (case k22 => k_is)
    (case a23 => k_is)
    (case l23 => k_is)
    (case c23 => k_is)
    (case k23 => k_is)
    (case a24 => k_is)
    (case l24 => k_is)
    (case c24 => k_is)
    (case k24 => k_is)
    (case a25 => k_is)
    (case l25 => k_is)
    (case c25 => k_is)
    (case k25 => k_is)
    (case q25 => kernel_rfl)
    (case a26 => k_is)
    (case l26 => k_is)
    (case c26 => k_is)
    (case k26 => k_is)
    (case g_UP => k_is)
    (case g_DOWN => k_is)
    (case z_len => k_is)
    (case z_isinstance => k_is)
    (case z_abs => k_is)
    (case z_min => k_is)
    (case z_max => k_is)
    (case z_range => k_is)
    (case z_list => k_is)
    (case z_tuple => k_is)
    (case z_sorted => k_is)
    (case z_set => k_is)
    (case z_reversed => k_is)
    (case z_str => k_is)
    (case z_int => k_is)
    (case z_bool => k_is)
    (case z_sum => k_is)
    (case z_any => k_is)
    (case z_all => k_is)
    (case z_dict => k_is)
    (case z_enumerate => k_is)
    (case z_zip => k_is)
