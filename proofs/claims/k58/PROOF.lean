import PyProof.Rows.All
import Wide.All
import OpenK.AllK
import Wide.FinOn
import Lean
import PyProof.EqAt
import PyProof.EqKinds
import PyProof.TupleCall
import PySem.Challenge.RW_holdsets_k58_far_heaps
import PyProof.NeKinds
import KE.KSortTup
import KE.KDictSum
import PyProof.Draws
import PyProof.EnumFor
import PyProof.EnumMake
import PyProof.ListRange
import PyProof.TupleOfStr
import OpenK.KMake
import OpenK.KOwn
import OpenK.KRaise
import OpenK.KMore
import KE.KTryMore
import KE.KTryOn
import PyProof.NsDelKeeps
import PyProof.Rows.SumAny
import KE.BitLaws
import KE.KMinKey
import PyProof.Rows.CallKwBuiltin
import PyProof.WalksMore
import PyProof.Rows.TupIter
import PyProof.RangeFor
import PyProof.Rows.SeqRoads
import PyProof.Rows.SeqRange
import PyProof.Rows.FStr
import PyProof.DictWalks
import PyProof.Rows.Range3
import PyProof.Rows.TupIn
set_option Elab.async false
set_option linter.all false
set_option maxRecDepth 100000
set_option maxHeartbeats 4000000
/-! ### no twins of the greatest written values: they are not needed, and the compiled text stays small -/
def PySem.W.Fast.tw10391720228660356098 : Unit := ()
def PySem.W.Fast.tw7394495111246248275 : Unit := ()
def PySem.W.Fast.tw8823898517545535405 : Unit := ()
def PySem.W.Fast.tw9212749504279646656 : Unit := ()
def PySem.W.Fast.tw7146233778575309998 : Unit := ()
def PySem.W.Fast.tw3817349534222115956 : Unit := ()
def PySem.W.Fast.tw7781179199452536429 : Unit := ()
def PySem.W.Fast.tw5187983389301135220 : Unit := ()
def PySem.W.Fast.tw5677592944059881258 : Unit := ()
def PySem.W.Fast.tw9523237448700384964 : Unit := ()
def PySem.W.Fast.tw2305405792549134554 : Unit := ()
def PySem.W.Fast.tw8250649523321262825 : Unit := ()
def PySem.W.Fast.tw16072708603522311931 : Unit := ()
def PySem.W.Fast.tw7504747805038820326 : Unit := ()
def PySem.W.Fast.tw7575586509366713203 : Unit := ()
def PySem.W.Fast.tw2674907280398845194 : Unit := ()

namespace L2
open PySem PySem.Spec PyProof.Rows

abbrev Key := Sum Int Str
def keyIs : Key → Value → Bool
  | .inl k, v => Value.isInt k v
  | .inr x, v => Value.isStrOf x v
def keyH (w : World) : Key → Int
  | .inl k => hashInt k
  | .inr x => hashStr w x
theorem keyIs_shape : ∀ {k : Key} {v : Value}, keyIs k v = true → (∃ i t, k = Sum.inl i ∧ v = Value.int i t) ∨ (∃ x t, k = Sum.inr x ∧ v = Value.str x t)
  | .inl i, v, h => by
    obtain ⟨t, e⟩ := Value.isInt_shape (k := i) (v := v) h
    exact .inl ⟨i, t, rfl, e⟩
  | .inr x, v, h => by
    obtain ⟨t, e⟩ := Value.isStrOf_shape (x := x) (v := v) h
    exact .inr ⟨x, t, rfl, e⟩
theorem keyIs_int (i : Int) (t : Tok) : keyIs (.inl i) (.int i t) = true := by simp [keyIs, Value.isInt]
theorem keyIs_str (x : Str) (t : Tok) : keyIs (.inr x) (.str x t) = true := by simp [keyIs, Value.isStrOf]
theorem key_ll (a b : Int) : decide ((Sum.inl a : Key) = Sum.inl b) = (a == b) := by
  by_cases e : a = b
  · subst e; simp
  · have h : ¬ (Sum.inl a : Key) = Sum.inl b := fun q => e (Sum.inl.inj q)
    rw [decide_eq_false h]
    exact (beq_eq_false_iff_ne.mpr e).symm
theorem key_rr (a b : Str) : decide ((Sum.inr a : Key) = Sum.inr b) = decide (a = b) := by
  by_cases e : a = b
  · subst e; simp
  · have h : ¬ (Sum.inr a : Key) = Sum.inr b := fun q => e (Sum.inr.inj q)
    rw [decide_eq_false h, decide_eq_false e]
theorem key_lr (a : Int) (b : Str) : decide ((Sum.inl a : Key) = Sum.inr b) = false := decide_eq_false (fun q => nomatch q)
theorem key_rl (a : Str) (b : Int) : decide ((Sum.inr a : Key) = Sum.inl b) = false := decide_eq_false (fun q => nomatch q)

def mixKind (prog : Program) (w : World) : PySem.KeyKind prog w Key where
  is := keyIs
  hash := keyH w
  inj := fun v a b ha hb => by
    rcases keyIs_shape ha with ⟨i, t, rfl, rfl⟩ | ⟨x, t, rfl, rfl⟩
    · rcases keyIs_shape hb with ⟨j, u, rfl, e⟩ | ⟨y, u, rfl, e⟩
      · injection e with e1 _; rw [e1]
      · exact nomatch e
    · rcases keyIs_shape hb with ⟨j, u, rfl, e⟩ | ⟨y, u, rfl, e⟩
      · exact nomatch e
      · injection e with e1 _; rw [e1]
  byValue := fun k v h => by
    rcases keyIs_shape h with ⟨i, t, rfl, rfl⟩ | ⟨x, t, rfl, rfl⟩ <;> rfl
  pyHash := fun hv h => by
    rcases keyIs_shape hv with ⟨i, t, rfl, rfl⟩ | ⟨x, t, rfl, rfl⟩
    · exact wpAny_pyHash_int h
    · exact wpAny_pyHash_str h
  eqBool := fun hu hv h => by
    rcases keyIs_shape hu with ⟨i, t, rfl, rfl⟩ | ⟨x, t, rfl, rfl⟩
    · rcases keyIs_shape hv with ⟨j, u, rfl, rfl⟩ | ⟨y, u, rfl, rfl⟩
      · rw [key_ll] at h; exact wpAny_eqBool_int h
      · rw [key_lr] at h; exact SeqAt.EqAt.int_str i t y u _ _ _ _ h
    · rcases keyIs_shape hv with ⟨j, u, rfl, rfl⟩ | ⟨y, u, rfl, rfl⟩
      · rw [key_rl] at h; exact SeqAt.EqAt.str_int x t j u _ _ _ _ h
      · rw [key_rr] at h; exact wpAny_eqBool_str h
  «strs» := fun k x t v h => by
    rcases keyIs_shape h with ⟨i, u, rfl, e⟩ | ⟨y, u, rfl, e⟩
    · exact nomatch e
    · injection e with e1 _
      subst e1
      cases v <;> rfl

theorem mixKind_int (prog : Program) (w : World) (i : Int) (t : Tok) : (mixKind prog w).is (.inl i) (.int i t) = true := keyIs_int i t
theorem mixKind_str (prog : Program) (w : World) (x : Str) (t : Tok) : (mixKind prog w).is (.inr x) (.str x t) = true := keyIs_str x t
end L2

namespace L2
open PySem PySem.Spec PyProof.Rows

inductive V where
  | non | bl (b : Bool) | int (i : Int) | str (x : Str) | byt (b : Array UInt8) | flt (b : UInt64) | ref (a : Addr) | ty (n : String)
  deriving DecidableEq

def RelV : V → Value → Prop
  | .non, u => u = Value.none
  | .bl b, u => u = Value.bool b
  | .int i, u => ∃ t, u = Value.int i t
  | .str x, u => ∃ t, u = Value.str x t
  | .byt b, u => ∃ t, u = Value.bytes b t
  | .flt b, u => ∃ t, u = Value.float b t
  | .ref a, u => u = Value.ref a
  | .ty n, u => u = Value.type n

abbrev Vals : List V → List Value → Prop := Paired RelV
theorem Vals.length {xs : List V} {us : List Value} (r : Vals xs us) : xs.length = us.length := Paired.length r
theorem Vals.get : ∀ {xs : List V} {us : List Value} {i : Nat} {x : V}, Vals xs us → xs[i]? = some x → ∃ u, us[i]? = some u ∧ RelV x u
  | _, _, _, _, .nil, e => by simp at e
  | _, _, 0, _, .cons r _, e => by simp at e; subst e; exact ⟨_, rfl, r⟩
  | _, _, i + 1, x, .cons _ t, e => by
    obtain ⟨u, h1, h2⟩ := Vals.get (i := i) (x := x) t (by simpa using e)
    exact ⟨u, by simpa using h1, h2⟩
theorem Vals.set {x : V} {u : Value} (r : RelV x u) : ∀ {xs : List V} {us : List Value} (i : Nat), Vals xs us → Vals (xs.set i x) (us.set i u)
  | _, _, _, .nil => .nil
  | _, _, 0, .cons _ t => .cons r t
  | _, _, i + 1, .cons q t => .cons q (Vals.set r i t)
theorem Vals.append : ∀ {xs ys : List V} {us ws : List Value}, Vals xs us → Vals ys ws → Vals (xs ++ ys) (us ++ ws)
  | _, _, _, _, .nil, s => s
  | _, _, _, _, .cons r t, s => .cons r (Vals.append t s)
theorem Vals.take : ∀ {xs : List V} {us : List Value} (n : Nat), Vals xs us → Vals (xs.take n) (us.take n)
  | _, _, 0, _ => .nil
  | _, _, _ + 1, .nil => .nil
  | _, _, n + 1, .cons r t => .cons r (Vals.take n t)
theorem Vals.drop : ∀ {xs : List V} {us : List Value} (n : Nat), Vals xs us → Vals (xs.drop n) (us.drop n)
  | _, _, 0, r => r
  | _, _, _ + 1, .nil => .nil
  | _, _, n + 1, .cons _ t => Vals.drop n t
def RelO : Option V → Option Value → Prop
  | some v, some u => RelV v u
  | none, none => True
  | _, _ => False
def KV {κ : Type} : List (κ × V) → List (κ × Value) → Prop := Paired fun (p : κ × V) (q : κ × Value) => p.1 = q.1 ∧ RelV p.2 q.2

def kV : Key → V
  | .inl i => .int i
  | .inr x => .str x

inductive HO where
  /-- a list -/
  | lst (xs : List V)
  /-- a tuple (never changes) -/
  | tup (xs : List V)
  /-- a dict whose keys are ints and texts; one whose keys are tuples of ints and texts (the empty one is both) -/
  | dK (kvs : List (Key × V)) | dT (kvs : List (List Key × V))
  /-- a set of ints: its members, its size -/
  | set (S : Int → Bool) (n : Nat)
  /-- an instance of the class at C, its dict at dx, its attributes -/
  | ins (C dx : Addr) (fs : List (Str × V))
  /-- the dict of the instance at x -/
  | own (x : Addr)
  /-- the dict of an exception -/
  | xd (fs : List (Str × V))
  /-- a bound method, f of x -/
  | met (f x : Addr)
  /-- a range object lo, lo + 1, .. below hi -/
  | rng (lo hi : Int)
  /-- a thing that is known to the object (the script; a dict while a loop walks it): read, never written while it is so -/
  | frz (o : Obj) (u : HO)
  /-- a code object's table -/
  | tbl (ps : Array Value)
  /-- any other thing, by what is true of its one object (a def of one's own: SetO a S n := HO.ext fun h => ..) -/
  | ext (φ : Heap → Prop)

abbrev Hp := Addr → Option HO
def upd (H : Hp) (a : Addr) (o : HO) : Hp := fun b => if b = a then some o else H b
theorem upd_same {H : Hp} {a : Addr} {o : HO} : upd H a o a = some o := by unfold upd; rw [if_pos rfl]
theorem upd_ne {H : Hp} {a b : Addr} {o : HO} (h : b ≠ a) : upd H a o b = H b := by unfold upd; rw [if_neg h]
theorem ne_of {H : Hp} {a b : Addr} {o u : HO} (h : H a = some o) (h' : H b = some u) (d : o ≠ u) : a ≠ b := by
  intro e; subst e; rw [h] at h'; exact d (Option.some.inj h')
theorem ne_of_none {H : Hp} {a b : Addr} {o : HO} (h : H a = some o) (h' : H b = none) : a ≠ b := by
  intro e; subst e; rw [h] at h'; cases h'

section
variable (P : Program) (w : World)
def ObjOk (H : Hp) (h : Heap) (a : Addr) : HO → Prop
  | .lst xs => xs.length ≤ sizeLine ∧ ∃ (its : List Value) (n : Nat), Vals xs its ∧ h.get? a = some { cls := .type "list", data := .seq its.toArray n }
  | .tup xs => xs.length ≤ sizeLine ∧ ∃ its : List Value, Vals xs its ∧ IsTup h a its.toArray
  | .dK kvs => kvs.length ≤ sizeLine ∧ (a == sysModules) = false ∧ ∃ vs, KV kvs vs ∧ h.DictOf (mixKind P w) a vs
  | .dT kvs => kvs.length ≤ sizeLine ∧ (a == sysModules) = false ∧ ∃ xs : List (List Key × Addr × Value),
      Paired (fun (p : List Key × V) (q : List Key × Addr × Value) => p.1 = q.1 ∧ H q.2.1 = some (.tup (p.1.map kV)) ∧ RelV p.2 q.2.2) kvs xs ∧
      ∃ o es ep, h.get? a = some o ∧ o.ExactDict ∧ o.data = .dict es ep ∧ es.toList = xs.map (entryOfKey (tupleKind (mixKind P w))) ∧ (xs.map (·.1)).Nodup
  | .set S n => h.SetOf (intKind P w) a S n
  | .ins C dx fs => H dx = some (.own a) ∧ fs.length ≤ 1000 ∧ dx ≠ a ∧ h.get? a = some (PySem.W.instObj C dx) ∧
      ∃ mA, h.Ns1 dx mA ∧ (∀ f, RelO (fs.lookup f) (mA f)) ∧ PySem.Within mA (fs.map (·.1))
  | .own _ => ∃ o, h.get? a = some o
  | .xd fs => ∃ mA, h.Ns1 a mA ∧ ∀ f, RelO (fs.lookup f) (mA f)
  | .rng lo hi => ∃ t u v, h.get? a = some { cls := .type "range", data := .fields #[.int lo t, .int hi u, .int 1 v] }
  | .frz o u => h.get? a = some o ∧ ObjOk H h a u
  | .tbl ps => h.get? a = some { cls := .none, data := .fields ps }
  | .met f x => h.get? a = some (PySem.W.methodObj (.ref f) (.ref x))
  | .ext φ => φ h ∧ (∃ o, h.get? a = some o) ∧ ∀ h1 h2 : Heap, φ h1 → (∀ o, h1.get? a = some o → h2.get? a = some o) → φ h2
def HOk (H : Hp) (h : Heap) : Prop := ∀ a o, H a = some o → ObjOk P w H h a o
end

section
variable {P : Program} {w : World} {H H' : Hp} {h h' : Heap} {a : Addr} {o : HO}
theorem ObjOk.lt (x : ObjOk P w H h a o) : a < h.objs.size := by
  cases o with
  | lst xs => obtain ⟨_, _, _, _, e⟩ := x; exact Heap.lt_size e
  | tup xs => obtain ⟨_, _, _, p⟩ := x; exact p.lt
  | dK kvs => obtain ⟨_, _, _, _, o, _, _, e, _⟩ := x; exact Heap.lt_size e
  | dT kvs => obtain ⟨_, _, _, _, o, _, _, e, _⟩ := x; exact Heap.lt_size e
  | set S n => obtain ⟨o, _, _, _, e, _⟩ := x; exact Heap.lt_size e
  | ins C dx fs => obtain ⟨_, _, _, e, _⟩ := x; exact Heap.lt_size e
  | own y => obtain ⟨_, e⟩ := x; exact Heap.lt_size e
  | xd fs => obtain ⟨_, ⟨_, _, _, e, _⟩, _⟩ := x; exact Heap.lt_size e
  | rng lo hi => obtain ⟨_, _, _, e⟩ := x; exact Heap.lt_size e
  | frz ob u => obtain ⟨e, _⟩ := x; exact Heap.lt_size e
  | tbl ps => exact Heap.lt_size (show h.get? a = some _ from x)
  | met f y => exact Heap.lt_size (show h.get? a = some _ from x)
  | ext φ => obtain ⟨_, ⟨_, e⟩, _⟩ := x; exact Heap.lt_size e
theorem Paired.mapP {α β : Type} {F G : α → β → Prop} : ∀ {l₁ : List α} {l₂ : List β}, Paired F l₁ l₂ → (∀ a b, F a b → G a b) → Paired G l₁ l₂
  | _, _, .nil, _ => .nil
  | _, _, .cons r t, f => .cons (f _ _ r) (Paired.mapP t f)
theorem ObjOk.stay (x : ObjOk P w H h a o) (k : ∀ b u, (b = a ∨ H b = some (.own a)) → h.get? b = some u → h'.get? b = some u)
    (ho : ∀ b, H b = some (.own a) → H' b = some (.own a)) (ht : ∀ b xs, H b = some (.tup xs) → H' b = some (.tup xs)) : ObjOk P w H' h' a o := by
  induction o with
  | lst xs => obtain ⟨z, its, n, r, e⟩ := x; exact ⟨z, its, n, r, k _ _ (.inl rfl) e⟩
  | tup xs => obtain ⟨z, its, r, ob, e, c⟩ := x; exact ⟨z, its, r, ob, k _ _ (.inl rfl) e, c⟩
  | dK kvs => obtain ⟨z, y, vs, r, ob, es, ep, e, c⟩ := x; exact ⟨z, y, vs, r, ob, es, ep, k _ _ (.inl rfl) e, c⟩
  | dT kvs =>
    obtain ⟨z, y, xs, r, ob, es, ep, e, c⟩ := x
    exact ⟨z, y, xs, Paired.mapP r fun p q z => ⟨z.1, ht _ _ z.2.1, z.2.2⟩, ob, es, ep, k _ _ (.inl rfl) e, c⟩
  | set S n => obtain ⟨ob, es, ep, t, e, c⟩ := x; exact ⟨ob, es, ep, t, k _ _ (.inl rfl) e, c⟩
  | ins C dx fs =>
    obtain ⟨d, z, ne, e, mA, ⟨od, es, ep, e2, c⟩, r⟩ := x
    exact ⟨ho _ d, z, ne, k _ _ (.inl rfl) e, mA, ⟨od, es, ep, k _ _ (.inr d) e2, c⟩, r⟩
  | own y => obtain ⟨ob, e⟩ := x; exact ⟨ob, k _ _ (.inl rfl) e⟩
  | xd fs => obtain ⟨mA, ⟨od, es, ep, e, c⟩, r⟩ := x; exact ⟨mA, ⟨od, es, ep, k _ _ (.inl rfl) e, c⟩, r⟩
  | rng lo hi => obtain ⟨t, u, v, e⟩ := x; exact ⟨t, u, v, k _ _ (.inl rfl) e⟩
  | frz ob u ih => obtain ⟨e, q⟩ := x; exact ⟨k _ _ (.inl rfl) e, ih q⟩
  | tbl ps =>
    have e : h.get? a = some { cls := .none, data := .fields ps } := x
    show h'.get? a = some { cls := .none, data := .fields ps }
    exact k a _ (.inl rfl) e
  | met f y =>
    have e : h.get? a = some (PySem.W.methodObj (.ref f) (.ref y)) := x
    show h'.get? a = some (PySem.W.methodObj (.ref f) (.ref y))
    exact k a _ (.inl rfl) e
  | ext φ => obtain ⟨p, ⟨o, e⟩, st⟩ := x; exact ⟨st _ _ p fun o q => k _ _ (.inl rfl) q, ⟨o, k _ _ (.inl rfl) e⟩, st⟩
theorem HOk.lt (x : HOk P w H h) (e : H a = some o) : a < h.objs.size := (x a o e).lt
theorem HOk.fresh (x : HOk P w H h) (e : h.objs.size ≤ a) : H a = none := by
  cases q : H a with
  | none => rfl
  | some u => exact absurd (Nat.lt_of_lt_of_le (x.lt q) e) (Nat.lt_irrefl _)
theorem HOk.kept (x : HOk P w H h) (k : ∀ b u, h.get? b = some u → h'.get? b = some u) : HOk P w H h' := fun a o e =>
  (x a o e).stay (fun b u _ q => k b u q) (fun _ q => q) fun _ _ q => q
theorem HOk.laid (x : HOk P w H h) (k : ∀ b u, h.get? b = some u → h'.get? b = some u) (hp : h.objs.size ≤ a) (new : ObjOk P w (upd H a o) h' a o) : HOk P w (upd H a o) h' := fun b u e => by
  have hn := x.fresh hp
  by_cases hb : b = a
  · subst hb; rw [upd_same] at e; cases e; exact new
  · rw [upd_ne hb] at e
    exact (x b u e).stay (fun c v _ q => k c v q) (fun c q => by rw [upd_ne (ne_of_none q hn)]; exact q) fun c xs q => by rw [upd_ne (ne_of_none q hn)]; exact q
end

def Rd (H : Hp) (a : Addr) (u : HO) : Prop := H a = some u ∨ ∃ o, H a = some (.frz o u)
theorem Rd.ok {P : Program} {w : World} {H : Hp} {h : Heap} {a : Addr} {u : HO} (r : Rd H a u) (x : HOk P w H h) : ObjOk P w H h a u := by
  rcases r with r | ⟨o, r⟩
  · exact x a u r
  · obtain ⟨_, q⟩ := x a _ r
    exact q
def Mut : Option HO → Prop
  | some (.lst _) => True
  | some (.dK _) => True
  | some (.dT _) => True
  | some (.set _ _) => True
  | some (.ins _ _ _) => True
  | some (.ext _) => True
  | _ => False
section
variable {P : Program} {w : World} {H : Hp} {h h' : Heap} {x e : Addr} {o' : HO}
theorem HOk.write (ok : HOk P w H h) (mu : Mut (H x)) (he : e = x ∨ H e = some (.own x)) (k : ∀ b u, b ≠ e → h.get? b = some u → h'.get? b = some u) (heo : ∃ u, h'.get? e = some u)
    (new : ObjOk P w (upd H x o') h' x o') : HOk P w (upd H x o') h' := fun b u q => by
  have nown : ∀ c y, H c = some (.own y) → c ≠ x := fun c y r z => by subst z; rw [r] at mu; exact mu
  have ntup : ∀ c xs, H c = some (.tup xs) → c ≠ x := fun c xs r z => by subst z; rw [r] at mu; exact mu
  by_cases hb : b = x
  · subst hb; rw [upd_same] at q; cases q; exact new
  · rw [upd_ne hb] at q
    by_cases hbe : b = e
    · have q' : H b = some (.own x) := by
        rcases he with z | z
        · exact absurd (hbe.trans z) hb
        · rw [hbe]; exact z
      rw [q] at q'; cases q'
      obtain ⟨v, hv⟩ := heo
      exact ⟨v, by rw [hbe]; exact hv⟩
    · refine (ok b u q).stay (fun c v hc r => k c v ?_ r) (fun c r => by rw [upd_ne (nown c b r)]; exact r) fun c xs r => by rw [upd_ne (ntup c xs r)]; exact r
      rcases hc with rfl | hc
      · exact hbe
      · rintro rfl
        rcases he with z | z
        · exact nown c b hc z
        · rw [hc] at z; cases z; exact hb rfl
end

structure Un (fs ex : List Addr) (H H' : Hp) (h h' : Heap) : Prop where
  keep : ∀ b o, h.get? b = some o → H b = none → b ∉ fs → b ∉ ex → h'.get? b = some o
  slot : ∀ b o, h.get? b = some o → H b = none → b ∈ fs → b ∉ ex → ∃ sl, h'.get? b = some { o with slots := sl }
  free : ∀ b o, h.get? b = some o → H b = none → b ∉ ex → H' b = none
  there : ∀ b o, h.get? b = some o → b ∉ ex → ∃ o', h'.get? b = some o'
  tups : ∀ b xs, H b = some (.tup xs) → H' b = some (.tup xs)
  frzs : ∀ b o u, H b = some (.frz o u) → H' b = some (.frz o u)
  tbls : ∀ b ps, H b = some (.tbl ps) → ∃ more, H' b = some (.tbl (ps ++ more))
section
variable {fs fs' ex ex' : List Addr} {H H1 H2 : Hp} {h h1 h2 h' : Heap} {a x e : Addr} {o : HO}
theorem Un.any (u : Un fs ex H H1 h h1) {b : Addr} {ob : Obj} (q : h.get? b = some ob) (n : H b = none) (hx : b ∉ ex) : ∃ sl, h1.get? b = some { ob with slots := sl } := by
  by_cases hb : b ∈ fs
  · exact u.slot b ob q n hb hx
  · exact ⟨ob.slots, u.keep b ob q n hb hx⟩
theorem Un.kept (k : ∀ b u, h.get? b = some u → h'.get? b = some u) : Un fs ex H H h h' :=
  ⟨fun b ob q _ _ _ => k b ob q, fun b ob q _ _ _ => ⟨ob.slots, k b ob q⟩, fun _ _ _ n _ => n, fun b ob q _ => ⟨ob, k b ob q⟩, fun _ _ q => q, fun _ _ _ q => q, fun _ ps q => ⟨#[], by rw [q]; simp⟩⟩
theorem Un.refl : Un fs ex H H h h := Un.kept fun _ _ q => q
theorem Un.laid (k : ∀ b u, h.get? b = some u → h'.get? b = some u) (hp : h.objs.size ≤ a) (hn : H a = none) : Un fs ex H (upd H a o) h h' where
  keep := fun b u q _ _ _ => k b u q
  slot := fun b u q _ _ _ => ⟨u.slots, k b u q⟩
  free := fun b u q n _ => by rw [upd_ne (Nat.ne_of_lt (Nat.lt_of_lt_of_le (Heap.lt_size q) hp))]; exact n
  there := fun b u q _ => ⟨u, k b u q⟩
  tups := fun b xs q => by rw [upd_ne (ne_of_none q hn)]; exact q
  frzs := fun b u xs q => by rw [upd_ne (ne_of_none q hn)]; exact q
  tbls := fun b ps q => ⟨#[], by rw [upd_ne (ne_of_none q hn), q]; simp⟩
theorem Un.write (mu : Mut (H x)) (he : e = x ∨ H e = some (.own x)) (k : ∀ b u, b ≠ e → h.get? b = some u → h'.get? b = some u) (heo : ∃ u, h'.get? e = some u) : Un fs ex H (upd H x o) h h' := by
  have hx : ∀ b, H b = none → b ≠ x := fun b n z => by subst z; rw [n] at mu; exact mu
  have hb : ∀ b, H b = none → b ≠ e := fun b n z => by
    subst z
    rcases he with r | r
    · exact hx b n r
    · rw [n] at r; cases r
  have hm : ∀ b u, H b = some u → ¬ Mut (some u) → b ≠ x := fun b u q nm z => by subst z; rw [q] at mu; exact nm mu
  refine ⟨fun b u q n _ _ => k b u (hb b n) q, fun b u q n _ _ => ⟨u.slots, k b u (hb b n) q⟩, fun b u q n _ => by rw [upd_ne (hx b n)]; exact n, fun b u q _ => ?_,
    fun b xs q => by rw [upd_ne (hm b _ q fun z => z)]; exact q, fun b u xs q => by rw [upd_ne (hm b _ q fun z => z)]; exact q, fun b ps q => ⟨#[], by rw [upd_ne (hm b _ q fun z => z), q]; simp⟩⟩
  by_cases hbe : b = e
  · subst hbe; exact heo
  · exact ⟨u, k b u hbe q⟩
end

def trk (h : Heap) (H : Hp) : List Addr := (List.range h.objs.size).filter fun a => (H a).isSome
def hidT (h : Heap) (H : Hp) : Heap := PySem.W.hideAll h (trk h H)
theorem hidT_size (h : Heap) (H : Hp) : (hidT h H).objs.size = h.objs.size := PySem.W.hideAll_size _ _
theorem hidT_get {h : Heap} {H : Hp} {b : Addr} {o : Obj} (e : h.get? b = some o) (n : H b = none) : (hidT h H).get? b = some o :=
  PySem.W.hideAll_get _ e fun hm => by
    have q : (H b).isSome = true := (List.mem_filter.mp hm).2
    rw [n] at q; simp at q
theorem of_hidT {h : Heap} {H : Hp} {b : Addr} {o : Obj} (e : (hidT h H).get? b = some o) : h.get? b = some o ∧ H b = none := by
  have e' : h.get? b = some o := PySem.W.of_hideAll (trk h H) e
  refine ⟨e', ?_⟩
  cases q : H b with
  | none => rfl
  | some x =>
    have hm : b ∈ trk h H := List.mem_filter.mpr ⟨List.mem_range.mpr (Heap.lt_size e'), by simp [q]⟩
    have z : (hidT h H).get? b = none := PySem.W.hideAll_none (trk h H) hm
    rw [z] at e; cases e

end L2

namespace L2
open PySem PySem.Spec PyProof.Rows

structure Mod (K : PySem.W.Frag) (mg : Str → Option Value) (base : Heap) : Prop where
  kin : K.In base
  glob : base.Ns mainGlobals mg
  blt : ∃ mb, base.Ns builtinsNs mb ∧ ∀ x : Str, x ≠ "__name__" → mb x = bootBuiltins x
  nolimit : base.NoLimit

structure Cx where
  prog : Program
  w : World
  K : PySem.W.Frag
  mg : Str → Option Value
  base : Heap
  A : Around
  N : List Str
  s₀ : Shared
  H₀ : Hp
  env : Env
  outer : List Env
  stack : List Env
  ex : List Addr
  fn : Str → Bool
  calm : Bool
  pn : List (Addr × Obj)
  xe : Value → Shared → Prop
def frs (l : List Env) : List Addr := l.filterMap (·.frame)
abbrev Cx.fs (X : Cx) : List Addr := frs X.outer

def Vis (sc : Scope) (x : Str) : Prop := sc.names.lookup x = some .local ∨ sc.names.lookup x = some .cell ∨ sc.names.lookup x = some .free
def Loc (sc : Scope) (x : Str) : Prop := sc.names.lookup x = some .local ∨ sc.names.lookup x = some .cell
def Look (env : Env) (h : Heap) (m : Str → Option Value) (x : Str) (u : Value) : Prop :=
  (env.kindOf x = some .local ∧ m x = some u) ∨ ((env.kindOf x = some .cell ∨ env.kindOf x = some .free) ∧ ∃ c, env.cells.lookup x = some c ∧ h.IsCell c (some u))

structure Cx.Ok (X : Cx) : Prop where
  mod : Mod X.K X.mg X.base
  kind : X.env.scope.kind = .function
  glob : X.env.globals = mainGlobals
  blt : X.env.builtins = builtinsNs
  above : X.s₀.heap.objs.size ≤ X.env.locals
  inj : ∀ x y c, X.env.cells.lookup x = some c → X.env.cells.lookup y = some c → x = y
  has : ∀ x, (X.env.kindOf x = some .cell ∨ X.env.kindOf x = some .free) → ∃ c, X.env.cells.lookup x = some c
  cab : ∀ x c, X.fn x = true → X.env.cells.lookup x = some c → X.s₀.heap.objs.size ≤ c
  hd : X.calm = true → X.A.handled = none
  frames : X.A.frames = some X.stack
  stk : X.stack = X.outer ∨ (X.stack = X.env :: X.outer ∧ X.env.frame = some X.env.locals)
  exf : ∀ b ∈ X.ex, b ≠ X.env.locals ∧ ∀ x c, X.env.cells.lookup x = some c → c ≠ b
  bs : ∀ b o, X.base.get? b = some o → X.s₀.heap.get? b = some o ∧ X.H₀ b = none
  bsz : X.base.objs.size ≤ X.s₀.heap.objs.size
  noex : ∀ b o, X.base.get? b = some o → b ∉ X.ex
  exfs : ∀ b ∈ X.ex, b ∉ X.fs
  funs : X.s₀.heap.FunFrames X.base X.outer
  frf : ∀ b ∈ X.fs, X.H₀ b = none

structure Inv (X : Cx) (pins : List (Addr × Obj)) (σ : List (Option V)) (H : Hp) (s : Shared) : Prop where
  ok : X.Ok
  os : s.os = X.s₀.os
  bare : AllBare s.gens
  base : Un X.fs X.ex X.H₀ H X.s₀.heap s.heap
  loc : ∃ m, s.heap.Ns X.env.locals m ∧ ∀ (i : Nat) (x : Str) (v : V), X.N[i]? = some x → σ[i]? = some (some v) → Vis X.env.scope x → ∃ u, RelV v u ∧ Look X.env s.heap m x u
  cell : ∀ x c, X.env.cells.lookup x = some c → ∃ v, s.heap.IsCell c v
  free : H X.env.locals = none
  freeC : ∀ x c, X.env.cells.lookup x = some c → H c = none
  pin : ∀ p ∈ X.pn ++ pins, s.heap.get? p.1 = some p.2 ∧ H p.1 = none ∧ p.1 ≠ X.env.locals ∧ p.1 ∉ X.fs ∧ ∀ v, p.2.data ≠ .cell v
  hok : HOk X.prog X.w H s.heap
  len : σ.length = X.N.length

section
variable {X : Cx} {pins : List (Addr × Obj)} {σ : List (Option V)} {H H' : Hp} {s : Shared} {h' : Heap}

theorem Cx.Ok.nofr (ok : X.Ok) {b : Addr} {o : Obj} (e : X.base.get? b = some o) : b ∉ X.fs := fun hb => by
  have := (ok.funs.mem hb).1
  rw [e] at this; cases this
theorem Inv.bs (I : Inv X pins σ H s) : ∀ b o, X.base.get? b = some o → s.heap.get? b = some o ∧ H b = none := fun b o e =>
  ⟨I.base.keep b o (I.ok.bs b o e).1 (I.ok.bs b o e).2 (I.ok.nofr e) (I.ok.noex b o e), I.base.free b o (I.ok.bs b o e).1 (I.ok.bs b o e).2 (I.ok.noex b o e)⟩
theorem Inv.bk (I : Inv X pins σ H s) : ∀ b o, X.base.get? b = some o → s.heap.get? b = some o := fun b o e => (I.bs b o e).1
theorem Inv.mod (I : Inv X pins σ H s) : Mod X.K X.mg X.base := I.ok.mod
theorem Inv.kIn (I : Inv X pins σ H s) : X.K.In s.heap := I.ok.mod.kin.keeps I.bk
theorem Inv.fr (I : Inv X pins σ H s) : ∃ m, Fr X.base X.env.locals s.heap m :=
  let ⟨m, hn, _⟩ := I.loc
  ⟨m, hn, I.bk, Nat.le_trans I.ok.bsz I.ok.above⟩
theorem Inv.lt (I : Inv X pins σ H s) : X.env.locals < s.heap.objs.size := let ⟨_, hn, _⟩ := I.loc; hn.lt
theorem Inv.sz (I : Inv X pins σ H s) : X.s₀.heap.objs.size ≤ s.heap.objs.size := Nat.le_trans I.ok.above (Nat.le_of_lt I.lt)
theorem Inv.nofs (I : Inv X pins σ H s) {a : Addr} (h : s.heap.objs.size ≤ a) : a ∉ X.fs := fun hb => by
  obtain ⟨_, o, ho, _⟩ := I.ok.funs.mem hb
  exact absurd (Nat.lt_of_lt_of_le (Heap.lt_size ho) (Nat.le_trans I.sz h)) (Nat.lt_irrefl _)
theorem Inv.cne (I : Inv X pins σ H s) : ∀ x c, X.env.cells.lookup x = some c → c ≠ X.env.locals := fun x c e z => by
  obtain ⟨v, o, ho, hd⟩ := I.cell x c e
  obtain ⟨m, ⟨o', es, ep, ho', hd', _⟩, _⟩ := I.loc
  rw [z, ho'] at ho; cases ho; rw [hd'] at hd; cases hd
theorem Inv.funs (I : Inv X pins σ H s) : s.heap.FunFrames X.base X.outer := by
  have all : ∀ (l : List Env), (∀ b ∈ frs l, b ∈ X.fs) → X.s₀.heap.FunFrames X.base l → s.heap.FunFrames X.base l := by
    intro l
    induction l with
    | nil => intro _ _; trivial
    | cons env r ih =>
      intro hs hl
      obtain ⟨hk, ⟨L, o, hf, hn, ho, hd⟩, hr⟩ := hl
      have hL : L ∈ X.fs := hs L (by unfold frs; rw [List.filterMap_cons, hf]; exact List.mem_cons_self)
      obtain ⟨sl, e⟩ := I.base.slot L o ho (I.ok.frf L hL) hL fun z => I.ok.exfs L z hL
      exact ⟨hk, ⟨L, _, hf, hn, e, hd⟩, ih (fun b hb => hs b (by unfold frs; rw [List.filterMap_cons, hf]; exact List.mem_cons_of_mem _ hb)) hr⟩
  exact all X.outer (fun _ hb => hb) I.ok.funs

theorem Inv.stack (I : Inv X pins σ H s) : s.heap.FunFrames X.base X.stack := by
  rcases I.ok.stk with e | ⟨e, hf⟩
  · rw [e]; exact I.funs
  · rw [e]
    obtain ⟨m, hn, _⟩ := I.loc
    refine .cons (by rw [I.ok.kind]; decide) hf hn ?_ I.funs
    exact Heap.get?_none_of_le (Nat.le_trans I.ok.bsz I.ok.above)
theorem Inv.stkSub (I : Inv X pins σ H s) : ∀ b ∈ frs X.stack, b ∈ X.env.locals :: X.fs := fun b hb => by
  rcases I.ok.stk with e | ⟨e, hf⟩
  · rw [e] at hb; exact List.mem_cons_of_mem _ hb
  · rw [e] at hb
    unfold frs at hb
    rw [List.filterMap_cons, hf] at hb
    exact hb
theorem Inv.stkFree (I : Inv X pins σ H s) : ∀ b ∈ frs X.stack, H b = none := fun b hb => by
  rcases List.mem_cons.mp (I.stkSub b hb) with e | hb
  · rw [e]; exact I.free
  · obtain ⟨_, o, ho, _⟩ := I.ok.funs.mem hb
    exact I.base.free b o ho (I.ok.frf b hb) fun z => I.ok.exfs b z hb

theorem Inv.step {g' : Array GenState} {t' : Nat} {d' : Drawn} {ch : List Addr} (I : Inv X pins σ H s)
    (hch : ∀ b ∈ ch, (b ∈ X.ex ∨ X.s₀.heap.objs.size ≤ b) ∧ b ≠ X.env.locals ∧ (∀ x c, X.env.cells.lookup x = some c → c ≠ b) ∧ ∀ p ∈ X.pn ++ pins, p.1 ≠ b)
    (keep : ∀ b o, b ≠ X.env.locals → b ∉ X.fs → b ∉ ch → s.heap.get? b = some o → H b = none → h'.get? b = some o)
    (slot : ∀ b o, b ≠ X.env.locals → b ∈ X.fs → b ∉ ch → s.heap.get? b = some o → H b = none → ∃ sl, h'.get? b = some { o with slots := sl }) (free : ∀ b o, b ∉ ch → s.heap.get? b = some o → H b = none → H' b = none)
    (there : ∀ b o, b ∉ ch → s.heap.get? b = some o → ∃ o', h'.get? b = some o')
    (tups : ∀ b xs, H b = some (.tup xs) → H' b = some (.tup xs)) (frzs : ∀ b o u, H b = some (.frz o u) → H' b = some (.frz o u)) (tbls : ∀ b ps, H b = some (.tbl ps) → ∃ more, H' b = some (.tbl (ps ++ more)))
    (ns : ∀ m, s.heap.Ns X.env.locals m → h'.Ns X.env.locals m) (hok : HOk X.prog X.w H' h') (hg : AllBare g') :
    Inv X pins σ H' { s with heap := h', gens := g', drawn := d', toks := t' } := by
  have neL : ∀ b o, X.s₀.heap.get? b = some o → b ≠ X.env.locals := fun b o e => Nat.ne_of_lt (Nat.lt_of_lt_of_le (Heap.lt_size e) I.ok.above)
  have neC : ∀ b o, X.s₀.heap.get? b = some o → b ∉ X.ex → b ∉ ch := fun b o e hx hb => by
    rcases (hch b hb).1 with z | z
    · exact hx z
    · exact absurd (Nat.lt_of_lt_of_le (Heap.lt_size e) z) (Nat.lt_irrefl _)
  have cellK : ∀ x c, X.env.cells.lookup x = some c → ∀ v, s.heap.IsCell c v → h'.IsCell c v := fun x c e v ⟨o, ho, hd⟩ => by
    have nch : c ∉ ch := fun z => (hch c z).2.2.1 x c e rfl
    by_cases hc : c ∈ X.fs
    · obtain ⟨sl, q⟩ := slot c o (I.cne x c e) hc nch ho (I.freeC x c e)
      exact ⟨_, q, hd⟩
    · exact ⟨o, keep c o (I.cne x c e) hc nch ho (I.freeC x c e), hd⟩
  refine ⟨I.ok, I.os, hg, ⟨fun b o e n hb hx => ?_, fun b o e n hb hx => ?_, fun b o e n hx => ?_, fun b o e hx => ?_, fun b xs e => tups b xs (I.base.tups b xs e), fun b o xs e => frzs b o xs (I.base.frzs b o xs e), fun b ps e => ?_⟩, ?_, fun x c e => ?_, ?_, fun x c e => ?_, fun p hp => ?_, hok, I.len⟩
  · exact keep b o (neL b o e) hb (neC b o e hx) (I.base.keep b o e n hb hx) (I.base.free b o e n hx)
  · obtain ⟨sl, e1⟩ := I.base.slot b o e n hb hx
    obtain ⟨sl', e2⟩ := slot b _ (neL b o e) hb (neC b o e hx) e1 (I.base.free b o e n hx)
    exact ⟨sl', e2⟩
  · obtain ⟨o', e1⟩ := I.base.there b o e hx
    exact free b o' (neC b o e hx) e1 (I.base.free b o e n hx)
  · obtain ⟨o', e1⟩ := I.base.there b o e hx
    exact there b o' (neC b o e hx) e1
  · obtain ⟨m1, e1⟩ := I.base.tbls b ps e
    obtain ⟨m2, e2⟩ := tbls b _ e1
    exact ⟨m1 ++ m2, by rw [e2, Array.append_assoc]⟩
  · obtain ⟨m, hn, hl⟩ := I.loc
    refine ⟨m, ns m hn, fun i x v e1 e2 e3 => ?_⟩
    obtain ⟨u, r, l⟩ := hl i x v e1 e2 e3
    refine ⟨u, r, ?_⟩
    rcases l with l | ⟨k, c, e, z⟩
    · exact .inl l
    · exact .inr ⟨k, c, e, cellK x c e _ z⟩
  · obtain ⟨v, z⟩ := I.cell x c e
    exact ⟨v, cellK x c e v z⟩
  · obtain ⟨m, ⟨o, _, _, ho, _⟩, _⟩ := I.loc
    exact free _ o (fun z => (hch _ z).2.1 rfl) ho I.free
  · obtain ⟨v, o, ho, hd⟩ := I.cell x c e
    exact free c o (fun z => (hch c z).2.2.1 x c e rfl) ho (I.freeC x c e)
  · obtain ⟨e, n, ne, nf, d⟩ := I.pin p hp
    have nch : p.1 ∉ ch := fun z => (hch p.1 z).2.2.2 p hp rfl
    exact ⟨keep p.1 p.2 ne nf nch e n, free p.1 p.2 nch e n, ne, nf, d⟩
theorem Inv.un {t' : Nat} (I : Inv X pins σ H s) (u : Un X.fs [] H H' s.heap h') (hok : HOk X.prog X.w H' h') : Inv X pins σ H' { s with heap := h', toks := t' } := by
  obtain ⟨m, ⟨o, es, ep, ho, r⟩, _⟩ := id I.loc
  obtain ⟨sl, hL⟩ := u.any ho I.free (by simp)
  exact I.step (g' := s.gens) (d' := s.drawn) (ch := []) (fun _ z => nomatch z) (fun b o _ hb _ e n => u.keep b o e n hb (by simp)) (fun b o _ hb _ e n => u.slot b o e n hb (by simp)) (fun b o _ e n => u.free b o e n (by simp)) (fun b o _ e => u.there b o e (by simp)) u.tups u.frzs u.tbls (fun m' hm => by
    obtain ⟨o', es', ep', ho', r'⟩ := hm
    rw [ho] at ho'; cases ho'
    exact ⟨_, es', ep', hL, r'⟩) hok I.bare
theorem Inv.call {g' : Array GenState} {t' : Nat} {d' : Drawn} {ch : List Addr} (I : Inv X pins σ H s) (u : Un (frs X.stack) ch H H' s.heap h') (hok : HOk X.prog X.w H' h') (hg : AllBare g')
    (hch : ∀ b ∈ ch, (b ∈ X.ex ∨ X.s₀.heap.objs.size ≤ b) ∧ b ≠ X.env.locals ∧ (∀ x c, X.env.cells.lookup x = some c → c ≠ b) ∧ ∀ p ∈ X.pn ++ pins, p.1 ≠ b) :
    Inv X pins σ H' { s with heap := h', gens := g', drawn := d', toks := t' } := by
  obtain ⟨m, ⟨o, es, ep, ho, r⟩, _⟩ := id I.loc
  obtain ⟨sl, hL⟩ := u.any ho I.free fun z => (hch _ z).2.1 rfl
  exact I.step (ch := ch) hch (fun b o hL hb hc e n => u.keep b o e n (fun z => (List.mem_cons.mp (I.stkSub b z)).elim hL hb) hc) (fun b o _ _ hc e n => u.any e n hc) (fun b o hc e n => u.free b o e n hc) (fun b o hc e => u.there b o e hc) u.tups u.frzs u.tbls (fun m' hm => by
    obtain ⟨o', es', ep', ho', r'⟩ := hm
    rw [ho] at ho'; cases ho'
    exact ⟨_, es', ep', hL, r'⟩) hok hg
theorem Inv.turned {t' : Nat} {it : Addr} (I : Inv X pins σ H s) (k : ∀ b o, b ≠ it → s.heap.get? b = some o → h'.get? b = some o) (hn : H it = none) (hL : it ≠ X.env.locals)
    (h1 : it ∈ X.ex ∨ X.s₀.heap.objs.size ≤ it) (h2 : ∀ x c, X.env.cells.lookup x = some c → c ≠ it) (h3 : ∀ p ∈ X.pn ++ pins, p.1 ≠ it) : Inv X pins σ H { s with heap := h', toks := t' } := by
  have nit : ∀ b u, H b = some u → b ≠ it := fun b u e z => by rw [z, hn] at e; cases e
  refine I.step (g' := s.gens) (d' := s.drawn) (ch := [it]) (fun b hb => ?_) (fun b o _ _ hc e _ => k b o (fun z => hc (by simp [z])) e) (fun b o _ _ hc e _ => ⟨o.slots, k b o (fun z => hc (by simp [z])) e⟩) (fun _ _ _ _ n => n)
    (fun b o hc e => ⟨o, k b o (fun z => hc (by simp [z])) e⟩) (fun _ _ e => e) (fun _ _ _ e => e) (fun b ps e => ⟨#[], by rw [e]; simp⟩) (fun m hm => ?_) (fun b u e => ?_) I.bare
  · have e : b = it := by simpa using hb
    subst e
    exact ⟨h1, hL, h2, h3⟩
  · obtain ⟨o, es, ep, ho, r⟩ := hm
    exact ⟨o, es, ep, k _ o (Ne.symm hL) ho, r⟩
  · refine (I.hok b u e).stay (fun c v hc q => k c v ?_ q) (fun _ q => q) fun _ _ q => q
    rcases hc with z | z
    · rw [z]; exact nit b u e
    · exact nit c _ z
theorem Inv.tok (I : Inv X pins σ H s) (t : Nat) : Inv X pins σ H { s with toks := t } := I.un (h' := s.heap) (t' := t) Un.refl I.hok
theorem Inv.kept {t' : Nat} (I : Inv X pins σ H s) (k : ∀ b u, s.heap.get? b = some u → h'.get? b = some u) : Inv X pins σ H { s with heap := h', toks := t' } := I.un (Un.kept k) (I.hok.kept k)
theorem Inv.laid {a : Addr} {o : HO} {t' : Nat} (I : Inv X pins σ H s) (k : ∀ b u, s.heap.get? b = some u → h'.get? b = some u) (hp : s.heap.objs.size ≤ a) (new : ObjOk X.prog X.w (upd H a o) h' a o) :
    Inv X pins σ (upd H a o) { s with heap := h', toks := t' } := I.un (Un.laid k hp (I.hok.fresh hp)) (I.hok.laid k hp new)
theorem Inv.write {x e : Addr} {o : HO} {t' : Nat} (I : Inv X pins σ H s) (mu : Mut (H x)) (he : e = x ∨ H e = some (.own x)) (k : ∀ b u, b ≠ e → s.heap.get? b = some u → h'.get? b = some u) (heo : ∃ u, h'.get? e = some u)
    (new : ObjOk X.prog X.w (upd H x o) h' x o) : Inv X pins σ (upd H x o) { s with heap := h', toks := t' } := I.un (Un.write mu he k heo) (I.hok.write mu he k heo new)
theorem Inv.weak {σ' : List (Option V)} (I : Inv X pins σ H s) (hl : σ'.length = σ.length) (w : ∀ (i : Nat) v, σ'[i]? = some (some v) → σ[i]? = some (some v)) : Inv X pins σ' H s :=
  ⟨I.ok, I.os, I.bare, I.base, let ⟨m, hn, hl'⟩ := I.loc; ⟨m, hn, fun i x v e1 e2 e3 => hl' i x v e1 (w i v e2) e3⟩, I.cell, I.free, I.freeC, I.pin, I.hok, hl.trans I.len⟩
theorem Inv.pins_of {pins' : List (Addr × Obj)} (I : Inv X pins σ H s) (h : ∀ p ∈ pins', s.heap.get? p.1 = some p.2 ∧ H p.1 = none ∧ p.1 ≠ X.env.locals ∧ p.1 ∉ X.fs ∧ ∀ v, p.2.data ≠ .cell v) : Inv X pins' σ H s :=
  ⟨I.ok, I.os, I.bare, I.base, I.loc, I.cell, I.free, I.freeC, fun p hp => (List.mem_append.mp hp).elim (fun z => I.pin p (List.mem_append_left _ z)) (h p), I.hok, I.len⟩

theorem nodup_ix {N : List Str} (hN : N.Nodup) {i j : Nat} {x : Str} (a : N[i]? = some x) (b : N[j]? = some x) : i = j := by
  obtain ⟨h1, e1⟩ := List.getElem?_eq_some_iff.mp a
  obtain ⟨h2, e2⟩ := List.getElem?_eq_some_iff.mp b
  exact (List.getElem_inj hN).mp (e1.trans e2.symm)

theorem store_ok2 {M : Model} {A : Around} {E : Value → Shared → Prop} {i : Nat} {x : Str} {v : V} {u : Value} {Q : Unit → Shared → Prop} (I : Inv X pins σ H s) (hN : X.N.Nodup) (hi : X.N[i]? = some x) (hx : Loc X.env.scope x) (r : RelV v u)
    (h : ∀ s', Inv X pins (σ.set i (some v)) H s' → (∃ a, Heap.SameBut a s.heap s'.heap ∧ (a = X.env.locals ∨ X.env.cells.lookup x = some a)) → Q () s') (hf : X.fn x = true ∨ X.env.scope.names.lookup x = some .local := by first | exact .inl rfl | exact .inr rfl | assumption) : wpAny M A (storeName X.env x u) Q E s := by
  obtain ⟨m, hn, hl⟩ := id I.loc
  have hcls : (X.env.scope.kind == .class || (X.env.scope.kind == .module && X.env.locals != X.env.globals)) = false := by rw [I.ok.kind]; rfl
  have hiσ : i < σ.length := by rw [I.len]; exact (List.getElem?_eq_some_iff.mp hi).1
  have cne := I.cne
  have tracked : ∀ {a : Addr} {h' : Heap}, (∃ o, s.heap.get? a = some o ∧ H a = none) → Heap.SameBut a s.heap h' → HOk X.prog X.w H h' := fun {a h'} ha hs b ob e => by
    obtain ⟨_, _, hfree⟩ := ha
    refine (I.hok b ob e).stay (fun c w' hc q => (hs.2 c ?_).trans q) (fun _ q => q) fun _ _ q => q
    rintro rfl
    rcases hc with rfl | hc
    · rw [hfree] at e; cases e
    · rw [hfree] at hc; cases hc
  rcases hx with hk | hk
  · refine wpAny_storeName_local hk hn (fun h' hn' hs => ?_) hcls
    obtain ⟨oL, _, _, hoL, _⟩ := id hn
    refine h _ ⟨I.ok, I.os, I.bare, ⟨fun b o e n hb hx => ?_, fun b o e n hb hx => ?_, I.base.free, fun b o e hx => ?_, I.base.tups, I.base.frzs, I.base.tbls⟩, ⟨_, hn', fun j y v' e1 e2 e3 => ?_⟩, fun y c e => ?_, I.free, I.freeC, fun p hp => ?_, tracked ⟨oL, hoL, I.free⟩ hs, by simpa using I.len⟩ ⟨_, hs, .inl rfl⟩
    · exact (hs.2 b (Nat.ne_of_lt (Nat.lt_of_lt_of_le (Heap.lt_size e) I.ok.above))).trans (I.base.keep b o e n hb hx)
    · obtain ⟨sl, e1⟩ := I.base.slot b o e n hb hx
      exact ⟨sl, (hs.2 b (Nat.ne_of_lt (Nat.lt_of_lt_of_le (Heap.lt_size e) I.ok.above))).trans e1⟩
    · obtain ⟨o', e1⟩ := I.base.there b o e hx
      exact ⟨o', (hs.2 b (Nat.ne_of_lt (Nat.lt_of_lt_of_le (Heap.lt_size e) I.ok.above))).trans e1⟩
    · by_cases hj : j = i
      · subst hj
        rw [hi] at e1; cases e1
        rw [List.getElem?_set_self hiσ] at e2
        cases e2
        exact ⟨u, r, .inl ⟨hk, by simp⟩⟩
      · rw [List.getElem?_set_ne (Ne.symm hj)] at e2
        obtain ⟨u', r', q⟩ := hl j y v' e1 e2 e3
        refine ⟨u', r', ?_⟩
        rcases q with ⟨k, e⟩ | ⟨k, c, e, z⟩
        · refine .inl ⟨k, ?_⟩
          have : y ≠ x := fun e => hj (nodup_ix hN e1 (e ▸ hi))
          simp [this, e]
        · exact .inr ⟨k, c, e, z.sameBut hs (cne y c e)⟩
    · obtain ⟨w', z⟩ := I.cell y c e
      exact ⟨w', z.sameBut hs (cne y c e)⟩
    · obtain ⟨e, n, ne, nf, d⟩ := I.pin p hp
      exact ⟨(hs.2 p.1 ne).trans e, n, ne, nf, d⟩
  · have hfn : X.fn x = true := by
      rcases hf with z | z
      · exact z
      · rw [z] at hk; cases hk
    obtain ⟨c, hc⟩ := I.ok.has x (.inl hk)
    obtain ⟨w', z⟩ := I.cell x c hc
    refine wpAny_storeName_cell I.ok.kind hk hc z (fun h' hc' hs => ?_)
    obtain ⟨oc, hoc, hocd⟩ := id z
    refine h { s with heap := h' } ⟨I.ok, I.os, I.bare, ⟨fun b o e n hb hx => ?_, fun b o e n hb hx => ?_, I.base.free, fun b o e hx => ?_, I.base.tups, I.base.frzs, I.base.tbls⟩, ⟨m, hn.sameBut hs (Ne.symm (cne x c hc)), fun j y v' e1 e2 e3 => ?_⟩, fun y c' e => ?_, I.free, I.freeC, fun p hp => ?_, tracked ⟨oc, hoc, I.freeC x c hc⟩ hs, by simpa using I.len⟩ ⟨c, hs, .inr hc⟩
    · exact (hs.2 b (Nat.ne_of_lt (Nat.lt_of_lt_of_le (Heap.lt_size e) (I.ok.cab x c hfn hc)))).trans (I.base.keep b o e n hb hx)
    · obtain ⟨sl, e1⟩ := I.base.slot b o e n hb hx
      exact ⟨sl, (hs.2 b (Nat.ne_of_lt (Nat.lt_of_lt_of_le (Heap.lt_size e) (I.ok.cab x c hfn hc)))).trans e1⟩
    · obtain ⟨o', e1⟩ := I.base.there b o e hx
      exact ⟨o', (hs.2 b (Nat.ne_of_lt (Nat.lt_of_lt_of_le (Heap.lt_size e) (I.ok.cab x c hfn hc)))).trans e1⟩
    · by_cases hj : j = i
      · subst hj
        rw [hi] at e1; cases e1
        rw [List.getElem?_set_self hiσ] at e2
        cases e2
        exact ⟨u, r, .inr ⟨.inl hk, c, hc, hc'⟩⟩
      · rw [List.getElem?_set_ne (Ne.symm hj)] at e2
        obtain ⟨u', r', q⟩ := hl j y v' e1 e2 e3
        refine ⟨u', r', ?_⟩
        rcases q with q | ⟨k, c', e, z'⟩
        · exact .inl q
        · refine .inr ⟨k, c', e, z'.sameBut hs ?_⟩
          rintro rfl
          exact hj (nodup_ix hN e1 (I.ok.inj _ _ _ e hc ▸ hi))
    · by_cases hcc : c' = c
      · subst hcc; exact ⟨_, hc'⟩
      · obtain ⟨w2, z2⟩ := I.cell y c' e
        exact ⟨w2, z2.sameBut hs hcc⟩
    · obtain ⟨e, n, ne, nf, d⟩ := I.pin p hp
      refine ⟨(hs.2 p.1 ?_).trans e, n, ne, nf, d⟩
      intro q
      rw [q, hoc] at e
      have q' : oc = p.2 := Option.some.inj e
      exact d w' (by rw [← q']; exact hocd)
theorem store_ok {M : Model} {A : Around} {E : Value → Shared → Prop} {i : Nat} {x : Str} {v : V} {u : Value} {Q : Unit → Shared → Prop} (I : Inv X pins σ H s) (hN : X.N.Nodup) (hi : X.N[i]? = some x) (hx : Loc X.env.scope x) (r : RelV v u)
    (h : ∀ s', Inv X pins (σ.set i (some v)) H s' → Q () s') (hf : X.fn x = true ∨ X.env.scope.names.lookup x = some .local := by first | exact .inl rfl | exact .inr rfl | assumption) : wpAny M A (storeName X.env x u) Q E s :=
  store_ok2 I hN hi hx r (fun s' I' _ => h s' I') hf
theorem Inv.call' {s' : Shared} {ch : List Addr} (I : Inv X pins σ H s) (ho : s'.os = s.os) (u : Un (frs X.stack) ch H H' s.heap s'.heap) (hok : HOk X.prog X.w H' s'.heap) (hg : AllBare s'.gens)
    (hch : ∀ b ∈ ch, (b ∈ X.ex ∨ X.s₀.heap.objs.size ≤ b) ∧ b ≠ X.env.locals ∧ (∀ x c, X.env.cells.lookup x = some c → c ≠ b) ∧ ∀ p ∈ X.pn ++ pins, p.1 ≠ b) : Inv X pins σ H' s' := by
  obtain ⟨h', g', d', t', o'⟩ := s'
  have e : o' = s.os := ho
  subst e
  exact I.call (g' := g') (t' := t') (d' := d') u hok hg hch
end

abbrev XK := Value → Option Addr → Hp → Prop
abbrev St := List (Option V)
abbrev VK := V → Hp → Prop
abbrev TE := St → Hp → VK → Prop
abbrev TT := St → Hp → (Bool → Hp → Prop) → Prop
abbrev TA := St → Hp → (List V → Hp → Prop) → Prop
structure Ends where
  nx : St → Hp → Prop
  rt : VK
  bk : St → Hp → Prop := fun _ _ => False
  ct : St → Hp → Prop := fun _ _ => False
abbrev TS := Ends → St → Hp → Prop

def EP (X : Cx) (pins : List (Addr × Obj)) (σ : St) (Q : VK) (u : Value) (s' : Shared) : Prop := ∃ v H', Inv X pins σ H' s' ∧ RelV v u ∧ Q v H'
def TP (X : Cx) (pins : List (Addr × Obj)) (σ : St) (Q : Bool → Hp → Prop) (b : Bool) (s' : Shared) : Prop := ∃ H', Inv X pins σ H' s' ∧ Q b H'
def AP (X : Cx) (pins : List (Addr × Obj)) (σ : St) (Q : List V → Hp → Prop) (us : List Value) (s' : Shared) : Prop := ∃ vs H', Inv X pins σ H' s' ∧ Vals vs us ∧ Q vs H'
def SP (X : Cx) (pins : List (Addr × Obj)) (D : Ends) (f : Flow) (s' : Shared) : Prop :=
  match f with
  | .next => ∃ σ' H', Inv X pins σ' H' s' ∧ D.nx σ' H'
  | .brk => ∃ σ' H', Inv X pins σ' H' s' ∧ D.bk σ' H'
  | .cont => ∃ σ' H', Inv X pins σ' H' s' ∧ D.ct σ' H'
  | .ret u => ∃ v σ' H', Inv X pins σ' H' s' ∧ RelV v u ∧ D.rt v H'

def PE (X : Cx) (e : Expr) (t : TE) : Prop :=
  ∀ (pins : List (Addr × Obj)) (s : Shared) (σ : St) (H : Hp) (Q : VK), Inv X pins σ H s → t σ H Q → wpAny (model X.prog X.w) X.A (eval e X.env) (EP X pins σ Q) X.xe s
def PT (X : Cx) (e : Expr) (t : TT) : Prop :=
  ∀ (pins : List (Addr × Obj)) (s : Shared) (σ : St) (H : Hp) (Q : Bool → Hp → Prop), Inv X pins σ H s → t σ H Q → wpAny (model X.prog X.w) X.A (isTrue e X.env (eval e X.env)) (TP X pins σ Q) X.xe s
def PW (X : Cx) (e : Expr) (t : TT) : Prop :=
  ∀ (whole : Sem Value) (pins : List (Addr × Obj)) (s : Shared) (σ : St) (H : Hp) (Q : Bool → Hp → Prop), Inv X pins σ H s → t σ H Q → wpAny (model X.prog X.w) X.A (isTrue e X.env whole) (TP X pins σ Q) X.xe s
theorem PW.pt {X : Cx} {e : Expr} {t : TT} (h : PW X e t) : PT X e t := h _
def PA (X : Cx) (es : List Expr) (t : TA) : Prop :=
  ∀ (pos : Pos) (pins : List (Addr × Obj)) (s : Shared) (σ : St) (H : Hp) (Q : List V → Hp → Prop), Inv X pins σ H s → t σ H Q → wpAny (model X.prog X.w) X.A (spliced (backTo pos (starEach es X.env))) (AP X pins σ Q) X.xe s
def PS (X : Cx) (st : Stmt) (t : TS) : Prop :=
  ∀ (pins : List (Addr × Obj)) (s : Shared) (σ : St) (H : Hp) (D : Ends), Inv X pins σ H s → t D σ H → wpAny (model X.prog X.w) X.A (exec st X.env) (SP X pins D) X.xe s
def PSs (X : Cx) (st : List Stmt) (t : TS) : Prop :=
  ∀ (pins : List (Addr × Obj)) (s : Shared) (σ : St) (H : Hp) (D : Ends), Inv X pins σ H s → t D σ H → wpAny (model X.prog X.w) X.A (execs st X.env) (SP X pins D) X.xe s
theorem thn {α : Type} {t : Sem α} {Q Q' : α → Shared → Prop} {M : Model} {A : Around} {E : Value → Shared → Prop} {s : Shared} (h : wpAny M A t Q E s) (hQ : ∀ a s, Q a s → Q' a s) : wpAny M A t Q' E s := wpAny_mono h hQ fun _ _ x => x
end L2

namespace L2
open PySem PySem.Spec PyProof.Rows
section
variable {X : Cx}

def tVar (i : Nat) : TE := fun σ H Q => ∃ v, σ[i]? = some (some v) ∧ Q v H
def tC (v : V) : TE := fun _ H Q => Q v H
theorem pe_var {i : Nat} {x : Str} {pos : Pos} (hN : X.N[i]? = some x) (hv : Vis X.env.scope x) (hd : (x == ("__debug__" : Str)) = false := by decide) (hcd : (x == ("__classdict__" : Str)) = false := by decide) : PE X (.Name x pos) (tVar i) := by
  intro pins s σ H Q I h
  obtain ⟨v, e, h⟩ := h
  obtain ⟨m, hn, hl⟩ := I.loc
  obtain ⟨u, r, l⟩ := hl i x v hN e hv
  have fin : EP X pins σ Q u s := ⟨v, H, I, r, h⟩
  rcases l with ⟨hk, hm⟩ | ⟨hk, c, hc, hcell⟩
  · exact wpAny_Name (wpAny_loadName_local I.ok.kind hk hn hm fin) hd
  · rcases hk with hk | hk
    · exact wpAny_Name (wpAny_loadName_cell I.ok.kind hk hc hcell fin) hd
    · exact wpAny_Name (wpAny_loadName_free I.ok.kind hk hc hcell fin hcd) hd
theorem pe_int {i j pos} : PE X (.Constant (.int i) j pos) (tC (.int i)) := fun _ _ _ H _ I h => wpAny_Constant_int ⟨.int i, H, I.tok _, ⟨_, rfl⟩, h⟩
theorem pe_bl {b j pos} : PE X (.Constant (.bool b) j pos) (tC (.bl b)) := fun _ _ _ H _ I h => Constant_bool ⟨.bl b, H, I, rfl, h⟩
theorem pe_non {j pos} : PE X (.Constant .none j pos) (tC .non) := fun _ _ _ H _ I h => Constant_none ⟨.non, H, I, rfl, h⟩
theorem pe_str {x j pos} : PE X (.Constant (.str x) j pos) (tC (.str x)) := fun _ _ _ H _ I h => Calls.Constant_str ⟨.str x, H, I.tok _, ⟨_, rfl⟩, h⟩

def Gl (X : Cx) (x : Str) : Prop := X.env.kindOf x = some .globalImplicit
theorem ld_glob {E : Value → Shared → Prop} {pins : List (Addr × Obj)} {s : Shared} {σ : St} {H : Hp} {x : Str} {u : Value} {pos : Pos} {Q : Value → Shared → Prop} (I : Inv X pins σ H s) (hg : Gl X x) (hm : X.mg x = some u) (h : Q u s)
    (hd : (x == ("__debug__" : Str)) = false := by decide) : wpAny (model X.prog X.w) X.A (eval (.Name x pos) X.env) Q E s :=
  Calls.Name_function_global I.ok.kind hg (Calls.loadGlobal_global (by rw [I.ok.glob]; exact I.mod.glob.keeps I.bk) hm h) hd
theorem ld_blt {E : Value → Shared → Prop} {pins : List (Addr × Obj)} {s : Shared} {σ : St} {H : Hp} {x : Str} {u : Value} {pos : Pos} {Q : Value → Shared → Prop} (I : Inv X pins σ H s) (hg : Gl X x) (hm : X.mg x = none) (hv : bootBuiltins x = some u) (h : Q u s)
    (hn : x ≠ "__name__" := by decide) (hd : (x == ("__debug__" : Str)) = false := by decide) : wpAny (model X.prog X.w) X.A (eval (.Name x pos) X.env) Q E s := by
  obtain ⟨mb, h1, h2⟩ := I.mod.blt
  exact Calls.Name_function_global I.ok.kind hg (Calls.loadGlobal_builtin (by rw [I.ok.glob]; exact I.mod.glob.keeps I.bk) hm (by rw [I.ok.blt]; exact h1.keeps I.bk) ((h2 x hn).trans hv) h) hd
theorem pe_glob {x : Str} {v : V} {u : Value} {pos : Pos} (hg : Gl X x) (hm : X.mg x = some u) (r : RelV v u) (hd : (x == ("__debug__" : Str)) = false := by decide) : PE X (.Name x pos) (tC v) :=
  fun _ _ _ H _ I h => ld_glob I hg hm ⟨v, H, I, r, h⟩ hd
theorem pe_bltn {x : Str} {v : V} {u : Value} {pos : Pos} (hg : Gl X x) (hm : X.mg x = none) (hv : bootBuiltins x = some u) (r : RelV v u) (hn : x ≠ "__name__" := by decide) (hd : (x == ("__debug__" : Str)) = false := by decide) : PE X (.Name x pos) (tC v) :=
  fun _ _ _ H _ I h => ld_blt I hg hm hv ⟨v, H, I, r, h⟩ hn hd

variable {a b : Expr} {ta tb : TE} {pos : Pos}
def PC (X : Cx) (op : CmpOp) (a b : Expr) (t : TE) : Prop :=
  ∀ (pins : List (Addr × Obj)) (s : Shared) (σ : St) (H : Hp) (Q : VK), Inv X pins σ H s → t σ H Q →
    wpAny (model X.prog X.w) X.A (eval a X.env) (fun v s₁ => wpAny (model X.prog X.w) X.A (eval b X.env) (fun u s₂ => wpAny (model X.prog X.w) X.A (compareOp op v u) (EP X pins σ Q) X.xe s₂) X.xe s₁) X.xe s
def tB (t : TE) : TT := fun σ H Q => t σ H fun x H1 => ∃ c, x = .bl c ∧ Q c H1
theorem pt_cmp {op : CmpOp} {t : TE} (h : PC X op a b t) (h1 : behindInMarks op b = false := by first | exact nobehind _ (by decide) (by decide) | rfl) : PT X (.Compare a [op] [b] pos) (tB t) := by
  intro pins s σ H Q I hw
  refine wpAny_isTrue_Compare1 (thn (h pins s σ H _ I hw) fun v s1 h1 => thn h1 fun u s2 h2 => thn h2 fun c s3 ⟨x, H1, I1, r1, q1⟩ => ?_) h1
  obtain ⟨d, rfl, q⟩ := q1
  cases r1
  exact wpAny_truthy_bool ⟨H1, I1, q⟩
theorem pt_val {e : Expr} {t : TE} (h : PE X e t) (he : ∀ whole, isTrue e X.env whole = (do let v ← whole; standAt e.pos; holding [v] (truthy v)) := by intro _; rfl) : PT X e (tB t) := by
  intro pins s σ H Q I hw
  refine isTrue_plain (thn (h pins s σ H _ I hw) fun v s1 ⟨x, H1, I1, r1, q1⟩ => ?_) (he _)
  obtain ⟨d, rfl, q⟩ := q1
  cases r1
  exact wpAny_truthy_bool ⟨H1, I1, q⟩

variable {tA tB' : TT} {rest : List Expr}
def tAnd (t u : TT) : TT := fun σ H Q => t σ H fun c H1 => if c = true then u σ H1 Q else Q false H1
def tOr (t u : TT) : TT := fun σ H Q => t σ H fun c H1 => if c = true then Q true H1 else u σ H1 Q
def tNot (t : TT) : TT := fun σ H Q => t σ H fun c H1 => Q (!c) H1
theorem pw_and1 (ha : PT X a tA) : PW X (.BoolOp .And [a] pos) tA := by
  intro wh pins s σ H Q I h
  refine isTrue_and (thn (ha pins s σ H Q I h) fun c s1 e => ?_)
  cases c with
  | true => exact isTrue_and_nil e
  | false => exact e
theorem pw_or1 (ha : PT X a tA) : PW X (.BoolOp .Or [a] pos) tA := by
  intro wh pins s σ H Q I h
  refine isTrue_or (thn (ha pins s σ H Q I h) fun c s1 e => ?_)
  cases c with
  | false => exact isTrue_or_nil e
  | true => exact e
theorem pw_and (ha : PT X a tA) (hb : PW X (.BoolOp .And (b :: rest) pos) tB') : PW X (.BoolOp .And (a :: b :: rest) pos) (tAnd tA tB') := by
  intro wh pins s σ H Q I h
  refine isTrue_and (thn (ha pins s σ H _ I h) fun c s1 ⟨H1, I1, q1⟩ => ?_)
  cases c with
  | true => exact hb wh pins s1 σ H1 Q I1 q1
  | false => exact ⟨H1, I1, q1⟩
theorem pw_or (ha : PT X a tA) (hb : PW X (.BoolOp .Or (b :: rest) pos) tB') : PW X (.BoolOp .Or (a :: b :: rest) pos) (tOr tA tB') := by
  intro wh pins s σ H Q I h
  refine isTrue_or (thn (ha pins s σ H _ I h) fun c s1 ⟨H1, I1, q1⟩ => ?_)
  cases c with
  | true => exact ⟨H1, I1, q1⟩
  | false => exact hb wh pins s1 σ H1 Q I1 q1
theorem pt_not (ha : PT X a tA) : PT X (.UnaryOp .Not a pos) (tNot tA) := by
  intro pins s σ H Q I h
  exact isTrue_not (ha pins s σ H (fun c H1 => Q (!c) H1) I h)
def tAndV (ta tb : TE) : TE := fun σ H Q => ta σ H fun x H1 => ∃ c, x = .bl c ∧ if c = true then tb σ H1 Q else Q (.bl false) H1
def tNotV (ta : TE) : TE := fun σ H Q => ta σ H fun x H1 => ∃ c, x = .bl c ∧ Q (.bl (!c)) H1
theorem pe_one {op} {t : TE} (h : PE X a t) : PE X (.BoolOp op [a] pos) t := fun pins s σ H Q I hw => BoolOp_one (h pins s σ H Q I hw)
theorem pe_and (ha : PE X a ta) (hb : PE X (.BoolOp .And (b :: rest) pos) tb) : PE X (.BoolOp .And (a :: b :: rest) pos) (tAndV ta tb) := by
  intro pins s σ H Q I h
  refine BoolOp_and (thn (ha pins s σ H _ I h) fun v s1 ⟨x, H1, I1, r1, q1⟩ => ?_)
  obtain ⟨c, rfl, q1⟩ := q1
  cases r1
  refine wpAny_truthy_bool ?_
  cases c with
  | true => exact hb pins s1 σ H1 Q I1 q1
  | false => exact ⟨.bl false, H1, I1, rfl, q1⟩
theorem pe_not (ha : PE X a ta) : PE X (.UnaryOp .Not a pos) (tNotV ta) := by
  intro pins s σ H Q I h
  refine UnaryOp_ (thn (ha pins s σ H _ I h) fun v s1 ⟨x, H1, I1, r1, q1⟩ => ?_)
  obtain ⟨c, rfl, q1⟩ := q1
  cases r1
  exact not_of (wpAny_truthy_bool ⟨.bl (!c), H1, I1, rfl, q1⟩)
end
end L2

namespace L2
open PySem PySem.Spec PyProof.Rows

def SqL (K : PySem.W.Frag) (H : Hp) (a : Addr) (xs : List V) : Prop :=
  Rd H a (.lst xs) ∨
    ∃ (o : Obj) (its : Array Value) (n : Nat), K.lookup a = some o ∧ o.cls = .type "list" ∧ o.dict = none ∧ o.data = .seq its n ∧ its.size ≤ sizeLine ∧ Vals xs its.toList
def SqT (K : PySem.W.Frag) (H : Hp) (a : Addr) (xs : List V) : Prop :=
  Rd H a (.tup xs) ∨
    ∃ (o : Obj) (its : Array Value) (n : Nat), K.lookup a = some o ∧ o.cls = .type "tuple" ∧ o.data = .seq its n ∧ its.size ≤ sizeLine ∧ Vals xs its.toList
def absV : Value → Option V
  | .none => some .non
  | .bool b => some (.bl b)
  | .int i _ => some (.int i)
  | .str x _ => some (.str x)
  | .bytes b _ => some (.byt b)
  | .float b _ => some (.flt b)
  | .ref a => some (.ref a)
  | .type n => some (.ty n)
  | _ => none
theorem RelV.abs {x : V} {u : Value} (r : RelV x u) : absV u = some x := by
  cases x with
  | non => cases r; rfl
  | bl _ => cases r; rfl
  | int _ => obtain ⟨t, rfl⟩ := r; rfl
  | str _ => obtain ⟨t, rfl⟩ := r; rfl
  | byt _ => obtain ⟨t, rfl⟩ := r; rfl
  | flt _ => obtain ⟨t, rfl⟩ := r; rfl
  | ref _ => cases r; rfl
  | ty _ => cases r; rfl
theorem RelV.inj {x y : V} {u : Value} (r : RelV x u) (q : RelV y u) : x = y := Option.some.inj (r.abs.symm.trans q.abs)
theorem Vals.inj : ∀ {xs ys : List V} {us : List Value}, Vals xs us → Vals ys us → xs = ys
  | _, _, _, .nil, .nil => rfl
  | _, _, _, .cons r t, .cons r' t' => by rw [r.inj r', Vals.inj t t']
section
variable {X : Cx} {pins : List (Addr × Obj)} {σ : St} {H : Hp} {s : Shared} {a : Addr} {xs ys : List V}
theorem SqL.of {K : PySem.W.Frag} (h : H a = some (.lst xs)) : SqL K H a xs := .inl (.inl h)
theorem SqT.of {K : PySem.W.Frag} (h : H a = some (.tup xs)) : SqT K H a xs := .inl (.inl h)
theorem Inv.list (I : Inv X pins σ H s) (h : SqL X.K H a xs) : ∃ its : List Value, Vals xs its ∧ PlainL s.heap a its.toArray ∧ xs.length ≤ sizeLine := by
  rcases h with h | ⟨o, its, n, hk, hc, hd, hs, hz, r⟩
  · obtain ⟨z, its, n, r, e⟩ := h.ok I.hok
    exact ⟨its, r, ⟨_, n, e, rfl, rfl, rfl⟩, z⟩
  · refine ⟨its.toList, r, ⟨o, n, I.kIn a o hk, hc, hd, by simpa using hs⟩, ?_⟩
    have e := r.length
    simp only [Array.length_toList] at e
    omega
theorem Inv.tuple (I : Inv X pins σ H s) (h : SqT X.K H a xs) : ∃ its : List Value, Vals xs its ∧ IsTup s.heap a its.toArray ∧ xs.length ≤ sizeLine := by
  rcases h with h | ⟨o, its, n, hk, hc, hs, hz, r⟩
  · obtain ⟨z, its, r, p⟩ := h.ok I.hok
    exact ⟨its, r, p, z⟩
  · refine ⟨its.toList, r, ⟨o, I.kIn a o hk, hc, n, by simpa using hs⟩, ?_⟩
    have e := r.length
    simp only [Array.length_toList] at e
    omega
theorem Inv.list_inj (I : Inv X pins σ H s) (h : SqL X.K H a xs) (h' : SqL X.K H a ys) : xs = ys := by
  obtain ⟨its, r, ⟨o, n, e, _, _, d⟩, _⟩ := I.list h
  obtain ⟨its', r', ⟨o', n', e', _, _, d'⟩, _⟩ := I.list h'
  rw [e] at e'; cases e'
  rw [d] at d'
  injection d' with d1 _
  have : its = its' := by simpa using congrArg Array.toList d1
  subst this
  exact r.inj r'
theorem Inv.tuple_inj (I : Inv X pins σ H s) (h : SqT X.K H a xs) (h' : SqT X.K H a ys) : xs = ys := by
  obtain ⟨its, r, ⟨o, e, _, n, d⟩, _⟩ := I.tuple h
  obtain ⟨its', r', ⟨o', e', _, n', d'⟩, _⟩ := I.tuple h'
  rw [e] at e'; cases e'
  rw [d] at d'
  injection d' with d1 _
  have : its = its' := by simpa using congrArg Array.toList d1
  subst this
  exact r.inj r'
end

abbrev Cx.wish (X : Cx) (E : Value → Shared → Prop) : Cx := { X with xe := E }
abbrev Cx.nox (X : Cx) : Cx := X.wish fun _ _ => False
theorem Cx.Ok.wish {X : Cx} (ok : X.Ok) (E : Value → Shared → Prop) : (X.wish E).Ok :=
  ⟨ok.mod, ok.kind, ok.glob, ok.blt, ok.above, ok.inj, ok.has, ok.cab, ok.hd, ok.frames, ok.stk, ok.exf, ok.bs, ok.bsz, ok.noex, ok.exfs, ok.funs, ok.frf⟩
theorem Cx.Ok.unwish {X : Cx} {E : Value → Shared → Prop} (ok : (X.wish E).Ok) : X.Ok :=
  ⟨ok.mod, ok.kind, ok.glob, ok.blt, ok.above, ok.inj, ok.has, ok.cab, ok.hd, ok.frames, ok.stk, ok.exf, ok.bs, ok.bsz, ok.noex, ok.exfs, ok.funs, ok.frf⟩
section
variable {X : Cx} {pins : List (Addr × Obj)} {σ : St} {H : Hp} {s : Shared} {E : Value → Shared → Prop}
theorem Inv.wish (I : Inv X pins σ H s) (E : Value → Shared → Prop) : Inv (X.wish E) pins σ H s := ⟨I.ok.wish E, I.os, I.bare, I.base, I.loc, I.cell, I.free, I.freeC, I.pin, I.hok, I.len⟩
theorem Inv.unwish (I : Inv (X.wish E) pins σ H s) : Inv X pins σ H s := ⟨I.ok.unwish, I.os, I.bare, I.base, I.loc, I.cell, I.free, I.freeC, I.pin, I.hok, I.len⟩
theorem SP.unwish {D : Ends} {f : Flow} {s' : Shared} (h : SP (X.wish E) pins D f s') : SP X pins D f s' := by
  cases f with
  | next => obtain ⟨σ', H', I, q⟩ := h; exact ⟨σ', H', I.unwish, q⟩
  | brk => obtain ⟨σ', H', I, q⟩ := h; exact ⟨σ', H', I.unwish, q⟩
  | cont => obtain ⟨σ', H', I, q⟩ := h; exact ⟨σ', H', I.unwish, q⟩
  | ret u => obtain ⟨v, σ', H', I, r, q⟩ := h; exact ⟨v, σ', H', I.unwish, r, q⟩
theorem PSs.nox {st : List Stmt} {t : TS} (h : PSs X.nox st t) : PSs X st t := fun pins s σ H D I hw =>
  wpAny_mono (h pins s σ H D (I.wish _) hw) (fun _ _ q => q.unwish) fun _ _ z => False.elim z
end

section
variable {X : Cx} {st : Stmt} {rest : List Stmt} {t u : TS} {e : Expr} {te : TE} {pos : Pos}
def tNext : TS := fun D σ H => D.nx σ H
def tSeq (t u : TS) : TS := fun D σ H => t { D with nx := u D } σ H
theorem pss_nil : PSs X [] tNext := fun _ _ σ H _ I h => wpAny_execs_nil ⟨σ, H, I, h⟩
theorem pss_cons (h1 : PS X st t) (h2 : PSs X rest u) : PSs X (st :: rest) (tSeq t u) := by
  intro pins s σ H D I h
  refine wpAny_execs_cons (thn (h1 pins s σ H { D with nx := u D } I h) fun f s1 q => ?_)
  cases f with
  | next =>
    obtain ⟨σ', H', I', q⟩ := q
    exact h2 pins s1 σ' H' D I' q
  | ret v => exact q
  | brk => exact q
  | cont => exact q
theorem pss_one (h1 : PS X st t) : PSs X [st] t := by
  intro pins s σ H D I h
  refine wpAny_execs_cons (thn (h1 pins s σ H D I h) fun f s1 q => ?_)
  cases f with
  | next => exact wpAny_execs_nil q
  | ret v => exact q
  | brk => exact q
  | cont => exact q
theorem Inv.quiet {pins : List (Addr × Obj)} {σ : St} {H : Hp} {s : Shared} (I : Inv X pins σ H s) : interactive X.env = false := by simp [interactive, I.ok.kind]
def tDrop (te : TE) : TS := fun D σ H => te σ H fun _ H1 => D.nx σ H1
theorem ps_expr (he : PE X e te) (hs : swapsWith e none pos.line X.env = pure false := by rfl) : PS X (.Expr e pos) (tDrop te) := by
  intro pins s σ H D I h
  exact wpAny_Expr_any (thn (he pins s σ H _ I h) fun v s1 ⟨x, H1, I1, r1, q1⟩ => ⟨σ, H1, I1, q1⟩) I.quiet hs
def tRet (te : TE) : TS := fun D σ H => te σ H D.rt
theorem ps_ret (he : PE X e te) : PS X (.Return (some e) pos) (tRet te) := by
  intro pins s σ H D I h
  exact wpAny_Return_some (thn (he pins s σ H _ I h) fun v s1 ⟨x, H1, I1, r1, q1⟩ => ⟨x, σ, H1, I1, r1, q1⟩)
def tIfS (c : TT) (t u : TS) : TS := fun D σ H => c σ H fun b H1 => if b = true then t D σ H1 else u D σ H1
theorem ps_if {c : Expr} {a b : List Stmt} {tc : TT} (hc : PT X c tc) (ha : PSs X a t) (hb : PSs X b u) : PS X (.If c a b pos) (tIfS tc t u) := by
  intro pins s σ H D I h
  refine wpAny_If (thn (hc pins s σ H _ I h) fun d s1 ⟨H1, I1, q1⟩ => ?_)
  cases d with
  | true => exact ha pins s1 σ H1 D I1 q1
  | false => exact hb pins s1 σ H1 D I1 q1
end

abbrev TG := V → St → Hp → (St → Hp → Prop) → Prop
def PG (X : Cx) (target : Expr) (t : TG) : Prop :=
  ∀ (pins : List (Addr × Obj)) (s : Shared) (σ : St) (H : Hp) (v : V) (u : Value) (Q : St → Hp → Prop), Inv X pins σ H s → RelV v u → t v σ H Q →
    wpAny (model X.prog X.w) X.A (assign target X.env u) (fun _ s' => ∃ σ' H', Inv X pins σ' H' s' ∧ Q σ' H') X.xe s
abbrev TSet := V → V → V → Hp → (Hp → Prop) → Prop
def PSet (X : Cx) (t : TSet) : Prop :=
  ∀ (pins : List (Addr × Obj)) (s : Shared) (σ : St) (H : Hp) (o i v : V) (ov iv u : Value) (Q : Hp → Prop), Inv X pins σ H s → RelV o ov → RelV i iv → RelV v u → t o i v H Q →
    wpAny (model X.prog X.w) X.A (setItem ov iv u) (fun _ s' => ∃ H', Inv X pins σ H' s' ∧ Q H') X.xe s
abbrev TIp := V → V → Hp → VK → Prop
def PIp (X : Cx) (op : Operator) (t : TIp) : Prop :=
  ∀ (pins : List (Addr × Obj)) (s : Shared) (σ : St) (H : Hp) (x y : V) (v u : Value) (Q : VK), Inv X pins σ H s → RelV x v → RelV y u → t x y H Q →
    wpAny (model X.prog X.w) X.A (inplaceOp op v u) (EP X pins σ Q) X.xe s
section
variable {X : Cx} {pos : Pos}
def gName (i : Nat) : TG := fun v σ H Q => Q (σ.set i (some v)) H
theorem pg_name {i : Nat} {x : Str} (hN : X.N.Nodup) (hi : X.N[i]? = some x) (hx : Loc X.env.scope x) (hf : X.fn x = true ∨ X.env.scope.names.lookup x = some .local := by first | exact .inl rfl | exact .inr rfl | assumption) : PG X (.Name x pos) (gName i) := by
  intro pins s σ H v u Q I r h
  exact wpAny_assign_Name (store_ok I hN hi hx r (fun s' I' => ⟨_, H, I', h⟩) hf)
def gSub (to ti : TE) (t : TSet) : TG := fun v σ H Q => to σ H fun o H1 => ti σ H1 fun i H2 => t o i v H2 fun H3 => Q σ H3
theorem pg_sub {o i : Expr} {to ti : TE} {t : TSet} (ho : PE X o to) (hi : PE X i ti) (hs : PSet X t)
    (ha : ∀ v, assign (.Subscript o i pos) X.env v = (do
      let ov ← holding [v] (eval o X.env)
      let iv ← holding [v, ov] (eval i X.env)
      standAt pos
      holding [v, ov, iv] (setItem ov iv v)
      release [v, ov, iv] []) := by intro _; rfl) : PG X (.Subscript o i pos) (gSub to ti t) := by
  intro pins s σ H v u Q I r h
  rw [ha]
  refine wpAny_bind (wpAny_holding (thn (ho pins s σ H _ I h) fun ov s1 ⟨x, H1, I1, r1, q1⟩ => ?_))
  refine wpAny_bind (wpAny_holding (thn (hi pins s1 σ H1 _ I1 q1) fun iv s2 ⟨y, H2, I2, r2, q2⟩ => ?_))
  refine wpAny_bind (wpAny_standAt (wpAny_bind (wpAny_holding (thn (hs pins s2 σ H2 x y v ov iv u _ I2 r1 r2 r q2) fun _ s3 ⟨H3, I3, q3⟩ => ?_))))
  exact wpAny_release ⟨σ, H3, I3, q3⟩
def tAsg (te : TE) (g : TG) : TS := fun D σ H => te σ H fun x H1 => g x σ H1 D.nx
theorem ps_asg {tg e : Expr} {te : TE} {g : TG} (he : PE X e te) (hg : PG X tg g) (hs : swapsWithSole [tg] e pos.line X.env = pure false := by rfl) (hw : swappedStores [tg] e X.env = pure none := by rfl)
    (h1 : (assignEach [tg] X.env).map (·.2) = [assign tg X.env] := by rfl) : PS X (.Assign [tg] e pos) (tAsg te g) := by
  intro pins s σ H D I h
  refine wpAny_Assign_stores (thn (he pins s σ H _ I h) fun v s1 ⟨x, H1, I1, r1, q1⟩ => ?_) hs hw
  rw [h1]
  exact thn (hg pins s1 σ H1 x v _ I1 r1 q1) fun _ s2 q => q
theorem ps_set {i : Nat} {x : Str} {e : Expr} {te : TE} {pos' : Pos} (hN : X.N.Nodup) (hi : X.N[i]? = some x) (hx : Loc X.env.scope x) (he : PE X e te) (hs : swapsWith e (some (.Name x pos')) pos.line X.env = pure false := by rfl) (hf : X.fn x = true ∨ X.env.scope.names.lookup x = some .local := by first | exact .inl rfl | exact .inr rfl | assumption) :
    PS X (.Assign [.Name x pos'] e pos) (tAsg te (gName i)) := by
  intro pins s σ H D I h
  refine wpAny_Assign_Name (thn (he pins s σ H _ I h) fun v s1 ⟨y, H1, I1, r1, q1⟩ => ?_) hs
  exact store_ok I1 hN hi hx r1 (fun s2 I2 => ⟨_, H1, I2, q1⟩) hf
def tAug (i : Nat) (te : TE) (ti : TIp) : TS := fun D σ H => ∃ x, σ[i]? = some (some x) ∧ te σ H fun y H1 => ti x y H1 fun z H2 => D.nx (σ.set i (some z)) H2
theorem ps_aug {i : Nat} {x : Str} {e : Expr} {te : TE} {op : Operator} {ti : TIp} {pos' : Pos} (hN : X.N.Nodup) (hi : X.N[i]? = some x) (hx : Loc X.env.scope x) (he : PE X e te) (ho : PIp X op ti) (hf : X.fn x = true ∨ X.env.scope.names.lookup x = some .local := by first | exact .inl rfl | exact .inr rfl | assumption) :
    PS X (.AugAssign (.Name x pos') op e pos) (tAug i te ti) := by
  intro pins s σ H D I h
  obtain ⟨v, e1, h⟩ := h
  obtain ⟨m, hn, hl⟩ := I.loc
  have vis : Vis X.env.scope x := by rcases hx with k | k; exact .inl k; exact .inr (.inl k)
  obtain ⟨u, r, l⟩ := hl i x v hi e1 vis
  refine wpAny_AugAssign_Name ?_
  have go : wpAny (model X.prog X.w) X.A (eval e X.env) (fun w s₂ => wpAny (model X.prog X.w) X.A (inplaceOp op u w) (fun r s₃ => wpAny (model X.prog X.w) X.A (storeName X.env x r) (fun _ => SP X pins D .next) X.xe s₃) X.xe s₂) X.xe s := by
    refine thn (he pins s σ H _ I h) fun w s1 ⟨y, H1, I1, r1, q1⟩ => ?_
    refine thn (ho pins s1 σ H1 v y u w _ I1 r r1 q1) fun z s2 ⟨zv, H2, I2, r2, q2⟩ => ?_
    exact store_ok I2 hN hi hx r2 (fun s3 I3 => ⟨_, H2, I3, q2⟩) hf
  rcases l with ⟨hk, hm⟩ | ⟨hk, c, hc, hcell⟩
  · exact wpAny_loadName_local I.ok.kind hk hn hm go
  · rcases hk with hk | hk
    · exact wpAny_loadName_cell I.ok.kind hk hc hcell go
    · rcases hx with k | k
      · have : X.env.scope.names.lookup x = some .free := hk
        rw [k] at this; cases this
      · have : X.env.scope.names.lookup x = some .free := hk
        rw [k] at this; cases this
def ipI (f : Int → Int → Int) : TIp := fun x y H Q => ∃ i j, x = .int i ∧ y = .int j ∧ Q (.int (f i j)) H
theorem ip_add : PIp X .Add (ipI fun i j => i + j) := by
  intro pins s σ H x y v u Q I r1 r2 h
  obtain ⟨i, j, e1, e2, q⟩ := h
  subst e1; subst e2
  obtain ⟨t, rfl⟩ := r1
  obtain ⟨t', rfl⟩ := r2
  exact iadd_int ⟨.int _, H, I.tok _, ⟨_, rfl⟩, q⟩
end

section
variable {X : Cx} {pos : Pos}
def tWhile (c : TT) (tb : TS) : TS := fun D σ H => ∃ W : Nat → St → Hp → Prop, (∃ m, W m σ H) ∧ ∀ m σ H, W m σ H →
  c σ H fun b H1 => if b = true then ∃ N : St → Hp → Prop, (∀ σ' H', N σ' H' → ∃ m', m' < m ∧ W m' σ' H') ∧ tb { D with nx := N, ct := N, bk := D.nx } σ H1 else D.nx σ H1
theorem ps_while {c : Expr} {body : List Stmt} {tc : TT} {tb : TS} (hp : PassesOwn (model X.prog X.w) X.A X.env X.xe) (hc : PT X c tc) (hb : PSs X body tb) : PS X (.While c body [] pos) (tWhile tc tb) := by
  intro pins s σ H D I h
  obtain ⟨W, ⟨m0, w0⟩, turn⟩ := h
  refine wpAny_While (codeAny_whileLoop (fun n s' => ∃ σ' H', Inv X pins σ' H' s' ∧ W n σ' H') ?_ m0 ⟨σ, H, I, w0⟩)
  rintro n s1 ⟨σ1, H1, I1, w1⟩
  refine wpAny_passesOwn hp (thn (hc pins s1 σ1 H1 _ I1 (turn n σ1 H1 w1)) fun b s2 ⟨H2, I2, q2⟩ => ?_)
  cases b with
  | true =>
    obtain ⟨N, hN, q2⟩ := q2
    rw [if_pos rfl]
    refine wpAny_passesOwn hp (thn (hb pins s2 σ1 H2 _ I2 q2) fun f s3 q3 => ?_)
    cases f with
    | next =>
      obtain ⟨σ3, H3, I3, n3⟩ := q3
      obtain ⟨m', hm, w3⟩ := hN σ3 H3 n3
      exact ⟨m', hm, σ3, H3, I3, w3⟩
    | cont =>
      obtain ⟨σ3, H3, I3, n3⟩ := q3
      obtain ⟨m', hm, w3⟩ := hN σ3 H3 n3
      exact ⟨m', hm, σ3, H3, I3, w3⟩
    | brk => exact q3
    | ret v => exact q3
  | false =>
    rw [if_neg Bool.false_ne_true]
    exact wpAny_execs_nil ⟨σ1, H2, I2, q2⟩
end

structure It where
  go : Nat → Hp → Prop
  yld : Nat → Hp → V → Hp → Prop
  stop : Nat → Hp → Prop
def FpOk (X : Cx) (pins : List (Addr × Obj)) (H : Hp) (b : Addr) : Prop :=
  H b = none ∧ b ≠ X.env.locals ∧ b ∉ X.fs ∧ (b ∈ X.ex ∨ X.s₀.heap.objs.size ≤ b) ∧ (∀ x c, X.env.cells.lookup x = some c → c ≠ b) ∧ ∀ p ∈ X.pn ++ pins, p.1 ≠ b
theorem Inv.fpOk {X : Cx} {pins : List (Addr × Obj)} {σ : St} {H H' : Hp} {s : Shared} {b : Addr} (I : Inv X pins σ H s) (hb : s.heap.objs.size ≤ b) (hn : H' b = none) : FpOk X pins H' b := by
  refine ⟨hn, Nat.ne_of_gt (Nat.lt_of_lt_of_le I.lt hb), I.nofs hb, .inr (Nat.le_trans I.sz hb), fun x c e z => ?_, fun p hp z => ?_⟩
  · obtain ⟨v, q⟩ := I.cell x c e
    exact absurd (Nat.lt_of_lt_of_le q.lt (by rw [z]; exact hb)) (Nat.lt_irrefl _)
  · exact absurd (Nat.lt_of_lt_of_le (Heap.lt_size (I.pin p hp).1) (by rw [z]; exact hb)) (Nat.lt_irrefl _)
structure Turn (P : Program) (w : World) (K : PySem.W.Frag) (tg : Expr) (J : It) (fp : List Addr) (it : Addr) (tn : Nat → Heap → Prop) : Prop where
  mem : it ∈ fp
  obj : ∀ i h, tn i h → ∀ b ∈ fp, ∃ o, h.get? b = some o ∧ ∀ v, o.data ≠ .cell v
  keep : ∀ i h h', tn i h → (∀ b ∈ fp, ∀ o, h.get? b = some o → h'.get? b = some o) → tn i h'
  item : ∀ (X : Cx), X.prog = P → X.w = w → X.K = K → X.calm = true → ∀ (i : Nat) (pins : List (Addr × Obj)) (s : Shared) (σ : St) (H : Hp) (E : Value → Shared → Prop), Inv X pins σ H s → (∀ b ∈ fp, FpOk X pins H b) → tn i s.heap → J.go i H →
    wpAny (model P w) X.A (pyNext (.ref it)) (fun r s1 => ∃ u, r = some u ∧
      wpAny (model P w) X.A (letOwnedTupleGo tg (.ref it) u) (fun _ s2 => ∃ x H', Inv X pins σ H' s2 ∧ RelV x u ∧ J.yld i H x H' ∧ tn (i + 1) s2.heap ∧ ∀ b ∈ fp, H' b = none) E s1) E s
  done : ∀ (X : Cx), X.prog = P → X.w = w → X.K = K → X.calm = true → ∀ (i : Nat) (pins : List (Addr × Obj)) (s : Shared) (σ : St) (H : Hp) (E : Value → Shared → Prop), Inv X pins σ H s → (∀ b ∈ fp, FpOk X pins H b) → tn i s.heap → J.stop i H →
    wpAny (model P w) X.A (pyNext (.ref it)) (fun r s1 => r = none ∧ Inv X pins σ H s1) E s
  self : ∀ (A : Around) (i : Nat) (s : Shared) (Q : Value → Shared → Prop) (E : Value → Shared → Prop), tn i s.heap → Q (.ref it) s → wpAny (model P w) A (pyIter (.ref it)) Q E s
abbrev TI := St → Hp → (It → Hp → Prop) → Prop
def PIE (X : Cx) (pins : List (Addr × Obj)) (σ : St) (tg : Expr) (R : It → Hp → Prop) (itv : Value) (s2 : Shared) : Prop :=
  ∃ (it : Addr) (fp : List Addr) (tn : Nat → Heap → Prop) (J : It) (H' : Hp), itv = .ref it ∧ Inv X pins σ H' s2 ∧ Turn X.prog X.w X.K tg J fp it tn ∧ tn 0 s2.heap ∧ (∀ b ∈ fp, FpOk X pins H' b) ∧ R J H'
def PI (X : Cx) (tg iter : Expr) (wi : TI) : Prop :=
  ∀ (pins : List (Addr × Obj)) (s : Shared) (σ : St) (H : Hp) (R : It → Hp → Prop), Inv X pins σ H s → wi σ H R →
    wpAny (model X.prog X.w) X.A (eval iter X.env) (fun v s1 => wpAny (model X.prog X.w) X.A (pyIter v) (PIE X pins σ tg R) X.xe s1) X.xe s

theorem go_of {M : Model} {A : Around} {E : Value → Shared → Prop} {s : Shared} {tg : Expr} {it : Addr} {u : Value} {o : Obj} {n : String} {vs : Array Value} {Q : Unit → Shared → Prop} (ho : s.heap.get? it = some o) (hc : o.cls = .type n) (hd : o.data = .fields vs)
    (hn : ["enumerate", "zip", "dict_itemiterator", "dict_reverseitemiterator", "odict_iterator", "itertools.zip_longest", "itertools.pairwise"].contains n = false) (hQ : Q () s) : wpAny M A (letOwnedTupleGo tg (.ref it) u) Q E s := by
  unfold letOwnedTupleGo
  cases tg <;> first
    | exact wpAny_pure hQ
    | (cases u <;> first
        | exact wpAny_pure hQ
        | (refine wpAny_bind (wpAny_load ho ?_)
           rw [hc, hd]
           show wpAny M A (if (["enumerate", "zip", "dict_itemiterator", "dict_reverseitemiterator", "odict_iterator", "itertools.zip_longest", "itertools.pairwise"].contains n && vs[0]? == some (rawInt _)) = true then _ else _) Q E s
           rw [if_neg (by intro h; rw [hn, Bool.false_and] at h; cases h)]
           exact wpAny_pure hQ))

def Itl (K : PySem.W.Frag) (a : Addr) : It :=
  ⟨fun i H => ∃ xs x, SqL K H a xs ∧ xs[i]? = some x, fun i H x H' => H' = H ∧ ∀ xs, SqL K H a xs → xs[i]? = some x, fun i H => ∃ xs, SqL K H a xs ∧ xs.length ≤ i⟩
def Itt (K : PySem.W.Frag) (a : Addr) : It :=
  ⟨fun i H => ∃ xs x, SqT K H a xs ∧ xs[i]? = some x, fun i H x H' => H' = H ∧ ∀ xs, SqT K H a xs → xs[i]? = some x, fun i H => ∃ xs, SqT K H a xs ∧ xs.length ≤ i⟩
def Itr (lo : Int) (n : Nat) : It := ⟨fun i _ => i < n, fun i H x H' => H' = H ∧ x = .int (lo + i), fun i _ => n ≤ i⟩
theorem turn_list {P : Program} {w : World} {K : PySem.W.Frag} {tg : Expr} (a it : Addr) : Turn P w K tg (Itl K a) [it] it (fun i h => h.IsListIter it a i) where
  mem := by simp
  obj := fun i h st b hb => by
    have e : b = it := by simpa using hb
    subst e
    obtain ⟨o, e, c, d⟩ := st
    exact ⟨o, e, fun v z => by rw [d] at z; cases z⟩
  keep := fun i h h' st k => st.at fun o e => k it (by simp) o e
  item := by
    intro X hP hw hK hc i pins s σ H E I hf st hg
    subst hP hw hK
    obtain ⟨xs, x, hq, hx⟩ := hg
    obtain ⟨its, rv, p, hz⟩ := I.list hq
    obtain ⟨u, hu, ru⟩ := rv.get hx
    obtain ⟨f0, f1, f2, f3, f4, f5⟩ := hf it (by simp)
    refine wpAny_pyNext_list_item st p.isList (x := u) (by simpa using hu) fun h' st' sb => ?_
    have I1 : Inv X pins σ H { s with heap := h' } := I.turned (t' := s.toks) (fun b o hb e => (sb.2 b hb).trans e) f0 f1 f3 f4 f5
    obtain ⟨o, e, c, d⟩ := id st'
    exact ⟨u, rfl, go_of (s := { s with heap := h' }) e c d (by decide) ⟨x, H, I1, ru, ⟨rfl, fun ys hy => by rw [I.list_inj hy hq]; exact hx⟩, st', fun b hb => (hf b hb).1⟩⟩
  done := by
    intro X hP hw hK hc i pins s σ H E I hf st hg
    subst hP hw hK
    obtain ⟨xs, hq, hx⟩ := hg
    obtain ⟨its, rv, p, hz⟩ := I.list hq
    obtain ⟨f0, f1, f2, f3, f4, f5⟩ := hf it (by simp)
    have hl := rv.length
    exact wpAny_pyNext_list_end (I.ok.hd hc) st p.isList (by simp; omega) fun h' eb => ⟨rfl, I.turned (t' := s.toks) (fun b o hb e => eb b o hb e) f0 f1 f3 f4 f5⟩
  self := fun _ _ _ _ _ st h => wpAny_pyIter_listiter st h
theorem turn_tuple {P : Program} {w : World} {K : PySem.W.Frag} {tg : Expr} (a it : Addr) : Turn P w K tg (Itt K a) [it] it (fun i h => h.IsTupleIter it a i) where
  mem := by simp
  obj := fun i h st b hb => by
    have e : b = it := by simpa using hb
    subst e
    obtain ⟨o, e, c, d⟩ := st
    exact ⟨o, e, fun v z => by rw [d] at z; cases z⟩
  keep := fun i h h' st k => st.at fun o e => k it (by simp) o e
  item := by
    intro X hP hw hK hc i pins s σ H E I hf st hg
    subst hP hw hK
    obtain ⟨xs, x, hq, hx⟩ := hg
    obtain ⟨its, rv, p, hz⟩ := I.tuple hq
    obtain ⟨u, hu, ru⟩ := rv.get hx
    obtain ⟨f0, f1, f2, f3, f4, f5⟩ := hf it (by simp)
    refine wpAny_pyNext_tuple_item st (show s.heap.IsTuple a its.toArray from p) (x := u) (by simpa using hu) fun h' st' sb => ?_
    have I1 : Inv X pins σ H { s with heap := h' } := I.turned (t' := s.toks) (fun b o hb e => (sb.2 b hb).trans e) f0 f1 f3 f4 f5
    obtain ⟨o, e, c, d⟩ := id st'
    exact ⟨u, rfl, go_of (s := { s with heap := h' }) e c d (by decide) ⟨x, H, I1, ru, ⟨rfl, fun ys hy => by rw [I.tuple_inj hy hq]; exact hx⟩, st', fun b hb => (hf b hb).1⟩⟩
  done := by
    intro X hP hw hK hc i pins s σ H E I hf st hg
    subst hP hw hK
    obtain ⟨xs, hq, hx⟩ := hg
    obtain ⟨its, rv, p, hz⟩ := I.tuple hq
    obtain ⟨f0, f1, f2, f3, f4, f5⟩ := hf it (by simp)
    have hl := rv.length
    exact wpAny_pyNext_tuple_end (I.ok.hd hc) st (show s.heap.IsTuple a its.toArray from p) (by simp; omega) fun h' eb => ⟨rfl, I.turned (t' := s.toks) (fun b o hb e => eb b o hb e) f0 f1 f3 f4 f5⟩
  self := fun _ _ _ _ _ st h => wpAny_pyIter_tupleiter st h
theorem turn_range {P : Program} {w : World} {K : PySem.W.Frag} {tg : Expr} (it : Addr) (lo : Int) (n : Nat) : Turn P w K tg (Itr lo n) [it] it (fun i h => IsRangeIter h it (lo + (i : Nat) * 1) ((n : Int) - (i : Nat)) 1) where
  mem := by simp
  obj := fun i h st b hb => by
    have e : b = it := by simpa using hb
    subst e
    exact ⟨_, st, fun v z => by
      have z' : Data.fields _ = Data.cell v := z
      cases z'⟩
  keep := fun i h h' st k => k it (by simp) _ st
  item := by
    intro X hP hw hK hc i pins s σ H E I hf st hg
    subst hP hw hK
    obtain ⟨f0, f1, f2, f3, f4, f5⟩ := hf it (by simp)
    have W := Walks.range (prog := X.prog) (w := X.w) (I.ok.hd hc) it lo 1 n
    refine W.item i s _ _ hg st fun v h' tk hv st' kk => ?_
    obtain ⟨t, rfl⟩ := hv
    have I1 : Inv X pins σ H { s with heap := h', toks := tk } := I.turned (fun b o hb e => kk b o (by simpa using hb) e) f0 f1 f3 f4 f5
    refine ⟨_, rfl, go_of (s := { s with heap := h', toks := tk }) (n := "range_iterator") st' rfl rfl (by decide) ⟨.int (lo + i), H, I1, ⟨t, ?_⟩, ⟨rfl, rfl⟩, st', fun b hb => (hf b hb).1⟩⟩
    rw [Int.mul_one]
  done := by
    intro X hP hw hK hc i pins s σ H E I hf st hg
    subst hP hw hK
    obtain ⟨f0, f1, f2, f3, f4, f5⟩ := hf it (by simp)
    exact wpAny_pyNext_range_end (I.ok.hd hc) st (by have : n ≤ i := hg; omega) fun h' eb => ⟨rfl, I.turned (t' := s.toks) (fun b o hb e => eb b o hb e) f0 f1 f3 f4 f5⟩
  self := fun _ _ _ _ _ st h => wpAny_pyIter_rangeiter st h
end L2

namespace L2
open PySem PySem.Spec PyProof.Rows
section
variable {X : Cx} {tg : Expr}
def iList (K : PySem.W.Frag) (tl : TE) : TI := fun σ H R => tl σ H fun x H1 => ∃ a, x = .ref a ∧ (∃ xs, SqL K H1 a xs) ∧ R (Itl K a) H1
def iTup (K : PySem.W.Frag) (tl : TE) : TI := fun σ H R => tl σ H fun x H1 => ∃ a, x = .ref a ∧ (∃ xs, SqT K H1 a xs) ∧ R (Itt K a) H1
theorem pi_list {l : Expr} {tl : TE} (hl : PE X l tl) : PI X tg l (iList X.K tl) := by
  intro pins s σ H R I h
  refine thn (hl pins s σ H _ I h) fun v s1 ⟨x, H1, I1, r1, q1⟩ => ?_
  obtain ⟨a, e, ⟨xs, hq⟩, q⟩ := q1
  subst e
  cases r1
  obtain ⟨its, rv, p, hz⟩ := I1.list hq
  refine wpAny_pyIter_list p.isList ?_
  refine ⟨s1.heap.objs.size, [s1.heap.objs.size], _, _, H1, rfl, I1.kept (t' := s1.toks) fun b o e => Heap.get?_push_of_some _ e, turn_list a _, ⟨_, Heap.get?_push_size _ rfl, rfl, rfl⟩, fun b hb => ?_, q⟩
  have e : b = s1.heap.objs.size := by simpa using hb
  subst e
  exact I1.fpOk (Nat.le_refl _) (I1.hok.fresh (Nat.le_refl _))
theorem pi_tup {l : Expr} {tl : TE} (hl : PE X l tl) : PI X tg l (iTup X.K tl) := by
  intro pins s σ H R I h
  refine thn (hl pins s σ H _ I h) fun v s1 ⟨x, H1, I1, r1, q1⟩ => ?_
  obtain ⟨a, e, ⟨xs, hq⟩, q⟩ := q1
  subst e
  cases r1
  obtain ⟨its, rv, p, hz⟩ := I1.tuple hq
  refine wpAny_pyIter_tuple (show s1.heap.IsTuple a its.toArray from p) ?_
  refine ⟨s1.heap.objs.size, [s1.heap.objs.size], _, _, H1, rfl, I1.kept (t' := s1.toks) fun b o e => Heap.get?_push_of_some _ e, turn_tuple a _, ⟨_, Heap.get?_push_size _ rfl, rfl, rfl⟩, fun b hb => ?_, q⟩
  have e : b = s1.heap.objs.size := by simpa using hb
  subst e
  exact I1.fpOk (Nat.le_refl _) (I1.hok.fresh (Nat.le_refl _))
theorem range_it {pins : List (Addr × Obj)} {σ : St} {H : Hp} {s : Shared} {R : It → Hp → Prop} {E : Value → Shared → Prop} {lo hi : Int} {t u v : Tok} {tk : Nat} (I : Inv X pins σ H s) (h1 : -(2 ^ 62) ≤ lo) (h2 : lo < 2 ^ 62) (h3 : -(2 ^ 62) ≤ hi) (h4 : hi < 2 ^ 62)
    (q : R (Itr lo (hi - lo).toNat) H) : wpAny (model X.prog X.w) X.A (pyIter (.ref s.heap.objs.size)) (PIE X pins σ tg R) E { s with heap := s.heap.push { cls := .type "range", data := .fields #[.int lo t, .int hi u, .int 1 v] }, toks := tk } := by
  refine wpAny_pyIter_range (IsRange.new ..) (small_one h1 h2 h3 h4) ?_
  have I1 : Inv X pins σ H { s with heap := s.heap.push { cls := .type "range", data := .fields #[.int lo t, .int hi u, .int 1 v] }, toks := tk } := I.kept fun b o e => Heap.get?_push_of_some _ e
  refine ⟨(s.heap.push { cls := .type "range", data := .fields #[.int lo t, .int hi u, .int 1 v] }).objs.size, [(s.heap.push { cls := .type "range", data := .fields #[.int lo t, .int hi u, .int 1 v] }).objs.size], _, _, H, rfl,
    I1.kept (t' := tk) fun b o e => Heap.get?_push_of_some _ e, turn_range _ lo (hi - lo).toNat, ?_, fun b hb => ?_, q⟩
  · have e1 : lo + ((0 : Nat) : Int) * 1 = lo := by simp
    have e2 : (((hi - lo).toNat : Nat) : Int) - ((0 : Nat) : Int) = Builtin.Range.rangeSize lo hi 1 := by rw [rangeSize_one]; split <;> omega
    show IsRangeIter _ _ (lo + ((0 : Nat) : Int) * 1) ((((hi - lo).toNat : Nat) : Int) - ((0 : Nat) : Int)) 1
    rw [e1, e2]
    exact Heap.get?_push_size _ rfl
  · have e : b = (s.heap.push { cls := .type "range", data := .fields #[.int lo t, .int hi u, .int 1 v] }).objs.size := by simpa using hb
    subst e
    exact I1.fpOk (Nat.le_refl _) (I1.hok.fresh (Nat.le_refl _))
def iRng1 (ta : TA) : TI := fun σ H R => ta σ H fun vs H1 => ∃ j : Int, vs = [.int j] ∧ -(2 ^ 62) ≤ j ∧ j < 2 ^ 62 ∧ R (Itr 0 j.toNat) H1
def iRng2 (ta : TA) : TI := fun σ H R => ta σ H fun vs H1 => ∃ i j : Int, vs = [.int i, .int j] ∧ (-(2 ^ 62) ≤ i ∧ i < 2 ^ 62 ∧ -(2 ^ 62) ≤ j ∧ j < 2 ^ 62) ∧ R (Itr i (j - i).toNat) H1
theorem pi_range1 {a : Expr} {ta : TA} {p pos : Pos} (hg : Gl X "range") (hm : X.mg "range" = none) (ha : PA X [a] ta) (hs : starEach [a] X.env = [(false, eval a X.env)] := by rfl) : PI X tg (.Call (.Name "range" p) [a] [] pos) (iRng1 ta) := by
  intro pins s σ H R I h
  refine Call_ (ld_blt I hg hm boot_range (PyProof.Rows.callWith_type1 (thn (ha pos pins s σ H _ I h) fun us s1 ⟨vs, H1, I1, r1, q1⟩ => ?_) hs rfl))
  obtain ⟨j, e, q1, q2, q⟩ := q1
  subst e
  cases r1 with
  | cons r rr =>
    cases rr
    obtain ⟨t, rfl⟩ := r
    exact call_range_1 (range_it I1 (by omega) (by omega) q1 q2 (by simpa using q))
theorem pi_range2 {a b : Expr} {ta : TA} {p pos : Pos} (hg : Gl X "range") (hm : X.mg "range" = none) (ha : PA X [a, b] ta) (hs : starEach [a, b] X.env = [(false, eval a X.env), (false, eval b X.env)] := by rfl) (hs2 : starEach [b] X.env = [(false, eval b X.env)] := by rfl) :
    PI X tg (.Call (.Name "range" p) [a, b] [] pos) (iRng2 ta) := by
  intro pins s σ H R I h
  refine Call_ (ld_blt I hg hm boot_range (PyProof.Rows.callWith_type1 (thn (ha pos pins s σ H _ I h) fun us s1 ⟨vs, H1, I1, r1, q1⟩ => ?_) (by rw [hs, hs2]) (by rw [hs2]; rfl)))
  obtain ⟨i, j, e, ⟨q1, q2, q3, q4⟩, q⟩ := q1
  subst e
  cases r1 with
  | cons r rr =>
    cases rr with
    | cons r' rr =>
      cases rr
      obtain ⟨t, rfl⟩ := r
      obtain ⟨t', rfl⟩ := r'
      exact call_range_2 (range_it I1 q1 q2 q3 q4 q)

def tFor (wi : TI) (g : TG) (tb : TS) : TS := fun D σ H => wi σ H fun J H1 => ∃ W : Nat → Nat → St → Hp → Prop, (∃ m, W 0 m σ H1) ∧ ∀ i m σ H, W i m σ H →
  (J.stop i H ∧ D.nx σ H) ∨ (J.go i H ∧ ∃ N : St → Hp → Prop, (∀ σ' H', N σ' H' → ∃ m', m' < m ∧ W (i + 1) m' σ' H') ∧ ∀ x H', J.yld i H x H' → g x σ H' fun σ2 H2 => tb { D with nx := N, ct := N, bk := D.nx } σ2 H2)
def pinsAt (fp : List Addr) (h : Heap) : List (Addr × Obj) := fp.filterMap fun b => (h.get? b).map fun o => (b, o)
theorem mem_pinsAt {fp : List Addr} {h : Heap} {b : Addr} {o : Obj} (hb : b ∈ fp) (e : h.get? b = some o) : (b, o) ∈ pinsAt fp h := List.mem_filterMap.mpr ⟨b, hb, by rw [e]; rfl⟩
theorem of_pinsAt {fp : List Addr} {h : Heap} {p : Addr × Obj} (hp : p ∈ pinsAt fp h) : p.1 ∈ fp ∧ h.get? p.1 = some p.2 := by
  obtain ⟨b, hb, e⟩ := List.mem_filterMap.mp hp
  cases q : h.get? b with
  | none => rw [q] at e; cases e
  | some o =>
    rw [q] at e
    have e' : (b, o) = p := Option.some.inj e
    subst e'
    exact ⟨hb, q⟩
theorem Inv.pinned {pins : List (Addr × Obj)} {σ : St} {H : Hp} {s : Shared} {fp : List Addr} (I : Inv X pins σ H s) (hf : ∀ b ∈ fp, FpOk X pins H b) (ho : ∀ b ∈ fp, ∃ o, s.heap.get? b = some o ∧ ∀ v, o.data ≠ .cell v) : Inv X (pins ++ pinsAt fp s.heap) σ H s :=
  I.pins_of fun p hp => (List.mem_append.mp hp).elim (fun z => I.pin p (List.mem_append_right _ z)) fun z => by
    obtain ⟨hb, e⟩ := of_pinsAt z
    obtain ⟨f0, f1, f2, _⟩ := hf p.1 hb
    obtain ⟨o, e', d⟩ := ho p.1 hb
    rw [e] at e'; cases e'
    exact ⟨e, f0, f1, f2, d⟩
theorem Inv.unpinned {pins pl : List (Addr × Obj)} {σ : St} {H : Hp} {s : Shared} (I : Inv X (pins ++ pl) σ H s) : Inv X pins σ H s := I.pins_of fun p hp => I.pin p (List.mem_append_right _ (List.mem_append_left _ hp))
theorem ps_for {iter : Expr} {body : List Stmt} {wi : TI} {g : TG} {tb : TS} {pos : Pos} (hp : PassesOwn (model X.prog X.w) X.A X.env X.xe) (hc : X.calm = true) (hi : PI X tg iter wi) (hg : PG X tg g) (hb : PSs X body tb)
    (hs : ∀ x, foldedSetIterable iter X.env x = pure x := by intro _; rfl) : PS X (.For tg iter body [] pos) (tFor wi g tb) := by
  intro pins s σ H D I h
  refine wpAny_For (thn (hi pins s σ H _ I h) fun v s1 h1 => thn h1 fun itv s2 h2 => ?_) hs
  obtain ⟨it, fp, tn, J, H2, e, I2, T, st2, f2, W, ⟨m0, w0⟩, turn⟩ := h2
  subst e
  -- what stays true of the iterator's objects through the loop
  have stat : ∀ {H' : Hp}, (∀ b ∈ fp, H' b = none) → ∀ b ∈ fp, FpOk X pins H' b := fun hn b hb => ⟨hn b hb, (f2 b hb).2⟩
  refine codeAny_forLoop_any (fun n s' => ∃ i σ' H', Inv X pins σ' H' s' ∧ tn i s'.heap ∧ (∀ b ∈ fp, H' b = none) ∧ W i n σ' H') ?_ m0 ⟨0, σ, H2, I2, st2, fun b hb => (f2 b hb).1, w0⟩
  rintro n s3 ⟨i, σ3, H3, I3, st3, fr3, w3⟩
  rcases turn i n σ3 H3 w3 with ⟨stop, qn⟩ | ⟨go, N, hN, step⟩
  · refine wpAny_passesOwn hp (thn (T.done X rfl rfl rfl hc i pins s3 σ3 H3 X.xe I3 (stat fr3) st3 stop) fun r s4 ⟨hr, I4⟩ => ?_)
    subst hr
    exact wpAny_execs_nil ⟨σ3, H3, I4, qn⟩
  · refine wpAny_passesOwn hp (thn (T.item X rfl rfl rfl hc i pins s3 σ3 H3 X.xe I3 (stat fr3) st3 go) fun r s4 ⟨u, hr, h4⟩ => ?_)
    subst hr
    refine wpAny_passesOwn hp (thn h4 fun _ s5 ⟨x, H5, I5, r5, y5, st5, fr5⟩ => ?_)
    have I5' := I5.pinned (stat fr5) (T.obj _ _ st5)
    refine wpAny_passesOwn hp (thn (hg _ s5 σ3 H5 x u _ I5' r5 (step x H5 y5)) fun _ s6 ⟨σ6, H6, I6, q6⟩ => ?_)
    refine wpAny_passesOwn hp (thn (hb _ s6 σ6 H6 _ I6 q6) fun f s7 q7 => ?_)
    have again : ∀ {σ7 : St} {H7 : Hp}, Inv X (pins ++ pinsAt fp s5.heap) σ7 H7 s7 → N σ7 H7 → ∃ m, m < n ∧ ∃ i σ' H', Inv X pins σ' H' s7 ∧ tn i s7.heap ∧ (∀ b ∈ fp, H' b = none) ∧ W i m σ' H' := fun {σ7 H7} I7 n7 => by
      obtain ⟨m', hm, w7⟩ := hN σ7 H7 n7
      refine ⟨m', hm, i + 1, σ7, H7, I7.unpinned, T.keep _ _ _ st5 fun b hb o e => (I7.pin (b, o) (List.mem_append_right _ (List.mem_append_right _ (mem_pinsAt hb e)))).1, fun b hb => ?_, w7⟩
      obtain ⟨o, e, d⟩ := T.obj _ _ st5 b hb
      exact (I7.pin (b, o) (List.mem_append_right _ (List.mem_append_right _ (mem_pinsAt hb e)))).2.1
    cases f with
    | next => obtain ⟨σ7, H7, I7, n7⟩ := q7; exact again I7 n7
    | cont => obtain ⟨σ7, H7, I7, n7⟩ := q7; exact again I7 n7
    | brk => obtain ⟨σ7, H7, I7, q7⟩ := q7; exact ⟨σ7, H7, I7.unpinned, q7⟩
    | ret v => obtain ⟨x7, σ7, H7, I7, r7, q7⟩ := q7; exact ⟨x7, σ7, H7, I7.unpinned, r7, q7⟩
end

theorem for_list {K : PySem.W.Frag} {a : Addr} {xs : List V} {g : TG} {tb : TS} {D : Ends} {σ : St} {H : Hp} (Pv : Nat → St → Hp → Prop) (h0 : Pv 0 σ H) (hl : ∀ i σ H, i ≤ xs.length → Pv i σ H → SqL K H a xs)
    (hs : ∀ i x σ H, xs[i]? = some x → Pv i σ H → g x σ H fun σ2 H2 => tb { D with nx := Pv (i + 1), ct := Pv (i + 1), bk := D.nx } σ2 H2) (hd : ∀ σ H, Pv xs.length σ H → D.nx σ H) :
    ∃ W : Nat → Nat → St → Hp → Prop, (∃ m, W 0 m σ H) ∧ ∀ i m σ H, W i m σ H →
      ((Itl K a).stop i H ∧ D.nx σ H) ∨ ((Itl K a).go i H ∧ ∃ N : St → Hp → Prop, (∀ σ' H', N σ' H' → ∃ m', m' < m ∧ W (i + 1) m' σ' H') ∧ ∀ x H', (Itl K a).yld i H x H' → g x σ H' fun σ2 H2 => tb { D with nx := N, ct := N, bk := D.nx } σ2 H2) := by
  refine ⟨fun i m σ H => m = xs.length - i ∧ i ≤ xs.length ∧ Pv i σ H, ⟨xs.length, by simp, Nat.zero_le _, h0⟩, ?_⟩
  rintro i m σ H ⟨rfl, hi, p⟩
  have q := hl i σ H hi p
  by_cases hlt : i < xs.length
  · refine .inr ⟨⟨xs, xs[i], q, by simp [hlt]⟩, Pv (i + 1), fun σ' H' p' => ⟨xs.length - (i + 1), by omega, rfl, hlt, p'⟩, fun x H' y => ?_⟩
    obtain ⟨e, y⟩ := y
    subst e
    exact hs i x σ _ (y xs q) p
  · have e : i = xs.length := by omega
    subst e
    exact .inl ⟨⟨xs, q, Nat.le_refl _⟩, hd σ H p⟩
theorem for_range {lo : Int} {n : Nat} {g : TG} {tb : TS} {D : Ends} {σ : St} {H : Hp} (Pv : Nat → St → Hp → Prop) (h0 : Pv 0 σ H)
    (hs : ∀ i σ H, i < n → Pv i σ H → g (.int (lo + i)) σ H fun σ2 H2 => tb { D with nx := Pv (i + 1), ct := Pv (i + 1), bk := D.nx } σ2 H2) (hd : ∀ σ H, Pv n σ H → D.nx σ H) :
    ∃ W : Nat → Nat → St → Hp → Prop, (∃ m, W 0 m σ H) ∧ ∀ i m σ H, W i m σ H →
      ((Itr lo n).stop i H ∧ D.nx σ H) ∨ ((Itr lo n).go i H ∧ ∃ N : St → Hp → Prop, (∀ σ' H', N σ' H' → ∃ m', m' < m ∧ W (i + 1) m' σ' H') ∧ ∀ x H', (Itr lo n).yld i H x H' → g x σ H' fun σ2 H2 => tb { D with nx := N, ct := N, bk := D.nx } σ2 H2) := by
  refine ⟨fun i m σ H => m = n - i ∧ i ≤ n ∧ Pv i σ H, ⟨n, by simp, Nat.zero_le _, h0⟩, ?_⟩
  rintro i m σ H ⟨rfl, hi, p⟩
  by_cases hlt : i < n
  · refine .inr ⟨hlt, Pv (i + 1), fun σ' H' p' => ⟨n - (i + 1), by omega, rfl, hlt, p'⟩, fun x H' y => ?_⟩
    obtain ⟨e, y⟩ := y
    subst e y
    exact hs i σ _ hlt p
  · have e : i = n := by omega
    subst e
    exact .inl ⟨Nat.le_refl _, hd σ H p⟩
end L2

namespace L2
open PySem PySem.Spec PyProof.Rows

abbrev R2 := V → V → Hp → VK → Prop
def OpR (X : Cx) (f : Value → Value → Sem Value) (r : R2) : Prop :=
  ∀ (pins : List (Addr × Obj)) (s : Shared) (σ : St) (H : Hp) (x y : V) (v u : Value) (Q : VK), Inv X pins σ H s → RelV x v → RelV y u → r x y H Q →
    wpAny (model X.prog X.w) X.A (f v u) (EP X pins σ Q) X.xe s
def UnR (X : Cx) (f : Value → Sem Value) (r : V → Hp → VK → Prop) : Prop :=
  ∀ (pins : List (Addr × Obj)) (s : Shared) (σ : St) (H : Hp) (x : V) (v : Value) (Q : VK), Inv X pins σ H s → RelV x v → r x H Q →
    wpAny (model X.prog X.w) X.A (f v) (EP X pins σ Q) X.xe s
def CallR (X : Cx) (f : Value) (r : List V → Hp → VK → Prop) : Prop :=
  ∀ (pins : List (Addr × Obj)) (s : Shared) (σ : St) (H : Hp) (xs : List V) (us : List Value) (Q : VK), Inv X pins σ H s → Vals xs us → r xs H Q →
    wpAny (model X.prog X.w) X.A (call f us) (EP X pins σ Q) X.xe s
def tOp (r : R2) (ta tb : TE) : TE := fun σ H Q => ta σ H fun x H1 => tb σ H1 fun y H2 => r x y H2 Q
def tUn (r : V → Hp → VK → Prop) (ta : TE) : TE := fun σ H Q => ta σ H fun x H1 => r x H1 Q
def rI (C : Int → Int → Prop) (g : Int → Int → V) : R2 := fun x y H Q => ∃ i j, x = .int i ∧ y = .int j ∧ C i j ∧ Q (g i j) H
def rI0 (g : Int → Int → V) : R2 := fun x y H Q => ∃ i j, x = .int i ∧ y = .int j ∧ Q (g i j) H
def rU (g : Int → V) : V → Hp → VK → Prop := fun x H Q => ∃ i, x = .int i ∧ Q (g i) H

section
variable {X : Cx} {a b c : Expr} {ta tb tc : TE} {pos : Pos}

theorem binT (ha : PE X a ta) (hb : PE X b tb) {pins : List (Addr × Obj)} {s : Shared} {σ : St} {H : Hp} {R : V → V → Hp → Prop} (I : Inv X pins σ H s)
    (h : ta σ H fun x H1 => tb σ H1 fun y H2 => R x y H2) {Q : Value → Shared → Prop} {f : Value → Value → Sem Value}
    (hf : ∀ v u s2 x y H2, Inv X pins σ H2 s2 → RelV x v → RelV y u → R x y H2 → wpAny (model X.prog X.w) X.A (f v u) Q X.xe s2) :
    wpAny (model X.prog X.w) X.A (eval a X.env) (fun v s₁ => wpAny (model X.prog X.w) X.A (eval b X.env) (fun u s₂ => wpAny (model X.prog X.w) X.A (f v u) Q X.xe s₂) X.xe s₁) X.xe s := by
  refine thn (ha pins s σ H _ I h) fun v s1 ⟨x, H1, I1, r1, q1⟩ => ?_
  refine thn (hb pins s1 σ H1 _ I1 q1) fun u s2 ⟨y, H2, I2, r2, q2⟩ => ?_
  exact hf v u s2 x y H2 I2 r1 r2 q2

theorem pe_op {op : Operator} {r : R2} (ho : OpR X (binaryOp op) r) (ha : PE X a ta) (hb : PE X b tb) : PE X (.BinOp a op b pos) (tOp r ta tb) := by
  intro pins s σ H Q I h
  exact wpAny_BinOp (binT ha hb I h fun v u s2 x y H2 I2 rx ry q => ho pins s2 σ H2 x y v u Q I2 rx ry q)
theorem pe_un {op : UnaryOp} {r : V → Hp → VK → Prop} (ho : UnR X (unaryOp op) r) (ha : PE X a ta) : PE X (.UnaryOp op a pos) (tUn r ta) := by
  intro pins s σ H Q I h
  exact UnaryOp_ (thn (ha pins s σ H _ I h) fun v s1 ⟨x, H1, I1, r1, q1⟩ => ho pins s1 σ H1 x v Q I1 r1 q1)
theorem opI {f : Value → Value → Sem Value} {C : Int → Int → Prop} {g : Int → Int → Int}
    (rule : ∀ (i j : Int) (t u : Tok) (s : Shared) (Q : Value → Shared → Prop) (E : Value → Shared → Prop), C i j → Q (.int (g i j) s.toks) { s with toks := s.toks + 1 } → wpAny (model X.prog X.w) X.A (f (.int i t) (.int j u)) Q E s) :
    OpR X f (rI C fun i j => .int (g i j)) := by
  intro pins s σ H x y v u Q I rx ry h
  obtain ⟨i, j, rfl, rfl, hc, q⟩ := h
  obtain ⟨t, rfl⟩ := rx
  obtain ⟨t', rfl⟩ := ry
  exact rule i j t t' s _ _ hc ⟨.int (g i j), H, I.tok _, ⟨_, rfl⟩, q⟩
theorem opI0 {f : Value → Value → Sem Value} {g : Int → Int → Int}
    (rule : ∀ (i j : Int) (t u : Tok) (s : Shared) (Q : Value → Shared → Prop) (E : Value → Shared → Prop), Q (.int (g i j) s.toks) { s with toks := s.toks + 1 } → wpAny (model X.prog X.w) X.A (f (.int i t) (.int j u)) Q E s) :
    OpR X f (rI0 fun i j => .int (g i j)) := by
  intro pins s σ H x y v u Q I rx ry h
  obtain ⟨i, j, rfl, rfl, q⟩ := h
  obtain ⟨t, rfl⟩ := rx
  obtain ⟨t', rfl⟩ := ry
  exact rule i j t t' s _ _ ⟨.int (g i j), H, I.tok _, ⟨_, rfl⟩, q⟩
theorem opB0 {f : Value → Value → Sem Value} {g : Int → Int → Bool}
    (rule : ∀ (i j : Int) (t u : Tok) (s : Shared) (Q : Value → Shared → Prop) (E : Value → Shared → Prop), Q (.bool (g i j)) s → wpAny (model X.prog X.w) X.A (f (.int i t) (.int j u)) Q E s) :
    OpR X f (rI0 fun i j => .bl (g i j)) := by
  intro pins s σ H x y v u Q I rx ry h
  obtain ⟨i, j, rfl, rfl, q⟩ := h
  obtain ⟨t, rfl⟩ := rx
  obtain ⟨t', rfl⟩ := ry
  exact rule i j t t' s _ _ ⟨.bl (g i j), H, I, rfl, q⟩

def CDiv (i j : Int) : Prop := 0 < j ∧ j < 1073741824
def CPow (i j : Int) : Prop := 0 ≤ j ∧ j ≤ 1000000 ∧ i.natAbs < 2 ^ 64
def CMul (i j : Int) : Prop := (-(2 ^ 64) < i ∧ i < 2 ^ 64) ∨ (-(2 ^ 64) < j ∧ j < 2 ^ 64)
theorem CMul.ok {i j : Int} (h : CMul i j) : IntMulOk i j := by
  rcases h with ⟨h1, h2⟩ | ⟨h1, h2⟩
  · exact .of_left (intBits_le_64 h1 h2)
  · exact .of_right (intBits_le_64 h1 h2)
theorem op_add : OpR X (binaryOp .Add) (rI0 fun i j => .int (i + j)) := opI0 fun _ _ _ _ _ _ _ q => add_int q
theorem op_sub : OpR X (binaryOp .Sub) (rI0 fun i j => .int (i - j)) := opI0 fun _ _ _ _ _ _ _ q => sub_int q
theorem op_mul : OpR X (binaryOp .Mult) (rI CMul fun i j => .int (i * j)) := opI fun _ _ _ _ _ _ _ hc q => mul_int q hc.ok
theorem op_fdiv : OpR X (binaryOp .FloorDiv) (rI CDiv fun i j => .int (i / j)) := opI fun i j _ _ _ _ _ hc q => by
  have h1 : (0 : Int) < j := hc.1
  have h2 : j < 1073741824 := hc.2
  exact floordiv_int (by omega) (by rw [Int.fdiv_eq_ediv_of_nonneg i (by omega)]; exact q) (.inl (PyProof.noPylong_small (by omega)))
theorem op_mod : OpR X (binaryOp .Mod) (rI (fun _ j => 0 < j) fun i j => .int (i % j)) := opI fun i j _ _ _ _ _ hc q => by
  have h1 : (0 : Int) < j := hc
  exact mod_int' (by omega) (by rw [Int.fmod_eq_emod_of_nonneg i (by omega)]; exact q)
theorem op_pow : OpR X (binaryOp .Pow) (rI CPow fun i j => .int (i ^ j.toNat)) := opI fun _ _ _ _ _ _ _ hc q => pow_int_small hc.1 hc.2.1 hc.2.2 q
theorem unI {f : Value → Sem Value} {g : Int → Int}
    (rule : ∀ (i : Int) (t : Tok) (s : Shared) (Q : Value → Shared → Prop) (E : Value → Shared → Prop), Q (.int (g i) s.toks) { s with toks := s.toks + 1 } → wpAny (model X.prog X.w) X.A (f (.int i t)) Q E s) :
    UnR X f (rU fun i => .int (g i)) := by
  intro pins s σ H x v Q I rx h
  obtain ⟨i, rfl, q⟩ := h
  obtain ⟨t, rfl⟩ := rx
  exact rule i t s _ _ ⟨.int (g i), H, I.tok _, ⟨_, rfl⟩, q⟩
theorem un_neg : UnR X (unaryOp .USub) (rU fun i => .int (-i)) := unI fun _ _ _ _ _ q => neg_int q
end

def scal : V → V → Bool
  | .non, .non => true | .non, .int _ => true | .int _, .non => true | .non, .bl _ => true | .bl _, .non => true | .non, .str _ => true | .str _, .non => true
  | .int _, .int _ => true | .bl _, .bl _ => true | .str _, .str _ => true | .byt _, .byt _ => true
  | .int _, .str _ => true | .str _, .int _ => true | .bl _, .str _ => true | .str _, .bl _ => true
  | _, _ => false
def rEq : R2 := fun x y H Q => scal x y = true ∧ Q (.bl (decide (x = y))) H
def rNe : R2 := fun x y H Q => scal x y = true ∧ Q (.bl (!decide (x = y))) H

theorem dec_int {i j : Int} : decide (V.int i = V.int j) = (i == j) := by
  rw [Bool.eq_iff_iff]
  simp
theorem dec_bl {i j : Bool} : decide (V.bl i = V.bl j) = (i == j) := by
  rw [Bool.eq_iff_iff]
  simp
theorem dec_str {i j : Str} : decide (V.str i = V.str j) = (i == j) := by
  rw [Bool.eq_iff_iff]
  simp
theorem dec_byt {i j : Array UInt8} : decide (V.byt i = V.byt j) = (i.toList == j.toList) := by
  rw [Bool.eq_iff_iff]
  cases i
  cases j
  simp

section
variable {X : Cx} {a b c : Expr} {ta tb tc : TE} {pos : Pos}
theorem fin_bl {pins : List (Addr × Obj)} {σ : St} {H : Hp} {s : Shared} {Q : VK} {k k' : Bool} (I : Inv X pins σ H s) (q : Q (.bl k) H) (e : k = k') : EP X pins σ Q (.bool k') s := by
  subst e
  exact ⟨.bl k, H, I, rfl, q⟩
theorem op_eq : OpR X (compareOp .Eq) rEq := by
  intro pins s σ H x y v u Q I rx ry h
  obtain ⟨hs, q⟩ := h
  cases x with
  | non =>
    cases rx
    cases y with
    | non => cases ry; exact PySem.EqNone.eq_none_none (fin_bl I q (by simp))
    | bl j => cases ry; exact PySem.EqNone.eq_none_bool (fin_bl I q (by simp))
    | int j => obtain ⟨t', rfl⟩ := ry; exact PySem.EqNone.eq_none_int (fin_bl I q (by simp))
    | str j => obtain ⟨t', rfl⟩ := ry; exact PySem.EqNone.eq_none_str (fin_bl I q (by simp))
    | _ => exact absurd (show false = true from hs) Bool.false_ne_true
  | bl i =>
    cases rx
    cases y with
    | non => cases ry; exact PySem.EqNone.eq_bool_none (fin_bl I q (by simp))
    | bl j => cases ry; exact eq_bool (fin_bl I q dec_bl)
    | str j => obtain ⟨t', rfl⟩ := ry; exact PySem.EqMixed.eq_bool_str (fin_bl I q (by simp))
    | _ => exact absurd (show false = true from hs) Bool.false_ne_true
  | int i =>
    obtain ⟨t, rfl⟩ := rx
    cases y with
    | non => cases ry; exact PySem.EqNone.eq_int_none (fin_bl I q (by simp))
    | int j => obtain ⟨t', rfl⟩ := ry; exact eq_int (fin_bl I q dec_int)
    | str j => obtain ⟨t', rfl⟩ := ry; exact PySem.EqMixed.eq_int_str (fin_bl I q (by simp))
    | _ => exact absurd (show false = true from hs) Bool.false_ne_true
  | str i =>
    obtain ⟨t, rfl⟩ := rx
    cases y with
    | non => cases ry; exact PySem.EqNone.eq_str_none (fin_bl I q (by simp))
    | bl j => cases ry; exact PySem.EqMixed.eq_str_bool (fin_bl I q (by simp))
    | int j => obtain ⟨t', rfl⟩ := ry; exact PySem.EqMixed.eq_str_int (fin_bl I q (by simp))
    | str j => obtain ⟨t', rfl⟩ := ry; exact eq_str (fin_bl I q dec_str)
    | _ => exact absurd (show false = true from hs) Bool.false_ne_true
  | byt i =>
    obtain ⟨t, rfl⟩ := rx
    cases y with
    | byt j => obtain ⟨t', rfl⟩ := ry; exact PySem.W.eq_bytes (fin_bl I q dec_byt)
    | _ => exact absurd (show false = true from hs) Bool.false_ne_true
  | _ => cases y <;> exact absurd (show false = true from hs) Bool.false_ne_true
theorem op_ne : OpR X (compareOp .NotEq) rNe := by
  intro pins s σ H x y v u Q I rx ry h
  obtain ⟨hs, q⟩ := h
  cases x with
  | non =>
    cases rx
    cases y with
    | non => cases ry; exact PySem.EqNone.ne_none_none (fin_bl I q (by simp))
    | bl j => cases ry; exact PySem.EqNone.ne_none_bool (fin_bl I q (by simp))
    | int j => obtain ⟨t', rfl⟩ := ry; exact PySem.EqNone.ne_none_int (fin_bl I q (by simp))
    | str j => obtain ⟨t', rfl⟩ := ry; exact PySem.EqNone.ne_none_str (fin_bl I q (by simp))
    | _ => exact absurd (show false = true from hs) Bool.false_ne_true
  | bl i =>
    cases rx
    cases y with
    | non => cases ry; exact PySem.EqNone.ne_bool_none (fin_bl I q (by simp))
    | bl j => cases ry; exact ne_bool (fin_bl I q (congrArg not dec_bl))
    | str j => obtain ⟨t', rfl⟩ := ry; exact PySem.EqMixed.ne_bool_str (fin_bl I q (by simp))
    | _ => exact absurd (show false = true from hs) Bool.false_ne_true
  | int i =>
    obtain ⟨t, rfl⟩ := rx
    cases y with
    | non => cases ry; exact PySem.EqNone.ne_int_none (fin_bl I q (by simp))
    | int j => obtain ⟨t', rfl⟩ := ry; exact ne_int (fin_bl I q (congrArg not dec_int))
    | str j => obtain ⟨t', rfl⟩ := ry; exact PySem.EqMixed.ne_int_str (fin_bl I q (by simp))
    | _ => exact absurd (show false = true from hs) Bool.false_ne_true
  | str i =>
    obtain ⟨t, rfl⟩ := rx
    cases y with
    | non => cases ry; exact PySem.EqNone.ne_str_none (fin_bl I q (by simp))
    | bl j => cases ry; exact PySem.EqMixed.ne_str_bool (fin_bl I q (by simp))
    | int j => obtain ⟨t', rfl⟩ := ry; exact PySem.EqMixed.ne_str_int (fin_bl I q (by simp))
    | str j => obtain ⟨t', rfl⟩ := ry; exact ne_str (fin_bl I q (congrArg not dec_str))
    | _ => exact absurd (show false = true from hs) Bool.false_ne_true
  | byt i =>
    obtain ⟨t, rfl⟩ := rx
    cases y with
    | byt j => obtain ⟨t', rfl⟩ := ry; exact PySem.W.ne_bytes (fin_bl I q (congrArg not dec_byt))
    | _ => exact absurd (show false = true from hs) Bool.false_ne_true
  | _ => cases y <;> exact absurd (show false = true from hs) Bool.false_ne_true

theorem op_lt : OpR X (compareOp .Lt) (rI0 fun i j => .bl (decide (i < j))) := opB0 fun _ _ _ _ _ _ _ q => lt_int q
theorem op_le : OpR X (compareOp .LtE) (rI0 fun i j => .bl (decide (i ≤ j))) := opB0 fun _ _ _ _ _ _ _ q => le_int q
theorem op_gt : OpR X (compareOp .Gt) (rI0 fun i j => .bl (decide (j < i))) := opB0 fun _ _ _ _ _ _ _ q => gt_int q
theorem op_ge : OpR X (compareOp .GtE) (rI0 fun i j => .bl (decide (j ≤ i))) := opB0 fun _ _ _ _ _ _ _ q => ge_int q
theorem op_isN : OpR X (compareOp .Is) (fun x y H Q => y = .non ∧ Q (.bl (decide (x = .non))) H) := by
  intro pins s σ H x y v u Q I rx ry h
  obtain ⟨rfl, q⟩ := h
  cases ry
  refine is_none_gen (fin_bl I q ?_)
  cases x <;> first
    | (cases rx; rfl)
    | (obtain ⟨t, rfl⟩ := rx; rfl)
theorem nomark (b : Expr) {op : CmpOp} (h : op ≠ .In := by decide) (h2 : op ≠ .NotIn := by decide) : behindInMarks op b = false := by
  have e1 : (op == CmpOp.In) = false := by cases op <;> first | rfl | exact absurd rfl h
  have e2 : (op == CmpOp.NotIn) = false := by cases op <;> first | rfl | exact absurd rfl h2
  cases b <;> simp [behindInMarks, e1, e2]
theorem pe_cmpR {op : CmpOp} {r : R2} (ho : OpR X (compareOp op) r) (ha : PE X a ta) (hb : PE X b tb) (hm : behindInMarks op b = false) : PE X (.Compare a [op] [b] pos) (tOp r ta tb) := by
  intro pins s σ H Q I h
  exact wpAny_Compare1 (binT ha hb I h fun v u s2 x y H2 I2 rx ry q => ho pins s2 σ H2 x y v u Q I2 rx ry q) hm
def tTest (t : TE) : TT := fun σ H Q => t σ H fun x H' => ∃ k, x = .bl k ∧ Q k H'
theorem pt_cmpR {op : CmpOp} {r : R2} (ho : OpR X (compareOp op) r) (ha : PE X a ta) (hb : PE X b tb) (hm : behindInMarks op b = false) : PT X (.Compare a [op] [b] pos) (tTest (tOp r ta tb)) := by
  intro pins s σ H Q I h
  refine wpAny_isTrue_Compare1 (thn (ha pins s σ H _ I h) fun v s1 ⟨x, H1, I1, r1, q1⟩ => thn (hb pins s1 σ H1 _ I1 q1) fun u s2 ⟨y, H2, I2, r2, q2⟩ =>
    thn (ho pins s2 σ H2 x y v u _ I2 r1 r2 q2) fun c s3 ⟨z, H3, I3, r3, k, e, q3⟩ => ?_) hm
  subst e
  cases r3
  exact wpAny_truthy_bool ⟨H3, I3, q3⟩
def tChain (r r' : R2) (ta tb tc : TE) : TE := fun σ H Q => ta σ H fun x H1 => tb σ H1 fun y H2 => r x y H2 fun z H3 => ∃ k, z = .bl k ∧
  (if k = true then tc σ H3 fun w' H4 => r' y w' H4 Q else Q (.bl false) H3)
theorem pe_chain {op op' : CmpOp} {r r' : R2} (ho : OpR X (compareOp op) r) (ho' : OpR X (compareOp op') r') (ha : PE X a ta) (hb : PE X b tb) (hc : PE X c tc)
    (hm : lastMarks [op, op'] [b, c] = false := by with_unfolding_all rfl) : PE X (.Compare a [op, op'] [b, c] pos) (tChain r r' ta tb tc) := by
  intro pins s σ H Q I h
  refine Compare_chain (thn (ha pins s σ H _ I h) fun v s1 ⟨x, H1, I1, r1, q1⟩ => chain_link (thn (hb pins s1 σ H1 _ I1 q1) fun u s2 ⟨y, H2, I2, r2, q2⟩ =>
    thn (ho pins s2 σ H2 x y v u _ I2 r1 r2 q2) fun d s3 ⟨z, H3, I3, r3, k, e, q3⟩ => ?_)) hm
  subst e
  cases r3
  refine wpAny_truthy_bool ?_
  cases k with
  | false => exact ite_ff ⟨.bl false, H3, I3, rfl, q3⟩
  | true => exact ite_tt (chain_last (thn (hc pins s3 σ H3 _ I3 q3) fun w' s4 ⟨z', H4, I4, r4, q4⟩ => ho' pins s4 σ H4 y z' u w' Q I4 r2 r4 q4))
theorem line63 : (sizeLine : Nat) < 2 ^ 63 := by rw [sizeLine_eq]; decide
theorem vals1 {x : V} {us : List Value} (r : Vals [x] us) : ∃ u, us = [u] ∧ RelV x u := by
  cases r with
  | cons r1 r2 => cases r2; exact ⟨_, rfl, r1⟩
theorem vals2 {x y : V} {us : List Value} (r : Vals [x, y] us) : ∃ u w', us = [u, w'] ∧ RelV x u ∧ RelV y w' := by
  cases r with
  | cons r1 r2 =>
    cases r2 with
    | cons r3 r4 => cases r4; exact ⟨_, _, rfl, r1, r3⟩
theorem call_max2 (hc : X.calm = true) : CallR X (.builtin "max") (fun xs H Q => ∃ i j, xs = [.int i, .int j] ∧ Q (.int (if j > i then j else i)) H) := by
  intro pins s σ H xs us Q I r h
  obtain ⟨i, j, rfl, q⟩ := h
  obtain ⟨u, w', rfl, ⟨t, rfl⟩, ⟨t', rfl⟩⟩ := vals2 r
  refine max_two_ints (I.ok.hd hc) fun h' tk k => ⟨_, H, I.kept k, ?_, q⟩
  by_cases hj : j > i
  · rw [if_pos hj, if_pos hj]; exact ⟨_, rfl⟩
  · rw [if_neg hj, if_neg hj]; exact ⟨_, rfl⟩
theorem call_int1 : CallR X (.type "int") (fun xs H Q => (∃ i, xs = [.int i] ∧ Q (.int i) H) ∨ ∃ k, xs = [.bl k] ∧ Q (.int (if k then 1 else 0)) H) := by
  intro pins s σ H xs us Q I r h
  rcases h with ⟨i, rfl, q⟩ | ⟨k, rfl, q⟩
  · obtain ⟨u, rfl, t, rfl⟩ := vals1 r
    exact call_int_int ⟨.int i, H, I, ⟨_, rfl⟩, q⟩
  · obtain ⟨u, rfl, r1⟩ := vals1 r
    cases r1
    exact call_int_bool ⟨.int (if k then 1 else 0), H, I.tok _, ⟨_, rfl⟩, q⟩
end
end L2

namespace L2
open PySem PySem.Spec PyProof.Rows

structure ObjM (h : Heap) (x dx C : Addr) (mA : Str → Option Value) : Prop where
  obj : h.get? x = some (PySem.W.instObj C dx)
  ns : h.Ns1 dx mA
  ne : dx ≠ x

theorem lookIn_ns {h : Heap} {dx : Addr} {mA : Str → Option Value} (n : h.Ns1 dx mA) : ∃ od, h.get? dx = some od ∧ ∀ name, PySem.W.lookIn name od = some (mA name) := by
  obtain ⟨o, es, ep, ho, hd, hk, _, hm⟩ := n
  refine ⟨o, ho, fun name => ?_⟩
  have e := hm name
  unfold nsFind findBy at e
  rw [← Array.find?_toList] at e
  unfold PySem.W.lookIn
  rw [hd]
  dsimp only
  split
  · rename_i y q
    rw [q] at e
    exact congrArg some e
  · rename_i q
    rw [q] at e
    have a : es.toList.any (·.refKey) = false := by
      rw [List.any_eq_false]
      intro y hy
      obtain ⟨z, t, hkey⟩ := hk y (Array.mem_toList_iff.mp hy)
      simp [DictEntry.refKey, hkey]
    have a' : ¬ es.toList.any (·.refKey) = true := by rw [a]; exact Bool.false_ne_true
    rw [if_neg a']
    exact congrArg some e

theorem ObjM.look {h : Heap} {x dx C : Addr} {mA : Str → Option Value} (I : ObjM h x dx C mA) : ∃ od, PySem.W.InstAt h x (PySem.W.instObj C dx) C (some od) ∧ ∀ name, PySem.W.lookIn name od = some (mA name) :=
  let ⟨od, ho, hl⟩ := lookIn_ns I.ns
  ⟨od, ⟨I.obj, rfl, rfl, ho⟩, hl⟩

section
variable {prog : Program} {w : World} {A : Around} {E : Value → Shared → Prop} {s : Shared} {K : PySem.W.Frag} {x dx C f : Addr} {mA : Str → Option Value} {name : Str} {v : Value}

end

def putF (f : Str) (v : V) : List (Str × V) → List (Str × V)
  | [] => [(f, v)]
  | (g, x) :: r => if g = f then (g, v) :: r else (g, x) :: putF f v r
theorem lookup_putF (f g : Str) (v : V) : ∀ fs : List (Str × V), (putF f v fs).lookup g = if g = f then some v else fs.lookup g
  | [] => by
    show List.lookup g [(f, v)] = _
    by_cases h : g = f
    · have hb : (g == f) = true := beq_iff_eq.mpr h
      simp only [List.lookup, hb, if_pos h]
    · have hb : (g == f) = false := beq_eq_false_iff_ne.mpr h
      simp only [List.lookup, hb, if_neg h]
  | (k, x) :: r => by
    have ih := lookup_putF f g v r
    rw [show putF f v ((k, x) :: r) = (if k = f then (k, v) :: r else (k, x) :: putF f v r) from rfl]
    by_cases hk : k = f
    · rw [if_pos hk]
      by_cases h : g = k
      · have hb : (g == k) = true := beq_iff_eq.mpr h
        simp only [List.lookup, hb, if_pos (h.trans hk)]
      · have hb : (g == k) = false := beq_eq_false_iff_ne.mpr h
        simp only [List.lookup, hb, if_neg (fun e : g = f => h (e.trans hk.symm))]
    · rw [if_neg hk]
      by_cases h : g = k
      · have hb : (g == k) = true := beq_iff_eq.mpr h
        simp only [List.lookup, hb, if_neg (fun e : g = f => hk (h.symm.trans e))]
      · have hb : (g == k) = false := beq_eq_false_iff_ne.mpr h
        simp only [List.lookup, hb]
        exact ih
theorem RelO.some_of {v : V} {o : Option Value} (r : RelO (some v) o) : ∃ u, o = some u ∧ RelV v u := by
  cases o with
  | none => exact (show False from r).elim
  | some u => exact ⟨u, rfl, r⟩
theorem RelO.none_of {o : Option Value} (r : RelO none o) : o = none := by
  cases o with
  | none => rfl
  | some u => exact (show False from r).elim
theorem handed_of {v : V} {u : Value} (r : RelV v u) : PySem.W.handedIn u = true := by
  cases v with
  | non => cases (show u = Value.none from r); rfl
  | bl b => cases (show u = Value.bool b from r); rfl
  | int i => obtain ⟨t, e⟩ := (show ∃ t, u = Value.int i t from r); cases e; rfl
  | str x => obtain ⟨t, e⟩ := (show ∃ t, u = Value.str x t from r); cases e; rfl
  | byt b => obtain ⟨t, e⟩ := (show ∃ t, u = Value.bytes b t from r); cases e; rfl
  | flt b => obtain ⟨t, e⟩ := (show ∃ t, u = Value.float b t from r); cases e; rfl
  | ref a => cases (show u = Value.ref a from r); rfl
  | ty n => cases (show u = Value.type n from r); rfl

section
variable {P : Program} {w : World} {H H' : Hp} {h h' : Heap} {a C dx : Addr} {fs fs' : List (Str × V)}
theorem ins_get (hok : HOk P w H h) (e : H a = some (.ins C dx fs)) : ∃ mA, ObjM h a dx C mA ∧ (∀ f, RelO (fs.lookup f) (mA f)) ∧ PySem.Within mA (fs.map (·.1)) ∧ fs.length ≤ 1000 ∧ H dx = some (.own a) := by
  obtain ⟨d, z, ne, ob, mA, n, r, q⟩ := (show ObjOk P w H h a (.ins C dx fs) from hok a _ e)
  exact ⟨mA, ⟨ob, n, ne⟩, r, q, z, d⟩
end

structure Cls (K : PySem.W.Frag) (C : Addr) : Prop where
  pg : PySem.W.plainGet K C Str.empty = true
  hd : PySem.W.hasDictIn K C = true
  po : PySem.W.plainOver K C = true
  sa : PySem.W.findIn K (.ref C) "__setattr__" = some (some (.builtin "object.__setattr__"))
theorem Cls.get {K : PySem.W.Frag} {C : Addr} (c : Cls K C) (f : Str) : PySem.W.plainGet K C f = true := c.pg
def NoAttr (K : PySem.W.Frag) (C : Addr) (f : Str) : Prop := PySem.W.findIn K (.ref C) f = some none
section
variable {X : Cx} {pins : List (Addr × Obj)} {σ : St} {H : Hp} {s : Shared} {a C dx : Addr} {fs : List (Str × V)} {f : Str} {v : V} {A : Around} {E : Value → Shared → Prop}

theorem attr_of {prog : Program} {w : World} {env : Env} {e : Expr} {f : Str} {pos : Pos} {s : Shared} {Q : Value → Shared → Prop} (hb : attributeBase e f env (eval e env) = eval e env)
    (h : wpAny (model prog w) A (eval e env) (fun o s₁ => wpAny (model prog w) A (getAttr o f true) Q E s₁) E s) : wpAny (model prog w) A (eval (.Attribute e f pos) env) Q E s :=
  Attribute_any_ h (by rw [arm_eval_Attribute, hb])
end

section
variable {X : Cx} {o e value : Expr} {f : Str} {pos pos' tpos : Pos} {ta tv : TE}
end

section
variable {X : Cx} {pins : List (Addr × Obj)} {σ : St} {H : Hp} {s : Shared} {A : Around} {E : Value → Shared → Prop} {Q : Value → Shared → Prop} {c : Value} {b : Bool}
inductive TyOf (K : PySem.W.Frag) (H : Hp) : V → Value → Prop where
  | non : TyOf K H .non (.type "NoneType")
  | bl (x : Bool) : TyOf K H (.bl x) (.type "bool")
  | int (i : Int) : TyOf K H (.int i) (.type "int")
  | str (x : Str) : TyOf K H (.str x) (.type "str")
  | flt (x : UInt64) : TyOf K H (.flt x) (.type "float")
  | lst {a : Addr} {xs : List V} (e : H a = some (.lst xs)) : TyOf K H (.ref a) (.type "list")
  | frz {a : Addr} {o : Obj} {xs : List V} (e : H a = some (.frz o (.lst xs))) : TyOf K H (.ref a) (.type "list")
  | tup {a : Addr} {xs : List V} (e : H a = some (.tup xs)) : TyOf K H (.ref a) (.type "tuple")
  | dK {a : Addr} {kvs : List (Key × V)} (e : H a = some (.dK kvs)) : TyOf K H (.ref a) (.type "dict")
  | dT {a : Addr} {kvs : List (List Key × V)} (e : H a = some (.dT kvs)) : TyOf K H (.ref a) (.type "dict")
  | ins {a C dx : Addr} {fs : List (Str × V)} (e : H a = some (.ins C dx fs)) (cl : Cls K C) (ha : PySem.W.findIn K (.ref C) "__class__" = some (some (.builtin "object.__class__")))
      (hn : PySem.W.specialIn K (.builtin "object.__class__") "__get__" = some (some (.builtin "getset_descriptor.__get__"))) (htk : PySem.W.takesIn K (.builtin "object.__class__") = some true)
      (hm : PySem.W.mroIn K C (.type "object") = some true) : TyOf K H (.ref a) (.ref C)
theorem isinst_ok {x : V} {u t : Value} (I : Inv X pins σ H s) (rx : RelV x u) (ty : TyOf X.K H x t) (e : PySem.W.kitOne X.K t c = some b) (h : ∀ tk, Q (.bool b) { s with toks := tk }) :
    wpAny (model X.prog X.w) A (call (.builtin "isinstance") [u, c]) Q E s := by
  cases ty with
  | non => cases (show u = Value.none from rx); exact PySem.W.kia_one PySem.W.kitx_none I.kIn True.intro e (fun z => nomatch z) h
  | bl y => cases (show u = Value.bool y from rx); exact PySem.W.kia_one PySem.W.kitx_bool I.kIn True.intro e (fun z => nomatch z) h
  | int i => obtain ⟨t, q⟩ := (show ∃ t, u = Value.int i t from rx); cases q; exact PySem.W.kia_one PySem.W.kitx_int I.kIn True.intro e (fun z => nomatch z) h
  | str y => obtain ⟨t, q⟩ := (show ∃ t, u = Value.str y t from rx); cases q; exact PySem.W.kia_one PySem.W.kitx_str I.kIn True.intro e (fun z => nomatch z) h
  | flt y => obtain ⟨t, q⟩ := (show ∃ t, u = Value.float y t from rx); cases q; exact PySem.W.kia_one PySem.W.kitx_float I.kIn True.intro e (fun z => nomatch z) h
  | @lst a xs ea =>
    cases (show u = Value.ref a from rx)
    obtain ⟨_, _, n, _, h1⟩ := (show ObjOk X.prog X.w H s.heap a (.lst xs) from I.hok a _ ea)
    exact PySem.W.kia_one PySem.W.kitx_list I.kIn ⟨_, h1, rfl⟩ e (fun z => nomatch z) h
  | @frz a ob xs ea =>
    cases (show u = Value.ref a from rx)
    obtain ⟨_, _, _, n, _, h1⟩ := (show ObjOk X.prog X.w H s.heap a (.frz ob (.lst xs)) from I.hok a _ ea)
    exact PySem.W.kia_one PySem.W.kitx_list I.kIn ⟨_, h1, rfl⟩ e (fun z => nomatch z) h
  | @tup a xs ea =>
    cases (show u = Value.ref a from rx)
    obtain ⟨_, _, _, p⟩ := (show ObjOk X.prog X.w H s.heap a (.tup xs) from I.hok a _ ea)
    obtain ⟨o, h1, h2, _⟩ := p
    exact PySem.W.kia_one PySem.W.kitx_tuple I.kIn ⟨o, h1, h2⟩ e (fun z => nomatch z) h
  | @dK a kvs ea =>
    cases (show u = Value.ref a from rx)
    obtain ⟨_, _, vs, _, p⟩ := (show ObjOk X.prog X.w H s.heap a (.dK kvs) from I.hok a _ ea)
    obtain ⟨o, es, ep, h1, h2, _⟩ := p
    exact PySem.W.kia_one PySem.W.kitx_dict I.kIn ⟨o, h1, h2.1⟩ e (fun z => nomatch z) h
  | @dT a kvs ea =>
    cases (show u = Value.ref a from rx)
    obtain ⟨_, _, xs, _, o, es, ep, h1, h2, _⟩ := (show ObjOk X.prog X.w H s.heap a (.dT kvs) from I.hok a _ ea)
    exact PySem.W.kia_one PySem.W.kitx_dict I.kIn ⟨o, h1, h2.1⟩ e (fun z => nomatch z) h
  | @ins a C dx fs ea cl ha hn htk hm =>
    cases (show u = Value.ref a from rx)
    obtain ⟨mA, O, _⟩ := ins_get I.hok ea
    obtain ⟨od, J, _⟩ := O.look
    exact PySem.W.kia_one (PySem.W.kitx_own (cl.get _) cl.hd ha hn htk hm) I.kIn J e (fun z => nomatch z) h
end
end L2

namespace L2
open PySem PySem.Spec PyProof.Rows

structure Room (k : Nat) (A : Around) : Prop where
  hd : A.handled = none
  dp : A.depth + 3 * k + 5 < recursionLimit
  un : A.units + 16 * k + 200 < cLine
  gd : A.guards = some []
theorem Room.mono {j k : Nat} {A : Around} (r : Room k A) (h : j ≤ k) : Room j A := ⟨r.hd, by have := r.dp; omega, by have := r.un; omega, r.gd⟩
theorem Room.deeper {k : Nat} {A : Around} (r : Room (k + 1) A) (env : Env) : Room k (A.deeper env) :=
  ⟨r.hd, by have := r.dp; show A.depth + 1 + 3 * k + 5 < _; omega, by have := r.un; show A.units + 3 + 16 * k + 200 < _; omega, r.gd⟩
theorem make_depth {A : Around} {C : Addr} {us : List Value} {kw : List (Str × Value)} : (A.under (.builtin "type.__call__" ⟨.ref C :: us, kw⟩)).depth = A.depth + 1 := by
  first | rfl | simp [Around.under, Code.weight, Code.isCreation, Code.isGuard, Code.isCaller, Code.frames, Code.isFrame, guardIds]
theorem make_units {A : Around} {C : Addr} {us : List Value} {kw : List (Str × Value)} : (A.under (.builtin "type.__call__" ⟨.ref C :: us, kw⟩)).units = A.units + 1 := by
  first | rfl | simp [Around.under, Code.cUnits, Code.frames, Code.isFrame]
theorem make_guards {A : Around} {C : Addr} {us : List Value} {kw : List (Str × Value)} : (A.under (.builtin "type.__call__" ⟨.ref C :: us, kw⟩)).guards = A.guards := by
  first | rfl | simp [Around.under, Code.guards, pushGuards, Code.isGuard, guardIds]
theorem Room.make {k : Nat} {A : Around} (r : Room (k + 1) A) (C : Addr) (us : List Value) (kw : List (Str × Value)) : Room k (A.under (.builtin "type.__call__" ⟨.ref C :: us, kw⟩)) :=
  ⟨r.hd, by have := r.dp; rw [make_depth]; omega, by have := r.un; rw [make_units]; omega, by rw [make_guards]; exact r.gd⟩
theorem Room.depth {k : Nat} {A : Around} (r : Room k A) : A.depth < recursionLimit := by have := r.dp; omega
theorem Room.units {k : Nat} {A : Around} (r : Room k A) : A.units + 64 < cLine := by have := r.un; omega
def tNil : TA := fun _ H Q => Q [] H
def tCons (ta : TE) (tr : TA) : TA := fun σ H Q => ta σ H fun x H1 => tr σ H1 fun xs H2 => Q (x :: xs) H2
section
variable {X : Cx} {e : Expr} {es : List Expr} {te : TE} {t : TA} {pos : Pos}
theorem pa_nil : PA X [] tNil := fun _ _ _ _ H Q I h => Calls.spliced_nil ⟨[], H, I, .nil, h⟩
theorem pa_cons (ha : PE X e te) (hr : PA X es t) (hs : starEach (e :: es) X.env = (false, eval e X.env) :: starEach es X.env := by rfl) : PA X (e :: es) (tCons te t) := by
  intro pos pins s σ H Q I h
  rw [hs]
  show wpAny _ _ (spliced ((false, eval e X.env) :: backTo pos (starEach es X.env))) _ _ s
  refine Calls.spliced_cons (thn (ha pins s σ H _ I h) fun u s1 ⟨x, H1, I1, r1, q1⟩ => ?_)
  exact thn (hr pos pins s1 σ H1 _ I1 q1) fun us s2 ⟨xs, H2, I2, r2, q2⟩ => ⟨x :: xs, H2, I2, .cons r1 r2, q2⟩

def tTup (t : TA) : TE := fun σ H Q => t σ H fun xs H1 => xs.length ≤ sizeLine ∧ ∀ p, H1 p = none → Q (.ref p) (upd H1 p (.tup xs))
def tLst (t : TA) : TE := fun σ H Q => t σ H fun xs H1 => xs.length ≤ sizeLine ∧ ∀ p, H1 p = none → Q (.ref p) (upd H1 p (.lst xs))
theorem pe_tup {x1} (h : PA X es t) : PE X (.Tuple es x1 pos) (tTup t) := by
  intro pins s σ H Q I hq
  refine wpAny_Tuple_spliced (thn (h pos pins s σ H _ I hq) fun us s1 ⟨xs, H1, I1, r, z, q⟩ => ⟨by rw [← r.length]; exact z, ?_⟩)
  have hf : H1 s1.heap.objs.size = none := I1.hok.fresh (Nat.le_refl _)
  refine ⟨.ref s1.heap.objs.size, upd H1 s1.heap.objs.size (.tup xs), I1.laid (t' := s1.toks) (fun b u e => Heap.get?_push_of_some _ e) (Nat.le_refl _) ?_, rfl, q _ hf⟩
  exact ⟨z, us, r, ⟨_, Heap.get?_push_size _ rfl, rfl, _, rfl⟩⟩
theorem pe_lst (h : PA X es t) : PE X (.List es pos) (tLst t) := by
  intro pins s σ H Q I hq
  refine wpAny_List_spliced (thn (h pos pins s σ H _ I hq) fun us s1 ⟨xs, H1, I1, r, z, q⟩ => ⟨by rw [← r.length]; exact z, ?_⟩)
  have hf : H1 s1.heap.objs.size = none := I1.hok.fresh (Nat.le_refl _)
  refine ⟨.ref s1.heap.objs.size, upd H1 s1.heap.objs.size (.lst xs), I1.laid (t' := s1.toks) (fun b u e => Heap.get?_push_of_some _ e) (Nat.le_refl _) ?_, rfl, q _ hf⟩
  exact ⟨z, us, 0, r, Heap.get?_push_size _ rfl⟩
end

abbrev Sp := List V → Hp → VK → XK → Prop
abbrev CXT := List Env → Hp → Shared → XK → Value → Shared → Prop

structure Env0 (P : Program) (w : World) (K : PySem.W.Frag) (mg : Str → Option Value) (base : Heap) (A : Around) (outer : List Env) (s : Shared) (H : Hp) : Prop where
  frames : A.frames = some outer
  mod : Mod K mg base
  bs : ∀ b o, base.get? b = some o → s.heap.get? b = some o ∧ H b = none
  bsz : base.objs.size ≤ s.heap.objs.size
  funs : s.heap.FunFrames base outer
  frf : ∀ b ∈ frs outer, H b = none
  hok : HOk P w H s.heap
  bare : AllBare s.gens
def CE (outer : List Env) (P : Program) (w : World) (H : Hp) (s : Shared) (Q : VK) (u : Value) (s' : Shared) : Prop :=
  ∃ v H', s'.os = s.os ∧ AllBare s'.gens ∧ Un (frs outer) [] H H' s.heap s'.heap ∧ HOk P w H' s'.heap ∧ RelV v u ∧ Q v H'
def CR (CX : CXT) (outer : List Env) (P : Program) (w : World) (H : Hp) (s : Shared) (Q : VK) (E : XK) (r : Result) (s' : Shared) : Prop :=
  match r with
  | .ok (.ret u) => CE outer P w H s Q u s'
  | .ok _ => False
  | .error e => CX outer H s E e s'
structure FnOk (P : Program) (w : World) (K : PySem.W.Frag) (mg : Str → Option Value) (base : Heap) (CX : CXT) (k : Nat) (f : Addr) (fd : FuncData) (ps : List Str) (sp : Sp) : Prop where
  len : ∀ vs H Q E, sp vs H Q E → vs.length = ps.length
  run : ∀ (A : Around) (outer : List Env) (s : Shared) (H : Hp) (args : Args) (us : List Value) (vs : List V) (Q : VK) (E : XK), Room k A → Env0 P w K mg base A outer s H → BindsTo s fd args (ps.zip us) → Vals vs us → sp vs H Q E →
    codeAny (model P w) A (.call (.ref f) args) (CR CX outer P w H s Q E) s
theorem Env0.make {P : Program} {w : World} {K : PySem.W.Frag} {mg : Str → Option Value} {base : Heap} {A : Around} {outer : List Env} {s : Shared} {H : Hp} (e : Env0 P w K mg base A outer s H) (C : Addr) (us : List Value) (kw : List (Str × Value)) :
    Env0 P w K mg base (A.under (.builtin "type.__call__" ⟨.ref C :: us, kw⟩)) outer s H := ⟨by first | exact e.frames | (simpa [Around.under, Code.envs, Code.isFrame, pushEnvs] using e.frames), e.mod, e.bs, e.bsz, e.funs, e.frf, e.hok, e.bare⟩
section
variable {X : Cx} {pins : List (Addr × Obj)} {σ : St} {H : Hp} {s s' : Shared}
theorem Inv.env0 (I : Inv X pins σ H s) : Env0 X.prog X.w X.K X.mg X.base X.A X.stack s H :=
  ⟨I.ok.frames, I.ok.mod, I.bs, Nat.le_trans I.ok.bsz I.sz, I.stack, I.stkFree, I.hok, I.bare⟩
theorem Inv.after {Q : VK} {u : Value} (I : Inv X pins σ H s) (h : CE X.stack X.prog X.w H s Q u s') : EP X pins σ Q u s' := by
  obtain ⟨v, H', os, bare, un, hok, r, q⟩ := h
  obtain ⟨hh, g, d, t, os'⟩ := s'
  obtain rfl : os' = s.os := os
  exact ⟨v, H', I.call (h' := hh) (g' := g) (d' := d) (t' := t) (ch := []) un hok bare (fun b z => absurd z (by simp)), r, q⟩
end

def tCall (sp : Sp) (dvs : List V) (E : XK) (t : TA) : TE := fun σ H Q => t σ H fun vs H1 => sp (vs ++ dvs) H1 Q E
def Binds (K : PySem.W.Frag) (fd : FuncData) (ps : List Str) (ds : List Value) : Prop :=
  ∀ (s : Shared) (us : List Value), K.In s.heap → (us ++ ds).length = ps.length → BindsTo s fd ⟨us, []⟩ (ps.zip (us ++ ds))
theorem Binds.all {K : PySem.W.Frag} {fd : FuncData} {ps : List Str} (h : ∀ us : List Value, us.length = ps.length → bindArgs fd ⟨us, []⟩ = pure (ps.zip us)) : Binds K fd ps [] := fun s us _ hl => by
  rw [List.append_nil] at hl ⊢
  exact .of_eq (h us hl)

def Passes (CX : CXT) (X : Cx) (E : XK) : Prop := ∀ (pins : List (Addr × Obj)) (σ : St) (H : Hp) (s : Shared) (e : Value) (s' : Shared), Inv X pins σ H s → CX X.stack H s E e s' → X.xe e s'

section
variable {X : Cx} {CX : CXT} {k : Nat} {f C : Addr} {fd : FuncData} {ps : List Str} {sp : Sp} {dvs : List V} {ds : List Value} {E : XK} {x m : Str} {p pos apos : Pos} {e o : Expr} {es : List Expr} {ta : TE} {t : TA}

theorem run_fn {pins : List (Addr × Obj)} {σ : St} {H : Hp} {s : Shared} {Q : VK} {us : List Value} {vs : List V} (F : FnOk X.prog X.w X.K X.mg X.base CX k f fd ps sp) (hr : Room k X.A) (hb : Binds X.K fd ps ds) (hd : Vals dvs ds) (hx : Passes CX X E)
    (I : Inv X pins σ H s) (r : Vals vs us) (h : sp (vs ++ dvs) H Q E) : wpAny (model X.prog X.w) X.A (call (.ref f) us) (EP X pins σ Q) X.xe s := by
  have r2 : Vals (vs ++ dvs) (us ++ ds) := r.append hd
  have hl : (us ++ ds).length = ps.length := by rw [← r2.length]; exact F.len _ _ _ _ h
  refine wpAny_call (codeAny_mono (F.run X.A X.stack s H ⟨us, []⟩ (us ++ ds) (vs ++ dvs) Q E hr I.env0 (hb s us I.kIn hl) r2 h) fun r s' hq => ?_)
  cases r with
  | error e => exact hx pins σ H s e s' I hq
  | ok fl =>
    cases fl with
    | ret u => exact I.after hq
    | next => exact False.elim hq
    | brk => exact False.elim hq
    | cont => exact False.elim hq

theorem pe_call (F : FnOk X.prog X.w X.K X.mg X.base CX k f fd ps sp) (hr : Room k X.A) (hg : Gl X x) (hm : X.mg x = some (.ref f)) (hk : PySem.W.keepIn X.K (.ref f) = true) (hb : Binds X.K fd ps ds) (hd : Vals dvs ds) (hx : Passes CX X E)
    (ha : PA X (e :: es) t) (hdb : (x == ("__debug__" : Str)) = false := by decide) (he : starEach (e :: es) X.env = (false, eval e X.env) :: starEach es X.env := by rfl) (hpl : (backTo pos (starEach es X.env)).any (·.1) = false := by rfl) :
    PE X (.Call (.Name x p) (e :: es) [] pos) (tCall sp dvs E t) := by
  intro pins s σ H Q I h
  refine wpAny_Call_Name_kw (ld_glob I hg hm ?_ hdb)
  refine PySem.W.callWith_K (h₀ := X.base) I.ok.mod.kin hk (thn (ha pos pins s σ H _ I h) fun us s1 ⟨vs, H1, I1, r, q⟩ => ⟨I1.kIn, ?_⟩) he hpl
  exact run_fn F hr hb hd hx I1 r q
end

def PK (X : Cx) (kws : List Keyword) (t : TA) : Prop :=
  ∀ (pos : Pos) (pins : List (Addr × Obj)) (s : Shared) (σ : St) (H : Hp) (Q : List V → Hp → Prop), Inv X pins σ H s → t σ H Q → wpAny (model X.prog X.w) X.A (evalAll ((backToKw pos (keywordEach kws X.env)).map (·.2))) (AP X pins σ Q) X.xe s
section
variable {X : Cx} {CX : CXT} {k : Nat} {f C : Addr} {fd : FuncData} {ps ks : List Str} {sp : Sp} {E : XK} {x m : Str} {p pos apos kpos : Pos} {e o : Expr} {es : List Expr} {kws : List Keyword} {te ta : TE} {t tk : TA} {nm : Option Str}
theorem pk_nil : PK X [] tNil := fun _ _ _ _ H Q I h => wpAny_evalAll_nil ⟨[], H, I, .nil, h⟩
theorem pk_cons (ha : PE X e te) (hr : PK X kws t) : PK X (⟨nm, e, kpos⟩ :: kws) (tCons te t) := by
  intro pos pins s σ H Q I h
  show wpAny _ _ (evalAll ((do let v ← eval e X.env; standAt pos; pure v) :: (backToKw pos (keywordEach kws X.env)).map (·.2))) _ _ s
  refine wpAny_evalAll_cons (wpAny_bind (thn (ha pins s σ H _ I h) fun u s1 ⟨x, H1, I1, r1, q1⟩ => wpAny_bind (wpAny_standAt (wpAny_pure ?_))))
  exact thn (hr pos pins s1 σ H1 _ I1 q1) fun us s2 ⟨xs, H2, I2, r2, q2⟩ => ⟨x :: xs, H2, I2, .cons r1 r2, q2⟩

variable {g : List Value → List Value → List Value} {gV : List V → List V → List V}
end

structure FnScope (N P : List Str) (sc : Scope) : Prop where
  kind : sc.kind = .function
  co : sc.isCoroutine = false
  gen : sc.isGenerator = false
  nd : N.Nodup
  pre : N.take P.length = P
  par : ∀ x ∈ P, sc.names.lookup x = some .local ∨ sc.names.lookup x = some .cell
  nofree : ∀ y ∈ sc.names, y.2 ≠ .free

theorem bindL_out {kindOf : Str → Option NameKind} {x : Str} : ∀ {binds : List (Str × Value)} {m : Str → Option Value}, (∀ v, (x, v) ∉ binds) → bindL kindOf binds m x = m x
  | [], _, _ => rfl
  | (n, v) :: r, m, h => by
    unfold bindL
    rw [bindL_out fun w hw => h w (List.mem_cons_of_mem _ hw)]
    split
    · have : x ≠ n := by rintro rfl; exact h v List.mem_cons_self
      simp [this]
    · rfl
theorem bindC_out {kindOf : Str → Option NameKind} {x : Str} : ∀ {binds : List (Str × Value)} {m : Str → Option Value}, (∀ v, (x, v) ∉ binds) → bindC kindOf binds m x = m x
  | [], _, _ => rfl
  | (n, v) :: r, m, h => by
    unfold bindC
    rw [bindC_out fun w hw => h w (List.mem_cons_of_mem _ hw)]
    split
    · rfl
    · have : x ≠ n := by rintro rfl; exact h v List.mem_cons_self
      simp [this]
theorem bindL_get {kindOf : Str → Option NameKind} {x : Str} {v : Value} : ∀ {P : List Str} {vs : List Value} {i : Nat} {m : Str → Option Value}, P.Nodup → P[i]? = some x → vs[i]? = some v → kindOf x = some .local →
    bindL kindOf (P.zip vs) m x = some v
  | [], _, _, _, _, h, _, _ => by simp at h
  | _ :: _, [], _, _, _, _, h, _ => by simp at h
  | p :: P, w :: vs, 0, m, nd, h1, h2, hk => by
    simp at h1 h2; subst h1; subst h2
    show bindL kindOf ((p, w) :: P.zip vs) m p = _
    unfold bindL
    rw [bindL_out fun v hv => (List.nodup_cons.mp nd).1 (List.of_mem_zip hv).1, if_pos hk]
    simp
  | p :: P, w :: vs, i + 1, m, nd, h1, h2, hk => by
    show bindL kindOf ((p, w) :: P.zip vs) m x = _
    unfold bindL
    exact bindL_get (i := i) (List.nodup_cons.mp nd).2 (by simpa using h1) (by simpa using h2) hk
theorem bindC_get {kindOf : Str → Option NameKind} {x : Str} {v : Value} : ∀ {P : List Str} {vs : List Value} {i : Nat} {m : Str → Option Value}, P.Nodup → P[i]? = some x → vs[i]? = some v → kindOf x ≠ some .local →
    bindC kindOf (P.zip vs) m x = some v
  | [], _, _, _, _, h, _, _ => by simp at h
  | _ :: _, [], _, _, _, _, h, _ => by simp at h
  | p :: P, w :: vs, 0, m, nd, h1, h2, hk => by
    simp at h1 h2; subst h1; subst h2
    show bindC kindOf ((p, w) :: P.zip vs) m p = _
    unfold bindC
    rw [bindC_out fun v hv => (List.nodup_cons.mp nd).1 (List.of_mem_zip hv).1, if_neg hk]
    simp
  | p :: P, w :: vs, i + 1, m, nd, h1, h2, hk => by
    show bindC kindOf ((p, w) :: P.zip vs) m x = _
    unfold bindC
    exact bindC_get (i := i) (List.nodup_cons.mp nd).2 (by simpa using h1) (by simpa using h2) hk

def start (N : List Str) (vs : List V) : St := vs.map some ++ List.replicate (N.length - vs.length) none

def cxOf (CX : CXT) (P : Program) (w : World) (K : PySem.W.Frag) (mg : Str → Option Value) (base : Heap) (N : List Str) (qual : Str) (scope : Scope) (f : Addr) (cd : Value) (A : Around) (outer : List Env) (s : Shared) (H : Hp) (E : XK) : Cx where
  prog := P
  w := w
  K := K
  mg := mg
  base := base
  A := A.deeper (envOfC qual scope s.heap.objs.size f cd)
  N := N
  s₀ := s
  H₀ := H
  env := envOfC qual scope s.heap.objs.size f cd
  outer := outer
  stack := envOfC qual scope s.heap.objs.size f cd :: outer
  ex := []
  calm := true
  fn := fun _ => true
  pn := []
  xe := fun e s' => wpAny (model P w) (A.deeper (envOfC qual scope s.heap.objs.size f cd)) (leaving (envOfC qual scope s.heap.objs.size f cd) e) (fun _ s'' => CX outer H s E e s'') (fun e' s'' => CX outer H s E e' s'') s'

theorem cell_has {sc : Scope} {n : Nat} {x : Str} (h : sc.names.lookup x = some .cell) : ∃ c, (cellsFrom n sc.names []).lookup x = some c := by
  have q := PySem.W.cellsFrom_some sc.names n [] (.inl h)
  exact Option.isSome_iff_exists.mp q

theorem inv_start {CX : CXT} {P : Program} {w : World} {K : PySem.W.Frag} {mg : Str → Option Value} {base : Heap} {N ps : List Str} {qual : Str} {scope : Scope} {f : Addr} {cd : Value} {A : Around} {outer : List Env} {s s1 : Shared} {H : Hp} {E : XK} {us : List Value} {vs : List V}
    (S : FnScope N ps scope) (hd : A.handled = none) (e0 : Env0 P w K mg base A outer s H) (hl : vs.length = ps.length) (r : Vals vs us)
    (x : InCallC s s.heap.objs.size (bindL (envOfC qual scope s.heap.objs.size f cd).kindOf (ps.zip us) fun _ => none) (cellsFrom (s.heap.objs.size + 1) scope.names []) (bindC (envOfC qual scope s.heap.objs.size f cd).kindOf (ps.zip us) fun _ => none) s1) :
    Inv (cxOf CX P w K mg base N qual scope f cd A outer s H E) [] (start N vs) H s1 := by
  have hpl : ps.length ≤ N.length := by have := congrArg List.length S.pre; rw [List.length_take] at this; omega
  obtain ⟨h1, tk, rfl, hk⟩ := x.done
  have noA : ∀ b : Addr, b ∉ (cxOf CX P w K mg base N qual scope f cd A outer s H E).ex := fun b z => absurd (show b ∈ ([] : List Addr) from z) (by simp)
  refine ⟨⟨e0.mod, S.kind, rfl, rfl, Nat.le_refl _, fun y z c h1 h2 => ?_, fun y hy => ?_, fun y c _ h => ?_, fun _ => hd, Around.frames_deeper e0.frames, .inr ⟨rfl, rfl⟩, fun b z => absurd z (noA b), e0.bs, e0.bsz, fun b _ _ => noA b, fun b z => absurd z (noA b), e0.funs, e0.frf⟩,
    rfl, e0.bare, Un.kept hk, ⟨_, x.toInCall.ns, fun i y v h1 h2 h3 => ?_⟩, fun y c h => ⟨_, x.cell y c h⟩, e0.hok.fresh (Nat.le_refl _), fun y c h => ?_, fun p hp => absurd (show p ∈ ([] : List (Addr × Obj)) from hp) (by simp), e0.hok.kept hk, ?_⟩
  · exact name_of_addr x.apart (PySem.mem_of_lookup h1) (PySem.mem_of_lookup h2)
  · have hy : scope.names.lookup y = some .cell ∨ scope.names.lookup y = some .free := hy
    rcases hy with hy | hy
    · exact cell_has hy
    · exact absurd rfl (S.nofree _ (PySem.mem_of_lookup hy))
  · exact Nat.le_of_lt (x.above y c (PySem.mem_of_lookup h))
  · have hi : i < vs.length := by
      unfold start at h2
      by_cases hi : i < vs.length
      · exact hi
      · rw [List.getElem?_append_right (by simpa using hi)] at h2
        rw [List.getElem?_replicate] at h2
        split at h2 <;> cases h2
    have ha : vs[i]? = some v := by
      unfold start at h2
      rw [List.getElem?_append_left (by simpa using hi), List.getElem?_map] at h2
      cases e : vs[i]? with
      | none => rw [e] at h2; cases h2
      | some a => rw [e] at h2; cases h2; rfl
    obtain ⟨u, hu, rv⟩ := r.get ha
    have hp : ps[i]? = some y := by
      rw [← S.pre, List.getElem?_take_of_lt (by omega)]; exact h1
    have ndP : ps.Nodup := by rw [← S.pre]; exact S.nd.sublist (List.take_sublist _ _)
    refine ⟨u, rv, ?_⟩
    rcases S.par y (List.mem_of_getElem? hp) with k | k
    · exact .inl ⟨k, bindL_get ndP hp hu k⟩
    · obtain ⟨c, e⟩ := cell_has (n := s.heap.objs.size + 1) k
      refine .inr ⟨.inl k, c, e, ?_⟩
      have q := x.cell y c e
      rw [bindC_get ndP hp hu (by show scope.names.lookup y ≠ _; rw [k]; decide)] at q
      exact q
  · exact e0.hok.fresh (Nat.le_of_lt (x.above y c (PySem.mem_of_lookup h)))
  · unfold start
    show _ = N.length
    rw [List.length_append, List.length_map, List.length_replicate]
    omega

theorem fn_of {CX : CXT} {P : Program} {w : World} {K : PySem.W.Frag} {mg : Str → Option Value} {base : Heap} {k : Nat} {f : Addr} {name qual : Str} {params : Arguments} {body : List Stmt} {scope : Scope} {dV kV doc pm cdv ct oc : Value} {an od : Option Addr}
    {osl : Array (Option Value)} {N ps : List Str} {sp : Sp} (lk : K.lookup f = some ⟨oc, od, .func (PySem.W.fnOf name qual params body scope dV kV doc pm an cdv ct), osl⟩) (hcd : PySem.W.codeIn K cdv qual = true) (S : FnScope N ps scope)
    (len : ∀ vs H Q E, sp vs H Q E → vs.length = ps.length)
    (hbody : ∀ (A : Around) (outer : List Env) (s : Shared) (H : Hp) (vs : List V) (Q : VK) (E : XK), Room k (A.deeper (envOfC qual scope s.heap.objs.size f cdv)) → sp vs H Q E →
      ∃ t, PSs (cxOf CX P w K mg base N qual scope f cdv A outer s H E) body t ∧ t { nx := fun _ H' => Q .non H', rt := Q } (start N vs) H) :
    FnOk P w K mg base CX (k + 1) f (PySem.W.fnOf name qual params body scope dV kV doc pm an cdv ct) ps sp := by
  refine ⟨len, fun A outer s H args us vs Q E hr e0 hb r hsp => ?_⟩
  have hl := len _ _ _ _ hsp
  have KX : K.In s.heap := e0.mod.kin.keeps fun b o e => (e0.bs b o e).1
  have lim : s.heap.NoLimit := e0.mod.nolimit.keeps fun b o e => (e0.bs b o e).1
  have hkind : ∀ y ∈ ps.zip us, scope.names.lookup y.1 = some .local ∨ (scope.names.lookup y.1 = some .cell ∧ ((cellsFrom (s.heap.objs.size + 1) scope.names []).lookup y.1).isSome = true) := fun ⟨n, v⟩ hy => by
    rcases S.par n (List.of_mem_zip hy).1 with q | q
    · exact .inl q
    · exact .inr ⟨q, PySem.W.cellsFrom_some _ _ _ (.inl q)⟩
  refine codeAny_call_function hr.depth (KX _ _ lk) rfl S.co S.gen rfl (PySem.W.codeRec_of KX hcd) (hb _ _ _ _ ?_)
  refine wpAny_newFunctionEnv_cells S.kind hkind fun env he s1 x => ?_
  subst he
  refine ⟨lim.keeps x.toInCall.keep, codeAny_func ?_⟩
  obtain ⟨t, ht, hq⟩ := hbody A outer s H vs Q E (hr.deeper _) hsp
  have I : Inv (cxOf CX P w K mg base N qual scope f cdv A outer s H E) [] (start N vs) H s1 := inv_start S hr.hd e0 hl r x
  refine wpAny_mono (ht [] s1 (start N vs) H _ I hq) (fun fl s' hs => ?_) fun e s' hs => hs
  have fin : ∀ {σ' : St} {H' : Hp} {v : V} {u : Value}, Inv (cxOf CX P w K mg base N qual scope f cdv A outer s H E) [] σ' H' s' → RelV v u → Q v H' → CE outer P w H s Q u s' :=
    fun {σ' H' v u} J rv q => ⟨v, H', J.os, J.bare, J.base, J.hok, rv, q⟩
  cases fl with
  | ret u =>
    obtain ⟨v, σ', H', J, rv, q⟩ := hs
    exact fin J rv q
  | next =>
    obtain ⟨σ', H', J, q⟩ := hs
    exact fin (v := V.non) (u := Value.none) J rfl q
  | brk =>
    obtain ⟨_, _, _, q⟩ := hs
    exact False.elim q
  | cont =>
    obtain ⟨_, _, _, q⟩ := hs
    exact False.elim q
end L2

namespace L2
open PySem PySem.Spec PyProof.Rows
section
variable {X : Cx} {x : Str} {p pos : Pos} {e : Expr} {es : List Expr} {t : TA} {id T : String} {r : List V → Hp → VK → Prop}

def tCB (r : List V → Hp → VK → Prop) (t : TA) : TE := fun σ H Q => t σ H fun vs H1 => r vs H1 Q
theorem pe_callB (hc : CallR X (.builtin id) r) (hg : Gl X x) (hm : X.mg x = none) (hv : bootBuiltins x = some (.builtin id)) (ha : PA X (e :: es) t) (hn : x ≠ "__name__" := by decide) (hdb : (x == ("__debug__" : Str)) = false := by decide)
    (he : starEach (e :: es) X.env = (false, eval e X.env) :: starEach es X.env := by rfl) (hpl : (backTo pos (starEach es X.env)).any (·.1) = false := by rfl) : PE X (.Call (.Name x p) (e :: es) [] pos) (tCB r t) := by
  intro pins s σ H Q I h
  refine wpAny_Call_Name_kw (ld_blt I hg hm hv ?_ hn hdb)
  exact PyProof.Rows.callWith_builtin1 (thn (ha pos pins s σ H _ I h) fun us s1 ⟨vs, H1, I1, r1, q1⟩ => hc pins s1 σ H1 vs us Q I1 r1 q1) he hpl
theorem pe_callTy (hc : CallR X (.type T) r) (hg : Gl X x) (hm : X.mg x = none) (hv : bootBuiltins x = some (.type T)) (ha : PA X (e :: es) t) (hn : x ≠ "__name__" := by decide) (hdb : (x == ("__debug__" : Str)) = false := by decide)
    (he : starEach (e :: es) X.env = (false, eval e X.env) :: starEach es X.env := by rfl) (hpl : (backTo pos (starEach es X.env)).any (·.1) = false := by rfl) : PE X (.Call (.Name x p) (e :: es) [] pos) (tCB r t) := by
  intro pins s σ H Q I h
  refine wpAny_Call_Name_kw (ld_blt I hg hm hv ?_ hn hdb)
  exact PyProof.Rows.callWith_type1 (thn (ha pos pins s σ H _ I h) fun us s1 ⟨vs, H1, I1, r1, q1⟩ => hc pins s1 σ H1 vs us Q I1 r1 q1) he hpl
end
end L2

namespace HT
open PySem PyProof.Rows

section
open PySem.SeqAt
open PySem.AutoSeq1 (wpAny_loadPart')
open PySem.MeetsSeq PySem.MeetsSeq2 PySem.MeetsSeq3

end

section
variable {prog : Program} {w : World} {A : Around} {E : Value → Shared → Prop} {s : Shared}

def sIx (n d : Nat) : Option Int → Nat
  | none => d
  | some v => if v < 0 then (v + (n : Int)).toNat else min v.toNat n
theorem sIx_none (n d : Nat) : sIx n d none = d := rfl
theorem sIx_nat (n d k : Nat) : sIx n d (some (k : Int)) = min k n := by
  show (if (k : Int) < 0 then ((k : Int) + (n : Int)).toNat else min (k : Int).toNat n) = min k n
  rw [if_neg (by omega), Int.toNat_natCast]
end
end HT

namespace L2
open PySem PySem.Spec PyProof.Rows

abbrev TO := St → Hp → (Option Int → Hp → Prop) → Prop
def PO (X : Cx) (e : Option Expr) (t : TO) : Prop :=
  ∀ (pins : List (Addr × Obj)) (s : Shared) (σ : St) (H : Hp) (Q : Option Int → Hp → Prop), Inv X pins σ H s → t σ H Q →
    wpAny (model X.prog X.w) X.A (evalPart e X.env) (fun u s' => ∃ o H', Inv X pins σ H' s' ∧ IsPart u o ∧ Q o H') X.xe s
def tNoPart : TO := fun _ H Q => Q none H
def tPart (t : TE) : TO := fun σ H Q => t σ H fun x H1 => ∃ i, x = .int i ∧ Q (some i) H1

theorem intsAre_of {ns : List Int} : ∀ {us : List Value}, Vals (ns.map V.int) us → IntsAre us ns := by
  induction ns with
  | nil => intro us r; rw [List.map_nil] at r; cases r; exact .nil
  | cons n ns ih =>
    intro us r
    rw [List.map_cons] at r
    cases r with
    | cons r1 r2 =>
      obtain ⟨t, e⟩ := r1
      subst e
      exact .cons n t (ih r2)

section
variable {X : Cx} {e : Expr} {te : TE} {lo hi : Option Expr} {tl th : TO} {pos p2 : Pos}

theorem po_none : PO X none tNoPart := by
  intro pins s σ H Q I h
  rw [evalPart_none]
  exact wpAny_pure ⟨none, H, I, .none, h⟩
theorem po_some (h : PE X e te) : PO X (some e) (tPart te) := by
  intro pins s σ H Q I hw
  rw [evalPart_some]
  refine thn (h pins s σ H _ I hw) fun u s1 ⟨x, H1, I1, r1, q1⟩ => ?_
  obtain ⟨i, rfl, q⟩ := q1
  obtain ⟨t, rfl⟩ := r1
  exact ⟨some i, H1, I1, .int i t, q⟩

def SlR (X : Cx) (r : V → Option Int → Option Int → Hp → VK → Prop) : Prop :=
  ∀ (pins : List (Addr × Obj)) (s : Shared) (σ : St) (H : Hp) (x : V) (v vl vu : Value) (lo hi : Option Int) (sl : Addr) (Q : VK), Inv X pins σ H s → RelV x v → s.heap.IsSliceOf sl vl vu .none → IsPart vl lo → IsPart vu hi → r x lo hi H Q →
    ∃ T id, typeLookup (.type T) "__getitem__" = pure (some (.builtin id)) ∧ s.TypeIs v T ∧ wpAny (model X.prog X.w) X.A (getItem v (.ref sl)) (EP X pins σ Q) X.xe s
def tSl (r : V → Option Int → Option Int → Hp → VK → Prop) (te : TE) (tl th : TO) : TE := fun σ H Q => te σ H fun x H1 => tl σ H1 fun l H2 => th σ H2 fun u H3 => r x l u H3 Q
theorem pe_slice {r : V → Option Int → Option Int → Hp → VK → Prop} (hr : SlR X r) (he : PE X e te) (hl : PO X lo tl) (hu : PO X hi th) : PE X (.Subscript e (.Slice lo hi none p2) pos) (tSl r te tl th) := by
  intro pins s σ H Q I h
  refine Subscript_ (thn (he pins s σ H _ I h) fun v s1 ⟨x, H1, I1, r1, q1⟩ => ?_)
  refine wpAny_Slice (thn (hl pins s1 σ H1 _ I1 q1) fun vl s2 ⟨l, H2, I2, pl, q2⟩ => thn (hu pins s2 σ H2 _ I2 q2) fun vu s3 ⟨u, H3, I3, pu, q3⟩ => ?_)
  rw [evalPart_none]
  refine wpAny_pure ?_
  have I4 : Inv X pins σ H3 { s3 with heap := s3.heap.push { cls := .type "slice", data := .fields #[vl, vu, .none] } } := I3.kept (t' := s3.toks) fun b ob q => Heap.get?_push_of_some _ q
  obtain ⟨T, id, hT, ht, hg⟩ := hr pins { s3 with heap := s3.heap.push { cls := .type "slice", data := .fields #[vl, vu, .none] } } σ H3 x v vl vu l u s3.heap.objs.size Q I4 r1 (Heap.IsSliceOf.new ..) pl pu q3
  show wpAny (model X.prog X.w) X.A (subscriptTail e (.Slice lo hi none p2) v (.ref s3.heap.objs.size)) (EP X pins σ Q) X.xe { s3 with heap := s3.heap.push { cls := .type "slice", data := .fields #[vl, vu, .none] } }
  exact tail_any (ops := [.ref s3.heap.objs.size, v]) ht hT hg (by with_unfolding_all rfl)

def cutV (xs : List V) (lo hi : Option Int) : List V := (xs.drop (HT.sIx xs.length 0 lo)).take (HT.sIx xs.length xs.length hi - HT.sIx xs.length 0 lo)
theorem cutV_length (xs : List V) (lo hi : Option Int) : (cutV xs lo hi).length ≤ xs.length := by
  unfold cutV
  rw [List.length_take, List.length_drop]
  omega
end
end L2

namespace L2
open PySem PySem.Spec PyProof.Rows

def ixN (n : Nat) (i : Int) : Option Nat := if 0 ≤ i then (if i < n then some i.toNat else none) else if -(n : Int) ≤ i then some (i + n).toNat else none
def atI {α : Type} (xs : List α) (i : Int) : Option α := (ixN xs.length i).bind fun j => xs[j]?
theorem ixN_seq {n : Nat} {i : Int} {j : Nat} (h : ixN n i = some j) : seqIndex? i n = some j ∧ j < n ∧ -(n : Int) ≤ i ∧ i < n := by
  unfold ixN at h
  by_cases h0 : 0 ≤ i
  · rw [if_pos h0] at h
    by_cases h1 : i < n
    · rw [if_pos h1] at h
      have e : i.toNat = j := Option.some.inj h
      exact ⟨by rw [seqIndex_of h0 h1, e], by omega, by omega, h1⟩
    · rw [if_neg h1] at h; cases h
  · rw [if_neg h0] at h
    by_cases h1 : -(n : Int) ≤ i
    · rw [if_pos h1] at h
      have e : (i + n).toNat = j := Option.some.inj h
      exact ⟨by rw [seqIndex_neg (by omega) h1, e], by omega, h1, by omega⟩
    · rw [if_neg h1] at h; cases h
theorem atI_get {α : Type} {xs : List α} {i : Int} {v : α} (h : atI xs i = some v) : ∃ j, seqIndex? i xs.length = some j ∧ xs[j]? = some v ∧ j < xs.length ∧ -(xs.length : Int) ≤ i ∧ i < xs.length := by
  unfold atI at h
  cases e : ixN xs.length i with
  | none => rw [e] at h; cases h
  | some j =>
    rw [e] at h
    obtain ⟨h1, h2, h3, h4⟩ := ixN_seq e
    exact ⟨j, h1, h, h2, h3, h4⟩
theorem atI_nat {α : Type} {xs : List α} {j : Nat} {v : α} (h : xs[j]? = some v) : atI xs (j : Int) = some v := by
  have hj : j < xs.length := (List.getElem?_eq_some_iff.mp h).1
  have e : ixN xs.length (j : Int) = some j := by
    unfold ixN
    rw [if_pos (by omega), if_pos (by omega)]; simp
  unfold atI; rw [e]; exact h
theorem atI_last {α : Type} (xs : List α) (v : α) : atI (xs ++ [v]) (-1) = some v := by
  have hl : (xs ++ [v]).length = xs.length + 1 := by simp
  have e : ixN (xs ++ [v]).length (-1) = some xs.length := by
    unfold ixN
    rw [hl, if_neg (by decide), if_pos (by omega)]
    congr 1
    omega
  unfold atI
  rw [e]
  show (xs ++ [v])[xs.length]? = some v
  simp

def PlainIx (b : Expr) : Prop := ∀ o i, subscripted b false o i = operate [o, i] (getItem o i)
def IxR (X : Cx) (r : R2) : Prop :=
  ∀ (value slice : Expr) (pins : List (Addr × Obj)) (s : Shared) (σ : St) (H : Hp) (x y : V) (v u : Value) (Q : VK), Inv X pins σ H s → RelV x v → RelV y u → r x y H Q →
    subscripted slice false v u = operate [v, u] (getItem v u) → wpAny (model X.prog X.w) X.A (subscriptTail value slice v u) (EP X pins σ Q) X.xe s
def MtR (X : Cx) (id : String) (r : V → List V → Hp → VK → Prop) : Prop :=
  ∀ (pins : List (Addr × Obj)) (s : Shared) (σ : St) (H : Hp) (x : V) (xs : List V) (v : Value) (us : List Value) (Q : VK), Inv X pins σ H s → RelV x v → Vals xs us → r x xs H Q →
    wpAny (model X.prog X.w) X.A (call (.builtin id) (v :: us)) (EP X pins σ Q) X.xe s
section
variable {X : Cx} {a b : Expr} {ta tb : TE} {pos : Pos}
theorem pe_ix {r : R2} (hr : IxR X r) (ha : PE X a ta) (hb : PE X b tb) (hs : PlainIx b) : PE X (.Subscript a b pos) (tOp r ta tb) := by
  intro pins s σ H Q I h
  exact Subscript_ (binT ha hb I h fun v u s2 x y H2 I2 rx ry q => hr a b pins s2 σ H2 x y v u Q I2 rx ry q (hs _ _))

def rIxL (K : PySem.W.Frag) : R2 := fun x y H Q => ∃ p xs i v, x = .ref p ∧ y = .int i ∧ SqL K H p xs ∧ atI xs i = some v ∧ Q v H
def rIxT (K : PySem.W.Frag) : R2 := fun x y H Q => ∃ p xs i v, x = .ref p ∧ y = .int i ∧ SqT K H p xs ∧ atI xs i = some v ∧ Q v H
theorem ix_list : IxR X (rIxL X.K) := by
  intro value slice pins s σ H x y v u Q I rx ry h hs
  obtain ⟨p, xs, i, z, rfl, rfl, hq, he, q⟩ := h
  cases rx
  obtain ⟨t, rfl⟩ := ry
  obtain ⟨its, r, pl, hz⟩ := I.list hq
  obtain ⟨j, h1, h2, h3, h4, h5⟩ := atI_get he
  obtain ⟨w, ew, rw'⟩ := r.get h2
  have hl := r.length
  have hn := line63
  have fin : EP X pins σ Q w s := ⟨z, H, I, rw', q⟩
  by_cases h0 : 0 ≤ i
  · have hj : i.toNat = j := by
      rw [seqIndex_of h0 h5] at h1
      exact Option.some.inj h1
    exact item_listR pl.isList h0 (by omega) (by rw [hj]; simpa using ew) fin hs
  · have hj : (i + (its.toArray.size : Int)).toNat = j := by
      rw [seqIndex_neg (by omega) h4] at h1
      rw [List.size_toArray, ← hl]
      exact Option.some.inj h1
    exact subscriptTail_builtinR (x := w) pl.isList.typeIs slot_list_getitem.lookup
      (wpAny_getItem_list_neg (Q := fun r s' => r = w ∧ EP X pins σ Q r s') pl.isList (by omega) (by rw [List.size_toArray] <;> omega) (by omega) (by rw [hj]; simpa using ew) ⟨rfl, fin⟩) hs
theorem ix_tup : IxR X (rIxT X.K) := by
  intro value slice pins s σ H x y v u Q I rx ry h hs
  obtain ⟨p, xs, i, z, rfl, rfl, hq, he, q⟩ := h
  cases rx
  obtain ⟨t, rfl⟩ := ry
  obtain ⟨its, r, pl, hz⟩ := I.tuple hq
  obtain ⟨j, h1, h2, h3, h4, h5⟩ := atI_get he
  obtain ⟨w, ew, rw'⟩ := r.get h2
  have hl := r.length
  have hn := line63
  have fin : EP X pins σ Q w s := ⟨z, H, I, rw', q⟩
  exact subscriptTail_builtinR (x := w) pl.typeIs slot_tuple_getitem.lookup
    (getItem_tuple (j := j) (Q := fun r s' => r = w ∧ EP X pins σ Q r s') pl (by omega) (by omega) (by rw [List.size_toArray, ← hl]; exact h1) (by simpa using ew) ⟨rfl, fin⟩) hs
theorem mapSeq_set (its : List Value) (n j : Nat) (u : Value) : Obj.mapSeq (·.setIfInBounds j u) { cls := .type "list", data := .seq its.toArray n } = { cls := .type "list", data := .seq (its.set j u).toArray n } := by
  simp [Obj.mapSeq]
theorem Inv.lst {pins : List (Addr × Obj)} {σ : St} {H : Hp} {s : Shared} {p : Addr} {xs : List V} (I : Inv X pins σ H s) (h : H p = some (.lst xs)) :
    ∃ (its : List Value) (n : Nat), Vals xs its ∧ s.heap.get? p = some { cls := .type "list", data := .seq its.toArray n } ∧ xs.length ≤ sizeLine := by
  obtain ⟨z, its, n, r, e⟩ := I.hok p _ h
  exact ⟨its, n, r, e, z⟩
theorem Inv.lstUpd {pins : List (Addr × Obj)} {σ : St} {H : Hp} {s : Shared} {p : Addr} {xs ys : List V} {its its' : List Value} {n n' : Nat} {f : Obj → Obj} (I : Inv X pins σ H s) (h : H p = some (.lst xs))
    (ho : s.heap.get? p = some { cls := .type "list", data := .seq its.toArray n }) (hf : f { cls := .type "list", data := .seq its.toArray n } = { cls := .type "list", data := .seq its'.toArray n' }) (r : Vals ys its') (hz : ys.length ≤ sizeLine) (t : Nat) :
    Inv X pins σ (upd H p (.lst ys)) { s with heap := s.heap.update p f, toks := t } := by
  have e : (s.heap.update p f).get? p = some { cls := .type "list", data := .seq its'.toArray n' } := by
    rw [Heap.get?_update_self f ho (by rw [hf] <;> rfl), hf]
  refine I.write (x := p) (e := p) (by rw [h]; trivial) (.inl rfl) (fun b u hb q => (Heap.get?_update_other _ _ (Ne.symm hb)).trans q) ⟨_, e⟩ ?_
  exact ⟨hz, its', n', r, e⟩
def rSetL : V → V → V → Hp → (Hp → Prop) → Prop := fun o i v H Q => ∃ p xs k j, o = .ref p ∧ i = .int k ∧ H p = some (.lst xs) ∧ ixN xs.length k = some j ∧ Q (upd H p (.lst (xs.set j v)))
theorem set_list : PSet X rSetL := by
  intro pins s σ H o i v ov iv u Q I ro ri rv h
  obtain ⟨p, xs, k, j, rfl, rfl, hp, hj, q⟩ := h
  cases ro
  obtain ⟨t, rfl⟩ := ri
  obtain ⟨its, n, r, ho, hz⟩ := I.lst hp
  obtain ⟨h1, h2, h3, h4⟩ := ixN_seq hj
  have hl := r.length
  have hn := line63
  have I' : Inv X pins σ (upd H p (.lst (xs.set j v))) { s with heap := s.heap.update p (Obj.mapSeq (·.setIfInBounds j u)) } :=
    I.lstUpd hp ho (mapSeq_set its n j u) (r.set rv j) (by rw [List.length_set]; exact hz) s.toks
  by_cases h0 : 0 ≤ k
  · have hk : k.toNat = j := by
      rw [seqIndex_of h0 h4] at h1
      exact Option.some.inj h1
    exact PySem.W.ki_setAt ho h0 (by omega) (by rw [List.size_toArray, ← hl]; exact h4) (by rw [hk]; exact ⟨_, I', q⟩)
  · have hk : (k + (its.toArray.size : Int)).toNat = j := by
      rw [seqIndex_neg (by omega) h3] at h1
      rw [List.size_toArray, ← hl]
      exact Option.some.inj h1
    exact PySem.W.ki_setBack ho (by omega) (by rw [List.size_toArray, ← hl]; exact h3) (by omega) (by rw [hk]; exact ⟨_, I', q⟩)

theorem slice_bounds (lo hi : Option Int) (n : Nat) : (sliceBounds lo hi none n).1 = ((HT.sIx n 0 lo : Nat) : Int) ∧ (sliceBounds lo hi none n).2.1 = ((HT.sIx n n hi : Nat) : Int) ∧ (sliceBounds lo hi none n).2.2 = 1 := by
  refine ⟨?_, ?_, rfl⟩
  · cases lo with
    | none => simp [sliceBounds, HT.sIx]
    | some i =>
      simp only [sliceBounds, HT.sIx, Option.getD_none, show (1 : Int) > 0 by decide, if_true]
      by_cases h : i < 0
      · simp only [h, if_true] <;> omega
      · simp only [h, if_false] <;> omega
  · cases hi with
    | none => simp [sliceBounds, HT.sIx]
    | some i =>
      simp only [sliceBounds, HT.sIx, Option.getD_none, show (1 : Int) > 0 by decide, if_true]
      by_cases h : i < 0
      · simp only [h, if_true] <;> omega
      · simp only [h, if_false] <;> omega
theorem slicePick_cut (its : List Value) (lo hi : Option Int) : slicePick its.toArray lo hi none = ((its.drop (HT.sIx its.length 0 lo)).take (HT.sIx its.length its.length hi - HT.sIx its.length 0 lo)).toArray := by
  obtain ⟨h1, h2, h3⟩ := slice_bounds lo hi its.toArray.size
  unfold slicePick
  rw [h1, h2, h3]
  simp only [sliceRange_one, pick_run, List.size_toArray] <;> rfl
def rSlL (K : PySem.W.Frag) : V → Option Int → Option Int → Hp → VK → Prop := fun x lo hi H Q => ∃ a xs, x = .ref a ∧ SqL K H a xs ∧ ∀ p, H p = none → Q (.ref p) (upd H p (.lst (cutV xs lo hi)))
theorem sl_list : SlR X (rSlL X.K) := by
  intro pins s σ H x v vl vu lo hi sl Q I rx hs pl pu h
  obtain ⟨a, xs, rfl, hx, q⟩ := h
  cases rx
  obtain ⟨its, r, ht, hz⟩ := I.list hx
  have hlen := r.length
  refine ⟨"list", _, slot_list_getitem.lookup, ht.isList.typeIs, ?_⟩
  refine wpAny_getItem_list_slice ht.isList hs pl pu .none (by simp) ?_ (by rw [List.size_toArray] <;> omega)
  rw [slicePick_cut, ← hlen]
  refine ⟨.ref s.heap.objs.size, _, I.laid (t' := s.toks) (o := .lst (cutV xs lo hi)) (fun b ob q => Heap.get?_push_of_some _ q) (Nat.le_refl _) ?_, rfl, q _ (I.hok.fresh (Nat.le_refl _))⟩
  exact ⟨Nat.le_trans (cutV_length xs lo hi) hz, _, 0, (r.drop (HT.sIx xs.length 0 lo)).take (HT.sIx xs.length xs.length hi - HT.sIx xs.length 0 lo), Heap.get?_push_size _ rfl⟩

def flatV : V → Bool
  | .non => true
  | .bl _ => true
  | .int _ => true
  | .str _ => true
  | _ => false
def eqV : V → V → Bool
  | .non, .non => true
  | .bl a, .bl b => a == b
  | .bl a, .int b => (if a then 1 else 0) == b
  | .int a, .bl b => a == (if b then 1 else 0)
  | .int a, .int b => a == b
  | .str a, .str b => a == b
  | _, _ => false
theorem eqAt_V {A : Around} {s : Shared} {y x : V} {u v : Value} (ry : RelV y u) (rx : RelV x v) (fy : flatV y = true) (fx : flatV x = true) : SeqAt.EqAt A s u v (eqV y x) := by
  cases y with
  | non =>
    cases ry
    cases x with
    | non => cases rx; exact SeqAt.EqAt.same _
    | bl b => cases rx; exact SeqAt.EqAt.none_bool b
    | int b => obtain ⟨t, rfl⟩ := rx; exact SeqAt.EqAt.none_int b t
    | str b => obtain ⟨t, rfl⟩ := rx; exact SeqAt.EqAt.none_str b t
    | _ => exact absurd (show false = true from fx) Bool.false_ne_true
  | bl a =>
    cases ry
    cases x with
    | non => cases rx; exact SeqAt.EqAt.bool_none a
    | bl b => cases rx; exact SeqAt.EqAt.bool_bool a b
    | int b => obtain ⟨t, rfl⟩ := rx; exact SeqAt.EqAt.bool_int a b t
    | str b => obtain ⟨t, rfl⟩ := rx; exact SeqAt.EqAt.bool_str a b t
    | _ => exact absurd (show false = true from fx) Bool.false_ne_true
  | int a =>
    obtain ⟨t', rfl⟩ := ry
    cases x with
    | non => cases rx; exact SeqAt.EqAt.int_none a t'
    | bl b => cases rx; exact SeqAt.EqAt.int_bool a t' b
    | int b => obtain ⟨t, rfl⟩ := rx; exact SeqAt.EqAt.int_int a t' b t
    | str b => obtain ⟨t, rfl⟩ := rx; exact SeqAt.EqAt.int_str a t' b t
    | _ => exact absurd (show false = true from fx) Bool.false_ne_true
  | str a =>
    obtain ⟨t', rfl⟩ := ry
    cases x with
    | non => cases rx; exact SeqAt.EqAt.str_none a t'
    | bl b => cases rx; exact SeqAt.EqAt.str_bool a t' b
    | int b => obtain ⟨t, rfl⟩ := rx; exact SeqAt.EqAt.str_int a t' b t
    | str b => obtain ⟨t, rfl⟩ := rx; exact SeqAt.EqAt.str_str a t' b t
    | _ => exact absurd (show false = true from fx) Bool.false_ne_true
  | _ => exact absurd (show false = true from fy) Bool.false_ne_true
def eqU (x : V) (u : Value) : Bool := match u with
  | .none => eqV .non x
  | .bool b => eqV (.bl b) x
  | .int i _ => eqV (.int i) x
  | .str z _ => eqV (.str z) x
  | _ => false
theorem eqU_of {x y : V} {u : Value} (r : RelV y u) (f : flatV y = true) : eqU x u = eqV y x := by
  cases y with
  | non => cases r; rfl
  | bl b => cases r; rfl
  | int i => obtain ⟨t, rfl⟩ := r; rfl
  | str z => obtain ⟨t, rfl⟩ := r; rfl
  | _ => exact absurd (show false = true from f) Bool.false_ne_true
theorem any_eqU {x : V} : ∀ {xs : List V} {us : List Value}, Vals xs us → xs.all flatV = true → us.any (eqU x) = xs.any fun y => eqV y x
  | _, _, .nil, _ => rfl
  | y :: xs, u :: us, .cons r t, f => by
    rw [List.all_cons, Bool.and_eq_true] at f
    rw [List.any_cons, List.any_cons, eqU_of r f.1, any_eqU t f.2]
theorem mem_eqAt {A : Around} {s : Shared} {x : V} {v : Value} (rx : RelV x v) (fx : flatV x = true) : ∀ {xs : List V} {us : List Value}, Vals xs us → xs.all flatV = true → ∀ u ∈ us, SeqAt.EqAt A s u v (eqU x u)
  | _, _, .nil, _ => fun u hu => by cases hu
  | y :: xs, u :: us, .cons r t, f => fun u' hu => by
    rw [List.all_cons, Bool.and_eq_true] at f
    rcases List.mem_cons.mp hu with rfl | hu
    · rw [eqU_of r f.1]; exact eqAt_V r rx f.1 fx
    · exact mem_eqAt rx fx t f.2 u' hu
def inV (x : V) (xs : List V) : Bool := xs.any fun y => eqV y x
def rIn (K : PySem.W.Frag) (neg : Bool) : R2 := fun x y H Q => ∃ p xs, y = .ref p ∧ (SqL K H p xs ∨ SqT K H p xs) ∧ flatV x = true ∧ xs.all flatV = true ∧ Q (.bl (if neg then !inV x xs else inV x xs)) H
theorem op_in_seq : OpR X (compareOp .In) (rIn X.K false) := by
  intro pins s σ H x y v u Q I rx ry h
  obtain ⟨p, xs, rfl, hq, fx, fs, q⟩ := h
  cases ry
  rcases hq with hq | hq
  · obtain ⟨its, r, pl, hz⟩ := I.list hq
    refine SeqAt.in_listAt (eqU x) pl.isList (fun w hw => mem_eqAt rx fx r fs w (by simpa using hw)) ⟨.bl _, H, I, rfl, ?_⟩
    rw [show its.toArray.any (eqU x) = its.any (eqU x) by simp, any_eqU r fs]
    exact q
  · obtain ⟨its, r, pl, hz⟩ := I.tuple hq
    refine SeqAt.in_tupleAt (eqU x) pl (fun w hw => mem_eqAt rx fx r fs w (by simpa using hw)) ⟨.bl _, H, I, rfl, ?_⟩
    rw [show its.toArray.any (eqU x) = its.any (eqU x) by simp, any_eqU r fs]
    exact q
theorem call_len_seq : CallR X (.builtin "len") (fun xs H Q => ∃ p ys, xs = [.ref p] ∧ (SqL X.K H p ys ∨ SqT X.K H p ys) ∧ Q (.int ys.length) H) := by
  intro pins s σ H xs us Q I r h
  obtain ⟨p, ys, rfl, hq, q⟩ := h
  obtain ⟨u, rfl, rx⟩ := vals1 r
  cases rx
  have hn := line63
  rcases hq with hq | hq
  · obtain ⟨its, r', pl, hz⟩ := I.list hq
    have hlen := r'.length
    exact Calls.call_len_list pl.isList (by simp only [List.size_toArray] <;> omega) ⟨.int ys.length, H, I.tok _, ⟨s.toks + 1, by rw [List.size_toArray, hlen]⟩, q⟩
  · obtain ⟨its, r', pl, hz⟩ := I.tuple hq
    have hlen := r'.length
    exact len_tuple pl (by simp only [List.size_toArray] <;> omega) ⟨.int ys.length, H, I.tok _, ⟨s.toks + 1, by rw [List.size_toArray, hlen]⟩, q⟩
theorem call_tuple_of : CallR X (.type "tuple") (fun xs H Q => ∃ p ys, xs = [.ref p] ∧ ((SqL X.K H p ys ∧ ∀ l, H l = none → Q (.ref l) (upd H l (.tup ys))) ∨ (SqT X.K H p ys ∧ Q (.ref p) H))) := by
  intro pins s σ H xs us Q I r h
  obtain ⟨p, ys, rfl, h⟩ := h
  obtain ⟨u, rfl, rx⟩ := vals1 r
  cases rx
  rcases h with ⟨hq, q⟩ | ⟨hq, q⟩
  · obtain ⟨its, r', pl, hz⟩ := I.list hq
    have hlen := r'.length
    refine call_tuple_list pl.isList (fun h' kp => ?_) (by simp only [List.size_toArray] <;> omega)
    have I1 : Inv X pins σ H { s with heap := h' } := I.kept (t' := s.toks) kp
    have I2 : Inv X pins σ (upd H h'.objs.size (.tup ys)) { s with heap := h'.push { cls := .type "tuple", data := .seq its.toArray } } :=
      I1.laid (t' := s.toks) (fun b o e => Heap.get?_push_of_some _ e) (Nat.le_refl _) (show ObjOk X.prog X.w _ _ _ (.tup ys) from ⟨hz, its, r', IsTup.new _ _⟩)
    exact ⟨.ref h'.objs.size, _, I2, rfl, q _ (I1.hok.fresh (Nat.le_refl _))⟩
  · obtain ⟨its, r', pl, hz⟩ := I.tuple hq
    exact call_tuple_same pl ⟨.ref p, H, I, rfl, q⟩

def tyV (K : PySem.W.Frag) (T : String) (x : V) (H : Hp) : Prop := match x with
  | .str _ => T = "str"
  | .int _ => T = "int"
  | .ref p => (T = "list" ∧ ∃ xs, SqL K H p xs) ∨ (T = "tuple" ∧ ∃ o, K.lookup p = some o ∧ o.cls = .type "tuple" ∧ o.dict = none) ∨
      (T = "dict" ∧ ((∃ kvs, H p = some (.dK kvs)) ∨ ∃ kvs, H p = some (.dT kvs))) ∨ (T = "set" ∧ ∃ S n, H p = some (.set S n))
  | _ => False
theorem tyV_is {pins : List (Addr × Obj)} {σ : St} {H : Hp} {s : Shared} {T : String} {x : V} {v : Value} (I : Inv X pins σ H s) (r : RelV x v) (ty : tyV X.K T x H) :
    s.TypeIs v T ∧ ∀ a, v = .ref a → ∃ ob, s.heap.get? a = some ob ∧ ob.dict = none := by
  cases x with
  | str z =>
    obtain ⟨t, rfl⟩ := r
    cases (show T = "str" from ty)
    exact ⟨typeIs_str s z t, fun _ e => nomatch e⟩
  | int i =>
    obtain ⟨t, rfl⟩ := r
    cases (show T = "int" from ty)
    exact ⟨typeIs_int s i t, fun _ e => nomatch e⟩
  | ref p =>
    cases r
    rcases ty with ⟨rfl, xs, hq⟩ | ⟨rfl, o, hk, hc, hd⟩ | ⟨rfl, hk⟩ | ⟨rfl, S, n, hk⟩
    · obtain ⟨its, _, pl, _⟩ := I.list hq
      refine ⟨pl.isList.typeIs, fun a e => ?_⟩
      cases e
      obtain ⟨o, n, e, c, hd, _⟩ := pl
      exact ⟨o, e, hd⟩
    · refine ⟨⟨o, I.kIn p o hk, hc⟩, fun a e => ?_⟩
      cases e
      exact ⟨o, I.kIn _ o hk, hd⟩
    · have z : ∃ o, s.heap.get? p = some o ∧ o.ExactDict := by
        rcases hk with ⟨kvs, hk⟩ | ⟨kvs, hk⟩
        · obtain ⟨_, _, _, _, o, _, _, e, ex, _⟩ := I.hok p _ hk
          exact ⟨o, e, ex⟩
        · obtain ⟨_, _, _, _, o, _, _, e, ex, _⟩ := I.hok p _ hk
          exact ⟨o, e, ex⟩
      obtain ⟨o, e, ex⟩ := z
      refine ⟨⟨o, e, ex.1⟩, fun a e2 => ?_⟩
      cases e2
      exact ⟨o, e, ex.2.1⟩
    · obtain ⟨o, _, _, _, e, ex, _⟩ := I.hok p _ hk
      refine ⟨⟨o, e, ex.1⟩, fun a e2 => ?_⟩
      cases e2
      exact ⟨o, e, ex.2.1⟩
  | _ => exact False.elim ty
def tBM (K : PySem.W.Frag) (T : String) (r : V → List V → Hp → VK → Prop) (to : TE) (t : TA) : TE := fun σ H Q => to σ H fun x H1 => tyV K T x H1 ∧ t σ H1 fun xs H2 => r x xs H2 Q
variable {o e : Expr} {es : List Expr} {to : TE} {t : TA} {name : Str} {apos cpos : Pos} {T id : String} {r : V → List V → Hp → VK → Prop}
theorem pe_bm (pa : PlainAttrs T) (slot : Slot T name id) (hty : typeOf (.builtin id) = pure (.type "method_descriptor")) (hm : MtR X id r) (ho : PE X o to) (ha : PA X (e :: es) t)
    (hbase : attributeBase o name X.env (eval o X.env) = eval o X.env := by rfl)
    (hfew : ((backTo cpos (starEach (e :: es) X.env)).all (fun x => !x.1) && (backToKw cpos (keywordEach [] X.env)).all (fun x => x.1.isSome)
      && decide ((e :: es).length + ([] : List Keyword).length + (if ([] : List Keyword).isEmpty then 0 else 1) < 30)) = true := by rfl)
    (hline : (apos.endLine == cpos.line) = true := by rfl) (hs : starEach (e :: es) X.env = (false, eval e X.env) :: starEach es X.env := by rfl) (hplain : (backTo cpos (starEach es X.env)).any (·.1) = false := by rfl) :
    PE X (.Call (.Attribute o name apos) (e :: es) [] cpos) (tBM X.K T r to t) := by
  intro pins s σ H Q I h
  refine wpAny_Call_method_late hbase hfew hline rfl (thn (ho pins s σ H _ I h) fun v s1 ⟨x, H1, I1, r1, ty, q1⟩ => ?_)
  obtain ⟨h1, h2⟩ := tyV_is I1 r1 ty
  refine ⟨T, id, pa, slot, hty, h1, h2, ?_⟩
  have hA := ha cpos pins s1 σ H1 _ I1 q1
  rw [hs] at hA ⊢
  refine Calls.callWith_builtin (by show (false || (backTo cpos (starEach es X.env)).any (·.1)) = false; rw [hplain] <;> rfl) (Calls.evalArgs_plain ?_)
  exact thn hA fun us s2 ⟨vs, H2, I2, r2, q2⟩ => hm pins s2 σ H2 x vs v us Q I2 r1 r2 q2
end
end L2

namespace L2
open PySem PySem.Spec PyProof.Rows

def MtM (X : Cx) (id : String) (r : V → List V → Hp → VK → Prop) : Prop :=
  ∀ (pins : List (Addr × Obj)) (s : Shared) (σ : St) (H : Hp) (x : V) (xs : List V) (v : Value) (us : List Value) (Q : VK), Inv X pins σ H s → RelV x v → Vals xs us → r x xs H Q →
    wpAny (model X.prog X.w) X.A (call (.builtin id) (v :: us)) (EP X pins σ Q) X.xe s

theorem Vals.one : ∀ {x : V} {us : List Value}, Vals [x] us → ∃ u, us = [u] ∧ RelV x u
  | _, _, .cons r .nil => ⟨_, rfl, r⟩
section
variable {X : Cx} {pins : List (Addr × Obj)} {σ : St} {H : Hp} {s : Shared} {l b : Addr} {xs ys zs : List V}

theorem Inv.lset {its its' : List Value} {n : Nat} {f : Array Value → Array Value} {t' : Nat} (I : Inv X pins σ H s) (hH : H l = some (.lst xs))
    (e : s.heap.get? l = some { cls := .type "list", data := .seq its.toArray n }) (hf : f its.toArray = its'.toArray) (hv : Vals ys its') (hz : ys.length ≤ sizeLine) :
    Inv X pins σ (upd H l (.lst ys)) { s with heap := s.heap.update l (Obj.mapSeq f), toks := t' } := by
  have q := PySem.IsL.update e f
  rw [hf] at q
  refine I.write (x := l) (e := l) (by rw [hH]; exact trivial) (.inl rfl) (fun b' u hb hu => (Heap.get?_update_other s.heap (Obj.mapSeq f) (Ne.symm hb)).trans hu) ⟨_, q⟩ ?_
  exact ⟨hz, its', _, hv, q⟩
theorem Inv.lnew {its : List Value} {t' : Nat} (I : Inv X pins σ H s) (hv : Vals ys its) (hz : ys.length ≤ sizeLine) :
    Inv X pins σ (upd H s.heap.objs.size (.lst ys)) { s with heap := s.heap.push { cls := .type "list", data := .seq its.toArray }, toks := t' } :=
  I.laid (fun _ _ q => Heap.get?_push_of_some _ q) (Nat.le_refl _) ⟨hz, its, 0, hv, Heap.get?_push_size _ rfl⟩
theorem Inv.fresh (I : Inv X pins σ H s) : H s.heap.objs.size = none := I.hok.fresh (Nat.le_refl _)
theorem Inv.lstM (I : Inv X pins σ H s) (hH : H l = some (.lst xs)) : xs.length ≤ sizeLine ∧ ∃ (its : List Value) (n : Nat), Vals xs its ∧ xs.length = its.length ∧ s.heap.get? l = some { cls := .type "list", data := .seq its.toArray n } := by
  obtain ⟨z, its, n, r, e⟩ := I.hok l _ hH
  exact ⟨z, its, n, r, r.length, e⟩

end

section
variable {X : Cx}

def rAppend : V → List V → Hp → VK → Prop := fun x vs H Q => ∃ l xs y, x = .ref l ∧ vs = [y] ∧ H l = some (.lst xs) ∧ xs.length < sizeLine ∧ Q .non (upd H l (.lst (xs ++ [y])))
theorem mt_append : MtM X "list.append" rAppend := by
  intro pins s σ H x vs v us Q I rx rv h
  obtain ⟨l, xs, y, rfl, rfl, hH, hz, q⟩ := h
  cases rx
  obtain ⟨u, rfl, ru⟩ := rv.one
  obtain ⟨z, its, n, r, hl, e⟩ := I.lstM hH
  refine call_meets F.slot_list_append ⟨_, e, rfl⟩ F.entry_list_append (F.args_list_append_2 _ _) (PySem.list_append l its.toArray n u (by rw [List.size_toArray]; omega)) ⟨e, ?_⟩
  refine ⟨.non, _, I.lset (its' := its ++ [u]) hH e (by simp) (r.append (.cons ru .nil)) ?_, rfl, q⟩
  rw [List.length_append, List.length_singleton]
  omega

def rCat : R2 := fun x y H Q => ∃ l b xs zs, x = .ref l ∧ y = .ref b ∧ H l = some (.lst xs) ∧ H b = some (.lst zs) ∧ xs.length + zs.length ≤ sizeLine ∧ ∀ p, H p = none → Q (.ref p) (upd H p (.lst (xs ++ zs)))
theorem op_cat : OpR X (binaryOp .Add) rCat := by
  intro pins s σ H x y v u Q I rx ry h
  obtain ⟨l, b, xs, zs, rfl, rfl, hH, hB, hz, q⟩ := h
  cases rx
  cases ry
  obtain ⟨z, its, n, r, hl, e⟩ := I.lstM hH
  obtain ⟨z2, its2, n2, r2, hl2, e2⟩ := I.lstM hB
  refine PySem.P.add_list e e2 ?_ (by rw [List.size_toArray, List.size_toArray]; omega)
  have ea : its.toArray ++ its2.toArray = (its ++ its2).toArray := by simp
  rw [ea]
  exact ⟨.ref _, _, I.lnew (t' := s.toks) (r.append r2) (by rw [List.length_append]; omega), rfl, q _ I.fresh⟩
end

section
variable {prog : Program} {w : World} {A : Around} {E : Value → Shared → Prop} {s : Shared}
set_option maxRecDepth 100000 in
end

section
variable {X : Cx}
end
end L2

namespace L2
open PySem PySem.Spec PyProof.Rows

section
variable {κ : Type} [DecidableEq κ]
def valV (kvs : List (κ × V)) (k : κ) : Option V := (kvs.find? fun kv => decide (kv.1 = k)).map (·.2)
def putK (kvs : List (κ × V)) (k : κ) (v : V) : List (κ × V) :=
  if (kvs.any fun kv => decide (kv.1 = k)) = true then kvs.map (fun kv => if kv.1 = k then (kv.1, v) else kv) else kvs ++ [(k, v)]
theorem valV_pos {p : κ × V} {r : List (κ × V)} {k : κ} (e : p.1 = k) : valV (p :: r) k = some p.2 := by simp [valV, List.find?_cons, e]
theorem valV_neg {p : κ × V} {r : List (κ × V)} {k : κ} (e : ¬ p.1 = k) : valV (p :: r) k = valV r k := by simp [valV, List.find?_cons, e]
theorem valV_any (k : κ) : ∀ kvs : List (κ × V), (kvs.any fun kv => decide (kv.1 = k)) = (valV kvs k).isSome
  | [] => rfl
  | p :: r => by
    rw [List.any_cons]
    by_cases e : p.1 = k
    · simp only [valV_pos e, decide_eq_true e, Bool.true_or, Option.isSome_some]
    · rw [valV_neg e, decide_eq_false e, Bool.false_or]; exact valV_any k r
theorem valV_map (k j : κ) (y : V) : ∀ kvs : List (κ × V), valV (kvs.map fun kv => if kv.1 = k then (kv.1, y) else kv) j = (valV kvs j).map fun x => if j = k then y else x
  | [] => rfl
  | p :: r => by
    have ih := valV_map k j y r
    rw [List.map_cons]
    by_cases h : p.1 = k
    · rw [if_pos h]
      by_cases e : p.1 = j
      · rw [valV_pos (p := (p.1, y)) e, valV_pos e, Option.map_some, if_pos (e.symm.trans h)]
      · rw [valV_neg (p := (p.1, y)) e, valV_neg e, ih]
    · rw [if_neg h]
      by_cases e : p.1 = j
      · rw [valV_pos (p := p) e, valV_pos e, Option.map_some, if_neg (fun z => h (e.trans z))]
      · rw [valV_neg (p := p) e, valV_neg e, ih]
theorem valV_snoc (k j : κ) (y : V) : ∀ kvs : List (κ × V), valV kvs k = none → valV (kvs ++ [(k, y)]) j = if j = k then some y else valV kvs j
  | [], _ => by
    by_cases e : k = j
    · rw [if_pos e.symm]; exact valV_pos (p := (k, y)) e
    · rw [if_neg (fun z => e z.symm)]; exact valV_neg (p := (k, y)) e
  | p :: r, hn => by
    rw [List.cons_append]
    have hk : ¬ p.1 = k := fun z => by rw [valV_pos z] at hn; cases hn
    rw [valV_neg hk] at hn
    have ih := valV_snoc k j y r hn
    by_cases e : p.1 = j
    · rw [valV_pos e, valV_pos e, if_neg (fun z => hk (e.trans z))]
    · rw [valV_neg e, valV_neg e, ih]
theorem valV_put (kvs : List (κ × V)) (k j : κ) (y : V) : valV (putK kvs k y) j = if j = k then some y else valV kvs j := by
  unfold putK
  by_cases a : (kvs.any fun kv => decide (kv.1 = k)) = true
  · rw [if_pos a, valV_map]
    rw [valV_any] at a
    by_cases e : j = k
    · obtain ⟨x, hx⟩ := Option.isSome_iff_exists.mp a
      rw [if_pos e, e, hx, Option.map_some, if_pos rfl]
    · rw [if_neg e]
      cases valV kvs j with
      | none => rfl
      | some x => rw [Option.map_some, if_neg e]
  · rw [if_neg a]
    refine valV_snoc k j y kvs ?_
    rw [valV_any] at a
    cases q : valV kvs k with
    | none => rfl
    | some x => rw [q] at a; exact (a rfl).elim
theorem length_putK (kvs : List (κ × V)) (k : κ) (v : V) : (putK kvs k v).length ≤ kvs.length + 1 := by
  unfold putK
  split
  · rw [List.length_map]; omega
  · rw [List.length_append, List.length_cons, List.length_nil]; omega
theorem RelO.isSome_eq {o : Option V} {u : Option Value} (r : RelO o u) : o.isSome = u.isSome := by
  cases o with
  | none => cases u with
    | none => rfl
    | some _ => exact (show False from r).elim
  | some _ => cases u with
    | none => exact (show False from r).elim
    | some _ => rfl
theorem KV.val {kvs : List (κ × V)} {vs : List (κ × Value)} (r : KV kvs vs) (k : κ) : RelO (valV kvs k) (valueAt vs k) := by
  unfold KV at r
  induction r with
  | nil => exact True.intro
  | @cons p q ps qs h t ih =>
    obtain ⟨h1, h2⟩ := h
    by_cases e : p.1 = k
    · have e' : q.1 = k := h1.symm.trans e
      have b : valueAt (q :: qs) k = some q.2 := by simp [valueAt, List.find?_cons, e']
      rw [valV_pos e, b]; exact h2
    · have e' : ¬ q.1 = k := fun z => e (h1.trans z)
      have b : valueAt (q :: qs) k = valueAt qs k := by simp [valueAt, List.find?_cons, e']
      rw [valV_neg e, b]; exact ih
theorem KV.any {kvs : List (κ × V)} {vs : List (κ × Value)} (r : KV kvs vs) (k : κ) : (kvs.any fun kv => decide (kv.1 = k)) = vs.any fun kv => decide (kv.1 = k) := by
  unfold KV at r
  induction r with
  | nil => rfl
  | cons h t ih => rw [List.any_cons, List.any_cons, ih, h.1]
theorem KV.repl {kvs : List (κ × V)} {vs : List (κ × Value)} (r : KV kvs vs) (k : κ) {y : V} {u : Value} (ry : RelV y u) :
    KV (kvs.map fun kv => if kv.1 = k then (kv.1, y) else kv) (vs.map fun kv => if kv.1 = k then (kv.1, u) else kv) := by
  unfold KV at r ⊢
  induction r with
  | nil => exact .nil
  | @cons p q ps qs h t ih =>
    rw [List.map_cons, List.map_cons]
    refine .cons ?_ ih
    obtain ⟨h1, h2⟩ := h
    by_cases e : p.1 = k
    · rw [if_pos e, if_pos (h1.symm.trans e)]; exact ⟨h1, ry⟩
    · rw [if_neg e, if_neg (fun z => e (h1.trans z))]; exact ⟨h1, h2⟩
theorem KV.put {kvs : List (κ × V)} {vs : List (κ × Value)} (r : KV kvs vs) (k : κ) {y : V} {u : Value} (ry : RelV y u) : KV (putK kvs k y) (stored vs k u) := by
  unfold putK stored
  rw [r.any k]
  by_cases e : (vs.any fun kv => decide (kv.1 = k)) = true
  · rw [if_pos e, if_pos e]; exact r.repl k ry
  · rw [if_neg e, if_neg e]; exact Paired.snoc r ⟨rfl, ry⟩
theorem KV.length {kvs : List (κ × V)} {vs : List (κ × Value)} (r : KV kvs vs) : kvs.length = vs.length := Paired.length r
end


theorem kV_is {P : Program} {w : World} {k : Key} {u : Value} (r : RelV (kV k) u) : (mixKind P w).is k u = true := by
  cases k with
  | inl i => obtain ⟨t, e⟩ := (show ∃ t, u = Value.int i t from r); subst e; exact mixKind_int P w i t
  | inr x => obtain ⟨t, e⟩ := (show ∃ t, u = Value.str x t from r); subst e; exact mixKind_str P w x t
theorem items_are {P : Program} {w : World} : ∀ {ks : List Key} {us : List Value}, Vals (ks.map kV) us → ItemsAre (mixKind P w) ks us
  | [], _, r => by rw [List.map_nil] at r; cases r; exact .nil
  | k :: ks, _, r => by
    rw [List.map_cons] at r
    cases r with
    | cons h t => exact .cons (kV_is h) (items_are t)

abbrev KT (H : Hp) : List (List Key × V) → List (List Key × Addr × Value) → Prop := Paired fun p q => p.1 = q.1 ∧ H q.2.1 = some (.tup (p.1.map kV)) ∧ RelV p.2 q.2.2
theorem KT.val {H : Hp} {kvs : List (List Key × V)} {xs : List (List Key × Addr × Value)} (r : KT H kvs xs) (k : List Key) : RelO (valV kvs k) ((atKey xs k).map (·.2)) := by
  induction r with
  | nil => exact True.intro
  | @cons p q ps qs h t ih =>
    obtain ⟨h1, _, h2⟩ := h
    by_cases e : p.1 = k
    · have e' : q.1 = k := h1.symm.trans e
      have b : atKey (q :: qs) k = some q.2 := by simp [atKey, List.find?_cons, e']
      rw [valV_pos e, b]; exact h2
    · have e' : ¬ q.1 = k := fun z => e (h1.trans z)
      have b : atKey (q :: qs) k = atKey qs k := by simp [atKey, List.find?_cons, e']
      rw [valV_neg e, b]; exact ih
theorem KT.repl {H : Hp} {kvs : List (List Key × V)} {xs : List (List Key × Addr × Value)} (r : KT H kvs xs) (k : List Key) {y : V} {u : Value} (ry : RelV y u) :
    KT H (kvs.map fun kv => if kv.1 = k then (kv.1, y) else kv) (xs.map (putAt k u)) := by
  induction r with
  | nil => exact .nil
  | @cons p q ps qs h t ih =>
    rw [List.map_cons, List.map_cons]
    refine .cons ?_ ih
    obtain ⟨h1, h2, h3⟩ := h
    unfold putAt
    by_cases e : p.1 = k
    · rw [if_pos e, if_pos (h1.symm.trans e)]; exact ⟨h1, h2, ry⟩
    · rw [if_neg e, if_neg (fun z => e (h1.trans z))]; exact ⟨h1, h2, h3⟩
theorem KT.put {H : Hp} {kvs : List (List Key × V)} {xs : List (List Key × Addr × Value)} (r : KT H kvs xs) (k : List Key) {b : Addr} {y : V} {u : Value} (hb : H b = some (.tup (k.map kV))) (ry : RelV y u) :
    KT H (putK kvs k y) (storedH xs k b u) := by
  have e : (kvs.any fun kv => decide (kv.1 = k)) = (atKey xs k).isSome := by
    rw [valV_any, (r.val k).isSome_eq, Option.isSome_map]
  unfold putK storedH
  rw [e]
  by_cases q : (atKey xs k).isSome = true
  · rw [if_pos q, if_pos q]; exact r.repl k ry
  · rw [if_neg q, if_neg q]; exact Paired.snoc r ⟨rfl, hb, ry⟩
theorem KT.keeps {H H' : Hp} {kvs : List (List Key × V)} {xs : List (List Key × Addr × Value)} (r : KT H kvs xs) (ht : ∀ b ys, H b = some (.tup ys) → H' b = some (.tup ys)) : KT H' kvs xs :=
  Paired.mapP r fun _ _ z => ⟨z.1, ht _ _ z.2.1, z.2.2⟩

section
variable {P : Program} {w : World} {H : Hp} {h : Heap} {a : Addr}
theorem rd_of {u : HO} (ok : HOk P w H h) (e : Rd H a u) : ObjOk P w H h a u := e.ok ok
theorem dk_rd {kvs : List (Key × V)} (ok : HOk P w H h) (e : Rd H a (.dK kvs)) : kvs.length ≤ sizeLine ∧ (a == sysModules) = false ∧ ∃ vs, KV kvs vs ∧ h.DictOf (mixKind P w) a vs :=
  show ObjOk P w H h a (.dK kvs) from rd_of ok e
theorem dk_of {kvs : List (Key × V)} (ok : HOk P w H h) (e : H a = some (.dK kvs)) : kvs.length ≤ sizeLine ∧ (a == sysModules) = false ∧ ∃ vs, KV kvs vs ∧ h.DictOf (mixKind P w) a vs := dk_rd ok (.inl e)
theorem key_of {ks : List Key} (ok : HOk P w H h) (e : H a = some (.tup (ks.map kV))) : (tupleKind (mixKind P w)).is h ks a := by
  obtain ⟨_, its, r, o, h1, h2, n, h3⟩ := (show ObjOk P w H h a (.tup (ks.map kV)) from ok a _ e)
  exact ⟨o, its.toArray, n, h1, h2, h3, by simpa using items_are r⟩
theorem dt_rd {kvs : List (List Key × V)} (ok : HOk P w H h) (e : Rd H a (.dT kvs)) : kvs.length ≤ sizeLine ∧ (a == sysModules) = false ∧
    ∃ xs, KT H kvs xs ∧ h.DictOfH (tupleKind (mixKind P w)) a xs := by
  obtain ⟨z, y, xs, r, o, es, ep, h1, h2, h3, h4, h5⟩ := (show ObjOk P w H h a (.dT kvs) from rd_of ok e)
  refine ⟨z, y, xs, r, o, es, ep, h1, h2, h3, h4, fun x hx => ?_, h5⟩
  have all : ∀ {l : List (List Key × V)} {m : List (List Key × Addr × Value)}, KT H l m → ∀ x ∈ m, (tupleKind (mixKind P w)).is h x.1 x.2.1 := by
    intro l m q
    induction q with
    | nil => intro x hx; exact nomatch hx
    | @cons p q ps qs hq t ih =>
      intro x hx
      rcases List.mem_cons.mp hx with e | hx
      · subst e
        exact key_of ok (by rw [← hq.1]; exact hq.2.1)
      · exact ih x hx
  exact all r x hx
theorem dt_of {kvs : List (List Key × V)} (ok : HOk P w H h) (e : H a = some (.dT kvs)) : kvs.length ≤ sizeLine ∧ (a == sysModules) = false ∧
    ∃ xs, KT H kvs xs ∧ h.DictOfH (tupleKind (mixKind P w)) a xs := dt_rd ok (.inl e)
end

def DGet (H : Hp) (a : Addr) (y : V) (r : Option V) : Prop :=
  (∃ kvs k, Rd H a (.dK kvs) ∧ y = kV k ∧ r = valV kvs k) ∨ ∃ kvs k b, Rd H a (.dT kvs) ∧ y = .ref b ∧ H b = some (.tup (k.map kV)) ∧ r = valV kvs k
def DPut (H : Hp) (a : Addr) (y v : V) (H' : Hp) : Prop :=
  (∃ kvs k, H a = some (.dK kvs) ∧ y = kV k ∧ kvs.length < sizeLine ∧ H' = upd H a (.dK (putK kvs k v))) ∨
  ∃ kvs k b, H a = some (.dT kvs) ∧ y = .ref b ∧ H b = some (.tup (k.map kV)) ∧ kvs.length < sizeLine ∧ H' = upd H a (.dT (putK kvs k v))
theorem DGet.t {H : Hp} {a b : Addr} {kvs : List (List Key × V)} {k : List Key} (e : H a = some (.dT kvs)) (eb : H b = some (.tup (k.map kV))) : DGet H a (.ref b) (valV kvs k) := .inr ⟨kvs, k, b, .inl e, rfl, eb, rfl⟩
theorem DPut.t {H : Hp} {a b : Addr} {kvs : List (List Key × V)} {k : List Key} {v : V} (e : H a = some (.dT kvs)) (eb : H b = some (.tup (k.map kV))) (hl : kvs.length < sizeLine) :
    DPut H a (.ref b) v (upd H a (.dT (putK kvs k v))) := .inr ⟨kvs, k, b, e, rfl, eb, hl, rfl⟩


section
variable {X : Cx} {pins : List (Addr × Obj)} {σ : St} {H : Hp} {s : Shared} {a : Addr} {y v : V} {u r : Value} {o : Option V} {A : Around} {E : Value → Shared → Prop}

theorem Inv.big (I : Inv X pins σ H s) : sysModules < s.heap.objs.size := by
  have h : mainGlobals < s.heap.objs.size := (I.mod.glob.keeps I.bk).lt
  exact Nat.lt_trans (by decide) h

theorem d_getItem {Q : Value → Shared → Prop} (hu : A.units + 1 < cLine) (I : Inv X pins σ H s) (g : DGet H a y (some v)) (ry : RelV y u) (h : ∀ w' s', Inv X pins σ H s' → RelV v w' → Q w' s') :
    wpAny (model X.prog X.w) A (getItem (.ref a) u) Q E s := by
  rcases g with ⟨kvs, k, e, ey, l⟩ | ⟨kvs, k, b, e, ey, eb, l⟩
  · subst ey
    obtain ⟨z, hd, vs, rel, dd⟩ := dk_rd I.hok e
    obtain ⟨w', hw, rw'⟩ := RelO.some_of (v := v) (o := valueAt vs k) (by rw [l]; exact rel.val k)
    exact wpAny_getItem_of (kV_is ry) dd.mapOf hw (h w' _ (I.tok _) rw')
  · subst ey
    cases (show u = Value.ref b from ry)
    obtain ⟨z, hd, xs, rel, dd⟩ := dt_rd I.hok e
    obtain ⟨w', hw, rw'⟩ := RelO.some_of (v := v) (o := (atKey xs k).map (·.2)) (by rw [l]; exact rel.val k)
    obtain ⟨p, hp, hp2⟩ := Option.map_eq_some_iff.mp hw
    refine wpAny_getItem_heap (tupleKind_room_in1 hu) (key_of I.hok eb) dd hp ?_
    rw [hp2]
    exact h w' _ (I.tok _) rw'
theorem d_in {Q : Value → Shared → Prop} (hu : A.units + 1 < cLine) (I : Inv X pins σ H s) (g : DGet H a y o) (ry : RelV y u) (h : ∀ s', Inv X pins σ H s' → Q (.bool o.isSome) s') :
    wpAny (model X.prog X.w) A (compareOp .In u (.ref a)) Q E s := by
  rcases g with ⟨kvs, k, e, ey, l⟩ | ⟨kvs, k, b, e, ey, eb, l⟩
  · subst ey
    obtain ⟨z, hd, vs, rel, dd⟩ := dk_rd I.hok e
    refine wpAny_in_of (kV_is ry) hd dd.mapOf ?_
    rw [← (rel.val k).isSome_eq, ← l]
    exact h _ (I.tok _)
  · subst ey
    cases (show u = Value.ref b from ry)
    obtain ⟨z, hd, xs, rel, dd⟩ := dt_rd I.hok e
    refine wpAny_in_heap (tupleKind_room_in1 hu) (key_of I.hok eb) hd dd ?_
    have q := (rel.val k).isSome_eq
    rw [Option.isSome_map] at q
    rw [← q, ← l]
    exact h _ (I.tok _)
theorem d_write {h' : Heap} {t' : Nat} {ob : HO} (I : Inv X pins σ H s) (mu : Mut (H a)) (hs : Heap.SameBut a s.heap h') (he : ∃ q, h'.get? a = some q) (new : ObjOk X.prog X.w (upd H a ob) h' a ob) :
    Inv X pins σ (upd H a ob) { s with heap := h', toks := t' } :=
  I.write (x := a) (e := a) mu (.inl rfl) (fun b q hb z => (hs.2 b hb).trans z) he new
theorem dk_new {P : Program} {w : World} {H' : Hp} {h' : Heap} {kvs : List (Key × V)} {vs : List (Key × Value)} (z : kvs.length ≤ sizeLine) (hd : (a == sysModules) = false) (rel : KV kvs vs) (dd : h'.DictOf (mixKind P w) a vs) :
    ObjOk P w H' h' a (.dK kvs) := ⟨z, hd, vs, rel, dd⟩
theorem d_setItem {H' : Hp} {Q : Unit → Shared → Prop} (hu : A.units + 1 < cLine) (I : Inv X pins σ H s) (g : DPut H a y v H') (ry : RelV y u) (rv : RelV v r) (h : ∀ s', Inv X pins σ H' s' → Q () s') :
    wpAny (model X.prog X.w) A (setItem (.ref a) u r) Q E s := by
  rcases g with ⟨kvs, k, e, ey, l, eH⟩ | ⟨kvs, k, b, e, ey, eb, l, eH⟩
  · subst ey eH
    obtain ⟨z, hd, vs, rel, dd⟩ := dk_of I.hok e
    have hz : vs.length ≤ sizeLine := by rw [← rel.length]; exact z
    have hl : (putK kvs k v).length ≤ sizeLine := by have := length_putK kvs k v; omega
    refine wpAny_setItem_pairs (hsz := hz) (kV_is ry) dd fun h' dd' hs => h _ ?_
    have he : ∃ q, h'.get? a = some q := let ⟨q, _, _, hq, _⟩ := dd'; ⟨q, hq⟩
    exact d_write I (by rw [e]; exact True.intro) hs he (dk_new hl hd (rel.put k rv) dd')
  · subst ey eH
    cases (show u = Value.ref b from ry)
    obtain ⟨z, hd, xs, rel, dd⟩ := dt_of I.hok e
    have hz : xs.length ≤ sizeLine := by rw [← Paired.length rel]; exact z
    have hl : (putK kvs k v).length ≤ sizeLine := by have := length_putK kvs k v; omega
    refine wpAny_setItem_heap (hsz := hz) (tupleKind_room_in1 hu) (key_of I.hok eb) dd fun h' dd' hs => h _ ?_
    obtain ⟨q, es, ep, hq, h2, h3, h4, _, h5⟩ := dd'
    refine d_write I (by rw [e]; exact True.intro) hs ⟨q, hq⟩ ⟨hl, hd, _, (rel.put k eb rv).keeps fun c ys ec => ?_, q, es, ep, hq, h2, h3, h4, h5⟩
    rw [upd_ne (ne_of ec e (fun z => nomatch z))]
    exact ec
end

section
variable {X : Cx} {pins : List (Addr × Obj)} {σ : St} {H : Hp} {s : Shared} {a : Addr} {kvs : List (Key × V)} {k : Key} {u : Value} {A : Around} {E : Value → Shared → Prop}
end


def NoSl (i : Expr) : Prop := ∀ ov iv, subscripted i false ov iv = operate [ov, iv] (getItem ov iv)
theorem subD_of {prog : Program} {w : World} {A : Around} {E : Value → Shared → Prop} {s : Shared} {env : Env} {value slice : Expr} {pos : Pos} {T id : String} {Q : Value → Shared → Prop}
    (hl : typeLookup (.type T) "__getitem__" = pure (some (.builtin id))) (hs : NoSl slice)
    (h : wpAny (model prog w) A (eval value env) (fun o s₁ => wpAny (model prog w) A (eval slice env) (fun i s₂ => s₂.TypeIs o T ∧ wpAny (model prog w) A (getItem o i) Q E s₂) E s₁) E s) :
    wpAny (model prog w) A (eval (.Subscript value slice pos) env) Q E s := by
  refine Subscript_ (wpAny_mono h (fun o s₁ h₁ => wpAny_mono h₁ (fun i s₂ h₂ => ?_) fun _ _ x => x) fun _ _ x => x)
  obtain ⟨hT, h₂⟩ := h₂
  unfold subscriptTail
  refine wpAny_bind ?_
  rw [getitemInPython_of_ne hT.not_modules]
  refine wpAny_bind (wpAny_specialOf hT hl ?_)
  have fin : wpAny (model prog w) A (subscripted slice false o i) (fun r s₃ => wpAny (model prog w) A (letTemporaryGo value o r >>= fun _ => pure r) Q E s₃) E s₂ := by
    rw [hs o i]
    exact wpAny_operating (wpAny_mono h₂ (fun r s₃ h₃ => wpAny_bind (wpAny_letTemporaryGo (wpAny_pure h₃))) fun _ _ x => x)
  first
    | exact wpAny_pure (wpAny_bind fin)
    | exact wpAny_bind (wpAny_pure (wpAny_bind fin))
    | exact wpAny_bind fin

theorem dict_typeIs {X : Cx} {pins : List (Addr × Obj)} {σ : St} {H : Hp} {s : Shared} {a : Addr} {y : V} {o : Option V} (I : Inv X pins σ H s) (g : DGet H a y o) : s.TypeIs (.ref a) "dict" := by
  rcases g with ⟨kvs, k, e, _, _⟩ | ⟨kvs, k, b, e, _, _, _⟩
  · obtain ⟨_, _, vs, _, dd⟩ := dk_rd I.hok e
    exact dd.typeIs
  · obtain ⟨_, _, xs, _, dd⟩ := dt_rd I.hok e
    exact dd.typeIs
def tDGet (td ty : TE) : TE := fun σ H Q => td σ H fun x H1 => ty σ H1 fun y H2 => ∃ a v, x = .ref a ∧ DGet H2 a y (some v) ∧ Q v H2
def tDIn (ty td : TE) : TE := fun σ H Q => ty σ H fun y H1 => td σ H1 fun x H2 => ∃ a o, x = .ref a ∧ DGet H2 a y o ∧ Q (.bl o.isSome) H2
def sDPut (td ty tv : TE) : TS := fun D σ H => tv σ H fun v H1 => td σ H1 fun x H2 => ty σ H2 fun y H3 => ∃ a H4, x = .ref a ∧ DPut H3 a y v H4 ∧ D.nx σ H4
section
variable {X : Cx} {o i e value : Expr} {pos pos' tpos : Pos} {td ty tv : TE}
theorem pe_dget (hu : X.A.units + 1 < cLine) (ho : PE X o td) (hi : PE X i ty) (hs : NoSl i) : PE X (.Subscript o i pos) (tDGet td ty) := by
  intro pins s σ H Q I h
  refine subD_of PySem.F.slot_dict_getitem.lookup hs (thn (ho pins s σ H _ I h) fun u s1 ⟨x, H1, I1, rx, q1⟩ => thn (hi pins s1 σ H1 _ I1 q1) fun iv s2 ⟨y, H2, I2, ry, a, v, ex, g, q2⟩ => ?_)
  subst ex
  obtain rfl : u = Value.ref a := rx
  exact ⟨dict_typeIs I2 g, d_getItem hu I2 g ry fun w' s3 I3 rw' => ⟨v, H2, I3, rw', q2⟩⟩
theorem pc_din (hu : X.A.units + 1 < cLine) (hi : PE X i ty) (ho : PE X o td) : PC X .In i o (tDIn ty td) := by
  intro pins s σ H Q I h
  refine thn (hi pins s σ H _ I h) fun iv s1 ⟨y, H1, I1, ry, q1⟩ => thn (ho pins s1 σ H1 _ I1 q1) fun u s2 ⟨x, H2, I2, rx, a, ov, ex, g, q2⟩ => ?_
  subst ex
  obtain rfl : u = Value.ref a := rx
  exact d_in hu I2 g ry fun s3 I3 => ⟨.bl ov.isSome, H2, I3, rfl, q2⟩
theorem ps_dput (hu : X.A.units + 1 < cLine) (ho : PE X o td) (hi : PE X i ty) (hv : PE X value tv) (hs : swapsWith value (some (.Subscript o i pos')) pos.line X.env = pure false) :
    PS X (.Assign [.Subscript o i pos'] value pos) (sDPut td ty tv) := by
  intro pins s σ H D I h
  refine wpAny_Assign_Subscript (thn (hv pins s σ H _ I h) fun r s1 ⟨v, H1, I1, rv, q1⟩ => thn (ho pins s1 σ H1 _ I1 q1) fun u s2 ⟨x, H2, I2, rx, q2⟩ => thn (hi pins s2 σ H2 _ I2 q2) fun iv s3 ⟨y, H3, I3, ry, a, H4, ex, g, q3⟩ => ?_) hs
  subst ex
  obtain rfl : u = Value.ref a := rx
  exact d_setItem hu I3 g ry rv fun s4 I4 => ⟨σ, H4, I4, q3⟩
end


theorem dk_empty {P : Program} {w : World} {H : Hp} (h : Heap) (hb : sysModules < h.objs.size) : ObjOk P w H (h.push { cls := .type "dict", data := .dict #[] }) h.objs.size (.dK []) :=
  ⟨Nat.zero_le _, beq_eq_false_iff_ne.mpr (Ne.symm (Nat.ne_of_lt hb)), [], .nil, Heap.DictOf.new h⟩
theorem dt_empty {P : Program} {w : World} {H : Hp} (h : Heap) (hb : sysModules < h.objs.size) : ObjOk P w H (h.push { cls := .type "dict", data := .dict #[] }) h.objs.size (.dT []) :=
  ⟨Nat.zero_le _, beq_eq_false_iff_ne.mpr (Ne.symm (Nat.ne_of_lt hb)), [], .nil, _, #[], 0, Heap.get?_push_size _ rfl, ⟨rfl, rfl, rfl⟩, rfl, rfl, List.nodup_nil⟩
def tDNewK : TE := fun _ H Q => ∀ p, H p = none → Q (.ref p) (upd H p (.dK []))
def tDNewT : TE := fun _ H Q => ∀ p, H p = none → Q (.ref p) (upd H p (.dT []))
section
variable {X : Cx} {pos : Pos}
theorem pe_dnewK : PE X (.Dict [] [] pos) tDNewK := fun pins s σ H Q I h =>
  wpAny_Dict_empty ⟨.ref s.heap.objs.size, _, I.laid (a := s.heap.objs.size) (o := .dK []) (t' := s.toks) (fun _ _ q => Heap.get?_push_of_some _ q) (Nat.le_refl _) (dk_empty s.heap I.big), rfl, h _ (I.hok.fresh (Nat.le_refl _))⟩
theorem pe_dnewT : PE X (.Dict [] [] pos) tDNewT := fun pins s σ H Q I h =>
  wpAny_Dict_empty ⟨.ref s.heap.objs.size, _, I.laid (a := s.heap.objs.size) (o := .dT []) (t' := s.toks) (fun _ _ q => Heap.get?_push_of_some _ q) (Nat.le_refl _) (dt_empty s.heap I.big), rfl, h _ (I.hok.fresh (Nat.le_refl _))⟩
end

section
variable {X : Cx} {pins : List (Addr × Obj)} {σ : St} {H : Hp} {s : Shared} {a : Addr} {y d : V} {u r : Value} {o : Option V} {A : Around} {E : Value → Shared → Prop}
end

section
variable {X : Cx} {o e f : Expr} {apos cpos : Pos} {td ty tx : TE}
end

section
variable {X : Cx} {pins : List (Addr × Obj)} {σ : St} {H : Hp} {s : Shared} {a : Addr} {kvs : List (Key × V)} {A : Around} {E : Value → Shared → Prop}
end


section
variable {X : Cx} {pins : List (Addr × Obj)} {σ : St} {H : Hp} {s : Shared} {a : Addr} {y : V} {u : Value} {A : Around} {E : Value → Shared → Prop}
end
end L2

namespace Att
open PySem PySem.W PySem.Calls PyProof.Rows

theorem ints_of_wellAll {P : Params} {h : Heap} : ∀ (ns : List Int) (vs : List Value), WellAll P h vs (ns.map WData.int) → IntsAre vs ns := by
  intro ns
  induction ns with
  | nil =>
    intro vs w
    rw [List.map_nil] at w
    cases w
    exact .nil
  | cons n ns ih =>
    intro vs w
    rw [List.map_cons] at w
    cases w with
    | cons a b =>
      cases a
      exact .cons _ _ (ih _ b)

theorem script_of {l : OpenLaw} {n : Nat} (hn : l.most = some n) {P : Params} {h : Heap} {args : List WData} {vals : List Value}
    (hpre : l.row.toRowW.claim.pre args = true) (hwl : WellAll P h vals args) :
    ∃ a vs ns, vals = [Value.ref a] ∧ args = [WData.list (ns.map WData.int)] ∧ h.get? a = some { cls := .type "list", data := .seq vs.toArray } ∧ IntsAre vs ns ∧ ns.length ≤ n := by
  have hsh : WShape.hasAll [] args [.list .int] = true := (pre_splitW hpre).1
  have hc : l.pre.holds [] { args := args } = true := (pre_splitW hpre).2
  obtain ⟨d, r, rfl, h1, h2⟩ := hasAllW_cons hsh
  obtain rfl := hasAllW_nil h2
  obtain ⟨xs, rfl, h3⟩ := hasW_list h1
  obtain ⟨ns, rfl⟩ := items_int h3
  have hlen : ns.length ≤ n := by
    unfold OpenLaw.pre at hc
    have h4 : (WTm.not (.lt (.lit (.int (n : Int))) (.len (.arg 0)))).holds [] { args := [.list (ns.map .int)] } = true := by
      have h4 := (holds_andW hc).1
      rw [hn] at h4
      exact h4
    have h5 := condW_of h4 (w_not (w_lt w_lit (w_len_list (w_arg rfl))))
    rw [List.length_map] at h5
    refine Nat.le_of_not_lt fun q => ?_
    have q' : (n : Int) < ((ns.length : Nat) : Int) := by omega
    first
      | (rw [decide_eq_true q'] at h5; exact absurd h5 (by decide))
      | (simp at h5; omega)
  cases hwl with
  | cons w1 w2 =>
    cases w2
    cases w1 with
    | list ho hall => exact ⟨_, _, ns, rfl, rfl, ho, ints_of_wellAll ns _ hall, hlen⟩

theorem post_true (l : OpenLaw) (args : List WData) : l.row.toRowW.claim.post args (.bool true) args = true :=
  postW_of (r := l.row.toRowW) (X := (true == true))
    (show WShape.has [] (.bool true) .bool = true by first | rfl | decide | simp [WShape.has, WShape.arms, WShape.armsAll])
    (show (WTm.eq .res (.lit (.bool true))).value [] { args := args, res := some (.bool true), after := args } = some (.bool (true == true)) from w_eq_bool (w_res rfl) w_lit) rfl

theorem attach_call {l : OpenLaw} {n : Nat} {q : Program} {loose : List Str} {XP : (Str → Option Value) → Heap → Prop} {YP : World → Heap → Prop} {d : DefRec}
    (hn : l.most = some n) (hdf : d.params.defaults = [])
    (call : ∀ (w : World) (s₀ s₁ : Shared) (mg mb : Str → Option Value) (fa : Addr) (o : Obj) (pm cd doc : Value) (a : Addr) (vs : List Value) (ns : List Int),
      Ground q loose [] XP w s₀ mg mb s₁.heap → YP w s₁.heap →
      s₁.heap.get? fa = some o → o.data = .func (docDef d.name d.params d.body d.scope pm cd doc) → s₁.heap.CodeRec cd d.name → mg d.name = some (.ref fa) →
      s₁.heap.get? a = some { cls := .type "list", data := .seq vs.toArray } → IntsAre vs ns → ns.length ≤ n → s₁.gens = #[] →
      codeAny (model l.prog w) callerA (.call (.ref fa) ⟨[.ref a], []⟩) (fun r s' => r = .ok (.ret (.bool true)) ∧ OldK s₁.heap s'.heap ∧ s'.os = s₁.os ∧ AllBare s'.gens) s₁) :
    WalkO q loose XP YP l.row.toRowW d [] (fun f vs => PySem.call f vs) := by
  intro w s₀ s₁ mg mb G Y fa o pm cd doc dV kV ho hd hcd hD hmg hg args vals as hpre hlay hrd hwl hlo
  obtain rfl : dV = .none := Dflts.none hD hdf
  obtain rfl : kV = .none := Dflts.noKw hD
  obtain ⟨a, vs, ns, rfl, rfl, hobj, hints, hlen⟩ := script_of hn hpre hwl
  refine enter_call (codeAny_mono (call w s₀ s₁ mg mb fa o pm cd doc a vs ns G Y ho (fd_plain hd) hcd hmg hobj hints hlen hg) fun r s' hq => ?_)
  obtain ⟨rfl, h2, h3, h4⟩ := hq
  exact ⟨.inl ⟨.bool true, .bool true, [], rfl, fun _ => rfl, .bool true, post_true l _, fun _ => ⟨List.Pairwise.nil, fun _ hm => (nomatch hm)⟩⟩, h2, h3, h4⟩

section
variable {prog : Program} {w : World} {A : Around} {E : Value → Shared → Prop} {s : Shared} {K : Frag}

end
end Att

namespace L2
open PySem PySem.Spec PyProof.Rows

theorem vals_ints : ∀ {vs : List Value} {ns : List Int}, IntsAre vs ns → Vals (ns.map V.int) vs
  | _, _, .nil => .nil
  | _, _, .cons n t h => .cons ⟨t, rfl⟩ (vals_ints h)

def Only (H : Hp) : Prop := ∀ b, H b = none ∨ ∃ o xs, H b = some (.frz o (.lst xs))

theorem law_call {P : Program} {w : World} {K : PySem.W.Frag} {mg mb : Str → Option Value} {CX : CXT} {k : Nat} {fa a : Addr} {fd : FuncData} {x : Str} {sp : Sp} {s₁ : Shared} {vs : List Value} {ns : List Int}
    (KX : K.In s₁.heap) (hns : s₁.heap.Ns mainGlobals mg) (hb : s₁.heap.Ns builtinsNs mb) (hbb : ∀ x : Str, x ≠ "__name__" → mb x = bootBuiltins x) (hlim : s₁.heap.NoLimit) (hg : s₁.gens = #[])
    (ha : s₁.heap.get? a = some { cls := .type "list", data := .seq vs.toArray }) (hi : IntsAre vs ns) (hl : ns.length ≤ sizeLine) (hr : Room k callerA)
    (F : ∀ base : Heap, K.In base → base.Ns mainGlobals mg → FnOk P w K mg base CX k fa fd [x] sp) (hbind : ∀ (s : Shared) (u : Value), BindsTo s fd ⟨[u], []⟩ [(x, u)])
    (hsp : ∀ H : Hp, Only H → SqL K H a (ns.map V.int) → sp [.ref a] H (fun v _ => v = .bl true) fun _ _ _ => False)
    (hCX : ∀ H e s', CX [] H s₁ (fun _ _ _ => False) e s' → False) :
    codeAny (model P w) callerA (.call (.ref fa) ⟨[.ref a], []⟩) (fun r s' => r = .ok (.ret (.bool true)) ∧ OldK s₁.heap s'.heap ∧ s'.os = s₁.os ∧ AllBare s'.gens) s₁ := by
  have rv := vals_ints hi
  have lenV := hi.length
  -- from an abstract heap in which nothing but the script may be tracked
  have core : ∀ H : Hp, Only H → SqL K H a (ns.map V.int) → HOk P w H s₁.heap → (∀ b, H b ≠ none → b = a) → (H a ≠ none → K.lookup a = none) →
      codeAny (model P w) callerA (.call (.ref fa) ⟨[.ref a], []⟩) (fun r s' => r = .ok (.ret (.bool true)) ∧ OldK s₁.heap s'.heap ∧ s'.os = s₁.os ∧ AllBare s'.gens) s₁ := by
    intro H hO hS hok hA hK
    have base_of : ∀ {b : Addr} {o : Obj}, s₁.heap.get? b = some o → H b = none → (hidT s₁.heap H).get? b = some o := fun e n => hidT_get e n
    have noA : ∀ {b : Addr} {o : Obj} {es : Array DictEntry} {ep : Nat}, s₁.heap.get? b = some o → o.data = .dict es ep → H b = none := fun {b o es ep} e d => by
      cases q : H b with
      | none => rfl
      | some u =>
        have e' : b = a := hA b (by rw [q]; simp)
        subst e'
        rw [ha] at e; cases e
        have d' : Data.seq vs.toArray _ = Data.dict es ep := d
        cases d'
    have nsK : ∀ {b : Addr} {m : Str → Option Value}, s₁.heap.Ns b m → (hidT s₁.heap H).Ns b m := fun {b m} ⟨o, es, ep, e, d, r⟩ => ⟨o, es, ep, base_of e (noA e d), d, r⟩
    have hKb : K.In (hidT s₁.heap H) := fun b o e => base_of (KX b o e) (by
      cases q : H b with
      | none => rfl
      | some u =>
        have e' : b = a := hA b (by rw [q]; simp)
        subst e'
        rw [hK (by rw [q]; simp)] at e; cases e)
    have hM : Mod K mg (hidT s₁.heap H) := ⟨hKb, nsK hns, ⟨mb, nsK hb, hbb⟩, let ⟨mc, h1, h2⟩ := hlim; ⟨mc, nsK h1, h2⟩⟩
    have e0 : Env0 P w K mg (hidT s₁.heap H) callerA [] s₁ H := ⟨rfl, hM, fun b o e => of_hidT e, Nat.le_of_eq (hidT_size _ _), trivial, fun b hb => absurd (show b ∈ ([] : List Addr) from hb) (by simp), hok, .of_eq hg⟩
    refine codeAny_mono ((F _ hKb (nsK hns)).run callerA [] s₁ H ⟨[.ref a], []⟩ [.ref a] [.ref a] _ _ hr e0 (hbind s₁ (.ref a)) (.cons rfl .nil) (hsp H hO hS)) fun r s' h => ?_
    cases r with
    | error e => exact (hCX H e s' h).elim
    | ok fl =>
      cases fl with
      | next => exact False.elim h
      | brk => exact False.elim h
      | cont => exact False.elim h
      | ret u =>
        obtain ⟨v, H', os, bare, un, hok', r', q⟩ := h
        have q' : v = .bl true := q
        subst q'
        obtain rfl : u = Value.bool true := r'
        refine ⟨rfl, OldK.of_keep fun b o e => ?_, os, bare⟩
        cases q : H b with
        | none => exact un.keep b o e q (by intro z; exact absurd (show b ∈ ([] : List Addr) from z) (by simp)) (by simp)
        | some u =>
          rcases hO b with z | ⟨ob, xs, z⟩
          · rw [q] at z; cases z
          · have z2 := un.frzs b ob _ z
            obtain ⟨e1, _⟩ := hok b _ z
            obtain ⟨e2, _⟩ := hok' b _ z2
            rw [e] at e1; cases e1
            exact e2
  cases hk : K.lookup a with
  | some o =>
    -- the script is one of the module's own objects
    have e := KX a o hk
    rw [ha] at e
    cases e
    refine core (fun _ => none) (fun _ => .inl rfl) (.inr ⟨_, vs.toArray, _, hk, rfl, rfl, rfl, by rw [List.size_toArray, lenV]; exact hl, by simpa using rv⟩) (fun b u z => by have z' : (none : Option HO) = some u := z; cases z') (fun b z => absurd rfl z) fun z => absurd rfl z
  | none =>
    refine core (fun b => if b = a then some (.frz { cls := .type "list", data := .seq vs.toArray } (.lst (ns.map V.int))) else none) (fun b => ?_) (.inl (.inr ⟨{ cls := .type "list", data := .seq vs.toArray }, if_pos rfl⟩)) (fun b u z => ?_) (fun b z => ?_) fun _ => hk
    · by_cases hb : b = a
      · exact .inr ⟨_, _, if_pos hb⟩
      · exact .inl (if_neg hb)
    · by_cases hb : b = a
      · have z' := (if_pos hb).symm.trans z
        cases z'
        subst hb
        exact ⟨ha, by rw [List.length_map]; exact hl, vs, _, rv, ha⟩
      · have z' := (if_neg hb).symm.trans z
        cases z'
    · by_cases hb : b = a
      · exact hb
      · exact absurd (if_neg hb) z
end L2

namespace L2
open PySem PySem.Spec PyProof.Rows

theorem walk_of {l : PySem.W.OpenLaw} {n k : Nat} {q : Program} {loose : List Str} {XP : (Str → Option Value) → Heap → Prop} {YP : World → Heap → Prop} {d : DefRec} {K : Params → PySem.W.Frag} {CX : World → CXT} {sp : World → Sp} {x : Str}
    (hn : l.most = some n) (hn2 : n ≤ sizeLine) (hdf : d.params.defaults = []) (hr : Room k callerA)
    (hY : ∀ (w : World) (h : Heap), YP w h → (K w.params).In h)
    (F : ∀ (w : World) (mg : Str → Option Value) (fa : Addr) (h : Heap), (K w.params).In h → h.Ns mainGlobals mg → mg d.name = some (.ref fa) →
      ∃ fd : FuncData, (∀ (s : Shared) (u : Value), BindsTo s fd ⟨[u], []⟩ [(x, u)]) ∧
        ∀ base : Heap, (K w.params).In base → base.Ns mainGlobals mg → FnOk l.prog w (K w.params) mg base (CX w) k fa fd [x] (sp w))
    (hsp : ∀ (w : World) (H : Hp) (a : Addr) (ns : List Int), ns.length ≤ n → Only H → SqL (K w.params) H a (ns.map V.int) → sp w [.ref a] H (fun v _ => v = .bl true) fun _ _ _ => False)
    (hCX : ∀ (w : World) (H : Hp) (s : Shared) (e : Value) (s' : Shared), CX w [] H s (fun _ _ _ => False) e s' → False) :
    PySem.W.WalkO q loose XP YP l.row.toRowW d [] (fun f vs => PySem.call f vs) := by
  refine Att.attach_call hn hdf fun w s₀ s₁ mg mb fa o pm cd doc a vs ns G Y ho hd hcd hmg hobj hints hlen hg => ?_
  have KX := hY w _ Y
  obtain ⟨fd, hb, hF⟩ := F w mg fa _ KX G.T.g hmg
  exact law_call KX G.T.g G.T.b G.T.builtins G.T.nolimit hg hobj hints (Nat.le_trans hlen hn2) hr hF hb (fun H hO hS => hsp w H a ns hlen hO hS) fun H e s' => hCX w H s₁ e s'
end L2


namespace L2
open PySem PySem.Spec PyProof.Rows

def defArgs (s : Stmt) : Arguments := match s with
  | .FunctionDef _ a _ _ _ _ _ _ _ _ => a
  | _ => { posonlyargs := [], args := [], vararg := none, kwonlyargs := [], kw_defaults := [], kwarg := none, defaults := [] }
def defBody (s : Stmt) : List Stmt := match s with
  | .FunctionDef _ _ b _ _ _ _ _ _ _ => b
  | _ => []
def defScope (s : Stmt) : Scope := match s with
  | .FunctionDef _ _ _ _ _ _ sc _ _ _ => sc
  | _ => { kind := .function, names := [], isGenerator := false, isCoroutine := false }

abbrev CX0 : CXT := fun _ _ _ _ _ _ => False
abbrev E0 : XK := fun _ _ _ => False
theorem pass0 {X : Cx} : Passes CX0 X E0 := fun _ _ _ _ _ _ _ h => h.elim

structure Fun (K : PySem.W.Frag) (x qual : Str) (st : Stmt) (f : Addr) (fd : FuncData) : Prop where
  ex : ∃ (oc : Value) (od : Option Addr) (kV doc pm : Value) (an : Option Addr) (cdv ct : Value) (osl : Array (Option Value)),
    fd = PySem.W.fnOf x qual (defArgs st) (defBody st) (defScope st) .none kV doc pm an cdv ct ∧ K.lookup f = some ⟨oc, od, .func fd, osl⟩ ∧ PySem.W.codeIn K cdv qual = true
  kp : PySem.W.keepIn K (.ref f) = true
section
variable {P : Program} {w : World} {K : PySem.W.Frag} {mg : Str → Option Value} {base : Heap}
theorem Fun.ok {x qual : Str} {st : Stmt} {f : Addr} {fd : FuncData} {N ps : List Str} {k : Nat} {sp : Sp} (F : Fun K x qual st f fd) (S : FnScope N ps (defScope st)) (len : ∀ vs H Q E, sp vs H Q E → vs.length = ps.length)
    (hbody : ∀ (cdv : Value) (A : Around) (outer : List Env) (s : Shared) (H : Hp) (vs : List V) (Q : VK) (E : XK), Room k (A.deeper (envOfC qual (defScope st) s.heap.objs.size f cdv)) → sp vs H Q E →
      ∃ t, PSs (cxOf CX0 P w K mg base N qual (defScope st) f cdv A outer s H E).nox (defBody st) t ∧ t { nx := fun _ H' => Q .non H', rt := Q } (start N vs) H) : FnOk P w K mg base CX0 (k + 1) f fd ps sp := by
  obtain ⟨oc, od, kV, doc, pm, an, cdv, ct, osl, rfl, lk, hcd⟩ := F.ex
  refine fn_of lk hcd S len fun A outer s H vs Q E hr hsp => ?_
  obtain ⟨t, h, q⟩ := hbody cdv A outer s H vs Q E hr hsp
  exact ⟨t, h.nox, q⟩
theorem Fun.binds {x qual : Str} {st : Stmt} {f : Addr} {fd : FuncData} {ps : List Str} (F : Fun K x qual st f fd)
    (h : ∀ (kV doc pm : Value) (an : Option Addr) (cdv ct : Value) (us : List Value), us.length = ps.length → bindArgs (PySem.W.fnOf x qual (defArgs st) (defBody st) (defScope st) .none kV doc pm an cdv ct) ⟨us, []⟩ = pure (ps.zip us)) : Binds K fd ps [] := by
  obtain ⟨oc, od, kV, doc, pm, an, cdv, ct, osl, rfl, lk, hcd⟩ := F.ex
  exact .all (h kV doc pm an cdv ct)
theorem fun_mk {x qual : Str} {st : Stmt} {f : Addr} {oc : Value} {od an : Option Addr} {osl : Array (Option Value)} {kV doc pm cdv ct : Value} (l : K.lookup f = some ⟨oc, od, .func (PySem.W.fnOf x qual (defArgs st) (defBody st) (defScope st) .none kV doc pm an cdv ct), osl⟩)
    (c : PySem.W.codeIn K cdv qual = true) (k : PySem.W.keepIn K (.ref f) = true) : Fun K x qual st f (PySem.W.fnOf x qual (defArgs st) (defBody st) (defScope st) .none kV doc pm an cdv ct) := ⟨⟨oc, od, kV, doc, pm, an, cdv, ct, osl, rfl, l, c⟩, k⟩
end
theorem hu_of {A : Around} {k : Nat} (hr : Room k A) : A.units + 1 < cLine := Nat.lt_of_le_of_lt (Nat.add_le_add_left (by decide : 1 ≤ 64) _) hr.units
theorem small1000 {n : Nat} (h : n ≤ 1000) : n < sizeLine := Nat.lt_of_le_of_lt h (by decide)

section
variable {X : Cx}
theorem pv (i : Nat) {x : Str} {pos : Pos} (hN : X.N[i]? = some x := by rfl) (hv : Vis X.env.scope x := by first | exact Or.inl rfl | exact Or.inr (Or.inl rfl) | exact Or.inr (Or.inr rfl)) (hd : (x == ("__debug__" : Str)) = false := by decide)
    (hcd : (x == ("__classdict__" : Str)) = false := by decide) : PE X (.Name x pos) (tVar i) := pe_var hN hv hd hcd
end

theorem iteF {A B : Prop} (h : B) : if false = true then A else B := by
  rw [if_neg Bool.false_ne_true]
  exact h
theorem iteT {A B : Prop} (h : A) : if true = true then A else B := by
  rw [if_pos rfl]
  exact h
theorem ite2 {c A B : Prop} [Decidable c] (h1 : c → A) (h2 : ¬ c → B) : if c then A else B := by
  by_cases h : c
  · rw [if_pos h]
    exact h1 h
  · rw [if_neg h]
    exact h2 h
def Same (H H' : Hp) : Prop := ∀ b o, H b = some o → H' b = some o
theorem Same.refl (H : Hp) : Same H H := fun _ _ h => h
theorem Same.trans {H H1 H2 : Hp} (a : Same H H1) (b : Same H1 H2) : Same H H2 := fun c o h => b c o (a c o h)
theorem Same.seq {K : PySem.W.Frag} {H H' : Hp} {a : Addr} {xs : List V} (e : Same H H') (h : SqL K H a xs) : SqL K H' a xs := by
  rcases h with (h | ⟨o, h⟩) | h
  · exact .inl (.inl (e _ _ h))
  · exact .inl (.inr ⟨o, e _ _ h⟩)
  · exact .inr h

section
variable {κ : Type} [DecidableEq κ]
end
end L2


namespace L2
open PySem PySem.Spec PyProof.Rows
section
variable {prog : Program} {w : World} {A : Around} {R : Result → Shared → Prop}
theorem lc_loop {elt tg iter : Expr} {ifs : List Expr} {scope : Scope} {pos : Pos} {itv accv : Value} {ce : Env} (J : Nat → Shared → Prop)
    (step : ∀ k t, J k t → wpAny (model prog w) A (pyNext itv) (fun r t1 => match r with
      | none => R (.ok .next) t1
      | some v => wpAny (model prog w) A (letOwnedTupleGo tg itv v) (fun _ t2 => wpAny (model prog w) A (assign tg ce v) (fun _ t3 =>
          wpAny (model prog w) A (forIn ifs true fun c r => if r = true then do let ok ← isTrue c ce (eval c ce); pure (ForInStep.yield ok) else pure (ForInStep.yield r)) (fun ok t4 =>
            if ok = true then wpAny (model prog w) A (eval elt ce) (fun x t5 =>
              wpAny (model prog w) A (call (.builtin "list.append") [accv, x]) (fun _ t6 => ∃ j, j < k ∧ J j t6) (fun _ _ => False) t5) (fun _ _ => False) t4
            else ∃ j, j < k ∧ J j t4) (fun _ _ => False) t3) (fun _ _ => False) t2) (fun _ _ => False) t1) (fun _ _ => False) t)
    (n : Nat) {s : Shared} (h : J n s) :
    codeAny (model prog w) A (.compLoop (.ListComp elt [⟨tg, iter, ifs, 0⟩] scope pos) 0 itv accv ce) R s := by
  refine codeAny_loop rfl J (fun k t hJ => ?_) n h
  show wpAny _ A ((compTurn (.ListComp elt [⟨tg, iter, ifs, 0⟩] scope pos) 0 itv accv ce).onRaise (fun x => do noteFrame x ce; theTreesLotGoes x)) _ _ t
  refine wpAny_noted ?_
  rw [compTurn_list]
  refine wpAny_bind (wpAny_standAt (wpAny_bind (wpAny_mono (step k t hJ) (fun r t1 h1 => ?_) fun _ _ z => z.elim)))
  cases r with
  | none => exact wpAny_pure h1
  | some v =>
    refine wpAny_bind (wpAny_mono h1 (fun _ t2 h2 => ?_) fun _ _ z => z.elim)
    refine wpAny_bind (wpAny_mono h2 (fun _ t3 h3 => wpAny_bind (wpAny_mono h3 (fun ok t4 h4 => ?_) fun _ _ z => z.elim)) fun _ _ z => z.elim)
    cases ok with
    | false => exact wpAny_pure ⟨rfl, h4⟩
    | true =>
      exact wpAny_bind (wpAny_bind (wpAny_mono h4 (fun x t5 h5 => wpAny_bind (wpAny_mono h5 (fun _ t6 h6 => wpAny_pure (wpAny_pure ⟨rfl, h6⟩)) fun _ _ z => z.elim)) fun _ _ z => z.elim))
end

def cxLc (X : Cx) (N : List Str) (scope : Scope) (cl : List (Str × Addr)) (C : Addr) (s : Shared) (H : Hp) (fp : List Addr) : Cx where
  prog := X.prog
  w := X.w
  K := X.K
  mg := X.mg
  base := X.base
  A := X.A
  N := N
  s₀ := s
  H₀ := H
  env := compEnvC scope cl C X.env
  outer := X.stack
  stack := X.stack
  ex := fp
  fn := fun _ => false
  calm := X.calm
  pn := []
  xe := fun _ _ => False

def CapsIn (env : Env) : List (Str × Addr) → Prop
  | [] => True
  | p :: r => (env.kindOf p.1 = some .cell ∧ env.cells.lookup p.1 = some p.2) ∧ CapsIn env r
theorem CapsIn.get {env : Env} : ∀ {cl : List (Str × Addr)}, CapsIn env cl → ∀ x c, cl.lookup x = some c → env.kindOf x = some .cell ∧ env.cells.lookup x = some c
  | [], _, _, _, e => by simp at e
  | (n, a) :: r, h, x, c, e => by
    by_cases hx : x = n
    · subst hx
      simp only [List.lookup_cons, beq_self_eq_true] at e
      cases e
      exact h.1
    · have hb : (x == n) = false := by simpa using hx
      simp only [List.lookup_cons, hb] at e
      exact CapsIn.get h.2 x c e
structure LcOk (X : Cx) (N : List Str) (src : List (Option Nat)) (scope : Scope) (cl : List (Str × Addr)) : Prop where
  clos : closureFor scope X.env = pure cl
  kind : scope.kind = .function
  nocell : scope.names.all (fun y => !(y.2 == .cell)) = true
  names : scope.names.all (fun y => !(y.2 == .local) || scope.names.lookup y.1 == some .local) = true
  caps : CapsIn X.env cl
  has : (relabel scope X.env).names.all (fun y => !(y.2 == .cell || y.2 == .free) || (cl.lookup y.1).isSome) = true
  len : N.length = src.length
  srcs : (N.zip src).all (fun p => match p.2 with | none => true | some i => X.N[i]? == some p.1 && !((relabel scope X.env).names.lookup p.1 == some .local)) = true
def capS (src : List (Option Nat)) (σ : St) : St := src.map fun o => match o with | none => none | some i => (σ[i]?).join
def GOwn (g : TG) (src : List (Option Nat)) : Prop :=
  ∀ x σ H Q, g x σ H Q → g x σ H fun σ2 H2 => Q σ2 H2 ∧ σ2.length = σ.length ∧ ∀ k : Nat, src[k]? ≠ some none → σ2[k]? = σ[k]?
theorem gown_name {i : Nat} {src : List (Option Nat)} (h : src[i]? = some none) : GOwn (gName i) src := fun x σ H Q q =>
  ⟨q, by simp, fun k hk => by
    have : i ≠ k := fun e => hk (by rw [← e]; exact h)
    rw [List.getElem?_set_ne this]⟩
theorem capS_len (src : List (Option Nat)) (σ : St) : (capS src σ).length = src.length := by simp [capS]
theorem capS_get {src : List (Option Nat)} {σ : St} {k : Nat} {v : V} (h : (capS src σ)[k]? = some (some v)) : ∃ i, src[k]? = some (some i) ∧ σ[i]? = some (some v) := by
  unfold capS at h
  rw [List.getElem?_map] at h
  cases e : src[k]? with
  | none => rw [e] at h; cases h
  | some o =>
    rw [e] at h
    cases o with
    | none => cases h
    | some i =>
      refine ⟨i, rfl, ?_⟩
      have h : some ((σ[i]?).join) = some (some v) := h
      have h := Option.some.inj h
      cases q : σ[i]? with
      | none => rw [q] at h; cases h
      | some z => rw [q] at h; have h : z = some v := h; rw [h]
def PIfs (X : Cx) (ifs : List Expr) (t : TT) : Prop :=
  ∀ (pins : List (Addr × Obj)) (s : Shared) (σ : St) (H : Hp) (Q : Bool → Hp → Prop), Inv X pins σ H s → t σ H Q →
    wpAny (model X.prog X.w) X.A (forIn ifs true fun c r => if r = true then do let ok ← isTrue c X.env (eval c X.env); pure (ForInStep.yield ok) else pure (ForInStep.yield r)) (TP X pins σ Q) X.xe s
theorem pifs_one {X : Cx} {c : Expr} {t : TT} (h : PT X c t) : PIfs X [c] t := fun pins s σ H Q I q => wpAny_tests_one (h pins s σ H Q I q)
def tLc (wi : TI) (src : List (Option Nat)) (g : TG) (tc : TT) (te : TE) : TE := fun σ H Q => wi σ H fun J H1 =>
  ∃ W : Nat → Nat → List V → Hp → Prop, (∃ m, W 0 m [] H1) ∧ ∀ i m ys H, W i m ys H →
    (J.stop i H ∧ ys.length ≤ sizeLine ∧ ∀ p, H p = none → Q (.ref p) (upd H p (.lst ys))) ∨
    (J.go i H ∧ ys.length ≤ sizeLine ∧ ∀ x H', J.yld i H x H' → g x (capS src σ) H' fun σ2 H2 => tc σ2 H2 fun b H3 =>
      if b = true then te σ2 H3 fun y H4 => ∃ m', m' < m ∧ W (i + 1) m' (ys ++ [y]) H4 else ∃ m', m' < m ∧ W (i + 1) m' ys H3)

section
variable {X : Cx} {N : List Str} {src : List (Option Nat)} {scope : Scope} {cl : List (Str × Addr)} {pins : List (Addr × Obj)} {σ : St} {H : Hp} {s : Shared}
theorem LcOk.cellAt (ok : LcOk X N src scope cl) : ∀ x, ((relabel scope X.env).names.lookup x = some .cell ∨ (relabel scope X.env).names.lookup x = some .free) → ∃ c, cl.lookup x = some c := by
  intro x hx
  have key : ∀ k : NameKind, (k == .cell || k == .free) = true → (relabel scope X.env).names.lookup x = some k → ∃ c, cl.lookup x = some c := by
    intro k hk e
    have m := PySem.mem_of_lookup e
    have q := List.all_eq_true.mp ok.has _ m
    rw [hk] at q
    simp only [Bool.not_true, Bool.false_or] at q
    exact Option.isSome_iff_exists.mp q
  rcases hx with e | e
  · exact key _ rfl e
  · exact key _ rfl e
theorem LcOk.enter (ok : LcOk X N src scope cl) (I : Inv X pins σ H s) {fp : List Addr} (hfp : ∀ b ∈ fp, FpOk X pins H b) (hlt : ∀ b ∈ fp, b < s.heap.objs.size) {C : Addr} (hC : s.heap.objs.size ≤ C)
    {t : Shared} {m : Str → Option Value} (ho : t.os = s.os) (hg : t.gens = s.gens) (hk : ∀ b o, s.heap.get? b = some o → t.heap.get? b = some o) (hn : t.heap.Ns C m)
    {pl : List (Addr × Obj)} (hpl : ∀ p ∈ pl, t.heap.get? p.1 = some p.2 ∧ H p.1 = none ∧ p.1 ≠ C ∧ p.1 ∉ frs X.stack ∧ ∀ v, p.2.data ≠ .cell v) :
    Inv (cxLc X N scope cl C s H fp) pl (capS src σ) H t := by
  have cg := ok.caps.get
  have okX : (cxLc X N scope cl C s H fp).Ok := by
    refine ⟨I.ok.mod, ok.kind, I.ok.glob, I.ok.blt, hC, fun x y c h1 h2 => ?_, fun x hx => ok.cellAt x hx, (fun x c z _ => nomatch z), I.ok.hd, I.ok.frames, .inl rfl, fun b hb => ?_, I.bs, Nat.le_trans I.ok.bsz I.sz, fun b o e hb => ?_, fun b hb z => ?_, I.stack, I.stkFree⟩
    · exact I.ok.inj x y c (cg x c h1).2 (cg y c h2).2
    · refine ⟨fun e => ?_, fun x c e => ?_⟩
      · have e : b = C := e
        have := hlt b hb
        rw [e] at this
        exact absurd (Nat.lt_of_lt_of_le this hC) (Nat.lt_irrefl _)
      · exact (hfp b hb).2.2.2.2.1 x c (cg x c e).2
    · rcases (hfp b hb).2.2.2.1 with z | z
      · exact I.ok.noex b o e z
      · exact absurd (Nat.lt_of_lt_of_le (Heap.lt_size e) (Nat.le_trans I.ok.bsz z)) (Nat.lt_irrefl _)
    · rcases List.mem_cons.mp (I.stkSub b z) with e | e
      · exact (hfp b hb).2.1 e
      · exact (hfp b hb).2.2.1 e
  obtain ⟨mX, hnX, hlX⟩ := I.loc
  refine ⟨okX, ho, by rw [hg]; exact I.bare, Un.kept hk, ⟨m, hn, fun j x v e1 e2 e3 => ?_⟩, fun x c e => ?_, I.hok.fresh hC, fun x c e => I.freeC x c (cg x c e).2, fun p hp => hpl p hp, I.hok.kept hk, ?_⟩
  · obtain ⟨i, e4, e5⟩ := capS_get e2
    have hz : (N.zip src)[j]? = some (x, some i) := by
      rw [List.getElem?_zip_eq_some]
      exact ⟨e1, e4⟩
    have q := List.all_eq_true.mp ok.srcs _ (List.mem_of_getElem? hz)
    have q : (X.N[i]? == some x && !((relabel scope X.env).names.lookup x == some .local)) = true := q
    rw [Bool.and_eq_true] at q
    have q1 : X.N[i]? = some x := by simpa using q.1
    have q2 : ¬ (relabel scope X.env).names.lookup x = some .local := by
      intro z
      rw [z] at q
      exact absurd q.2 (by decide)
    have e3 : (relabel scope X.env).names.lookup x = some .local ∨ (relabel scope X.env).names.lookup x = some .cell ∨ (relabel scope X.env).names.lookup x = some .free := e3
    have e6 : (relabel scope X.env).names.lookup x = some .cell ∨ (relabel scope X.env).names.lookup x = some .free := e3.resolve_left q2
    obtain ⟨c, hc⟩ := ok.cellAt x e6
    obtain ⟨k1, k2⟩ := cg x c hc
    obtain ⟨u, r, l⟩ := hlX i x v q1 e5 (.inr (.inl k1))
    refine ⟨u, r, .inr ⟨e6, c, hc, ?_⟩⟩
    rcases l with ⟨z, _⟩ | ⟨_, c', z1, z2⟩
    · rw [k1] at z; cases z
    · rw [k2] at z1
      cases z1
      obtain ⟨o, ho', hd⟩ := z2
      exact ⟨o, hk _ o ho', hd⟩
  · obtain ⟨v, o, ho', hd⟩ := I.cell x c (cg x c e).2
    exact ⟨v, o, hk _ o ho', hd⟩
  · rw [capS_len]
    exact ok.len.symm
theorem lc_leave (I : Inv X pins σ H s) {fp : List Addr} (hfp : ∀ b ∈ fp, FpOk X pins H b) {C D : Addr} (hD : s.heap.objs.size ≤ D) (hC : s.heap.objs.size ≤ C)
    {σ' : St} {H' : Hp} {t : Shared} {pl : List (Addr × Obj)} (J : Inv (cxLc X N scope cl C s H fp) pl σ' H' t) {ys : List V} {its : List Value} {n : Nat} (hy : ys.length ≤ sizeLine) (rv : Vals ys its)
    (hd : t.heap.get? D = some { cls := .type "list", data := .seq its.toArray n }) (hn : H' D = none) (hDC : D ≠ C) {h' : Heap} (hs : Heap.SameBut C t.heap h') : Inv X pins σ (upd H' D (.lst ys)) { t with heap := h' } := by
  have neC : ∀ b o, s.heap.get? b = some o → b ≠ C := fun b o e => Nat.ne_of_lt (Nat.lt_of_lt_of_le (Heap.lt_size e) hC)
  have neD : ∀ b o, s.heap.get? b = some o → b ≠ D := fun b o e => Nat.ne_of_lt (Nat.lt_of_lt_of_le (Heap.lt_size e) hD)
  have B : Un (frs X.stack) fp H H' s.heap t.heap := J.base
  have fC : H' C = none := J.free
  refine I.call' (s' := { t with heap := h' }) (ch := fp) J.os ?_ ?_ J.bare fun b hb => ⟨(hfp b hb).2.2.2.1, (hfp b hb).2.1, (hfp b hb).2.2.2.2.1, (hfp b hb).2.2.2.2.2⟩
  · refine ⟨fun b o e q hb hx => (hs.2 b (neC b o e)).trans (B.keep b o e q hb hx), fun b o e q hb hx => ?_, fun b o e q hx => ?_, fun b o e hx => ?_, fun b xs e => ?_, fun b o u e => ?_, fun b ps e => ?_⟩
    · obtain ⟨sl, z⟩ := B.slot b o e q hb hx
      exact ⟨sl, (hs.2 b (neC b o e)).trans z⟩
    · rw [upd_ne (neD b o e)]
      exact B.free b o e q hx
    · obtain ⟨o', z⟩ := B.there b o e hx
      exact ⟨o', (hs.2 b (neC b o e)).trans z⟩
    · have z := B.tups b xs e
      rw [upd_ne (ne_of_none z hn)]
      exact z
    · have z := B.frzs b o u e
      rw [upd_ne (ne_of_none z hn)]
      exact z
    · obtain ⟨more, z⟩ := B.tbls b ps e
      exact ⟨more, by rw [upd_ne (ne_of_none z hn)]; exact z⟩
  · intro b u e
    by_cases hb : b = D
    · subst hb
      rw [upd_same] at e
      cases e
      exact ⟨hy, its, n, rv, (hs.2 b hDC).trans hd⟩
    · rw [upd_ne hb] at e
      refine (J.hok b u e).stay (fun c v hc q => (hs.2 c ?_).trans q) (fun c q => ?_) fun c xs q => ?_
      · rintro rfl
        rcases hc with z | z
        · rw [← z, fC] at e; cases e
        · rw [fC] at z; cases z
      · rw [upd_ne (ne_of_none q hn)]; exact q
      · rw [upd_ne (ne_of_none q hn)]; exact q

theorem lc_block {elt tg iter : Expr} {ifs : List Expr} {pos : Pos} {te : TE} {tc : TT} {g : TG} {it : Addr} {fp : List Addr} {tn : Nat → Heap → Prop} {J : It} {E : Value → Shared → Prop} {RR : Value → Addr → Result → Shared → Prop} {Qr : List V → Hp → Prop}
    (hc : X.calm = true) (ok : LcOk X N src scope cl) (hgo : GOwn g src)
    (hb : ∀ C, PG (cxLc X N scope cl C s H fp) tg g ∧ PIfs (cxLc X N scope cl C s H fp) ifs tc ∧ PE (cxLc X N scope cl C s H fp) elt te)
    (I : Inv X pins σ H s) (T : Turn X.prog X.w X.K tg J fp it tn) (st : tn 0 s.heap) (hfp : ∀ b ∈ fp, FpOk X pins H b)
    (W : Nat → Nat → List V → Hp → Prop) (w0 : ∃ m, W 0 m [] H)
    (turn : ∀ i m ys H, W i m ys H → (J.stop i H ∧ ys.length ≤ sizeLine ∧ Qr ys H) ∨ (J.go i H ∧ ys.length ≤ sizeLine ∧ ∀ x H', J.yld i H x H' → g x (capS src σ) H' fun σ2 H2 => tc σ2 H2 fun b H3 =>
      if b = true then te σ2 H3 fun y H4 => ∃ m', m' < m ∧ W (i + 1) m' (ys ++ [y]) H4 else ∃ m', m' < m ∧ W (i + 1) m' ys H3))
    (fin : ∀ D C t ys H', s.heap.objs.size ≤ D → s.heap.objs.size ≤ C → D ≠ C → H' D = none → H' C = none → (∃ m, t.heap.Ns C m) → Qr ys H' → (∀ h', Heap.SameBut C t.heap h' → Inv X pins σ (upd H' D (.lst ys)) { t with heap := h' }) →
      RR (.ref D) C (.ok .next) t) :
    wpAny (model X.prog X.w) X.A (newList []) (fun acc s₃ => wpAny (model X.prog X.w) X.A (newFunctionEnv scope X.env.globals cl [] X.env.qual none .none (some X.env)) (fun cenv s₄ =>
      codeAny (model X.prog X.w) X.A (.compStart (.ListComp elt [⟨tg, iter, ifs, 0⟩] scope pos) 0 (.ref it) acc { cenv with scope := relabel scope X.env }) (RR acc cenv.locals) s₄) E s₃) E s := by
  have noc : ∀ y ∈ scope.names, y.2 ≠ .cell := fun y hy z => by
    have q := List.all_eq_true.mp ok.nocell y hy
    rw [z] at q
    exact absurd q (by decide)
  obtain ⟨m0, w0⟩ := w0
  refine wpAny_newList (wpAny_newFunctionEnv noc (by intro y hy; simp at hy) (fun h1 hns hsb => ?_) ok.kind) (by show 0 ≤ sizeLine; exact Nat.zero_le _)
  dsimp only at hns hsb ⊢
  generalize hp1 : s.heap.push { cls := .type "list", data := .seq ([] : List Value).toArray } = hD at hns hsb ⊢
  have eC : hD.objs.size = s.heap.objs.size + 1 := by rw [← hp1, Heap.size_push]
  have nDC : s.heap.objs.size ≠ hD.objs.size := by rw [eC]; exact Nat.ne_of_lt (Nat.lt_succ_self _)
  have leC : s.heap.objs.size ≤ hD.objs.size := by rw [eC]; exact Nat.le_succ _
  have kept : ∀ b o, s.heap.get? b = some o → h1.get? b = some o := fun b o e =>
    hsb.extBut b o (Nat.ne_of_lt (Nat.lt_of_lt_of_le (Heap.lt_size e) leC)) (Heap.get?_push_of_some _ (hp1 ▸ Heap.get?_push_of_some _ e))
  have atD : h1.get? s.heap.objs.size = some { cls := .type "list", data := .seq ([] : List Value).toArray } := hsb.extBut _ _ nDC (Heap.get?_push_of_some _ (hp1 ▸ Heap.get?_push_size _ rfl))
  have ltf : ∀ b ∈ fp, b < s.heap.objs.size := fun b hb => by
    obtain ⟨o, e, _⟩ := T.obj 0 _ st b hb
    exact Heap.lt_size e
  have nstk : s.heap.objs.size ∉ frs X.stack := fun z => by
    rcases List.mem_cons.mp (I.stkSub _ z) with e | e
    · exact absurd (Nat.lt_of_lt_of_le I.lt (Nat.le_of_eq e)) (Nat.lt_irrefl _)
    · exact I.nofs (Nat.le_refl _) e
  have ncl : ∀ x c, cl.lookup x = some c → c ≠ s.heap.objs.size := fun x c e z => by
    obtain ⟨v, q⟩ := I.cell x c (ok.caps.get x c e).2
    exact absurd q.lt (by rw [z]; exact Nat.lt_irrefl _)
  -- what stays true of the iterator's records
  have stat : ∀ {H' : Hp} {its : List Value} {k : Nat}, (∀ b ∈ fp, H' b = none) → ∀ b ∈ fp, FpOk (cxLc X N scope cl hD.objs.size s H fp) [(s.heap.objs.size, { cls := .type "list", data := .seq its.toArray k })] H' b := fun fr b hb => by
    refine ⟨fr b hb, fun z => ?_, fun z => ?_, .inl hb, fun x c e => (hfp b hb).2.2.2.2.1 x c (ok.caps.get x c e).2, fun p hp z => ?_⟩
    · have z : b = hD.objs.size := z
      exact absurd (Nat.lt_of_lt_of_le (ltf b hb) (by rw [z]; exact leC)) (Nat.lt_irrefl _)
    · rcases List.mem_cons.mp (I.stkSub b z) with e | e
      · exact (hfp b hb).2.1 e
      · exact (hfp b hb).2.2.1 e
    · have hp : p ∈ ([] : List (Addr × Obj)) ++ [(s.heap.objs.size, { cls := .type "list", data := .seq _ _ })] := hp
      rw [List.nil_append, List.mem_singleton] at hp
      rw [hp] at z
      exact absurd (ltf b hb) (by rw [← z]; exact Nat.lt_irrefl _)
  have loop : ∀ t : Shared, t = { s with heap := h1, toks := s.toks + ([] : List (Str × Value)).length } →
      codeAny (model X.prog X.w) X.A (.compLoop (.ListComp elt [⟨tg, iter, ifs, 0⟩] scope pos) 0 (.ref it) (.ref s.heap.objs.size) (compEnvC scope cl hD.objs.size X.env)) (RR (.ref s.heap.objs.size) hD.objs.size) t := by
    rintro t rfl
    refine lc_loop (fun n t => ∃ i ys its k H', Inv (cxLc X N scope cl hD.objs.size s H fp) [(s.heap.objs.size, { cls := .type "list", data := .seq its.toArray k })] (capS src σ) H' t ∧ Vals ys its ∧ tn i t.heap ∧ (∀ b ∈ fp, H' b = none) ∧ W i n ys H') ?_ m0
      ⟨0, [], [], 0, H, ok.enter (t := { s with heap := h1, toks := s.toks + ([] : List (Str × Value)).length }) I hfp ltf leC rfl rfl kept hns ?_, .nil, T.keep 0 _ _ st fun b _ o e => kept b o e, fun b hb => (hfp b hb).1, w0⟩
    · rintro n t ⟨i, ys, its, k, H', Iy, rv, stt, fr, wv⟩
      rcases turn i n ys H' wv with ⟨stop, hy, q⟩ | ⟨go, hy, body⟩
      · refine wpAny_mono (T.done (cxLc X N scope cl hD.objs.size s H fp) rfl rfl rfl hc i _ t _ H' (fun _ _ => False) Iy (stat fr) stt stop) (fun r t1 hr => ?_) fun _ _ z => z
        obtain ⟨hr, I1⟩ := hr
        subst hr
        have p := I1.pin (s.heap.objs.size, _) (List.mem_append_right _ List.mem_cons_self)
        obtain ⟨m, hnC, _⟩ := id I1.loc
        exact fin _ _ t1 ys H' (Nat.le_refl _) leC nDC p.2.1 I1.free ⟨m, hnC⟩ q fun h' hs => lc_leave I hfp (Nat.le_refl _) leC I1 hy rv p.1 p.2.1 nDC hs
      · refine wpAny_mono (T.item (cxLc X N scope cl hD.objs.size s H fp) rfl rfl rfl hc i _ t _ H' (fun _ _ => False) Iy (stat fr) stt go) (fun r t1 hr => ?_) fun _ _ z => z
        obtain ⟨u, hr, h4⟩ := hr
        subst hr
        refine wpAny_mono h4 (fun _ t2 h5 => ?_) fun _ _ z => z
        obtain ⟨x, H5, I5, r5, y5, st5, fr5⟩ := h5
        have I5' := I5.pinned (stat fr5) (T.obj _ _ st5)
        obtain ⟨pg, pi, pe⟩ := hb hD.objs.size
        refine wpAny_mono (pg _ t2 _ H5 x u _ I5' r5 (hgo _ _ _ _ (body x H5 y5))) (fun _ t3 h6 => ?_) fun _ _ z => z
        obtain ⟨σ6, H6, I6, q6, len6, keep6⟩ := h6
        refine wpAny_mono (pi _ t3 σ6 H6 _ I6 q6) (fun b t4 h7 => ?_) fun _ _ z => z
        obtain ⟨H7, I7, q7⟩ := h7
        have wk : ∀ {pl : List (Addr × Obj)} {Hz : Hp} {tz : Shared}, Inv (cxLc X N scope cl hD.objs.size s H fp) pl σ6 Hz tz → Inv (cxLc X N scope cl hD.objs.size s H fp) pl (capS src σ) Hz tz := fun Iz =>
          Iz.weak len6.symm fun j v e => by
            obtain ⟨a, ea, _⟩ := capS_get e
            rw [keep6 j (by rw [ea]; simp)]
            exact e
        have held : ∀ {Hz : Hp} {tz : Shared} {pl : List (Addr × Obj)}, Inv (cxLc X N scope cl hD.objs.size s H fp) (pl ++ pinsAt fp t2.heap) σ6 Hz tz → (∀ b ∈ fp, ∀ o, t2.heap.get? b = some o → tz.heap.get? b = some o) ∧ ∀ b ∈ fp, Hz b = none := fun Iz =>
          ⟨fun b hb o e => (Iz.pin (b, o) (List.mem_append_right _ (List.mem_append_right _ (mem_pinsAt hb e)))).1, fun b hb => by
            obtain ⟨o, e, _⟩ := T.obj _ _ st5 b hb
            exact (Iz.pin (b, o) (List.mem_append_right _ (List.mem_append_right _ (mem_pinsAt hb e)))).2.1⟩
        cases b with
        | false =>
          rw [if_neg Bool.false_ne_true] at q7 ⊢
          obtain ⟨m', hm, w'⟩ := q7
          exact ⟨m', hm, i + 1, ys, its, k, H7, wk I7.unpinned, rv, T.keep _ _ _ st5 (held I7).1, (held I7).2, w'⟩
        | true =>
          rw [if_pos rfl] at q7 ⊢
          refine wpAny_mono (pe _ t4 σ6 H7 _ I7 q7) (fun v t5 h8 => ?_) fun _ _ z => z
          obtain ⟨y, H8, I8, r8, m', hm, w'⟩ := h8
          have p := I8.pin (s.heap.objs.size, _) (List.mem_append_right _ (List.mem_append_left _ List.mem_cons_self))
          have hl : its.toArray.size ≤ sizeLine := by rw [List.size_toArray, ← rv.length]; exact hy
          refine wpAny_list_append_plain (items := its.toArray) ⟨k, p.1⟩ (fun h' hpl hs => ?_) hl
          obtain ⟨k', ek⟩ := hpl
          have ek : h'.get? s.heap.objs.size = some { cls := .type "list", data := .seq (its ++ [v]).toArray k' } := by
            rw [ek]
            simp
          have I9 : Inv (cxLc X N scope cl hD.objs.size s H fp) (pinsAt fp t2.heap) σ6 H8 t5 := I8.pins_of fun a ha => I8.pin a (List.mem_append_right _ (List.mem_append_right _ ha))
          have I10 : Inv (cxLc X N scope cl hD.objs.size s H fp) (pinsAt fp t2.heap) σ6 H8 { t5 with heap := h' } := I9.turned (it := s.heap.objs.size) (t' := t5.toks) (fun b o hb e => hs.extBut b o hb e) p.2.1 nDC (.inr (Nat.le_refl _)) (fun x c e => ncl x c e) fun a ha z => by
            have ha : a ∈ ([] : List (Addr × Obj)) ++ pinsAt fp t2.heap := ha
            rw [List.nil_append] at ha
            exact absurd (ltf a.1 (of_pinsAt ha).1) (by rw [z]; exact Nat.lt_irrefl _)
          have hld := held (pl := []) (show Inv (cxLc X N scope cl hD.objs.size s H fp) ([] ++ pinsAt fp t2.heap) σ6 H8 { t5 with heap := h' } from I10)
          refine ⟨m', hm, i + 1, ys ++ [y], its ++ [v], k', H8, (wk I10).pins_of fun a ha => ?_, rv.append (.cons r8 .nil), T.keep _ _ _ st5 hld.1, hld.2, w'⟩
          rw [List.mem_singleton] at ha
          subst ha
          exact ⟨ek, p.2.1, nDC, nstk, fun _ z => nomatch z⟩
    · intro a ha
      rw [List.mem_singleton] at ha
      subst ha
      exact ⟨atD, I.hok.fresh (Nat.le_refl _), nDC, nstk, fun _ z => nomatch z⟩
  exact codeAny_compStart_list (loop _ rfl) (T.self _ 0 _ _ _ (T.keep 0 _ _ st fun b _ o e => kept b o e) (loop _ rfl))
theorem pe_lc {elt tg iter : Expr} {ifs : List Expr} {pos : Pos} {te : TE} {tc : TT} {g : TG} {wi : TI} (hc : X.calm = true) (ok : LcOk X N src scope cl) (hgo : GOwn g src) (hi : PI X tg iter wi)
    (hb : ∀ C s H fp, PG (cxLc X N scope cl C s H fp) tg g ∧ PIfs (cxLc X N scope cl C s H fp) ifs tc ∧ PE (cxLc X N scope cl C s H fp) elt te)
    (hs : ∀ x, foldedSetIterable iter X.env x = pure x := by intro _; rfl) : PE X (.ListComp elt [⟨tg, iter, ifs, 0⟩] scope pos) (tLc wi src g tc te) := by
  intro pins s σ H Q I h
  have nms : ∀ y ∈ scope.names, y.2 = .local → scope.names.lookup y.1 = some .local := fun y hy z => by
    have q := List.all_eq_true.mp ok.names y hy
    rw [z] at q
    simpa using q
  rw [eval_ListComp]
  refine wpAny_comprehension_free (use := none) rfl hs ok.clos ok.kind nms (thn (hi pins s σ H _ I h) fun v s1 h1 => thn h1 fun itv s2 h2 => ?_)
  obtain ⟨it, fp, tn, J, H2, e, I2, T, st2, f2, W, w0, turn⟩ := h2
  subst e
  refine lc_block (RR := fun acc C => compPost (model X.prog X.w) X.A X.xe none (EP X pins σ Q) acc C) (Qr := fun ys H => ∀ p, H p = none → Q (.ref p) (upd H p (.lst ys))) hc ok hgo (fun C => hb C s2 H2 fp) I2 T st2 f2 W w0 turn ?_
  intro D C t ys H' hD hC nDC n1 n2 hn q inv
  obtain ⟨m, hn⟩ := hn
  exact ⟨m, hn, fun h' hs => ⟨.ref D, _, inv h' hs, rfl, q D n1⟩⟩
theorem ps_setlc {elt tg iter : Expr} {ifs : List Expr} {pos pos' spos : Pos} {te : TE} {tc : TT} {g : TG} {wi : TI} {i : Nat} {x : Str} (hN : X.N.Nodup) (hx : X.N[i]? = some x) (hl : X.env.scope.names.lookup x = some .local)
    (hsw : swapsWith (.ListComp elt [⟨tg, iter, ifs, 0⟩] scope pos) (some (.Name x pos')) spos.line X.env = pure true) (hc : X.calm = true) (ok : LcOk X N src scope cl) (hgo : GOwn g src) (hi : PI X tg iter wi)
    (hb : ∀ C s H fp, PG (cxLc X N scope cl C s H fp) tg g ∧ PIfs (cxLc X N scope cl C s H fp) ifs tc ∧ PE (cxLc X N scope cl C s H fp) elt te)
    (hs : ∀ x, foldedSetIterable iter X.env x = pure x := by intro _; rfl) : PS X (.Assign [.Name x pos'] (.ListComp elt [⟨tg, iter, ifs, 0⟩] scope pos) spos) (tAsg (tLc wi src g tc te) (gName i)) := by
  intro pins s σ H DD I h
  have nms : ∀ y ∈ scope.names, y.2 = .local → scope.names.lookup y.1 = some .local := fun y hy z => by
    have q := List.all_eq_true.mp ok.names y hy
    rw [z] at q
    simpa using q
  rw [exec_Assign_Name_used _ _ _ _ hsw]
  refine wpAny_bind (wpAny_standAt (wpAny_bind ?_))
  show wpAny (model X.prog X.w) X.A (do let _ ← comprehension (.ListComp elt [⟨tg, iter, ifs, 0⟩] scope pos) scope X.env _ (newList []) false (eval iter X.env) (some (assign (.Name x pos') X.env))) _ _ s
  refine wpAny_bind (wpAny_mono (wpAny_comprehension_free (use := some (assign (.Name x pos') X.env)) (Q := fun _ t => SP X pins DD .next t) rfl hs ok.clos ok.kind nms
    (thn (hi pins s σ H _ I h) fun v s1 h1 => thn h1 fun itv s2 h2 => ?_)) (fun _ t hq => wpAny_pure (wpAny_pure hq)) fun _ _ e => e)
  obtain ⟨it, fp, tn, J, H2, e, I2, T, st2, f2, W, w0, turn⟩ := h2
  subst e
  refine lc_block (RR := fun acc C => compPost (model X.prog X.w) X.A X.xe (some (assign (.Name x pos') X.env)) (fun _ t => SP X pins DD .next t) acc C) (Qr := fun ys H => ∀ p, H p = none → DD.nx (σ.set i (some (.ref p))) (upd H p (.lst ys))) hc ok hgo (fun C => hb C s2 H2 fp) I2 T st2 f2 W w0 turn ?_
  intro D C t ys H' hD hC nDC n1 n2 hn q inv
  obtain ⟨m, hn⟩ := hn
  have I3 := inv t.heap (Heap.SameBut.refl ..)
  have neL : C ≠ X.env.locals := Nat.ne_of_gt (Nat.lt_of_lt_of_le I2.lt hC)
  have neK : ∀ y c, X.env.cells.lookup y = some c → c ≠ C := fun y c e => by
    obtain ⟨v, z⟩ := I2.cell y c e
    exact Nat.ne_of_lt (Nat.lt_of_lt_of_le z.lt hC)
  show wpAny (model X.prog X.w) X.A (assign (.Name x pos') X.env (.ref D)) _ X.xe t
  refine wpAny_assign_Name (store_ok2 (v := .ref D) (s := { t with heap := t.heap }) I3 hN hx (.inl hl) rfl (fun t2 I4 hw => ?_) (.inr hl))
  obtain ⟨a, sb, ha⟩ := hw
  have naC : C ≠ a := by
    rcases ha with e | e
    · rw [e]; exact neL
    · exact fun z => neK _ _ e z.symm
  refine ⟨m, hn.sameBut sb naC, fun h' hs' => ?_⟩
  refine ⟨_, _, I4.turned (it := C) (t' := t2.toks) (fun b o hb e => hs'.extBut b o hb e) ?_ neL (.inr (Nat.le_trans I2.sz hC)) (fun y c e => neK y c e) (fun p hp z => ?_), q D n1⟩
  · rw [upd_ne (Ne.symm nDC)]
    exact n2
  · have e := (I2.pin p hp).1
    exact absurd (Nat.lt_of_lt_of_le (Heap.lt_size e) (by rw [z]; exact hC)) (Nat.lt_irrefl _)
end
end L2

namespace L2
open PySem
section
variable {prog : Program} {w : World} {z TI TO i1 i2 : Addr} {f1 f2 : List Addr} {n1 n2 : Nat} {P1 P2 : Nat → Value → Prop} {S1 S2 : Nat → Heap → Prop}
end

end L2

namespace L2
open PySem PySem.Spec PyProof.Rows
section
variable {X : Cx} {pins : List (Addr × Obj)} {σ : St} {H : Hp} {s : Shared} {h' : Heap}
theorem Inv.adopt {p : Addr} {o : HO} (I : Inv X pins σ H s) (hf : FpOk X pins H p) (new : ObjOk X.prog X.w (upd H p o) s.heap p o) : Inv X pins σ (upd H p o) s := by
  have e0 : ({ s with heap := s.heap, gens := s.gens, drawn := s.drawn, toks := s.toks } : Shared) = s := rfl
  rw [← e0]
  refine I.step (H' := upd H p o) (h' := s.heap) (g' := s.gens) (d' := s.drawn) (t' := s.toks) (ch := [p]) (fun b hb => ?_) (fun b u _ _ _ e _ => e) (fun b u _ _ _ e _ => ⟨u.slots, e⟩) (fun b u hc e n => ?_) (fun b u _ e => ⟨u, e⟩)
    (fun b xs e => ?_) (fun b u v e => ?_) (fun b ps e => ⟨#[], ?_⟩) (fun m hm => hm) (fun b u e => ?_) I.bare
  · rw [List.mem_singleton] at hb
    subst hb
    exact ⟨hf.2.2.2.1, hf.2.1, hf.2.2.2.2.1, hf.2.2.2.2.2⟩
  · rw [upd_ne fun z => hc (by rw [z]; exact List.mem_singleton_self _)]
    exact n
  · rw [upd_ne (ne_of_none e hf.1)]; exact e
  · rw [upd_ne (ne_of_none e hf.1)]; exact e
  · rw [upd_ne (ne_of_none e hf.1), e]; simp
  · by_cases hb : b = p
    · subst hb
      rw [upd_same] at e
      cases e
      exact new
    · rw [upd_ne hb] at e
      exact (I.hok b u e).stay (fun c v hc q => q) (fun c q => by rw [upd_ne (ne_of_none q hf.1)]; exact q) fun c xs q => by rw [upd_ne (ne_of_none q hf.1)]; exact q
end
section
variable {X : Cx} {es : List Expr} {kt : Nat} {tp : Pos}
end
end L2

namespace L2
open PySem PySem.Spec PyProof.Rows
theorem Same.upd {H : Hp} {p : Addr} {o : HO} (h : H p = none) : Same H (upd H p o) := fun b u e => by
  rw [upd_ne (ne_of_none e h)]
  exact e
def SameBut (p : Addr) (H H' : Hp) : Prop := ∀ b o, b ≠ p → H b = some o → H' b = some o
theorem Same.but {p : Addr} {H H' : Hp} (h : Same H H') : SameBut p H H' := fun b o _ e => h b o e
theorem SameBut.refl (p : Addr) (H : Hp) : SameBut p H H := fun _ _ _ e => e
theorem SameBut.trans {p : Addr} {H H1 H2 : Hp} (a : SameBut p H H1) (b : SameBut p H1 H2) : SameBut p H H2 := fun c o n e => b c o n (a c o n e)
theorem SameBut.upd {p : Addr} {H : Hp} {o : HO} : SameBut p H (upd H p o) := fun b u n e => by rw [upd_ne n]; exact e
section
variable {X : Cx}
theorem call_isinst : CallR X (.builtin "isinstance") (fun xs H Q => ∃ x T t b, xs = [x, .ty T] ∧ TyOf X.K H x t ∧ PySem.W.kitOne X.K t (.type T) = some b ∧ Q (.bl b) H) := by
  intro pins s σ H xs us Q I r h
  obtain ⟨x, T, t, b, rfl, ty, e, q⟩ := h
  obtain ⟨u, v, rfl, ru, rv⟩ := vals2 r
  have rv : v = Value.type T := rv
  subst rv
  exact isinst_ok I ru ty e fun tk => ⟨.bl b, H, I.tok tk, rfl, q⟩
def rEqNil (K : PySem.W.Frag) : R2 := fun x y H Q => ∃ a b xs, x = .ref a ∧ y = .ref b ∧ SqL K H a xs ∧ SqL K H b [] ∧ Q (.bl xs.isEmpty) H
theorem op_eqNil (hu : X.A.units < cLine) : OpR X (compareOp .Eq) (rEqNil X.K) := by
  intro pins s σ H x y v u Q I rx ry h
  obtain ⟨a, b, xs, rfl, rfl, ha, hb, q⟩ := h
  cases rx
  cases ry
  obtain ⟨its, r1, p1, _⟩ := I.list ha
  obtain ⟨its2, r2, p2, _⟩ := I.list hb
  cases r2
  by_cases hx : xs = []
  · subst hx
    cases r1
    exact SeqAt.eq_listAt (e := fun _ => true) p1.isList p2.isList rfl hu (fun j h1 _ => absurd h1 (by simp)) ⟨.bl true, H, I, by simp; rfl, q⟩
  · have e : xs.isEmpty = false := by cases xs with
      | nil => exact absurd rfl hx
      | cons _ _ => rfl
    rw [e] at q
    refine SeqAt.eq_list_lengthsAt p1.isList p2.isList ?_ hu ⟨.bl false, H, I, rfl, q⟩
    have h0 : its.length ≠ 0 := by
      rw [← r1.length]
      exact fun z => hx (List.length_eq_zero_iff.mp z)
    simpa using h0
end
end L2

namespace L2
open PySem PySem.Spec PyProof.Rows
structure Kn (P : Program) (w : World) (K : PySem.W.Frag) (mg : Str → Option Value) (base : Heap) (k : Nat) (x : Str) (ps : List Str) (sp : Sp) : Prop where
  ex : ∃ (f : Addr) (fd : FuncData), FnOk P w K mg base CX0 k f fd ps sp ∧ mg x = some (.ref f) ∧ PySem.W.keepIn K (.ref f) = true ∧ Binds K fd ps []
theorem pe_kn {X : Cx} {k : Nat} {x : Str} {ps : List Str} {sp : Sp} {p pos : Pos} {e : Expr} {es : List Expr} {t : TA} (h : Kn X.prog X.w X.K X.mg X.base k x ps sp) (hr : Room k X.A) (ha : PA X (e :: es) t) (hg : Gl X x := by rfl)
    (hdb : (x == ("__debug__" : Str)) = false := by decide) (he : starEach (e :: es) X.env = (false, eval e X.env) :: starEach es X.env := by rfl) (hpl : (backTo pos (starEach es X.env)).any (·.1) = false := by rfl) :
    PE X (.Call (.Name x p) (e :: es) [] pos) (tCall sp [] E0 t) := by
  obtain ⟨f, fd, F, hm, hk, hb⟩ := h.ex
  exact pe_call F hr hg hm hk hb .nil pass0 ha hdb he hpl
theorem pt_call {X : Cx} {f : Expr} {es : List Expr} {ks : List Keyword} {pos : Pos} {t : TE} (h : PE X (.Call f es ks pos) t) : PT X (.Call f es ks pos) (tB t) := pt_val h
structure DefAt (K : PySem.W.Frag) (mg : Str → Option Value) (x : Str) (st : Stmt) (ps : List Str) : Prop where
  ex : ∃ (f : Addr) (fd : FuncData), Fun K x x st f fd ∧ mg x = some (.ref f) ∧ Binds K fd ps []
theorem DefAt.kn {P : Program} {w : World} {K : PySem.W.Frag} {mg : Str → Option Value} {base : Heap} {k : Nat} {x : Str} {st : Stmt} {N ps : List Str} {sp : Sp} (D : DefAt K mg x st ps) (S : FnScope N ps (defScope st)) (len : ∀ vs H Q E, sp vs H Q E → vs.length = ps.length)
    (hbody : ∀ (f : Addr) (cdv : Value) (A : Around) (outer : List Env) (s : Shared) (H : Hp) (vs : List V) (Q : VK) (E : XK), Room k (A.deeper (envOfC x (defScope st) s.heap.objs.size f cdv)) → sp vs H Q E →
      ∃ t, PSs (cxOf CX0 P w K mg base N x (defScope st) f cdv A outer s H E).nox (defBody st) t ∧ t { nx := fun _ H' => Q .non H', rt := Q } (start N vs) H) : Kn P w K mg base (k + 1) x ps sp := by
  obtain ⟨f, fd, F, hm, hb⟩ := D.ex
  exact ⟨f, fd, F.ok S len fun cdv A outer s H vs Q E hr h => hbody f cdv A outer s H vs Q E hr h, hm, F.kp, hb⟩
def Free (mg : Str → Option Value) (l : List Str) : Prop := ∀ x ∈ l, mg x = none

inductive Dat (H : Hp) : V → String → Prop where
  | non : Dat H .non "NoneType"
  | bl (b : Bool) : Dat H (.bl b) "bool"
  | int (i : Int) : Dat H (.int i) "int"
  | str (x : Str) : Dat H (.str x) "str"
  | lst {a : Addr} {xs : List V} (h : H a = some (.lst xs)) : Dat H (.ref a) "list"
  | tup {a : Addr} {xs : List V} (h : H a = some (.tup xs)) : Dat H (.ref a) "tuple"
  | dK {a : Addr} {kvs : List (Key × V)} (h : H a = some (.dK kvs)) : Dat H (.ref a) "dict"
theorem Dat.ty {K : PySem.W.Frag} {H : Hp} {x : V} {T : String} (h : Dat H x T) : TyOf K H x (.type T) := by
  cases h with
  | non => exact .non
  | bl b => exact .bl b
  | int i => exact .int i
  | str z => exact .str z
  | lst e => exact .lst e
  | tup e => exact .tup e
  | dK e => exact .dK e
theorem Dat.mem {H : Hp} {x : V} {T : String} (h : Dat H x T) : T ∈ ["NoneType", "bool", "int", "str", "list", "tuple", "dict"] := by
  cases h <;> simp
def kitB (t T : String) : Bool := t == T || (t == "bool" && T == "int")
theorem kit_of (K : PySem.W.Frag) {t T : String} (h : t ∈ ["NoneType", "bool", "int", "str", "list", "tuple", "dict"]) (h' : T ∈ ["int", "bool", "tuple", "list", "str", "dict"]) : PySem.W.kitOne K (.type t) (.type T) = some (kitB t T) := by
  simp only [List.mem_cons, List.not_mem_nil, or_false] at h h'
  rcases h with rfl | rfl | rfl | rfl | rfl | rfl | rfl <;> rcases h' with rfl | rfl | rfl | rfl | rfl | rfl <;> kernel_rfl
theorem call_isi {X : Cx} : CallR X (.builtin "isinstance") (fun xs H Q => ∃ x T T', xs = [x, .ty T] ∧ Dat H x T' ∧ T ∈ ["int", "bool", "tuple", "list", "str", "dict"] ∧ Q (.bl (kitB T' T)) H) := by
  intro pins s σ H xs us Q I r h
  obtain ⟨x, T, T', e, d, m, q⟩ := h
  exact call_isinst pins s σ H xs us Q I r ⟨x, T, .type T', _, e, d.ty, kit_of X.K d.mem m, q⟩
theorem boot_isi : bootBuiltins "isinstance" = some (.builtin "isinstance") := by decide +kernel
theorem boot_tint : bootBuiltins "int" = some (.type "int") := by decide +kernel
theorem boot_tbool : bootBuiltins "bool" = some (.type "bool") := by decide +kernel
theorem boot_ttuple : bootBuiltins "tuple" = some (.type "tuple") := by decide +kernel
theorem boot_fmax : bootBuiltins "max" = some (.builtin "max") := by decide +kernel
theorem Paired.get' {α β : Type} {F : α → β → Prop} : ∀ {l : List α} {r : List β} {i : Nat} {x : α}, Paired F l r → l[i]? = some x → ∃ y, r[i]? = some y ∧ F x y
  | _, _, _, _, .nil, e => by simp at e
  | _, _, 0, _, .cons h _, e => by
    simp at e
    subst e
    exact ⟨_, rfl, h⟩
  | _, _, i + 1, x, .cons _ t, e => by
    obtain ⟨y, h1, h2⟩ := Paired.get' (i := i) (x := x) t (by simpa using e)
    exact ⟨y, by simpa using h1, h2⟩
def isI : V → Bool
  | .int _ => true
  | _ => false
end L2

namespace L2
open PySem PySem.Spec PyProof.Rows
def Wn (n : Nat) (Pv : Nat → List V → Hp → Prop) (i m : Nat) (zs : List V) (H : Hp) : Prop := m = n - i ∧ i ≤ n ∧ Pv i zs H
theorem nx {n i : Nat} {Pv : Nat → List V → Hp → Prop} {zs : List V} {H : Hp} (hi : i < n) (h : Pv (i + 1) zs H) : ∃ m', m' < n - i ∧ Wn n Pv (i + 1) m' zs H := ⟨n - (i + 1), by omega, rfl, hi, h⟩
section
variable {K : PySem.W.Frag} {g : TG} {tc : TT} {te : TE} {σ : St} {H : Hp} {R : List V → Hp → Prop}
theorem lc_by {J : It} (n : Nat) (Pv : Nat → List V → Hp → Prop) (h0 : Pv 0 [] H) (stop : ∀ zs H, Pv n zs H → J.stop n H ∧ zs.length ≤ sizeLine ∧ R zs H)
    (go : ∀ i zs H, i < n → Pv i zs H → J.go i H ∧ zs.length ≤ sizeLine ∧ ∀ x H', J.yld i H x H' → g x σ H' fun σ2 H2 => tc σ2 H2 fun b H3 =>
      if b = true then te σ2 H3 fun y H4 => ∃ m', m' < n - i ∧ Wn n Pv (i + 1) m' (zs ++ [y]) H4 else ∃ m', m' < n - i ∧ Wn n Pv (i + 1) m' zs H3) :
    ∃ W : Nat → Nat → List V → Hp → Prop, (∃ m, W 0 m [] H) ∧ ∀ i m ys H, W i m ys H → (J.stop i H ∧ ys.length ≤ sizeLine ∧ R ys H) ∨
      (J.go i H ∧ ys.length ≤ sizeLine ∧ ∀ x H', J.yld i H x H' → g x σ H' fun σ2 H2 => tc σ2 H2 fun b H3 =>
        if b = true then te σ2 H3 fun y H4 => ∃ m', m' < m ∧ W (i + 1) m' (ys ++ [y]) H4 else ∃ m', m' < m ∧ W (i + 1) m' ys H3) := by
  refine ⟨Wn n Pv, ⟨n, rfl, Nat.zero_le _, h0⟩, ?_⟩
  rintro i m ys H ⟨rfl, hi, p⟩
  by_cases hlt : i < n
  · exact .inr (go i ys H hlt p)
  · have e : i = n := by omega
    subst e
    exact .inl (stop ys H p)
theorem lc_tup {a : Addr} {xs : List V} (Pv : Nat → List V → Hp → Prop) (h0 : Pv 0 [] H) (hl : ∀ i zs H, i ≤ xs.length → Pv i zs H → SqT K H a xs ∧ zs.length ≤ sizeLine) (hd : ∀ zs H, Pv xs.length zs H → R zs H)
    (hs : ∀ i x zs H, xs[i]? = some x → i < xs.length → Pv i zs H → g x σ H fun σ2 H2 => tc σ2 H2 fun b H3 =>
      if b = true then te σ2 H3 fun y H4 => ∃ m', m' < xs.length - i ∧ Wn xs.length Pv (i + 1) m' (zs ++ [y]) H4 else ∃ m', m' < xs.length - i ∧ Wn xs.length Pv (i + 1) m' zs H3) :
    ∃ W : Nat → Nat → List V → Hp → Prop, (∃ m, W 0 m [] H) ∧ ∀ i m ys H, W i m ys H → ((Itt K a).stop i H ∧ ys.length ≤ sizeLine ∧ R ys H) ∨
      ((Itt K a).go i H ∧ ys.length ≤ sizeLine ∧ ∀ x H', (Itt K a).yld i H x H' → g x σ H' fun σ2 H2 => tc σ2 H2 fun b H3 =>
        if b = true then te σ2 H3 fun y H4 => ∃ m', m' < m ∧ W (i + 1) m' (ys ++ [y]) H4 else ∃ m', m' < m ∧ W (i + 1) m' ys H3) := by
  refine lc_by xs.length Pv h0 (fun zs H p => ?_) (fun i zs H hi p => ?_)
  · obtain ⟨q, z⟩ := hl _ zs H (Nat.le_refl _) p
    exact ⟨⟨xs, q, Nat.le_refl _⟩, z, hd zs H p⟩
  · obtain ⟨q, z⟩ := hl i zs H (Nat.le_of_lt hi) p
    refine ⟨⟨xs, xs[i], q, by simp [hi]⟩, z, fun x H' y => ?_⟩
    obtain ⟨e, y⟩ := y
    subst e
    exact hs i x zs _ (y xs q) hi p
theorem lc_range {lo : Int} {n : Nat} (Pv : Nat → List V → Hp → Prop) (h0 : Pv 0 [] H) (hl : ∀ i zs H, i ≤ n → Pv i zs H → zs.length ≤ sizeLine) (hd : ∀ zs H, Pv n zs H → R zs H)
    (hs : ∀ i zs H, i < n → Pv i zs H → g (.int (lo + i)) σ H fun σ2 H2 => tc σ2 H2 fun b H3 =>
      if b = true then te σ2 H3 fun y H4 => ∃ m', m' < n - i ∧ Wn n Pv (i + 1) m' (zs ++ [y]) H4 else ∃ m', m' < n - i ∧ Wn n Pv (i + 1) m' zs H3) :
    ∃ W : Nat → Nat → List V → Hp → Prop, (∃ m, W 0 m [] H) ∧ ∀ i m ys H, W i m ys H → ((Itr lo n).stop i H ∧ ys.length ≤ sizeLine ∧ R ys H) ∨
      ((Itr lo n).go i H ∧ ys.length ≤ sizeLine ∧ ∀ x H', (Itr lo n).yld i H x H' → g x σ H' fun σ2 H2 => tc σ2 H2 fun b H3 =>
        if b = true then te σ2 H3 fun y H4 => ∃ m', m' < m ∧ W (i + 1) m' (ys ++ [y]) H4 else ∃ m', m' < m ∧ W (i + 1) m' ys H3) := by
  refine lc_by n Pv h0 (fun zs H p => ⟨Nat.le_refl _, hl _ zs H (Nat.le_refl _) p, hd zs H p⟩) (fun i zs H hi p => ⟨hi, hl i zs H (Nat.le_of_lt hi) p, fun x H' y => ?_⟩)
  obtain ⟨e, y⟩ := y
  subst e y
  exact hs i zs _ hi p
end
section
variable {K : PySem.W.Frag} {g : TG} {te : TE} {σ : St} {H : Hp} {R : List V → Hp → Prop}
end
theorem take_snoc {α : Type} (l : List α) (i : Nat) (x : α) (h : l[i]? = some x) : l.take (i + 1) = l.take i ++ [x] := by
  rw [List.take_add_one, h]
  rfl
end L2

namespace L2
open PySem PySem.Calls PySem.Spec PyProof.Rows
section
variable {prog : Program} {w : World} {A : Around} {E : Value → Shared → Prop} {s : Shared} {d it : Addr} {es : Array DictEntry} {ep i : Nat}
end
end L2

namespace Tim
open PySem PyProof.Rows
section
variable {prog : Program} {w : World} {A : Around} {E : Value → Shared → Prop} {s : Shared} {κ : SortKind} {a0 : Array Keyed}
section
variable {a b out : Array Keyed} {ia ib : Nat}
end
section
variable {a b out : Array Keyed} {na nb : Nat}
end
end
end Tim

namespace L2
open PySem PySem.Calls PySem.Spec PyProof.Rows
section
variable {prog : Program} {w : World} {A : Around} {E : Value → Shared → Prop} {s : Shared}
end
section
variable {prog : Program} {w : World} {A : Around} {E : Value → Shared → Prop} {s : Shared}
end
theorem ObjOk.there {P : Program} {w : World} {H : Hp} {h : Heap} {a : Addr} {o : HO} (x : ObjOk P w H h a o) : ∃ ob, h.get? a = some ob := by
  cases o with
  | lst xs => obtain ⟨_, _, _, _, e⟩ := x; exact ⟨_, e⟩
  | tup xs => obtain ⟨_, _, _, ob, e, _⟩ := x; exact ⟨_, e⟩
  | dK kvs => obtain ⟨_, _, _, _, ob, _, _, e, _⟩ := x; exact ⟨_, e⟩
  | dT kvs => obtain ⟨_, _, _, _, ob, _, _, e, _⟩ := x; exact ⟨_, e⟩
  | set S n => obtain ⟨ob, _, _, _, e, _⟩ := x; exact ⟨_, e⟩
  | ins C dx fs => obtain ⟨_, _, _, e, _⟩ := x; exact ⟨_, e⟩
  | own y => exact x
  | xd fs => obtain ⟨_, ⟨_, _, _, e, _⟩, _⟩ := x; exact ⟨_, e⟩
  | rng lo hi => obtain ⟨_, _, _, e⟩ := x; exact ⟨_, e⟩
  | frz ob u => exact ⟨_, x.1⟩
  | tbl ps => exact ⟨_, x⟩
  | met f y => exact ⟨_, x⟩
  | ext φ => exact x.2.1
section
variable {X : Cx}
end
end L2

namespace L2
open PySem PySem.Calls PySem.Spec PyProof.Rows
section
variable {X : Cx}
end
end L2

namespace L2
open PySem PySem.Spec PyProof.Rows PySem.AutoSeq1
section
variable {X : Cx} {es : List Expr} {kt : Nat} {tp : Pos}
end
section
variable {K : PySem.W.Frag} {g : TG} {tc : TT} {te : TE} {σ : St} {H : Hp} {R : List V → Hp → Prop}
end
end L2

namespace L2
open PySem PySem.Calls PySem.Spec PyProof.Rows
section
variable {X : Cx}
end
end L2

namespace L2
open PySem PySem.Calls PySem.Spec PyProof.Rows
section
variable {X : Cx}
end
end L2

namespace L2
open PySem PySem.Calls PySem.Spec PyProof.Rows
section
variable {prog : Program} {w : World} {A : Around} {E : Value → Shared → Prop} {s : Shared}
end
section
variable {X : Cx}
end
end L2

namespace L2
open PySem PySem.Calls PySem.Spec PyProof.Rows
section
variable {X : Cx}
end
end L2

namespace L2
open PySem PySem.Calls PySem.Spec PyProof.Rows PySem.W
abbrev excObj (C t : Addr) : Obj := { cls := .ref C, data := .fields #[.ref t, .none, .none, .none, .bool false, .none] }
abbrev argsTup (rest : List Value) : Obj := { cls := .type "tuple", data := .seq rest.toArray }
structure XCls (h : Heap) (C : Addr) (bm : List Value) : Prop where
  ex : ∃ nm q N bs hdct sn sub ab col dd k0 k1 k2 k3 k5, h.get? C = some (excClassObj nm q C N bs bm hdct sn sub ab col dd k0 k1 k2 k3 k5 "ValueError.__new__")
  hasV : bm.contains (.type "ValueError") = true
  hasE : bm.contains (.type "BaseException") = true
  noA : bm.contains (.type "AttributeError") = false
  noN : bm.contains (.type "NameError") = false
section
variable {prog : Program} {w : World} {A : Around} {R : Result → Shared → Prop} {h : Heap} {g : Array GenState} {d : Drawn} {t : Nat} {os : OsState} {C f : Addr} {bm : List Value}
theorem cont_cons {a : Addr} {l : List Value} {T : String} {b : Bool} (h : l.contains (.type T) = b) : (Value.ref a :: l).contains (.type T) = b := by
  rw [List.contains_cons, h]
  rfl
theorem exc_new {rest : List Value} (X : XCls h C bm) (hz : rest.length ≤ sizeLine) (q : R (.ok (.ret (.ref (h.objs.size + 1)))) ⟨(h.push (argsTup rest)).push (excObj C h.objs.size), g, d, t, os⟩) :
    codeAny (model prog w) A (.call (.builtin "ValueError.__new__") ⟨.ref C :: rest, []⟩) R ⟨h, g, d, t, os⟩ := by
  have F := PySem.F.excBase_ValueError
  obtain ⟨⟨nm, qn, N, bs, hd, sn, sub, ab, col, dd, k0, k1, k2, k3, k5, hC⟩, a1, a2, a3, a4⟩ := X
  have hV := cont_cons (a := C) a1
  have hA := cont_cons (a := C) a3
  have hN := cont_cons (a := C) a4
  have hstar := F.noStar
  have hends := F.ends
  have chk : ∀ {M : Model} {A : Around} {E : Value → Shared → Prop} {Q : Unit → Shared → Prop}, Q () ⟨h, g, d, t, os⟩ → wpAny M A (checkBuiltinCall "ValueError.__new__" ⟨.ref C :: rest, []⟩) Q E ⟨h, g, d, t, os⟩ := by
    intro M A E Q hq
    simp only [checkBuiltinCall, F.newKind, F.newSplit, F.newRow]
    repeat
      first
        | refine wpAny_loadPart_at hC ?_
        | (refine wpAny_isSubtype_exc hC ?_; rw [hV])
        | refine wpAny_staticBase_exc hC ?_
        | refine wpAny_madeBy_exc hC ?_
        | simp only [bne_self_eq_false, Bool.false_eq_true, if_false]
        | wp_step
    exact hq
  refine codeAny_call_builtin_code (Code.quiet_builtin _ F.quiet) (chk ?_)
  refine codeAny_builtinAt F.entry ?_
  unfold Builtin.«BaseException.__new__»
  refine PySem.wpAt_bind ?_
  show PySem.wpAt _ _ _ (stack >>= _) _ _ _
  refine PySem.wpAt_bind (PySem.wpAt_stack fun p below => PySem.wpAt_of_wpAny ?_)
  wp_walk
  refine PySem.wpAt_of_wpAny ?_
  rw [F.owner]
  repeat
    first
      | with_reducible refine wpAny_madeHere_exc F.canon hC ?_
      | with_reducible refine wpAny_loadPart_at hC ?_
      | (with_reducible refine wpAny_isSubtype_exc hC ?_; first | rw [hV] | rw [hA] | rw [hN])
      | wp_step
  show R _ _
  rw [Heap.size_push]
  exact q
theorem exc_make {rest : List Value} (X : XCls h C bm) (hz : rest.length ≤ sizeLine) (hi : Looks (model prog w) h (typeLookup (.ref C) "__init__") (some (.ref f))) (hb : ∀ self, Looks (model prog w) h (bindSpecial (.ref f) self) (.ref f, [self]))
    (q : codeAny (model prog w) (A.under (.builtin "type.__call__" ⟨.ref C :: rest, []⟩)) (.call (.ref f) ⟨.ref (h.objs.size + 1) :: rest, []⟩) (InitBack (h.objs.size + 1) R) ⟨(h.push (argsTup rest)).push (excObj C h.objs.size), g, d, t, os⟩) :
    codeAny (model prog w) A (.call (.ref C) ⟨rest, []⟩) R ⟨h, g, d, t, os⟩ := by
  have X' := X
  obtain ⟨⟨nm, qn, N, bs, hd, sn, sub, ab, col, dd, k0, k1, k2, k3, k5, hC⟩, a1, a2, a3, a4⟩ := X
  have f1 := tc_lookup
  have f2 := tc_bind (.ref C)
  have hT : (⟨h, g, d, t, os⟩ : Shared).TypeIs (.ref C) "type" := ⟨_, hC, rfl⟩
  refine codeAny_of_tree ?_
  show wpAny _ _ (callAny (.ref C) _) _ _ _
  repeat (any_goals (first | assumption | with_reducible refine wpAny_loadPart_at hC ?_ | wp_step))
  refine ⟨rfl, ?_⟩
  refine codeAny_call_builtin_at (Code.quiet_builtin _ (by decide +kernel)) entry_typeCall (wpAny_check_type_call_sub hC ?_)
  repeat
    first
      | with_reducible refine wpAny_loadPart_at hC ?_
      | with_reducible refine wpAny_madeBy_exc hC ?_
      | wp_step
  refine exc_new (rest := rest) X' hz ?_
  have k : ∀ b o, h.get? b = some o → ((h.push (argsTup rest)).push (excObj C h.objs.size)).get? b = some o := fun b o e => Heap.get?_push_of_some _ (Heap.get?_push_of_some _ e)
  have hx : ((h.push (argsTup rest)).push (excObj C h.objs.size)).get? (h.objs.size + 1) = some (excObj C h.objs.size) := by heap_get
  have t1 : Looks (model prog w) ((h.push (argsTup rest)).push (excObj C h.objs.size)) (typeOf (.ref (h.objs.size + 1))) (.ref C) := (Looks.ld hx).andThen .now
  have s1 : Looks (model prog w) ((h.push (argsTup rest)).push (excObj C h.objs.size)) (isSubtype (.ref C) (.ref C)) true := fun A Q E s kk hq => by
    obtain ⟨hh, g, d, t, os⟩ := s
    refine wpAny_isSubtype_exc (kk _ _ (k _ _ hC)) ?_
    rw [show (Value.ref C :: bm).contains (Value.ref C) = true by simp]
    exact hq
  have i1 := hi.keeps k
  have b1 := (hb (.ref (h.objs.size + 1))).keeps k
  show wpAny _ _ _ _ _ _
  unfold isInstance callSpecial? specialOf
  repeat (first | with_reducible refine wpAny_call ?_ | lk)
  refine codeAny_mono q fun r s' z => ?_
  rcases r with e | (v | _ | _ | _) <;> first | exact z | exact z.elim | skip
  obtain ⟨rfl, z⟩ := z
  exact wpAny_pure (wpAny_pure z)
theorem exc_init (X : XCls h C bm) {e t0 : Addr} {rest : List Value} {Q : Value → Shared → Prop} {E : Value → Shared → Prop} (he : h.get? e = some (excObj C t0)) (hz : rest.length ≤ sizeLine)
    (q : ∀ h', h'.get? e = some (excObj C h.objs.size) → (∀ b o, b ≠ e → h.get? b = some o → h'.get? b = some o) → Q .none ⟨h', g, d, t, os⟩) :
    wpAny (model prog w) A (call (.builtin "ValueError.__init__") (.ref e :: rest)) Q E ⟨h, g, d, t, os⟩ := by
  have F := PySem.F.excBase_ValueError
  obtain ⟨⟨nm, qn, N, bs, hd, sn, sub, ab, col, dd, k0, k1, k2, k3, k5, hC⟩, a1, a2, a3, a4⟩ := X
  have hV := cont_cons (a := C) a1
  have hshort := F.noStar
  have chk : ∀ {M : Model} {A : Around} {E : Value → Shared → Prop} {Q : Unit → Shared → Prop}, Q () ⟨h, g, d, t, os⟩ → wpAny M A (checkBuiltinCall "ValueError.__init__" ⟨.ref e :: rest, []⟩) Q E ⟨h, g, d, t, os⟩ := by
    intro M A E Q hq
    simp only [checkBuiltinCall, F.initKind, F.initSplit, F.initRow]
    repeat
      first
        | with_reducible refine wpAny_loadPart_at he ?_
        | with_reducible refine wpAny_loadPart_at hC ?_
        | (with_reducible refine wpAny_isSubtype_exc hC ?_; rw [hV])
        | wp_step
    refine wpAny_onRaise ?_
    rw [show ∀ (a b : String) (n : Nat), Bind.check ⟨.positional, "*", "ValueError", .self, [⟨"args", .varPos, false⟩]⟩ a b n (List.map (fun x => x.fst) ({ pos := Value.ref e :: rest } : Args).kw) = pure () from
      fun a b n => check_star_args _ _ _ _ _ _]
    exact wpAny_pure hq
  refine wpAny_call (codeAny_call_builtin F.init.plain F.initEntry (chk ?_))
  wp_walk
  show Q .none _
  have hp : (h.push { cls := Value.type "tuple", data := Data.seq rest.toArray }).get? e = some (excObj C t0) := Heap.get?_push_of_some _ he
  refine q _ ?_ fun b o hb ho => ?_
  · rw [Heap.get?_update_self _ hp rfl]
    rfl
  · rw [Heap.get?_update_other _ _ (Ne.symm hb)]
    exact Heap.get?_push_of_some _ ho
end
end L2

namespace L2
open PySem PySem.Calls PySem.Spec PyProof.Rows PySem.W
structure XIn (K : Frag) (C : Addr) (bm : List Value) : Prop where
  ex : ∃ nm q N bs hdct sn sub ab col dd k0 k1 k2 k3 k5, K.lookup C = some (excClassObj nm q C N bs bm hdct sn sub ab col dd k0 k1 k2 k3 k5 "ValueError.__new__")
  hasV : bm.contains (.type "ValueError") = true
  hasE : bm.contains (.type "BaseException") = true
  noA : bm.contains (.type "AttributeError") = false
  noN : bm.contains (.type "NameError") = false
theorem XIn.at {K : Frag} {C : Addr} {bm : List Value} {h : Heap} (x : XIn K C bm) (k : K.In h) : XCls h C bm := by
  obtain ⟨⟨nm, q, N, bs, hd, sn, sub, ab, col, dd, k0, k1, k2, k3, k5, e⟩, a1, a2, a3, a4⟩ := x
  exact ⟨⟨nm, q, N, bs, hd, sn, sub, ab, col, dd, k0, k1, k2, k3, k5, k _ _ e⟩, a1, a2, a3, a4⟩
def isX (C x : Addr) : HO := .ext fun h => ∃ t, h.get? x = some (excObj C t)
theorem isX_ok {P : Program} {w : World} {H : Hp} {h : Heap} {C x t : Addr} (e : h.get? x = some (excObj C t)) : ObjOk P w H h x (isX C x) := ⟨⟨t, e⟩, ⟨_, e⟩, fun _ _ ⟨t, e⟩ k => ⟨t, k _ e⟩⟩
section
variable {X : Cx} {pins : List (Addr × Obj)} {σ : St} {H : Hp} {s : Shared}
theorem Inv.isX (I : Inv X pins σ H s) {C x : Addr} (e : H x = some (L2.isX C x)) : ∃ t, s.heap.get? x = some (excObj C t) := (I.hok x _ e).1
theorem boot_VE : bootBuiltins "ValueError" = some (.type "ValueError") := by decide +kernel
theorem upd_id {H : Hp} {a : Addr} {o : HO} (e : H a = some o) : upd H a o = H := by
  funext b
  by_cases h : b = a
  · subst h
    rw [upd_same, e]
  · rw [upd_ne h]
variable {e : Expr} {es : List Expr} {p apos pos : Pos} {t : TA} {C : Addr} {bm : List Value} {pl : Sem Bool}
theorem pe_vinit (hg : Gl X "ValueError") (hm : X.mg "ValueError" = none) (hC : XIn X.K C bm) (ha : PA X (e :: es) t) (hs : starEach (e :: es) X.env = (false, eval e X.env) :: starEach es X.env := by rfl) (hpl : (backTo pos (starEach es X.env)).any (·.1) = false := by rfl)
    (ht : eval (.Call (.Attribute (.Name "ValueError" p) "__init__" apos) (e :: es) [] pos) X.env = (do
      let ov ← eval (.Name "ValueError" p) X.env
      standAt apos.atName
      let (f, first) ← holding [ov] (getMethod ov "__init__" pl)
      callWith pos f first (backTo pos (starEach (e :: es) X.env)) (backToKw pos (keywordEach [] X.env))) := by rfl) :
    PE X (.Call (.Attribute (.Name "ValueError" p) "__init__" apos) (e :: es) [] pos) (fun σ H Q => t σ H fun vs H1 => ∃ (x : Addr) (us : List V), vs = .ref x :: us ∧ us.length ≤ 1000 ∧ H1 x = some (L2.isX C x) ∧ Q .non H1) := by
  intro pins s σ H Q I h
  refine methodCall_KW (pl := pl) (ld_blt I hg hm boot_VE ?_) ht
  obtain ⟨m, F⟩ := I.fr
  refine method_type (K := X.K) (T := "ValueError") (v := .builtin "ValueError.__init__") F I.ok.mod.kin ?_ ?_ ?_ ?_ ?_
  · rfl
  · decide +kernel
  · rfl
  · rfl
  refine PyProof.Rows.callWith_builtin1 (thn (ha pos pins _ σ H _ (I.tok _) h) fun us s1 ⟨vs, H1, I1, r, q⟩ => ?_) hs hpl
  obtain ⟨x, ws, rfl, hl, hx, q⟩ := q
  cases r with
  | cons r rr =>
    cases r
    obtain ⟨t0, he⟩ := I1.isX hx
    obtain ⟨hp, g, d, tk, os⟩ := s1
    refine exc_init (hC.at I1.kIn) he (Nat.le_of_lt (small1000 (by rw [← rr.length]; exact hl))) fun h' e' k => ?_
    have I2 := I1.write (x := x) (e := x) (o := L2.isX C x) (t' := tk) (by rw [hx]; trivial) (.inl rfl) k ⟨_, e'⟩ (isX_ok e')
    rw [upd_id hx] at I2
    exact ⟨.non, _, I2, rfl, q⟩
variable {CX : CXT} {k : Nat} {f : Addr} {fd : FuncData} {ps : List Str} {sp : Sp} {E : XK} {x : Str}
structure CMeth (K : Frag) (C : Addr) (m : Str) (f : Addr) : Prop where
  ga : specialIn K (.ref C) "__getattribute__" = some (some (.builtin "type.__getattribute__"))
  rd : readsIn K C (.type "type") = true
  fc : findCls K (.ref C) (.type "type") m = some (.val (.ref f))
  kp : keepIn K (.ref f) = true
theorem pe_cmeth {m : Str} (hg : Gl X x) (hm : X.mg x = some (.ref C)) (M : CMeth X.K C m f) (F : FnOk X.prog X.w X.K X.mg X.base CX k f fd ps sp) (hr : Room k X.A) (hb : Binds X.K fd ps []) (hx : Passes CX X E) (ha : PA X (e :: es) t)
    (hd : (x == ("__debug__" : Str)) = false := by decide) (hs : starEach (e :: es) X.env = (false, eval e X.env) :: starEach es X.env := by rfl) (hpl : (backTo pos (starEach es X.env)).any (·.1) = false := by rfl)
    (ht : eval (.Call (.Attribute (.Name x p) m apos) (e :: es) [] pos) X.env = (do
      let ov ← eval (.Name x p) X.env
      standAt apos.atName
      let (f, first) ← holding [ov] (getMethod ov m pl)
      callWith pos f first (backTo pos (starEach (e :: es) X.env)) (backToKw pos (keywordEach [] X.env))) := by rfl) :
    PE X (.Call (.Attribute (.Name x p) m apos) (e :: es) [] pos) (tCall sp [] E t) := by
  intro pins s σ H Q I h
  refine methodCall_KW (pl := pl) (ld_glob I hg hm ?_ hd) ht
  refine method_cls (K := X.K) I.kIn M.ga (cls_value (K := X.K) I.kIn M.rd M.fc rfl ?_)
  refine callWith_K (h₀ := X.base) (K := X.K) I.ok.mod.kin M.kp (thn (ha pos pins _ σ H _ (I.tok _) h) fun us s1 ⟨vs, H1, I1, r, q⟩ => ⟨I1.kIn, ?_⟩) hs hpl
  exact run_fn (us := us) (vs := vs) F hr hb .nil hx I1 r q
end
end L2

namespace L2
open PySem PySem.Calls PySem.Spec PyProof.Rows PySem.W
section
variable {X : Cx} {pins : List (Addr × Obj)} {σ : St} {H : Hp} {s : Shared} {CX : CXT} {k : Nat} {f C : Addr} {fd : FuncData} {ps : List Str} {sp : Sp} {E : XK} {x : Str} {p pos : Pos} {e : Expr} {es : List Expr} {t : TA} {bm : List Value}
structure XMk (K : Frag) (C f : Addr) (bm : List Value) : Prop extends XIn K C bm where
  init : findIn K (.ref C) "__init__" = some (some (.ref f))
  fn : isFn K (.ref f) = true
  kp : keepIn K (.ref C) = true
def tXMake (n : Nat) (C : Addr) (sp : Sp) (E : XK) (t : TA) : TE := fun σ H Q => t σ H fun vs H1 => vs.length ≤ 1000 ∧ ∀ y, H1 y = none → n ≤ y → sp (.ref y :: vs) (upd H1 y (isX C y)) (fun v H2 => v = .non ∧ Q (.ref y) H2) E
theorem run_xmake {Q : VK} {us : List Value} {vs : List V} (M : XMk X.K C f bm) (F : FnOk X.prog X.w X.K X.mg X.base CX k f fd ps sp) (hr : Room (k + 1) X.A) (hb : Binds X.K fd ps []) (hx : Passes CX X E) (I : Inv X pins σ H s) (r : Vals vs us) (hl : vs.length ≤ 1000)
    (h : ∀ y, H y = none → X.s₀.heap.objs.size ≤ y → sp (.ref y :: vs) (upd H y (isX C y)) (fun v H2 => v = .non ∧ Q (.ref y) H2) E) : wpAny (model X.prog X.w) X.A (call (.ref C) us) (EP X pins σ Q) X.xe s := by
  have hq := h (s.heap.objs.size + 1) (I.hok.fresh (Nat.le_succ _)) (Nat.le_succ_of_le I.sz)
  have k2 : ∀ b o, s.heap.get? b = some o → ((s.heap.push (argsTup us)).push (excObj C s.heap.objs.size)).get? b = some o := fun b o e => Heap.get?_push_of_some _ (Heap.get?_push_of_some _ e)
  have hx2 : ((s.heap.push (argsTup us)).push (excObj C s.heap.objs.size)).get? (s.heap.objs.size + 1) = some (excObj C s.heap.objs.size) := by heap_get
  have I2 : Inv X pins σ (upd H (s.heap.objs.size + 1) (isX C (s.heap.objs.size + 1))) { s with heap := (s.heap.push (argsTup us)).push (excObj C s.heap.objs.size) } := I.laid (t' := s.toks) k2 (Nat.le_succ _) (isX_ok hx2)
  have r2 : Vals (V.ref (s.heap.objs.size + 1) :: vs) (Value.ref (s.heap.objs.size + 1) :: us) := .cons rfl r
  have hl2 : (Value.ref (s.heap.objs.size + 1) :: us).length = ps.length := by
    have e := r2.length
    rw [F.len _ _ _ _ hq] at e
    exact e.symm
  have hl3 : ((Value.ref (s.heap.objs.size + 1) :: us) ++ ([] : List Value)).length = ps.length := by
    rw [List.append_nil]
    exact hl2
  have hb2 := hb _ (Value.ref (s.heap.objs.size + 1) :: us) I2.kIn hl3
  rw [List.append_nil] at hb2
  have run := F.run _ X.stack _ _ ⟨Value.ref (s.heap.objs.size + 1) :: us, []⟩ (Value.ref (s.heap.objs.size + 1) :: us) _ _ E (hr.make C us []) (I2.env0.make C us []) hb2 r2 hq
  obtain ⟨hp, g, d, tk, os⟩ := s
  refine wpAny_call (exc_make (M.toXIn.at I.kIn) (Nat.le_of_lt (small1000 (by rw [← r.length]; exact hl))) (looks_findIn I.kIn M.init) (fun self => bind_fn I.kIn self (beq_iff_eq.mp M.fn)) (codeAny_mono run fun r s' hq' => ?_))
  cases r with
  | error e => exact hx pins σ _ _ e s' I2 hq'
  | ok fl =>
    cases fl with
    | ret u =>
      obtain ⟨v, H', I3, rv, ev, q3⟩ := I2.after hq'
      subst ev
      exact ⟨rv, ⟨V.ref (hp.objs.size + 1), H', I3, rfl, q3⟩⟩
    | next => exact False.elim hq'
    | brk => exact False.elim hq'
    | cont => exact False.elim hq'
theorem pe_xmake (M : XMk X.K C f bm) (F : FnOk X.prog X.w X.K X.mg X.base CX k f fd ps sp) (hr : Room (k + 1) X.A) (hg : Gl X x) (hm : X.mg x = some (.ref C)) (hb : Binds X.K fd ps []) (hx : Passes CX X E)
    (ha : PA X (e :: es) t) (hdb : (x == ("__debug__" : Str)) = false := by decide) (he : starEach (e :: es) X.env = (false, eval e X.env) :: starEach es X.env := by rfl) (hpl : (backTo pos (starEach es X.env)).any (·.1) = false := by rfl) :
    PE X (.Call (.Name x p) (e :: es) [] pos) (tXMake X.s₀.heap.objs.size C sp E t) := by
  intro pins s σ H Q I h
  refine wpAny_Call_Name_kw (ld_glob I hg hm ?_ hdb)
  refine callWith_K (h₀ := X.base) I.ok.mod.kin M.kp (thn (ha pos pins s σ H _ I h) fun us s1 ⟨vs, H1, I1, r, hl, q⟩ => ⟨I1.kIn, ?_⟩) he hpl
  exact run_xmake M F hr hb hx I1 r hl q
theorem pe_xmake0 (M : XMk X.K C f bm) (F : FnOk X.prog X.w X.K X.mg X.base CX k f fd ps sp) (hr : Room (k + 1) X.A) (hg : Gl X x) (hm : X.mg x = some (.ref C)) (hb : Binds X.K fd ps []) (hx : Passes CX X E)
    (hdb : (x == ("__debug__" : Str)) = false := by decide) : PE X (.Call (.Name x p) [] [] pos) (tXMake X.s₀.heap.objs.size C sp E tNil) := by
  intro pins s σ H Q I h
  refine wpAny_Call_Name_kw (ld_glob I hg hm ?_ hdb)
  exact callWith_K0 I.kIn M.kp (run_xmake (us := []) (vs := []) M F hr hb hx I .nil (Nat.zero_le _) h.2)
end
end L2

namespace L2
open PySem PySem.Calls PySem.Spec PyProof.Rows PySem.W
def KD {α : Type} : Sem α → Prop
  | .pure _ => True
  | .raise _ => True
  | .unsupported _ => True
  | .finish _ => True
  | .rule _ k => KD (k ())
  | .at _ k => KD (k ())
  | .load _ _ k => ∀ o, KD (k o)
  | .update _ _ f k => (∀ o : Obj, (f o).cls = o.cls ∧ (f o).dict = o.dict ∧ (f o).isFreed = o.isFreed) ∧ KD (k ())
  | .loadIfAlive _ k => ∀ o, KD (k o)
  | .point _ k => KD (k ())
  | .alloc _ k => ∀ a, KD (k a)
  | .fresh k => ∀ t, KD (k t)
  | .ask k => ∀ t, KD (k t)
  | .stack k => ∀ l, KD (k l)
  | .handled _ k => ∀ v, KD (k v)
  | .register _ _ => False
  | .choose _ _ _ => False
  | .os _ _ _ => False
  | .call _ _ _ _ _ => False
  | .newGen _ _ => False
  | .genState _ _ => False
  | .resume _ _ _ _ => False
  | .yield _ _ _ _ => False
  | .fork _ _ => False
  | .thread _ => False
  | .await _ _ _ _ _ => False
def KeepD (h h' : Heap) : Prop := ∀ b o, h.get? b = some o → ∃ o', h'.get? b = some o' ∧ o'.cls = o.cls ∧ o'.dict = o.dict
theorem KeepD.refl (h : Heap) : KeepD h h := fun _ o e => ⟨o, e, rfl, rfl⟩
theorem KeepD.trans {h1 h2 h3 : Heap} (x : KeepD h1 h2) (y : KeepD h2 h3) : KeepD h1 h3 := fun b o e => by
  obtain ⟨o1, e1, a1, a2⟩ := x b o e
  obtain ⟨o2, e2, b1, b2⟩ := y b o1 e1
  exact ⟨o2, e2, b1.trans a1, b2.trans a2⟩
theorem KeepD.push {h : Heap} (o : Obj) : KeepD h (h.push o) := fun _ u e => ⟨u, Heap.get?_push_of_some o e, rfl, rfl⟩
theorem KeepD.upd {h : Heap} {a : Addr} {f : Obj → Obj} (hf : ∀ o : Obj, (f o).cls = o.cls ∧ (f o).dict = o.dict ∧ (f o).isFreed = o.isFreed) : KeepD h (h.update a f) := fun b o e => by
  by_cases hb : b = a
  · subst hb
    exact ⟨f o, Heap.get?_update_self f e ((hf o).2.2.trans (Heap.get?_some_iff.mp e).2), (hf o).1, (hf o).2.1⟩
  · exact ⟨o, (Heap.get?_update_other _ _ (Ne.symm hb)).trans e, rfl, rfl⟩
theorem kd_wp {α : Type} {M : Model} {Γ : PySem.Ctx} {h0 : Heap} {Q : α → Pos → Shared → Prop} {E : Value → Pos → Shared → Prop} (t : Sem α) : KD t → ∀ p s, KeepD h0 s.heap → Sem.wp M Γ t Q E p s → Sem.wp M Γ t (fun a p' s' => Q a p' s' ∧ KeepD h0 s'.heap) E p s := by
  induction t with
  | pure a =>
    intro _ p s k h
    rw [Sem.wp] at h ⊢
    exact ⟨h, k⟩
  | raise e =>
    intro _ p s k h
    rw [Sem.wp] at h ⊢
    exact h
  | unsupported w =>
    intro _ p s k h
    rw [Sem.wp] at h
    exact h.elim
  | finish w =>
    intro _ p s k h
    rw [Sem.wp] at h
    exact h.elim
  | rule tg k ih =>
    intro kd p s kk h
    rw [Sem.wp] at h ⊢
    exact ih () kd p s kk h
  | «at» p' k ih =>
    intro kd p s kk h
    rw [Sem.wp] at h ⊢
    exact ih () kd p' s kk h
  | load a part k ih =>
    intro kd p s kk h
    rw [Sem.wp] at h ⊢
    obtain ⟨o, e, h⟩ := h
    exact ⟨o, e, ih o (kd o) p s kk h⟩
  | update a part f k ih =>
    intro kd p s kk h
    rw [Sem.wp] at h ⊢
    exact ⟨h.1, ih () kd.2 p _ (kk.trans (KeepD.upd kd.1)) h.2⟩
  | alloc o k ih =>
    intro kd p s kk h
    rw [Sem.wp] at h ⊢
    exact ih _ (kd _) p _ (kk.trans (KeepD.push o)) h
  | loadIfAlive a k ih =>
    intro kd p s kk h
    rw [Sem.wp] at h ⊢
    exact ih _ (kd _) p s kk h
  | point l k ih =>
    intro kd p s kk h
    rw [Sem.wp] at h ⊢
    exact ih () kd p s kk h
  | fresh k ih =>
    intro kd p s kk h
    rw [Sem.wp] at h ⊢
    exact ih _ (kd _) p _ kk h
  | ask k ih =>
    intro kd p s kk h
    rw [Sem.wp] at h ⊢
    exact ih _ (kd _) p s kk h
  | stack k ih =>
    intro kd p s kk h
    rw [Sem.wp] at h ⊢
    exact ih _ (kd _) p s kk h
  | handled own k ih =>
    intro kd p s kk h
    rw [Sem.wp] at h ⊢
    exact ih _ (kd _) p s kk h
  | _ => intro kd; exact kd.elim
theorem wpAny_kd {α : Type} {M : Model} {A : Around} {t : Sem α} {Q : α → Shared → Prop} {E : Value → Shared → Prop} {s : Shared} (kd : KD t) (h : wpAny M A t Q E s) : wpAny M A t (fun a s' => Q a s' ∧ KeepD s.heap s'.heap) E s :=
  fun Γ p hΓ => kd_wp t kd p s (KeepD.refl _) (h Γ p hΓ)
theorem kd_bind {α β : Type} (m : Sem α) {f : α → Sem β} (hf : ∀ a, KD (f a)) : KD m → KD (m >>= f) := by
  show KD m → KD (Sem.bind m f)
  induction m with
  | pure a => intro _; exact hf a
  | raise e => intro _; trivial
  | unsupported w => intro _; trivial
  | finish w => intro _; trivial
  | rule tg k ih => intro kd; exact ih () kd
  | «at» p' k ih => intro kd; exact ih () kd
  | load a part k ih => intro kd o; exact ih o (kd o)
  | update a part f k ih => intro kd; exact ⟨kd.1, ih () kd.2⟩
  | alloc o k ih => intro kd a; exact ih a (kd a)
  | loadIfAlive a k ih => intro kd o; exact ih o (kd o)
  | point l k ih => intro kd; exact ih () kd
  | fresh k ih => intro kd o; exact ih o (kd o)
  | ask k ih => intro kd o; exact ih o (kd o)
  | stack k ih => intro kd o; exact ih o (kd o)
  | handled own k ih => intro kd o; exact ih o (kd o)
  | _ => intro kd; exact kd.elim
theorem kd_un {α : Type} (x : String) : KD (unsupported x : Sem α) := trivial
theorem kd_load (a : Addr) : KD (load a) := fun _ => trivial
theorem kd_map (f : Array Value → Array Value) (o : Obj) : (Obj.mapFields f o).cls = o.cls ∧ (Obj.mapFields f o).dict = o.dict ∧ (Obj.mapFields f o).isFreed = o.isFreed := by
  obtain ⟨c, d, dt, sl⟩ := o
  cases dt <;> exact ⟨rfl, rfl, rfl⟩
theorem kd_updateField (a : Addr) (i : Nat) (v : Value) : KD (updateField a i v) := by
  unfold updateField
  refine kd_bind _ (fun o => ?_) (kd_load a)
  split
  · split
    · exact ⟨kd_map _, trivial⟩
    · exact kd_un _
  · exact kd_un _
theorem kd_setField (v : Value) (i : Nat) (x : Value) : KD (setField v i x) := by
  unfold setField
  split
  · exact kd_updateField _ _ _
  · exact kd_un _
theorem kd_fieldsOf (v : Value) : KD (fieldsOf v) := by
  unfold fieldsOf
  split
  · refine kd_bind _ (fun o => ?_) (kd_load _)
    split
    · trivial
    · exact kd_un _
  · exact kd_un _
theorem kd_field (v : Value) (i : Nat) : KD (field v i) := by
  unfold field
  refine kd_bind _ (fun o => ?_) (kd_fieldsOf v)
  split
  · trivial
  · exact kd_un _
theorem kd_setFlight (e : Value) (f : Option Addr) : KD (setFlight e f) := by
  unfold setFlight
  refine kd_bind _ (fun o => ?_) (kd_field e 1)
  split
  · exact kd_setField _ _ _
  · trivial
theorem kd_stack : KD stack := fun _ => trivial
theorem kd_place (f : Addr) (b : Bool) : KD (entryPlaceOf f b) := by
  unfold entryPlaceOf
  refine kd_bind _ (fun o => ?_) kd_stack
  split <;> trivial
theorem kd_frameEnvs : KD frameEnvs := kd_bind _ (fun _ => trivial) kd_stack
theorem kd_under : KD underTheClaimsCaller := kd_bind _ (fun _ => trivial) kd_stack
theorem kd_import (env : Env) (outer : List Env) : KD (behindIsImport env outer) := by
  unfold behindIsImport
  split
  · trivial
  · split
    · trivial
    · exact kd_bind _ (fun _ => trivial) (kd_field _ _)
theorem kd_kept (env : Env) (b : Bool) (outer : List Env) : KD (keptBack env b outer) := by
  unfold keptBack
  split
  · split
    · trivial
    · exact kd_bind _ (fun _ => by split <;> trivial) kd_under
  · trivial
theorem kd_ready : ∀ l, KD (readyFrames l)
  | [] => trivial
  | env :: outer => by
    unfold readyFrames
    split
    · refine kd_bind _ (fun o => ?_) (kd_load _)
      split
      · trivial
      · refine kd_bind _ (fun b => ?_) (kd_import _ _)
        refine kd_bind _ (fun v => ?_) (kd_kept _ _ _)
        exact ⟨fun o => ⟨rfl, rfl, by obtain ⟨c, d, dt, sl⟩ := o; cases dt <;> rfl⟩, kd_ready outer⟩
    · exact kd_un _
theorem kd_frameOf (env : Env) : KD (PySem.frameOf env) := by
  unfold PySem.frameOf
  refine kd_bind _ (fun l => ?_) kd_frameEnvs
  refine kd_bind _ (fun r => ?_) ?_
  · split
    · trivial
    · exact kd_un _
  · unfold frameObject
    split
    · trivial
    · exact kd_bind _ (fun _ => trivial) (kd_ready _)
theorem kd_asIs (T : String) (d : Data) : KD (newObjAsIs (.type T) d) := fun _ => trivial
theorem kd_newEntry (a b c d e : Value) (l : List Value) : KD (EntryCells.newEntry a b c d e l) := by
  unfold EntryCells.newEntry newFields newObj
  dsimp only
  repeat' split
  all_goals first | exact kd_asIs _ _ | exact kd_bind _ (fun _ => kd_asIs _ _) (kd_un _)
theorem kd_note (e : Value) (env : Env) : KD (noteFrame e env) := by
  unfold noteFrame
  split
  · refine kd_bind _ (fun hd => ?_) (kd_field e 1)
    split
    · refine kd_bind _ (fun x => ?_) (kd_field _ _)
      split
      · trivial
      · refine kd_bind _ (fun _ => ?_) (kd_setField _ _ _)
        exact kd_bind _ (fun fr => kd_bind _ (fun pl => kd_bind _ (fun en => kd_setField _ _ _) (kd_newEntry _ _ _ _ _ _)) (kd_place _ _)) (kd_frameOf _)
    · exact kd_bind _ (fun fr => kd_bind _ (fun pl => kd_bind _ (fun en => kd_setField _ _ _) (kd_newEntry _ _ _ _ _ _)) (kd_place _ _)) (kd_frameOf _)
  · exact kd_un _
theorem kd_leaving (env : Env) (e : Value) : KD (leaving env e) := kd_bind _ (fun _ => kd_setFlight _ _) (kd_note _ _)
end L2

namespace L2
open PySem PySem.Calls PySem.Spec PyProof.Rows PySem.W
def isXo (C x : Addr) (dct : Option Addr) : HO := .ext fun h => ∃ t, h.get? x = some { cls := .ref C, dict := dct, data := .fields #[.ref t, .none, .none, .none, .bool false, .none] }
theorem isXo_ok {P : Program} {w : World} {H : Hp} {h : Heap} {C x t : Addr} {dct : Option Addr} (e : h.get? x = some { cls := .ref C, dict := dct, data := .fields #[.ref t, .none, .none, .none, .bool false, .none] }) : ObjOk P w H h x (isXo C x dct) := ⟨⟨t, e⟩, ⟨_, e⟩, fun _ _ ⟨t, e⟩ k => ⟨t, k _ e⟩⟩
theorem Inv.isXo {X : Cx} {pins : List (Addr × Obj)} {σ : St} {H : Hp} {s : Shared} (I : Inv X pins σ H s) {C x : Addr} {dct : Option Addr} (e : H x = some (L2.isXo C x dct)) : ∃ t, s.heap.get? x = some { cls := .ref C, dict := dct, data := .fields #[.ref t, .none, .none, .none, .bool false, .none] } := (I.hok x _ e).1
structure FlyX (P : Program) (w : World) (outer : List Env) (H H' : Hp) (s s' : Shared) (y : Addr) (cls : Value) (dct : Option Addr) : Prop where
  dict : ∃ oe, s'.heap.get? y = some oe ∧ oe.dict = dct
  os : s'.os = s.os
  bare : AllBare s'.gens
  new : s.heap.objs.size ≤ y
  ex : ∃ (B : Heap) (a0 : Value), Heap.FlyingW B outer y cls a0 s'.heap ∧ HOk P w H' B ∧ (∀ b o, s.heap.get? b = some o → H b = none → b ∉ frs outer → B.get? b = some o) ∧ ∀ b o, s.heap.get? b = some o → b ∉ frs outer → b ≠ y → ∃ o', B.get? b = some o'
  slot : ∀ b o, s.heap.get? b = some o → H b = none → b ∈ frs outer → ∃ sl, s'.heap.get? b = some { o with slots := sl }
  free : ∀ b o, s.heap.get? b = some o → H b = none → H' b = none
  tups : ∀ b xs, H b = some (.tup xs) → H' b = some (.tup xs)
  frzs : ∀ b o u, H b = some (.frz o u) → H' b = some (.frz o u)
  tbls : ∀ b ps, H b = some (.tbl ps) → ∃ more, H' b = some (.tbl (ps ++ more))
section
variable {P : Program} {w : World} {outer : List Env} {H H' : Hp} {s s' : Shared} {y : Addr} {cls : Value} {dct : Option Addr}
theorem FlyX.there (x : FlyX P w outer H H' s s' y cls dct) (b : Addr) (o : Obj) (e : s.heap.get? b = some o) : ∃ o', s'.heap.get? b = some o' := by
  obtain ⟨B, a0, ⟨f1, f2, f3, f4⟩, hok, kb, cov⟩ := x.ex
  by_cases hf : b ∈ frs outer
  · obtain ⟨_, o', e2, _⟩ := f3.mem hf
    exact ⟨o', e2⟩
  · by_cases hy : b = y
    · subst hy
      obtain ⟨oe, _, _, _, _, eo, _⟩ := f4
      exact ⟨oe, eo⟩
    · obtain ⟨o', e2⟩ := cov b o e hf hy
      exact ⟨o', f1 b o' e2⟩
theorem FlyX.un (x : FlyX P w outer H H' s s' y cls dct) : Un (frs outer) [] H H' s.heap s'.heap := by
  obtain ⟨B, a0, fl, hok, kb, _⟩ := x.ex
  exact ⟨fun b o e n hb _ => fl.1 b o (kb b o e n hb), fun b o e n hb _ => x.slot b o e n hb, fun b o e n _ => x.free b o e n, fun b o e _ => x.there b o e, x.tups, x.frzs, x.tbls⟩
theorem FlyX.hok (x : FlyX P w outer H H' s s' y cls dct) : HOk P w H' s'.heap := by
  obtain ⟨B, a0, fl, hok, kb, _⟩ := x.ex
  exact hok.kept fl.1
theorem FlyX.gone (x : FlyX P w outer H H' s s' y cls dct) : H' y = none := by
  obtain ⟨B, a0, fl, hok, kb, _⟩ := x.ex
  cases e : H' y with
  | none => rfl
  | some o =>
    obtain ⟨ob, eo⟩ := (hok y o e).there
    rw [fl.2.1] at eo
    cases eo
end
def CXr (P : Program) (w : World) : CXT := fun outer H s E e s' => ∃ (y : Addr) (cls : Value) (dct : Option Addr) (H' : Hp), e = .ref y ∧ FlyX P w outer H H' s s' y cls dct ∧ E cls dct H'
def hole (H : Hp) (y : Addr) : Hp := fun b => if b = y then none else H b
theorem hole_ne {H : Hp} {y b : Addr} (h : b ≠ y) : hole H y b = H b := by unfold hole; rw [if_neg h]
theorem hole_at {H : Hp} {y : Addr} : hole H y y = none := by unfold hole; rw [if_pos rfl]
section
variable {P : Program} {w : World} {K : Frag} {mg : Str → Option Value} {base : Heap} {N : List Str} {qual : Str} {scope : Scope} {f : Addr} {cd : Value} {A : Around} {outer : List Env} {s : Shared} {H : Hp} {E : XK}
variable {pins : List (Addr × Obj)} {σ : St} {H1 : Hp} {s1 : Shared} {y C : Addr} {dct : Option Addr}
theorem raise_out (I : Inv (cxOf (CXr P w) P w K mg base N qual scope f cd A outer s H E) pins σ H1 s1) (hy : H1 y = some (isXo C y dct)) (hn : s.heap.objs.size ≤ y) (hE : E (.ref C) dct (hole H1 y)) :
    (cxOf (CXr P w) P w K mg base N qual scope f cd A outer s H E).xe (.ref y) s1 := by
  obtain ⟨t, he⟩ := I.isXo hy
  have stk := I.stkFree
  have hB : ∀ b, H1 b ≠ none → b ≠ y → b ∉ y :: frs (envOfC qual scope s.heap.objs.size f cd :: outer) := fun b hb hn hm => by
    rcases List.mem_cons.mp hm with z | z
    · exact hn z
    · exact hb (stk b z)
  refine wpAny_mono (wpAny_kd (kd_leaving _ _) (wpAny_leaving_firstW (Q := fun _ s' => ∃ h', s' = { s1 with heap := h' } ∧ Heap.LeftW (hideAll s1.heap (y :: frs (envOfC qual scope s.heap.objs.size f cd :: outer))) (envOfC qual scope s.heap.objs.size f cd :: outer) y (.ref C) (.ref t) s1.heap h') (base := hideAll s1.heap (y :: frs (envOfC qual scope s.heap.objs.size f cd :: outer))) (L := s.heap.objs.size) (a0 := .ref t) I.ok.frames (funFrames_hide I.stack fun env he a ha => List.mem_cons_of_mem _ (List.mem_filterMap.mpr ⟨env, he, ha⟩)) rfl he (fun b o e => of_hideAll _ e) (hideAll_none _ (.head _)) rfl rfl rfl fun h' hL => ⟨h', rfl, hL⟩)) (fun _ s' z => ?_) fun _ _ z => z
  obtain ⟨⟨h', rfl, hL⟩, kd⟩ := z
  have hdct : ∃ oe, h'.get? y = some oe ∧ oe.dict = dct := by
    obtain ⟨oe, e1, _, e2⟩ := kd _ _ he
    exact ⟨oe, e1, e2⟩
  obtain ⟨k1, ⟨_, _, k2⟩, k3, k4⟩ := hL
  have nfs : ∀ b o, s.heap.get? b = some o → b ≠ s.heap.objs.size := fun b o e => Nat.ne_of_lt (Heap.lt_size e)
  refine ⟨y, .ref C, dct, hole H1 y, rfl, ⟨hdct, I.os, I.bare, hn, ⟨_, _, ⟨k1, hideAll_none _ (.head _), k2, k3⟩, fun a o e => ?_, fun b o e n hb => ?_, fun b o e hb hn => ?_⟩, fun b o e n hb => ?_, fun b o e n => ?_, fun b xs e => ?_, fun b o u e => ?_, fun b ps e => ?_⟩, hE⟩
  · have ha : a ≠ y := fun z => by
      rw [z, hole_at] at e
      cases e
    rw [hole_ne ha] at e
    refine (I.hok a o e).stay (fun b u hb eu => hideAll_get _ eu (hB b ?_ ?_)) (fun b hb => ?_) fun b xs hb => ?_
    · rcases hb with rfl | hb
      · rw [e]
        exact fun z => nomatch z
      · rw [hb]
        exact fun z => nomatch z
    · rcases hb with rfl | hb
      · exact ha
      · exact fun z => by
          rw [z, hy] at hb
          cases hb
    · rw [hole_ne fun z => by rw [z, hy] at hb; cases hb]
      exact hb
    · rw [hole_ne fun z => by rw [z, hy] at hb; cases hb]
      exact hb
  · have e1 := I.base.keep b o e n hb (List.not_mem_nil)
    have n1 : H1 b = none := I.base.free b o e n (List.not_mem_nil)
    refine hideAll_get _ e1 fun hm => ?_
    rcases List.mem_cons.mp hm with z | z
    · rw [z, hy] at n1
      cases n1
    · rcases List.mem_cons.mp (show b ∈ s.heap.objs.size :: frs outer from z) with z | z
      · exact nfs b o e z
      · exact hb z
  · obtain ⟨o1, e1⟩ := I.base.there b o e (List.not_mem_nil)
    refine ⟨o1, hideAll_get _ e1 fun hm => ?_⟩
    rcases List.mem_cons.mp hm with z | z
    · exact hn z
    · rcases List.mem_cons.mp (show b ∈ s.heap.objs.size :: frs outer from z) with z | z
      · exact nfs b o e z
      · exact hb z
  · obtain ⟨sl, e1⟩ := I.base.slot b o e n hb (List.not_mem_nil)
    obtain ⟨_, o', e2, nf⟩ := I.stack.mem (show b ∈ frs (envOfC qual scope s.heap.objs.size f cd :: outer) from List.mem_cons_of_mem _ hb)
    rw [e1] at e2
    cases e2
    obtain ⟨sl', e3⟩ := k4 b _ e1 nf
    exact ⟨sl', e3⟩
  · by_cases z : b = y
    · rw [z, hole_at]
    · rw [hole_ne z]
      exact I.base.free b o e n (List.not_mem_nil)
  · have e1 := I.base.tups b xs e
    rw [hole_ne fun z => by rw [z, hy] at e1; cases e1]
    exact e1
  · have e1 := I.base.frzs b o u e
    rw [hole_ne fun z => by rw [z, hy] at e1; cases e1]
    exact e1
  · obtain ⟨more, e1⟩ := I.base.tbls b ps e
    refine ⟨more, ?_⟩
    rw [hole_ne fun z => by rw [z, hy] at e1; cases e1]
    exact e1
theorem passR : Passes (CXr P w) (cxOf (CXr P w) P w K mg base N qual scope f cd A outer s H E) E := by
  rintro pins σ H1 s1 e s' I ⟨y, cls, dct, H', rfl, fl, hE⟩
  obtain ⟨B, a0, hf, hok, kb, cov⟩ := fl.ex
  refine wpAny_mono (wpAny_kd (kd_leaving _ _) (wpAny_leaves_onW (Q := fun _ s2 => ∃ h', s2 = { s' with heap := h' } ∧ Heap.FlyingW B outer y cls a0 h' ∧ s'.heap.UpToSlots h') (L := s.heap.objs.size) I.ok.frames rfl hf fun h' hf' up => ⟨h', rfl, hf', up⟩)) (fun _ s2 z => ?_) fun _ _ z => z
  obtain ⟨⟨h', rfl, hf', up⟩, kd⟩ := z
  have hdct : ∃ oe, h'.get? y = some oe ∧ oe.dict = dct := by
    obtain ⟨o0, e0, ed⟩ := fl.dict
    obtain ⟨oe, e1, _, e2⟩ := kd _ _ e0
    exact ⟨oe, e1, e2.trans ed⟩
  have nfs : ∀ b o, s.heap.get? b = some o → b ≠ s.heap.objs.size := fun b o e => Nat.ne_of_lt (Heap.lt_size e)
  have out : ∀ b o, s.heap.get? b = some o → b ∉ frs outer → b ∉ frs (cxOf (CXr P w) P w K mg base N qual scope f cd A outer s H E).stack := fun b o e hb hm => by
    rcases List.mem_cons.mp (show b ∈ s.heap.objs.size :: frs outer from hm) with z | z
    · exact nfs b o e z
    · exact hb z
  refine ⟨y, cls, dct, H', rfl, ⟨hdct, fl.os.trans I.os, fl.bare, Nat.le_trans I.sz fl.new, ⟨B, a0, hf', hok, fun b o e n hb => ?_, fun b o e hb hn => ?_⟩, fun b o e n hb => ?_, fun b o e n => ?_, fun b xs e => ?_, fun b o u e => ?_, fun b ps e => ?_⟩, hE⟩
  · exact kb b o (I.base.keep b o e n hb (List.not_mem_nil)) (I.base.free b o e n (List.not_mem_nil)) (out b o e hb)
  · obtain ⟨o1, e1⟩ := I.base.there b o e (List.not_mem_nil)
    exact cov b o1 e1 (out b o e hb) hn
  · obtain ⟨sl, e1⟩ := I.base.slot b o e n hb (List.not_mem_nil)
    obtain ⟨sl2, e2⟩ := fl.slot b _ e1 (I.base.free b o e n (List.not_mem_nil)) (List.mem_cons_of_mem _ hb)
    obtain ⟨_, o', e3, nf⟩ := hf.2.2.1.mem (show b ∈ frs (cxOf (CXr P w) P w K mg base N qual scope f cd A outer s H E).stack from List.mem_cons_of_mem _ hb)
    rw [e2] at e3
    cases e3
    obtain ⟨sl3, e4⟩ := up b _ e2 nf
    exact ⟨sl3, e4⟩
  · exact fl.un.free b _ (I.base.there b o e (List.not_mem_nil)).choose_spec (I.base.free b o e n (List.not_mem_nil)) (List.not_mem_nil)
  · exact fl.tups b xs (I.base.tups b xs e)
  · exact fl.frzs b o u (I.base.frzs b o u e)
  · obtain ⟨more, e1⟩ := I.base.tbls b ps e
    obtain ⟨more2, e2⟩ := fl.tbls b _ e1
    exact ⟨more ++ more2, by rw [← Array.append_assoc]; exact e2⟩
end
end L2

namespace L2
open PySem PySem.Calls PySem.Spec PyProof.Rows PySem.W
theorem raise_madeD {M : Model} {A : Around} {E : Value → Shared → Prop} {env : Env} {s : Shared} {x : Sem Value} {C : Addr} {bm : List Value} {Q : Flow → Shared → Prop} (hbase : bm.contains (.type "BaseException") = true) (hh : A.handled = none)
    (h : wpAny M A x (fun v s1 => ∃ e o, v = .ref e ∧ (∃ nm q N bs hdct sn sub ab col dd k0 k1 k2 k3 k5, s1.heap.get? C = some (excClassObj nm q C N bs bm hdct sn sub ab col dd k0 k1 k2 k3 k5 "ValueError.__new__")) ∧ s1.heap.get? e = some o ∧ (o.cls = .ref C ∧ ∃ t : Addr, o.data = .fields #[.ref t, .none, .none, .none, .bool false, .none]) ∧ E (.ref e) s1) E s) :
    wpAny M A (raiseStmt env (some x) none) Q E s := by
  have hB : (Value.ref C :: bm).contains (.type "BaseException") = true := cont_cons hbase
  unfold raiseStmt
  refine wpAny_bind (wpAny_mono h (fun v s1 z => ?_) fun _ _ z => z)
  obtain ⟨e, o, rfl, ⟨nm, q, N, bs, hd, sn, sub, ab, col, dd, k0, k1, k2, k3, k5, hC⟩, he, ⟨hc, t, hvs⟩, hE⟩ := z
  obtain ⟨hp, g, d, tk, os⟩ := s1
  obtain ⟨oc, od, odt, osl⟩ := o
  dsimp only at hc hvs
  subst hc hvs
  repeat (first | with_reducible refine wpAny_loadPart_at he ?_ | with_reducible refine wpAny_loadPart_at hC ?_ | (with_reducible refine wpAny_isSubtype_exc hC ?_; rw [hB]) | wp_step)
  exact wpAny_raiseNew_none hh hE
section
variable {P : Program} {w : World} {K : Frag} {mg : Str → Option Value} {base : Heap} {N : List Str} {qual : Str} {scope : Scope} {f : Addr} {cd : Value} {A : Around} {outer : List Env} {s : Shared} {H : Hp} {E : XK}
variable {C : Addr} {bm : List Value} {e : Expr} {te : TE} {pos : Pos}
def tRaiseD (n : Nat) (C : Addr) (E : XK) (te : TE) : TS := fun _ σ H => te σ H fun v H1 => ∃ y dct, v = .ref y ∧ H1 y = some (isXo C y dct) ∧ n ≤ y ∧ E (.ref C) dct (hole H1 y)
theorem ps_raiseD (hC : XIn K C bm) (he : PE (cxOf (CXr P w) P w K mg base N qual scope f cd A outer s H E) e te) : PS (cxOf (CXr P w) P w K mg base N qual scope f cd A outer s H E) (.Raise (some e) none pos) (tRaiseD s.heap.objs.size C E te) := by
  intro pins s0 σ H0 D I h
  obtain ⟨⟨nm, q, N', bs, hd, sn, sub, ab, col, dd, k0, k1, k2, k3, k5, hl⟩, a1, a2, a3, a4⟩ := hC
  rw [arm_exec_Raise]
  refine wpAny_bind (wpAny_standAt (raise_madeD (C := C) a2 (I.ok.hd rfl) ?_))
  refine wpAny_bind (thn (he pins s0 σ H0 _ I h) fun v s1 ⟨x, H1, I1, rx, y, dct, ex, hy, hn, hE⟩ => wpAny_bind (wpAny_standAt (wpAny_pure ?_)))
  subst ex
  obtain rfl : v = Value.ref y := rx
  obtain ⟨t, et⟩ := I1.isXo hy
  exact ⟨y, _, rfl, ⟨nm, q, N', bs, hd, sn, sub, ab, col, dd, k0, k1, k2, k3, k5, I1.kIn _ _ hl⟩, et, ⟨rfl, _, rfl⟩, raise_out I1 hy hn hE⟩
end
structure KnX (P : Program) (w : World) (K : Frag) (mg : Str → Option Value) (base : Heap) (k : Nat) (x : Str) (ps : List Str) (sp : Sp) : Prop where
  ex : ∃ (f : Addr) (fd : FuncData), FnOk P w K mg base (CXr P w) k f fd ps sp ∧ mg x = some (.ref f) ∧ keepIn K (.ref f) = true ∧ Binds K fd ps []
theorem pe_knx {X : Cx} {k : Nat} {x : Str} {ps : List Str} {sp : Sp} {E : XK} {p pos : Pos} {e : Expr} {es : List Expr} {t : TA} (h : KnX X.prog X.w X.K X.mg X.base k x ps sp) (hx : Passes (CXr X.prog X.w) X E) (hr : Room k X.A) (ha : PA X (e :: es) t) (hg : Gl X x := by rfl)
    (hdb : (x == ("__debug__" : Str)) = false := by decide) (he : starEach (e :: es) X.env = (false, eval e X.env) :: starEach es X.env := by rfl) (hpl : (backTo pos (starEach es X.env)).any (·.1) = false := by rfl) :
    PE X (.Call (.Name x p) (e :: es) [] pos) (tCall sp [] E t) := by
  obtain ⟨f, fd, F, hm, hk, hb⟩ := h.ex
  exact pe_call F hr hg hm hk hb .nil hx ha hdb he hpl
theorem Fun.okX {P : Program} {w : World} {K : Frag} {mg : Str → Option Value} {base : Heap} {x qual : Str} {st : Stmt} {f : Addr} {fd : FuncData} {N ps : List Str} {sp : Sp} {k : Nat} (F : Fun K x qual st f fd) (S : FnScope N ps (defScope st)) (len : ∀ vs H Q E, sp vs H Q E → vs.length = ps.length)
    (hbody : ∀ (cdv : Value) (A : Around) (outer : List Env) (s : Shared) (H : Hp) (vs : List V) (Q : VK) (E : XK), Room k (A.deeper (envOfC qual (defScope st) s.heap.objs.size f cdv)) → sp vs H Q E →
      ∃ t, PSs (cxOf (CXr P w) P w K mg base N qual (defScope st) f cdv A outer s H E) (defBody st) t ∧ t { nx := fun _ H' => Q .non H', rt := Q } (start N vs) H) : FnOk P w K mg base (CXr P w) (k + 1) f fd ps sp := by
  obtain ⟨oc, od, kV, doc, pm, an, cdv, ct, osl, rfl, lk, hcd⟩ := F.ex
  exact fn_of lk hcd S len fun A outer s H vs Q E hr hsp => hbody cdv A outer s H vs Q E hr hsp
theorem DefAt.knx {P : Program} {w : World} {K : Frag} {mg : Str → Option Value} {base : Heap} {k : Nat} {x : Str} {st : Stmt} {N ps : List Str} {sp : Sp} (D : DefAt K mg x st ps) (S : FnScope N ps (defScope st)) (len : ∀ vs H Q E, sp vs H Q E → vs.length = ps.length)
    (hbody : ∀ (f : Addr) (cdv : Value) (A : Around) (outer : List Env) (s : Shared) (H : Hp) (vs : List V) (Q : VK) (E : XK), Room k (A.deeper (envOfC x (defScope st) s.heap.objs.size f cdv)) → sp vs H Q E →
      ∃ t, PSs (cxOf (CXr P w) P w K mg base N x (defScope st) f cdv A outer s H E) (defBody st) t ∧ t { nx := fun _ H' => Q .non H', rt := Q } (start N vs) H) : KnX P w K mg base (k + 1) x ps sp := by
  obtain ⟨f, fd, F, hm, hb⟩ := D.ex
  exact ⟨f, fd, F.okX S len fun cdv A outer s H vs Q E hr h => hbody f cdv A outer s H vs Q E hr h, hm, F.kp, hb⟩
end L2

namespace L2
open PySem PySem.Calls PySem.Spec PyProof.Rows PySem.W
structure XIs (K : Frag) (C : Addr) : Prop where
  ga : findIn K (.ref C) "__getattribute__" = some (some (.builtin "BaseException.__getattribute__"))
  gh : findIn K (.ref C) "__getattr__" = some none
  sb : subIn K (.ref C) (.type "BaseException") = some true
  ca : findIn K (.ref C) "__class__" = some (some (.builtin "object.__class__"))
  sp : specialIn K (.builtin "object.__class__") "__get__" = some (some (.builtin "getset_descriptor.__get__"))
  tk : takesIn K (.builtin "object.__class__") = some true
  ob : mroIn K C (.type "object") = some true
  cl : (clsIn K C).isSome = true
section
variable {prog : Program} {w : World} {A : Around} {E : Value → Shared → Prop} {s : Shared} {K : Frag} {y C : Addr}
theorem exc_ga_check {M : Model} {h : Heap} {g : Array GenState} {d : Drawn} {t : Nat} {os : OsState} {nameV : Value} {Q : Unit → Shared → Prop} (L0 : Looks M h (typeOf (.ref y)) (.ref C)) (L1 : Looks M h (isSubtype (.ref C) (.type "BaseException")) true)
    (hq : Q () ⟨h, g, d, t, os⟩) : wpAny M A (checkBuiltinCall "BaseException.__getattribute__" ⟨[.ref y, nameV], []⟩) Q E ⟨h, g, d, t, os⟩ := by
  have hk : builtinKind "BaseException.__getattribute__" = some .slot := by decide +kernel
  have hsplit : splitId "BaseException.__getattribute__" = some ("BaseException", "__getattribute__") := by decide +kernel
  have ha := PySem.F.args_bexc_ga (.ref y) nameV
  simp only [checkBuiltinCall, hk, hsplit]
  refine wpAny_bind ?_
  unfold isInstance
  repeat (first | lk | wp_step)
  exact hq
theorem looks_find_data {M : Model} {h : Heap} {x C : Addr} {name : Str} {a g : Value} (X : K.In h) (ha : findIn K (.ref C) name = some (some a)) (hg : specialIn K a "__get__" = some (some g)) (hd : takesIn K a = some true) :
    Looks M h (Builtin.ObjectAttr.find (.ref x) (.ref C) name) (.bind g a) := by
  have L1 := looks_findIn (M := M) X ha
  have L2 : Looks M h (Builtin.ObjectAttr.getOf (some a)) (some g) := looks_specialIn X hg
  have L3 := looks_takesIn (M := M) X hd
  exact L1.andThen (L2.andThen ((show Looks M h (Builtin.ObjectAttr.dataDescriptor? (some a) (some g)) (some (g, a)) from L3.andThen .now).andThen (Looks.tag .now)))
theorem class_getx {R : Result → Shared → Prop} {tp : Value} (X : K.In s.heap) (L0 : Looks (model prog w) s.heap (typeOf (.ref y)) (.ref C)) (hm : mroIn K C (.type "object") = some true)
    (h : R (.ok (.ret (.ref C))) s) : codeAny (model prog w) A (.call (.builtin "getset_descriptor.__get__") ⟨[.builtin "object.__class__", .ref y, tp], []⟩) R s := by
  obtain ⟨hh, g, dr, t, os⟩ := s
  have L1 := looks_mroIn (M := model prog w) X hm
  refine codeAny_call_builtin KF.slot_gs.plain KF.entry_gs (KF.slot_gs.check _ _ _ _ _ _ _ _ KF.type_class (KF.args_gs _ _ _) ?_)
  unfold Builtin.«getset_descriptor.__get__» Builtin.Getset_descriptor.descrGet
  rw [dga_obj]
  refine wpAny_bind (wpAny_pure ?_)
  unfold Builtin.Getset_descriptor.descrGetter Builtin.Getset_descriptor.descrCheckInstance Builtin.Getset_descriptor.descrNameAndClass isInstance
  simp only [KF.owner_class]
  repeat lk
  refine ⟨Code.quiet_builtin _ (by decide +kernel), codeAny_builtin KF.entry_class ?_⟩
  unfold Builtin.«object.__class__» shownTypeOf
  repeat lk
  exact h
theorem exc_class {Q : Option Value → Shared → Prop} (F : XIs K C) (X : K.In s.heap) (L0 : Looks (model prog w) s.heap (typeOf (.ref y)) (.ref C)) (h : Q (some (.ref C)) { s with toks := s.toks + 1 }) : wpAny (model prog w) A (getAttr? (.ref y) "__class__") Q E s := by
  obtain ⟨hh, g, d, t, os⟩ := s
  have L1 := looks_findIn (M := model prog w) X F.ga
  have L2 := looks_find_data (M := model prog w) (x := y) X F.ca F.sp F.tk
  have L3 := looks_findIn (M := model prog w) X F.gh
  have L4 : Looks (model prog w) hh (isSubtype (.ref C) (.type "BaseException")) true := looks_subIn X F.sb
  have B1 := PySem.F.excAttr_ValueError.ga.bind (.ref y)
  unfold getAttr? getAttrBy? getAttrBy
  refine wpAny_bind (wpAny_mkText (wpAny_bind (wpAny_attempt (wpAny_holding (wpAny_bind (L0.at (wpAny_bind (L1.at ?_))))))))
  show wpAny _ _ (getAttrByItsOwn _ _ _ _ _ _) _ _ _
  unfold getAttrByItsOwn hookBefore
  refine wpAny_bind (L3.at ?_)
  refine wpAny_bind (wpAny_attempt (wpAny_holding ?_))
  show wpAny _ _ (boundAndCalled _ _ _) _ _ _
  unfold boundAndCalled
  refine wpAny_bind (wpAny_of_eq B1 ?_)
  refine wpAny_call (codeAny_call_builtin PySem.F.excAttr_ValueError.ga.plain PySem.F.entry_bexc_ga (exc_ga_check L0 L4 ?_))
  unfold Builtin.«object.__getattribute__»
  refine wpAny_bind (wpAny_pure ?_)
  refine wpAny_bind ?_
  repeat (first | with_reducible refine wpAny_call ?_ | lk | wp_step)
  refine class_getx (s := ⟨hh, g, d, t + 1, os⟩) X L0 F.ob ?_
  show wpAny _ _ _ _ _ _
  repeat (first | lk | wp_step)
  exact h
theorem kitx_exc (F : XIs K C) : KitX K (.ref y) (.ref C) (fun h => ∃ ob, h.get? y = some ob ∧ ob.cls = .ref C) where
  ty := fun _ _ _ ⟨_, h1, h2⟩ => h2 ▸ (Looks.ld h1).andThen .now
  it := fun _ _ X _ => by
    obtain ⟨cdD, hcD⟩ := Option.isSome_iff_exists.mp F.cl
    unfold clsIn at hcD
    split at hcD
    · rename_i c' d' cd' sl' ho
      intro A' Q' E' s' k q
      unfold isType loadHead
      exact wpAny_bind (wpAny_loadPart (k _ _ (X _ _ ho)) (wpAny_pure q))
    · cases hcD
  ne := fun h tp dd its n sl X htp => by
    obtain ⟨cdD, hcD⟩ := Option.isSome_iff_exists.mp F.cl
    refine Bool.eq_false_iff.mpr fun q => ?_
    have e : C = tp := Value.ref.inj (beq_iff_eq.mp q)
    subst e
    unfold clsIn at hcD
    split at hcD
    · rename_i c' d' cd' sl' ho
      have z := (X _ _ ho).symm.trans htp
      cases z
    · cases hcD
  ca := fun X ⟨_, h1, h2⟩ k => exc_class F X (h2 ▸ (Looks.ld h1).andThen .now) k
end
def isL (C y : Addr) (dct : Option Addr := none) : HO := .ext fun h => ∃ ob, h.get? y = some ob ∧ ob.cls = .ref C ∧ ob.dict = dct ∧ ∃ vs, ob.data = .fields vs
theorem isL_ok {P : Program} {w : World} {H : Hp} {h : Heap} {C y : Addr} {dct : Option Addr} {ob : Obj} (e : h.get? y = some ob) (hc : ob.cls = .ref C) (hd : ob.dict = dct) (hv : ∃ vs, ob.data = .fields vs) : ObjOk P w H h y (isL C y dct) := ⟨⟨ob, e, hc, hd, hv⟩, ⟨_, e⟩, fun _ _ ⟨o, e, c⟩ k => ⟨o, k _ e, c⟩⟩
theorem isL_cls {P : Program} {w : World} {H : Hp} {h : Heap} {C y : Addr} {dct : Option Addr} (x : ObjOk P w H h y (isL C y dct)) : ∃ ob, h.get? y = some ob ∧ ob.cls = .ref C := let ⟨⟨ob, e, c, _⟩, _⟩ := x; ⟨ob, e, c⟩
theorem call_isx {X : Cx} : CallR X (.builtin "isinstance") (fun xs H Q => ∃ y C c b, xs = [.ref y, c] ∧ (∃ dct, H y = some (isL C y dct)) ∧ XIs X.K C ∧ (∃ T, (c = .ref T ∧ kitOne X.K (.ref C) (.ref T) = some b)) ∧ Q (.bl b) H) := by
  intro pins s σ H xs us Q I r h
  obtain ⟨y, C, c, b, rfl, ⟨dct, hy⟩, F, ⟨T, rfl, e⟩, q⟩ := h
  obtain ⟨u, v, rfl, ru, rv⟩ := vals2 r
  cases ru
  cases rv
  exact kia_one (kitx_exc F) I.kIn (isL_cls (I.hok y _ hy)) e (fun z => nomatch z) fun tk => ⟨.bl b, H, I.tok tk, rfl, q⟩
theorem call_isxT {X : Cx} : CallR X (.builtin "isinstance") (fun xs H Q => ∃ y C T b, xs = [.ref y, .ty T] ∧ (∃ dct, H y = some (isL C y dct)) ∧ XIs X.K C ∧ kitOne X.K (.ref C) (.type T) = some b ∧ Q (.bl b) H) := by
  intro pins s σ H xs us Q I r h
  obtain ⟨y, C, T, b, rfl, ⟨dct, hy⟩, F, e, q⟩ := h
  obtain ⟨u, v, rfl, ru, rv⟩ := vals2 r
  cases ru
  have rv : v = Value.type T := rv
  subst rv
  exact kia_one (kitx_exc F) I.kIn (isL_cls (I.hok y _ hy)) e (fun z => nomatch z) fun tk => ⟨.bl b, H, I.tok tk, rfl, q⟩
section
variable {X : Cx}
theorem eqB_at {A : Around} {s : Shared} {xs : List V} {us : List Value} {x : V} {u : Value} {b : Bool} (hx : x = .bl b) (r : Vals xs us) (rx : RelV x u) (fx : ∀ y ∈ xs, ∃ c, y = .bl c) : ∀ y ∈ us.toArray, SeqAt.EqAt A s y u (decide (y = .bool b)) := by
  intro y hy
  have hy' : y ∈ us := by simpa using hy
  obtain ⟨j, hj, rfl⟩ := List.mem_iff_getElem.mp hy'
  have hj' : j < xs.length := by rw [r.length]; exact hj
  obtain ⟨v, e1, e2⟩ := r.get (i := j) (x := xs[j]) (by simp [hj'])
  have e1 : us[j] = v := by simpa [hj] using e1
  obtain ⟨c, ec⟩ := fx xs[j] (List.getElem_mem hj')
  have := eqAt_V (A := A) (s := s) e2 rx (by rw [ec]; rfl) (by rw [hx]; rfl)
  rw [e1]
  rw [ec] at e2 this
  subst hx
  cases e2
  have e : eqV (.bl c) (.bl b) = decide (Value.bool c = Value.bool b) := by
    show (c == b) = _
    cases c <;> cases b <;> rfl
  rw [e] at this
  exact this
theorem bools_rel : ∀ {bs : List Bool} {us : List Value}, Vals (bs.map V.bl) us → us = bs.map Value.bool
  | [], _, .nil => rfl
  | _ :: _, _, .cons r t => by
    cases r
    rw [List.map_cons, bools_rel t]
theorem mt_countB : MtR X "list.count" (fun x vs H Q => ∃ (l : Addr) (bs : List Bool) (b : Bool), x = .ref l ∧ vs = [.bl b] ∧ H l = some (.lst (bs.map V.bl)) ∧ Q (.int ((bs.count b : Nat) : Int)) H) := by
  intro pins s σ H x vs v us Q I rx rv h
  obtain ⟨l, bs, b, rfl, rfl, hl, q⟩ := h
  cases rx
  obtain ⟨u, rfl, ru⟩ := vals1 rv
  obtain ⟨its, r1, p1, _⟩ := I.list (SqL.of hl)
  obtain ⟨⟨cls, dd, data, sl⟩, ho, hc, n, hd⟩ := id p1.isList
  simp only at hc hd
  subst hc hd
  refine call_meets PySem.F.slot_list_count ⟨_, ho, rfl⟩ PySem.F.entry_list_count (PySem.F.args_list_count_2 _ _) (SeqAt.list_countAt l its.toArray n dd sl u (fun y => decide (y = .bool b))) ⟨ho, eqB_at rfl r1 ru (fun y hy => by obtain ⟨c, _, rfl⟩ := List.mem_map.mp hy; exact ⟨c, rfl⟩), ?_⟩
  have e : (its.toArray.toList.countP fun y => decide (y = Value.bool b)) = bs.count b := by
    rw [bools_rel r1]
    show List.countP _ (bs.map Value.bool) = _
    rw [List.countP_map]
    unfold List.count
    congr 1
    funext c
    show decide (Value.bool c = Value.bool b) = (c == b)
    cases c <;> cases b <;> rfl
  rw [e]
  exact ⟨.int _, H, I.tok _, ⟨_, rfl⟩, q⟩
theorem mt_indexB : MtR X "list.index" (fun x vs H Q => ∃ (l : Addr) (bs : List Bool) (b : Bool) (j : Nat), x = .ref l ∧ vs = [.bl b] ∧ H l = some (.lst (bs.map V.bl)) ∧ bs[j]? = some b ∧ (∀ k, k < j → bs[k]? = some (!b)) ∧ j < 1000 ∧ Q (.int (j : Int)) H) := by
  intro pins s σ H x vs v us Q I rx rv h
  obtain ⟨l, bs, b, j, rfl, rfl, hl, hj, hno, hs, q⟩ := h
  cases rx
  obtain ⟨u, rfl, ru⟩ := vals1 rv
  obtain ⟨its, r1, p1, _⟩ := I.list (SqL.of hl)
  obtain ⟨⟨cls, dd, data, sl⟩, ho, hc, n, hd⟩ := id p1.isList
  simp only at hc hd
  subst hc hd
  have ei := bools_rel r1
  have hlen : its.length = bs.length := by rw [ei, List.length_map]
  have hjl : j < bs.length := (List.getElem?_eq_some_iff.mp hj).1
  refine call_meets PySem.F.slot_list_index ⟨_, ho, rfl⟩ PySem.F.entry_list_index (PySem.F.args_list_index_2 _ _) (SeqAt.list_indexAt l its.toArray n dd sl u (fun y => decide (y = .bool b)) j (by simpa [hlen] using hjl) (by omega) ?_ ?_) ⟨ho, eqB_at rfl r1 ru (fun y hy => by obtain ⟨c, _, rfl⟩ := List.mem_map.mp hy; exact ⟨c, rfl⟩), ?_⟩
  · have : bs[j] = b := (List.getElem?_eq_some_iff.mp hj).2
    simp [ei, this]
  · intro m hm hmj
    have h1 := hno m hmj
    have h2 : m < bs.length := (List.getElem?_eq_some_iff.mp h1).1
    have : bs[m] = !b := (List.getElem?_eq_some_iff.mp h1).2
    simp only [ei, List.getElem_toArray, List.getElem_map, this]
    cases b <;> rfl
  · exact ⟨.int _, H, I.tok _, ⟨_, rfl⟩, q⟩
end
end L2

namespace L2
open PySem PySem.Calls PySem.Spec PyProof.Rows PySem.W
section
variable {X : Cx} {pins : List (Addr × Obj)} {σ : St} {H H' : Hp} {s s' : Shared} {y : Addr} {cls : Value} {dct : Option Addr}
def hX (X : Cx) (y : Addr) : Cx := { X with A := X.A.mark (some (.ref y)), calm := false, xe := fun _ _ => False }
theorem Inv.hand (I : Inv X pins σ H s) (y : Addr) : Inv (hX X y) pins σ H s :=
  ⟨⟨I.ok.mod, I.ok.kind, I.ok.glob, I.ok.blt, I.ok.above, I.ok.inj, I.ok.has, I.ok.cab, fun z => (nomatch z), I.ok.frames, I.ok.stk, I.ok.exf, I.ok.bs, I.ok.bsz, I.ok.noex, I.ok.exfs, I.ok.funs, I.ok.frf⟩, I.os, I.bare, I.base, I.loc, I.cell, I.free, I.freeC, I.pin, I.hok, I.len⟩
theorem Inv.unhand (ok : X.Ok) (I : Inv (hX X y) pins σ H s) : Inv X pins σ H s := ⟨ok, I.os, I.bare, I.base, I.loc, I.cell, I.free, I.freeC, I.pin, I.hok, I.len⟩
theorem fly_inv {s1 : Shared} {H1 : Hp} (I : Inv X pins σ H1 s1) (fl : FlyX X.prog X.w X.stack H1 H' s1 s' y cls dct) : Inv X pins σ H' s' := by
  obtain ⟨v, H2, I2, _, e⟩ := I.after (Q := fun _ H2 => H2 = H') (u := .none) ⟨.non, H', fl.os, fl.bare, fl.un, fl.hok, rfl, rfl⟩
  subst e
  exact I2
theorem FlyX.slots {P : Program} {w : World} {outer : List Env} (fl : FlyX P w outer H H' s s' y cls dct) :
    ∃ B a0, Heap.FlyingW B outer y cls a0 s'.heap ∧ ∀ h6, Heap.FlyingW B outer y cls a0 h6 → s'.heap.UpToSlots h6 → KeepD s'.heap h6 → FlyX P w outer H H' s { s' with heap := h6 } y cls dct := by
  obtain ⟨B, a0, hf, hok, kb, cov⟩ := fl.ex
  have hdk : ∀ h6, KeepD s'.heap h6 → ∃ oe, h6.get? y = some oe ∧ oe.dict = dct := fun h6 kd => by
    obtain ⟨o0, e0, ed⟩ := fl.dict
    obtain ⟨oe, e1, _, e2⟩ := kd _ _ e0
    exact ⟨oe, e1, e2.trans ed⟩
  refine ⟨B, a0, hf, fun h6 hf6 up kd => ⟨hdk h6 kd, fl.os, fl.bare, fl.new, ⟨B, a0, hf6, hok, kb, cov⟩, fun b o e n hb => ?_, fl.free, fl.tups, fl.frzs, fl.tbls⟩⟩
  obtain ⟨sl2, e2⟩ := fl.slot b o e n hb
  obtain ⟨_, o', e3, nf⟩ := hf.2.2.1.mem hb
  rw [e2] at e3
  cases e3
  obtain ⟨sl3, e4⟩ := up b _ e2 nf
  exact ⟨sl3, e4⟩
def XL (X : Cx) (pins : List (Addr × Obj)) (σ : St) (E : XK) : Value → Shared → Prop := fun e s' => ∃ H1 s1, Inv X pins σ H1 s1 ∧ CXr X.prog X.w X.stack H1 s1 E e s'
def PEx (X : Cx) (e : Expr) (t : XK → TE) : Prop :=
  ∀ (E : XK) (pins : List (Addr × Obj)) (s : Shared) (σ : St) (H : Hp) (Q : VK), Inv X pins σ H s → t E σ H Q → wpAny (model X.prog X.w) X.A (eval e X.env) (EP X pins σ Q) (XL X pins σ E) s
def PSx (X : Cx) (st : Stmt) (t : XK → TS) : Prop :=
  ∀ (E : XK) (pins : List (Addr × Obj)) (s : Shared) (σ : St) (H : Hp) (D : Ends), Inv X pins σ H s → t E D σ H → wpAny (model X.prog X.w) X.A (exec st X.env) (SP X pins D) (XL X pins σ E) s
variable {k : Nat} {x : Str} {ps : List Str} {sp : Sp} {p pos : Pos} {e : Expr} {es : List Expr} {t : TA} {te : XK → TE}
theorem pex_kn (h : KnX X.prog X.w X.K X.mg X.base k x ps sp) (hr : Room k X.A) (ha : PA X.nox (e :: es) t) (hg : Gl X x := by rfl)
    (hdb : (x == ("__debug__" : Str)) = false := by decide) (he : starEach (e :: es) X.env = (false, eval e X.env) :: starEach es X.env := by rfl) (hpl : (backTo pos (starEach es X.env)).any (·.1) = false := by rfl) :
    PEx X (.Call (.Name x p) (e :: es) [] pos) (fun E => tCall sp [] E t) := by
  obtain ⟨f, fd, F, hm, hk, hb⟩ := h.ex
  intro E pins s σ H Q I h
  refine wpAny_Call_Name_kw (ld_glob I hg hm ?_ hdb)
  refine callWith_K (h₀ := X.base) I.ok.mod.kin hk (wpAny_mono (ha pos pins s σ H _ (I.wish _) h) (fun us s1 z => ?_) fun _ _ z => z.elim) he hpl
  obtain ⟨vs, H1, I1w, r, q⟩ := z
  have I1 : Inv X pins σ H1 s1 := I1w.unwish
  refine ⟨I1.kIn, ?_⟩
  have r2 : Vals (vs ++ []) (us ++ []) := r.append .nil
  have hl : (us ++ ([] : List Value)).length = ps.length := by rw [← r2.length]; exact F.len _ _ _ _ q
  refine wpAny_call (codeAny_mono (F.run X.A X.stack s1 H1 ⟨us, []⟩ (us ++ []) (vs ++ []) Q E hr I1.env0 (hb s1 us I1.kIn hl) r2 q) fun r s' hq => ?_)
  cases r with
  | error e => exact ⟨H1, s1, I1, hq⟩
  | ok fl =>
    cases fl with
    | ret u => exact I1.after hq
    | next => exact False.elim hq
    | brk => exact False.elim hq
    | cont => exact False.elim hq
theorem psx_ret (he : PEx X e te) : PSx X (.Return (some e) pos) (fun E => tRet (te E)) := by
  intro E pins s σ H D I h
  exact wpAny_Return_some (thn (he E pins s σ H _ I h) fun v s1 ⟨x, H1, I1, r1, q1⟩ => ⟨x, σ, H1, I1, r1, q1⟩)
theorem name_gone {M : Model} {A : Around} {E : Value → Shared → Prop} {i : Nat} {n : Str} {pos : Pos} {Q : Unit → Shared → Prop} (I : Inv X pins σ H s) (hN : X.N.Nodup) (hi : X.N[i]? = some n) (hk : X.env.scope.names.lookup n = some .local)
    (h : ∀ s', Inv X pins (σ.set i none) H s' → Q () s') : wpAny M A (do bindName X.env n .none; unbindBehindTheSuite X.env n pos) Q E s := by
  obtain ⟨m, hn, hl⟩ := id I.loc
  have hcls : (X.env.scope.kind == .class || (X.env.scope.kind == .module && X.env.locals != X.env.globals)) = false := by rw [I.ok.kind]; rfl
  have hiσ : i < σ.length := by rw [I.len]; exact (List.getElem?_eq_some_iff.mp hi).1
  have cne := I.cne
  obtain ⟨oL, _, _, hoL, _⟩ := id hn
  refine wpAny_nameGoes_keeps hk hn hcls fun h' v hn' hs => ?_
  have low : ∀ b o, X.s₀.heap.get? b = some o → b ≠ X.env.locals := fun b o e => Nat.ne_of_lt (Nat.lt_of_lt_of_le (Heap.lt_size e) I.ok.above)
  refine h _ ⟨I.ok, I.os, I.bare, ⟨fun b o e n hb hx => ?_, fun b o e n hb hx => ?_, I.base.free, fun b o e hx => ?_, I.base.tups, I.base.frzs, I.base.tbls⟩, ⟨_, hn', fun j z v' e1 e2 e3 => ?_⟩, fun z c e => ?_, I.free, I.freeC, fun p hp => ?_, fun b ob e => ?_, by simpa using I.len⟩
  · exact (hs.2 b (low b o e)).trans (I.base.keep b o e n hb hx)
  · obtain ⟨sl, e1⟩ := I.base.slot b o e n hb hx
    exact ⟨sl, (hs.2 b (low b o e)).trans e1⟩
  · obtain ⟨o', e1⟩ := I.base.there b o e hx
    exact ⟨o', (hs.2 b (low b o e)).trans e1⟩
  · by_cases hj : j = i
    · subst hj
      rw [List.getElem?_set_self hiσ] at e2
      cases e2
    · rw [List.getElem?_set_ne (Ne.symm hj)] at e2
      obtain ⟨u', r', q⟩ := hl j z v' e1 e2 e3
      refine ⟨u', r', ?_⟩
      rcases q with ⟨k, e⟩ | ⟨k, c, e, w⟩
      · refine .inl ⟨k, ?_⟩
        have : z ≠ n := fun e => hj (nodup_ix hN e1 (e ▸ hi))
        simp [this, e]
      · exact .inr ⟨k, c, e, w.sameBut hs (cne z c e)⟩
  · obtain ⟨w', z⟩ := I.cell z c e
    exact ⟨w', z.sameBut hs (cne _ c e)⟩
  · obtain ⟨e, n, ne, nf, d⟩ := I.pin p hp
    exact ⟨(hs.2 p.1 ne).trans e, n, ne, nf, d⟩
  · refine (I.hok b ob e).stay (fun c w' hc q => (hs.2 c ?_).trans q) (fun _ q => q) fun _ _ q => q
    rintro rfl
    rcases hc with z | hc
    · rw [← z, I.free] at e; cases e
    · rw [I.free] at hc; cases hc
variable {st b₀ : Stmt} {suite : List Stmt} {i : Nat} {n c : Str} {pc hpos : Pos} {W : Addr} {tb : XK → TS} {th : TS}
def tTry (K : Frag) (W : Addr) (i : Nat) (tb : XK → TS) (th : TS) : TS := fun D σ H => tb (fun cls dct H' => ∃ C, cls = .ref C ∧ exmOne K (.ref C) (.ref W) = some true ∧ ∀ y, H' y = none →
  th { nx := fun σ2 H2 => D.nx (σ2.set i none) H2, rt := D.rt, bk := fun σ2 H2 => D.bk (σ2.set i none) H2, ct := fun σ2 H2 => D.ct (σ2.set i none) H2 } (σ.set i (some (.ref y))) (upd H' y (isL C y dct))) D σ H
end
end L2

namespace L2
open PySem PySem.Calls PySem.Spec PyProof.Rows PySem.W
structure RoomH (k : Nat) (A : Around) : Prop where
  dp : A.depth + 3 * k + 5 < recursionLimit
  un : A.units + 16 * k + 200 < cLine
theorem Room.toH {k : Nat} {A : Around} (r : Room k A) (h : Option Value) : RoomH k (A.mark h) := ⟨r.dp, r.un⟩
theorem RoomH.mono {j k : Nat} {A : Around} (r : RoomH k A) (h : j ≤ k) : RoomH j A := ⟨by have := r.dp; omega, by have := r.un; omega⟩
theorem RoomH.deeper {k : Nat} {A : Around} (r : RoomH (k + 1) A) (env : Env) : RoomH k (A.deeper env) :=
  ⟨by have := r.dp; show A.depth + 1 + 3 * k + 5 < _; omega, by have := r.un; show A.units + 3 + 16 * k + 200 < _; omega⟩
def cxH (P : Program) (w : World) (K : Frag) (mg : Str → Option Value) (base : Heap) (N : List Str) (qual : Str) (scope : Scope) (f : Addr) (cd : Value) (A : Around) (outer : List Env) (s : Shared) (H : Hp) : Cx :=
  { cxOf CX0 P w K mg base N qual scope f cd A outer s H E0 with calm := false, xe := fun _ _ => False }
structure FnOkH (P : Program) (w : World) (K : Frag) (mg : Str → Option Value) (base : Heap) (k : Nat) (f : Addr) (fd : FuncData) (ps : List Str) (sp : Sp) : Prop where
  len : ∀ vs H Q E, sp vs H Q E → vs.length = ps.length
  run : ∀ (A : Around) (outer : List Env) (s : Shared) (H : Hp) (args : Args) (us : List Value) (vs : List V) (Q : VK), RoomH k A → Env0 P w K mg base A outer s H → BindsTo s fd args (ps.zip us) → Vals vs us → sp vs H Q E0 →
    codeAny (model P w) A (.call (.ref f) args) (CR CX0 outer P w H s Q E0) s
theorem inv_startH {P : Program} {w : World} {K : Frag} {mg : Str → Option Value} {base : Heap} {N ps : List Str} {qual : Str} {scope : Scope} {f : Addr} {cd : Value} {A : Around} {outer : List Env} {s s1 : Shared} {H : Hp} {us : List Value} {vs : List V}
    (S : FnScope N ps scope) (e0 : Env0 P w K mg base A outer s H) (hl : vs.length = ps.length) (r : Vals vs us)
    (x : InCallC s s.heap.objs.size (bindL (envOfC qual scope s.heap.objs.size f cd).kindOf (ps.zip us) fun _ => none) (cellsFrom (s.heap.objs.size + 1) scope.names []) (bindC (envOfC qual scope s.heap.objs.size f cd).kindOf (ps.zip us) fun _ => none) s1) :
    Inv (cxH P w K mg base N qual scope f cd A outer s H) [] (start N vs) H s1 := by
  have e0' : Env0 P w K mg base { A with handled := none } outer s H := ⟨e0.frames, e0.mod, e0.bs, e0.bsz, e0.funs, e0.frf, e0.hok, e0.bare⟩
  have I := inv_start (CX := CX0) (A := { A with handled := none }) (E := E0) (qual := qual) (f := f) (cd := cd) S rfl e0' hl r x
  exact ⟨⟨I.ok.mod, I.ok.kind, I.ok.glob, I.ok.blt, I.ok.above, I.ok.inj, I.ok.has, I.ok.cab, fun z => (nomatch z), I.ok.frames, I.ok.stk, I.ok.exf, I.ok.bs, I.ok.bsz, I.ok.noex, I.ok.exfs, I.ok.funs, I.ok.frf⟩, I.os, I.bare, I.base, I.loc, I.cell, I.free, I.freeC, I.pin, I.hok, I.len⟩
theorem fn_ofH {P : Program} {w : World} {K : Frag} {mg : Str → Option Value} {base : Heap} {k : Nat} {f : Addr} {name qual : Str} {params : Arguments} {body : List Stmt} {scope : Scope} {dV kV doc pm cdv ct oc : Value} {an od : Option Addr}
    {osl : Array (Option Value)} {N ps : List Str} {sp : Sp} (lk : K.lookup f = some ⟨oc, od, .func (fnOf name qual params body scope dV kV doc pm an cdv ct), osl⟩) (hcd : codeIn K cdv qual = true) (S : FnScope N ps scope)
    (len : ∀ vs H Q E, sp vs H Q E → vs.length = ps.length)
    (hbody : ∀ (A : Around) (outer : List Env) (s : Shared) (H : Hp) (vs : List V) (Q : VK), RoomH k (A.deeper (envOfC qual scope s.heap.objs.size f cdv)) → sp vs H Q E0 →
      ∃ t, PSs (cxH P w K mg base N qual scope f cdv A outer s H) body t ∧ t { nx := fun _ H' => Q .non H', rt := Q } (start N vs) H) :
    FnOkH P w K mg base (k + 1) f (fnOf name qual params body scope dV kV doc pm an cdv ct) ps sp := by
  refine ⟨len, fun A outer s H args us vs Q hr e0 hb r hsp => ?_⟩
  have hl := len _ _ _ _ hsp
  have KX : K.In s.heap := e0.mod.kin.keeps fun b o e => (e0.bs b o e).1
  have lim : s.heap.NoLimit := e0.mod.nolimit.keeps fun b o e => (e0.bs b o e).1
  have hkind : ∀ y ∈ ps.zip us, scope.names.lookup y.1 = some .local ∨ (scope.names.lookup y.1 = some .cell ∧ ((cellsFrom (s.heap.objs.size + 1) scope.names []).lookup y.1).isSome = true) := fun ⟨n, v⟩ hy => by
    rcases S.par n (List.of_mem_zip hy).1 with q | q
    · exact .inl q
    · exact .inr ⟨q, cellsFrom_some _ _ _ (.inl q)⟩
  have hdepth : A.depth < recursionLimit := by have := hr.dp; omega
  refine codeAny_call_function hdepth (KX _ _ lk) rfl S.co S.gen rfl (codeRec_of KX hcd) (hb _ _ _ _ ?_)
  refine wpAny_newFunctionEnv_cells S.kind hkind fun env he s1 x => ?_
  subst he
  refine ⟨lim.keeps x.toInCall.keep, codeAny_func ?_⟩
  obtain ⟨t, ht, hq⟩ := hbody A outer s H vs Q (hr.deeper _) hsp
  have I : Inv (cxH P w K mg base N qual scope f cdv A outer s H) [] (start N vs) H s1 := inv_startH S e0 hl r x
  refine wpAny_mono (ht [] s1 (start N vs) H _ I hq) (fun fl s' hs => ?_) fun e s' hs => hs.elim
  have fin : ∀ {σ' : St} {H' : Hp} {v : V} {u : Value}, Inv (cxH P w K mg base N qual scope f cdv A outer s H) [] σ' H' s' → RelV v u → Q v H' → CE outer P w H s Q u s' :=
    fun {σ' H' v u} J rv q => ⟨v, H', J.os, J.bare, J.base, J.hok, rv, q⟩
  cases fl with
  | ret u =>
    obtain ⟨v, σ', H', J, rv, q⟩ := hs
    exact fin J rv q
  | next =>
    obtain ⟨σ', H', J, q⟩ := hs
    exact fin (v := V.non) (u := Value.none) J rfl q
  | brk =>
    obtain ⟨_, _, _, q⟩ := hs
    exact False.elim q
  | cont =>
    obtain ⟨_, _, _, q⟩ := hs
    exact False.elim q
structure KnH (P : Program) (w : World) (K : Frag) (mg : Str → Option Value) (base : Heap) (k : Nat) (x : Str) (ps : List Str) (sp : Sp) : Prop where
  ex : ∃ (f : Addr) (fd : FuncData), FnOkH P w K mg base k f fd ps sp ∧ mg x = some (.ref f) ∧ keepIn K (.ref f) = true ∧ Binds K fd ps []
theorem DefAt.knH {P : Program} {w : World} {K : Frag} {mg : Str → Option Value} {base : Heap} {k : Nat} {x : Str} {st : Stmt} {N ps : List Str} {sp : Sp} (D : DefAt K mg x st ps) (S : FnScope N ps (defScope st)) (len : ∀ vs H Q E, sp vs H Q E → vs.length = ps.length)
    (hbody : ∀ (f : Addr) (cdv : Value) (A : Around) (outer : List Env) (s : Shared) (H : Hp) (vs : List V) (Q : VK), RoomH k (A.deeper (envOfC x (defScope st) s.heap.objs.size f cdv)) → sp vs H Q E0 →
      ∃ t, PSs (cxH P w K mg base N x (defScope st) f cdv A outer s H) (defBody st) t ∧ t { nx := fun _ H' => Q .non H', rt := Q } (start N vs) H) : KnH P w K mg base (k + 1) x ps sp := by
  obtain ⟨f, fd, F, hm, hb⟩ := D.ex
  obtain ⟨oc, od, kV, doc, pm, an, cdv, ct, osl, rfl, lk, hcd⟩ := F.ex
  exact ⟨f, _, fn_ofH lk hcd S len fun A outer s H vs Q hr h => hbody f cdv A outer s H vs Q hr h, hm, F.kp, hb⟩
section
variable {X : Cx} {k : Nat} {x : Str} {ps : List Str} {sp : Sp} {p pos : Pos} {e : Expr} {es : List Expr} {t : TA}
theorem pe_knH (h : KnH X.prog X.w X.K X.mg X.base k x ps sp) (hr : RoomH k X.A) (ha : PA X (e :: es) t) (hg : Gl X x := by rfl)
    (hdb : (x == ("__debug__" : Str)) = false := by decide) (he : starEach (e :: es) X.env = (false, eval e X.env) :: starEach es X.env := by rfl) (hpl : (backTo pos (starEach es X.env)).any (·.1) = false := by rfl) :
    PE X (.Call (.Name x p) (e :: es) [] pos) (tCall sp [] E0 t) := by
  obtain ⟨f, fd, F, hm, hk, hb⟩ := h.ex
  intro pins s σ H Q I h
  refine wpAny_Call_Name_kw (ld_glob I hg hm ?_ hdb)
  refine callWith_K (h₀ := X.base) I.ok.mod.kin hk (thn (ha pos pins s σ H _ I h) fun us s1 ⟨vs, H1, I1, r, q⟩ => ⟨I1.kIn, ?_⟩) he hpl
  have r2 : Vals (vs ++ []) (us ++ []) := r.append .nil
  have hl : (us ++ ([] : List Value)).length = ps.length := by rw [← r2.length]; exact F.len _ _ _ _ q
  refine wpAny_call (codeAny_mono (F.run X.A X.stack s1 H1 ⟨us, []⟩ (us ++ []) (vs ++ []) Q hr I1.env0 (hb s1 us I1.kIn hl) r2 q) fun r s' hq => ?_)
  cases r with
  | error e => exact hq.elim
  | ok fl =>
    cases fl with
    | ret u => exact I1.after hq
    | next => exact False.elim hq
    | brk => exact False.elim hq
    | cont => exact False.elim hq
end
end L2

namespace L2
open PySem PySem.Calls PySem.Spec PyProof.Rows PySem.W PySem.Builtin PySem.Builtin.ObjectAttr
def isN (D : Addr) (fs : List (Str × V)) : HO := .ext fun h => ∃ mA, h.Ns1 D mA ∧ ∀ f, RelO (fs.lookup f) (mA f)
theorem isN_ok {P : Program} {w : World} {H : Hp} {h : Heap} {D : Addr} {fs : List (Str × V)} {mA : Str → Option Value} (n : h.Ns1 D mA) (r : ∀ f, RelO (fs.lookup f) (mA f)) : ObjOk P w H h D (isN D fs) :=
  ⟨⟨mA, n, r⟩, let ⟨o, _, _, e, _⟩ := n; ⟨o, e⟩, fun _ _ ⟨m, n, r⟩ k => ⟨m, n.at k, r⟩⟩
def onlyVE : List Value → Bool
  | .ref _ :: r => onlyVE r
  | l => l == [.type "ValueError", .type "Exception", .type "BaseException", .type "object"]
def veOver (K : Frag) (C : Addr) : Bool := (clsIn K C).any fun cd => onlyVE cd.mro
theorem VE_of : ∀ {l : List Value}, onlyVE l = true → (∃ c r, l = .ref c :: r ∧ onlyVE r = true) ∨ l = [.type "ValueError", .type "Exception", .type "BaseException", .type "object"] := by
  intro l e
  unfold onlyVE at e
  split at e
  · exact .inl ⟨_, _, rfl, e⟩
  · exact .inr (beq_iff_eq.mp e)
theorem refuse_VE (self : Value) : ∀ (l : List Value), onlyVE l = true → refuseLoop self "__setattr__" l = pure ()
  | [], e => by cases e
  | a :: r, e => by
    rcases VE_of e with ⟨c, r', q, e'⟩ | q
    · cases q
      rw [refuseLoop_ref]
      exact refuse_VE self r e'
    · rw [q]
      exact PySem.F.store_ValueError.passes self
theorem VE_has : ∀ (l : List Value), onlyVE l = true → l.contains (.type "object") = true
  | [], e => by cases e
  | a :: r, e => by
    rcases VE_of e with ⟨c, r', q, e'⟩ | q
    · cases q
      rw [List.contains_cons, VE_has r e', Bool.or_true]
    · rw [q]
      decide
structure XSet (K : Frag) (C : Addr) : Prop where
  sa : findIn K (.ref C) "__setattr__" = some (some (.builtin "object.__setattr__"))
  hd : hasDictIn K C = true
  ov : veOver K C = true
section
variable {prog : Program} {w : World} {A : Around} {E : Value → Shared → Prop} {s : Shared} {K : Frag} {x C : Addr} {ox : Obj} {od : Option Obj} {name : Str} {v : Value} {Q : Unit → Shared → Prop}
theorem setattr_x (F : XSet K C) (X : K.In s.heap) (J : InstAt s.heap x ox C od) (hn : findIn K (.ref C) name = some none)
    (h : wpAny (model prog w) A.in1 (storeInOwnDict (.ref x) (.ref C) (.str name s.toks) name v false) (fun fin s' => match fin with | .done (.ret _) => Q () s' | _ => False) E { s with toks := s.toks + 1 }) :
    wpAny (model prog w) A (setAttr (.ref x) name v) Q E s := by
  have SF := PySem.F.store_object
  obtain ⟨cd, hc, ho⟩ := any_some F.ov
  have ne : cd.mro.isEmpty = false := by
    cases q : cd.mro with
    | nil => rw [q] at ho; cases ho
    | cons _ _ => rfl
  have sub : Looks (model prog w) s.heap (isInstance (.ref x) (.type "object")) true := J.type.andThen (looks_mroIn X (by unfold mroIn; rw [hc, Option.bind_some, if_neg (by rw [ne]; decide), VE_has _ ho]))
  have hm : Looks (model prog w) s.heap (mroOf (.ref C)) cd.mro := (looks_clsIn X hc).andThen .now
  have J2 : Looks (model prog w) s.heap (typeOf (.ref x)) (.ref C) := J.type
  have L2 := looks_findIn (M := model prog w) X hn
  refine set_plain X J F.sa ?_
  refine codeAny_call_builtin SF.slot.plain SF.entry (@check_slot (model prog w) _ _ { s with toks := s.toks + 1 } "object.__setattr__" "object" "__setattr__" (.ref x) [.str name s.toks, v] [] _ SF.kind SF.split sub (SF.args (.ref x) (.str name s.toks) v) ?_)
  rw [osa_eq, refuse_eq]
  refine wpAny_bind (wpAny_bind (Looks.here (s := { s with toks := s.toks + 1 }) J2 (wpAny_bind (Looks.here (s := { s with toks := s.toks + 1 }) hm ?_))))
  rw [refuse_VE _ _ ho]
  refine wpAny_pure (wpAny_bind (Looks.here (s := { s with toks := s.toks + 1 }) J2 (wpAny_bind (Looks.here (s := { s with toks := s.toks + 1 }) L2 (wpAny_bind (wpAny_pure ?_))))))
  refine wpAny_mono h (fun fin s' z => ?_) fun e s' z => z
  rcases fin with (_ | _ | _ | _) | _ <;> first | exact z | exact z.elim
end
section
variable {X : Cx} {pins : List (Addr × Obj)} {σ : St} {H : Hp} {s : Shared} {y C D : Addr} {fs : List (Str × V)} {f : Str} {v : V} {u : Value} {A : Around} {E : Value → Shared → Prop} {Q : Unit → Shared → Prop}
theorem relO_put {mA : Str → Option Value} (r : ∀ f, RelO (fs.lookup f) (mA f)) (ru : RelV v u) (g : Str) : RelO ((putF f v fs).lookup g) (if g = f then some u else mA g) := by
  rw [lookup_putF]
  by_cases q : g = f
  · rw [if_pos q, if_pos q]; exact ru
  · rw [if_neg q, if_neg q]; exact r g
theorem setx0 (I : Inv X pins σ H s) (hy : H y = some (isXo C y none)) (F : XSet X.K C) (n : NoAttr X.K C f) (ru : RelV v u)
    (h : ∀ D s', H D = none → D ≠ y → Inv X pins σ (upd (upd H D (isN D [(f, v)])) y (isXo C y (some D))) s' → Q () s') : wpAny (model X.prog X.w) A (setAttr (.ref y) f u) Q E s := by
  obtain ⟨t, hx⟩ := I.isXo hy
  obtain ⟨cd, hc, hd'⟩ := any_some F.hd
  refine setattr_x F I.kIn (od := none) ⟨hx, rfl, rfl, trivial⟩ n ?_
  have hx1 : (s.heap.push emptyDict).get? y = some { cls := .ref C, dict := none, data := .fields #[.ref t, .none, .none, .none, .bool false, .none] } := Heap.get?_push_of_some _ hx
  have hys : y ≠ s.heap.objs.size := Nat.ne_of_lt (Heap.lt_size hx)
  have hDn : H s.heap.objs.size = none := I.hok.fresh (Nat.le_refl _)
  have hx2 : ((s.heap.push emptyDict).update y fun o => { o with dict := some s.heap.objs.size }).get? y = some { cls := .ref C, dict := some s.heap.objs.size, data := .fields #[.ref t, .none, .none, .none, .bool false, .none] } := Heap.get?_update_self _ hx1 rfl
  have hD1 : (s.heap.push emptyDict).get? s.heap.objs.size = some emptyDict := Heap.get?_push_size s.heap rfl
  have e3 : (s.heap.push emptyDict).Ns s.heap.objs.size (fun _ => none) := ⟨emptyDict, #[], _, hD1, rfl, (fun e he => absurd he (by simp)), fun _ => rfl⟩
  have I1 : Inv X pins σ (upd H s.heap.objs.size (isN s.heap.objs.size [])) { s with heap := s.heap.push emptyDict } := I.laid (t' := s.toks) (fun b o q => Heap.get?_push_of_some _ q) (Nat.le_refl _) (isN_ok (Heap.Ns1.of_empty e3) fun _ => True.intro)
  have hy1 : upd H s.heap.objs.size (isN s.heap.objs.size []) y = some (isXo C y none) := by rw [upd_ne hys]; exact hy
  have I2 : Inv X pins σ (upd (upd H s.heap.objs.size (isN s.heap.objs.size [])) y (isXo C y (some s.heap.objs.size))) { s with heap := (s.heap.push emptyDict).update y fun o => { o with dict := some s.heap.objs.size }, toks := s.toks + 1 } :=
    I1.write (x := y) (e := y) (by rw [hy1]; trivial) (.inl rfl) (fun b o hb q => (Heap.get?_update_other _ _ (Ne.symm hb)).trans q) ⟨_, hx2⟩ (isXo_ok hx2)
  have hD2 : ((s.heap.push emptyDict).update y fun o => { o with dict := some s.heap.objs.size }).Ns1 s.heap.objs.size (fun _ => none) := (Heap.Ns1.of_empty e3).at fun o q => (Heap.get?_update_other _ _ hys).trans q
  refine wpAny_bind (wpAny_pure (wpAny_bind (wpAny_bind (wpAny_loadPart (s := { s with toks := s.toks + 1 }) hx (wpAny_bind (Looks.here (s := { s with toks := s.toks + 1 }) (looks_clsIn I.kIn hc) ?_))))))
  rw [hd']
  refine wpAny_bind (wpAny_alloc (s := { s with toks := s.toks + 1 }) ?_)
  refine wpAny_bind (wpAny_update (s := { s with heap := s.heap.push emptyDict, toks := s.toks + 1 }) hx1 ?_)
  refine wpAny_pure (a := some s.heap.objs.size) (wpAny_bind (wpAny_pure (wpAny_bind ?_)))
  refine wpAny_nsSet1 (s := { s with heap := (s.heap.push emptyDict).update y fun o => { o with dict := some s.heap.objs.size }, toks := s.toks + 1 }) hD2 fun h' hn2 hs2 => ?_
  obtain ⟨oD, esD, epD, hoD, hdD, hcD⟩ := hn2.count (PySem.Within.cons f u PySem.Within.nil)
  refine wpAny_bind (wpAny_lookBehind hoD (by rw [hdD]; exact pastItsLine_dict (Nat.le_trans hcD (by rw [List.length_cons, List.length_nil, sizeLine_eq]; omega))) ?_)
  have mu : Mut (upd (upd H s.heap.objs.size (isN s.heap.objs.size [])) y (isXo C y (some s.heap.objs.size)) s.heap.objs.size) := by rw [upd_ne (Ne.symm hys), upd_same]; trivial
  have I3 := I2.write (x := s.heap.objs.size) (e := s.heap.objs.size) (o := isN s.heap.objs.size [(f, v)]) (h' := h') (t' := s.toks + 1 + 1) mu (.inl rfl) (fun b o hb q => (hs2.2 b hb).trans q) ⟨_, hoD⟩ (isN_ok hn2 fun g => relO_put (fs := []) (mA := fun _ => none) (fun _ => True.intro) ru g)
  refine wpAny_pure (h _ _ hDn (Ne.symm hys) ?_)
  have eH : upd (upd (upd H s.heap.objs.size (isN s.heap.objs.size [])) y (isXo C y (some s.heap.objs.size))) s.heap.objs.size (isN s.heap.objs.size [(f, v)]) = upd (upd H s.heap.objs.size (isN s.heap.objs.size [(f, v)])) y (isXo C y (some s.heap.objs.size)) := by
    funext b
    by_cases h1 : b = s.heap.objs.size
    · subst h1
      rw [upd_same, upd_ne (Ne.symm hys), upd_same]
    · rw [upd_ne h1]
      by_cases h2 : b = y
      · subst h2
        rw [upd_same, upd_same]
      · rw [upd_ne h2, upd_ne h1, upd_ne h2, upd_ne h1]
  rw [eH] at I3
  exact I3
theorem setx1 (I : Inv X pins σ H s) (hy : H y = some (isXo C y (some D))) (hD : H D = some (isN D fs)) (F : XSet X.K C) (n : NoAttr X.K C f) (hl : fs.length < 1000) (ru : RelV v u)
    (h : ∀ s', Inv X pins σ (upd H D (isN D (putF f v fs))) s' → Q () s') : wpAny (model X.prog X.w) A (setAttr (.ref y) f u) Q E s := by
  obtain ⟨t, hx⟩ := I.isXo hy
  obtain ⟨mA, hns, hr⟩ := (I.hok D _ hD).1
  obtain ⟨cd, hc, hd'⟩ := any_some F.hd
  obtain ⟨oD, esD, epD, hoD, _⟩ := id hns
  have wi : PySem.Within mA (fs.map (·.1)) := fun g hg => by
    by_cases q : g ∈ fs.map (·.1)
    · exact q
    · refine absurd ?_ hg
      have : fs.lookup g = none := by
        rw [List.lookup_eq_none_iff]
        intro p hp
        simp only [bne_iff_ne, ne_eq, beq_eq_false_iff_ne]
        exact fun e => q (List.mem_map.mpr ⟨p, hp, e.symm⟩)
      exact RelO.none_of (by rw [← this]; exact hr g)
  refine setattr_x F I.kIn (od := some oD) ⟨hx, rfl, rfl, hoD⟩ n ?_
  refine wpAny_bind (wpAny_pure (wpAny_bind (wpAny_bind (wpAny_loadPart (s := { s with toks := s.toks + 1 }) hx (wpAny_bind (Looks.here (s := { s with toks := s.toks + 1 }) (looks_clsIn I.kIn hc) ?_))))))
  rw [hd']
  refine wpAny_pure (a := some D) (wpAny_bind (wpAny_pure (wpAny_bind ?_)))
  refine wpAny_nsSet1 (s := { s with toks := s.toks + 1 }) hns fun h' hn2 hs2 => ?_
  obtain ⟨oE, esE, epE, hoE, hdE, hcE⟩ := hn2.count (PySem.Within.cons f u wi)
  refine wpAny_bind (wpAny_lookBehind hoE (by rw [hdE]; exact pastItsLine_dict (Nat.le_trans hcE (by rw [List.length_cons, List.length_map, sizeLine_eq]; omega))) ?_)
  exact wpAny_pure (h _ (I.write (x := D) (e := D) (by rw [hD]; trivial) (.inl rfl) (fun b o hb q => (hs2.2 b hb).trans q) ⟨_, hoE⟩ (isN_ok hn2 fun g => relO_put hr ru g)))
end
def sXf (K : Frag) (ta tv : TE) (f : Str) : TS := fun D σ H => tv σ H fun v H1 => ta σ H1 fun x H2 => ∃ y C, x = .ref y ∧ XSet K C ∧ NoAttr K C f ∧
  ((H2 y = some (isXo C y none) ∧ ∀ d, H2 d = none → d ≠ y → D.nx σ (upd (upd H2 d (isN d [(f, v)])) y (isXo C y (some d)))) ∨ ∃ d fs, H2 y = some (isXo C y (some d)) ∧ H2 d = some (isN d fs) ∧ fs.length < 1000 ∧ D.nx σ (upd H2 d (isN d (putF f v fs))))
theorem ps_xfld {X : Cx} {o value : Expr} {f : Str} {pos pos' : Pos} {ta tv : TE} (ha : PE X o ta) (hv : PE X value tv) (hs : swapsWith value (some (.Attribute o f pos')) pos.line X.env = pure false := by rfl) : PS X (.Assign [.Attribute o f pos'] value pos) (sXf X.K ta tv f) := by
  intro pins s σ H D I h
  refine plainObj_wpAny_Assign_Attribute (thn (hv pins s σ H _ I h) fun u s1 ⟨v, H1, I1, ru, q⟩ => thn (ha pins s1 σ H1 _ I1 q) fun ov s2 ⟨x, H2, I2, rx, y, C, ex, F, n, q2⟩ => ?_) hs
  subst ex
  obtain rfl : ov = Value.ref y := rx
  rcases q2 with ⟨hy, q2⟩ | ⟨d, fs, hy, hd, hl, q2⟩
  · exact setx0 I2 hy F n ru fun D' s3 n1 n2 I3 => ⟨σ, _, I3, q2 D' n1 n2⟩
  · exact setx1 I2 hy hd F n hl ru fun s3 I3 => ⟨σ, _, I3, q2⟩
end L2

namespace L2
open PySem PySem.Calls PySem.Spec PyProof.Rows PySem.W PySem.Builtin PySem.Builtin.ObjectAttr
section
variable {prog : Program} {w : World} {A : Around} {E : Value → Shared → Prop} {s : Shared} {K : Frag} {y C : Addr} {ox : Obj} {od : Obj} {name : Str} {v : Value} {Q : Value → Shared → Prop} {expr : Bool}
theorem exc_field (F : XIs K C) (hh : hasDictIn K C = true) (X : K.In s.heap) (J : InstAt s.heap y ox C (some od)) (hn : findIn K (.ref C) name = some none) (hl : lookIn name od = some (some v)) (hv : handedIn v = true)
    (h : Q v { s with toks := s.toks + 1 }) : wpAny (model prog w) A (getAttr (.ref y) name expr) Q E s := by
  obtain ⟨hp, g, d, t, os⟩ := s
  have L0 := J.type (M := model prog w)
  have L1 := looks_findIn (M := model prog w) X F.ga
  have L2 := looks_find (M := model prog w) X J (findObj_own hh hn rfl hl)
  have L3 := looks_findIn (M := model prog w) X F.gh
  have L4 : Looks (model prog w) hp (isSubtype (.ref C) (.type "BaseException")) true := looks_subIn X F.sb
  have B1 := PySem.F.excAttr_ValueError.ga.bind (.ref y)
  have ho := handedOut_of hv
  unfold getAttr getAttrBy
  refine wpAny_bind (wpAny_mkText (wpAny_holding (wpAny_bind (L0.at (wpAny_bind (L1.at ?_))))))
  show wpAny _ _ (getAttrByItsOwn _ _ _ _ _ _) _ _ _
  unfold getAttrByItsOwn hookBefore
  refine wpAny_bind (L3.at ?_)
  refine wpAny_bind (wpAny_attempt (wpAny_holding ?_))
  have e0 : (expr && onTheHeap (Value.builtin "BaseException.__getattribute__")) = false := by cases expr <;> rfl
  unfold callGetattribute
  rw [e0]
  show wpAny _ _ (boundAndCalled _ _ _) _ _ _
  unfold boundAndCalled
  refine wpAny_bind (wpAny_of_eq B1 ?_)
  refine wpAny_call (codeAny_call_builtin PySem.F.excAttr_ValueError.ga.plain PySem.F.entry_bexc_ga (exc_ga_check L0 L4 ?_))
  unfold Builtin.«object.__getattribute__»
  refine wpAny_bind (wpAny_pure ?_)
  refine wpAny_bind (wpAny_pure (wpAny_bind (L0.at (wpAny_bind (L2.at ?_)))))
  refine wpAny_pure ?_
  show wpAny _ _ (handedOut v) _ _ _
  rw [ho]
  exact wpAny_pure h
end
def tXf (K : Frag) (ta : TE) (f : Str) : TE := fun σ H Q => ta σ H fun x H1 => ∃ y C d fs v, x = .ref y ∧ H1 y = some (isL C y (some d)) ∧ H1 d = some (isN d fs) ∧ XIs K C ∧ hasDictIn K C = true ∧ NoAttr K C f ∧ fs.lookup f = some v ∧ Q v H1
theorem pe_xfld {X : Cx} {e : Expr} {f : Str} {pos : Pos} {ta : TE} (he : PE X e ta) (hb : attributeBase e f X.env (eval e X.env) = eval e X.env := by rfl) : PE X (.Attribute e f pos) (tXf X.K ta f) := by
  intro pins s σ H Q I h
  refine attr_of hb (thn (he pins s σ H _ I h) fun u s1 ⟨x, H1, I1, rx, y, C, d, fs, v, ex, hy, hd, F, hh, n, hl, q⟩ => ?_)
  subst ex
  obtain rfl : u = Value.ref y := rx
  obtain ⟨⟨ob, e1, e2, e3, vs, e4⟩, _⟩ := I1.hok y _ hy
  obtain ⟨mA, hns, hr⟩ := (I1.hok d _ hd).1
  obtain ⟨od, hod, hlk⟩ := lookIn_ns hns
  obtain ⟨u', hu, ru⟩ := RelO.some_of (v := v) (o := mA f) (by rw [← hl]; exact hr f)
  obtain ⟨oc, odi, oda, osl⟩ := ob
  dsimp only at e2 e3 e4
  subst e2 e3 e4
  exact exc_field F hh I1.kIn (od := od) ⟨e1, rfl, rfl, hod⟩ n (by rw [hlk, hu]) (handed_of ru) ⟨v, H1, I1.tok _, ru, q⟩
section
variable {X : Cx} {e : Expr} {pos : Pos} {te : TE}
theorem pe_fv (he : PE X e te) : PE X (.FormattedValue e (-1) none pos) (fun σ H Q => te σ H fun v H1 => ∃ i : Int, v = .int i ∧ i.natAbs.log2 < 1920 ∧ ∀ x : Str, x.length ≤ 2000 → Q (.str x) H1) := by
  intro pins s σ H Q I h
  refine PyProof.Rows.FormattedValue_plain (thn (he pins s σ H _ I h) fun u s1 ⟨v, H1, I1, rv, i, ev, hi, q⟩ => ?_)
  subst ev
  obtain ⟨t, rfl⟩ := rv
  refine PyProof.Rows.formatField_int_small hi ⟨.str (Str.ofString (toString i)), H1, I1.tok _, ⟨_, rfl⟩, q _ ?_⟩
  have := int_text_length_le (a := i) (k := 1920) (by decide) hi
  rw [PySem.ofString_length]
  omega
def PJ (X : Cx) (es : List Expr) (t : Str → TE) : Prop := ∀ (out : Str) (pins : List (Addr × Obj)) (s : Shared) (σ : St) (H : Hp) (Q : VK), Inv X pins σ H s → out.length ≤ sizeLine → t out σ H Q → wpAny (model X.prog X.w) X.A (joinParts out (evalEach es X.env)) (EP X pins σ Q) X.xe s
theorem pj_nil : PJ X [] (fun out _ H Q => Q (.str out) H) := by
  intro out pins s σ H Q I hz h
  exact PyProof.Rows.joinParts_nil (s := s) ⟨.str out, H, I.tok _, ⟨_, rfl⟩, h⟩ hz
theorem pj_cons {es : List Expr} {t : Str → TE} (he : PE X e te) (hs : PJ X es t) : PJ X (e :: es) (fun out σ H Q => te σ H fun v H1 => ∃ x : Str, v = .str x ∧ (out ++ x).length ≤ sizeLine ∧ t (out ++ x) σ H1 Q) := by
  intro out pins s σ H Q I hz h
  refine PyProof.Rows.joinParts_cons (x := eval e X.env) (rest := evalEach es X.env) (thn (he pins s σ H _ I h) fun u s1 ⟨v, H1, I1, rv, x, ev, hx, q⟩ => ?_)
  subst ev
  obtain ⟨t', rfl⟩ := rv
  exact ⟨hx, hs _ pins s1 σ H1 Q I1 hx q⟩
theorem pe_fstr {e2 : Expr} {es : List Expr} {t : Str → TE} (h : PJ X (e :: e2 :: es) t) : PE X (.JoinedStr (e :: e2 :: es) pos) (t Str.empty) := by
  intro pins s σ H Q I q
  exact PyProof.Rows.JoinedStr_many (h Str.empty pins s σ H Q I (Nat.zero_le _) q)
end
end L2

namespace L2
open PySem PySem.Spec PyProof.Rows
section
variable {X : Cx}
def CDivW (_ j : Int) : Prop := 0 < j ∧ j.natAbs.log2 < 9000
theorem op_fdivW : OpR X (binaryOp .FloorDiv) (rI CDivW fun i j => .int (i / j)) := opI fun i j _ _ _ _ _ hc q => by
  have h1 : (0 : Int) < j := hc.1
  have e := Int.fdiv_eq_ediv_of_nonneg i (Int.le_of_lt h1)
  exact floordiv_int (Int.ne_of_gt h1) (e ▸ q) (.inl (PyProof.noPylong_of_log2 hc.2))
theorem nums_at {ns : List Int} {its : List Value} {zs : Array (Int × Tok)} (rv : Vals (ns.map V.int) its) (e : its.toArray = intItems zs) : zs.size = ns.length ∧ ∀ i (h : i < ns.length), numAt zs i = ns[i] := by
  have hl : zs.size = ns.length := by
    have h1 : its.toArray.size = zs.size := by rw [e]; simp [intItems]
    have h2 := rv.length
    rw [List.length_map] at h2
    rw [List.size_toArray] at h1
    omega
  refine ⟨hl, fun i h => ?_⟩
  obtain ⟨u, e1, t, e2⟩ := rv.get (i := i) (x := V.int ns[i]) (by simp [h])
  have e3 : (intItems zs)[i]? = some u := by rw [← e]; simpa using e1
  obtain ⟨t', e4⟩ := intItems_at e3
  rw [e2] at e4
  injection e4 with e5 _
  exact e5.symm
end
theorem gname_in' {i : Nat} {v : V} {σ : St} {H : Hp} {Q : St → Hp → Prop} (h : Q (σ.set i (some v)) H) : gName i v σ H Q := h
theorem seq_inv' {a R : TS} {D : Ends} {σ : St} {H : Hp} (Inv : St → Hp → Prop) (h : ∀ D' : Ends, (∀ σ H, Inv σ H → D'.nx σ H) → a D' σ H) (hk : ∀ σ H, Inv σ H → R D σ H) : tSeq a R D σ H := h _ hk
end L2

namespace L2
open PySem PySem.Spec PyProof.Rows PySem.AutoSeq1
section
variable {X : Cx} {es : List Expr} {kt : Nat} {tp : Pos}
end
section
variable {K : PySem.W.Frag} {g : TG} {tc : TT} {te : TE} {σ : St} {H : Hp} {R : List V → Hp → Prop}
end
end L2

namespace L2
open PySem PySem.Spec PyProof.Rows
section
variable {X : Cx}
end
end L2

namespace L2
open PySem PySem.Spec PyProof.Rows PySem.AutoSeq1
end L2
namespace L2
open PySem PySem.Spec PyProof.Rows
section
variable {X : Cx} {es : List Expr} {kt : Nat} {tp : Pos}
end
section
variable {K : PySem.W.Frag} {g : TG} {tc : TT} {te : TE} {σ : St} {H : Hp} {R : List V → Hp → Prop}
end
end L2

namespace L2
open PySem PySem.Spec PyProof.Rows
theorem mxd_args (a v : Value) : argsOk "max" ⟨[a], [(Str.ofString "default", v)]⟩ := by unfold argsOk; kernel_rfl
section
variable {prog : Program} {w : World} {A : Around} {R : Result → Shared → Prop} {it B : Addr} {fp wr : List Addr} {n : Nat} {P : Nat → Value → Prop} {St : Nat → Heap → Prop} {bt : Nat → Nat → Bool} {dn : Str} {dv : Value}
abbrev bestObj (vs : Array Value) (c : Nat) : Obj := { cls := .type "list", dict := none, data := .seq vs c, slots := #[] }
theorem mx_name : (toString "max" ++ toString ".loop" : String) = "max.loop" := by decide
theorem mxd_on (W : Walks prog w A.in1 it fp wr n P St) (cmp : CmpOf prog w A.in1 .Gt P bt) (nB : B ∉ fp) : ∀ (k j : Nat) (t : Shared) (best : Value) (c : Nat), n = j + 1 + k → St (j + 1) t.heap → P (argBest bt j) best → t.heap.get? B = some (bestObj #[best, best] c) →
    (∀ v g tk, P (argBest bt (n - 1)) v → (∀ b o, b ∉ wr → b ≠ B → t.heap.get? b = some o → g.get? b = some o) → R (.ok (.ret v)) { t with heap := g, toks := tk }) → codeAny (model prog w) A (.builtin "max.loop" ⟨[.ref it, .none, .ref B], [(dn, dv)]⟩) R t := by
  have nw : B ∉ wr := fun z => nB (W.sub _ z)
  intro k
  induction k with
  | zero =>
    intro j t best c e st pb hB fin
    refine codeAny_builtin F.entry_max_loop ?_
    rw [Around.under_plainId F.plain_max_loop _]
    show wpAny _ A.in1 (seqItems? (.ref B) >>= _) _ _ t
    refine wpAny_bind (wpAny_seqItems hB rfl ?_)
    show wpAny _ A.in1 (tryCatch (pyNext (.ref it)) _ >>= _) _ _ t
    refine wpAny_bind (wpAny_tryCatch (W.done t _ _ (by rw [e]; exact st) fun g tk kp => ?_))
    have hB1 := kp B _ nw hB
    show wpAny _ A.in1 (updateSeq B (fun _ => #[]) >>= _) _ _ _
    refine wpAny_bind (wpAny_updateSeq hB1 rfl (wpAny_bind (wpAny_letGo (wpAny_pure ?_))))
    exact fin best _ tk (by rw [e]; exact pb) fun b o b1 b2 q => (Heap.get?_update_other _ _ (Ne.symm b2)).trans (kp b o b1 q)
  | succ k ih =>
    intro j t best c e st pb hB fin
    refine codeAny_builtin F.entry_max_loop ?_
    rw [Around.under_plainId F.plain_max_loop _]
    show wpAny _ A.in1 (seqItems? (.ref B) >>= _) _ _ t
    refine wpAny_bind (wpAny_seqItems hB rfl ?_)
    show wpAny _ A.in1 (tryCatch (pyNext (.ref it)) _ >>= _) _ _ t
    refine wpAny_bind (wpAny_tryCatch (W.item (j + 1) t _ _ (by omega) st fun v g tk pv st' kp => ?_))
    have hB1 := kp B _ nw hB
    show wpAny _ A.in1 (tryCatch (holding [v, v] (richCompare .Gt v best >>= _)) _ >>= _) _ _ _
    refine wpAny_bind (wpAny_tryCatch (wpAny_holding (wpAny_bind (cmp (j + 1) (argBest bt j) v best _ _ _ pv pb ?_))))
    refine wpAny_bind (wpAny_holding (wpAny_truthy_bool (wpAny_bind (wpAny_letGo (wpAny_pure ?_)))))
    cases hb : bt (j + 1) (argBest bt j) with
    | true =>
      simp only [if_true]
      refine wpAny_bind (wpAny_updateSeq hB1 rfl (wpAny_bind (wpAny_letGo ?_)))
      rw [mx_name]
      refine wpAny_pure ⟨plainId_quiet F.plain_max_loop _, ih (j + 1) _ v _ (by omega) (W.frame _ _ _ st' fun b q o z => ?_) (by simp only [argBest, hb, if_true]; exact pv) (Heap.get?_update_self _ hB1 rfl) fun u g' tk' pu kp' => ?_⟩
      · exact (Heap.get?_update_other _ _ (fun y : B = b => nB (by rw [y]; exact q))).trans z
      · exact fin u g' tk' pu fun b o b1 b2 z => kp' b o b1 b2 ((Heap.get?_update_other _ _ (Ne.symm b2)).trans (kp b o b1 z))
    | false =>
      simp only [Bool.false_eq_true, if_false]
      refine wpAny_bind (wpAny_letGo ?_)
      rw [mx_name]
      refine wpAny_pure ⟨plainId_quiet F.plain_max_loop _, ih (j + 1) _ best c (by omega) st' (by simp only [argBest, hb, Bool.false_eq_true, if_false]; exact pb) hB1 fun u g' tk' pu kp' => ?_⟩
      exact fin u g' tk' pu fun b o b1 b2 z => kp' b o b1 b2 (kp b o b1 z)
theorem mxd_first (W : Walks prog w A.in1 it fp wr n P St) (cmp : CmpOf prog w A.in1 .Gt P bt) (nB : B ∉ fp) (hn : 0 < n) {t : Shared} {c : Nat} (st : St 0 t.heap) (hB : t.heap.get? B = some (bestObj #[] c))
    (fin : ∀ v g tk, P (argBest bt (n - 1)) v → (∀ b o, b ∉ wr → b ≠ B → t.heap.get? b = some o → g.get? b = some o) → R (.ok (.ret v)) { t with heap := g, toks := tk }) : codeAny (model prog w) A (.builtin "max.loop" ⟨[.ref it, .none, .ref B], [(dn, dv)]⟩) R t := by
  have nw : B ∉ wr := fun z => nB (W.sub _ z)
  refine codeAny_builtin F.entry_max_loop ?_
  rw [Around.under_plainId F.plain_max_loop _]
  show wpAny _ A.in1 (seqItems? (.ref B) >>= _) _ _ t
  refine wpAny_bind (wpAny_seqItems hB rfl ?_)
  show wpAny _ A.in1 (tryCatch (pyNext (.ref it)) _ >>= _) _ _ t
  refine wpAny_bind (wpAny_tryCatch (W.item 0 t _ _ hn st fun v g tk pv st' kp => ?_))
  have hB1 := kp B _ nw hB
  show wpAny _ A.in1 (updateSeq B (fun _ => #[v, v]) >>= _) _ _ _
  refine wpAny_bind (wpAny_updateSeq hB1 rfl ?_)
  rw [mx_name]
  refine wpAny_pure ⟨plainId_quiet F.plain_max_loop _, mxd_on W cmp nB (n - 1) 0 _ v _ (by omega) (W.frame _ _ _ st' fun b q o z => ?_) pv (Heap.get?_update_self _ hB1 rfl) fun u g' tk' pu kp' => ?_⟩
  · exact (Heap.get?_update_other _ _ (fun y : B = b => nB (by rw [y]; exact q))).trans z
  · exact fin u g' tk' pu fun b o b1 b2 z => kp' b o b1 b2 ((Heap.get?_update_other _ _ (Ne.symm b2)).trans (kp b o b1 z))
theorem mxd_none (W : Walks prog w A.in1 it fp wr 0 P St) (nB : B ∉ fp) {t : Shared} {c : Nat} (st : St 0 t.heap) (hB : t.heap.get? B = some (bestObj #[] c))
    (fin : ∀ g tk, (∀ b o, b ∉ wr → t.heap.get? b = some o → g.get? b = some o) → R (.ok (.ret dv)) { t with heap := g, toks := tk }) : codeAny (model prog w) A (.builtin "max.loop" ⟨[.ref it, .none, .ref B], [(dn, dv)]⟩) R t := by
  refine codeAny_builtin F.entry_max_loop ?_
  rw [Around.under_plainId F.plain_max_loop _]
  show wpAny _ A.in1 (seqItems? (.ref B) >>= _) _ _ t
  refine wpAny_bind (wpAny_seqItems hB rfl ?_)
  show wpAny _ A.in1 (tryCatch (pyNext (.ref it)) _ >>= _) _ _ t
  refine wpAny_bind (wpAny_tryCatch (W.done t _ _ st fun g tk kp => ?_))
  refine wpAny_bind (wpAny_rule (wpAny_pure ?_))
  exact fin g tk kp
end
section
variable {X : Cx}
end
end L2

namespace L2
open PySem PySem.Spec PyProof.Rows
section
variable {X : Cx}
theorem max_dfltT (hc : X.calm = true) {pins : List (Addr × Obj)} {s : Shared} {σ : St} {H : Hp} {p : Addr} {ns : List Int} {d : V} {dv : Value} {Q : VK} (I : Inv X pins σ H s) (hq : SqT X.K H p (ns.map V.int)) (rd : RelV d dv)
    (q0 : ns = [] → Q d H) (q : ∀ M, M ∈ ns → (∀ n ∈ ns, n ≤ M) → Q (.int M) H) : wpAny (model X.prog X.w) X.A (call (.builtin "max") [.ref p] [(Str.ofString "default", dv)]) (EP X pins σ Q) X.xe s := by
  obtain ⟨its, rv, pl, hz⟩ := I.tuple hq
  obtain ⟨zs, e⟩ := (intsAre_of rv).allInts.items
  obtain ⟨n1, n2⟩ := nums_at rv e
  have pz := pl
  rw [e] at pz
  have plt : p < s.heap.objs.size := by obtain ⟨_, e, _⟩ := pz; exact Heap.lt_size e
  have hlI : p ≠ s.heap.objs.size := Nat.ne_of_lt plt
  refine kmk_tree F.kind_max F.plain_max F.entry_max (mxd_args _ _) ?_
  show wpAny _ X.A.in1 (Builtin.Builtins.bindParams "max" ["key", "default"] 0 ⟨[], [(Str.ofString "default", dv)]⟩ >>= _) _ _ s
  refine wpAny_bind (wpAny_of_eq (show Builtin.Builtins.bindParams "max" ["key", "default"] 0 ⟨[], [(Str.ofString "default", dv)]⟩ = pure [none, some dv] from rfl) ?_)
  refine wpAny_bind (wpAny_pure ?_)
  refine wpAny_bind (iter_tuple pz ?_)
  refine wpAny_bind (wpAny_newObj_type ?_)
  rw [mx_name]
  refine wpAny_pure ⟨plainId_quiet F.plain_max_loop _, ?_⟩
  have Wk := Walks.tuple (prog := X.prog) (w := X.w) (A := X.A.in1) (I.ok.hd hc) s.heap.objs.size p hlI (intItems zs)
  have size : (intItems zs).size = ns.length := by simp [intItems, n1]
  have nB : (s.heap.push { cls := .type "tuple_iterator", data := .fields #[.ref p, .int 0 0] }).objs.size ∉ [s.heap.objs.size, p] := fun z => by
    rw [Heap.size_push] at z
    rcases List.mem_cons.mp z with z | z
    · exact Nat.succ_ne_self _ z
    · have h := plt
      rw [← List.mem_singleton.mp z] at h
      exact absurd h (Nat.not_lt.mpr (Nat.le_succ _))
  have keep : ∀ {g : Heap}, (∀ b o, b ∉ [s.heap.objs.size] → b ≠ (s.heap.push { cls := .type "tuple_iterator", data := .fields #[.ref p, .int 0 0] }).objs.size → ((s.heap.push { cls := .type "tuple_iterator", data := .fields #[.ref p, .int 0 0] }).push { cls := .type "list", data := .seq #[] }).get? b = some o → g.get? b = some o) →
      ∀ b o, s.heap.get? b = some o → g.get? b = some o := fun k b o q => by
    have lt := Heap.lt_size q
    refine k b o (fun z => ?_) (fun z => ?_) (Heap.get?_push_of_some _ (Heap.get?_push_of_some _ q))
    · rw [List.mem_singleton] at z
      rw [z] at lt
      exact Nat.lt_irrefl _ lt
    · rw [z, Heap.size_push] at lt
      exact absurd lt (Nat.not_lt.mpr (Nat.le_succ _))
  have st0 : ((s.heap.push { cls := .type "tuple_iterator", data := .fields #[.ref p, .int 0 0] }).push { cls := .type "list", data := .seq #[] }).IsTupleIter s.heap.objs.size p 0 := ⟨_, Heap.get?_push_of_some _ (Heap.get?_push_size _ rfl), rfl, rfl⟩
  have st1 : ((s.heap.push { cls := .type "tuple_iterator", data := .fields #[.ref p, .int 0 0] }).push { cls := .type "list", data := .seq #[] }).IsTuple p (intItems zs) := by
    obtain ⟨o, h1, h2⟩ := pz
    exact ⟨o, Heap.get?_push_of_some _ (Heap.get?_push_of_some _ h1), h2⟩
  by_cases h0 : ns = []
  · have z0 : (intItems zs).size = 0 := by rw [size, h0]; rfl
    rw [z0] at Wk
    refine mxd_none Wk nB ⟨st0, st1⟩ (Heap.get?_push_size _ rfl) fun g tk kp => ?_
    exact ⟨d, H, I.kept (keep fun b o b1 _ z => kp b o b1 z), rd, q0 h0⟩
  · have hn : 0 < (intItems zs).size := by
      rw [size]
      exact List.length_pos_iff.mpr h0
    refine mxd_first Wk (CmpOf.ints_gt (numAt zs) (fun _ _ => intItems_at)) nB hn ⟨st0, st1⟩ (Heap.get?_push_size _ rfl) fun v g tk pv kp => ?_
    obtain ⟨t, rfl⟩ := intItems_at pv
    have b := argBest_gt (numAt zs) ((intItems zs).size - 1)
    generalize argBest (fun i j => decide (numAt zs i > numAt zs j)) ((intItems zs).size - 1) = m at b
    have hm : m < ns.length := by omega
    refine ⟨.int (numAt zs m), H, I.kept (keep kp), ⟨t, rfl⟩, q _ ?_ fun n hn => ?_⟩
    · rw [n2 m hm]
      exact List.getElem_mem hm
    · obtain ⟨j, hj, rfl⟩ := List.mem_iff_getElem.mp hn
      rw [← n2 j hj]
      exact b.2 j (by omega)
def tMaxT (K : PySem.W.Frag) (t tk : TA) : TE := fun σ H Q => t σ H fun vs H1 => tk σ H1 fun ds H2 => ∃ (p : Addr) (ns : List Int) (d : V), vs = [.ref p] ∧ ds = [d] ∧ SqT K H2 p (ns.map V.int) ∧ (ns = [] → Q d H2) ∧ ∀ M, M ∈ ns → (∀ n ∈ ns, n ≤ M) → Q (.int M) H2
theorem pe_maxT {e d : Expr} {t tk : TA} {p pos kpos : Pos} (hc : X.calm = true) (hg : Gl X "max") (hm : X.mg "max" = none) (ha : PA X [e] t) (hd : PK X [⟨some (Str.ofString "default"), d, kpos⟩] tk)
    (hks : (backToKw pos (keywordEach [⟨some (Str.ofString "default"), d, kpos⟩] X.env)).filterMap (·.1) = [Str.ofString "default"] := by rfl)
    (h1 : backTo pos (starEach [e] X.env) = (false, eval e X.env) :: backTo pos (starEach [] X.env) := by rfl) (h2 : (backTo pos (starEach [e] X.env)).any (·.1) = false := by rfl)
    (h3 : (backToKw pos (keywordEach [⟨some (Str.ofString "default"), d, kpos⟩] X.env)).all (·.1.isSome) = true := by rfl) (h4 : (backToKw pos (keywordEach [⟨some (Str.ofString "default"), d, kpos⟩] X.env)).any (·.1.isNone) = false := by rfl) :
    PE X (.Call (.Name "max" p) [e] [⟨some (Str.ofString "default"), d, kpos⟩] pos) (tMaxT X.K t tk) := by
  intro pins s σ H Q I h
  refine wpAny_Call_Name_kw (ld_blt I hg hm boot_fmax ?_)
  refine PyProof.Rows.callWith_kw (thn (ha pos pins s σ H _ I h) fun us s1 ⟨vs, H1, I1, r1, q1⟩ => ?_) h1 h2 h3 h4
  refine thn (hd pos pins s1 σ H1 _ I1 q1) fun ws s2 ⟨ds, H2, I2, r2, pp, ns, dd, ev, ed, hq, q0, q⟩ => ?_
  subst ed ev
  obtain ⟨u, rfl, ru⟩ := vals1 r1
  cases ru
  obtain ⟨dv, rfl, rd⟩ := vals1 r2
  rw [hks]
  exact max_dfltT hc I2 hq rd q0 q
end
end L2

namespace L2
open PySem PySem.Spec PyProof.Rows
section
variable {X : Cx}
end
end L2

namespace Tim
open PySem PyProof.Rows
section
variable {L : Keyed → Keyed → Bool}
end
section
variable {prog : Program} {w : World} {A : Around} {E : Value → Shared → Prop} {s : Shared} {κ : SortKind} {a0 : Array Keyed} {L : Keyed → Keyed → Bool}
end
end Tim
namespace Tim
open PySem PyProof.Rows
section
variable {L : Keyed → Keyed → Bool}
variable {a b out : Array Keyed} {ia ib : Nat}
end
section
variable {prog : Program} {w : World} {A : Around} {E : Value → Shared → Prop} {s : Shared} {κ : SortKind} {a0 : Array Keyed} {L : Keyed → Keyed → Bool}
end
end Tim
namespace Tim
open PySem PyProof.Rows
section
variable {L : Keyed → Keyed → Bool}
variable {a b out : Array Keyed} {na nb : Nat}
end
section
variable {prog : Program} {w : World} {A : Around} {E : Value → Shared → Prop} {s : Shared} {κ : SortKind} {a0 : Array Keyed} {L : Keyed → Keyed → Bool}
end
end Tim
namespace Tim
open PySem PyProof.Rows
section
variable {L : Keyed → Keyed → Bool}
end
section
variable {prog : Program} {w : World} {A : Around} {E : Value → Shared → Prop} {s : Shared} {κ : SortKind} {a0 : Array Keyed} {L : Keyed → Keyed → Bool}
end
end Tim
namespace Tim
open PySem PyProof.Rows
section
variable {L : Keyed → Keyed → Bool}
end
section
variable {prog : Program} {w : World} {A : Around} {E : Value → Shared → Prop} {s : Shared} {κ : SortKind} {a0 : Array Keyed} {L : Keyed → Keyed → Bool}
end
end Tim
namespace Tim
open PySem PyProof.Rows
section
variable {prog : Program} {w : World} {A : Around} {E : Value → Shared → Prop} {s : Shared} {κ : SortKind} {a0 : Array Keyed} {L : Keyed → Keyed → Bool}
end
end Tim

namespace L2
open PySem PySem.Calls PySem.Spec PyProof.Rows
section
variable {prog : Program} {w : World} {A : Around} {E : Value → Shared → Prop} {s : Shared}
end
section
variable {X : Cx}
end
end L2

namespace L2
open PySem PySem.Calls PySem.Spec PyProof.Rows
section
variable {X : Cx}
end
end L2

namespace L2
open PySem PySem.Calls PySem.Spec PyProof.Rows PySem.W
section
variable {X : Cx} {k i : Nat} {x : Str} {ps : List Str} {sp : Sp} {p pos : Pos} {e : Expr} {es : List Expr} {t : TA} {f : Addr} {fd : FuncData}
end
end L2

namespace L2
open PySem PySem.Calls PySem.Spec PyProof.Rows
section
variable {X : Cx} {A : Around}
end
end L2

namespace L2
open PySem PySem.Calls PySem.Spec PyProof.Rows
section
variable {X : Cx}
end
end L2

namespace L2
open PySem PySem.Spec PyProof.Rows
end L2

namespace L2
open PySem PySem.Calls PySem.Spec PyProof.Rows PySem.W
section
variable {X : Cx} {pos : Pos}
end
end L2

namespace Hk
open PySem L2 PySem.W
structure FldsOf (K : Frag) (C : Addr) (fs : List Str) : Prop where
  xs : XSet K C
  no : ∀ f ∈ fs, NoAttr K C f
def EX (C : Addr) (fs : List (Str × V)) (H : Hp) (E : XK) : Prop := ∀ D H', Same H H' → H D = none → H' D = some (isN D fs) → E (.ref C) (some D) H'
theorem EX.mono {C : Addr} {fs : List (Str × V)} {H H1 : Hp} {E : XK} (h : EX C fs H E) (s : Same H H1) : EX C fs H1 E := fun D H' s' n e => h D H' (s.trans s') (by
  cases z : H D with
  | none => rfl
  | some o => rw [s _ _ z] at n; cases n) e
theorem EX.fly {C y D : Addr} {fs : List (Str × V)} {H H2 : Hp} {o : HO} {E : XK} (h : EX C fs H E) (hy : H y = none) (hD : upd H y o D = none) (hne : D ≠ y) (h2 : H2 D = some (isN D fs)) (same : ∀ b, b ≠ y → b ≠ D → H2 b = upd H y o b) : E (.ref C) (some D) (hole H2 y) := by
  rw [upd_ne hne] at hD
  refine h D _ (fun b u e => ?_) hD (by rw [hole_ne hne]; exact h2)
  have n1 : b ≠ y := fun z => by rw [z, hy] at e; cases e
  have n2 : b ≠ D := fun z => by rw [z, hD] at e; cases e
  rw [hole_ne n1, same b n1 n2, upd_ne n1]
  exact e
theorem pe_xf {X : Cx} (K : Frag) {e : Expr} {f : Str} {pos : Pos} {ta : TE} (he : PE X e ta) (hK : X.K = K := by rfl) (hb : attributeBase e f X.env (eval e X.env) = eval e X.env := by rfl) : PE X (.Attribute e f pos) (tXf K ta f) := by
  subst hK
  exact pe_xfld he hb
end Hk

namespace L2
open PySem PySem.Calls PySem.Spec PyProof.Rows PySem.W
section
variable {X : Cx} {e : Expr} {es : List Expr} {pos : Pos}
def PAx (X : Cx) (es : List Expr) (t : XK → TA) : Prop :=
  ∀ (E : XK) (pos : Pos) (pins : List (Addr × Obj)) (s : Shared) (σ : St) (H : Hp) (Q : List V → Hp → Prop), Inv X pins σ H s → t E σ H Q → wpAny (model X.prog X.w) X.A (spliced (backTo pos (starEach es X.env))) (AP X pins σ Q) (XL X pins σ E) s
theorem pax_nil : PAx X [] (fun _ => tNil) := by
  intro E pos pins s σ H Q I h
  exact wpAny_mono ((pa_nil (X := X.nox)) pos pins s σ H Q (I.wish _) h) (fun us s1 ⟨xs, H1, I1, r, q⟩ => ⟨xs, H1, I1.unwish, r, q⟩) fun _ _ z => z.elim
theorem pax_cons {te : TE} {t : XK → TA} (ha : PE X.nox e te) (hr : PAx X es t) (hs : starEach (e :: es) X.env = (false, eval e X.env) :: starEach es X.env := by rfl) : PAx X (e :: es) (fun E => tCons te (t E)) := by
  intro E pos pins s σ H Q I h
  rw [hs]
  show wpAny _ _ (spliced ((false, eval e X.env) :: backTo pos (starEach es X.env))) _ _ s
  refine Calls.spliced_cons (wpAny_mono (ha pins s σ H _ (I.wish _) h) (fun u s1 z => ?_) fun _ _ z => z.elim)
  obtain ⟨x, H1, I1, r1, q1⟩ := z
  exact thn (hr E pos pins s1 σ H1 _ I1.unwish q1) fun us s2 ⟨xs, H2, I2, r2, q2⟩ => ⟨x :: xs, H2, I2, .cons r1 r2, q2⟩
theorem pax_one {te : XK → TE} (ha : PEx X e te) (hs : starEach (e :: []) X.env = (false, eval e X.env) :: starEach [] X.env := by rfl) : PAx X [e] (fun E => tCons (te E) tNil) := by
  intro E pos pins s σ H Q I h
  rw [hs]
  show wpAny _ _ (spliced ((false, eval e X.env) :: backTo pos (starEach [] X.env))) _ _ s
  refine Calls.spliced_cons (thn (ha E pins s σ H _ I h) fun u s1 ⟨x, H1, I1, r1, q1⟩ => ?_)
  exact thn (pax_nil E pos pins s1 σ H1 _ I1 q1) fun us s2 ⟨xs, H2, I2, r2, q2⟩ => ⟨x :: xs, H2, I2, .cons r1 r2, q2⟩
theorem pex_tup {x1} {t : XK → TA} (h : PAx X es t) : PEx X (.Tuple es x1 pos) (fun E => tTup (t E)) := by
  intro E pins s σ H Q I hq
  refine wpAny_Tuple_spliced (thn (h E pos pins s σ H _ I hq) fun us s1 ⟨xs, H1, I1, r, z, q⟩ => ⟨by rw [← r.length]; exact z, ?_⟩)
  have hf : H1 s1.heap.objs.size = none := I1.hok.fresh (Nat.le_refl _)
  refine ⟨.ref s1.heap.objs.size, upd H1 s1.heap.objs.size (.tup xs), I1.laid (t' := s1.toks) (fun b u e => Heap.get?_push_of_some _ e) (Nat.le_refl _) ?_, rfl, q _ hf⟩
  exact ⟨z, us, r, ⟨_, Heap.get?_push_size _ rfl, rfl, _, rfl⟩⟩
end
section
variable {X : Cx} {A : Around}
end
end L2

namespace L2
open PySem PySem.Spec PyProof.Rows
section
variable {X : Cx} {tg : Expr}
end
section
variable {g : TG} {tc : TT} {te : TE} {σ : St} {H : Hp} {R : List V → Hp → Prop}
end
end L2

namespace L2
open PySem PySem.Calls PySem.Spec PyProof.Rows
section
variable {X : Cx}
end
end L2

namespace L2
open PySem PySem.Calls PySem.Spec PyProof.Rows
section
variable {X : Cx} {tg : Expr}
end
end L2

namespace L2
open PySem PySem.Calls PySem.Spec PyProof.Rows
section
variable {prog : Program} {w : World} {A : Around} {E : Value → Shared → Prop} {s : Shared}
end
section
variable {X : Cx}
end
end L2

namespace L2
open PySem PySem.Spec PyProof.Rows
section
variable {X : Cx} {tg : Expr}
end
end L2

namespace L2
open PySem PySem.Spec PyProof.Rows
section
variable {X : Cx} {N : List Str} {src : List (Option Nat)} {scope : Scope} {cl : List (Str × Addr)} {z : Str} {pins : List (Addr × Obj)} {σ : St} {H : Hp} {s : Shared}
end
end L2

namespace L2
open PySem PySem.Calls PySem.Spec PyProof.Rows
end L2

namespace L2
open PySem PySem.Calls PySem.Spec PyProof.Rows PySem.W
section
variable {X : Cx} {pos : Pos}
def PSSx (X : Cx) (sts : List Stmt) (t : XK → TS) : Prop := ∀ (E : XK) (pins : List (Addr × Obj)) (s : Shared) (σ : St) (H : Hp) (D : Ends), Inv X pins σ H s → t E D σ H → wpAny (model X.prog X.w) X.A (execs sts X.env) (SP X pins D) (XL X pins σ E) s
theorem pssx_one {st : Stmt} {t : XK → TS} (h : PSx X st t) : PSSx X [st] t := by
  intro E pins s σ H D I q
  refine wpAny_execs_cons (thn (h E pins s σ H _ I q) fun f s2 q2 => ?_)
  cases f with
  | next => exact wpAny_execs_nil q2
  | ret u => exact q2
  | brk => exact q2
  | cont => exact q2
variable {b₀ : Stmt} {sts suite : List Stmt} {i : Nat} {n c : Str} {pc hpos : Pos} {W : Addr} {tb : XK → TS} {th : TS}
theorem ps_tryS (hb : PSSx X sts tb) (hg : Gl X c) (hm : X.mg c = some (.ref W)) (hN : X.N.Nodup) (hi : X.N[i]? = some n) (hn : X.env.scope.names.lookup n = some .local) (hh : ∀ y, PSs (hX X y) (b₀ :: suite) th)
    (hstk : X.stack = X.env :: X.outer) (hfr : X.env.frame = some X.env.locals) (hdb : (c == ("__debug__" : Str)) = false := by decide) :
    PS X (.Try sts [.ExceptHandler (some (.Name c pc)) (some n) (b₀ :: suite) hpos] [] [] pos) (tTry X.K W i tb th) := by
  intro pins s σ H D I h
  refine wpAny_Try_except ?_
  refine wpAny_mono (hb _ pins s σ H D I h) (Q := SP X pins D) (fun f s1 q => ?_) (fun e s1 q => ?_)
  · cases f with
    | next => exact wpAny_execs_nil q
    | ret u => exact q
    | brk => exact q
    | cont => exact q
  · obtain ⟨H1, s0, I1, y, cls, dct, H', rfl, fl, C, rfl, hx, hq⟩ := q
    obtain ⟨B, a0, hf, mv⟩ := fl.slots
    rw [hstk] at hf
    refine wpAny_mono (wpAny_kd (kd_note _ _) (wpAny_looks_onW (Q := fun _ s2 => ∃ h4, s2 = { s1 with heap := h4 } ∧ Heap.HeldW B (X.env :: X.outer) y (.ref C) a0 X.env.locals h4 ∧ s1.heap.UpToSlots h4) (L := X.env.locals) (I.ok.frames.trans (by rw [hstk])) hfr hf fun h4 hh4 sm4 => ⟨h4, rfl, hh4, sm4⟩)) (fun _ s2 z => ?_) fun _ _ z => z
    obtain ⟨⟨h4, rfl, hh4, sm4⟩, kd4⟩ := z
    refine wpAny_mono (wpAny_kd (kd_setFlight _ _) (wpAny_landsW (s := { s1 with heap := h4 }) (Q := fun _ s2 => ∃ h5, s2 = { s1 with heap := h5 } ∧ Heap.FlyingW B (X.env :: X.outer) y (.ref C) a0 h5 ∧ h4.UpToSlots h5) hh4 fun h5 hf5 sm5 => ⟨h5, rfl, hf5, sm5⟩)) (fun _ s2 z => ?_) fun _ _ z => z
    obtain ⟨⟨h5, rfl, hf5, sm5⟩, kd5⟩ := z
    have I5 := fly_inv I1 (mv h5 (by rw [hstk]; exact hf5) (sm4.trans sm5) (kd4.trans kd5))
    refine wpAny_handleBy_cons (codeAny_handlers_test ?_) (by intro q; cases q)
    refine ld_glob (X := hX X y) (I5.hand y) hg hm ?_ hdb
    obtain ⟨ob5, eo5, ec5⟩ := hf5.there
    have LT : Looks (model X.prog X.w) h5 (typeOf (.ref y)) (.ref C) := ec5 ▸ (Looks.ld eo5).andThen .now
    refine (exm_one I5.kIn LT hx).here ?_
    refine codeAny_handlers_suite_as ?_
    refine wpAny_mono (wpAny_kd (kd_setFlight _ _) (lands_againW (s := { s1 with heap := h5 }) (Q := fun _ s2 => ∃ h6, s2 = { s1 with heap := h6 } ∧ Heap.FlyingW B (X.env :: X.outer) y (.ref C) a0 h6 ∧ h5.UpToSlots h6) hf5 fun h6 hf6 sm6 => ⟨h6, rfl, hf6, sm6⟩)) (fun _ s2 z => ?_) fun _ _ z => z
    obtain ⟨⟨h6, rfl, hf6, sm6⟩, kd6⟩ := z
    have fl6 := mv h6 (by rw [hstk]; exact hf6) ((sm4.trans sm5).trans sm6) ((kd4.trans kd5).trans kd6)
    have I6 := fly_inv I1 fl6
    obtain ⟨ob6, eo6, ed6⟩ := fl6.dict
    obtain ⟨ob7, vs7, eo7, ec7, ev7, _⟩ := hf6.first
    obtain rfl : ob7 = ob6 := Option.some.inj (eo7.symm.trans eo6)
    have I7 := I6.adopt (p := y) (o := isL C y dct) (I1.fpOk fl.new fl.gone) (isL_ok eo6 ec7 ed6 ⟨_, ev7⟩)
    refine store_ok (X := X) I7 hN hi (Or.inl hn) (v := .ref y) rfl (fun s8 I8 => ?_) (Or.inr hn)
    refine wpAny_mono (hh y pins s8 _ _ _ (I8.hand y) (hq y fl.gone)) (fun f s9 q9 => ?_) fun _ _ z => z.elim
    have ok := I.ok
    cases f with
    | next =>
      obtain ⟨σ2, H2, J, q⟩ := q9
      exact name_gone (J.unhand ok) hN hi hn fun s' J' => ⟨_, H2, J', q⟩
    | brk =>
      obtain ⟨σ2, H2, J, q⟩ := q9
      exact name_gone (J.unhand ok) hN hi hn fun s' J' => ⟨_, H2, J', q⟩
    | cont =>
      obtain ⟨σ2, H2, J, q⟩ := q9
      exact name_gone (J.unhand ok) hN hi hn fun s' J' => ⟨_, H2, J', q⟩
    | ret u =>
      obtain ⟨v, σ2, H2, J, rv, q⟩ := q9
      exact name_gone (J.unhand ok) hN hi hn fun s' J' => ⟨v, _, H2, J', rv, q⟩
end
section
variable {X : Cx}
end
end L2

namespace L2
open PySem PySem.Calls PySem.Spec PyProof.Rows
section
variable {X : Cx}
end
end L2

namespace PySem.SeqAt
open AutoSeq1 (wpAny_loadPart')
open MeetsSeq
section
variable {A : Around} {s : Shared}
end
end PySem.SeqAt
namespace L2
open PySem PySem.Calls PySem.Spec PyProof.Rows
section
variable {X : Cx}
end
end L2

namespace L2
open PySem PySem.Calls PySem.Spec PyProof.Rows
inductive Tr where
  | non | int (i : Int) | str (x : Str) | tup (l : List Tr) | lst (l : List Tr)
inductive IsV (K : PySem.W.Frag) (H : Hp) (R : V → Tr → Prop) : V → Tr → Prop where
  | non : IsV K H R .non .non
  | bl (b : Bool) : IsV K H R (.bl b) (.int (if b then 1 else 0))
  | int (i : Int) : IsV K H R (.int i) (.int i)
  | str (x : Str) : IsV K H R (.str x) (.str x)
  | tup {a : Addr} {xs : List V} {ts : List Tr} (q : SqT K H a xs) (p : Paired R xs ts) : IsV K H R (.ref a) (.tup ts)
  | lst {a : Addr} {xs : List V} {ts : List Tr} (q : SqL K H a xs) (p : Paired R xs ts) : IsV K H R (.ref a) (.lst ts)
def Is (K : PySem.W.Frag) (H : Hp) : Nat → V → Tr → Prop
  | 0 => IsV K H fun _ _ => False
  | d + 1 => IsV K H (Is K H d)
theorem same_rd {H H' : Hp} {a : Addr} {u : HO} (s : Same H H') (h : Rd H a u) : Rd H' a u := by
  rcases h with h | ⟨o, h⟩
  · exact .inl (s _ _ h)
  · exact .inr ⟨o, s _ _ h⟩
theorem same_sqT {K : PySem.W.Frag} {H H' : Hp} {a : Addr} {xs : List V} (s : Same H H') (h : SqT K H a xs) : SqT K H' a xs := h.imp (same_rd s) id
theorem same_sqL {K : PySem.W.Frag} {H H' : Hp} {a : Addr} {xs : List V} (s : Same H H') (h : SqL K H a xs) : SqL K H' a xs := h.imp (same_rd s) id
theorem IsV.imp {K : PySem.W.Frag} {H H' : Hp} {R R' : V → Tr → Prop} {v : V} {t : Tr} (h : IsV K H R v t) (s : Same H H') (f : ∀ v t, R v t → R' v t) : IsV K H' R' v t := by
  cases h with
  | non => exact .non
  | bl b => exact .bl b
  | int i => exact .int i
  | str x => exact .str x
  | tup q p => exact .tup (same_sqT s q) (Paired.mapP p f)
  | lst q p => exact .lst (same_sqL s q) (Paired.mapP p f)
theorem Is.mono {K : PySem.W.Frag} {H H' : Hp} (s : Same H H') : ∀ {d : Nat} {v : V} {t : Tr}, Is K H d v t → Is K H' d v t
  | 0, _, _, h => IsV.imp h s fun _ _ z => z
  | _ + 1, _, _, h => IsV.imp h s fun _ _ z => Is.mono s z
theorem Is.int {K : PySem.W.Frag} {H : Hp} (i : Int) : ∀ {d : Nat}, Is K H d (.int i) (.int i)
  | 0 => IsV.int i
  | _ + 1 => IsV.int i
theorem Is.str {K : PySem.W.Frag} {H : Hp} (x : Str) : ∀ {d : Nat}, Is K H d (.str x) (.str x)
  | 0 => IsV.str x
  | _ + 1 => IsV.str x
theorem Is.tup {K : PySem.W.Frag} {H : Hp} {d : Nat} {a : Addr} {xs : List V} {ts : List Tr} (q : SqT K H a xs) (p : Paired (Is K H d) xs ts) : Is K H (d + 1) (.ref a) (.tup ts) := IsV.tup q p
theorem tr_eqbool_bool (a b : Bool) : ((a == b) = true) ↔ (Tr.int (if a then 1 else 0) = Tr.int (if b then 1 else 0)) := by cases a <;> cases b <;> simp
theorem tr_eqbool_int (a : Bool) (n : Int) : (((if a then (1 : Int) else 0) == n) = true) ↔ (Tr.int (if a then 1 else 0) = Tr.int n) := by simp
theorem tr_eqint_bool (n : Int) (a : Bool) : ((n == (if a then (1 : Int) else 0)) = true) ↔ (Tr.int n = Tr.int (if a then 1 else 0)) := by simp
theorem tr_eqint_int (m n : Int) : ((m == n) = true) ↔ (Tr.int m = Tr.int n) := by simp
theorem tr_eqstr (x y : Str) : ((x == y) = true) ↔ (Tr.str x = Tr.str y) := by simp
theorem tr_nebool_bool (a b : Bool) : ((!(a == b)) = true) ↔ ¬ (Tr.int (if a then 1 else 0) = Tr.int (if b then 1 else 0)) := by cases a <;> cases b <;> simp
theorem tr_nebool_int (a : Bool) (n : Int) : ((!((if a then (1 : Int) else 0) == n)) = true) ↔ ¬ (Tr.int (if a then 1 else 0) = Tr.int n) := by simp
theorem tr_neint_bool (n : Int) (a : Bool) : ((!(n == (if a then (1 : Int) else 0))) = true) ↔ ¬ (Tr.int n = Tr.int (if a then 1 else 0)) := by simp
theorem tr_neint_int (m n : Int) : ((!(m == n)) = true) ↔ ¬ (Tr.int m = Tr.int n) := by simp
theorem tr_nestr (x y : Str) : ((!(x == y)) = true) ↔ ¬ (Tr.str x = Tr.str y) := by simp
section
variable {X : Cx} {pins : List (Addr × Obj)} {s : Shared} {σ : St} {H : Hp} {A : Around} {R : V → Tr → Prop}
theorem sq_excl (I : Inv X pins σ H s) {a : Addr} {xs ys : List V} (h : SqT X.K H a xs) (g : SqL X.K H a ys) : False := by
  obtain ⟨_, _, ⟨o, e, c, _⟩, _⟩ := I.tuple h
  obtain ⟨_, _, ⟨o', n', e', c', _⟩, _⟩ := I.list g
  rw [e] at e'
  cases e'
  rw [c] at c'
  exact absurd c' (by decide)
theorem paired_fn {R' : V → Tr → Prop} (hF : ∀ x t t', R' x t → R' x t' → t = t') : ∀ {xs : List V} {ts ts' : List Tr}, Paired R' xs ts → Paired R' xs ts' → ts = ts'
  | _, _, _, .nil, .nil => rfl
  | _, _, _, .cons a r, .cons b q => by rw [hF _ _ _ a b, paired_fn hF r q]
theorem isv_fn (I : Inv X pins σ H s) (hF : ∀ x t t', R x t → R x t' → t = t') {x : V} {t t' : Tr} (h : IsV X.K H R x t) (g : IsV X.K H R x t') : t = t' := by
  cases h with
  | non => cases g; rfl
  | bl b => cases g; rfl
  | int i => cases g; rfl
  | str z => cases g; rfl
  | tup q p =>
    cases g with
    | tup q' p' =>
      cases I.tuple_inj q q'
      rw [paired_fn hF p p']
    | lst q' p' => exact (sq_excl I q q').elim
  | lst q p =>
    cases g with
    | lst q' p' =>
      cases I.list_inj q q'
      rw [paired_fn hF p p']
    | tup q' p' => exact (sq_excl I q' q).elim
theorem is_fn (I : Inv X pins σ H s) : ∀ {d : Nat} {x : V} {t t' : Tr}, Is X.K H d x t → Is X.K H d x t' → t = t'
  | 0, _, _, _, h, g => isv_fn I (fun _ _ _ z _ => z.elim) h g
  | d + 1, _, _, _, h, g => isv_fn (R := Is X.K H d) I (fun _ _ _ a b => is_fn I a b) h g
theorem items_eq (hR : ∀ x y t t' v u, R x t → R y t' → RelV x v → RelV y u → ∃ b, (b = true ↔ t = t') ∧ SeqAt.EqAt A s v u b) {xs ys : List V} {its jts : List Value} {ts ts' : List Tr} (r1 : Vals xs its) (r2 : Vals ys jts) (p1 : Paired R xs ts) (p2 : Paired R ys ts') :
    ∃ e : Nat → Bool, (∀ j (h1 : j < its.toArray.size) (h2 : j < jts.toArray.size), SeqAt.EqAt A s its.toArray[j] jts.toArray[j] (e j)) ∧ ∀ j, j < ts.length → j < ts'.length → (e j = true ↔ ts[j]? = ts'[j]?) := by
  have l1 : xs.length = its.length := r1.length
  have l2 : ys.length = jts.length := r2.length
  have l3 : xs.length = ts.length := Paired.length p1
  have l4 : ys.length = ts'.length := Paired.length p2
  have ex : ∀ (j : Nat) (h1 : j < its.toArray.size) (h2 : j < jts.toArray.size), ∃ b, (b = true ↔ ts[j]? = ts'[j]?) ∧ SeqAt.EqAt A s its.toArray[j] jts.toArray[j] b := by
    intro j h1 h2
    have h1' : j < its.length := by simpa using h1
    have h2' : j < jts.length := by simpa using h2
    obtain ⟨v1, e1, q1⟩ := r1.get (i := j) (x := xs[j]) (by simp [show j < xs.length by omega])
    obtain ⟨v2, e2, q2⟩ := r2.get (i := j) (x := ys[j]) (by simp [show j < ys.length by omega])
    obtain ⟨t1, e3, q3⟩ := Paired.get' (i := j) (x := xs[j]) p1 (by simp [show j < xs.length by omega])
    obtain ⟨t2, e4, q4⟩ := Paired.get' (i := j) (x := ys[j]) p2 (by simp [show j < ys.length by omega])
    have e1' : its[j] = v1 := by simpa [h1'] using e1
    have e2' : jts[j] = v2 := by simpa [h2'] using e2
    obtain ⟨b, hb, he⟩ := hR _ _ _ _ _ _ q3 q4 q1 q2
    refine ⟨b, ?_, ?_⟩
    · rw [e3, e4, hb]
      simp
    · rw [List.getElem_toArray, List.getElem_toArray, e1', e2']
      exact he
  classical
  refine ⟨fun j => if h : j < its.toArray.size ∧ j < jts.toArray.size then Classical.choose (ex j h.1 h.2) else false, fun j h1 h2 => ?_, fun j h1 h2 => ?_⟩
  · dsimp only
    rw [dif_pos (⟨h1, h2⟩ : j < its.toArray.size ∧ j < jts.toArray.size)]
    exact (Classical.choose_spec (ex j h1 h2)).2
  · have k1 : j < its.toArray.size := by rw [List.size_toArray]; omega
    have k2 : j < jts.toArray.size := by rw [List.size_toArray]; omega
    dsimp only
    rw [dif_pos (⟨k1, k2⟩ : j < its.toArray.size ∧ j < jts.toArray.size)]
    exact (Classical.choose_spec (ex j k1 k2)).1
theorem all_iff {e : Nat → Bool} {ts ts' : List Tr} {n n' : Nat} (l : ts.length = n) (l' : ts'.length = n') (he : ∀ j, j < ts.length → j < ts'.length → (e j = true ↔ ts[j]? = ts'[j]?)) : ((List.range (min n n')).all e && n == n') = true ↔ ts = ts' := by
  subst l l'
  rw [Bool.and_eq_true, beq_iff_eq, List.all_eq_true]
  constructor
  · rintro ⟨h, hl⟩
    refine List.ext_getElem? fun j => ?_
    by_cases hj : j < ts.length
    · exact (he j hj (by omega)).mp (h j (by rw [List.mem_range]; omega))
    · rw [List.getElem?_eq_none (by omega), List.getElem?_eq_none (by omega)]
  · rintro rfl
    refine ⟨fun j hj => ?_, rfl⟩
    rw [List.mem_range] at hj
    exact (he j (by omega) (by omega)).mpr rfl
theorem len_of {xs : List V} {its : List Value} {ts : List Tr} (r : Vals xs its) (p : Paired R xs ts) : ts.length = its.toArray.size := by
  rw [List.size_toArray, ← r.length, Paired.length p]
section
variable (hu : A.units < cLine) (I : Inv X pins σ H s) (hR : ∀ x y t t' v u, R x t → R y t' → RelV x v → RelV y u → ∃ b, (b = true ↔ t = t') ∧ SeqAt.EqAt A.in1 s v u b) (hF : ∀ x t t', R x t → R x t' → t = t')
include hu I hR hF
theorem rcat_tup {a b : Addr} {xs ys : List V} {ts ts' : List Tr} (q1 : SqT X.K H a xs) (q2 : SqT X.K H b ys) (p1 : Paired R xs ts) (p2 : Paired R ys ts') : ∃ k, (k = true ↔ Tr.tup ts = Tr.tup ts') ∧ SeqAt.RcAt A s (.ref a) (.ref b) k := by
  obtain ⟨its, r1, pp1, _⟩ := I.tuple q1
  obtain ⟨jts, r2, pp2, _⟩ := I.tuple q2
  obtain ⟨e, he, hi⟩ := items_eq hR r1 r2 p1 p2
  refine ⟨_, ?_, SeqAt.RcAt.tuples pp1 pp2 hu he⟩
  rw [all_iff (len_of r1 p1) (len_of r2 p2) hi, Tr.tup.injEq]
theorem rcneat_tup {a b : Addr} {xs ys : List V} {ts ts' : List Tr} (q1 : SqT X.K H a xs) (q2 : SqT X.K H b ys) (p1 : Paired R xs ts) (p2 : Paired R ys ts') : ∃ k, (k = true ↔ ¬ Tr.tup ts = Tr.tup ts') ∧ SeqAt.RcNeAt A s (.ref a) (.ref b) k := by
  obtain ⟨its, r1, pp1, _⟩ := I.tuple q1
  obtain ⟨jts, r2, pp2, _⟩ := I.tuple q2
  obtain ⟨e, he, hi⟩ := items_eq hR r1 r2 p1 p2
  refine ⟨_, ?_, SeqAt.RcNeAt.tuples pp1 pp2 hu he⟩
  rw [Tr.tup.injEq, ← all_iff (len_of r1 p1) (len_of r2 p2) hi]
  cases ((List.range (min its.toArray.size jts.toArray.size)).all e && its.toArray.size == jts.toArray.size) <;> simp
theorem rcat_lst {a b : Addr} {xs ys : List V} {ts ts' : List Tr} (q1 : SqL X.K H a xs) (q2 : SqL X.K H b ys) (p1 : Paired R xs ts) (p2 : Paired R ys ts') : ∃ k, (k = true ↔ Tr.lst ts = Tr.lst ts') ∧ SeqAt.RcAt A s (.ref a) (.ref b) k := by
  obtain ⟨its, r1, pp1, _⟩ := I.list q1
  obtain ⟨jts, r2, pp2, _⟩ := I.list q2
  obtain ⟨e, he, hi⟩ := items_eq hR r1 r2 p1 p2
  have l1 := len_of r1 p1
  have l2 := len_of r2 p2
  by_cases c : its.toArray.size = jts.toArray.size
  · refine ⟨_, ?_, SeqAt.RcAt.lists pp1.isList pp2.isList c hu he⟩
    have := all_iff l1 l2 hi
    rw [c, Nat.min_self, beq_self_eq_true, Bool.and_true] at this
    rw [c, this, Tr.lst.injEq]
  · refine ⟨false, ?_, SeqAt.RcAt.lists_lengths pp1.isList pp2.isList (by simpa using c) hu⟩
    simp only [Bool.false_eq_true, Tr.lst.injEq, false_iff]
    exact fun z => c (by rw [← l1, ← l2, z])
theorem rcneat_lst {a b : Addr} {xs ys : List V} {ts ts' : List Tr} (q1 : SqL X.K H a xs) (q2 : SqL X.K H b ys) (p1 : Paired R xs ts) (p2 : Paired R ys ts') : ∃ k, (k = true ↔ ¬ Tr.lst ts = Tr.lst ts') ∧ SeqAt.RcNeAt A s (.ref a) (.ref b) k := by
  obtain ⟨its, r1, pp1, _⟩ := I.list q1
  obtain ⟨jts, r2, pp2, _⟩ := I.list q2
  obtain ⟨e, he, hi⟩ := items_eq hR r1 r2 p1 p2
  have l1 := len_of r1 p1
  have l2 := len_of r2 p2
  by_cases c : its.toArray.size = jts.toArray.size
  · refine ⟨_, ?_, SeqAt.RcNeAt.lists pp1.isList pp2.isList c hu he⟩
    have := all_iff l1 l2 hi
    rw [c, Nat.min_self, beq_self_eq_true, Bool.and_true] at this
    rw [c, Tr.lst.injEq, ← this]
    cases (List.range jts.toArray.size).all e <;> simp
  · refine ⟨true, ?_, SeqAt.RcNeAt.lists_lengths pp1.isList pp2.isList (by simpa using c) hu⟩
    simp only [Tr.lst.injEq, true_iff]
    exact fun z => c (by rw [← l1, ← l2, z])
theorem eqat_tup {a b : Addr} {xs ys : List V} {ts ts' : List Tr} (q1 : SqT X.K H a xs) (q2 : SqT X.K H b ys) (p1 : Paired R xs ts) (p2 : Paired R ys ts') : ∃ k, (k = true ↔ Tr.tup ts = Tr.tup ts') ∧ SeqAt.EqAt A s (.ref a) (.ref b) k := by
  by_cases c : a = b
  · subst c
    cases I.tuple_inj q1 q2
    rw [paired_fn hF p1 p2]
    exact ⟨true, by simp, SeqAt.EqAt.same _⟩
  · obtain ⟨k, hk, h⟩ := rcat_tup hu I hR hF q1 q2 p1 p2
    exact ⟨k, hk, SeqAt.EqAt.of_refs c h⟩
theorem eqat_lst {a b : Addr} {xs ys : List V} {ts ts' : List Tr} (q1 : SqL X.K H a xs) (q2 : SqL X.K H b ys) (p1 : Paired R xs ts) (p2 : Paired R ys ts') : ∃ k, (k = true ↔ Tr.lst ts = Tr.lst ts') ∧ SeqAt.EqAt A s (.ref a) (.ref b) k := by
  by_cases c : a = b
  · subst c
    cases I.list_inj q1 q2
    rw [paired_fn hF p1 p2]
    exact ⟨true, by simp, SeqAt.EqAt.same _⟩
  · obtain ⟨k, hk, h⟩ := rcat_lst hu I hR hF q1 q2 p1 p2
    exact ⟨k, hk, SeqAt.EqAt.of_refs c h⟩
theorem eqAt_isv {x y : V} {t t' : Tr} {v u : Value} (h : IsV X.K H R x t) (h' : IsV X.K H R y t') (rx : RelV x v) (ry : RelV y u) : ∃ b, (b = true ↔ t = t') ∧ SeqAt.EqAt A s v u b := by
  cases h with
  | non =>
    cases rx
    cases h' with
    | non =>
      cases ry
      exact ⟨_, by simp, SeqAt.EqAt.same _⟩
    | bl b2 =>
      cases ry
      exact ⟨false, by simp, SeqAt.EqAt.none_bool b2⟩
    | int n2 =>
      obtain ⟨w2, rfl⟩ := ry
      exact ⟨false, by simp, SeqAt.EqAt.none_int n2 w2⟩
    | str z2 =>
      obtain ⟨w2, rfl⟩ := ry
      exact ⟨false, by simp, SeqAt.EqAt.none_str z2 w2⟩
    | tup q2 p2 =>
      cases ry
      obtain ⟨its2, r2, pp2, _⟩ := I.tuple q2
      have I2 := pp2
      exact ⟨false, by simp, SeqAt.EqAt.none_tuple I2 hu⟩
    | lst q2 p2 =>
      cases ry
      obtain ⟨its2, r2, pp2, _⟩ := I.list q2
      have I2 := pp2.isList
      exact ⟨false, by simp, SeqAt.EqAt.none_list I2 hu⟩
  | bl b1 =>
    cases rx
    cases h' with
    | non =>
      cases ry
      exact ⟨false, by simp, SeqAt.EqAt.bool_none b1⟩
    | bl b2 =>
      cases ry
      exact ⟨_, tr_eqbool_bool b1 b2, SeqAt.EqAt.bool_bool b1 b2⟩
    | int n2 =>
      obtain ⟨w2, rfl⟩ := ry
      exact ⟨_, tr_eqbool_int b1 n2, SeqAt.EqAt.bool_int b1 n2 w2⟩
    | str z2 =>
      obtain ⟨w2, rfl⟩ := ry
      exact ⟨false, by simp, SeqAt.EqAt.bool_str b1 z2 w2⟩
    | tup q2 p2 =>
      cases ry
      obtain ⟨its2, r2, pp2, _⟩ := I.tuple q2
      have I2 := pp2
      exact ⟨false, by simp, SeqAt.EqAt.bool_tuple b1 I2 hu⟩
    | lst q2 p2 =>
      cases ry
      obtain ⟨its2, r2, pp2, _⟩ := I.list q2
      have I2 := pp2.isList
      exact ⟨false, by simp, SeqAt.EqAt.bool_list b1 I2 hu⟩
  | int n1 =>
    obtain ⟨w1, rfl⟩ := rx
    cases h' with
    | non =>
      cases ry
      exact ⟨false, by simp, SeqAt.EqAt.int_none n1 w1⟩
    | bl b2 =>
      cases ry
      exact ⟨_, tr_eqint_bool n1 b2, SeqAt.EqAt.int_bool n1 w1 b2⟩
    | int n2 =>
      obtain ⟨w2, rfl⟩ := ry
      exact ⟨_, tr_eqint_int n1 n2, SeqAt.EqAt.int_int n1 w1 n2 w2⟩
    | str z2 =>
      obtain ⟨w2, rfl⟩ := ry
      exact ⟨false, by simp, SeqAt.EqAt.int_str n1 w1 z2 w2⟩
    | tup q2 p2 =>
      cases ry
      obtain ⟨its2, r2, pp2, _⟩ := I.tuple q2
      have I2 := pp2
      exact ⟨false, by simp, SeqAt.EqAt.int_tuple n1 w1 I2 hu⟩
    | lst q2 p2 =>
      cases ry
      obtain ⟨its2, r2, pp2, _⟩ := I.list q2
      have I2 := pp2.isList
      exact ⟨false, by simp, SeqAt.EqAt.int_list n1 w1 I2 hu⟩
  | str z1 =>
    obtain ⟨w1, rfl⟩ := rx
    cases h' with
    | non =>
      cases ry
      exact ⟨false, by simp, SeqAt.EqAt.str_none z1 w1⟩
    | bl b2 =>
      cases ry
      exact ⟨false, by simp, SeqAt.EqAt.str_bool z1 w1 b2⟩
    | int n2 =>
      obtain ⟨w2, rfl⟩ := ry
      exact ⟨false, by simp, SeqAt.EqAt.str_int z1 w1 n2 w2⟩
    | str z2 =>
      obtain ⟨w2, rfl⟩ := ry
      exact ⟨_, tr_eqstr z1 z2, SeqAt.EqAt.str_str z1 w1 z2 w2⟩
    | tup q2 p2 =>
      cases ry
      obtain ⟨its2, r2, pp2, _⟩ := I.tuple q2
      have I2 := pp2
      exact ⟨false, by simp, SeqAt.EqAt.str_tuple z1 w1 I2 hu⟩
    | lst q2 p2 =>
      cases ry
      obtain ⟨its2, r2, pp2, _⟩ := I.list q2
      have I2 := pp2.isList
      exact ⟨false, by simp, SeqAt.EqAt.str_list z1 w1 I2 hu⟩
  | tup q1 p1 =>
    cases rx
    cases h' with
    | non =>
      cases ry
      obtain ⟨its1, r1, pp1, _⟩ := I.tuple q1
      have I1 := pp1
      exact ⟨false, by simp, SeqAt.EqAt.tuple_none I1 hu⟩
    | bl b2 =>
      cases ry
      obtain ⟨its1, r1, pp1, _⟩ := I.tuple q1
      have I1 := pp1
      exact ⟨false, by simp, SeqAt.EqAt.tuple_bool b2 I1 hu⟩
    | int n2 =>
      obtain ⟨w2, rfl⟩ := ry
      obtain ⟨its1, r1, pp1, _⟩ := I.tuple q1
      have I1 := pp1
      exact ⟨false, by simp, SeqAt.EqAt.tuple_int n2 w2 I1 hu⟩
    | str z2 =>
      obtain ⟨w2, rfl⟩ := ry
      obtain ⟨its1, r1, pp1, _⟩ := I.tuple q1
      have I1 := pp1
      exact ⟨false, by simp, SeqAt.EqAt.tuple_str z2 w2 I1 hu⟩
    | tup q2 p2 =>
      cases ry
      obtain ⟨its1, r1, pp1, _⟩ := I.tuple q1
      have I1 := pp1
      obtain ⟨its2, r2, pp2, _⟩ := I.tuple q2
      have I2 := pp2
      exact eqat_tup hu I hR hF q1 q2 p1 p2
    | lst q2 p2 =>
      cases ry
      obtain ⟨its1, r1, pp1, _⟩ := I.tuple q1
      have I1 := pp1
      obtain ⟨its2, r2, pp2, _⟩ := I.list q2
      have I2 := pp2.isList
      exact ⟨false, by simp, SeqAt.EqAt.tuple_list I1 I2 hu⟩
  | lst q1 p1 =>
    cases rx
    cases h' with
    | non =>
      cases ry
      obtain ⟨its1, r1, pp1, _⟩ := I.list q1
      have I1 := pp1.isList
      exact ⟨false, by simp, SeqAt.EqAt.list_none I1 hu⟩
    | bl b2 =>
      cases ry
      obtain ⟨its1, r1, pp1, _⟩ := I.list q1
      have I1 := pp1.isList
      exact ⟨false, by simp, SeqAt.EqAt.list_bool b2 I1 hu⟩
    | int n2 =>
      obtain ⟨w2, rfl⟩ := ry
      obtain ⟨its1, r1, pp1, _⟩ := I.list q1
      have I1 := pp1.isList
      exact ⟨false, by simp, SeqAt.EqAt.list_int n2 w2 I1 hu⟩
    | str z2 =>
      obtain ⟨w2, rfl⟩ := ry
      obtain ⟨its1, r1, pp1, _⟩ := I.list q1
      have I1 := pp1.isList
      exact ⟨false, by simp, SeqAt.EqAt.list_str z2 w2 I1 hu⟩
    | tup q2 p2 =>
      cases ry
      obtain ⟨its1, r1, pp1, _⟩ := I.list q1
      have I1 := pp1.isList
      obtain ⟨its2, r2, pp2, _⟩ := I.tuple q2
      have I2 := pp2
      exact ⟨false, by simp, SeqAt.EqAt.list_tuple I1 I2 hu⟩
    | lst q2 p2 =>
      cases ry
      obtain ⟨its1, r1, pp1, _⟩ := I.list q1
      have I1 := pp1.isList
      obtain ⟨its2, r2, pp2, _⟩ := I.list q2
      have I2 := pp2.isList
      exact eqat_lst hu I hR hF q1 q2 p1 p2
theorem rcNeAt_isv {x y : V} {t t' : Tr} {v u : Value} (h : IsV X.K H R x t) (h' : IsV X.K H R y t') (rx : RelV x v) (ry : RelV y u) : ∃ b, (b = true ↔ ¬ t = t') ∧ SeqAt.RcNeAt A s v u b := by
  cases h with
  | non =>
    cases rx
    cases h' with
    | non =>
      cases ry
      exact ⟨_, by simp, SeqAt.RcNeAt.none_none⟩
    | bl b2 =>
      cases ry
      exact ⟨true, by simp, SeqAt.RcNeAt.none_bool b2⟩
    | int n2 =>
      obtain ⟨w2, rfl⟩ := ry
      exact ⟨true, by simp, SeqAt.RcNeAt.none_int n2 w2⟩
    | str z2 =>
      obtain ⟨w2, rfl⟩ := ry
      exact ⟨true, by simp, SeqAt.RcNeAt.none_str z2 w2⟩
    | tup q2 p2 =>
      cases ry
      obtain ⟨its2, r2, pp2, _⟩ := I.tuple q2
      have I2 := pp2
      exact ⟨true, by simp, SeqAt.RcNeAt.none_tuple I2 hu⟩
    | lst q2 p2 =>
      cases ry
      obtain ⟨its2, r2, pp2, _⟩ := I.list q2
      have I2 := pp2.isList
      exact ⟨true, by simp, SeqAt.RcNeAt.none_list I2 hu⟩
  | bl b1 =>
    cases rx
    cases h' with
    | non =>
      cases ry
      exact ⟨true, by simp, SeqAt.RcNeAt.bool_none b1⟩
    | bl b2 =>
      cases ry
      exact ⟨_, tr_nebool_bool b1 b2, SeqAt.RcNeAt.bool_bool b1 b2⟩
    | int n2 =>
      obtain ⟨w2, rfl⟩ := ry
      exact ⟨_, tr_nebool_int b1 n2, SeqAt.RcNeAt.bool_int b1 n2 w2⟩
    | str z2 =>
      obtain ⟨w2, rfl⟩ := ry
      exact ⟨true, by simp, SeqAt.RcNeAt.bool_str b1 z2 w2⟩
    | tup q2 p2 =>
      cases ry
      obtain ⟨its2, r2, pp2, _⟩ := I.tuple q2
      have I2 := pp2
      exact ⟨true, by simp, SeqAt.RcNeAt.bool_tuple b1 I2 hu⟩
    | lst q2 p2 =>
      cases ry
      obtain ⟨its2, r2, pp2, _⟩ := I.list q2
      have I2 := pp2.isList
      exact ⟨true, by simp, SeqAt.RcNeAt.bool_list b1 I2 hu⟩
  | int n1 =>
    obtain ⟨w1, rfl⟩ := rx
    cases h' with
    | non =>
      cases ry
      exact ⟨true, by simp, SeqAt.RcNeAt.int_none n1 w1⟩
    | bl b2 =>
      cases ry
      exact ⟨_, tr_neint_bool n1 b2, SeqAt.RcNeAt.int_bool n1 w1 b2⟩
    | int n2 =>
      obtain ⟨w2, rfl⟩ := ry
      exact ⟨_, tr_neint_int n1 n2, SeqAt.RcNeAt.int_int n1 w1 n2 w2⟩
    | str z2 =>
      obtain ⟨w2, rfl⟩ := ry
      exact ⟨true, by simp, SeqAt.RcNeAt.int_str n1 w1 z2 w2⟩
    | tup q2 p2 =>
      cases ry
      obtain ⟨its2, r2, pp2, _⟩ := I.tuple q2
      have I2 := pp2
      exact ⟨true, by simp, SeqAt.RcNeAt.int_tuple n1 w1 I2 hu⟩
    | lst q2 p2 =>
      cases ry
      obtain ⟨its2, r2, pp2, _⟩ := I.list q2
      have I2 := pp2.isList
      exact ⟨true, by simp, SeqAt.RcNeAt.int_list n1 w1 I2 hu⟩
  | str z1 =>
    obtain ⟨w1, rfl⟩ := rx
    cases h' with
    | non =>
      cases ry
      exact ⟨true, by simp, SeqAt.RcNeAt.str_none z1 w1⟩
    | bl b2 =>
      cases ry
      exact ⟨true, by simp, SeqAt.RcNeAt.str_bool z1 w1 b2⟩
    | int n2 =>
      obtain ⟨w2, rfl⟩ := ry
      exact ⟨true, by simp, SeqAt.RcNeAt.str_int z1 w1 n2 w2⟩
    | str z2 =>
      obtain ⟨w2, rfl⟩ := ry
      exact ⟨_, tr_nestr z1 z2, SeqAt.RcNeAt.str_str z1 w1 z2 w2⟩
    | tup q2 p2 =>
      cases ry
      obtain ⟨its2, r2, pp2, _⟩ := I.tuple q2
      have I2 := pp2
      exact ⟨true, by simp, SeqAt.RcNeAt.str_tuple z1 w1 I2 hu⟩
    | lst q2 p2 =>
      cases ry
      obtain ⟨its2, r2, pp2, _⟩ := I.list q2
      have I2 := pp2.isList
      exact ⟨true, by simp, SeqAt.RcNeAt.str_list z1 w1 I2 hu⟩
  | tup q1 p1 =>
    cases rx
    cases h' with
    | non =>
      cases ry
      obtain ⟨its1, r1, pp1, _⟩ := I.tuple q1
      have I1 := pp1
      exact ⟨true, by simp, SeqAt.RcNeAt.tuple_none I1 hu⟩
    | bl b2 =>
      cases ry
      obtain ⟨its1, r1, pp1, _⟩ := I.tuple q1
      have I1 := pp1
      exact ⟨true, by simp, SeqAt.RcNeAt.tuple_bool b2 I1 hu⟩
    | int n2 =>
      obtain ⟨w2, rfl⟩ := ry
      obtain ⟨its1, r1, pp1, _⟩ := I.tuple q1
      have I1 := pp1
      exact ⟨true, by simp, SeqAt.RcNeAt.tuple_int n2 w2 I1 hu⟩
    | str z2 =>
      obtain ⟨w2, rfl⟩ := ry
      obtain ⟨its1, r1, pp1, _⟩ := I.tuple q1
      have I1 := pp1
      exact ⟨true, by simp, SeqAt.RcNeAt.tuple_str z2 w2 I1 hu⟩
    | tup q2 p2 =>
      cases ry
      obtain ⟨its1, r1, pp1, _⟩ := I.tuple q1
      have I1 := pp1
      obtain ⟨its2, r2, pp2, _⟩ := I.tuple q2
      have I2 := pp2
      exact rcneat_tup hu I hR hF q1 q2 p1 p2
    | lst q2 p2 =>
      cases ry
      obtain ⟨its1, r1, pp1, _⟩ := I.tuple q1
      have I1 := pp1
      obtain ⟨its2, r2, pp2, _⟩ := I.list q2
      have I2 := pp2.isList
      exact ⟨true, by simp, SeqAt.RcNeAt.tuple_list I1 I2 hu⟩
  | lst q1 p1 =>
    cases rx
    cases h' with
    | non =>
      cases ry
      obtain ⟨its1, r1, pp1, _⟩ := I.list q1
      have I1 := pp1.isList
      exact ⟨true, by simp, SeqAt.RcNeAt.list_none I1 hu⟩
    | bl b2 =>
      cases ry
      obtain ⟨its1, r1, pp1, _⟩ := I.list q1
      have I1 := pp1.isList
      exact ⟨true, by simp, SeqAt.RcNeAt.list_bool b2 I1 hu⟩
    | int n2 =>
      obtain ⟨w2, rfl⟩ := ry
      obtain ⟨its1, r1, pp1, _⟩ := I.list q1
      have I1 := pp1.isList
      exact ⟨true, by simp, SeqAt.RcNeAt.list_int n2 w2 I1 hu⟩
    | str z2 =>
      obtain ⟨w2, rfl⟩ := ry
      obtain ⟨its1, r1, pp1, _⟩ := I.list q1
      have I1 := pp1.isList
      exact ⟨true, by simp, SeqAt.RcNeAt.list_str z2 w2 I1 hu⟩
    | tup q2 p2 =>
      cases ry
      obtain ⟨its1, r1, pp1, _⟩ := I.list q1
      have I1 := pp1.isList
      obtain ⟨its2, r2, pp2, _⟩ := I.tuple q2
      have I2 := pp2
      exact ⟨true, by simp, SeqAt.RcNeAt.list_tuple I1 I2 hu⟩
    | lst q2 p2 =>
      cases ry
      obtain ⟨its1, r1, pp1, _⟩ := I.list q1
      have I1 := pp1.isList
      obtain ⟨its2, r2, pp2, _⟩ := I.list q2
      have I2 := pp2.isList
      exact rcneat_lst hu I hR hF q1 q2 p1 p2
end
theorem eqAt_tr (I : Inv X pins σ H s) : ∀ (d : Nat) {A : Around} {x y : V} {t t' : Tr} {v u : Value}, A.units + d < cLine → Is X.K H d x t → Is X.K H d y t' → RelV x v → RelV y u → ∃ b, (b = true ↔ t = t') ∧ SeqAt.EqAt A s v u b
  | 0, _, _, _, _, _, _, _, hu, h, h', rx, ry => eqAt_isv hu I (fun _ _ _ _ _ _ z _ _ _ => z.elim) (fun _ _ _ z _ => z.elim) h h' rx ry
  | d + 1, A, _, _, _, _, _, _, hu, h, h', rx, ry => eqAt_isv (show A.units < cLine by omega) I (fun _ _ _ _ _ _ a b ra rb => eqAt_tr I d (A := A.in1) (show A.units + 1 + d < cLine by omega) a b ra rb) (fun _ _ _ a b => is_fn I a b) h h' rx ry
theorem rcNeAt_tr (I : Inv X pins σ H s) : ∀ (d : Nat) {A : Around} {x y : V} {t t' : Tr} {v u : Value}, A.units + d < cLine → Is X.K H d x t → Is X.K H d y t' → RelV x v → RelV y u → ∃ b, (b = true ↔ ¬ t = t') ∧ SeqAt.RcNeAt A s v u b
  | 0, _, _, _, _, _, _, _, hu, h, h', rx, ry => rcNeAt_isv hu I (fun _ _ _ _ _ _ z _ _ _ => z.elim) (fun _ _ _ z _ => z.elim) h h' rx ry
  | d + 1, A, _, _, _, _, _, _, hu, h, h', rx, ry => rcNeAt_isv (show A.units < cLine by omega) I (fun _ _ _ _ _ _ a b ra rb => eqAt_tr I d (A := A.in1) (show A.units + 1 + d < cLine by omega) a b ra rb) (fun _ _ _ a b => is_fn I a b) h h' rx ry
end
section
variable {X : Cx}
def rNeTr (K : PySem.W.Frag) (d : Nat) : R2 := fun x y H Q => ∃ t t', Is K H d x t ∧ Is K H d y t' ∧ ∀ b, (b = true ↔ ¬ t = t') → Q (.bl b) H
theorem op_neTr (d : Nat) (hu : X.A.units + d < cLine) : OpR X (compareOp .NotEq) (rNeTr X.K d) := by
  intro pins s σ H x y v u Q I rx ry h
  obtain ⟨t, t', h1, h2, q⟩ := h
  obtain ⟨b, hb, r⟩ := rcNeAt_tr I d hu h1 h2 rx ry
  exact r _ _ _ _ ⟨.bl b, H, I, rfl, q b hb⟩
end
end L2

namespace L2
open PySem PySem.Calls PySem.Spec PyProof.Rows
section
variable {X : Cx}
end
end L2
namespace PySem
open PySem.Spec PyProof.Rows
section
variable {prog : Program} {w : World} {A : Around} {E : Value → Shared → Prop} {s : Shared}
end
end PySem
namespace L2
open PySem PySem.Calls PySem.Spec PyProof.Rows
section
variable {X : Cx}
end
end L2

namespace L2
open PySem PySem.Calls PySem.Spec PyProof.Rows
section
variable {X : Cx}
end
end L2

namespace L2
open PySem PySem.Calls PySem.Spec PyProof.Rows
section
variable {X : Cx}
end
end L2

namespace Hk
open PySem L2
def top (i : Nat) : Stmt := PySem.Challenge.pw_holdsets_k58_far_heaps.main.body.getD i (.Pass ⟨0, 0, 0, 0⟩)
def inCls (s : Stmt) (i : Nat) : Stmt := match s with
  | .ClassDef _ _ _ b _ _ _ _ _ _ _ => b.getD i (.Pass ⟨0, 0, 0, 0⟩)
  | _ => .Pass ⟨0, 0, 0, 0⟩
abbrev s_WebError_init : Stmt := inCls (top 1) 0
abbrev s_NoNumber_init : Stmt := inCls (top 5) 0
abbrev s_TooGreat_init : Stmt := inCls (top 10) 0
abbrev s_whole_good : Stmt := top 12
abbrev s_least_missing : Stmt := top 14
abbrev s_number_good : Stmt := top 18
abbrev s_refuse_no_number : Stmt := top 19
abbrev s_numbers_to : Stmt := top 20
abbrev s_heap_round : Stmt := top 21
abbrev s_heap_far : Stmt := top 22
abbrev s_law_cell_at : Stmt := top 24
abbrev s_law_next : Stmt := top 25
abbrev s_law_pen_of : Stmt := top 26
abbrev s_law_draw : Stmt := top 27
abbrev s_law_whole : Stmt := top 28
abbrev s_law_kind_of : Stmt := top 29
abbrev s_law_takes_of : Stmt := top 30
abbrev s_law_numbers : Stmt := top 31
abbrev s_law_round : Stmt := top 32
abbrev s_law_no_number : Stmt := top 33
abbrev s_law_told : Stmt := top 34
abbrev s_law_due_of : Stmt := top 35
abbrev s_law_heap_of : Stmt := top 36
abbrev s_law : Stmt := top 37
end Hk

namespace Hk
def mexF : Nat → Nat → List Nat → Nat
  | 0, k, _ => k
  | f + 1, k, l => if l.contains k = true then mexF f (k + 1) l else k
def mexN (l : List Nat) : Nat := mexF l.length 0 l
theorem mexF_eq {l : List Nat} {k : Nat} (h1 : k ∉ l) (h2 : ∀ j, j < k → j ∈ l) : ∀ f k0, k0 ≤ k → k ≤ k0 + f → mexF f k0 l = k
  | 0, k0, a, b => by show k0 = k; omega
  | f + 1, k0, a, b => by
    show (if l.contains k0 = true then mexF f (k0 + 1) l else k0) = k
    by_cases e : k0 = k
    · subst e
      rw [if_neg]
      simpa using h1
    · rw [if_pos (by simpa using h2 k0 (by omega))]
      exact mexF_eq h1 h2 f (k0 + 1) (by omega) (by omega)
theorem mexN_eq {l : List Nat} {k : Nat} (h1 : k ∉ l) (h2 : ∀ j, j < k → j ∈ l) (h3 : k ≤ l.length) : mexN l = k := mexF_eq h1 h2 _ 0 (Nat.zero_le _) (by omega)
def stepG (ts : List Nat) (l : List Nat) (n : Nat) : List Nat := (ts.filter fun t => decide (t ≤ n)).map fun t => l.getD (n - t) 0
def gr (ts : List Nat) : Nat → List Nat
  | 0 => []
  | n + 1 => gr ts n ++ [mexN (stepG ts (gr ts n) n)]
def gN (ts : List Nat) (n : Nat) : Nat := mexN (stepG ts (gr ts n) n)
theorem gr_len (ts : List Nat) : ∀ n, (gr ts n).length = n
  | 0 => rfl
  | n + 1 => by
    show (gr ts n ++ [_]).length = _
    rw [List.length_append, gr_len ts n]
    rfl
theorem gr_eq (ts : List Nat) : ∀ n, gr ts n = (List.range n).map (gN ts)
  | 0 => rfl
  | n + 1 => by
    show gr ts n ++ [gN ts n] = _
    rw [List.range_succ, List.map_append, ← gr_eq ts n]
    rfl
def win (ts : List Nat) (w h : Nat) : List Nat := (List.range w).map fun i => gN ts (h + i)
theorem win_len (ts : List Nat) (w h : Nat) : (win ts w h).length = w := by unfold win; simp
theorem win_cut (ts : List Nat) (w h n : Nat) (hn : h + w ≤ n) : ((gr ts n).drop h).take w = win ts w h := by
  rw [gr_eq]
  unfold win
  refine List.ext_getElem? fun i => ?_
  rw [List.getElem?_take, List.getElem?_map, List.getElem?_drop, List.getElem?_map]
  by_cases hi : i < w
  · rw [if_pos hi, List.getElem?_range (by omega), List.getElem?_range hi]
    rfl
  · rw [if_neg hi, List.getElem?_eq_none (by simp; omega)]
    rfl
inductive Rnd {α : Type} (f : Nat → α) (m : Nat) : Option (Nat × Nat) → Prop
  | none : (∀ i j, i < j → j ≤ m → f i ≠ f j) → Rnd f m none
  | some (s h : Nat) : s < h → h ≤ m → f s = f h → (∀ i j, i < j → j < h → f i ≠ f j) → Rnd f m (some (s, h - s))
theorem Rnd.uniq {α : Type} {f : Nat → α} {m : Nat} {a b : Option (Nat × Nat)} (x : Rnd f m a) (y : Rnd f m b) : a = b := by
  cases x with
  | none n =>
    cases y with
    | none => rfl
    | some s h h1 h2 h3 h4 => exact absurd h3 (n s h h1 h2)
  | some s h h1 h2 h3 h4 =>
    cases y with
    | none n => exact absurd h3 (n s h h1 h2)
    | some s' h' g1 g2 g3 g4 =>
      have e : h = h' := by
        rcases Nat.lt_trichotomy h h' with z | z | z
        · exact absurd h3 (g4 s h h1 z)
        · exact z
        · exact absurd g3 (h4 s' h' g1 z)
      subst e
      have e2 : s = s' := by
        rcases Nat.lt_trichotomy s s' with z | z | z
        · exact absurd (h3.trans g3.symm) (h4 s s' z g1)
        · exact z
        · exact absurd (g3.trans h3.symm) (h4 s' s z h1)
      subst e2
      rfl
structure GoodT (ts : List Nat) : Prop where
  ne : ts ≠ []
  up : ts.Pairwise (· < ·)
  lo : ∀ t ∈ ts, 1 ≤ t ∧ t ≤ 9
  len : ts.length ≤ 9
def wd (ts : List Nat) : Nat := ts.getLastD 0
theorem GoodT.wd_mem {ts : List Nat} (g : GoodT ts) : wd ts ∈ ts := by
  unfold wd
  rw [List.getLastD_eq_getLast?, List.getLast?_eq_some_getLast g.ne]
  exact List.getLast_mem _
theorem pw_last : ∀ {ts : List Nat}, ts.Pairwise (· < ·) → ∀ t ∈ ts, t ≤ wd ts := by
  intro ts
  induction ts with
  | nil => intro _ t ht; cases ht
  | cons a r ih =>
    intro p t ht
    cases r with
    | nil =>
      have : t = a := by simpa using ht
      subst this
      exact Nat.le_refl _
    | cons b r =>
      have e : wd (a :: b :: r) = wd (b :: r) := rfl
      rw [e]
      have q := List.pairwise_cons.mp p
      rcases List.mem_cons.mp ht with z | z
      · subst z
        have l1 := q.1 b (by simp)
        have l2 := ih q.2 b (by simp)
        omega
      · exact ih q.2 t z
def toI (l : List Nat) : List Int := l.map fun (n : Nat) => (n : Int)
theorem GoodT.max_eq {ts : List Nat} (g : GoodT ts) {M : Int} (hm : M ∈ toI ts) (hx : ∀ n ∈ toI ts, n ≤ M) : M = (wd ts : Int) := by
  obtain ⟨t, ht, rfl⟩ := List.mem_map.mp hm
  have a := pw_last g.up t ht
  have b := hx _ (List.mem_map.mpr ⟨wd ts, g.wd_mem, rfl⟩)
  omega
theorem GoodT.wd_lo {ts : List Nat} (g : GoodT ts) : 1 ≤ wd ts ∧ wd ts ≤ 9 := g.lo _ g.wd_mem
end Hk

namespace Hk
theorem gN_far {ts : List Nat} (g : GoodT ts) (a : Nat) : gN ts (a + wd ts) = mexN (ts.map fun t => (win ts (wd ts) a).getD (wd ts - t) 0) := by
  unfold gN stepG
  congr 1
  have e : (ts.filter fun t => decide (t ≤ a + wd ts)) = ts := List.filter_eq_self.mpr fun t ht => by
    have := pw_last g.up t ht
    exact decide_eq_true (by omega)
  rw [e]
  refine List.map_congr_left fun t ht => ?_
  have h1 := pw_last g.up t ht
  have h2 := g.lo t ht
  rw [gr_eq, List.getD_eq_getElem?_getD, List.getD_eq_getElem?_getD]
  unfold win
  rw [List.getElem?_map, List.getElem?_map, List.getElem?_range (by omega), List.getElem?_range (by omega)]
  show gN ts (a + wd ts - t) = gN ts (a + (wd ts - t))
  congr 1
  omega
theorem win_at {ts : List Nat} {w a i : Nat} (h : i < w) : (win ts w a)[i]? = some (gN ts (a + i)) := by
  unfold win
  rw [List.getElem?_map, List.getElem?_range h]
  rfl
theorem win_step {ts : List Nat} (g : GoodT ts) {a b : Nat} (h : win ts (wd ts) a = win ts (wd ts) b) : win ts (wd ts) (a + 1) = win ts (wd ts) (b + 1) := by
  refine List.ext_getElem? fun i => ?_
  by_cases hi : i < wd ts
  · rw [win_at hi, win_at hi]
    by_cases h1 : i + 1 < wd ts
    · have := congrArg (fun l => l[i + 1]?) h
      rw [win_at h1, win_at h1] at this
      have e1 : a + 1 + i = a + (i + 1) := by omega
      have e2 : b + 1 + i = b + (i + 1) := by omega
      rw [e1, e2]
      exact this
    · have e1 : a + 1 + i = a + wd ts := by omega
      have e2 : b + 1 + i = b + wd ts := by omega
      rw [e1, e2, gN_far g, gN_far g, h]
  · rw [List.getElem?_eq_none (by rw [win_len]; omega), List.getElem?_eq_none (by rw [win_len]; omega)]
theorem win_add {ts : List Nat} (g : GoodT ts) {a b : Nat} (h : win ts (wd ts) a = win ts (wd ts) b) : ∀ k, win ts (wd ts) (a + k) = win ts (wd ts) (b + k)
  | 0 => h
  | k + 1 => win_step g (win_add g h k)
theorem win_mul {ts : List Nat} (g : GoodT ts) {s l : Nat} (h : win ts (wd ts) s = win ts (wd ts) (s + l)) : ∀ m k, win ts (wd ts) (s + k) = win ts (wd ts) (s + k + m * l)
  | 0, k => by rw [Nat.zero_mul]; rfl
  | m + 1, k => by
    rw [win_mul g h m k]
    have := win_add g h (k + m * l)
    have e1 : s + k + m * l = s + (k + m * l) := by omega
    have e2 : s + k + (m + 1) * l = s + l + (k + m * l) := by rw [Nat.succ_mul]; omega
    rw [e1, e2]
    exact this
def rep (s l n : Nat) : Nat := if n < s then n else s + (n - s) % l
theorem win_rep {ts : List Nat} (g : GoodT ts) {s l : Nat} (h : win ts (wd ts) s = win ts (wd ts) (s + l)) (n : Nat) : win ts (wd ts) n = win ts (wd ts) (rep s l n) := by
  unfold rep
  by_cases c : n < s
  · rw [if_pos c]
  · rw [if_neg c, win_mul g h ((n - s) / l) ((n - s) % l)]
    congr 1
    have := Nat.mod_add_div (n - s) l
    rw [Nat.mul_comm] at this
    omega
theorem rnd_iff {ts : List Nat} (g : GoodT ts) {m s0 l0 : Nat} (R : Rnd (win ts (wd ts)) m (some (s0, l0))) {s l : Nat} (hl : 1 ≤ l) : win ts (wd ts) s = win ts (wd ts) (s + l) ↔ s0 ≤ s ∧ l % l0 = 0 := by
  generalize hr : some (s0, l0) = r at R
  cases R with
  | none _ => cases hr
  | some a h h1 h2 h3 h4 =>
    injection hr with hr
    injection hr with e1 e2
    subst e1
    have lp : 0 < l0 := by omega
    have hh : h = s0 + l0 := by omega
    subst hh
    have lt : ∀ n, rep s0 l0 n < s0 + l0 := fun n => by
      unfold rep
      by_cases c : n < s0
      · rw [if_pos c]; omega
      · rw [if_neg c]
        have := Nat.mod_lt (n - s0) lp
        omega
    have inj : ∀ a b, a < s0 + l0 → b < s0 + l0 → win ts (wd ts) a = win ts (wd ts) b → a = b := fun a b ha hb e => by
      rcases Nat.lt_trichotomy a b with z | z | z
      · exact absurd e (h4 a b z hb)
      · exact z
      · exact absurd e.symm (h4 b a z ha)
    constructor
    · intro e
      rw [win_rep g h3 s, win_rep g h3 (s + l)] at e
      have e := inj _ _ (lt _) (lt _) e
      unfold rep at e
      by_cases c : s < s0
      · rw [if_pos c] at e
        by_cases d : s + l < s0
        · rw [if_pos d] at e; omega
        · rw [if_neg d] at e; omega
      · rw [if_neg c, if_neg (by omega)] at e
        refine ⟨by omega, ?_⟩
        have e2 : s + l - s0 = (s - s0) + l := by omega
        rw [e2] at e
        have e3 : (s - s0 + l) % l0 = (s - s0) % l0 := by omega
        have := Nat.sub_mod_eq_zero_of_mod_eq e3
        rwa [Nat.add_sub_cancel_left] at this
    · intro ⟨h1, h2⟩
      obtain ⟨q, e⟩ := Nat.dvd_of_mod_eq_zero h2
      have := win_mul g h3 q (s - s0)
      have e1 : s0 + (s - s0) = s := by omega
      rw [e1] at this
      rw [e, Nat.mul_comm]
      exact this
end Hk

namespace Hk
open PySem L2 PySem.W
section
variable {P : Program} {w : World} {K : Frag} {mg : Str → Option Value} {base : Heap}
structure FunD (K : Frag) (x qual : Str) (st : Stmt) (f : Addr) (fd : FuncData) : Prop where
  ex : ∃ (oc : Value) (od : Option Addr) (dV kV doc pm : Value) (an : Option Addr) (cdv ct : Value) (osl : Array (Option Value)),
    fd = fnOf x qual (defArgs st) (defBody st) (defScope st) dV kV doc pm an cdv ct ∧ K.lookup f = some ⟨oc, od, .func fd, osl⟩ ∧ codeIn K cdv qual = true
theorem FunD.ok {x qual : Str} {st : Stmt} {f : Addr} {fd : FuncData} {N ps : List Str} {k : Nat} {sp : Sp} (F : FunD K x qual st f fd) (S : FnScope N ps (defScope st)) (len : ∀ vs H Q E, sp vs H Q E → vs.length = ps.length)
    (hbody : ∀ (cdv : Value) (A : Around) (outer : List Env) (s : Shared) (H : Hp) (vs : List V) (Q : VK) (E : XK), Room k (A.deeper (PyProof.Rows.envOfC qual (defScope st) s.heap.objs.size f cdv)) → sp vs H Q E →
      ∃ t, PSs (cxOf CX0 P w K mg base N qual (defScope st) f cdv A outer s H E).nox (defBody st) t ∧ t { nx := fun _ H' => Q .non H', rt := Q } (start N vs) H) : FnOk P w K mg base CX0 (k + 1) f fd ps sp := by
  obtain ⟨oc, od, dV, kV, doc, pm, an, cdv, ct, osl, rfl, lk, hcd⟩ := F.ex
  refine fn_of lk hcd S len fun A outer s H vs Q E hr hsp => ?_
  obtain ⟨t, h, q⟩ := hbody cdv A outer s H vs Q E hr hsp
  exact ⟨t, h.nox, q⟩
def spInitW (K : Frag) : Sp := fun vs H Q _ => ∃ C bm y wd, vs = [.ref y, wd] ∧ XIn K C bm ∧ H y = some (isX C y) ∧ Q .non H
theorem ok_initW {f : Addr} {fd : FuncData} (F : FunD K "__init__" "WebError.__init__" s_WebError_init f fd) (fr : Free mg ["ValueError"]) : FnOk P w K mg base CX0 1 f fd ["self", "words"] (spInitW K) := by
  have sc : FnScope ["self", "words"] ["self", "words"] (defScope s_WebError_init) := ⟨rfl, rfl, rfl, by decide +kernel, rfl, by decide +kernel, by decide +kernel⟩
  refine F.ok (N := ["self", "words"]) sc (fun vs H Q E h => ?_) (fun cdv A outer s H vs Q E hr h => ?_)
  · obtain ⟨C, bm, y, wd, rfl, _⟩ := h
    rfl
  · obtain ⟨C, bm, y, wd, rfl, hC, hy, q⟩ := h
    have m1 := fr "ValueError" (by simp)
    refine ⟨_, pss_one (ps_expr (pe_vinit rfl m1 hC (pa_cons (pv 0) (pa_cons (pv 1) pa_nil)))), ?_⟩
    exact ⟨_, rfl, _, rfl, y, [wd], rfl, (by show 1 ≤ 1000; decide), hy, q⟩
def spInit (K : Frag) : Sp := fun vs H Q _ => ∃ C bm y, vs = [.ref y] ∧ XIn K C bm ∧ H y = some (isX C y) ∧ Q .non H
theorem hole_upd {H : Hp} {y : Addr} {o : HO} (h : H y = none) : hole (upd H y o) y = H := by
  funext b
  by_cases e : b = y
  · subst e
    rw [hole_at, h]
  · rw [hole_ne e, upd_ne e]
end
end Hk

namespace Hk
open PySem L2 PySem.W
section
variable {P : Program} {w : World} {K : Frag} {mg : Str → Option Value} {base : Heap}
def tooF (i j : Int) : List (Str × V) := [("many", .int i), ("most", .int j)]
def spInitT (K : Frag) : Sp := fun vs H Q _ => ∃ C bm y i j, vs = [.ref y, .int i, .int j] ∧ XIn K C bm ∧ FldsOf K C ["many", "most"] ∧ H y = some (isX C y) ∧ i.natAbs.log2 < 1920 ∧ j.natAbs.log2 < 1920 ∧
  ∀ D H2, H D = none → D ≠ y → H2 y = some (isXo C y (some D)) → H2 D = some (isN D (tooF i j)) → (∀ b, b ≠ y → b ≠ D → H2 b = H b) → Q .non H2
theorem ok_init_TooGreat {f fW CW : Addr} {fd fdW : FuncData} (F : FunD K "__init__" "TooGreat.__init__" s_TooGreat_init f fd) (hW : mg "WebError" = some (.ref CW)) (M : CMeth K CW "__init__" fW) (okW : FnOk P w K mg base CX0 1 fW fdW ["self", "words"] (spInitW K)) (bW : Binds K fdW ["self", "words"] []) :
    FnOk P w K mg base CX0 2 f fd ["self", "many", "most"] (spInitT K) := by
  have sc : FnScope ["self", "many", "most"] ["self", "many", "most"] (defScope s_TooGreat_init) := ⟨rfl, rfl, rfl, by decide +kernel, rfl, by decide +kernel, by decide +kernel⟩
  refine F.ok (N := ["self", "many", "most"]) sc (fun vs H Q E h => ?_) (fun cdv A outer s H vs Q E hr h => ?_)
  · obtain ⟨C, bm, y, i, j, rfl, _⟩ := h
    rfl
  · obtain ⟨C, bm, y, i, j, rfl, hC, T, hy, hi, hj, q⟩ := h
    refine ⟨_, pss_cons (ps_expr (pe_cmeth rfl hW M okW hr bW pass0 (pa_cons (pv 0) (pa_cons (pe_fstr (pj_cons (pe_fv (pv 1)) (pj_cons pe_str (pj_cons (pe_fv (pv 2)) pj_nil)))) pa_nil)))) (pss_cons (ps_xfld (pv 0) (pv 1)) (pss_one (ps_xfld (pv 0) (pv 2)))), ?_⟩
    have n1 := T.no "many" (by simp)
    have n2 := T.no "most" (by simp)
    have l2 : ∀ x : Str, (Str.empty ++ x).length = x.length := fun x => by rw [strLen_append]; show 0 + _ = _; omega
    refine ⟨_, rfl, _, rfl, i, rfl, hi, fun x hx => ⟨x, rfl, ?_, _, rfl, ?_, _, rfl, j, rfl, hj, fun z hz => ⟨z, rfl, ?_, C, bm, y, _, rfl, hC, hy, ?_⟩⟩⟩
    · rw [l2, sizeLine_eq]; omega
    · have e1 : (Str.ofString " are too many, the most are ").length ≤ 100 := by decide
      rw [strLen_append, l2, sizeLine_eq]
      omega
    · have e1 : (Str.ofString " are too many, the most are ").length ≤ 100 := by decide
      rw [strLen_append, strLen_append, l2, sizeLine_eq]
      omega
    · refine ⟨_, rfl, _, rfl, y, C, rfl, T.xs, n1, .inl ⟨hy, fun D hD hne => ?_⟩⟩
      refine ⟨_, rfl, _, rfl, y, C, rfl, T.xs, n2, .inr ⟨D, _, upd_same, (by rw [upd_ne hne]; exact upd_same), (by show 1 < 1000; decide), ?_⟩⟩
      refine q D _ hD hne ?_ upd_same fun b h1 h2 => ?_
      · rw [upd_ne (Ne.symm hne)]
        exact upd_same
      · rw [upd_ne h2, upd_ne h1, upd_ne h2]
end
end Hk

namespace Hk
open PySem L2 PySem.W
section
variable {P : Program} {w : World} {K : Frag} {mg : Str → Option Value} {base : Heap}
theorem ok_init_NoNumber {f fW CW : Addr} {fd fdW : FuncData} (F : FunD K "__init__" "NoNumber.__init__" s_NoNumber_init f fd) (hW : mg "WebError" = some (.ref CW)) (M : CMeth K CW "__init__" fW) (okW : FnOk P w K mg base CX0 1 fW fdW ["self", "words"] (spInitW K)) (bW : Binds K fdW ["self", "words"] []) :
    FnOk P w K mg base CX0 2 f fd ["self"] (spInit K) := by
  have sc : FnScope ["self"] ["self"] (defScope s_NoNumber_init) := ⟨rfl, rfl, rfl, by decide +kernel, rfl, by decide +kernel, by decide +kernel⟩
  refine F.ok (N := ["self"]) sc (fun vs H Q E h => ?_) (fun cdv A outer s H vs Q E hr h => ?_)
  · obtain ⟨C, bm, y, rfl, _⟩ := h
    rfl
  · obtain ⟨C, bm, y, rfl, hC, hy, q⟩ := h
    refine ⟨_, pss_one (ps_expr (pe_cmeth rfl hW M okW hr bW pass0 (pa_cons (pv 0) (pa_cons pe_str pa_nil)))), ?_⟩
    exact ⟨_, rfl, C, bm, y, _, rfl, hC, hy, q⟩
end
end Hk

namespace Hk
open PySem L2 PySem.W
section
variable {P : Program} {w : World} {K : Frag} {mg : Str → Option Value} {base : Heap}
structure Kinds (mg : Str → Option Value) (c0 c1 c2 c3 c4 c5 c6 c7 c8 : Addr) : Prop where
  m0 : mg "NoPlace" = some (.ref c0)
  m1 : mg "NoHold" = some (.ref c1)
  m2 : mg "NoArrow" = some (.ref c2)
  m3 : mg "NoNumber" = some (.ref c3)
  m4 : mg "NoRow" = some (.ref c4)
  m5 : mg "NoWeb" = some (.ref c5)
  m6 : mg "Ringed" = some (.ref c6)
  m7 : mg "NoText" = some (.ref c7)
  m8 : mg "TooGreat" = some (.ref c8)
structure KindOf (K : Frag) (C c0 c1 c2 c3 c4 c5 c6 c7 c8 : Addr) (j : Nat) : Prop where
  xi : XIs K C
  v : kitOne K (.ref C) (.type "ValueError") = some true
  k0 : kitOne K (.ref C) (.ref c0) = some (decide (j = 0))
  k1 : kitOne K (.ref C) (.ref c1) = some (decide (j = 1))
  k2 : kitOne K (.ref C) (.ref c2) = some (decide (j = 2))
  k3 : kitOne K (.ref C) (.ref c3) = some (decide (j = 3))
  k4 : kitOne K (.ref C) (.ref c4) = some (decide (j = 4))
  k5 : kitOne K (.ref C) (.ref c5) = some (decide (j = 5))
  k6 : kitOne K (.ref C) (.ref c6) = some (decide (j = 6))
  k7 : kitOne K (.ref C) (.ref c7) = some (decide (j = 7))
  k8 : kitOne K (.ref C) (.ref c8) = some (decide (j = 8))
def kindWords : List Str := ["place", "hold", "arrow", "number", "row", "web", "ringed", "text", "great"]
def spKind (K : Frag) (c0 c1 c2 c3 c4 c5 c6 c7 c8 : Addr) : Sp := fun vs H Q _ => ∃ (y C : Addr) (j : Nat), vs = [.ref y] ∧ (∃ dct, H y = some (isL C y dct)) ∧ KindOf K C c0 c1 c2 c3 c4 c5 c6 c7 c8 j ∧ j < 9 ∧ ∀ H', Same H H' → Q (.str (kindWords.getD j "")) H'
theorem knH_kind {c0 c1 c2 c3 c4 c5 c6 c7 c8 : Addr} (D : DefAt K mg "_law_kind_of" s_law_kind_of ["e"]) (fr : Free mg ["isinstance", "ValueError"]) (M : Kinds mg c0 c1 c2 c3 c4 c5 c6 c7 c8) : KnH P w K mg base 1 "_law_kind_of" ["e"] (spKind K c0 c1 c2 c3 c4 c5 c6 c7 c8) := by
  have sc : FnScope ["e", "marks", "words"] ["e"] (defScope s_law_kind_of) := ⟨rfl, rfl, rfl, by decide +kernel, rfl, by decide +kernel, by decide +kernel⟩
  refine D.knH (N := ["e", "marks", "words"]) sc (fun vs H Q E h => ?_) (fun f cdv A outer s H vs Q hr h => ?_)
  · obtain ⟨y, C, j, rfl, _⟩ := h
    rfl
  · obtain ⟨y, C, j, rfl, ⟨dct, hy⟩, F, hj, k⟩ := h
    have m1 := fr "isinstance" (by simp)
    have m2 := fr "ValueError" (by simp)
    have b4 : 4 ≤ sizeLine := by decide
    have b9 : 9 ≤ sizeLine := by decide
    refine ⟨_, pss_cons (ps_set (i := 1) sc.nd rfl (Or.inl rfl) (pe_lst (pa_cons (pe_callB call_isx rfl m1 boot_isi (pa_cons (pv 0) (pa_cons (pe_glob (v := .ref c0) rfl M.m0 rfl) pa_nil))) (pa_cons (pe_callB call_isx rfl m1 boot_isi (pa_cons (pv 0) (pa_cons (pe_glob (v := .ref c1) rfl M.m1 rfl) pa_nil))) (pa_cons (pe_callB call_isx rfl m1 boot_isi (pa_cons (pv 0) (pa_cons (pe_glob (v := .ref c2) rfl M.m2 rfl) pa_nil))) (pa_cons (pe_callB call_isx rfl m1 boot_isi (pa_cons (pv 0) (pa_cons (pe_glob (v := .ref c3) rfl M.m3 rfl) pa_nil))) pa_nil))))))
      (pss_cons (ps_set (i := 1) sc.nd rfl (Or.inl rfl) (pe_op op_cat (pv 1) (pe_lst (pa_cons (pe_callB call_isx rfl m1 boot_isi (pa_cons (pv 0) (pa_cons (pe_glob (v := .ref c4) rfl M.m4 rfl) pa_nil))) (pa_cons (pe_callB call_isx rfl m1 boot_isi (pa_cons (pv 0) (pa_cons (pe_glob (v := .ref c5) rfl M.m5 rfl) pa_nil))) (pa_cons (pe_callB call_isx rfl m1 boot_isi (pa_cons (pv 0) (pa_cons (pe_glob (v := .ref c6) rfl M.m6 rfl) pa_nil))) (pa_cons (pe_callB call_isx rfl m1 boot_isi (pa_cons (pv 0) (pa_cons (pe_glob (v := .ref c7) rfl M.m7 rfl) pa_nil))) pa_nil)))))))
      (pss_cons (ps_expr (pe_bm PySem.F.plainAttrs_list PySem.F.slot_list_append PySem.F.type_list_append mt_append (pv 1) (pa_cons (pe_callB call_isx rfl m1 boot_isi (pa_cons (pv 0) (pa_cons (pe_glob (v := .ref c8) rfl M.m8 rfl) pa_nil))) pa_nil)))
      (pss_cons (ps_if (PW.pt (pw_or (pt_not (pt_call (pe_callB call_isxT rfl m1 boot_isi (pa_cons (pv 0) (pa_cons (pe_bltn (v := .ty "ValueError") rfl m2 boot_VE rfl) pa_nil))))) (pw_or1 (pt_cmpR op_ne (pe_bm PySem.F.plainAttrs_list PySem.F.slot_list_count PySem.F.type_list_count mt_countB (pv 1) (pa_cons pe_bl pa_nil)) pe_int (nomark _))))) (pss_one (ps_ret pe_str)) pss_nil)
      (pss_cons (ps_set (i := 2) sc.nd rfl (Or.inl rfl) (pe_lst (pa_cons pe_str (pa_cons pe_str (pa_cons pe_str (pa_cons pe_str (pa_cons pe_str (pa_cons pe_str (pa_cons pe_str (pa_cons pe_str (pa_cons pe_str pa_nil)))))))))))
      (pss_one (ps_ret (pe_ix ix_list (pv 2) (pe_bm PySem.F.plainAttrs_list PySem.F.slot_list_index PySem.F.type_list_index mt_indexB (pv 1) (pa_cons pe_bl pa_nil)) (fun _ _ => rfl)))))))), ?_⟩
    refine ⟨_, rfl, y, C, _, _, rfl, ⟨dct, hy⟩, F.xi, ⟨c0, rfl, F.k0⟩, _, rfl, y, C, _, _, rfl, ⟨dct, hy⟩, F.xi, ⟨c1, rfl, F.k1⟩, _, rfl, y, C, _, _, rfl, ⟨dct, hy⟩, F.xi, ⟨c2, rfl, F.k2⟩, _, rfl, y, C, _, _, rfl, ⟨dct, hy⟩, F.xi, ⟨c3, rfl, F.k3⟩, b4, fun l1 hl1 => ?_⟩
    have s1 := Same.upd (o := .lst [.bl (decide (j = 0)), .bl (decide (j = 1)), .bl (decide (j = 2)), .bl (decide (j = 3))]) hl1
    have hy1 := s1 _ _ hy
    refine ⟨_, rfl, _, rfl, y, C, _, _, rfl, ⟨dct, hy1⟩, F.xi, ⟨c4, rfl, F.k4⟩, _, rfl, y, C, _, _, rfl, ⟨dct, hy1⟩, F.xi, ⟨c5, rfl, F.k5⟩, _, rfl, y, C, _, _, rfl, ⟨dct, hy1⟩, F.xi, ⟨c6, rfl, F.k6⟩, _, rfl, y, C, _, _, rfl, ⟨dct, hy1⟩, F.xi, ⟨c7, rfl, F.k7⟩, b4, fun l2 hl2 => ?_⟩
    have s2 := s1.trans (Same.upd (o := .lst [.bl (decide (j = 4)), .bl (decide (j = 5)), .bl (decide (j = 6)), .bl (decide (j = 7))]) hl2)
    refine ⟨l1, l2, _, _, rfl, rfl, Same.upd hl2 _ _ upd_same, upd_same, (by show 8 ≤ sizeLine; decide), fun l3 hl3 => ?_⟩
    have s3 := s2.trans (Same.upd (o := .lst ([.bl (decide (j = 0)), .bl (decide (j = 1)), .bl (decide (j = 2)), .bl (decide (j = 3))] ++ [.bl (decide (j = 4)), .bl (decide (j = 5)), .bl (decide (j = 6)), .bl (decide (j = 7))])) hl3)
    refine ⟨_, rfl, .inl ⟨rfl, _, SqL.of upd_same⟩, _, rfl, y, C, _, _, rfl, ⟨dct, s3 _ _ hy⟩, F.xi, ⟨c8, rfl, F.k8⟩, l3, _, _, rfl, rfl, upd_same, (by show 8 < sizeLine; decide), ?_⟩
    have n3 : H l3 = none := by
      cases e : H l3 with
      | none => rfl
      | some o =>
        rw [s2 _ _ e] at hl3
        cases hl3
    have s4 : Same H (upd (upd (upd (upd H l1 (.lst [.bl (decide (j = 0)), .bl (decide (j = 1)), .bl (decide (j = 2)), .bl (decide (j = 3))])) l2 (.lst [.bl (decide (j = 4)), .bl (decide (j = 5)), .bl (decide (j = 6)), .bl (decide (j = 7))])) l3 (.lst ([.bl (decide (j = 0)), .bl (decide (j = 1)), .bl (decide (j = 2)), .bl (decide (j = 3))] ++ [.bl (decide (j = 4)), .bl (decide (j = 5)), .bl (decide (j = 6)), .bl (decide (j = 7))]))) l3 (.lst (([.bl (decide (j = 0)), .bl (decide (j = 1)), .bl (decide (j = 2)), .bl (decide (j = 3))] ++ [.bl (decide (j = 4)), .bl (decide (j = 5)), .bl (decide (j = 6)), .bl (decide (j = 7))]) ++ [.bl (decide (j = 8))]))) := fun b o e => by
      rw [upd_ne (ne_of_none e n3)]
      exact s3 _ _ e
    have hl4 : (upd (upd (upd (upd H l1 (.lst [.bl (decide (j = 0)), .bl (decide (j = 1)), .bl (decide (j = 2)), .bl (decide (j = 3))])) l2 (.lst [.bl (decide (j = 4)), .bl (decide (j = 5)), .bl (decide (j = 6)), .bl (decide (j = 7))])) l3 (.lst ([.bl (decide (j = 0)), .bl (decide (j = 1)), .bl (decide (j = 2)), .bl (decide (j = 3))] ++ [.bl (decide (j = 4)), .bl (decide (j = 5)), .bl (decide (j = 6)), .bl (decide (j = 7))]))) l3 (.lst (([.bl (decide (j = 0)), .bl (decide (j = 1)), .bl (decide (j = 2)), .bl (decide (j = 3))] ++ [.bl (decide (j = 4)), .bl (decide (j = 5)), .bl (decide (j = 6)), .bl (decide (j = 7))]) ++ [.bl (decide (j = 8))]))) l3 = some (.lst (((List.range 9).map fun i => decide (j = i)).map V.bl)) := upd_same
    generalize upd (upd (upd (upd H l1 _) l2 _) l3 _) l3 _ = H4 at s4 hl4
    refine ⟨_, rfl, y, C, "ValueError", true, rfl, ⟨dct, s4 _ _ hy⟩, F.xi, F.v, _, rfl, iteF ?_⟩
    have cnt : ((List.range 9).map fun i => decide (j = i)).count true = 1 := by
      have : j = 0 ∨ j = 1 ∨ j = 2 ∨ j = 3 ∨ j = 4 ∨ j = 5 ∨ j = 6 ∨ j = 7 ∨ j = 8 := by omega
      rcases this with rfl | rfl | rfl | rfl | rfl | rfl | rfl | rfl | rfl <;> rfl
    refine ⟨_, rfl, .inl ⟨rfl, _, SqL.of hl4⟩, l3, _, true, rfl, rfl, hl4, rfl, _, rfl, ?_⟩
    rw [cnt]
    refine iteF ⟨b9, fun l5 hl5 => ?_⟩
    have s5 := s4.trans (Same.upd (o := .lst [.str "place", .str "hold", .str "arrow", .str "number", .str "row", .str "web", .str "ringed", .str "text", .str "great"]) hl5)
    have hl45 := Same.upd (o := .lst [.str "place", .str "hold", .str "arrow", .str "number", .str "row", .str "web", .str "ringed", .str "text", .str "great"]) hl5 _ _ hl4
    have jl : ((List.range 9).map fun i => decide (j = i))[j]? = some true := by
      rw [List.getElem?_map, List.getElem?_range hj]
      simp
    have jn : ∀ i, i < j → ((List.range 9).map fun i => decide (j = i))[i]? = some (!true) := fun i hi => by
      rw [List.getElem?_map, List.getElem?_range (by omega)]
      have : ¬ j = i := by omega
      simp [this]
    refine ⟨_, rfl, _, rfl, .inl ⟨rfl, _, SqL.of hl45⟩, l3, _, true, j, rfl, rfl, hl45, jl, jn, by omega, ?_⟩
    refine ⟨l5, _, (j : Int), .str (kindWords.getD j ""), rfl, rfl, SqL.of upd_same, atI_nat ?_, k _ s5⟩
    have : j = 0 ∨ j = 1 ∨ j = 2 ∨ j = 3 ∨ j = 4 ∨ j = 5 ∨ j = 6 ∨ j = 7 ∨ j = 8 := by omega
    rcases this with rfl | rfl | rfl | rfl | rfl | rfl | rfl | rfl | rfl <;> rfl
end
end Hk

namespace Hk
open PySem L2
section
variable {P : Program} {w : World} {K : PySem.W.Frag} {mg : Str → Option Value} {base : Heap}
def spCell (K : PySem.W.Frag) : Sp := fun vs H Q _ => ∃ (a : Addr) (ns : List Int) (k : Nat), vs = [.ref a, .int k] ∧ SqL K H a (ns.map V.int) ∧ ∀ n : Int, Q (.int n) H
theorem kn_cell (D : DefAt K mg "_law_cell_at" s_law_cell_at ["script", "k"]) (fr : Free mg ["len"]) : Kn P w K mg base 1 "_law_cell_at" ["script", "k"] (spCell K) := by
  have sc : FnScope ["script", "k"] ["script", "k"] (defScope s_law_cell_at) := ⟨rfl, rfl, rfl, by decide +kernel, rfl, by decide +kernel, by decide +kernel⟩
  refine D.kn (N := ["script", "k"]) sc (fun vs H Q E h => ?_) (fun f cdv A outer s H vs Q E hr h => ?_)
  · obtain ⟨a, ns, k, rfl, _⟩ := h
    rfl
  · obtain ⟨a, ns, k, rfl, hq, kk⟩ := h
    have m1 := fr "len" (by simp)
    refine ⟨_, pss_cons (ps_if (pt_cmpR op_lt (pv 1) (pe_callB call_len_seq rfl m1 PySem.boot_len (pa_cons (pv 0) pa_nil)) (nomark _)) (pss_one (ps_ret (pe_ix ix_list (pv 0) (pv 1) (fun _ _ => rfl)))) pss_nil) (pss_one (ps_ret pe_int)), ?_⟩
    refine ⟨_, rfl, _, rfl, a, _, rfl, .inl hq, _, _, rfl, rfl, _, rfl, ite2 (fun h1 => ?_) (fun h1 => ?_)⟩
    · have h2 : k < ns.length := by
        have := of_decide_eq_true h1
        rw [List.length_map] at this
        omega
      exact ⟨_, rfl, _, rfl, a, _, _, V.int ns[k], rfl, rfl, hq, atI_nat (by simp [h2]), kk _⟩
    · exact kk 0
def spNext : Sp := fun vs H Q _ => ∃ n : Int, vs = [.int n] ∧ ∀ r : Int, Q (.int r) H
theorem kn_next (D : DefAt K mg "_law_next" s_law_next ["seed"]) : Kn P w K mg base 1 "_law_next" ["seed"] spNext := by
  have sc : FnScope ["seed"] ["seed"] (defScope s_law_next) := ⟨rfl, rfl, rfl, by decide +kernel, rfl, by decide +kernel, by decide +kernel⟩
  refine D.kn (N := ["seed"]) sc (fun vs H Q E h => ?_) (fun f cdv A outer s H vs Q E hr h => ?_)
  · obtain ⟨n, rfl, _⟩ := h
    rfl
  · obtain ⟨n, rfl, kk⟩ := h
    refine ⟨_, pss_cons (ps_set (i := 0) sc.nd rfl (Or.inl rfl) (pe_op op_mod (pe_op op_add (pv 0) pe_int) pe_int))
      (pss_one (ps_ret (pe_op op_mod (pe_op op_add (pe_op op_add (pe_op op_mul (pv 0) (pv 0)) (pe_op op_mul pe_int (pv 0))) pe_int) pe_int))), ?_⟩
    refine ⟨_, rfl, _, _, rfl, rfl, _, _, rfl, rfl, (by show (0 : Int) < 2147483647; decide), ?_⟩
    have b1 : 0 ≤ (n + 7919) % 2147483647 := Int.emod_nonneg _ (by decide)
    have b2 : (n + 7919) % 2147483647 < 2147483647 := Int.emod_lt_of_pos _ (by decide)
    refine ⟨_, rfl, _, rfl, _, _, rfl, rfl, .inl ⟨by omega, by omega⟩, _, rfl, _, _, rfl, rfl, .inl ⟨by decide, by decide⟩, _, _, rfl, rfl, _, _, rfl, rfl, _, _, rfl, rfl, (by show (0 : Int) < 2147483629; decide), kk _⟩
def PenAt (H : Hp) (p : Addr) : Prop := ∃ a b c : Int, H p = some (.lst [.int a, .int b, .int c])
def spPen : Sp := fun vs H Q _ => ∃ n : Int, vs = [.int n] ∧ ∀ (p : Addr) (H' : Hp), Same H H' → H p = none → PenAt H' p → Q (.ref p) H'
theorem kn_pen (D : DefAt K mg "_law_pen_of" s_law_pen_of ["cell"]) (fr : Free mg ["max", "int"]) : Kn P w K mg base 1 "_law_pen_of" ["cell"] spPen := by
  have sc : FnScope ["cell", "left"] ["cell"] (defScope s_law_pen_of) := ⟨rfl, rfl, rfl, by decide +kernel, rfl, by decide +kernel, by decide +kernel⟩
  refine D.kn (N := ["cell", "left"]) sc (fun vs H Q E h => ?_) (fun f cdv A outer s H vs Q E hr h => ?_)
  · obtain ⟨n, rfl, _⟩ := h
    rfl
  · obtain ⟨n, rfl, kk⟩ := h
    have m1 := fr "max" (by simp)
    have m2 := fr "int" (by simp)
    refine ⟨_, pss_cons (ps_set (i := 1) sc.nd rfl (Or.inl rfl) (pe_callB (call_max2 rfl) rfl m1 boot_fmax (pa_cons (pv 0) (pa_cons (pe_op op_sub pe_int (pv 0)) pa_nil))))
      (pss_one (ps_ret (pe_lst (pa_cons (pv 1) (pa_cons (pe_callTy call_int1 rfl m2 boot_tint (pa_cons (pe_cmpR op_ge (pv 1) (pe_op op_pow pe_int pe_int) (nomark _)) pa_nil)) (pa_cons (pe_op op_mod (pv 1) pe_int) pa_nil)))))), ?_⟩
    refine ⟨_, rfl, _, rfl, _, _, rfl, rfl, _, _, rfl, ?_⟩
    refine ⟨_, rfl, _, rfl, _, _, rfl, rfl, ⟨by decide, by decide, by decide⟩, _, _, rfl, rfl, .inr ⟨_, rfl, ?_⟩⟩
    refine ⟨_, rfl, _, _, rfl, rfl, (by show (0 : Int) < 1000003; decide), ?_, fun p hp => ?_⟩
    · show 3 ≤ sizeLine
      decide
    · exact kk p _ (Same.upd hp) hp ⟨_, _, _, upd_same⟩
theorem log_small {m : Int} (h0 : 0 < m) (h1 : m ≤ 1000000000000000000000000000000000000000000000000000000000000) : m.natAbs.log2 < 9000 := by
  have h2 : m.natAbs < 2 ^ 200 := by
    have : (2 : Nat) ^ 200 = 1606938044258990275541962092341162602522202993782792835301376 := by decide +kernel
    rw [this]
    omega
  have := (Nat.log2_lt (n := m.natAbs) (k := 200) (by omega)).mpr h2
  omega
def spDraw : Sp := fun vs H Q _ => ∃ (p : Addr) (m : Int), vs = [.ref p, .int m] ∧ PenAt H p ∧ 0 < m ∧ m ≤ 1000000000000000000000000000000000000000000000000000000000000 ∧ ∀ (r : Int) (H' : Hp), 0 ≤ r → r < m → SameBut p H H' → PenAt H' p → Q (.int r) H'
theorem kn_draw (D : DefAt K mg "_law_draw" s_law_draw ["pen", "many"]) (kx : Kn P w K mg base 1 "_law_next" ["seed"] spNext) : Kn P w K mg base 2 "_law_draw" ["pen", "many"] spDraw := by
  have sc : FnScope ["pen", "many", "found"] ["pen", "many"] (defScope s_law_draw) := ⟨rfl, rfl, rfl, by decide +kernel, rfl, by decide +kernel, by decide +kernel⟩
  refine D.kn (N := ["pen", "many", "found"]) sc (fun vs H Q E h => ?_) (fun f cdv A outer s H vs Q E hr h => ?_)
  · obtain ⟨p, m, rfl, _⟩ := h
    rfl
  · obtain ⟨p, m, rfl, ⟨a, b, c, hp⟩, h0, h1, kk⟩ := h
    have lg := log_small h0 h1
    refine ⟨_, pss_cons (ps_if (pt_cmpR op_eq (pe_ix ix_list (pv 0) pe_int (fun _ _ => rfl)) pe_int (nomark _))
        (pss_cons (ps_set (i := 2) sc.nd rfl (Or.inl rfl) (pe_op op_mod (pe_ix ix_list (pv 0) pe_int (fun _ _ => rfl)) (pv 1)))
        (pss_cons (ps_asg (pe_op op_fdivW (pe_ix ix_list (pv 0) pe_int (fun _ _ => rfl)) (pv 1)) (pg_sub (pv 0) pe_int set_list)) (pss_one (ps_ret (pv 2))))) pss_nil)
      (pss_cons (ps_asg (pe_kn kx hr (pa_cons (pe_op op_add (pe_kn kx hr (pa_cons (pe_ix ix_list (pv 0) pe_int (fun _ _ => rfl)) pa_nil)) pe_int) pa_nil)) (pg_sub (pv 0) pe_int set_list))
      (pss_one (ps_ret (pe_op op_mod (pe_op op_fdiv (pe_ix ix_list (pv 0) pe_int (fun _ _ => rfl)) pe_int) (pv 1))))), ?_⟩
    refine ⟨_, rfl, p, _, _, _, rfl, rfl, SqL.of hp, rfl, rfl, _, rfl, ite2 (fun h2 => ?_) (fun h2 => ?_)⟩
    · refine ⟨_, rfl, p, _, _, _, rfl, rfl, SqL.of hp, rfl, _, rfl, _, _, rfl, rfl, h0, ?_⟩
      refine ⟨_, rfl, p, _, _, _, rfl, rfl, SqL.of hp, rfl, _, rfl, _, _, rfl, rfl, ⟨h0, lg⟩, ?_⟩
      refine ⟨_, rfl, p, _, _, 0, rfl, rfl, hp, rfl, ?_⟩
      refine ⟨_, rfl, kk _ _ (Int.emod_nonneg _ (by omega)) (Int.emod_lt_of_pos _ h0) SameBut.upd ⟨_, _, _, upd_same⟩⟩
    · refine ⟨_, rfl, p, _, _, _, rfl, rfl, SqL.of hp, rfl, _, rfl, fun r1 => ?_⟩
      refine ⟨_, _, rfl, rfl, _, rfl, fun r2 => ?_⟩
      refine ⟨_, rfl, p, _, _, 2, rfl, rfl, hp, rfl, ?_⟩
      refine ⟨_, rfl, p, _, _, _, rfl, rfl, SqL.of upd_same, rfl, _, _, rfl, rfl, ⟨by decide, by decide⟩, _, rfl, _, _, rfl, rfl, h0, ?_⟩
      exact kk _ _ (Int.emod_nonneg _ (by omega)) (Int.emod_lt_of_pos _ h0) SameBut.upd ⟨_, _, _, upd_same⟩
end
end Hk

namespace Hk
open PySem L2
theorem smallN {n : Nat} (h : n ≤ 100000) : n < sizeLine := Nat.lt_of_le_of_lt h (by decide)
theorem filter_snoc {α : Type} (f : α → Bool) (l : List α) (i : Nat) (x : α) (h : l[i]? = some x) : (l.take (i + 1)).filter f = (l.take i).filter f ++ (if f x = true then [x] else []) := by
  rw [take_snoc _ _ _ h, List.filter_append, List.filter_cons, List.filter_nil]
end Hk

namespace Hk
open PySem L2
section
variable {P : Program} {w : World} {K : PySem.W.Frag} {mg : Str → Option Value} {base : Heap}
theorem PenAt.mono {H H' : Hp} {p : Addr} (s : Same H H') (h : PenAt H p) : PenAt H' p := by
  obtain ⟨x, y, z, e⟩ := h
  exact ⟨x, y, z, s _ _ e⟩
theorem pen_tup {H : Hp} {p q : Addr} {xs : List V} (hp : PenAt H p) (hq : H q = some (.tup xs)) : q ≠ p := by
  obtain ⟨a, b, c, e⟩ := hp
  exact ne_of hq e (by intro z; cases z)
theorem gname_in {i : Nat} {v : V} {σ : St} {H : Hp} {Q : St → Hp → Prop} (h : Q (σ.set i (some v)) H) : gName i v σ H Q := h
theorem seq_inv {a R : TS} {D : Ends} {σ : St} {H : Hp} (Inv : St → Hp → Prop) (h : ∀ D' : Ends, (∀ σ H, Inv σ H → D'.nx σ H) → a D' σ H) (hk : ∀ σ H, Inv σ H → R D σ H) : tSeq a R D σ H := h _ hk
end
end Hk

namespace Hk
open PySem L2
theorem newp {H : Hp} {p q : Addr} (hp : PenAt H p) (hq : H q = none) : q ≠ p := fun e => by
  obtain ⟨_, _, _, z⟩ := hp
  rw [e, z] at hq
  cases hq
end Hk

namespace Hk
open PySem L2
section
variable {P : Program} {w : World} {K : PySem.W.Frag} {mg : Str → Option Value} {base : Heap}
theorem inV_int (k : Int) (ns : List Int) : inV (.int k) (ns.map V.int) = decide (k ∈ ns) := by
  unfold inV
  induction ns with
  | nil => simp
  | cons n r ih =>
    rw [List.map_cons, List.any_cons, ih]
    have : eqV (V.int n) (V.int k) = decide (k = n) := by
      show (n == k) = _
      by_cases h : k = n
      · subst h; simp
      · simp [h, Ne.symm h]
    rw [this]
    simp
theorem flat_ints (ns : List Int) : (ns.map V.int).all flatV = true := by
  rw [List.all_map]
  exact List.all_eq_true.mpr fun _ _ => rfl
end
end Hk

namespace Hk
open PySem L2
def IsMex (ns : List Int) (k : Nat) : Prop := (k : Int) ∉ ns ∧ ∀ j, j < k → (j : Int) ∈ ns
noncomputable def mexI (ns : List Int) : Int := Classical.epsilon fun v : Int => ∃ k : Nat, v = k ∧ IsMex ns k
def geC (ns : List Int) (k : Nat) : Nat := ns.countP fun n => decide ((k : Int) ≤ n)
theorem geC_step {ns : List Int} {k : Nat} (h : (k : Int) ∈ ns) : geC ns (k + 1) < geC ns k := by
  unfold geC
  induction ns with
  | nil => cases h
  | cons n r ih =>
    have le : r.countP (fun n => decide (((k + 1 : Nat) : Int) ≤ n)) ≤ r.countP fun n => decide ((k : Int) ≤ n) := List.countP_mono_left fun x _ hx => by
      have := of_decide_eq_true hx
      exact decide_eq_true (by omega)
    rw [List.countP_cons, List.countP_cons]
    rcases List.mem_cons.mp h with z | z
    · have h1 : decide (((k + 1 : Nat) : Int) ≤ n) = false := decide_eq_false (by omega)
      have h2 : decide ((k : Int) ≤ n) = true := decide_eq_true (by omega)
      rw [h1, h2, if_neg Bool.false_ne_true, if_pos rfl]
      omega
    · have i := ih z
      by_cases h1 : ((k + 1 : Nat) : Int) ≤ n
      · rw [decide_eq_true h1, decide_eq_true (show (k : Int) ≤ n by omega), if_pos rfl]
        omega
      · rw [decide_eq_false h1, if_neg Bool.false_ne_true]
        omega
theorem geC_le (ns : List Int) (k : Nat) : geC ns k ≤ ns.length := List.countP_le_length
section
variable {P : Program} {w : World} {K : PySem.W.Frag} {mg : Str → Option Value} {base : Heap}
def spMex : Sp := fun vs H Q _ => ∃ (a : Addr) (ns : List Int), vs = [.ref a] ∧ H a = some (.lst (ns.map V.int)) ∧ ∀ k : Nat, IsMex ns k → k ≤ ns.length → Q (.int k) H
theorem kn_least (D : DefAt K mg "least_missing" s_least_missing ["numbers"]) : Kn P w K mg base 1 "least_missing" ["numbers"] spMex := by
  have sc : FnScope ["numbers", "number"] ["numbers"] (defScope s_least_missing) := ⟨rfl, rfl, rfl, by decide +kernel, rfl, by decide +kernel, by decide +kernel⟩
  refine D.kn (N := ["numbers", "number"]) sc (fun vs H Q E h => ?_) (fun f cdv A outer s H vs Q E hr h => ?_)
  · obtain ⟨a, ns, rfl, _⟩ := h
    rfl
  · obtain ⟨a, ns, rfl, ha, kk⟩ := h
    refine ⟨_, pss_cons (ps_set (i := 1) sc.nd rfl (Or.inl rfl) pe_int) (pss_cons (ps_while PassesOwn.never (pt_cmpR op_in_seq (pv 1) (pv 0) rfl) (pss_one (ps_aug (i := 1) sc.nd rfl (Or.inl rfl) pe_int ip_add))) (pss_one (ps_ret (pv 1)))), ?_⟩
    refine ⟨fun μ σ H2 => H2 = H ∧ ∃ k : Nat, σ = [some (.ref a), some (.int k)] ∧ (∀ j, j < k → (j : Int) ∈ ns) ∧ k + geC ns k ≤ ns.length ∧ μ = geC ns k, ⟨_, rfl, 0, rfl, fun j hj => absurd hj (by omega), (by have := geC_le ns 0; omega), rfl⟩, ?_⟩
    rintro μ σ H2 ⟨rfl, k, rfl, lt, le, rfl⟩
    refine ⟨_, rfl, _, rfl, a, _, rfl, .inl (SqL.of ha), rfl, flat_ints ns, _, rfl, ?_⟩
    show if inV (.int k) (ns.map V.int) = true then _ else _
    rw [inV_int]
    refine ite2 (fun h1 => ?_) (fun h1 => ?_)
    · have h1 := of_decide_eq_true h1
      have st := geC_step h1
      refine ⟨fun σ' H' => ∃ μ', μ' < geC ns k ∧ H' = H2 ∧ ∃ k : Nat, σ' = [some (.ref a), some (.int k)] ∧ (∀ j, j < k → (j : Int) ∈ ns) ∧ k + geC ns k ≤ ns.length ∧ μ' = geC ns k, fun _ _ z => z, ?_⟩
      refine ⟨_, rfl, _, _, rfl, rfl, _, st, rfl, k + 1, rfl, fun j hj => ?_, by omega, rfl⟩
      by_cases e : j = k
      · rw [e]; exact h1
      · exact lt j (by omega)
    · exact ⟨_, rfl, kk k ⟨fun z => h1 (decide_eq_true z), lt⟩ (by omega)⟩
end
end Hk

namespace Hk
open PySem L2
section
variable {P : Program} {w : World} {K : PySem.W.Frag} {mg : Str → Option Value} {base : Heap}
def spWhole : Sp := fun vs H Q _ => ∃ x T, vs = [x] ∧ Dat H x T ∧ Q (.bl (isI x)) H
theorem kn_whole (D : DefAt K mg "whole_good" s_whole_good ["thing"]) (fr : Free mg ["isinstance", "int", "bool"]) : Kn P w K mg base 1 "whole_good" ["thing"] spWhole := by
  refine D.kn (N := ["thing"]) ⟨rfl, rfl, rfl, by decide +kernel, rfl, by decide +kernel, by decide +kernel⟩ (fun vs H Q E h => ?_) (fun f cdv A outer s H vs Q E hr h => ?_)
  · obtain ⟨x, T, rfl, _⟩ := h
    rfl
  · obtain ⟨x, T, rfl, d, k⟩ := h
    have m1 := fr "isinstance" (by simp)
    have m2 := fr "int" (by simp)
    have m3 := fr "bool" (by simp)
    refine ⟨_, pss_one (ps_ret (pe_and (pe_callB call_isi rfl m1 boot_isi (pa_cons (pv 0) (pa_cons (pe_bltn (v := .ty "int") rfl m2 boot_tint rfl) pa_nil)))
      (pe_one (pe_not (pe_callB call_isi rfl m1 boot_isi (pa_cons (pv 0) (pa_cons (pe_bltn (v := .ty "bool") rfl m3 boot_tbool rfl) pa_nil))))))), ?_⟩
    refine ⟨x, rfl, x, "int", T, rfl, d, by simp, _, rfl, ite2 (fun h1 => ?_) (fun h1 => ?_)⟩
    · refine ⟨x, rfl, x, "bool", T, rfl, d, by simp, _, rfl, ?_⟩
      cases d <;> first | exact k | exact absurd h1 (by decide)
    · cases d <;> first | exact k | exact absurd (by decide) h1
end
end Hk

namespace Hk
open PySem L2
section
variable {P : Program} {w : World} {K : PySem.W.Frag} {mg : Str → Option Value} {base : Heap}
theorem kn_lawWhole (D : DefAt K mg "_law_whole" s_law_whole ["found"]) (fr : Free mg ["isinstance", "int", "bool"]) : Kn P w K mg base 1 "_law_whole" ["found"] spWhole := by
  refine D.kn (N := ["found"]) ⟨rfl, rfl, rfl, by decide +kernel, rfl, by decide +kernel, by decide +kernel⟩ (fun vs H Q E h => ?_) (fun f cdv A outer s H vs Q E hr h => ?_)
  · obtain ⟨x, T, rfl, _⟩ := h
    rfl
  · obtain ⟨x, T, rfl, d, k⟩ := h
    have m1 := fr "isinstance" (by simp)
    have m2 := fr "int" (by simp)
    have m3 := fr "bool" (by simp)
    refine ⟨_, pss_one (ps_ret (pe_and (pe_callB call_isi rfl m1 boot_isi (pa_cons (pv 0) (pa_cons (pe_bltn (v := .ty "int") rfl m2 boot_tint rfl) pa_nil)))
      (pe_one (pe_not (pe_callB call_isi rfl m1 boot_isi (pa_cons (pv 0) (pa_cons (pe_bltn (v := .ty "bool") rfl m3 boot_tbool rfl) pa_nil))))))), ?_⟩
    refine ⟨x, rfl, x, "int", T, rfl, d, by simp, _, rfl, ite2 (fun h1 => ?_) (fun h1 => ?_)⟩
    · refine ⟨x, rfl, x, "bool", T, rfl, d, by simp, _, rfl, ?_⟩
      cases d <;> first | exact k | exact absurd h1 (by decide)
    · cases d <;> first | exact k | exact absurd (by decide) h1
end
end Hk

namespace Hk
open PySem L2
def vN (l : List Nat) : List V := (toI l).map V.int
theorem vN_len (l : List Nat) : (vN l).length = l.length := by unfold vN toI; simp
theorem vN_app (l r : List Nat) : vN (l ++ r) = vN l ++ vN r := by unfold vN toI; simp
theorem vN_at {l : List Nat} {i n : Nat} (h : l[i]? = some n) : (vN l)[i]? = some (V.int n) := by unfold vN toI; simp [h]
theorem vN_get {l : List Nat} {i : Nat} {x : V} (h : (vN l)[i]? = some x) : ∃ n, l[i]? = some n ∧ x = V.int n := by
  unfold vN toI at h
  rw [List.getElem?_map, List.getElem?_map] at h
  cases e : l[i]? with
  | none => rw [e] at h; cases h
  | some n => rw [e] at h; cases h; exact ⟨n, rfl, rfl⟩
theorem toI_len (l : List Nat) : (toI l).length = l.length := by unfold toI; simp
theorem toI_mem {l : List Nat} {k : Nat} : (k : Int) ∈ toI l ↔ k ∈ l := by
  unfold toI
  constructor
  · intro h
    obtain ⟨n, hn, e⟩ := List.mem_map.mp h
    have : n = k := by omega
    rw [← this]; exact hn
  · intro h
    exact List.mem_map.mpr ⟨k, h, rfl⟩
theorem mex_of {S : List Nat} {k : Nat} (h : IsMex (toI S) k) (hl : k ≤ (toI S).length) : k = mexN S := by
  rw [toI_len] at hl
  exact (mexN_eq (fun z => h.1 (toI_mem.mpr z)) (fun j hj => toI_mem.mp (h.2 j hj)) hl).symm
theorem stepG_snoc {ts : List Nat} {k t : Nat} (l : List Nat) (n : Nat) (h : ts[k]? = some t) : stepG (ts.take (k + 1)) l n = stepG (ts.take k) l n ++ (if t ≤ n then [l.getD (n - t) 0] else []) := by
  unfold stepG
  rw [filter_snoc _ _ _ _ h, List.map_append]
  by_cases q : t ≤ n
  · rw [if_pos q, if_pos (decide_eq_true q)]; rfl
  · rw [if_neg q, if_neg (by simpa using q)]; rfl
theorem stepG_len (ts l : List Nat) (n : Nat) : (stepG ts l n).length ≤ ts.length := by
  unfold stepG
  rw [List.length_map]
  exact List.length_filter_le _ _
section
variable {P : Program} {w : World} {K : PySem.W.Frag} {mg : Str → Option Value} {base : Heap}
def spNums : Sp := fun vs H Q _ => ∃ (b : Addr) (ts : List Nat) (n : Nat), vs = [.ref b, .int n] ∧ H b = some (.tup (vN ts)) ∧ GoodT ts ∧ n ≤ 6000 ∧
  ∀ (l : Addr) (H' : Hp), Same H H' → H l = none → H' l = some (.lst (vN (gr ts (n + 1)))) → Q (.ref l) H'
theorem kn_nums (D : DefAt K mg "numbers_to" s_numbers_to ["takes", "most"]) (fr : Free mg ["range"]) (km : Kn P w K mg base 1 "least_missing" ["numbers"] spMex) : Kn P w K mg base 2 "numbers_to" ["takes", "most"] spNums := by
  have sc : FnScope ["takes", "most", "numbers", "heap"] ["takes", "most"] (defScope s_numbers_to) := ⟨rfl, rfl, rfl, by decide +kernel, rfl, by decide +kernel, by decide +kernel⟩
  refine D.kn (N := ["takes", "most", "numbers", "heap"]) sc (fun vs H Q E h => ?_) (fun f cdv A outer s H vs Q E hr h => ?_)
  · obtain ⟨b, ts, n, rfl, _⟩ := h
    rfl
  · obtain ⟨b, ts, n, rfl, hb, gt, hn, kk⟩ := h
    have m1 := fr "range" (by simp)
    have nd : (["take", "heap", "numbers"] : List Str).Nodup := by decide +kernel
    refine ⟨_, pss_cons (ps_set (i := 2) sc.nd rfl (Or.inr rfl) (pe_lst pa_nil)) (pss_cons (ps_for PassesOwn.never rfl (pi_range1 rfl m1 (pa_cons (pe_op op_add (pv 1) pe_int) pa_nil)) (pg_name (i := 3) sc.nd rfl (Or.inr rfl))
      (pss_one (ps_expr (pe_bm PySem.F.plainAttrs_list PySem.F.slot_list_append PySem.F.type_list_append mt_append (pv 2) (pa_cons (pe_kn km hr (pa_cons (pe_lc (N := ["take", "heap", "numbers"]) (src := [none, some 3, some 2]) rfl ⟨rfl, rfl, rfl, rfl, ⟨⟨rfl, rfl⟩, ⟨rfl, rfl⟩, trivial⟩, rfl, rfl, rfl⟩ (gown_name (i := 0) rfl) (pi_tup (pv 0)) (fun C s H fp => ⟨pg_name (i := 0) nd rfl (Or.inl rfl), pifs_one (pt_cmpR op_le (pv 0) (pv 1) (nomark _)), pe_ix (r := rIxL K) ix_list (pv 2) (pe_op op_sub (pv 1) (pv 0)) (fun _ _ => rfl)⟩)) pa_nil)) pa_nil)))))
      (pss_one (ps_ret (pv 2)))), ?_⟩
    refine ⟨(by show 0 ≤ sizeLine; decide), fun l hl => ?_⟩
    refine ⟨_, rfl, _, _, rfl, rfl, _, rfl, (by omega), (by omega), for_range (fun i σ H2 => ∃ v3 : Option V, σ = [some (.ref b), some (.int n), some (.ref l), v3] ∧ Same H H2 ∧ H2 l = some (.lst (vN (gr ts i)))) ⟨none, rfl, Same.upd hl, upd_same⟩ ?_ ?_⟩
    · rintro i σ H2 hi ⟨v3, rfl, s2, hl2⟩
      have hi : i < n + 1 := by omega
      have hb2 := s2 _ _ hb
      refine ⟨_, rfl, .inl ⟨rfl, _, SqL.of hl2⟩, ?_⟩
      refine ⟨_, rfl, b, rfl, ⟨_, SqT.of hb2⟩, lc_tup (xs := vN ts) (fun k zs H' => Same H2 H' ∧ zs = vN (stepG (ts.take k) (gr ts i) i)) ⟨Same.refl _, rfl⟩ ?_ ?_ ?_⟩
      · rintro k zs H' hk ⟨s3, rfl⟩
        refine ⟨SqT.of (s3 _ _ hb2), ?_⟩
        rw [vN_len]
        have := stepG_len (ts.take k) (gr ts i) i
        rw [List.length_take] at this
        have := gt.len
        exact Nat.le_of_lt (small1000 (by omega))
      · rintro zs H' ⟨s3, rfl⟩ l2 hl2n
        have et : ts.take (vN ts).length = ts := by rw [vN_len]; exact List.take_of_length_le (Nat.le_refl _)
        rw [et]
        refine ⟨l2, toI (stepG ts (gr ts i) i), rfl, upd_same, fun k hk hle => ?_⟩
        have s4 := s3.trans (Same.upd (o := .lst (vN (stepG ts (gr ts i) i))) hl2n)
        have e := mex_of hk hle
        refine ⟨l, _, _, rfl, rfl, s4 _ _ hl2, ?_, ?_⟩
        · rw [vN_len, gr_len]
          exact smallN (by omega)
        · have nl : l ≠ l2 := by
            intro z
            subst z
            rw [s3 _ _ hl2] at hl2n
            cases hl2n
          refine ⟨some (.int (0 + i)), rfl, fun b' o' e' => ?_, ?_⟩
          · have h2 := s2 _ _ e'
            have : b' ≠ l := by
              intro z
              subst z
              rw [hl] at e'
              cases e'
            rw [upd_ne this]
            exact s4 _ _ h2
          · rw [upd_same, e]
            show _ = some (HO.lst (vN (gr ts i ++ [mexN (stepG ts (gr ts i) i)])))
            rw [vN_app]
            rfl
      · rintro k x zs H' hx hk ⟨s3, rfl⟩
        obtain ⟨t, ht, rfl⟩ := vN_get hx
        have q := stepG_snoc (gr ts i) i ht
        have gt1 := gt.lo t (List.mem_of_getElem? ht)
        refine ⟨_, rfl, _, rfl, _, _, rfl, rfl, _, rfl, ite2 (fun c => ?_) (fun c => ?_)⟩
        · have c : t ≤ i := by have := of_decide_eq_true c; omega
          rw [if_pos c] at q
          refine ⟨_, rfl, _, rfl, _, rfl, _, _, rfl, rfl, l, _, _, V.int (((gr ts i).getD (i - t) 0 : Nat) : Int), rfl, rfl, SqL.of (s3 _ _ hl2), ?_, nx hk ⟨s3, ?_⟩⟩
          · have e1 : (0 + (i : Int)) - (t : Int) = ((i - t : Nat) : Int) := by omega
            rw [e1]
            have lt : i - t < (gr ts i).length := by rw [gr_len]; omega
            refine atI_nat (vN_at ?_)
            rw [List.getD_eq_getElem?_getD, List.getElem?_eq_getElem lt]
            rfl
          · rw [q, vN_app]
            rfl
        · have c : ¬ t ≤ i := fun z => c (decide_eq_true (by omega))
          rw [if_neg c] at q
          exact nx hk ⟨s3, by rw [q, List.append_nil]⟩
    · rintro σ H2 ⟨v3, rfl, s2, hl2⟩
      exact ⟨_, rfl, kk l H2 s2 hl hl2⟩
end
end Hk

namespace Hk
open PySem L2
def numG (m : Int) : V → Bool
  | .int n => decide (0 ≤ n) && decide (n ≤ m)
  | _ => false
section
variable {P : Program} {w : World} {K : PySem.W.Frag} {mg : Str → Option Value} {base : Heap}
def spNumG : Sp := fun vs H Q _ => ∃ x T m, vs = [x, .int m] ∧ Dat H x T ∧ Q (.bl (numG m x)) H
theorem kn_numgood (D : DefAt K mg "number_good" s_number_good ["thing", "most"]) (kw : Kn P w K mg base 1 "whole_good" ["thing"] spWhole) : Kn P w K mg base 2 "number_good" ["thing", "most"] spNumG := by
  refine D.kn (N := ["thing", "most"]) ⟨rfl, rfl, rfl, by decide +kernel, rfl, by decide +kernel, by decide +kernel⟩ (fun vs H Q E h => ?_) (fun f cdv A outer s H vs Q E hr h => ?_)
  · obtain ⟨x, T, m, rfl, _⟩ := h
    rfl
  · obtain ⟨x, T, m, rfl, d, k⟩ := h
    refine ⟨_, pss_one (ps_ret (pe_and (pe_kn kw hr (pa_cons (pv 0) pa_nil)) (pe_one (pe_chain op_le op_le pe_int (pv 0) (pv 1))))), ?_⟩
    refine ⟨x, rfl, x, T, rfl, d, _, rfl, ?_⟩
    cases d with
    | int i =>
      refine iteT ?_
      refine ⟨_, rfl, _, _, rfl, rfl, _, rfl, ite2 (fun h1 => ?_) (fun h1 => ?_)⟩
      · refine ⟨_, rfl, _, _, rfl, rfl, ?_⟩
        have e : numG m (.int i) = decide (i ≤ m) := by simp [numG, of_decide_eq_true h1]
        rw [e] at k
        exact k
      · have e : numG m (.int i) = false := by
          have h1 : ¬ 0 ≤ i := by simpa using h1
          simp [numG, h1]
        rw [e] at k
        exact k
    | _ => exact iteF k
end
end Hk

namespace Hk
open PySem L2 PySem.W
section
variable {P : Program} {w : World} {K : Frag} {mg : Str → Option Value} {base : Heap}
def spRefN (CN : Addr) : Sp := fun vs H Q E => ∃ x m T, vs = [x, .int m] ∧ Dat H x T ∧ (if numG m x = true then Q .non H else E (.ref CN) none H)
theorem knx_refN {CN fN : Addr} {bm : List Value} {fdN : FuncData} (D : DefAt K mg "refuse_no_number" s_refuse_no_number ["thing", "most"]) (kp : Kn P w K mg base 2 "number_good" ["thing", "most"] spNumG) (M : XMk K CN fN bm) (hN : mg "NoNumber" = some (.ref CN))
    (okN : FnOk P w K mg base CX0 2 fN fdN ["self"] (spInit K)) (bN : Binds K fdN ["self"] []) : KnX P w K mg base 4 "refuse_no_number" ["thing", "most"] (spRefN CN) := by
  have sc : FnScope ["thing", "most"] ["thing", "most"] (defScope s_refuse_no_number) := ⟨rfl, rfl, rfl, by decide +kernel, rfl, by decide +kernel, by decide +kernel⟩
  refine D.knx (N := ["thing", "most"]) sc (fun vs H Q E h => ?_) (fun f cdv A outer s H vs Q E hr h => ?_)
  · obtain ⟨x, m, T, rfl, _⟩ := h
    rfl
  · obtain ⟨x, m, T, rfl, d, kk⟩ := h
    have r2 := hr.mono (j := 2) (by decide)
    refine ⟨_, pss_one (ps_if (pt_not (pt_call (pe_kn kp r2 (pa_cons (pv 0) (pa_cons (pv 1) pa_nil))))) (pss_one (ps_raiseD M.toXIn (pe_xmake0 M okN hr rfl hN bN pass0))) pss_nil), ?_⟩
    refine ⟨_, rfl, _, rfl, x, T, m, rfl, d, ⟨_, rfl, ite2 (fun h1 => ?_) (fun h1 => ?_)⟩⟩
    · have h1' : ¬ numG m x = true := by simpa using h1
      rw [if_neg h1'] at kk
      refine ⟨Nat.zero_le _, fun z hz hn => ⟨CN, bm, z, rfl, M.toXIn, upd_same, ⟨rfl, z, none, rfl, upd_same, hn, ?_⟩⟩⟩
      rw [hole_upd hz]
      exact kk
    · have h1' : numG m x = true := by simpa using h1
      rw [if_pos h1'] at kk
      exact kk
theorem numG_nat {m : Int} {x : V} (h : numG m x = true) : ∃ n : Nat, x = .int n ∧ (n : Int) ≤ m := by
  cases x with
  | int i =>
    have : 0 ≤ i ∧ i ≤ m := by simpa [numG] using h
    exact ⟨i.toNat, by congr 1; omega, by omega⟩
  | _ => cases h
end
end Hk

namespace Hk
open PySem L2
def kW (l : List Nat) : List Key := l.map fun (n : Nat) => (Sum.inl (n : Int) : Key)
theorem kW_v (l : List Nat) : (kW l).map kV = vN l := by unfold kW vN toI; simp [kV]
theorem kW_inj {l r : List Nat} (h : kW l = kW r) : l = r := by
  unfold kW at h
  induction l generalizing r with
  | nil => cases r with
    | nil => rfl
    | cons a r => cases h
  | cons a l ih => cases r with
    | nil => cases h
    | cons b r =>
      rw [List.map_cons, List.map_cons] at h
      injection h with h1 h2
      injection h1 with h3
      rw [ih h2, show a = b by omega]
structure SeenOk (f : Nat → List Nat) (i : Nat) (kvs : List (List Key × V)) : Prop where
  has : ∀ j, j < i → valV kvs (kW (f j)) = some (.int j)
  only : ∀ l v, valV kvs (kW l) = some v → ∃ j, j < i ∧ f j = l
  len : kvs.length ≤ i
  dif : ∀ a b, a < b → b < i → f a ≠ f b
theorem SeenOk.zero (f : Nat → List Nat) : SeenOk f 0 [] := ⟨fun j h => absurd h (by omega), fun l v h => (nomatch h), Nat.le_refl _, fun a b h1 h2 => absurd h2 (by omega)⟩
theorem SeenOk.put {f : Nat → List Nat} {i : Nat} {kvs : List (List Key × V)} (h : SeenOk f i kvs) (hn : valV kvs (kW (f i)) = none) : SeenOk f (i + 1) (putK kvs (kW (f i)) (.int i)) := by
  have dn : ∀ a, a < i → f a ≠ f i := fun a ha e => by
    have := h.has a ha
    rw [e, hn] at this
    cases this
  refine ⟨fun j hj => ?_, fun l v e => ?_, ?_, fun a b h1 h2 => ?_⟩
  · rw [valV_put]
    by_cases e : j = i
    · subst e; rw [if_pos rfl]
    · rw [if_neg (fun z => dn j (by omega) (kW_inj z))]
      exact h.has j (by omega)
  · rw [valV_put] at e
    by_cases q : kW l = kW (f i)
    · exact ⟨i, by omega, (kW_inj q).symm⟩
    · rw [if_neg q] at e
      obtain ⟨j, a, b⟩ := h.only l v e
      exact ⟨j, by omega, b⟩
  · have := length_putK kvs (kW (f i)) (V.int i)
    have := h.len
    omega
  · by_cases e : b = i
    · subst e; exact dn a h1
    · exact h.dif a b h1 (by omega)
theorem SeenOk.hit {f : Nat → List Nat} {i m : Nat} {kvs : List (List Key × V)} (h : SeenOk f i kvs) (hm : i ≤ m) {v : V} (e : valV kvs (kW (f i)) = some v) : ∃ j, j < i ∧ v = .int j ∧ Rnd f m (some (j, i - j)) := by
  obtain ⟨j, hj, ej⟩ := h.only _ _ e
  have := h.has j hj
  rw [ej, e] at this
  injection this with this
  exact ⟨j, hj, this, .some j i hj hm ej h.dif⟩
theorem SeenOk.fin {f : Nat → List Nat} {m : Nat} {kvs : List (List Key × V)} (h : SeenOk f (m + 1) kvs) : Rnd f m none := .none fun i j h1 h2 => h.dif i j h1 (by omega)
theorem cut_mid (l : List V) (a w : Nat) (h : a + w ≤ l.length) : cutV l (some (a : Int)) (some ((a : Int) + (w : Int))) = (l.drop a).take w := by
  unfold cutV
  have e : ((a : Int) + (w : Int)) = ((a + w : Nat) : Int) := by omega
  rw [e, HT.sIx_nat, HT.sIx_nat, Nat.min_eq_left h, Nat.min_eq_left (show a ≤ l.length by omega)]
  congr 1
  omega
theorem vN_drop (l : List Nat) (k : Nat) : (vN l).drop k = vN (l.drop k) := by unfold vN toI; rw [List.map_drop, List.map_drop]
theorem vN_take (l : List Nat) (k : Nat) : (vN l).take k = vN (l.take k) := by unfold vN toI; rw [List.map_take, List.map_take]
structure GlobI (mg : Str → Option Value) (x : Str) (n : Int) : Prop where
  ex : ∃ t, mg x = some (.int n t)
section
variable {P : Program} {w : World} {K : PySem.W.Frag} {mg : Str → Option Value} {base : Heap}
def spRound : Sp := fun vs H Q _ => ∃ (b : Addr) (ts : List Nat), vs = [.ref b] ∧ H b = some (.tup (vN ts)) ∧ GoodT ts ∧
  (∀ (H' : Hp), Same H H' → Rnd (win ts (wd ts)) 4000 none → Q .non H') ∧
  ∀ (t : Addr) (s l : Nat) (H' : Hp), Same H H' → Rnd (win ts (wd ts)) 4000 (some (s, l)) → H' t = some (.tup [.int s, .int l]) → Q (.ref t) H'
end
end Hk

namespace Hk
open PySem L2
section
variable {P : Program} {w : World} {K : PySem.W.Frag} {mg : Str → Option Value} {base : Heap}
theorem kn_round (D : DefAt K mg "heap_round" s_heap_round ["takes"]) (fr : Free mg ["range", "max", "tuple"]) (G : GlobI mg "MOST_ROUND" 4000) (kn : Kn P w K mg base 2 "numbers_to" ["takes", "most"] spNums) : Kn P w K mg base 3 "heap_round" ["takes"] spRound := by
  have sc : FnScope ["takes", "wide", "numbers", "seen", "heap", "found"] ["takes"] (defScope s_heap_round) := ⟨rfl, rfl, rfl, by decide +kernel, rfl, by decide +kernel, by decide +kernel⟩
  refine D.kn (N := ["takes", "wide", "numbers", "seen", "heap", "found"]) sc (fun vs H Q E h => ?_) (fun f cdv A outer s H vs Q E hr h => ?_)
  · obtain ⟨b, ts, rfl, _⟩ := h
    rfl
  · obtain ⟨b, ts, rfl, hb, gt, k0, k1⟩ := h
    have hu := hu_of hr
    have m1 := fr "range" (by simp)
    have m2 := fr "max" (by simp)
    have m3 := fr "tuple" (by simp)
    obtain ⟨tk, hg⟩ := G.ex
    refine ⟨_, pss_cons (ps_set (i := 1) sc.nd rfl (Or.inl rfl) (pe_maxT rfl rfl m2 (pa_cons (pv 0) pa_nil) (pk_cons pe_int pk_nil)))
      (pss_cons (ps_set (i := 2) sc.nd rfl (Or.inl rfl) (pe_kn kn hr (pa_cons (pv 0) (pa_cons (pe_op op_add (pe_glob (v := .int 4000) rfl hg ⟨_, rfl⟩) (pv 1)) pa_nil))))
      (pss_cons (ps_set (i := 3) sc.nd rfl (Or.inl rfl) pe_dnewT)
      (pss_cons (ps_for PassesOwn.never rfl (pi_range1 rfl m1 (pa_cons (pe_op op_add (pe_glob (v := .int 4000) rfl hg ⟨_, rfl⟩) pe_int) pa_nil)) (pg_name (i := 4) sc.nd rfl (Or.inl rfl))
        (pss_cons (ps_set (i := 5) sc.nd rfl (Or.inl rfl) (pe_callTy call_tuple_of rfl m3 boot_ttuple (pa_cons (pe_slice sl_list (pv 2) (po_some (pv 4)) (po_some (pe_op op_add (pv 4) (pv 1)))) pa_nil)))
        (pss_cons (ps_if (pt_cmp (pc_din hu (pv 5) (pv 3))) (pss_one (ps_ret (pe_tup (pa_cons (pe_dget hu (pv 3) (pv 5) (fun _ _ => rfl)) (pa_cons (pe_op op_sub (pv 4) (pe_dget hu (pv 3) (pv 5) (fun _ _ => rfl))) pa_nil))))) pss_nil)
        (pss_one (ps_dput hu (pv 3) (pv 5) (pv 4) rfl)))))
      (pss_one (ps_ret pe_non))))), ?_⟩
    have w9 := gt.wd_lo
    refine ⟨_, rfl, b, toI ts, _, rfl, rfl, SqT.of hb, fun z => ?_, fun M hM hx => ?_⟩
    · exact absurd (by unfold toI at z; simpa using z) gt.ne
    rw [gt.max_eq hM hx]
    refine ⟨_, rfl, _, rfl, _, _, rfl, rfl, b, ts, 4000 + wd ts, rfl, hb, gt, by omega, fun l H1 s1 _ hl1 => ?_⟩
    intro d hd
    have s2 := s1.trans (Same.upd (o := .dT []) hd)
    have hl2 := Same.upd (o := .dT []) hd _ _ hl1
    have nld : l ≠ d := ne_of_none hl1 hd
    have hd2 : (upd H1 d (.dT [])) d = some (.dT []) := upd_same
    have hd0 : H d = none := by
      cases e : H d with
      | none => rfl
      | some o => rw [s1 _ _ e] at hd; cases hd
    generalize upd H1 d (.dT []) = H2 at s2 hl2 hd2
    refine ⟨_, _, rfl, rfl, _, rfl, (by show (-(2 ^ 62) : Int) ≤ 4000 + 1; decide), (by show (4000 + 1 : Int) < 2 ^ 62; decide), for_range (fun i σ H3 => ∃ (kvs : List (List Key × V)) (v4 v5 : Option V), σ = [some (.ref b), some (.int (wd ts : Int)), some (.ref l), some (.ref d), v4, v5] ∧ Same H H3 ∧ H3 l = some (.lst (vN (gr ts (4000 + wd ts + 1)))) ∧ H3 d = some (.dT kvs) ∧ SeenOk (win ts (wd ts)) i kvs) ⟨[], _, _, rfl, s2, hl2, hd2, SeenOk.zero _⟩ ?_ ?_⟩
    · rintro i σ H3 hi ⟨kvs, v4, v5, rfl, s3, hl3, hd3, so⟩
      have hi : i ≤ 4000 := by
        have : i < (4000 + 1 : Int).toNat := hi
        have e : (4000 + 1 : Int).toNat = 4001 := by decide
        omega
      refine ⟨_, rfl, _, rfl, _, rfl, _, rfl, _, rfl, _, _, rfl, rfl, _, rfl, l, _, rfl, SqL.of hl3, fun q hq => ⟨q, _, rfl, .inl ⟨SqL.of upd_same, fun t ht => ?_⟩⟩⟩
      have lg : (vN (gr ts (4000 + wd ts + 1))).length = 4000 + wd ts + 1 := by rw [vN_len, gr_len]
      have ec : cutV (vN (gr ts (4000 + wd ts + 1))) (some (0 + (i : Int))) (some (0 + (i : Int) + (wd ts : Int))) = vN (win ts (wd ts) i) := by
        rw [Int.zero_add, cut_mid _ _ _ (by omega), vN_drop, vN_take, win_cut ts (wd ts) i _ (by omega)]
      rw [ec] at ht ⊢
      have s4 := (Same.upd (o := .lst (vN (win ts (wd ts) i))) hq).trans (Same.upd (o := .tup (vN (win ts (wd ts) i))) ht)
      have ht4 : (upd (upd H3 q (.lst (vN (win ts (wd ts) i)))) t (.tup (vN (win ts (wd ts) i)))) t = some (.tup ((kW (win ts (wd ts) i)).map kV)) := by rw [upd_same, kW_v]
      generalize upd (upd H3 q (.lst (vN (win ts (wd ts) i)))) t (.tup (vN (win ts (wd ts) i))) = H4 at s4 ht4
      have hd4 := s4 _ _ hd3
      have hl4 := s4 _ _ hl3
      have g := DGet.t hd4 ht4
      refine ⟨_, rfl, _, rfl, d, _, rfl, g, _, rfl, ite2 (fun c => ?_) (fun c => ?_)⟩
      · obtain ⟨v, ev⟩ := Option.isSome_iff_exists.mp c
        rw [ev] at g
        obtain ⟨j, hj, rfl, R⟩ := so.hit hi ev
        refine ⟨_, rfl, _, rfl, d, _, rfl, g, _, rfl, _, rfl, _, rfl, d, _, rfl, g, _, _, rfl, rfl, (by show 2 ≤ sizeLine; decide), fun r hr' => k1 r j (i - j) _ (s3.trans (s4.trans (Same.upd hr'))) R ?_⟩
        rw [upd_same]
        have e : (0 + (i : Int)) - (j : Int) = ((i - j : Nat) : Int) := by omega
        show some (HO.tup [V.int j, V.int ((0 + (i : Int)) - (j : Int))]) = _
        rw [e]
      · have en : valV kvs (kW (win ts (wd ts) i)) = none := by
          cases e : valV kvs (kW (win ts (wd ts) i)) with
          | none => rfl
          | some v => rw [e] at c; exact absurd rfl c
        have ln := so.len
        refine ⟨_, rfl, _, rfl, _, rfl, d, _, rfl, DPut.t hd4 ht4 (smallN (by omega)), putK kvs (kW (win ts (wd ts) i)) (.int i), _, _, rfl, ?_, ?_, ?_, so.put en⟩
        · intro b' o' e'
          have : b' ≠ d := ne_of_none e' hd0
          rw [upd_ne this]
          exact s4 _ _ (s3 _ _ e')
        · rw [upd_ne nld]
          exact hl4
        · rw [upd_same, Int.zero_add]
    · rintro σ H3 ⟨kvs, v4, v5, rfl, s3, hl3, hd3, so⟩
      exact k0 H3 s3 (SeenOk.fin (m := 4000) so)
end
end Hk

namespace Hk
open PySem L2
theorem cut_end (l : List V) (w : Nat) (hw : 1 ≤ w) : cutV l (some (-(w : Int))) none = l.drop (l.length - w) := by
  unfold cutV
  have e1 : HT.sIx l.length 0 (some (-(w : Int))) = l.length - w := by
    show (if (-(w : Int)) < 0 then ((-(w : Int)) + (l.length : Int)).toNat else min (-(w : Int)).toNat l.length) = _
    rw [if_pos (by omega)]
    omega
  rw [e1, HT.sIx_none]
  exact List.take_of_length_le (by rw [List.length_drop]; exact Nat.le_refl _)
section
variable {P : Program} {w : World} {K : PySem.W.Frag} {mg : Str → Option Value} {base : Heap}
theorem kn_lround (D : DefAt K mg "_law_round" s_law_round ["takes"]) (fr : Free mg ["range", "len", "tuple"]) : Kn P w K mg base 1 "_law_round" ["takes"] spRound := by
  have sc : FnScope ["takes", "wide", "found", "seen", "heap", "number", "ahead", "part"] ["takes"] (defScope s_law_round) := ⟨rfl, rfl, rfl, by decide +kernel, rfl, by decide +kernel, by decide +kernel⟩
  refine D.kn (N := ["takes", "wide", "found", "seen", "heap", "number", "ahead", "part"]) sc (fun vs H Q E h => ?_) (fun f cdv A outer s H vs Q E hr h => ?_)
  · obtain ⟨b, ts, rfl, _⟩ := h
    rfl
  · obtain ⟨b, ts, rfl, hb, gt, k0, k1⟩ := h
    have hu := hu_of hr
    have m1 := fr "range" (by simp)
    have m2 := fr "len" (by simp)
    have m3 := fr "tuple" (by simp)
    have nd : (["take", "found", "heap"] : List Str).Nodup := by decide +kernel
    refine ⟨_, pss_cons (ps_set (i := 1) sc.nd rfl (Or.inl rfl) (pe_ix ix_tup (pv 0) (pe_un un_neg pe_int) (fun _ _ => rfl)))
      (pss_cons (ps_set (i := 2) sc.nd rfl (Or.inr rfl) (pe_lst pa_nil))
      (pss_cons (ps_set (i := 3) sc.nd rfl (Or.inl rfl) pe_dnewT)
      (pss_cons (ps_for PassesOwn.never rfl (pi_range1 rfl m1 (pa_cons (pe_op op_add pe_int (pv 1)) pa_nil)) (pg_name (i := 4) sc.nd rfl (Or.inr rfl))
        (pss_cons (ps_set (i := 5) sc.nd rfl (Or.inl rfl) pe_int)
        (pss_cons (ps_setlc (i := 6) (N := ["take", "found", "heap"]) (src := [none, some 2, some 4]) sc.nd rfl rfl rfl rfl ⟨rfl, rfl, rfl, rfl, ⟨⟨rfl, rfl⟩, ⟨rfl, rfl⟩, trivial⟩, rfl, rfl, rfl⟩ (gown_name (i := 0) rfl) (pi_tup (pv 0)) (fun C s H fp => ⟨pg_name (i := 0) nd rfl (Or.inl rfl), pifs_one (pt_cmpR op_le (pv 0) (pv 2) (nomark _)), pe_ix (r := rIxL K) ix_list (pv 1) (pe_op op_sub (pv 2) (pv 0)) (fun _ _ => rfl)⟩))
        (pss_cons (ps_while PassesOwn.never (pt_cmpR op_in_seq (pv 5) (pv 6) rfl) (pss_one (ps_aug (i := 5) sc.nd rfl (Or.inl rfl) pe_int ip_add)))
        (pss_cons (ps_expr (pe_bm PySem.F.plainAttrs_list PySem.F.slot_list_append PySem.F.type_list_append mt_append (pv 2) (pa_cons (pv 5) pa_nil)))
        (pss_cons (ps_set (i := 7) sc.nd rfl (Or.inl rfl) (pe_callTy call_tuple_of rfl m3 boot_ttuple (pa_cons (pe_slice sl_list (pv 2) (po_some (pe_un un_neg (pv 1))) po_none) pa_nil)))
        (pss_one (ps_if (pt_cmpR op_eq (pe_callB call_len_seq rfl m2 PySem.boot_len (pa_cons (pv 7) pa_nil)) (pv 1) (nomark _))
          (pss_cons (ps_if (pt_cmp (pc_din hu (pv 7) (pv 3))) (pss_one (ps_ret (pe_tup (pa_cons (pe_dget hu (pv 3) (pv 7) (fun _ _ => rfl)) (pa_cons (pe_op op_sub (pe_op op_sub (pe_op op_add (pv 4) pe_int) (pv 1)) (pe_dget hu (pv 3) (pv 7) (fun _ _ => rfl))) pa_nil))))) pss_nil)
          (pss_one (ps_dput hu (pv 3) (pv 7) (pe_op op_sub (pe_op op_add (pv 4) pe_int) (pv 1)) rfl))) pss_nil))))))))
      (pss_one (ps_ret pe_non))))), ?_⟩
    have w9 := gt.wd_lo
    have hlast : atI (vN ts) (-1) = some (.int (wd ts : Int)) := by
      obtain ⟨r, x, e⟩ : ∃ r x, ts = r ++ [x] := ⟨ts.dropLast, ts.getLast gt.ne, (List.dropLast_concat_getLast gt.ne).symm⟩
      have ew : wd ts = x := by rw [e]; unfold wd; simp
      rw [ew, e, vN_app]
      exact atI_last _ _
    refine ⟨_, rfl, _, rfl, b, _, _, _, rfl, rfl, SqT.of hb, hlast, (by show 0 ≤ sizeLine; decide), fun l hl => ?_⟩
    intro d hd
    have s2 := (Same.upd (o := .lst []) hl).trans (Same.upd (o := .dT []) hd)
    have hl2 := Same.upd (o := .dT []) hd _ _ (upd_same (H := H) (a := l) (o := .lst []))
    have nld : l ≠ d := ne_of_none (upd_same (H := H) (a := l) (o := .lst [])) hd
    have hd2 : (upd (upd H l (.lst [])) d (.dT [])) d = some (.dT []) := upd_same
    have hd0 : H d = none := by
      cases e : H d with
      | none => rfl
      | some o => rw [Same.upd (o := .lst []) hl _ _ e] at hd; cases hd
    generalize upd (upd H l (.lst [])) d (.dT []) = H2 at s2 hl2 hd2
    refine ⟨_, rfl, _, _, rfl, rfl, _, rfl, (by omega), (by omega), for_range (fun i σ H3 => ∃ (kvs : List (List Key × V)) (v4 v5 v6 v7 : Option V), σ = [some (.ref b), some (.int (wd ts : Int)), some (.ref l), some (.ref d), v4, v5, v6, v7] ∧ Same H H3 ∧ H3 l = some (.lst (vN (gr ts i))) ∧ H3 d = some (.dT kvs) ∧ SeenOk (win ts (wd ts)) (i + 1 - wd ts) kvs) ⟨[], _, _, _, _, rfl, s2, hl2, hd2, ?_⟩ ?_ ?_⟩
    · rw [show 0 + 1 - wd ts = 0 by omega]
      exact SeenOk.zero _
    · rintro i σ H3 hi ⟨kvs, v4, v5, v6, v7, rfl, s3, hl3, hd3, so⟩
      have hi : i < 4000 + wd ts := by omega
      have hb3 := s3 _ _ hb
      refine ⟨_, rfl, b, rfl, ⟨_, SqT.of hb3⟩, lc_tup (xs := vN ts) (fun k zs H' => Same H3 H' ∧ zs = vN (stepG (ts.take k) (gr ts i) i)) ⟨Same.refl _, rfl⟩ ?_ ?_ ?_⟩
      · rintro k zs H' hk ⟨s4, rfl⟩
        refine ⟨SqT.of (s4 _ _ hb3), ?_⟩
        rw [vN_len]
        have := stepG_len (ts.take k) (gr ts i) i
        rw [List.length_take] at this
        have := gt.len
        exact Nat.le_of_lt (small1000 (by omega))
      · rintro zs H' ⟨s4, rfl⟩ a ha
        have et : ts.take (vN ts).length = ts := by rw [vN_len]; exact List.take_of_length_le (Nat.le_refl _)
        rw [et]
        have s5 := s4.trans (Same.upd (o := .lst (vN (stepG ts (gr ts i) i))) ha)
        have ha5 : (upd H' a (.lst (vN (stepG ts (gr ts i) i)))) a = some (.lst ((toI (stepG ts (gr ts i) i)).map V.int)) := upd_same
        generalize upd H' a (.lst (vN (stepG ts (gr ts i) i))) = H5 at s5 ha5
        generalize hS : stepG ts (gr ts i) i = S at ha5
        refine ⟨fun μ σ H6 => H6 = H5 ∧ ∃ k : Nat, σ = [some (.ref b), some (.int (wd ts : Int)), some (.ref l), some (.ref d), some (.int (0 + (i : Int))), some (.int k), some (.ref a), v7] ∧ (∀ j, j < k → (j : Int) ∈ toI S) ∧ k + geC (toI S) k ≤ (toI S).length ∧ μ = geC (toI S) k, ⟨_, rfl, 0, rfl, fun j hj => absurd hj (by omega), (by have := geC_le (toI S) 0; omega), rfl⟩, ?_⟩
        rintro μ σ H6 ⟨rfl, k, rfl, lt, le, rfl⟩
        refine ⟨_, rfl, _, rfl, a, _, rfl, .inl (SqL.of ha5), rfl, flat_ints _, _, rfl, ?_⟩
        show if inV (.int k) ((toI S).map V.int) = true then _ else _
        rw [inV_int]
        refine ite2 (fun h1 => ?_) (fun h1 => ?_)
        · have h1 := of_decide_eq_true h1
          have st := geC_step h1
          refine ⟨fun σ' H' => ∃ μ', μ' < geC (toI S) k ∧ H' = H6 ∧ ∃ k : Nat, σ' = [some (.ref b), some (.int (wd ts : Int)), some (.ref l), some (.ref d), some (.int (0 + (i : Int))), some (.int k), some (.ref a), v7] ∧ (∀ j, j < k → (j : Int) ∈ toI S) ∧ k + geC (toI S) k ≤ (toI S).length ∧ μ' = geC (toI S) k, fun _ _ z => z, ?_⟩
          refine ⟨_, rfl, _, _, rfl, rfl, _, st, rfl, k + 1, rfl, fun j hj => ?_, by omega, rfl⟩
          by_cases e : j = k
          · rw [e]; exact h1
          · exact lt j (by omega)
        · have e := mex_of (S := S) (k := k) ⟨fun z => h1 (decide_eq_true z), lt⟩ (by omega)
          have hl6 := s5 _ _ hl3
          have hd6 := s5 _ _ hd3
          refine ⟨_, rfl, .inl ⟨rfl, _, SqL.of hl6⟩, _, rfl, l, _, _, rfl, rfl, hl6, ?_, ?_⟩
          · rw [vN_len, gr_len]
            exact smallN (by omega)
          have hl7 : (upd H6 l (.lst (vN (gr ts i) ++ [.int k]))) l = some (.lst (vN (gr ts (i + 1)))) := by
            rw [upd_same, e, ← hS]
            show _ = some (HO.lst (vN (gr ts i ++ [mexN (stepG ts (gr ts i) i)])))
            rw [vN_app]
            rfl
          have hd7 : (upd H6 l (.lst (vN (gr ts i) ++ [.int k]))) d = some (.dT kvs) := by rw [upd_ne (Ne.symm nld)]; exact hd6
          have s7 : Same H (upd H6 l (.lst (vN (gr ts i) ++ [.int k]))) := fun b' o' e' => by
            rw [upd_ne (ne_of_none e' hl)]
            exact s5 _ _ (s3 _ _ e')
          generalize upd H6 l (.lst (vN (gr ts i) ++ [.int k])) = H7 at hl7 hd7 s7
          refine ⟨_, rfl, _, rfl, _, rfl, _, rfl, l, _, rfl, SqL.of hl7, fun q hq => ⟨q, _, rfl, .inl ⟨SqL.of upd_same, fun t ht => ?_⟩⟩⟩
          rw [cut_end _ _ w9.1, vN_len, gr_len, vN_drop] at ht ⊢
          generalize hp : (gr ts (i + 1)).drop (i + 1 - wd ts) = pt at ht
          have pl : pt.length = (i + 1) - (i + 1 - wd ts) := by rw [← hp, List.length_drop, gr_len]
          have s8 := (Same.upd (o := .lst (vN pt)) hq).trans (Same.upd (o := .tup (vN pt)) ht)
          have ht8 : (upd (upd H7 q (.lst (vN pt))) t (.tup (vN pt))) t = some (.tup ((kW pt).map kV)) := by rw [upd_same, kW_v]
          have ht9 : (upd (upd H7 q (.lst (vN pt))) t (.tup (vN pt))) t = some (.tup (vN pt)) := upd_same
          generalize upd (upd H7 q (.lst (vN pt))) t (.tup (vN pt)) = H8 at s8 ht8 ht9
          have hd8 := s8 _ _ hd7
          have hl8 := s8 _ _ hl7
          refine ⟨_, rfl, t, _, rfl, .inr (SqT.of ht9), _, rfl, rfl, _, rfl, ite2 (fun c => ?_) (fun c => ?_)⟩
          · have c : (((vN pt).length : Nat) : Int) = (wd ts : Int) := V.int.inj (of_decide_eq_true c)
            rw [vN_len] at c
            have hw : wd ts ≤ i + 1 := by omega
            have ew : pt = win ts (wd ts) (i + 1 - wd ts) := by
              rw [← win_cut ts (wd ts) (i + 1 - wd ts) (i + 1) (by omega), hp]
              exact (List.take_of_length_le (by omega)).symm
            rw [ew] at ht8
            have g := DGet.t hd8 ht8
            refine ⟨_, rfl, _, rfl, d, _, rfl, g, _, rfl, ite2 (fun c => ?_) (fun c => ?_)⟩
            · obtain ⟨v, ev⟩ := Option.isSome_iff_exists.mp c
              rw [ev] at g
              obtain ⟨j, hj, rfl, R⟩ := so.hit (m := 4000) (by omega) ev
              refine ⟨_, rfl, _, rfl, d, _, rfl, g, _, rfl, _, _, rfl, rfl, _, rfl, _, _, rfl, rfl, _, rfl, _, rfl, d, _, rfl, g, _, _, rfl, rfl, (by show 2 ≤ sizeLine; decide), fun r hr' => k1 r j (i + 1 - wd ts - j) _ (s7.trans (s8.trans (Same.upd hr'))) R ?_⟩
              rw [upd_same]
              have e : (0 + (i : Int)) + 1 - (wd ts : Int) - (j : Int) = ((i + 1 - wd ts - j : Nat) : Int) := by omega
              show some (HO.tup [V.int j, V.int ((0 + (i : Int)) + 1 - (wd ts : Int) - (j : Int))]) = _
              rw [e]
            · have en : valV kvs (kW (win ts (wd ts) (i + 1 - wd ts))) = none := by
                cases e : valV kvs (kW (win ts (wd ts) (i + 1 - wd ts))) with
                | none => rfl
                | some v => rw [e] at c; exact absurd rfl c
              have ln := so.len
              have e2 : (0 + (i : Int)) + 1 - (wd ts : Int) = ((i + 1 - wd ts : Nat) : Int) := by omega
              have e3 : i + 1 + 1 - wd ts = i + 1 - wd ts + 1 := by omega
              refine ⟨_, rfl, _, _, rfl, rfl, _, rfl, _, _, rfl, rfl, _, rfl, _, rfl, d, _, rfl, DPut.t hd8 ht8 (smallN (by omega)), putK kvs (kW (win ts (wd ts) (i + 1 - wd ts))) (.int ((i + 1 - wd ts : Nat) : Int)), _, _, _, _, rfl, ?_, ?_, ?_, ?_⟩
              · intro b' o' e'
                have : b' ≠ d := ne_of_none e' hd0
                rw [upd_ne this]
                exact s8 _ _ (s7 _ _ e')
              · rw [upd_ne nld]
                exact hl8
              · rw [upd_same]
                show some (HO.dT (putK kvs _ (V.int ((0 + (i : Int)) + 1 - (wd ts : Int))))) = _
                rw [e2]
              · rw [e3]
                exact so.put en
          · have c : ¬ (pt.length : Int) = (wd ts : Int) := fun z => c (decide_eq_true (congrArg V.int (by rw [vN_len]; exact z)))
            have e3 : i + 1 + 1 - wd ts = i + 1 - wd ts := by omega
            exact ⟨kvs, _, _, _, _, rfl, s7.trans s8, hl8, hd8, by rw [e3]; exact so⟩
      · rintro k x zs H' hx hk ⟨s4, rfl⟩
        obtain ⟨t, ht, rfl⟩ := vN_get hx
        have q := stepG_snoc (gr ts i) i ht
        have gt1 := gt.lo t (List.mem_of_getElem? ht)
        refine ⟨_, rfl, _, rfl, _, _, rfl, rfl, _, rfl, ite2 (fun c => ?_) (fun c => ?_)⟩
        · have c : t ≤ i := by have := of_decide_eq_true c; omega
          rw [if_pos c] at q
          refine ⟨_, rfl, _, rfl, _, rfl, _, _, rfl, rfl, l, _, _, V.int (((gr ts i).getD (i - t) 0 : Nat) : Int), rfl, rfl, SqL.of (s4 _ _ hl3), ?_, nx hk ⟨s4, ?_⟩⟩
          · have e1 : (0 + (i : Int)) - (t : Int) = ((i - t : Nat) : Int) := by omega
            rw [e1]
            have lt : i - t < (gr ts i).length := by rw [gr_len]; omega
            refine atI_nat (vN_at ?_)
            rw [List.getD_eq_getElem?_getD, List.getElem?_eq_getElem lt]
            rfl
          · rw [q, vN_app]
            rfl
        · have c : ¬ t ≤ i := fun z => c (decide_eq_true (by omega))
          rw [if_neg c] at q
          exact nx hk ⟨s4, by rw [q, List.append_nil]⟩
    · rintro σ H3 ⟨kvs, v4, v5, v6, v7, rfl, s3, hl3, hd3, so⟩
      refine k0 H3 s3 (SeenOk.fin (m := 4000) (kvs := kvs) ?_)
      have e : (4000 + (wd ts : Int)).toNat + 1 - wd ts = 4000 + 1 := by omega
      rw [e] at so
      exact so
end
end Hk

namespace Hk
open PySem L2
section
variable {P : Program} {w : World} {K : PySem.W.Frag} {mg : Str → Option Value} {base : Heap}
theorem kn_lnums (D : DefAt K mg "_law_numbers" s_law_numbers ["takes", "most"]) (fr : Free mg ["range"]) : Kn P w K mg base 1 "_law_numbers" ["takes", "most"] spNums := by
  have sc : FnScope ["takes", "most", "found", "heap", "seen", "number"] ["takes", "most"] (defScope s_law_numbers) := ⟨rfl, rfl, rfl, by decide +kernel, rfl, by decide +kernel, by decide +kernel⟩
  refine D.kn (N := ["takes", "most", "found", "heap", "seen", "number"]) sc (fun vs H Q E h => ?_) (fun f cdv A outer s H vs Q E hr h => ?_)
  · obtain ⟨b, ts, n, rfl, _⟩ := h
    rfl
  · obtain ⟨b, ts, n, rfl, hb, gt, hn, kk⟩ := h
    have m1 := fr "range" (by simp)
    have nd : (["take", "found", "heap"] : List Str).Nodup := by decide +kernel
    refine ⟨_, pss_cons (ps_set (i := 2) sc.nd rfl (Or.inr rfl) (pe_lst pa_nil)) (pss_cons (ps_for PassesOwn.never rfl (pi_range1 rfl m1 (pa_cons (pe_op op_add (pv 1) pe_int) pa_nil)) (pg_name (i := 3) sc.nd rfl (Or.inr rfl))
        (pss_cons (ps_setlc (i := 4) (N := ["take", "found", "heap"]) (src := [none, some 2, some 3]) sc.nd rfl rfl rfl rfl ⟨rfl, rfl, rfl, rfl, ⟨⟨rfl, rfl⟩, ⟨rfl, rfl⟩, trivial⟩, rfl, rfl, rfl⟩ (gown_name (i := 0) rfl) (pi_tup (pv 0)) (fun C s H fp => ⟨pg_name (i := 0) nd rfl (Or.inl rfl), pifs_one (pt_cmpR op_le (pv 0) (pv 2) (nomark _)), pe_ix (r := rIxL K) ix_list (pv 1) (pe_op op_sub (pv 2) (pv 0)) (fun _ _ => rfl)⟩))
        (pss_cons (ps_set (i := 5) sc.nd rfl (Or.inl rfl) pe_int)
        (pss_cons (ps_while PassesOwn.never (pt_cmpR op_in_seq (pv 5) (pv 4) rfl) (pss_one (ps_aug (i := 5) sc.nd rfl (Or.inl rfl) pe_int ip_add)))
        (pss_one (ps_expr (pe_bm PySem.F.plainAttrs_list PySem.F.slot_list_append PySem.F.type_list_append mt_append (pv 2) (pa_cons (pv 5) pa_nil))))))))
      (pss_one (ps_ret (pv 2)))), ?_⟩
    refine ⟨(by show 0 ≤ sizeLine; decide), fun l hl => ?_⟩
    refine ⟨_, rfl, _, _, rfl, rfl, _, rfl, (by omega), (by omega), for_range (fun i σ H2 => ∃ v3 v4 v5 : Option V, σ = [some (.ref b), some (.int n), some (.ref l), v3, v4, v5] ∧ Same H H2 ∧ H2 l = some (.lst (vN (gr ts i)))) ⟨_, _, _, rfl, Same.upd hl, upd_same⟩ ?_ ?_⟩
    · rintro i σ H3 hi ⟨v3, v4, v5, rfl, s3, hl3⟩
      have hi : i < n + 1 := by omega
      have hb3 := s3 _ _ hb
      refine ⟨_, rfl, b, rfl, ⟨_, SqT.of hb3⟩, lc_tup (xs := vN ts) (fun k zs H' => Same H3 H' ∧ zs = vN (stepG (ts.take k) (gr ts i) i)) ⟨Same.refl _, rfl⟩ ?_ ?_ ?_⟩
      · rintro k zs H' hk ⟨s4, rfl⟩
        refine ⟨SqT.of (s4 _ _ hb3), ?_⟩
        rw [vN_len]
        have := stepG_len (ts.take k) (gr ts i) i
        rw [List.length_take] at this
        have := gt.len
        exact Nat.le_of_lt (small1000 (by omega))
      · rintro zs H' ⟨s4, rfl⟩ a ha
        have et : ts.take (vN ts).length = ts := by rw [vN_len]; exact List.take_of_length_le (Nat.le_refl _)
        rw [et]
        have s5 := s4.trans (Same.upd (o := .lst (vN (stepG ts (gr ts i) i))) ha)
        have ha5 : (upd H' a (.lst (vN (stepG ts (gr ts i) i)))) a = some (.lst ((toI (stepG ts (gr ts i) i)).map V.int)) := upd_same
        generalize upd H' a (.lst (vN (stepG ts (gr ts i) i))) = H5 at s5 ha5
        generalize hS : stepG ts (gr ts i) i = S at ha5
        refine ⟨fun μ σ H6 => H6 = H5 ∧ ∃ k : Nat, σ = [some (.ref b), some (.int n), some (.ref l), some (.int (0 + (i : Int))), some (.ref a), some (.int k)] ∧ (∀ j, j < k → (j : Int) ∈ toI S) ∧ k + geC (toI S) k ≤ (toI S).length ∧ μ = geC (toI S) k, ⟨_, rfl, 0, rfl, fun j hj => absurd hj (by omega), (by have := geC_le (toI S) 0; omega), rfl⟩, ?_⟩
        rintro μ σ H6 ⟨rfl, k, rfl, lt, le, rfl⟩
        refine ⟨_, rfl, _, rfl, a, _, rfl, .inl (SqL.of ha5), rfl, flat_ints _, _, rfl, ?_⟩
        show if inV (.int k) ((toI S).map V.int) = true then _ else _
        rw [inV_int]
        refine ite2 (fun h1 => ?_) (fun h1 => ?_)
        · have h1 := of_decide_eq_true h1
          have st := geC_step h1
          refine ⟨fun σ' H' => ∃ μ', μ' < geC (toI S) k ∧ H' = H6 ∧ ∃ k : Nat, σ' = [some (.ref b), some (.int n), some (.ref l), some (.int (0 + (i : Int))), some (.ref a), some (.int k)] ∧ (∀ j, j < k → (j : Int) ∈ toI S) ∧ k + geC (toI S) k ≤ (toI S).length ∧ μ' = geC (toI S) k, fun _ _ z => z, ?_⟩
          refine ⟨_, rfl, _, _, rfl, rfl, _, st, rfl, k + 1, rfl, fun j hj => ?_, by omega, rfl⟩
          by_cases e : j = k
          · rw [e]; exact h1
          · exact lt j (by omega)
        · have e := mex_of (S := S) (k := k) ⟨fun z => h1 (decide_eq_true z), lt⟩ (by omega)
          have hl6 := s5 _ _ hl3
          refine ⟨_, rfl, .inl ⟨rfl, _, SqL.of hl6⟩, _, rfl, l, _, _, rfl, rfl, hl6, ?_, _, _, _, rfl, ?_, ?_⟩
          · rw [vN_len, gr_len]
            exact smallN (by omega)
          · intro b' o' e'
            rw [upd_ne (ne_of_none e' hl)]
            exact s5 _ _ (s3 _ _ e')
          · rw [upd_same, e, ← hS]
            show _ = some (HO.lst (vN (gr ts i ++ [mexN (stepG ts (gr ts i) i)])))
            rw [vN_app]
            rfl
      · rintro k x zs H' hx hk ⟨s4, rfl⟩
        obtain ⟨t, ht, rfl⟩ := vN_get hx
        have q := stepG_snoc (gr ts i) i ht
        have gt1 := gt.lo t (List.mem_of_getElem? ht)
        refine ⟨_, rfl, _, rfl, _, _, rfl, rfl, _, rfl, ite2 (fun c => ?_) (fun c => ?_)⟩
        · have c : t ≤ i := by have := of_decide_eq_true c; omega
          rw [if_pos c] at q
          refine ⟨_, rfl, _, rfl, _, rfl, _, _, rfl, rfl, l, _, _, V.int (((gr ts i).getD (i - t) 0 : Nat) : Int), rfl, rfl, SqL.of (s4 _ _ hl3), ?_, nx hk ⟨s4, ?_⟩⟩
          · have e1 : (0 + (i : Int)) - (t : Int) = ((i - t : Nat) : Int) := by omega
            rw [e1]
            have lt : i - t < (gr ts i).length := by rw [gr_len]; omega
            refine atI_nat (vN_at ?_)
            rw [List.getD_eq_getElem?_getD, List.getElem?_eq_getElem lt]
            rfl
          · rw [q, vN_app]
            rfl
        · have c : ¬ t ≤ i := fun z => c (decide_eq_true (by omega))
          rw [if_neg c] at q
          exact nx hk ⟨s4, by rw [q, List.append_nil]⟩
    · rintro σ H2 ⟨v3, v4, v5, rfl, s2, hl2⟩
      exact ⟨_, rfl, kk l H2 s2 hl hl2⟩
end
end Hk

namespace Hk
open PySem L2
theorem PenAt.same {H H' : Hp} {p : Addr} (h : PenAt H p) (s : Same H H') : PenAt H' p := let ⟨a, b, c, e⟩ := h; ⟨a, b, c, s _ _ e⟩
section
variable {P : Program} {w : World} {K : PySem.W.Frag} {mg : Str → Option Value} {base : Heap}
def spTakes : Sp := fun vs H Q _ => ∃ (p : Addr), vs = [.ref p] ∧ PenAt H p ∧
  ∀ (b : Addr) (ts : List Nat) (H' : Hp), SameBut p H H' → PenAt H' p → H b = none → H' b = some (.tup (vN ts)) → GoodT ts → Q (.ref b) H'
theorem kn_takes (D : DefAt K mg "_law_takes_of" s_law_takes_of ["pen"]) (fr : Free mg ["range", "tuple"]) (kd : Kn P w K mg base 2 "_law_draw" ["pen", "many"] spDraw) : Kn P w K mg base 3 "_law_takes_of" ["pen"] spTakes := by
  have sc : FnScope ["pen", "found"] ["pen"] (defScope s_law_takes_of) := ⟨rfl, rfl, rfl, by decide +kernel, rfl, by decide +kernel, by decide +kernel⟩
  refine D.kn (N := ["pen", "found"]) sc (fun vs H Q E h => ?_) (fun f cdv A outer s H vs Q E hr h => ?_)
  · obtain ⟨p, rfl, _⟩ := h
    rfl
  · obtain ⟨p, rfl, hp, kk⟩ := h
    have hu := hu_of hr
    have m1 := fr "range" (by simp)
    have m2 := fr "tuple" (by simp)
    have nd : (["take", "pen"] : List Str).Nodup := by decide +kernel
    refine ⟨_, pss_cons (ps_setlc (i := 1) (N := ["take", "pen"]) (src := [none, some 0]) sc.nd rfl rfl rfl rfl ⟨rfl, rfl, rfl, rfl, ⟨⟨rfl, rfl⟩, trivial⟩, rfl, rfl, rfl⟩ (gown_name (i := 0) rfl) (pi_range2 rfl m1 (pa_cons pe_int (pa_cons pe_int pa_nil))) (fun C s H fp => ⟨pg_name (i := 0) nd rfl (Or.inl rfl), pifs_one (pt_cmpR op_eq (pe_kn kd hr (pa_cons (pv 1) (pa_cons pe_int pa_nil))) pe_int (nomark _)), pv 0⟩))
      (pss_cons (ps_if (pt_cmpR (op_eqNil (Nat.lt_of_succ_lt hu)) (pv 1) (pe_lst pa_nil) (nomark _)) (pss_one (ps_set (i := 1) sc.nd rfl (Or.inl rfl) (pe_lst (pa_cons (pe_op op_add pe_int (pe_kn kd hr (pa_cons (pv 0) (pa_cons pe_int pa_nil)))) pa_nil)))) pss_nil)
      (pss_one (ps_ret (pe_callTy call_tuple_of rfl m2 boot_ttuple (pa_cons (pv 1) pa_nil))))), ?_⟩
    have c0 : 0 ≤ sizeLine := by decide
    have c1 : 1 ≤ sizeLine := by decide
    refine ⟨_, _, rfl, ⟨by decide, by decide, by decide, by decide⟩, lc_range (fun i zs H' => SameBut p H H' ∧ PenAt H' p ∧ ∃ ts : List Nat, zs = vN ts ∧ ts.Pairwise (· < ·) ∧ (∀ t ∈ ts, 1 ≤ t ∧ t ≤ i) ∧ ts.length ≤ i) ⟨SameBut.refl _ _, hp, [], rfl, List.Pairwise.nil, fun t h => (nomatch h), Nat.le_refl _⟩ ?_ ?_ ?_⟩
    · rintro i zs H' hi ⟨_, _, ts, rfl, _, _, hl⟩
      rw [vN_len]
      have : i ≤ 9 := hi
      exact Nat.le_of_lt (small1000 (by omega))
    · rintro zs H' ⟨s2, hp2, ts, rfl, pw, lo, hl⟩ l hl2
      have nlp : l ≠ p := by
        obtain ⟨_, _, _, e⟩ := hp2
        exact Ne.symm (ne_of_none e hl2)
      have sA := s2.trans (Same.upd (o := .lst (vN ts)) hl2).but
      have hpA := hp2.same (Same.upd (o := .lst (vN ts)) hl2)
      have hlA : (upd H' l (.lst (vN ts))) l = some (.lst (vN ts)) := upd_same
      generalize upd H' l (.lst (vN ts)) = HA at sA hpA hlA
      refine gname_in' ?_
      dsimp only
      refine seq_inv' (a := tIfS _ _ _) (fun σ HB => ∃ (l : Addr) (ts : List Nat), σ = [some (.ref p), some (.ref l)] ∧ SameBut p H HB ∧ PenAt HB p ∧ HB l = some (.lst (vN ts)) ∧ GoodT ts) (fun D' hk => ?_) ?_
      · refine ⟨_, rfl, c0, fun z hz => ⟨l, z, vN ts, rfl, rfl, SqL.of (Same.upd hz _ _ hlA), SqL.of upd_same, _, rfl, ite2 (fun c => ?_) (fun c => ?_)⟩⟩
        · refine ⟨_, rfl, p, 9, rfl, hpA.same (Same.upd hz), by decide, by decide, fun r H7 r0 r1 s7 hp7 => ⟨_, _, rfl, rfl, c1, fun u hu => hk _ _ ⟨u, [r.toNat + 1], rfl, sA.trans ((Same.upd hz).but.trans (s7.trans (Same.upd hu).but)), hp7.same (Same.upd hu), ?_, ?_⟩⟩⟩
          · rw [upd_same]
            have e : (1 : Int) + r = ((r.toNat + 1 : Nat) : Int) := by omega
            show some (HO.lst [V.int ((1 : Int) + r)]) = _
            rw [e]
            rfl
          · refine ⟨by simp, List.pairwise_singleton _ _, fun t ht => ?_, by simp⟩
            have : t = r.toNat + 1 := by simpa using ht
            omega
        · refine hk _ _ ⟨l, ts, rfl, sA.trans (Same.upd hz).but, hpA.same (Same.upd hz), Same.upd hz _ _ hlA, ?_, pw, fun t ht => ⟨(lo t ht).1, by have := (lo t ht).2; exact this⟩, hl⟩
          intro e
          subst e
          exact c rfl
      · rintro σ HB ⟨l, ts, rfl, sB, hpB, hlB, g⟩
        refine ⟨_, rfl, l, _, rfl, .inl ⟨SqL.of hlB, fun t ht => kk t ts _ (sB.trans (Same.upd ht).but) (hpB.same (Same.upd ht)) ?_ upd_same g⟩⟩
        cases e : H t with
        | none => rfl
        | some o =>
          by_cases q : t = p
          · subst q
            obtain ⟨_, _, _, e2⟩ := hpB
            rw [e2] at ht
            cases ht
          · rw [sB _ _ q e] at ht
            cases ht
    · rintro i zs H' hi ⟨s2, hp2, ts, rfl, pw, lo, hl⟩
      refine ⟨_, rfl, p, 3, rfl, hp2, by decide, by decide, fun r H3 r0 r1 s3 hp3 => ⟨rfl, _, rfl, ite2 (fun c => ?_) (fun c => ?_)⟩⟩
      · refine ⟨_, rfl, nx hi ⟨s2.trans s3, hp3, ts ++ [i + 1], ?_, ?_, ?_, ?_⟩⟩
        · rw [vN_app]
          have e : (1 : Int) + (i : Int) = ((i + 1 : Nat) : Int) := by omega
          show vN ts ++ [V.int ((1 : Int) + (i : Int))] = _
          rw [e]
          rfl
        · refine List.pairwise_append.mpr ⟨pw, List.pairwise_singleton _ _, fun a ha b hb => ?_⟩
          have := lo a ha
          have : b = i + 1 := by simpa using hb
          omega
        · intro t ht
          rcases List.mem_append.mp ht with z | z
          · have := lo t z
            omega
          · have : t = i + 1 := by simpa using z
            omega
        · rw [List.length_append]
          show _ + 1 ≤ _
          omega
      · exact nx hi ⟨s2.trans s3, hp3, ts, rfl, pw, fun t ht => by have := lo t ht; omega, by omega⟩
end
end Hk

namespace Hk
open PySem L2
section
variable {P : Program} {w : World} {K : PySem.W.Frag} {mg : Str → Option Value} {base : Heap}
theorem dat_but {H H' : Hp} {p : Addr} {x : V} {T : String} (h : Dat H x T) (n : x ≠ .ref p) (s : SameBut p H H') : Dat H' x T := by
  cases h with
  | non => exact .non
  | bl b => exact .bl b
  | int i => exact .int i
  | str z => exact .str z
  | lst e => exact .lst (s _ _ (fun z => n (by rw [z])) e)
  | tup e => exact .tup (s _ _ (fun z => n (by rw [z])) e)
  | dK e => exact .dK (s _ _ (fun z => n (by rw [z])) e)
end
end Hk

namespace Hk
open PySem L2
section
variable {P : Program} {w : World} {K : PySem.W.Frag} {mg : Str → Option Value} {base : Heap}
theorem atI_ix {xs : List V} {r : Int} (h0 : 0 ≤ r) (h : r.toNat < xs.length) : atI xs r = some xs[r.toNat] := by
  obtain ⟨k, rfl⟩ : ∃ k : Nat, r = (k : Int) := ⟨r.toNat, by omega⟩
  exact atI_nat (List.getElem?_eq_getElem (by simpa using h))
def spNoN : Sp := fun vs H Q _ => ∃ (p : Addr) (m : Int), vs = [.ref p, .int m] ∧ 0 ≤ m ∧ PenAt H p ∧ ∀ (v : V) (T : String) (H' : Hp), SameBut p H H' → PenAt H' p → Dat H' v T → numG m v = false → Q v H'
theorem kn_non (D : DefAt K mg "_law_no_number" s_law_no_number ["pen", "most"]) (kd : Kn P w K mg base 2 "_law_draw" ["pen", "many"] spDraw) : Kn P w K mg base 3 "_law_no_number" ["pen", "most"] spNoN := by
  have sc : FnScope ["pen", "most", "odd"] ["pen", "most"] (defScope s_law_no_number) := ⟨rfl, rfl, rfl, by decide +kernel, rfl, by decide +kernel, by decide +kernel⟩
  refine D.kn (N := ["pen", "most", "odd"]) sc (fun vs H Q E h => ?_) (fun f cdv A outer s H vs Q E hr h => ?_)
  · obtain ⟨p, m, rfl, _⟩ := h
    rfl
  · obtain ⟨p, m, rfl, m0, hp, kk⟩ := h
    refine ⟨_, (pss_cons (ps_set (i := 2) sc.nd rfl (Or.inl rfl) (pe_lst (pa_cons (pe_op op_add (pv 1) pe_int) (pa_cons (pe_op op_add (pe_op op_add (pv 1) pe_int) (pe_kn kd hr (pa_cons (pv 0) (pa_cons (pe_op op_pow pe_int pe_int) pa_nil)))) (pa_cons (pe_un un_neg pe_int) (pa_cons pe_bl (pa_cons pe_bl (pa_cons pe_non (pa_cons pe_str (pa_cons (pe_tup (pa_cons pe_int pa_nil)) (pa_cons (pe_lst (pa_cons pe_int pa_nil)) (pa_cons pe_dnewK pa_nil)))))))))))) (pss_one (ps_ret (pe_ix ix_list (pv 2) (pe_kn kd hr (pa_cons (pv 0) (pa_cons pe_int pa_nil))) (fun _ _ => rfl))))), ?_⟩
    refine ⟨_, rfl, _, _, rfl, rfl, _, rfl, _, _, rfl, rfl, _, rfl, _, _, rfl, rfl, ⟨by decide, by decide, by decide⟩, p, _, rfl, hp, by decide, by decide, fun r1 H1 r0 _ s1 hp1 => ⟨_, _, rfl, rfl, _, rfl, (by show 1 ≤ sizeLine; decide), fun q hq => ⟨(by show 1 ≤ sizeLine; decide), fun l hl => fun dd hd => ⟨(by show 10 ≤ sizeLine; decide), fun od hod => ?_⟩⟩⟩⟩
    have nq := newp hp1 hq
    have hp2 := PenAt.mono (Same.upd (o := .tup [.int 0]) hq) hp1
    have nl := newp hp2 hl
    have hp3 := PenAt.mono (Same.upd (o := .lst [.int 0]) hl) hp2
    have ndd := newp hp3 hd
    have hp4 := PenAt.mono (Same.upd (o := .dK []) hd) hp3
    have nod := newp hp4 hod
    have tq : (upd (upd (upd H1 q (.tup [.int 0])) l (.lst [.int 0])) dd (.dK [])) q = some (.tup [.int 0]) := Same.upd hd _ _ (Same.upd hl _ _ upd_same)
    have tl : (upd (upd (upd H1 q (.tup [.int 0])) l (.lst [.int 0])) dd (.dK [])) l = some (.lst [.int 0]) := Same.upd hd _ _ upd_same
    have td : (upd (upd (upd H1 q (.tup [.int 0])) l (.lst [.int 0])) dd (.dK [])) dd = some (.dK []) := upd_same
    generalize hvs : [V.int (m + 1), V.int (m + 2 + r1), V.int (-1), V.bl true, V.bl false, V.non, V.str "0", V.ref q, V.ref l, V.ref dd] = vs at hod
    have sA := s1.trans ((Same.upd (o := .tup [.int 0]) hq).but.trans ((Same.upd (o := .lst [.int 0]) hl).but.trans ((Same.upd (o := .dK []) hd).but.trans (Same.upd (o := .lst vs) hod).but)))
    generalize upd (upd (upd H1 q (.tup [.int 0])) l (.lst [.int 0])) dd (.dK []) = H4 at hp4 tq tl td hod sA
    have os : ∀ v ∈ vs, (∃ T, Dat (upd H4 od (.lst vs)) v T) ∧ v ≠ .ref p ∧ numG m v = false := by
      intro v hv
      rw [← hvs] at hv
      simp only [List.mem_cons, List.not_mem_nil, or_false] at hv
      rcases hv with rfl | rfl | rfl | rfl | rfl | rfl | rfl | rfl | rfl | rfl
      · refine ⟨⟨_, .int _⟩, (fun z => nomatch z), ?_⟩
        show (decide (0 ≤ m + 1) && decide (m + 1 ≤ m)) = false
        rw [decide_eq_false (show ¬ m + 1 ≤ m by omega)]
        simp
      · refine ⟨⟨_, .int _⟩, (fun z => nomatch z), ?_⟩
        show (decide (0 ≤ m + 2 + r1) && decide (m + 2 + r1 ≤ m)) = false
        rw [decide_eq_false (show ¬ m + 2 + r1 ≤ m by omega)]
        simp
      · exact ⟨⟨_, .int _⟩, (fun z => nomatch z), rfl⟩
      · exact ⟨⟨_, .bl _⟩, (fun z => nomatch z), rfl⟩
      · exact ⟨⟨_, .bl _⟩, (fun z => nomatch z), rfl⟩
      · exact ⟨⟨_, .non⟩, (fun z => nomatch z), rfl⟩
      · exact ⟨⟨_, .str _⟩, (fun z => nomatch z), rfl⟩
      · exact ⟨⟨_, .tup (Same.upd hod _ _ tq)⟩, fun z => nq (by cases z; rfl), rfl⟩
      · exact ⟨⟨_, .lst (Same.upd hod _ _ tl)⟩, fun z => nl (by cases z; rfl), rfl⟩
      · exact ⟨⟨_, .dK (Same.upd hod _ _ td)⟩, fun z => ndd (by cases z; rfl), rfl⟩
    have lvs : vs.length = 10 := by rw [← hvs]; rfl
    have hod5 : (upd H4 od (.lst vs)) od = some (.lst vs) := upd_same
    have hp5 := PenAt.mono (Same.upd (o := .lst vs) hod) hp4
    generalize upd H4 od (.lst vs) = H5 at os hod5 hp5 sA
    refine ⟨_, rfl, _, rfl, p, 10, rfl, hp5, by decide, by decide, fun r3 H6 a6 b6 s6 hp6 => ?_⟩
    have hr3 : r3.toNat < vs.length := by omega
    obtain ⟨⟨T, d⟩, nv, ng⟩ := os _ (List.getElem_mem hr3)
    exact ⟨od, vs, r3, vs[r3.toNat], rfl, rfl, SqL.of (s6 _ _ nod hod5), atI_ix a6 hr3, kk _ T _ (sA.trans s6) hp6 (dat_but d nv s6) ng⟩
end
end Hk

namespace Hk
open PySem L2 PySem.W
section
variable {P : Program} {w : World} {K : Frag} {mg : Str → Option Value} {base : Heap}
theorem knH_lawWhole (D : DefAt K mg "_law_whole" s_law_whole ["found"]) (fr : Free mg ["isinstance", "int", "bool"]) : KnH P w K mg base 1 "_law_whole" ["found"] spWhole := by
  refine D.knH (N := ["found"]) ⟨rfl, rfl, rfl, by decide +kernel, rfl, by decide +kernel, by decide +kernel⟩ (fun vs H Q E h => ?_) (fun f cdv A outer s H vs Q hr h => ?_)
  · obtain ⟨x, T, rfl, _⟩ := h
    rfl
  · obtain ⟨x, T, rfl, d, k⟩ := h
    have m1 := fr "isinstance" (by simp)
    have m2 := fr "int" (by simp)
    have m3 := fr "bool" (by simp)
    refine ⟨_, pss_one (ps_ret (pe_and (pe_callB call_isi rfl m1 boot_isi (pa_cons (pv 0) (pa_cons (pe_bltn (v := .ty "int") rfl m2 boot_tint rfl) pa_nil)))
      (pe_one (pe_not (pe_callB call_isi rfl m1 boot_isi (pa_cons (pv 0) (pa_cons (pe_bltn (v := .ty "bool") rfl m3 boot_tbool rfl) pa_nil))))))), ?_⟩
    refine ⟨x, rfl, x, "int", T, rfl, d, by simp, _, rfl, ite2 (fun h1 => ?_) (fun h1 => ?_)⟩
    · refine ⟨x, rfl, x, "bool", T, rfl, d, by simp, _, rfl, ?_⟩
      cases d <;> first | exact k | exact absurd h1 (by decide)
    · cases d <;> first | exact k | exact absurd (by decide) h1
end
end Hk

namespace Hk
open PySem L2 PySem.W
theorem huN {k j : Nat} {A : Around} (hr : Room k A) (h : j ≤ 200) : A.units + j < cLine := by
  have := hr.un
  omega
end Hk

namespace Hk
open PySem L2 PySem.W
theorem gr_last (ts : List Nat) (n : Nat) : (gr ts (n + 1))[n]? = some (gN ts n) := by
  rw [gr_eq, List.getElem?_map, List.getElem?_range (Nat.lt_succ_self n)]
  rfl
theorem gN_rep {ts : List Nat} (g : GoodT ts) {m s l : Nat} (R : Rnd (win ts (wd ts)) m (some (s, l))) {n : Nat} (hn : s ≤ n) : gN ts (s + (n - s) % l) = gN ts n := by
  have hw : win ts (wd ts) s = win ts (wd ts) (s + l) := by
    have z := rnd_iff g R (s := s) (l := l) (by
      cases R with
      | some _ h a b c d => omega)
    exact z.mpr ⟨Nat.le_refl _, Nat.mod_self _⟩
  have h := win_rep g hw n
  have w1 := g.wd_lo.1
  have e1 := win_at (ts := ts) (w := wd ts) (a := n) (i := 0) (by omega)
  have e2 := win_at (ts := ts) (w := wd ts) (a := rep s l n) (i := 0) (by omega)
  rw [h, e2, Nat.add_zero, Nat.add_zero] at e1
  have e := Option.some.inj e1
  unfold rep at e
  rw [if_neg (by omega)] at e
  exact e
theorem gN_zero {ts : List Nat} (g : GoodT ts) : gN ts 0 = 0 := by
  have e : ts.filter (fun t => decide (t ≤ 0)) = [] := List.filter_eq_nil_iff.mpr fun t ht => by
    have := (g.lo t ht).1
    simp
    omega
  unfold gN stepG
  rw [e]
  rfl
theorem rnd_some {ts : List Nat} {m s l : Nat} (R : Rnd (win ts (wd ts)) m (some (s, l))) : 1 ≤ l ∧ s + l ≤ m := by
  cases R with
  | some _ h a b c d => omega
section
variable {P : Program} {w : World} {K : Frag} {mg : Str → Option Value} {base : Heap}
def tenF : Int := 10000000000000000000000000000000000000000
theorem ten40 : (10 : Int) ^ (40 : Int).toNat = tenF := by decide
def spFar (CT CN : Addr) : Sp := fun vs H Q E => ∃ (b : Addr) (ts : List Nat) (x : V) (T : String) (o : Option (Nat × Nat)), vs = [.ref b, x] ∧ H b = some (.tup (vN ts)) ∧ GoodT ts ∧ Dat H x T ∧ Rnd (win ts (wd ts)) 4000 o ∧
  (∀ n : Nat, x = .int n → (n : Int) ≤ tenF → if o = none ∧ 5000 < n then EX CT (tooF (n : Int) 5000) H E else ∀ H', Same H H' → Q (.int (gN ts n : Nat)) H') ∧ (¬ numG tenF x = true → E (.ref CN) none H)
theorem knx_far {CT CN fT : Addr} {bm : List Value} {fdT : FuncData} (D : DefAt K mg "heap_far" s_heap_far ["takes", "heap"]) (G : GlobI mg "MOST_THINGS" 5000) (kr : KnX P w K mg base 4 "refuse_no_number" ["thing", "most"] (spRefN CN)) (kn : Kn P w K mg base 2 "numbers_to" ["takes", "most"] spNums) (ko : Kn P w K mg base 3 "heap_round" ["takes"] spRound) (M : XMk K CT fT bm) (hT : mg "TooGreat" = some (.ref CT))
    (okT : FnOk P w K mg base CX0 2 fT fdT ["self", "many", "most"] (spInitT K)) (bT : Binds K fdT ["self", "many", "most"] []) (T : FldsOf K CT ["many", "most"]) : KnX P w K mg base 5 "heap_far" ["takes", "heap"] (spFar CT CN) := by
  have sc : FnScope ["takes", "heap", "found", "start"] ["takes", "heap"] (defScope s_heap_far) := ⟨rfl, rfl, rfl, by decide +kernel, rfl, by decide +kernel, by decide +kernel⟩
  refine D.knx (N := ["takes", "heap", "found", "start"]) sc (fun vs H Q E h => ?_) (fun f cdv A outer s H vs Q E hr h => ?_)
  · obtain ⟨b, ts, x, T', o, rfl, _⟩ := h
    rfl
  · obtain ⟨b, ts, x, T', o, rfl, hb, gt, d, R, k1, k2⟩ := h
    have r2 := hr.mono (j := 2) (by decide)
    have r3 := hr.mono (j := 3) (by decide)
    have r4 := hr.mono (j := 4) (by decide)
    obtain ⟨tk, hg_MOST_THINGS⟩ := G.ex
    refine ⟨_, (pss_cons (ps_expr (pe_knx kr passR r4 (pa_cons (pv 1) (pa_cons (pe_op op_pow pe_int pe_int) pa_nil)))) (pss_cons (ps_if (pt_cmpR op_le (pv 1) (pe_glob (v := .int 5000) rfl hg_MOST_THINGS ⟨_, rfl⟩) (nomark _)) (pss_one (ps_ret (pe_ix ix_list (pe_kn kn r2 (pa_cons (pv 0) (pa_cons (pv 1) pa_nil))) (pv 1) (fun _ _ => rfl)))) pss_nil) (pss_cons (ps_set (i := 2) sc.nd rfl (Or.inl rfl) (pe_kn ko r3 (pa_cons (pv 0) pa_nil))) (pss_cons (ps_if (pt_cmpR op_isN (pv 2) pe_non (nomark _)) (pss_one (ps_raiseD M.toXIn (pe_xmake M okT r3 rfl hT bT pass0 (pa_cons (pv 1) (pa_cons (pe_glob (v := .int 5000) rfl hg_MOST_THINGS ⟨_, rfl⟩) pa_nil))))) pss_nil) (pss_cons (ps_set (i := 3) sc.nd rfl (Or.inl rfl) (pe_ix ix_tup (pv 2) pe_int (fun _ _ => rfl))) (pss_one (ps_ret (pe_ix ix_list (pe_kn kn r2 (pa_cons (pv 0) (pa_cons (pe_op op_add (pv 3) (pe_op op_mod (pe_op op_sub (pv 1) (pv 3)) (pe_ix ix_tup (pv 2) pe_int (fun _ _ => rfl)))) pa_nil))) (pe_un un_neg pe_int) (fun _ _ => rfl))))))))), ?_⟩
    refine ⟨_, rfl, _, _, rfl, rfl, ⟨by decide, by decide, by decide⟩, x, _, T', rfl, d, ?_⟩
    rw [ten40]
    refine ite2 (fun h1 => ?_) (fun h1 => k2 h1)
    obtain ⟨n, rfl, hn⟩ := numG_nat h1
    have k1 := k1 n rfl hn
    refine ⟨_, rfl, _, _, rfl, rfl, _, rfl, ite2 (fun c => ?_) (fun c => ?_)⟩
    · have c : n ≤ 5000 := by
        have := of_decide_eq_true c
        omega
      rw [if_neg (by omega)] at k1
      refine ⟨_, rfl, _, rfl, b, ts, n, rfl, hb, gt, by omega, fun l H1 s1 _ hl => ⟨_, rfl, l, _, _, _, rfl, rfl, SqL.of hl, atI_nat (vN_at (gr_last ts n)), k1 H1 s1⟩⟩
    · have c : 5000 < n := by
        have : ¬ (n : Int) ≤ 5000 := fun z => c (decide_eq_true z)
        omega
      refine ⟨_, rfl, b, ts, rfl, hb, gt, fun H1 s1 R1 => ?_, fun t s l H1 s1 R1 ht => ?_⟩
      · have eo := R.uniq R1
        rw [if_pos ⟨eo, c⟩] at k1
        refine ⟨_, rfl, rfl, _, rfl, iteT ?_⟩
        refine ⟨_, rfl, (by show 2 ≤ 1000; decide), fun y hy hny => ⟨CT, bm, y, (n : Int), 5000, rfl, M.toXIn, T, upd_same, ?_, by decide, fun D' H2 hD hne h1 h2 same => ⟨rfl, y, some D', rfl, h1, hny, (k1.mono s1).fly hy hD hne h2 same⟩⟩⟩
        by_cases z : (n : Int).natAbs = 0
        · rw [z]
          decide
        · have h2 : (n : Int).natAbs ≤ 10000000000000000000000000000000000000000 := by
            have : (n : Int) ≤ 10000000000000000000000000000000000000000 := hn
            omega
          exact (Nat.log2_lt z).mpr (Nat.lt_of_le_of_lt h2 (by decide))
      · have eo := R.uniq R1
        rw [if_neg (by rw [eo]; exact fun z => nomatch z.1)] at k1
        obtain ⟨l1, sl⟩ := rnd_some R1
        have hm := Nat.mod_lt (n - s) (show 0 < l by omega)
        have e := gN_rep gt R1 (n := n) (by omega)
        have em : (s : Int) + ((n : Int) - (s : Int)) % (l : Int) = ((s + (n - s) % l : Nat) : Int) := by
          rw [show (n : Int) - (s : Int) = ((n - s : Nat) : Int) by omega]
          push_cast
          rfl
        refine ⟨_, rfl, rfl, _, rfl, iteF ?_⟩
        refine ⟨_, rfl, t, _, _, _, rfl, rfl, SqT.of ht, rfl, ?_⟩
        refine ⟨_, rfl, _, rfl, _, rfl, _, rfl, _, _, rfl, rfl, _, rfl, t, _, _, _, rfl, rfl, SqT.of ht, rfl, _, _, rfl, rfl, (by show (0 : Int) < (l : Int); omega), _, _, rfl, rfl, b, ts, s + (n - s) % l, ?_, s1 _ _ hb, gt, by omega, fun q H2 s2 _ hq => ⟨_, rfl, q, _, _, .int (gN ts n : Nat), rfl, rfl, SqL.of hq, ?_, k1 H2 (s1.trans s2)⟩⟩
        · show [V.ref b, V.int ((s : Int) + ((n : Int) - (s : Int)) % (l : Int))] = _
          rw [em]
        · unfold atI ixN
          rw [if_neg (by decide), if_pos (by rw [vN_len, gr_len]; omega), vN_len, gr_len]
          show (vN (gr ts (s + (n - s) % l + 1)))[_]? = _
          rw [show ((-1 : Int) + ((s + (n - s) % l + 1 : Nat) : Int)).toNat = s + (n - s) % l by omega, vN_at (gr_last ts _), e]
def tFar (ts : List Nat) (o : Option (Nat × Nat)) (n : Nat) : Tr := if o.isNone = true ∧ 5000 < n then .tup [.str "great", .tup [.int (n : Int), .int 5000]] else .tup [.str "told", .int (gN ts n : Nat)]
structure FarT (K : Frag) (H : Hp) (c : Addr) (ts : List Nat) (o : Option (Nat × Nat)) (n : Nat) : Prop where
  is : Is K H 2 (.ref c) (tFar ts o n)
  tp : ∃ (wd : Str) (v : V), H c = some (.tup [.str wd, v]) ∧ (wd = "told" → ∃ k : Nat, v = .int k)
theorem FarT.mono {H H' : Hp} {c : Addr} {ts : List Nat} {o : Option (Nat × Nat)} {n : Nat} (h : FarT K H c ts o n) (s : Same H H') : FarT K H' c ts o n := ⟨h.is.mono s, let ⟨wd, v, e, r⟩ := h.tp; ⟨wd, v, s _ _ e, r⟩⟩
theorem far_great {H : Hp} {c q : Addr} {ts : List Nat} {n : Nat} (h : 5000 < n) (hc : H c = some (.tup [.str "great", .ref q])) (hq : H q = some (.tup [.int (n : Int), .int 5000])) : FarT K H c ts none n := by
  refine ⟨?_, "great", _, hc, fun z => absurd z (by decide)⟩
  unfold tFar
  rw [if_pos ⟨rfl, h⟩]
  exact Is.tup (SqT.of hc) (.cons (Is.str _) (.cons (Is.tup (SqT.of hq) (.cons (Is.int _) (.cons (Is.int _) .nil))) .nil))
theorem far_told {H : Hp} {c : Addr} {ts : List Nat} {o : Option (Nat × Nat)} {n : Nat} (h : ¬ (o = none ∧ 5000 < n)) (hc : H c = some (.tup [.str "told", .int (gN ts n : Nat)])) : FarT K H c ts o n := by
  refine ⟨?_, "told", _, hc, fun _ => ⟨_, rfl⟩⟩
  unfold tFar
  rw [if_neg (fun z => h ⟨Option.isNone_iff_eq_none.mp z.1, z.2⟩)]
  exact Is.tup (SqT.of hc) (.cons (Is.str _) (.cons (Is.int _) .nil))
def spTold58 (K : Frag) : Sp := fun vs H Q _ => ∃ (b : Addr) (ts : List Nat) (x : V) (T : String) (o : Option (Nat × Nat)), vs = [.ref b, x] ∧ H b = some (.tup (vN ts)) ∧ GoodT ts ∧ Dat H x T ∧ Rnd (win ts (wd ts)) 4000 o ∧
  (∀ n : Nat, x = .int n → (n : Int) ≤ tenF → ∀ (c : Addr) (H' : Hp), Same H H' → FarT K H' c ts o n → Q (.ref c) H') ∧ (¬ numG tenF x = true → ∀ (c : Addr) (H' : Hp), Same H H' → H' c = some (.tup [.str "number", .int 0]) → Q (.ref c) H')
theorem kn_told58 {CT CN CW c0 c1 c2 c3 c4 c5 c6 c7 c8 : Addr} (D : DefAt K mg "_law_told" s_law_told ["takes", "thing"]) (kh : KnX P w K mg base 5 "heap_far" ["takes", "heap"] (spFar CT CN)) (kk : KnH P w K mg base 1 "_law_kind_of" ["e"] (spKind K c0 c1 c2 c3 c4 c5 c6 c7 c8)) (kw : KnH P w K mg base 1 "_law_whole" ["found"] spWhole)
    (hW : mg "WebError" = some (.ref CW)) (hx : exmOne K (.ref CT) (.ref CW) = some true) (F : KindOf K CT c0 c1 c2 c3 c4 c5 c6 c7 c8 8) (T : FldsOf K CT ["many", "most"]) (hxN : exmOne K (.ref CN) (.ref CW) = some true) (FN : KindOf K CN c0 c1 c2 c3 c4 c5 c6 c7 c8 3) : Kn P w K mg base 6 "_law_told" ["takes", "thing"] (spTold58 K) := by
  have sc : FnScope ["takes", "thing", "e"] ["takes", "thing"] (defScope s_law_told) := ⟨rfl, rfl, rfl, by decide +kernel, rfl, by decide +kernel, by decide +kernel⟩
  refine D.kn (N := ["takes", "thing", "e"]) sc (fun vs H Q E h => ?_) (fun f cdv A outer s H vs Q E hr h => ?_)
  · obtain ⟨b, ts, x, T', o, rfl, _⟩ := h
    rfl
  · obtain ⟨b, ts, x, T', o, rfl, hb, gt, d, R, k1, k2⟩ := h
    have n1 := T.no "many" (by simp)
    have n2 := T.no "most" (by simp)
    have b2 : 2 ≤ sizeLine := by decide
    refine ⟨_, (pss_one (ps_tryS (i := 2) (pssx_one (psx_ret (pex_tup (pax_cons pe_str (pax_one (pex_kn kh hr (pa_cons (pv 0) (pa_cons (pv 1) pa_nil)))))))) rfl hW sc.nd rfl rfl (fun y => (pss_cons (ps_if (PW.pt (pw_and (pt_cmpR op_eq (pe_knH kk ((hr.toH _).mono (by decide)) (pa_cons (pv 2) pa_nil)) pe_str (nomark _)) (pw_and (pt_call (pe_knH kw ((hr.toH _).mono (by decide)) (pa_cons (pe_xf K (pv 2)) pa_nil))) (pw_and1 (pt_call (pe_knH kw ((hr.toH _).mono (by decide)) (pa_cons (pe_xf K (pv 2)) pa_nil))))))) (pss_one (ps_ret (pe_tup (pa_cons pe_str (pa_cons (pe_tup (pa_cons (pe_xf K (pv 2)) (pa_cons (pe_xf K (pv 2)) pa_nil))) pa_nil))))) pss_nil) (pss_one (ps_ret (pe_tup (pa_cons (pe_knH kk ((hr.toH _).mono (by decide)) (pa_cons (pv 2) pa_nil)) (pa_cons pe_int pa_nil))))))) rfl rfl)), ?_⟩
    refine ⟨_, rfl, _, rfl, b, ts, x, T', o, rfl, hb, gt, d, R, fun n ex hn => ?_, fun hnum => ?_⟩
    · by_cases c : o = none ∧ 5000 < n
      · rw [if_pos c]
        intro D' H' s' hD hD'
        refine ⟨CT, rfl, hx, fun y hy => ?_⟩
        have s1 := s'.trans (Same.upd (o := isL CT y (some D')) hy)
        have hDy := Same.upd (o := isL CT y (some D')) hy _ _ hD'
        refine ⟨_, rfl, y, CT, 8, rfl, ⟨_, upd_same⟩, F, by decide, fun H2 s2 => ?_⟩
        have hy2 := s2 _ _ (upd_same (H := H') (a := y) (o := isL CT y (some D')))
        have hD2 := s2 _ _ hDy
        refine ⟨rfl, _, rfl, iteT ?_⟩
        refine ⟨_, rfl, y, CT, D', _, .int (n : Int), rfl, hy2, hD2, F.xi, T.xs.hd, n1, rfl, .int (n : Int), "int", rfl, .int _, ?_⟩
        refine ⟨_, rfl, iteT ?_⟩
        refine ⟨_, rfl, y, CT, D', _, .int 5000, rfl, hy2, hD2, F.xi, T.xs.hd, n2, rfl, .int 5000, "int", rfl, .int _, ?_⟩
        refine ⟨_, rfl, iteT ?_⟩
        refine ⟨_, rfl, y, CT, D', _, .int (n : Int), rfl, hy2, hD2, F.xi, T.xs.hd, n1, rfl, _, rfl, y, CT, D', _, .int 5000, rfl, hy2, hD2, F.xi, T.xs.hd, n2, rfl, b2, fun b hb => ⟨b2, fun b' hb' => ?_⟩⟩
        have s4 := (Same.upd (o := .tup [.int (n : Int), .int 5000]) hb).trans (Same.upd (o := .tup [.str "great", .ref b]) hb')
        refine k1 n ex hn b' _ (s1.trans (s2.trans s4)) ?_
        rw [c.1]
        exact far_great c.2 upd_same (Same.upd hb' _ _ upd_same)
      · rw [if_neg c]
        exact fun H' s' => ⟨b2, fun b hb => k1 n ex hn b _ (s'.trans (Same.upd hb)) (far_told c upd_same)⟩
    · refine ⟨CN, rfl, hxN, fun y hy => ?_⟩
      have s1 := Same.upd (o := isL CN y none) hy
      refine ⟨_, rfl, y, CN, 3, rfl, ⟨_, upd_same⟩, FN, by decide, fun H2 s2 => ?_⟩
      refine ⟨rfl, _, rfl, iteF ?_⟩
      have hy2 := s2 _ _ (upd_same (H := H) (a := y) (o := isL CN y none))
      exact ⟨_, rfl, y, CN, 3, rfl, ⟨_, hy2⟩, FN, by decide, fun H3 s3 => ⟨b2, fun b hb => k2 hnum b _ (s1.trans (s2.trans (s3.trans (Same.upd hb)))) upd_same⟩⟩
def LeastV (H : Hp) (v : V) : Option (Nat × Nat) → Prop
  | none => v = .non
  | some (s, l) => ∃ t, v = .ref t ∧ H t = some (.tup [.int s, .int l])
theorem LeastV.but {H H' : Hp} {p : Addr} {v : V} {o : Option (Nat × Nat)} (h : LeastV H v o) (hp : PenAt H p) (s : SameBut p H H') : LeastV H' v o := by
  cases o with
  | none => exact h
  | some q =>
    obtain ⟨t, e, z⟩ := h
    exact ⟨t, e, s _ _ (pen_tup hp z) z⟩
def spDue58 (K : Frag) : Sp := fun vs H Q _ => ∃ (b : Addr) (ts : List Nat) (v : V) (n : Nat) (o : Option (Nat × Nat)), vs = [.ref b, v, .int n] ∧ H b = some (.tup (vN ts)) ∧ GoodT ts ∧ Rnd (win ts (wd ts)) 4000 o ∧ LeastV H v o ∧ (n : Int) ≤ tenF ∧ ∀ (c : Addr) (H' : Hp), Same H H' → FarT K H' c ts o n → Q (.ref c) H'
theorem kn_due58 (D : DefAt K mg "_law_due_of" s_law_due_of ["takes", "least", "heap"]) (kn : Kn P w K mg base 1 "_law_numbers" ["takes", "most"] spNums) : Kn P w K mg base 2 "_law_due_of" ["takes", "least", "heap"] (spDue58 K) := by
  have sc : FnScope ["takes", "least", "heap", "near"] ["takes", "least", "heap"] (defScope s_law_due_of) := ⟨rfl, rfl, rfl, by decide +kernel, rfl, by decide +kernel, by decide +kernel⟩
  refine D.kn (N := ["takes", "least", "heap", "near"]) sc (fun vs H Q E h => ?_) (fun f cdv A outer s H vs Q E hr h => ?_)
  · obtain ⟨b, ts, v, n, o, rfl, _⟩ := h
    rfl
  · obtain ⟨b, ts, v, n, o, rfl, hb, gt, R, lv, hn, kk⟩ := h
    have r1 := hr.mono (j := 1) (by decide)
    refine ⟨_, (pss_cons (ps_if (pt_cmpR op_isN (pv 1) pe_non (nomark _)) (pss_cons (ps_if (pt_cmpR op_gt (pv 2) pe_int (nomark _)) (pss_one (ps_ret (pe_tup (pa_cons pe_str (pa_cons (pe_tup (pa_cons (pv 2) (pa_cons pe_int pa_nil))) pa_nil))))) pss_nil) (pss_one (ps_ret (pe_tup (pa_cons pe_str (pa_cons (pe_ix ix_list (pe_kn kn r1 (pa_cons (pv 0) (pa_cons (pv 2) pa_nil))) (pv 2) (fun _ _ => rfl)) pa_nil)))))) pss_nil) (pss_cons (ps_set (i := 3) sc.nd rfl (Or.inl rfl) (pv 2)) (pss_cons (ps_if (pt_cmpR op_gt (pv 2) (pe_ix ix_tup (pv 1) pe_int (fun _ _ => rfl)) (nomark _)) (pss_one (ps_set (i := 3) sc.nd rfl (Or.inl rfl) (pe_op op_add (pe_ix ix_tup (pv 1) pe_int (fun _ _ => rfl)) (pe_op op_mod (pe_op op_sub (pv 2) (pe_ix ix_tup (pv 1) pe_int (fun _ _ => rfl))) (pe_ix ix_tup (pv 1) pe_int (fun _ _ => rfl)))))) pss_nil) (pss_one (ps_ret (pe_tup (pa_cons pe_str (pa_cons (pe_ix ix_list (pe_kn kn r1 (pa_cons (pv 0) (pa_cons (pv 3) pa_nil))) (pv 3) (fun _ _ => rfl)) pa_nil)))))))), ?_⟩
    have c2 : 2 ≤ sizeLine := by decide
    cases o with
    | none =>
      have ev : v = .non := lv
      subst ev
      refine ⟨_, rfl, rfl, _, rfl, iteT ?_⟩
      refine ⟨_, rfl, _, _, rfl, rfl, _, rfl, ite2 (fun c => ?_) (fun c => ?_)⟩
      · have c : 5000 < n := by
          have := of_decide_eq_true c
          omega
        refine ⟨_, rfl, c2, fun q hq => ⟨c2, fun r hr' => kk r _ ((Same.upd hq).trans (Same.upd hr')) (far_great c upd_same (Same.upd hr' _ _ upd_same))⟩⟩
      · have c : n ≤ 5000 := by
          have : ¬ (5000 : Int) < (n : Int) := fun z => c (decide_eq_true z)
          omega
        refine ⟨_, rfl, _, rfl, b, ts, n, rfl, hb, gt, by omega, fun l H1 s1 _ hl => ⟨_, rfl, l, _, _, _, rfl, rfl, SqL.of hl, atI_nat (vN_at (gr_last ts n)), c2, fun q hq => kk q _ (s1.trans (Same.upd hq)) (far_told (fun z => by omega) upd_same)⟩⟩
    | some sl =>
      obtain ⟨s0, l0⟩ := sl
      obtain ⟨t, rfl, ht⟩ := lv
      obtain ⟨l1, slm⟩ := rnd_some R
      refine ⟨_, rfl, rfl, _, rfl, iteF ?_⟩
      refine ⟨_, rfl, ?_⟩
      refine gname_in ?_
      dsimp only [List.set]
      refine seq_inv (a := tIfS _ _ _) (fun σ H1 => ∃ k : Nat, σ = [some (.ref b), some (.ref t), some (.int (n : Int)), some (.int (k : Int))] ∧ k ≤ 4000 ∧ gN ts k = gN ts n ∧ H1 = H) (fun D' nx1 => ?_) ?_
      · refine ⟨_, rfl, _, rfl, t, _, _, _, rfl, rfl, SqT.of ht, rfl, _, _, rfl, rfl, _, rfl, ite2 (fun c => ?_) (fun c => ?_)⟩
        · have c : s0 < n := by
            have := of_decide_eq_true c
            omega
          have hm := Nat.mod_lt (n - s0) (show 0 < l0 by omega)
          have em : (s0 : Int) + ((n : Int) - (s0 : Int)) % (l0 : Int) = ((s0 + (n - s0) % l0 : Nat) : Int) := by
            rw [show (n : Int) - (s0 : Int) = ((n - s0 : Nat) : Int) by omega]
            push_cast
            rfl
          refine ⟨_, rfl, t, _, _, _, rfl, rfl, SqT.of ht, rfl, _, rfl, _, rfl, t, _, _, _, rfl, rfl, SqT.of ht, rfl, _, _, rfl, rfl, _, rfl, t, _, _, _, rfl, rfl, SqT.of ht, rfl, _, _, rfl, rfl, (by show (0 : Int) < (l0 : Int); omega), _, _, rfl, rfl, ?_⟩
          refine gname_in ?_
          dsimp only [List.set]
          rw [em]
          exact nx1 _ _ ⟨s0 + (n - s0) % l0, rfl, by omega, gN_rep gt R (by omega), rfl⟩
        · have c : n ≤ s0 := by
            have : ¬ (s0 : Int) < (n : Int) := fun z => c (decide_eq_true z)
            omega
          exact nx1 _ _ ⟨n, rfl, by omega, rfl, rfl⟩
      rintro σ H1 ⟨k, rfl, hk, eg, rfl⟩
      refine ⟨_, rfl, _, rfl, b, ts, k, rfl, hb, gt, by omega, fun l H2 s2 _ hl => ⟨_, rfl, l, _, _, _, rfl, rfl, SqL.of hl, atI_nat (vN_at (gr_last ts k)), c2, fun q hq => kk q _ (s2.trans (Same.upd hq)) (far_told (fun z => nomatch z.1) ?_)⟩⟩
      rw [upd_same, eg]
def spHeap : Sp := fun vs H Q _ => ∃ (p : Addr), vs = [.ref p] ∧ PenAt H p ∧ ∀ (n : Nat) (H' : Hp), SameBut p H H' → PenAt H' p → (n : Int) ≤ tenF → Q (.int n) H'
theorem kn_heap (D : DefAt K mg "_law_heap_of" s_law_heap_of ["pen"]) (fr : Free mg ["range"]) (kd : Kn P w K mg base 2 "_law_draw" ["pen", "many"] spDraw) : Kn P w K mg base 3 "_law_heap_of" ["pen"] spHeap := by
  have sc : FnScope ["pen", "way", "found", "turn"] ["pen"] (defScope s_law_heap_of) := ⟨rfl, rfl, rfl, by decide +kernel, rfl, by decide +kernel, by decide +kernel⟩
  refine D.kn (N := ["pen", "way", "found", "turn"]) sc (fun vs H Q E h => ?_) (fun f cdv A outer s H vs Q E hr h => ?_)
  · obtain ⟨p, rfl, _⟩ := h
    rfl
  · obtain ⟨p, rfl, hp, kk⟩ := h
    have r2 := hr.mono (j := 2) (by decide)
    have m_range := fr "range" (by simp)
    refine ⟨_, (pss_cons (ps_set (i := 1) sc.nd rfl (Or.inl rfl) (pe_kn kd r2 (pa_cons (pv 0) (pa_cons pe_int pa_nil)))) (pss_cons (ps_if (pt_cmpR op_eq (pv 1) pe_int (nomark _)) (pss_one (ps_ret (pe_op op_pow pe_int pe_int))) pss_nil) (pss_cons (ps_set (i := 2) sc.nd rfl (Or.inl rfl) pe_int) (pss_cons (ps_for PassesOwn.never rfl (pi_range1 rfl m_range (pa_cons (pe_ix ix_list (pe_lst (pa_cons pe_int (pa_cons pe_int (pa_cons pe_int (pa_cons pe_int pa_nil))))) (pe_op op_sub (pv 1) pe_int) (fun _ _ => rfl)) pa_nil)) (pg_name (i := 3) sc.nd rfl (Or.inl rfl)) (pss_one (ps_set (i := 2) sc.nd rfl (Or.inl rfl) (pe_op op_add (pe_op op_mul (pv 2) pe_int) (pe_kn kd r2 (pa_cons (pv 0) (pa_cons pe_int pa_nil))))))) (pss_one (ps_ret (pv 2))))))), ?_⟩
    have c4 : 4 ≤ sizeLine := by decide
    refine ⟨_, rfl, p, 5, rfl, hp, by decide, by decide, fun way H1 a1 b1 s1 hp1 => ?_⟩
    refine ⟨_, rfl, rfl, _, rfl, ite2 (fun c => ?_) (fun c => ?_)⟩
    · refine ⟨_, _, rfl, rfl, ⟨by decide, by decide, by decide⟩, ?_⟩
      show Q (.int ((10 : Int) ^ (40 : Int).toNat)) H1
      rw [ten40]
      exact kk 10000000000000000000000000000000000000000 H1 s1 hp1 (Int.le_refl _)
    · have c : way ≠ 0 := fun z => c (decide_eq_true (by rw [z]))
      refine ⟨c4, fun q hq => ?_⟩
      obtain ⟨times, g1, g2, ea⟩ : ∃ times : Nat, 1 ≤ times ∧ times ≤ 40 ∧ atI [V.int 2, V.int 3, V.int 25, V.int 40] (way - 1) = some (.int (times : Int)) := by
        rcases (show way = 1 ∨ way = 2 ∨ way = 3 ∨ way = 4 by omega) with rfl | rfl | rfl | rfl
        · exact ⟨2, by decide, by decide, rfl⟩
        · exact ⟨3, by decide, by decide, rfl⟩
        · exact ⟨25, by decide, by decide, rfl⟩
        · exact ⟨40, by decide, by decide, rfl⟩
      refine ⟨_, rfl, _, _, rfl, rfl, q, _, way - 1, .int (times : Int), rfl, rfl, SqL.of upd_same, ea, (times : Int), rfl, by omega, by omega, for_range (n := ((times : Nat) : Int).toNat) (fun i σ H3 => ∃ (k : Nat) (v3 : Option V), σ = [some (.ref p), some (.int way), some (.int (k : Int)), v3] ∧ k < 10 ^ i ∧ SameBut p H H3 ∧ PenAt H3 p) ⟨0, _, rfl, by decide, s1.trans (Same.upd hq).but, hp1.mono (Same.upd hq)⟩ ?_ ?_⟩
      · rintro i σ H3 hi ⟨k, v3, rfl, hk, s3, hp3⟩
        refine ⟨_, rfl, _, _, rfl, rfl, .inr ⟨by decide, by decide⟩, _, rfl, p, 10, rfl, hp3, by decide, by decide, fun r H4 a4 b4 s4 hp4 => ⟨_, _, rfl, rfl, ?_⟩⟩
        refine ⟨k * 10 + r.toNat, some (V.int (0 + (i : Int))), ?_, ?_, s3.trans s4, hp4⟩
        · rw [show ((k * 10 + r.toNat : Nat) : Int) = (k : Int) * 10 + r by push_cast; omega]
          rfl
        · rw [Nat.pow_succ]
          omega
      · rintro σ H3 ⟨k, v3, rfl, hk, s3, hp3⟩
        refine ⟨_, rfl, kk k H3 s3 hp3 ?_⟩
        have h1 : 10 ^ ((times : Nat) : Int).toNat ≤ 10 ^ 40 := Nat.pow_le_pow_right (by decide) (by omega)
        have h2 : (10 : Nat) ^ 40 = 10000000000000000000000000000000000000000 := by decide
        show (k : Int) ≤ 10000000000000000000000000000000000000000
        omega
def spLaw (K : Frag) : Sp := fun vs H Q _ => ∃ (a : Addr) (ns : List Int), vs = [.ref a] ∧ SqL K H a (ns.map V.int) ∧ ns.length ≤ 63 ∧ ∀ H', Q (.bl true) H'
theorem num_in {n : Nat} (h : (n : Int) ≤ tenF) : numG tenF (.int (n : Int)) = true := by
  show (decide ((0 : Int) ≤ (n : Int)) && decide ((n : Int) ≤ tenF)) = true
  rw [decide_eq_true h, decide_eq_true (by omega)]
  rfl
theorem ok_law {fl : Addr} {fd : FuncData} (F : Fun K "law" "law" s_law fl fd) (fr : Free mg ["range"])
    (kc : Kn P w K mg base 1 "_law_cell_at" ["script", "k"] (spCell K)) (kp : Kn P w K mg base 1 "_law_pen_of" ["cell"] spPen) (kd : Kn P w K mg base 2 "_law_draw" ["pen", "many"] spDraw) (kt : Kn P w K mg base 3 "_law_takes_of" ["pen"] spTakes) (kn : Kn P w K mg base 3 "_law_no_number" ["pen", "most"] spNoN) (kh : Kn P w K mg base 1 "_law_whole" ["found"] spWhole)
    (ko : Kn P w K mg base 1 "_law_round" ["takes"] spRound) (k0 : Kn P w K mg base 6 "_law_told" ["takes", "thing"] (spTold58 K)) (ku : Kn P w K mg base 2 "_law_due_of" ["takes", "least", "heap"] (spDue58 K)) (ke : Kn P w K mg base 3 "_law_heap_of" ["pen"] spHeap) :
    FnOk P w K mg base CX0 7 fl fd ["script"] (spLaw K) := by
  have sc : FnScope ["script", "cell", "pen", "takes", "least", "turn", "heap", "due", "found"] ["script"] (defScope s_law) := ⟨rfl, rfl, rfl, by decide +kernel, rfl, by decide +kernel, by decide +kernel⟩
  refine F.ok (N := ["script", "cell", "pen", "takes", "least", "turn", "heap", "due", "found"]) sc (fun vs H Q E h => ?_) (fun cdv A outer s H vs Q E hr h => ?_)
  · obtain ⟨a, ns, rfl, _⟩ := h
    rfl
  · obtain ⟨a, ns, rfl, ha, hn, kk⟩ := h
    have hu := hu_of hr
    have hu1 := huN (j := 1) hr (by decide)
    have hu2 := huN (j := 2) hr (by decide)
    have r1 := hr.mono (j := 1) (by decide)
    have r2 := hr.mono (j := 2) (by decide)
    have r3 := hr.mono (j := 3) (by decide)
    have m_range := fr "range" (by simp)
    refine ⟨_, (pss_cons (ps_for PassesOwn.never rfl (pi_list (pe_op op_cat (pe_lst (pa_cons (pe_kn kc r1 (pa_cons (pv 0) (pa_cons pe_int pa_nil))) pa_nil)) (pe_slice sl_list (pv 0) (po_some pe_int) (po_some pe_int)))) (pg_name (i := 1) sc.nd rfl (Or.inl rfl)) (pss_cons (ps_set (i := 2) sc.nd rfl (Or.inl rfl) (pe_kn kp r1 (pa_cons (pv 1) pa_nil))) (pss_cons (ps_set (i := 3) sc.nd rfl (Or.inl rfl) (pe_kn kt r3 (pa_cons (pv 2) pa_nil))) (pss_cons (ps_set (i := 4) sc.nd rfl (Or.inl rfl) (pe_kn ko r1 (pa_cons (pv 3) pa_nil))) (pss_cons (ps_for PassesOwn.never rfl (pi_range1 rfl m_range (pa_cons pe_int pa_nil)) (pg_name (i := 5) sc.nd rfl (Or.inl rfl)) (pss_cons (ps_set (i := 6) sc.nd rfl (Or.inl rfl) (pe_kn ke r3 (pa_cons (pv 2) pa_nil))) (pss_cons (ps_set (i := 7) sc.nd rfl (Or.inl rfl) (pe_kn ku r2 (pa_cons (pv 3) (pa_cons (pv 4) (pa_cons (pv 6) pa_nil))))) (pss_cons (ps_set (i := 8) sc.nd rfl (Or.inl rfl) (pe_kn k0 hr (pa_cons (pv 3) (pa_cons (pv 6) pa_nil)))) (pss_one (ps_if (PW.pt (pw_or (pt_cmpR (op_neTr 2 hu2) (pv 8) (pv 7) (nomark _)) (pw_or (pt_cmpR (op_neTr 2 hu2) (pe_kn k0 hr (pa_cons (pv 3) (pa_cons (pv 6) pa_nil))) (pv 7) (nomark _)) (pw_or1 (PW.pt (pw_and (pt_cmpR op_eq (pe_ix ix_tup (pv 8) pe_int (fun _ _ => rfl)) pe_str (nomark _)) (pw_and1 (pt_not (pt_call (pe_kn kh r1 (pa_cons (pe_ix ix_tup (pv 8) pe_int (fun _ _ => rfl)) pa_nil))))))))))) (pss_one (ps_ret pe_bl)) pss_nil)))))) (pss_one (ps_if (PW.pt (pw_or (pt_cmpR (op_neTr 1 hu1) (pe_kn k0 hr (pa_cons (pv 3) (pa_cons (pe_kn kn r3 (pa_cons (pv 2) (pa_cons (pe_op op_pow pe_int pe_int) pa_nil))) pa_nil))) (pe_tup (pa_cons pe_str (pa_cons pe_int pa_nil))) (nomark _)) (pw_or1 (pt_cmpR (op_neTr 2 hu2) (pe_kn k0 hr (pa_cons (pv 3) (pa_cons pe_int pa_nil))) (pe_tup (pa_cons pe_str (pa_cons pe_int pa_nil))) (nomark _))))) (pss_one (ps_ret pe_bl)) pss_nil))))))) (pss_one (ps_ret pe_bl))), ?_⟩
    have c1 : 1 ≤ sizeLine := by decide
    have c2 : 2 ≤ sizeLine := by decide
    have fls : ∀ {b : Bool} {t : Tr}, (b = true ↔ ¬ t = t) → b = false := fun {b t} h => by
      cases b with
      | false => rfl
      | true => exact absurd rfl (h.mp rfl)
    refine ⟨_, rfl, a, ns, 0, rfl, ha, fun n0 => ⟨c1, fun l1 hl1 => ?_⟩⟩
    have ha3 : SqL K _ a (ns.map V.int) := (Same.upd (o := .lst [.int n0]) hl1).seq ha
    refine ⟨_, rfl, 1, rfl, 5, rfl, a, _, rfl, ha3, fun l2 hl2 => ?_⟩
    refine ⟨l1, l2, _, _, rfl, rfl, Same.upd hl2 _ _ upd_same, upd_same, ?_, fun M2 hM2 => ?_⟩
    · have := cutV_length (ns.map V.int) (some 1) (some 5)
      rw [List.length_map] at this
      show 1 + _ ≤ sizeLine
      exact Nat.le_of_lt (small1000 (by omega))
    have allInt : ∀ v ∈ [V.int n0] ++ cutV (ns.map V.int) (some 1) (some 5), ∃ n : Int, v = .int n := by
      intro v hv
      rcases List.mem_append.mp hv with z | z
      · exact ⟨n0, by simpa using z⟩
      · unfold cutV at z
        obtain ⟨n, _, rfl⟩ := List.mem_map.mp (List.mem_of_mem_drop (List.mem_of_mem_take z))
        exact ⟨n, rfl⟩
    have hM3 : (upd (upd (upd H l1 (.lst [.int n0])) l2 (.lst (cutV (ns.map V.int) (some 1) (some 5)))) M2 (.lst ([V.int n0] ++ cutV (ns.map V.int) (some 1) (some 5)))) M2 = some (.lst ([V.int n0] ++ cutV (ns.map V.int) (some 1) (some 5))) := upd_same
    generalize upd (upd (upd H l1 (.lst [.int n0])) l2 (.lst (cutV (ns.map V.int) (some 1) (some 5)))) M2 (.lst ([V.int n0] ++ cutV (ns.map V.int) (some 1) (some 5))) = HF at hM3
    generalize [V.int n0] ++ cutV (ns.map V.int) (some 1) (some 5) = CS at hM3 allInt
    refine ⟨M2, rfl, ⟨_, SqL.of hM3⟩, for_list (K := K) (xs := CS) (fun i σ H3 => ∃ v1 v2 v3 v4 v5 v6 v7 v8 : Option V, σ = [some (.ref a), v1, v2, v3, v4, v5, v6, v7, v8] ∧ Same HF H3) ⟨_, _, _, _, _, _, _, _, rfl, Same.refl _⟩ (fun i σ H2 _ ⟨_, _, _, _, _, _, _, _, _, s2⟩ => SqL.of (s2 _ _ hM3)) ?_ ?_⟩
    · rintro i y σ H3 hi ⟨v1, v2, v3, v4, v5, v6, v7, v8, rfl, s3⟩
      obtain ⟨n, rfl⟩ := allInt y (List.mem_of_getElem? hi)
      refine ⟨_, rfl, n, rfl, fun p H4 s4 hp3 hp4 => ?_⟩
      refine ⟨_, rfl, p, rfl, hp4, fun b ts H5 s5 hp5 hbN hb gt => ?_⟩
      have keep : ∀ {HX : Hp}, SameBut p H5 HX → Same HF HX := fun {HX} sx b' o e => by
        have e3 := s3 _ _ e
        have np := ne_of_none e3 hp3
        exact sx _ _ np (s5 _ _ np (s4 _ _ e3))
      have nb : b ≠ p := pen_tup hp5 hb
      refine gname_in ?_
      dsimp only [List.set]
      refine seq_inv (a := tAsg _ _) (fun σ H6 => ∃ (v : V) (o : Option (Nat × Nat)) (v5 v6 v7 v8 : Option V), σ = [some (.ref a), some (.int n), some (.ref p), some (.ref b), some v, v5, v6, v7, v8] ∧ Same H5 H6 ∧ LeastV H6 v o ∧ Rnd (win ts (wd ts)) 4000 o) (fun D' nx1 => ?_) ?_
      · exact ⟨_, rfl, b, ts, rfl, hb, gt, fun H6 s6 R => nx1 _ _ ⟨.non, none, _, _, _, _, rfl, s6, rfl, R⟩, fun t s l H6 s6 R ht => nx1 _ _ ⟨.ref t, some (s, l), _, _, _, _, rfl, s6, ⟨t, rfl, ht⟩, R⟩⟩
      rintro σ H6 ⟨v, o, v5, v6, v7, v8, rfl, s6, lv, R⟩
      have hp6 := hp5.mono s6
      have hb6 := s6 _ _ hb
      refine ⟨4, rfl, by decide, by decide, for_range (n := 4) (fun j σ H7 => ∃ v5 v6 v7 v8 : Option V, σ = [some (.ref a), some (.int n), some (.ref p), some (.ref b), some v, v5, v6, v7, v8] ∧ SameBut p H6 H7 ∧ PenAt H7 p) ⟨_, _, _, _, rfl, SameBut.refl _ _, hp6⟩ ?_ ?_⟩
      · rintro j σ H7 hj ⟨v5, v6, v7, v8, rfl, s7, hp7⟩
        refine ⟨_, rfl, p, rfl, hp7, fun k H8 s8 hp8 hk => ?_⟩
        have s68 := s7.trans s8
        have hb8 := s68 _ _ nb hb6
        have lv8 := lv.but hp6 s68
        refine ⟨_, rfl, _, rfl, _, rfl, b, ts, v, k, o, rfl, hb8, gt, R, lv8, hk, fun c H9 s9 fc => ?_⟩
        have hb9 := s9 _ _ hb8
        refine ⟨_, rfl, _, rfl, b, ts, .int (k : Int), "int", o, rfl, hb9, gt, .int _, R, fun k2 ek hk2 c2' Ha sa fa => ?_, fun z => absurd (num_in hk) z⟩
        have ek : k2 = k := by
          injection ek with ek
          omega
        subst ek
        have fc := fc.mono sa
        refine ⟨_, rfl, _, rfl, _, _, fa.is, fc.is, fun bb hbb => ⟨_, rfl, ?_⟩⟩
        rw [fls hbb]
        refine iteF ?_
        refine ⟨_, rfl, _, rfl, b, ts, .int (k2 : Int), "int", o, rfl, sa _ _ hb9, gt, .int _, R, fun k3 ek3 hk3 c3 Hb sb fb => ?_, fun z => absurd (num_in hk) z⟩
        have ek3 : k3 = k2 := by
          injection ek3 with ek3
          omega
        subst ek3
        have fc := fc.mono sb
        have fa := fa.mono sb
        refine ⟨_, rfl, _, _, fb.is, fc.is, fun bb hbb => ⟨_, rfl, ?_⟩⟩
        rw [fls hbb]
        refine iteF ?_
        obtain ⟨wd', v', hc', ok'⟩ := fa.tp
        have sE : SameBut p H6 Hb := s68.trans (s9.trans (sa.trans sb)).but
        have hpE := hp8.mono (s9.trans (sa.trans sb))
        refine ⟨_, rfl, c2', _, _, _, rfl, rfl, SqT.of hc', rfl, rfl, _, rfl, ite2 (fun cw => ?_) (fun cw => ⟨_, _, _, _, rfl, sE, hpE⟩)⟩
        obtain ⟨k', rfl⟩ := ok' (V.str.inj (of_decide_eq_true cw))
        exact ⟨_, rfl, c2', _, _, _, rfl, rfl, SqT.of hc', rfl, _, "int", rfl, .int _, _, rfl, iteF ⟨_, _, _, _, rfl, sE, hpE⟩⟩
      rintro σ H7 ⟨v5, v6, v7, v8, rfl, s7, hp7⟩
      refine ⟨_, rfl, _, rfl, _, _, rfl, rfl, ⟨by decide, by decide, by decide⟩, p, _, rfl, by decide, hp7, fun x T H8 s8 hp8 dx ng => ?_⟩
      rw [ten40] at ng
      have s68 := s7.trans s8
      have hb8 := s68 _ _ nb hb6
      refine ⟨b, ts, x, T, o, rfl, hb8, gt, dx, R, fun k ek hk => ?_, fun _ c H9 s9 hc => ?_⟩
      · subst ek
        rw [num_in hk] at ng
        cases ng
      refine ⟨c2, fun u hu' => ?_⟩
      have su := Same.upd (o := .tup [.str "number", .int 0]) hu'
      refine ⟨.tup [.str "number", .int 0], .tup [.str "number", .int 0], Is.tup (SqT.of (su _ _ hc)) (.cons (Is.str _) (.cons (Is.int _) .nil)), Is.tup (SqT.of upd_same) (.cons (Is.str _) (.cons (Is.int _) .nil)), fun bb hbb => ⟨_, rfl, ?_⟩⟩
      rw [fls hbb]
      refine iteF ?_
      have hb9 := (s9.trans su) _ _ hb8
      refine ⟨_, rfl, b, ts, .int 0, "int", o, rfl, hb9, gt, .int _, R, fun k ek hk c3 Ha sa fa => ?_, fun z => absurd (num_in (n := 0) (by decide)) z⟩
      have ek : k = 0 := by
        injection ek with ek
        omega
      subst ek
      refine ⟨c2, fun u2 hu2 => ?_⟩
      have su2 := Same.upd (o := .tup [.str "told", .int 0]) hu2
      have et : tFar ts o 0 = .tup [.str "told", .int 0] := by
        unfold tFar
        rw [if_neg (fun z => by omega), gN_zero gt]
        rfl
      have fi := (fa.mono su2).is
      rw [et] at fi
      refine ⟨_, .tup [.str "told", .int 0], fi, Is.tup (SqT.of upd_same) (.cons (Is.str _) (.cons (Is.int _) .nil)), fun bb hbb => ⟨_, rfl, ?_⟩⟩
      rw [fls hbb]
      exact iteF ⟨_, _, _, _, _, _, _, _, rfl, keep (s6.but.trans (s68.trans (s9.trans (su.trans (sa.trans su2))).but))⟩
    · rintro σ H3 ⟨_, _, _, _, _, _, _, _, rfl, s3⟩
      exact kk H3
end
end Hk

namespace Hk
open PySem L2
structure DF (K : PySem.W.Frag) (x : Str) (st : Stmt) : Prop where
  ex : ∃ (f : Addr) (oc : Value) (od an : Option Addr) (osl : Array (Option Value)) (kV doc pm cdv ct : Value), PySem.W.nsIn K mainGlobals x = some (some (.ref f)) ∧
    K.lookup f = some ⟨oc, od, .func (PySem.W.fnOf x x (defArgs st) (defBody st) (defScope st) .none kV doc pm an cdv ct), osl⟩ ∧ PySem.W.codeIn K cdv x = true ∧ PySem.W.keepIn K (.ref f) = true
theorem DF.of {K : PySem.W.Frag} {x : Str} {st : Stmt} {f : Addr} {oc : Value} {od an : Option Addr} {osl : Array (Option Value)} {kV doc pm cdv ct : Value} (a : PySem.W.nsIn K mainGlobals x = some (some (.ref f)))
    (l : K.lookup f = some ⟨oc, od, .func (PySem.W.fnOf x x (defArgs st) (defBody st) (defScope st) .none kV doc pm an cdv ct), osl⟩) (c : PySem.W.codeIn K cdv x = true) (k : PySem.W.keepIn K (.ref f) = true) : DF K x st := ⟨⟨f, oc, od, an, osl, kV, doc, pm, cdv, ct, a, l, c, k⟩⟩
theorem DF.at {K : PySem.W.Frag} {h : Heap} {mg : Str → Option Value} {x : Str} {st : Stmt} {ps : List Str} (D : DF K x st) (X : K.In h) (G : h.Ns mainGlobals mg)
    (hb : ∀ (kV doc pm : Value) (an : Option Addr) (cdv ct : Value) (us : List Value), us.length = ps.length → bindArgs (PySem.W.fnOf x x (defArgs st) (defBody st) (defScope st) .none kV doc pm an cdv ct) ⟨us, []⟩ = pure (ps.zip us)) : DefAt K mg x st ps := by
  obtain ⟨f, oc, od, an, osl, kV, doc, pm, cdv, ct, a, l, c, k⟩ := D.ex
  exact ⟨f, _, fun_mk l c k, PySem.W.mg_of X G a, (fun_mk l c k).binds hb⟩
theorem all_mk {P : Program} {w : World} {K : PySem.W.Frag} {h : Heap} {mg : Str → Option Value} {fa : Addr} (X : K.In h) (G : h.Ns mainGlobals mg) (hfa : mg "law" = some (.ref fa))
    {CW fW : Addr} {TW : Addr} {ocD xD : Value} {odD : Option Addr} {nD : Nat} {oslD : Array (Option Value)} {ocW kVW docW pmW cdvW ctW : Value} {odW anW : Option Addr} {oslW : Array (Option Value)} {c0 : Addr} {c1 : Addr} {c2 : Addr} {c3 : Addr} {c4 : Addr} {c5 : Addr} {c6 : Addr} {c7 : Addr} {c8 : Addr} {fTooGreat NTooGreat : Addr} {nmTooGreat qTooGreat : Str} {bsTooGreat bmTooGreat subTooGreat : List Value} {hdTooGreat abTooGreat : Bool} {snTooGreat : List Str} {colTooGreat : Option Bool} {ddTooGreat : Option Addr} {k0TooGreat k1TooGreat k2TooGreat k3TooGreat k5TooGreat : Option Value} {ocTooGreat kVTooGreat docTooGreat pmTooGreat cdvTooGreat ctTooGreat : Value} {odTooGreat anTooGreat : Option Addr} {oslTooGreat : Array (Option Value)} {fNoNumber NNoNumber : Addr} {nmNoNumber qNoNumber : Str} {bsNoNumber bmNoNumber subNoNumber : List Value} {hdNoNumber abNoNumber : Bool} {snNoNumber : List Str} {colNoNumber : Option Bool} {ddNoNumber : Option Addr} {k0NoNumber k1NoNumber k2NoNumber k3NoNumber k5NoNumber : Option Value} {ocNoNumber kVNoNumber docNoNumber pmNoNumber cdvNoNumber ctNoNumber : Value} {odNoNumber anNoNumber : Option Addr} {oslNoNumber : Array (Option Value)} {tGMOST_THINGS : Tok} {tGMOST_ROUND : Tok} (aW : PySem.W.nsIn K mainGlobals "WebError" = some (some (.ref CW))) (mW1 : PySem.W.specialIn K (.ref CW) "__getattribute__" = some (some (.builtin "type.__getattribute__"))) (mW2 : PySem.W.readsIn K CW (.type "type") = true) (mW3 : PySem.W.findCls K (.ref CW) (.type "type") "__init__" = some (.val (.ref fW))) (mW4 : PySem.W.keepIn K (.ref fW) = true) (lfW : K.lookup fW = some ⟨ocW, odW, .func (PySem.W.fnOf "__init__" "WebError.__init__" (defArgs s_WebError_init) (defBody s_WebError_init) (defScope s_WebError_init) (.ref TW) kVW docW pmW anW cdvW ctW), oslW⟩) (cfW : PySem.W.codeIn K cdvW "WebError.__init__" = true) (dW : K.lookup TW = some ⟨ocD, odD, .seq #[xD] nD, oslD⟩) (ac0 : PySem.W.nsIn K mainGlobals "NoPlace" = some (some (.ref c0))) (ac1 : PySem.W.nsIn K mainGlobals "NoHold" = some (some (.ref c1))) (ac2 : PySem.W.nsIn K mainGlobals "NoArrow" = some (some (.ref c2))) (ac3 : PySem.W.nsIn K mainGlobals "NoNumber" = some (some (.ref c3))) (ac4 : PySem.W.nsIn K mainGlobals "NoRow" = some (some (.ref c4))) (ac5 : PySem.W.nsIn K mainGlobals "NoWeb" = some (some (.ref c5))) (ac6 : PySem.W.nsIn K mainGlobals "Ringed" = some (some (.ref c6))) (ac7 : PySem.W.nsIn K mainGlobals "NoText" = some (some (.ref c7))) (ac8 : PySem.W.nsIn K mainGlobals "TooGreat" = some (some (.ref c8))) (gsp : PySem.W.specialIn K (.builtin "object.__class__") "__get__" = some (some (.builtin "getset_descriptor.__get__"))) (gtk : PySem.W.takesIn K (.builtin "object.__class__") = some true) (lTooGreat : K.lookup c8 = some (excClassObj nmTooGreat qTooGreat c8 NTooGreat bsTooGreat bmTooGreat hdTooGreat snTooGreat subTooGreat abTooGreat colTooGreat ddTooGreat k0TooGreat k1TooGreat k2TooGreat k3TooGreat k5TooGreat "ValueError.__new__")) (v0TooGreat : bmTooGreat.contains (.type "ValueError") = true) (v1TooGreat : bmTooGreat.contains (.type "BaseException") = true) (v2TooGreat : bmTooGreat.contains (.type "AttributeError") = false) (v3TooGreat : bmTooGreat.contains (.type "NameError") = false) (i1TooGreat : PySem.W.findIn K (.ref c8) "__init__" = some (some (.ref fTooGreat))) (i2TooGreat : PySem.W.isFn K (.ref fTooGreat) = true) (i3TooGreat : PySem.W.keepIn K (.ref c8) = true) (g1TooGreat : PySem.W.findIn K (.ref c8) "__getattribute__" = some (some (.builtin "BaseException.__getattribute__"))) (g2TooGreat : PySem.W.findIn K (.ref c8) "__getattr__" = some none) (g3TooGreat : PySem.W.subIn K (.ref c8) (.type "BaseException") = some true) (g4TooGreat : PySem.W.findIn K (.ref c8) "__class__" = some (some (.builtin "object.__class__"))) (g5TooGreat : PySem.W.mroIn K c8 (.type "object") = some true) (lfTooGreat : K.lookup fTooGreat = some ⟨ocTooGreat, odTooGreat, .func (PySem.W.fnOf "__init__" "TooGreat.__init__" (defArgs s_TooGreat_init) (defBody s_TooGreat_init) (defScope s_TooGreat_init) .none kVTooGreat docTooGreat pmTooGreat anTooGreat cdvTooGreat ctTooGreat), oslTooGreat⟩) (cfTooGreat : PySem.W.codeIn K cdvTooGreat "TooGreat.__init__" = true) (exTooGreat : PySem.W.exmOne K (.ref c8) (.ref CW) = some true) (kvTooGreat : PySem.W.kitOne K (.ref c8) (.type "ValueError") = some true) (xaTooGreat : PySem.W.findIn K (.ref c8) "__setattr__" = some (some (.builtin "object.__setattr__"))) (xhTooGreat : PySem.W.hasDictIn K c8 = true) (xoTooGreat : onlyVE (.ref c8 :: bmTooGreat) = true) (xn0TooGreat : PySem.W.findIn K (.ref c8) "many" = some none) (xn1TooGreat : PySem.W.findIn K (.ref c8) "most" = some none) (kk0TooGreat : PySem.W.kitOne K (.ref c8) (.ref c0) = some false) (kk1TooGreat : PySem.W.kitOne K (.ref c8) (.ref c1) = some false) (kk2TooGreat : PySem.W.kitOne K (.ref c8) (.ref c2) = some false) (kk3TooGreat : PySem.W.kitOne K (.ref c8) (.ref c3) = some false) (kk4TooGreat : PySem.W.kitOne K (.ref c8) (.ref c4) = some false) (kk5TooGreat : PySem.W.kitOne K (.ref c8) (.ref c5) = some false) (kk6TooGreat : PySem.W.kitOne K (.ref c8) (.ref c6) = some false) (kk7TooGreat : PySem.W.kitOne K (.ref c8) (.ref c7) = some false) (kk8TooGreat : PySem.W.kitOne K (.ref c8) (.ref c8) = some true) (lNoNumber : K.lookup c3 = some (excClassObj nmNoNumber qNoNumber c3 NNoNumber bsNoNumber bmNoNumber hdNoNumber snNoNumber subNoNumber abNoNumber colNoNumber ddNoNumber k0NoNumber k1NoNumber k2NoNumber k3NoNumber k5NoNumber "ValueError.__new__")) (v0NoNumber : bmNoNumber.contains (.type "ValueError") = true) (v1NoNumber : bmNoNumber.contains (.type "BaseException") = true) (v2NoNumber : bmNoNumber.contains (.type "AttributeError") = false) (v3NoNumber : bmNoNumber.contains (.type "NameError") = false) (i1NoNumber : PySem.W.findIn K (.ref c3) "__init__" = some (some (.ref fNoNumber))) (i2NoNumber : PySem.W.isFn K (.ref fNoNumber) = true) (i3NoNumber : PySem.W.keepIn K (.ref c3) = true) (g1NoNumber : PySem.W.findIn K (.ref c3) "__getattribute__" = some (some (.builtin "BaseException.__getattribute__"))) (g2NoNumber : PySem.W.findIn K (.ref c3) "__getattr__" = some none) (g3NoNumber : PySem.W.subIn K (.ref c3) (.type "BaseException") = some true) (g4NoNumber : PySem.W.findIn K (.ref c3) "__class__" = some (some (.builtin "object.__class__"))) (g5NoNumber : PySem.W.mroIn K c3 (.type "object") = some true) (lfNoNumber : K.lookup fNoNumber = some ⟨ocNoNumber, odNoNumber, .func (PySem.W.fnOf "__init__" "NoNumber.__init__" (defArgs s_NoNumber_init) (defBody s_NoNumber_init) (defScope s_NoNumber_init) .none kVNoNumber docNoNumber pmNoNumber anNoNumber cdvNoNumber ctNoNumber), oslNoNumber⟩) (cfNoNumber : PySem.W.codeIn K cdvNoNumber "NoNumber.__init__" = true) (exNoNumber : PySem.W.exmOne K (.ref c3) (.ref CW) = some true) (kvNoNumber : PySem.W.kitOne K (.ref c3) (.type "ValueError") = some true) (kk0NoNumber : PySem.W.kitOne K (.ref c3) (.ref c0) = some false) (kk1NoNumber : PySem.W.kitOne K (.ref c3) (.ref c1) = some false) (kk2NoNumber : PySem.W.kitOne K (.ref c3) (.ref c2) = some false) (kk3NoNumber : PySem.W.kitOne K (.ref c3) (.ref c3) = some true) (kk4NoNumber : PySem.W.kitOne K (.ref c3) (.ref c4) = some false) (kk5NoNumber : PySem.W.kitOne K (.ref c3) (.ref c5) = some false) (kk6NoNumber : PySem.W.kitOne K (.ref c3) (.ref c6) = some false) (kk7NoNumber : PySem.W.kitOne K (.ref c3) (.ref c7) = some false) (kk8NoNumber : PySem.W.kitOne K (.ref c3) (.ref c8) = some false) (gnMOST_THINGS : PySem.W.nsIn K mainGlobals "MOST_THINGS" = some (some (.int 5000 tGMOST_THINGS))) (gnMOST_ROUND : PySem.W.nsIn K mainGlobals "MOST_ROUND" = some (some (.int 4000 tGMOST_ROUND)))
    (d0 : DF K "whole_good" s_whole_good) (d1 : DF K "least_missing" s_least_missing) (d2 : DF K "number_good" s_number_good) (d3 : DF K "refuse_no_number" s_refuse_no_number) (d4 : DF K "numbers_to" s_numbers_to) (d5 : DF K "heap_round" s_heap_round) (d6 : DF K "heap_far" s_heap_far) (d7 : DF K "_law_cell_at" s_law_cell_at) (d8 : DF K "_law_next" s_law_next) (d9 : DF K "_law_pen_of" s_law_pen_of) (d10 : DF K "_law_draw" s_law_draw) (d11 : DF K "_law_whole" s_law_whole) (d13 : DF K "_law_kind_of" s_law_kind_of) (d14 : DF K "_law_takes_of" s_law_takes_of) (d15 : DF K "_law_numbers" s_law_numbers) (d16 : DF K "_law_round" s_law_round) (d17 : DF K "_law_no_number" s_law_no_number) (d18 : DF K "_law_told" s_law_told) (d19 : DF K "_law_due_of" s_law_due_of) (d20 : DF K "_law_heap_of" s_law_heap_of) (d21 : DF K "law" s_law)
    (z0 : PySem.W.nsIn K mainGlobals "ValueError" = some none) (z1 : PySem.W.nsIn K mainGlobals "bool" = some none) (z2 : PySem.W.nsIn K mainGlobals "int" = some none) (z3 : PySem.W.nsIn K mainGlobals "isinstance" = some none) (z4 : PySem.W.nsIn K mainGlobals "len" = some none) (z5 : PySem.W.nsIn K mainGlobals "max" = some none) (z6 : PySem.W.nsIn K mainGlobals "range" = some none) (z7 : PySem.W.nsIn K mainGlobals "tuple" = some none) :
    ∃ fd : FuncData, (∀ (s : Shared) (v : Value), BindsTo s fd ⟨[v], []⟩ [("script", v)]) ∧ ∀ base : Heap, K.In base → base.Ns mainGlobals mg → FnOk P w K mg base CX0 7 fa fd ["script"] (spLaw K) := by
  have D0 := d0.at (ps := ["thing"]) X G fun _ _ _ _ _ _ us hl => match us, hl with | [_], _ => rfl
  have D1 := d1.at (ps := ["numbers"]) X G fun _ _ _ _ _ _ us hl => match us, hl with | [_], _ => rfl
  have D2 := d2.at (ps := ["thing", "most"]) X G fun _ _ _ _ _ _ us hl => match us, hl with | [_, _], _ => rfl
  have D3 := d3.at (ps := ["thing", "most"]) X G fun _ _ _ _ _ _ us hl => match us, hl with | [_, _], _ => rfl
  have D4 := d4.at (ps := ["takes", "most"]) X G fun _ _ _ _ _ _ us hl => match us, hl with | [_, _], _ => rfl
  have D5 := d5.at (ps := ["takes"]) X G fun _ _ _ _ _ _ us hl => match us, hl with | [_], _ => rfl
  have D6 := d6.at (ps := ["takes", "heap"]) X G fun _ _ _ _ _ _ us hl => match us, hl with | [_, _], _ => rfl
  have D7 := d7.at (ps := ["script", "k"]) X G fun _ _ _ _ _ _ us hl => match us, hl with | [_, _], _ => rfl
  have D8 := d8.at (ps := ["seed"]) X G fun _ _ _ _ _ _ us hl => match us, hl with | [_], _ => rfl
  have D9 := d9.at (ps := ["cell"]) X G fun _ _ _ _ _ _ us hl => match us, hl with | [_], _ => rfl
  have D10 := d10.at (ps := ["pen", "many"]) X G fun _ _ _ _ _ _ us hl => match us, hl with | [_, _], _ => rfl
  have D11 := d11.at (ps := ["found"]) X G fun _ _ _ _ _ _ us hl => match us, hl with | [_], _ => rfl
  have D13 := d13.at (ps := ["e"]) X G fun _ _ _ _ _ _ us hl => match us, hl with | [_], _ => rfl
  have D14 := d14.at (ps := ["pen"]) X G fun _ _ _ _ _ _ us hl => match us, hl with | [_], _ => rfl
  have D15 := d15.at (ps := ["takes", "most"]) X G fun _ _ _ _ _ _ us hl => match us, hl with | [_, _], _ => rfl
  have D16 := d16.at (ps := ["takes"]) X G fun _ _ _ _ _ _ us hl => match us, hl with | [_], _ => rfl
  have D17 := d17.at (ps := ["pen", "most"]) X G fun _ _ _ _ _ _ us hl => match us, hl with | [_, _], _ => rfl
  have D18 := d18.at (ps := ["takes", "thing"]) X G fun _ _ _ _ _ _ us hl => match us, hl with | [_, _], _ => rfl
  have D19 := d19.at (ps := ["takes", "least", "heap"]) X G fun _ _ _ _ _ _ us hl => match us, hl with | [_, _, _], _ => rfl
  have D20 := d20.at (ps := ["pen"]) X G fun _ _ _ _ _ _ us hl => match us, hl with | [_], _ => rfl
  obtain ⟨f, oc, od, an, osl, kV, doc, pm, cdv, ct, a, l, c, k⟩ := d21.ex
  have e := hfa.symm.trans (PySem.W.mg_of X G a)
  cases e
  have F := fun_mk (st := s_law) l c k
  have y0 := PySem.W.mg_none_of X G z0
  have y1 := PySem.W.mg_none_of X G z1
  have y2 := PySem.W.mg_none_of X G z2
  have y3 := PySem.W.mg_none_of X G z3
  have y4 := PySem.W.mg_none_of X G z4
  have y5 := PySem.W.mg_none_of X G z5
  have y6 := PySem.W.mg_none_of X G z6
  have y7 := PySem.W.mg_none_of X G z7
  have G_MOST_THINGS : GlobI mg "MOST_THINGS" 5000 := ⟨⟨_, PySem.W.mg_of X G gnMOST_THINGS⟩⟩
  have G_MOST_ROUND : GlobI mg "MOST_ROUND" 4000 := ⟨⟨_, PySem.W.mg_of X G gnMOST_ROUND⟩⟩
  have hW := PySem.W.mg_of X G aW
  have MW : CMeth K CW "__init__" fW := ⟨mW1, mW2, mW3, mW4⟩
  have hc0 := PySem.W.mg_of X G ac0
  have hc1 := PySem.W.mg_of X G ac1
  have hc2 := PySem.W.mg_of X G ac2
  have hc3 := PySem.W.mg_of X G ac3
  have hc4 := PySem.W.mg_of X G ac4
  have hc5 := PySem.W.mg_of X G ac5
  have hc6 := PySem.W.mg_of X G ac6
  have hc7 := PySem.W.mg_of X G ac7
  have hc8 := PySem.W.mg_of X G ac8
  have kinds : Kinds mg c0 c1 c2 c3 c4 c5 c6 c7 c8 := ⟨hc0, hc1, hc2, hc3, hc4, hc5, hc6, hc7, hc8⟩
  have M_TooGreat : XMk K c8 fTooGreat bmTooGreat := ⟨⟨⟨_, _, _, _, _, _, _, _, _, _, _, _, _, _, _, lTooGreat⟩, v0TooGreat, v1TooGreat, v2TooGreat, v3TooGreat⟩, i1TooGreat, i2TooGreat, i3TooGreat⟩
  have XI_TooGreat : XIs K c8 := ⟨g1TooGreat, g2TooGreat, g3TooGreat, g4TooGreat, gsp, gtk, g5TooGreat, by unfold PySem.W.clsIn; rw [lTooGreat]; rfl⟩
  have T_TooGreat : FldsOf K c8 ["many", "most"] := ⟨⟨xaTooGreat, xhTooGreat, by unfold veOver PySem.W.clsIn; rw [lTooGreat]; exact xoTooGreat⟩, fun f hf => by
    simp only [List.mem_cons, List.not_mem_nil, or_false] at hf
    rcases hf with rfl | rfl
    · exact xn0TooGreat
    · exact xn1TooGreat⟩
  have kd_TooGreat : KindOf K c8 c0 c1 c2 c3 c4 c5 c6 c7 c8 8 := ⟨XI_TooGreat, kvTooGreat, kk0TooGreat, kk1TooGreat, kk2TooGreat, kk3TooGreat, kk4TooGreat, kk5TooGreat, kk6TooGreat, kk7TooGreat, kk8TooGreat⟩
  have M_NoNumber : XMk K c3 fNoNumber bmNoNumber := ⟨⟨⟨_, _, _, _, _, _, _, _, _, _, _, _, _, _, _, lNoNumber⟩, v0NoNumber, v1NoNumber, v2NoNumber, v3NoNumber⟩, i1NoNumber, i2NoNumber, i3NoNumber⟩
  have XI_NoNumber : XIs K c3 := ⟨g1NoNumber, g2NoNumber, g3NoNumber, g4NoNumber, gsp, gtk, g5NoNumber, by unfold PySem.W.clsIn; rw [lNoNumber]; rfl⟩
  have kd_NoNumber : KindOf K c3 c0 c1 c2 c3 c4 c5 c6 c7 c8 3 := ⟨XI_NoNumber, kvNoNumber, kk0NoNumber, kk1NoNumber, kk2NoNumber, kk3NoNumber, kk4NoNumber, kk5NoNumber, kk6NoNumber, kk7NoNumber, kk8NoNumber⟩
  refine ⟨PySem.W.fnOf "law" "law" (defArgs s_law) (defBody s_law) (defScope s_law) .none kV doc pm an cdv ct, fun s v => .of_eq rfl, fun base _ _ => ?_⟩
  have okW := ok_initW (P := P) (w := w) (base := base) (mg := mg) (f := fW) ⟨_, _, _, _, _, _, _, _, _, _, rfl, lfW, cfW⟩ (fun z hz => by
      simp only [List.mem_cons, List.not_mem_nil, or_false] at hz
      rcases hz with rfl
      · exact y0)
  have bW : Binds K (PySem.W.fnOf "__init__" "WebError.__init__" (defArgs s_WebError_init) (defBody s_WebError_init) (defScope s_WebError_init) (.ref TW) kVW docW pmW anW cdvW ctW) ["self", "words"] [] := fun s us KX hl => by
    rw [List.append_nil] at hl ⊢
    exact match us, hl with | [_, _], _ => .of_defaults rfl (KX _ _ dW) rfl rfl rfl
  have ok_TooGreat := ok_init_TooGreat (P := P) (w := w) (base := base) (mg := mg) (f := fTooGreat) ⟨_, _, _, _, _, _, _, _, _, _, rfl, lfTooGreat, cfTooGreat⟩ hW MW okW bW
  have b_TooGreat : Binds K (PySem.W.fnOf "__init__" "TooGreat.__init__" (defArgs s_TooGreat_init) (defBody s_TooGreat_init) (defScope s_TooGreat_init) .none kVTooGreat docTooGreat pmTooGreat anTooGreat cdvTooGreat ctTooGreat) ["self", "many", "most"] [] := Binds.all fun us hl => match us, hl with | [_, _, _], _ => rfl
  have h_TooGreat := hc8
  have ex_TooGreat := exTooGreat
  have ok_NoNumber := ok_init_NoNumber (P := P) (w := w) (base := base) (mg := mg) (f := fNoNumber) ⟨_, _, _, _, _, _, _, _, _, _, rfl, lfNoNumber, cfNoNumber⟩ hW MW okW bW
  have b_NoNumber : Binds K (PySem.W.fnOf "__init__" "NoNumber.__init__" (defArgs s_NoNumber_init) (defBody s_NoNumber_init) (defScope s_NoNumber_init) .none kVNoNumber docNoNumber pmNoNumber anNoNumber cdvNoNumber ctNoNumber) ["self"] [] := Binds.all fun us hl => match us, hl with | [_], _ => rfl
  have h_NoNumber := hc3
  have ex_NoNumber := exNoNumber
  have K0 := kn_whole (P := P) (w := w) (base := base) D0 (fun z hz => by
      simp only [List.mem_cons, List.not_mem_nil, or_false] at hz
      rcases hz with rfl | rfl | rfl
      · exact y3
      · exact y2
      · exact y1) 
  have K1 := kn_least (P := P) (w := w) (base := base) D1  
  have K2 := kn_numgood (P := P) (w := w) (base := base) D2  K0
  have K3 := knx_refN (P := P) (w := w) (base := base) D3  K2 M_NoNumber h_NoNumber ok_NoNumber b_NoNumber
  have K4 := kn_nums (P := P) (w := w) (base := base) D4 (fun z hz => by
      simp only [List.mem_cons, List.not_mem_nil, or_false] at hz
      rcases hz with rfl
      · exact y6) K1
  have K5 := kn_round (P := P) (w := w) (base := base) D5 (fun z hz => by
      simp only [List.mem_cons, List.not_mem_nil, or_false] at hz
      rcases hz with rfl | rfl | rfl
      · exact y6
      · exact y5
      · exact y7) G_MOST_ROUND K4
  have K6 := knx_far (P := P) (w := w) (base := base) D6  G_MOST_THINGS K3 K4 K5 M_TooGreat h_TooGreat ok_TooGreat b_TooGreat T_TooGreat
  have K7 := kn_cell (P := P) (w := w) (base := base) D7 (fun z hz => by
      simp only [List.mem_cons, List.not_mem_nil, or_false] at hz
      rcases hz with rfl
      · exact y4) 
  have K8 := kn_next (P := P) (w := w) (base := base) D8  
  have K9 := kn_pen (P := P) (w := w) (base := base) D9 (fun z hz => by
      simp only [List.mem_cons, List.not_mem_nil, or_false] at hz
      rcases hz with rfl | rfl
      · exact y5
      · exact y2) 
  have K10 := kn_draw (P := P) (w := w) (base := base) D10  K8
  have K11 := kn_lawWhole (P := P) (w := w) (base := base) D11 (fun z hz => by
      simp only [List.mem_cons, List.not_mem_nil, or_false] at hz
      rcases hz with rfl | rfl | rfl
      · exact y3
      · exact y2
      · exact y1) 
  have K12 := knH_lawWhole (P := P) (w := w) (base := base) D11 (fun z hz => by
      simp only [List.mem_cons, List.not_mem_nil, or_false] at hz
      rcases hz with rfl | rfl | rfl
      · exact y3
      · exact y2
      · exact y1) 
  have K13 := knH_kind (P := P) (w := w) (base := base) D13 (fun z hz => by
      simp only [List.mem_cons, List.not_mem_nil, or_false] at hz
      rcases hz with rfl | rfl
      · exact y3
      · exact y0) kinds
  have K14 := kn_takes (P := P) (w := w) (base := base) D14 (fun z hz => by
      simp only [List.mem_cons, List.not_mem_nil, or_false] at hz
      rcases hz with rfl | rfl
      · exact y6
      · exact y7) K10
  have K15 := kn_lnums (P := P) (w := w) (base := base) D15 (fun z hz => by
      simp only [List.mem_cons, List.not_mem_nil, or_false] at hz
      rcases hz with rfl
      · exact y6) 
  have K16 := kn_lround (P := P) (w := w) (base := base) D16 (fun z hz => by
      simp only [List.mem_cons, List.not_mem_nil, or_false] at hz
      rcases hz with rfl | rfl | rfl
      · exact y6
      · exact y4
      · exact y7) 
  have K17 := kn_non (P := P) (w := w) (base := base) D17  K10
  have K18 := kn_told58 (P := P) (w := w) (base := base) D18  K6 K13 K12 hW ex_TooGreat kd_TooGreat T_TooGreat ex_NoNumber kd_NoNumber
  have K19 := kn_due58 (P := P) (w := w) (base := base) D19  K15
  have K20 := kn_heap (P := P) (w := w) (base := base) D20 (fun z hz => by
      simp only [List.mem_cons, List.not_mem_nil, or_false] at hz
      rcases hz with rfl
      · exact y6) K10
  exact ok_law F (fun z hz => by
      simp only [List.mem_cons, List.not_mem_nil, or_false] at hz
      rcases hz with rfl
      · exact y6) K7 K9 K10 K14 K17 K11 K16 K18 K19 K20
theorem walk {l : PySem.W.OpenLaw} {q : Program} {loose : List Str} {XP : (Str → Option Value) → Heap → Prop} {YP : World → Heap → Prop} {d : DefRec} {K : Params → PySem.W.Frag} (hn : l.most = some 63) (hdf : d.params.defaults = [])
    (hY : ∀ (w : World) (h : Heap), YP w h → (K w.params).In h)
    (F : ∀ (w : World) (mg : Str → Option Value) (fa : Addr) (h : Heap), (K w.params).In h → h.Ns mainGlobals mg → mg d.name = some (.ref fa) →
      ∃ fd : FuncData, (∀ (s : Shared) (u : Value), BindsTo s fd ⟨[u], []⟩ [("script", u)]) ∧ ∀ base : Heap, (K w.params).In base → base.Ns mainGlobals mg → FnOk l.prog w (K w.params) mg base CX0 7 fa fd ["script"] (spLaw (K w.params))) :
    PySem.W.WalkO q loose XP YP l.row.toRowW d [] (fun f vs => PySem.call f vs) :=
  L2.walk_of (n := 63) (k := 7) (x := "script") (CX := fun _ => CX0) (sp := fun w => spLaw (K w.params)) hn (by decide) hdf ⟨rfl, by decide, by decide, rfl⟩ hY F (fun _ _ a ns hl _ hS => ⟨a, ns, rfl, hS, hl, fun _ => rfl⟩) fun _ _ _ _ _ z => z
end Hk
open PySem PySem.W PyProof.Rows
set_option maxRecDepth 100000 in
set_option maxHeartbeats 0 in
theorem PySem.Challenge.cw_holdsets_k58_far_heaps_holds : PySem.Challenge.rw_holdsets_k58_far_heaps.Holds := by
  w_on; o_law; k_head; (case hw => w_witness2)
  k_fill
  refine Hk.walk (l := PySem.Challenge.rw_holdsets_k58_far_heaps) rfl rfl (fun w h Y => PySem.W.kIn_of Y) ?F
  case F =>
    intro w mg fa h KX G hmg
    refine' Hk.all_mk KX G hmg ?aW ?mW1 ?mW2 ?mW3 ?mW4 ?lfW ?cfW ?dW ?ac0 ?ac1 ?ac2 ?ac3 ?ac4 ?ac5 ?ac6 ?ac7 ?ac8 ?gsp ?gtk ?lTooGreat ?v0TooGreat ?v1TooGreat ?v2TooGreat ?v3TooGreat ?i1TooGreat ?i2TooGreat ?i3TooGreat ?g1TooGreat ?g2TooGreat ?g3TooGreat ?g4TooGreat ?g5TooGreat ?lfTooGreat ?cfTooGreat ?exTooGreat ?kvTooGreat ?xaTooGreat ?xhTooGreat ?xoTooGreat ?xn0TooGreat ?xn1TooGreat ?kk0TooGreat ?kk1TooGreat ?kk2TooGreat ?kk3TooGreat ?kk4TooGreat ?kk5TooGreat ?kk6TooGreat ?kk7TooGreat ?kk8TooGreat ?lNoNumber ?v0NoNumber ?v1NoNumber ?v2NoNumber ?v3NoNumber ?i1NoNumber ?i2NoNumber ?i3NoNumber ?g1NoNumber ?g2NoNumber ?g3NoNumber ?g4NoNumber ?g5NoNumber ?lfNoNumber ?cfNoNumber ?exNoNumber ?kvNoNumber ?kk0NoNumber ?kk1NoNumber ?kk2NoNumber ?kk3NoNumber ?kk4NoNumber ?kk5NoNumber ?kk6NoNumber ?kk7NoNumber ?kk8NoNumber ?gnMOST_THINGS ?gnMOST_ROUND ?d0 ?d1 ?d2 ?d3 ?d4 ?d5 ?d6 ?d7 ?d8 ?d9 ?d10 ?d11 ?d13 ?d14 ?d15 ?d16 ?d17 ?d18 ?d19 ?d20 ?d21 ?z0 ?z1 ?z2 ?z3 ?z4 ?z5 ?z6 ?z7
    (case aW => k_is)
    (case mW1 => k_is)
    (case mW2 => k_is)
    (case mW3 => k_is)
    (case mW4 => k_is)
    (case lfW => k_is)
    (case cfW => k_is)
    (case dW => k_is)
    (case ac0 => k_is)
    (case ac1 => k_is)
    (case ac2 => k_is)
    (case ac3 => k_is)
    (case ac4 => k_is)
    (case ac5 => k_is)
    (case ac6 => k_is)
    (case ac7 => k_is)
    (case ac8 => k_is)
    (case gsp => k_is)
    (case gtk => k_is)
    (case lTooGreat => k_is)
    (case v0TooGreat => decide +kernel)
    (case v1TooGreat => decide +kernel)
    (case v2TooGreat => decide +kernel)
    (case v3TooGreat => decide +kernel)
    (case i1TooGreat => k_is)
    (case i2TooGreat => k_is)
    (case i3TooGreat => k_is)
    (case g1TooGreat => k_is)
    (case g2TooGreat => k_is)
    (case g3TooGreat => k_is)
    (case g4TooGreat => k_is)
    (case g5TooGreat => k_is)
    (case lfTooGreat => k_is)
    (case cfTooGreat => k_is)
    (case exTooGreat => kts_exm)
    (case kvTooGreat => kit_is)
    (case xaTooGreat => k_is)
    (case xhTooGreat => k_is)
    (case xoTooGreat => decide +kernel)
    (case xn0TooGreat => k_is)
    (case xn1TooGreat => k_is)
    (case kk0TooGreat => kit_is)
    (case kk1TooGreat => kit_is)
    (case kk2TooGreat => kit_is)
    (case kk3TooGreat => kit_is)
    (case kk4TooGreat => kit_is)
    (case kk5TooGreat => kit_is)
    (case kk6TooGreat => kit_is)
    (case kk7TooGreat => kit_is)
    (case kk8TooGreat => kit_is)
    (case lNoNumber => k_is)
    (case v0NoNumber => decide +kernel)
    (case v1NoNumber => decide +kernel)
    (case v2NoNumber => decide +kernel)
    (case v3NoNumber => decide +kernel)
    (case i1NoNumber => k_is)
    (case i2NoNumber => k_is)
    (case i3NoNumber => k_is)
    (case g1NoNumber => k_is)
    (case g2NoNumber => k_is)
    (case g3NoNumber => k_is)
    (case g4NoNumber => k_is)
    (case g5NoNumber => k_is)
    (case lfNoNumber => k_is)
    (case cfNoNumber => k_is)
    (case exNoNumber => kts_exm)
    (case kvNoNumber => kit_is)
    (case kk0NoNumber => kit_is)
    (case kk1NoNumber => kit_is)
    (case kk2NoNumber => kit_is)
    (case kk3NoNumber => kit_is)
    (case kk4NoNumber => kit_is)
    (case kk5NoNumber => kit_is)
    (case kk6NoNumber => kit_is)
    (case kk7NoNumber => kit_is)
    (case kk8NoNumber => kit_is)
    (case gnMOST_THINGS => k_is)
    (case gnMOST_ROUND => k_is)
    (case d0 => refine' Hk.DF.of ?a ?l ?c ?k; (case a => k_is); (case l => k_is); (case c => k_is); (case k => k_is))
    (case d1 => refine' Hk.DF.of ?a ?l ?c ?k; (case a => k_is); (case l => k_is); (case c => k_is); (case k => k_is))
    (case d2 => refine' Hk.DF.of ?a ?l ?c ?k; (case a => k_is); (case l => k_is); (case c => k_is); (case k => k_is))
    (case d3 => refine' Hk.DF.of ?a ?l ?c ?k; (case a => k_is); (case l => k_is); (case c => k_is); (case k => k_is))
    (case d4 => refine' Hk.DF.of ?a ?l ?c ?k; (case a => k_is); (case l => k_is); (case c => k_is); (case k => k_is))
    (case d5 => refine' Hk.DF.of ?a ?l ?c ?k; (case a => k_is); (case l => k_is); (case c => k_is); (case k => k_is))
    (case d6 => refine' Hk.DF.of ?a ?l ?c ?k; (case a => k_is); (case l => k_is); (case c => k_is); (case k => k_is))
    (case d7 => refine' Hk.DF.of ?a ?l ?c ?k; (case a => k_is); (case l => k_is); (case c => k_is); (case k => k_is))
    (case d8 => refine' Hk.DF.of ?a ?l ?c ?k; (case a => k_is); (case l => k_is); (case c => k_is); (case k => k_is))
    (case d9 => refine' Hk.DF.of ?a ?l ?c ?k; (case a => k_is); (case l => k_is); (case c => k_is); (case k => k_is))
    (case d10 => refine' Hk.DF.of ?a ?l ?c ?k; (case a => k_is); (case l => k_is); (case c => k_is); (case k => k_is))
    (case d11 => refine' Hk.DF.of ?a ?l ?c ?k; (case a => k_is); (case l => k_is); (case c => k_is); (case k => k_is))
    (case d13 => refine' Hk.DF.of ?a ?l ?c ?k; (case a => k_is); (case l => k_is); (case c => k_is); (case k => k_is))
    (case d14 => refine' Hk.DF.of ?a ?l ?c ?k; (case a => k_is); (case l => k_is); (case c => k_is); (case k => k_is))
    (case d15 => refine' Hk.DF.of ?a ?l ?c ?k; (case a => k_is); (case l => k_is); (case c => k_is); (case k => k_is))
    (case d16 => refine' Hk.DF.of ?a ?l ?c ?k; (case a => k_is); (case l => k_is); (case c => k_is); (case k => k_is))
    (case d17 => refine' Hk.DF.of ?a ?l ?c ?k; (case a => k_is); (case l => k_is); (case c => k_is); (case k => k_is))
    (case d18 => refine' Hk.DF.of ?a ?l ?c ?k; (case a => k_is); (case l => k_is); (case c => k_is); (case k => k_is))
    (case d19 => refine' Hk.DF.of ?a ?l ?c ?k; (case a => k_is); (case l => k_is); (case c => k_is); (case k => k_is))
    (case d20 => refine' Hk.DF.of ?a ?l ?c ?k; (case a => k_is); (case l => k_is); (case c => k_is); (case k => k_is))
    (case d21 => refine' Hk.DF.of ?a ?l ?c ?k; (case a => k_is); (case l => k_is); (case c => k_is); (case k => k_is))
    (case z0 => k_is)
    (case z1 => k_is)
    (case z2 => k_is)
    (case z3 => k_is)
    (case z4 => k_is)
    (case z5 => k_is)
    (case z6 => k_is)
    (case z7 => k_is)


