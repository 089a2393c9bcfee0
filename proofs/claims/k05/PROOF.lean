import PyProof.Rows.All
import Wide.All
import OpenK.AllK
import Wide.FinOn
import Lean
import PyProof.EqAt
import PyProof.EqKinds
import PyProof.TupleCall
import PySem.Challenge.RW_holdsets_k05_rings_and_orders_by_anybody
import PyProof.NeKinds
import KE.KSortTup
import KE.KDictSum
import PyProof.Draws
import PyProof.EnumFor
import PyProof.EnumMake
import PyProof.ListRange
import PyProof.TupleOfStr
import OpenK.KMake
import OpenK.KOwn
import OpenK.KRaise
import OpenK.KMore
import KE.KTryMore
import KE.KTryOn
import PyProof.NsDelKeeps
import PyProof.Rows.SumAny
import KE.BitLaws
import KE.KMinKey
import PyProof.Rows.CallKwBuiltin
import PyProof.WalksMore
import PyProof.Rows.TupIter
import PyProof.RangeFor
import PyProof.Rows.SeqRoads
import PyProof.Rows.SeqRange
import PyProof.Rows.FStr
import PyProof.DictWalks
import PyProof.Rows.Range3
import PyProof.Rows.TupIn
import PyProof.ReprRoads
import PyProof.ReprLen
import PyProof.FitsInt
import PyProof.AttrMissHeap
import PyProof.AttrMiss
import PyProof.DictUpdate
import PyProof.CollectWalk
import KE.KDictOf
import PyProof.Walks
import PyProof.WalksS
import KE.KIntText
import PyProof.StrLawsTight
import PyProof.ToksMono
import PyProof.StrCalls6
import PyProof.StrOps2
set_option Elab.async false
set_option linter.all false
set_option maxRecDepth 100000
set_option maxHeartbeats 4000000
/-! ### no twins of the greatest written values: they are not needed, and the compiled text stays small -/
def PySem.W.Fast.tw16220033776720106696 : Unit := ()
def PySem.W.Fast.tw10441851625635101127 : Unit := ()
def PySem.W.Fast.tw17892164058690662925 : Unit := ()
def PySem.W.Fast.tw17948147808407699751 : Unit := ()
def PySem.W.Fast.tw3139001147348849585 : Unit := ()
def PySem.W.Fast.tw2782201445468326567 : Unit := ()
def PySem.W.Fast.tw14138800905789905303 : Unit := ()
def PySem.W.Fast.tw3402395175338586993 : Unit := ()
def PySem.W.Fast.tw2458861389434888637 : Unit := ()
def PySem.W.Fast.tw14708838972183793173 : Unit := ()
def PySem.W.Fast.tw13160705435563995483 : Unit := ()
def PySem.W.Fast.tw11065743027262011160 : Unit := ()
def PySem.W.Fast.tw6070443424680211887 : Unit := ()
def PySem.W.Fast.tw7471397090703237242 : Unit := ()
def PySem.W.Fast.tw10139044433677377663 : Unit := ()
def PySem.W.Fast.tw15142119132544150776 : Unit := ()
def PySem.W.Fast.tw16128160198305430013 : Unit := ()
def PySem.W.Fast.tw4462634122620750601 : Unit := ()
def PySem.W.Fast.tw14103471433849090310 : Unit := ()
def PySem.W.Fast.tw1607197179298402540 : Unit := ()
def PySem.W.Fast.tw6060746170064348267 : Unit := ()
def PySem.W.Fast.tw12064740008158006007 : Unit := ()
def PySem.W.Fast.tw12396733585972806397 : Unit := ()
def PySem.W.Fast.tw2724973377199691190 : Unit := ()
def PySem.W.Fast.tw17952087243983951558 : Unit := ()
def PySem.W.Fast.tw10760173193710960068 : Unit := ()
def PySem.W.Fast.tw12866145799823207625 : Unit := ()
def PySem.W.Fast.tw2920667124760700718 : Unit := ()
def PySem.W.Fast.tw10007802542711660092 : Unit := ()
def PySem.W.Fast.tw3054947841216629307 : Unit := ()
def PySem.W.Fast.tw17465530857137152165 : Unit := ()
def PySem.W.Fast.tw3685693973404614399 : Unit := ()
def PySem.W.Fast.tw6371541625557913764 : Unit := ()
def PySem.W.Fast.tw13538885847575898731 : Unit := ()
def PySem.W.Fast.tw15992531952725605291 : Unit := ()
def PySem.W.Fast.tw2198759559923378641 : Unit := ()
def PySem.W.Fast.tw18185681978413755340 : Unit := ()
def PySem.W.Fast.tw11388936774918832133 : Unit := ()
def PySem.W.Fast.tw17185105053086248389 : Unit := ()
def PySem.W.Fast.tw9504528128633745372 : Unit := ()
def PySem.W.Fast.tw12198590452317200107 : Unit := ()
def PySem.W.Fast.tw11665986812575386300 : Unit := ()
def PySem.W.Fast.tw5890937262877364320 : Unit := ()
def PySem.W.Fast.tw17838341414716686067 : Unit := ()
def PySem.W.Fast.tw7257112255273049020 : Unit := ()
def PySem.W.Fast.tw10207130408984964286 : Unit := ()
def PySem.W.Fast.tw14269131193124048362 : Unit := ()
def PySem.W.Fast.tw3950038250034284000 : Unit := ()
def PySem.W.Fast.tw8403538295253225843 : Unit := ()
def PySem.W.Fast.tw1385906995754567639 : Unit := ()
def PySem.W.Fast.tw18423422288077059892 : Unit := ()
def PySem.W.Fast.tw16974907567045919093 : Unit := ()
def PySem.W.Fast.tw4983962457683829007 : Unit := ()
def PySem.W.Fast.tw16479368935338755000 : Unit := ()
def PySem.W.Fast.tw12339531024001025926 : Unit := ()
def PySem.W.Fast.tw10154586152848722557 : Unit := ()
def PySem.W.Fast.tw11919793863072501250 : Unit := ()
def PySem.W.Fast.tw7934533924269315356 : Unit := ()
def PySem.W.Fast.tw11900046638563793750 : Unit := ()
def PySem.W.Fast.tw16060209751881045862 : Unit := ()
def PySem.W.Fast.tw7002795278062916916 : Unit := ()
def PySem.W.Fast.tw13055994520133406821 : Unit := ()
def PySem.W.Fast.tw4674281329645869057 : Unit := ()
def PySem.W.Fast.tw6606068603267144344 : Unit := ()
def PySem.W.Fast.tw9706919745763306270 : Unit := ()
def PySem.W.Fast.tw15946362416330969160 : Unit := ()
def PySem.W.Fast.tw3971712226008425354 : Unit := ()
def PySem.W.Fast.tw5529320517223935695 : Unit := ()
def PySem.W.Fast.tw12448727385953701712 : Unit := ()
def PySem.W.Fast.tw5551710572658890544 : Unit := ()
def PySem.W.Fast.tw14988967248010280192 : Unit := ()
def PySem.W.Fast.tw11919817358403058682 : Unit := ()
def PySem.W.Fast.tw16807984474922296591 : Unit := ()
def PySem.W.Fast.tw8843940573736192643 : Unit := ()
def PySem.W.Fast.tw1697460958750253232 : Unit := ()
def PySem.W.Fast.tw17840332192121063963 : Unit := ()
def PySem.W.Fast.tw4492704168478387771 : Unit := ()
def PySem.W.Fast.tw13502048733524829506 : Unit := ()
def PySem.W.Fast.tw6631538975473643913 : Unit := ()
def PySem.W.Fast.tw11023270426939969224 : Unit := ()

namespace L2
open PySem PySem.Spec PyProof.Rows

abbrev Key := Sum Int Str
def keyIs : Key → Value → Bool
  | .inl k, v => Value.isInt k v
  | .inr x, v => Value.isStrOf x v
def keyH (w : World) : Key → Int
  | .inl k => hashInt k
  | .inr x => hashStr w x
theorem keyIs_shape : ∀ {k : Key} {v : Value}, keyIs k v = true → (∃ i t, k = Sum.inl i ∧ v = Value.int i t) ∨ (∃ x t, k = Sum.inr x ∧ v = Value.str x t)
  | .inl i, v, h => by
    obtain ⟨t, e⟩ := Value.isInt_shape (k := i) (v := v) h
    exact .inl ⟨i, t, rfl, e⟩
  | .inr x, v, h => by
    obtain ⟨t, e⟩ := Value.isStrOf_shape (x := x) (v := v) h
    exact .inr ⟨x, t, rfl, e⟩
theorem keyIs_int (i : Int) (t : Tok) : keyIs (.inl i) (.int i t) = true := by simp [keyIs, Value.isInt]
theorem keyIs_str (x : Str) (t : Tok) : keyIs (.inr x) (.str x t) = true := by simp [keyIs, Value.isStrOf]
theorem key_ll (a b : Int) : decide ((Sum.inl a : Key) = Sum.inl b) = (a == b) := by
  by_cases e : a = b
  · subst e; simp
  · have h : ¬ (Sum.inl a : Key) = Sum.inl b := fun q => e (Sum.inl.inj q)
    rw [decide_eq_false h]
    exact (beq_eq_false_iff_ne.mpr e).symm
theorem key_rr (a b : Str) : decide ((Sum.inr a : Key) = Sum.inr b) = decide (a = b) := by
  by_cases e : a = b
  · subst e; simp
  · have h : ¬ (Sum.inr a : Key) = Sum.inr b := fun q => e (Sum.inr.inj q)
    rw [decide_eq_false h, decide_eq_false e]
theorem key_lr (a : Int) (b : Str) : decide ((Sum.inl a : Key) = Sum.inr b) = false := decide_eq_false (fun q => nomatch q)
theorem key_rl (a : Str) (b : Int) : decide ((Sum.inr a : Key) = Sum.inl b) = false := decide_eq_false (fun q => nomatch q)

def mixKind (prog : Program) (w : World) : PySem.KeyKind prog w Key where
  is := keyIs
  hash := keyH w
  inj := fun v a b ha hb => by
    rcases keyIs_shape ha with ⟨i, t, rfl, rfl⟩ | ⟨x, t, rfl, rfl⟩
    · rcases keyIs_shape hb with ⟨j, u, rfl, e⟩ | ⟨y, u, rfl, e⟩
      · injection e with e1 _; rw [e1]
      · exact nomatch e
    · rcases keyIs_shape hb with ⟨j, u, rfl, e⟩ | ⟨y, u, rfl, e⟩
      · exact nomatch e
      · injection e with e1 _; rw [e1]
  byValue := fun k v h => by
    rcases keyIs_shape h with ⟨i, t, rfl, rfl⟩ | ⟨x, t, rfl, rfl⟩ <;> rfl
  pyHash := fun hv h => by
    rcases keyIs_shape hv with ⟨i, t, rfl, rfl⟩ | ⟨x, t, rfl, rfl⟩
    · exact wpAny_pyHash_int h
    · exact wpAny_pyHash_str h
  eqBool := fun hu hv h => by
    rcases keyIs_shape hu with ⟨i, t, rfl, rfl⟩ | ⟨x, t, rfl, rfl⟩
    · rcases keyIs_shape hv with ⟨j, u, rfl, rfl⟩ | ⟨y, u, rfl, rfl⟩
      · rw [key_ll] at h; exact wpAny_eqBool_int h
      · rw [key_lr] at h; exact SeqAt.EqAt.int_str i t y u _ _ _ _ h
    · rcases keyIs_shape hv with ⟨j, u, rfl, rfl⟩ | ⟨y, u, rfl, rfl⟩
      · rw [key_rl] at h; exact SeqAt.EqAt.str_int x t j u _ _ _ _ h
      · rw [key_rr] at h; exact wpAny_eqBool_str h
  «strs» := fun k x t v h => by
    rcases keyIs_shape h with ⟨i, u, rfl, e⟩ | ⟨y, u, rfl, e⟩
    · exact nomatch e
    · injection e with e1 _
      subst e1
      cases v <;> rfl

theorem mixKind_int (prog : Program) (w : World) (i : Int) (t : Tok) : (mixKind prog w).is (.inl i) (.int i t) = true := keyIs_int i t
theorem mixKind_str (prog : Program) (w : World) (x : Str) (t : Tok) : (mixKind prog w).is (.inr x) (.str x t) = true := keyIs_str x t
end L2

namespace L2
open PySem PySem.Spec PyProof.Rows

inductive V where
  | non | bl (b : Bool) | int (i : Int) | str (x : Str) | byt (b : Array UInt8) | flt (b : UInt64) | ref (a : Addr) | ty (n : String)
  deriving DecidableEq

def RelV : V → Value → Prop
  | .non, u => u = Value.none
  | .bl b, u => u = Value.bool b
  | .int i, u => ∃ t, u = Value.int i t
  | .str x, u => ∃ t, u = Value.str x t
  | .byt b, u => ∃ t, u = Value.bytes b t
  | .flt b, u => ∃ t, u = Value.float b t
  | .ref a, u => u = Value.ref a
  | .ty n, u => u = Value.type n

abbrev Vals : List V → List Value → Prop := Paired RelV
theorem Vals.length {xs : List V} {us : List Value} (r : Vals xs us) : xs.length = us.length := Paired.length r
theorem Vals.get : ∀ {xs : List V} {us : List Value} {i : Nat} {x : V}, Vals xs us → xs[i]? = some x → ∃ u, us[i]? = some u ∧ RelV x u
  | _, _, _, _, .nil, e => by simp at e
  | _, _, 0, _, .cons r _, e => by simp at e; subst e; exact ⟨_, rfl, r⟩
  | _, _, i + 1, x, .cons _ t, e => by
    obtain ⟨u, h1, h2⟩ := Vals.get (i := i) (x := x) t (by simpa using e)
    exact ⟨u, by simpa using h1, h2⟩
theorem Vals.set {x : V} {u : Value} (r : RelV x u) : ∀ {xs : List V} {us : List Value} (i : Nat), Vals xs us → Vals (xs.set i x) (us.set i u)
  | _, _, _, .nil => .nil
  | _, _, 0, .cons _ t => .cons r t
  | _, _, i + 1, .cons q t => .cons q (Vals.set r i t)
theorem Vals.append : ∀ {xs ys : List V} {us ws : List Value}, Vals xs us → Vals ys ws → Vals (xs ++ ys) (us ++ ws)
  | _, _, _, _, .nil, s => s
  | _, _, _, _, .cons r t, s => .cons r (Vals.append t s)
theorem Vals.take : ∀ {xs : List V} {us : List Value} (n : Nat), Vals xs us → Vals (xs.take n) (us.take n)
  | _, _, 0, _ => .nil
  | _, _, _ + 1, .nil => .nil
  | _, _, n + 1, .cons r t => .cons r (Vals.take n t)
theorem Vals.drop : ∀ {xs : List V} {us : List Value} (n : Nat), Vals xs us → Vals (xs.drop n) (us.drop n)
  | _, _, 0, r => r
  | _, _, _ + 1, .nil => .nil
  | _, _, n + 1, .cons _ t => Vals.drop n t
def RelO : Option V → Option Value → Prop
  | some v, some u => RelV v u
  | none, none => True
  | _, _ => False
def KV {κ : Type} : List (κ × V) → List (κ × Value) → Prop := Paired fun (p : κ × V) (q : κ × Value) => p.1 = q.1 ∧ RelV p.2 q.2

def kV : Key → V
  | .inl i => .int i
  | .inr x => .str x

inductive HO where
  /-- a list -/
  | lst (xs : List V)
  /-- a tuple (never changes) -/
  | tup (xs : List V)
  /-- a dict whose keys are ints and texts; one whose keys are tuples of ints and texts (the empty one is both) -/
  | dK (kvs : List (Key × V)) | dT (kvs : List (List Key × V))
  /-- a set of ints: its members, its size -/
  | set (S : Int → Bool) (n : Nat)
  /-- an instance of the class at C, its dict at dx, its attributes -/
  | ins (C dx : Addr) (fs : List (Str × V))
  /-- the dict of the instance at x -/
  | own (x : Addr)
  /-- the dict of an exception -/
  | xd (fs : List (Str × V))
  /-- a bound method, f of x -/
  | met (f x : Addr)
  /-- a range object lo, lo + 1, .. below hi -/
  | rng (lo hi : Int)
  /-- a thing that is known to the object (the script; a dict while a loop walks it): read, never written while it is so -/
  | frz (o : Obj) (u : HO)
  /-- a code object's table -/
  | tbl (ps : Array Value)
  /-- any other thing, by what is true of its one object (a def of one's own: SetO a S n := HO.ext fun h => ..) -/
  | ext (φ : Heap → Prop)

abbrev Hp := Addr → Option HO
def upd (H : Hp) (a : Addr) (o : HO) : Hp := fun b => if b = a then some o else H b
theorem upd_same {H : Hp} {a : Addr} {o : HO} : upd H a o a = some o := by unfold upd; rw [if_pos rfl]
theorem upd_ne {H : Hp} {a b : Addr} {o : HO} (h : b ≠ a) : upd H a o b = H b := by unfold upd; rw [if_neg h]
theorem ne_of {H : Hp} {a b : Addr} {o u : HO} (h : H a = some o) (h' : H b = some u) (d : o ≠ u) : a ≠ b := by
  intro e; subst e; rw [h] at h'; exact d (Option.some.inj h')
theorem ne_of_none {H : Hp} {a b : Addr} {o : HO} (h : H a = some o) (h' : H b = none) : a ≠ b := by
  intro e; subst e; rw [h] at h'; cases h'

def TupD (h : Heap) (a : Addr) (xs : Array Value) : Prop := ∃ o, h.get? a = some o ∧ o.cls = .type "tuple" ∧ ∃ n, o.data = .seq xs n ∧ o.dict = none
theorem TupD.tup {h : Heap} {a : Addr} {xs : Array Value} (x : TupD h a xs) : IsTup h a xs := let ⟨o, h1, h2, n, h3, _⟩ := x; ⟨o, h1, h2, n, h3⟩
theorem TupD.lt {h : Heap} {a : Addr} {xs : Array Value} (x : TupD h a xs) : a < h.objs.size := x.tup.lt
theorem TupD.new (h : Heap) (xs : Array Value) : TupD (h.push { cls := .type "tuple", data := .seq xs }) h.objs.size xs := ⟨_, Heap.get?_push_size _ rfl, rfl, _, rfl, rfl⟩
section
variable (P : Program) (w : World)
def ObjOk (H : Hp) (h : Heap) (a : Addr) : HO → Prop
  | .lst xs => xs.length ≤ sizeLine ∧ ∃ (its : List Value) (n : Nat), Vals xs its ∧ h.get? a = some { cls := .type "list", data := .seq its.toArray n }
  | .tup xs => xs.length ≤ sizeLine ∧ ∃ its : List Value, Vals xs its ∧ TupD h a its.toArray
  | .dK kvs => kvs.length ≤ sizeLine ∧ (a == sysModules) = false ∧ ∃ vs, KV kvs vs ∧ h.DictOf (mixKind P w) a vs
  | .dT kvs => kvs.length ≤ sizeLine ∧ (a == sysModules) = false ∧ ∃ xs : List (List Key × Addr × Value),
      Paired (fun (p : List Key × V) (q : List Key × Addr × Value) => p.1 = q.1 ∧ H q.2.1 = some (.tup (p.1.map kV)) ∧ RelV p.2 q.2.2) kvs xs ∧
      ∃ o es ep, h.get? a = some o ∧ o.ExactDict ∧ o.data = .dict es ep ∧ es.toList = xs.map (entryOfKey (tupleKind (mixKind P w))) ∧ (xs.map (·.1)).Nodup
  | .set S n => h.SetOf (intKind P w) a S n
  | .ins C dx fs => H dx = some (.own a) ∧ fs.length ≤ 1000 ∧ dx ≠ a ∧ h.get? a = some (PySem.W.instObj C dx) ∧
      ∃ mA, h.Ns1 dx mA ∧ (∀ f, RelO (fs.lookup f) (mA f)) ∧ PySem.Within mA (fs.map (·.1))
  | .own _ => ∃ o, h.get? a = some o
  | .xd fs => ∃ mA, h.Ns1 a mA ∧ ∀ f, RelO (fs.lookup f) (mA f)
  | .rng lo hi => ∃ t u v, h.get? a = some { cls := .type "range", data := .fields #[.int lo t, .int hi u, .int 1 v] }
  | .frz o u => h.get? a = some o ∧ ObjOk H h a u
  | .tbl ps => h.get? a = some { cls := .none, data := .fields ps }
  | .met f x => h.get? a = some (PySem.W.methodObj (.ref f) (.ref x))
  | .ext φ => φ h ∧ (∃ o, h.get? a = some o) ∧ ∀ h1 h2 : Heap, φ h1 → (∀ o, h1.get? a = some o → h2.get? a = some o) → φ h2
def HOk (H : Hp) (h : Heap) : Prop := ∀ a o, H a = some o → ObjOk P w H h a o
end

section
variable {P : Program} {w : World} {H H' : Hp} {h h' : Heap} {a : Addr} {o : HO}
theorem ObjOk.lt (x : ObjOk P w H h a o) : a < h.objs.size := by
  cases o with
  | lst xs => obtain ⟨_, _, _, _, e⟩ := x; exact Heap.lt_size e
  | tup xs => obtain ⟨_, _, _, p⟩ := x; exact p.lt
  | dK kvs => obtain ⟨_, _, _, _, o, _, _, e, _⟩ := x; exact Heap.lt_size e
  | dT kvs => obtain ⟨_, _, _, _, o, _, _, e, _⟩ := x; exact Heap.lt_size e
  | set S n => obtain ⟨o, _, _, _, e, _⟩ := x; exact Heap.lt_size e
  | ins C dx fs => obtain ⟨_, _, _, e, _⟩ := x; exact Heap.lt_size e
  | own y => obtain ⟨_, e⟩ := x; exact Heap.lt_size e
  | xd fs => obtain ⟨_, ⟨_, _, _, e, _⟩, _⟩ := x; exact Heap.lt_size e
  | rng lo hi => obtain ⟨_, _, _, e⟩ := x; exact Heap.lt_size e
  | frz ob u => obtain ⟨e, _⟩ := x; exact Heap.lt_size e
  | tbl ps => exact Heap.lt_size (show h.get? a = some _ from x)
  | met f y => exact Heap.lt_size (show h.get? a = some _ from x)
  | ext φ => obtain ⟨_, ⟨_, e⟩, _⟩ := x; exact Heap.lt_size e
theorem Paired.mapP {α β : Type} {F G : α → β → Prop} : ∀ {l₁ : List α} {l₂ : List β}, Paired F l₁ l₂ → (∀ a b, F a b → G a b) → Paired G l₁ l₂
  | _, _, .nil, _ => .nil
  | _, _, .cons r t, f => .cons (f _ _ r) (Paired.mapP t f)
theorem ObjOk.stay (x : ObjOk P w H h a o) (k : ∀ b u, (b = a ∨ H b = some (.own a)) → h.get? b = some u → h'.get? b = some u)
    (ho : ∀ b, H b = some (.own a) → H' b = some (.own a)) (ht : ∀ b xs, H b = some (.tup xs) → H' b = some (.tup xs)) : ObjOk P w H' h' a o := by
  induction o with
  | lst xs => obtain ⟨z, its, n, r, e⟩ := x; exact ⟨z, its, n, r, k _ _ (.inl rfl) e⟩
  | tup xs => obtain ⟨z, its, r, ob, e, c⟩ := x; exact ⟨z, its, r, ob, k _ _ (.inl rfl) e, c⟩
  | dK kvs => obtain ⟨z, y, vs, r, ob, es, ep, e, c⟩ := x; exact ⟨z, y, vs, r, ob, es, ep, k _ _ (.inl rfl) e, c⟩
  | dT kvs =>
    obtain ⟨z, y, xs, r, ob, es, ep, e, c⟩ := x
    exact ⟨z, y, xs, Paired.mapP r fun p q z => ⟨z.1, ht _ _ z.2.1, z.2.2⟩, ob, es, ep, k _ _ (.inl rfl) e, c⟩
  | set S n => obtain ⟨ob, es, ep, t, e, c⟩ := x; exact ⟨ob, es, ep, t, k _ _ (.inl rfl) e, c⟩
  | ins C dx fs =>
    obtain ⟨d, z, ne, e, mA, ⟨od, es, ep, e2, c⟩, r⟩ := x
    exact ⟨ho _ d, z, ne, k _ _ (.inl rfl) e, mA, ⟨od, es, ep, k _ _ (.inr d) e2, c⟩, r⟩
  | own y => obtain ⟨ob, e⟩ := x; exact ⟨ob, k _ _ (.inl rfl) e⟩
  | xd fs => obtain ⟨mA, ⟨od, es, ep, e, c⟩, r⟩ := x; exact ⟨mA, ⟨od, es, ep, k _ _ (.inl rfl) e, c⟩, r⟩
  | rng lo hi => obtain ⟨t, u, v, e⟩ := x; exact ⟨t, u, v, k _ _ (.inl rfl) e⟩
  | frz ob u ih => obtain ⟨e, q⟩ := x; exact ⟨k _ _ (.inl rfl) e, ih q⟩
  | tbl ps =>
    have e : h.get? a = some { cls := .none, data := .fields ps } := x
    show h'.get? a = some { cls := .none, data := .fields ps }
    exact k a _ (.inl rfl) e
  | met f y =>
    have e : h.get? a = some (PySem.W.methodObj (.ref f) (.ref y)) := x
    show h'.get? a = some (PySem.W.methodObj (.ref f) (.ref y))
    exact k a _ (.inl rfl) e
  | ext φ => obtain ⟨p, ⟨o, e⟩, st⟩ := x; exact ⟨st _ _ p fun o q => k _ _ (.inl rfl) q, ⟨o, k _ _ (.inl rfl) e⟩, st⟩
theorem HOk.lt (x : HOk P w H h) (e : H a = some o) : a < h.objs.size := (x a o e).lt
theorem HOk.fresh (x : HOk P w H h) (e : h.objs.size ≤ a) : H a = none := by
  cases q : H a with
  | none => rfl
  | some u => exact absurd (Nat.lt_of_lt_of_le (x.lt q) e) (Nat.lt_irrefl _)
theorem HOk.kept (x : HOk P w H h) (k : ∀ b u, h.get? b = some u → h'.get? b = some u) : HOk P w H h' := fun a o e =>
  (x a o e).stay (fun b u _ q => k b u q) (fun _ q => q) fun _ _ q => q
theorem HOk.laid (x : HOk P w H h) (k : ∀ b u, h.get? b = some u → h'.get? b = some u) (hp : h.objs.size ≤ a) (new : ObjOk P w (upd H a o) h' a o) : HOk P w (upd H a o) h' := fun b u e => by
  have hn := x.fresh hp
  by_cases hb : b = a
  · subst hb; rw [upd_same] at e; cases e; exact new
  · rw [upd_ne hb] at e
    exact (x b u e).stay (fun c v _ q => k c v q) (fun c q => by rw [upd_ne (ne_of_none q hn)]; exact q) fun c xs q => by rw [upd_ne (ne_of_none q hn)]; exact q
end

def Rd (H : Hp) (a : Addr) (u : HO) : Prop := H a = some u ∨ ∃ o, H a = some (.frz o u)
theorem Rd.ok {P : Program} {w : World} {H : Hp} {h : Heap} {a : Addr} {u : HO} (r : Rd H a u) (x : HOk P w H h) : ObjOk P w H h a u := by
  rcases r with r | ⟨o, r⟩
  · exact x a u r
  · obtain ⟨_, q⟩ := x a _ r
    exact q
def Mut : Option HO → Prop
  | some (.lst _) => True
  | some (.dK _) => True
  | some (.dT _) => True
  | some (.set _ _) => True
  | some (.ins _ _ _) => True
  | some (.ext _) => True
  | _ => False
section
variable {P : Program} {w : World} {H : Hp} {h h' : Heap} {x e : Addr} {o' : HO}
theorem HOk.write (ok : HOk P w H h) (mu : Mut (H x)) (he : e = x ∨ H e = some (.own x)) (k : ∀ b u, b ≠ e → h.get? b = some u → h'.get? b = some u) (heo : ∃ u, h'.get? e = some u)
    (new : ObjOk P w (upd H x o') h' x o') : HOk P w (upd H x o') h' := fun b u q => by
  have nown : ∀ c y, H c = some (.own y) → c ≠ x := fun c y r z => by subst z; rw [r] at mu; exact mu
  have ntup : ∀ c xs, H c = some (.tup xs) → c ≠ x := fun c xs r z => by subst z; rw [r] at mu; exact mu
  by_cases hb : b = x
  · subst hb; rw [upd_same] at q; cases q; exact new
  · rw [upd_ne hb] at q
    by_cases hbe : b = e
    · have q' : H b = some (.own x) := by
        rcases he with z | z
        · exact absurd (hbe.trans z) hb
        · rw [hbe]; exact z
      rw [q] at q'; cases q'
      obtain ⟨v, hv⟩ := heo
      exact ⟨v, by rw [hbe]; exact hv⟩
    · refine (ok b u q).stay (fun c v hc r => k c v ?_ r) (fun c r => by rw [upd_ne (nown c b r)]; exact r) fun c xs r => by rw [upd_ne (ntup c xs r)]; exact r
      rcases hc with rfl | hc
      · exact hbe
      · rintro rfl
        rcases he with z | z
        · exact nown c b hc z
        · rw [hc] at z; cases z; exact hb rfl
end

structure Un (fs ex : List Addr) (H H' : Hp) (h h' : Heap) : Prop where
  keep : ∀ b o, h.get? b = some o → H b = none → b ∉ fs → b ∉ ex → h'.get? b = some o
  slot : ∀ b o, h.get? b = some o → H b = none → b ∈ fs → b ∉ ex → ∃ sl, h'.get? b = some { o with slots := sl }
  free : ∀ b o, h.get? b = some o → H b = none → b ∉ ex → H' b = none
  there : ∀ b o, h.get? b = some o → b ∉ ex → ∃ o', h'.get? b = some o'
  tups : ∀ b xs, H b = some (.tup xs) → H' b = some (.tup xs)
  frzs : ∀ b o u, H b = some (.frz o u) → H' b = some (.frz o u)
  tbls : ∀ b ps, H b = some (.tbl ps) → ∃ more, H' b = some (.tbl (ps ++ more))
section
variable {fs fs' ex ex' : List Addr} {H H1 H2 : Hp} {h h1 h2 h' : Heap} {a x e : Addr} {o : HO}
theorem Un.any (u : Un fs ex H H1 h h1) {b : Addr} {ob : Obj} (q : h.get? b = some ob) (n : H b = none) (hx : b ∉ ex) : ∃ sl, h1.get? b = some { ob with slots := sl } := by
  by_cases hb : b ∈ fs
  · exact u.slot b ob q n hb hx
  · exact ⟨ob.slots, u.keep b ob q n hb hx⟩
theorem Un.kept (k : ∀ b u, h.get? b = some u → h'.get? b = some u) : Un fs ex H H h h' :=
  ⟨fun b ob q _ _ _ => k b ob q, fun b ob q _ _ _ => ⟨ob.slots, k b ob q⟩, fun _ _ _ n _ => n, fun b ob q _ => ⟨ob, k b ob q⟩, fun _ _ q => q, fun _ _ _ q => q, fun _ ps q => ⟨#[], by rw [q]; simp⟩⟩
theorem Un.refl : Un fs ex H H h h := Un.kept fun _ _ q => q
theorem Un.laid (k : ∀ b u, h.get? b = some u → h'.get? b = some u) (hp : h.objs.size ≤ a) (hn : H a = none) : Un fs ex H (upd H a o) h h' where
  keep := fun b u q _ _ _ => k b u q
  slot := fun b u q _ _ _ => ⟨u.slots, k b u q⟩
  free := fun b u q n _ => by rw [upd_ne (Nat.ne_of_lt (Nat.lt_of_lt_of_le (Heap.lt_size q) hp))]; exact n
  there := fun b u q _ => ⟨u, k b u q⟩
  tups := fun b xs q => by rw [upd_ne (ne_of_none q hn)]; exact q
  frzs := fun b u xs q => by rw [upd_ne (ne_of_none q hn)]; exact q
  tbls := fun b ps q => ⟨#[], by rw [upd_ne (ne_of_none q hn), q]; simp⟩
theorem Un.write (mu : Mut (H x)) (he : e = x ∨ H e = some (.own x)) (k : ∀ b u, b ≠ e → h.get? b = some u → h'.get? b = some u) (heo : ∃ u, h'.get? e = some u) : Un fs ex H (upd H x o) h h' := by
  have hx : ∀ b, H b = none → b ≠ x := fun b n z => by subst z; rw [n] at mu; exact mu
  have hb : ∀ b, H b = none → b ≠ e := fun b n z => by
    subst z
    rcases he with r | r
    · exact hx b n r
    · rw [n] at r; cases r
  have hm : ∀ b u, H b = some u → ¬ Mut (some u) → b ≠ x := fun b u q nm z => by subst z; rw [q] at mu; exact nm mu
  refine ⟨fun b u q n _ _ => k b u (hb b n) q, fun b u q n _ _ => ⟨u.slots, k b u (hb b n) q⟩, fun b u q n _ => by rw [upd_ne (hx b n)]; exact n, fun b u q _ => ?_,
    fun b xs q => by rw [upd_ne (hm b _ q fun z => z)]; exact q, fun b u xs q => by rw [upd_ne (hm b _ q fun z => z)]; exact q, fun b ps q => ⟨#[], by rw [upd_ne (hm b _ q fun z => z), q]; simp⟩⟩
  by_cases hbe : b = e
  · subst hbe; exact heo
  · exact ⟨u, k b u hbe q⟩
end

def trk (h : Heap) (H : Hp) : List Addr := (List.range h.objs.size).filter fun a => (H a).isSome
def hidT (h : Heap) (H : Hp) : Heap := PySem.W.hideAll h (trk h H)
theorem hidT_size (h : Heap) (H : Hp) : (hidT h H).objs.size = h.objs.size := PySem.W.hideAll_size _ _
theorem hidT_get {h : Heap} {H : Hp} {b : Addr} {o : Obj} (e : h.get? b = some o) (n : H b = none) : (hidT h H).get? b = some o :=
  PySem.W.hideAll_get _ e fun hm => by
    have q : (H b).isSome = true := (List.mem_filter.mp hm).2
    rw [n] at q; simp at q
theorem of_hidT {h : Heap} {H : Hp} {b : Addr} {o : Obj} (e : (hidT h H).get? b = some o) : h.get? b = some o ∧ H b = none := by
  have e' : h.get? b = some o := PySem.W.of_hideAll (trk h H) e
  refine ⟨e', ?_⟩
  cases q : H b with
  | none => rfl
  | some x =>
    have hm : b ∈ trk h H := List.mem_filter.mpr ⟨List.mem_range.mpr (Heap.lt_size e'), by simp [q]⟩
    have z : (hidT h H).get? b = none := PySem.W.hideAll_none (trk h H) hm
    rw [z] at e; cases e

end L2

namespace L2
open PySem PySem.Spec PyProof.Rows

structure Mod (K : PySem.W.Frag) (mg : Str → Option Value) (base : Heap) : Prop where
  kin : K.In base
  glob : base.Ns mainGlobals mg
  blt : ∃ mb, base.Ns builtinsNs mb ∧ ∀ x : Str, x ≠ "__name__" → mb x = bootBuiltins x
  nolimit : base.NoLimit

structure Cx where
  prog : Program
  w : World
  K : PySem.W.Frag
  mg : Str → Option Value
  base : Heap
  A : Around
  N : List Str
  s₀ : Shared
  H₀ : Hp
  env : Env
  outer : List Env
  stack : List Env
  ex : List Addr
  fn : Str → Bool
  calm : Bool
  pn : List (Addr × Obj)
  xe : Value → Shared → Prop
def frs (l : List Env) : List Addr := l.filterMap (·.frame)
abbrev Cx.fs (X : Cx) : List Addr := frs X.outer

def Vis (sc : Scope) (x : Str) : Prop := sc.names.lookup x = some .local ∨ sc.names.lookup x = some .cell ∨ sc.names.lookup x = some .free
def Loc (sc : Scope) (x : Str) : Prop := sc.names.lookup x = some .local ∨ sc.names.lookup x = some .cell
def Look (env : Env) (h : Heap) (m : Str → Option Value) (x : Str) (u : Value) : Prop :=
  (env.kindOf x = some .local ∧ m x = some u) ∨ ((env.kindOf x = some .cell ∨ env.kindOf x = some .free) ∧ ∃ c, env.cells.lookup x = some c ∧ h.IsCell c (some u))

structure Cx.Ok (X : Cx) : Prop where
  mod : Mod X.K X.mg X.base
  kind : X.env.scope.kind = .function
  glob : X.env.globals = mainGlobals
  blt : X.env.builtins = builtinsNs
  above : X.s₀.heap.objs.size ≤ X.env.locals
  inj : ∀ x y c, X.env.cells.lookup x = some c → X.env.cells.lookup y = some c → x = y
  has : ∀ x, (X.env.kindOf x = some .cell ∨ X.env.kindOf x = some .free) → ∃ c, X.env.cells.lookup x = some c
  cab : ∀ x c, X.fn x = true → X.env.cells.lookup x = some c → X.s₀.heap.objs.size ≤ c
  hd : X.calm = true → X.A.handled = none
  frames : X.A.frames = some X.stack
  stk : X.stack = X.outer ∨ (X.stack = X.env :: X.outer ∧ X.env.frame = some X.env.locals)
  exf : ∀ b ∈ X.ex, b ≠ X.env.locals ∧ ∀ x c, X.env.cells.lookup x = some c → c ≠ b
  bs : ∀ b o, X.base.get? b = some o → X.s₀.heap.get? b = some o ∧ X.H₀ b = none
  bsz : X.base.objs.size ≤ X.s₀.heap.objs.size
  noex : ∀ b o, X.base.get? b = some o → b ∉ X.ex
  exfs : ∀ b ∈ X.ex, b ∉ X.fs
  funs : X.s₀.heap.FunFrames X.base X.outer
  frf : ∀ b ∈ X.fs, X.H₀ b = none

structure Inv (X : Cx) (pins : List (Addr × Obj)) (σ : List (Option V)) (H : Hp) (s : Shared) : Prop where
  ok : X.Ok
  os : s.os = X.s₀.os
  bare : AllBare s.gens
  base : Un X.fs X.ex X.H₀ H X.s₀.heap s.heap
  loc : ∃ m, s.heap.Ns X.env.locals m ∧ ∀ (i : Nat) (x : Str) (v : V), X.N[i]? = some x → σ[i]? = some (some v) → Vis X.env.scope x → ∃ u, RelV v u ∧ Look X.env s.heap m x u
  cell : ∀ x c, X.env.cells.lookup x = some c → ∃ v, s.heap.IsCell c v
  free : H X.env.locals = none
  freeC : ∀ x c, X.env.cells.lookup x = some c → H c = none
  pin : ∀ p ∈ X.pn ++ pins, s.heap.get? p.1 = some p.2 ∧ H p.1 = none ∧ p.1 ≠ X.env.locals ∧ p.1 ∉ X.fs ∧ ∀ v, p.2.data ≠ .cell v
  hok : HOk X.prog X.w H s.heap
  len : σ.length = X.N.length

section
variable {X : Cx} {pins : List (Addr × Obj)} {σ : List (Option V)} {H H' : Hp} {s : Shared} {h' : Heap}

theorem Cx.Ok.nofr (ok : X.Ok) {b : Addr} {o : Obj} (e : X.base.get? b = some o) : b ∉ X.fs := fun hb => by
  have := (ok.funs.mem hb).1
  rw [e] at this; cases this
theorem Inv.bs (I : Inv X pins σ H s) : ∀ b o, X.base.get? b = some o → s.heap.get? b = some o ∧ H b = none := fun b o e =>
  ⟨I.base.keep b o (I.ok.bs b o e).1 (I.ok.bs b o e).2 (I.ok.nofr e) (I.ok.noex b o e), I.base.free b o (I.ok.bs b o e).1 (I.ok.bs b o e).2 (I.ok.noex b o e)⟩
theorem Inv.bk (I : Inv X pins σ H s) : ∀ b o, X.base.get? b = some o → s.heap.get? b = some o := fun b o e => (I.bs b o e).1
theorem Inv.mod (I : Inv X pins σ H s) : Mod X.K X.mg X.base := I.ok.mod
theorem Inv.kIn (I : Inv X pins σ H s) : X.K.In s.heap := I.ok.mod.kin.keeps I.bk
theorem Inv.lt (I : Inv X pins σ H s) : X.env.locals < s.heap.objs.size := let ⟨_, hn, _⟩ := I.loc; hn.lt
theorem Inv.sz (I : Inv X pins σ H s) : X.s₀.heap.objs.size ≤ s.heap.objs.size := Nat.le_trans I.ok.above (Nat.le_of_lt I.lt)
theorem Inv.nofs (I : Inv X pins σ H s) {a : Addr} (h : s.heap.objs.size ≤ a) : a ∉ X.fs := fun hb => by
  obtain ⟨_, o, ho, _⟩ := I.ok.funs.mem hb
  exact absurd (Nat.lt_of_lt_of_le (Heap.lt_size ho) (Nat.le_trans I.sz h)) (Nat.lt_irrefl _)
theorem Inv.cne (I : Inv X pins σ H s) : ∀ x c, X.env.cells.lookup x = some c → c ≠ X.env.locals := fun x c e z => by
  obtain ⟨v, o, ho, hd⟩ := I.cell x c e
  obtain ⟨m, ⟨o', es, ep, ho', hd', _⟩, _⟩ := I.loc
  rw [z, ho'] at ho; cases ho; rw [hd'] at hd; cases hd
theorem Inv.funs (I : Inv X pins σ H s) : s.heap.FunFrames X.base X.outer := by
  have all : ∀ (l : List Env), (∀ b ∈ frs l, b ∈ X.fs) → X.s₀.heap.FunFrames X.base l → s.heap.FunFrames X.base l := by
    intro l
    induction l with
    | nil => intro _ _; trivial
    | cons env r ih =>
      intro hs hl
      obtain ⟨hk, ⟨L, o, hf, hn, ho, hd⟩, hr⟩ := hl
      have hL : L ∈ X.fs := hs L (by unfold frs; rw [List.filterMap_cons, hf]; exact List.mem_cons_self)
      obtain ⟨sl, e⟩ := I.base.slot L o ho (I.ok.frf L hL) hL fun z => I.ok.exfs L z hL
      exact ⟨hk, ⟨L, _, hf, hn, e, hd⟩, ih (fun b hb => hs b (by unfold frs; rw [List.filterMap_cons, hf]; exact List.mem_cons_of_mem _ hb)) hr⟩
  exact all X.outer (fun _ hb => hb) I.ok.funs

theorem Inv.stack (I : Inv X pins σ H s) : s.heap.FunFrames X.base X.stack := by
  rcases I.ok.stk with e | ⟨e, hf⟩
  · rw [e]; exact I.funs
  · rw [e]
    obtain ⟨m, hn, _⟩ := I.loc
    refine .cons (by rw [I.ok.kind]; decide) hf hn ?_ I.funs
    exact Heap.get?_none_of_le (Nat.le_trans I.ok.bsz I.ok.above)
theorem Inv.stkSub (I : Inv X pins σ H s) : ∀ b ∈ frs X.stack, b ∈ X.env.locals :: X.fs := fun b hb => by
  rcases I.ok.stk with e | ⟨e, hf⟩
  · rw [e] at hb; exact List.mem_cons_of_mem _ hb
  · rw [e] at hb
    unfold frs at hb
    rw [List.filterMap_cons, hf] at hb
    exact hb
theorem Inv.stkFree (I : Inv X pins σ H s) : ∀ b ∈ frs X.stack, H b = none := fun b hb => by
  rcases List.mem_cons.mp (I.stkSub b hb) with e | hb
  · rw [e]; exact I.free
  · obtain ⟨_, o, ho, _⟩ := I.ok.funs.mem hb
    exact I.base.free b o ho (I.ok.frf b hb) fun z => I.ok.exfs b z hb

theorem Inv.step {g' : Array GenState} {t' : Nat} {d' : Drawn} {ch : List Addr} (I : Inv X pins σ H s)
    (hch : ∀ b ∈ ch, (b ∈ X.ex ∨ X.s₀.heap.objs.size ≤ b) ∧ b ≠ X.env.locals ∧ (∀ x c, X.env.cells.lookup x = some c → c ≠ b) ∧ ∀ p ∈ X.pn ++ pins, p.1 ≠ b)
    (keep : ∀ b o, b ≠ X.env.locals → b ∉ X.fs → b ∉ ch → s.heap.get? b = some o → H b = none → h'.get? b = some o)
    (slot : ∀ b o, b ≠ X.env.locals → b ∈ X.fs → b ∉ ch → s.heap.get? b = some o → H b = none → ∃ sl, h'.get? b = some { o with slots := sl }) (free : ∀ b o, b ∉ ch → s.heap.get? b = some o → H b = none → H' b = none)
    (there : ∀ b o, b ∉ ch → s.heap.get? b = some o → ∃ o', h'.get? b = some o')
    (tups : ∀ b xs, H b = some (.tup xs) → H' b = some (.tup xs)) (frzs : ∀ b o u, H b = some (.frz o u) → H' b = some (.frz o u)) (tbls : ∀ b ps, H b = some (.tbl ps) → ∃ more, H' b = some (.tbl (ps ++ more)))
    (ns : ∀ m, s.heap.Ns X.env.locals m → h'.Ns X.env.locals m) (hok : HOk X.prog X.w H' h') (hg : AllBare g') :
    Inv X pins σ H' { s with heap := h', gens := g', drawn := d', toks := t' } := by
  have neL : ∀ b o, X.s₀.heap.get? b = some o → b ≠ X.env.locals := fun b o e => Nat.ne_of_lt (Nat.lt_of_lt_of_le (Heap.lt_size e) I.ok.above)
  have neC : ∀ b o, X.s₀.heap.get? b = some o → b ∉ X.ex → b ∉ ch := fun b o e hx hb => by
    rcases (hch b hb).1 with z | z
    · exact hx z
    · exact absurd (Nat.lt_of_lt_of_le (Heap.lt_size e) z) (Nat.lt_irrefl _)
  have cellK : ∀ x c, X.env.cells.lookup x = some c → ∀ v, s.heap.IsCell c v → h'.IsCell c v := fun x c e v ⟨o, ho, hd⟩ => by
    have nch : c ∉ ch := fun z => (hch c z).2.2.1 x c e rfl
    by_cases hc : c ∈ X.fs
    · obtain ⟨sl, q⟩ := slot c o (I.cne x c e) hc nch ho (I.freeC x c e)
      exact ⟨_, q, hd⟩
    · exact ⟨o, keep c o (I.cne x c e) hc nch ho (I.freeC x c e), hd⟩
  refine ⟨I.ok, I.os, hg, ⟨fun b o e n hb hx => ?_, fun b o e n hb hx => ?_, fun b o e n hx => ?_, fun b o e hx => ?_, fun b xs e => tups b xs (I.base.tups b xs e), fun b o xs e => frzs b o xs (I.base.frzs b o xs e), fun b ps e => ?_⟩, ?_, fun x c e => ?_, ?_, fun x c e => ?_, fun p hp => ?_, hok, I.len⟩
  · exact keep b o (neL b o e) hb (neC b o e hx) (I.base.keep b o e n hb hx) (I.base.free b o e n hx)
  · obtain ⟨sl, e1⟩ := I.base.slot b o e n hb hx
    obtain ⟨sl', e2⟩ := slot b _ (neL b o e) hb (neC b o e hx) e1 (I.base.free b o e n hx)
    exact ⟨sl', e2⟩
  · obtain ⟨o', e1⟩ := I.base.there b o e hx
    exact free b o' (neC b o e hx) e1 (I.base.free b o e n hx)
  · obtain ⟨o', e1⟩ := I.base.there b o e hx
    exact there b o' (neC b o e hx) e1
  · obtain ⟨m1, e1⟩ := I.base.tbls b ps e
    obtain ⟨m2, e2⟩ := tbls b _ e1
    exact ⟨m1 ++ m2, by rw [e2, Array.append_assoc]⟩
  · obtain ⟨m, hn, hl⟩ := I.loc
    refine ⟨m, ns m hn, fun i x v e1 e2 e3 => ?_⟩
    obtain ⟨u, r, l⟩ := hl i x v e1 e2 e3
    refine ⟨u, r, ?_⟩
    rcases l with l | ⟨k, c, e, z⟩
    · exact .inl l
    · exact .inr ⟨k, c, e, cellK x c e _ z⟩
  · obtain ⟨v, z⟩ := I.cell x c e
    exact ⟨v, cellK x c e v z⟩
  · obtain ⟨m, ⟨o, _, _, ho, _⟩, _⟩ := I.loc
    exact free _ o (fun z => (hch _ z).2.1 rfl) ho I.free
  · obtain ⟨v, o, ho, hd⟩ := I.cell x c e
    exact free c o (fun z => (hch c z).2.2.1 x c e rfl) ho (I.freeC x c e)
  · obtain ⟨e, n, ne, nf, d⟩ := I.pin p hp
    have nch : p.1 ∉ ch := fun z => (hch p.1 z).2.2.2 p hp rfl
    exact ⟨keep p.1 p.2 ne nf nch e n, free p.1 p.2 nch e n, ne, nf, d⟩
theorem Inv.un {t' : Nat} (I : Inv X pins σ H s) (u : Un X.fs [] H H' s.heap h') (hok : HOk X.prog X.w H' h') : Inv X pins σ H' { s with heap := h', toks := t' } := by
  obtain ⟨m, ⟨o, es, ep, ho, r⟩, _⟩ := id I.loc
  obtain ⟨sl, hL⟩ := u.any ho I.free (by simp)
  exact I.step (g' := s.gens) (d' := s.drawn) (ch := []) (fun _ z => nomatch z) (fun b o _ hb _ e n => u.keep b o e n hb (by simp)) (fun b o _ hb _ e n => u.slot b o e n hb (by simp)) (fun b o _ e n => u.free b o e n (by simp)) (fun b o _ e => u.there b o e (by simp)) u.tups u.frzs u.tbls (fun m' hm => by
    obtain ⟨o', es', ep', ho', r'⟩ := hm
    rw [ho] at ho'; cases ho'
    exact ⟨_, es', ep', hL, r'⟩) hok I.bare
theorem Inv.call {g' : Array GenState} {t' : Nat} {d' : Drawn} {ch : List Addr} (I : Inv X pins σ H s) (u : Un (frs X.stack) ch H H' s.heap h') (hok : HOk X.prog X.w H' h') (hg : AllBare g')
    (hch : ∀ b ∈ ch, (b ∈ X.ex ∨ X.s₀.heap.objs.size ≤ b) ∧ b ≠ X.env.locals ∧ (∀ x c, X.env.cells.lookup x = some c → c ≠ b) ∧ ∀ p ∈ X.pn ++ pins, p.1 ≠ b) :
    Inv X pins σ H' { s with heap := h', gens := g', drawn := d', toks := t' } := by
  obtain ⟨m, ⟨o, es, ep, ho, r⟩, _⟩ := id I.loc
  obtain ⟨sl, hL⟩ := u.any ho I.free fun z => (hch _ z).2.1 rfl
  exact I.step (ch := ch) hch (fun b o hL hb hc e n => u.keep b o e n (fun z => (List.mem_cons.mp (I.stkSub b z)).elim hL hb) hc) (fun b o _ _ hc e n => u.any e n hc) (fun b o hc e n => u.free b o e n hc) (fun b o hc e => u.there b o e hc) u.tups u.frzs u.tbls (fun m' hm => by
    obtain ⟨o', es', ep', ho', r'⟩ := hm
    rw [ho] at ho'; cases ho'
    exact ⟨_, es', ep', hL, r'⟩) hok hg
theorem Inv.turned {t' : Nat} {it : Addr} (I : Inv X pins σ H s) (k : ∀ b o, b ≠ it → s.heap.get? b = some o → h'.get? b = some o) (hn : H it = none) (hL : it ≠ X.env.locals)
    (h1 : it ∈ X.ex ∨ X.s₀.heap.objs.size ≤ it) (h2 : ∀ x c, X.env.cells.lookup x = some c → c ≠ it) (h3 : ∀ p ∈ X.pn ++ pins, p.1 ≠ it) : Inv X pins σ H { s with heap := h', toks := t' } := by
  have nit : ∀ b u, H b = some u → b ≠ it := fun b u e z => by rw [z, hn] at e; cases e
  refine I.step (g' := s.gens) (d' := s.drawn) (ch := [it]) (fun b hb => ?_) (fun b o _ _ hc e _ => k b o (fun z => hc (by simp [z])) e) (fun b o _ _ hc e _ => ⟨o.slots, k b o (fun z => hc (by simp [z])) e⟩) (fun _ _ _ _ n => n)
    (fun b o hc e => ⟨o, k b o (fun z => hc (by simp [z])) e⟩) (fun _ _ e => e) (fun _ _ _ e => e) (fun b ps e => ⟨#[], by rw [e]; simp⟩) (fun m hm => ?_) (fun b u e => ?_) I.bare
  · have e : b = it := by simpa using hb
    subst e
    exact ⟨h1, hL, h2, h3⟩
  · obtain ⟨o, es, ep, ho, r⟩ := hm
    exact ⟨o, es, ep, k _ o (Ne.symm hL) ho, r⟩
  · refine (I.hok b u e).stay (fun c v hc q => k c v ?_ q) (fun _ q => q) fun _ _ q => q
    rcases hc with z | z
    · rw [z]; exact nit b u e
    · exact nit c _ z
theorem Inv.tok (I : Inv X pins σ H s) (t : Nat) : Inv X pins σ H { s with toks := t } := I.un (h' := s.heap) (t' := t) Un.refl I.hok
theorem Inv.kept {t' : Nat} (I : Inv X pins σ H s) (k : ∀ b u, s.heap.get? b = some u → h'.get? b = some u) : Inv X pins σ H { s with heap := h', toks := t' } := I.un (Un.kept k) (I.hok.kept k)
theorem Inv.laid {a : Addr} {o : HO} {t' : Nat} (I : Inv X pins σ H s) (k : ∀ b u, s.heap.get? b = some u → h'.get? b = some u) (hp : s.heap.objs.size ≤ a) (new : ObjOk X.prog X.w (upd H a o) h' a o) :
    Inv X pins σ (upd H a o) { s with heap := h', toks := t' } := I.un (Un.laid k hp (I.hok.fresh hp)) (I.hok.laid k hp new)
theorem Inv.write {x e : Addr} {o : HO} {t' : Nat} (I : Inv X pins σ H s) (mu : Mut (H x)) (he : e = x ∨ H e = some (.own x)) (k : ∀ b u, b ≠ e → s.heap.get? b = some u → h'.get? b = some u) (heo : ∃ u, h'.get? e = some u)
    (new : ObjOk X.prog X.w (upd H x o) h' x o) : Inv X pins σ (upd H x o) { s with heap := h', toks := t' } := I.un (Un.write mu he k heo) (I.hok.write mu he k heo new)
theorem Inv.weak {σ' : List (Option V)} (I : Inv X pins σ H s) (hl : σ'.length = σ.length) (w : ∀ (i : Nat) v, σ'[i]? = some (some v) → σ[i]? = some (some v)) : Inv X pins σ' H s :=
  ⟨I.ok, I.os, I.bare, I.base, let ⟨m, hn, hl'⟩ := I.loc; ⟨m, hn, fun i x v e1 e2 e3 => hl' i x v e1 (w i v e2) e3⟩, I.cell, I.free, I.freeC, I.pin, I.hok, hl.trans I.len⟩
theorem Inv.pins_of {pins' : List (Addr × Obj)} (I : Inv X pins σ H s) (h : ∀ p ∈ pins', s.heap.get? p.1 = some p.2 ∧ H p.1 = none ∧ p.1 ≠ X.env.locals ∧ p.1 ∉ X.fs ∧ ∀ v, p.2.data ≠ .cell v) : Inv X pins' σ H s :=
  ⟨I.ok, I.os, I.bare, I.base, I.loc, I.cell, I.free, I.freeC, fun p hp => (List.mem_append.mp hp).elim (fun z => I.pin p (List.mem_append_left _ z)) (h p), I.hok, I.len⟩

theorem nodup_ix {N : List Str} (hN : N.Nodup) {i j : Nat} {x : Str} (a : N[i]? = some x) (b : N[j]? = some x) : i = j := by
  obtain ⟨h1, e1⟩ := List.getElem?_eq_some_iff.mp a
  obtain ⟨h2, e2⟩ := List.getElem?_eq_some_iff.mp b
  exact (List.getElem_inj hN).mp (e1.trans e2.symm)

theorem store_ok2 {M : Model} {A : Around} {E : Value → Shared → Prop} {i : Nat} {x : Str} {v : V} {u : Value} {Q : Unit → Shared → Prop} (I : Inv X pins σ H s) (hN : X.N.Nodup) (hi : X.N[i]? = some x) (hx : Loc X.env.scope x) (r : RelV v u)
    (h : ∀ s', Inv X pins (σ.set i (some v)) H s' → (∃ a, Heap.SameBut a s.heap s'.heap ∧ (a = X.env.locals ∨ X.env.cells.lookup x = some a)) → Q () s') (hf : X.fn x = true ∨ X.env.scope.names.lookup x = some .local := by first | exact .inl rfl | exact .inr rfl | assumption) : wpAny M A (storeName X.env x u) Q E s := by
  obtain ⟨m, hn, hl⟩ := id I.loc
  have hcls : (X.env.scope.kind == .class || (X.env.scope.kind == .module && X.env.locals != X.env.globals)) = false := by rw [I.ok.kind]; rfl
  have hiσ : i < σ.length := by rw [I.len]; exact (List.getElem?_eq_some_iff.mp hi).1
  have cne := I.cne
  have tracked : ∀ {a : Addr} {h' : Heap}, (∃ o, s.heap.get? a = some o ∧ H a = none) → Heap.SameBut a s.heap h' → HOk X.prog X.w H h' := fun {a h'} ha hs b ob e => by
    obtain ⟨_, _, hfree⟩ := ha
    refine (I.hok b ob e).stay (fun c w' hc q => (hs.2 c ?_).trans q) (fun _ q => q) fun _ _ q => q
    rintro rfl
    rcases hc with rfl | hc
    · rw [hfree] at e; cases e
    · rw [hfree] at hc; cases hc
  rcases hx with hk | hk
  · refine wpAny_storeName_local hk hn (fun h' hn' hs => ?_) hcls
    obtain ⟨oL, _, _, hoL, _⟩ := id hn
    refine h _ ⟨I.ok, I.os, I.bare, ⟨fun b o e n hb hx => ?_, fun b o e n hb hx => ?_, I.base.free, fun b o e hx => ?_, I.base.tups, I.base.frzs, I.base.tbls⟩, ⟨_, hn', fun j y v' e1 e2 e3 => ?_⟩, fun y c e => ?_, I.free, I.freeC, fun p hp => ?_, tracked ⟨oL, hoL, I.free⟩ hs, by simpa using I.len⟩ ⟨_, hs, .inl rfl⟩
    · exact (hs.2 b (Nat.ne_of_lt (Nat.lt_of_lt_of_le (Heap.lt_size e) I.ok.above))).trans (I.base.keep b o e n hb hx)
    · obtain ⟨sl, e1⟩ := I.base.slot b o e n hb hx
      exact ⟨sl, (hs.2 b (Nat.ne_of_lt (Nat.lt_of_lt_of_le (Heap.lt_size e) I.ok.above))).trans e1⟩
    · obtain ⟨o', e1⟩ := I.base.there b o e hx
      exact ⟨o', (hs.2 b (Nat.ne_of_lt (Nat.lt_of_lt_of_le (Heap.lt_size e) I.ok.above))).trans e1⟩
    · by_cases hj : j = i
      · subst hj
        rw [hi] at e1; cases e1
        rw [List.getElem?_set_self hiσ] at e2
        cases e2
        exact ⟨u, r, .inl ⟨hk, by simp⟩⟩
      · rw [List.getElem?_set_ne (Ne.symm hj)] at e2
        obtain ⟨u', r', q⟩ := hl j y v' e1 e2 e3
        refine ⟨u', r', ?_⟩
        rcases q with ⟨k, e⟩ | ⟨k, c, e, z⟩
        · refine .inl ⟨k, ?_⟩
          have : y ≠ x := fun e => hj (nodup_ix hN e1 (e ▸ hi))
          simp [this, e]
        · exact .inr ⟨k, c, e, z.sameBut hs (cne y c e)⟩
    · obtain ⟨w', z⟩ := I.cell y c e
      exact ⟨w', z.sameBut hs (cne y c e)⟩
    · obtain ⟨e, n, ne, nf, d⟩ := I.pin p hp
      exact ⟨(hs.2 p.1 ne).trans e, n, ne, nf, d⟩
  · have hfn : X.fn x = true := by
      rcases hf with z | z
      · exact z
      · rw [z] at hk; cases hk
    obtain ⟨c, hc⟩ := I.ok.has x (.inl hk)
    obtain ⟨w', z⟩ := I.cell x c hc
    refine wpAny_storeName_cell I.ok.kind hk hc z (fun h' hc' hs => ?_)
    obtain ⟨oc, hoc, hocd⟩ := id z
    refine h { s with heap := h' } ⟨I.ok, I.os, I.bare, ⟨fun b o e n hb hx => ?_, fun b o e n hb hx => ?_, I.base.free, fun b o e hx => ?_, I.base.tups, I.base.frzs, I.base.tbls⟩, ⟨m, hn.sameBut hs (Ne.symm (cne x c hc)), fun j y v' e1 e2 e3 => ?_⟩, fun y c' e => ?_, I.free, I.freeC, fun p hp => ?_, tracked ⟨oc, hoc, I.freeC x c hc⟩ hs, by simpa using I.len⟩ ⟨c, hs, .inr hc⟩
    · exact (hs.2 b (Nat.ne_of_lt (Nat.lt_of_lt_of_le (Heap.lt_size e) (I.ok.cab x c hfn hc)))).trans (I.base.keep b o e n hb hx)
    · obtain ⟨sl, e1⟩ := I.base.slot b o e n hb hx
      exact ⟨sl, (hs.2 b (Nat.ne_of_lt (Nat.lt_of_lt_of_le (Heap.lt_size e) (I.ok.cab x c hfn hc)))).trans e1⟩
    · obtain ⟨o', e1⟩ := I.base.there b o e hx
      exact ⟨o', (hs.2 b (Nat.ne_of_lt (Nat.lt_of_lt_of_le (Heap.lt_size e) (I.ok.cab x c hfn hc)))).trans e1⟩
    · by_cases hj : j = i
      · subst hj
        rw [hi] at e1; cases e1
        rw [List.getElem?_set_self hiσ] at e2
        cases e2
        exact ⟨u, r, .inr ⟨.inl hk, c, hc, hc'⟩⟩
      · rw [List.getElem?_set_ne (Ne.symm hj)] at e2
        obtain ⟨u', r', q⟩ := hl j y v' e1 e2 e3
        refine ⟨u', r', ?_⟩
        rcases q with q | ⟨k, c', e, z'⟩
        · exact .inl q
        · refine .inr ⟨k, c', e, z'.sameBut hs ?_⟩
          rintro rfl
          exact hj (nodup_ix hN e1 (I.ok.inj _ _ _ e hc ▸ hi))
    · by_cases hcc : c' = c
      · subst hcc; exact ⟨_, hc'⟩
      · obtain ⟨w2, z2⟩ := I.cell y c' e
        exact ⟨w2, z2.sameBut hs hcc⟩
    · obtain ⟨e, n, ne, nf, d⟩ := I.pin p hp
      refine ⟨(hs.2 p.1 ?_).trans e, n, ne, nf, d⟩
      intro q
      rw [q, hoc] at e
      have q' : oc = p.2 := Option.some.inj e
      exact d w' (by rw [← q']; exact hocd)
theorem store_ok {M : Model} {A : Around} {E : Value → Shared → Prop} {i : Nat} {x : Str} {v : V} {u : Value} {Q : Unit → Shared → Prop} (I : Inv X pins σ H s) (hN : X.N.Nodup) (hi : X.N[i]? = some x) (hx : Loc X.env.scope x) (r : RelV v u)
    (h : ∀ s', Inv X pins (σ.set i (some v)) H s' → Q () s') (hf : X.fn x = true ∨ X.env.scope.names.lookup x = some .local := by first | exact .inl rfl | exact .inr rfl | assumption) : wpAny M A (storeName X.env x u) Q E s :=
  store_ok2 I hN hi hx r (fun s' I' _ => h s' I') hf
theorem Inv.call' {s' : Shared} {ch : List Addr} (I : Inv X pins σ H s) (ho : s'.os = s.os) (u : Un (frs X.stack) ch H H' s.heap s'.heap) (hok : HOk X.prog X.w H' s'.heap) (hg : AllBare s'.gens)
    (hch : ∀ b ∈ ch, (b ∈ X.ex ∨ X.s₀.heap.objs.size ≤ b) ∧ b ≠ X.env.locals ∧ (∀ x c, X.env.cells.lookup x = some c → c ≠ b) ∧ ∀ p ∈ X.pn ++ pins, p.1 ≠ b) : Inv X pins σ H' s' := by
  obtain ⟨h', g', d', t', o'⟩ := s'
  have e : o' = s.os := ho
  subst e
  exact I.call (g' := g') (t' := t') (d' := d') u hok hg hch
end

abbrev XK := Value → Option Addr → Hp → Prop
abbrev St := List (Option V)
abbrev VK := V → Hp → Prop
abbrev TE := St → Hp → VK → Prop
abbrev TT := St → Hp → (Bool → Hp → Prop) → Prop
abbrev TA := St → Hp → (List V → Hp → Prop) → Prop
structure Ends where
  nx : St → Hp → Prop
  rt : VK
  bk : St → Hp → Prop := fun _ _ => False
  ct : St → Hp → Prop := fun _ _ => False
abbrev TS := Ends → St → Hp → Prop

def EP (X : Cx) (pins : List (Addr × Obj)) (σ : St) (Q : VK) (u : Value) (s' : Shared) : Prop := ∃ v H', Inv X pins σ H' s' ∧ RelV v u ∧ Q v H'
def TP (X : Cx) (pins : List (Addr × Obj)) (σ : St) (Q : Bool → Hp → Prop) (b : Bool) (s' : Shared) : Prop := ∃ H', Inv X pins σ H' s' ∧ Q b H'
def AP (X : Cx) (pins : List (Addr × Obj)) (σ : St) (Q : List V → Hp → Prop) (us : List Value) (s' : Shared) : Prop := ∃ vs H', Inv X pins σ H' s' ∧ Vals vs us ∧ Q vs H'
def SP (X : Cx) (pins : List (Addr × Obj)) (D : Ends) (f : Flow) (s' : Shared) : Prop :=
  match f with
  | .next => ∃ σ' H', Inv X pins σ' H' s' ∧ D.nx σ' H'
  | .brk => ∃ σ' H', Inv X pins σ' H' s' ∧ D.bk σ' H'
  | .cont => ∃ σ' H', Inv X pins σ' H' s' ∧ D.ct σ' H'
  | .ret u => ∃ v σ' H', Inv X pins σ' H' s' ∧ RelV v u ∧ D.rt v H'

def PE (X : Cx) (e : Expr) (t : TE) : Prop :=
  ∀ (pins : List (Addr × Obj)) (s : Shared) (σ : St) (H : Hp) (Q : VK), Inv X pins σ H s → t σ H Q → wpAny (model X.prog X.w) X.A (eval e X.env) (EP X pins σ Q) X.xe s
def PT (X : Cx) (e : Expr) (t : TT) : Prop :=
  ∀ (pins : List (Addr × Obj)) (s : Shared) (σ : St) (H : Hp) (Q : Bool → Hp → Prop), Inv X pins σ H s → t σ H Q → wpAny (model X.prog X.w) X.A (isTrue e X.env (eval e X.env)) (TP X pins σ Q) X.xe s
def PW (X : Cx) (e : Expr) (t : TT) : Prop :=
  ∀ (whole : Sem Value) (pins : List (Addr × Obj)) (s : Shared) (σ : St) (H : Hp) (Q : Bool → Hp → Prop), Inv X pins σ H s → t σ H Q → wpAny (model X.prog X.w) X.A (isTrue e X.env whole) (TP X pins σ Q) X.xe s
theorem PW.pt {X : Cx} {e : Expr} {t : TT} (h : PW X e t) : PT X e t := h _
def PA (X : Cx) (es : List Expr) (t : TA) : Prop :=
  ∀ (pos : Pos) (pins : List (Addr × Obj)) (s : Shared) (σ : St) (H : Hp) (Q : List V → Hp → Prop), Inv X pins σ H s → t σ H Q → wpAny (model X.prog X.w) X.A (spliced (backTo pos (starEach es X.env))) (AP X pins σ Q) X.xe s
def PS (X : Cx) (st : Stmt) (t : TS) : Prop :=
  ∀ (pins : List (Addr × Obj)) (s : Shared) (σ : St) (H : Hp) (D : Ends), Inv X pins σ H s → t D σ H → wpAny (model X.prog X.w) X.A (exec st X.env) (SP X pins D) X.xe s
def PSs (X : Cx) (st : List Stmt) (t : TS) : Prop :=
  ∀ (pins : List (Addr × Obj)) (s : Shared) (σ : St) (H : Hp) (D : Ends), Inv X pins σ H s → t D σ H → wpAny (model X.prog X.w) X.A (execs st X.env) (SP X pins D) X.xe s
theorem thn {α : Type} {t : Sem α} {Q Q' : α → Shared → Prop} {M : Model} {A : Around} {E : Value → Shared → Prop} {s : Shared} (h : wpAny M A t Q E s) (hQ : ∀ a s, Q a s → Q' a s) : wpAny M A t Q' E s := wpAny_mono h hQ fun _ _ x => x
end L2

namespace L2
open PySem PySem.Spec PyProof.Rows
section
variable {X : Cx}

def tVar (i : Nat) : TE := fun σ H Q => ∃ v, σ[i]? = some (some v) ∧ Q v H
def tC (v : V) : TE := fun _ H Q => Q v H
theorem pe_var {i : Nat} {x : Str} {pos : Pos} (hN : X.N[i]? = some x) (hv : Vis X.env.scope x) (hd : (x == ("__debug__" : Str)) = false := by decide) (hcd : (x == ("__classdict__" : Str)) = false := by decide) : PE X (.Name x pos) (tVar i) := by
  intro pins s σ H Q I h
  obtain ⟨v, e, h⟩ := h
  obtain ⟨m, hn, hl⟩ := I.loc
  obtain ⟨u, r, l⟩ := hl i x v hN e hv
  have fin : EP X pins σ Q u s := ⟨v, H, I, r, h⟩
  rcases l with ⟨hk, hm⟩ | ⟨hk, c, hc, hcell⟩
  · exact wpAny_Name (wpAny_loadName_local I.ok.kind hk hn hm fin) hd
  · rcases hk with hk | hk
    · exact wpAny_Name (wpAny_loadName_cell I.ok.kind hk hc hcell fin) hd
    · exact wpAny_Name (wpAny_loadName_free I.ok.kind hk hc hcell fin hcd) hd
theorem pe_int {i j pos} : PE X (.Constant (.int i) j pos) (tC (.int i)) := fun _ _ _ H _ I h => wpAny_Constant_int ⟨.int i, H, I.tok _, ⟨_, rfl⟩, h⟩
theorem pe_bl {b j pos} : PE X (.Constant (.bool b) j pos) (tC (.bl b)) := fun _ _ _ H _ I h => Constant_bool ⟨.bl b, H, I, rfl, h⟩
theorem pe_non {j pos} : PE X (.Constant .none j pos) (tC .non) := fun _ _ _ H _ I h => Constant_none ⟨.non, H, I, rfl, h⟩
theorem pe_str {x j pos} : PE X (.Constant (.str x) j pos) (tC (.str x)) := fun _ _ _ H _ I h => Calls.Constant_str ⟨.str x, H, I.tok _, ⟨_, rfl⟩, h⟩

def Gl (X : Cx) (x : Str) : Prop := X.env.kindOf x = some .globalImplicit
theorem ld_glob {E : Value → Shared → Prop} {pins : List (Addr × Obj)} {s : Shared} {σ : St} {H : Hp} {x : Str} {u : Value} {pos : Pos} {Q : Value → Shared → Prop} (I : Inv X pins σ H s) (hg : Gl X x) (hm : X.mg x = some u) (h : Q u s)
    (hd : (x == ("__debug__" : Str)) = false := by decide) : wpAny (model X.prog X.w) X.A (eval (.Name x pos) X.env) Q E s :=
  Calls.Name_function_global I.ok.kind hg (Calls.loadGlobal_global (by rw [I.ok.glob]; exact I.mod.glob.keeps I.bk) hm h) hd
theorem ld_blt {E : Value → Shared → Prop} {pins : List (Addr × Obj)} {s : Shared} {σ : St} {H : Hp} {x : Str} {u : Value} {pos : Pos} {Q : Value → Shared → Prop} (I : Inv X pins σ H s) (hg : Gl X x) (hm : X.mg x = none) (hv : bootBuiltins x = some u) (h : Q u s)
    (hn : x ≠ "__name__" := by decide) (hd : (x == ("__debug__" : Str)) = false := by decide) : wpAny (model X.prog X.w) X.A (eval (.Name x pos) X.env) Q E s := by
  obtain ⟨mb, h1, h2⟩ := I.mod.blt
  exact Calls.Name_function_global I.ok.kind hg (Calls.loadGlobal_builtin (by rw [I.ok.glob]; exact I.mod.glob.keeps I.bk) hm (by rw [I.ok.blt]; exact h1.keeps I.bk) ((h2 x hn).trans hv) h) hd
theorem pe_bltn {x : Str} {v : V} {u : Value} {pos : Pos} (hg : Gl X x) (hm : X.mg x = none) (hv : bootBuiltins x = some u) (r : RelV v u) (hn : x ≠ "__name__" := by decide) (hd : (x == ("__debug__" : Str)) = false := by decide) : PE X (.Name x pos) (tC v) :=
  fun _ _ _ H _ I h => ld_blt I hg hm hv ⟨v, H, I, r, h⟩ hn hd

variable {a b : Expr} {ta tb : TE} {pos : Pos}
def tB (t : TE) : TT := fun σ H Q => t σ H fun x H1 => ∃ c, x = .bl c ∧ Q c H1
theorem pt_val {e : Expr} {t : TE} (h : PE X e t) (he : ∀ whole, isTrue e X.env whole = (do let v ← whole; standAt e.pos; holding [v] (truthy v)) := by intro _; rfl) : PT X e (tB t) := by
  intro pins s σ H Q I hw
  refine isTrue_plain (thn (h pins s σ H _ I hw) fun v s1 ⟨x, H1, I1, r1, q1⟩ => ?_) (he _)
  obtain ⟨d, rfl, q⟩ := q1
  cases r1
  exact wpAny_truthy_bool ⟨H1, I1, q⟩

variable {tA tB' : TT} {rest : List Expr}
def tAnd (t u : TT) : TT := fun σ H Q => t σ H fun c H1 => if c = true then u σ H1 Q else Q false H1
def tOr (t u : TT) : TT := fun σ H Q => t σ H fun c H1 => if c = true then Q true H1 else u σ H1 Q
def tNot (t : TT) : TT := fun σ H Q => t σ H fun c H1 => Q (!c) H1
theorem pw_and1 (ha : PT X a tA) : PW X (.BoolOp .And [a] pos) tA := by
  intro wh pins s σ H Q I h
  refine isTrue_and (thn (ha pins s σ H Q I h) fun c s1 e => ?_)
  cases c with
  | true => exact isTrue_and_nil e
  | false => exact e
theorem pw_or1 (ha : PT X a tA) : PW X (.BoolOp .Or [a] pos) tA := by
  intro wh pins s σ H Q I h
  refine isTrue_or (thn (ha pins s σ H Q I h) fun c s1 e => ?_)
  cases c with
  | false => exact isTrue_or_nil e
  | true => exact e
theorem pw_and (ha : PT X a tA) (hb : PW X (.BoolOp .And (b :: rest) pos) tB') : PW X (.BoolOp .And (a :: b :: rest) pos) (tAnd tA tB') := by
  intro wh pins s σ H Q I h
  refine isTrue_and (thn (ha pins s σ H _ I h) fun c s1 ⟨H1, I1, q1⟩ => ?_)
  cases c with
  | true => exact hb wh pins s1 σ H1 Q I1 q1
  | false => exact ⟨H1, I1, q1⟩
theorem pw_or (ha : PT X a tA) (hb : PW X (.BoolOp .Or (b :: rest) pos) tB') : PW X (.BoolOp .Or (a :: b :: rest) pos) (tOr tA tB') := by
  intro wh pins s σ H Q I h
  refine isTrue_or (thn (ha pins s σ H _ I h) fun c s1 ⟨H1, I1, q1⟩ => ?_)
  cases c with
  | true => exact ⟨H1, I1, q1⟩
  | false => exact hb wh pins s1 σ H1 Q I1 q1
theorem pt_not (ha : PT X a tA) : PT X (.UnaryOp .Not a pos) (tNot tA) := by
  intro pins s σ H Q I h
  exact isTrue_not (ha pins s σ H (fun c H1 => Q (!c) H1) I h)
def tAndV (ta tb : TE) : TE := fun σ H Q => ta σ H fun x H1 => ∃ c, x = .bl c ∧ if c = true then tb σ H1 Q else Q (.bl false) H1
def tNotV (ta : TE) : TE := fun σ H Q => ta σ H fun x H1 => ∃ c, x = .bl c ∧ Q (.bl (!c)) H1
theorem pe_one {op} {t : TE} (h : PE X a t) : PE X (.BoolOp op [a] pos) t := fun pins s σ H Q I hw => BoolOp_one (h pins s σ H Q I hw)
theorem pe_and (ha : PE X a ta) (hb : PE X (.BoolOp .And (b :: rest) pos) tb) : PE X (.BoolOp .And (a :: b :: rest) pos) (tAndV ta tb) := by
  intro pins s σ H Q I h
  refine BoolOp_and (thn (ha pins s σ H _ I h) fun v s1 ⟨x, H1, I1, r1, q1⟩ => ?_)
  obtain ⟨c, rfl, q1⟩ := q1
  cases r1
  refine wpAny_truthy_bool ?_
  cases c with
  | true => exact hb pins s1 σ H1 Q I1 q1
  | false => exact ⟨.bl false, H1, I1, rfl, q1⟩
theorem pe_not (ha : PE X a ta) : PE X (.UnaryOp .Not a pos) (tNotV ta) := by
  intro pins s σ H Q I h
  refine UnaryOp_ (thn (ha pins s σ H _ I h) fun v s1 ⟨x, H1, I1, r1, q1⟩ => ?_)
  obtain ⟨c, rfl, q1⟩ := q1
  cases r1
  exact not_of (wpAny_truthy_bool ⟨.bl (!c), H1, I1, rfl, q1⟩)
end
end L2

namespace L2
open PySem PySem.Spec PyProof.Rows

def SqL (K : PySem.W.Frag) (H : Hp) (a : Addr) (xs : List V) : Prop :=
  Rd H a (.lst xs) ∨
    ∃ (o : Obj) (its : Array Value) (n : Nat), K.lookup a = some o ∧ o.cls = .type "list" ∧ o.dict = none ∧ o.data = .seq its n ∧ its.size ≤ sizeLine ∧ Vals xs its.toList
def SqT (K : PySem.W.Frag) (H : Hp) (a : Addr) (xs : List V) : Prop :=
  Rd H a (.tup xs) ∨
    ∃ (o : Obj) (its : Array Value) (n : Nat), K.lookup a = some o ∧ o.cls = .type "tuple" ∧ o.data = .seq its n ∧ its.size ≤ sizeLine ∧ Vals xs its.toList
def absV : Value → Option V
  | .none => some .non
  | .bool b => some (.bl b)
  | .int i _ => some (.int i)
  | .str x _ => some (.str x)
  | .bytes b _ => some (.byt b)
  | .float b _ => some (.flt b)
  | .ref a => some (.ref a)
  | .type n => some (.ty n)
  | _ => none
theorem RelV.abs {x : V} {u : Value} (r : RelV x u) : absV u = some x := by
  cases x with
  | non => cases r; rfl
  | bl _ => cases r; rfl
  | int _ => obtain ⟨t, rfl⟩ := r; rfl
  | str _ => obtain ⟨t, rfl⟩ := r; rfl
  | byt _ => obtain ⟨t, rfl⟩ := r; rfl
  | flt _ => obtain ⟨t, rfl⟩ := r; rfl
  | ref _ => cases r; rfl
  | ty _ => cases r; rfl
theorem RelV.inj {x y : V} {u : Value} (r : RelV x u) (q : RelV y u) : x = y := Option.some.inj (r.abs.symm.trans q.abs)
theorem Vals.inj : ∀ {xs ys : List V} {us : List Value}, Vals xs us → Vals ys us → xs = ys
  | _, _, _, .nil, .nil => rfl
  | _, _, _, .cons r t, .cons r' t' => by rw [r.inj r', Vals.inj t t']
section
variable {X : Cx} {pins : List (Addr × Obj)} {σ : St} {H : Hp} {s : Shared} {a : Addr} {xs ys : List V}
theorem SqL.of {K : PySem.W.Frag} (h : H a = some (.lst xs)) : SqL K H a xs := .inl (.inl h)
theorem SqT.of {K : PySem.W.Frag} (h : H a = some (.tup xs)) : SqT K H a xs := .inl (.inl h)
theorem Inv.list (I : Inv X pins σ H s) (h : SqL X.K H a xs) : ∃ its : List Value, Vals xs its ∧ PlainL s.heap a its.toArray ∧ xs.length ≤ sizeLine := by
  rcases h with h | ⟨o, its, n, hk, hc, hd, hs, hz, r⟩
  · obtain ⟨z, its, n, r, e⟩ := h.ok I.hok
    exact ⟨its, r, ⟨_, n, e, rfl, rfl, rfl⟩, z⟩
  · refine ⟨its.toList, r, ⟨o, n, I.kIn a o hk, hc, hd, by simpa using hs⟩, ?_⟩
    have e := r.length
    simp only [Array.length_toList] at e
    omega
theorem Inv.tuple (I : Inv X pins σ H s) (h : SqT X.K H a xs) : ∃ its : List Value, Vals xs its ∧ IsTup s.heap a its.toArray ∧ xs.length ≤ sizeLine := by
  rcases h with h | ⟨o, its, n, hk, hc, hs, hz, r⟩
  · obtain ⟨z, its, r, p⟩ := h.ok I.hok
    exact ⟨its, r, p.tup, z⟩
  · refine ⟨its.toList, r, ⟨o, I.kIn a o hk, hc, n, by simpa using hs⟩, ?_⟩
    have e := r.length
    simp only [Array.length_toList] at e
    omega
theorem Inv.list_inj (I : Inv X pins σ H s) (h : SqL X.K H a xs) (h' : SqL X.K H a ys) : xs = ys := by
  obtain ⟨its, r, ⟨o, n, e, _, _, d⟩, _⟩ := I.list h
  obtain ⟨its', r', ⟨o', n', e', _, _, d'⟩, _⟩ := I.list h'
  rw [e] at e'; cases e'
  rw [d] at d'
  injection d' with d1 _
  have : its = its' := by simpa using congrArg Array.toList d1
  subst this
  exact r.inj r'
theorem Inv.tuple_inj (I : Inv X pins σ H s) (h : SqT X.K H a xs) (h' : SqT X.K H a ys) : xs = ys := by
  obtain ⟨its, r, ⟨o, e, _, n, d⟩, _⟩ := I.tuple h
  obtain ⟨its', r', ⟨o', e', _, n', d'⟩, _⟩ := I.tuple h'
  rw [e] at e'; cases e'
  rw [d] at d'
  injection d' with d1 _
  have : its = its' := by simpa using congrArg Array.toList d1
  subst this
  exact r.inj r'
end

abbrev Cx.wish (X : Cx) (E : Value → Shared → Prop) : Cx := { X with xe := E }
abbrev Cx.nox (X : Cx) : Cx := X.wish fun _ _ => False
theorem Cx.Ok.wish {X : Cx} (ok : X.Ok) (E : Value → Shared → Prop) : (X.wish E).Ok :=
  ⟨ok.mod, ok.kind, ok.glob, ok.blt, ok.above, ok.inj, ok.has, ok.cab, ok.hd, ok.frames, ok.stk, ok.exf, ok.bs, ok.bsz, ok.noex, ok.exfs, ok.funs, ok.frf⟩
theorem Cx.Ok.unwish {X : Cx} {E : Value → Shared → Prop} (ok : (X.wish E).Ok) : X.Ok :=
  ⟨ok.mod, ok.kind, ok.glob, ok.blt, ok.above, ok.inj, ok.has, ok.cab, ok.hd, ok.frames, ok.stk, ok.exf, ok.bs, ok.bsz, ok.noex, ok.exfs, ok.funs, ok.frf⟩
section
variable {X : Cx} {pins : List (Addr × Obj)} {σ : St} {H : Hp} {s : Shared} {E : Value → Shared → Prop}
theorem Inv.wish (I : Inv X pins σ H s) (E : Value → Shared → Prop) : Inv (X.wish E) pins σ H s := ⟨I.ok.wish E, I.os, I.bare, I.base, I.loc, I.cell, I.free, I.freeC, I.pin, I.hok, I.len⟩
theorem Inv.unwish (I : Inv (X.wish E) pins σ H s) : Inv X pins σ H s := ⟨I.ok.unwish, I.os, I.bare, I.base, I.loc, I.cell, I.free, I.freeC, I.pin, I.hok, I.len⟩
theorem SP.unwish {D : Ends} {f : Flow} {s' : Shared} (h : SP (X.wish E) pins D f s') : SP X pins D f s' := by
  cases f with
  | next => obtain ⟨σ', H', I, q⟩ := h; exact ⟨σ', H', I.unwish, q⟩
  | brk => obtain ⟨σ', H', I, q⟩ := h; exact ⟨σ', H', I.unwish, q⟩
  | cont => obtain ⟨σ', H', I, q⟩ := h; exact ⟨σ', H', I.unwish, q⟩
  | ret u => obtain ⟨v, σ', H', I, r, q⟩ := h; exact ⟨v, σ', H', I.unwish, r, q⟩
theorem PSs.nox {st : List Stmt} {t : TS} (h : PSs X.nox st t) : PSs X st t := fun pins s σ H D I hw =>
  wpAny_mono (h pins s σ H D (I.wish _) hw) (fun _ _ q => q.unwish) fun _ _ z => False.elim z
end

section
variable {X : Cx} {st : Stmt} {rest : List Stmt} {t u : TS} {e : Expr} {te : TE} {pos : Pos}
def tNext : TS := fun D σ H => D.nx σ H
def tSeq (t u : TS) : TS := fun D σ H => t { D with nx := u D } σ H
theorem pss_nil : PSs X [] tNext := fun _ _ σ H _ I h => wpAny_execs_nil ⟨σ, H, I, h⟩
theorem pss_cons (h1 : PS X st t) (h2 : PSs X rest u) : PSs X (st :: rest) (tSeq t u) := by
  intro pins s σ H D I h
  refine wpAny_execs_cons (thn (h1 pins s σ H { D with nx := u D } I h) fun f s1 q => ?_)
  cases f with
  | next =>
    obtain ⟨σ', H', I', q⟩ := q
    exact h2 pins s1 σ' H' D I' q
  | ret v => exact q
  | brk => exact q
  | cont => exact q
theorem pss_one (h1 : PS X st t) : PSs X [st] t := by
  intro pins s σ H D I h
  refine wpAny_execs_cons (thn (h1 pins s σ H D I h) fun f s1 q => ?_)
  cases f with
  | next => exact wpAny_execs_nil q
  | ret v => exact q
  | brk => exact q
  | cont => exact q
theorem Inv.quiet {pins : List (Addr × Obj)} {σ : St} {H : Hp} {s : Shared} (I : Inv X pins σ H s) : interactive X.env = false := by simp [interactive, I.ok.kind]
def tDrop (te : TE) : TS := fun D σ H => te σ H fun _ H1 => D.nx σ H1
theorem ps_expr (he : PE X e te) (hs : swapsWith e none pos.line X.env = pure false := by rfl) : PS X (.Expr e pos) (tDrop te) := by
  intro pins s σ H D I h
  exact wpAny_Expr_any (thn (he pins s σ H _ I h) fun v s1 ⟨x, H1, I1, r1, q1⟩ => ⟨σ, H1, I1, q1⟩) I.quiet hs
def tRet (te : TE) : TS := fun D σ H => te σ H D.rt
theorem ps_ret (he : PE X e te) : PS X (.Return (some e) pos) (tRet te) := by
  intro pins s σ H D I h
  exact wpAny_Return_some (thn (he pins s σ H _ I h) fun v s1 ⟨x, H1, I1, r1, q1⟩ => ⟨x, σ, H1, I1, r1, q1⟩)
def tIfS (c : TT) (t u : TS) : TS := fun D σ H => c σ H fun b H1 => if b = true then t D σ H1 else u D σ H1
theorem ps_if {c : Expr} {a b : List Stmt} {tc : TT} (hc : PT X c tc) (ha : PSs X a t) (hb : PSs X b u) : PS X (.If c a b pos) (tIfS tc t u) := by
  intro pins s σ H D I h
  refine wpAny_If (thn (hc pins s σ H _ I h) fun d s1 ⟨H1, I1, q1⟩ => ?_)
  cases d with
  | true => exact ha pins s1 σ H1 D I1 q1
  | false => exact hb pins s1 σ H1 D I1 q1
end

abbrev TG := V → St → Hp → (St → Hp → Prop) → Prop
abbrev TGs := List V → St → Hp → (St → Hp → Prop) → Prop
def PG (X : Cx) (target : Expr) (t : TG) : Prop :=
  ∀ (pins : List (Addr × Obj)) (s : Shared) (σ : St) (H : Hp) (v : V) (u : Value) (Q : St → Hp → Prop), Inv X pins σ H s → RelV v u → t v σ H Q →
    wpAny (model X.prog X.w) X.A (assign target X.env u) (fun _ s' => ∃ σ' H', Inv X pins σ' H' s' ∧ Q σ' H') X.xe s
def PGs (X : Cx) (ts : List Expr) (t : TGs) : Prop :=
  ∀ (pins : List (Addr × Obj)) (s : Shared) (σ : St) (H : Hp) (vs : List V) (us : List Value) (Q : St → Hp → Prop), Inv X pins σ H s → Vals vs us → t vs σ H Q →
    wpAny (model X.prog X.w) X.A (assignInOrder ((assignEach ts X.env).map (·.2)) us) (fun _ s' => ∃ σ' H', Inv X pins σ' H' s' ∧ Q σ' H') X.xe s
abbrev TSet := V → V → V → Hp → (Hp → Prop) → Prop
def PSet (X : Cx) (t : TSet) : Prop :=
  ∀ (pins : List (Addr × Obj)) (s : Shared) (σ : St) (H : Hp) (o i v : V) (ov iv u : Value) (Q : Hp → Prop), Inv X pins σ H s → RelV o ov → RelV i iv → RelV v u → t o i v H Q →
    wpAny (model X.prog X.w) X.A (setItem ov iv u) (fun _ s' => ∃ H', Inv X pins σ H' s' ∧ Q H') X.xe s
section
variable {X : Cx} {pos : Pos}
def gName (i : Nat) : TG := fun v σ H Q => Q (σ.set i (some v)) H
theorem pg_name {i : Nat} {x : Str} (hN : X.N.Nodup) (hi : X.N[i]? = some x) (hx : Loc X.env.scope x) (hf : X.fn x = true ∨ X.env.scope.names.lookup x = some .local := by first | exact .inl rfl | exact .inr rfl | assumption) : PG X (.Name x pos) (gName i) := by
  intro pins s σ H v u Q I r h
  exact wpAny_assign_Name (store_ok I hN hi hx r (fun s' I' => ⟨_, H, I', h⟩) hf)
def gNil : TGs := fun vs σ H Q => vs = [] ∧ Q σ H
def gCons (t : TG) (u : TGs) : TGs := fun vs σ H Q => ∃ v r, vs = v :: r ∧ t v σ H fun σ' H' => u r σ' H' Q
theorem pgs_nil : PGs X [] gNil := by
  intro pins s σ H vs us Q I r h
  obtain ⟨e, h⟩ := h
  subst e
  cases r
  exact assignInOrder_nil ⟨σ, H, I, h⟩
theorem pgs_cons {e : Expr} {es : List Expr} {t : TG} {u : TGs} (h1 : PG X e t) (h2 : PGs X es u)
    (hs : (assignEach (e :: es) X.env).map (·.2) = assign e X.env :: (assignEach es X.env).map (·.2) := by rfl) : PGs X (e :: es) (gCons t u) := by
  intro pins s σ H vs us Q I r h
  obtain ⟨v, vr, e1, h⟩ := h
  subst e1
  cases r with
  | cons r rr =>
    rw [hs]
    refine assignInOrder_cons (thn (h1 pins s σ H _ _ _ I r h) fun _ s1 ⟨σ1, H1, I1, q1⟩ => ?_)
    exact h2 pins s1 σ1 H1 _ _ Q I1 rr q1
def gTup (K : PySem.W.Frag) (n : Nat) (t : TGs) : TG := fun v σ H Q => ∃ a xs, v = .ref a ∧ SqT K H a xs ∧ xs.length = n ∧ t xs σ H Q
theorem pg_tup {es : List Expr} {k : Nat} {t : TGs} {n : Nat} (hc : X.calm = true) (h : PGs X es t)
    (hn : (assignEach es X.env).length = n := by rfl) (hst : (assignEach es X.env).findIdx? (·.1) = none := by rfl) : PG X (.Tuple es k pos) (gTup X.K n t) := by
  intro pins s σ H v u Q I r hw
  obtain ⟨a, xs, e1, hq, hl, hw⟩ := hw
  subst e1
  cases r
  obtain ⟨its, rv, ht, hz⟩ := I.tuple hq
  refine assign_Tuple_tuple (I.ok.hd hc) ht (by simp [hn, ← hl, rv.length]) hst fun h' hx => ?_
  have I1 : Inv X pins σ H { s with heap := h' } := I.kept (t' := s.toks) fun b o e => hx b o (Nat.ne_of_lt (Heap.lt_size e)) e
  exact h pins _ σ H xs _ Q I1 (by simpa using rv) hw
def gSub (to ti : TE) (t : TSet) : TG := fun v σ H Q => to σ H fun o H1 => ti σ H1 fun i H2 => t o i v H2 fun H3 => Q σ H3
theorem pg_sub {o i : Expr} {to ti : TE} {t : TSet} (ho : PE X o to) (hi : PE X i ti) (hs : PSet X t)
    (ha : ∀ v, assign (.Subscript o i pos) X.env v = (do
      let ov ← holding [v] (eval o X.env)
      let iv ← holding [v, ov] (eval i X.env)
      standAt pos
      holding [v, ov, iv] (setItem ov iv v)
      release [v, ov, iv] []) := by intro _; rfl) : PG X (.Subscript o i pos) (gSub to ti t) := by
  intro pins s σ H v u Q I r h
  rw [ha]
  refine wpAny_bind (wpAny_holding (thn (ho pins s σ H _ I h) fun ov s1 ⟨x, H1, I1, r1, q1⟩ => ?_))
  refine wpAny_bind (wpAny_holding (thn (hi pins s1 σ H1 _ I1 q1) fun iv s2 ⟨y, H2, I2, r2, q2⟩ => ?_))
  refine wpAny_bind (wpAny_standAt (wpAny_bind (wpAny_holding (thn (hs pins s2 σ H2 x y v ov iv u _ I2 r1 r2 r q2) fun _ s3 ⟨H3, I3, q3⟩ => ?_))))
  exact wpAny_release ⟨σ, H3, I3, q3⟩
def tAsg (te : TE) (g : TG) : TS := fun D σ H => te σ H fun x H1 => g x σ H1 D.nx
theorem ps_asg {tg e : Expr} {te : TE} {g : TG} (he : PE X e te) (hg : PG X tg g) (hs : swapsWithSole [tg] e pos.line X.env = pure false := by rfl) (hw : swappedStores [tg] e X.env = pure none := by rfl)
    (h1 : (assignEach [tg] X.env).map (·.2) = [assign tg X.env] := by rfl) : PS X (.Assign [tg] e pos) (tAsg te g) := by
  intro pins s σ H D I h
  refine wpAny_Assign_stores (thn (he pins s σ H _ I h) fun v s1 ⟨x, H1, I1, r1, q1⟩ => ?_) hs hw
  rw [h1]
  exact thn (hg pins s1 σ H1 x v _ I1 r1 q1) fun _ s2 q => q
theorem ps_set {i : Nat} {x : Str} {e : Expr} {te : TE} {pos' : Pos} (hN : X.N.Nodup) (hi : X.N[i]? = some x) (hx : Loc X.env.scope x) (he : PE X e te) (hs : swapsWith e (some (.Name x pos')) pos.line X.env = pure false := by rfl) (hf : X.fn x = true ∨ X.env.scope.names.lookup x = some .local := by first | exact .inl rfl | exact .inr rfl | assumption) :
    PS X (.Assign [.Name x pos'] e pos) (tAsg te (gName i)) := by
  intro pins s σ H D I h
  refine wpAny_Assign_Name (thn (he pins s σ H _ I h) fun v s1 ⟨y, H1, I1, r1, q1⟩ => ?_) hs
  exact store_ok I1 hN hi hx r1 (fun s2 I2 => ⟨_, H1, I2, q1⟩) hf
def tPar (i j : Nat) (ta : TA) : TS := fun D σ H => ta σ H fun vs H1 => ∃ v w, vs = [v, w] ∧ D.nx ((σ.set i (some v)).set j (some w)) H1
theorem ps_par {i j : Nat} {x y : Str} {a b : Expr} {ta : TA} {px py pt : Pos} {kt k2 pt2} (hc : X.calm = true) (hN : X.N.Nodup) (hi : X.N[i]? = some x) (hj : X.N[j]? = some y) (hij : i ≠ j)
    (hx : X.env.scope.names.lookup x = some .local) (hy : X.env.scope.names.lookup y = some .local) (ha : PA X [a, b] ta)
    (hw : swappedStores [.Tuple [.Name x px, .Name y py] kt pt] (.Tuple [a, b] k2 pt2) X.env = pure (some [x, y]))
    (hs : swapsWithSole [.Tuple [.Name x px, .Name y py] kt pt] (.Tuple [a, b] k2 pt2) pos.line X.env = pure false := by rfl) :
    PS X (.Assign [.Tuple [.Name x px, .Name y py] kt pt] (.Tuple [a, b] k2 pt2) pos) (tPar i j ta) := by
  intro pins s σ H D I h
  rw [exec_Assign_arm]
  refine wpAny_bind (wpAny_standAt ?_)
  rw [hs]
  refine wpAny_bind (wpAny_pure ?_)
  rw [if_neg (by decide)]
  refine wpAny_bind (Tuple_ (thn (ha _ pins s σ H _ I h) fun us s1 ⟨vs, H1, I1, r1, q1⟩ => ?_))
  obtain ⟨v, w, e1, q1⟩ := q1
  subst e1
  obtain ⟨u1, u2, rfl, rv, rw'⟩ : ∃ u1 u2, us = [u1, u2] ∧ RelV v u1 ∧ RelV w u2 := by
    cases r1 with
    | cons p q =>
      cases q with
      | cons p' q' =>
        cases q'
        exact ⟨_, _, rfl, p, p'⟩
  refine wpAny_newObj_type ?_ (by show 2 ≤ sizeLine; decide)
  have I2 : Inv X pins σ H1 { s1 with heap := s1.heap.push { cls := .type "tuple", data := .seq [u1, u2].toArray } } := I1.kept (t' := s1.toks) fun b o e => Heap.get?_push_of_some _ e
  rw [hw]
  refine wpAny_bind (wpAny_pure ?_)
  show wpAny (model X.prog X.w) X.A (do rule "assign.swapped-stores"; let items ← unpackItems (.ref s1.heap.objs.size) 2 none; assignInOrder [fun v => bindName X.env y v, fun v => bindName X.env x v] items.reverse; pure Flow.next) _ _ _
  refine wpAny_bind (wpAny_rule (wpAny_bind (unpackItems_tuple (items := #[u1, u2]) (I.ok.hd hc) (IsTup.new s1.heap _) fun h' hx' => ?_)))
  have I3 := I2.kept (h' := h') (t' := s1.toks) fun b o e => hx' b o (Nat.ne_of_lt (Heap.lt_size e)) e
  show wpAny _ _ (assignInOrder [fun v => bindName X.env y v, fun v => bindName X.env x v] [u2, u1] >>= fun _ => pure Flow.next) _ _ _
  refine wpAny_bind (assignInOrder_cons (wpAny_bindName (store_ok I3 hN hj (.inl hy) rw' (fun s2 I4 => ?_) (.inr hy))))
  refine assignInOrder_cons (wpAny_bindName (store_ok I4 hN hi (.inl hx) rv (fun s3 I5 => assignInOrder_nil (wpAny_pure ?_)) (.inr hx)))
  rw [List.set_comm _ _ (Ne.symm hij)] at I5
  exact ⟨_, H1, I5, q1⟩
end

section
variable {X : Cx} {pos : Pos}
end

structure It where
  go : Nat → Hp → Prop
  yld : Nat → Hp → V → Hp → Prop
  stop : Nat → Hp → Prop
def FpOk (X : Cx) (pins : List (Addr × Obj)) (H : Hp) (b : Addr) : Prop :=
  H b = none ∧ b ≠ X.env.locals ∧ b ∉ X.fs ∧ (b ∈ X.ex ∨ X.s₀.heap.objs.size ≤ b) ∧ (∀ x c, X.env.cells.lookup x = some c → c ≠ b) ∧ ∀ p ∈ X.pn ++ pins, p.1 ≠ b
theorem Inv.fpOk {X : Cx} {pins : List (Addr × Obj)} {σ : St} {H H' : Hp} {s : Shared} {b : Addr} (I : Inv X pins σ H s) (hb : s.heap.objs.size ≤ b) (hn : H' b = none) : FpOk X pins H' b := by
  refine ⟨hn, Nat.ne_of_gt (Nat.lt_of_lt_of_le I.lt hb), I.nofs hb, .inr (Nat.le_trans I.sz hb), fun x c e z => ?_, fun p hp z => ?_⟩
  · obtain ⟨v, q⟩ := I.cell x c e
    exact absurd (Nat.lt_of_lt_of_le q.lt (by rw [z]; exact hb)) (Nat.lt_irrefl _)
  · exact absurd (Nat.lt_of_lt_of_le (Heap.lt_size (I.pin p hp).1) (by rw [z]; exact hb)) (Nat.lt_irrefl _)
structure Turn (P : Program) (w : World) (K : PySem.W.Frag) (tg : Expr) (J : It) (fp : List Addr) (it : Addr) (tn : Nat → Heap → Prop) : Prop where
  mem : it ∈ fp
  obj : ∀ i h, tn i h → ∀ b ∈ fp, ∃ o, h.get? b = some o ∧ ∀ v, o.data ≠ .cell v
  keep : ∀ i h h', tn i h → (∀ b ∈ fp, ∀ o, h.get? b = some o → h'.get? b = some o) → tn i h'
  item : ∀ (X : Cx), X.prog = P → X.w = w → X.K = K → X.calm = true → ∀ (i : Nat) (pins : List (Addr × Obj)) (s : Shared) (σ : St) (H : Hp) (E : Value → Shared → Prop), Inv X pins σ H s → (∀ b ∈ fp, FpOk X pins H b) → tn i s.heap → J.go i H →
    wpAny (model P w) X.A (pyNext (.ref it)) (fun r s1 => ∃ u, r = some u ∧
      wpAny (model P w) X.A (letOwnedTupleGo tg (.ref it) u) (fun _ s2 => ∃ x H', Inv X pins σ H' s2 ∧ RelV x u ∧ J.yld i H x H' ∧ tn (i + 1) s2.heap ∧ ∀ b ∈ fp, H' b = none) E s1) E s
  done : ∀ (X : Cx), X.prog = P → X.w = w → X.K = K → X.calm = true → ∀ (i : Nat) (pins : List (Addr × Obj)) (s : Shared) (σ : St) (H : Hp) (E : Value → Shared → Prop), Inv X pins σ H s → (∀ b ∈ fp, FpOk X pins H b) → tn i s.heap → J.stop i H →
    wpAny (model P w) X.A (pyNext (.ref it)) (fun r s1 => r = none ∧ Inv X pins σ H s1) E s
  self : ∀ (A : Around) (i : Nat) (s : Shared) (Q : Value → Shared → Prop) (E : Value → Shared → Prop), tn i s.heap → Q (.ref it) s → wpAny (model P w) A (pyIter (.ref it)) Q E s
abbrev TI := St → Hp → (It → Hp → Prop) → Prop
def PIE (X : Cx) (pins : List (Addr × Obj)) (σ : St) (tg : Expr) (R : It → Hp → Prop) (itv : Value) (s2 : Shared) : Prop :=
  ∃ (it : Addr) (fp : List Addr) (tn : Nat → Heap → Prop) (J : It) (H' : Hp), itv = .ref it ∧ Inv X pins σ H' s2 ∧ Turn X.prog X.w X.K tg J fp it tn ∧ tn 0 s2.heap ∧ (∀ b ∈ fp, FpOk X pins H' b) ∧ R J H'
def PI (X : Cx) (tg iter : Expr) (wi : TI) : Prop :=
  ∀ (pins : List (Addr × Obj)) (s : Shared) (σ : St) (H : Hp) (R : It → Hp → Prop), Inv X pins σ H s → wi σ H R →
    wpAny (model X.prog X.w) X.A (eval iter X.env) (fun v s1 => wpAny (model X.prog X.w) X.A (pyIter v) (PIE X pins σ tg R) X.xe s1) X.xe s

theorem go_of {M : Model} {A : Around} {E : Value → Shared → Prop} {s : Shared} {tg : Expr} {it : Addr} {u : Value} {o : Obj} {n : String} {vs : Array Value} {Q : Unit → Shared → Prop} (ho : s.heap.get? it = some o) (hc : o.cls = .type n) (hd : o.data = .fields vs)
    (hn : ["enumerate", "zip", "dict_itemiterator", "dict_reverseitemiterator", "odict_iterator", "itertools.zip_longest", "itertools.pairwise"].contains n = false) (hQ : Q () s) : wpAny M A (letOwnedTupleGo tg (.ref it) u) Q E s := by
  unfold letOwnedTupleGo
  cases tg <;> first
    | exact wpAny_pure hQ
    | (cases u <;> first
        | exact wpAny_pure hQ
        | (refine wpAny_bind (wpAny_load ho ?_)
           rw [hc, hd]
           show wpAny M A (if (["enumerate", "zip", "dict_itemiterator", "dict_reverseitemiterator", "odict_iterator", "itertools.zip_longest", "itertools.pairwise"].contains n && vs[0]? == some (rawInt _)) = true then _ else _) Q E s
           rw [if_neg (by intro h; rw [hn, Bool.false_and] at h; cases h)]
           exact wpAny_pure hQ))

def Itl (K : PySem.W.Frag) (a : Addr) : It :=
  ⟨fun i H => ∃ xs x, SqL K H a xs ∧ xs[i]? = some x, fun i H x H' => H' = H ∧ ∀ xs, SqL K H a xs → xs[i]? = some x, fun i H => ∃ xs, SqL K H a xs ∧ xs.length ≤ i⟩
def Itt (K : PySem.W.Frag) (a : Addr) : It :=
  ⟨fun i H => ∃ xs x, SqT K H a xs ∧ xs[i]? = some x, fun i H x H' => H' = H ∧ ∀ xs, SqT K H a xs → xs[i]? = some x, fun i H => ∃ xs, SqT K H a xs ∧ xs.length ≤ i⟩
def Itr (lo : Int) (n : Nat) : It := ⟨fun i _ => i < n, fun i H x H' => H' = H ∧ x = .int (lo + i), fun i _ => n ≤ i⟩
theorem turn_list {P : Program} {w : World} {K : PySem.W.Frag} {tg : Expr} (a it : Addr) : Turn P w K tg (Itl K a) [it] it (fun i h => h.IsListIter it a i) where
  mem := by simp
  obj := fun i h st b hb => by
    have e : b = it := by simpa using hb
    subst e
    obtain ⟨o, e, c, d⟩ := st
    exact ⟨o, e, fun v z => by rw [d] at z; cases z⟩
  keep := fun i h h' st k => st.at fun o e => k it (by simp) o e
  item := by
    intro X hP hw hK hc i pins s σ H E I hf st hg
    subst hP hw hK
    obtain ⟨xs, x, hq, hx⟩ := hg
    obtain ⟨its, rv, p, hz⟩ := I.list hq
    obtain ⟨u, hu, ru⟩ := rv.get hx
    obtain ⟨f0, f1, f2, f3, f4, f5⟩ := hf it (by simp)
    refine wpAny_pyNext_list_item st p.isList (x := u) (by simpa using hu) fun h' st' sb => ?_
    have I1 : Inv X pins σ H { s with heap := h' } := I.turned (t' := s.toks) (fun b o hb e => (sb.2 b hb).trans e) f0 f1 f3 f4 f5
    obtain ⟨o, e, c, d⟩ := id st'
    exact ⟨u, rfl, go_of (s := { s with heap := h' }) e c d (by decide) ⟨x, H, I1, ru, ⟨rfl, fun ys hy => by rw [I.list_inj hy hq]; exact hx⟩, st', fun b hb => (hf b hb).1⟩⟩
  done := by
    intro X hP hw hK hc i pins s σ H E I hf st hg
    subst hP hw hK
    obtain ⟨xs, hq, hx⟩ := hg
    obtain ⟨its, rv, p, hz⟩ := I.list hq
    obtain ⟨f0, f1, f2, f3, f4, f5⟩ := hf it (by simp)
    have hl := rv.length
    exact wpAny_pyNext_list_end (I.ok.hd hc) st p.isList (by simp; omega) fun h' eb => ⟨rfl, I.turned (t' := s.toks) (fun b o hb e => eb b o hb e) f0 f1 f3 f4 f5⟩
  self := fun _ _ _ _ _ st h => wpAny_pyIter_listiter st h
theorem turn_tuple {P : Program} {w : World} {K : PySem.W.Frag} {tg : Expr} (a it : Addr) : Turn P w K tg (Itt K a) [it] it (fun i h => h.IsTupleIter it a i) where
  mem := by simp
  obj := fun i h st b hb => by
    have e : b = it := by simpa using hb
    subst e
    obtain ⟨o, e, c, d⟩ := st
    exact ⟨o, e, fun v z => by rw [d] at z; cases z⟩
  keep := fun i h h' st k => st.at fun o e => k it (by simp) o e
  item := by
    intro X hP hw hK hc i pins s σ H E I hf st hg
    subst hP hw hK
    obtain ⟨xs, x, hq, hx⟩ := hg
    obtain ⟨its, rv, p, hz⟩ := I.tuple hq
    obtain ⟨u, hu, ru⟩ := rv.get hx
    obtain ⟨f0, f1, f2, f3, f4, f5⟩ := hf it (by simp)
    refine wpAny_pyNext_tuple_item st (show s.heap.IsTuple a its.toArray from p) (x := u) (by simpa using hu) fun h' st' sb => ?_
    have I1 : Inv X pins σ H { s with heap := h' } := I.turned (t' := s.toks) (fun b o hb e => (sb.2 b hb).trans e) f0 f1 f3 f4 f5
    obtain ⟨o, e, c, d⟩ := id st'
    exact ⟨u, rfl, go_of (s := { s with heap := h' }) e c d (by decide) ⟨x, H, I1, ru, ⟨rfl, fun ys hy => by rw [I.tuple_inj hy hq]; exact hx⟩, st', fun b hb => (hf b hb).1⟩⟩
  done := by
    intro X hP hw hK hc i pins s σ H E I hf st hg
    subst hP hw hK
    obtain ⟨xs, hq, hx⟩ := hg
    obtain ⟨its, rv, p, hz⟩ := I.tuple hq
    obtain ⟨f0, f1, f2, f3, f4, f5⟩ := hf it (by simp)
    have hl := rv.length
    exact wpAny_pyNext_tuple_end (I.ok.hd hc) st (show s.heap.IsTuple a its.toArray from p) (by simp; omega) fun h' eb => ⟨rfl, I.turned (t' := s.toks) (fun b o hb e => eb b o hb e) f0 f1 f3 f4 f5⟩
  self := fun _ _ _ _ _ st h => wpAny_pyIter_tupleiter st h
theorem turn_range {P : Program} {w : World} {K : PySem.W.Frag} {tg : Expr} (it : Addr) (lo : Int) (n : Nat) : Turn P w K tg (Itr lo n) [it] it (fun i h => IsRangeIter h it (lo + (i : Nat) * 1) ((n : Int) - (i : Nat)) 1) where
  mem := by simp
  obj := fun i h st b hb => by
    have e : b = it := by simpa using hb
    subst e
    exact ⟨_, st, fun v z => by
      have z' : Data.fields _ = Data.cell v := z
      cases z'⟩
  keep := fun i h h' st k => k it (by simp) _ st
  item := by
    intro X hP hw hK hc i pins s σ H E I hf st hg
    subst hP hw hK
    obtain ⟨f0, f1, f2, f3, f4, f5⟩ := hf it (by simp)
    have W := Walks.range (prog := X.prog) (w := X.w) (I.ok.hd hc) it lo 1 n
    refine W.item i s _ _ hg st fun v h' tk hv st' kk => ?_
    obtain ⟨t, rfl⟩ := hv
    have I1 : Inv X pins σ H { s with heap := h', toks := tk } := I.turned (fun b o hb e => kk b o (by simpa using hb) e) f0 f1 f3 f4 f5
    refine ⟨_, rfl, go_of (s := { s with heap := h', toks := tk }) (n := "range_iterator") st' rfl rfl (by decide) ⟨.int (lo + i), H, I1, ⟨t, ?_⟩, ⟨rfl, rfl⟩, st', fun b hb => (hf b hb).1⟩⟩
    rw [Int.mul_one]
  done := by
    intro X hP hw hK hc i pins s σ H E I hf st hg
    subst hP hw hK
    obtain ⟨f0, f1, f2, f3, f4, f5⟩ := hf it (by simp)
    exact wpAny_pyNext_range_end (I.ok.hd hc) st (by have : n ≤ i := hg; omega) fun h' eb => ⟨rfl, I.turned (t' := s.toks) (fun b o hb e => eb b o hb e) f0 f1 f3 f4 f5⟩
  self := fun _ _ _ _ _ st h => wpAny_pyIter_rangeiter st h
end L2

namespace L2
open PySem PySem.Spec PyProof.Rows
section
variable {X : Cx} {tg : Expr}
def iList (K : PySem.W.Frag) (tl : TE) : TI := fun σ H R => tl σ H fun x H1 => ∃ a, x = .ref a ∧ (∃ xs, SqL K H1 a xs) ∧ R (Itl K a) H1
def iTup (K : PySem.W.Frag) (tl : TE) : TI := fun σ H R => tl σ H fun x H1 => ∃ a, x = .ref a ∧ (∃ xs, SqT K H1 a xs) ∧ R (Itt K a) H1
theorem pi_list {l : Expr} {tl : TE} (hl : PE X l tl) : PI X tg l (iList X.K tl) := by
  intro pins s σ H R I h
  refine thn (hl pins s σ H _ I h) fun v s1 ⟨x, H1, I1, r1, q1⟩ => ?_
  obtain ⟨a, e, ⟨xs, hq⟩, q⟩ := q1
  subst e
  cases r1
  obtain ⟨its, rv, p, hz⟩ := I1.list hq
  refine wpAny_pyIter_list p.isList ?_
  refine ⟨s1.heap.objs.size, [s1.heap.objs.size], _, _, H1, rfl, I1.kept (t' := s1.toks) fun b o e => Heap.get?_push_of_some _ e, turn_list a _, ⟨_, Heap.get?_push_size _ rfl, rfl, rfl⟩, fun b hb => ?_, q⟩
  have e : b = s1.heap.objs.size := by simpa using hb
  subst e
  exact I1.fpOk (Nat.le_refl _) (I1.hok.fresh (Nat.le_refl _))
theorem pi_tup {l : Expr} {tl : TE} (hl : PE X l tl) : PI X tg l (iTup X.K tl) := by
  intro pins s σ H R I h
  refine thn (hl pins s σ H _ I h) fun v s1 ⟨x, H1, I1, r1, q1⟩ => ?_
  obtain ⟨a, e, ⟨xs, hq⟩, q⟩ := q1
  subst e
  cases r1
  obtain ⟨its, rv, p, hz⟩ := I1.tuple hq
  refine wpAny_pyIter_tuple (show s1.heap.IsTuple a its.toArray from p) ?_
  refine ⟨s1.heap.objs.size, [s1.heap.objs.size], _, _, H1, rfl, I1.kept (t' := s1.toks) fun b o e => Heap.get?_push_of_some _ e, turn_tuple a _, ⟨_, Heap.get?_push_size _ rfl, rfl, rfl⟩, fun b hb => ?_, q⟩
  have e : b = s1.heap.objs.size := by simpa using hb
  subst e
  exact I1.fpOk (Nat.le_refl _) (I1.hok.fresh (Nat.le_refl _))
theorem range_it {pins : List (Addr × Obj)} {σ : St} {H : Hp} {s : Shared} {R : It → Hp → Prop} {E : Value → Shared → Prop} {lo hi : Int} {t u v : Tok} {tk : Nat} (I : Inv X pins σ H s) (h1 : -(2 ^ 62) ≤ lo) (h2 : lo < 2 ^ 62) (h3 : -(2 ^ 62) ≤ hi) (h4 : hi < 2 ^ 62)
    (q : R (Itr lo (hi - lo).toNat) H) : wpAny (model X.prog X.w) X.A (pyIter (.ref s.heap.objs.size)) (PIE X pins σ tg R) E { s with heap := s.heap.push { cls := .type "range", data := .fields #[.int lo t, .int hi u, .int 1 v] }, toks := tk } := by
  refine wpAny_pyIter_range (IsRange.new ..) (small_one h1 h2 h3 h4) ?_
  have I1 : Inv X pins σ H { s with heap := s.heap.push { cls := .type "range", data := .fields #[.int lo t, .int hi u, .int 1 v] }, toks := tk } := I.kept fun b o e => Heap.get?_push_of_some _ e
  refine ⟨(s.heap.push { cls := .type "range", data := .fields #[.int lo t, .int hi u, .int 1 v] }).objs.size, [(s.heap.push { cls := .type "range", data := .fields #[.int lo t, .int hi u, .int 1 v] }).objs.size], _, _, H, rfl,
    I1.kept (t' := tk) fun b o e => Heap.get?_push_of_some _ e, turn_range _ lo (hi - lo).toNat, ?_, fun b hb => ?_, q⟩
  · have e1 : lo + ((0 : Nat) : Int) * 1 = lo := by simp
    have e2 : (((hi - lo).toNat : Nat) : Int) - ((0 : Nat) : Int) = Builtin.Range.rangeSize lo hi 1 := by rw [rangeSize_one]; split <;> omega
    show IsRangeIter _ _ (lo + ((0 : Nat) : Int) * 1) ((((hi - lo).toNat : Nat) : Int) - ((0 : Nat) : Int)) 1
    rw [e1, e2]
    exact Heap.get?_push_size _ rfl
  · have e : b = (s.heap.push { cls := .type "range", data := .fields #[.int lo t, .int hi u, .int 1 v] }).objs.size := by simpa using hb
    subst e
    exact I1.fpOk (Nat.le_refl _) (I1.hok.fresh (Nat.le_refl _))
def iRng1 (ta : TA) : TI := fun σ H R => ta σ H fun vs H1 => ∃ j : Int, vs = [.int j] ∧ -(2 ^ 62) ≤ j ∧ j < 2 ^ 62 ∧ R (Itr 0 j.toNat) H1
theorem pi_range1 {a : Expr} {ta : TA} {p pos : Pos} (hg : Gl X "range") (hm : X.mg "range" = none) (ha : PA X [a] ta) (hs : starEach [a] X.env = [(false, eval a X.env)] := by rfl) : PI X tg (.Call (.Name "range" p) [a] [] pos) (iRng1 ta) := by
  intro pins s σ H R I h
  refine Call_ (ld_blt I hg hm boot_range (PyProof.Rows.callWith_type1 (thn (ha pos pins s σ H _ I h) fun us s1 ⟨vs, H1, I1, r1, q1⟩ => ?_) hs rfl))
  obtain ⟨j, e, q1, q2, q⟩ := q1
  subst e
  cases r1 with
  | cons r rr =>
    cases rr
    obtain ⟨t, rfl⟩ := r
    exact call_range_1 (range_it I1 (by omega) (by omega) q1 q2 (by simpa using q))
def tFor (wi : TI) (g : TG) (tb : TS) : TS := fun D σ H => wi σ H fun J H1 => ∃ W : Nat → Nat → St → Hp → Prop, (∃ m, W 0 m σ H1) ∧ ∀ i m σ H, W i m σ H →
  (J.stop i H ∧ D.nx σ H) ∨ (J.go i H ∧ ∃ N : St → Hp → Prop, (∀ σ' H', N σ' H' → ∃ m', m' < m ∧ W (i + 1) m' σ' H') ∧ ∀ x H', J.yld i H x H' → g x σ H' fun σ2 H2 => tb { D with nx := N, ct := N, bk := D.nx } σ2 H2)
def pinsAt (fp : List Addr) (h : Heap) : List (Addr × Obj) := fp.filterMap fun b => (h.get? b).map fun o => (b, o)
theorem mem_pinsAt {fp : List Addr} {h : Heap} {b : Addr} {o : Obj} (hb : b ∈ fp) (e : h.get? b = some o) : (b, o) ∈ pinsAt fp h := List.mem_filterMap.mpr ⟨b, hb, by rw [e]; rfl⟩
theorem of_pinsAt {fp : List Addr} {h : Heap} {p : Addr × Obj} (hp : p ∈ pinsAt fp h) : p.1 ∈ fp ∧ h.get? p.1 = some p.2 := by
  obtain ⟨b, hb, e⟩ := List.mem_filterMap.mp hp
  cases q : h.get? b with
  | none => rw [q] at e; cases e
  | some o =>
    rw [q] at e
    have e' : (b, o) = p := Option.some.inj e
    subst e'
    exact ⟨hb, q⟩
theorem Inv.pinned {pins : List (Addr × Obj)} {σ : St} {H : Hp} {s : Shared} {fp : List Addr} (I : Inv X pins σ H s) (hf : ∀ b ∈ fp, FpOk X pins H b) (ho : ∀ b ∈ fp, ∃ o, s.heap.get? b = some o ∧ ∀ v, o.data ≠ .cell v) : Inv X (pins ++ pinsAt fp s.heap) σ H s :=
  I.pins_of fun p hp => (List.mem_append.mp hp).elim (fun z => I.pin p (List.mem_append_right _ z)) fun z => by
    obtain ⟨hb, e⟩ := of_pinsAt z
    obtain ⟨f0, f1, f2, _⟩ := hf p.1 hb
    obtain ⟨o, e', d⟩ := ho p.1 hb
    rw [e] at e'; cases e'
    exact ⟨e, f0, f1, f2, d⟩
theorem Inv.unpinned {pins pl : List (Addr × Obj)} {σ : St} {H : Hp} {s : Shared} (I : Inv X (pins ++ pl) σ H s) : Inv X pins σ H s := I.pins_of fun p hp => I.pin p (List.mem_append_right _ (List.mem_append_left _ hp))
theorem ps_for {iter : Expr} {body : List Stmt} {wi : TI} {g : TG} {tb : TS} {pos : Pos} (hp : PassesOwn (model X.prog X.w) X.A X.env X.xe) (hc : X.calm = true) (hi : PI X tg iter wi) (hg : PG X tg g) (hb : PSs X body tb)
    (hs : ∀ x, foldedSetIterable iter X.env x = pure x := by intro _; rfl) : PS X (.For tg iter body [] pos) (tFor wi g tb) := by
  intro pins s σ H D I h
  refine wpAny_For (thn (hi pins s σ H _ I h) fun v s1 h1 => thn h1 fun itv s2 h2 => ?_) hs
  obtain ⟨it, fp, tn, J, H2, e, I2, T, st2, f2, W, ⟨m0, w0⟩, turn⟩ := h2
  subst e
  -- what stays true of the iterator's objects through the loop
  have stat : ∀ {H' : Hp}, (∀ b ∈ fp, H' b = none) → ∀ b ∈ fp, FpOk X pins H' b := fun hn b hb => ⟨hn b hb, (f2 b hb).2⟩
  refine codeAny_forLoop_any (fun n s' => ∃ i σ' H', Inv X pins σ' H' s' ∧ tn i s'.heap ∧ (∀ b ∈ fp, H' b = none) ∧ W i n σ' H') ?_ m0 ⟨0, σ, H2, I2, st2, fun b hb => (f2 b hb).1, w0⟩
  rintro n s3 ⟨i, σ3, H3, I3, st3, fr3, w3⟩
  rcases turn i n σ3 H3 w3 with ⟨stop, qn⟩ | ⟨go, N, hN, step⟩
  · refine wpAny_passesOwn hp (thn (T.done X rfl rfl rfl hc i pins s3 σ3 H3 X.xe I3 (stat fr3) st3 stop) fun r s4 ⟨hr, I4⟩ => ?_)
    subst hr
    exact wpAny_execs_nil ⟨σ3, H3, I4, qn⟩
  · refine wpAny_passesOwn hp (thn (T.item X rfl rfl rfl hc i pins s3 σ3 H3 X.xe I3 (stat fr3) st3 go) fun r s4 ⟨u, hr, h4⟩ => ?_)
    subst hr
    refine wpAny_passesOwn hp (thn h4 fun _ s5 ⟨x, H5, I5, r5, y5, st5, fr5⟩ => ?_)
    have I5' := I5.pinned (stat fr5) (T.obj _ _ st5)
    refine wpAny_passesOwn hp (thn (hg _ s5 σ3 H5 x u _ I5' r5 (step x H5 y5)) fun _ s6 ⟨σ6, H6, I6, q6⟩ => ?_)
    refine wpAny_passesOwn hp (thn (hb _ s6 σ6 H6 _ I6 q6) fun f s7 q7 => ?_)
    have again : ∀ {σ7 : St} {H7 : Hp}, Inv X (pins ++ pinsAt fp s5.heap) σ7 H7 s7 → N σ7 H7 → ∃ m, m < n ∧ ∃ i σ' H', Inv X pins σ' H' s7 ∧ tn i s7.heap ∧ (∀ b ∈ fp, H' b = none) ∧ W i m σ' H' := fun {σ7 H7} I7 n7 => by
      obtain ⟨m', hm, w7⟩ := hN σ7 H7 n7
      refine ⟨m', hm, i + 1, σ7, H7, I7.unpinned, T.keep _ _ _ st5 fun b hb o e => (I7.pin (b, o) (List.mem_append_right _ (List.mem_append_right _ (mem_pinsAt hb e)))).1, fun b hb => ?_, w7⟩
      obtain ⟨o, e, d⟩ := T.obj _ _ st5 b hb
      exact (I7.pin (b, o) (List.mem_append_right _ (List.mem_append_right _ (mem_pinsAt hb e)))).2.1
    cases f with
    | next => obtain ⟨σ7, H7, I7, n7⟩ := q7; exact again I7 n7
    | cont => obtain ⟨σ7, H7, I7, n7⟩ := q7; exact again I7 n7
    | brk => obtain ⟨σ7, H7, I7, q7⟩ := q7; exact ⟨σ7, H7, I7.unpinned, q7⟩
    | ret v => obtain ⟨x7, σ7, H7, I7, r7, q7⟩ := q7; exact ⟨x7, σ7, H7, I7.unpinned, r7, q7⟩
end

theorem for_list {K : PySem.W.Frag} {a : Addr} {xs : List V} {g : TG} {tb : TS} {D : Ends} {σ : St} {H : Hp} (Pv : Nat → St → Hp → Prop) (h0 : Pv 0 σ H) (hl : ∀ i σ H, i ≤ xs.length → Pv i σ H → SqL K H a xs)
    (hs : ∀ i x σ H, xs[i]? = some x → Pv i σ H → g x σ H fun σ2 H2 => tb { D with nx := Pv (i + 1), ct := Pv (i + 1), bk := D.nx } σ2 H2) (hd : ∀ σ H, Pv xs.length σ H → D.nx σ H) :
    ∃ W : Nat → Nat → St → Hp → Prop, (∃ m, W 0 m σ H) ∧ ∀ i m σ H, W i m σ H →
      ((Itl K a).stop i H ∧ D.nx σ H) ∨ ((Itl K a).go i H ∧ ∃ N : St → Hp → Prop, (∀ σ' H', N σ' H' → ∃ m', m' < m ∧ W (i + 1) m' σ' H') ∧ ∀ x H', (Itl K a).yld i H x H' → g x σ H' fun σ2 H2 => tb { D with nx := N, ct := N, bk := D.nx } σ2 H2) := by
  refine ⟨fun i m σ H => m = xs.length - i ∧ i ≤ xs.length ∧ Pv i σ H, ⟨xs.length, by simp, Nat.zero_le _, h0⟩, ?_⟩
  rintro i m σ H ⟨rfl, hi, p⟩
  have q := hl i σ H hi p
  by_cases hlt : i < xs.length
  · refine .inr ⟨⟨xs, xs[i], q, by simp [hlt]⟩, Pv (i + 1), fun σ' H' p' => ⟨xs.length - (i + 1), by omega, rfl, hlt, p'⟩, fun x H' y => ?_⟩
    obtain ⟨e, y⟩ := y
    subst e
    exact hs i x σ _ (y xs q) p
  · have e : i = xs.length := by omega
    subst e
    exact .inl ⟨⟨xs, q, Nat.le_refl _⟩, hd σ H p⟩
theorem for_tup {K : PySem.W.Frag} {a : Addr} {xs : List V} {g : TG} {tb : TS} {D : Ends} {σ : St} {H : Hp} (Pv : Nat → St → Hp → Prop) (h0 : Pv 0 σ H) (hl : ∀ i σ H, i ≤ xs.length → Pv i σ H → SqT K H a xs)
    (hs : ∀ i x σ H, xs[i]? = some x → Pv i σ H → g x σ H fun σ2 H2 => tb { D with nx := Pv (i + 1), ct := Pv (i + 1), bk := D.nx } σ2 H2) (hd : ∀ σ H, Pv xs.length σ H → D.nx σ H) :
    ∃ W : Nat → Nat → St → Hp → Prop, (∃ m, W 0 m σ H) ∧ ∀ i m σ H, W i m σ H →
      ((Itt K a).stop i H ∧ D.nx σ H) ∨ ((Itt K a).go i H ∧ ∃ N : St → Hp → Prop, (∀ σ' H', N σ' H' → ∃ m', m' < m ∧ W (i + 1) m' σ' H') ∧ ∀ x H', (Itt K a).yld i H x H' → g x σ H' fun σ2 H2 => tb { D with nx := N, ct := N, bk := D.nx } σ2 H2) := by
  refine ⟨fun i m σ H => m = xs.length - i ∧ i ≤ xs.length ∧ Pv i σ H, ⟨xs.length, by simp, Nat.zero_le _, h0⟩, ?_⟩
  rintro i m σ H ⟨rfl, hi, p⟩
  have q := hl i σ H hi p
  by_cases hlt : i < xs.length
  · refine .inr ⟨⟨xs, xs[i], q, by simp [hlt]⟩, Pv (i + 1), fun σ' H' p' => ⟨xs.length - (i + 1), by omega, rfl, hlt, p'⟩, fun x H' y => ?_⟩
    obtain ⟨e, y⟩ := y
    subst e
    exact hs i x σ _ (y xs q) p
  · have e : i = xs.length := by omega
    subst e
    exact .inl ⟨⟨xs, q, Nat.le_refl _⟩, hd σ H p⟩
theorem for_range {lo : Int} {n : Nat} {g : TG} {tb : TS} {D : Ends} {σ : St} {H : Hp} (Pv : Nat → St → Hp → Prop) (h0 : Pv 0 σ H)
    (hs : ∀ i σ H, i < n → Pv i σ H → g (.int (lo + i)) σ H fun σ2 H2 => tb { D with nx := Pv (i + 1), ct := Pv (i + 1), bk := D.nx } σ2 H2) (hd : ∀ σ H, Pv n σ H → D.nx σ H) :
    ∃ W : Nat → Nat → St → Hp → Prop, (∃ m, W 0 m σ H) ∧ ∀ i m σ H, W i m σ H →
      ((Itr lo n).stop i H ∧ D.nx σ H) ∨ ((Itr lo n).go i H ∧ ∃ N : St → Hp → Prop, (∀ σ' H', N σ' H' → ∃ m', m' < m ∧ W (i + 1) m' σ' H') ∧ ∀ x H', (Itr lo n).yld i H x H' → g x σ H' fun σ2 H2 => tb { D with nx := N, ct := N, bk := D.nx } σ2 H2) := by
  refine ⟨fun i m σ H => m = n - i ∧ i ≤ n ∧ Pv i σ H, ⟨n, by simp, Nat.zero_le _, h0⟩, ?_⟩
  rintro i m σ H ⟨rfl, hi, p⟩
  by_cases hlt : i < n
  · refine .inr ⟨hlt, Pv (i + 1), fun σ' H' p' => ⟨n - (i + 1), by omega, rfl, hlt, p'⟩, fun x H' y => ?_⟩
    obtain ⟨e, y⟩ := y
    subst e y
    exact hs i σ _ hlt p
  · have e : i = n := by omega
    subst e
    exact .inl ⟨Nat.le_refl _, hd σ H p⟩
end L2

namespace L2
open PySem PySem.Spec PyProof.Rows

abbrev R2 := V → V → Hp → VK → Prop
def OpR (X : Cx) (f : Value → Value → Sem Value) (r : R2) : Prop :=
  ∀ (pins : List (Addr × Obj)) (s : Shared) (σ : St) (H : Hp) (x y : V) (v u : Value) (Q : VK), Inv X pins σ H s → RelV x v → RelV y u → r x y H Q →
    wpAny (model X.prog X.w) X.A (f v u) (EP X pins σ Q) X.xe s
def UnR (X : Cx) (f : Value → Sem Value) (r : V → Hp → VK → Prop) : Prop :=
  ∀ (pins : List (Addr × Obj)) (s : Shared) (σ : St) (H : Hp) (x : V) (v : Value) (Q : VK), Inv X pins σ H s → RelV x v → r x H Q →
    wpAny (model X.prog X.w) X.A (f v) (EP X pins σ Q) X.xe s
def CallR (X : Cx) (f : Value) (r : List V → Hp → VK → Prop) : Prop :=
  ∀ (pins : List (Addr × Obj)) (s : Shared) (σ : St) (H : Hp) (xs : List V) (us : List Value) (Q : VK), Inv X pins σ H s → Vals xs us → r xs H Q →
    wpAny (model X.prog X.w) X.A (call f us) (EP X pins σ Q) X.xe s
def tOp (r : R2) (ta tb : TE) : TE := fun σ H Q => ta σ H fun x H1 => tb σ H1 fun y H2 => r x y H2 Q
def tUn (r : V → Hp → VK → Prop) (ta : TE) : TE := fun σ H Q => ta σ H fun x H1 => r x H1 Q
def rI (C : Int → Int → Prop) (g : Int → Int → V) : R2 := fun x y H Q => ∃ i j, x = .int i ∧ y = .int j ∧ C i j ∧ Q (g i j) H
def rI0 (g : Int → Int → V) : R2 := fun x y H Q => ∃ i j, x = .int i ∧ y = .int j ∧ Q (g i j) H
def rU (g : Int → V) : V → Hp → VK → Prop := fun x H Q => ∃ i, x = .int i ∧ Q (g i) H

section
variable {X : Cx} {a b c : Expr} {ta tb tc : TE} {pos : Pos}

theorem binT (ha : PE X a ta) (hb : PE X b tb) {pins : List (Addr × Obj)} {s : Shared} {σ : St} {H : Hp} {R : V → V → Hp → Prop} (I : Inv X pins σ H s)
    (h : ta σ H fun x H1 => tb σ H1 fun y H2 => R x y H2) {Q : Value → Shared → Prop} {f : Value → Value → Sem Value}
    (hf : ∀ v u s2 x y H2, Inv X pins σ H2 s2 → RelV x v → RelV y u → R x y H2 → wpAny (model X.prog X.w) X.A (f v u) Q X.xe s2) :
    wpAny (model X.prog X.w) X.A (eval a X.env) (fun v s₁ => wpAny (model X.prog X.w) X.A (eval b X.env) (fun u s₂ => wpAny (model X.prog X.w) X.A (f v u) Q X.xe s₂) X.xe s₁) X.xe s := by
  refine thn (ha pins s σ H _ I h) fun v s1 ⟨x, H1, I1, r1, q1⟩ => ?_
  refine thn (hb pins s1 σ H1 _ I1 q1) fun u s2 ⟨y, H2, I2, r2, q2⟩ => ?_
  exact hf v u s2 x y H2 I2 r1 r2 q2

theorem pe_op {op : Operator} {r : R2} (ho : OpR X (binaryOp op) r) (ha : PE X a ta) (hb : PE X b tb) : PE X (.BinOp a op b pos) (tOp r ta tb) := by
  intro pins s σ H Q I h
  exact wpAny_BinOp (binT ha hb I h fun v u s2 x y H2 I2 rx ry q => ho pins s2 σ H2 x y v u Q I2 rx ry q)
theorem pe_un {op : UnaryOp} {r : V → Hp → VK → Prop} (ho : UnR X (unaryOp op) r) (ha : PE X a ta) : PE X (.UnaryOp op a pos) (tUn r ta) := by
  intro pins s σ H Q I h
  exact UnaryOp_ (thn (ha pins s σ H _ I h) fun v s1 ⟨x, H1, I1, r1, q1⟩ => ho pins s1 σ H1 x v Q I1 r1 q1)
theorem opI {f : Value → Value → Sem Value} {C : Int → Int → Prop} {g : Int → Int → Int}
    (rule : ∀ (i j : Int) (t u : Tok) (s : Shared) (Q : Value → Shared → Prop) (E : Value → Shared → Prop), C i j → Q (.int (g i j) s.toks) { s with toks := s.toks + 1 } → wpAny (model X.prog X.w) X.A (f (.int i t) (.int j u)) Q E s) :
    OpR X f (rI C fun i j => .int (g i j)) := by
  intro pins s σ H x y v u Q I rx ry h
  obtain ⟨i, j, rfl, rfl, hc, q⟩ := h
  obtain ⟨t, rfl⟩ := rx
  obtain ⟨t', rfl⟩ := ry
  exact rule i j t t' s _ _ hc ⟨.int (g i j), H, I.tok _, ⟨_, rfl⟩, q⟩
theorem opI0 {f : Value → Value → Sem Value} {g : Int → Int → Int}
    (rule : ∀ (i j : Int) (t u : Tok) (s : Shared) (Q : Value → Shared → Prop) (E : Value → Shared → Prop), Q (.int (g i j) s.toks) { s with toks := s.toks + 1 } → wpAny (model X.prog X.w) X.A (f (.int i t) (.int j u)) Q E s) :
    OpR X f (rI0 fun i j => .int (g i j)) := by
  intro pins s σ H x y v u Q I rx ry h
  obtain ⟨i, j, rfl, rfl, q⟩ := h
  obtain ⟨t, rfl⟩ := rx
  obtain ⟨t', rfl⟩ := ry
  exact rule i j t t' s _ _ ⟨.int (g i j), H, I.tok _, ⟨_, rfl⟩, q⟩
theorem opB0 {f : Value → Value → Sem Value} {g : Int → Int → Bool}
    (rule : ∀ (i j : Int) (t u : Tok) (s : Shared) (Q : Value → Shared → Prop) (E : Value → Shared → Prop), Q (.bool (g i j)) s → wpAny (model X.prog X.w) X.A (f (.int i t) (.int j u)) Q E s) :
    OpR X f (rI0 fun i j => .bl (g i j)) := by
  intro pins s σ H x y v u Q I rx ry h
  obtain ⟨i, j, rfl, rfl, q⟩ := h
  obtain ⟨t, rfl⟩ := rx
  obtain ⟨t', rfl⟩ := ry
  exact rule i j t t' s _ _ ⟨.bl (g i j), H, I, rfl, q⟩

def CDiv (i j : Int) : Prop := 0 < j ∧ j < 1073741824
def CPow (i j : Int) : Prop := 0 ≤ j ∧ j ≤ 1000000 ∧ i.natAbs < 2 ^ 64
def CMul (i j : Int) : Prop := (-(2 ^ 64) < i ∧ i < 2 ^ 64) ∨ (-(2 ^ 64) < j ∧ j < 2 ^ 64)
theorem CMul.ok {i j : Int} (h : CMul i j) : IntMulOk i j := by
  rcases h with ⟨h1, h2⟩ | ⟨h1, h2⟩
  · exact .of_left (intBits_le_64 h1 h2)
  · exact .of_right (intBits_le_64 h1 h2)
theorem op_add : OpR X (binaryOp .Add) (rI0 fun i j => .int (i + j)) := opI0 fun _ _ _ _ _ _ _ q => add_int q
theorem op_sub : OpR X (binaryOp .Sub) (rI0 fun i j => .int (i - j)) := opI0 fun _ _ _ _ _ _ _ q => sub_int q
theorem op_mul : OpR X (binaryOp .Mult) (rI CMul fun i j => .int (i * j)) := opI fun _ _ _ _ _ _ _ hc q => mul_int q hc.ok
theorem op_fdiv : OpR X (binaryOp .FloorDiv) (rI CDiv fun i j => .int (i / j)) := opI fun i j _ _ _ _ _ hc q => by
  have h1 : (0 : Int) < j := hc.1
  have h2 : j < 1073741824 := hc.2
  exact floordiv_int (by omega) (by rw [Int.fdiv_eq_ediv_of_nonneg i (by omega)]; exact q) (.inl (PyProof.noPylong_small (by omega)))
theorem op_mod : OpR X (binaryOp .Mod) (rI (fun _ j => 0 < j) fun i j => .int (i % j)) := opI fun i j _ _ _ _ _ hc q => by
  have h1 : (0 : Int) < j := hc
  exact mod_int' (by omega) (by rw [Int.fmod_eq_emod_of_nonneg i (by omega)]; exact q)
theorem op_pow : OpR X (binaryOp .Pow) (rI CPow fun i j => .int (i ^ j.toNat)) := opI fun _ _ _ _ _ _ _ hc q => pow_int_small hc.1 hc.2.1 hc.2.2 q
theorem unI {f : Value → Sem Value} {g : Int → Int}
    (rule : ∀ (i : Int) (t : Tok) (s : Shared) (Q : Value → Shared → Prop) (E : Value → Shared → Prop), Q (.int (g i) s.toks) { s with toks := s.toks + 1 } → wpAny (model X.prog X.w) X.A (f (.int i t)) Q E s) :
    UnR X f (rU fun i => .int (g i)) := by
  intro pins s σ H x v Q I rx h
  obtain ⟨i, rfl, q⟩ := h
  obtain ⟨t, rfl⟩ := rx
  exact rule i t s _ _ ⟨.int (g i), H, I.tok _, ⟨_, rfl⟩, q⟩
theorem un_neg : UnR X (unaryOp .USub) (rU fun i => .int (-i)) := unI fun _ _ _ _ _ q => neg_int q
end

def scal : V → V → Bool
  | .non, .non => true | .non, .int _ => true | .int _, .non => true | .non, .bl _ => true | .bl _, .non => true | .non, .str _ => true | .str _, .non => true
  | .int _, .int _ => true | .bl _, .bl _ => true | .str _, .str _ => true | .byt _, .byt _ => true
  | .int _, .str _ => true | .str _, .int _ => true | .bl _, .str _ => true | .str _, .bl _ => true
  | _, _ => false
def rEq : R2 := fun x y H Q => scal x y = true ∧ Q (.bl (decide (x = y))) H
def rNe : R2 := fun x y H Q => scal x y = true ∧ Q (.bl (!decide (x = y))) H

theorem dec_int {i j : Int} : decide (V.int i = V.int j) = (i == j) := by
  rw [Bool.eq_iff_iff]
  simp
theorem dec_bl {i j : Bool} : decide (V.bl i = V.bl j) = (i == j) := by
  rw [Bool.eq_iff_iff]
  simp
theorem dec_str {i j : Str} : decide (V.str i = V.str j) = (i == j) := by
  rw [Bool.eq_iff_iff]
  simp
theorem dec_byt {i j : Array UInt8} : decide (V.byt i = V.byt j) = (i.toList == j.toList) := by
  rw [Bool.eq_iff_iff]
  cases i
  cases j
  simp

section
variable {X : Cx} {a b c : Expr} {ta tb tc : TE} {pos : Pos}
theorem fin_bl {pins : List (Addr × Obj)} {σ : St} {H : Hp} {s : Shared} {Q : VK} {k k' : Bool} (I : Inv X pins σ H s) (q : Q (.bl k) H) (e : k = k') : EP X pins σ Q (.bool k') s := by
  subst e
  exact ⟨.bl k, H, I, rfl, q⟩
theorem op_eq : OpR X (compareOp .Eq) rEq := by
  intro pins s σ H x y v u Q I rx ry h
  obtain ⟨hs, q⟩ := h
  cases x with
  | non =>
    cases rx
    cases y with
    | non => cases ry; exact PySem.EqNone.eq_none_none (fin_bl I q (by simp))
    | bl j => cases ry; exact PySem.EqNone.eq_none_bool (fin_bl I q (by simp))
    | int j => obtain ⟨t', rfl⟩ := ry; exact PySem.EqNone.eq_none_int (fin_bl I q (by simp))
    | str j => obtain ⟨t', rfl⟩ := ry; exact PySem.EqNone.eq_none_str (fin_bl I q (by simp))
    | _ => exact absurd (show false = true from hs) Bool.false_ne_true
  | bl i =>
    cases rx
    cases y with
    | non => cases ry; exact PySem.EqNone.eq_bool_none (fin_bl I q (by simp))
    | bl j => cases ry; exact eq_bool (fin_bl I q dec_bl)
    | str j => obtain ⟨t', rfl⟩ := ry; exact PySem.EqMixed.eq_bool_str (fin_bl I q (by simp))
    | _ => exact absurd (show false = true from hs) Bool.false_ne_true
  | int i =>
    obtain ⟨t, rfl⟩ := rx
    cases y with
    | non => cases ry; exact PySem.EqNone.eq_int_none (fin_bl I q (by simp))
    | int j => obtain ⟨t', rfl⟩ := ry; exact eq_int (fin_bl I q dec_int)
    | str j => obtain ⟨t', rfl⟩ := ry; exact PySem.EqMixed.eq_int_str (fin_bl I q (by simp))
    | _ => exact absurd (show false = true from hs) Bool.false_ne_true
  | str i =>
    obtain ⟨t, rfl⟩ := rx
    cases y with
    | non => cases ry; exact PySem.EqNone.eq_str_none (fin_bl I q (by simp))
    | bl j => cases ry; exact PySem.EqMixed.eq_str_bool (fin_bl I q (by simp))
    | int j => obtain ⟨t', rfl⟩ := ry; exact PySem.EqMixed.eq_str_int (fin_bl I q (by simp))
    | str j => obtain ⟨t', rfl⟩ := ry; exact eq_str (fin_bl I q dec_str)
    | _ => exact absurd (show false = true from hs) Bool.false_ne_true
  | byt i =>
    obtain ⟨t, rfl⟩ := rx
    cases y with
    | byt j => obtain ⟨t', rfl⟩ := ry; exact PySem.W.eq_bytes (fin_bl I q dec_byt)
    | _ => exact absurd (show false = true from hs) Bool.false_ne_true
  | _ => cases y <;> exact absurd (show false = true from hs) Bool.false_ne_true
theorem op_ne : OpR X (compareOp .NotEq) rNe := by
  intro pins s σ H x y v u Q I rx ry h
  obtain ⟨hs, q⟩ := h
  cases x with
  | non =>
    cases rx
    cases y with
    | non => cases ry; exact PySem.EqNone.ne_none_none (fin_bl I q (by simp))
    | bl j => cases ry; exact PySem.EqNone.ne_none_bool (fin_bl I q (by simp))
    | int j => obtain ⟨t', rfl⟩ := ry; exact PySem.EqNone.ne_none_int (fin_bl I q (by simp))
    | str j => obtain ⟨t', rfl⟩ := ry; exact PySem.EqNone.ne_none_str (fin_bl I q (by simp))
    | _ => exact absurd (show false = true from hs) Bool.false_ne_true
  | bl i =>
    cases rx
    cases y with
    | non => cases ry; exact PySem.EqNone.ne_bool_none (fin_bl I q (by simp))
    | bl j => cases ry; exact ne_bool (fin_bl I q (congrArg not dec_bl))
    | str j => obtain ⟨t', rfl⟩ := ry; exact PySem.EqMixed.ne_bool_str (fin_bl I q (by simp))
    | _ => exact absurd (show false = true from hs) Bool.false_ne_true
  | int i =>
    obtain ⟨t, rfl⟩ := rx
    cases y with
    | non => cases ry; exact PySem.EqNone.ne_int_none (fin_bl I q (by simp))
    | int j => obtain ⟨t', rfl⟩ := ry; exact ne_int (fin_bl I q (congrArg not dec_int))
    | str j => obtain ⟨t', rfl⟩ := ry; exact PySem.EqMixed.ne_int_str (fin_bl I q (by simp))
    | _ => exact absurd (show false = true from hs) Bool.false_ne_true
  | str i =>
    obtain ⟨t, rfl⟩ := rx
    cases y with
    | non => cases ry; exact PySem.EqNone.ne_str_none (fin_bl I q (by simp))
    | bl j => cases ry; exact PySem.EqMixed.ne_str_bool (fin_bl I q (by simp))
    | int j => obtain ⟨t', rfl⟩ := ry; exact PySem.EqMixed.ne_str_int (fin_bl I q (by simp))
    | str j => obtain ⟨t', rfl⟩ := ry; exact ne_str (fin_bl I q (congrArg not dec_str))
    | _ => exact absurd (show false = true from hs) Bool.false_ne_true
  | byt i =>
    obtain ⟨t, rfl⟩ := rx
    cases y with
    | byt j => obtain ⟨t', rfl⟩ := ry; exact PySem.W.ne_bytes (fin_bl I q (congrArg not dec_byt))
    | _ => exact absurd (show false = true from hs) Bool.false_ne_true
  | _ => cases y <;> exact absurd (show false = true from hs) Bool.false_ne_true

theorem op_lt : OpR X (compareOp .Lt) (rI0 fun i j => .bl (decide (i < j))) := opB0 fun _ _ _ _ _ _ _ q => lt_int q
theorem op_le : OpR X (compareOp .LtE) (rI0 fun i j => .bl (decide (i ≤ j))) := opB0 fun _ _ _ _ _ _ _ q => le_int q
theorem op_gt : OpR X (compareOp .Gt) (rI0 fun i j => .bl (decide (j < i))) := opB0 fun _ _ _ _ _ _ _ q => gt_int q
theorem op_ge : OpR X (compareOp .GtE) (rI0 fun i j => .bl (decide (j ≤ i))) := opB0 fun _ _ _ _ _ _ _ q => ge_int q
theorem nomark (b : Expr) {op : CmpOp} (h : op ≠ .In := by decide) (h2 : op ≠ .NotIn := by decide) : behindInMarks op b = false := by
  have e1 : (op == CmpOp.In) = false := by cases op <;> first | rfl | exact absurd rfl h
  have e2 : (op == CmpOp.NotIn) = false := by cases op <;> first | rfl | exact absurd rfl h2
  cases b <;> simp [behindInMarks, e1, e2]
theorem pe_cmpR {op : CmpOp} {r : R2} (ho : OpR X (compareOp op) r) (ha : PE X a ta) (hb : PE X b tb) (hm : behindInMarks op b = false) : PE X (.Compare a [op] [b] pos) (tOp r ta tb) := by
  intro pins s σ H Q I h
  exact wpAny_Compare1 (binT ha hb I h fun v u s2 x y H2 I2 rx ry q => ho pins s2 σ H2 x y v u Q I2 rx ry q) hm
def tTest (t : TE) : TT := fun σ H Q => t σ H fun x H' => ∃ k, x = .bl k ∧ Q k H'
theorem pt_cmpR {op : CmpOp} {r : R2} (ho : OpR X (compareOp op) r) (ha : PE X a ta) (hb : PE X b tb) (hm : behindInMarks op b = false) : PT X (.Compare a [op] [b] pos) (tTest (tOp r ta tb)) := by
  intro pins s σ H Q I h
  refine wpAny_isTrue_Compare1 (thn (ha pins s σ H _ I h) fun v s1 ⟨x, H1, I1, r1, q1⟩ => thn (hb pins s1 σ H1 _ I1 q1) fun u s2 ⟨y, H2, I2, r2, q2⟩ =>
    thn (ho pins s2 σ H2 x y v u _ I2 r1 r2 q2) fun c s3 ⟨z, H3, I3, r3, k, e, q3⟩ => ?_) hm
  subst e
  cases r3
  exact wpAny_truthy_bool ⟨H3, I3, q3⟩
def tChain (r r' : R2) (ta tb tc : TE) : TE := fun σ H Q => ta σ H fun x H1 => tb σ H1 fun y H2 => r x y H2 fun z H3 => ∃ k, z = .bl k ∧
  (if k = true then tc σ H3 fun w' H4 => r' y w' H4 Q else Q (.bl false) H3)
theorem pe_chain {op op' : CmpOp} {r r' : R2} (ho : OpR X (compareOp op) r) (ho' : OpR X (compareOp op') r') (ha : PE X a ta) (hb : PE X b tb) (hc : PE X c tc)
    (hm : lastMarks [op, op'] [b, c] = false := by with_unfolding_all rfl) : PE X (.Compare a [op, op'] [b, c] pos) (tChain r r' ta tb tc) := by
  intro pins s σ H Q I h
  refine Compare_chain (thn (ha pins s σ H _ I h) fun v s1 ⟨x, H1, I1, r1, q1⟩ => chain_link (thn (hb pins s1 σ H1 _ I1 q1) fun u s2 ⟨y, H2, I2, r2, q2⟩ =>
    thn (ho pins s2 σ H2 x y v u _ I2 r1 r2 q2) fun d s3 ⟨z, H3, I3, r3, k, e, q3⟩ => ?_)) hm
  subst e
  cases r3
  refine wpAny_truthy_bool ?_
  cases k with
  | false => exact ite_ff ⟨.bl false, H3, I3, rfl, q3⟩
  | true => exact ite_tt (chain_last (thn (hc pins s3 σ H3 _ I3 q3) fun w' s4 ⟨z', H4, I4, r4, q4⟩ => ho' pins s4 σ H4 y z' u w' Q I4 r2 r4 q4))
theorem line63 : (sizeLine : Nat) < 2 ^ 63 := by rw [sizeLine_eq]; decide
theorem vals1 {x : V} {us : List Value} (r : Vals [x] us) : ∃ u, us = [u] ∧ RelV x u := by
  cases r with
  | cons r1 r2 => cases r2; exact ⟨_, rfl, r1⟩
theorem vals2 {x y : V} {us : List Value} (r : Vals [x, y] us) : ∃ u w', us = [u, w'] ∧ RelV x u ∧ RelV y w' := by
  cases r with
  | cons r1 r2 =>
    cases r2 with
    | cons r3 r4 => cases r4; exact ⟨_, _, rfl, r1, r3⟩
theorem call_max2 (hc : X.calm = true) : CallR X (.builtin "max") (fun xs H Q => ∃ i j, xs = [.int i, .int j] ∧ Q (.int (if j > i then j else i)) H) := by
  intro pins s σ H xs us Q I r h
  obtain ⟨i, j, rfl, q⟩ := h
  obtain ⟨u, w', rfl, ⟨t, rfl⟩, ⟨t', rfl⟩⟩ := vals2 r
  refine max_two_ints (I.ok.hd hc) fun h' tk k => ⟨_, H, I.kept k, ?_, q⟩
  by_cases hj : j > i
  · rw [if_pos hj, if_pos hj]; exact ⟨_, rfl⟩
  · rw [if_neg hj, if_neg hj]; exact ⟨_, rfl⟩
theorem call_min2 (hc : X.calm = true) : CallR X (.builtin "min") (fun xs H Q => ∃ i j, xs = [.int i, .int j] ∧ Q (.int (if j < i then j else i)) H) := by
  intro pins s σ H xs us Q I r h
  obtain ⟨i, j, rfl, q⟩ := h
  obtain ⟨u, w', rfl, ⟨t, rfl⟩, ⟨t', rfl⟩⟩ := vals2 r
  refine min_two_ints (I.ok.hd hc) fun h' tk k => ⟨_, H, I.kept k, ?_, q⟩
  by_cases hj : j < i
  · rw [if_pos hj, if_pos hj]; exact ⟨_, rfl⟩
  · rw [if_neg hj, if_neg hj]; exact ⟨_, rfl⟩
theorem call_int1 : CallR X (.type "int") (fun xs H Q => (∃ i, xs = [.int i] ∧ Q (.int i) H) ∨ ∃ k, xs = [.bl k] ∧ Q (.int (if k then 1 else 0)) H) := by
  intro pins s σ H xs us Q I r h
  rcases h with ⟨i, rfl, q⟩ | ⟨k, rfl, q⟩
  · obtain ⟨u, rfl, t, rfl⟩ := vals1 r
    exact call_int_int ⟨.int i, H, I, ⟨_, rfl⟩, q⟩
  · obtain ⟨u, rfl, r1⟩ := vals1 r
    cases r1
    exact call_int_bool ⟨.int (if k then 1 else 0), H, I.tok _, ⟨_, rfl⟩, q⟩
end
end L2

namespace L2
open PySem PySem.Spec PyProof.Rows

structure ObjM (h : Heap) (x dx C : Addr) (mA : Str → Option Value) : Prop where
  obj : h.get? x = some (PySem.W.instObj C dx)
  ns : h.Ns1 dx mA
  ne : dx ≠ x

theorem lookIn_ns {h : Heap} {dx : Addr} {mA : Str → Option Value} (n : h.Ns1 dx mA) : ∃ od, h.get? dx = some od ∧ ∀ name, PySem.W.lookIn name od = some (mA name) := by
  obtain ⟨o, es, ep, ho, hd, hk, _, hm⟩ := n
  refine ⟨o, ho, fun name => ?_⟩
  have e := hm name
  unfold nsFind findBy at e
  rw [← Array.find?_toList] at e
  unfold PySem.W.lookIn
  rw [hd]
  dsimp only
  split
  · rename_i y q
    rw [q] at e
    exact congrArg some e
  · rename_i q
    rw [q] at e
    have a : es.toList.any (·.refKey) = false := by
      rw [List.any_eq_false]
      intro y hy
      obtain ⟨z, t, hkey⟩ := hk y (Array.mem_toList_iff.mp hy)
      simp [DictEntry.refKey, hkey]
    have a' : ¬ es.toList.any (·.refKey) = true := by rw [a]; exact Bool.false_ne_true
    rw [if_neg a']
    exact congrArg some e

theorem ObjM.look {h : Heap} {x dx C : Addr} {mA : Str → Option Value} (I : ObjM h x dx C mA) : ∃ od, PySem.W.InstAt h x (PySem.W.instObj C dx) C (some od) ∧ ∀ name, PySem.W.lookIn name od = some (mA name) :=
  let ⟨od, ho, hl⟩ := lookIn_ns I.ns
  ⟨od, ⟨I.obj, rfl, rfl, ho⟩, hl⟩

section
variable {prog : Program} {w : World} {A : Around} {E : Value → Shared → Prop} {s : Shared} {K : PySem.W.Frag} {x dx C f : Addr} {mA : Str → Option Value} {name : Str} {v : Value}

end

theorem RelO.some_of {v : V} {o : Option Value} (r : RelO (some v) o) : ∃ u, o = some u ∧ RelV v u := by
  cases o with
  | none => exact (show False from r).elim
  | some u => exact ⟨u, rfl, r⟩
section
variable {P : Program} {w : World} {H H' : Hp} {h h' : Heap} {a C dx : Addr} {fs fs' : List (Str × V)}
theorem ins_get (hok : HOk P w H h) (e : H a = some (.ins C dx fs)) : ∃ mA, ObjM h a dx C mA ∧ (∀ f, RelO (fs.lookup f) (mA f)) ∧ PySem.Within mA (fs.map (·.1)) ∧ fs.length ≤ 1000 ∧ H dx = some (.own a) := by
  obtain ⟨d, z, ne, ob, mA, n, r, q⟩ := (show ObjOk P w H h a (.ins C dx fs) from hok a _ e)
  exact ⟨mA, ⟨ob, n, ne⟩, r, q, z, d⟩
end

structure Cls (K : PySem.W.Frag) (C : Addr) : Prop where
  pg : PySem.W.plainGet K C Str.empty = true
  hd : PySem.W.hasDictIn K C = true
  po : PySem.W.plainOver K C = true
  sa : PySem.W.findIn K (.ref C) "__setattr__" = some (some (.builtin "object.__setattr__"))
theorem Cls.get {K : PySem.W.Frag} {C : Addr} (c : Cls K C) (f : Str) : PySem.W.plainGet K C f = true := c.pg
section
variable {X : Cx} {pins : List (Addr × Obj)} {σ : St} {H : Hp} {s : Shared} {a C dx : Addr} {fs : List (Str × V)} {f : Str} {v : V} {A : Around} {E : Value → Shared → Prop}

end

section
variable {X : Cx} {o e value : Expr} {f : Str} {pos pos' tpos : Pos} {ta tv : TE}
end

section
variable {X : Cx} {pins : List (Addr × Obj)} {σ : St} {H : Hp} {s : Shared} {A : Around} {E : Value → Shared → Prop} {Q : Value → Shared → Prop} {c : Value} {b : Bool}
inductive TyOf (K : PySem.W.Frag) (H : Hp) : V → Value → Prop where
  | non : TyOf K H .non (.type "NoneType")
  | bl (x : Bool) : TyOf K H (.bl x) (.type "bool")
  | int (i : Int) : TyOf K H (.int i) (.type "int")
  | str (x : Str) : TyOf K H (.str x) (.type "str")
  | flt (x : UInt64) : TyOf K H (.flt x) (.type "float")
  | lst {a : Addr} {xs : List V} (e : H a = some (.lst xs)) : TyOf K H (.ref a) (.type "list")
  | frz {a : Addr} {o : Obj} {xs : List V} (e : H a = some (.frz o (.lst xs))) : TyOf K H (.ref a) (.type "list")
  | tup {a : Addr} {xs : List V} (e : H a = some (.tup xs)) : TyOf K H (.ref a) (.type "tuple")
  | dK {a : Addr} {kvs : List (Key × V)} (e : H a = some (.dK kvs)) : TyOf K H (.ref a) (.type "dict")
  | dT {a : Addr} {kvs : List (List Key × V)} (e : H a = some (.dT kvs)) : TyOf K H (.ref a) (.type "dict")
  | ins {a C dx : Addr} {fs : List (Str × V)} (e : H a = some (.ins C dx fs)) (cl : Cls K C) (ha : PySem.W.findIn K (.ref C) "__class__" = some (some (.builtin "object.__class__")))
      (hn : PySem.W.specialIn K (.builtin "object.__class__") "__get__" = some (some (.builtin "getset_descriptor.__get__"))) (htk : PySem.W.takesIn K (.builtin "object.__class__") = some true)
      (hm : PySem.W.mroIn K C (.type "object") = some true) : TyOf K H (.ref a) (.ref C)
theorem isinst_ok {x : V} {u t : Value} (I : Inv X pins σ H s) (rx : RelV x u) (ty : TyOf X.K H x t) (e : PySem.W.kitOne X.K t c = some b) (h : ∀ tk, Q (.bool b) { s with toks := tk }) :
    wpAny (model X.prog X.w) A (call (.builtin "isinstance") [u, c]) Q E s := by
  cases ty with
  | non => cases (show u = Value.none from rx); exact PySem.W.kia_one PySem.W.kitx_none I.kIn True.intro e (fun z => nomatch z) h
  | bl y => cases (show u = Value.bool y from rx); exact PySem.W.kia_one PySem.W.kitx_bool I.kIn True.intro e (fun z => nomatch z) h
  | int i => obtain ⟨t, q⟩ := (show ∃ t, u = Value.int i t from rx); cases q; exact PySem.W.kia_one PySem.W.kitx_int I.kIn True.intro e (fun z => nomatch z) h
  | str y => obtain ⟨t, q⟩ := (show ∃ t, u = Value.str y t from rx); cases q; exact PySem.W.kia_one PySem.W.kitx_str I.kIn True.intro e (fun z => nomatch z) h
  | flt y => obtain ⟨t, q⟩ := (show ∃ t, u = Value.float y t from rx); cases q; exact PySem.W.kia_one PySem.W.kitx_float I.kIn True.intro e (fun z => nomatch z) h
  | @lst a xs ea =>
    cases (show u = Value.ref a from rx)
    obtain ⟨_, _, n, _, h1⟩ := (show ObjOk X.prog X.w H s.heap a (.lst xs) from I.hok a _ ea)
    exact PySem.W.kia_one PySem.W.kitx_list I.kIn ⟨_, h1, rfl⟩ e (fun z => nomatch z) h
  | @frz a ob xs ea =>
    cases (show u = Value.ref a from rx)
    obtain ⟨_, _, _, n, _, h1⟩ := (show ObjOk X.prog X.w H s.heap a (.frz ob (.lst xs)) from I.hok a _ ea)
    exact PySem.W.kia_one PySem.W.kitx_list I.kIn ⟨_, h1, rfl⟩ e (fun z => nomatch z) h
  | @tup a xs ea =>
    cases (show u = Value.ref a from rx)
    obtain ⟨_, _, _, p⟩ := (show ObjOk X.prog X.w H s.heap a (.tup xs) from I.hok a _ ea)
    obtain ⟨o, h1, h2, _⟩ := p
    exact PySem.W.kia_one PySem.W.kitx_tuple I.kIn ⟨o, h1, h2⟩ e (fun z => nomatch z) h
  | @dK a kvs ea =>
    cases (show u = Value.ref a from rx)
    obtain ⟨_, _, vs, _, p⟩ := (show ObjOk X.prog X.w H s.heap a (.dK kvs) from I.hok a _ ea)
    obtain ⟨o, es, ep, h1, h2, _⟩ := p
    exact PySem.W.kia_one PySem.W.kitx_dict I.kIn ⟨o, h1, h2.1⟩ e (fun z => nomatch z) h
  | @dT a kvs ea =>
    cases (show u = Value.ref a from rx)
    obtain ⟨_, _, xs, _, o, es, ep, h1, h2, _⟩ := (show ObjOk X.prog X.w H s.heap a (.dT kvs) from I.hok a _ ea)
    exact PySem.W.kia_one PySem.W.kitx_dict I.kIn ⟨o, h1, h2.1⟩ e (fun z => nomatch z) h
  | @ins a C dx fs ea cl ha hn htk hm =>
    cases (show u = Value.ref a from rx)
    obtain ⟨mA, O, _⟩ := ins_get I.hok ea
    obtain ⟨od, J, _⟩ := O.look
    exact PySem.W.kia_one (PySem.W.kitx_own (cl.get _) cl.hd ha hn htk hm) I.kIn J e (fun z => nomatch z) h
end
end L2

namespace L2
open PySem PySem.Spec PyProof.Rows

structure Room (k : Nat) (A : Around) : Prop where
  hd : A.handled = none
  dp : A.depth + 3 * k + 5 < recursionLimit
  un : A.units + 16 * k + 200 < cLine
  gd : A.guards = some []
theorem Room.mono {j k : Nat} {A : Around} (r : Room k A) (h : j ≤ k) : Room j A := ⟨r.hd, by have := r.dp; omega, by have := r.un; omega, r.gd⟩
theorem Room.deeper {k : Nat} {A : Around} (r : Room (k + 1) A) (env : Env) : Room k (A.deeper env) :=
  ⟨r.hd, by have := r.dp; show A.depth + 1 + 3 * k + 5 < _; omega, by have := r.un; show A.units + 3 + 16 * k + 200 < _; omega, r.gd⟩
theorem Room.depth {k : Nat} {A : Around} (r : Room k A) : A.depth < recursionLimit := by have := r.dp; omega
theorem Room.units {k : Nat} {A : Around} (r : Room k A) : A.units + 64 < cLine := by have := r.un; omega
def tNil : TA := fun _ H Q => Q [] H
def tCons (ta : TE) (tr : TA) : TA := fun σ H Q => ta σ H fun x H1 => tr σ H1 fun xs H2 => Q (x :: xs) H2
section
variable {X : Cx} {e : Expr} {es : List Expr} {te : TE} {t : TA} {pos : Pos}
theorem pa_nil : PA X [] tNil := fun _ _ _ _ H Q I h => Calls.spliced_nil ⟨[], H, I, .nil, h⟩
theorem pa_cons (ha : PE X e te) (hr : PA X es t) (hs : starEach (e :: es) X.env = (false, eval e X.env) :: starEach es X.env := by rfl) : PA X (e :: es) (tCons te t) := by
  intro pos pins s σ H Q I h
  rw [hs]
  show wpAny _ _ (spliced ((false, eval e X.env) :: backTo pos (starEach es X.env))) _ _ s
  refine Calls.spliced_cons (thn (ha pins s σ H _ I h) fun u s1 ⟨x, H1, I1, r1, q1⟩ => ?_)
  exact thn (hr pos pins s1 σ H1 _ I1 q1) fun us s2 ⟨xs, H2, I2, r2, q2⟩ => ⟨x :: xs, H2, I2, .cons r1 r2, q2⟩

def tTup (t : TA) : TE := fun σ H Q => t σ H fun xs H1 => xs.length ≤ sizeLine ∧ ∀ p, H1 p = none → Q (.ref p) (upd H1 p (.tup xs))
def tLst (t : TA) : TE := fun σ H Q => t σ H fun xs H1 => xs.length ≤ sizeLine ∧ ∀ p, H1 p = none → Q (.ref p) (upd H1 p (.lst xs))
theorem pe_tup {x1} (h : PA X es t) : PE X (.Tuple es x1 pos) (tTup t) := by
  intro pins s σ H Q I hq
  refine wpAny_Tuple_spliced (thn (h pos pins s σ H _ I hq) fun us s1 ⟨xs, H1, I1, r, z, q⟩ => ⟨by rw [← r.length]; exact z, ?_⟩)
  have hf : H1 s1.heap.objs.size = none := I1.hok.fresh (Nat.le_refl _)
  refine ⟨.ref s1.heap.objs.size, upd H1 s1.heap.objs.size (.tup xs), I1.laid (t' := s1.toks) (fun b u e => Heap.get?_push_of_some _ e) (Nat.le_refl _) ?_, rfl, q _ hf⟩
  exact ⟨z, us, r, ⟨_, Heap.get?_push_size _ rfl, rfl, _, rfl, rfl⟩⟩
theorem pe_lst (h : PA X es t) : PE X (.List es pos) (tLst t) := by
  intro pins s σ H Q I hq
  refine wpAny_List_spliced (thn (h pos pins s σ H _ I hq) fun us s1 ⟨xs, H1, I1, r, z, q⟩ => ⟨by rw [← r.length]; exact z, ?_⟩)
  have hf : H1 s1.heap.objs.size = none := I1.hok.fresh (Nat.le_refl _)
  refine ⟨.ref s1.heap.objs.size, upd H1 s1.heap.objs.size (.lst xs), I1.laid (t' := s1.toks) (fun b u e => Heap.get?_push_of_some _ e) (Nat.le_refl _) ?_, rfl, q _ hf⟩
  exact ⟨z, us, 0, r, Heap.get?_push_size _ rfl⟩
end

abbrev Sp := List V → Hp → VK → XK → Prop
abbrev CXT := List Env → Hp → Shared → XK → Value → Shared → Prop

structure Env0 (P : Program) (w : World) (K : PySem.W.Frag) (mg : Str → Option Value) (base : Heap) (A : Around) (outer : List Env) (s : Shared) (H : Hp) : Prop where
  frames : A.frames = some outer
  mod : Mod K mg base
  bs : ∀ b o, base.get? b = some o → s.heap.get? b = some o ∧ H b = none
  bsz : base.objs.size ≤ s.heap.objs.size
  funs : s.heap.FunFrames base outer
  frf : ∀ b ∈ frs outer, H b = none
  hok : HOk P w H s.heap
  bare : AllBare s.gens
def CE (outer : List Env) (P : Program) (w : World) (H : Hp) (s : Shared) (Q : VK) (u : Value) (s' : Shared) : Prop :=
  ∃ v H', s'.os = s.os ∧ AllBare s'.gens ∧ Un (frs outer) [] H H' s.heap s'.heap ∧ HOk P w H' s'.heap ∧ RelV v u ∧ Q v H'
def CR (CX : CXT) (outer : List Env) (P : Program) (w : World) (H : Hp) (s : Shared) (Q : VK) (E : XK) (r : Result) (s' : Shared) : Prop :=
  match r with
  | .ok (.ret u) => CE outer P w H s Q u s'
  | .ok _ => False
  | .error e => CX outer H s E e s'
structure FnOk (P : Program) (w : World) (K : PySem.W.Frag) (mg : Str → Option Value) (base : Heap) (CX : CXT) (k : Nat) (f : Addr) (fd : FuncData) (ps : List Str) (sp : Sp) : Prop where
  len : ∀ vs H Q E, sp vs H Q E → vs.length = ps.length
  run : ∀ (A : Around) (outer : List Env) (s : Shared) (H : Hp) (args : Args) (us : List Value) (vs : List V) (Q : VK) (E : XK), Room k A → Env0 P w K mg base A outer s H → BindsTo s fd args (ps.zip us) → Vals vs us → sp vs H Q E →
    codeAny (model P w) A (.call (.ref f) args) (CR CX outer P w H s Q E) s
section
variable {X : Cx} {pins : List (Addr × Obj)} {σ : St} {H : Hp} {s s' : Shared}
theorem Inv.env0 (I : Inv X pins σ H s) : Env0 X.prog X.w X.K X.mg X.base X.A X.stack s H :=
  ⟨I.ok.frames, I.ok.mod, I.bs, Nat.le_trans I.ok.bsz I.sz, I.stack, I.stkFree, I.hok, I.bare⟩
theorem Inv.after {Q : VK} {u : Value} (I : Inv X pins σ H s) (h : CE X.stack X.prog X.w H s Q u s') : EP X pins σ Q u s' := by
  obtain ⟨v, H', os, bare, un, hok, r, q⟩ := h
  obtain ⟨hh, g, d, t, os'⟩ := s'
  obtain rfl : os' = s.os := os
  exact ⟨v, H', I.call (h' := hh) (g' := g) (d' := d) (t' := t) (ch := []) un hok bare (fun b z => absurd z (by simp)), r, q⟩
end

def tCall (sp : Sp) (dvs : List V) (E : XK) (t : TA) : TE := fun σ H Q => t σ H fun vs H1 => sp (vs ++ dvs) H1 Q E
def Binds (K : PySem.W.Frag) (fd : FuncData) (ps : List Str) (ds : List Value) : Prop :=
  ∀ (s : Shared) (us : List Value), K.In s.heap → (us ++ ds).length = ps.length → BindsTo s fd ⟨us, []⟩ (ps.zip (us ++ ds))
theorem Binds.all {K : PySem.W.Frag} {fd : FuncData} {ps : List Str} (h : ∀ us : List Value, us.length = ps.length → bindArgs fd ⟨us, []⟩ = pure (ps.zip us)) : Binds K fd ps [] := fun s us _ hl => by
  rw [List.append_nil] at hl ⊢
  exact .of_eq (h us hl)

def Passes (CX : CXT) (X : Cx) (E : XK) : Prop := ∀ (pins : List (Addr × Obj)) (σ : St) (H : Hp) (s : Shared) (e : Value) (s' : Shared), Inv X pins σ H s → CX X.stack H s E e s' → X.xe e s'

section
variable {X : Cx} {CX : CXT} {k : Nat} {f C : Addr} {fd : FuncData} {ps : List Str} {sp : Sp} {dvs : List V} {ds : List Value} {E : XK} {x m : Str} {p pos apos : Pos} {e o : Expr} {es : List Expr} {ta : TE} {t : TA}

theorem run_fn {pins : List (Addr × Obj)} {σ : St} {H : Hp} {s : Shared} {Q : VK} {us : List Value} {vs : List V} (F : FnOk X.prog X.w X.K X.mg X.base CX k f fd ps sp) (hr : Room k X.A) (hb : Binds X.K fd ps ds) (hd : Vals dvs ds) (hx : Passes CX X E)
    (I : Inv X pins σ H s) (r : Vals vs us) (h : sp (vs ++ dvs) H Q E) : wpAny (model X.prog X.w) X.A (call (.ref f) us) (EP X pins σ Q) X.xe s := by
  have r2 : Vals (vs ++ dvs) (us ++ ds) := r.append hd
  have hl : (us ++ ds).length = ps.length := by rw [← r2.length]; exact F.len _ _ _ _ h
  refine wpAny_call (codeAny_mono (F.run X.A X.stack s H ⟨us, []⟩ (us ++ ds) (vs ++ dvs) Q E hr I.env0 (hb s us I.kIn hl) r2 h) fun r s' hq => ?_)
  cases r with
  | error e => exact hx pins σ H s e s' I hq
  | ok fl =>
    cases fl with
    | ret u => exact I.after hq
    | next => exact False.elim hq
    | brk => exact False.elim hq
    | cont => exact False.elim hq

theorem pe_call (F : FnOk X.prog X.w X.K X.mg X.base CX k f fd ps sp) (hr : Room k X.A) (hg : Gl X x) (hm : X.mg x = some (.ref f)) (hk : PySem.W.keepIn X.K (.ref f) = true) (hb : Binds X.K fd ps ds) (hd : Vals dvs ds) (hx : Passes CX X E)
    (ha : PA X (e :: es) t) (hdb : (x == ("__debug__" : Str)) = false := by decide) (he : starEach (e :: es) X.env = (false, eval e X.env) :: starEach es X.env := by rfl) (hpl : (backTo pos (starEach es X.env)).any (·.1) = false := by rfl) :
    PE X (.Call (.Name x p) (e :: es) [] pos) (tCall sp dvs E t) := by
  intro pins s σ H Q I h
  refine wpAny_Call_Name_kw (ld_glob I hg hm ?_ hdb)
  refine PySem.W.callWith_K (h₀ := X.base) I.ok.mod.kin hk (thn (ha pos pins s σ H _ I h) fun us s1 ⟨vs, H1, I1, r, q⟩ => ⟨I1.kIn, ?_⟩) he hpl
  exact run_fn F hr hb hd hx I1 r q
end

section
variable {X : Cx} {CX : CXT} {k : Nat} {f C : Addr} {fd : FuncData} {ps ks : List Str} {sp : Sp} {E : XK} {x m : Str} {p pos apos kpos : Pos} {e o : Expr} {es : List Expr} {kws : List Keyword} {te ta : TE} {t tk : TA} {nm : Option Str}
variable {g : List Value → List Value → List Value} {gV : List V → List V → List V}
end

structure FnScope (N P : List Str) (sc : Scope) : Prop where
  kind : sc.kind = .function
  co : sc.isCoroutine = false
  gen : sc.isGenerator = false
  nd : N.Nodup
  pre : N.take P.length = P
  par : ∀ x ∈ P, sc.names.lookup x = some .local ∨ sc.names.lookup x = some .cell
  nofree : ∀ y ∈ sc.names, y.2 ≠ .free

theorem bindL_out {kindOf : Str → Option NameKind} {x : Str} : ∀ {binds : List (Str × Value)} {m : Str → Option Value}, (∀ v, (x, v) ∉ binds) → bindL kindOf binds m x = m x
  | [], _, _ => rfl
  | (n, v) :: r, m, h => by
    unfold bindL
    rw [bindL_out fun w hw => h w (List.mem_cons_of_mem _ hw)]
    split
    · have : x ≠ n := by rintro rfl; exact h v List.mem_cons_self
      simp [this]
    · rfl
theorem bindC_out {kindOf : Str → Option NameKind} {x : Str} : ∀ {binds : List (Str × Value)} {m : Str → Option Value}, (∀ v, (x, v) ∉ binds) → bindC kindOf binds m x = m x
  | [], _, _ => rfl
  | (n, v) :: r, m, h => by
    unfold bindC
    rw [bindC_out fun w hw => h w (List.mem_cons_of_mem _ hw)]
    split
    · rfl
    · have : x ≠ n := by rintro rfl; exact h v List.mem_cons_self
      simp [this]
theorem bindL_get {kindOf : Str → Option NameKind} {x : Str} {v : Value} : ∀ {P : List Str} {vs : List Value} {i : Nat} {m : Str → Option Value}, P.Nodup → P[i]? = some x → vs[i]? = some v → kindOf x = some .local →
    bindL kindOf (P.zip vs) m x = some v
  | [], _, _, _, _, h, _, _ => by simp at h
  | _ :: _, [], _, _, _, _, h, _ => by simp at h
  | p :: P, w :: vs, 0, m, nd, h1, h2, hk => by
    simp at h1 h2; subst h1; subst h2
    show bindL kindOf ((p, w) :: P.zip vs) m p = _
    unfold bindL
    rw [bindL_out fun v hv => (List.nodup_cons.mp nd).1 (List.of_mem_zip hv).1, if_pos hk]
    simp
  | p :: P, w :: vs, i + 1, m, nd, h1, h2, hk => by
    show bindL kindOf ((p, w) :: P.zip vs) m x = _
    unfold bindL
    exact bindL_get (i := i) (List.nodup_cons.mp nd).2 (by simpa using h1) (by simpa using h2) hk
theorem bindC_get {kindOf : Str → Option NameKind} {x : Str} {v : Value} : ∀ {P : List Str} {vs : List Value} {i : Nat} {m : Str → Option Value}, P.Nodup → P[i]? = some x → vs[i]? = some v → kindOf x ≠ some .local →
    bindC kindOf (P.zip vs) m x = some v
  | [], _, _, _, _, h, _, _ => by simp at h
  | _ :: _, [], _, _, _, _, h, _ => by simp at h
  | p :: P, w :: vs, 0, m, nd, h1, h2, hk => by
    simp at h1 h2; subst h1; subst h2
    show bindC kindOf ((p, w) :: P.zip vs) m p = _
    unfold bindC
    rw [bindC_out fun v hv => (List.nodup_cons.mp nd).1 (List.of_mem_zip hv).1, if_neg hk]
    simp
  | p :: P, w :: vs, i + 1, m, nd, h1, h2, hk => by
    show bindC kindOf ((p, w) :: P.zip vs) m x = _
    unfold bindC
    exact bindC_get (i := i) (List.nodup_cons.mp nd).2 (by simpa using h1) (by simpa using h2) hk

def start (N : List Str) (vs : List V) : St := vs.map some ++ List.replicate (N.length - vs.length) none

def cxOf (CX : CXT) (P : Program) (w : World) (K : PySem.W.Frag) (mg : Str → Option Value) (base : Heap) (N : List Str) (qual : Str) (scope : Scope) (f : Addr) (cd : Value) (A : Around) (outer : List Env) (s : Shared) (H : Hp) (E : XK) : Cx where
  prog := P
  w := w
  K := K
  mg := mg
  base := base
  A := A.deeper (envOfC qual scope s.heap.objs.size f cd)
  N := N
  s₀ := s
  H₀ := H
  env := envOfC qual scope s.heap.objs.size f cd
  outer := outer
  stack := envOfC qual scope s.heap.objs.size f cd :: outer
  ex := []
  calm := true
  fn := fun _ => true
  pn := []
  xe := fun e s' => wpAny (model P w) (A.deeper (envOfC qual scope s.heap.objs.size f cd)) (leaving (envOfC qual scope s.heap.objs.size f cd) e) (fun _ s'' => CX outer H s E e s'') (fun e' s'' => CX outer H s E e' s'') s'

theorem cell_has {sc : Scope} {n : Nat} {x : Str} (h : sc.names.lookup x = some .cell) : ∃ c, (cellsFrom n sc.names []).lookup x = some c := by
  have q := PySem.W.cellsFrom_some sc.names n [] (.inl h)
  exact Option.isSome_iff_exists.mp q

theorem inv_start {CX : CXT} {P : Program} {w : World} {K : PySem.W.Frag} {mg : Str → Option Value} {base : Heap} {N ps : List Str} {qual : Str} {scope : Scope} {f : Addr} {cd : Value} {A : Around} {outer : List Env} {s s1 : Shared} {H : Hp} {E : XK} {us : List Value} {vs : List V}
    (S : FnScope N ps scope) (hd : A.handled = none) (e0 : Env0 P w K mg base A outer s H) (hl : vs.length = ps.length) (r : Vals vs us)
    (x : InCallC s s.heap.objs.size (bindL (envOfC qual scope s.heap.objs.size f cd).kindOf (ps.zip us) fun _ => none) (cellsFrom (s.heap.objs.size + 1) scope.names []) (bindC (envOfC qual scope s.heap.objs.size f cd).kindOf (ps.zip us) fun _ => none) s1) :
    Inv (cxOf CX P w K mg base N qual scope f cd A outer s H E) [] (start N vs) H s1 := by
  have hpl : ps.length ≤ N.length := by have := congrArg List.length S.pre; rw [List.length_take] at this; omega
  obtain ⟨h1, tk, rfl, hk⟩ := x.done
  have noA : ∀ b : Addr, b ∉ (cxOf CX P w K mg base N qual scope f cd A outer s H E).ex := fun b z => absurd (show b ∈ ([] : List Addr) from z) (by simp)
  refine ⟨⟨e0.mod, S.kind, rfl, rfl, Nat.le_refl _, fun y z c h1 h2 => ?_, fun y hy => ?_, fun y c _ h => ?_, fun _ => hd, Around.frames_deeper e0.frames, .inr ⟨rfl, rfl⟩, fun b z => absurd z (noA b), e0.bs, e0.bsz, fun b _ _ => noA b, fun b z => absurd z (noA b), e0.funs, e0.frf⟩,
    rfl, e0.bare, Un.kept hk, ⟨_, x.toInCall.ns, fun i y v h1 h2 h3 => ?_⟩, fun y c h => ⟨_, x.cell y c h⟩, e0.hok.fresh (Nat.le_refl _), fun y c h => ?_, fun p hp => absurd (show p ∈ ([] : List (Addr × Obj)) from hp) (by simp), e0.hok.kept hk, ?_⟩
  · exact name_of_addr x.apart (PySem.mem_of_lookup h1) (PySem.mem_of_lookup h2)
  · have hy : scope.names.lookup y = some .cell ∨ scope.names.lookup y = some .free := hy
    rcases hy with hy | hy
    · exact cell_has hy
    · exact absurd rfl (S.nofree _ (PySem.mem_of_lookup hy))
  · exact Nat.le_of_lt (x.above y c (PySem.mem_of_lookup h))
  · have hi : i < vs.length := by
      unfold start at h2
      by_cases hi : i < vs.length
      · exact hi
      · rw [List.getElem?_append_right (by simpa using hi)] at h2
        rw [List.getElem?_replicate] at h2
        split at h2 <;> cases h2
    have ha : vs[i]? = some v := by
      unfold start at h2
      rw [List.getElem?_append_left (by simpa using hi), List.getElem?_map] at h2
      cases e : vs[i]? with
      | none => rw [e] at h2; cases h2
      | some a => rw [e] at h2; cases h2; rfl
    obtain ⟨u, hu, rv⟩ := r.get ha
    have hp : ps[i]? = some y := by
      rw [← S.pre, List.getElem?_take_of_lt (by omega)]; exact h1
    have ndP : ps.Nodup := by rw [← S.pre]; exact S.nd.sublist (List.take_sublist _ _)
    refine ⟨u, rv, ?_⟩
    rcases S.par y (List.mem_of_getElem? hp) with k | k
    · exact .inl ⟨k, bindL_get ndP hp hu k⟩
    · obtain ⟨c, e⟩ := cell_has (n := s.heap.objs.size + 1) k
      refine .inr ⟨.inl k, c, e, ?_⟩
      have q := x.cell y c e
      rw [bindC_get ndP hp hu (by show scope.names.lookup y ≠ _; rw [k]; decide)] at q
      exact q
  · exact e0.hok.fresh (Nat.le_of_lt (x.above y c (PySem.mem_of_lookup h)))
  · unfold start
    show _ = N.length
    rw [List.length_append, List.length_map, List.length_replicate]
    omega

theorem fn_of {CX : CXT} {P : Program} {w : World} {K : PySem.W.Frag} {mg : Str → Option Value} {base : Heap} {k : Nat} {f : Addr} {name qual : Str} {params : Arguments} {body : List Stmt} {scope : Scope} {dV kV doc pm cdv ct oc : Value} {an od : Option Addr}
    {osl : Array (Option Value)} {N ps : List Str} {sp : Sp} (lk : K.lookup f = some ⟨oc, od, .func (PySem.W.fnOf name qual params body scope dV kV doc pm an cdv ct), osl⟩) (hcd : PySem.W.codeIn K cdv qual = true) (S : FnScope N ps scope)
    (len : ∀ vs H Q E, sp vs H Q E → vs.length = ps.length)
    (hbody : ∀ (A : Around) (outer : List Env) (s : Shared) (H : Hp) (vs : List V) (Q : VK) (E : XK), Room k (A.deeper (envOfC qual scope s.heap.objs.size f cdv)) → sp vs H Q E →
      ∃ t, PSs (cxOf CX P w K mg base N qual scope f cdv A outer s H E) body t ∧ t { nx := fun _ H' => Q .non H', rt := Q } (start N vs) H) :
    FnOk P w K mg base CX (k + 1) f (PySem.W.fnOf name qual params body scope dV kV doc pm an cdv ct) ps sp := by
  refine ⟨len, fun A outer s H args us vs Q E hr e0 hb r hsp => ?_⟩
  have hl := len _ _ _ _ hsp
  have KX : K.In s.heap := e0.mod.kin.keeps fun b o e => (e0.bs b o e).1
  have lim : s.heap.NoLimit := e0.mod.nolimit.keeps fun b o e => (e0.bs b o e).1
  have hkind : ∀ y ∈ ps.zip us, scope.names.lookup y.1 = some .local ∨ (scope.names.lookup y.1 = some .cell ∧ ((cellsFrom (s.heap.objs.size + 1) scope.names []).lookup y.1).isSome = true) := fun ⟨n, v⟩ hy => by
    rcases S.par n (List.of_mem_zip hy).1 with q | q
    · exact .inl q
    · exact .inr ⟨q, PySem.W.cellsFrom_some _ _ _ (.inl q)⟩
  refine codeAny_call_function hr.depth (KX _ _ lk) rfl S.co S.gen rfl (PySem.W.codeRec_of KX hcd) (hb _ _ _ _ ?_)
  refine wpAny_newFunctionEnv_cells S.kind hkind fun env he s1 x => ?_
  subst he
  refine ⟨lim.keeps x.toInCall.keep, codeAny_func ?_⟩
  obtain ⟨t, ht, hq⟩ := hbody A outer s H vs Q E (hr.deeper _) hsp
  have I : Inv (cxOf CX P w K mg base N qual scope f cdv A outer s H E) [] (start N vs) H s1 := inv_start S hr.hd e0 hl r x
  refine wpAny_mono (ht [] s1 (start N vs) H _ I hq) (fun fl s' hs => ?_) fun e s' hs => hs
  have fin : ∀ {σ' : St} {H' : Hp} {v : V} {u : Value}, Inv (cxOf CX P w K mg base N qual scope f cdv A outer s H E) [] σ' H' s' → RelV v u → Q v H' → CE outer P w H s Q u s' :=
    fun {σ' H' v u} J rv q => ⟨v, H', J.os, J.bare, J.base, J.hok, rv, q⟩
  cases fl with
  | ret u =>
    obtain ⟨v, σ', H', J, rv, q⟩ := hs
    exact fin J rv q
  | next =>
    obtain ⟨σ', H', J, q⟩ := hs
    exact fin (v := V.non) (u := Value.none) J rfl q
  | brk =>
    obtain ⟨_, _, _, q⟩ := hs
    exact False.elim q
  | cont =>
    obtain ⟨_, _, _, q⟩ := hs
    exact False.elim q
end L2

namespace L2
open PySem PySem.Spec PyProof.Rows
section
variable {X : Cx} {x : Str} {p pos : Pos} {e : Expr} {es : List Expr} {t : TA} {id T : String} {r : List V → Hp → VK → Prop}

def tCB (r : List V → Hp → VK → Prop) (t : TA) : TE := fun σ H Q => t σ H fun vs H1 => r vs H1 Q
theorem pe_callB (hc : CallR X (.builtin id) r) (hg : Gl X x) (hm : X.mg x = none) (hv : bootBuiltins x = some (.builtin id)) (ha : PA X (e :: es) t) (hn : x ≠ "__name__" := by decide) (hdb : (x == ("__debug__" : Str)) = false := by decide)
    (he : starEach (e :: es) X.env = (false, eval e X.env) :: starEach es X.env := by rfl) (hpl : (backTo pos (starEach es X.env)).any (·.1) = false := by rfl) : PE X (.Call (.Name x p) (e :: es) [] pos) (tCB r t) := by
  intro pins s σ H Q I h
  refine wpAny_Call_Name_kw (ld_blt I hg hm hv ?_ hn hdb)
  exact PyProof.Rows.callWith_builtin1 (thn (ha pos pins s σ H _ I h) fun us s1 ⟨vs, H1, I1, r1, q1⟩ => hc pins s1 σ H1 vs us Q I1 r1 q1) he hpl
theorem pe_callTy (hc : CallR X (.type T) r) (hg : Gl X x) (hm : X.mg x = none) (hv : bootBuiltins x = some (.type T)) (ha : PA X (e :: es) t) (hn : x ≠ "__name__" := by decide) (hdb : (x == ("__debug__" : Str)) = false := by decide)
    (he : starEach (e :: es) X.env = (false, eval e X.env) :: starEach es X.env := by rfl) (hpl : (backTo pos (starEach es X.env)).any (·.1) = false := by rfl) : PE X (.Call (.Name x p) (e :: es) [] pos) (tCB r t) := by
  intro pins s σ H Q I h
  refine wpAny_Call_Name_kw (ld_blt I hg hm hv ?_ hn hdb)
  exact PyProof.Rows.callWith_type1 (thn (ha pos pins s σ H _ I h) fun us s1 ⟨vs, H1, I1, r1, q1⟩ => hc pins s1 σ H1 vs us Q I1 r1 q1) he hpl
end
end L2

namespace HT
open PySem PyProof.Rows

section
open PySem.SeqAt
open PySem.AutoSeq1 (wpAny_loadPart')
open PySem.MeetsSeq PySem.MeetsSeq2 PySem.MeetsSeq3

end

section
variable {prog : Program} {w : World} {A : Around} {E : Value → Shared → Prop} {s : Shared}

theorem cat_tup {t b : Addr} {vs ws : List Value} {Q : Value → Shared → Prop} (ht : IsTup s.heap t vs.toArray) (hb : IsTup s.heap b ws.toArray) (hv : vs ≠ [])
    (h1 : ws = [] → Q (.ref t) s) (h2 : ws ≠ [] → Q (.ref s.heap.objs.size) { s with heap := s.heap.push { cls := .type "tuple", data := .seq (vs ++ ws).toArray } })
    (hsz : vs.length + ws.length ≤ sizeLine) : wpAny (model prog w) A (binaryOp .Add (.ref t) (.ref b)) Q E s := by
  obtain ⟨⟨cls, dd, data, sl⟩, ho, hc, n, hd⟩ := id ht
  obtain ⟨⟨cls2, dd2, data2, sl2⟩, ho2, hc2, n2, hd2⟩ := id hb
  simp only at hc hd hc2 hd2
  subst hc hd hc2 hd2
  have e : vs.toArray ++ ws.toArray = (vs ++ ws).toArray := by simp
  by_cases hw : ws = []
  · exact concat_meets ⟨_, ho, rfl⟩ ⟨_, ho2, rfl⟩ noFill_tuple_add seq_tuple_add PySem.F.slot_tuple_add PySem.F.entry_tuple_add (PySem.F.args_tuple_add_2 _ _)
      (tuple_addW1 t b vs.toArray ws.toArray n n2 dd dd2 sl sl2 (by simpa using hv) (by simp [hw])) ⟨ho, ho2, h1 hw⟩
  · refine concat_meets ⟨_, ho, rfl⟩ ⟨_, ho2, rfl⟩ noFill_tuple_add seq_tuple_add PySem.F.slot_tuple_add PySem.F.entry_tuple_add (PySem.F.args_tuple_add_2 _ _)
      (tuple_addW2 t b vs.toArray ws.toArray n n2 dd dd2 sl sl2 (by simpa using hv) (by simpa using hw) (by rw [List.size_toArray, List.size_toArray]; exact hsz)) ⟨ho, ho2, ?_⟩
    rw [e]
    exact h2 hw

def sIx (n d : Nat) : Option Int → Nat
  | none => d
  | some v => if v < 0 then (v + (n : Int)).toNat else min v.toNat n
theorem sIx_le (n d : Nat) (hd : d ≤ n) (o : Option Int) : sIx n d o ≤ n := by
  cases o with
  | none => exact hd
  | some v =>
    show (if v < 0 then (v + (n : Int)).toNat else min v.toNat n) ≤ n
    by_cases hv : v < 0
    · rw [if_pos hv]; omega
    · rw [if_neg hv]; exact Nat.min_le_right _ _
theorem clip_eq (v : Int) (n d : Nat) : (if v < 0 then max (v + (n : Int)) 0 else min v (n : Int)) = ((sIx n d (some v) : Nat) : Int) := by
  show (if v < 0 then max (v + (n : Int)) 0 else min v (n : Int)) = (((if v < 0 then (v + (n : Int)).toNat else min v.toNat n) : Nat) : Int)
  by_cases hv : v < 0
  · simp only [if_pos hv]; omega
  · simp only [if_neg hv]; omega
theorem adjust_gen (lo hi : Option Int) (n : Nat) : Builtin.Slice.sliceAdjust lo hi 1 (n : Int) = (((sIx n 0 lo : Nat) : Int), ((sIx n n hi : Nat) : Int)) := by
  have h1 : ¬ ((1 : Int) < 0) := by omega
  unfold Builtin.Slice.sliceAdjust
  simp only [h1, if_false]
  refine Prod.ext ?_ ?_
  · cases lo with
    | none => rfl
    | some v => exact clip_eq v n 0
  · cases hi with
    | none => rfl
    | some v => exact clip_eq v n n
theorem places_gen (i j : Nat) : Builtin.Slice.slicePlaces (i : Int) (j : Int) 1 = j - i := by
  unfold Builtin.Slice.slicePlaces
  have h1 : (1 : Int) > 0 := by omega
  simp only [h1, if_true, Int.ediv_one]
  split <;> omega
theorem slicePart_ {v : Value} {o : Option Int} {Q : Option Int → Shared → Prop} (p : IsPart v o) (h : Q o s) : wpAny (model prog w) A (Builtin.Slice.slicePartIndex v) Q E s := by
  cases p with
  | none => exact slicePart_none h
  | int i t => exact slicePart_int h
theorem sliceApplied_gen {sl : Addr} {vl vu : Value} {lo hi : Option Int} {n : Nat} {Q : Int × Int × Nat → Shared → Prop} (hs : s.heap.IsSliceOf sl vl vu .none) (pl : IsPart vl lo) (pu : IsPart vu hi)
    (h : Q (((sIx n 0 lo : Nat) : Int), 1, sIx n n hi - sIx n 0 lo) s) : wpAny (model prog w) A (Builtin.Slice.sliceApplied (.ref sl) (pure (n : Int))) Q E s := by
  obtain ⟨os, hos, hcs, hds⟩ := id hs
  unfold Builtin.Slice.sliceApplied Builtin.Slice.sliceFields
  refine wpAny_bind (wpAny_bind (wpAny_field hos hds (x := vl) rfl (wpAny_bind (wpAny_field hos hds (x := vu) rfl (wpAny_bind (wpAny_field hos hds (x := .none) rfl (wpAny_pure ?_)))))))
  refine wpAny_bind (slicePart_none ?_)
  show wpAny _ _ (if ((1 : Int) == 0) = true then _ else _) _ _ s
  rw [if_neg (by decide)]
  refine wpAny_bind (slicePart_ pl (wpAny_bind (slicePart_ pu (wpAny_bind (wpAny_pure ?_)))))
  show wpAny _ _ (match Builtin.Slice.sliceAdjust lo hi 1 (n : Int) with | (lo, hi) => pure (lo, (1 : Int), Builtin.Slice.slicePlaces lo hi 1)) _ _ s
  rw [adjust_gen lo hi n]
  show wpAny _ _ (pure (((sIx n 0 lo : Nat) : Int), (1 : Int), Builtin.Slice.slicePlaces ((sIx n 0 lo : Nat) : Int) ((sIx n n hi : Nat) : Int) 1)) _ _ s
  rw [places_gen]
  exact wpAny_pure h
theorem pick_gen (xs : Array Value) (i k : Nat) : ((List.range k).filterMap fun (m : Nat) => xs[((i : Int) + (m : Int) * 1).toNat]?).toArray = ((xs.toList.drop i).take k).toArray := by
  have e : (fun (m : Nat) => xs[((i : Int) + (m : Int) * 1).toNat]?) = fun m => xs[i + m]? := by
    funext m
    have : ((i : Int) + (m : Int) * 1).toNat = i + m := by omega
    rw [this]
  rw [e]
  have := pick_run xs i k
  rw [List.filterMap_map] at this
  have e2 : ((fun x => xs[x]?) ∘ fun x => i + x) = fun m => xs[i + m]? := rfl
  rw [e2] at this
  rw [this]

theorem getItem_tuple_cut {t sl : Addr} {items : Array Value} {vl vu : Value} {lo hi : Option Int} {Q : Value → Shared → Prop} (ht : IsTup s.heap t items) (hs : s.heap.IsSliceOf sl vl vu .none) (pl : IsPart vl lo) (pu : IsPart vu hi)
    (hw : ¬ (sIx items.size 0 lo = 0 ∧ sIx items.size items.size hi = items.size))
    (h : Q (.ref s.heap.objs.size) { s with heap := s.heap.push { cls := .type "tuple", data := .seq ((items.toList.drop (sIx items.size 0 lo)).take (sIx items.size items.size hi - sIx items.size 0 lo)).toArray } })
    (hsz : items.size ≤ sizeLine) : wpAny (model prog w) A (getItem (.ref t) (.ref sl)) Q E s := by
  have htake : sizeOk (.seq ((items.toList.drop (sIx items.size 0 lo)).take (sIx items.size items.size hi - sIx items.size 0 lo)).toArray) := by
    show ((items.toList.drop (sIx items.size 0 lo)).take (sIx items.size items.size hi - sIx items.size 0 lo)).toArray.size ≤ sizeLine
    rw [List.size_toArray, List.length_take, List.length_drop, Array.length_toList]
    omega
  have hj : sIx items.size items.size hi ≤ items.size := sIx_le _ _ (Nat.le_refl _) hi
  obtain ⟨os, hos, hcs, hds⟩ := id hs
  have hTs : s.TypeIs (.ref sl) "slice" := ⟨os, hos, hcs⟩
  unfold getItem
  try with_reducible refine wpAny_holding ?_
  first | refine wpAny_bind (wpAny_pure ?_) | skip
  refine wpAny_bind (wpAny_sequenceKey ht.typeIs (by decide) ?_)
  refine wpAny_bind (wpAny_callSpecial?_slot (name := Str.ofString "__getitem__") ht.typeIs PyProof.Rows.slot_tuple_getitem
    (wpAny_call_entry PyProof.Rows.slot_tuple_getitem ht.typeIs entry_tuple_getitem ?_ (args_tuple_getitem _ _)))
  show wpAny _ _ (Builtin.Tuple.tupleItemsOf (.ref t) >>= _) _ _ s
  refine wpAny_bind (tupleItemsOf_ ht ?_)
  refine wpAny_bind (wpAny_typeOf hTs ?_)
  rw [if_pos (by decide)]
  refine wpAny_bind (sliceApplied_gen hs pl pu ?_)
  have hno : ¬ ((((sIx items.size 0 lo : Nat) : Int) == 0 && (1 : Int) == 1 && (sIx items.size items.size hi - sIx items.size 0 lo) == items.size) = true) := by
    intro q
    rw [Bool.and_eq_true, Bool.and_eq_true] at q
    have q1 : ((sIx items.size 0 lo : Nat) : Int) = 0 := eq_of_beq q.1.1
    have q2 : sIx items.size items.size hi - sIx items.size 0 lo = items.size := eq_of_beq q.2
    exact hw ⟨by omega, by omega⟩
  show wpAny _ _ (if (((sIx items.size 0 lo : Nat) : Int) == 0 && (1 : Int) == 1 && (sIx items.size items.size hi - sIx items.size 0 lo) == items.size) = true then _ else _) _ _ s
  rw [if_neg hno, pick_gen]
  first
    | exact wpAny_bind (m := Builtin.Tuple.tupleExact _) (wpAny_newObj_type (wpAny_pure ⟨_, rfl, wpAny_pure h⟩) htake)
    | exact wpAny_bind (m := Builtin.Tuple.tupleExact _) (wpAny_newObj_type (wpAny_bind (wpAny_pure (wpAny_pure ⟨_, rfl, wpAny_pure h⟩))) htake)
    | exact wpAny_bind (wpAny_bind (m := Builtin.Tuple.tupleExact _) (wpAny_newObj_type (wpAny_pure (wpAny_pure ⟨_, rfl, wpAny_pure h⟩)) htake))
    | exact wpAny_bind (wpAny_bind (m := Builtin.Tuple.tupleExact _) (wpAny_newObj_type (wpAny_pure ⟨_, rfl, wpAny_pure h⟩) htake))
end
end HT

namespace L2
open PySem PySem.Spec PyProof.Rows

abbrev TO := St → Hp → (Option Int → Hp → Prop) → Prop
def PO (X : Cx) (e : Option Expr) (t : TO) : Prop :=
  ∀ (pins : List (Addr × Obj)) (s : Shared) (σ : St) (H : Hp) (Q : Option Int → Hp → Prop), Inv X pins σ H s → t σ H Q →
    wpAny (model X.prog X.w) X.A (evalPart e X.env) (fun u s' => ∃ o H', Inv X pins σ H' s' ∧ IsPart u o ∧ Q o H') X.xe s
def tNoPart : TO := fun _ H Q => Q none H
def tPart (t : TE) : TO := fun σ H Q => t σ H fun x H1 => ∃ i, x = .int i ∧ Q (some i) H1

theorem intsAre_of {ns : List Int} : ∀ {us : List Value}, Vals (ns.map V.int) us → IntsAre us ns := by
  induction ns with
  | nil => intro us r; rw [List.map_nil] at r; cases r; exact .nil
  | cons n ns ih =>
    intro us r
    rw [List.map_cons] at r
    cases r with
    | cons r1 r2 =>
      obtain ⟨t, e⟩ := r1
      subst e
      exact .cons n t (ih r2)

section
variable {X : Cx} {e : Expr} {te : TE} {lo hi : Option Expr} {tl th : TO} {pos p2 : Pos}

theorem po_none : PO X none tNoPart := by
  intro pins s σ H Q I h
  rw [evalPart_none]
  exact wpAny_pure ⟨none, H, I, .none, h⟩
theorem po_some (h : PE X e te) : PO X (some e) (tPart te) := by
  intro pins s σ H Q I hw
  rw [evalPart_some]
  refine thn (h pins s σ H _ I hw) fun u s1 ⟨x, H1, I1, r1, q1⟩ => ?_
  obtain ⟨i, rfl, q⟩ := q1
  obtain ⟨t, rfl⟩ := r1
  exact ⟨some i, H1, I1, .int i t, q⟩

def SlR (X : Cx) (r : V → Option Int → Option Int → Hp → VK → Prop) : Prop :=
  ∀ (pins : List (Addr × Obj)) (s : Shared) (σ : St) (H : Hp) (x : V) (v vl vu : Value) (lo hi : Option Int) (sl : Addr) (Q : VK), Inv X pins σ H s → RelV x v → s.heap.IsSliceOf sl vl vu .none → IsPart vl lo → IsPart vu hi → r x lo hi H Q →
    ∃ T id, typeLookup (.type T) "__getitem__" = pure (some (.builtin id)) ∧ s.TypeIs v T ∧ wpAny (model X.prog X.w) X.A (getItem v (.ref sl)) (EP X pins σ Q) X.xe s
def tSl (r : V → Option Int → Option Int → Hp → VK → Prop) (te : TE) (tl th : TO) : TE := fun σ H Q => te σ H fun x H1 => tl σ H1 fun l H2 => th σ H2 fun u H3 => r x l u H3 Q
theorem pe_slice {r : V → Option Int → Option Int → Hp → VK → Prop} (hr : SlR X r) (he : PE X e te) (hl : PO X lo tl) (hu : PO X hi th) : PE X (.Subscript e (.Slice lo hi none p2) pos) (tSl r te tl th) := by
  intro pins s σ H Q I h
  refine Subscript_ (thn (he pins s σ H _ I h) fun v s1 ⟨x, H1, I1, r1, q1⟩ => ?_)
  refine wpAny_Slice (thn (hl pins s1 σ H1 _ I1 q1) fun vl s2 ⟨l, H2, I2, pl, q2⟩ => thn (hu pins s2 σ H2 _ I2 q2) fun vu s3 ⟨u, H3, I3, pu, q3⟩ => ?_)
  rw [evalPart_none]
  refine wpAny_pure ?_
  have I4 : Inv X pins σ H3 { s3 with heap := s3.heap.push { cls := .type "slice", data := .fields #[vl, vu, .none] } } := I3.kept (t' := s3.toks) fun b ob q => Heap.get?_push_of_some _ q
  obtain ⟨T, id, hT, ht, hg⟩ := hr pins { s3 with heap := s3.heap.push { cls := .type "slice", data := .fields #[vl, vu, .none] } } σ H3 x v vl vu l u s3.heap.objs.size Q I4 r1 (Heap.IsSliceOf.new ..) pl pu q3
  show wpAny (model X.prog X.w) X.A (subscriptTail e (.Slice lo hi none p2) v (.ref s3.heap.objs.size)) (EP X pins σ Q) X.xe { s3 with heap := s3.heap.push { cls := .type "slice", data := .fields #[vl, vu, .none] } }
  exact tail_any (ops := [.ref s3.heap.objs.size, v]) ht hT hg (by with_unfolding_all rfl)

def cutV (xs : List V) (lo hi : Option Int) : List V := (xs.drop (HT.sIx xs.length 0 lo)).take (HT.sIx xs.length xs.length hi - HT.sIx xs.length 0 lo)
theorem cutV_length (xs : List V) (lo hi : Option Int) : (cutV xs lo hi).length ≤ xs.length := by
  unfold cutV
  rw [List.length_take, List.length_drop]
  omega
def rSlT (K : PySem.W.Frag) : V → Option Int → Option Int → Hp → VK → Prop := fun x lo hi H Q => ∃ a xs, x = .ref a ∧ SqT K H a xs ∧
  ¬ (HT.sIx xs.length 0 lo = 0 ∧ HT.sIx xs.length xs.length hi = xs.length) ∧ ∀ p, H p = none → Q (.ref p) (upd H p (.tup (cutV xs lo hi)))
theorem sl_tup : SlR X (rSlT X.K) := by
  intro pins s σ H x v vl vu lo hi sl Q I rx hs pl pu h
  obtain ⟨a, xs, rfl, hx, hw, q⟩ := h
  cases rx
  obtain ⟨its, r, ht, hz⟩ := I.tuple hx
  have hlen : its.toArray.size = xs.length := by rw [List.size_toArray]; exact r.length.symm
  refine ⟨"tuple", _, PyProof.Rows.slot_tuple_getitem.lookup, ht.typeIs, ?_⟩
  refine HT.getItem_tuple_cut ht hs pl pu (by rw [hlen]; exact hw) ?_ (by rw [hlen]; exact hz)
  rw [hlen]
  refine ⟨.ref s.heap.objs.size, _, I.laid (t' := s.toks) (o := .tup (cutV xs lo hi)) (fun b ob q => Heap.get?_push_of_some _ q) (Nat.le_refl _) ?_, rfl, q _ (I.hok.fresh (Nat.le_refl _))⟩
  exact ⟨Nat.le_trans (cutV_length xs lo hi) hz, _, (r.drop (HT.sIx xs.length 0 lo)).take (HT.sIx xs.length xs.length hi - HT.sIx xs.length 0 lo), TupD.new _ _⟩

def rCatT (K : PySem.W.Frag) : R2 := fun x y H Q => ∃ a b xs ys, x = .ref a ∧ y = .ref b ∧ SqT K H a xs ∧ SqT K H b ys ∧ xs ≠ [] ∧ xs.length + ys.length ≤ sizeLine ∧
  (ys = [] → Q (.ref a) H) ∧ (ys ≠ [] → ∀ p, H p = none → Q (.ref p) (upd H p (.tup (xs ++ ys))))
theorem Vals.nil_iff {xs : List V} {us : List Value} (r : Vals xs us) : us = [] ↔ xs = [] := by
  cases r with
  | nil => simp
  | cons _ _ => simp
theorem op_catT : OpR X (binaryOp .Add) (rCatT X.K) := by
  intro pins s σ H x y v u Q I rx ry h
  obtain ⟨a, b, xs, ys, rfl, rfl, ha, hb, hx, hz, q1, q2⟩ := h
  cases rx
  cases ry
  obtain ⟨its, r1, p1, _⟩ := I.tuple ha
  obtain ⟨its2, r2, p2, _⟩ := I.tuple hb
  refine HT.cat_tup p1 p2 (fun z => hx (r1.nil_iff.mp z)) (fun z => ⟨.ref a, H, I, rfl, q1 (r2.nil_iff.mp z)⟩) (fun z => ?_) (by rw [← r1.length, ← r2.length]; exact hz)
  refine ⟨.ref s.heap.objs.size, _, I.laid (t' := s.toks) (o := .tup (xs ++ ys)) (fun b ob q => Heap.get?_push_of_some _ q) (Nat.le_refl _) ?_, rfl, q2 (fun w => z (r2.nil_iff.mpr w)) _ (I.hok.fresh (Nat.le_refl _))⟩
  exact ⟨by rw [List.length_append]; exact hz, _, r1.append r2, TupD.new _ _⟩
end
end L2

namespace L2
open PySem PySem.Spec PyProof.Rows

def ixN (n : Nat) (i : Int) : Option Nat := if 0 ≤ i then (if i < n then some i.toNat else none) else if -(n : Int) ≤ i then some (i + n).toNat else none
def atI {α : Type} (xs : List α) (i : Int) : Option α := (ixN xs.length i).bind fun j => xs[j]?
theorem ixN_seq {n : Nat} {i : Int} {j : Nat} (h : ixN n i = some j) : seqIndex? i n = some j ∧ j < n ∧ -(n : Int) ≤ i ∧ i < n := by
  unfold ixN at h
  by_cases h0 : 0 ≤ i
  · rw [if_pos h0] at h
    by_cases h1 : i < n
    · rw [if_pos h1] at h
      have e : i.toNat = j := Option.some.inj h
      exact ⟨by rw [seqIndex_of h0 h1, e], by omega, by omega, h1⟩
    · rw [if_neg h1] at h; cases h
  · rw [if_neg h0] at h
    by_cases h1 : -(n : Int) ≤ i
    · rw [if_pos h1] at h
      have e : (i + n).toNat = j := Option.some.inj h
      exact ⟨by rw [seqIndex_neg (by omega) h1, e], by omega, h1, by omega⟩
    · rw [if_neg h1] at h; cases h
theorem atI_get {α : Type} {xs : List α} {i : Int} {v : α} (h : atI xs i = some v) : ∃ j, seqIndex? i xs.length = some j ∧ xs[j]? = some v ∧ j < xs.length ∧ -(xs.length : Int) ≤ i ∧ i < xs.length := by
  unfold atI at h
  cases e : ixN xs.length i with
  | none => rw [e] at h; cases h
  | some j =>
    rw [e] at h
    obtain ⟨h1, h2, h3, h4⟩ := ixN_seq e
    exact ⟨j, h1, h, h2, h3, h4⟩
theorem atI_nat {α : Type} {xs : List α} {j : Nat} {v : α} (h : xs[j]? = some v) : atI xs (j : Int) = some v := by
  have hj : j < xs.length := (List.getElem?_eq_some_iff.mp h).1
  have e : ixN xs.length (j : Int) = some j := by
    unfold ixN
    rw [if_pos (by omega), if_pos (by omega)]; simp
  unfold atI; rw [e]; exact h
theorem atI_last {α : Type} (xs : List α) (v : α) : atI (xs ++ [v]) (-1) = some v := by
  have hl : (xs ++ [v]).length = xs.length + 1 := by simp
  have e : ixN (xs ++ [v]).length (-1) = some xs.length := by
    unfold ixN
    rw [hl, if_neg (by decide), if_pos (by omega)]
    congr 1
    omega
  unfold atI
  rw [e]
  show (xs ++ [v])[xs.length]? = some v
  simp

def PlainIx (b : Expr) : Prop := ∀ o i, subscripted b false o i = operate [o, i] (getItem o i)
def IxR (X : Cx) (r : R2) : Prop :=
  ∀ (value slice : Expr) (pins : List (Addr × Obj)) (s : Shared) (σ : St) (H : Hp) (x y : V) (v u : Value) (Q : VK), Inv X pins σ H s → RelV x v → RelV y u → r x y H Q →
    subscripted slice false v u = operate [v, u] (getItem v u) → wpAny (model X.prog X.w) X.A (subscriptTail value slice v u) (EP X pins σ Q) X.xe s
def MtR (X : Cx) (id : String) (r : V → List V → Hp → VK → Prop) : Prop :=
  ∀ (pins : List (Addr × Obj)) (s : Shared) (σ : St) (H : Hp) (x : V) (xs : List V) (v : Value) (us : List Value) (Q : VK), Inv X pins σ H s → RelV x v → Vals xs us → r x xs H Q →
    wpAny (model X.prog X.w) X.A (call (.builtin id) (v :: us)) (EP X pins σ Q) X.xe s
section
variable {X : Cx} {a b : Expr} {ta tb : TE} {pos : Pos}
theorem pe_ix {r : R2} (hr : IxR X r) (ha : PE X a ta) (hb : PE X b tb) (hs : PlainIx b) : PE X (.Subscript a b pos) (tOp r ta tb) := by
  intro pins s σ H Q I h
  exact Subscript_ (binT ha hb I h fun v u s2 x y H2 I2 rx ry q => hr a b pins s2 σ H2 x y v u Q I2 rx ry q (hs _ _))

def rIxL (K : PySem.W.Frag) : R2 := fun x y H Q => ∃ p xs i v, x = .ref p ∧ y = .int i ∧ SqL K H p xs ∧ atI xs i = some v ∧ Q v H
def rIxT (K : PySem.W.Frag) : R2 := fun x y H Q => ∃ p xs i v, x = .ref p ∧ y = .int i ∧ SqT K H p xs ∧ atI xs i = some v ∧ Q v H
theorem ix_list : IxR X (rIxL X.K) := by
  intro value slice pins s σ H x y v u Q I rx ry h hs
  obtain ⟨p, xs, i, z, rfl, rfl, hq, he, q⟩ := h
  cases rx
  obtain ⟨t, rfl⟩ := ry
  obtain ⟨its, r, pl, hz⟩ := I.list hq
  obtain ⟨j, h1, h2, h3, h4, h5⟩ := atI_get he
  obtain ⟨w, ew, rw'⟩ := r.get h2
  have hl := r.length
  have hn := line63
  have fin : EP X pins σ Q w s := ⟨z, H, I, rw', q⟩
  by_cases h0 : 0 ≤ i
  · have hj : i.toNat = j := by
      rw [seqIndex_of h0 h5] at h1
      exact Option.some.inj h1
    exact item_listR pl.isList h0 (by omega) (by rw [hj]; simpa using ew) fin hs
  · have hj : (i + (its.toArray.size : Int)).toNat = j := by
      rw [seqIndex_neg (by omega) h4] at h1
      rw [List.size_toArray, ← hl]
      exact Option.some.inj h1
    exact subscriptTail_builtinR (x := w) pl.isList.typeIs slot_list_getitem.lookup
      (wpAny_getItem_list_neg (Q := fun r s' => r = w ∧ EP X pins σ Q r s') pl.isList (by omega) (by rw [List.size_toArray] <;> omega) (by omega) (by rw [hj]; simpa using ew) ⟨rfl, fin⟩) hs
theorem ix_tup : IxR X (rIxT X.K) := by
  intro value slice pins s σ H x y v u Q I rx ry h hs
  obtain ⟨p, xs, i, z, rfl, rfl, hq, he, q⟩ := h
  cases rx
  obtain ⟨t, rfl⟩ := ry
  obtain ⟨its, r, pl, hz⟩ := I.tuple hq
  obtain ⟨j, h1, h2, h3, h4, h5⟩ := atI_get he
  obtain ⟨w, ew, rw'⟩ := r.get h2
  have hl := r.length
  have hn := line63
  have fin : EP X pins σ Q w s := ⟨z, H, I, rw', q⟩
  exact subscriptTail_builtinR (x := w) pl.typeIs slot_tuple_getitem.lookup
    (getItem_tuple (j := j) (Q := fun r s' => r = w ∧ EP X pins σ Q r s') pl (by omega) (by omega) (by rw [List.size_toArray, ← hl]; exact h1) (by simpa using ew) ⟨rfl, fin⟩) hs
theorem mapSeq_set (its : List Value) (n j : Nat) (u : Value) : Obj.mapSeq (·.setIfInBounds j u) { cls := .type "list", data := .seq its.toArray n } = { cls := .type "list", data := .seq (its.set j u).toArray n } := by
  simp [Obj.mapSeq]
theorem Inv.lst {pins : List (Addr × Obj)} {σ : St} {H : Hp} {s : Shared} {p : Addr} {xs : List V} (I : Inv X pins σ H s) (h : H p = some (.lst xs)) :
    ∃ (its : List Value) (n : Nat), Vals xs its ∧ s.heap.get? p = some { cls := .type "list", data := .seq its.toArray n } ∧ xs.length ≤ sizeLine := by
  obtain ⟨z, its, n, r, e⟩ := I.hok p _ h
  exact ⟨its, n, r, e, z⟩
theorem Inv.lstUpd {pins : List (Addr × Obj)} {σ : St} {H : Hp} {s : Shared} {p : Addr} {xs ys : List V} {its its' : List Value} {n n' : Nat} {f : Obj → Obj} (I : Inv X pins σ H s) (h : H p = some (.lst xs))
    (ho : s.heap.get? p = some { cls := .type "list", data := .seq its.toArray n }) (hf : f { cls := .type "list", data := .seq its.toArray n } = { cls := .type "list", data := .seq its'.toArray n' }) (r : Vals ys its') (hz : ys.length ≤ sizeLine) (t : Nat) :
    Inv X pins σ (upd H p (.lst ys)) { s with heap := s.heap.update p f, toks := t } := by
  have e : (s.heap.update p f).get? p = some { cls := .type "list", data := .seq its'.toArray n' } := by
    rw [Heap.get?_update_self f ho (by rw [hf] <;> rfl), hf]
  refine I.write (x := p) (e := p) (by rw [h]; trivial) (.inl rfl) (fun b u hb q => (Heap.get?_update_other _ _ (Ne.symm hb)).trans q) ⟨_, e⟩ ?_
  exact ⟨hz, its', n', r, e⟩
def rSetL : V → V → V → Hp → (Hp → Prop) → Prop := fun o i v H Q => ∃ p xs k j, o = .ref p ∧ i = .int k ∧ H p = some (.lst xs) ∧ ixN xs.length k = some j ∧ Q (upd H p (.lst (xs.set j v)))
theorem set_list : PSet X rSetL := by
  intro pins s σ H o i v ov iv u Q I ro ri rv h
  obtain ⟨p, xs, k, j, rfl, rfl, hp, hj, q⟩ := h
  cases ro
  obtain ⟨t, rfl⟩ := ri
  obtain ⟨its, n, r, ho, hz⟩ := I.lst hp
  obtain ⟨h1, h2, h3, h4⟩ := ixN_seq hj
  have hl := r.length
  have hn := line63
  have I' : Inv X pins σ (upd H p (.lst (xs.set j v))) { s with heap := s.heap.update p (Obj.mapSeq (·.setIfInBounds j u)) } :=
    I.lstUpd hp ho (mapSeq_set its n j u) (r.set rv j) (by rw [List.length_set]; exact hz) s.toks
  by_cases h0 : 0 ≤ k
  · have hk : k.toNat = j := by
      rw [seqIndex_of h0 h4] at h1
      exact Option.some.inj h1
    exact PySem.W.ki_setAt ho h0 (by omega) (by rw [List.size_toArray, ← hl]; exact h4) (by rw [hk]; exact ⟨_, I', q⟩)
  · have hk : (k + (its.toArray.size : Int)).toNat = j := by
      rw [seqIndex_neg (by omega) h3] at h1
      rw [List.size_toArray, ← hl]
      exact Option.some.inj h1
    exact PySem.W.ki_setBack ho (by omega) (by rw [List.size_toArray, ← hl]; exact h3) (by omega) (by rw [hk]; exact ⟨_, I', q⟩)

theorem slice_bounds (lo hi : Option Int) (n : Nat) : (sliceBounds lo hi none n).1 = ((HT.sIx n 0 lo : Nat) : Int) ∧ (sliceBounds lo hi none n).2.1 = ((HT.sIx n n hi : Nat) : Int) ∧ (sliceBounds lo hi none n).2.2 = 1 := by
  refine ⟨?_, ?_, rfl⟩
  · cases lo with
    | none => simp [sliceBounds, HT.sIx]
    | some i =>
      simp only [sliceBounds, HT.sIx, Option.getD_none, show (1 : Int) > 0 by decide, if_true]
      by_cases h : i < 0
      · simp only [h, if_true] <;> omega
      · simp only [h, if_false] <;> omega
  · cases hi with
    | none => simp [sliceBounds, HT.sIx]
    | some i =>
      simp only [sliceBounds, HT.sIx, Option.getD_none, show (1 : Int) > 0 by decide, if_true]
      by_cases h : i < 0
      · simp only [h, if_true] <;> omega
      · simp only [h, if_false] <;> omega
theorem slicePick_cut (its : List Value) (lo hi : Option Int) : slicePick its.toArray lo hi none = ((its.drop (HT.sIx its.length 0 lo)).take (HT.sIx its.length its.length hi - HT.sIx its.length 0 lo)).toArray := by
  obtain ⟨h1, h2, h3⟩ := slice_bounds lo hi its.toArray.size
  unfold slicePick
  rw [h1, h2, h3]
  simp only [sliceRange_one, pick_run, List.size_toArray] <;> rfl
def rSlL (K : PySem.W.Frag) : V → Option Int → Option Int → Hp → VK → Prop := fun x lo hi H Q => ∃ a xs, x = .ref a ∧ SqL K H a xs ∧ ∀ p, H p = none → Q (.ref p) (upd H p (.lst (cutV xs lo hi)))
theorem sl_list : SlR X (rSlL X.K) := by
  intro pins s σ H x v vl vu lo hi sl Q I rx hs pl pu h
  obtain ⟨a, xs, rfl, hx, q⟩ := h
  cases rx
  obtain ⟨its, r, ht, hz⟩ := I.list hx
  have hlen := r.length
  refine ⟨"list", _, slot_list_getitem.lookup, ht.isList.typeIs, ?_⟩
  refine wpAny_getItem_list_slice ht.isList hs pl pu .none (by simp) ?_ (by rw [List.size_toArray] <;> omega)
  rw [slicePick_cut, ← hlen]
  refine ⟨.ref s.heap.objs.size, _, I.laid (t' := s.toks) (o := .lst (cutV xs lo hi)) (fun b ob q => Heap.get?_push_of_some _ q) (Nat.le_refl _) ?_, rfl, q _ (I.hok.fresh (Nat.le_refl _))⟩
  exact ⟨Nat.le_trans (cutV_length xs lo hi) hz, _, 0, (r.drop (HT.sIx xs.length 0 lo)).take (HT.sIx xs.length xs.length hi - HT.sIx xs.length 0 lo), Heap.get?_push_size _ rfl⟩

def flatV : V → Bool
  | .non => true
  | .bl _ => true
  | .int _ => true
  | .str _ => true
  | _ => false
def eqV : V → V → Bool
  | .non, .non => true
  | .bl a, .bl b => a == b
  | .bl a, .int b => (if a then 1 else 0) == b
  | .int a, .bl b => a == (if b then 1 else 0)
  | .int a, .int b => a == b
  | .str a, .str b => a == b
  | _, _ => false
theorem eqAt_V {A : Around} {s : Shared} {y x : V} {u v : Value} (ry : RelV y u) (rx : RelV x v) (fy : flatV y = true) (fx : flatV x = true) : SeqAt.EqAt A s u v (eqV y x) := by
  cases y with
  | non =>
    cases ry
    cases x with
    | non => cases rx; exact SeqAt.EqAt.same _
    | bl b => cases rx; exact SeqAt.EqAt.none_bool b
    | int b => obtain ⟨t, rfl⟩ := rx; exact SeqAt.EqAt.none_int b t
    | str b => obtain ⟨t, rfl⟩ := rx; exact SeqAt.EqAt.none_str b t
    | _ => exact absurd (show false = true from fx) Bool.false_ne_true
  | bl a =>
    cases ry
    cases x with
    | non => cases rx; exact SeqAt.EqAt.bool_none a
    | bl b => cases rx; exact SeqAt.EqAt.bool_bool a b
    | int b => obtain ⟨t, rfl⟩ := rx; exact SeqAt.EqAt.bool_int a b t
    | str b => obtain ⟨t, rfl⟩ := rx; exact SeqAt.EqAt.bool_str a b t
    | _ => exact absurd (show false = true from fx) Bool.false_ne_true
  | int a =>
    obtain ⟨t', rfl⟩ := ry
    cases x with
    | non => cases rx; exact SeqAt.EqAt.int_none a t'
    | bl b => cases rx; exact SeqAt.EqAt.int_bool a t' b
    | int b => obtain ⟨t, rfl⟩ := rx; exact SeqAt.EqAt.int_int a t' b t
    | str b => obtain ⟨t, rfl⟩ := rx; exact SeqAt.EqAt.int_str a t' b t
    | _ => exact absurd (show false = true from fx) Bool.false_ne_true
  | str a =>
    obtain ⟨t', rfl⟩ := ry
    cases x with
    | non => cases rx; exact SeqAt.EqAt.str_none a t'
    | bl b => cases rx; exact SeqAt.EqAt.str_bool a t' b
    | int b => obtain ⟨t, rfl⟩ := rx; exact SeqAt.EqAt.str_int a t' b t
    | str b => obtain ⟨t, rfl⟩ := rx; exact SeqAt.EqAt.str_str a t' b t
    | _ => exact absurd (show false = true from fx) Bool.false_ne_true
  | _ => exact absurd (show false = true from fy) Bool.false_ne_true
def eqU (x : V) (u : Value) : Bool := match u with
  | .none => eqV .non x
  | .bool b => eqV (.bl b) x
  | .int i _ => eqV (.int i) x
  | .str z _ => eqV (.str z) x
  | _ => false
theorem eqU_of {x y : V} {u : Value} (r : RelV y u) (f : flatV y = true) : eqU x u = eqV y x := by
  cases y with
  | non => cases r; rfl
  | bl b => cases r; rfl
  | int i => obtain ⟨t, rfl⟩ := r; rfl
  | str z => obtain ⟨t, rfl⟩ := r; rfl
  | _ => exact absurd (show false = true from f) Bool.false_ne_true
theorem any_eqU {x : V} : ∀ {xs : List V} {us : List Value}, Vals xs us → xs.all flatV = true → us.any (eqU x) = xs.any fun y => eqV y x
  | _, _, .nil, _ => rfl
  | y :: xs, u :: us, .cons r t, f => by
    rw [List.all_cons, Bool.and_eq_true] at f
    rw [List.any_cons, List.any_cons, eqU_of r f.1, any_eqU t f.2]
theorem mem_eqAt {A : Around} {s : Shared} {x : V} {v : Value} (rx : RelV x v) (fx : flatV x = true) : ∀ {xs : List V} {us : List Value}, Vals xs us → xs.all flatV = true → ∀ u ∈ us, SeqAt.EqAt A s u v (eqU x u)
  | _, _, .nil, _ => fun u hu => by cases hu
  | y :: xs, u :: us, .cons r t, f => fun u' hu => by
    rw [List.all_cons, Bool.and_eq_true] at f
    rcases List.mem_cons.mp hu with rfl | hu
    · rw [eqU_of r f.1]; exact eqAt_V r rx f.1 fx
    · exact mem_eqAt rx fx t f.2 u' hu
def inV (x : V) (xs : List V) : Bool := xs.any fun y => eqV y x
def rIn (K : PySem.W.Frag) (neg : Bool) : R2 := fun x y H Q => ∃ p xs, y = .ref p ∧ (SqL K H p xs ∨ SqT K H p xs) ∧ flatV x = true ∧ xs.all flatV = true ∧ Q (.bl (if neg then !inV x xs else inV x xs)) H
theorem op_in_seq : OpR X (compareOp .In) (rIn X.K false) := by
  intro pins s σ H x y v u Q I rx ry h
  obtain ⟨p, xs, rfl, hq, fx, fs, q⟩ := h
  cases ry
  rcases hq with hq | hq
  · obtain ⟨its, r, pl, hz⟩ := I.list hq
    refine SeqAt.in_listAt (eqU x) pl.isList (fun w hw => mem_eqAt rx fx r fs w (by simpa using hw)) ⟨.bl _, H, I, rfl, ?_⟩
    rw [show its.toArray.any (eqU x) = its.any (eqU x) by simp, any_eqU r fs]
    exact q
  · obtain ⟨its, r, pl, hz⟩ := I.tuple hq
    refine SeqAt.in_tupleAt (eqU x) pl (fun w hw => mem_eqAt rx fx r fs w (by simpa using hw)) ⟨.bl _, H, I, rfl, ?_⟩
    rw [show its.toArray.any (eqU x) = its.any (eqU x) by simp, any_eqU r fs]
    exact q
theorem op_notIn_seq : OpR X (compareOp .NotIn) (rIn X.K true) := by
  intro pins s σ H x y v u Q I rx ry h
  obtain ⟨p, xs, rfl, hq, fx, fs, q⟩ := h
  cases ry
  rcases hq with hq | hq
  · obtain ⟨its, r, pl, hz⟩ := I.list hq
    refine SeqAt.notIn_listAt (eqU x) pl.isList (fun w hw => mem_eqAt rx fx r fs w (by simpa using hw)) ⟨.bl _, H, I, rfl, ?_⟩
    rw [show its.toArray.any (eqU x) = its.any (eqU x) by simp, any_eqU r fs]
    exact q
  · obtain ⟨its, r, pl, hz⟩ := I.tuple hq
    refine SeqAt.notIn_tupleAt (eqU x) pl (fun w hw => mem_eqAt rx fx r fs w (by simpa using hw)) ⟨.bl _, H, I, rfl, ?_⟩
    rw [show its.toArray.any (eqU x) = its.any (eqU x) by simp, any_eqU r fs]
    exact q
theorem call_len_seq : CallR X (.builtin "len") (fun xs H Q => ∃ p ys, xs = [.ref p] ∧ (SqL X.K H p ys ∨ SqT X.K H p ys) ∧ Q (.int ys.length) H) := by
  intro pins s σ H xs us Q I r h
  obtain ⟨p, ys, rfl, hq, q⟩ := h
  obtain ⟨u, rfl, rx⟩ := vals1 r
  cases rx
  have hn := line63
  rcases hq with hq | hq
  · obtain ⟨its, r', pl, hz⟩ := I.list hq
    have hlen := r'.length
    exact Calls.call_len_list pl.isList (by simp only [List.size_toArray] <;> omega) ⟨.int ys.length, H, I.tok _, ⟨s.toks + 1, by rw [List.size_toArray, hlen]⟩, q⟩
  · obtain ⟨its, r', pl, hz⟩ := I.tuple hq
    have hlen := r'.length
    exact len_tuple pl (by simp only [List.size_toArray] <;> omega) ⟨.int ys.length, H, I.tok _, ⟨s.toks + 1, by rw [List.size_toArray, hlen]⟩, q⟩
theorem call_list_of : CallR X (.type "list") (fun xs H Q => ∃ p ys, xs = [.ref p] ∧ (SqL X.K H p ys ∨ SqT X.K H p ys) ∧ ∀ l, H l = none → Q (.ref l) (upd H l (.lst ys))) := by
  intro pins s σ H xs us Q I r h
  obtain ⟨p, ys, rfl, hq, q⟩ := h
  obtain ⟨u, rfl, rx⟩ := vals1 r
  cases rx
  have fin : ∀ (its : List Value), Vals ys its → ys.length ≤ sizeLine → ∀ (h' : Heap) (c' : Nat), (∀ b o', s.heap.get? b = some o' → h'.get? b = some o') →
      h'.get? s.heap.objs.size = some { cls := .type "list", dict := none, data := .seq its.toArray c', slots := #[] } → EP X pins σ Q (.ref s.heap.objs.size) { s with heap := h' } := fun its r' hz h' c' kp e =>
    ⟨.ref s.heap.objs.size, _, I.laid (t' := s.toks) kp (Nat.le_refl _) (show ObjOk X.prog X.w _ h' _ (.lst ys) from ⟨hz, its, c', r', e⟩), rfl, q _ (I.hok.fresh (Nat.le_refl _))⟩
  rcases hq with hq | hq
  · obtain ⟨its, r', pl, hz⟩ := I.list hq
    have hlen := r'.length
    obtain ⟨o, ho, hc, n, hd⟩ := pl.isList
    exact call_list_seq p (.inl rfl) ho hc hd (fun h' c' kp e => fin its r' hz h' c' kp e) (by simp only [List.size_toArray] <;> omega)
  · obtain ⟨its, r', pl, hz⟩ := I.tuple hq
    have hlen := r'.length
    obtain ⟨o, ho, hc, n, hd⟩ := pl
    exact call_list_seq p (.inr rfl) ho hc hd (fun h' c' kp e => fin its r' hz h' c' kp e) (by simp only [List.size_toArray] <;> omega)
theorem call_tuple_of : CallR X (.type "tuple") (fun xs H Q => ∃ p ys, xs = [.ref p] ∧ ((SqL X.K H p ys ∧ ∀ l, H l = none → Q (.ref l) (upd H l (.tup ys))) ∨ (SqT X.K H p ys ∧ Q (.ref p) H))) := by
  intro pins s σ H xs us Q I r h
  obtain ⟨p, ys, rfl, h⟩ := h
  obtain ⟨u, rfl, rx⟩ := vals1 r
  cases rx
  rcases h with ⟨hq, q⟩ | ⟨hq, q⟩
  · obtain ⟨its, r', pl, hz⟩ := I.list hq
    have hlen := r'.length
    refine call_tuple_list pl.isList (fun h' kp => ?_) (by simp only [List.size_toArray] <;> omega)
    have I1 : Inv X pins σ H { s with heap := h' } := I.kept (t' := s.toks) kp
    have I2 : Inv X pins σ (upd H h'.objs.size (.tup ys)) { s with heap := h'.push { cls := .type "tuple", data := .seq its.toArray } } :=
      I1.laid (t' := s.toks) (fun b o e => Heap.get?_push_of_some _ e) (Nat.le_refl _) (show ObjOk X.prog X.w _ _ _ (.tup ys) from ⟨hz, its, r', TupD.new _ _⟩)
    exact ⟨.ref h'.objs.size, _, I2, rfl, q _ (I1.hok.fresh (Nat.le_refl _))⟩
  · obtain ⟨its, r', pl, hz⟩ := I.tuple hq
    exact call_tuple_same pl ⟨.ref p, H, I, rfl, q⟩

def tyV (K : PySem.W.Frag) (T : String) (x : V) (H : Hp) : Prop := match x with
  | .str _ => T = "str"
  | .int _ => T = "int"
  | .ref p => (T = "list" ∧ ∃ xs, SqL K H p xs) ∨ (T = "tuple" ∧ ∃ o, K.lookup p = some o ∧ o.cls = .type "tuple" ∧ o.dict = none) ∨
      (T = "dict" ∧ ((∃ kvs, H p = some (.dK kvs)) ∨ ∃ kvs, H p = some (.dT kvs))) ∨ (T = "set" ∧ ∃ S n, H p = some (.set S n))
  | _ => False
theorem tyV_is {pins : List (Addr × Obj)} {σ : St} {H : Hp} {s : Shared} {T : String} {x : V} {v : Value} (I : Inv X pins σ H s) (r : RelV x v) (ty : tyV X.K T x H) :
    s.TypeIs v T ∧ ∀ a, v = .ref a → ∃ ob, s.heap.get? a = some ob ∧ ob.dict = none := by
  cases x with
  | str z =>
    obtain ⟨t, rfl⟩ := r
    cases (show T = "str" from ty)
    exact ⟨typeIs_str s z t, fun _ e => nomatch e⟩
  | int i =>
    obtain ⟨t, rfl⟩ := r
    cases (show T = "int" from ty)
    exact ⟨typeIs_int s i t, fun _ e => nomatch e⟩
  | ref p =>
    cases r
    rcases ty with ⟨rfl, xs, hq⟩ | ⟨rfl, o, hk, hc, hd⟩ | ⟨rfl, hk⟩ | ⟨rfl, S, n, hk⟩
    · obtain ⟨its, _, pl, _⟩ := I.list hq
      refine ⟨pl.isList.typeIs, fun a e => ?_⟩
      cases e
      obtain ⟨o, n, e, c, hd, _⟩ := pl
      exact ⟨o, e, hd⟩
    · refine ⟨⟨o, I.kIn p o hk, hc⟩, fun a e => ?_⟩
      cases e
      exact ⟨o, I.kIn _ o hk, hd⟩
    · have z : ∃ o, s.heap.get? p = some o ∧ o.ExactDict := by
        rcases hk with ⟨kvs, hk⟩ | ⟨kvs, hk⟩
        · obtain ⟨_, _, _, _, o, _, _, e, ex, _⟩ := I.hok p _ hk
          exact ⟨o, e, ex⟩
        · obtain ⟨_, _, _, _, o, _, _, e, ex, _⟩ := I.hok p _ hk
          exact ⟨o, e, ex⟩
      obtain ⟨o, e, ex⟩ := z
      refine ⟨⟨o, e, ex.1⟩, fun a e2 => ?_⟩
      cases e2
      exact ⟨o, e, ex.2.1⟩
    · obtain ⟨o, _, _, _, e, ex, _⟩ := I.hok p _ hk
      refine ⟨⟨o, e, ex.1⟩, fun a e2 => ?_⟩
      cases e2
      exact ⟨o, e, ex.2.1⟩
  | _ => exact False.elim ty
def tBM (K : PySem.W.Frag) (T : String) (r : V → List V → Hp → VK → Prop) (to : TE) (t : TA) : TE := fun σ H Q => to σ H fun x H1 => tyV K T x H1 ∧ t σ H1 fun xs H2 => r x xs H2 Q
variable {o e : Expr} {es : List Expr} {to : TE} {t : TA} {name : Str} {apos cpos : Pos} {T id : String} {r : V → List V → Hp → VK → Prop}
theorem pe_bm (pa : PlainAttrs T) (slot : Slot T name id) (hty : typeOf (.builtin id) = pure (.type "method_descriptor")) (hm : MtR X id r) (ho : PE X o to) (ha : PA X (e :: es) t)
    (hbase : attributeBase o name X.env (eval o X.env) = eval o X.env := by rfl)
    (hfew : ((backTo cpos (starEach (e :: es) X.env)).all (fun x => !x.1) && (backToKw cpos (keywordEach [] X.env)).all (fun x => x.1.isSome)
      && decide ((e :: es).length + ([] : List Keyword).length + (if ([] : List Keyword).isEmpty then 0 else 1) < 30)) = true := by rfl)
    (hline : (apos.endLine == cpos.line) = true := by rfl) (hs : starEach (e :: es) X.env = (false, eval e X.env) :: starEach es X.env := by rfl) (hplain : (backTo cpos (starEach es X.env)).any (·.1) = false := by rfl) :
    PE X (.Call (.Attribute o name apos) (e :: es) [] cpos) (tBM X.K T r to t) := by
  intro pins s σ H Q I h
  refine wpAny_Call_method_late hbase hfew hline rfl (thn (ho pins s σ H _ I h) fun v s1 ⟨x, H1, I1, r1, ty, q1⟩ => ?_)
  obtain ⟨h1, h2⟩ := tyV_is I1 r1 ty
  refine ⟨T, id, pa, slot, hty, h1, h2, ?_⟩
  have hA := ha cpos pins s1 σ H1 _ I1 q1
  rw [hs] at hA ⊢
  refine Calls.callWith_builtin (by show (false || (backTo cpos (starEach es X.env)).any (·.1)) = false; rw [hplain] <;> rfl) (Calls.evalArgs_plain ?_)
  exact thn hA fun us s2 ⟨vs, H2, I2, r2, q2⟩ => hm pins s2 σ H2 x vs v us Q I2 r1 r2 q2
end
end L2

namespace L2
open PySem PySem.Spec PyProof.Rows

def MtM (X : Cx) (id : String) (r : V → List V → Hp → VK → Prop) : Prop :=
  ∀ (pins : List (Addr × Obj)) (s : Shared) (σ : St) (H : Hp) (x : V) (xs : List V) (v : Value) (us : List Value) (Q : VK), Inv X pins σ H s → RelV x v → Vals xs us → r x xs H Q →
    wpAny (model X.prog X.w) X.A (call (.builtin id) (v :: us)) (EP X pins σ Q) X.xe s

theorem Vals.one : ∀ {x : V} {us : List Value}, Vals [x] us → ∃ u, us = [u] ∧ RelV x u
  | _, _, .cons r .nil => ⟨_, rfl, r⟩
theorem Vals.rep {xs : List V} {us : List Value} (h : Vals xs us) : ∀ k : Nat, Vals (List.replicate k xs).flatten (List.replicate k us).flatten
  | 0 => .nil
  | k + 1 => by
    rw [List.replicate_succ, List.replicate_succ, List.flatten_cons, List.flatten_cons]
    exact Vals.append h (Vals.rep h k)
section
variable {X : Cx} {pins : List (Addr × Obj)} {σ : St} {H : Hp} {s : Shared} {l b : Addr} {xs ys zs : List V}

theorem Inv.lset {its its' : List Value} {n : Nat} {f : Array Value → Array Value} {t' : Nat} (I : Inv X pins σ H s) (hH : H l = some (.lst xs))
    (e : s.heap.get? l = some { cls := .type "list", data := .seq its.toArray n }) (hf : f its.toArray = its'.toArray) (hv : Vals ys its') (hz : ys.length ≤ sizeLine) :
    Inv X pins σ (upd H l (.lst ys)) { s with heap := s.heap.update l (Obj.mapSeq f), toks := t' } := by
  have q := PySem.IsL.update e f
  rw [hf] at q
  refine I.write (x := l) (e := l) (by rw [hH]; exact trivial) (.inl rfl) (fun b' u hb hu => (Heap.get?_update_other s.heap (Obj.mapSeq f) (Ne.symm hb)).trans hu) ⟨_, q⟩ ?_
  exact ⟨hz, its', _, hv, q⟩
theorem Inv.lnew {its : List Value} {t' : Nat} (I : Inv X pins σ H s) (hv : Vals ys its) (hz : ys.length ≤ sizeLine) :
    Inv X pins σ (upd H s.heap.objs.size (.lst ys)) { s with heap := s.heap.push { cls := .type "list", data := .seq its.toArray }, toks := t' } :=
  I.laid (fun _ _ q => Heap.get?_push_of_some _ q) (Nat.le_refl _) ⟨hz, its, 0, hv, Heap.get?_push_size _ rfl⟩
theorem Inv.fresh (I : Inv X pins σ H s) : H s.heap.objs.size = none := I.hok.fresh (Nat.le_refl _)
theorem Inv.lstM (I : Inv X pins σ H s) (hH : H l = some (.lst xs)) : xs.length ≤ sizeLine ∧ ∃ (its : List Value) (n : Nat), Vals xs its ∧ xs.length = its.length ∧ s.heap.get? l = some { cls := .type "list", data := .seq its.toArray n } := by
  obtain ⟨z, its, n, r, e⟩ := I.hok l _ hH
  exact ⟨z, its, n, r, r.length, e⟩

end

section
variable {X : Cx}

def rAppend : V → List V → Hp → VK → Prop := fun x vs H Q => ∃ l xs y, x = .ref l ∧ vs = [y] ∧ H l = some (.lst xs) ∧ xs.length < sizeLine ∧ Q .non (upd H l (.lst (xs ++ [y])))
theorem mt_append : MtM X "list.append" rAppend := by
  intro pins s σ H x vs v us Q I rx rv h
  obtain ⟨l, xs, y, rfl, rfl, hH, hz, q⟩ := h
  cases rx
  obtain ⟨u, rfl, ru⟩ := rv.one
  obtain ⟨z, its, n, r, hl, e⟩ := I.lstM hH
  refine call_meets F.slot_list_append ⟨_, e, rfl⟩ F.entry_list_append (F.args_list_append_2 _ _) (PySem.list_append l its.toArray n u (by rw [List.size_toArray]; omega)) ⟨e, ?_⟩
  refine ⟨.non, _, I.lset (its' := its ++ [u]) hH e (by simp) (r.append (.cons ru .nil)) ?_, rfl, q⟩
  rw [List.length_append, List.length_singleton]
  omega

def rCat : R2 := fun x y H Q => ∃ l b xs zs, x = .ref l ∧ y = .ref b ∧ H l = some (.lst xs) ∧ H b = some (.lst zs) ∧ xs.length + zs.length ≤ sizeLine ∧ ∀ p, H p = none → Q (.ref p) (upd H p (.lst (xs ++ zs)))
theorem op_cat : OpR X (binaryOp .Add) rCat := by
  intro pins s σ H x y v u Q I rx ry h
  obtain ⟨l, b, xs, zs, rfl, rfl, hH, hB, hz, q⟩ := h
  cases rx
  cases ry
  obtain ⟨z, its, n, r, hl, e⟩ := I.lstM hH
  obtain ⟨z2, its2, n2, r2, hl2, e2⟩ := I.lstM hB
  refine PySem.P.add_list e e2 ?_ (by rw [List.size_toArray, List.size_toArray]; omega)
  have ea : its.toArray ++ its2.toArray = (its ++ its2).toArray := by simp
  rw [ea]
  exact ⟨.ref _, _, I.lnew (t' := s.toks) (r.append r2) (by rw [List.length_append]; omega), rfl, q _ I.fresh⟩
end

section
variable {prog : Program} {w : World} {A : Around} {E : Value → Shared → Prop} {s : Shared}
set_option maxRecDepth 100000 in
end

section
variable {X : Cx}
end
end L2

namespace L2
open PySem PySem.Spec PyProof.Rows

section
variable {κ : Type} [DecidableEq κ]
def valV (kvs : List (κ × V)) (k : κ) : Option V := (kvs.find? fun kv => decide (kv.1 = k)).map (·.2)
def putK (kvs : List (κ × V)) (k : κ) (v : V) : List (κ × V) :=
  if (kvs.any fun kv => decide (kv.1 = k)) = true then kvs.map (fun kv => if kv.1 = k then (kv.1, v) else kv) else kvs ++ [(k, v)]
theorem valV_pos {p : κ × V} {r : List (κ × V)} {k : κ} (e : p.1 = k) : valV (p :: r) k = some p.2 := by simp [valV, List.find?_cons, e]
theorem valV_neg {p : κ × V} {r : List (κ × V)} {k : κ} (e : ¬ p.1 = k) : valV (p :: r) k = valV r k := by simp [valV, List.find?_cons, e]
theorem valV_any (k : κ) : ∀ kvs : List (κ × V), (kvs.any fun kv => decide (kv.1 = k)) = (valV kvs k).isSome
  | [] => rfl
  | p :: r => by
    rw [List.any_cons]
    by_cases e : p.1 = k
    · simp only [valV_pos e, decide_eq_true e, Bool.true_or, Option.isSome_some]
    · rw [valV_neg e, decide_eq_false e, Bool.false_or]; exact valV_any k r
theorem valV_map (k j : κ) (y : V) : ∀ kvs : List (κ × V), valV (kvs.map fun kv => if kv.1 = k then (kv.1, y) else kv) j = (valV kvs j).map fun x => if j = k then y else x
  | [] => rfl
  | p :: r => by
    have ih := valV_map k j y r
    rw [List.map_cons]
    by_cases h : p.1 = k
    · rw [if_pos h]
      by_cases e : p.1 = j
      · rw [valV_pos (p := (p.1, y)) e, valV_pos e, Option.map_some, if_pos (e.symm.trans h)]
      · rw [valV_neg (p := (p.1, y)) e, valV_neg e, ih]
    · rw [if_neg h]
      by_cases e : p.1 = j
      · rw [valV_pos (p := p) e, valV_pos e, Option.map_some, if_neg (fun z => h (e.trans z))]
      · rw [valV_neg (p := p) e, valV_neg e, ih]
theorem valV_snoc (k j : κ) (y : V) : ∀ kvs : List (κ × V), valV kvs k = none → valV (kvs ++ [(k, y)]) j = if j = k then some y else valV kvs j
  | [], _ => by
    by_cases e : k = j
    · rw [if_pos e.symm]; exact valV_pos (p := (k, y)) e
    · rw [if_neg (fun z => e z.symm)]; exact valV_neg (p := (k, y)) e
  | p :: r, hn => by
    rw [List.cons_append]
    have hk : ¬ p.1 = k := fun z => by rw [valV_pos z] at hn; cases hn
    rw [valV_neg hk] at hn
    have ih := valV_snoc k j y r hn
    by_cases e : p.1 = j
    · rw [valV_pos e, valV_pos e, if_neg (fun z => hk (e.trans z))]
    · rw [valV_neg e, valV_neg e, ih]
theorem valV_put (kvs : List (κ × V)) (k j : κ) (y : V) : valV (putK kvs k y) j = if j = k then some y else valV kvs j := by
  unfold putK
  by_cases a : (kvs.any fun kv => decide (kv.1 = k)) = true
  · rw [if_pos a, valV_map]
    rw [valV_any] at a
    by_cases e : j = k
    · obtain ⟨x, hx⟩ := Option.isSome_iff_exists.mp a
      rw [if_pos e, e, hx, Option.map_some, if_pos rfl]
    · rw [if_neg e]
      cases valV kvs j with
      | none => rfl
      | some x => rw [Option.map_some, if_neg e]
  · rw [if_neg a]
    refine valV_snoc k j y kvs ?_
    rw [valV_any] at a
    cases q : valV kvs k with
    | none => rfl
    | some x => rw [q] at a; exact (a rfl).elim
theorem length_putK (kvs : List (κ × V)) (k : κ) (v : V) : (putK kvs k v).length ≤ kvs.length + 1 := by
  unfold putK
  split
  · rw [List.length_map]; omega
  · rw [List.length_append, List.length_cons, List.length_nil]; omega
theorem putK_new {kvs : List (κ × V)} {k : κ} (v : V) (h : valV kvs k = none) : putK kvs k v = kvs ++ [(k, v)] := by
  unfold putK
  rw [valV_any, h]
  exact if_neg (by decide)

theorem RelO.isSome_eq {o : Option V} {u : Option Value} (r : RelO o u) : o.isSome = u.isSome := by
  cases o with
  | none => cases u with
    | none => rfl
    | some _ => exact (show False from r).elim
  | some _ => cases u with
    | none => exact (show False from r).elim
    | some _ => rfl
theorem KV.val {kvs : List (κ × V)} {vs : List (κ × Value)} (r : KV kvs vs) (k : κ) : RelO (valV kvs k) (valueAt vs k) := by
  unfold KV at r
  induction r with
  | nil => exact True.intro
  | @cons p q ps qs h t ih =>
    obtain ⟨h1, h2⟩ := h
    by_cases e : p.1 = k
    · have e' : q.1 = k := h1.symm.trans e
      have b : valueAt (q :: qs) k = some q.2 := by simp [valueAt, List.find?_cons, e']
      rw [valV_pos e, b]; exact h2
    · have e' : ¬ q.1 = k := fun z => e (h1.trans z)
      have b : valueAt (q :: qs) k = valueAt qs k := by simp [valueAt, List.find?_cons, e']
      rw [valV_neg e, b]; exact ih
theorem KV.any {kvs : List (κ × V)} {vs : List (κ × Value)} (r : KV kvs vs) (k : κ) : (kvs.any fun kv => decide (kv.1 = k)) = vs.any fun kv => decide (kv.1 = k) := by
  unfold KV at r
  induction r with
  | nil => rfl
  | cons h t ih => rw [List.any_cons, List.any_cons, ih, h.1]
theorem KV.repl {kvs : List (κ × V)} {vs : List (κ × Value)} (r : KV kvs vs) (k : κ) {y : V} {u : Value} (ry : RelV y u) :
    KV (kvs.map fun kv => if kv.1 = k then (kv.1, y) else kv) (vs.map fun kv => if kv.1 = k then (kv.1, u) else kv) := by
  unfold KV at r ⊢
  induction r with
  | nil => exact .nil
  | @cons p q ps qs h t ih =>
    rw [List.map_cons, List.map_cons]
    refine .cons ?_ ih
    obtain ⟨h1, h2⟩ := h
    by_cases e : p.1 = k
    · rw [if_pos e, if_pos (h1.symm.trans e)]; exact ⟨h1, ry⟩
    · rw [if_neg e, if_neg (fun z => e (h1.trans z))]; exact ⟨h1, h2⟩
theorem KV.put {kvs : List (κ × V)} {vs : List (κ × Value)} (r : KV kvs vs) (k : κ) {y : V} {u : Value} (ry : RelV y u) : KV (putK kvs k y) (stored vs k u) := by
  unfold putK stored
  rw [r.any k]
  by_cases e : (vs.any fun kv => decide (kv.1 = k)) = true
  · rw [if_pos e, if_pos e]; exact r.repl k ry
  · rw [if_neg e, if_neg e]; exact Paired.snoc r ⟨rfl, ry⟩
theorem KV.length {kvs : List (κ × V)} {vs : List (κ × Value)} (r : KV kvs vs) : kvs.length = vs.length := Paired.length r
end


theorem kV_is {P : Program} {w : World} {k : Key} {u : Value} (r : RelV (kV k) u) : (mixKind P w).is k u = true := by
  cases k with
  | inl i => obtain ⟨t, e⟩ := (show ∃ t, u = Value.int i t from r); subst e; exact mixKind_int P w i t
  | inr x => obtain ⟨t, e⟩ := (show ∃ t, u = Value.str x t from r); subst e; exact mixKind_str P w x t
theorem items_are {P : Program} {w : World} : ∀ {ks : List Key} {us : List Value}, Vals (ks.map kV) us → ItemsAre (mixKind P w) ks us
  | [], _, r => by rw [List.map_nil] at r; cases r; exact .nil
  | k :: ks, _, r => by
    rw [List.map_cons] at r
    cases r with
    | cons h t => exact .cons (kV_is h) (items_are t)

abbrev KT (H : Hp) : List (List Key × V) → List (List Key × Addr × Value) → Prop := Paired fun p q => p.1 = q.1 ∧ H q.2.1 = some (.tup (p.1.map kV)) ∧ RelV p.2 q.2.2
theorem KT.val {H : Hp} {kvs : List (List Key × V)} {xs : List (List Key × Addr × Value)} (r : KT H kvs xs) (k : List Key) : RelO (valV kvs k) ((atKey xs k).map (·.2)) := by
  induction r with
  | nil => exact True.intro
  | @cons p q ps qs h t ih =>
    obtain ⟨h1, _, h2⟩ := h
    by_cases e : p.1 = k
    · have e' : q.1 = k := h1.symm.trans e
      have b : atKey (q :: qs) k = some q.2 := by simp [atKey, List.find?_cons, e']
      rw [valV_pos e, b]; exact h2
    · have e' : ¬ q.1 = k := fun z => e (h1.trans z)
      have b : atKey (q :: qs) k = atKey qs k := by simp [atKey, List.find?_cons, e']
      rw [valV_neg e, b]; exact ih
theorem KT.repl {H : Hp} {kvs : List (List Key × V)} {xs : List (List Key × Addr × Value)} (r : KT H kvs xs) (k : List Key) {y : V} {u : Value} (ry : RelV y u) :
    KT H (kvs.map fun kv => if kv.1 = k then (kv.1, y) else kv) (xs.map (putAt k u)) := by
  induction r with
  | nil => exact .nil
  | @cons p q ps qs h t ih =>
    rw [List.map_cons, List.map_cons]
    refine .cons ?_ ih
    obtain ⟨h1, h2, h3⟩ := h
    unfold putAt
    by_cases e : p.1 = k
    · rw [if_pos e, if_pos (h1.symm.trans e)]; exact ⟨h1, h2, ry⟩
    · rw [if_neg e, if_neg (fun z => e (h1.trans z))]; exact ⟨h1, h2, h3⟩
theorem KT.put {H : Hp} {kvs : List (List Key × V)} {xs : List (List Key × Addr × Value)} (r : KT H kvs xs) (k : List Key) {b : Addr} {y : V} {u : Value} (hb : H b = some (.tup (k.map kV))) (ry : RelV y u) :
    KT H (putK kvs k y) (storedH xs k b u) := by
  have e : (kvs.any fun kv => decide (kv.1 = k)) = (atKey xs k).isSome := by
    rw [valV_any, (r.val k).isSome_eq, Option.isSome_map]
  unfold putK storedH
  rw [e]
  by_cases q : (atKey xs k).isSome = true
  · rw [if_pos q, if_pos q]; exact r.repl k ry
  · rw [if_neg q, if_neg q]; exact Paired.snoc r ⟨rfl, hb, ry⟩
theorem KT.keeps {H H' : Hp} {kvs : List (List Key × V)} {xs : List (List Key × Addr × Value)} (r : KT H kvs xs) (ht : ∀ b ys, H b = some (.tup ys) → H' b = some (.tup ys)) : KT H' kvs xs :=
  Paired.mapP r fun _ _ z => ⟨z.1, ht _ _ z.2.1, z.2.2⟩

section
variable {P : Program} {w : World} {H : Hp} {h : Heap} {a : Addr}
theorem rd_of {u : HO} (ok : HOk P w H h) (e : Rd H a u) : ObjOk P w H h a u := e.ok ok
theorem dk_rd {kvs : List (Key × V)} (ok : HOk P w H h) (e : Rd H a (.dK kvs)) : kvs.length ≤ sizeLine ∧ (a == sysModules) = false ∧ ∃ vs, KV kvs vs ∧ h.DictOf (mixKind P w) a vs :=
  show ObjOk P w H h a (.dK kvs) from rd_of ok e
theorem dk_of {kvs : List (Key × V)} (ok : HOk P w H h) (e : H a = some (.dK kvs)) : kvs.length ≤ sizeLine ∧ (a == sysModules) = false ∧ ∃ vs, KV kvs vs ∧ h.DictOf (mixKind P w) a vs := dk_rd ok (.inl e)
theorem key_of {ks : List Key} (ok : HOk P w H h) (e : H a = some (.tup (ks.map kV))) : (tupleKind (mixKind P w)).is h ks a := by
  obtain ⟨_, its, r, o, h1, h2, n, h3, _⟩ := (show ObjOk P w H h a (.tup (ks.map kV)) from ok a _ e)
  exact ⟨o, its.toArray, n, h1, h2, h3, by simpa using items_are r⟩
theorem dt_rd {kvs : List (List Key × V)} (ok : HOk P w H h) (e : Rd H a (.dT kvs)) : kvs.length ≤ sizeLine ∧ (a == sysModules) = false ∧
    ∃ xs, KT H kvs xs ∧ h.DictOfH (tupleKind (mixKind P w)) a xs := by
  obtain ⟨z, y, xs, r, o, es, ep, h1, h2, h3, h4, h5⟩ := (show ObjOk P w H h a (.dT kvs) from rd_of ok e)
  refine ⟨z, y, xs, r, o, es, ep, h1, h2, h3, h4, fun x hx => ?_, h5⟩
  have all : ∀ {l : List (List Key × V)} {m : List (List Key × Addr × Value)}, KT H l m → ∀ x ∈ m, (tupleKind (mixKind P w)).is h x.1 x.2.1 := by
    intro l m q
    induction q with
    | nil => intro x hx; exact nomatch hx
    | @cons p q ps qs hq t ih =>
      intro x hx
      rcases List.mem_cons.mp hx with e | hx
      · subst e
        exact key_of ok (by rw [← hq.1]; exact hq.2.1)
      · exact ih x hx
  exact all r x hx
theorem dt_of {kvs : List (List Key × V)} (ok : HOk P w H h) (e : H a = some (.dT kvs)) : kvs.length ≤ sizeLine ∧ (a == sysModules) = false ∧
    ∃ xs, KT H kvs xs ∧ h.DictOfH (tupleKind (mixKind P w)) a xs := dt_rd ok (.inl e)
end

def DGet (H : Hp) (a : Addr) (y : V) (r : Option V) : Prop :=
  (∃ kvs k, Rd H a (.dK kvs) ∧ y = kV k ∧ r = valV kvs k) ∨ ∃ kvs k b, Rd H a (.dT kvs) ∧ y = .ref b ∧ H b = some (.tup (k.map kV)) ∧ r = valV kvs k
def DPut (H : Hp) (a : Addr) (y v : V) (H' : Hp) : Prop :=
  (∃ kvs k, H a = some (.dK kvs) ∧ y = kV k ∧ kvs.length < sizeLine ∧ H' = upd H a (.dK (putK kvs k v))) ∨
  ∃ kvs k b, H a = some (.dT kvs) ∧ y = .ref b ∧ H b = some (.tup (k.map kV)) ∧ kvs.length < sizeLine ∧ H' = upd H a (.dT (putK kvs k v))
theorem DGet.k {H : Hp} {a : Addr} {kvs : List (Key × V)} {k : Key} (e : H a = some (.dK kvs)) : DGet H a (kV k) (valV kvs k) := .inl ⟨kvs, k, .inl e, rfl, rfl⟩
theorem DPut.k {H : Hp} {a : Addr} {kvs : List (Key × V)} {k : Key} {v : V} (e : H a = some (.dK kvs)) (hl : kvs.length < sizeLine) : DPut H a (kV k) v (upd H a (.dK (putK kvs k v))) := .inl ⟨kvs, k, e, rfl, hl, rfl⟩
theorem DPut.t {H : Hp} {a b : Addr} {kvs : List (List Key × V)} {k : List Key} {v : V} (e : H a = some (.dT kvs)) (eb : H b = some (.tup (k.map kV))) (hl : kvs.length < sizeLine) :
    DPut H a (.ref b) v (upd H a (.dT (putK kvs k v))) := .inr ⟨kvs, k, b, e, rfl, eb, hl, rfl⟩


section
variable {X : Cx} {pins : List (Addr × Obj)} {σ : St} {H : Hp} {s : Shared} {a : Addr} {y v : V} {u r : Value} {o : Option V} {A : Around} {E : Value → Shared → Prop}

theorem Inv.big (I : Inv X pins σ H s) : sysModules < s.heap.objs.size := by
  have h : mainGlobals < s.heap.objs.size := (I.mod.glob.keeps I.bk).lt
  exact Nat.lt_trans (by decide) h

theorem d_getItem {Q : Value → Shared → Prop} (hu : A.units + 1 < cLine) (I : Inv X pins σ H s) (g : DGet H a y (some v)) (ry : RelV y u) (h : ∀ w' s', Inv X pins σ H s' → RelV v w' → Q w' s') :
    wpAny (model X.prog X.w) A (getItem (.ref a) u) Q E s := by
  rcases g with ⟨kvs, k, e, ey, l⟩ | ⟨kvs, k, b, e, ey, eb, l⟩
  · subst ey
    obtain ⟨z, hd, vs, rel, dd⟩ := dk_rd I.hok e
    obtain ⟨w', hw, rw'⟩ := RelO.some_of (v := v) (o := valueAt vs k) (by rw [l]; exact rel.val k)
    exact wpAny_getItem_of (kV_is ry) dd.mapOf hw (h w' _ (I.tok _) rw')
  · subst ey
    cases (show u = Value.ref b from ry)
    obtain ⟨z, hd, xs, rel, dd⟩ := dt_rd I.hok e
    obtain ⟨w', hw, rw'⟩ := RelO.some_of (v := v) (o := (atKey xs k).map (·.2)) (by rw [l]; exact rel.val k)
    obtain ⟨p, hp, hp2⟩ := Option.map_eq_some_iff.mp hw
    refine wpAny_getItem_heap (tupleKind_room_in1 hu) (key_of I.hok eb) dd hp ?_
    rw [hp2]
    exact h w' _ (I.tok _) rw'
theorem d_write {h' : Heap} {t' : Nat} {ob : HO} (I : Inv X pins σ H s) (mu : Mut (H a)) (hs : Heap.SameBut a s.heap h') (he : ∃ q, h'.get? a = some q) (new : ObjOk X.prog X.w (upd H a ob) h' a ob) :
    Inv X pins σ (upd H a ob) { s with heap := h', toks := t' } :=
  I.write (x := a) (e := a) mu (.inl rfl) (fun b q hb z => (hs.2 b hb).trans z) he new
theorem dk_new {P : Program} {w : World} {H' : Hp} {h' : Heap} {kvs : List (Key × V)} {vs : List (Key × Value)} (z : kvs.length ≤ sizeLine) (hd : (a == sysModules) = false) (rel : KV kvs vs) (dd : h'.DictOf (mixKind P w) a vs) :
    ObjOk P w H' h' a (.dK kvs) := ⟨z, hd, vs, rel, dd⟩
theorem d_setItem {H' : Hp} {Q : Unit → Shared → Prop} (hu : A.units + 1 < cLine) (I : Inv X pins σ H s) (g : DPut H a y v H') (ry : RelV y u) (rv : RelV v r) (h : ∀ s', Inv X pins σ H' s' → Q () s') :
    wpAny (model X.prog X.w) A (setItem (.ref a) u r) Q E s := by
  rcases g with ⟨kvs, k, e, ey, l, eH⟩ | ⟨kvs, k, b, e, ey, eb, l, eH⟩
  · subst ey eH
    obtain ⟨z, hd, vs, rel, dd⟩ := dk_of I.hok e
    have hz : vs.length ≤ sizeLine := by rw [← rel.length]; exact z
    have hl : (putK kvs k v).length ≤ sizeLine := by have := length_putK kvs k v; omega
    refine wpAny_setItem_pairs (hsz := hz) (kV_is ry) dd fun h' dd' hs => h _ ?_
    have he : ∃ q, h'.get? a = some q := let ⟨q, _, _, hq, _⟩ := dd'; ⟨q, hq⟩
    exact d_write I (by rw [e]; exact True.intro) hs he (dk_new hl hd (rel.put k rv) dd')
  · subst ey eH
    cases (show u = Value.ref b from ry)
    obtain ⟨z, hd, xs, rel, dd⟩ := dt_of I.hok e
    have hz : xs.length ≤ sizeLine := by rw [← Paired.length rel]; exact z
    have hl : (putK kvs k v).length ≤ sizeLine := by have := length_putK kvs k v; omega
    refine wpAny_setItem_heap (hsz := hz) (tupleKind_room_in1 hu) (key_of I.hok eb) dd fun h' dd' hs => h _ ?_
    obtain ⟨q, es, ep, hq, h2, h3, h4, _, h5⟩ := dd'
    refine d_write I (by rw [e]; exact True.intro) hs ⟨q, hq⟩ ⟨hl, hd, _, (rel.put k eb rv).keeps fun c ys ec => ?_, q, es, ep, hq, h2, h3, h4, h5⟩
    rw [upd_ne (ne_of ec e (fun z => nomatch z))]
    exact ec
end

section
variable {X : Cx} {pins : List (Addr × Obj)} {σ : St} {H : Hp} {s : Shared} {a : Addr} {kvs : List (Key × V)} {k : Key} {u : Value} {A : Around} {E : Value → Shared → Prop}
end


def NoSl (i : Expr) : Prop := ∀ ov iv, subscripted i false ov iv = operate [ov, iv] (getItem ov iv)
theorem subD_of {prog : Program} {w : World} {A : Around} {E : Value → Shared → Prop} {s : Shared} {env : Env} {value slice : Expr} {pos : Pos} {T id : String} {Q : Value → Shared → Prop}
    (hl : typeLookup (.type T) "__getitem__" = pure (some (.builtin id))) (hs : NoSl slice)
    (h : wpAny (model prog w) A (eval value env) (fun o s₁ => wpAny (model prog w) A (eval slice env) (fun i s₂ => s₂.TypeIs o T ∧ wpAny (model prog w) A (getItem o i) Q E s₂) E s₁) E s) :
    wpAny (model prog w) A (eval (.Subscript value slice pos) env) Q E s := by
  refine Subscript_ (wpAny_mono h (fun o s₁ h₁ => wpAny_mono h₁ (fun i s₂ h₂ => ?_) fun _ _ x => x) fun _ _ x => x)
  obtain ⟨hT, h₂⟩ := h₂
  unfold subscriptTail
  refine wpAny_bind ?_
  rw [getitemInPython_of_ne hT.not_modules]
  refine wpAny_bind (wpAny_specialOf hT hl ?_)
  have fin : wpAny (model prog w) A (subscripted slice false o i) (fun r s₃ => wpAny (model prog w) A (letTemporaryGo value o r >>= fun _ => pure r) Q E s₃) E s₂ := by
    rw [hs o i]
    exact wpAny_operating (wpAny_mono h₂ (fun r s₃ h₃ => wpAny_bind (wpAny_letTemporaryGo (wpAny_pure h₃))) fun _ _ x => x)
  first
    | exact wpAny_pure (wpAny_bind fin)
    | exact wpAny_bind (wpAny_pure (wpAny_bind fin))
    | exact wpAny_bind fin

theorem dict_typeIs {X : Cx} {pins : List (Addr × Obj)} {σ : St} {H : Hp} {s : Shared} {a : Addr} {y : V} {o : Option V} (I : Inv X pins σ H s) (g : DGet H a y o) : s.TypeIs (.ref a) "dict" := by
  rcases g with ⟨kvs, k, e, _, _⟩ | ⟨kvs, k, b, e, _, _, _⟩
  · obtain ⟨_, _, vs, _, dd⟩ := dk_rd I.hok e
    exact dd.typeIs
  · obtain ⟨_, _, xs, _, dd⟩ := dt_rd I.hok e
    exact dd.typeIs
def tDGet (td ty : TE) : TE := fun σ H Q => td σ H fun x H1 => ty σ H1 fun y H2 => ∃ a v, x = .ref a ∧ DGet H2 a y (some v) ∧ Q v H2
def sDPut (td ty tv : TE) : TS := fun D σ H => tv σ H fun v H1 => td σ H1 fun x H2 => ty σ H2 fun y H3 => ∃ a H4, x = .ref a ∧ DPut H3 a y v H4 ∧ D.nx σ H4
section
variable {X : Cx} {o i e value : Expr} {pos pos' tpos : Pos} {td ty tv : TE}
theorem pe_dget (hu : X.A.units + 1 < cLine) (ho : PE X o td) (hi : PE X i ty) (hs : NoSl i) : PE X (.Subscript o i pos) (tDGet td ty) := by
  intro pins s σ H Q I h
  refine subD_of PySem.F.slot_dict_getitem.lookup hs (thn (ho pins s σ H _ I h) fun u s1 ⟨x, H1, I1, rx, q1⟩ => thn (hi pins s1 σ H1 _ I1 q1) fun iv s2 ⟨y, H2, I2, ry, a, v, ex, g, q2⟩ => ?_)
  subst ex
  obtain rfl : u = Value.ref a := rx
  exact ⟨dict_typeIs I2 g, d_getItem hu I2 g ry fun w' s3 I3 rw' => ⟨v, H2, I3, rw', q2⟩⟩
theorem ps_dput (hu : X.A.units + 1 < cLine) (ho : PE X o td) (hi : PE X i ty) (hv : PE X value tv) (hs : swapsWith value (some (.Subscript o i pos')) pos.line X.env = pure false) :
    PS X (.Assign [.Subscript o i pos'] value pos) (sDPut td ty tv) := by
  intro pins s σ H D I h
  refine wpAny_Assign_Subscript (thn (hv pins s σ H _ I h) fun r s1 ⟨v, H1, I1, rv, q1⟩ => thn (ho pins s1 σ H1 _ I1 q1) fun u s2 ⟨x, H2, I2, rx, q2⟩ => thn (hi pins s2 σ H2 _ I2 q2) fun iv s3 ⟨y, H3, I3, ry, a, H4, ex, g, q3⟩ => ?_) hs
  subst ex
  obtain rfl : u = Value.ref a := rx
  exact d_setItem hu I3 g ry rv fun s4 I4 => ⟨σ, H4, I4, q3⟩
end


theorem dk_empty {P : Program} {w : World} {H : Hp} (h : Heap) (hb : sysModules < h.objs.size) : ObjOk P w H (h.push { cls := .type "dict", data := .dict #[] }) h.objs.size (.dK []) :=
  ⟨Nat.zero_le _, beq_eq_false_iff_ne.mpr (Ne.symm (Nat.ne_of_lt hb)), [], .nil, Heap.DictOf.new h⟩
theorem dt_empty {P : Program} {w : World} {H : Hp} (h : Heap) (hb : sysModules < h.objs.size) : ObjOk P w H (h.push { cls := .type "dict", data := .dict #[] }) h.objs.size (.dT []) :=
  ⟨Nat.zero_le _, beq_eq_false_iff_ne.mpr (Ne.symm (Nat.ne_of_lt hb)), [], .nil, _, #[], 0, Heap.get?_push_size _ rfl, ⟨rfl, rfl, rfl⟩, rfl, rfl, List.nodup_nil⟩
def tDNewK : TE := fun _ H Q => ∀ p, H p = none → Q (.ref p) (upd H p (.dK []))
def tDNewT : TE := fun _ H Q => ∀ p, H p = none → Q (.ref p) (upd H p (.dT []))
section
variable {X : Cx} {pos : Pos}
theorem pe_dnewK : PE X (.Dict [] [] pos) tDNewK := fun pins s σ H Q I h =>
  wpAny_Dict_empty ⟨.ref s.heap.objs.size, _, I.laid (a := s.heap.objs.size) (o := .dK []) (t' := s.toks) (fun _ _ q => Heap.get?_push_of_some _ q) (Nat.le_refl _) (dk_empty s.heap I.big), rfl, h _ (I.hok.fresh (Nat.le_refl _))⟩
theorem pe_dnewT : PE X (.Dict [] [] pos) tDNewT := fun pins s σ H Q I h =>
  wpAny_Dict_empty ⟨.ref s.heap.objs.size, _, I.laid (a := s.heap.objs.size) (o := .dT []) (t' := s.toks) (fun _ _ q => Heap.get?_push_of_some _ q) (Nat.le_refl _) (dt_empty s.heap I.big), rfl, h _ (I.hok.fresh (Nat.le_refl _))⟩
end

section
variable {X : Cx} {pins : List (Addr × Obj)} {σ : St} {H : Hp} {s : Shared} {a : Addr} {y d : V} {u r : Value} {o : Option V} {A : Around} {E : Value → Shared → Prop}
end

section
variable {X : Cx} {o e f : Expr} {apos cpos : Pos} {td ty tx : TE}
end

section
variable {X : Cx} {pins : List (Addr × Obj)} {σ : St} {H : Hp} {s : Shared} {a : Addr} {kvs : List (Key × V)} {A : Around} {E : Value → Shared → Prop}
end


section
variable {X : Cx} {pins : List (Addr × Obj)} {σ : St} {H : Hp} {s : Shared} {a : Addr} {y : V} {u : Value} {A : Around} {E : Value → Shared → Prop}
end
end L2

namespace Att
open PySem PySem.W PySem.Calls PyProof.Rows

theorem ints_of_wellAll {P : Params} {h : Heap} : ∀ (ns : List Int) (vs : List Value), WellAll P h vs (ns.map WData.int) → IntsAre vs ns := by
  intro ns
  induction ns with
  | nil =>
    intro vs w
    rw [List.map_nil] at w
    cases w
    exact .nil
  | cons n ns ih =>
    intro vs w
    rw [List.map_cons] at w
    cases w with
    | cons a b =>
      cases a
      exact .cons _ _ (ih _ b)

theorem script_of {l : OpenLaw} {n : Nat} (hn : l.most = some n) {P : Params} {h : Heap} {args : List WData} {vals : List Value}
    (hpre : l.row.toRowW.claim.pre args = true) (hwl : WellAll P h vals args) :
    ∃ a vs ns, vals = [Value.ref a] ∧ args = [WData.list (ns.map WData.int)] ∧ h.get? a = some { cls := .type "list", data := .seq vs.toArray } ∧ IntsAre vs ns ∧ ns.length ≤ n := by
  have hsh : WShape.hasAll [] args [.list .int] = true := (pre_splitW hpre).1
  have hc : l.pre.holds [] { args := args } = true := (pre_splitW hpre).2
  obtain ⟨d, r, rfl, h1, h2⟩ := hasAllW_cons hsh
  obtain rfl := hasAllW_nil h2
  obtain ⟨xs, rfl, h3⟩ := hasW_list h1
  obtain ⟨ns, rfl⟩ := items_int h3
  have hlen : ns.length ≤ n := by
    unfold OpenLaw.pre at hc
    have h4 : (WTm.not (.lt (.lit (.int (n : Int))) (.len (.arg 0)))).holds [] { args := [.list (ns.map .int)] } = true := by
      have h4 := (holds_andW hc).1
      rw [hn] at h4
      exact h4
    have h5 := condW_of h4 (w_not (w_lt w_lit (w_len_list (w_arg rfl))))
    rw [List.length_map] at h5
    refine Nat.le_of_not_lt fun q => ?_
    have q' : (n : Int) < ((ns.length : Nat) : Int) := by omega
    first
      | (rw [decide_eq_true q'] at h5; exact absurd h5 (by decide))
      | (simp at h5; omega)
  cases hwl with
  | cons w1 w2 =>
    cases w2
    cases w1 with
    | list ho hall => exact ⟨_, _, ns, rfl, rfl, ho, ints_of_wellAll ns _ hall, hlen⟩

theorem post_true (l : OpenLaw) (args : List WData) : l.row.toRowW.claim.post args (.bool true) args = true :=
  postW_of (r := l.row.toRowW) (X := (true == true))
    (show WShape.has [] (.bool true) .bool = true by first | rfl | decide | simp [WShape.has, WShape.arms, WShape.armsAll])
    (show (WTm.eq .res (.lit (.bool true))).value [] { args := args, res := some (.bool true), after := args } = some (.bool (true == true)) from w_eq_bool (w_res rfl) w_lit) rfl

theorem attach_call {l : OpenLaw} {n : Nat} {q : Program} {loose : List Str} {XP : (Str → Option Value) → Heap → Prop} {YP : World → Heap → Prop} {d : DefRec}
    (hn : l.most = some n) (hdf : d.params.defaults = [])
    (call : ∀ (w : World) (s₀ s₁ : Shared) (mg mb : Str → Option Value) (fa : Addr) (o : Obj) (pm cd doc : Value) (a : Addr) (vs : List Value) (ns : List Int),
      Ground q loose [] XP w s₀ mg mb s₁.heap → YP w s₁.heap →
      s₁.heap.get? fa = some o → o.data = .func (docDef d.name d.params d.body d.scope pm cd doc) → s₁.heap.CodeRec cd d.name → mg d.name = some (.ref fa) →
      s₁.heap.get? a = some { cls := .type "list", data := .seq vs.toArray } → IntsAre vs ns → ns.length ≤ n → s₁.gens = #[] →
      codeAny (model l.prog w) callerA (.call (.ref fa) ⟨[.ref a], []⟩) (fun r s' => r = .ok (.ret (.bool true)) ∧ OldK s₁.heap s'.heap ∧ s'.os = s₁.os ∧ AllBare s'.gens) s₁) :
    WalkO q loose XP YP l.row.toRowW d [] (fun f vs => PySem.call f vs) := by
  intro w s₀ s₁ mg mb G Y fa o pm cd doc dV kV ho hd hcd hD hmg hg args vals as hpre hlay hrd hwl hlo
  obtain rfl : dV = .none := Dflts.none hD hdf
  obtain rfl : kV = .none := Dflts.noKw hD
  obtain ⟨a, vs, ns, rfl, rfl, hobj, hints, hlen⟩ := script_of hn hpre hwl
  refine enter_call (codeAny_mono (call w s₀ s₁ mg mb fa o pm cd doc a vs ns G Y ho (fd_plain hd) hcd hmg hobj hints hlen hg) fun r s' hq => ?_)
  obtain ⟨rfl, h2, h3, h4⟩ := hq
  exact ⟨.inl ⟨.bool true, .bool true, [], rfl, fun _ => rfl, .bool true, post_true l _, fun _ => ⟨List.Pairwise.nil, fun _ hm => (nomatch hm)⟩⟩, h2, h3, h4⟩

section
variable {prog : Program} {w : World} {A : Around} {E : Value → Shared → Prop} {s : Shared} {K : Frag}

end
end Att

namespace L2
open PySem PySem.Spec PyProof.Rows

theorem vals_ints : ∀ {vs : List Value} {ns : List Int}, IntsAre vs ns → Vals (ns.map V.int) vs
  | _, _, .nil => .nil
  | _, _, .cons n t h => .cons ⟨t, rfl⟩ (vals_ints h)

def Only (H : Hp) : Prop := ∀ b, H b = none ∨ ∃ o xs, H b = some (.frz o (.lst xs))

theorem law_call {P : Program} {w : World} {K : PySem.W.Frag} {mg mb : Str → Option Value} {CX : CXT} {k : Nat} {fa a : Addr} {fd : FuncData} {x : Str} {sp : Sp} {s₁ : Shared} {vs : List Value} {ns : List Int}
    (KX : K.In s₁.heap) (hns : s₁.heap.Ns mainGlobals mg) (hb : s₁.heap.Ns builtinsNs mb) (hbb : ∀ x : Str, x ≠ "__name__" → mb x = bootBuiltins x) (hlim : s₁.heap.NoLimit) (hg : s₁.gens = #[])
    (ha : s₁.heap.get? a = some { cls := .type "list", data := .seq vs.toArray }) (hi : IntsAre vs ns) (hl : ns.length ≤ sizeLine) (hr : Room k callerA)
    (F : ∀ base : Heap, K.In base → base.Ns mainGlobals mg → FnOk P w K mg base CX k fa fd [x] sp) (hbind : ∀ (s : Shared) (u : Value), BindsTo s fd ⟨[u], []⟩ [(x, u)])
    (hsp : ∀ H : Hp, Only H → SqL K H a (ns.map V.int) → sp [.ref a] H (fun v _ => v = .bl true) fun _ _ _ => False)
    (hCX : ∀ H e s', CX [] H s₁ (fun _ _ _ => False) e s' → False) :
    codeAny (model P w) callerA (.call (.ref fa) ⟨[.ref a], []⟩) (fun r s' => r = .ok (.ret (.bool true)) ∧ OldK s₁.heap s'.heap ∧ s'.os = s₁.os ∧ AllBare s'.gens) s₁ := by
  have rv := vals_ints hi
  have lenV := hi.length
  -- from an abstract heap in which nothing but the script may be tracked
  have core : ∀ H : Hp, Only H → SqL K H a (ns.map V.int) → HOk P w H s₁.heap → (∀ b, H b ≠ none → b = a) → (H a ≠ none → K.lookup a = none) →
      codeAny (model P w) callerA (.call (.ref fa) ⟨[.ref a], []⟩) (fun r s' => r = .ok (.ret (.bool true)) ∧ OldK s₁.heap s'.heap ∧ s'.os = s₁.os ∧ AllBare s'.gens) s₁ := by
    intro H hO hS hok hA hK
    have base_of : ∀ {b : Addr} {o : Obj}, s₁.heap.get? b = some o → H b = none → (hidT s₁.heap H).get? b = some o := fun e n => hidT_get e n
    have noA : ∀ {b : Addr} {o : Obj} {es : Array DictEntry} {ep : Nat}, s₁.heap.get? b = some o → o.data = .dict es ep → H b = none := fun {b o es ep} e d => by
      cases q : H b with
      | none => rfl
      | some u =>
        have e' : b = a := hA b (by rw [q]; simp)
        subst e'
        rw [ha] at e; cases e
        have d' : Data.seq vs.toArray _ = Data.dict es ep := d
        cases d'
    have nsK : ∀ {b : Addr} {m : Str → Option Value}, s₁.heap.Ns b m → (hidT s₁.heap H).Ns b m := fun {b m} ⟨o, es, ep, e, d, r⟩ => ⟨o, es, ep, base_of e (noA e d), d, r⟩
    have hKb : K.In (hidT s₁.heap H) := fun b o e => base_of (KX b o e) (by
      cases q : H b with
      | none => rfl
      | some u =>
        have e' : b = a := hA b (by rw [q]; simp)
        subst e'
        rw [hK (by rw [q]; simp)] at e; cases e)
    have hM : Mod K mg (hidT s₁.heap H) := ⟨hKb, nsK hns, ⟨mb, nsK hb, hbb⟩, let ⟨mc, h1, h2⟩ := hlim; ⟨mc, nsK h1, h2⟩⟩
    have e0 : Env0 P w K mg (hidT s₁.heap H) callerA [] s₁ H := ⟨rfl, hM, fun b o e => of_hidT e, Nat.le_of_eq (hidT_size _ _), trivial, fun b hb => absurd (show b ∈ ([] : List Addr) from hb) (by simp), hok, .of_eq hg⟩
    refine codeAny_mono ((F _ hKb (nsK hns)).run callerA [] s₁ H ⟨[.ref a], []⟩ [.ref a] [.ref a] _ _ hr e0 (hbind s₁ (.ref a)) (.cons rfl .nil) (hsp H hO hS)) fun r s' h => ?_
    cases r with
    | error e => exact (hCX H e s' h).elim
    | ok fl =>
      cases fl with
      | next => exact False.elim h
      | brk => exact False.elim h
      | cont => exact False.elim h
      | ret u =>
        obtain ⟨v, H', os, bare, un, hok', r', q⟩ := h
        have q' : v = .bl true := q
        subst q'
        obtain rfl : u = Value.bool true := r'
        refine ⟨rfl, OldK.of_keep fun b o e => ?_, os, bare⟩
        cases q : H b with
        | none => exact un.keep b o e q (by intro z; exact absurd (show b ∈ ([] : List Addr) from z) (by simp)) (by simp)
        | some u =>
          rcases hO b with z | ⟨ob, xs, z⟩
          · rw [q] at z; cases z
          · have z2 := un.frzs b ob _ z
            obtain ⟨e1, _⟩ := hok b _ z
            obtain ⟨e2, _⟩ := hok' b _ z2
            rw [e] at e1; cases e1
            exact e2
  cases hk : K.lookup a with
  | some o =>
    -- the script is one of the module's own objects
    have e := KX a o hk
    rw [ha] at e
    cases e
    refine core (fun _ => none) (fun _ => .inl rfl) (.inr ⟨_, vs.toArray, _, hk, rfl, rfl, rfl, by rw [List.size_toArray, lenV]; exact hl, by simpa using rv⟩) (fun b u z => by have z' : (none : Option HO) = some u := z; cases z') (fun b z => absurd rfl z) fun z => absurd rfl z
  | none =>
    refine core (fun b => if b = a then some (.frz { cls := .type "list", data := .seq vs.toArray } (.lst (ns.map V.int))) else none) (fun b => ?_) (.inl (.inr ⟨{ cls := .type "list", data := .seq vs.toArray }, if_pos rfl⟩)) (fun b u z => ?_) (fun b z => ?_) fun _ => hk
    · by_cases hb : b = a
      · exact .inr ⟨_, _, if_pos hb⟩
      · exact .inl (if_neg hb)
    · by_cases hb : b = a
      · have z' := (if_pos hb).symm.trans z
        cases z'
        subst hb
        exact ⟨ha, by rw [List.length_map]; exact hl, vs, _, rv, ha⟩
      · have z' := (if_neg hb).symm.trans z
        cases z'
    · by_cases hb : b = a
      · exact hb
      · exact absurd (if_neg hb) z
end L2

namespace L2
open PySem PySem.Spec PyProof.Rows

theorem walk_of {l : PySem.W.OpenLaw} {n k : Nat} {q : Program} {loose : List Str} {XP : (Str → Option Value) → Heap → Prop} {YP : World → Heap → Prop} {d : DefRec} {K : Params → PySem.W.Frag} {CX : World → CXT} {sp : World → Sp} {x : Str}
    (hn : l.most = some n) (hn2 : n ≤ sizeLine) (hdf : d.params.defaults = []) (hr : Room k callerA)
    (hY : ∀ (w : World) (h : Heap), YP w h → (K w.params).In h)
    (F : ∀ (w : World) (mg : Str → Option Value) (fa : Addr) (h : Heap), (K w.params).In h → h.Ns mainGlobals mg → mg d.name = some (.ref fa) →
      ∃ fd : FuncData, (∀ (s : Shared) (u : Value), BindsTo s fd ⟨[u], []⟩ [(x, u)]) ∧
        ∀ base : Heap, (K w.params).In base → base.Ns mainGlobals mg → FnOk l.prog w (K w.params) mg base (CX w) k fa fd [x] (sp w))
    (hsp : ∀ (w : World) (H : Hp) (a : Addr) (ns : List Int), ns.length ≤ n → Only H → SqL (K w.params) H a (ns.map V.int) → sp w [.ref a] H (fun v _ => v = .bl true) fun _ _ _ => False)
    (hCX : ∀ (w : World) (H : Hp) (s : Shared) (e : Value) (s' : Shared), CX w [] H s (fun _ _ _ => False) e s' → False) :
    PySem.W.WalkO q loose XP YP l.row.toRowW d [] (fun f vs => PySem.call f vs) := by
  refine Att.attach_call hn hdf fun w s₀ s₁ mg mb fa o pm cd doc a vs ns G Y ho hd hcd hmg hobj hints hlen hg => ?_
  have KX := hY w _ Y
  obtain ⟨fd, hb, hF⟩ := F w mg fa _ KX G.T.g hmg
  exact law_call KX G.T.g G.T.b G.T.builtins G.T.nolimit hg hobj hints (Nat.le_trans hlen hn2) hr hF hb (fun H hO hS => hsp w H a ns hlen hO hS) fun H e s' => hCX w H s₁ e s'
end L2


namespace L2
open PySem PySem.Spec PyProof.Rows

def defArgs (s : Stmt) : Arguments := match s with
  | .FunctionDef _ a _ _ _ _ _ _ _ _ => a
  | _ => { posonlyargs := [], args := [], vararg := none, kwonlyargs := [], kw_defaults := [], kwarg := none, defaults := [] }
def defBody (s : Stmt) : List Stmt := match s with
  | .FunctionDef _ _ b _ _ _ _ _ _ _ => b
  | _ => []
def defScope (s : Stmt) : Scope := match s with
  | .FunctionDef _ _ _ _ _ _ sc _ _ _ => sc
  | _ => { kind := .function, names := [], isGenerator := false, isCoroutine := false }

abbrev CX0 : CXT := fun _ _ _ _ _ _ => False
abbrev E0 : XK := fun _ _ _ => False
theorem pass0 {X : Cx} : Passes CX0 X E0 := fun _ _ _ _ _ _ _ h => h.elim

structure Fun (K : PySem.W.Frag) (x qual : Str) (st : Stmt) (f : Addr) (fd : FuncData) : Prop where
  ex : ∃ (oc : Value) (od : Option Addr) (kV doc pm : Value) (an : Option Addr) (cdv ct : Value) (osl : Array (Option Value)),
    fd = PySem.W.fnOf x qual (defArgs st) (defBody st) (defScope st) .none kV doc pm an cdv ct ∧ K.lookup f = some ⟨oc, od, .func fd, osl⟩ ∧ PySem.W.codeIn K cdv qual = true
  kp : PySem.W.keepIn K (.ref f) = true
section
variable {P : Program} {w : World} {K : PySem.W.Frag} {mg : Str → Option Value} {base : Heap}
theorem Fun.ok {x qual : Str} {st : Stmt} {f : Addr} {fd : FuncData} {N ps : List Str} {k : Nat} {sp : Sp} (F : Fun K x qual st f fd) (S : FnScope N ps (defScope st)) (len : ∀ vs H Q E, sp vs H Q E → vs.length = ps.length)
    (hbody : ∀ (cdv : Value) (A : Around) (outer : List Env) (s : Shared) (H : Hp) (vs : List V) (Q : VK) (E : XK), Room k (A.deeper (envOfC qual (defScope st) s.heap.objs.size f cdv)) → sp vs H Q E →
      ∃ t, PSs (cxOf CX0 P w K mg base N qual (defScope st) f cdv A outer s H E).nox (defBody st) t ∧ t { nx := fun _ H' => Q .non H', rt := Q } (start N vs) H) : FnOk P w K mg base CX0 (k + 1) f fd ps sp := by
  obtain ⟨oc, od, kV, doc, pm, an, cdv, ct, osl, rfl, lk, hcd⟩ := F.ex
  refine fn_of lk hcd S len fun A outer s H vs Q E hr hsp => ?_
  obtain ⟨t, h, q⟩ := hbody cdv A outer s H vs Q E hr hsp
  exact ⟨t, h.nox, q⟩
theorem Fun.binds {x qual : Str} {st : Stmt} {f : Addr} {fd : FuncData} {ps : List Str} (F : Fun K x qual st f fd)
    (h : ∀ (kV doc pm : Value) (an : Option Addr) (cdv ct : Value) (us : List Value), us.length = ps.length → bindArgs (PySem.W.fnOf x qual (defArgs st) (defBody st) (defScope st) .none kV doc pm an cdv ct) ⟨us, []⟩ = pure (ps.zip us)) : Binds K fd ps [] := by
  obtain ⟨oc, od, kV, doc, pm, an, cdv, ct, osl, rfl, lk, hcd⟩ := F.ex
  exact .all (h kV doc pm an cdv ct)
theorem fun_mk {x qual : Str} {st : Stmt} {f : Addr} {oc : Value} {od an : Option Addr} {osl : Array (Option Value)} {kV doc pm cdv ct : Value} (l : K.lookup f = some ⟨oc, od, .func (PySem.W.fnOf x qual (defArgs st) (defBody st) (defScope st) .none kV doc pm an cdv ct), osl⟩)
    (c : PySem.W.codeIn K cdv qual = true) (k : PySem.W.keepIn K (.ref f) = true) : Fun K x qual st f (PySem.W.fnOf x qual (defArgs st) (defBody st) (defScope st) .none kV doc pm an cdv ct) := ⟨⟨oc, od, kV, doc, pm, an, cdv, ct, osl, rfl, l, c⟩, k⟩
end
theorem hu_of {A : Around} {k : Nat} (hr : Room k A) : A.units + 1 < cLine := Nat.lt_of_le_of_lt (Nat.add_le_add_left (by decide : 1 ≤ 64) _) hr.units
theorem small1000 {n : Nat} (h : n ≤ 1000) : n < sizeLine := Nat.lt_of_le_of_lt h (by decide)

section
variable {X : Cx}
theorem pv (i : Nat) {x : Str} {pos : Pos} (hN : X.N[i]? = some x := by rfl) (hv : Vis X.env.scope x := by first | exact Or.inl rfl | exact Or.inr (Or.inl rfl) | exact Or.inr (Or.inr rfl)) (hd : (x == ("__debug__" : Str)) = false := by decide)
    (hcd : (x == ("__classdict__" : Str)) = false := by decide) : PE X (.Name x pos) (tVar i) := pe_var hN hv hd hcd
end

theorem iteF {A B : Prop} (h : B) : if false = true then A else B := by
  rw [if_neg Bool.false_ne_true]
  exact h
theorem iteT {A B : Prop} (h : A) : if true = true then A else B := by
  rw [if_pos rfl]
  exact h
theorem ite2 {c A B : Prop} [Decidable c] (h1 : c → A) (h2 : ¬ c → B) : if c then A else B := by
  by_cases h : c
  · rw [if_pos h]
    exact h1 h
  · rw [if_neg h]
    exact h2 h
def Same (H H' : Hp) : Prop := ∀ b o, H b = some o → H' b = some o
theorem Same.refl (H : Hp) : Same H H := fun _ _ h => h
theorem Same.trans {H H1 H2 : Hp} (a : Same H H1) (b : Same H1 H2) : Same H H2 := fun c o h => b c o (a c o h)
theorem Same.seq {K : PySem.W.Frag} {H H' : Hp} {a : Addr} {xs : List V} (e : Same H H') (h : SqL K H a xs) : SqL K H' a xs := by
  rcases h with (h | ⟨o, h⟩) | h
  · exact .inl (.inl (e _ _ h))
  · exact .inl (.inr ⟨o, e _ _ h⟩)
  · exact .inr h

section
variable {κ : Type} [DecidableEq κ]
end
end L2


namespace L2
open PySem PySem.Spec PyProof.Rows
section
variable {prog : Program} {w : World} {A : Around} {R : Result → Shared → Prop}
theorem lc_loop {elt tg iter : Expr} {ifs : List Expr} {scope : Scope} {pos : Pos} {itv accv : Value} {ce : Env} (J : Nat → Shared → Prop)
    (step : ∀ k t, J k t → wpAny (model prog w) A (pyNext itv) (fun r t1 => match r with
      | none => R (.ok .next) t1
      | some v => wpAny (model prog w) A (letOwnedTupleGo tg itv v) (fun _ t2 => wpAny (model prog w) A (assign tg ce v) (fun _ t3 =>
          wpAny (model prog w) A (forIn ifs true fun c r => if r = true then do let ok ← isTrue c ce (eval c ce); pure (ForInStep.yield ok) else pure (ForInStep.yield r)) (fun ok t4 =>
            if ok = true then wpAny (model prog w) A (eval elt ce) (fun x t5 =>
              wpAny (model prog w) A (call (.builtin "list.append") [accv, x]) (fun _ t6 => ∃ j, j < k ∧ J j t6) (fun _ _ => False) t5) (fun _ _ => False) t4
            else ∃ j, j < k ∧ J j t4) (fun _ _ => False) t3) (fun _ _ => False) t2) (fun _ _ => False) t1) (fun _ _ => False) t)
    (n : Nat) {s : Shared} (h : J n s) :
    codeAny (model prog w) A (.compLoop (.ListComp elt [⟨tg, iter, ifs, 0⟩] scope pos) 0 itv accv ce) R s := by
  refine codeAny_loop rfl J (fun k t hJ => ?_) n h
  show wpAny _ A ((compTurn (.ListComp elt [⟨tg, iter, ifs, 0⟩] scope pos) 0 itv accv ce).onRaise (fun x => do noteFrame x ce; theTreesLotGoes x)) _ _ t
  refine wpAny_noted ?_
  rw [compTurn_list]
  refine wpAny_bind (wpAny_standAt (wpAny_bind (wpAny_mono (step k t hJ) (fun r t1 h1 => ?_) fun _ _ z => z.elim)))
  cases r with
  | none => exact wpAny_pure h1
  | some v =>
    refine wpAny_bind (wpAny_mono h1 (fun _ t2 h2 => ?_) fun _ _ z => z.elim)
    refine wpAny_bind (wpAny_mono h2 (fun _ t3 h3 => wpAny_bind (wpAny_mono h3 (fun ok t4 h4 => ?_) fun _ _ z => z.elim)) fun _ _ z => z.elim)
    cases ok with
    | false => exact wpAny_pure ⟨rfl, h4⟩
    | true =>
      exact wpAny_bind (wpAny_bind (wpAny_mono h4 (fun x t5 h5 => wpAny_bind (wpAny_mono h5 (fun _ t6 h6 => wpAny_pure (wpAny_pure ⟨rfl, h6⟩)) fun _ _ z => z.elim)) fun _ _ z => z.elim))
end

def cxLc (X : Cx) (N : List Str) (scope : Scope) (cl : List (Str × Addr)) (C : Addr) (s : Shared) (H : Hp) (fp : List Addr) : Cx where
  prog := X.prog
  w := X.w
  K := X.K
  mg := X.mg
  base := X.base
  A := X.A
  N := N
  s₀ := s
  H₀ := H
  env := compEnvC scope cl C X.env
  outer := X.stack
  stack := X.stack
  ex := fp
  fn := fun _ => false
  calm := X.calm
  pn := []
  xe := fun _ _ => False

def CapsIn (env : Env) : List (Str × Addr) → Prop
  | [] => True
  | p :: r => (env.kindOf p.1 = some .cell ∧ env.cells.lookup p.1 = some p.2) ∧ CapsIn env r
theorem CapsIn.get {env : Env} : ∀ {cl : List (Str × Addr)}, CapsIn env cl → ∀ x c, cl.lookup x = some c → env.kindOf x = some .cell ∧ env.cells.lookup x = some c
  | [], _, _, _, e => by simp at e
  | (n, a) :: r, h, x, c, e => by
    by_cases hx : x = n
    · subst hx
      simp only [List.lookup_cons, beq_self_eq_true] at e
      cases e
      exact h.1
    · have hb : (x == n) = false := by simpa using hx
      simp only [List.lookup_cons, hb] at e
      exact CapsIn.get h.2 x c e
structure LcOk (X : Cx) (N : List Str) (src : List (Option Nat)) (scope : Scope) (cl : List (Str × Addr)) : Prop where
  clos : closureFor scope X.env = pure cl
  kind : scope.kind = .function
  nocell : scope.names.all (fun y => !(y.2 == .cell)) = true
  names : scope.names.all (fun y => !(y.2 == .local) || scope.names.lookup y.1 == some .local) = true
  caps : CapsIn X.env cl
  has : (relabel scope X.env).names.all (fun y => !(y.2 == .cell || y.2 == .free) || (cl.lookup y.1).isSome) = true
  len : N.length = src.length
  srcs : (N.zip src).all (fun p => match p.2 with | none => true | some i => X.N[i]? == some p.1 && !((relabel scope X.env).names.lookup p.1 == some .local)) = true
def capS (src : List (Option Nat)) (σ : St) : St := src.map fun o => match o with | none => none | some i => (σ[i]?).join
def GOwn (g : TG) (src : List (Option Nat)) : Prop :=
  ∀ x σ H Q, g x σ H Q → g x σ H fun σ2 H2 => Q σ2 H2 ∧ σ2.length = σ.length ∧ ∀ k : Nat, src[k]? ≠ some none → σ2[k]? = σ[k]?
theorem gown_name {i : Nat} {src : List (Option Nat)} (h : src[i]? = some none) : GOwn (gName i) src := fun x σ H Q q =>
  ⟨q, by simp, fun k hk => by
    have : i ≠ k := fun e => hk (by rw [← e]; exact h)
    rw [List.getElem?_set_ne this]⟩
theorem gown_pair {K : PySem.W.Frag} {i j n : Nat} {src : List (Option Nat)} (h : src[i]? = some none) (h' : src[j]? = some none) : GOwn (gTup K n (gCons (gName i) (gCons (gName j) gNil))) src := by
  intro x σ H Q q
  obtain ⟨a, xs, e1, e2, e3, v, r, e4, v2, r2, e5, e6, q⟩ := q
  refine ⟨a, xs, e1, e2, e3, v, r, e4, v2, r2, e5, e6, q, by simp, fun k hk => ?_⟩
  have n1 : i ≠ k := fun e => hk (by rw [← e]; exact h)
  have n2 : j ≠ k := fun e => hk (by rw [← e]; exact h')
  rw [List.getElem?_set_ne n2, List.getElem?_set_ne n1]
theorem capS_len (src : List (Option Nat)) (σ : St) : (capS src σ).length = src.length := by simp [capS]
theorem capS_get {src : List (Option Nat)} {σ : St} {k : Nat} {v : V} (h : (capS src σ)[k]? = some (some v)) : ∃ i, src[k]? = some (some i) ∧ σ[i]? = some (some v) := by
  unfold capS at h
  rw [List.getElem?_map] at h
  cases e : src[k]? with
  | none => rw [e] at h; cases h
  | some o =>
    rw [e] at h
    cases o with
    | none => cases h
    | some i =>
      refine ⟨i, rfl, ?_⟩
      have h : some ((σ[i]?).join) = some (some v) := h
      have h := Option.some.inj h
      cases q : σ[i]? with
      | none => rw [q] at h; cases h
      | some z => rw [q] at h; have h : z = some v := h; rw [h]
def PIfs (X : Cx) (ifs : List Expr) (t : TT) : Prop :=
  ∀ (pins : List (Addr × Obj)) (s : Shared) (σ : St) (H : Hp) (Q : Bool → Hp → Prop), Inv X pins σ H s → t σ H Q →
    wpAny (model X.prog X.w) X.A (forIn ifs true fun c r => if r = true then do let ok ← isTrue c X.env (eval c X.env); pure (ForInStep.yield ok) else pure (ForInStep.yield r)) (TP X pins σ Q) X.xe s
def tYes : TT := fun _ H Q => Q true H
theorem pifs_nil {X : Cx} : PIfs X [] tYes := fun _ _ _ H _ I h => wpAny_tests_nil ⟨H, I, h⟩
theorem pifs_one {X : Cx} {c : Expr} {t : TT} (h : PT X c t) : PIfs X [c] t := fun pins s σ H Q I q => wpAny_tests_one (h pins s σ H Q I q)
def tLc (wi : TI) (src : List (Option Nat)) (g : TG) (tc : TT) (te : TE) : TE := fun σ H Q => wi σ H fun J H1 =>
  ∃ W : Nat → Nat → List V → Hp → Prop, (∃ m, W 0 m [] H1) ∧ ∀ i m ys H, W i m ys H →
    (J.stop i H ∧ ys.length ≤ sizeLine ∧ ∀ p, H p = none → Q (.ref p) (upd H p (.lst ys))) ∨
    (J.go i H ∧ ys.length ≤ sizeLine ∧ ∀ x H', J.yld i H x H' → g x (capS src σ) H' fun σ2 H2 => tc σ2 H2 fun b H3 =>
      if b = true then te σ2 H3 fun y H4 => ∃ m', m' < m ∧ W (i + 1) m' (ys ++ [y]) H4 else ∃ m', m' < m ∧ W (i + 1) m' ys H3)

section
variable {X : Cx} {N : List Str} {src : List (Option Nat)} {scope : Scope} {cl : List (Str × Addr)} {pins : List (Addr × Obj)} {σ : St} {H : Hp} {s : Shared}
theorem LcOk.cellAt (ok : LcOk X N src scope cl) : ∀ x, ((relabel scope X.env).names.lookup x = some .cell ∨ (relabel scope X.env).names.lookup x = some .free) → ∃ c, cl.lookup x = some c := by
  intro x hx
  have key : ∀ k : NameKind, (k == .cell || k == .free) = true → (relabel scope X.env).names.lookup x = some k → ∃ c, cl.lookup x = some c := by
    intro k hk e
    have m := PySem.mem_of_lookup e
    have q := List.all_eq_true.mp ok.has _ m
    rw [hk] at q
    simp only [Bool.not_true, Bool.false_or] at q
    exact Option.isSome_iff_exists.mp q
  rcases hx with e | e
  · exact key _ rfl e
  · exact key _ rfl e
theorem LcOk.enter (ok : LcOk X N src scope cl) (I : Inv X pins σ H s) {fp : List Addr} (hfp : ∀ b ∈ fp, FpOk X pins H b) (hlt : ∀ b ∈ fp, b < s.heap.objs.size) {C : Addr} (hC : s.heap.objs.size ≤ C)
    {t : Shared} {m : Str → Option Value} (ho : t.os = s.os) (hg : t.gens = s.gens) (hk : ∀ b o, s.heap.get? b = some o → t.heap.get? b = some o) (hn : t.heap.Ns C m)
    {pl : List (Addr × Obj)} (hpl : ∀ p ∈ pl, t.heap.get? p.1 = some p.2 ∧ H p.1 = none ∧ p.1 ≠ C ∧ p.1 ∉ frs X.stack ∧ ∀ v, p.2.data ≠ .cell v) :
    Inv (cxLc X N scope cl C s H fp) pl (capS src σ) H t := by
  have cg := ok.caps.get
  have okX : (cxLc X N scope cl C s H fp).Ok := by
    refine ⟨I.ok.mod, ok.kind, I.ok.glob, I.ok.blt, hC, fun x y c h1 h2 => ?_, fun x hx => ok.cellAt x hx, (fun x c z _ => nomatch z), I.ok.hd, I.ok.frames, .inl rfl, fun b hb => ?_, I.bs, Nat.le_trans I.ok.bsz I.sz, fun b o e hb => ?_, fun b hb z => ?_, I.stack, I.stkFree⟩
    · exact I.ok.inj x y c (cg x c h1).2 (cg y c h2).2
    · refine ⟨fun e => ?_, fun x c e => ?_⟩
      · have e : b = C := e
        have := hlt b hb
        rw [e] at this
        exact absurd (Nat.lt_of_lt_of_le this hC) (Nat.lt_irrefl _)
      · exact (hfp b hb).2.2.2.2.1 x c (cg x c e).2
    · rcases (hfp b hb).2.2.2.1 with z | z
      · exact I.ok.noex b o e z
      · exact absurd (Nat.lt_of_lt_of_le (Heap.lt_size e) (Nat.le_trans I.ok.bsz z)) (Nat.lt_irrefl _)
    · rcases List.mem_cons.mp (I.stkSub b z) with e | e
      · exact (hfp b hb).2.1 e
      · exact (hfp b hb).2.2.1 e
  obtain ⟨mX, hnX, hlX⟩ := I.loc
  refine ⟨okX, ho, by rw [hg]; exact I.bare, Un.kept hk, ⟨m, hn, fun j x v e1 e2 e3 => ?_⟩, fun x c e => ?_, I.hok.fresh hC, fun x c e => I.freeC x c (cg x c e).2, fun p hp => hpl p hp, I.hok.kept hk, ?_⟩
  · obtain ⟨i, e4, e5⟩ := capS_get e2
    have hz : (N.zip src)[j]? = some (x, some i) := by
      rw [List.getElem?_zip_eq_some]
      exact ⟨e1, e4⟩
    have q := List.all_eq_true.mp ok.srcs _ (List.mem_of_getElem? hz)
    have q : (X.N[i]? == some x && !((relabel scope X.env).names.lookup x == some .local)) = true := q
    rw [Bool.and_eq_true] at q
    have q1 : X.N[i]? = some x := by simpa using q.1
    have q2 : ¬ (relabel scope X.env).names.lookup x = some .local := by
      intro z
      rw [z] at q
      exact absurd q.2 (by decide)
    have e3 : (relabel scope X.env).names.lookup x = some .local ∨ (relabel scope X.env).names.lookup x = some .cell ∨ (relabel scope X.env).names.lookup x = some .free := e3
    have e6 : (relabel scope X.env).names.lookup x = some .cell ∨ (relabel scope X.env).names.lookup x = some .free := e3.resolve_left q2
    obtain ⟨c, hc⟩ := ok.cellAt x e6
    obtain ⟨k1, k2⟩ := cg x c hc
    obtain ⟨u, r, l⟩ := hlX i x v q1 e5 (.inr (.inl k1))
    refine ⟨u, r, .inr ⟨e6, c, hc, ?_⟩⟩
    rcases l with ⟨z, _⟩ | ⟨_, c', z1, z2⟩
    · rw [k1] at z; cases z
    · rw [k2] at z1
      cases z1
      obtain ⟨o, ho', hd⟩ := z2
      exact ⟨o, hk _ o ho', hd⟩
  · obtain ⟨v, o, ho', hd⟩ := I.cell x c (cg x c e).2
    exact ⟨v, o, hk _ o ho', hd⟩
  · rw [capS_len]
    exact ok.len.symm
theorem lc_leave (I : Inv X pins σ H s) {fp : List Addr} (hfp : ∀ b ∈ fp, FpOk X pins H b) {C D : Addr} (hD : s.heap.objs.size ≤ D) (hC : s.heap.objs.size ≤ C)
    {σ' : St} {H' : Hp} {t : Shared} {pl : List (Addr × Obj)} (J : Inv (cxLc X N scope cl C s H fp) pl σ' H' t) {ys : List V} {its : List Value} {n : Nat} (hy : ys.length ≤ sizeLine) (rv : Vals ys its)
    (hd : t.heap.get? D = some { cls := .type "list", data := .seq its.toArray n }) (hn : H' D = none) (hDC : D ≠ C) {h' : Heap} (hs : Heap.SameBut C t.heap h') : Inv X pins σ (upd H' D (.lst ys)) { t with heap := h' } := by
  have neC : ∀ b o, s.heap.get? b = some o → b ≠ C := fun b o e => Nat.ne_of_lt (Nat.lt_of_lt_of_le (Heap.lt_size e) hC)
  have neD : ∀ b o, s.heap.get? b = some o → b ≠ D := fun b o e => Nat.ne_of_lt (Nat.lt_of_lt_of_le (Heap.lt_size e) hD)
  have B : Un (frs X.stack) fp H H' s.heap t.heap := J.base
  have fC : H' C = none := J.free
  refine I.call' (s' := { t with heap := h' }) (ch := fp) J.os ?_ ?_ J.bare fun b hb => ⟨(hfp b hb).2.2.2.1, (hfp b hb).2.1, (hfp b hb).2.2.2.2.1, (hfp b hb).2.2.2.2.2⟩
  · refine ⟨fun b o e q hb hx => (hs.2 b (neC b o e)).trans (B.keep b o e q hb hx), fun b o e q hb hx => ?_, fun b o e q hx => ?_, fun b o e hx => ?_, fun b xs e => ?_, fun b o u e => ?_, fun b ps e => ?_⟩
    · obtain ⟨sl, z⟩ := B.slot b o e q hb hx
      exact ⟨sl, (hs.2 b (neC b o e)).trans z⟩
    · rw [upd_ne (neD b o e)]
      exact B.free b o e q hx
    · obtain ⟨o', z⟩ := B.there b o e hx
      exact ⟨o', (hs.2 b (neC b o e)).trans z⟩
    · have z := B.tups b xs e
      rw [upd_ne (ne_of_none z hn)]
      exact z
    · have z := B.frzs b o u e
      rw [upd_ne (ne_of_none z hn)]
      exact z
    · obtain ⟨more, z⟩ := B.tbls b ps e
      exact ⟨more, by rw [upd_ne (ne_of_none z hn)]; exact z⟩
  · intro b u e
    by_cases hb : b = D
    · subst hb
      rw [upd_same] at e
      cases e
      exact ⟨hy, its, n, rv, (hs.2 b hDC).trans hd⟩
    · rw [upd_ne hb] at e
      refine (J.hok b u e).stay (fun c v hc q => (hs.2 c ?_).trans q) (fun c q => ?_) fun c xs q => ?_
      · rintro rfl
        rcases hc with z | z
        · rw [← z, fC] at e; cases e
        · rw [fC] at z; cases z
      · rw [upd_ne (ne_of_none q hn)]; exact q
      · rw [upd_ne (ne_of_none q hn)]; exact q

theorem lc_block {elt tg iter : Expr} {ifs : List Expr} {pos : Pos} {te : TE} {tc : TT} {g : TG} {it : Addr} {fp : List Addr} {tn : Nat → Heap → Prop} {J : It} {E : Value → Shared → Prop} {RR : Value → Addr → Result → Shared → Prop} {Qr : List V → Hp → Prop}
    (hc : X.calm = true) (ok : LcOk X N src scope cl) (hgo : GOwn g src)
    (hb : ∀ C, PG (cxLc X N scope cl C s H fp) tg g ∧ PIfs (cxLc X N scope cl C s H fp) ifs tc ∧ PE (cxLc X N scope cl C s H fp) elt te)
    (I : Inv X pins σ H s) (T : Turn X.prog X.w X.K tg J fp it tn) (st : tn 0 s.heap) (hfp : ∀ b ∈ fp, FpOk X pins H b)
    (W : Nat → Nat → List V → Hp → Prop) (w0 : ∃ m, W 0 m [] H)
    (turn : ∀ i m ys H, W i m ys H → (J.stop i H ∧ ys.length ≤ sizeLine ∧ Qr ys H) ∨ (J.go i H ∧ ys.length ≤ sizeLine ∧ ∀ x H', J.yld i H x H' → g x (capS src σ) H' fun σ2 H2 => tc σ2 H2 fun b H3 =>
      if b = true then te σ2 H3 fun y H4 => ∃ m', m' < m ∧ W (i + 1) m' (ys ++ [y]) H4 else ∃ m', m' < m ∧ W (i + 1) m' ys H3))
    (fin : ∀ D C t ys H', s.heap.objs.size ≤ D → s.heap.objs.size ≤ C → D ≠ C → H' D = none → H' C = none → (∃ m, t.heap.Ns C m) → Qr ys H' → (∀ h', Heap.SameBut C t.heap h' → Inv X pins σ (upd H' D (.lst ys)) { t with heap := h' }) →
      RR (.ref D) C (.ok .next) t) :
    wpAny (model X.prog X.w) X.A (newList []) (fun acc s₃ => wpAny (model X.prog X.w) X.A (newFunctionEnv scope X.env.globals cl [] X.env.qual none .none (some X.env)) (fun cenv s₄ =>
      codeAny (model X.prog X.w) X.A (.compStart (.ListComp elt [⟨tg, iter, ifs, 0⟩] scope pos) 0 (.ref it) acc { cenv with scope := relabel scope X.env }) (RR acc cenv.locals) s₄) E s₃) E s := by
  have noc : ∀ y ∈ scope.names, y.2 ≠ .cell := fun y hy z => by
    have q := List.all_eq_true.mp ok.nocell y hy
    rw [z] at q
    exact absurd q (by decide)
  obtain ⟨m0, w0⟩ := w0
  refine wpAny_newList (wpAny_newFunctionEnv noc (by intro y hy; simp at hy) (fun h1 hns hsb => ?_) ok.kind) (by show 0 ≤ sizeLine; exact Nat.zero_le _)
  dsimp only at hns hsb ⊢
  generalize hp1 : s.heap.push { cls := .type "list", data := .seq ([] : List Value).toArray } = hD at hns hsb ⊢
  have eC : hD.objs.size = s.heap.objs.size + 1 := by rw [← hp1, Heap.size_push]
  have nDC : s.heap.objs.size ≠ hD.objs.size := by rw [eC]; exact Nat.ne_of_lt (Nat.lt_succ_self _)
  have leC : s.heap.objs.size ≤ hD.objs.size := by rw [eC]; exact Nat.le_succ _
  have kept : ∀ b o, s.heap.get? b = some o → h1.get? b = some o := fun b o e =>
    hsb.extBut b o (Nat.ne_of_lt (Nat.lt_of_lt_of_le (Heap.lt_size e) leC)) (Heap.get?_push_of_some _ (hp1 ▸ Heap.get?_push_of_some _ e))
  have atD : h1.get? s.heap.objs.size = some { cls := .type "list", data := .seq ([] : List Value).toArray } := hsb.extBut _ _ nDC (Heap.get?_push_of_some _ (hp1 ▸ Heap.get?_push_size _ rfl))
  have ltf : ∀ b ∈ fp, b < s.heap.objs.size := fun b hb => by
    obtain ⟨o, e, _⟩ := T.obj 0 _ st b hb
    exact Heap.lt_size e
  have nstk : s.heap.objs.size ∉ frs X.stack := fun z => by
    rcases List.mem_cons.mp (I.stkSub _ z) with e | e
    · exact absurd (Nat.lt_of_lt_of_le I.lt (Nat.le_of_eq e)) (Nat.lt_irrefl _)
    · exact I.nofs (Nat.le_refl _) e
  have ncl : ∀ x c, cl.lookup x = some c → c ≠ s.heap.objs.size := fun x c e z => by
    obtain ⟨v, q⟩ := I.cell x c (ok.caps.get x c e).2
    exact absurd q.lt (by rw [z]; exact Nat.lt_irrefl _)
  -- what stays true of the iterator's records
  have stat : ∀ {H' : Hp} {its : List Value} {k : Nat}, (∀ b ∈ fp, H' b = none) → ∀ b ∈ fp, FpOk (cxLc X N scope cl hD.objs.size s H fp) [(s.heap.objs.size, { cls := .type "list", data := .seq its.toArray k })] H' b := fun fr b hb => by
    refine ⟨fr b hb, fun z => ?_, fun z => ?_, .inl hb, fun x c e => (hfp b hb).2.2.2.2.1 x c (ok.caps.get x c e).2, fun p hp z => ?_⟩
    · have z : b = hD.objs.size := z
      exact absurd (Nat.lt_of_lt_of_le (ltf b hb) (by rw [z]; exact leC)) (Nat.lt_irrefl _)
    · rcases List.mem_cons.mp (I.stkSub b z) with e | e
      · exact (hfp b hb).2.1 e
      · exact (hfp b hb).2.2.1 e
    · have hp : p ∈ ([] : List (Addr × Obj)) ++ [(s.heap.objs.size, { cls := .type "list", data := .seq _ _ })] := hp
      rw [List.nil_append, List.mem_singleton] at hp
      rw [hp] at z
      exact absurd (ltf b hb) (by rw [← z]; exact Nat.lt_irrefl _)
  have loop : ∀ t : Shared, t = { s with heap := h1, toks := s.toks + ([] : List (Str × Value)).length } →
      codeAny (model X.prog X.w) X.A (.compLoop (.ListComp elt [⟨tg, iter, ifs, 0⟩] scope pos) 0 (.ref it) (.ref s.heap.objs.size) (compEnvC scope cl hD.objs.size X.env)) (RR (.ref s.heap.objs.size) hD.objs.size) t := by
    rintro t rfl
    refine lc_loop (fun n t => ∃ i ys its k H', Inv (cxLc X N scope cl hD.objs.size s H fp) [(s.heap.objs.size, { cls := .type "list", data := .seq its.toArray k })] (capS src σ) H' t ∧ Vals ys its ∧ tn i t.heap ∧ (∀ b ∈ fp, H' b = none) ∧ W i n ys H') ?_ m0
      ⟨0, [], [], 0, H, ok.enter (t := { s with heap := h1, toks := s.toks + ([] : List (Str × Value)).length }) I hfp ltf leC rfl rfl kept hns ?_, .nil, T.keep 0 _ _ st fun b _ o e => kept b o e, fun b hb => (hfp b hb).1, w0⟩
    · rintro n t ⟨i, ys, its, k, H', Iy, rv, stt, fr, wv⟩
      rcases turn i n ys H' wv with ⟨stop, hy, q⟩ | ⟨go, hy, body⟩
      · refine wpAny_mono (T.done (cxLc X N scope cl hD.objs.size s H fp) rfl rfl rfl hc i _ t _ H' (fun _ _ => False) Iy (stat fr) stt stop) (fun r t1 hr => ?_) fun _ _ z => z
        obtain ⟨hr, I1⟩ := hr
        subst hr
        have p := I1.pin (s.heap.objs.size, _) (List.mem_append_right _ List.mem_cons_self)
        obtain ⟨m, hnC, _⟩ := id I1.loc
        exact fin _ _ t1 ys H' (Nat.le_refl _) leC nDC p.2.1 I1.free ⟨m, hnC⟩ q fun h' hs => lc_leave I hfp (Nat.le_refl _) leC I1 hy rv p.1 p.2.1 nDC hs
      · refine wpAny_mono (T.item (cxLc X N scope cl hD.objs.size s H fp) rfl rfl rfl hc i _ t _ H' (fun _ _ => False) Iy (stat fr) stt go) (fun r t1 hr => ?_) fun _ _ z => z
        obtain ⟨u, hr, h4⟩ := hr
        subst hr
        refine wpAny_mono h4 (fun _ t2 h5 => ?_) fun _ _ z => z
        obtain ⟨x, H5, I5, r5, y5, st5, fr5⟩ := h5
        have I5' := I5.pinned (stat fr5) (T.obj _ _ st5)
        obtain ⟨pg, pi, pe⟩ := hb hD.objs.size
        refine wpAny_mono (pg _ t2 _ H5 x u _ I5' r5 (hgo _ _ _ _ (body x H5 y5))) (fun _ t3 h6 => ?_) fun _ _ z => z
        obtain ⟨σ6, H6, I6, q6, len6, keep6⟩ := h6
        refine wpAny_mono (pi _ t3 σ6 H6 _ I6 q6) (fun b t4 h7 => ?_) fun _ _ z => z
        obtain ⟨H7, I7, q7⟩ := h7
        have wk : ∀ {pl : List (Addr × Obj)} {Hz : Hp} {tz : Shared}, Inv (cxLc X N scope cl hD.objs.size s H fp) pl σ6 Hz tz → Inv (cxLc X N scope cl hD.objs.size s H fp) pl (capS src σ) Hz tz := fun Iz =>
          Iz.weak len6.symm fun j v e => by
            obtain ⟨a, ea, _⟩ := capS_get e
            rw [keep6 j (by rw [ea]; simp)]
            exact e
        have held : ∀ {Hz : Hp} {tz : Shared} {pl : List (Addr × Obj)}, Inv (cxLc X N scope cl hD.objs.size s H fp) (pl ++ pinsAt fp t2.heap) σ6 Hz tz → (∀ b ∈ fp, ∀ o, t2.heap.get? b = some o → tz.heap.get? b = some o) ∧ ∀ b ∈ fp, Hz b = none := fun Iz =>
          ⟨fun b hb o e => (Iz.pin (b, o) (List.mem_append_right _ (List.mem_append_right _ (mem_pinsAt hb e)))).1, fun b hb => by
            obtain ⟨o, e, _⟩ := T.obj _ _ st5 b hb
            exact (Iz.pin (b, o) (List.mem_append_right _ (List.mem_append_right _ (mem_pinsAt hb e)))).2.1⟩
        cases b with
        | false =>
          rw [if_neg Bool.false_ne_true] at q7 ⊢
          obtain ⟨m', hm, w'⟩ := q7
          exact ⟨m', hm, i + 1, ys, its, k, H7, wk I7.unpinned, rv, T.keep _ _ _ st5 (held I7).1, (held I7).2, w'⟩
        | true =>
          rw [if_pos rfl] at q7 ⊢
          refine wpAny_mono (pe _ t4 σ6 H7 _ I7 q7) (fun v t5 h8 => ?_) fun _ _ z => z
          obtain ⟨y, H8, I8, r8, m', hm, w'⟩ := h8
          have p := I8.pin (s.heap.objs.size, _) (List.mem_append_right _ (List.mem_append_left _ List.mem_cons_self))
          have hl : its.toArray.size ≤ sizeLine := by rw [List.size_toArray, ← rv.length]; exact hy
          refine wpAny_list_append_plain (items := its.toArray) ⟨k, p.1⟩ (fun h' hpl hs => ?_) hl
          obtain ⟨k', ek⟩ := hpl
          have ek : h'.get? s.heap.objs.size = some { cls := .type "list", data := .seq (its ++ [v]).toArray k' } := by
            rw [ek]
            simp
          have I9 : Inv (cxLc X N scope cl hD.objs.size s H fp) (pinsAt fp t2.heap) σ6 H8 t5 := I8.pins_of fun a ha => I8.pin a (List.mem_append_right _ (List.mem_append_right _ ha))
          have I10 : Inv (cxLc X N scope cl hD.objs.size s H fp) (pinsAt fp t2.heap) σ6 H8 { t5 with heap := h' } := I9.turned (it := s.heap.objs.size) (t' := t5.toks) (fun b o hb e => hs.extBut b o hb e) p.2.1 nDC (.inr (Nat.le_refl _)) (fun x c e => ncl x c e) fun a ha z => by
            have ha : a ∈ ([] : List (Addr × Obj)) ++ pinsAt fp t2.heap := ha
            rw [List.nil_append] at ha
            exact absurd (ltf a.1 (of_pinsAt ha).1) (by rw [z]; exact Nat.lt_irrefl _)
          have hld := held (pl := []) (show Inv (cxLc X N scope cl hD.objs.size s H fp) ([] ++ pinsAt fp t2.heap) σ6 H8 { t5 with heap := h' } from I10)
          refine ⟨m', hm, i + 1, ys ++ [y], its ++ [v], k', H8, (wk I10).pins_of fun a ha => ?_, rv.append (.cons r8 .nil), T.keep _ _ _ st5 hld.1, hld.2, w'⟩
          rw [List.mem_singleton] at ha
          subst ha
          exact ⟨ek, p.2.1, nDC, nstk, fun _ z => nomatch z⟩
    · intro a ha
      rw [List.mem_singleton] at ha
      subst ha
      exact ⟨atD, I.hok.fresh (Nat.le_refl _), nDC, nstk, fun _ z => nomatch z⟩
  exact codeAny_compStart_list (loop _ rfl) (T.self _ 0 _ _ _ (T.keep 0 _ _ st fun b _ o e => kept b o e) (loop _ rfl))
theorem pe_lc {elt tg iter : Expr} {ifs : List Expr} {pos : Pos} {te : TE} {tc : TT} {g : TG} {wi : TI} (hc : X.calm = true) (ok : LcOk X N src scope cl) (hgo : GOwn g src) (hi : PI X tg iter wi)
    (hb : ∀ C s H fp, PG (cxLc X N scope cl C s H fp) tg g ∧ PIfs (cxLc X N scope cl C s H fp) ifs tc ∧ PE (cxLc X N scope cl C s H fp) elt te)
    (hs : ∀ x, foldedSetIterable iter X.env x = pure x := by intro _; rfl) : PE X (.ListComp elt [⟨tg, iter, ifs, 0⟩] scope pos) (tLc wi src g tc te) := by
  intro pins s σ H Q I h
  have nms : ∀ y ∈ scope.names, y.2 = .local → scope.names.lookup y.1 = some .local := fun y hy z => by
    have q := List.all_eq_true.mp ok.names y hy
    rw [z] at q
    simpa using q
  rw [eval_ListComp]
  refine wpAny_comprehension_free (use := none) rfl hs ok.clos ok.kind nms (thn (hi pins s σ H _ I h) fun v s1 h1 => thn h1 fun itv s2 h2 => ?_)
  obtain ⟨it, fp, tn, J, H2, e, I2, T, st2, f2, W, w0, turn⟩ := h2
  subst e
  refine lc_block (RR := fun acc C => compPost (model X.prog X.w) X.A X.xe none (EP X pins σ Q) acc C) (Qr := fun ys H => ∀ p, H p = none → Q (.ref p) (upd H p (.lst ys))) hc ok hgo (fun C => hb C s2 H2 fp) I2 T st2 f2 W w0 turn ?_
  intro D C t ys H' hD hC nDC n1 n2 hn q inv
  obtain ⟨m, hn⟩ := hn
  exact ⟨m, hn, fun h' hs => ⟨.ref D, _, inv h' hs, rfl, q D n1⟩⟩
end
end L2

namespace L2
open PySem
theorem nextOf_tup {prog : Program} {w : World} {A : Around} {E : Value → Shared → Prop} {s : Shared} {it t : Addr} {i : Nat} {its : Array Value} {x : Value} {Q : Value → Shared → Prop} (hi : s.heap.IsTupleIter it t i)
    (ht : s.heap.IsTuple t its) (hx : its[i]? = some x) (q : ∀ h', h'.IsTupleIter it t (i + 1) → Heap.SameBut it s.heap h' → Q x { s with heap := h' }) :
    wpAny (model prog w) A (Builtin.SmallTypes.nextOf (.ref it)) Q E s := by
  obtain ⟨o, h1, h2, h3⟩ := id hi
  obtain ⟨o2, h4, _, n2, h5⟩ := ht
  unfold Builtin.SmallTypes.nextOf
  refine wpAny_bind (wpAny_callSpecial?_slot (name := Str.ofString "__next__") hi.typeIs F.slot_tuple_iterator_next
    (wpAny_call_entry F.slot_tuple_iterator_next hi.typeIs F.entry_tuple_iterator_next ?_ (F.args_tuple_iterator_next_1 _)))
  show wpAny (model prog w) _ (field (.ref it) 0 >>= _) _ _ s
  refine wpAny_bind (wpAny_field h1 h3 (x := .ref t) rfl ?_)
  show wpAny (model prog w) _ (if (Value.ref t == Value.none) = true then _ else _) _ _ s
  rw [if_neg (show ¬ (Value.ref t == Value.none) = true from Bool.false_ne_true)]
  show wpAny (model prog w) _ (field (.ref it) 1 >>= _) _ _ s
  refine wpAny_bind (wpAny_field h1 h3 (x := .int i 0) rfl ?_)
  show wpAny (model prog w) _ (seqItems? (.ref t) >>= _) _ _ s
  refine wpAny_bind (wpAny_seqItems h4 h5 ?_)
  simp only [Int.toNat_natCast, hx]
  refine wpAny_bind (wpAny_setField h1 h3 (by simp) (wpAny_pure ⟨x, rfl, wpAny_pure (q _ ?_ (Heap.SameBut.update ..))⟩))
  exact ⟨_, Heap.get?_update_self _ h1 (Obj.isFreed_of_fields (Obj.data_mapFields h3 _)), (Obj.cls_mapFields ..).trans h2, by
    rw [Obj.data_mapFields h3]; simp [rawInt]⟩
theorem nextOf_tup_end {prog : Program} {w : World} {A : Around} {E : Value → Shared → Prop} {s : Shared} {it t : Addr} {i : Nat} {its : Array Value} {Q : Value → Shared → Prop} (hh : A.handled = none) (hi : s.heap.IsTupleIter it t i)
    (ht : s.heap.IsTuple t its) (hx : its[i]? = none) (q : ∀ h' e, Heap.ExtBut it s.heap h' → (∃ o, h'.get? e = some o ∧ o.cls = .type "StopIteration") → E (.ref e) { s with heap := h' }) :
    wpAny (model prog w) A (Builtin.SmallTypes.nextOf (.ref it)) Q E s := by
  obtain ⟨o, h1, h2, h3⟩ := id hi
  obtain ⟨o2, h4, _, n2, h5⟩ := ht
  unfold Builtin.SmallTypes.nextOf
  refine wpAny_bind (wpAny_callSpecial?_slot (name := Str.ofString "__next__") hi.typeIs F.slot_tuple_iterator_next
    (wpAny_call_entry F.slot_tuple_iterator_next hi.typeIs F.entry_tuple_iterator_next ?_ (F.args_tuple_iterator_next_1 _)))
  show wpAny (model prog w) _ (field (.ref it) 0 >>= _) _ _ s
  refine wpAny_bind (wpAny_field h1 h3 (x := .ref t) rfl ?_)
  show wpAny (model prog w) _ (if (Value.ref t == Value.none) = true then _ else _) _ _ s
  rw [if_neg (show ¬ (Value.ref t == Value.none) = true from Bool.false_ne_true)]
  show wpAny (model prog w) _ (field (.ref it) 1 >>= _) _ _ s
  refine wpAny_bind (wpAny_field h1 h3 (x := .int i 0) rfl ?_)
  show wpAny (model prog w) _ (seqItems? (.ref t) >>= _) _ _ s
  refine wpAny_bind (wpAny_seqItems h4 h5 ?_)
  simp only [Int.toNat_natCast, hx]
  refine wpAny_bind (wpAny_rule (wpAny_bind (wpAny_setField h1 h3 (by simp) ?_)))
  show wpAny (model prog w) _ (newExc (.type "StopIteration") [] >>= _) _ _ _
  refine wpAny_bind ?_
  simp only [newExc, newTuple]
  refine wpAny_bind (wpAny_newObj_type ?_ (by size_fits))
  refine wpAny_bind (m := firstArgMember _ _) (wpAny_of_eq (a := Value.none) (by first | rfl | (simp only [firstArgMember]; rfl)) ?_)
  refine wpAny_newObj_type ?_ (by size_fits)
  simp only [raiseNew]
  refine wpAny_bind (wpAny_handled ?_)
  first | rw [show A.in1.handled = none from hh] | rw [hh]
  refine wpAny_bind (wpAny_pure (wpAny_throw ?_))
  exact q _ _ (((Heap.SameBut.update ..).extBut.push _).push _) ⟨_, Heap.get?_push_size _ rfl, rfl⟩
theorem draws_tup {prog : Program} {w : World} {A : Around} (hh : A.handled = none) (it l : Addr) (hne : l ≠ it) (its : Array Value) :
    Draws prog w A it [it, l] its.size (fun i v => its[i]? = some v) (fun i h => h.IsTupleIter it l i ∧ h.IsTuple l its) where
  live := fun _ _ st => let ⟨o, ho, _⟩ := st.1; ⟨o, ho⟩
  frame := fun _ _ _ st hk => ⟨let ⟨o, a, r⟩ := st.1; ⟨o, hk it (by simp) o a, r⟩, let ⟨o, a, r⟩ := st.2; ⟨o, hk l (by simp) o a, r⟩⟩
  item := fun i s Q E hi st hQ => by
    refine nextOf_tup st.1 st.2 (x := its[i]) (by simp [hi]) fun h' a b => ?_
    exact hQ _ h' s.toks (by simp [hi]) ⟨a, st.2.extBut b.extBut hne⟩ b
  done := fun s Q E st hE => nextOf_tup_end hh st.1 st.2 (by simp) hE

structure ZAp (z TI TO i1 i2 : Addr) (f1 f2 : List Addr) : Prop where
  a1 : TI ≠ z
  a2 : TO ≠ z
  a3 : i1 ≠ z
  a4 : i2 ≠ z
  a5 : TI ≠ TO
  a6 : TI ≠ i1
  a7 : TI ≠ i2
  a8 : TO ≠ i1
  a9 : TO ≠ i2
  b1 : i1 ≠ i2
  b2 : z ∉ f1
  b3 : z ∉ f2
  b4 : TO ∉ f1
  b5 : TO ∉ f2
  b6 : i1 ∉ f2
  b7 : i2 ∉ f1
section
variable {prog : Program} {w : World} {z TI TO i1 i2 : Addr} {f1 f2 : List Addr} {n1 n2 : Nat} {P1 P2 : Nat → Value → Prop} {S1 S2 : Nat → Heap → Prop}
end

abbrev zpa (h : Heap) (l1 : Addr) : Heap := h.push { cls := .type "tuple_iterator", data := .fields #[.ref l1, .int 0 0] }
abbrev zpb (h : Heap) (l1 l2 : Addr) : Heap := (zpa h l1).push { cls := .type "tuple_iterator", data := .fields #[.ref l2, .int 0 0] }
abbrev zpc (h : Heap) (l1 l2 : Addr) : Heap := (zpb h l1 l2).push { cls := .type "tuple", data := .seq #[.ref h.objs.size, .ref (zpa h l1).objs.size] }
abbrev zpd (h : Heap) (l1 l2 : Addr) : Heap := (zpc h l1 l2).push { cls := .type "tuple", data := .seq #[.none, .none] }
abbrev zpe (h : Heap) (l1 l2 : Addr) : Heap := (zpd h l1 l2).push { cls := .type "zip", data := .fields #[.none, .bool false, .bool false, .ref (zpb h l1 l2).objs.size, .ref (zpc h l1 l2).objs.size] }
theorem zip_new_tups (l1 l2 : Addr) (xs ys : Array Value) :
    Meets (Builtin.«zip.__new__» ⟨[.type "zip", .ref l1, .ref l2], []⟩) (fun _ R s => s.heap.IsTuple l1 xs ∧ s.heap.IsTuple l2 ys ∧
      R (.ok (.ret (.ref (zpd s.heap l1 l2).objs.size))) { s with heap := zpe s.heap l1 l2 }) :=
  .of_wp fun prog w A R s h => by
    obtain ⟨hp, g, d, tk, os⟩ := s; obtain ⟨t1, t2, h⟩ := h
    have f0 := sub_zip
    have T1 : Heap.IsTuple (Shared.heap ⟨hp, g, d, tk, os⟩) l1 xs := t1
    have T2 : Heap.IsTuple (Shared.heap ⟨hp.push { cls := .type "tuple_iterator", data := .fields #[.ref l1, .int 0 0] }, g, d, tk, os⟩) l2 ys := Heap.IsTuple.push t2 _
    wp_walk using wpAny_pyIter_tuple T1, wpAny_pyIter_tuple T2
    exact ⟨_, rfl, h⟩
theorem call_zip_tups {prog : Program} {w : World} {A : Around} {E : Value → Shared → Prop} {s : Shared} {l1 l2 : Addr} {xs ys : Array Value} {Q : Value → Shared → Prop} (h1 : s.heap.IsTuple l1 xs) (h2 : s.heap.IsTuple l2 ys)
    (q : ∀ h', IsZip h' (s.heap.objs.size + 4) (s.heap.objs.size + 2) (s.heap.objs.size + 3) .none → IsPair h' (s.heap.objs.size + 2) (.ref s.heap.objs.size) (.ref (s.heap.objs.size + 1)) →
      IsPair h' (s.heap.objs.size + 3) .none .none → h'.IsTupleIter s.heap.objs.size l1 0 → h'.IsTupleIter (s.heap.objs.size + 1) l2 0 →
      (∀ c o, s.heap.get? c = some o → h'.get? c = some o) → Q (.ref (s.heap.objs.size + 4)) { s with heap := h' }) :
    wpAny (model prog w) A (call (.type "zip") [.ref l1, .ref l2]) Q E s := by
  refine callType_new F.called_zip (by decide) (F.typeCall_zip_2 _ _) (F.newCall_zip_2 _ _) (fun obj => F.args_object_init_3 obj _ _) F.entry_zip_new
    (zip_new_tups l1 l2 xs ys) ⟨h1, h2, ?_⟩
  have z1 : (zpa s.heap l1).objs.size = s.heap.objs.size + 1 := Heap.size_push ..
  have z2 : (zpb s.heap l1 l2).objs.size = s.heap.objs.size + 2 := by rw [Heap.size_push, z1]
  have z3 : (zpc s.heap l1 l2).objs.size = s.heap.objs.size + 3 := by rw [Heap.size_push, z2]
  have z4 : (zpd s.heap l1 l2).objs.size = s.heap.objs.size + 4 := by rw [Heap.size_push, z3]
  have k5 : (zpe s.heap l1 l2).get? (zpd s.heap l1 l2).objs.size = some _ := Heap.get?_push_size _ rfl
  have k4 : (zpe s.heap l1 l2).get? (zpc s.heap l1 l2).objs.size = some _ := Heap.get?_push_of_some _ (Heap.get?_push_size _ rfl)
  have k3 : (zpe s.heap l1 l2).get? (zpb s.heap l1 l2).objs.size = some _ := Heap.get?_push_of_some _ (Heap.get?_push_of_some _ (Heap.get?_push_size _ rfl))
  have k2 : (zpe s.heap l1 l2).get? (zpa s.heap l1).objs.size = some _ := Heap.get?_push_of_some _ (Heap.get?_push_of_some _ (Heap.get?_push_of_some _ (Heap.get?_push_size _ rfl)))
  have k1 : (zpe s.heap l1 l2).get? s.heap.objs.size = some _ := Heap.get?_push_of_some _ (Heap.get?_push_of_some _ (Heap.get?_push_of_some _ (Heap.get?_push_of_some _ (Heap.get?_push_size _ rfl))))
  show _ ∧ _
  rw [z2, z3, z4] at k5
  rw [z1, z2] at k3
  rw [z3] at k4
  rw [z1] at k2
  rw [z4]
  exact ⟨⟨_, k5, rfl⟩, q _ k5 k3 k4 ⟨_, k1, rfl, rfl⟩ ⟨_, k2, rfl, rfl⟩ fun c o x =>
    Heap.get?_push_of_some _ (Heap.get?_push_of_some _ (Heap.get?_push_of_some _ (Heap.get?_push_of_some _ (Heap.get?_push_of_some _ x))))⟩
end L2

namespace L2
open PySem PySem.Spec PyProof.Rows
theorem boot_zip : bootBuiltins "zip" = some (.type "zip") := by decide +kernel
theorem nne (n a b : Nat) (h : a ≠ b) : n + a ≠ n + b := by omega
theorem nne0 (n b : Nat) (h : 0 < b) : n ≠ n + b := by omega
theorem vals2' {x y : V} {us : List Value} (r : Vals [x, y] us) : ∃ u v, us = [u, v] ∧ RelV x u ∧ RelV y v := by
  cases r with
  | cons p q =>
    cases q with
    | cons p' q' =>
      cases q'
      exact ⟨_, _, rfl, p, p'⟩
section
variable {X : Cx} {pins : List (Addr × Obj)} {σ : St} {H : Hp} {s : Shared} {h' : Heap}
theorem Inv.turnedL {t' : Nat} {l : List Addr} (I : Inv X pins σ H s) (k : ∀ b o, b ∉ l → s.heap.get? b = some o → h'.get? b = some o) (hf : ∀ b ∈ l, FpOk X pins H b) : Inv X pins σ H { s with heap := h', toks := t' } := by
  have nl : ∀ b u, H b = some u → b ∉ l := fun b u e z => by rw [(hf b z).1] at e; cases e
  refine I.step (g' := s.gens) (d' := s.drawn) (ch := l) (fun b hb => ⟨(hf b hb).2.2.2.1, (hf b hb).2.1, (hf b hb).2.2.2.2.1, (hf b hb).2.2.2.2.2⟩) (fun b o _ _ hc e _ => k b o hc e) (fun b o _ _ hc e _ => ⟨o.slots, k b o hc e⟩) (fun _ _ _ _ n => n)
    (fun b o hc e => ⟨o, k b o hc e⟩) (fun _ _ e => e) (fun _ _ _ e => e) (fun b ps e => ⟨#[], by rw [e]; simp⟩) (fun m hm => ?_) (fun b u e => ?_) I.bare
  · obtain ⟨o, es, ep, ho, r⟩ := hm
    exact ⟨o, es, ep, k _ o (fun z => (hf _ z).2.1 rfl) ho, r⟩
  · refine (I.hok b u e).stay (fun c v hc q => k c v ?_ q) (fun _ q => q) fun _ _ q => q
    rcases hc with z | z
    · rw [z]; exact nl b u e
    · exact nl c _ z
theorem Inv.adopt {p : Addr} {o : HO} (I : Inv X pins σ H s) (hf : FpOk X pins H p) (new : ObjOk X.prog X.w (upd H p o) s.heap p o) : Inv X pins σ (upd H p o) s := by
  have e0 : ({ s with heap := s.heap, gens := s.gens, drawn := s.drawn, toks := s.toks } : Shared) = s := rfl
  rw [← e0]
  refine I.step (H' := upd H p o) (h' := s.heap) (g' := s.gens) (d' := s.drawn) (t' := s.toks) (ch := [p]) (fun b hb => ?_) (fun b u _ _ _ e _ => e) (fun b u _ _ _ e _ => ⟨u.slots, e⟩) (fun b u hc e n => ?_) (fun b u _ e => ⟨u, e⟩)
    (fun b xs e => ?_) (fun b u v e => ?_) (fun b ps e => ⟨#[], ?_⟩) (fun m hm => hm) (fun b u e => ?_) I.bare
  · rw [List.mem_singleton] at hb
    subst hb
    exact ⟨hf.2.2.2.1, hf.2.1, hf.2.2.2.2.1, hf.2.2.2.2.2⟩
  · rw [upd_ne fun z => hc (by rw [z]; exact List.mem_singleton_self _)]
    exact n
  · rw [upd_ne (ne_of_none e hf.1)]; exact e
  · rw [upd_ne (ne_of_none e hf.1)]; exact e
  · rw [upd_ne (ne_of_none e hf.1), e]; simp
  · by_cases hb : b = p
    · subst hb
      rw [upd_same] at e
      cases e
      exact new
    · rw [upd_ne hb] at e
      exact (I.hok b u e).stay (fun c v hc q => q) (fun c q => by rw [upd_ne (ne_of_none q hf.1)]; exact q) fun c xs q => by rw [upd_ne (ne_of_none q hf.1)]; exact q
end
def Itz (a b : Addr) : It := ⟨fun i H => ∃ xs ys, H a = some (.tup xs) ∧ H b = some (.tup ys) ∧ i < xs.length ∧ i < ys.length,
  fun i H x H' => ∃ p v w, x = .ref p ∧ H p = none ∧ H' = upd H p (.tup [v, w]) ∧ ∀ xs ys, H a = some (.tup xs) → H b = some (.tup ys) → xs[i]? = some v ∧ ys[i]? = some w,
  fun i H => ∃ xs ys, H a = some (.tup xs) ∧ H b = some (.tup ys) ∧ (i = xs.length ∨ (i < xs.length ∧ i = ys.length))⟩
section
variable {X : Cx} {es : List Expr} {kt : Nat} {tp : Pos}
def iZip (ta : TA) : TI := fun σ H R => ta σ H fun vs H1 => ∃ a b xs ys, vs = [.ref a, .ref b] ∧ H1 a = some (.tup xs) ∧ H1 b = some (.tup ys) ∧ R (Itz a b) H1
end
end L2

namespace L2
open PySem PySem.Spec PyProof.Rows
theorem Same.upd {H : Hp} {p : Addr} {o : HO} (h : H p = none) : Same H (upd H p o) := fun b u e => by
  rw [upd_ne (ne_of_none e h)]
  exact e
def SameBut (p : Addr) (H H' : Hp) : Prop := ∀ b o, b ≠ p → H b = some o → H' b = some o
theorem Same.but {p : Addr} {H H' : Hp} (h : Same H H') : SameBut p H H' := fun b o _ e => h b o e
theorem SameBut.refl (p : Addr) (H : Hp) : SameBut p H H := fun _ _ _ e => e
theorem SameBut.trans {p : Addr} {H H1 H2 : Hp} (a : SameBut p H H1) (b : SameBut p H1 H2) : SameBut p H H2 := fun c o n e => b c o n (a c o n e)
theorem SameBut.upd {p : Addr} {H : Hp} {o : HO} : SameBut p H (upd H p o) := fun b u n e => by rw [upd_ne n]; exact e
section
variable {X : Cx}
theorem call_all_bl (hc : X.calm = true) : CallR X (.builtin "all") (fun xs H Q => ∃ (p : Addr) (bs : List Bool), xs = [.ref p] ∧ SqL X.K H p (bs.map V.bl) ∧ Q (.bl (bs.all id)) H) := by
  intro pins s σ H xs us Q I r h
  obtain ⟨p, bs, rfl, hq, q⟩ := h
  obtain ⟨u, rfl, ru⟩ := vals1 r
  cases ru
  obtain ⟨its, rv, pl, hz⟩ := I.list hq
  have hlen : its.toArray.size = bs.length := by rw [List.size_toArray, ← rv.length, List.length_map]
  have hne : p ≠ s.heap.objs.size := by
    obtain ⟨o, n, e, _⟩ := pl
    exact Nat.ne_of_lt (Heap.lt_size e)
  refine call_all_walk (wpAny_pyIter_list pl.isList ?_)
  refine ⟨s.heap.objs.size, _, _, its.toArray.size, _, _, fun i => bs.getD i false, rfl, Walks.list (A := X.A.in1) (I.ok.hd hc) s.heap.objs.size p hne its.toArray, ⟨⟨_, Heap.get?_push_size _ rfl, rfl, rfl⟩, pl.isList.push _⟩, fun i v t Q' E' hv hQ' => ?_, fun h' tk kp => ?_⟩
  · have hv : its[i]? = some v := by simpa using hv
    have hi : i < bs.length := by
      have := (List.getElem?_eq_some_iff.mp hv).1
      rw [← rv.length, List.length_map] at this
      exact this
    obtain ⟨u, e1, e2⟩ := rv.get (i := i) (x := V.bl bs[i]) (by simp [hi])
    rw [hv] at e1
    cases e1
    have e2 : v = Value.bool bs[i] := e2
    subst e2
    have e3 : bs.getD i false = bs[i] := by simp [hi]
    rw [← e3]
    exact wpAny_truthy_bool hQ'
  · have e : (List.range its.toArray.size).all (fun i => bs.getD i false) = bs.all id := by
      rw [hlen, Bool.eq_iff_iff, List.all_eq_true, List.all_eq_true]
      constructor
      · intro h b hb
        obtain ⟨i, hi, rfl⟩ := List.mem_iff_getElem.mp hb
        have := h i (by simpa using hi)
        simpa [hi] using this
      · intro h i hi
        have hi : i < bs.length := by simpa using hi
        have := h bs[i] (List.getElem_mem hi)
        simpa [hi] using this
    rw [e]
    exact ⟨.bl (bs.all id), H, I.kept (t' := tk) fun b o eb => kp b o (fun z => by
      have z : b = s.heap.objs.size := by simpa using z
      exact absurd (Heap.lt_size eb) (by rw [z]; exact Nat.lt_irrefl _)) (Heap.get?_push_of_some _ eb), rfl, q⟩
theorem call_isinst : CallR X (.builtin "isinstance") (fun xs H Q => ∃ x T t b, xs = [x, .ty T] ∧ TyOf X.K H x t ∧ PySem.W.kitOne X.K t (.type T) = some b ∧ Q (.bl b) H) := by
  intro pins s σ H xs us Q I r h
  obtain ⟨x, T, t, b, rfl, ty, e, q⟩ := h
  obtain ⟨u, v, rfl, ru, rv⟩ := vals2 r
  have rv : v = Value.type T := rv
  subst rv
  exact isinst_ok I ru ty e fun tk => ⟨.bl b, H, I.tok tk, rfl, q⟩
def rEqNil (K : PySem.W.Frag) : R2 := fun x y H Q => ∃ a b xs, x = .ref a ∧ y = .ref b ∧ SqL K H a xs ∧ SqL K H b [] ∧ Q (.bl xs.isEmpty) H
theorem op_eqNil (hu : X.A.units < cLine) : OpR X (compareOp .Eq) (rEqNil X.K) := by
  intro pins s σ H x y v u Q I rx ry h
  obtain ⟨a, b, xs, rfl, rfl, ha, hb, q⟩ := h
  cases rx
  cases ry
  obtain ⟨its, r1, p1, _⟩ := I.list ha
  obtain ⟨its2, r2, p2, _⟩ := I.list hb
  cases r2
  by_cases hx : xs = []
  · subst hx
    cases r1
    exact SeqAt.eq_listAt (e := fun _ => true) p1.isList p2.isList rfl hu (fun j h1 _ => absurd h1 (by simp)) ⟨.bl true, H, I, by simp; rfl, q⟩
  · have e : xs.isEmpty = false := by cases xs with
      | nil => exact absurd rfl hx
      | cons _ _ => rfl
    rw [e] at q
    refine SeqAt.eq_list_lengthsAt p1.isList p2.isList ?_ hu ⟨.bl false, H, I, rfl, q⟩
    have h0 : its.length ≠ 0 := by
      rw [← r1.length]
      exact fun z => hx (List.length_eq_zero_iff.mp z)
    simpa using h0
def rCat2 : R2 := fun x y H Q => ∃ a b xs ys, x = .ref a ∧ y = .ref b ∧ H a = some (.tup xs) ∧ H b = some (.tup ys) ∧ xs.length + ys.length ≤ sizeLine ∧ ∀ p H', Same H H' → H' p = some (.tup (xs ++ ys)) → Q (.ref p) H'
theorem op_cat2 : OpR X (binaryOp .Add) rCat2 := by
  intro pins s σ H x y v u Q I rx ry h
  obtain ⟨a, b, xs, ys, rfl, rfl, ha, hb, hz, q⟩ := h
  by_cases hx : xs = []
  · subst hx
    cases rx
    cases ry
    obtain ⟨its, r1, p1, _⟩ := I.tuple (SqT.of ha)
    obtain ⟨its2, r2, p2, _⟩ := I.tuple (SqT.of hb)
    cases r1
    obtain ⟨⟨cls, dd, data, sl⟩, ho, hc, n, hd⟩ := id p1
    obtain ⟨⟨cls2, dd2, data2, sl2⟩, ho2, hc2, n2, hd2⟩ := id p2
    simp only at hc hd hc2 hd2
    subst hc hd hc2 hd2
    exact concat_meets ⟨_, ho, rfl⟩ ⟨_, ho2, rfl⟩ noFill_tuple_add seq_tuple_add PySem.F.slot_tuple_add PySem.F.entry_tuple_add (PySem.F.args_tuple_add_2 _ _)
      (tuple_addW0 a b _ _ n n2 dd dd2 sl sl2 (by simp)) ⟨ho, ho2, ⟨.ref b, H, I, rfl, q b H (Same.refl H) hb⟩⟩
  · refine op_catT pins s σ H (.ref a) (.ref b) v u Q I rx ry ⟨a, b, xs, ys, rfl, rfl, SqT.of ha, SqT.of hb, hx, hz, fun e => ?_, fun _ p hp => q p _ (Same.upd hp) upd_same⟩
    subst e
    exact q a H (Same.refl H) (by rw [List.append_nil]; exact ha)
def rSl2 : V → Option Int → Option Int → Hp → VK → Prop := fun x lo hi H Q => ∃ a xs, x = .ref a ∧ H a = some (.tup xs) ∧ ∀ p H', Same H H' → H' p = some (.tup (cutV xs lo hi)) → Q (.ref p) H'
theorem getItem_tuple_whole {prog : Program} {w : World} {A : Around} {E : Value → Shared → Prop} {s : Shared} {t sl : Addr} {items : Array Value} {vl vu : Value} {lo hi : Option Int} {Q : Value → Shared → Prop} (ht : IsTup s.heap t items) (hs : s.heap.IsSliceOf sl vl vu .none)
    (pl : IsPart vl lo) (pu : IsPart vu hi) (hw : HT.sIx items.size 0 lo = 0 ∧ HT.sIx items.size items.size hi = items.size) (h : Q (.ref t) s) : wpAny (model prog w) A (getItem (.ref t) (.ref sl)) Q E s := by
  obtain ⟨os, hos, hcs, hds⟩ := id hs
  have hTs : s.TypeIs (.ref sl) "slice" := ⟨os, hos, hcs⟩
  unfold getItem
  try with_reducible refine wpAny_holding ?_
  first | refine wpAny_bind (wpAny_pure ?_) | skip
  refine wpAny_bind (wpAny_sequenceKey ht.typeIs (by decide) ?_)
  refine wpAny_bind (wpAny_callSpecial?_slot (name := Str.ofString "__getitem__") ht.typeIs PyProof.Rows.slot_tuple_getitem
    (wpAny_call_entry PyProof.Rows.slot_tuple_getitem ht.typeIs entry_tuple_getitem ?_ (args_tuple_getitem _ _)))
  show wpAny (model prog w) _ (Builtin.Tuple.tupleItemsOf (.ref t) >>= _) _ _ s
  refine wpAny_bind (tupleItemsOf_ ht ?_)
  refine wpAny_bind (wpAny_typeOf hTs ?_)
  rw [if_pos (by decide)]
  refine wpAny_bind (HT.sliceApplied_gen hs pl pu ?_)
  have yes : (((HT.sIx items.size 0 lo : Nat) : Int) == 0 && (1 : Int) == 1 && (HT.sIx items.size items.size hi - HT.sIx items.size 0 lo) == items.size) = true := by
    rw [hw.1, hw.2]
    simp
  show wpAny (model prog w) _ (if (((HT.sIx items.size 0 lo : Nat) : Int) == 0 && (1 : Int) == 1 && (HT.sIx items.size items.size hi - HT.sIx items.size 0 lo) == items.size) = true then _ else _) _ _ s
  rw [if_pos yes]
  have ex : wpAny (model prog w) A.in1 (Builtin.Tuple.tupleIsExact (.ref t)) (fun b t' => b = true ∧ t' = s) E s := by
    unfold Builtin.Tuple.tupleIsExact
    exact wpAny_bind (wpAny_typeOf ht.typeIs (wpAny_pure ⟨rfl, rfl⟩))
  refine wpAny_bind (wpAny_mono ex (fun b t' hb => ?_) fun _ _ z => z)
  obtain ⟨rfl, rfl⟩ := hb
  rw [if_pos rfl]
  exact wpAny_bind (wpAny_rule (wpAny_pure ⟨_, rfl, wpAny_pure h⟩))
theorem sl_tup2 : SlR X rSl2 := by
  intro pins s σ H x v vl vu lo hi sl Q I rx hs pl pu h
  obtain ⟨a, xs, rfl, hx, q⟩ := h
  by_cases hw : HT.sIx xs.length 0 lo = 0 ∧ HT.sIx xs.length xs.length hi = xs.length
  · cases rx
    obtain ⟨its, r, ht, hz⟩ := I.tuple (SqT.of hx)
    have hlen : its.toArray.size = xs.length := by rw [List.size_toArray]; exact r.length.symm
    refine ⟨"tuple", _, PyProof.Rows.slot_tuple_getitem.lookup, ht.typeIs, ?_⟩
    refine getItem_tuple_whole ht hs pl pu (by rw [hlen]; exact hw) ⟨.ref a, H, I, rfl, q a H (Same.refl H) ?_⟩
    have e : cutV xs lo hi = xs := by
      unfold cutV
      rw [hw.1, hw.2]
      simp
    rw [e]
    exact hx
  · exact sl_tup pins s σ H (.ref a) v vl vu lo hi sl Q I rx hs pl pu ⟨a, xs, rfl, SqT.of hx, hw, fun p hp => q p _ (Same.upd hp) upd_same⟩
end
end L2

namespace L2
open PySem PySem.Spec PyProof.Rows
structure Kn (P : Program) (w : World) (K : PySem.W.Frag) (mg : Str → Option Value) (base : Heap) (k : Nat) (x : Str) (ps : List Str) (sp : Sp) : Prop where
  ex : ∃ (f : Addr) (fd : FuncData), FnOk P w K mg base CX0 k f fd ps sp ∧ mg x = some (.ref f) ∧ PySem.W.keepIn K (.ref f) = true ∧ Binds K fd ps []
theorem pe_kn {X : Cx} {k : Nat} {x : Str} {ps : List Str} {sp : Sp} {p pos : Pos} {e : Expr} {es : List Expr} {t : TA} (h : Kn X.prog X.w X.K X.mg X.base k x ps sp) (hr : Room k X.A) (ha : PA X (e :: es) t) (hg : Gl X x := by rfl)
    (hdb : (x == ("__debug__" : Str)) = false := by decide) (he : starEach (e :: es) X.env = (false, eval e X.env) :: starEach es X.env := by rfl) (hpl : (backTo pos (starEach es X.env)).any (·.1) = false := by rfl) :
    PE X (.Call (.Name x p) (e :: es) [] pos) (tCall sp [] E0 t) := by
  obtain ⟨f, fd, F, hm, hk, hb⟩ := h.ex
  exact pe_call F hr hg hm hk hb .nil pass0 ha hdb he hpl
theorem pt_call {X : Cx} {f : Expr} {es : List Expr} {ks : List Keyword} {pos : Pos} {t : TE} (h : PE X (.Call f es ks pos) t) : PT X (.Call f es ks pos) (tB t) := pt_val h
structure DefAt (K : PySem.W.Frag) (mg : Str → Option Value) (x : Str) (st : Stmt) (ps : List Str) : Prop where
  ex : ∃ (f : Addr) (fd : FuncData), Fun K x x st f fd ∧ mg x = some (.ref f) ∧ Binds K fd ps []
theorem DefAt.kn {P : Program} {w : World} {K : PySem.W.Frag} {mg : Str → Option Value} {base : Heap} {k : Nat} {x : Str} {st : Stmt} {N ps : List Str} {sp : Sp} (D : DefAt K mg x st ps) (S : FnScope N ps (defScope st)) (len : ∀ vs H Q E, sp vs H Q E → vs.length = ps.length)
    (hbody : ∀ (f : Addr) (cdv : Value) (A : Around) (outer : List Env) (s : Shared) (H : Hp) (vs : List V) (Q : VK) (E : XK), Room k (A.deeper (envOfC x (defScope st) s.heap.objs.size f cdv)) → sp vs H Q E →
      ∃ t, PSs (cxOf CX0 P w K mg base N x (defScope st) f cdv A outer s H E).nox (defBody st) t ∧ t { nx := fun _ H' => Q .non H', rt := Q } (start N vs) H) : Kn P w K mg base (k + 1) x ps sp := by
  obtain ⟨f, fd, F, hm, hb⟩ := D.ex
  exact ⟨f, fd, F.ok S len fun cdv A outer s H vs Q E hr h => hbody f cdv A outer s H vs Q E hr h, hm, F.kp, hb⟩
def Free (mg : Str → Option Value) (l : List Str) : Prop := ∀ x ∈ l, mg x = none

inductive Dat (H : Hp) : V → String → Prop where
  | non : Dat H .non "NoneType"
  | bl (b : Bool) : Dat H (.bl b) "bool"
  | int (i : Int) : Dat H (.int i) "int"
  | str (x : Str) : Dat H (.str x) "str"
  | lst {a : Addr} {xs : List V} (h : H a = some (.lst xs)) : Dat H (.ref a) "list"
  | tup {a : Addr} {xs : List V} (h : H a = some (.tup xs)) : Dat H (.ref a) "tuple"
  | dK {a : Addr} {kvs : List (Key × V)} (h : H a = some (.dK kvs)) : Dat H (.ref a) "dict"
theorem Dat.mono {H H' : Hp} {x : V} {T : String} (s : Same H H') (h : Dat H x T) : Dat H' x T := by
  cases h with
  | non => exact .non
  | bl b => exact .bl b
  | int i => exact .int i
  | str z => exact .str z
  | lst e => exact .lst (s _ _ e)
  | tup e => exact .tup (s _ _ e)
  | dK e => exact .dK (s _ _ e)
theorem Dat.ty {K : PySem.W.Frag} {H : Hp} {x : V} {T : String} (h : Dat H x T) : TyOf K H x (.type T) := by
  cases h with
  | non => exact .non
  | bl b => exact .bl b
  | int i => exact .int i
  | str z => exact .str z
  | lst e => exact .lst e
  | tup e => exact .tup e
  | dK e => exact .dK e
theorem Dat.mem {H : Hp} {x : V} {T : String} (h : Dat H x T) : T ∈ ["NoneType", "bool", "int", "str", "list", "tuple", "dict"] := by
  cases h <;> simp
def kitB (t T : String) : Bool := t == T || (t == "bool" && T == "int")
theorem kit_of (K : PySem.W.Frag) {t T : String} (h : t ∈ ["NoneType", "bool", "int", "str", "list", "tuple", "dict"]) (h' : T ∈ ["int", "bool", "tuple", "list", "str", "dict"]) : PySem.W.kitOne K (.type t) (.type T) = some (kitB t T) := by
  simp only [List.mem_cons, List.not_mem_nil, or_false] at h h'
  rcases h with rfl | rfl | rfl | rfl | rfl | rfl | rfl <;> rcases h' with rfl | rfl | rfl | rfl | rfl | rfl <;> kernel_rfl
theorem call_isi {X : Cx} : CallR X (.builtin "isinstance") (fun xs H Q => ∃ x T T', xs = [x, .ty T] ∧ Dat H x T' ∧ T ∈ ["int", "bool", "tuple", "list", "str", "dict"] ∧ Q (.bl (kitB T' T)) H) := by
  intro pins s σ H xs us Q I r h
  obtain ⟨x, T, T', e, d, m, q⟩ := h
  exact call_isinst pins s σ H xs us Q I r ⟨x, T, .type T', _, e, d.ty, kit_of X.K d.mem m, q⟩
theorem boot_isi : bootBuiltins "isinstance" = some (.builtin "isinstance") := by decide +kernel
theorem boot_tint : bootBuiltins "int" = some (.type "int") := by decide +kernel
theorem boot_tbool : bootBuiltins "bool" = some (.type "bool") := by decide +kernel
theorem boot_ttuple : bootBuiltins "tuple" = some (.type "tuple") := by decide +kernel
theorem boot_tlist : bootBuiltins "list" = some (.type "list") := by decide +kernel
theorem boot_fall : bootBuiltins "all" = some (.builtin "all") := by decide +kernel
theorem boot_fmax : bootBuiltins "max" = some (.builtin "max") := by decide +kernel
theorem boot_fmin : bootBuiltins "min" = some (.builtin "min") := by decide +kernel
theorem boot_fsorted : bootBuiltins "sorted" = some (.builtin "sorted") := by decide +kernel
inductive Thing (H : Hp) : V → Option (List V) → Prop where
  | tup {p : Addr} {ys : List V} (h : H p = some (.tup ys)) (ty : ∀ y ∈ ys, ∃ T, Dat H y T) (z : ys.length ≤ sizeLine) : Thing H (.ref p) (some ys)
  | oth {x : V} {T : String} (h : Dat H x T) (n : T ≠ "tuple") : Thing H x none
def Ars (H : Hp) : List V → List (Int × Int) → Prop := Paired fun v p => ∃ q, v = V.ref q ∧ H q = some (.tup [.int p.1, .int p.2])
theorem Ars.mono {H H' : Hp} {vs : List V} {ars : List (Int × Int)} (s : Same H H') (h : Ars H vs ars) : Ars H' vs ars := Paired.mapP h fun _ _ ⟨q, e, z⟩ => ⟨q, e, s _ _ z⟩
structure Web (H : Hp) (a t : Addr) (m : Int) (vs : List V) (ars : List (Int × Int)) : Prop where
  top : H a = some (.tup [.int m, .ref t])
  arr : H t = some (.tup vs)
  ars : Ars H vs ars
  len : vs.length ≤ 1000
  mb : 0 ≤ m ∧ m ≤ 1000
theorem Web.mono {H H' : Hp} {a t : Addr} {m : Int} {vs : List V} {ars : List (Int × Int)} (s : Same H H') (h : Web H a t m vs ars) : Web H' a t m vs ars := ⟨s _ _ h.top, s _ _ h.arr, h.ars.mono s, h.len, h.mb⟩
theorem Paired.get' {α β : Type} {F : α → β → Prop} : ∀ {l : List α} {r : List β} {i : Nat} {x : α}, Paired F l r → l[i]? = some x → ∃ y, r[i]? = some y ∧ F x y
  | _, _, _, _, .nil, e => by simp at e
  | _, _, 0, _, .cons h _, e => by
    simp at e
    subst e
    exact ⟨_, rfl, h⟩
  | _, _, i + 1, x, .cons _ t, e => by
    obtain ⟨y, h1, h2⟩ := Paired.get' (i := i) (x := x) t (by simpa using e)
    exact ⟨y, by simpa using h1, h2⟩
def isI : V → Bool
  | .int _ => true
  | _ => false
def plG (m : Int) : V → Bool
  | .int n => decide (0 ≤ n) && decide (n < m)
  | _ => false
end L2

namespace L2
open PySem PySem.Spec PyProof.Rows
def Wn (n : Nat) (Pv : Nat → List V → Hp → Prop) (i m : Nat) (zs : List V) (H : Hp) : Prop := m = n - i ∧ i ≤ n ∧ Pv i zs H
theorem nx {n i : Nat} {Pv : Nat → List V → Hp → Prop} {zs : List V} {H : Hp} (hi : i < n) (h : Pv (i + 1) zs H) : ∃ m', m' < n - i ∧ Wn n Pv (i + 1) m' zs H := ⟨n - (i + 1), by omega, rfl, hi, h⟩
section
variable {K : PySem.W.Frag} {g : TG} {tc : TT} {te : TE} {σ : St} {H : Hp} {R : List V → Hp → Prop}
theorem lc_by {J : It} (n : Nat) (Pv : Nat → List V → Hp → Prop) (h0 : Pv 0 [] H) (stop : ∀ zs H, Pv n zs H → J.stop n H ∧ zs.length ≤ sizeLine ∧ R zs H)
    (go : ∀ i zs H, i < n → Pv i zs H → J.go i H ∧ zs.length ≤ sizeLine ∧ ∀ x H', J.yld i H x H' → g x σ H' fun σ2 H2 => tc σ2 H2 fun b H3 =>
      if b = true then te σ2 H3 fun y H4 => ∃ m', m' < n - i ∧ Wn n Pv (i + 1) m' (zs ++ [y]) H4 else ∃ m', m' < n - i ∧ Wn n Pv (i + 1) m' zs H3) :
    ∃ W : Nat → Nat → List V → Hp → Prop, (∃ m, W 0 m [] H) ∧ ∀ i m ys H, W i m ys H → (J.stop i H ∧ ys.length ≤ sizeLine ∧ R ys H) ∨
      (J.go i H ∧ ys.length ≤ sizeLine ∧ ∀ x H', J.yld i H x H' → g x σ H' fun σ2 H2 => tc σ2 H2 fun b H3 =>
        if b = true then te σ2 H3 fun y H4 => ∃ m', m' < m ∧ W (i + 1) m' (ys ++ [y]) H4 else ∃ m', m' < m ∧ W (i + 1) m' ys H3) := by
  refine ⟨Wn n Pv, ⟨n, rfl, Nat.zero_le _, h0⟩, ?_⟩
  rintro i m ys H ⟨rfl, hi, p⟩
  by_cases hlt : i < n
  · exact .inr (go i ys H hlt p)
  · have e : i = n := by omega
    subst e
    exact .inl (stop ys H p)
theorem lc_tup {a : Addr} {xs : List V} (Pv : Nat → List V → Hp → Prop) (h0 : Pv 0 [] H) (hl : ∀ i zs H, i ≤ xs.length → Pv i zs H → SqT K H a xs ∧ zs.length ≤ sizeLine) (hd : ∀ zs H, Pv xs.length zs H → R zs H)
    (hs : ∀ i x zs H, xs[i]? = some x → i < xs.length → Pv i zs H → g x σ H fun σ2 H2 => tc σ2 H2 fun b H3 =>
      if b = true then te σ2 H3 fun y H4 => ∃ m', m' < xs.length - i ∧ Wn xs.length Pv (i + 1) m' (zs ++ [y]) H4 else ∃ m', m' < xs.length - i ∧ Wn xs.length Pv (i + 1) m' zs H3) :
    ∃ W : Nat → Nat → List V → Hp → Prop, (∃ m, W 0 m [] H) ∧ ∀ i m ys H, W i m ys H → ((Itt K a).stop i H ∧ ys.length ≤ sizeLine ∧ R ys H) ∨
      ((Itt K a).go i H ∧ ys.length ≤ sizeLine ∧ ∀ x H', (Itt K a).yld i H x H' → g x σ H' fun σ2 H2 => tc σ2 H2 fun b H3 =>
        if b = true then te σ2 H3 fun y H4 => ∃ m', m' < m ∧ W (i + 1) m' (ys ++ [y]) H4 else ∃ m', m' < m ∧ W (i + 1) m' ys H3) := by
  refine lc_by xs.length Pv h0 (fun zs H p => ?_) (fun i zs H hi p => ?_)
  · obtain ⟨q, z⟩ := hl _ zs H (Nat.le_refl _) p
    exact ⟨⟨xs, q, Nat.le_refl _⟩, z, hd zs H p⟩
  · obtain ⟨q, z⟩ := hl i zs H (Nat.le_of_lt hi) p
    refine ⟨⟨xs, xs[i], q, by simp [hi]⟩, z, fun x H' y => ?_⟩
    obtain ⟨e, y⟩ := y
    subst e
    exact hs i x zs _ (y xs q) hi p
theorem lc_list {a : Addr} {xs : List V} (Pv : Nat → List V → Hp → Prop) (h0 : Pv 0 [] H) (hl : ∀ i zs H, i ≤ xs.length → Pv i zs H → SqL K H a xs ∧ zs.length ≤ sizeLine) (hd : ∀ zs H, Pv xs.length zs H → R zs H)
    (hs : ∀ i x zs H, xs[i]? = some x → i < xs.length → Pv i zs H → g x σ H fun σ2 H2 => tc σ2 H2 fun b H3 =>
      if b = true then te σ2 H3 fun y H4 => ∃ m', m' < xs.length - i ∧ Wn xs.length Pv (i + 1) m' (zs ++ [y]) H4 else ∃ m', m' < xs.length - i ∧ Wn xs.length Pv (i + 1) m' zs H3) :
    ∃ W : Nat → Nat → List V → Hp → Prop, (∃ m, W 0 m [] H) ∧ ∀ i m ys H, W i m ys H → ((Itl K a).stop i H ∧ ys.length ≤ sizeLine ∧ R ys H) ∨
      ((Itl K a).go i H ∧ ys.length ≤ sizeLine ∧ ∀ x H', (Itl K a).yld i H x H' → g x σ H' fun σ2 H2 => tc σ2 H2 fun b H3 =>
        if b = true then te σ2 H3 fun y H4 => ∃ m', m' < m ∧ W (i + 1) m' (ys ++ [y]) H4 else ∃ m', m' < m ∧ W (i + 1) m' ys H3) := by
  refine lc_by xs.length Pv h0 (fun zs H p => ?_) (fun i zs H hi p => ?_)
  · obtain ⟨q, z⟩ := hl _ zs H (Nat.le_refl _) p
    exact ⟨⟨xs, q, Nat.le_refl _⟩, z, hd zs H p⟩
  · obtain ⟨q, z⟩ := hl i zs H (Nat.le_of_lt hi) p
    refine ⟨⟨xs, xs[i], q, by simp [hi]⟩, z, fun x H' y => ?_⟩
    obtain ⟨e, y⟩ := y
    subst e
    exact hs i x zs _ (y xs q) hi p
theorem lc_zip {a b : Addr} {xs ys : List V} (hxy : ys.length + 1 = xs.length ∨ (xs.length = 0 ∧ ys.length = 0) ∨ ys.length = xs.length) (Pv : Nat → List V → Hp → Prop) (h0 : Pv 0 [] H)
    (hl : ∀ i zs H, i ≤ ys.length → Pv i zs H → H a = some (.tup xs) ∧ H b = some (.tup ys) ∧ zs.length ≤ sizeLine) (hd : ∀ zs H, Pv ys.length zs H → R zs H)
    (hs : ∀ i v w zs H p, xs[i]? = some v → ys[i]? = some w → i < ys.length → Pv i zs H → H p = none → g (.ref p) σ (upd H p (.tup [v, w])) fun σ2 H2 => tc σ2 H2 fun b H3 =>
      if b = true then te σ2 H3 fun y H4 => ∃ m', m' < ys.length - i ∧ Wn ys.length Pv (i + 1) m' (zs ++ [y]) H4 else ∃ m', m' < ys.length - i ∧ Wn ys.length Pv (i + 1) m' zs H3) :
    ∃ W : Nat → Nat → List V → Hp → Prop, (∃ m, W 0 m [] H) ∧ ∀ i m ys H, W i m ys H → ((Itz a b).stop i H ∧ ys.length ≤ sizeLine ∧ R ys H) ∨
      ((Itz a b).go i H ∧ ys.length ≤ sizeLine ∧ ∀ x H', (Itz a b).yld i H x H' → g x σ H' fun σ2 H2 => tc σ2 H2 fun b H3 =>
        if b = true then te σ2 H3 fun y H4 => ∃ m', m' < m ∧ W (i + 1) m' (ys ++ [y]) H4 else ∃ m', m' < m ∧ W (i + 1) m' ys H3) := by
  refine lc_by ys.length Pv h0 (fun zs H p => ?_) (fun i zs H hi p => ?_)
  · obtain ⟨q1, q2, z⟩ := hl _ zs H (Nat.le_refl _) p
    exact ⟨⟨xs, ys, q1, q2, by omega⟩, z, hd zs H p⟩
  · obtain ⟨q1, q2, z⟩ := hl i zs H (Nat.le_of_lt hi) p
    refine ⟨⟨xs, ys, q1, q2, by omega, hi⟩, z, fun x H' y => ?_⟩
    obtain ⟨p', v, w, e1, e2, e3, y⟩ := y
    subst e1 e3
    obtain ⟨y1, y2⟩ := y xs ys q1 q2
    exact hs i v w zs H p' y1 y2 hi p e2
end
section
variable {K : PySem.W.Frag} {g : TG} {te : TE} {σ : St} {H : Hp} {R : List V → Hp → Prop}
theorem lc_tup0 {a : Addr} {xs : List V} (Pv : Nat → List V → Hp → Prop) (h0 : Pv 0 [] H) (hl : ∀ i zs H, i ≤ xs.length → Pv i zs H → SqT K H a xs ∧ zs.length ≤ sizeLine) (hd : ∀ zs H, Pv xs.length zs H → R zs H)
    (hs : ∀ i x zs H, xs[i]? = some x → i < xs.length → Pv i zs H → g x σ H fun σ2 H2 => te σ2 H2 fun y H4 => ∃ m', m' < xs.length - i ∧ Wn xs.length Pv (i + 1) m' (zs ++ [y]) H4) :
    ∃ W : Nat → Nat → List V → Hp → Prop, (∃ m, W 0 m [] H) ∧ ∀ i m ys H, W i m ys H → ((Itt K a).stop i H ∧ ys.length ≤ sizeLine ∧ R ys H) ∨
      ((Itt K a).go i H ∧ ys.length ≤ sizeLine ∧ ∀ x H', (Itt K a).yld i H x H' → g x σ H' fun σ2 H2 => tYes σ2 H2 fun b H3 =>
        if b = true then te σ2 H3 fun y H4 => ∃ m', m' < m ∧ W (i + 1) m' (ys ++ [y]) H4 else ∃ m', m' < m ∧ W (i + 1) m' ys H3) := lc_tup (tc := tYes) Pv h0 hl hd hs
theorem lc_list0 {a : Addr} {xs : List V} (Pv : Nat → List V → Hp → Prop) (h0 : Pv 0 [] H) (hl : ∀ i zs H, i ≤ xs.length → Pv i zs H → SqL K H a xs ∧ zs.length ≤ sizeLine) (hd : ∀ zs H, Pv xs.length zs H → R zs H)
    (hs : ∀ i x zs H, xs[i]? = some x → i < xs.length → Pv i zs H → g x σ H fun σ2 H2 => te σ2 H2 fun y H4 => ∃ m', m' < xs.length - i ∧ Wn xs.length Pv (i + 1) m' (zs ++ [y]) H4) :
    ∃ W : Nat → Nat → List V → Hp → Prop, (∃ m, W 0 m [] H) ∧ ∀ i m ys H, W i m ys H → ((Itl K a).stop i H ∧ ys.length ≤ sizeLine ∧ R ys H) ∨
      ((Itl K a).go i H ∧ ys.length ≤ sizeLine ∧ ∀ x H', (Itl K a).yld i H x H' → g x σ H' fun σ2 H2 => tYes σ2 H2 fun b H3 =>
        if b = true then te σ2 H3 fun y H4 => ∃ m', m' < m ∧ W (i + 1) m' (ys ++ [y]) H4 else ∃ m', m' < m ∧ W (i + 1) m' ys H3) := lc_list (tc := tYes) Pv h0 hl hd hs
theorem lc_zip0 {a b : Addr} {xs ys : List V} (hxy : ys.length + 1 = xs.length ∨ (xs.length = 0 ∧ ys.length = 0) ∨ ys.length = xs.length) (Pv : Nat → List V → Hp → Prop) (h0 : Pv 0 [] H)
    (hl : ∀ i zs H, i ≤ ys.length → Pv i zs H → H a = some (.tup xs) ∧ H b = some (.tup ys) ∧ zs.length ≤ sizeLine) (hd : ∀ zs H, Pv ys.length zs H → R zs H)
    (hs : ∀ i v w zs H p, xs[i]? = some v → ys[i]? = some w → i < ys.length → Pv i zs H → H p = none → g (.ref p) σ (upd H p (.tup [v, w])) fun σ2 H2 => te σ2 H2 fun y H4 => ∃ m', m' < ys.length - i ∧ Wn ys.length Pv (i + 1) m' (zs ++ [y]) H4) :
    ∃ W : Nat → Nat → List V → Hp → Prop, (∃ m, W 0 m [] H) ∧ ∀ i m ys H, W i m ys H → ((Itz a b).stop i H ∧ ys.length ≤ sizeLine ∧ R ys H) ∨
      ((Itz a b).go i H ∧ ys.length ≤ sizeLine ∧ ∀ x H', (Itz a b).yld i H x H' → g x σ H' fun σ2 H2 => tYes σ2 H2 fun b H3 =>
        if b = true then te σ2 H3 fun y H4 => ∃ m', m' < m ∧ W (i + 1) m' (ys ++ [y]) H4 else ∃ m', m' < m ∧ W (i + 1) m' ys H3) := lc_zip (tc := tYes) hxy Pv h0 hl hd hs
end
theorem take_snoc {α : Type} (l : List α) (i : Nat) (x : α) (h : l[i]? = some x) : l.take (i + 1) = l.take i ++ [x] := by
  rw [List.take_add_one, h]
  rfl
end L2

namespace L2
open PySem PySem.Calls PySem.Spec PyProof.Rows
def RawD (h : Heap) (d : Addr) (es : Array DictEntry) (ep : Nat) : Prop := ∃ o, h.get? d = some o ∧ o.ExactDict ∧ o.data = .dict es ep
section
variable {prog : Program} {w : World} {A : Around} {E : Value → Shared → Prop} {s : Shared} {d it : Addr} {es : Array DictEntry} {ep i : Nat}
theorem RawD.ty (h : RawD s.heap d es ep) : s.TypeIs (.ref d) "dict" := let ⟨o, a, b, _⟩ := h; ⟨o, a, b.1⟩
theorem raw_iter {Q : Value → Shared → Prop} (hd : (d == sysModules) = false) (hm : RawD s.heap d es ep)
    (q : Q (.ref s.heap.objs.size) { s with heap := s.heap.push { cls := .type "dict_keyiterator", data := .fields #[.ref d, .int 0 0, .int es.size 0, .int ep 0] } }) :
    wpAny (model prog w) A (pyIter (.ref d)) Q E s := by
  have hT := hm.ty
  obtain ⟨o, h1, h2, h3⟩ := id hm
  refine wpAny_pyIter_slot hT F.slot_dict_iter (wpAny_call_entry F.slot_dict_iter hT F.entry_dict_iter ?_ (F.args_dict_iter_1 _))
  unfold Builtin.«dict.__iter__»
  refine wpAny_bind ?_
  unfold Builtin.Dict.dictSlotNone
  refine wpAny_bind (wpAny_notOrdered_dict hT ?_)
  show wpAny (model prog w) _ (pure (Value.ref d)) _ _ s
  refine wpAny_pure ?_
  show wpAny (model prog w) _ (Builtin.Dict.showsAll d >>= _) _ _ s
  unfold Builtin.Dict.showsAll
  rw [if_neg (by rw [hd]; exact Bool.false_ne_true)]
  refine wpAny_bind (wpAny_pure ?_)
  refine wpAny_bind (wpAny_dictEntries h1 h3 ?_)
  refine wpAny_bind (wpAny_dictEpoch h1 h3 ?_)
  exact wpAny_bind (wpAny_newObj_type (wpAny_pure ⟨_, rfl, "dict_keyiterator", _, ⟨_, Heap.get?_push_size _ rfl, rfl⟩, F.slot_dict_keyiterator_next.lookup, q⟩))
theorem raw_next {Q : Option Value → Shared → Prop} (hi : s.heap.IsKeyIter it d i es.size ep) (hm : RawD s.heap d es ep) (hx : i < es.size)
    (q : ∀ h', h'.IsKeyIter it d (i + 1) es.size ep → Heap.SameBut it s.heap h' → Q (some es[i].key) { s with heap := h' }) : wpAny (model prog w) A (pyNext (.ref it)) Q E s := by
  obtain ⟨o, a1, a2, a3⟩ := id hi
  obtain ⟨od, b1, b2, b3⟩ := id hm
  unfold pyNext
  refine wpAny_bind (wpAny_attempt (wpAny_callSpecial?_slot (name := Str.ofString "__next__") hi.typeIs F.slot_dict_keyiterator_next
    (wpAny_call_entry F.slot_dict_keyiterator_next hi.typeIs F.entry_dict_keyiterator_next ?_ (F.args_dict_keyiterator_next_1 _))))
  refine wpAny_bind (wpAny_pure ?_)
  refine wpAny_bind ?_
  refine wpAny_bind ?_
  first | refine wpAny_bind (wpAny_typeNameOfWhole_keyiter hi.typeIs (wpAny_pure ?_)) | refine wpAny_bind (wpAny_typeNameOf_keyiter hi.typeIs (wpAny_pure ?_))
  refine wpAny_bind (wpAny_fieldsOf a1 a3 ?_)
  have own : Builtin.Dict_items.ownsTuple "dict_keyiterator" = false := by decide
  simp only [own, Bool.false_eq_true, if_false]
  show wpAny (model prog w) _ (if (Value.ref d == Value.none) = true then _ else _) _ _ s
  rw [if_neg (show ¬ (Value.ref d == Value.none) = true from Bool.false_ne_true)]
  refine wpAny_bind (wpAny_pure ?_)
  refine wpAny_bind (wpAny_dictEntries b1 b3 ?_)
  rw [if_neg (by simp)]
  refine wpAny_bind (wpAny_pure ?_)
  refine wpAny_bind (wpAny_dictEpoch b1 b3 ?_)
  rw [if_neg (by simp)]
  refine wpAny_pure ?_
  simp only [show ¬ ((i : Int) < 0) from by omega, if_false, Int.toNat_natCast, Array.getElem?_eq_getElem hx]
  refine wpAny_bind ?_
  first | refine wpAny_bind (wpAny_typeNameOfWhole_keyiter hi.typeIs (wpAny_pure ?_)) | refine wpAny_bind (wpAny_typeNameOf_keyiter hi.typeIs (wpAny_pure ?_))
  refine wpAny_bind (wpAny_isOneOf_keyiter hi.typeIs ?_)
  show wpAny (model prog w) _ (setField (.ref it) 1 (rawInt ((i : Int) + 1)) >>= _) _ _ s
  refine wpAny_bind (wpAny_setField a1 a3 (by simp) ?_)
  have nxt : (s.heap.update it (Obj.mapFields (·.setIfInBounds 1 (rawInt ((i : Int) + 1))))).IsKeyIter it d (i + 1) es.size ep :=
    ⟨_, Heap.get?_update_self _ a1 (Obj.isFreed_of_fields (Obj.data_mapFields a3 _)), (Obj.cls_mapFields ..).trans a2, by rw [Obj.data_mapFields a3]; simp [rawInt]⟩
  refine wpAny_bind (wpAny_holding ?_)
  refine wpAny_bind (wpAny_isOneOf_keyiter (s := { s with heap := s.heap.update it (Obj.mapFields (·.setIfInBounds 1 (rawInt ((i : Int) + 1)))) }) nxt.typeIs ?_)
  show wpAny (model prog w) _ (pure es[i].key) _ _ _
  exact wpAny_pure (wpAny_pure ⟨_, rfl, wpAny_pure (q _ nxt (Heap.SameBut.update ..))⟩)
theorem raw_end {Q : Option Value → Shared → Prop} (hh : A.handled = none) (hi : s.heap.IsKeyIter it d es.size es.size ep) (hm : RawD s.heap d es ep)
    (q : ∀ h', Heap.ExtBut it s.heap h' → Q none { s with heap := h' }) : wpAny (model prog w) A (pyNext (.ref it)) Q E s := by
  obtain ⟨o, a1, a2, a3⟩ := id hi
  obtain ⟨od, b1, b2, b3⟩ := id hm
  unfold pyNext
  refine wpAny_bind (wpAny_attempt (wpAny_callSpecial?_slot (name := Str.ofString "__next__") hi.typeIs F.slot_dict_keyiterator_next
    (wpAny_call_entry F.slot_dict_keyiterator_next hi.typeIs F.entry_dict_keyiterator_next ?_ (F.args_dict_keyiterator_next_1 _))))
  refine wpAny_bind (wpAny_pure ?_)
  refine wpAny_bind ?_
  refine wpAny_bind ?_
  first | refine wpAny_bind (wpAny_typeNameOfWhole_keyiter hi.typeIs (wpAny_pure ?_)) | refine wpAny_bind (wpAny_typeNameOf_keyiter hi.typeIs (wpAny_pure ?_))
  refine wpAny_bind (wpAny_fieldsOf a1 a3 ?_)
  have own : Builtin.Dict_items.ownsTuple "dict_keyiterator" = false := by decide
  simp only [own, Bool.false_eq_true, if_false]
  show wpAny (model prog w) _ (if (Value.ref d == Value.none) = true then _ else _) _ _ s
  rw [if_neg (show ¬ (Value.ref d == Value.none) = true from Bool.false_ne_true)]
  refine wpAny_bind (wpAny_pure ?_)
  refine wpAny_bind (wpAny_dictEntries b1 b3 ?_)
  rw [if_neg (by simp)]
  refine wpAny_bind (wpAny_pure ?_)
  refine wpAny_bind (wpAny_dictEpoch b1 b3 ?_)
  rw [if_neg (by simp)]
  refine wpAny_pure ?_
  simp only [show ¬ ((es.size : Int) < 0) from by omega, if_false, Int.toNat_natCast, Array.getElem?_eq_none (Nat.le_refl es.size)]
  refine wpAny_bind ?_
  first | refine wpAny_bind (wpAny_typeNameOfWhole_keyiter hi.typeIs (wpAny_pure ?_)) | refine wpAny_bind (wpAny_typeNameOf_keyiter hi.typeIs (wpAny_pure ?_))
  show wpAny (model prog w) _ (setField (.ref it) 0 .none >>= _) _ _ s
  refine wpAny_bind (wpAny_setField a1 a3 (by simp) ?_)
  show wpAny (model prog w) _ (newExc (.type "StopIteration") [] >>= _) _ _ _
  refine wpAny_bind ?_
  simp only [newExc, newTuple]
  refine wpAny_bind (wpAny_newObj_type ?_ (by size_fits))
  refine wpAny_bind (m := firstArgMember _ _) (wpAny_of_eq (a := Value.none) (by first | rfl | (simp only [firstArgMember]; rfl)) ?_)
  refine wpAny_newObj_type ?_ (by size_fits)
  simp only [raiseNew]
  refine wpAny_bind (wpAny_handled ?_)
  rw [show A.in1.handled = none from hh]
  refine wpAny_bind (wpAny_pure (wpAny_throw ?_))
  refine wpAny_bind (wpAny_isInstance (T := "StopIteration") (b := true) ⟨_, Heap.get?_push_size _ rfl, rfl⟩ isSubtype_stop ?_)
  exact wpAny_pure (q _ (((Heap.SameBut.update ..).extBut.push _).push _))
theorem raw_walks (hh : A.handled = none) (it d : Addr) (hne : d ≠ it) (es : Array DictEntry) (ep : Nat) :
    Walks prog w A it [it, d] [it] es.size (fun i v => ∃ e, es[i]? = some e ∧ v = e.key) (fun i h => h.IsKeyIter it d i es.size ep ∧ RawD h d es ep) where
  sub := fun b hb => by simp at hb; simp [hb]
  frame := fun _ _ _ st hk => ⟨st.1.at fun o e => hk it (by simp) o e, let ⟨o, a, r⟩ := st.2; ⟨o, hk d (by simp) o a, r⟩⟩
  item := fun i s Q E hi st hQ => by
    refine raw_next st.1 st.2 hi fun h' a b => ?_
    exact hQ _ h' s.toks ⟨es[i], by simp [hi], rfl⟩ ⟨a, let ⟨o, x, r⟩ := st.2; ⟨o, b.extBut d o hne x, r⟩⟩ fun c o hc e => b.extBut c o (fun z => hc (by simp [z])) e
  done := fun s Q E st hQ => raw_end hh st.1 st.2 fun h' x => hQ h' s.toks fun b o hb e => x b o (fun z => hb (by simp [z])) e
  self := fun _ _ _ _ st hQ => wpAny_pyIter_keyiter st.1 hQ
theorem raw_src (hd : (d == sysModules) = false) (es : Array DictEntry) (ep : Nat) : PySem.W.KdlSrc prog w "dict" d d es.size (fun i v => ∃ e, es[i]? = some e ∧ v = e.key) (fun h => RawD h d es ep) where
  type := fun _ hm => hm.ty
  there := fun _ hm => let ⟨_, a, _⟩ := hm; ⟨Heap.lt_size a, Heap.lt_size a⟩
  keep := fun _ _ hm hk => let ⟨o, a, r⟩ := hm; ⟨o, hk d (.inl rfl) o a, r⟩
  notList := by decide
  notTuple := by decide
  hint := fun _ _ _ _ hm hq => PySem.W.kdl_hint_dict hm.ty hq
  iter := fun _ _ hh hm => ⟨_, _, (fun _ _ hq => raw_iter hd hm hq), raw_walks hh _ d (let ⟨_, a, _⟩ := hm; Nat.ne_of_lt (Heap.lt_size a)) es ep, ⟨⟨_, Heap.get?_push_size _ rfl, rfl, rfl⟩, let ⟨o, a, r⟩ := hm; ⟨o, Heap.get?_push_of_some _ a, r⟩⟩⟩
end
end L2

namespace Tim
open PySem PyProof.Rows
structure Ok (κ : SortKind) (a0 : Array Keyed) (st : SortSt) : Prop where
  kind : kindOf st = κ
  fail : failedOf st = none
  perm : (arrOf st).Perm a0
def gallop' : Bool → Keyed → Array Keyed → Nat → Nat → Nat → StateT SortSt Sem (Option Nat) := sortPriv% PySem.Builtin.gallop
def mergeLo' : Array Keyed → Array Keyed → StateT SortSt Sem (Array Keyed) := sortPriv% PySem.Builtin.mergeLo
def mergeHi' : Array Keyed → Array Keyed → StateT SortSt Sem (Array Keyed) := sortPriv% PySem.Builtin.mergeHi
section
variable {prog : Program} {w : World} {A : Around} {E : Value → Shared → Prop} {s : Shared} {κ : SortKind} {a0 : Array Keyed}
theorem elem_ok {arr : Array Keyed} {i : Nat} {st : SortSt} {Q : Keyed → SortSt → Prop} (h : i < arr.size) (q : Q arr[i] st) : wpS (model prog w) A E s (elem' arr i) Q st := by
  rw [elem'_eq, Array.getElem?_eq_getElem h]
  exact wpS_pure q
def In (a0 arr : Array Keyed) : Prop := ∀ x ∈ arr, x ∈ a0
def PL (a b out : Array Keyed) (ia ib : Nat) : Prop := (out.toList ++ (a.toList.drop ia ++ b.toList.drop ib)).Perm (a.toList ++ b.toList)
theorem drop_ex (a : Array Keyed) (i k : Nat) (h : i ≤ k) : a.toList.drop i = (a.extract i k).toList ++ a.toList.drop k := by
  rw [Array.toList_extract, List.extract_eq_take_drop]
  have e : a.toList.drop k = (a.toList.drop i).drop (k - i) := by
    rw [List.drop_drop]
    congr 1
    omega
  rw [e, List.take_append_drop]
theorem ext_all (a : Array Keyed) (i : Nat) : (a.extract i a.size).toList = a.toList.drop i := by
  rw [Array.toList_extract, List.extract_eq_take_drop]
  exact List.take_of_length_le (by simp)
section
variable {a b out : Array Keyed} {ia ib : Nat}
theorem PL.takeA (h : PL a b out ia ib) (k : Nat) : PL a b (out ++ a.extract ia (ia + k)) (ia + k) ib := by
  unfold PL at h ⊢
  rw [drop_ex a ia (ia + k) (by omega)] at h
  simpa using h
theorem PL.takeB (h : PL a b out ia ib) (k : Nat) : PL a b (out ++ b.extract ib (ib + k)) ia (ib + k) := by
  unfold PL at h ⊢
  rw [drop_ex b ib (ib + k) (by omega)] at h
  refine List.Perm.trans ?_ h
  simp only [Array.toList_append, List.append_assoc]
  refine List.Perm.append_left _ ?_
  rw [← List.append_assoc, ← List.append_assoc]
  exact List.Perm.append_right _ List.perm_append_comm
theorem PL.pushA (h : PL a b out ia ib) (hi : ia < a.size) : PL a b (out.push a[ia]) (ia + 1) ib := by
  unfold PL at h ⊢
  rw [List.drop_eq_getElem_cons (by simpa using hi)] at h
  simpa using h
theorem PL.pushB (h : PL a b out ia ib) (hi : ib < b.size) : PL a b (out.push b[ib]) ia (ib + 1) := by
  unfold PL at h ⊢
  rw [List.drop_eq_getElem_cons (l := b.toList) (by simpa using hi)] at h
  refine List.Perm.trans ?_ h
  simp only [Array.toList_push, List.append_assoc, List.singleton_append]
  refine List.Perm.append_left _ ?_
  simpa using List.perm_middle.symm
theorem PL.done (h : PL a b out ia ib) : (out ++ a.extract ia a.size ++ b.extract ib b.size).Perm (a ++ b) := by
  unfold PL at h
  rw [Array.perm_iff_toList_perm]
  simp only [Array.toList_append, ext_all, List.append_assoc]
  exact h
theorem PL.last (h : PL a b out ia ib) : (out ++ b.extract ib b.size ++ a.extract ia a.size).Perm (a ++ b) := by
  unfold PL at h
  rw [Array.perm_iff_toList_perm]
  simp only [Array.toList_append, ext_all, List.append_assoc]
  exact (List.Perm.append_left _ List.perm_append_comm).trans h
end
structure SI (κ : SortKind) (a0 : Array Keyed) (st st' : SortSt) : Prop where
  ok : Ok κ a0 st'
  pend : pendingOf st' = pendingOf st
  arr : arrOf st' = arrOf st
def PH (a b out : Array Keyed) (na nb : Nat) : Prop := ((a.toList.take na ++ b.toList.take nb) ++ out.toList.reverse).Perm (a.toList ++ b.toList)
theorem take_ex (a : Array Keyed) (i k : Nat) (h : i ≤ k) : a.toList.take k = a.toList.take i ++ (a.extract i k).toList := by
  rw [Array.toList_extract, List.extract_eq_take_drop]
  have e : k = i + (k - i) := by omega
  conv => lhs; rw [e, List.take_add]
theorem take_last (a : Array Keyed) (n : Nat) (h0 : 0 < n) (h : n - 1 < a.size) : a.toList.take n = a.toList.take (n - 1) ++ [a[n - 1]] := by
  have e : n = (n - 1) + 1 := by omega
  conv => lhs; rw [e, List.take_add_one]
  rw [Array.getElem?_toList, Array.getElem?_eq_getElem h]
  rfl
theorem ext_zero (a : Array Keyed) (n : Nat) : (a.extract 0 n).toList = a.toList.take n := by
  rw [Array.toList_extract, List.extract_eq_take_drop]
  simp
section
variable {a b out : Array Keyed} {na nb : Nat}
theorem PH.downA (h : PH a b out na nb) (h0 : 0 < na) (hi : na - 1 < a.size) : PH a b (out.push a[na - 1]) (na - 1) nb := by
  unfold PH at h ⊢
  rw [take_last a na h0 hi] at h
  refine List.Perm.trans ?_ h
  simp only [Array.toList_push, List.reverse_append, List.reverse_singleton, List.append_assoc, List.singleton_append]
  exact List.Perm.append_left _ List.perm_middle
theorem PH.downB (h : PH a b out na nb) (h0 : 0 < nb) (hi : nb - 1 < b.size) : PH a b (out.push b[nb - 1]) na (nb - 1) := by
  unfold PH at h ⊢
  rw [take_last b nb h0 hi] at h
  simpa using h
theorem PH.takeA (h : PH a b out na nb) {k : Nat} (hk : k ≤ na) : PH a b (out ++ (a.extract k na).reverse) k nb := by
  unfold PH at h ⊢
  rw [take_ex a k na hk] at h
  refine List.Perm.trans ?_ h
  simp only [Array.toList_append, Array.toList_reverse, List.reverse_append, List.reverse_reverse, List.append_assoc]
  refine List.Perm.append_left _ ?_
  rw [← List.append_assoc, ← List.append_assoc]
  exact List.Perm.append_right _ List.perm_append_comm
theorem PH.takeB (h : PH a b out na nb) {k : Nat} (hk : k ≤ nb) : PH a b (out ++ (b.extract k nb).reverse) na k := by
  unfold PH at h ⊢
  rw [take_ex b k nb hk] at h
  simpa using h
theorem PH.done (h : PH a b out na nb) : (a.extract 0 na ++ b.extract 0 nb ++ out.reverse).Perm (a ++ b) := by
  unfold PH at h
  rw [Array.perm_iff_toList_perm]
  simp only [Array.toList_append, ext_zero, Array.toList_reverse]
  exact h
theorem PH.first (h : PH a b out na nb) : (b.extract 0 nb ++ a.extract 0 na ++ out.reverse).Perm (a ++ b) := by
  unfold PH at h
  rw [Array.perm_iff_toList_perm]
  simp only [Array.toList_append, ext_zero, Array.toList_reverse]
  exact (List.Perm.append_right _ List.perm_append_comm).trans h
end
theorem wpS_set {M : Model} {σ : Type} {x : σ} {Q : PUnit → σ → Prop} {st : σ} (h : Q ⟨⟩ x) : wpS M A E s (set x : StateT σ Sem PUnit) Q st := by
  unfold wpS
  rw [StateT.run_set]
  exact wpAny_pure ⟨rfl, h⟩
def Chain : List (Nat × Nat × Nat) → Nat → Nat → Prop
  | [], b, e => b = e
  | r :: rest, b, e => r.1 = b ∧ 1 ≤ r.2.1 ∧ Chain rest (b + r.2.1) e
theorem Chain.le : ∀ {l : List (Nat × Nat × Nat)} {b e : Nat}, Chain l b e → b ≤ e
  | [], _, _, h => Nat.le_of_eq h
  | _ :: _, _, _, h => Nat.le_trans (Nat.le_add_right _ _) h.2.2.le
theorem Chain.merge : ∀ {l : List (Nat × Nat × Nat)} {b e i : Nat} {x y : Nat × Nat × Nat}, Chain l b e → l[i]? = some x → l[i + 1]? = some y →
    y.1 = x.1 + x.2.1 ∧ 1 ≤ x.2.1 ∧ 1 ≤ y.2.1 ∧ y.1 + y.2.1 ≤ e ∧ Chain ((l.set i (x.1, x.2.1 + y.2.1, x.2.2)).eraseIdx (i + 1)) b e
  | [], _, _, _, _, _, _, h, _ => by simp at h
  | r :: rest, b, e, 0, x, y, h, h1, h2 => by
    obtain rfl : r = x := by simpa using h1
    cases rest with
    | nil => simp at h2
    | cons r2 rest =>
      obtain rfl : r2 = y := by simpa using h2
      have e1 : r.1 = b := h.1
      have n1 : 1 ≤ r.2.1 := h.2.1
      have e2 : r2.1 = b + r.2.1 := h.2.2.1
      have n2 : 1 ≤ r2.2.1 := h.2.2.2.1
      have c : Chain rest (b + r.2.1 + r2.2.1) e := h.2.2.2.2
      have := c.le
      refine ⟨by omega, n1, n2, by omega, ?_⟩
      show Chain ((r.1, r.2.1 + r2.2.1, r.2.2) :: rest) b e
      refine ⟨e1, Nat.le_trans n1 (Nat.le_add_right _ _), ?_⟩
      show Chain rest (b + (r.2.1 + r2.2.1)) e
      rw [← Nat.add_assoc]
      exact c
  | r :: rest, b, e, i + 1, x, y, h, h1, h2 => by
    obtain ⟨e1, n1, c⟩ := h
    obtain ⟨g1, g2, g3, g4, g5⟩ := Chain.merge (i := i) c (by simpa using h1) (by simpa using h2)
    refine ⟨g1, g2, g3, g4, ?_⟩
    show Chain (r :: (rest.set i _).eraseIdx (i + 1)) b e
    exact ⟨e1, n1, g5⟩
theorem Chain.snoc : ∀ {l : List (Nat × Nat × Nat)} {b e n p : Nat}, Chain l b e → 1 ≤ n → Chain (l ++ [(e, n, p)]) b (e + n)
  | [], _, _, _, _, h, hn => ⟨h.symm, hn, by show _ + _ = _; rw [h]⟩
  | _ :: _, _, _, _, _, h, hn => ⟨h.1, h.2.1, h.2.2.snoc hn⟩
theorem Chain.mod : ∀ {l : List (Nat × Nat × Nat)} {b e : Nat} (i pw : Nat), Chain l b e → Chain (l.modify i fun x => (x.1, x.2.1, pw)) b e
  | [], _, _, i, _, h => by cases i <;> exact h
  | _ :: _, _, _, 0, _, h => h
  | _ :: _, _, _, i + 1, pw, h => ⟨h.1, h.2.1, h.2.2.mod i pw⟩
theorem put_all (sa : Nat) : ∀ (l : List Keyed) (arr : Array Keyed) (j : Nat), sa + j + l.length ≤ arr.size →
    ((l.zipIdx j).foldl (fun a (x : Keyed × Nat) => a.setIfInBounds (sa + x.2) x.1) arr).toList = arr.toList.take (sa + j) ++ (l ++ arr.toList.drop (sa + j + l.length))
  | [], arr, j, h => by simp
  | x :: r, arr, j, h => by
    rw [List.length_cons] at h
    rw [List.zipIdx_cons, List.foldl_cons, put_all sa r _ (j + 1) (by rw [Array.size_setIfInBounds]; omega)]
    have hl : sa + j < arr.toList.length := by rw [Array.length_toList]; omega
    rw [Array.toList_setIfInBounds, List.length_cons]
    have e1 : sa + (j + 1) = sa + j + 1 := by omega
    rw [e1, List.take_set, List.drop_set_of_lt (by omega), List.take_add_one, List.getElem?_eq_getElem hl]
    have e2 : sa + j + 1 + r.length = sa + j + (r.length + 1) := by omega
    rw [e2]
    have hlen : (arr.toList.take (sa + j)).length = sa + j := by rw [List.length_take]; omega
    rw [List.set_append_right _ _ (by rw [hlen]; exact Nat.le_refl _), hlen]
    simp
theorem ite_lt {c : Prop} [Decidable c] {x y n : Nat} (h1 : x + 1 < n) (h2 : y + 1 < n) : (if c then x else y) + 1 < n := by
  split
  · exact h1
  · exact h2
end
end Tim

namespace L2
open PySem PySem.Calls PySem.Spec PyProof.Rows
section
variable {prog : Program} {w : World} {A : Around} {E : Value → Shared → Prop} {s : Shared}
theorem sort_list {a : Addr} {vs : List Value} {n : Nat} {P : PySem.Fin → Shared → Prop} {Out : List Value → Prop} (ho : s.heap.get? a = some (seqObj "list" vs.toArray n)) (hz : vs.length ≤ 1000000)
    (h1 : vs.length < 2 → Out vs) (hlen : ∀ o, Out o → o.length = vs.length)
    (hrun : 2 ≤ vs.length → ∀ t : Shared, (∀ b o, b ≠ a → s.heap.get? b = some o → t.heap.get? b = some o) → wpAny (model prog w) A (keyKind' vs.toArray) (fun κ t' => t' = t ∧
      wpAny (model prog w) A ((sortRuns').run (SortSt.mk' κ (vs.toArray.zip vs.toArray) #[] 7 none)) (fun r t2 => t2 = t ∧ failedOf r.2 = none ∧ Out ((arrOf r.2).map (·.2)).toList) (fun _ _ => False) t) (fun _ _ => False) t)
    (q : ∀ out : Array Value, Out out.toList → P (.done (.ret .none)) { s with heap := sortedHeap s.heap a vs out }) : wpAny (model prog w) A (Builtin.«list.sort» ⟨[.ref a], []⟩) P E s := by
  have sl : (1000000 : Nat) < sizeLine := by decide
  have hza : vs.toArray.size ≤ sizeLine := by rw [List.size_toArray]; omega
  have lta : a < s.heap.objs.size := Heap.lt_size ho
  rw [list_sort_plain]
  refine wpAny_bind (listItems_at ho rfl ?_)
  refine wpAny_bind (listUpdate_at ho rfl ?_ hza (Nat.zero_le _))
  obtain ⟨e1, ho1⟩ : ∃ e1, (s.heap.update a (Obj.mapSeq fun _ => (#[] : Array Value))).get? a = some (seqObj "list" #[] e1) := ⟨_, get?_update_seq ho fun _ => #[]⟩
  refine wpAny_bind (seqEpoch_at ho1 rfl ?_)
  refine wpAny_bind (wpAny_newTuple ?_ (by show vs.length ≤ sizeLine; omega))
  refine wpAny_bind (wpAny_newList ?_ (Nat.zero_le _))
  refine wpAny_holding ?_
  show wpAny (model prog w) A _ P E { s with heap := ((s.heap.update a (Obj.mapSeq fun _ => (#[] : Array Value))).push (seqObj "tuple" vs.toArray 0)).push (seqObj "list" #[] 0) }
  have ho6 : (((s.heap.update a (Obj.mapSeq fun _ => (#[] : Array Value))).push (seqObj "tuple" vs.toArray 0)).push (seqObj "list" #[] 0)).get? a = some (seqObj "list" #[] e1) := Heap.get?_push_of_some _ (Heap.get?_push_of_some _ ho1)
  have kp : ∀ b o, b ≠ a → s.heap.get? b = some o → (((s.heap.update a (Obj.mapSeq fun _ => (#[] : Array Value))).push (seqObj "tuple" vs.toArray 0)).push (seqObj "list" #[] 0)).get? b = some o := fun b o hb e =>
    Heap.get?_push_of_some _ (Heap.get?_push_of_some _ ((Heap.SameBut.update s.heap a (Obj.mapSeq fun _ => (#[] : Array Value))).extBut b o hb e))
  dsimp only
  by_cases h2 : vs.toArray.size < 2
  · rw [if_pos h2, if_pos h2]
    refine wpAny_bind (wpAny_pure ?_)
    rw [StateT.run_pure]
    refine wpAny_bind (wpAny_pure ?_)
    dsimp only
    have eo : Array.map (·.2) (vs.toArray.zip vs.toArray) = vs.toArray := by
      apply Array.toList_inj.mp
      simp [List.map_snd_zip]
    have h2' : vs.length < 2 := by rw [List.size_toArray] at h2; exact h2
    refine wpAny_bind (seqEpoch_at ho6 rfl ?_)
    refine wpAny_bind (listUpdate_at ho6 rfl ?_ (Nat.zero_le _) (by show (Array.map (·.2) (vs.toArray.zip vs.toArray)).size ≤ sizeLine + 1; rw [eo]; omega))
    simp only [bne_self_eq_false, Bool.false_eq_true, if_false]
    refine wpAny_pure ?_
    show P _ { s with heap := sortedHeap s.heap a vs (Array.map (·.2) (vs.toArray.zip vs.toArray)) }
    exact q _ (by rw [eo]; exact h1 h2')
  · rw [if_neg h2, if_neg h2]
    have h2' : 2 ≤ vs.length := by rw [List.size_toArray] at h2; omega
    refine wpAny_bind (wpAny_mono (hrun h2' { s with heap := ((s.heap.update a (Obj.mapSeq fun _ => (#[] : Array Value))).push (seqObj "tuple" vs.toArray 0)).push (seqObj "list" #[] 0) } kp) (fun κ t' hk => ?_) fun _ _ z => z.elim)
    obtain ⟨rfl, hk⟩ := hk
    refine wpAny_bind (wpAny_mono hk (fun r t2 hr => ?_) fun _ _ z => z.elim)
    obtain ⟨⟨⟩, st⟩ := r
    obtain ⟨rfl, hf, hout⟩ := hr
    dsimp only
    have ol : ((arrOf st).map (·.2)).size = vs.length := by
      have := hlen _ hout
      rw [Array.length_toList] at this
      exact this
    refine wpAny_bind (seqEpoch_at ho6 rfl ?_)
    refine wpAny_bind (listUpdate_at ho6 rfl ?_ (Nat.zero_le _) (by show ((arrOf st).map (·.2)).size ≤ sizeLine + 1; rw [ol]; omega))
    have hf : failedOf st = none := hf
    rw [hf]
    simp only [bne_self_eq_false, Bool.false_eq_true, if_false]
    exact wpAny_pure (q _ hout)
end
def IsPr (h : Heap) (v : Value) (q : Int × Int) : Prop := ∃ a o t u n, v = .ref a ∧ h.get? a = some o ∧ o.cls = .type "tuple" ∧ o.data = .seq #[.int q.1 t, .int q.2 u] n
section
variable {prog : Program} {w : World} {A : Around} {E : Value → Shared → Prop} {s : Shared}
theorem pr_tups : ∀ {vs : List Value} {ps : List (Int × Int)}, Paired (IsPr s.heap) vs ps → ∃ fs, PySem.W.KatTups s.heap vs fs ∧ fs.length = vs.length ∧ ∀ v ∈ fs, ∃ i t, v = Value.int i t
  | _, _, .nil => ⟨[], PySem.W.KatTups.nil, rfl, fun v hv => by cases hv⟩
  | _, _, .cons h r => by
    obtain ⟨fs, k, l, z⟩ := pr_tups r
    obtain ⟨a, o, t, u, n, rfl, h1, h2, h3⟩ := h
    refine ⟨_, PySem.W.KatTups.cons h1 h2 h3 rfl k, by simp [l], fun v hv => ?_⟩
    rcases List.mem_cons.mp hv with rfl | hv
    · exact ⟨_, _, rfl⟩
    · exact z v hv
def Reord (vs o : List Value) : Prop := ∃ p : List Nat, p.Perm (List.range vs.length) ∧ o = p.map fun i => vs.getD i Value.none
theorem Reord.refl (vs : List Value) : Reord vs vs := ⟨List.range vs.length, .refl _, by
  apply List.ext_getElem
  · simp
  · intro i h1 h2
    simp [h1]⟩
theorem perm_map_back {α β : Type} {f : α → β} : ∀ {o v : List β}, o.Perm v → ∀ l : List α, v = l.map f → ∃ l' : List α, l'.Perm l ∧ o = l'.map f := by
  intro o v h
  induction h with
  | nil =>
    intro l e
    exact ⟨l, .refl _, e⟩
  | cons x _ ih =>
    intro l e
    cases l with
    | nil => cases e
    | cons y r =>
      rw [List.map_cons] at e
      obtain ⟨e1, e2⟩ := List.cons.inj e
      obtain ⟨l', p, q⟩ := ih r e2
      exact ⟨y :: l', .cons y p, by rw [List.map_cons, ← e1, ← q]⟩
  | swap x y t =>
    intro l e
    match l, e with
    | [], e => cases e
    | [_], e => cases (List.cons.inj e).2
    | a :: b :: r, e =>
      rw [List.map_cons, List.map_cons] at e
      obtain ⟨e1, e2⟩ := List.cons.inj e
      obtain ⟨e3, e4⟩ := List.cons.inj e2
      exact ⟨b :: a :: r, .swap a b r, by rw [List.map_cons, List.map_cons, ← e1, ← e3, ← e4]⟩
  | trans _ _ ih1 ih2 =>
    intro l e
    obtain ⟨l1, p1, e1⟩ := ih2 l e
    obtain ⟨l2, p2, e2⟩ := ih1 l1 e1
    exact ⟨l2, p2.trans p1, e2⟩
theorem Reord.of_perm {vs o : List Value} (h : o.Perm vs) : Reord vs o := by
  obtain ⟨_, _, e⟩ := Reord.refl vs
  obtain ⟨p, hp, eo⟩ := perm_map_back (f := fun i => vs.getD i Value.none) h (List.range vs.length) (by
    apply List.ext_getElem
    · simp
    · intro i h1 h2
      simp [h1])
  exact ⟨p, hp, eo⟩
end
theorem ObjOk.there {P : Program} {w : World} {H : Hp} {h : Heap} {a : Addr} {o : HO} (x : ObjOk P w H h a o) : ∃ ob, h.get? a = some ob := by
  cases o with
  | lst xs => obtain ⟨_, _, _, _, e⟩ := x; exact ⟨_, e⟩
  | tup xs => obtain ⟨_, _, _, ob, e, _⟩ := x; exact ⟨_, e⟩
  | dK kvs => obtain ⟨_, _, _, _, ob, _, _, e, _⟩ := x; exact ⟨_, e⟩
  | dT kvs => obtain ⟨_, _, _, _, ob, _, _, e, _⟩ := x; exact ⟨_, e⟩
  | set S n => obtain ⟨ob, _, _, _, e, _⟩ := x; exact ⟨_, e⟩
  | ins C dx fs => obtain ⟨_, _, _, e, _⟩ := x; exact ⟨_, e⟩
  | own y => exact x
  | xd fs => obtain ⟨_, ⟨_, _, _, e, _⟩, _⟩ := x; exact ⟨_, e⟩
  | rng lo hi => obtain ⟨_, _, _, e⟩ := x; exact ⟨_, e⟩
  | frz ob u => exact ⟨_, x.1⟩
  | tbl ps => exact ⟨_, x⟩
  | met f y => exact ⟨_, x⟩
  | ext φ => exact x.2.1
theorem Paired.of_get {α β : Type} {F : α → β → Prop} : ∀ {l : List α} {r : List β}, l.length = r.length → (∀ (j : Nat) (x : α) (y : β), l[j]? = some x → r[j]? = some y → F x y) → Paired F l r
  | [], [], _, _ => .nil
  | x :: l, y :: r, h, f => .cons (f 0 x y rfl rfl) (Paired.of_get (by simpa using h) fun j a b e1 e2 => f (j + 1) a b (by simpa using e1) (by simpa using e2))
  | [], _ :: _, h, _ => by cases h
  | _ :: _, [], h, _ => by cases h
theorem Paired.of_map {α β γ : Type} {F : α → β → Prop} {f : γ → α} {g : γ → β} : ∀ {l : List γ}, (∀ c ∈ l, F (f c) (g c)) → Paired F (l.map f) (l.map g)
  | [], _ => .nil
  | c :: r, h => .cons (h c List.mem_cons_self) (Paired.of_map fun d hd => h d (List.mem_cons_of_mem _ hd))
def prKey (q : Int × Int) : List Key := [Sum.inl q.1, Sum.inl q.2]
section
variable {X : Cx}
theorem Inv.newFp {pins : List (Addr × Obj)} {σ : St} {H : Hp} {s : Shared} (I : Inv X pins σ H s) {D : Addr} (hD : ∀ b o, s.heap.get? b = some o → b < D) : FpOk X pins H D := by
  obtain ⟨m, ⟨oL, _, _, eL, _⟩, _⟩ := id I.loc
  have hL := hD _ _ eL
  refine ⟨?_, Nat.ne_of_gt hL, fun z => ?_, .inr (Nat.le_of_lt (Nat.lt_of_le_of_lt I.ok.above hL)), fun x c e z => ?_, fun p hp z => ?_⟩
  · cases e : H D with
    | none => rfl
    | some u =>
      obtain ⟨ob, eo⟩ := (I.hok D u e).there
      exact absurd (hD _ _ eo) (Nat.lt_irrefl _)
  · obtain ⟨_, o, ho, _⟩ := I.ok.funs.mem z
    obtain ⟨o', ho'⟩ := I.base.there D o ho fun q => I.ok.exfs D q z
    exact absurd (hD _ _ ho') (Nat.lt_irrefl _)
  · obtain ⟨v, o, ho, _⟩ := I.cell x c e
    exact absurd (hD _ _ ho) (by rw [z]; exact Nat.lt_irrefl _)
  · exact absurd (hD _ _ (I.pin p hp).1) (by rw [z]; exact Nat.lt_irrefl _)
end
end L2

namespace L2
open PySem PySem.Calls PySem.Spec PyProof.Rows
section
variable {X : Cx}
theorem call_rng1 : CallR X (.type "range") (fun xs H Q => ∃ j : Int, xs = [.int j] ∧ ∀ p, H p = none → Q (.ref p) (upd H p (.rng 0 j))) := by
  intro pins s σ H xs us Q I r h
  obtain ⟨j, rfl, q⟩ := h
  obtain ⟨u, rfl, ru⟩ := vals1 r
  obtain ⟨t, rfl⟩ := ru
  refine call_range_1 ?_
  exact ⟨.ref s.heap.objs.size, _, I.laid (o := .rng 0 j) (fun b o e => Heap.get?_push_of_some _ e) (Nat.le_refl _) ⟨_, _, _, Heap.get?_push_size _ rfl⟩, rfl, q _ (I.hok.fresh (Nat.le_refl _))⟩
theorem call_list_rng (hc : X.calm = true) : CallR X (.type "list") (fun xs H Q => ∃ (p : Addr) (j : Int), xs = [.ref p] ∧ H p = some (.rng 0 j) ∧ 0 ≤ j ∧ j ≤ 1000 ∧ ∀ l, H l = none → Q (.ref l) (upd H l (.lst (((List.range j.toNat).map fun (k : Nat) => (k : Int)).map V.int)))) := by
  intro pins s σ H xs us Q I r h
  obtain ⟨p, j, rfl, hp, h0, h1, q⟩ := h
  obtain ⟨u, rfl, ru⟩ := vals1 r
  cases ru
  obtain ⟨t, u, v, e⟩ := (show ObjOk X.prog X.w H s.heap p (.rng 0 j) from I.hok p _ hp)
  have hn : Builtin.Range.rangeSize 0 j 1 = ((j.toNat : Nat) : Int) := by rw [rangeSize_one]; split <;> omega
  refine call_list_range (n := j.toNat) (I.ok.hd hc) e (small_one (by decide) (by decide) (by omega) (by omega)) hn (by omega) fun h' tk acc c kp hS hacc => ?_
  have hv : Vals (((List.range j.toNat).map fun (k : Nat) => (k : Int)).map V.int) acc.toList := by
    refine Paired.of_get (by simp [hacc.1]) fun i x y hx hy => ?_
    have hi : i < j.toNat := by
      have := (List.getElem?_eq_some_iff.mp hx).1
      simpa using this
    obtain ⟨t', ht⟩ := hacc.2 i y (by simpa using hy)
    have e1 : x = V.int (i : Int) := by simpa [hi] using hx.symm
    rw [e1]
    exact ⟨t', by rw [ht]; congr 1; omega⟩
  refine ⟨.ref s.heap.objs.size, _, I.laid (t' := tk) kp (Nat.le_refl _) (show ObjOk X.prog X.w _ h' _ (.lst _) from ⟨?_, acc.toList, c, hv, by simpa using hS⟩), rfl, q _ (I.hok.fresh (Nat.le_refl _))⟩
  rw [List.length_map, List.length_map, List.length_range]
  exact Nat.le_of_lt (small1000 (n := j.toNat) (by omega))
end
end L2

namespace L2
open PySem PySem.Spec PyProof.Rows PySem.AutoSeq1
theorem enum_new_tup (l : Addr) (xs : Array Value) :
    Meets (Builtin.«enumerate.__new__» ⟨[.type "enumerate", .ref l], []⟩) (fun _ R s => s.heap.IsTuple l xs ∧
      R (.ok (.ret (.ref (zpa s.heap l).objs.size))) { s with heap := (zpa s.heap l).push { cls := .type "enumerate", data := .fields #[.none, .bool false, .ref s.heap.objs.size, rawInt 0, .none, .none] } }) :=
  .of_wp fun prog w A R s h => by
    obtain ⟨hp, g, d, tk, os⟩ := s; obtain ⟨t1, h⟩ := h
    have f0 := sub_enumerate
    have T1 : Heap.IsTuple (Shared.heap ⟨hp, g, d, tk, os⟩) l xs := t1
    obtain ⟨ob, hl, hcl, nn, hdl⟩ := id t1
    wp_walk using wpAny_loadPart' hl
    refine wpAny_stack_any fun st => wpAny_pure ?_
    split
    · rename_i c _ _ _ _ _
      cases (c == Value.type "enumerate")
      · wp_walk using wpAny_loadPart' hl, wpAny_pyIter_tuple T1
        exact ⟨_, rfl, h⟩
      · wp_walk using wpAny_loadPart' hl, wpAny_pyIter_tuple T1
        exact ⟨_, rfl, h⟩
    · wp_walk using wpAny_loadPart' hl, wpAny_pyIter_tuple T1
      exact ⟨_, rfl, h⟩
theorem call_enum_tup {prog : Program} {w : World} {A : Around} {E : Value → Shared → Prop} {s : Shared} {l : Addr} {xs : Array Value} {Q : Value → Shared → Prop} (h1 : s.heap.IsTuple l xs)
    (q : ∀ h', IsEnum h' (s.heap.objs.size + 1) s.heap.objs.size 0 .none → h'.IsTupleIter s.heap.objs.size l 0 → (∀ c o, s.heap.get? c = some o → h'.get? c = some o) → Q (.ref (s.heap.objs.size + 1)) { s with heap := h' }) :
    wpAny (model prog w) A (call (.type "enumerate") [.ref l]) Q E s := by
  refine callType_new F.called_enumerate (by decide) (F.typeCall_enumerate_1 _) (F.newCall_enumerate_1 _) (fun obj => F.args_object_init_2 obj _) F.entry_enumerate_new (enum_new_tup l xs) ⟨h1, ?_⟩
  have hz : (zpa s.heap l).objs.size = s.heap.objs.size + 1 := Heap.size_push ..
  show _ ∧ _
  rw [hz]
  have he : IsEnum ((zpa s.heap l).push { cls := .type "enumerate", data := .fields #[.none, .bool false, .ref s.heap.objs.size, rawInt 0, .none, .none] }) (s.heap.objs.size + 1) s.heap.objs.size 0 .none := by
    have := Heap.get?_push_size (zpa s.heap l) (o := { cls := .type "enumerate", data := .fields #[.none, .bool false, .ref s.heap.objs.size, rawInt 0, .none, .none] }) rfl
    rw [hz] at this
    exact this
  exact ⟨⟨_, he, rfl⟩, q _ he ⟨_, Heap.get?_push_of_some _ (Heap.get?_push_size _ rfl), rfl, rfl⟩ fun b o x => Heap.get?_push_of_some _ (Heap.get?_push_of_some _ x)⟩
section
variable {X : Cx} {es : List Expr} {kt : Nat} {tp : Pos}
theorem boot_enum : bootBuiltins "enumerate" = some (.type "enumerate") := by decide +kernel
end
section
variable {K : PySem.W.Frag} {g : TG} {tc : TT} {te : TE} {σ : St} {H : Hp} {R : List V → Hp → Prop}
end
end L2

namespace L2
open PySem PySem.Calls PySem.Spec PyProof.Rows
def eqVs : List V → List V → Bool
  | [], [] => true
  | x :: xs, y :: ys => eqV x y && eqVs xs ys
  | _, _ => false
theorem eqVs_int : ∀ (a b : List Int), eqVs (a.map V.int) (b.map V.int) = decide (a = b)
  | [], [] => by simp [eqVs]
  | [], _ :: _ => by simp [eqVs]
  | _ :: _, [] => by simp [eqVs]
  | x :: r, y :: q => by
    show (eqV (.int x) (.int y) && eqVs (r.map V.int) (q.map V.int)) = _
    rw [eqVs_int r q, Bool.eq_iff_iff]
    simp [eqV]
theorem eqVs_len : ∀ {a b : List V}, eqVs a b = true → a.length = b.length
  | [], [], _ => rfl
  | [], _ :: _, h => by cases h
  | _ :: _, [], h => by cases h
  | x :: r, y :: q, h => by
    have h : (eqV x y && eqVs r q) = true := h
    rw [Bool.and_eq_true] at h
    simp [eqVs_len h.2]
def eqN (a b : List V) (j : Nat) : Bool := match a[j]?, b[j]? with
  | some x, some y => eqV x y
  | _, _ => false
theorem eqVs_all : ∀ {a b : List V}, a.length = b.length → (List.range a.length).all (eqN a b) = eqVs a b
  | [], [], _ => rfl
  | [], _ :: _, h => by cases h
  | _ :: _, [], h => by cases h
  | x :: r, y :: q, h => by
    have ih := eqVs_all (a := r) (b := q) (by simpa using h)
    rw [List.length_cons, List.range_succ_eq_map, List.all_cons, List.all_map]
    show (eqV x y && (List.range r.length).all (fun j => eqN (x :: r) (y :: q) (j + 1))) = (eqV x y && eqVs r q)
    rw [← ih]
    congr 1
section
variable {X : Cx}
theorem eqN_at {A : Around} {s : Shared} {xs ys : List V} {us vs : List Value} (r1 : Vals xs us) (r2 : Vals ys vs) (f1 : xs.all flatV = true) (f2 : ys.all flatV = true) (j : Nat) (h1 : j < us.toArray.size) (h2 : j < vs.toArray.size) :
    SeqAt.EqAt A s us.toArray[j] vs.toArray[j] (eqN xs ys j) := by
  have h1' : j < us.length := by simpa using h1
  have h2' : j < vs.length := by simpa using h2
  have k1 : j < xs.length := by rw [r1.length]; exact h1'
  have k2 : j < ys.length := by rw [r2.length]; exact h2'
  obtain ⟨u, e1, q1⟩ := r1.get (i := j) (x := xs[j]) (by simp [k1])
  obtain ⟨v, e2, q2⟩ := r2.get (i := j) (x := ys[j]) (by simp [k2])
  have e1 : us[j] = u := by simpa [h1'] using e1
  have e2 : vs[j] = v := by simpa [h2'] using e2
  have en : eqN xs ys j = eqV xs[j] ys[j] := by
    unfold eqN
    rw [List.getElem?_eq_getElem k1, List.getElem?_eq_getElem k2]
  rw [en, List.getElem_toArray, List.getElem_toArray, e1, e2]
  exact eqAt_V q1 q2 (List.all_eq_true.mp f1 _ (List.getElem_mem k1)) (List.all_eq_true.mp f2 _ (List.getElem_mem k2))
def rEqL (K : PySem.W.Frag) (neg : Bool) : R2 := fun x y H Q => ∃ a b xs ys, x = .ref a ∧ y = .ref b ∧ SqL K H a xs ∧ SqL K H b ys ∧ xs.all flatV = true ∧ ys.all flatV = true ∧ Q (.bl (if neg then !eqVs xs ys else eqVs xs ys)) H
theorem op_neL (hu : X.A.units < cLine) : OpR X (compareOp .NotEq) (rEqL X.K true) := by
  intro pins s σ H x y v u Q I rx ry h
  obtain ⟨a, b, xs, ys, rfl, rfl, ha, hb, f1, f2, q⟩ := h
  cases rx
  cases ry
  obtain ⟨its, r1, p1, _⟩ := I.list ha
  obtain ⟨its2, r2, p2, _⟩ := I.list hb
  by_cases hl : xs.length = ys.length
  · refine SeqAt.RcNeAt.lists (e := eqN xs ys) p1.isList p2.isList (by rw [List.size_toArray, List.size_toArray, ← r1.length, ← r2.length]; exact hl) hu (fun j h1 h2 => eqN_at r1 r2 f1 f2 j h1 h2) _ _ _ _ ⟨.bl _, H, I, rfl, ?_⟩
    rw [List.size_toArray, ← r1.length, eqVs_all hl]
    exact q
  · have e2 : eqVs xs ys = false := by
      rw [← Bool.not_eq_true]
      exact fun z => hl (eqVs_len z)
    rw [e2] at q
    exact SeqAt.RcNeAt.lists_lengths p1.isList p2.isList (by rw [List.size_toArray, List.size_toArray, ← r1.length, ← r2.length]; simpa using hl) hu _ _ _ _ ⟨.bl true, H, I, rfl, q⟩
theorem call_list_prs (hc : X.calm = true) : CallR X (.type "list") (fun xs H Q => ∃ (d : Addr) (kvs : List (List Key × V)) (prs : List (Int × Int)), xs = [.ref d] ∧ H d = some (.dT kvs) ∧ kvs.map (·.1) = prs.map prKey ∧ kvs.length ≤ 1000 ∧
    ∀ (D : Addr) (ws : List V) (H' : Hp), Same H H' → H' D = some (.lst ws) → Ars H' ws prs → Q (.ref D) H') := by
  intro pins s σ H xs us Q I r h
  obtain ⟨d, kvs, prs, rfl, hd, hk, hl, q⟩ := h
  obtain ⟨u, rfl, ru⟩ := vals1 r
  cases ru
  obtain ⟨z, hsys, xs', rel, o, es, ep, e1, e2, e3, e4, nd⟩ := (show ObjOk X.prog X.w H s.heap d (.dT kvs) from I.hok d _ hd)
  have l1 : kvs.length = xs'.length := Paired.length rel
  have l2 : es.size = kvs.length := by
    have := congrArg List.length e4
    rw [Array.length_toList, List.length_map] at this
    omega
  have l3 : prs.length = kvs.length := by
    have := congrArg List.length hk
    rw [List.length_map, List.length_map] at this
    exact this.symm
  have key : ∀ (j : Nat) (v : Value), (∃ e, es[j]? = some e ∧ v = e.key) → ∃ a q, v = .ref a ∧ prs[j]? = some q ∧ H a = some (.tup [.int q.1, .int q.2]) := by
    rintro j v ⟨e, he, rfl⟩
    have he' : es.toList[j]? = some e := by simpa using he
    rw [e4, List.getElem?_map] at he'
    obtain ⟨x, hx, rfl⟩ := Option.map_eq_some_iff.mp he'
    have hj : j < kvs.length := by
      have := (List.getElem?_eq_some_iff.mp hx).1
      omega
    obtain ⟨y, hy, hy1, hy2, _⟩ := Paired.get' (i := j) (x := kvs[j]) rel (by simp [hj])
    rw [hx] at hy
    cases hy
    have hq : prs[j]? = some prs[j] := by simp [l3, hj]
    have ek : (kvs.map (·.1))[j]? = (prs.map prKey)[j]? := by rw [hk]
    rw [List.getElem?_map, List.getElem?_map, hq] at ek
    have ek : kvs[j].1 = prKey prs[j] := by simpa [hj] using ek
    refine ⟨x.2.1, prs[j], rfl, hq, ?_⟩
    rw [hy2, ek]
    rfl
  refine PySem.W.kdl_call (raw_src hsys es ep) (I.ok.hd hc) ⟨o, e1, e2, e3⟩ (by have := small1000 (n := es.size) (by omega); omega) fun h' tk acc c kp hD hacc => ?_
  have I1 : Inv X pins σ H { s with heap := h', toks := tk } := I.kept kp
  have fp : FpOk X pins H s.heap.objs.size := I.newFp fun b o e => Heap.lt_size e
  have la : acc.toList.length = es.size := by rw [Array.length_toList]; exact hacc.1
  have pa : ∀ (j : Nat) (v : Value), acc.toList[j]? = some v → ∃ e, es[j]? = some e ∧ v = e.key := fun j v e => hacc.2 j v (by rw [← Array.getElem?_toList]; exact e)
  have addr : ∀ i, ∃ a : Addr, i < es.size → acc.toList.getD i Value.none = .ref a ∧ H a = some (.tup [.int (prs.getD i (0, 0)).1, .int (prs.getD i (0, 0)).2]) := fun i => by
    by_cases hi : i < es.size
    · have hi' : i < acc.toList.length := by omega
      obtain ⟨a, q', ea, hq, ha⟩ := key i acc.toList[i] (pa i _ (by rw [List.getElem?_eq_getElem hi']))
      refine ⟨a, fun _ => ⟨?_, ?_⟩⟩
      · rw [← ea, List.getD_eq_getElem?_getD, List.getElem?_eq_getElem hi']
        rfl
      · have e : prs.getD i (0, 0) = q' := by
          rw [List.getD_eq_getElem?_getD, hq]
          rfl
        rw [e]
        exact ha
    · exact ⟨0, fun z => absurd z hi⟩
  obtain ⟨f, hf⟩ := Classical.axiomOfChoice addr
  have vals : Vals ((List.range es.size).map fun i => V.ref (f i)) acc.toList := by
    refine Paired.of_get (by simp [la]) fun j x y hx hy => ?_
    have hj : j < es.size := by
      have := (List.getElem?_eq_some_iff.mp hx).1
      simpa using this
    have ex : x = V.ref (f j) := by simpa [hj] using hx.symm
    have ey : y = Value.ref (f j) := by
      have := (hf j hj).1
      rw [List.getD_eq_getElem?_getD, hy] at this
      exact this
    rw [ex, ey]
    rfl
  have new : ObjOk X.prog X.w (upd H s.heap.objs.size (.lst ((List.range es.size).map fun i => V.ref (f i)))) h' s.heap.objs.size (.lst ((List.range es.size).map fun i => V.ref (f i))) := by
    refine ⟨?_, acc.toList, c, vals, by simpa using hD⟩
    rw [List.length_map, List.length_range]
    exact Nat.le_of_lt (small1000 (by omega))
  refine ⟨.ref s.heap.objs.size, _, I1.adopt fp new, rfl, q _ _ _ (Same.upd fp.1) upd_same (Paired.of_get (by simp; omega) fun j x y hx hy => ?_)⟩
  have hj : j < es.size := by
    have := (List.getElem?_eq_some_iff.mp hx).1
    simpa using this
  have ex : x = V.ref (f j) := by simpa [hj] using hx.symm
  have ha := (hf j hj).2
  rw [List.getD_eq_getElem?_getD, hy] at ha
  exact ⟨f j, ex, by rw [upd_ne (ne_of_none ha fp.1)]; exact ha⟩
end
end L2

namespace L2
open PySem PySem.Calls PySem.Spec PyProof.Rows
theorem noFill_tuple_mul : fillsNumberSlot (.type "tuple") "mul" = pure false :=
  PySem.fillsNumberSlot_seq (id := "tuple.__mul__") (r := some (.builtin "tuple.__rmul__")) PySem.F.slot_tuple_mul.lookup (by decide +kernel) PySem.F.slot_tuple_rmul.lookup (by decide +kernel)
theorem repeat_tuple : seqRepeat? (.type "tuple") = pure (some (.builtin "tuple.__mul__")) := by
  unfold seqRepeat?
  rw [PySem.seqSlot_of (T := "tuple") (name := "__mul__") (id := "tuple.__mul__") PySem.F.slot_tuple_mul.lookup (by decide +kernel), PySem.seqSlot_of (T := "tuple") (name := "__rmul__") (id := "tuple.__rmul__") PySem.F.slot_tuple_rmul.lookup (by decide +kernel)]
  rfl
theorem int_rmul_tuple (a : Int) (t : Tok) (l : Addr) (items : Array Value) (n : Nat) (dd : Option Addr) (sl : Array (Option Value)) :
    Meets (Builtin.«int.__rmul__» ⟨[.int a t, .ref l], []⟩) (fun _ R s => s.heap.get? l = some { cls := .type "tuple", dict := dd, data := .seq items n, slots := sl } ∧ R (.ok (.ret Value.notImplemented)) s) :=
  .of_wp fun prog w A R s h => by obtain ⟨hp, g, d, tk, os⟩ := s; obtain ⟨hl, h⟩ := h; wp_walk; exact ⟨_, rfl, h⟩
theorem tuple_mulW0 (l : Addr) (items : Array Value) (n : Nat) (dd : Option Addr) (sl : Array (Option Value)) (x : Int) (u : Tok) (h1 : ¬ (x < -(2 ^ 63) || x ≥ 2 ^ 63) = true) (hc : (items.isEmpty || x == 1) = true) :
    Meets (Builtin.«tuple.__mul__» ⟨[.ref l, .int x u], []⟩) (fun _ R s => s.heap.get? l = some { cls := .type "tuple", dict := dd, data := .seq items n, slots := sl } ∧ R (.ok (.ret (Value.ref l))) s) :=
  .of_wp fun prog w A R s h => by obtain ⟨hp, g, d, tk, os⟩ := s; obtain ⟨hl, h⟩ := h; have f1 := AutoSeq1.idx_int; have f2 := AutoSeq1.sub_tuple_tuple; wp_walk using wpAny_loadPart' hl; refine wpAny_ite_false (decide_eq_false h1) ?_; wp_walk using wpAny_loadPart' hl; exact ⟨_, rfl, h⟩
theorem tuple_mulW1 (l : Addr) (items : Array Value) (n : Nat) (dd : Option Addr) (sl : Array (Option Value)) (x : Int) (u : Tok) (h1 : ¬ (x < -(2 ^ 63) || x ≥ 2 ^ 63) = true) (hc : ¬ (items.isEmpty || x == 1) = true) (h2 : ¬ (x ≤ 0 || items.isEmpty) = true) (h3 : ¬ items.size * x > (2 ^ 63 - 1) / 8)
    (h4 : ¬ Builtin.Tuple.tupleTooMany (items.size * x) = true) (hs : ((List.replicate x.toNat items).foldl (· ++ ·) #[]).size ≤ sizeLine) :
    Meets (Builtin.«tuple.__mul__» ⟨[.ref l, .int x u], []⟩) (fun _ R s => s.heap.get? l = some { cls := .type "tuple", dict := dd, data := .seq items n, slots := sl } ∧ R (.ok (.ret (Value.ref s.heap.objs.size))) { s with heap := s.heap.push { cls := Value.type "tuple", data := Data.seq ((List.replicate x.toNat items).foldl (· ++ ·) #[]) }, toks := s.toks }) :=
  .of_wp fun prog w A R s h => by obtain ⟨hp, g, d, tk, os⟩ := s; obtain ⟨hl, h⟩ := h; have f1 := AutoSeq1.idx_int; have f2 := AutoSeq1.sub_tuple_tuple; wp_walk using wpAny_loadPart' hl; refine wpAny_ite_false (decide_eq_false h1) ?_; wp_walk using wpAny_loadPart' hl; refine wpAny_ite_false (decide_eq_false h3) ?_; wp_walk using wpAny_loadPart' hl; exact ⟨_, rfl, h⟩
theorem foldl_cat (xs : List Value) : ∀ (n : Nat) (acc : Array Value), ((List.replicate n xs.toArray).foldl (· ++ ·) acc).toList = acc.toList ++ (List.replicate n xs).flatten
  | 0, acc => by simp
  | n + 1, acc => by
    rw [List.replicate_succ, List.foldl_cons, foldl_cat xs n, List.replicate_succ, List.flatten_cons]
    simp
theorem rep_len {α : Type} (xs : List α) : ∀ n : Nat, (List.replicate n xs).flatten.length = n * xs.length
  | 0 => by simp
  | n + 1 => by
    rw [List.replicate_succ, List.flatten_cons, List.length_append, rep_len xs n, Nat.succ_mul]
    omega
section
variable {X : Cx}
def rMulT : R2 := fun x y H Q => ∃ a n xs, x = .ref a ∧ y = .int n ∧ H a = some (.tup xs) ∧ 1 ≤ n ∧ n ≤ 1000 ∧ xs.length ≤ 1000 ∧ ∀ p H', Same H H' → H' p = some (.tup (List.replicate n.toNat xs).flatten) → Q (.ref p) H'
theorem op_mulT : OpR X (binaryOp .Mult) rMulT := by
  intro pins s σ H x y v u Q I rx ry h
  obtain ⟨a, n, xs, rfl, rfl, ha, h1, h2, h3, q⟩ := h
  cases rx
  obtain ⟨tk, rfl⟩ := ry
  obtain ⟨its, r1, p1, _⟩ := I.tuple (SqT.of ha)
  have hlen := r1.length
  obtain ⟨⟨cls, dd, data, sl⟩, ho, hc, k, hd⟩ := id p1
  simp only at hc hd
  subst hc hd
  have g1 : ¬ (decide (n < -(2 ^ 63)) || decide (n ≥ 2 ^ 63)) = true := by
    intro z
    rw [Bool.or_eq_true, decide_eq_true_iff, decide_eq_true_iff] at z
    omega
  refine wpAny_binaryOp_repeat_ref (T := "tuple") (U := "int") (by decide) ⟨_, ho, rfl⟩ (fun s' => typeIs_int s' n tk) noFill_tuple_mul PySem.F.fills_int_mul PySem.F.slot_int_rmul repeat_tuple PySem.F.slot_int_index.lookup ?_
  refine call_meets PySem.F.slot_int_rmul (typeIs_int s n tk) PySem.F.entry_int_rmul (PySem.F.args_int_rmul_2 _ _) (int_rmul_tuple n tk a _ k dd sl) ⟨ho, rfl, ⟨_, ho, rfl⟩, ?_⟩
  by_cases hs : (its.toArray.isEmpty || n == 1) = true
  · refine call_meets PySem.F.slot_tuple_mul ⟨_, ho, rfl⟩ PySem.F.entry_tuple_mul (PySem.F.args_tuple_mul_2 _ _) (tuple_mulW0 a _ k dd sl n tk g1 hs) ⟨ho, .ref a, H, I, rfl, q a H (Same.refl H) ?_⟩
    have e : (List.replicate n.toNat xs).flatten = xs := by
      rw [Bool.or_eq_true] at hs
      rcases hs with z | z
      · have : its = [] := by simpa using z
        subst this
        have : xs = [] := List.length_eq_zero_iff.mp hlen
        subst this
        exact List.length_eq_zero_iff.mp (by rw [rep_len]; simp)
      · have : n = 1 := by simpa using z
        subst this
        simp
    rw [e]
    exact ha
  · have hs' : its ≠ [] ∧ n ≠ 1 := by
      constructor
      · intro z
        subst z
        simp at hs
      · intro z
        subst z
        simp at hs
    have hsz : ((List.replicate n.toNat its.toArray).foldl (· ++ ·) #[]).size = n.toNat * its.length := by
      rw [← Array.length_toList, foldl_cat, List.nil_append, rep_len]
    have hb : n.toNat * its.length ≤ 1000 * 1000 := Nat.mul_le_mul (by omega) (by omega)
    have hb2 : ((its.toArray.size : Int) * n) ≤ 1000000 := by
      have : (its.toArray.size : Int) * n = ((n.toNat * its.length : Nat) : Int) := by
        rw [List.size_toArray, Int.mul_comm, Int.natCast_mul]
        congr 1
        omega
      rw [this]
      generalize n.toNat * its.length = z at hb
      omega
    refine call_meets PySem.F.slot_tuple_mul ⟨_, ho, rfl⟩ PySem.F.entry_tuple_mul (PySem.F.args_tuple_mul_2 _ _) (tuple_mulW1 a _ k dd sl n tk g1 hs ?_ ?_ ?_ ?_) ⟨ho, ?_⟩
    · rw [Bool.or_eq_true]
      rintro (z | z)
      · have := of_decide_eq_true z
        omega
      · exact hs'.1 (by simpa using z)
    · omega
    · unfold Builtin.Tuple.tupleTooMany
      rw [decide_eq_true_iff]
      have : (1000000 : Int) ≤ (sizeLine : Int) := by decide
      omega
    · rw [hsz]
      exact Nat.le_trans hb (by decide)
    · have e : (List.replicate n.toNat its.toArray).foldl (· ++ ·) #[] = ((List.replicate n.toNat its).flatten).toArray := by
        rw [← Array.toArray_toList (xs := (List.replicate n.toNat its.toArray).foldl (· ++ ·) #[]), foldl_cat, List.nil_append]
      rw [e]
      refine ⟨.ref s.heap.objs.size, _, I.laid (t' := s.toks) (o := .tup (List.replicate n.toNat xs).flatten) (fun b ob q => Heap.get?_push_of_some _ q) (Nat.le_refl _) ?_, rfl, q _ _ (Same.upd (I.hok.fresh (Nat.le_refl _))) upd_same⟩
      refine ⟨?_, _, r1.rep n.toNat, TupD.new _ _⟩
      rw [rep_len, hlen]
      exact Nat.le_trans hb (by decide)
theorem fm_congr {α β : Type} {f g : α → Option β} : ∀ {l : List α}, (∀ a ∈ l, f a = g a) → l.filterMap f = l.filterMap g
  | [], _ => rfl
  | a :: r, h => by
    rw [List.filterMap_cons, List.filterMap_cons, h a (by simp), fm_congr (l := r) fun b hb => h b (by simp [hb])]
theorem pick_rev (xs : List Value) : (List.range xs.length).filterMap (fun (k : Nat) => xs[(((xs.length : Nat) : Int) - 1 + (k : Int) * (-1)).toNat]?) = xs.reverse := by
  have e : ∀ k ∈ List.range xs.length, xs[(((xs.length : Nat) : Int) - 1 + (k : Int) * (-1)).toNat]? = some (xs.reverse.getD k .none) := by
    intro k hk
    have hk := List.mem_range.mp hk
    have e1 : (((xs.length : Nat) : Int) - 1 + (k : Int) * (-1)).toNat = xs.length - 1 - k := by omega
    rw [e1, List.getD_eq_getElem?_getD, List.getElem?_reverse hk, List.getElem?_eq_getElem (by omega)]
    rfl
  rw [fm_congr e]
  have e2 : (List.range xs.length).filterMap (fun k => some (xs.reverse.getD k .none)) = (List.range xs.length).map fun k => xs.reverse.getD k .none := by
    rw [← List.filterMap_eq_map]
    rfl
  rw [e2]
  apply List.ext_getElem
  · simp
  · intro i h1 h2
    rw [List.getElem_map, List.getElem_range, List.getD_eq_getElem?_getD, List.getElem?_eq_getElem h2]
    rfl
theorem sliceApplied_rev {prog : Program} {w : World} {A : Around} {E : Value → Shared → Prop} {s : Shared} {sl : Addr} {t : Tok} {n : Nat} {Q : Int × Int × Nat → Shared → Prop} (hs : s.heap.IsSliceOf sl .none .none (.int (-1) t)) (h : Q ((n : Int) - 1, -1, n) s) :
    wpAny (model prog w) A (Builtin.Slice.sliceApplied (.ref sl) (pure (n : Int))) Q E s := by
  obtain ⟨os, hos, hcs, hds⟩ := id hs
  unfold Builtin.Slice.sliceApplied Builtin.Slice.sliceFields
  refine wpAny_bind (wpAny_bind (wpAny_field hos hds (x := .none) rfl (wpAny_bind (wpAny_field hos hds (x := .none) rfl (wpAny_bind (wpAny_field hos hds (x := .int (-1) t) rfl (wpAny_pure ?_)))))))
  refine wpAny_bind (HT.slicePart_ (.int (-1) t) ?_)
  show wpAny _ _ (if ((-1 : Int) == 0) = true then _ else _) _ _ s
  rw [if_neg (by decide)]
  refine wpAny_bind (slicePart_none (wpAny_bind (slicePart_none (wpAny_bind (wpAny_pure ?_)))))
  show wpAny _ _ (pure ((n : Int) - 1, (-1 : Int), Builtin.Slice.slicePlaces ((n : Int) - 1) (-1) (-1))) _ _ s
  have e : Builtin.Slice.slicePlaces ((n : Int) - 1) (-1) (-1) = n := by
    unfold Builtin.Slice.slicePlaces
    have h1 : ¬ ((-1 : Int) > 0) := by decide
    have h2 : - (-1 : Int) = 1 := by decide
    simp only [h1, if_false, h2, Int.ediv_one]
    split <;> omega
  rw [e]
  exact wpAny_pure h
theorem getItem_tuple_rev {prog : Program} {w : World} {A : Around} {E : Value → Shared → Prop} {s : Shared} {t sl : Addr} {items : Array Value} {tk : Tok} {Q : Value → Shared → Prop} (ht : IsTup s.heap t items) (hs : s.heap.IsSliceOf sl .none .none (.int (-1) tk))
    (h : Q (.ref s.heap.objs.size) { s with heap := s.heap.push { cls := .type "tuple", data := .seq items.toList.reverse.toArray } }) (hsz : items.size ≤ sizeLine) : wpAny (model prog w) A (getItem (.ref t) (.ref sl)) Q E s := by
  have hrev : sizeOk (.seq items.toList.reverse.toArray) := by
    show items.toList.reverse.toArray.size ≤ sizeLine
    rw [List.size_toArray, List.length_reverse, Array.length_toList]
    exact hsz
  obtain ⟨os, hos, hcs, hds⟩ := id hs
  have hTs : s.TypeIs (.ref sl) "slice" := ⟨os, hos, hcs⟩
  unfold getItem
  try with_reducible refine wpAny_holding ?_
  first | refine wpAny_bind (wpAny_pure ?_) | skip
  refine wpAny_bind (wpAny_sequenceKey ht.typeIs (by decide) ?_)
  refine wpAny_bind (wpAny_callSpecial?_slot (name := Str.ofString "__getitem__") ht.typeIs PyProof.Rows.slot_tuple_getitem
    (wpAny_call_entry PyProof.Rows.slot_tuple_getitem ht.typeIs entry_tuple_getitem ?_ (args_tuple_getitem _ _)))
  show wpAny (model prog w) _ (Builtin.Tuple.tupleItemsOf (.ref t) >>= _) _ _ s
  refine wpAny_bind (tupleItemsOf_ ht ?_)
  refine wpAny_bind (wpAny_typeOf hTs ?_)
  rw [if_pos (by decide)]
  refine wpAny_bind (sliceApplied_rev hs ?_)
  have hno : ¬ ((((items.size : Int) - 1) == 0 && (-1 : Int) == 1 && items.size == items.size) = true) := by
    intro q
    rw [Bool.and_eq_true, Bool.and_eq_true] at q
    exact absurd q.1.2 (by decide)
  show wpAny (model prog w) _ (if ((((items.size : Int) - 1) == 0 && (-1 : Int) == 1 && items.size == items.size) = true) then _ else _) _ _ s
  rw [if_neg hno]
  have pk : ((List.range items.size).filterMap fun (k : Nat) => items[((items.size : Int) - 1 + (k : Int) * (-1)).toNat]?) = items.toList.reverse := by
    have := pick_rev items.toList
    rw [Array.length_toList] at this
    rw [← this]
    refine fm_congr fun k _ => ?_
    rw [Array.getElem?_toList]
  rw [pk]
  first
    | exact wpAny_bind (m := Builtin.Tuple.tupleExact _) (wpAny_newObj_type (wpAny_pure ⟨_, rfl, wpAny_pure h⟩) hrev)
    | exact wpAny_bind (m := Builtin.Tuple.tupleExact _) (wpAny_newObj_type (wpAny_bind (wpAny_pure (wpAny_pure ⟨_, rfl, wpAny_pure h⟩))) hrev)
    | exact wpAny_bind (wpAny_bind (m := Builtin.Tuple.tupleExact _) (wpAny_newObj_type (wpAny_pure (wpAny_pure ⟨_, rfl, wpAny_pure h⟩)) hrev))
    | exact wpAny_bind (wpAny_bind (m := Builtin.Tuple.tupleExact _) (wpAny_newObj_type (wpAny_pure ⟨_, rfl, wpAny_pure h⟩) hrev))
theorem Vals.rev {xs : List V} {us : List Value} (r : Vals xs us) : Vals xs.reverse us.reverse := by
  induction r with
  | nil => exact .nil
  | cons a _ ih =>
    rw [List.reverse_cons, List.reverse_cons]
    exact Paired.snoc ih a
def tRev (te : TE) : TE := fun σ H Q => te σ H fun x H1 => ∃ a xs, x = .ref a ∧ H1 a = some (.tup xs) ∧ ∀ p H', Same H1 H' → H' p = some (.tup xs.reverse) → Q (.ref p) H'
theorem pe_rev {e : Expr} {te : TE} {j : Nat} {p2 p3 p4 pos : Pos} (he : PE X e te) : PE X (.Subscript e (.Slice none none (some (.UnaryOp .USub (.Constant (.int 1) j p3) p4)) p2) pos) (tRev te) := by
  intro pins s σ H Q I h
  refine Subscript_ (thn (he pins s σ H _ I h) fun v s1 ⟨x, H1, I1, r1, q1⟩ => ?_)
  obtain ⟨a, xs, rfl, ha, q⟩ := q1
  cases r1
  refine wpAny_Slice ?_
  rw [evalPart_none]
  refine wpAny_pure ?_
  refine wpAny_pure ?_
  rw [evalPart_some]
  refine thn (pe_un (X := X) (pos := p4) un_neg (pe_int (i := 1) (j := j) (pos := p3)) pins s1 σ H1 (fun y H' => y = .int (-1) ∧ H' = H1) I1 ⟨1, rfl, rfl, rfl⟩) fun vu s3 ⟨y, H3, I3, ry, ey, eh⟩ => ?_
  subst ey eh
  obtain ⟨tk, rfl⟩ := ry
  have I4 : Inv X pins σ H3 { s3 with heap := s3.heap.push { cls := .type "slice", data := .fields #[.none, .none, .int (-1) tk] } } := I3.kept (t' := s3.toks) fun b ob q => Heap.get?_push_of_some _ q
  obtain ⟨its, r, ht, hz⟩ := I4.tuple (SqT.of ha)
  refine tail_any (ops := [.ref a, .ref s3.heap.objs.size]) ht.typeIs PyProof.Rows.slot_tuple_getitem.lookup ?_ (by with_unfolding_all rfl)
  have hlen : its.toArray.size = xs.length := by rw [List.size_toArray]; exact r.length.symm
  refine getItem_tuple_rev ht (Heap.IsSliceOf.new ..) ?_ (by rw [hlen]; exact hz)
  refine ⟨.ref _, _, I4.laid (t' := s3.toks) (o := .tup xs.reverse) (fun b ob q => Heap.get?_push_of_some _ q) (Nat.le_refl _) ?_, rfl, q _ _ (Same.upd (I4.hok.fresh (Nat.le_refl _))) upd_same⟩
  exact ⟨by rw [List.length_reverse]; exact hz, _, r.rev, TupD.new _ _⟩
end
end L2

namespace L2
open PySem PySem.Calls PySem.Spec PyProof.Rows
section
variable {prog : Program} {w : World} {A : Around} {E : Value → Shared → Prop} {s : Shared}
theorem collect_range {R : List Value → Shared → Prop} {r : Addr} {a b c : Int} {t u v : Tok} {n : Nat} (hh : A.handled = none) (hr : IsRange s.heap r a b c t u v) (hsmall : Builtin.Range.small a b c = true) (hn : Builtin.Range.rangeSize a b c = n) (hlen : n ≤ 2 ^ 24)
    (h : ∀ (h' : Heap) (tk : Nat) (acc : Array Value), (∀ b o, s.heap.get? b = some o → h'.get? b = some o) → ItemsOf (fun i v => ∃ t, v = .int (a + i * c) t) acc n → R acc.toList { s with heap := h', toks := tk }) :
    wpAny (model prog w) A (collect (.ref r)) R E s := by
  unfold collect
  refine wpAny_bind (wpAny_runValue (codeAny_builtin entry_proto_collect' ?_))
  rw [Around.under_plainId PySem.F.plain_proto_collect _]
  show wpAny _ A.in1 (newList [] >>= fun l => again (.builtin "list.__iadd__" ⟨[l, .ref r], []⟩)) _ _ s
  refine wpAny_bind (wpAny_newObj_type ?_)
  refine wpAny_pure ⟨plainId_quiet PySem.F.plain_list_iadd _, codeAny_builtin entry_list_iadd' ?_⟩
  rw [Around.under_plainId PySem.F.plain_list_iadd _]
  have hS₁ : (s.heap.push { cls := .type "list", data := .seq ([] : List Value).toArray }).get? s.heap.objs.size = some { cls := .type "list", data := .seq #[] } := Heap.get?_push_size _ rfl
  show wpAny _ A.in1 (Builtin.List.listExtendWith (.ref s.heap.objs.size) (.ref r) (.ref s.heap.objs.size)) _ _ _
  have key := wpAny_extend_range (prog := prog) (w := w) (A := A) (s := { s with heap := s.heap.push { cls := .type "list", data := .seq ([] : List Value).toArray } })
    (R := fun (q : Result) (s' : Shared) => ∃ (h' : Heap) (tk : Nat) (acc' : Array Value) (c' : Nat), q = .ok (.ret (.ref s.heap.objs.size)) ∧ s' = { s with heap := h', toks := tk } ∧
      (∀ b o, s.heap.get? b = some o → h'.get? b = some o) ∧ h'.get? s.heap.objs.size = some { cls := .type "list", dict := none, data := .seq acc' c', slots := #[] } ∧ ItemsOf (fun i v => ∃ t, v = .int (a + i * c) t) acc' n)
    hh (Heap.get?_push_of_some _ hr) hsmall hn hlen s.heap.objs.size (.ref s.heap.objs.size) 0 hS₁
    (fun h' tk acc' c' hk hS' hacc => ⟨h', tk, acc', c', rfl, rfl, fun b o e => hk b o (Nat.ne_of_lt (Heap.lt_size e)) (Heap.get?_push_of_some _ e), hS', hacc⟩)
  refine wpAny_mono key (fun fin s' x => ?_) fun e s' x => ?_
  · cases fin with
    | done f =>
      obtain ⟨h', tk, acc', c', e, rfl, hk, hS', hacc⟩ := x
      cases e
      show wpAny _ A (load s.heap.objs.size >>= _) _ _ _
      refine wpAny_bind (wpAny_load hS' ?_)
      exact wpAny_pure (h h' tk acc' hk hacc)
    | again c₁ =>
      refine ⟨x.1, codeAny_mono x.2 fun q s₂ y => ?_⟩
      obtain ⟨h', tk, acc', c', rfl, rfl, hk, hS', hacc⟩ := y
      show wpAny _ A (load s.heap.objs.size >>= _) _ _ _
      refine wpAny_bind (wpAny_load hS' ?_)
      exact wpAny_pure (h h' tk acc' hk hacc)
  · obtain ⟨_, _, _, _, e', _⟩ := x
    cases e'
end
theorem meets_tuple_new_range (r : Addr) (a b c : Int) (t u v : Tok) (n : Nat) (hsmall : Builtin.Range.small a b c = true) (hn : Builtin.Range.rangeSize a b c = n) (hlen : n ≤ 2 ^ 24) :
    Meets (Builtin.«tuple.__new__» ⟨[.type "tuple", .ref r], []⟩)
      (fun A R s => A.handled = none ∧ IsRange s.heap r a b c t u v ∧ ∀ (h' : Heap) (tk : Nat) (acc : Array Value), (∀ b o, s.heap.get? b = some o → h'.get? b = some o) → ItemsOf (fun i v => ∃ t, v = .int (a + i * c) t) acc n →
        R (.ok (.ret (.ref h'.objs.size))) { s with heap := h'.push { cls := .type "tuple", data := .seq acc }, toks := tk }) :=
  .of_wp fun prog w A R s h => by
    obtain ⟨hh, hr, h⟩ := h
    have hsub := sub_tuple_self
    have hinit := init_tuple_lookup
    have hmh := madeHere_tuple
    have hT : s.TypeIs (.ref r) "range" := ⟨_, hr, rfl⟩
    have hh1 : A.in1.handled = none := hh
    wp_walk using wpAny_typeOf hT, collect_range hh1 hr hsmall hn hlen
    intro h' tk acc hk hacc
    show wpAny _ _ (Builtin.Tuple.tupleExact acc.toList.toArray >>= fun v => ret v) _ _ _
    unfold Builtin.Tuple.tupleExact
    refine wpAny_bind (wpAny_newObj_type ?_ (show acc.toList.toArray.size ≤ sizeLine by simp only [Array.toArray_toList]; rw [hacc.1]; exact Nat.le_trans hlen (by decide)))
    refine wpAny_pure ⟨_, rfl, ?_⟩
    have e : acc.toList.toArray = acc := by simp
    rw [e]
    exact h h' tk acc hk hacc
section
variable {X : Cx}
theorem call_tuple_rng (hc : X.calm = true) : CallR X (.type "tuple") (fun xs H Q => ∃ (p : Addr) (j : Int), xs = [.ref p] ∧ H p = some (.rng 0 j) ∧ 0 ≤ j ∧ j ≤ 1000 ∧ ∀ l H', Same H H' → H' l = some (.tup (((List.range j.toNat).map fun (k : Nat) => (k : Int)).map V.int)) → Q (.ref l) H') := by
  intro pins s σ H xs us Q I r h
  obtain ⟨p, j, rfl, hp, h0, h1, q⟩ := h
  obtain ⟨u, rfl, ru⟩ := vals1 r
  cases ru
  obtain ⟨t, u, v, e⟩ := (show ObjOk X.prog X.w H s.heap p (.rng 0 j) from I.hok p _ hp)
  have hn : Builtin.Range.rangeSize 0 j 1 = ((j.toNat : Nat) : Int) := by rw [rangeSize_one]; split <;> omega
  refine callType_new PySem.F.called_tuple (by decide) (PySem.F.typeCall_tuple_1 _) (PySem.F.newCall_tuple_1 _) (fun obj => PySem.F.args_object_init_2 obj _) PySem.F.entry_tuple_new
    (meets_tuple_new_range p 0 j 1 t u v j.toNat (small_one (by decide) (by decide) (by omega) (by omega)) hn (by omega)) ⟨I.ok.hd hc, e, fun h' tk acc kp hacc => ⟨⟨_, Heap.get?_push_size _ rfl, rfl⟩, ?_⟩⟩
  have hv : Vals (((List.range j.toNat).map fun (k : Nat) => (k : Int)).map V.int) acc.toList := by
    refine Paired.of_get (by simp [hacc.1]) fun i x y hx hy => ?_
    have hi : i < j.toNat := by
      have := (List.getElem?_eq_some_iff.mp hx).1
      simpa using this
    obtain ⟨t', ht⟩ := hacc.2 i y (by simpa using hy)
    have e1 : x = V.int (i : Int) := by simpa [hi] using hx.symm
    rw [e1]
    exact ⟨t', by rw [ht]; congr 1; omega⟩
  have I1 : Inv X pins σ H { s with heap := h', toks := tk } := I.kept (t' := tk) kp
  have sz : (((List.range j.toNat).map fun (k : Nat) => (k : Int)).map V.int).length ≤ sizeLine := by
    rw [List.length_map, List.length_map, List.length_range]
    exact Nat.le_of_lt (small1000 (n := j.toNat) (by omega))
  have I2 := I1.laid (t' := tk) (a := h'.objs.size) (o := .tup (((List.range j.toNat).map fun (k : Nat) => (k : Int)).map V.int)) (h' := h'.push { cls := .type "tuple", data := .seq acc }) (fun b o e => Heap.get?_push_of_some _ e) (Nat.le_refl _)
    (show ObjOk X.prog X.w _ _ _ (.tup _) from ⟨sz, acc.toList, hv, by simpa using TupD.new h' acc⟩)
  exact ⟨.ref h'.objs.size, _, I2, rfl, q _ _ (Same.upd (I1.hok.fresh (Nat.le_refl _))) upd_same⟩
end
end L2

namespace L2
open PySem PySem.Calls PySem.Spec PyProof.Rows
section
variable {X : Cx}
theorem all_flat_ints (ns : List Int) : (ns.map V.int).all flatV = true := by
  rw [List.all_map]
  exact List.all_eq_true.mpr fun _ _ => rfl
end
end L2

namespace L2
open PySem PySem.Calls PySem.Spec PyProof.Rows PySem.W
section
variable {prog : Program} {w : World} {A : Around} {R : Result → Shared → Prop} {h : Heap} {g : Array GenState} {d : Drawn} {t : Nat} {os : OsState} {C f : Addr} {bm : List Value}
end
end L2

namespace L2
open PySem PySem.Calls PySem.Spec PyProof.Rows PySem.W
section
variable {X : Cx} {pins : List (Addr × Obj)} {σ : St} {H : Hp} {s : Shared}
variable {e : Expr} {es : List Expr} {p apos pos : Pos} {t : TA} {C : Addr} {bm : List Value} {pl : Sem Bool}
variable {CX : CXT} {k : Nat} {f : Addr} {fd : FuncData} {ps : List Str} {sp : Sp} {E : XK} {x : Str}
end
end L2

namespace L2
open PySem PySem.Calls PySem.Spec PyProof.Rows PySem.W
section
variable {X : Cx} {pins : List (Addr × Obj)} {σ : St} {H : Hp} {s : Shared} {CX : CXT} {k : Nat} {f C : Addr} {fd : FuncData} {ps : List Str} {sp : Sp} {E : XK} {x : Str} {p pos : Pos} {e : Expr} {es : List Expr} {t : TA} {bm : List Value}
end
end L2

namespace L2
open PySem PySem.Calls PySem.Spec PyProof.Rows PySem.W
end L2

namespace L2
open PySem PySem.Calls PySem.Spec PyProof.Rows PySem.W
section
variable {P : Program} {w : World} {outer : List Env} {H H' : Hp} {s s' : Shared} {y : Addr} {cls : Value} {dct : Option Addr}
end
section
variable {P : Program} {w : World} {K : Frag} {mg : Str → Option Value} {base : Heap} {N : List Str} {qual : Str} {scope : Scope} {f : Addr} {cd : Value} {A : Around} {outer : List Env} {s : Shared} {H : Hp} {E : XK}
variable {pins : List (Addr × Obj)} {σ : St} {H1 : Hp} {s1 : Shared} {y C : Addr} {dct : Option Addr}
end
end L2

namespace L2
open PySem PySem.Calls PySem.Spec PyProof.Rows PySem.W
section
variable {P : Program} {w : World} {K : Frag} {mg : Str → Option Value} {base : Heap} {N : List Str} {qual : Str} {scope : Scope} {f : Addr} {cd : Value} {A : Around} {outer : List Env} {s : Shared} {H : Hp} {E : XK}
variable {C : Addr} {bm : List Value} {e : Expr} {te : TE} {pos : Pos}
end
end L2

namespace L2
open PySem PySem.Calls PySem.Spec PyProof.Rows PySem.W
section
variable {prog : Program} {w : World} {A : Around} {E : Value → Shared → Prop} {s : Shared} {K : Frag} {y C : Addr}
end
section
variable {X : Cx}
end
end L2

namespace L2
open PySem PySem.Calls PySem.Spec PyProof.Rows PySem.W
section
variable {X : Cx} {pins : List (Addr × Obj)} {σ : St} {H H' : Hp} {s s' : Shared} {y : Addr} {cls : Value} {dct : Option Addr}
variable {k : Nat} {x : Str} {ps : List Str} {sp : Sp} {p pos : Pos} {e : Expr} {es : List Expr} {t : TA} {te : XK → TE}
variable {st b₀ : Stmt} {suite : List Stmt} {i : Nat} {n c : Str} {pc hpos : Pos} {W : Addr} {tb : XK → TS} {th : TS}
end
end L2

namespace L2
open PySem PySem.Calls PySem.Spec PyProof.Rows PySem.W
section
variable {X : Cx} {k : Nat} {x : Str} {ps : List Str} {sp : Sp} {p pos : Pos} {e : Expr} {es : List Expr} {t : TA}
end
end L2

namespace L2
open PySem PySem.Calls PySem.Spec PyProof.Rows PySem.W PySem.Builtin PySem.Builtin.ObjectAttr
section
variable {prog : Program} {w : World} {A : Around} {E : Value → Shared → Prop} {s : Shared} {K : Frag} {x C : Addr} {ox : Obj} {od : Option Obj} {name : Str} {v : Value} {Q : Unit → Shared → Prop}
end
section
variable {X : Cx} {pins : List (Addr × Obj)} {σ : St} {H : Hp} {s : Shared} {y C D : Addr} {fs : List (Str × V)} {f : Str} {v : V} {u : Value} {A : Around} {E : Value → Shared → Prop} {Q : Unit → Shared → Prop}
end
end L2

namespace L2
open PySem PySem.Calls PySem.Spec PyProof.Rows PySem.W PySem.Builtin PySem.Builtin.ObjectAttr
section
variable {prog : Program} {w : World} {A : Around} {E : Value → Shared → Prop} {s : Shared} {K : Frag} {y C : Addr} {ox : Obj} {od : Obj} {name : Str} {v : Value} {Q : Value → Shared → Prop} {expr : Bool}
end
section
variable {X : Cx} {e : Expr} {pos : Pos} {te : TE}
end
end L2

namespace L2
open PySem PySem.Spec PyProof.Rows
section
variable {X : Cx}
def CDivW (_ j : Int) : Prop := 0 < j ∧ j.natAbs.log2 < 9000
theorem op_fdivW : OpR X (binaryOp .FloorDiv) (rI CDivW fun i j => .int (i / j)) := opI fun i j _ _ _ _ _ hc q => by
  have h1 : (0 : Int) < j := hc.1
  have e := Int.fdiv_eq_ediv_of_nonneg i (Int.le_of_lt h1)
  exact floordiv_int (Int.ne_of_gt h1) (e ▸ q) (.inl (PyProof.noPylong_of_log2 hc.2))
end
end L2

namespace L2
open PySem PySem.Spec PyProof.Rows PySem.AutoSeq1
section
variable {X : Cx} {es : List Expr} {kt : Nat} {tp : Pos}
end
section
variable {K : PySem.W.Frag} {g : TG} {tc : TT} {te : TE} {σ : St} {H : Hp} {R : List V → Hp → Prop}
end
end L2

namespace L2
open PySem PySem.Spec PyProof.Rows
section
variable {X : Cx}
end
end L2

namespace L2
open PySem PySem.Spec PyProof.Rows PySem.AutoSeq1
end L2
namespace L2
open PySem PySem.Spec PyProof.Rows
section
variable {X : Cx} {es : List Expr} {kt : Nat} {tp : Pos}
end
section
variable {K : PySem.W.Frag} {g : TG} {tc : TT} {te : TE} {σ : St} {H : Hp} {R : List V → Hp → Prop}
end
end L2

namespace L2
open PySem PySem.Spec PyProof.Rows
section
variable {prog : Program} {w : World} {A : Around} {R : Result → Shared → Prop} {it B : Addr} {fp wr : List Addr} {n : Nat} {P : Nat → Value → Prop} {St : Nat → Heap → Prop} {bt : Nat → Nat → Bool} {dn : Str} {dv : Value}
end
section
variable {X : Cx}
end
end L2

namespace L2
open PySem PySem.Spec PyProof.Rows
section
variable {X : Cx}
end
end L2

namespace L2
open PySem PySem.Spec PyProof.Rows
section
variable {X : Cx}
end
end L2

namespace Tim
open PySem PyProof.Rows
structure Ordr (L : Keyed → Keyed → Bool) : Prop where
  asym : ∀ x y, L x y = true → L y x = false
  tr : ∀ x y z, L y x = false → L z y = false → L z x = false
abbrev Sd (L : Keyed → Keyed → Bool) (l : List Keyed) : Prop := l.Pairwise fun x y => L y x = false
section
variable {L : Keyed → Keyed → Bool}
theorem Sd.split {o m r1 r2 : List Keyed} (h1 : Sd L (o ++ (m ++ r1))) (h2 : Sd L (o ++ r2)) (c : ∀ x ∈ m, ∀ y ∈ r2, L y x = false) : Sd L ((o ++ m) ++ r1) ∧ Sd L ((o ++ m) ++ r2) := by
  refine ⟨by rw [List.append_assoc]; exact h1, ?_⟩
  obtain ⟨a1, a2, a3⟩ := List.pairwise_append.mp h1
  obtain ⟨b1, b2, b3⟩ := List.pairwise_append.mp h2
  obtain ⟨c1, c2, c3⟩ := List.pairwise_append.mp a2
  rw [List.append_assoc]
  refine List.pairwise_append.mpr ⟨a1, List.pairwise_append.mpr ⟨c1, b2, c⟩, fun x hx y hy => ?_⟩
  rcases List.mem_append.mp hy with z | z
  · exact a3 x hx y (List.mem_append_left _ z)
  · exact b3 x hx y z
theorem Sd.splitR {o m l1 l2 : List Keyed} (h1 : Sd L ((l1 ++ m) ++ o)) (h2 : Sd L (l2 ++ o)) (c : ∀ y ∈ l2, ∀ x ∈ m, L x y = false) : Sd L (l1 ++ (m ++ o)) ∧ Sd L (l2 ++ (m ++ o)) := by
  rw [List.append_assoc] at h1
  refine ⟨h1, ?_⟩
  obtain ⟨a1, a2, a3⟩ := List.pairwise_append.mp h1
  obtain ⟨b1, b2, b3⟩ := List.pairwise_append.mp h2
  refine List.pairwise_append.mpr ⟨b1, a2, fun y hy x hx => ?_⟩
  rcases List.mem_append.mp hx with z | z
  · exact c y hy x z
  · exact b3 y hy x z
end
section
variable {prog : Program} {w : World} {A : Around} {E : Value → Shared → Prop} {s : Shared} {κ : SortKind} {a0 : Array Keyed} {L : Keyed → Keyed → Bool}
def CmpL (prog : Program) (w : World) (A : Around) (s : Shared) (κ : SortKind) (a0 : Array Keyed) (L : Keyed → Keyed → Bool) : Prop :=
  ∀ x y, x ∈ a0 → y ∈ a0 → ∀ (E : Value → Shared → Prop) (Q : Bool → Shared → Prop), Q (L x y) s → wpAny (model prog w) A (keyLt' κ x.1 y.1) Q E s
theorem lt_L (hc : CmpL prog w A s κ a0 L) {x y : Keyed} {st : SortSt} {Q : Option Bool → SortSt → Prop} (hk : kindOf st = κ) (hx : x ∈ a0) (hy : y ∈ a0) (q : Q (some (L x y)) st) :
    wpS (model prog w) A E s (lt' x y) Q st := by
  rw [lt'_eq]
  refine wpS_bind (wpS_get ?_)
  rw [hk]
  refine wpS_bind (wpS_lift (wpAny_attempt (hc x y hx hy _ _ ⟨rfl, ?_⟩)))
  exact wpS_pure q
def bk (L : Keyed → Keyed → Bool) (left : Bool) (key x : Keyed) : Bool := if left = true then L x key else !L key x
theorem bk_mono (o : Ordr L) {left : Bool} {key x y : Keyed} (h : L y x = false) (hy : bk L left key y = true) : bk L left key x = true := by
  unfold bk at hy ⊢
  cases left with
  | true =>
    rw [if_pos rfl] at hy ⊢
    cases e : L x key with
    | true => rfl
    | false =>
      have := o.tr key x y e h
      rw [this] at hy
      cases hy
  | false =>
    rw [if_neg Bool.false_ne_true] at hy ⊢
    have hy : L key y = false := by simpa using hy
    rw [o.tr x y key h hy]
    rfl
theorem gallop_L (o : Ordr L) (hc : CmpL prog w A s κ a0 L) {left : Bool} {key : Keyed} {arr : Array Keyed} {lo n hint : Nat} {st : SortSt} {Q : Option Nat → SortSt → Prop} (hk : kindOf st = κ) (hkey : key ∈ a0) (hin : In a0 arr) (hn : lo + n ≤ arr.size) (hh : hint < n)
    (sd : Sd L ((arr.toList.drop lo).take n))
    (q : ∀ k, k ≤ n → (∀ x ∈ ((arr.toList.drop lo).take n).take k, bk L left key x = true) → (∀ x ∈ ((arr.toList.drop lo).take n).drop k, bk L left key x = false) → Q (some k) st) : wpS (model prog w) A E s (gallop' left key arr lo n hint) Q st := by
  have len : ((arr.toList.drop lo).take n).length = n := by rw [List.length_take, List.length_drop, Array.length_toList]; omega
  have eg : ∀ i, i < n → arr[lo + i]? = ((arr.toList.drop lo).take n)[i]? := fun i hi => by
    rw [List.getElem?_take, if_pos hi, List.getElem?_drop, Array.getElem?_toList]
  generalize (arr.toList.drop lo).take n = l at sd q len eg
  subst len
  have eg : ∀ i (hi : i < l.length), arr[lo + i]'(by omega) = l[i] := fun i hi => by
    have := eg i hi
    rw [Array.getElem?_eq_getElem (by omega), List.getElem?_eq_getElem hi] at this
    exact Option.some.inj this
  have mono : ∀ i j (hij : i ≤ j) (hj : j < l.length), bk L left key l[j] = true → bk L left key (l[i]'(by omega)) = true := fun i j hij hj h => by
    by_cases e : i = j
    · subst e; exact h
    · exact bk_mono o (List.pairwise_iff_getElem.mp sd i j (by omega) hj (by omega)) h
  have bey : ∀ (i : Nat) (R : Option Bool → SortSt → Prop) (hi : i < l.length), R (some (bk L left key l[i])) st → wpS (model prog w) A E s (do
      let x ← elem' arr (lo + i)
      if left = true then lt' x key else do
        let r ← lt' key x
        pure (r.map (!·))) R st := fun i R hi hR => by
    refine wpS_bind (elem_ok (by omega) ?_)
    have hm : arr[lo + i]'(by omega) ∈ a0 := hin _ (Array.getElem_mem _)
    rw [eg i hi] at hm ⊢
    unfold bk at hR
    cases left with
    | true =>
      rw [if_pos rfl] at hR
      exact lt_L hc hk hm hkey hR
    | false =>
      rw [if_neg Bool.false_ne_true] at hR
      exact wpS_bind (lt_L hc hk hkey hm (wpS_pure hR))
  -- by places
  have T : ∀ k, k ≤ l.length → (∀ i (hi : i < l.length), i < k → bk L left key l[i] = true) → ∀ x ∈ l.take k, bk L left key x = true := fun k hk h x hx => by
    obtain ⟨i, hi, rfl⟩ := List.mem_iff_getElem.mp hx
    rw [List.length_take] at hi
    rw [List.getElem_take]
    exact h i (by omega) (by omega)
  have F : ∀ k, (∀ i (hi : i < l.length), k ≤ i → bk L left key l[i] = false) → ∀ x ∈ l.drop k, bk L left key x = false := fun k h x hx => by
    obtain ⟨i, hi, rfl⟩ := List.mem_iff_getElem.mp hx
    rw [List.length_drop] at hi
    rw [List.getElem_drop]
    exact h (k + i) (by omega) (by omega)
  refine wpS_bind (wpS_mono (bey hint (fun r st' => r = some (bk L left key l[hint]) ∧ st' = st) hh ⟨rfl, rfl⟩) ?_)
  rintro r st' ⟨rfl, rfl⟩
  dsimp only
  cases hb : bk L left key l[hint]
  case' true =>
    rw [if_pos rfl]
    refine wpS_bind (wpS_mono (wpS_forRange (I := fun i c st2 => c.1 = none ∧ (c.2.1 < c.2.2 ∧ i + 1 ≤ c.2.2 ∧ ∃ h : hint + c.2.1 < l.length, bk L left key l[hint + c.2.1] = true) ∧ st2 = st')
      (Q := fun c st2 => c.1 = none ∧ (c.2.1 < c.2.2 ∧ (∃ h : hint + c.2.1 < l.length, bk L left key l[hint + c.2.1] = true) ∧ (l.length - hint ≤ c.2.2 ∨ ∃ h : hint + c.2.2 < l.length, bk L left key l[hint + c.2.2] = false)) ∧ st2 = st') ?step ?fin ⟨rfl, ⟨by decide, by decide, hh, hb⟩, rfl⟩) ?post)
    case fin =>
      rintro ⟨c1, la, ofs⟩ st2 ⟨h1, ⟨h2, h3, h4⟩, h5⟩
      dsimp only at h1 h2 h3 h4 ⊢
      rw [Nat.zero_max] at h3
      exact ⟨h1, ⟨h2, h4, .inl (by omega)⟩, h5⟩
    case step =>
      rintro i ⟨_, la, ofs⟩ st2 _ _ ⟨h, ⟨h2, h3, h4⟩, rfl⟩
      dsimp only at h h2 h3 h4 ⊢
      by_cases hm : ofs ≥ l.length - hint
      · rw [if_pos hm]
        exact wpS_pure ⟨rfl, ⟨h2, h4, .inl hm⟩, rfl⟩
      · rw [if_neg hm]
        refine wpS_bind (bey (hint + ofs) _ (by omega) ?_)
        cases e : bk L left key (l[hint + ofs]'(by omega))
        · exact wpS_pure ⟨rfl, ⟨h2, h4, .inr ⟨by dsimp only; omega, e⟩⟩, rfl⟩
        · exact wpS_pure ⟨rfl, ⟨by dsimp only; omega, by dsimp only; omega, by dsimp only; omega, e⟩, rfl⟩
  case' false =>
    rw [if_neg Bool.false_ne_true]
    refine wpS_bind (wpS_mono (wpS_forRange (I := fun i c st2 => c.1 = none ∧ (c.2.1 < c.2.2 ∧ i + 1 ≤ c.2.2 ∧ c.2.1 ≤ hint ∧ ∃ h : hint - c.2.1 < l.length, bk L left key l[hint - c.2.1] = false) ∧ st2 = st')
      (Q := fun c st2 => c.1 = none ∧ (c.2.1 < c.2.2 ∧ (c.2.1 ≤ hint ∧ ∃ h : hint - c.2.1 < l.length, bk L left key l[hint - c.2.1] = false) ∧ (hint + 1 ≤ c.2.2 ∨ ∃ h : hint - c.2.2 < l.length, bk L left key l[hint - c.2.2] = true)) ∧ st2 = st') ?step ?fin ⟨rfl, ⟨by decide, by decide, Nat.zero_le _, hh, hb⟩, rfl⟩) ?post)
    case fin =>
      rintro ⟨c1, la, ofs⟩ st2 ⟨h1, ⟨h2, h3, h4⟩, h5⟩
      dsimp only at h1 h2 h3 h4 ⊢
      rw [Nat.zero_max] at h3
      exact ⟨h1, ⟨h2, h4, .inl (by omega)⟩, h5⟩
    case step =>
      rintro i ⟨_, la, ofs⟩ st2 _ _ ⟨h, ⟨h2, h3, h4⟩, rfl⟩
      dsimp only at h h2 h3 h4 ⊢
      by_cases hm : ofs ≥ hint + 1
      · rw [if_pos hm]
        exact wpS_pure ⟨rfl, ⟨h2, h4, .inl hm⟩, rfl⟩
      · rw [if_neg hm]
        refine wpS_bind (bey (hint - ofs) _ (by omega) ?_)
        cases e : bk L left key (l[hint - ofs]'(by omega))
        · exact wpS_pure ⟨rfl, ⟨by dsimp only; omega, by dsimp only; omega, by dsimp only; omega, by dsimp only; omega, e⟩, rfl⟩
        · exact wpS_pure ⟨rfl, ⟨h2, h4, .inr ⟨by dsimp only; omega, e⟩⟩, rfl⟩
  case' true =>
    rintro ⟨c1, la, ofs⟩ st2 ⟨h, ⟨g1, ⟨g2, g3⟩, g4⟩, rfl⟩
    dsimp only at h g1 g2 g3 g4 ⊢
    subst h
    dsimp only
    have B : (hint + la + 1 ≤ hint + min ofs (l.length - hint) ∧ hint + min ofs (l.length - hint) ≤ l.length ∧ (∀ i (hi : i < l.length), i < hint + la + 1 → bk L left key l[i] = true) ∧ (∀ i (hi : i < l.length), hint + min ofs (l.length - hint) ≤ i → bk L left key l[i] = false)) := by
      refine ⟨by omega, by omega, fun i hi h => mono i (hint + la) (by omega) g2 g3, fun i hi h => ?_⟩
      rcases g4 with z | ⟨z, e⟩
      · omega
      · cases e2 : bk L left key l[i] with
        | false => rfl
        | true => rw [mono (hint + ofs) i (by omega) hi e2] at e; cases e
    generalize hint + la + 1 = l0 at B
    generalize hint + min ofs (l.length - hint) = h0 at B
  case' false =>
    rintro ⟨c1, la, ofs⟩ st2 ⟨h, ⟨g1, ⟨g0, g2, g3⟩, g4⟩, rfl⟩
    dsimp only at h g0 g1 g2 g3 g4 ⊢
    subst h
    dsimp only
    have B : (hint + 1 - min ofs (hint + 1) ≤ hint - la ∧ hint - la ≤ l.length ∧ (∀ i (hi : i < l.length), i < hint + 1 - min ofs (hint + 1) → bk L left key l[i] = true) ∧ (∀ i (hi : i < l.length), hint - la ≤ i → bk L left key l[i] = false)) := by
      refine ⟨by omega, by omega, fun i hi h => ?_, fun i hi h => ?_⟩
      · rcases g4 with z | ⟨z, e⟩
        · omega
        · exact mono i (hint - ofs) (by omega) z e
      · cases e2 : bk L left key l[i] with
        | false => rfl
        | true => rw [mono (hint - la) i h hi e2] at g3; cases g3
    generalize hint + 1 - min ofs (hint + 1) = l0 at B
    generalize hint - la = h0 at B
  all_goals
    refine wpS_bind (wpS_mono (wpS_forRange (I := fun j c st3 => c.1 = none ∧ (c.2.1 ≤ c.2.2 ∧ c.2.2 ≤ l.length ∧ (∀ i (hi : i < l.length), i < c.2.1 → bk L left key l[i] = true) ∧ (∀ i (hi : i < l.length), c.2.2 ≤ i → bk L left key l[i] = false)) ∧ c.2.2 - c.2.1 ≤ l.length - j ∧ st3 = st2)
      (Q := fun c st3 => c.1 = none ∧ (c.2.1 ≤ c.2.2 ∧ c.2.2 ≤ l.length ∧ (∀ i (hi : i < l.length), i < c.2.1 → bk L left key l[i] = true) ∧ (∀ i (hi : i < l.length), c.2.2 ≤ i → bk L left key l[i] = false)) ∧ c.2.2 ≤ c.2.1 ∧ st3 = st2) ?_ ?_ ⟨rfl, B, by dsimp only; omega, rfl⟩) ?_)
    · rintro j ⟨c1, l1, h1⟩ st3 _ _ ⟨e1, ⟨b1, b2, b3, b4⟩, e3, rfl⟩
      dsimp only at e1 b1 b2 b3 b4 e3 ⊢
      subst e1
      by_cases hm : l1 ≥ h1
      · rw [if_pos hm]
        exact wpS_pure ⟨rfl, ⟨b1, b2, b3, b4⟩, hm, rfl⟩
      · rw [if_neg hm]
        refine wpS_bind (bey (l1 + (h1 - l1) / 2) _ (by omega) ?_)
        cases e : bk L left key (l[l1 + (h1 - l1) / 2]'(by omega))
        · exact wpS_pure ⟨rfl, ⟨by dsimp only; omega, by dsimp only; omega, b3, fun i hi h => by
            cases e2 : bk L left key l[i] with
            | false => rfl
            | true => rw [mono _ i h hi e2] at e; cases e⟩, by dsimp only; omega, rfl⟩
        · exact wpS_pure ⟨rfl, ⟨by dsimp only; omega, b2, fun i hi h => mono i _ (by dsimp only at h; omega) (by omega) e, b4⟩, by dsimp only; omega, rfl⟩
    · rintro ⟨c1, l1, h1⟩ st3 ⟨e1, b, e3, e4⟩
      dsimp only at e1 b e3 ⊢
      rw [Nat.zero_max] at e3
      exact ⟨e1, b, by omega, e4⟩
    · rintro ⟨c1, l1, h1⟩ st3 ⟨e1, ⟨b1, b2, b3, b4⟩, e3, rfl⟩
      dsimp only at e1 b1 b2 b3 b4 e3 ⊢
      subst e1
      have e : l1 = h1 := by omega
      subst e
      exact wpS_pure (q _ b2 (T _ b2 b3) (F _ b4))
end
end Tim
namespace Tim
open PySem PyProof.Rows
section
variable {L : Keyed → Keyed → Bool}
theorem Ordr.irr (o : Ordr L) (x : Keyed) : L x x = false := by
  cases e : L x x with
  | false => rfl
  | true => rw [← o.asym x x e]; exact e.symm
theorem Sd.drop {l : List Keyed} (h : Sd L l) (i : Nat) : Sd L (l.drop i) := List.Pairwise.sublist (List.drop_sublist i l) h
theorem Sd.take {l : List Keyed} (h : Sd L l) (i : Nat) : Sd L (l.take i) := List.Pairwise.sublist (List.take_sublist i l) h
theorem Sd.head (o : Ordr L) {a : Array Keyed} (h : Sd L a.toList) {i : Nat} (hi : i < a.size) : ∀ y ∈ a.toList.drop i, L y a[i] = false := fun y hy => by
  rw [List.drop_eq_getElem_cons (by simpa using hi)] at hy
  have h2 := h.drop i
  rw [List.drop_eq_getElem_cons (by simpa using hi)] at h2
  rcases List.mem_cons.mp hy with z | z
  · rw [z]
    simp only [Array.getElem_toList]
    exact o.irr _
  · have := List.rel_of_pairwise_cons h2 z
    simpa using this
theorem Sd.lastL (o : Ordr L) {a : Array Keyed} (h : Sd L a.toList) {n : Nat} (h0 : 0 < n) (hi : n - 1 < a.size) : ∀ y ∈ a.toList.take n, L a[n - 1] y = false := fun y hy => by
  have h2 := h.take n
  rw [take_last a n h0 hi] at hy h2
  rcases List.mem_append.mp hy with z | z
  · exact (List.pairwise_append.mp h2).2.2 y z _ (List.mem_singleton.mpr rfl)
  · rw [List.mem_singleton.mp z]
    exact o.irr _
structure SL (L : Keyed → Keyed → Bool) (a b out : Array Keyed) (ia ib : Nat) : Prop where
  A : Sd L (out.toList ++ a.toList.drop ia)
  B : Sd L (out.toList ++ b.toList.drop ib)
variable {a b out : Array Keyed} {ia ib : Nat}
theorem SL.pushA (h : SL L a b out ia ib) (hi : ia < a.size) (c : ∀ y ∈ b.toList.drop ib, L y a[ia] = false) : SL L a b (out.push a[ia]) (ia + 1) ib := by
  have h1 := h.A
  rw [List.drop_eq_getElem_cons (by simpa using hi), Array.getElem_toList] at h1
  obtain ⟨x, y⟩ := Sd.split (m := [a[ia]]) h1 h.B (fun x hx y hy => by rw [List.mem_singleton.mp hx]; exact c y hy)
  exact ⟨by rw [Array.toList_push]; exact x, by rw [Array.toList_push]; exact y⟩
theorem SL.pushB (h : SL L a b out ia ib) (hi : ib < b.size) (c : ∀ y ∈ a.toList.drop ia, L y b[ib] = false) : SL L a b (out.push b[ib]) ia (ib + 1) := by
  have h1 := h.B
  rw [List.drop_eq_getElem_cons (by simpa using hi), Array.getElem_toList] at h1
  obtain ⟨x, y⟩ := Sd.split (m := [b[ib]]) h1 h.A (fun x hx y hy => by rw [List.mem_singleton.mp hx]; exact c y hy)
  exact ⟨by rw [Array.toList_push]; exact y, by rw [Array.toList_push]; exact x⟩
theorem SL.takeA (h : SL L a b out ia ib) {k : Nat} (c : ∀ x ∈ (a.extract ia (ia + k)).toList, ∀ y ∈ b.toList.drop ib, L y x = false) : SL L a b (out ++ a.extract ia (ia + k)) (ia + k) ib := by
  have h1 := h.A
  rw [drop_ex a ia (ia + k) (by omega)] at h1
  obtain ⟨x, y⟩ := Sd.split h1 h.B c
  exact ⟨by rw [Array.toList_append]; exact x, by rw [Array.toList_append]; exact y⟩
theorem SL.takeB (h : SL L a b out ia ib) {k : Nat} (c : ∀ x ∈ (b.extract ib (ib + k)).toList, ∀ y ∈ a.toList.drop ia, L y x = false) : SL L a b (out ++ b.extract ib (ib + k)) ia (ib + k) := by
  have h1 := h.B
  rw [drop_ex b ib (ib + k) (by omega)] at h1
  obtain ⟨x, y⟩ := Sd.split h1 h.A c
  exact ⟨by rw [Array.toList_append]; exact y, by rw [Array.toList_append]; exact x⟩
theorem SL.doneB (h : SL L a b out ia ib) (hb : b.size ≤ ib) : Sd L (out ++ a.extract ia a.size ++ b.extract ib b.size).toList := by
  rw [Array.toList_append, Array.toList_append, ext_all, ext_all, List.drop_of_length_le (l := b.toList) (by simpa using hb), List.append_nil]
  exact h.A
theorem SL.doneA (h : SL L a b out ia ib) (ha : a.size ≤ ia) : Sd L (out ++ a.extract ia a.size ++ b.extract ib b.size).toList := by
  rw [Array.toList_append, Array.toList_append, ext_all, ext_all, List.drop_of_length_le (l := a.toList) (by simpa using ha), List.append_nil]
  exact h.B
theorem SL.last (h : SL L a b out ia ib) (ha : ia + 1 = a.size) (hl : ∀ y ∈ b.toList, L a[ia] y = false) : Sd L (out ++ b.extract ib b.size ++ a.extract ia a.size).toList := by
  have hi : ia < a.size := by omega
  have h1 := h.A
  have e : a.toList.drop ia = [a[ia]] := by
    rw [List.drop_eq_getElem_cons (by simpa using hi), List.drop_of_length_le (by simp; omega), Array.getElem_toList]
  rw [e] at h1
  rw [Array.toList_append, Array.toList_append, ext_all, ext_all, e]
  refine List.pairwise_append.mpr ⟨h.B, List.pairwise_singleton _ _, fun x hx y hy => ?_⟩
  rw [List.mem_singleton.mp hy]
  rcases List.mem_append.mp hx with z | z
  · exact (List.pairwise_append.mp h1).2.2 x z _ (List.mem_singleton.mpr rfl)
  · exact hl x (List.mem_of_mem_drop z)
end
section
variable {prog : Program} {w : World} {A : Around} {E : Value → Shared → Prop} {s : Shared} {κ : SortKind} {a0 : Array Keyed} {L : Keyed → Keyed → Bool}
theorem gallop_all (o : Ordr L) (hc : CmpL prog w A s κ a0 L) {left : Bool} {key : Keyed} {arr : Array Keyed} {lo hint : Nat} {st : SortSt} {Q : Option Nat → SortSt → Prop} (hk : kindOf st = κ) (hkey : key ∈ a0) (hin : In a0 arr) (hn : lo ≤ arr.size) (hh : hint < arr.size - lo)
    (sd : Sd L arr.toList)
    (q : ∀ k, k ≤ arr.size - lo → (∀ x ∈ (arr.extract lo (lo + k)).toList, bk L left key x = true) → (∀ x ∈ arr.toList.drop (lo + k), bk L left key x = false) → Q (some k) st) : wpS (model prog w) A E s (gallop' left key arr lo (arr.size - lo) hint) Q st := by
  have e : (arr.toList.drop lo).take (arr.size - lo) = arr.toList.drop lo := List.take_of_length_le (by simp)
  refine gallop_L o hc hk hkey hin (by omega) hh (by rw [e]; exact sd.drop lo) fun k hk t f => q k hk (fun x hx => t x ?_) (fun x hx => f x ?_)
  · rw [e]
    rw [Array.toList_extract, List.extract_eq_take_drop, show lo + k - lo = k by omega] at hx
    exact hx
  · rw [e, List.drop_drop]
    exact hx
theorem gallop_to (o : Ordr L) (hc : CmpL prog w A s κ a0 L) {left : Bool} {key : Keyed} {arr : Array Keyed} {n hint : Nat} {st : SortSt} {Q : Option Nat → SortSt → Prop} (hk : kindOf st = κ) (hkey : key ∈ a0) (hin : In a0 arr) (hn : n ≤ arr.size) (hh : hint < n)
    (sd : Sd L arr.toList)
    (q : ∀ k, k ≤ n → (∀ x ∈ arr.toList.take k, bk L left key x = true) → (∀ x ∈ (arr.extract k n).toList, bk L left key x = false) → Q (some k) st) : wpS (model prog w) A E s (gallop' left key arr 0 n hint) Q st := by
  refine gallop_L o hc hk hkey hin (by omega) hh (by rw [List.drop_zero]; exact sd.take n) fun k hk t f => q k hk (fun x hx => t x ?_) (fun x hx => f x ?_)
  · rw [List.drop_zero, List.take_take, Nat.min_eq_left hk]
    exact hx
  · rw [List.drop_zero]
    rw [Array.toList_extract, List.extract_eq_take_drop] at hx
    rw [List.drop_take]
    exact hx
theorem bkR {key x : Keyed} (h : bk L false key x = true) : L key x = false := by
  unfold bk at h
  simpa using h
theorem bkR' {key x : Keyed} (h : bk L false key x = false) : L key x = true := by
  unfold bk at h
  simpa using h
theorem mergeLo_L (o : Ordr L) (hc : CmpL prog w A s κ a0 L) {a b : Array Keyed} {st : SortSt} {Q : Array Keyed → SortSt → Prop} (hk : Ok κ a0 st) (ha : In a0 a) (hb : In a0 b) (a1 : 1 ≤ a.size) (b1 : 1 ≤ b.size)
    (sda : Sd L a.toList) (sdb : Sd L b.toList) (hf : ∀ x ∈ a.toList, L x b[0] = false) (hl : ∀ (i : Nat) (hi : i < a.size), i + 1 = a.size → ∀ y ∈ b.toList, L a[i] y = false)
    (q : ∀ out st', out.Perm (a ++ b) → Sd L out.toList → SI κ a0 st st' → Q out st') : wpS (model prog w) A E s (mergeLo' a b) Q st := by
  have P0 : PL a b #[b[0]] 0 1 := by
    have : PL a b #[] 0 0 := by
      unfold PL
      simp
    exact this.pushB (by omega)
  have S0 : SL L a b #[b[0]] 0 1 := by
    have : SL L a b #[] 0 0 := ⟨by simpa using sda, by simpa using sdb⟩
    exact this.pushB (by omega) (by simpa using hf)
  have hdb := fun (i : Nat) (hi : i < b.size) => sdb.head o hi
  have hda := fun (i : Nat) (hi : i < a.size) => sda.head o hi
  refine wpS_bind (wpS_lift (wpAny_rule ⟨rfl, ?_⟩))
  dsimp only
  refine wpS_bind (elem_ok (by omega) ?_)
  by_cases c1 : (1 == b.size) = true
  · rw [if_pos c1]
    simp only [beq_iff_eq] at c1
    exact wpS_pure (q _ _ P0.done (S0.doneB (by omega)) ⟨hk, rfl, rfl⟩)
  rw [if_neg c1]
  by_cases c2 : (0 + 1 == a.size) = true
  · rw [if_pos c2]
    simp only [beq_iff_eq] at c2
    exact wpS_pure (q _ _ P0.last (S0.last (by omega) (hl 0 (by omega) (by omega))) ⟨hk, rfl, rfl⟩)
  rw [if_neg c2]
  simp only [beq_iff_eq] at c1 c2
  refine wpS_bind (wpS_get ?_)
  refine wpS_bind (wpS_mono (wpS_forRange (I := fun i c st' => SI κ a0 st st' ∧ ∃ (out : Array Keyed) (ia ib g : Nat), c = (none, out, ia, ib, g) ∧ (PL a b out ia ib ∧ SL L a b out ia ib) ∧ ia + 1 < a.size ∧ ib < b.size ∧ i + 1 ≤ ia + ib)
    (Q := fun c st' => SI κ a0 st st' ∧ ∃ r : Array Keyed, c.1 = some r ∧ r.Perm (a ++ b) ∧ Sd L r.toList) ?step ?fin ⟨⟨hk, rfl, rfl⟩, _, _, _, _, rfl, ⟨P0, S0⟩, by omega, by omega, by omega⟩) ?post)
  case fin =>
    rintro c st' ⟨_, out, ia, ib, g, _, _, h1, h2, h3⟩
    rw [Nat.zero_max] at h3
    omega
  case post =>
    rintro ⟨c, r4⟩ st' ⟨S, r, h, hp⟩
    dsimp only at h ⊢
    subst h
    exact wpS_pure (q _ _ hp.1 hp.2 S)
  case step =>
    rintro i c st1 _ hi ⟨S1, out, ia, ib, g, rfl, P, h1, h2, h3⟩
    dsimp only
    refine wpS_bind (wpS_mono (wpS_forRange (I := fun j c st' => SI κ a0 st st' ∧ ∃ (out : Array Keyed) (ia' ib' x y : Nat), c = (none, out, ia', ib', x, y) ∧ (PL a b out ia' ib' ∧ SL L a b out ia' ib') ∧ ia' + 1 < a.size ∧ ib' < b.size ∧ ia + ib + j ≤ ia' + ib')
      (Q := fun c st' => SI κ a0 st st' ∧ ((∃ r : Array Keyed, c.1 = some r ∧ r.Perm (a ++ b) ∧ Sd L r.toList) ∨ ∃ (out : Array Keyed) (ia' ib' x y : Nat), c = (none, out, ia', ib', x, y) ∧ (PL a b out ia' ib' ∧ SL L a b out ia' ib') ∧ ia' + 1 < a.size ∧ ib' < b.size ∧ ia + ib + 1 ≤ ia' + ib')) ?step1 ?fin1 ⟨S1, _, _, _, _, _, rfl, P, h1, h2, by omega⟩) ?post1)
    case fin1 =>
      rintro c st' ⟨S, out, ia', ib', x, y, rfl, P, h1, h2, h3⟩
      rw [Nat.zero_max] at h3
      exact ⟨S, .inr ⟨out, ia', ib', x, y, rfl, P, h1, h2, by omega⟩⟩
    case step1 =>
      rintro j c st2 _ hj ⟨S2, out, ia', ib', x, y, rfl, P2, h1', h2', h3'⟩
      dsimp only
      refine wpS_bind (elem_ok h2' (wpS_bind (elem_ok (by omega) (wpS_bind (lt_L hc S2.ok.kind (hb _ (Array.getElem_mem _)) (ha _ (Array.getElem_mem _)) ?_)))))
      dsimp only
      cases bw : L (b[ib']'h2') (a[ia']'(by omega)) with
      | true =>
        rw [if_pos rfl]
        refine wpS_bind (elem_ok h2' ?_)
        have P3 := P2.1.pushB h2'
        have S3 := P2.2.pushB h2' fun y hy => o.tr _ a[ia'] _ (o.asym _ _ bw) (hda ia' (by omega) y hy)
        by_cases d1 : (ib' + 1 == b.size) = true
        · rw [if_pos d1]
          simp only [beq_iff_eq] at d1
          exact wpS_pure ⟨S2, .inl ⟨_, rfl, P3.done, S3.doneB (by omega)⟩⟩
        rw [if_neg d1]
        simp only [beq_iff_eq] at d1
        split
        · exact wpS_pure ⟨S2, .inr ⟨_, _, _, _, _, rfl, ⟨P3, S3⟩, h1', by omega, by omega⟩⟩
        · exact wpS_pure ⟨S2, _, _, _, _, _, rfl, ⟨P3, S3⟩, h1', by omega, by omega⟩
      | false =>
        rw [if_neg Bool.false_ne_true]
        refine wpS_bind (elem_ok (by omega) ?_)
        have P3 := P2.1.pushA (by omega)
        have S3 := P2.2.pushA (by omega) fun y hy => o.tr _ b[ib'] _ bw (hdb ib' h2' y hy)
        by_cases d1 : (ia' + 1 + 1 == a.size) = true
        · rw [if_pos d1]
          simp only [beq_iff_eq] at d1
          exact wpS_pure ⟨S2, .inl ⟨_, rfl, P3.last, S3.last (by omega) (hl _ (by omega) (by omega))⟩⟩
        rw [if_neg d1]
        simp only [beq_iff_eq] at d1
        split
        · exact wpS_pure ⟨S2, .inr ⟨_, _, _, _, _, rfl, ⟨P3, S3⟩, by omega, h2', by omega⟩⟩
        · exact wpS_pure ⟨S2, _, _, _, _, _, rfl, ⟨P3, S3⟩, by omega, h2', by omega⟩
    case post1 =>
      rintro c st2 ⟨S2, ⟨r, h, hp⟩ | ⟨out, ia', ib', x, y, rfl, P2, h1', h2', h3'⟩⟩
      · obtain ⟨c1, cr⟩ := c
        dsimp only at h ⊢
        subst h
        exact wpS_pure ⟨S2, r, rfl, hp⟩
      dsimp only
      refine wpS_bind (wpS_lift (wpAny_rule ⟨rfl, ?_⟩))
      refine wpS_bind (wpS_mono (wpS_forRange (I := fun j c st' => SI κ a0 st st' ∧ ∃ (out : Array Keyed) (ia' ib' g x y : Nat), c = (none, out, ia', ib', g, x, y) ∧ (PL a b out ia' ib' ∧ SL L a b out ia' ib') ∧ ia' + 1 < a.size ∧ ib' < b.size ∧ ia + ib + 1 ≤ ia' + ib')
        (Q := fun c st' => SI κ a0 st st' ∧ ((∃ r : Array Keyed, c.1 = some r ∧ r.Perm (a ++ b) ∧ Sd L r.toList) ∨ ∃ (out : Array Keyed) (ia' ib' g x y : Nat), c = (none, out, ia', ib', g, x, y) ∧ (PL a b out ia' ib' ∧ SL L a b out ia' ib') ∧ ia' + 1 < a.size ∧ ib' < b.size ∧ ia + ib + 1 ≤ ia' + ib')) ?step2 ?fin2 ⟨S2, _, _, _, _, _, _, rfl, P2, h1', h2', h3'⟩) ?post2)
      case fin2 =>
        rintro c st' ⟨S, out, ia', ib', g, x, y, r⟩
        exact ⟨S, .inr ⟨out, ia', ib', g, x, y, r⟩⟩
      case post2 =>
        rintro c st3 ⟨S3, ⟨r, h, hp⟩ | ⟨out, ia', ib', g, x, y, rfl, P3, h1', h2', h3'⟩⟩
        · obtain ⟨c1, cr⟩ := c
          dsimp only at h ⊢
          subst h
          exact wpS_pure ⟨S3, r, rfl, hp⟩
        dsimp only
        refine wpS_bind (wpS_modify (wpS_pure ⟨⟨⟨S3.ok.kind, S3.ok.fail, S3.ok.perm⟩, S3.pend, S3.arr⟩, _, _, _, _, rfl, P3, h1', h2', by omega⟩))
      case step2 =>
        rintro j c st3 _ hj ⟨S3, out, ia', ib', g, x, y, rfl, ⟨P3, Z3⟩, h1', h2', h3'⟩
        dsimp only
        by_cases hg : g > 1
        case' pos => rw [if_pos hg]
        case' neg => rw [if_neg hg]
        all_goals
          refine wpS_bind (wpS_modify ?_)
          refine wpS_bind (elem_ok h2' ?_)
          refine wpS_bind (gallop_all o hc S3.ok.kind (hb _ (Array.getElem_mem _)) ha (by omega) (by omega) sda fun k hk kt kf => ?_)
          dsimp only
          have kt : ∀ x ∈ (a.extract ia' (ia' + k)).toList, ∀ y ∈ b.toList.drop ib', L y x = false := fun x hx y hy => o.tr x b[ib'] y (bkR (kt x hx)) (hdb ib' h2' y hy)
          have kf : ∀ x ∈ a.toList.drop (ia' + k), L x b[ib'] = false := fun x hx => o.asym _ _ (bkR' (kf x hx))
          by_cases hk0 : k > 0
          case' pos =>
            rw [if_pos hk0]
            have P4 := P3.takeA k
            have Z4 := Z3.takeA kt
            by_cases d1 : (ia' + k + 1 == a.size) = true
            · rw [if_pos d1]
              simp only [beq_iff_eq] at d1
              exact wpS_pure ⟨⟨⟨S3.ok.kind, S3.ok.fail, S3.ok.perm⟩, S3.pend, S3.arr⟩, .inl ⟨_, rfl, P4.last, Z4.last (by omega) (hl _ (by omega) (by omega))⟩⟩
            rw [if_neg d1]
            by_cases d2 : (ia' + k == a.size) = true
            · rw [if_pos d2]
              simp only [beq_iff_eq] at d2
              exact wpS_pure ⟨⟨⟨S3.ok.kind, S3.ok.fail, S3.ok.perm⟩, S3.pend, S3.arr⟩, .inl ⟨_, rfl, P4.done, Z4.doneA (by omega)⟩⟩
            rw [if_neg d2]
            simp only [beq_iff_eq] at d1 d2
            have hI : ia' + k + 1 < a.size := by omega
            have hJ : ia + ib + 1 ≤ ia' + k + ib' := by omega
            generalize out ++ a.extract ia' (ia' + k) = OUT at P4 Z4
            generalize ia' + k = IA at P4 Z4 hI hJ kf
          case' neg =>
            rw [if_neg hk0]
            have P4 := P3
            have Z4 := Z3
            have hI := h1'
            have hJ := h3'
            have kf : ∀ x ∈ a.toList.drop ia', L x b[ib'] = false := by
              have e : ia' + k = ia' := by omega
              rw [e] at kf
              exact kf
            generalize out = OUT at P4 Z4
            generalize ia' = IA at P4 Z4 hI hJ kf
          all_goals
            refine wpS_bind (elem_ok h2' ?_)
            have P5 := P4.pushB h2'
            have Z5 := Z4.pushB h2' kf
            by_cases d3 : (ib' + 1 == b.size) = true
            · rw [if_pos d3]
              simp only [beq_iff_eq] at d3
              exact wpS_pure ⟨⟨⟨S3.ok.kind, S3.ok.fail, S3.ok.perm⟩, S3.pend, S3.arr⟩, .inl ⟨_, rfl, P5.done, Z5.doneB (by omega)⟩⟩
            rw [if_neg d3]
            simp only [beq_iff_eq] at d3
            refine wpS_bind (elem_ok (by omega) ?_)
            refine wpS_bind (gallop_all o hc S3.ok.kind (ha _ (Array.getElem_mem _)) hb (by omega) (by omega) sdb fun k2 hk2 kt2 kf2 => ?_)
            dsimp only
            have kt2 : ∀ x ∈ (b.extract (ib' + 1) (ib' + 1 + k2)).toList, ∀ y ∈ a.toList.drop IA, L y x = false := fun x hx y hy => o.tr x (a[IA]'(by omega)) y (o.asym _ _ (show L x (a[IA]'(by omega)) = true from kt2 x hx)) (hda IA (by omega) y hy)
            have kf2 : ∀ x ∈ b.toList.drop (ib' + 1 + k2), L x (a[IA]'(by omega)) = false := fun x hx => kf2 x hx
            by_cases hk3 : k2 > 0
            case' pos =>
              rw [if_pos hk3]
              have P6 := P5.takeB k2
              have Z6 := Z5.takeB kt2
              by_cases d4 : (ib' + 1 + k2 == b.size) = true
              · rw [if_pos d4]
                simp only [beq_iff_eq] at d4
                exact wpS_pure ⟨⟨⟨S3.ok.kind, S3.ok.fail, S3.ok.perm⟩, S3.pend, S3.arr⟩, .inl ⟨_, rfl, P6.done, Z6.doneB (by omega)⟩⟩
              rw [if_neg d4]
              simp only [beq_iff_eq] at d4
              have hB : ib' + 1 + k2 < b.size := by omega
              have hC : ia + ib + 1 ≤ IA + (ib' + 1 + k2) := by omega
            case' neg =>
              rw [if_neg hk3]
              have P6 := P5
              have Z6 := Z5
              have kf2 : ∀ x ∈ b.toList.drop (ib' + 1), L x (a[IA]'(by omega)) = false := by
                have e : ib' + 1 + k2 = ib' + 1 := by omega
                rw [e] at kf2
                exact kf2
              have hB : ib' + 1 < b.size := by omega
              have hC : ia + ib + 1 ≤ IA + (ib' + 1) := by omega
            all_goals
              refine wpS_bind (elem_ok (by omega) ?_)
              have P7 := P6.pushA (by omega)
              have Z7 := Z6.pushA (by omega) kf2
              by_cases d5 : (IA + 1 + 1 == a.size) = true
              · rw [if_pos d5]
                simp only [beq_iff_eq] at d5
                exact wpS_pure ⟨⟨⟨S3.ok.kind, S3.ok.fail, S3.ok.perm⟩, S3.pend, S3.arr⟩, .inl ⟨_, rfl, P7.last, Z7.last (by omega) (hl _ (by omega) (by omega))⟩⟩
              rw [if_neg d5]
              simp only [beq_iff_eq] at d5
              by_cases d6 : (decide (k < 7) && decide (k2 < 7)) = true
              · rw [if_pos d6]
                exact wpS_pure ⟨⟨⟨S3.ok.kind, S3.ok.fail, S3.ok.perm⟩, S3.pend, S3.arr⟩, .inr ⟨_, _, _, _, _, _, rfl, ⟨P7, Z7⟩, by omega, hB, by omega⟩⟩
              · rw [if_neg d6]
                exact wpS_pure ⟨⟨⟨S3.ok.kind, S3.ok.fail, S3.ok.perm⟩, S3.pend, S3.arr⟩, _, _, _, _, _, _, rfl, ⟨P7, Z7⟩, by omega, hB, by omega⟩
end
end Tim
namespace Tim
open PySem PyProof.Rows
section
variable {L : Keyed → Keyed → Bool}
structure SH (L : Keyed → Keyed → Bool) (a b out : Array Keyed) (na nb : Nat) : Prop where
  A : Sd L (a.toList.take na ++ out.toList.reverse)
  B : Sd L (b.toList.take nb ++ out.toList.reverse)
variable {a b out : Array Keyed} {na nb : Nat}
theorem SH.downA (h : SH L a b out na nb) (h0 : 0 < na) (hi : na - 1 < a.size) (c : ∀ y ∈ b.toList.take nb, L a[na - 1] y = false) : SH L a b (out.push a[na - 1]) (na - 1) nb := by
  have h1 := h.A
  rw [take_last a na h0 hi] at h1
  obtain ⟨x, y⟩ := Sd.splitR h1 h.B (fun y hy x hx => by rw [List.mem_singleton.mp hx]; exact c y hy)
  have e : (out.push a[na - 1]).toList.reverse = [a[na - 1]] ++ out.toList.reverse := by simp
  exact ⟨by rw [e]; exact x, by rw [e]; exact y⟩
theorem SH.downB (h : SH L a b out na nb) (h0 : 0 < nb) (hi : nb - 1 < b.size) (c : ∀ y ∈ a.toList.take na, L b[nb - 1] y = false) : SH L a b (out.push b[nb - 1]) na (nb - 1) := by
  have h1 := h.B
  rw [take_last b nb h0 hi] at h1
  obtain ⟨x, y⟩ := Sd.splitR h1 h.A (fun y hy x hx => by rw [List.mem_singleton.mp hx]; exact c y hy)
  have e : (out.push b[nb - 1]).toList.reverse = [b[nb - 1]] ++ out.toList.reverse := by simp
  exact ⟨by rw [e]; exact y, by rw [e]; exact x⟩
theorem SH.takeA (h : SH L a b out na nb) {k : Nat} (hk : k ≤ na) (c : ∀ y ∈ b.toList.take nb, ∀ x ∈ (a.extract k na).toList, L x y = false) : SH L a b (out ++ (a.extract k na).reverse) k nb := by
  have h1 := h.A
  rw [take_ex a k na hk] at h1
  obtain ⟨x, y⟩ := Sd.splitR h1 h.B c
  have e : (out ++ (a.extract k na).reverse).toList.reverse = (a.extract k na).toList ++ out.toList.reverse := by
    simp only [Array.toList_append, Array.toList_reverse, List.reverse_append, List.reverse_reverse]
  exact ⟨by rw [e]; exact x, by rw [e]; exact y⟩
theorem SH.takeB (h : SH L a b out na nb) {k : Nat} (hk : k ≤ nb) (c : ∀ y ∈ a.toList.take na, ∀ x ∈ (b.extract k nb).toList, L x y = false) : SH L a b (out ++ (b.extract k nb).reverse) na k := by
  have h1 := h.B
  rw [take_ex b k nb hk] at h1
  obtain ⟨x, y⟩ := Sd.splitR h1 h.A c
  have e : (out ++ (b.extract k nb).reverse).toList.reverse = (b.extract k nb).toList ++ out.toList.reverse := by
    simp only [Array.toList_append, Array.toList_reverse, List.reverse_append, List.reverse_reverse]
  exact ⟨by rw [e]; exact y, by rw [e]; exact x⟩
theorem SH.doneA (h : SH L a b out na nb) (hn : na = 0) : Sd L (a.extract 0 na ++ b.extract 0 nb ++ out.reverse).toList := by
  subst hn
  rw [Array.toList_append, Array.toList_append, ext_zero, ext_zero, Array.toList_reverse, List.take_zero, List.nil_append]
  exact h.B
theorem SH.doneB (h : SH L a b out na nb) (hn : nb = 0) : Sd L (a.extract 0 na ++ b.extract 0 nb ++ out.reverse).toList := by
  subst hn
  rw [Array.toList_append, Array.toList_append, ext_zero, ext_zero, Array.toList_reverse, List.take_zero, List.append_nil]
  exact h.A
theorem SH.first (h : SH L a b out na nb) (b1 : 1 ≤ b.size) (hn : nb = 1) (hf : ∀ x ∈ a.toList, L x b[0] = false) : Sd L (b.extract 0 nb ++ a.extract 0 na ++ out.reverse).toList := by
  subst hn
  rw [Array.toList_append, Array.toList_append, ext_zero, ext_zero, Array.toList_reverse, List.append_assoc]
  have e : b.toList.take 1 = [b[0]] := by
    have := take_last b 1 (by omega) (by omega)
    simpa using this
  have h2 := h.B
  rw [e] at h2 ⊢
  refine List.pairwise_append.mpr ⟨List.pairwise_singleton _ _, h.A, fun x hx y hy => ?_⟩
  rw [List.mem_singleton.mp hx]
  rcases List.mem_append.mp hy with z | z
  · exact hf y (List.mem_of_mem_take z)
  · exact (List.pairwise_append.mp h2).2.2 _ (List.mem_singleton.mpr rfl) y z
end
section
variable {prog : Program} {w : World} {A : Around} {E : Value → Shared → Prop} {s : Shared} {κ : SortKind} {a0 : Array Keyed} {L : Keyed → Keyed → Bool}
theorem mergeHi_L (o : Ordr L) (hc : CmpL prog w A s κ a0 L) {a b : Array Keyed} {st : SortSt} {Q : Array Keyed → SortSt → Prop} (hk : Ok κ a0 st) (ha : In a0 a) (hb : In a0 b) (a1 : 1 ≤ a.size) (b1 : 1 ≤ b.size)
    (sda : Sd L a.toList) (sdb : Sd L b.toList) (hf : ∀ x ∈ a.toList, L x b[0] = false) (hl : ∀ y ∈ b.toList, L (a[a.size - 1]'(by omega)) y = false)
    (q : ∀ out st', out.Perm (a ++ b) → Sd L out.toList → SI κ a0 st st' → Q out st') : wpS (model prog w) A E s (mergeHi' a b) Q st := by
  have P0 : PH a b #[a[a.size - 1]] (a.size - 1) b.size := by
    have : PH a b #[] a.size b.size := by
      unfold PH
      rw [List.take_of_length_le (by simp), List.take_of_length_le (by simp)]
      simp
    exact this.downA (by omega) (by omega)
  have S0 : SH L a b #[a[a.size - 1]] (a.size - 1) b.size := by
    have : SH L a b #[] a.size b.size := by
      constructor
      · rw [List.take_of_length_le (by simp)]
        simpa using sda
      · rw [List.take_of_length_le (by simp)]
        simpa using sdb
    exact this.downA (by omega) (by omega) fun y hy => hl y (List.mem_of_mem_take hy)
  have ldb := fun (n : Nat) (h0 : 0 < n) (hi : n - 1 < b.size) => sdb.lastL o h0 hi
  have lda := fun (n : Nat) (h0 : 0 < n) (hi : n - 1 < a.size) => sda.lastL o h0 hi
  refine wpS_bind (wpS_lift (wpAny_rule ⟨rfl, ?_⟩))
  dsimp only
  refine wpS_bind (elem_ok (by omega) ?_)
  by_cases c1 : (a.size - 1 == 0) = true
  · rw [if_pos c1]
    simp only [beq_iff_eq] at c1
    exact wpS_pure (q _ _ P0.done (S0.doneA (by omega)) ⟨hk, rfl, rfl⟩)
  rw [if_neg c1]
  by_cases c2 : (b.size == 1) = true
  · rw [if_pos c2]
    simp only [beq_iff_eq] at c2
    exact wpS_pure (q _ _ P0.first (S0.first b1 (by omega) hf) ⟨hk, rfl, rfl⟩)
  rw [if_neg c2]
  simp only [beq_iff_eq] at c1 c2
  refine wpS_bind (wpS_get ?_)
  refine wpS_bind (wpS_mono (wpS_forRange (I := fun i c st' => SI κ a0 st st' ∧ ∃ (out : Array Keyed) (na nb g : Nat), c = (none, na, nb, out, g) ∧ (PH a b out na nb ∧ SH L a b out na nb) ∧ 1 ≤ na ∧ na ≤ a.size ∧ 2 ≤ nb ∧ nb ≤ b.size ∧ na + nb + i + 1 ≤ a.size + b.size)
    (Q := fun c st' => SI κ a0 st st' ∧ ∃ r : Array Keyed, c.1 = some r ∧ r.Perm (a ++ b) ∧ Sd L r.toList) ?step ?fin ⟨⟨hk, rfl, rfl⟩, _, _, _, _, rfl, ⟨P0, S0⟩, by omega, by omega, by omega, by omega, by omega⟩) ?post)
  case fin =>
    rintro c st' ⟨_, out, na, nb, g, _, _, h1, h1b, h2, h2b, h3⟩
    rw [Nat.zero_max] at h3
    omega
  case post =>
    rintro ⟨c, r4⟩ st' ⟨S, r, h, hp⟩
    dsimp only at h ⊢
    subst h
    exact wpS_pure (q _ _ hp.1 hp.2 S)
  case step =>
    rintro i c st1 _ hi ⟨S1, out, na, nb, g, rfl, P, h1, h1b, h2, h2b, h3⟩
    dsimp only
    refine wpS_bind (wpS_mono (wpS_forRange (I := fun j c st' => SI κ a0 st st' ∧ ∃ (out : Array Keyed) (ma mb x y : Nat), c = (none, ma, mb, out, x, y) ∧ (PH a b out ma mb ∧ SH L a b out ma mb) ∧ 1 ≤ ma ∧ ma ≤ a.size ∧ 2 ≤ mb ∧ mb ≤ b.size ∧ ma + mb + j ≤ na + nb)
      (Q := fun c st' => SI κ a0 st st' ∧ ((∃ r : Array Keyed, c.1 = some r ∧ r.Perm (a ++ b) ∧ Sd L r.toList) ∨ ∃ (out : Array Keyed) (ma mb x y : Nat), c = (none, ma, mb, out, x, y) ∧ (PH a b out ma mb ∧ SH L a b out ma mb) ∧ 1 ≤ ma ∧ ma ≤ a.size ∧ 2 ≤ mb ∧ mb ≤ b.size ∧ ma + mb + 1 ≤ na + nb)) ?step1 ?fin1 ⟨S1, _, _, _, _, _, rfl, P, h1, h1b, h2, h2b, by omega⟩) ?post1)
    case fin1 =>
      rintro c st' ⟨S, out, ma, mb, x, y, rfl, P, h1, h1b, h2, h2b, h3⟩
      rw [Nat.zero_max] at h3
      exact ⟨S, .inr ⟨out, ma, mb, x, y, rfl, P, h1, h1b, h2, h2b, by omega⟩⟩
    case step1 =>
      rintro j c st2 _ hj ⟨S2, out, ma, mb, x, y, rfl, P2, h1', h1b', h2', h2b', h3'⟩
      dsimp only
      refine wpS_bind (elem_ok (by omega) (wpS_bind (elem_ok (by omega) (wpS_bind (lt_L hc S2.ok.kind (hb _ (Array.getElem_mem _)) (ha _ (Array.getElem_mem _)) ?_)))))
      dsimp only
      cases bw : L (b[mb - 1]'(by omega)) (a[ma - 1]'(by omega)) with
      | true =>
        rw [if_pos rfl]
        refine wpS_bind (elem_ok (by omega) ?_)
        have P3 := P2.1.downA (by omega) (by omega)
        have Z3 := P2.2.downA (by omega) (by omega) fun y hy => o.tr y b[mb - 1] _ (ldb mb (by omega) (by omega) y hy) (o.asym _ _ bw)
        by_cases d1 : (ma - 1 == 0) = true
        · rw [if_pos d1]
          simp only [beq_iff_eq] at d1
          exact wpS_pure ⟨S2, .inl ⟨_, rfl, P3.done, Z3.doneA (by omega)⟩⟩
        rw [if_neg d1]
        simp only [beq_iff_eq] at d1
        split
        · exact wpS_pure ⟨S2, .inr ⟨_, _, _, _, _, rfl, ⟨P3, Z3⟩, by omega, by omega, by omega, by omega, by omega⟩⟩
        · exact wpS_pure ⟨S2, _, _, _, _, _, rfl, ⟨P3, Z3⟩, by omega, by omega, by omega, by omega, by omega⟩
      | false =>
        rw [if_neg Bool.false_ne_true]
        refine wpS_bind (elem_ok (by omega) ?_)
        have P3 := P2.1.downB (by omega) (by omega)
        have Z3 := P2.2.downB (by omega) (by omega) fun y hy => o.tr y a[ma - 1] _ (lda ma (by omega) (by omega) y hy) bw
        by_cases d1 : (mb - 1 == 1) = true
        · rw [if_pos d1]
          simp only [beq_iff_eq] at d1
          exact wpS_pure ⟨S2, .inl ⟨_, rfl, P3.first, Z3.first b1 (by omega) hf⟩⟩
        rw [if_neg d1]
        simp only [beq_iff_eq] at d1
        split
        · exact wpS_pure ⟨S2, .inr ⟨_, _, _, _, _, rfl, ⟨P3, Z3⟩, by omega, by omega, by omega, by omega, by omega⟩⟩
        · exact wpS_pure ⟨S2, _, _, _, _, _, rfl, ⟨P3, Z3⟩, by omega, by omega, by omega, by omega, by omega⟩
    case post1 =>
      rintro c st2 ⟨S2, ⟨r, h, hp⟩ | ⟨out, ma, mb, x, y, rfl, P2, h1', h1b', h2', h2b', h3'⟩⟩
      · obtain ⟨c1, cr⟩ := c
        dsimp only at h ⊢
        subst h
        exact wpS_pure ⟨S2, r, rfl, hp⟩
      dsimp only
      refine wpS_bind (wpS_lift (wpAny_rule ⟨rfl, ?_⟩))
      refine wpS_bind (wpS_mono (wpS_forRange (I := fun j c st' => SI κ a0 st st' ∧ ∃ (out : Array Keyed) (ma mb g x y : Nat), c = (none, ma, mb, out, g, x, y) ∧ (PH a b out ma mb ∧ SH L a b out ma mb) ∧ 1 ≤ ma ∧ ma ≤ a.size ∧ 2 ≤ mb ∧ mb ≤ b.size ∧ ma + mb + 1 ≤ na + nb)
        (Q := fun c st' => SI κ a0 st st' ∧ ((∃ r : Array Keyed, c.1 = some r ∧ r.Perm (a ++ b) ∧ Sd L r.toList) ∨ ∃ (out : Array Keyed) (ma mb g x y : Nat), c = (none, ma, mb, out, g, x, y) ∧ (PH a b out ma mb ∧ SH L a b out ma mb) ∧ 1 ≤ ma ∧ ma ≤ a.size ∧ 2 ≤ mb ∧ mb ≤ b.size ∧ ma + mb + 1 ≤ na + nb)) ?step2 ?fin2 ⟨S2, _, _, _, _, _, _, rfl, P2, h1', h1b', h2', h2b', h3'⟩) ?post2)
      case fin2 =>
        rintro c st' ⟨S, out, ma, mb, g, x, y, r⟩
        exact ⟨S, .inr ⟨out, ma, mb, g, x, y, r⟩⟩
      case post2 =>
        rintro c st3 ⟨S3, ⟨r, h, hp⟩ | ⟨out, ma, mb, g, x, y, rfl, P3, h1', h1b', h2', h2b', h3'⟩⟩
        · obtain ⟨c1, cr⟩ := c
          dsimp only at h ⊢
          subst h
          exact wpS_pure ⟨S3, r, rfl, hp⟩
        dsimp only
        refine wpS_bind (wpS_modify (wpS_pure ⟨⟨⟨S3.ok.kind, S3.ok.fail, S3.ok.perm⟩, S3.pend, S3.arr⟩, _, _, _, _, rfl, P3, by omega, by omega, by omega, by omega, by omega⟩))
      case step2 =>
        rintro j c st3 _ hj ⟨S3, out, ma, mb, g, x, y, rfl, ⟨P3, Z3⟩, h1', h1b', h2', h2b', h3'⟩
        dsimp only
        by_cases hg : g > 1
        case' pos => rw [if_pos hg]
        case' neg => rw [if_neg hg]
        all_goals
          refine wpS_bind (wpS_modify ?_)
          refine wpS_bind (elem_ok (by omega) ?_)
          refine wpS_bind (gallop_to o hc S3.ok.kind (hb _ (Array.getElem_mem _)) ha (by omega) (by omega) sda fun k hk kt kf => ?_)
          dsimp only
          have kf : ∀ y ∈ b.toList.take mb, ∀ x ∈ (a.extract k ma).toList, L x y = false := fun y hy x hx => o.tr y (b[mb - 1]'(by omega)) x (ldb mb (by omega) (by omega) y hy) (o.asym _ _ (bkR' (kf x hx)))
          have kt : ∀ x ∈ a.toList.take k, L (b[mb - 1]'(by omega)) x = false := fun x hx => bkR (kt x hx)
          by_cases hk0 : ma - k > 0
          case' pos =>
            rw [if_pos hk0]
            have P4 := P3.takeA hk
            have Z4 := Z3.takeA hk kf
            by_cases d1 : (k == 0) = true
            · rw [if_pos d1]
              simp only [beq_iff_eq] at d1
              exact wpS_pure ⟨⟨⟨S3.ok.kind, S3.ok.fail, S3.ok.perm⟩, S3.pend, S3.arr⟩, .inl ⟨_, rfl, P4.done, Z4.doneA (by omega)⟩⟩
            rw [if_neg d1]
            simp only [beq_iff_eq] at d1
            have hI : 1 ≤ k ∧ k ≤ a.size := by omega
            have hJ : k + mb + 1 ≤ na + nb := by omega
            generalize hX : ma - k = X
            generalize out ++ (a.extract k ma).reverse = OUT at P4 Z4
            clear hk0 hX hk kf
            generalize k = M at *
          case' neg =>
            rw [if_neg hk0]
            have P4 := P3
            have Z4 := Z3
            have ek : k = ma := by omega
            rw [ek] at kt
            have hI : 1 ≤ ma ∧ ma ≤ a.size := by omega
            have hJ : ma + mb + 1 ≤ na + nb := by omega
            generalize hX : ma - k = X
            generalize out = OUT at P4 Z4
            clear hk0 hX hk P3 Z3 h1' h1b' h3' kf ek
            generalize ma = M at *
          all_goals
            refine wpS_bind (elem_ok (by omega) ?_)
            have P5 := P4.downB (by omega) (by omega)
            have Z5 := Z4.downB (by omega) (by omega) kt
            by_cases d3 : (mb - 1 == 1) = true
            · rw [if_pos d3]
              simp only [beq_iff_eq] at d3
              exact wpS_pure ⟨⟨⟨S3.ok.kind, S3.ok.fail, S3.ok.perm⟩, S3.pend, S3.arr⟩, .inl ⟨_, rfl, P5.first, Z5.first b1 (by omega) hf⟩⟩
            rw [if_neg d3]
            simp only [beq_iff_eq] at d3
            refine wpS_bind (elem_ok (by omega) ?_)
            refine wpS_bind (gallop_to o hc S3.ok.kind (ha _ (Array.getElem_mem _)) hb (by omega) (by omega) sdb fun k2 hk2 kt2 kf2 => ?_)
            dsimp only
            have kf2 : ∀ y ∈ a.toList.take M, ∀ x ∈ (b.extract k2 (mb - 1)).toList, L x y = false := fun y hy x hx => o.tr y (a[M - 1]'(by omega)) x (lda M (by omega) (by omega) y hy) (show L x (a[M - 1]'(by omega)) = false from kf2 x hx)
            have kt2 : ∀ x ∈ b.toList.take k2, L (a[M - 1]'(by omega)) x = false := fun x hx => o.asym _ _ (show L x (a[M - 1]'(by omega)) = true from kt2 x hx)
            by_cases hk3 : mb - 1 - k2 > 0
            case' pos =>
              rw [if_pos hk3]
              have P6 := P5.takeB hk2
              have Z6 := Z5.takeB hk2 kf2
              by_cases d4 : (k2 == 1) = true
              · rw [if_pos d4]
                simp only [beq_iff_eq] at d4
                exact wpS_pure ⟨⟨⟨S3.ok.kind, S3.ok.fail, S3.ok.perm⟩, S3.pend, S3.arr⟩, .inl ⟨_, rfl, P6.first, Z6.first b1 (by omega) hf⟩⟩
              rw [if_neg d4]
              by_cases d5 : (k2 == 0) = true
              · rw [if_pos d5]
                simp only [beq_iff_eq] at d5
                exact wpS_pure ⟨⟨⟨S3.ok.kind, S3.ok.fail, S3.ok.perm⟩, S3.pend, S3.arr⟩, .inl ⟨_, rfl, P6.done, Z6.doneB (by omega)⟩⟩
              rw [if_neg d5]
              simp only [beq_iff_eq] at d4 d5
            case' neg =>
              rw [if_neg hk3]
              have P6 := P5
              have Z6 := Z5
              have ek2 : k2 = mb - 1 := by omega
              rw [ek2] at kt2
            all_goals
              refine wpS_bind (elem_ok (by omega) ?_)
              have P7 := P6.downA (by omega) (by omega)
              have Z7 := Z6.downA (by omega) (by omega) kt2
              by_cases d6 : (M - 1 == 0) = true
              · rw [if_pos d6]
                simp only [beq_iff_eq] at d6
                exact wpS_pure ⟨⟨⟨S3.ok.kind, S3.ok.fail, S3.ok.perm⟩, S3.pend, S3.arr⟩, .inl ⟨_, rfl, P7.done, Z7.doneA (by omega)⟩⟩
              rw [if_neg d6]
              simp only [beq_iff_eq] at d6
              split
              · exact wpS_pure ⟨⟨⟨S3.ok.kind, S3.ok.fail, S3.ok.perm⟩, S3.pend, S3.arr⟩, .inr ⟨_, _, _, _, _, _, rfl, ⟨P7, Z7⟩, by omega, by omega, by omega, by omega, by omega⟩⟩
              · exact wpS_pure ⟨⟨⟨S3.ok.kind, S3.ok.fail, S3.ok.perm⟩, S3.pend, S3.arr⟩, _, _, _, _, _, _, rfl, ⟨P7, Z7⟩, by omega, by omega, by omega, by omega, by omega⟩
end
end Tim
namespace Tim
open PySem PyProof.Rows
section
variable {L : Keyed → Keyed → Bool}
def RS (L : Keyed → Keyed → Bool) : List (Nat × Nat × Nat) → List Keyed → Prop
  | [], _ => True
  | r :: rest, l => Sd L (l.take r.2.1) ∧ RS L rest (l.drop r.2.1)
theorem Chain.ge : ∀ {rs : List (Nat × Nat × Nat)} {b e i : Nat} {x : Nat × Nat × Nat}, Chain rs b e → rs[i]? = some x → b ≤ x.1 ∧ x.1 + x.2.1 ≤ e
  | [], _, _, _, _, _, h => by simp at h
  | r :: rest, b, e, 0, x, h, h1 => by
    obtain rfl : r = x := by simpa using h1
    have := h.2.2.le
    have := h.1
    omega
  | r :: rest, b, e, i + 1, x, h, h1 => by
    have := h.2.2.ge (i := i) (by simpa using h1)
    omega
theorem RS.at : ∀ {rs : List (Nat × Nat × Nat)} {b e i : Nat} {x : Nat × Nat × Nat} {l : List Keyed}, Chain rs b e → RS L rs l → rs[i]? = some x → Sd L ((l.drop (x.1 - b)).take x.2.1)
  | [], _, _, _, _, _, _, _, h => by simp at h
  | r :: rest, b, e, 0, x, l, c, h, h1 => by
    obtain rfl : r = x := by simpa using h1
    rw [show r.1 - b = 0 by have := c.1; omega, List.drop_zero]
    exact h.1
  | r :: rest, b, e, i + 1, x, l, c, h, h1 => by
    have h1 : rest[i]? = some x := by simpa using h1
    have g := c.2.2.ge h1
    have := RS.at c.2.2 h.2 h1
    rw [List.drop_drop, show r.2.1 + (x.1 - (b + r.2.1)) = x.1 - b by omega] at this
    exact this
theorem RS.put : ∀ {rs : List (Nat × Nat × Nat)} {b e i : Nat} {x y : Nat × Nat × Nat} {l M : List Keyed}, Chain rs b e → RS L rs l → e - b ≤ l.length → rs[i]? = some x → rs[i + 1]? = some y → M.length = x.2.1 + y.2.1 → Sd L M →
    RS L ((rs.set i (x.1, x.2.1 + y.2.1, x.2.2)).eraseIdx (i + 1)) (l.take (x.1 - b) ++ (M ++ l.drop (x.1 - b + (x.2.1 + y.2.1))))
  | [], _, _, _, _, _, _, _, _, _, _, h, _, _, _ => by simp at h
  | r :: rest, b, e, 0, x, y, l, M, c, h, hl, h1, h2, hM, sM => by
    obtain rfl : r = x := by simpa using h1
    cases rest with
    | nil => simp at h2
    | cons r2 rest =>
      obtain rfl : r2 = y := by simpa using h2
      rw [show r.1 - b = 0 by have := c.1; omega, List.take_zero, List.nil_append, show 0 + (r.2.1 + r2.2.1) = r.2.1 + r2.2.1 from Nat.zero_add _]
      show Sd L ((M ++ l.drop (r.2.1 + r2.2.1)).take (r.2.1 + r2.2.1)) ∧ RS L rest ((M ++ l.drop (r.2.1 + r2.2.1)).drop (r.2.1 + r2.2.1))
      rw [← hM, List.take_left', List.drop_left', hM]
      · refine ⟨sM, ?_⟩
        have := h.2.2
        rw [List.drop_drop] at this
        exact this
      · rfl
      · rfl
  | r :: rest, b, e, i + 1, x, y, l, M, c, h, hl, h1, h2, hM, sM => by
    have h1 : rest[i]? = some x := by simpa using h1
    have h2 : rest[i + 1]? = some y := by simpa using h2
    have g := c.2.2.ge h1
    have g2 := c.2.2.ge h2
    have hl2 : e - (b + r.2.1) ≤ (l.drop r.2.1).length := by rw [List.length_drop]; omega
    have ih := RS.put c.2.2 h.2 hl2 h1 h2 hM sM
    have e1 : x.1 - b = r.2.1 + (x.1 - (b + r.2.1)) := by omega
    rw [List.drop_drop] at ih
    show RS L (r :: (rest.set i _).eraseIdx (i + 1)) _
    refine ⟨?_, ?_⟩
    · rw [List.take_append_of_le_length (by rw [List.length_take]; omega), List.take_take, Nat.min_eq_left (by omega)]
      exact h.1
    · have e2 : (l.take (x.1 - b) ++ (M ++ l.drop (x.1 - b + (x.2.1 + y.2.1)))).drop r.2.1 = (l.drop r.2.1).take (x.1 - (b + r.2.1)) ++ (M ++ l.drop (r.2.1 + (x.1 - (b + r.2.1) + (x.2.1 + y.2.1)))) := by
        rw [List.drop_append_of_le_length (by rw [List.length_take]; omega), List.drop_take, show x.1 - b - r.2.1 = x.1 - (b + r.2.1) by omega, show x.1 - b + (x.2.1 + y.2.1) = r.2.1 + (x.1 - (b + r.2.1) + (x.2.1 + y.2.1)) by omega]
      rw [e2]
      exact ih
theorem RS.snoc : ∀ {rs : List (Nat × Nat × Nat)} {b e n p : Nat} {l : List Keyed}, Chain rs b e → RS L rs l → Sd L ((l.drop (e - b)).take n) → RS L (rs ++ [(e, n, p)]) l
  | [], b, e, n, p, l, c, _, h => by
    have c : b = e := c
    rw [show e - b = 0 by omega, List.drop_zero] at h
    exact ⟨h, trivial⟩
  | r :: rest, b, e, n, p, l, c, h, hs => by
    have := c.2.2.le
    refine ⟨h.1, RS.snoc c.2.2 h.2 ?_⟩
    rw [List.drop_drop, show r.2.1 + (e - (b + r.2.1)) = e - b by omega]
    exact hs
theorem RS.mod : ∀ {rs : List (Nat × Nat × Nat)} {l : List Keyed} (i pw : Nat), RS L rs l → RS L (rs.modify i fun x => (x.1, x.2.1, pw)) l
  | [], _, i, _, h => by cases i <;> exact h
  | _ :: _, _, 0, _, h => h
  | _ :: _, _, i + 1, pw, h => ⟨h.1, h.2.mod i pw⟩
theorem RS.same : ∀ {rs : List (Nat × Nat × Nat)} {b e : Nat} {l l' : List Keyed}, Chain rs b e → RS L rs l → l'.take (e - b) = l.take (e - b) → RS L rs l'
  | [], _, _, _, _, _, _, _ => trivial
  | r :: rest, b, e, l, l', c, h, hs => by
    have := c.2.2.le
    refine ⟨?_, RS.same c.2.2 h.2 ?_⟩
    · have := congrArg (List.take r.2.1) hs
      rw [List.take_take, List.take_take, Nat.min_eq_left (by omega)] at this
      rw [this]
      exact h.1
    · have := congrArg (List.drop r.2.1) hs
      rw [List.drop_take, List.drop_take] at this
      rw [show e - (b + r.2.1) = e - b - r.2.1 by omega]
      exact this
theorem merged (o : Ordr L) {A B out : List Keyed} {k k2 : Nat} {b0 al : Keyed} (sA : Sd L A) (sB : Sd L B) (hb : ∀ y ∈ B, L y b0 = false) (hal : ∀ x ∈ A, L al x = false)
    (t1 : ∀ x ∈ A.take k, L b0 x = false) (f2 : ∀ x ∈ B.drop k2, L x al = false) (so : Sd L out) (hp : out.Perm (A.drop k ++ B.take k2)) : Sd L (A.take k ++ (out ++ B.drop k2)) := by
  have sA2 : Sd L (A.take k ++ A.drop k) := by rw [List.take_append_drop]; exact sA
  have sB2 : Sd L (B.take k2 ++ B.drop k2) := by rw [List.take_append_drop]; exact sB
  obtain ⟨a1, a2, a3⟩ := List.pairwise_append.mp sA2
  obtain ⟨b1, b2, b3⟩ := List.pairwise_append.mp sB2
  have om : ∀ x ∈ out, x ∈ A.drop k ∨ x ∈ B.take k2 := fun x hx => List.mem_append.mp (hp.mem_iff.mp hx)
  refine List.pairwise_append.mpr ⟨a1, List.pairwise_append.mpr ⟨so, b2, fun x hx y hy => ?_⟩, fun x hx y hy => ?_⟩
  · rcases om x hx with z | z
    · exact o.tr x al y (hal x (List.mem_of_mem_drop z)) (f2 y hy)
    · exact b3 x z y hy
  · have inB : y ∈ B → L y x = false := fun z => o.tr x b0 y (t1 x hx) (hb y z)
    rcases List.mem_append.mp hy with z | z
    · rcases om y z with z | z
      · exact a3 x hx y z
      · exact inB (List.mem_of_mem_take z)
    · exact inB (List.mem_of_mem_drop z)
end
section
variable {prog : Program} {w : World} {A : Around} {E : Value → Shared → Prop} {s : Shared} {κ : SortKind} {a0 : Array Keyed} {L : Keyed → Keyed → Bool}
theorem mergeAt_L (o : Ordr L) (hc : CmpL prog w A s κ a0 L) {i lo : Nat} {st : SortSt} {Q : Bool → SortSt → Prop} (ok : Ok κ a0 st) (hr : Chain (pendingOf st).toList 0 lo) (hs : RS L (pendingOf st).toList (arrOf st).toList) (hlo : lo ≤ a0.size) (hi : i + 1 < (pendingOf st).size)
    (q : ∀ st', Ok κ a0 st' → Chain (pendingOf st').toList 0 lo → RS L (pendingOf st').toList (arrOf st').toList → (arrOf st').toList.drop lo = (arrOf st).toList.drop lo → (pendingOf st').size + 1 = (pendingOf st).size → Q true st') : wpS (model prog w) A E s (mergeAt' i) Q st := by
  have e1 : (pendingOf st)[i]? = some (pendingOf st)[i] := Array.getElem?_eq_getElem (by omega)
  have e2 : (pendingOf st)[i + 1]? = some (pendingOf st)[i + 1] := Array.getElem?_eq_getElem hi
  generalize (pendingOf st)[i] = x at e1
  generalize (pendingOf st)[i + 1] = y at e2
  have el1 : (pendingOf st).toList[i]? = some x := by rw [Array.getElem?_toList]; exact e1
  have el2 : (pendingOf st).toList[i + 1]? = some y := by rw [Array.getElem?_toList]; exact e2
  obtain ⟨g1, g2, g3, g4, g5⟩ := hr.merge el1 el2
  have hsz : (arrOf st).size = a0.size := ok.perm.size_eq
  have sA := RS.at hr hs el1
  have sB := RS.at hr hs el2
  have put := fun (M : List Keyed) => RS.put (M := M) hr hs (by rw [Array.length_toList]; omega) el1 el2
  obtain ⟨sa, na, pw⟩ := x
  obtain ⟨sb, nb, pw2⟩ := y
  dsimp only at g1 g2 g3 g4 g5 sA sB put
  rw [Nat.sub_zero] at sA sB
  simp only [Nat.sub_zero] at put
  have hin : In a0 (arrOf st) := fun z hz => ok.perm.mem_iff.mp hz
  refine wpS_bind (wpS_get ?_)
  show wpS _ _ _ _ (match ((pendingOf st)[i]?, (pendingOf st)[i + 1]?) with | _ => _) Q st
  rw [e1, e2]
  dsimp only
  have pe : ((((pendingOf st).setIfInBounds i (sa, na + nb, pw)).eraseIdxIfInBounds (i + 1)).toList) = ((pendingOf st).toList.set i (sa, na + nb, pw)).eraseIdx (i + 1) := by
    rw [Array.eraseIdxIfInBounds_eq]
    simp [hi]
  have ps : (((pendingOf st).setIfInBounds i (sa, na + nb, pw)).eraseIdxIfInBounds (i + 1)).size + 1 = (pendingOf st).size := by
    have := congrArg List.length pe
    rw [Array.length_toList, List.length_eraseIdx_of_lt (by simpa using hi), List.length_set, Array.length_toList] at this
    omega
  have okn : ∀ (pp : Array (Nat × Nat × Nat)) (g : Nat), Ok κ a0 (SortSt.mk' (kindOf st) (arrOf st) pp g (failedOf st)) := fun _ _ => ⟨ok.kind, ok.fail, ok.perm⟩
  refine wpS_bind (wpS_set ?_)
  -- the two runs, as lists
  have lA : (((arrOf st).toList.drop sa).take na).length = na := by rw [List.length_take, List.length_drop, Array.length_toList]; omega
  have lB : (((arrOf st).toList.drop sb).take nb).length = nb := by rw [List.length_take, List.length_drop, Array.length_toList]; omega
  have whole : (arrOf st).toList = (arrOf st).toList.take sa ++ ((((arrOf st).toList.drop sa).take na ++ ((arrOf st).toList.drop sb).take nb) ++ (arrOf st).toList.drop (sa + (na + nb))) := by
    have t1 : (arrOf st).toList.drop sa = ((arrOf st).toList.drop sa).take na ++ (arrOf st).toList.drop sb := by
      conv => lhs; rw [← List.take_append_drop na ((arrOf st).toList.drop sa), List.drop_drop]
      rw [g1]
    have t2 : (arrOf st).toList.drop sb = ((arrOf st).toList.drop sb).take nb ++ (arrOf st).toList.drop (sa + (na + nb)) := by
      conv => lhs; rw [← List.take_append_drop nb ((arrOf st).toList.drop sb), List.drop_drop]
      rw [show sb + nb = sa + (na + nb) by omega]
    rw [List.append_assoc, ← t2, ← t1, List.take_append_drop]
  have headB : ∀ y ∈ ((arrOf st).toList.drop sb).take nb, L y ((arrOf st)[sb]'(by omega)) = false := fun y hy => by
    obtain ⟨j, hj, rfl⟩ := List.mem_iff_getElem.mp hy
    rw [lB] at hj
    have e0 : (arrOf st)[sb]'(by omega) = (((arrOf st).toList.drop sb).take nb)[0]'(by omega) := by
      rw [List.getElem_take, List.getElem_drop, Array.getElem_toList]
      rfl
    rw [e0]
    by_cases z : j = 0
    · subst z; exact o.irr _
    · exact List.pairwise_iff_getElem.mp sB 0 j (by omega) (by omega) (by omega)
  have leaf : Sd L (((arrOf st).toList.drop sa).take na ++ ((arrOf st).toList.drop sb).take nb) → Q true (SortSt.mk' (kindOf st) (arrOf st) (((pendingOf st).setIfInBounds i (sa, na + nb, pw)).eraseIdxIfInBounds (i + 1)) (gallopOf st) (failedOf st)) := fun sM => by
    refine q _ (okn _ _) (by show Chain (Array.toList _) 0 lo; rw [pe]; exact g5) ?_ rfl ps
    have := put _ (by rw [List.length_append, lA, lB]) sM
    rw [← whole] at this
    show RS L (Array.toList _) _
    rw [pe]
    exact this
  refine wpS_bind (elem_ok (show sb < (arrOf st).size by omega) ?_)
  refine wpS_bind (gallop_L o hc ok.kind (hin _ (Array.getElem_mem _)) hin (show sa + na ≤ (arrOf st).size by omega) (by omega) sA fun k hk kt kf => ?_)
  dsimp only
  have kt : ∀ x ∈ (((arrOf st).toList.drop sa).take na).take k, L ((arrOf st)[sb]'(by omega)) x = false := fun x hx => bkR (kt x hx)
  have kf : ∀ x ∈ (((arrOf st).toList.drop sa).take na).drop k, L ((arrOf st)[sb]'(by omega)) x = true := fun x hx => bkR' (kf x hx)
  by_cases d1 : (na - k == 0) = true
  · rw [if_pos d1]
    simp only [beq_iff_eq] at d1
    refine wpS_pure (leaf (List.pairwise_append.mpr ⟨sA, sB, fun x hx y hy => ?_⟩))
    rw [List.take_of_length_le (by omega)] at kt
    exact o.tr x _ y (kt x hx) (headB y hy)
  rw [if_neg d1]
  simp only [beq_iff_eq] at d1
  have ila : sa + k + (na - k) - 1 < (arrOf st).size := by omega
  have lastA : ∀ y ∈ ((arrOf st).toList.drop sa).take na, L ((arrOf st)[sa + k + (na - k) - 1]'ila) y = false := fun y hy => by
    obtain ⟨j, hj, rfl⟩ := List.mem_iff_getElem.mp hy
    rw [lA] at hj
    have e0 : (arrOf st)[sa + k + (na - k) - 1]'ila = (((arrOf st).toList.drop sa).take na)[na - 1]'(by omega) := by
      rw [List.getElem_take, List.getElem_drop, Array.getElem_toList]
      congr 1
      omega
    rw [e0]
    by_cases z : j = na - 1
    · subst z; exact o.irr _
    · exact List.pairwise_iff_getElem.mp sA j (na - 1) (by omega) (by omega) (by omega)
  refine wpS_bind (elem_ok ila ?_)
  refine wpS_bind (gallop_L o hc ok.kind (hin _ (Array.getElem_mem _)) hin (show sb + nb ≤ (arrOf st).size by omega) (by omega) sB fun k2 hk2 kt2 kf2 => ?_)
  dsimp only
  have kt2 : ∀ x ∈ (((arrOf st).toList.drop sb).take nb).take k2, L x ((arrOf st)[sa + k + (na - k) - 1]'ila) = true := fun x hx => kt2 x hx
  have kf2 : ∀ x ∈ (((arrOf st).toList.drop sb).take nb).drop k2, L x ((arrOf st)[sa + k + (na - k) - 1]'ila) = false := fun x hx => kf2 x hx
  by_cases d2 : (k2 == 0) = true
  · rw [if_pos d2]
    simp only [beq_iff_eq] at d2
    refine wpS_pure (leaf (List.pairwise_append.mpr ⟨sA, sB, fun x hx y hy => ?_⟩))
    rw [d2, List.drop_zero] at kf2
    exact o.tr x _ y (lastA x hx) (kf2 y hy)
  rw [if_neg d2]
  simp only [beq_iff_eq] at d2
  have xs : ((arrOf st).extract (sa + k) sb).size = na - k := by rw [Array.size_extract]; omega
  have ys : ((arrOf st).extract sb (sb + k2)).size = k2 := by rw [Array.size_extract]; omega
  have xl : ((arrOf st).extract (sa + k) sb).toList = (((arrOf st).toList.drop sa).take na).drop k := by
    rw [Array.toList_extract, List.extract_eq_take_drop, List.drop_take, List.drop_drop]
    congr 1
    omega
  have yl : ((arrOf st).extract sb (sb + k2)).toList = (((arrOf st).toList.drop sb).take nb).take k2 := by
    rw [Array.toList_extract, List.extract_eq_take_drop, List.take_take, Nat.min_eq_left hk2]
    congr 1
    omega
  have inx : In a0 ((arrOf st).extract (sa + k) sb) := fun z hz => hin z (by
    rw [← Array.mem_toList_iff] at hz ⊢
    rw [Array.toList_extract, List.extract_eq_take_drop] at hz
    exact List.mem_of_mem_drop (List.mem_of_mem_take hz))
  have iny : In a0 ((arrOf st).extract sb (sb + k2)) := fun z hz => hin z (by
    rw [← Array.mem_toList_iff] at hz ⊢
    rw [Array.toList_extract, List.extract_eq_take_drop] at hz
    exact List.mem_of_mem_drop (List.mem_of_mem_take hz))
  have sdx : Sd L ((arrOf st).extract (sa + k) sb).toList := by rw [xl]; exact sA.drop k
  have sdy : Sd L ((arrOf st).extract sb (sb + k2)).toList := by rw [yl]; exact sB.take k2
  have y0 : ∀ h : 0 < ((arrOf st).extract sb (sb + k2)).size, ((arrOf st).extract sb (sb + k2))[0] = (arrOf st)[sb]'(by omega) := fun h => by
    rw [Array.getElem_extract]
    rfl
  have xla : ∀ (j : Nat) (h : j < ((arrOf st).extract (sa + k) sb).size), j + 1 = ((arrOf st).extract (sa + k) sb).size → ((arrOf st).extract (sa + k) sb)[j] = (arrOf st)[sa + k + (na - k) - 1]'ila := fun j h e => by
    rw [Array.getElem_extract]
    congr 1
    omega
  have fin : ∀ (out : Array Keyed) (st' : SortSt), out.Perm ((arrOf st).extract (sa + k) sb ++ (arrOf st).extract sb (sb + k2)) → Sd L out.toList → SI κ a0 (SortSt.mk' (kindOf st) (arrOf st) (((pendingOf st).setIfInBounds i (sa, na + nb, pw)).eraseIdxIfInBounds (i + 1)) (gallopOf st) (failedOf st)) st' →
      Q true (SortSt.mk' (kindOf st') ((out.toList.zipIdx).foldl (fun a (x : Keyed × Nat) => a.setIfInBounds (sa + k + x.2) x.1) (arrOf st')) (pendingOf st') (gallopOf st') (failedOf st')) := by
    intro out st' hp so S
    have ea : arrOf st' = arrOf st := S.arr
    have ep : pendingOf st' = ((pendingOf st).setIfInBounds i (sa, na + nb, pw)).eraseIdxIfInBounds (i + 1) := S.pend
    have ol : out.toList.length = na - k + k2 := by
      rw [Array.length_toList, hp.size_eq, Array.size_append, xs, ys]
    have pa := put_all (sa + k) out.toList (arrOf st) 0 (by rw [ol]; omega)
    rw [Nat.add_zero] at pa
    have e4 : sa + k + out.toList.length = sb + k2 := by omega
    have hpl : out.toList.Perm ((((arrOf st).toList.drop sa).take na).drop k ++ (((arrOf st).toList.drop sb).take nb).take k2) := by
      have := Array.perm_iff_toList_perm.mp hp
      rw [Array.toList_append, xl, yl] at this
      exact this
    have sM := merged o sA sB headB lastA kt kf2 so hpl
    -- what lies now
    have now : ((out.toList.zipIdx).foldl (fun a (x : Keyed × Nat) => a.setIfInBounds (sa + k + x.2) x.1) (arrOf st)).toList = (arrOf st).toList.take sa ++ (((((arrOf st).toList.drop sa).take na).take k ++ (out.toList ++ (((arrOf st).toList.drop sb).take nb).drop k2)) ++ (arrOf st).toList.drop (sa + (na + nb))) := by
      rw [pa, e4]
      have t1 : (arrOf st).toList.take (sa + k) = (arrOf st).toList.take sa ++ (((arrOf st).toList.drop sa).take na).take k := by
        rw [List.take_add, List.take_take, Nat.min_eq_left hk]
      have t2 : (arrOf st).toList.drop (sb + k2) = (((arrOf st).toList.drop sb).take nb).drop k2 ++ (arrOf st).toList.drop (sa + (na + nb)) := by
        rw [List.drop_take, List.drop_drop]
        conv => lhs; rw [← List.take_append_drop (nb - k2) ((arrOf st).toList.drop (sb + k2)), List.drop_drop]
        rw [show sb + k2 + (nb - k2) = sa + (na + nb) by omega]
      rw [t1, t2]
      simp only [List.append_assoc]
    refine q _ ⟨S.ok.kind, S.ok.fail, ?_⟩ ?_ ?_ ?_ ?_
    · show Array.Perm (List.foldl _ _ _) a0
      refine Array.Perm.trans ?_ ok.perm
      rw [Array.perm_iff_toList_perm, ea, now]
      conv => rhs; rw [whole]
      refine List.Perm.append_left _ (List.Perm.append_right _ ?_)
      have t3 : (((arrOf st).toList.drop sa).take na) ++ ((arrOf st).toList.drop sb).take nb = (((arrOf st).toList.drop sa).take na).take k ++ (((((arrOf st).toList.drop sa).take na).drop k ++ (((arrOf st).toList.drop sb).take nb).take k2) ++ (((arrOf st).toList.drop sb).take nb).drop k2) := by
        rw [List.append_assoc, List.take_append_drop, ← List.append_assoc, List.take_append_drop]
      rw [t3]
      exact List.Perm.append_left _ (List.Perm.append_right _ hpl)
    · show Chain (pendingOf st').toList 0 lo
      rw [ep, pe]
      exact g5
    · show RS L (pendingOf st').toList (Array.toList (List.foldl _ _ _))
      rw [ep, pe, ea, now]
      refine put _ ?_ sM
      rw [List.length_append, List.length_append, List.length_take, lA, ol, List.length_drop, lB]
      omega
    · show (Array.toList (List.foldl _ _ _)).drop lo = _
      rw [ea, pa, e4, ← List.append_assoc, List.drop_append]
      have l1 : ((arrOf st).toList.take (sa + k) ++ out.toList).length = sb + k2 := by
        rw [List.length_append, List.length_take, ol, Array.length_toList]
        omega
      rw [List.drop_of_length_le (by rw [l1]; omega), l1, List.nil_append, List.drop_drop]
      congr 1
      omega
    · show (pendingOf st').size + 1 = _
      rw [ep]
      exact ps
  have hf : ∀ x ∈ ((arrOf st).extract (sa + k) sb).toList, L x (((arrOf st).extract sb (sb + k2))[0]'(by omega)) = false := fun x hx => by
    rw [y0, xl] at *
    exact o.asym _ _ (kf x hx)
  have hl : ∀ (j : Nat) (h : j < ((arrOf st).extract (sa + k) sb).size), j + 1 = ((arrOf st).extract (sa + k) sb).size → ∀ y ∈ ((arrOf st).extract sb (sb + k2)).toList, L ((arrOf st).extract (sa + k) sb)[j] y = false := fun j h e y hy => by
    rw [xla j h e]
    rw [yl] at hy
    exact o.asym _ _ (kt2 y hy)
  have hl' := hl (((arrOf st).extract (sa + k) sb).size - 1) (by omega) (by omega)
  by_cases d3 : na - k ≤ k2
  · rw [if_pos d3]
    refine wpS_bind (mergeLo_L o hc (okn _ _) inx iny (show 1 ≤ ((arrOf st).extract (sa + k) sb).size by omega) (show 1 ≤ ((arrOf st).extract sb (sb + k2)).size by omega) sdx sdy hf hl fun out st' hp so S => ?_)
    refine wpS_bind (wpS_modify (wpS_bind (wpS_get (wpS_pure ?_))))
    have := S.ok.fail
    show Q (failedOf st').isNone _
    rw [this]
    exact fin out st' hp so S
  · rw [if_neg d3]
    refine wpS_bind (mergeHi_L o hc (okn _ _) inx iny (show 1 ≤ ((arrOf st).extract (sa + k) sb).size by omega) (show 1 ≤ ((arrOf st).extract sb (sb + k2)).size by omega) sdx sdy hf hl' fun out st' hp so S => ?_)
    refine wpS_bind (wpS_modify (wpS_bind (wpS_get (wpS_pure ?_))))
    have := S.ok.fail
    show Q (failedOf st').isNone _
    rw [this]
    exact fin out st' hp so S
end
end Tim
namespace Tim
open PySem PyProof.Rows
def G (arr : Array Keyed) (i : Nat) : Keyed := arr[i]?.getD (Value.none, Value.none)
theorem G_congr {a b : Array Keyed} {i j : Nat} (h : a[i]? = b[j]?) : G a i = G b j := by unfold G; rw [h]
theorem G_at {a : Array Keyed} {i : Nat} (h : i < a.size) : a[i] = G a i := by unfold G; rw [Array.getElem?_eq_getElem h]; rfl
section
variable {L : Keyed → Keyed → Bool}
def Srt (L : Keyed → Keyed → Bool) (arr : Array Keyed) (lo n : Nat) : Prop := ∀ i j, lo ≤ i → i ≤ j → j < lo + n → L (G arr j) (G arr i) = false
def Dsc (L : Keyed → Keyed → Bool) (arr : Array Keyed) (lo n : Nat) : Prop := ∀ i j, lo ≤ i → i ≤ j → j < lo + n → L (G arr i) (G arr j) = false
def Alk (L : Keyed → Keyed → Bool) (arr : Array Keyed) (i j : Nat) : Prop := ∀ p q, i ≤ p → p < j → i ≤ q → q < j → L (G arr p) (G arr q) = false
theorem Srt.one (o : Ordr L) {arr : Array Keyed} {lo : Nat} : Srt L arr lo 1 := fun i j h1 h2 h3 => by
  have : i = j := by omega
  subst this
  exact o.irr _
theorem Srt.snoc (o : Ordr L) {arr : Array Keyed} {lo n : Nat} (h1 : 1 ≤ n) (h : Srt L arr lo n) (hl : L (G arr (lo + n)) (G arr (lo + n - 1)) = false) : Srt L arr lo (n + 1) := fun i j a b c => by
  by_cases e : j < lo + n
  · exact h i j a b e
  · have ej : j = lo + n := by omega
    subst ej
    by_cases e2 : i = lo + n
    · rw [e2]; exact o.irr _
    · exact o.tr _ _ _ (h i (lo + n - 1) a (by omega) (by omega)) hl
theorem Dsc.snoc (o : Ordr L) {arr : Array Keyed} {lo n : Nat} (h1 : 1 ≤ n) (h : Dsc L arr lo n) (hl : L (G arr (lo + n - 1)) (G arr (lo + n)) = false) : Dsc L arr lo (n + 1) := fun i j a b c => by
  by_cases e : j < lo + n
  · exact h i j a b e
  · have ej : j = lo + n := by omega
    subst ej
    by_cases e2 : i = lo + n
    · rw [e2]; exact o.irr _
    · exact o.tr _ _ _ hl (h i (lo + n - 1) a (by omega) (by omega))
theorem G_mir {arr : Array Keyed} {i j : Nat} (hj : j ≤ arr.size) (k : Nat) : G (mirror arr i j ((j - i) / 2)) k = if i ≤ k ∧ k < j then G arr (i + j - 1 - k) else G arr k := by
  have e := getElem?_mirror_all (i := i) hj k
  by_cases h1 : i ≤ k ∧ k < j
  · rw [if_pos h1] at e ⊢; exact G_congr e
  · rw [if_neg h1] at e ⊢; exact G_congr e
theorem Alk.mir (o : Ordr L) {arr : Array Keyed} {i j : Nat} (hj : j ≤ arr.size) (h : Alk L arr i j) (k : Nat) : L (G (mirror arr i j ((j - i) / 2)) k) (G arr k) = false ∧ L (G arr k) (G (mirror arr i j ((j - i) / 2)) k) = false := by
  rw [G_mir hj]
  split
  · rename_i c
    exact ⟨h _ _ (by omega) (by omega) c.1 c.2, h _ _ c.1 c.2 (by omega) (by omega)⟩
  · exact ⟨o.irr _, o.irr _⟩
theorem Dsc.like (o : Ordr L) {a b : Array Keyed} {lo n : Nat} (h : Dsc L a lo n) (e : ∀ k, L (G b k) (G a k) = false ∧ L (G a k) (G b k) = false) : Dsc L b lo n := fun i j x y z =>
  o.tr _ _ _ (e j).2 (o.tr _ _ _ (h i j x y z) (e i).1)
theorem Dsc.rev {arr : Array Keyed} {lo n : Nat} (hj : lo + n ≤ arr.size) (h : Dsc L arr lo n) : Srt L (mirror arr lo (lo + n) ((lo + n - lo) / 2)) lo n := fun i j a b c => by
  rw [G_mir hj, G_mir hj, if_pos (by omega), if_pos (by omega)]
  exact h _ _ (by omega) (by omega) (by omega)
theorem Srt.sd {arr : Array Keyed} {lo n : Nat} (hn : lo + n ≤ arr.size) (h : Srt L arr lo n) : Sd L ((arr.toList.drop lo).take n) := by
  refine List.pairwise_iff_getElem.mpr fun i j hi hj hij => ?_
  rw [List.length_take] at hi hj
  rw [List.getElem_take, List.getElem_take, List.getElem_drop, List.getElem_drop, Array.getElem_toList, Array.getElem_toList, G_at, G_at]
  exact h _ _ (by omega) (by omega) (by omega)
end
def Low (lo : Nat) (a b : Array Keyed) : Prop := ∀ p, p < lo → b[p]? = a[p]?
theorem Low.refl (lo : Nat) (a : Array Keyed) : Low lo a a := fun _ _ => rfl
theorem Low.trans {lo : Nat} {a b c : Array Keyed} (x : Low lo a b) (y : Low lo b c) : Low lo a c := fun p hp => (y p hp).trans (x p hp)
theorem Low.mir {lo i j : Nat} {a : Array Keyed} (hi : lo ≤ i) (hj : j ≤ a.size) : Low lo a (mirror a i j ((j - i) / 2)) := fun p hp => by
  rw [getElem?_mirror_all hj, if_neg (by omega)]
theorem Low.take {lo : Nat} {a b : Array Keyed} (h : Low lo a b) : b.toList.take lo = a.toList.take lo := by
  apply List.ext_getElem?
  intro i
  rw [List.getElem?_take, List.getElem?_take]
  split
  · rename_i c
    rw [Array.getElem?_toList, Array.getElem?_toList]
    exact h i c
  · rfl
section
variable {prog : Program} {w : World} {A : Around} {E : Value → Shared → Prop} {s : Shared} {κ : SortKind} {a0 : Array Keyed} {L : Keyed → Keyed → Bool}
theorem ltAt_L (hc : CmpL prog w A s κ a0 L) {i j : Nat} {st : SortSt} {Q : Option Bool → SortSt → Prop} (ok : Ok κ a0 st) (hi : i < a0.size) (hj : j < a0.size) (q : Q (some (L (G (arrOf st) i) (G (arrOf st) j))) st) : wpS (model prog w) A E s (ltAt' i j) Q st := by
  rw [ltAt'_eq]
  refine wpS_bind (wpS_get ?_)
  have h1 : i < (arrOf st).size := by rw [ok.perm.size_eq]; exact hi
  have h2 : j < (arrOf st).size := by rw [ok.perm.size_eq]; exact hj
  refine wpS_bind (elem_ok h1 (wpS_bind (elem_ok h2 ?_)))
  refine lt_L hc ok.kind (ok.perm.mem_iff.mp (Array.getElem_mem h1)) (ok.perm.mem_iff.mp (Array.getElem_mem h2)) ?_
  rw [G_at h1, G_at h2]
  exact q
theorem rev_L {i j : Nat} {st : SortSt} {Q : Unit → SortSt → Prop} (ok : Ok κ a0 st) (q : ∀ st', Ok κ a0 st' → pendingOf st' = pendingOf st → arrOf st' = mirror (arrOf st) i j ((j - i) / 2) → Q () st') : wpS (model prog w) A E s (reverseSlice' i j) Q st := by
  rw [reverseSlice'_eq]
  exact wpS_modify (q _ ⟨ok.kind, ok.fail, (mirror_perm _ _ _ _).trans ok.perm⟩ rfl rfl)
theorem bin_L (o : Ordr L) (hc : CmpL prog w A s κ a0 L) {lo n k0 : Nat} {st : SortSt} {Q : Bool → SortSt → Prop} (ok : Ok κ a0 st) (hn : lo + n ≤ a0.size) (hk0 : k0 ≤ n) (sr : Srt L (arrOf st) lo k0)
    (q : ∀ st', Ok κ a0 st' → pendingOf st' = pendingOf st → Srt L (arrOf st') lo n → Low lo (arrOf st) (arrOf st') → Q true st') : wpS (model prog w) A E s (binarySort' lo n k0) Q st := by
  rw [binarySort'_eq]
  refine wpS_bind (wpS_mono (wpS_forRange (I := fun k c st' => c.1 = none ∧ Ok κ a0 st' ∧ pendingOf st' = pendingOf st ∧ Srt L (arrOf st') lo (min k n) ∧ Low lo (arrOf st) (arrOf st')) (Q := fun c st' => c.1 = none ∧ Ok κ a0 st' ∧ pendingOf st' = pendingOf st ∧ Srt L (arrOf st') lo n ∧ Low lo (arrOf st) (arrOf st')) ?step ?fin ⟨rfl, ok, rfl, ?init, Low.refl _ _⟩) ?post)
  case init =>
    by_cases h : k0 = 0
    · intro i j a b c
      have : i = j := by omega
      subst this
      exact o.irr _
    · rw [show min (max k0 1) n = k0 by omega]
      exact sr
  case fin =>
    rintro c st' ⟨h, ok', hp, sr', lw⟩
    rw [show min (max (max k0 1) n) n = n by omega] at sr'
    exact ⟨h, ok', hp, sr', lw⟩
  case post =>
    rintro ⟨c, u⟩ st' ⟨h, ok', hp, sr', lw⟩
    dsimp only at h ⊢
    subst h
    exact wpS_pure (q _ ok' hp sr' lw)
  case step =>
    rintro k c st1 hk1 hk ⟨_, ok1, hp1, sr1, lw1⟩
    rw [show min k n = k by omega] at sr1
    dsimp only
    refine wpS_bind (wpS_mono (wpS_forRange (I := fun x c st' => c.1 = none ∧ (c.2.1 ≤ c.2.2 ∧ c.2.2 ≤ k ∧ c.2.2 - c.2.1 ≤ k - x ∧ (∀ i, i < c.2.1 → L (G (arrOf st1) (lo + k)) (G (arrOf st1) (lo + i)) = false) ∧ (∀ i, c.2.2 ≤ i → i < k → L (G (arrOf st1) (lo + k)) (G (arrOf st1) (lo + i)) = true)) ∧ st' = st1)
      (Q := fun c st' => c.1 = none ∧ (c.2.1 ≤ k ∧ (∀ i, i < c.2.1 → L (G (arrOf st1) (lo + k)) (G (arrOf st1) (lo + i)) = false) ∧ (∀ i, c.2.1 ≤ i → i < k → L (G (arrOf st1) (lo + k)) (G (arrOf st1) (lo + i)) = true)) ∧ st' = st1) ?step1 ?fin1 ⟨rfl, ⟨Nat.zero_le _, Nat.le_refl _, Nat.le_refl _, fun i h => absurd h (Nat.not_lt_zero _), fun i h1 h2 => by dsimp only at h1; omega⟩, rfl⟩) ?post1)
    case fin1 =>
      rintro ⟨c, l, r⟩ st2 ⟨h, ⟨h1, h2, h3, h4, h5⟩, rfl⟩
      dsimp only at h h1 h2 h3 h4 h5 ⊢
      rw [Nat.zero_max] at h3
      have e : l = r := by omega
      subst e
      exact ⟨h, ⟨h2, h4, h5⟩, rfl⟩
    case step1 =>
      rintro j ⟨c, l, r⟩ st2 _ _ ⟨h, ⟨h1, h2, h3, h4, h5⟩, rfl⟩
      dsimp only at h h1 h2 h3 h4 h5 ⊢
      split
      · rename_i ge
        have e : l = r := by omega
        subst e
        exact wpS_pure ⟨rfl, ⟨h2, h4, h5⟩, rfl⟩
      · refine wpS_bind (ltAt_L hc ok1 (by omega) (by omega) ?_)
        cases e : L (G (arrOf st2) (lo + k)) (G (arrOf st2) (lo + (l + r) / 2))
        · exact wpS_pure ⟨rfl, ⟨by dsimp only; omega, h2, by dsimp only; omega, fun i hi => o.tr _ _ _ (sr1 (lo + i) (lo + (l + r) / 2) (by omega) (by dsimp only at hi; omega) (by omega)) e, h5⟩, rfl⟩
        · exact wpS_pure ⟨rfl, ⟨by dsimp only; omega, by dsimp only; omega, by dsimp only; omega, h4, fun i hi1 hi2 => by
            cases e2 : L (G (arrOf st2) (lo + k)) (G (arrOf st2) (lo + i)) with
            | true => rfl
            | false =>
              have := o.tr _ _ _ (sr1 (lo + (l + r) / 2) (lo + i) (by omega) (by dsimp only at hi1; omega) (by omega)) e2
              rw [this] at e
              cases e⟩, rfl⟩
    case post1 =>
      rintro ⟨c, l, r⟩ st2 ⟨h, ⟨h1, h2, h3⟩, rfl⟩
      dsimp only at h h1 h2 h3 ⊢
      subst h
      show wpS _ _ _ _ (do moveDown' (lo + k) (lo + l); pure (ForInStep.yield (none, ()))) _ _
      rw [moveDown'_eq]
      have hks : lo + k < (arrOf st2).size := by rw [ok1.perm.size_eq]; omega
      have gb := fun x => getElem?_bubble hks (lo + k - (lo + l)) (by omega) x
      refine wpS_bind (wpS_modify (wpS_pure ⟨rfl, ⟨ok1.kind, ok1.fail, (bubble_perm _ _ _).trans ok1.perm⟩, hp1, ?_, ?_⟩))
      · rw [show min (k + 1) n = k + 1 by omega]
        have Gb : ∀ x, G (bubble (arrOf st2) (lo + k) (lo + k - (lo + l))) x = if x = lo + l then G (arrOf st2) (lo + k) else if lo + l < x ∧ x ≤ lo + k then G (arrOf st2) (x - 1) else G (arrOf st2) x := fun x => by
          have := gb x
          rw [show lo + k - (lo + k - (lo + l)) = lo + l by omega] at this
          by_cases c1 : x = lo + l
          · rw [if_pos c1] at this ⊢; exact G_congr this
          · rw [if_neg c1] at this ⊢
            by_cases c2 : lo + l < x ∧ x ≤ lo + k
            · rw [if_pos c2] at this ⊢; exact G_congr this
            · rw [if_neg c2] at this ⊢; exact G_congr this
        intro i j ai aij aj
        show L (G (bubble (arrOf st2) (lo + k) (lo + k - (lo + l))) j) (G (bubble (arrOf st2) (lo + k) (lo + k - (lo + l))) i) = false
        rw [Gb, Gb]
        by_cases ci : i = lo + l
        · rw [if_pos ci]
          by_cases cj : j = lo + l
          · rw [if_pos cj]; exact o.irr _
          · rw [if_neg cj, if_pos (by omega)]
            have := h3 (j - 1 - lo) (by omega) (by omega)
            rw [show lo + (j - 1 - lo) = j - 1 by omega] at this
            exact o.asym _ _ this
        · rw [if_neg ci]
          by_cases ci2 : lo + l < i ∧ i ≤ lo + k
          · rw [if_pos ci2, if_neg (by omega), if_pos (by omega)]
            exact sr1 _ _ (by omega) (by omega) (by omega)
          · rw [if_neg ci2]
            by_cases cj : j = lo + l
            · rw [if_pos cj]
              have := h2 (i - lo) (by omega)
              rw [show lo + (i - lo) = i by omega] at this
              exact this
            · rw [if_neg cj]
              by_cases cj2 : lo + l < j ∧ j ≤ lo + k
              · rw [if_pos cj2]
                exact sr1 _ _ ai (by omega) (by omega)
              · rw [if_neg cj2]
                exact sr1 _ _ ai aij (by omega)
      · refine lw1.trans fun p hp => ?_
        show (bubble (arrOf st2) (lo + k) (lo + k - (lo + l)))[p]? = _
        rw [gb p, if_neg (by omega), if_neg (by omega)]
theorem count_L (o : Ordr L) (hc : CmpL prog w A s κ a0 L) {lo m : Nat} {st : SortSt} {Q : Option Nat → SortSt → Prop} (ok : Ok κ a0 st) (h1 : 1 ≤ m) (h2 : lo + m ≤ a0.size)
    (q : ∀ n st', 1 ≤ n → n ≤ m → Ok κ a0 st' → pendingOf st' = pendingOf st → Srt L (arrOf st') lo n → Low lo (arrOf st) (arrOf st') → Q (some n) st') : wpS (model prog w) A E s (countRun' lo m) Q st := by
  rw [countRun'_eq]
  dsimp only
  have sz : ∀ {st' : SortSt}, Ok κ a0 st' → (arrOf st').size = a0.size := fun ok => ok.perm.size_eq
  refine wpS_bind (wpS_mono (wpS_forRange (I := fun i c st' => c.1 = none ∧ (c.2 = i ∧ 1 ≤ c.2 ∧ Srt L (arrOf st) lo c.2) ∧ st' = st) (Q := fun c st' => c.1 = none ∧ (1 ≤ c.2 ∧ c.2 ≤ m ∧ Srt L (arrOf st) lo c.2 ∧ (c.2 = m ∨ L (G (arrOf st) (lo + c.2)) (G (arrOf st) (lo + c.2 - 1)) = true)) ∧ st' = st) ?step ?fin ⟨rfl, ⟨rfl, Nat.le_refl _, Srt.one o⟩, rfl⟩) ?post)
  case fin =>
    rintro ⟨c, n⟩ st' ⟨h, ⟨a, b, d⟩, rfl⟩
    dsimp only at h a b d ⊢
    exact ⟨h, ⟨b, by omega, d, .inl (by omega)⟩, rfl⟩
  case step =>
    rintro i ⟨c, n⟩ st' _ hi ⟨h, ⟨a, b, d⟩, rfl⟩
    dsimp only at h a b d ⊢
    subst a
    refine wpS_bind (ltAt_L hc ok (by omega) (by omega) ?_)
    cases e : L (G (arrOf st') (lo + n)) (G (arrOf st') (lo + n - 1))
    · exact wpS_pure ⟨rfl, ⟨rfl, by dsimp only; omega, d.snoc o b e⟩, rfl⟩
    · exact wpS_pure ⟨rfl, ⟨b, by dsimp only; omega, d, .inr e⟩, rfl⟩
  case post =>
    rintro ⟨c, n⟩ st1 ⟨h, ⟨a, b, d, dl⟩, rfl⟩
    dsimp only at h a b d dl ⊢
    subst h
    dsimp only
    by_cases d1 : (n == m) = true
    · rw [if_pos d1]
      exact wpS_pure (q _ _ a b ok rfl d (Low.refl _ _))
    rw [if_neg d1]
    simp only [beq_iff_eq] at d1
    have dl := dl.resolve_left d1
    obtain ⟨st0, hst0⟩ : ∃ st0, st0 = st1 := ⟨_, rfl⟩
    by_cases d2 : n > 1
    case' pos =>
      rw [if_pos d2]
      refine wpS_bind (ltAt_L hc ok (by omega) (by omega) ?_)
      cases er : L (G (arrOf st1) lo) (G (arrOf st1) (lo + n - 1))
      case' true => exact wpS_pure (q _ _ a b ok rfl d (Low.refl _ _))
      refine wpS_bind (rev_L ok fun st2 ok2 hp2 ea2 => ?_)
      have alk : Alk L (arrOf st1) lo (lo + n) := fun p r p1 p2 r1 r2 => o.tr _ _ _ (d r (lo + n - 1) r1 (by omega) (by omega)) (o.tr _ _ _ er (d lo p (Nat.le_refl _) p1 p2))
      have dsc2 : Dsc L (arrOf st2) lo (n + 1) := by
        have d0 : Dsc L (arrOf st1) lo n := fun i j a b c => alk i j a (by omega) (by omega) c
        have d1' : Dsc L (arrOf st1) lo (n + 1) := d0.snoc o a (o.asym _ _ dl)
        rw [ea2]
        exact d1'.like o (alk.mir o (by rw [sz ok]; omega))
      have lw2 : Low lo (arrOf st1) (arrOf st2) := by
        rw [ea2]
        exact Low.mir (Nat.le_refl _) (by rw [sz ok]; omega)
    case' neg =>
      rw [if_neg d2]
      have ok2 := ok
      have hn1 : n = 1 := by omega
      have dsc2 : Dsc L (arrOf st1) lo (n + 1) := by
        refine Dsc.snoc o a (fun i j x y z => ?_) (o.asym _ _ dl)
        have : i = j := by omega
        subst this
        exact o.irr _
      have lw2 : Low lo (arrOf st1) (arrOf st1) := Low.refl _ _
      generalize hst2 : st1 = st2 at ok2 dsc2
      have hp2 : pendingOf st2 = pendingOf st1 := by rw [hst2]
      have lw2 : Low lo (arrOf st1) (arrOf st2) := by rw [hst2]; exact Low.refl _ _
    all_goals
      refine wpS_bind (wpS_lift (wpAny_rule ⟨rfl, ?_⟩))
      refine wpS_bind (wpS_mono (wpS_forRange (I := fun i c st' => c.1 = none ∧ (c.2.1 = i ∧ 1 ≤ c.2.1 ∧ c.2.2 + 1 ≤ c.2.1 ∧ Dsc L (arrOf st') lo c.2.1 ∧ Alk L (arrOf st') (lo + c.2.1 - (c.2.2 + 1)) (lo + c.2.1)) ∧ Ok κ a0 st' ∧ pendingOf st' = pendingOf st1 ∧ Low lo (arrOf st1) (arrOf st'))
        (Q := fun c st' => c.1 = none ∧ (1 ≤ c.2.1 ∧ c.2.1 ≤ m ∧ c.2.2 + 1 ≤ c.2.1 ∧ Dsc L (arrOf st') lo c.2.1 ∧ Alk L (arrOf st') (lo + c.2.1 - (c.2.2 + 1)) (lo + c.2.1)) ∧ Ok κ a0 st' ∧ pendingOf st' = pendingOf st1 ∧ Low lo (arrOf st1) (arrOf st')) ?step2 ?fin2 ⟨rfl, ⟨rfl, by dsimp only; omega, by dsimp only; omega, dsc2, fun p r p1 p2 r1 r2 => by
          dsimp only at p1 p2 r1 r2
          have : p = r := by omega
          subst this
          exact o.irr _⟩, ok2, hp2, lw2⟩) ?post2)
      case fin2 =>
        rintro ⟨c, k, neq⟩ st' ⟨h, ⟨e1, e2, e3, e4⟩, r⟩
        dsimp only at h e1 e2 e3 e4 ⊢
        exact ⟨h, ⟨e2, by omega, e3, e4⟩, r⟩
      case step2 =>
        rintro i ⟨c, k, neq⟩ st' _ hi ⟨h, ⟨e1, e2, e3, e4, e5⟩, ok3, hp3, lw3⟩
        dsimp only at h e1 e2 e3 e4 e5 ⊢
        subst e1
        have one : ∀ (ar : Array Keyed) (x : Nat), Alk L ar (lo + (x + 1) - (0 + 1)) (lo + (x + 1)) := fun ar x p r p1 p2 r1 r2 => by
          have : p = r := by omega
          subst this
          exact o.irr _
        refine wpS_bind (ltAt_L hc ok3 (by omega) (by omega) ?_)
        cases es : L (G (arrOf st') (lo + k)) (G (arrOf st') (lo + k - 1))
        · refine wpS_bind (ltAt_L hc ok3 (by omega) (by omega) ?_)
          cases el : L (G (arrOf st') (lo + k - 1)) (G (arrOf st') (lo + k))
          · refine wpS_pure ⟨rfl, ⟨rfl, by dsimp only; omega, by dsimp only; omega, e4.snoc o e2 el, fun p r p1 p2 r1 r2 => ?_⟩, ok3, hp3, lw3⟩
            dsimp only at p1 p2 r1 r2
            have low : ∀ x, lo + k - (neq + 1) ≤ x → x < lo + k → L (G (arrOf st') x) (G (arrOf st') (lo + k)) = false ∧ L (G (arrOf st') (lo + k)) (G (arrOf st') x) = false := fun x x1 x2 =>
              ⟨o.tr _ _ _ el (e5 x (lo + k - 1) x1 x2 (by omega) (by omega)), o.tr _ _ _ (e5 (lo + k - 1) x (by omega) (by omega) x1 x2) es⟩
            by_cases c1 : p = lo + k
            · by_cases c2 : r = lo + k
              · rw [c1, c2]; exact o.irr _
              · rw [c1]; exact (low r (by omega) (by omega)).2
            · by_cases c2 : r = lo + k
              · rw [c2]; exact (low p (by omega) (by omega)).1
              · exact e5 p r (by omega) (by omega) (by omega) (by omega)
          · exact wpS_pure ⟨rfl, ⟨e2, by dsimp only; omega, e3, e4, e5⟩, ok3, hp3, lw3⟩
        · dsimp only
          rw [if_pos rfl]
          have e6 : Dsc L (arrOf st') lo (k + 1) := e4.snoc o e2 (o.asym _ _ es)
          split
          · refine wpS_bind (rev_L ok3 fun st4 ok4 hp4 ea4 => wpS_pure ⟨rfl, ⟨rfl, by dsimp only; omega, by dsimp only; omega, ?_, one _ _⟩, ok4, hp4.trans hp3, ?_⟩)
            · dsimp only
              rw [ea4]
              exact e6.like o (e5.mir o (by rw [sz ok3]; omega))
            · rw [ea4]
              exact lw3.trans (Low.mir (by omega) (by rw [sz ok3]; omega))
          · exact wpS_pure ⟨rfl, ⟨rfl, by dsimp only; omega, by dsimp only; omega, e6, one _ _⟩, ok3, hp3, lw3⟩
      case post2 =>
        rintro ⟨c, k, neq⟩ st' ⟨h, ⟨e1, e2, e3, e4, e5⟩, ok3, hp3, lw3⟩
        dsimp only at h e1 e2 e3 e4 e5 ⊢
        subst h
        dsimp only
        by_cases d3 : neq > 0
        case' pos =>
          rw [if_pos d3]
          refine wpS_bind (rev_L ok3 fun st4 ok4 hp4 ea4 => ?_)
          have hp4 := hp4.trans hp3
          have dsc4 : Dsc L (arrOf st4) lo k := by
            rw [ea4]
            exact e4.like o (e5.mir o (by rw [sz ok3]; omega))
          have lw4 : Low lo (arrOf st1) (arrOf st4) := by
            rw [ea4]
            exact lw3.trans (Low.mir (by omega) (by rw [sz ok3]; omega))
        case' neg =>
          rw [if_neg d3]
          have ok4 := ok3
          have hp4 := hp3
          have dsc4 := e4
          have lw4 := lw3
        all_goals
          refine wpS_bind (rev_L ok4 fun st5 ok5 hp5 ea5 => ?_)
          have srt5 : Srt L (arrOf st5) lo k := by
            rw [ea5]
            exact dsc4.rev (by rw [sz ok4]; omega)
          have lw5 : Low lo (arrOf st1) (arrOf st5) := by
            rw [ea5]
            exact lw4.trans (Low.mir (Nat.le_refl _) (by rw [sz ok4]; omega))
          refine wpS_bind (wpS_mono (wpS_forRange (I := fun i c st' => c.1 = none ∧ (c.2 = i ∧ 1 ≤ c.2 ∧ Srt L (arrOf st5) lo c.2) ∧ st' = st5) (Q := fun c st' => c.1 = none ∧ (1 ≤ c.2 ∧ c.2 ≤ m ∧ Srt L (arrOf st5) lo c.2) ∧ st' = st5) ?step3 ?fin3 ⟨rfl, ⟨rfl, e1, srt5⟩, rfl⟩) ?post3)
          case fin3 =>
            rintro ⟨c, n⟩ st' ⟨h, ⟨a, b, d⟩, rfl⟩
            dsimp only at h a b d ⊢
            exact ⟨h, ⟨b, by omega, d⟩, rfl⟩
          case step3 =>
            rintro i ⟨c, n⟩ st' _ hi ⟨h, ⟨a, b, d⟩, rfl⟩
            dsimp only at h a b d ⊢
            subst a
            refine wpS_bind (ltAt_L hc ok5 (by omega) (by omega) ?_)
            cases e : L (G (arrOf st') (lo + n)) (G (arrOf st') (lo + n - 1))
            · exact wpS_pure ⟨rfl, ⟨rfl, by dsimp only; omega, d.snoc o b e⟩, rfl⟩
            · exact wpS_pure ⟨rfl, ⟨b, by dsimp only; omega, d⟩, rfl⟩
          case post3 =>
            rintro ⟨c, n⟩ st6 ⟨h, ⟨a, b, d⟩, rfl⟩
            dsimp only at h a b d ⊢
            subst h
            exact wpS_pure (q _ _ a b ok5 (hp5.trans hp4) d lw5)
end
end Tim
namespace Tim
open PySem PyProof.Rows
theorem Chain.len : ∀ {l : List (Nat × Nat × Nat)} {b e : Nat}, Chain l b e → l.length + b ≤ e
  | [], _, _, h => by have : _ = _ := h; simp; omega
  | r :: rest, b, e, h => by
    have := h.2.2.len
    have := h.2.1
    rw [List.length_cons]
    omega
section
variable {prog : Program} {w : World} {A : Around} {E : Value → Shared → Prop} {s : Shared} {κ : SortKind} {a0 : Array Keyed} {L : Keyed → Keyed → Bool}
theorem runs_L (o : Ordr L) (hc : CmpL prog w A s κ a0 L) {st : SortSt} {Q : Unit → SortSt → Prop} (ok : Ok κ a0 st) (hp : pendingOf st = #[]) (q : ∀ st', Ok κ a0 st' → Sd L (arrOf st').toList → Q () st') : wpS (model prog w) A E s sortRuns' Q st := by
  rw [sortRuns'_eq]
  refine wpS_bind (wpS_get ?_)
  have hs : (arrOf st).size = a0.size := ok.perm.size_eq
  rw [hs]
  generalize minRun' a0.size a0.size 0 = mr
  dsimp only
  refine wpS_bind (wpS_mono (wpS_forRange (I := fun i c st' => c.1 = none ∧ (c.2 ≤ a0.size ∧ i ≤ c.2) ∧ Ok κ a0 st' ∧ Chain (pendingOf st').toList 0 c.2 ∧ RS L (pendingOf st').toList (arrOf st').toList)
    (Q := fun c st' => c.1 = none ∧ c.2 = a0.size ∧ Ok κ a0 st' ∧ Chain (pendingOf st').toList 0 c.2 ∧ RS L (pendingOf st').toList (arrOf st').toList) ?step ?fin ⟨rfl, ⟨Nat.zero_le _, Nat.zero_le _⟩, ok, by rw [hp]; rfl, by rw [hp]; trivial⟩) ?post)
  case fin =>
    rintro ⟨c, lo⟩ st1 ⟨h, ⟨h1, h2⟩, r⟩
    dsimp only at h h1 h2 ⊢
    rw [Nat.zero_max] at h2
    exact ⟨h, by omega, r⟩
  case step =>
    rintro i ⟨c, lo⟩ st1 _ hi ⟨h, ⟨hlo, hil⟩, ok1, ch1, rs1⟩
    dsimp only at h hlo hil ch1 ⊢
    by_cases d1 : lo ≥ a0.size
    · rw [if_pos d1]
      exact wpS_pure ⟨rfl, by dsimp only; omega, ok1, ch1, rs1⟩
    rw [if_neg d1]
    refine wpS_bind (count_L o hc ok1 (by omega) (by omega) fun n st2 n1 n2 ok2 hp2 sr2 lw2 => ?_)
    dsimp only
    rw [← hp2] at ch1 rs1
    have rs2 : RS L (pendingOf st2).toList (arrOf st2).toList := rs1.same ch1 (by rw [Nat.sub_zero]; exact lw2.take)
    by_cases d2 : n < minRun' a0.size a0.size 0
    case' pos =>
      rw [if_pos d2]
      refine wpS_bind (wpS_lift (wpAny_rule ⟨rfl, ?_⟩))
      refine wpS_bind (bin_L o hc ok2 (by omega) (by omega) sr2 fun st3 ok3 hp3 sr3 lw3 => ?_)
      rw [if_neg (by decide)]
      have N1 : 1 ≤ min (a0.size - lo) (minRun' a0.size a0.size 0) := by omega
      have N2 : lo + min (a0.size - lo) (minRun' a0.size a0.size 0) ≤ a0.size := by omega
      have rs3 : RS L (pendingOf st3).toList (arrOf st3).toList := by
        rw [hp3]
        exact rs2.same ch1 (by rw [Nat.sub_zero]; exact lw3.take)
      have ch3 : Chain (pendingOf st3).toList 0 lo := by rw [hp3]; exact ch1
      generalize min (a0.size - lo) (minRun' a0.size a0.size 0) = N at N1 N2 sr3
    case' neg =>
      rw [if_neg d2]
      have N1 := n1
      have N2 : lo + n ≤ a0.size := by omega
      have ok3 := ok2
      have ch3 := ch1
      have rs3 := rs2
      have sr3 := sr2
      clear rs2 sr2 rs1 ch1 lw2 hp2
      generalize n = N at N1 N2 sr3
      generalize st2 = st3 at ok3 ch3 rs3 sr3
    all_goals
      have sd3 : Sd L (((arrOf st3).toList.drop lo).take N) := sr3.sd (by rw [ok3.perm.size_eq]; exact N2)
      refine wpS_bind (wpS_get ?_)
      cases hb : (pendingOf st3).back? with
      | none =>
        dsimp only
        refine wpS_bind (wpS_modify (wpS_pure ⟨rfl, ⟨N2, by dsimp only; omega⟩, ⟨ok3.kind, ok3.fail, ok3.perm⟩, ?_, ?_⟩))
        · show Chain (Array.toList ((pendingOf st3).push (lo, N, 0))) 0 (lo + N)
          rw [Array.toList_push]
          exact ch3.snoc N1
        · show RS L (Array.toList ((pendingOf st3).push (lo, N, 0))) (arrOf st3).toList
          rw [Array.toList_push]
          exact rs3.snoc ch3 (by rw [Nat.sub_zero]; exact sd3)
      | some r =>
        obtain ⟨s1, m1, z1⟩ := r
        dsimp only
        refine wpS_bind (wpS_mono (wpS_forRange (I := fun _ c st' => c.1 = none ∧ Ok κ a0 st' ∧ Chain (pendingOf st').toList 0 lo ∧ RS L (pendingOf st').toList (arrOf st').toList ∧ (arrOf st').toList.drop lo = (arrOf st3).toList.drop lo) (Q := fun c st' => c.1 = none ∧ Ok κ a0 st' ∧ Chain (pendingOf st').toList 0 lo ∧ RS L (pendingOf st').toList (arrOf st').toList ∧ (arrOf st').toList.drop lo = (arrOf st3).toList.drop lo) ?step2 (fun _ _ h => h) ⟨rfl, ok3, ch3, rs3, rfl⟩) ?post2)
        case step2 =>
          rintro j ⟨c, u⟩ st4 _ hj ⟨h, ok4, ch4, rs4, dr4⟩
          dsimp only at h ⊢
          refine wpS_bind (wpS_get ?_)
          by_cases d3 : (pendingOf st4).size > 1
          · rw [if_pos d3, Array.getElem?_eq_getElem (by omega)]
            generalize (pendingOf st4)[(pendingOf st4).size - 2] = y
            obtain ⟨y1, y2, y3⟩ := y
            dsimp only
            split
            · exact wpS_pure ⟨rfl, ok4, ch4, rs4, dr4⟩
            · refine wpS_bind (mergeAt_L o hc ok4 ch4 rs4 hlo (by omega) fun st5 ok5 ch5 rs5 dr5 _ => ?_)
              exact wpS_pure ⟨rfl, ok5, ch5, rs5, dr5.trans dr4⟩
          · rw [if_neg d3]
            exact wpS_pure ⟨rfl, ok4, ch4, rs4, dr4⟩
        case post2 =>
          rintro ⟨c, u⟩ st4 ⟨h, ok4, ch4, rs4, dr4⟩
          dsimp only at h ⊢
          subst h
          dsimp only
          refine wpS_bind (wpS_modify (wpS_bind (wpS_modify (wpS_pure ⟨rfl, ⟨N2, by dsimp only; omega⟩, ⟨ok4.kind, ok4.fail, ok4.perm⟩, ?_, ?_⟩))))
          · show Chain (Array.toList (Array.push (Array.modify (pendingOf st4) _ _) (lo, N, 0))) 0 (lo + N)
            rw [Array.toList_push, Array.toList_modify]
            exact (ch4.mod _ _).snoc N1
          · show RS L (Array.toList (Array.push (Array.modify (pendingOf st4) _ _) (lo, N, 0))) (arrOf st4).toList
            rw [Array.toList_push, Array.toList_modify]
            refine (rs4.mod _ _).snoc (ch4.mod _ _) ?_
            rw [Nat.sub_zero, dr4]
            exact sd3
  case post =>
    rintro ⟨c, lo⟩ st1 ⟨h, hlo, ok1, ch1, rs1⟩
    dsimp only at h hlo ch1 ⊢
    subst h
    dsimp only
    subst hlo
    have pl := ch1.len
    rw [Array.length_toList] at pl
    refine wpS_bind (wpS_mono (wpS_forRange (I := fun j c st' => c.1 = none ∧ Ok κ a0 st' ∧ Chain (pendingOf st').toList 0 a0.size ∧ RS L (pendingOf st').toList (arrOf st').toList ∧ (pendingOf st').size + j ≤ a0.size)
      (Q := fun c st' => c.1 = none ∧ Ok κ a0 st' ∧ Chain (pendingOf st').toList 0 a0.size ∧ RS L (pendingOf st').toList (arrOf st').toList ∧ (pendingOf st').size ≤ 1) ?step3 ?fin3 ⟨rfl, ok1, ch1, rs1, by omega⟩) ?post3)
    case fin3 =>
      rintro ⟨c, u⟩ st4 ⟨h, ok4, ch4, rs4, z⟩
      rw [Nat.zero_max] at z
      exact ⟨h, ok4, ch4, rs4, by omega⟩
    case step3 =>
      rintro j ⟨c, u⟩ st4 _ hj ⟨h, ok4, ch4, rs4, z⟩
      dsimp only at h ⊢
      refine wpS_bind (wpS_get ?_)
      by_cases d3 : (pendingOf st4).size ≤ 1
      · rw [if_pos d3]
        exact wpS_pure ⟨rfl, ok4, ch4, rs4, d3⟩
      · rw [if_neg d3]
        refine wpS_bind (mergeAt_L o hc ok4 ch4 rs4 (Nat.le_refl _) ?_ fun st5 ok5 ch5 rs5 _ z5 => ?_)
        · exact ite_lt (by omega) (by omega)
        · exact wpS_pure ⟨rfl, ok5, ch5, rs5, by omega⟩
    case post3 =>
      rintro ⟨c, u⟩ st4 ⟨h, ok4, ch4, rs4, z⟩
      dsimp only at h ⊢
      subst h
      refine wpS_pure (q _ ok4 ?_)
      have lz : (pendingOf st4).toList.length ≤ 1 := by rw [Array.length_toList]; exact z
      have la : (arrOf st4).toList.length = a0.size := by rw [Array.length_toList, ok4.perm.size_eq]
      generalize (pendingOf st4).toList = rs at ch4 rs4 lz
      match rs, ch4, rs4, lz with
      | [], c, _, _ =>
        have c : 0 = a0.size := c
        have : (arrOf st4).toList = [] := List.length_eq_zero_iff.mp (by omega)
        rw [this]
        exact List.Pairwise.nil
      | [r], c, rs, _ =>
        have c2 : 0 + r.2.1 = a0.size := c.2.2
        have := rs.1
        rw [List.take_of_length_le (by omega)] at this
        exact this
      | _ :: _ :: _, _, _, l => simp at l
end
end Tim

namespace L2
open PySem PySem.Calls PySem.Spec PyProof.Rows
def lexB (p q : Int × Int) : Bool := decide (p.1 < q.1) || (decide (p.1 = q.1) && decide (p.2 < q.2))
theorem lexB_iff {p q : Int × Int} : lexB p q = true ↔ p.1 < q.1 ∨ (p.1 = q.1 ∧ p.2 < q.2) := by
  unfold lexB
  simp
theorem lexB_not {p q : Int × Int} : lexB p q = false ↔ q.1 < p.1 ∨ (p.1 = q.1 ∧ q.2 ≤ p.2) := by
  rw [← Bool.not_eq_true, lexB_iff]
  omega
abbrev Ris (l : List (Int × Int)) : Prop := l.Pairwise fun x y => lexB y x = false
section
variable {prog : Program} {w : World} {A : Around} {E : Value → Shared → Prop} {s : Shared}
theorem pr_ltS {x y : Value} {p q : Int × Int} {C : Bool → Shared → Prop} (hx : IsPr s.heap x p) (hy : IsPr s.heap y q) (h : C (lexB p q) s) : wpAny (model prog w) A (keyLt' (tuples' true) x y) C E s := by
  obtain ⟨a, o, t, u, n, rfl, h1, h2, h3⟩ := hx
  obtain ⟨a', o', t', u', n', rfl, h1', h2', h3'⟩ := hy
  refine PySem.W.kat_lt h1 h3 h1' h3' ?_
  show PySem.W.KatLex prog w A true _ C [(Value.int p.1 t, Value.int q.1 t'), (Value.int p.2 u, Value.int q.2 u')] 0 s
  refine PySem.W.kat_cons (SeqAt.EqAt.int_int _ _ _ _ prog w _ _ (PySem.W.kat_go (fun e => PySem.W.kat_yes ?_) fun e => PySem.W.kat_no (oneLt_int ?_)))
  · have e : p.1 = q.1 := by simpa using e
    refine PySem.W.kat_cons (SeqAt.EqAt.int_int _ _ _ _ prog w _ _ (PySem.W.kat_go (fun e2 => PySem.W.kat_yes (PySem.W.kat_nil ?_)) fun e2 => PySem.W.kat_no ?_))
    · have e2 : p.2 = q.2 := by simpa using e2
      have : lexB p q = false := lexB_not.mpr (by omega)
      rw [this] at h
      exact h
    · refine PySem.W.kat_one _ _ (lt_int (show PySem.W.BoolBack C (.bool _) s from ?_))
      have : lexB p q = decide (p.2 < q.2) := by
        unfold lexB
        rw [decide_eq_true e, decide_eq_false (show ¬ p.1 < q.1 by omega)]
        rfl
      rw [this] at h
      exact h
  · have e : ¬ p.1 = q.1 := by simpa using e
    have : lexB p q = decide (p.1 < q.1) := by
      unfold lexB
      rw [decide_eq_false e]
      simp
    rw [this] at h
    exact h
theorem IsPr.uniq {h : Heap} {v : Value} {p q : Int × Int} (x : IsPr h v p) (y : IsPr h v q) : p = q := by
  obtain ⟨a, o, t, u, n, rfl, h1, h2, h3⟩ := x
  obtain ⟨a', o', t', u', n', e, h1', h2', h3'⟩ := y
  cases e
  rw [h1] at h1'
  cases h1'
  rw [h3] at h3'
  injection h3' with e1 _
  have e1 := congrArg Array.toList e1
  have e2 : p.1 = q.1 ∧ p.2 = q.2 := by
    simp at e1
    exact ⟨e1.1.1, e1.2.1⟩
  exact Prod.ext e2.1 e2.2
theorem prOf_ex (h : Heap) : ∃ key : Value → Int × Int, ∀ v q, IsPr h v q → key v = q := by
  classical
  refine ⟨fun v => if x : ∃ q, IsPr h v q then x.choose else (0, 0), fun v q x => ?_⟩
  have z : ∃ q, IsPr h v q := ⟨q, x⟩
  dsimp only
  rw [dif_pos z]
  exact z.choose_spec.uniq x
def keyLt (key : Value → Int × Int) (x y : Keyed) : Bool := lexB (key x.1) (key y.1)
theorem keyLt_ord (key : Value → Int × Int) : Tim.Ordr (keyLt key) := by
  constructor
  · intro x y e
    unfold keyLt at e ⊢
    rw [lexB_iff] at e
    rw [lexB_not]
    omega
  · intro x y z e1 e2
    unfold keyLt at e1 e2 ⊢
    rw [lexB_not] at e1 e2 ⊢
    omega
def OutS (ps : List (Int × Int)) (vs o : List Value) : Prop := ∃ p : List Nat, p.Perm (List.range vs.length) ∧ o = p.map (fun i => vs.getD i Value.none) ∧ Ris (p.map fun i => ps.getD i (0, 0))
theorem OutS.len {ps : List (Int × Int)} {vs o : List Value} (h : OutS ps vs o) : o.length = vs.length := by
  obtain ⟨p, hp, rfl, _⟩ := h
  rw [List.length_map, hp.length_eq, List.length_range]
theorem OutS.small {ps : List (Int × Int)} {vs : List Value} (h : vs.length < 2) : OutS ps vs vs := by
  obtain ⟨p, hp, e⟩ := Reord.refl vs
  refine ⟨p, hp, e, ?_⟩
  have l : (p.map fun i => ps.getD i (0, 0)).length < 2 := by rw [List.length_map, hp.length_eq, List.length_range]; exact h
  generalize (p.map fun i => ps.getD i (0, 0)) = l' at l
  match l', l with
  | [], _ => exact List.Pairwise.nil
  | [_], _ => exact List.pairwise_singleton _ _
  | _ :: _ :: _, l => exact absurd l (by simp)
theorem pr_runS {vs : List Value} {ps : List (Int × Int)} (hp : Paired (IsPr s.heap) vs ps) (h2 : 2 ≤ vs.length) :
    wpAny (model prog w) A (keyKind' vs.toArray) (fun κ t' => t' = s ∧
      wpAny (model prog w) A ((sortRuns').run (SortSt.mk' κ (vs.toArray.zip vs.toArray) #[] 7 none)) (fun r t2 => t2 = s ∧ failedOf r.2 = none ∧ OutS ps vs ((arrOf r.2).map (·.2)).toList) (fun _ _ => False) s) (fun _ _ => False) s := by
  obtain ⟨fs, kt, lf, hf⟩ := pr_tups hp
  obtain ⟨key, hkey⟩ := prOf_ex s.heap
  refine PySem.W.kat_kind (T := .type "int") kt (by omega) (fun v hv => ?_) (by decide) ⟨rfl, ?_⟩
  · obtain ⟨i, t, rfl⟩ := hf v hv
    exact .now
  · have mem : ∀ x : Keyed, x ∈ vs.toArray.zip vs.toArray → x.1 = x.2 ∧ ∃ q, IsPr s.heap x.1 q := fun x hx => by
      have hx' : x ∈ vs.zip vs := by
        have := Array.mem_toList_iff.mpr hx
        simpa using this
      obtain ⟨e1, e2⟩ := mem_zip_self hx'
      obtain ⟨k, hk, e3⟩ := List.getElem_of_mem e2
      obtain ⟨y, _, z⟩ := Paired.get' (i := k) (x := x.1) hp (by rw [List.getElem?_eq_getElem hk, e3])
      exact ⟨e1, y, z⟩
    have hc : Tim.CmpL prog w A s (tuples' true) (vs.toArray.zip vs.toArray) (keyLt key) := fun x y hx hy E Q q => by
      obtain ⟨_, p1, z1⟩ := mem x hx
      obtain ⟨_, p2, z2⟩ := mem y hy
      unfold keyLt at q
      rw [hkey _ _ z1, hkey _ _ z2] at q
      exact pr_ltS z1 z2 q
    refine Tim.runs_L (st := SortSt.mk' (tuples' true) (vs.toArray.zip vs.toArray) #[] 7 none) (Q := fun _ st => failedOf st = none ∧ OutS ps vs ((arrOf st).map (·.2)).toList) (keyLt_ord key) hc ⟨rfl, rfl, Array.Perm.refl _⟩ rfl fun st' ok sd => ⟨ok.fail, ?_⟩
    have pm : ((arrOf st').map (·.2)).toList.Perm vs := by
      have := (Array.perm_iff_toList_perm.mp ok.perm).map (·.2)
      rw [Array.toList_map]
      refine this.trans (List.Perm.of_eq ?_)
      simp [List.map_snd_zip]
    obtain ⟨p, hpp, eo⟩ := Reord.of_perm pm
    refine ⟨p, hpp, eo, ?_⟩
    -- the pairs of what lies now
    have s1 : (((arrOf st').map (·.2)).toList.map (key)).Pairwise fun x y => lexB y x = false := by
      rw [Array.toList_map, List.map_map]
      refine List.pairwise_map.mpr ?_
      refine List.Pairwise.imp_of_mem (fun {x y} hx hy h => ?_) sd
      have m1 := (mem x (ok.perm.mem_iff.mp (Array.mem_toList_iff.mp hx))).1
      have m2 := (mem y (ok.perm.mem_iff.mp (Array.mem_toList_iff.mp hy))).1
      unfold keyLt at h
      show lexB (key y.2) (key x.2) = false
      rw [← m1, ← m2]
      exact h
    have e2 : ((arrOf st').map (·.2)).toList.map (key) = p.map fun i => ps.getD i (0, 0) := by
      rw [eo, List.map_map]
      refine List.map_congr_left fun i hi => ?_
      have hi' : i < vs.length := by
        have := hpp.mem_iff.mp hi
        simpa using this
      obtain ⟨y, hy, z⟩ := Paired.get' (i := i) (x := vs[i]) hp (List.getElem?_eq_getElem hi')
      show key (vs.getD i Value.none) = _
      rw [List.getD_eq_getElem?_getD, List.getElem?_eq_getElem hi', List.getD_eq_getElem?_getD, hy]
      exact hkey _ _ z
    rw [e2] at s1
    exact s1
end
section
variable {X : Cx}
theorem call_sorted_prsS : CallR X (.builtin "sorted") (fun xs H Q => ∃ (l : Addr) (ws : List V) (prs : List (Int × Int)), xs = [.ref l] ∧ H l = some (.lst ws) ∧ Ars H ws prs ∧ ws.length ≤ 1000 ∧
    ∀ (D : Addr) (ws' : List V) (prs' : List (Int × Int)) (H' : Hp), Same H H' → H' D = some (.lst ws') → Ars H' ws' prs' → prs'.Perm prs → Ris prs' → Q (.ref D) H') := by
  intro pins s σ H xs us Q I r h
  obtain ⟨l, ws, prs, rfl, hl, ha, hn, q⟩ := h
  obtain ⟨u, rfl, ru⟩ := vals1 r
  cases ru
  obtain ⟨its, rv, pl, hz⟩ := I.list (SqL.of hl)
  have lv : ws.length = its.length := rv.length
  have lp : ws.length = prs.length := Paired.length ha
  have isp : ∀ {t : Shared}, (∀ b o, s.heap.get? b = some o → t.heap.get? b = some o) → Paired (IsPr t.heap) its prs := by
    intro t kp
    refine Paired.of_get (by omega) fun j v y hv hy => ?_
    have hj : j < its.length := (List.getElem?_eq_some_iff.mp hv).1
    have hj' : j < ws.length := by omega
    obtain ⟨c, e1, a, e2, e3⟩ := Paired.get' (i := j) (x := ws[j]) ha (by simp [hj'])
    rw [hy] at e1
    cases e1
    obtain ⟨w', e4, e5⟩ := rv.get (i := j) (x := ws[j]) (by simp [hj'])
    rw [hv] at e4
    cases e4
    rw [e2] at e5
    have e5 : v = Value.ref a := e5
    obtain ⟨jt, r3, ⟨ot, g1, g2, n, g3⟩, _⟩ := I.tuple (SqT.of e3)
    obtain ⟨u1, u2, rfl, ⟨t1, rfl⟩, ⟨t2, rfl⟩⟩ := vals2' r3
    exact ⟨a, ot, t1, t2, n, e5, kp _ _ g1, g2, g3⟩
  refine Calls.call_function_entry kind_sorted plain_sorted entry_sorted (args_sorted1 _) ?_
  unfold Builtin.«sorted»
  refine wpAny_bind (m := checkCount "sorted" 1 1 _) (wpAny_pure ?_)
  have sl : (1000000 : Nat) < sizeLine := by decide
  refine wpAny_bind (collect_list pl.isList ?_)
  refine wpAny_bind (wpAny_newList ?_)
  have hsz : ((s.heap.push (seqObj "list" #[] 0)).update s.heap.objs.size (Obj.mapSeq (· ++ its.toArray))).objs.size = s.heap.objs.size + 1 := by
    rw [Heap.size_update, size_push']
  have hoL : (((s.heap.push (seqObj "list" #[] 0)).update s.heap.objs.size (Obj.mapSeq (· ++ its.toArray))).push (seqObj "list" its.toArray 0)).get? (s.heap.objs.size + 1) = some (seqObj "list" its.toArray 0) := by
    rw [← hsz]; exact Heap.get?_push_size _ rfl
  show wpAny _ _ _ _ _ { s with heap := ((s.heap.push (seqObj "list" #[] 0)).update s.heap.objs.size (Obj.mapSeq (· ++ its.toArray))).push (seqObj "list" its.toArray 0) }
  rw [hsz]
  have k0 : ∀ b o, s.heap.get? b = some o → (((s.heap.push (seqObj "list" #[] 0)).update s.heap.objs.size (Obj.mapSeq (· ++ its.toArray))).push (seqObj "list" its.toArray 0)).get? b = some o := fun b o e => by
    refine Heap.get?_push_of_some _ ?_
    rw [Heap.get?_update_ne _ _ _ _ (Nat.ne_of_lt (Heap.lt_size e))]
    exact Heap.get?_push_of_some _ e
  refine wpAny_bind (wpAny_holding (wpAny_call_entry slot_list_sort ⟨_, hoL, rfl⟩ entry_list_sort (sort_list (Out := OutS prs its) hoL (by omega) (fun h2 => OutS.small (by omega)) (fun _ h => h.len)
    (fun h2 t kp => pr_runS (isp fun b o e => kp b o (Nat.ne_of_lt (Nat.lt_succ_of_lt (Heap.lt_size e))) (k0 b o e)) h2) fun out ho => ⟨_, rfl, ?_⟩) (args_list_sort _)))
  refine wpAny_pure ⟨_, rfl, ?_⟩
  obtain ⟨c, hDo⟩ := sortedHeap_at (vs := its) (out := out) hoL
  have kp : ∀ b o, s.heap.get? b = some o → (sortedHeap (((s.heap.push (seqObj "list" #[] 0)).update s.heap.objs.size (Obj.mapSeq (· ++ its.toArray))).push (seqObj "list" its.toArray 0)) (s.heap.objs.size + 1) its out).get? b = some o := fun b o e => by
    rw [sortedHeap_old (Nat.ne_of_lt (Nat.lt_succ_of_lt (Heap.lt_size e))) (by rw [size_push', hsz]; exact Nat.lt_succ_of_lt (Nat.lt_succ_of_lt (Heap.lt_size e)))]
    exact k0 b o e
  obtain ⟨p, hp, eo, ris⟩ := ho
  have I1 : Inv X pins σ H { s with heap := sortedHeap (((s.heap.push (seqObj "list" #[] 0)).update s.heap.objs.size (Obj.mapSeq (· ++ its.toArray))).push (seqObj "list" its.toArray 0)) (s.heap.objs.size + 1) its out } := I.kept (t' := s.toks) kp
  have fp : FpOk X pins H (s.heap.objs.size + 1) := I.newFp fun b o e => Nat.lt_succ_of_lt (Heap.lt_size e)
  have lt : ∀ i ∈ p, i < its.length := fun i hi => by
    have := hp.mem_iff.mp hi
    simpa using this
  have vals : Vals (p.map fun i => ws.getD i .non) out.toList := by
    rw [eo]
    refine Paired.of_map fun i hi => ?_
    have hi' := lt i hi
    obtain ⟨w', e4, e5⟩ := rv.get (i := i) (x := ws[i]'(by omega)) (by simp [lv, hi'])
    have a1 : ws.getD i .non = ws[i]'(by omega) := by simp [lv, hi']
    have a2 : its.getD i Value.none = w' := by rw [List.getD_eq_getElem?_getD, e4]; rfl
    rw [a1, a2]
    exact e5
  have new : ObjOk X.prog X.w (upd H (s.heap.objs.size + 1) (.lst (p.map fun i => ws.getD i .non))) (sortedHeap (((s.heap.push (seqObj "list" #[] 0)).update s.heap.objs.size (Obj.mapSeq (· ++ its.toArray))).push (seqObj "list" its.toArray 0)) (s.heap.objs.size + 1) its out) (s.heap.objs.size + 1) (.lst (p.map fun i => ws.getD i .non)) := by
    refine ⟨?_, out.toList, c, vals, by simpa using hDo⟩
    rw [List.length_map, hp.length_eq, List.length_range]
    omega
  refine ⟨.ref (s.heap.objs.size + 1), _, I1.adopt fp new, rfl, q _ _ (p.map fun i => prs.getD i (0, 0)) _ (Same.upd fp.1) upd_same (Paired.of_map fun i hi => ?_) ?_ ris⟩
  · have hi' := lt i hi
    obtain ⟨c, e1, a, e2, e3⟩ := Paired.get' (i := i) (x := ws[i]'(by omega)) ha (by simp [lv, hi'])
    have a1 : ws.getD i .non = ws[i]'(by omega) := by simp [lv, hi']
    have a2 : prs.getD i (0, 0) = c := by rw [List.getD_eq_getElem?_getD, e1]; rfl
    rw [a1, a2]
    exact ⟨a, e2, by rw [upd_ne (ne_of_none e3 fp.1)]; exact e3⟩
  · have e : (List.range its.length).map (fun i => prs.getD i (0, 0)) = prs := by
      apply List.ext_getElem
      · simp
        omega
      · intro i h1 h2
        simp [h2]
    have := hp.map fun i => prs.getD i (0, 0)
    rw [e] at this
    exact this
theorem call_list_prsN (hc : X.calm = true) : CallR X (.type "list") (fun xs H Q => ∃ (d : Addr) (kvs : List (List Key × V)) (prs : List (Int × Int)), xs = [.ref d] ∧ H d = some (.dT kvs) ∧ kvs.map (·.1) = prs.map prKey ∧ kvs.length ≤ 1000 ∧
    ∀ (D : Addr) (ws : List V) (H' : Hp), Same H H' → H' D = some (.lst ws) → Ars H' ws prs → prs.Nodup → Q (.ref D) H') := by
  intro pins s σ H xs us Q I r h
  obtain ⟨d, kvs, prs, rfl, hd, hk, hl, q⟩ := h
  obtain ⟨z, hsys, xs', rel, o, es, ep, e1, e2, e3, e4, nd⟩ := (show ObjOk X.prog X.w H s.heap d (.dT kvs) from I.hok d _ hd)
  have ek : ∀ {l : List (List Key × V)} {r : List (List Key × Addr × Value)}, Paired (fun (p : List Key × V) (q : List Key × Addr × Value) => p.1 = q.1 ∧ H q.2.1 = some (.tup (p.1.map kV)) ∧ RelV p.2 q.2.2) l r → l.map (·.1) = r.map (·.1) := by
    intro l r h
    induction h with
    | nil => rfl
    | cons a _ ih => rw [List.map_cons, List.map_cons, ih, a.1]
  rw [← ek rel, hk] at nd
  have nd' : prs.Nodup := List.Pairwise.of_map prKey (fun a b h e => h (by rw [e])) nd
  exact call_list_prs hc pins s σ H _ us Q I r ⟨d, kvs, prs, rfl, hd, hk, hl, fun D ws H' s1 hD ar => q D ws H' s1 hD ar nd'⟩
theorem ris_strict : ∀ {l : List (Int × Int)}, Ris l → l.Nodup → l.Pairwise fun x y => lexB x y = true
  | [], _, _ => List.Pairwise.nil
  | a :: r, h, n => by
    obtain ⟨h1, h2⟩ := List.pairwise_cons.mp h
    obtain ⟨n1, n2⟩ := List.pairwise_cons.mp n
    refine List.pairwise_cons.mpr ⟨fun b hb => ?_, ris_strict h2 n2⟩
    have e1 := h1 b hb
    have e2 := n1 b hb
    rw [lexB_not] at e1
    rw [lexB_iff]
    have : ¬ (a.1 = b.1 ∧ a.2 = b.2) := fun z => e2 (Prod.ext z.1 z.2)
    omega

end
end L2

namespace L2
open PySem PySem.Calls PySem.Spec PyProof.Rows
section
variable {X : Cx}
end
end L2

namespace L2
open PySem PySem.Calls PySem.Spec PyProof.Rows PySem.W
section
variable {X : Cx} {k i : Nat} {x : Str} {ps : List Str} {sp : Sp} {p pos : Pos} {e : Expr} {es : List Expr} {t : TA} {f : Addr} {fd : FuncData}
end
end L2

namespace L2
open PySem PySem.Calls PySem.Spec PyProof.Rows
section
variable {X : Cx} {A : Around}
end
end L2

namespace L2
open PySem PySem.Calls PySem.Spec PyProof.Rows
section
variable {X : Cx}
end
end L2

namespace L2
open PySem PySem.Spec PyProof.Rows
end L2

namespace L2
open PySem PySem.Calls PySem.Spec PyProof.Rows PySem.W
section
variable {X : Cx} {pos : Pos}
end
end L2

namespace Hk
open PySem L2 PySem.W
end Hk

namespace L2
open PySem PySem.Calls PySem.Spec PyProof.Rows PySem.W
section
variable {X : Cx} {e : Expr} {es : List Expr} {pos : Pos}
end
section
variable {X : Cx} {A : Around}
end
end L2

namespace L2
open PySem PySem.Spec PyProof.Rows
section
variable {X : Cx} {tg : Expr}
end
section
variable {g : TG} {tc : TT} {te : TE} {σ : St} {H : Hp} {R : List V → Hp → Prop}
end
end L2

namespace L2
open PySem PySem.Calls PySem.Spec PyProof.Rows
section
variable {X : Cx}
end
end L2

namespace L2
open PySem PySem.Calls PySem.Spec PyProof.Rows
section
variable {X : Cx} {tg : Expr}
end
end L2

namespace L2
open PySem PySem.Calls PySem.Spec PyProof.Rows
section
variable {prog : Program} {w : World} {A : Around} {E : Value → Shared → Prop} {s : Shared}
end
section
variable {X : Cx}
end
end L2

namespace L2
open PySem PySem.Spec PyProof.Rows
section
variable {X : Cx} {tg : Expr}
end
end L2

namespace L2
open PySem PySem.Spec PyProof.Rows
section
variable {X : Cx} {N : List Str} {src : List (Option Nat)} {scope : Scope} {cl : List (Str × Addr)} {z : Str} {pins : List (Addr × Obj)} {σ : St} {H : Hp} {s : Shared}
end
end L2

namespace L2
open PySem PySem.Calls PySem.Spec PyProof.Rows
end L2

namespace L2
open PySem PySem.Calls PySem.Spec PyProof.Rows PySem.W
section
variable {X : Cx} {pos : Pos}
variable {b₀ : Stmt} {sts suite : List Stmt} {i : Nat} {n c : Str} {pc hpos : Pos} {W : Addr} {tb : XK → TS} {th : TS}
end
section
variable {X : Cx}
end
end L2

namespace L2
open PySem PySem.Calls PySem.Spec PyProof.Rows
theorem tuple_index_ints (l : Addr) (items : Array Value) (ns : List Int) (x : Int) (u : Tok) (hi : IntsAre items.toList ns) (hx : x ∈ ns) :
    Meets (Builtin.«tuple.index» ⟨[.ref l, .int x u], []⟩)
      (fun A R s => IsTup s.heap l items ∧ R (.ok (.ret (.int (ns.idxOf x : Nat) s.toks))) { s with toks := s.toks + 1 }) := by
  intro prog w A R s h
  obtain ⟨ht, h⟩ := h
  have hlen : items.size = ns.length := by
    have := hi.length
    simpa using this
  show wpAny _ _ (Builtin.Tuple.tupleItemsOf (.ref l) >>= _) _ _ s
  refine wpAny_bind (tupleItemsOf_ ht ?_)
  dsimp only [bind_pure_comp, pure_bind]
  refine wpAny_bind (wpAny_pure ?_)
  refine wpAny_bind (wpAny_pure ?_)
  refine wpAny_bind ?_
  rw [Std.Legacy.Range.forIn_eq_forIn_range']
  simp only [Std.Legacy.Range.size, Nat.sub_zero, Nat.add_sub_cancel, Nat.div_one, Nat.min_self]
  refine wpAny_forIn_list _ (fun rest b s' => b.1 = none ∧ s' = s ∧ ∃ i, rest = List.range' i (items.size - i) ∧ i ≤ ns.idxOf x) _ ?_ ?_ _ _ ⟨rfl, rfl, 0, by simp, Nat.zero_le _⟩
  · rintro y rest b s' ⟨hb, rfl, i, hr, hle⟩
    have hxl := List.idxOf_lt_length_of_mem hx
    have hlt : i < items.size := by omega
    obtain ⟨rfl, hrest⟩ : y = i ∧ rest = List.range' (i + 1) (items.size - (i + 1)) := by
      have e : items.size - i = (items.size - (i + 1)) + 1 := by omega
      rw [e, List.range'_succ] at hr
      injection hr with h1 h2
      exact ⟨h1, h2⟩
    have gi : items[y]? = some items[y] := by simp [hlt]
    rw [gi]
    have hn : y < ns.length := by omega
    have iv : ∃ tk, items[y] = Value.int ns[y] tk := by
      have : ∀ {vs : List Value} {ms : List Int}, IntsAre vs ms → ∀ (j : Nat) (h1 : j < vs.length) (h2 : j < ms.length), ∃ tk, vs[j] = Value.int ms[j] tk := by
        intro vs ms hh
        induction hh with
        | nil => intro j h1; exact absurd h1 (Nat.not_lt_zero _)
        | cons n t _ ih =>
          intro j h1 h2
          cases j with
          | zero => exact ⟨t, rfl⟩
          | succ j => exact ih j (Nat.lt_of_succ_lt_succ h1) (Nat.lt_of_succ_lt_succ h2)
      obtain ⟨tk, e⟩ := this hi y (by simpa using hlt) hn
      exact ⟨tk, by simpa using e⟩
    obtain ⟨tk, e⟩ := iv
    rw [e]
    refine wpAny_bind (wpAny_eqBool_int ?_)
    by_cases hit : y = ns.idxOf x
    · have e2 : (ns[y] == x) = true := by
        subst hit
        simp [List.getElem_idxOf]
      rw [e2]
      subst hit
      exact wpAny_bind (wpAny_bind (wpAny_mkInt (wpAny_pure (wpAny_pure (wpAny_pure h)))))
    · have e2 : (ns[y] == x) = false := ne_of_lt_idxOf (by omega) hn
      rw [e2]
      exact wpAny_pure ⟨rfl, rfl, y + 1, hrest, by omega⟩
  · rintro ⟨b1, b2⟩ s' ⟨hb, rfl, i, hr, hle⟩
    have hxl := List.idxOf_lt_length_of_mem hx
    have e : items.size - i = (items.size - (i + 1)) + 1 := by omega
    rw [e, List.range'_succ] at hr
    cases hr
section
variable {X : Cx}
theorem mt_indexT : MtR X "tuple.index" (fun x vs H Q => ∃ (l : Addr) (ns : List Int) (k : Int), x = .ref l ∧ vs = [.int k] ∧ SqT X.K H l (ns.map V.int) ∧ k ∈ ns ∧ Q (.int (ns.idxOf k : Nat)) H) := by
  intro pins s σ H x vs v us Q I rx rv h
  obtain ⟨l, ns, k, rfl, rfl, hl, hk, q⟩ := h
  cases rx
  obtain ⟨u, rfl, ru⟩ := vals1 rv
  obtain ⟨tk, rfl⟩ := ru
  obtain ⟨its, r1, p1, _⟩ := I.tuple hl
  refine call_meets PySem.F.slot_tuple_index p1.typeIs PySem.F.entry_tuple_index (PySem.F.args_tuple_index_2 _ _) (tuple_index_ints l its.toArray ns k tk (intsAre_of (by simpa using r1)) hk) ⟨p1, ?_⟩
  exact ⟨.int _, H, I.tok _, ⟨_, rfl⟩, q⟩
theorem collect_tupL {prog : Program} {w : World} {A : Around} {E : Value → Shared → Prop} {s : Shared} {l : Addr} {vs : List Value} {Q : List Value → Shared → Prop} (hl : IsTup s.heap l vs.toArray)
    (h : Q vs { s with heap := (s.heap.push (seqObj "list" #[] 0)).update s.heap.objs.size (Obj.mapSeq (· ++ vs.toArray)) }) (hsz : vs.length ≤ sizeLine) :
    wpAny (model prog w) A (collect (.ref l)) Q E s := by
  obtain ⟨o, ho, hc, n, hd⟩ := id hl
  unfold collect
  refine wpAny_bind (wpAny_runValue (codeAny_builtin entry_proto_collect' ?_))
  show wpAny _ _ (do again (.builtin "list.__iadd__" ⟨[← newList [], .ref l], []⟩)) _ _ s
  refine wpAny_bind (wpAny_newList (wpAny_pure ⟨Code.quiet_builtin _ (by decide +kernel), codeAny_builtin entry_list_iadd' ?_⟩))
  show wpAny _ _ (Builtin.List.listExtendWith (.ref s.heap.objs.size) (.ref l) (.ref s.heap.objs.size)) _ _ { s with heap := s.heap.push (seqObj "list" #[] 0) }
  unfold Builtin.List.listExtendWith
  have ho' : (s.heap.push (seqObj "list" #[] 0)).get? l = some o := Heap.get?_push_of_some _ ho
  refine wpAny_bind (wpAny_typeOf (T := "tuple") ⟨o, ho', hc⟩ ?_)
  have ht : (Value.type "tuple" == Value.type "tuple") = true := by rfl
  rw [if_pos (by rw [ht]; simp)]
  refine wpAny_bind (listItems_at ho' hd ?_)
  refine wpAny_bind (listItems_at (xs := #[]) (n := 0) (Heap.get?_push_size _ rfl) rfl ?_)
  rw [if_neg (by simp)]
  refine wpAny_bind (listUpdate_at (xs := #[]) (n := 0) (Heap.get?_push_size _ rfl) rfl ?_ (Nat.zero_le _) (by show (#[] ++ vs.toArray).size ≤ sizeLine + 1; simp only [Array.size_append, List.size_toArray, List.length_nil]; omega))
  refine wpAny_pure ?_
  show wpAny (model prog w) A (do
      let o ← load s.heap.objs.size
      match o.data with
      | .seq xs _ => pure xs.toList
      | _ => unsupported "internal:collect") Q E { s with heap := (s.heap.push (seqObj "list" #[] 0)).update s.heap.objs.size (Obj.mapSeq (· ++ vs.toArray)) }
  refine wpAny_bind (wpAny_load (get?_update_seq (Heap.get?_push_size _ rfl) _) ?_)
  show wpAny _ _ (pure ((#[] : Array Value) ++ vs.toArray).toList) Q E _
  rw [show ((#[] : Array Value) ++ vs.toArray).toList = vs by simp]
  exact wpAny_pure h
end
end L2

namespace PySem.SeqAt
open AutoSeq1 (wpAny_loadPart')
open MeetsSeq
section
variable {A : Around} {s : Shared}
end
end PySem.SeqAt
namespace L2
open PySem PySem.Calls PySem.Spec PyProof.Rows
section
variable {X : Cx}
end
end L2

namespace L2
open PySem PySem.Calls PySem.Spec PyProof.Rows
inductive Tr where
  | non | int (i : Int) | str (x : Str) | tup (l : List Tr) | lst (l : List Tr)
inductive IsV (K : PySem.W.Frag) (H : Hp) (R : V → Tr → Prop) : V → Tr → Prop where
  | non : IsV K H R .non .non
  | bl (b : Bool) : IsV K H R (.bl b) (.int (if b then 1 else 0))
  | int (i : Int) : IsV K H R (.int i) (.int i)
  | str (x : Str) : IsV K H R (.str x) (.str x)
  | tup {a : Addr} {xs : List V} {ts : List Tr} (q : SqT K H a xs) (p : Paired R xs ts) : IsV K H R (.ref a) (.tup ts)
  | lst {a : Addr} {xs : List V} {ts : List Tr} (q : SqL K H a xs) (p : Paired R xs ts) : IsV K H R (.ref a) (.lst ts)
def Is (K : PySem.W.Frag) (H : Hp) : Nat → V → Tr → Prop
  | 0 => IsV K H fun _ _ => False
  | d + 1 => IsV K H (Is K H d)
theorem same_rd {H H' : Hp} {a : Addr} {u : HO} (s : Same H H') (h : Rd H a u) : Rd H' a u := by
  rcases h with h | ⟨o, h⟩
  · exact .inl (s _ _ h)
  · exact .inr ⟨o, s _ _ h⟩
theorem same_sqT {K : PySem.W.Frag} {H H' : Hp} {a : Addr} {xs : List V} (s : Same H H') (h : SqT K H a xs) : SqT K H' a xs := h.imp (same_rd s) id
theorem Is.int {K : PySem.W.Frag} {H : Hp} (i : Int) : ∀ {d : Nat}, Is K H d (.int i) (.int i)
  | 0 => IsV.int i
  | _ + 1 => IsV.int i
theorem Is.tup {K : PySem.W.Frag} {H : Hp} {d : Nat} {a : Addr} {xs : List V} {ts : List Tr} (q : SqT K H a xs) (p : Paired (Is K H d) xs ts) : Is K H (d + 1) (.ref a) (.tup ts) := IsV.tup q p
theorem is_ints {K : PySem.W.Frag} {H : Hp} {d : Nat} : ∀ ns : List Int, Paired (Is K H d) (ns.map V.int) (ns.map Tr.int)
  | [] => .nil
  | n :: r => .cons (Is.int n) (is_ints r)
def tPr (q : Int × Int) : Tr := .tup [.int q.1, .int q.2]
def tPrs (l : List (Int × Int)) : List Tr := l.map tPr
theorem is_ars {K : PySem.W.Frag} {H : Hp} {d : Nat} {ws : List V} {prs : List (Int × Int)} (h : Ars H ws prs) : Paired (Is K H (d + 1)) ws (tPrs prs) := by
  induction h with
  | nil => exact .nil
  | cons a _ ih =>
    obtain ⟨r, rfl, e⟩ := a
    exact .cons (Is.tup (SqT.of e) (.cons (Is.int _) (.cons (Is.int _) .nil))) ih
theorem tr_eqbool_bool (a b : Bool) : ((a == b) = true) ↔ (Tr.int (if a then 1 else 0) = Tr.int (if b then 1 else 0)) := by cases a <;> cases b <;> simp
theorem tr_eqbool_int (a : Bool) (n : Int) : (((if a then (1 : Int) else 0) == n) = true) ↔ (Tr.int (if a then 1 else 0) = Tr.int n) := by simp
theorem tr_eqint_bool (n : Int) (a : Bool) : ((n == (if a then (1 : Int) else 0)) = true) ↔ (Tr.int n = Tr.int (if a then 1 else 0)) := by simp
theorem tr_eqint_int (m n : Int) : ((m == n) = true) ↔ (Tr.int m = Tr.int n) := by simp
theorem tr_eqstr (x y : Str) : ((x == y) = true) ↔ (Tr.str x = Tr.str y) := by simp
section
variable {X : Cx} {pins : List (Addr × Obj)} {s : Shared} {σ : St} {H : Hp} {A : Around} {R : V → Tr → Prop}
theorem sq_excl (I : Inv X pins σ H s) {a : Addr} {xs ys : List V} (h : SqT X.K H a xs) (g : SqL X.K H a ys) : False := by
  obtain ⟨_, _, ⟨o, e, c, _⟩, _⟩ := I.tuple h
  obtain ⟨_, _, ⟨o', n', e', c', _⟩, _⟩ := I.list g
  rw [e] at e'
  cases e'
  rw [c] at c'
  exact absurd c' (by decide)
theorem paired_fn {R' : V → Tr → Prop} (hF : ∀ x t t', R' x t → R' x t' → t = t') : ∀ {xs : List V} {ts ts' : List Tr}, Paired R' xs ts → Paired R' xs ts' → ts = ts'
  | _, _, _, .nil, .nil => rfl
  | _, _, _, .cons a r, .cons b q => by rw [hF _ _ _ a b, paired_fn hF r q]
theorem isv_fn (I : Inv X pins σ H s) (hF : ∀ x t t', R x t → R x t' → t = t') {x : V} {t t' : Tr} (h : IsV X.K H R x t) (g : IsV X.K H R x t') : t = t' := by
  cases h with
  | non => cases g; rfl
  | bl b => cases g; rfl
  | int i => cases g; rfl
  | str z => cases g; rfl
  | tup q p =>
    cases g with
    | tup q' p' =>
      cases I.tuple_inj q q'
      rw [paired_fn hF p p']
    | lst q' p' => exact (sq_excl I q q').elim
  | lst q p =>
    cases g with
    | lst q' p' =>
      cases I.list_inj q q'
      rw [paired_fn hF p p']
    | tup q' p' => exact (sq_excl I q' q).elim
theorem is_fn (I : Inv X pins σ H s) : ∀ {d : Nat} {x : V} {t t' : Tr}, Is X.K H d x t → Is X.K H d x t' → t = t'
  | 0, _, _, _, h, g => isv_fn I (fun _ _ _ z _ => z.elim) h g
  | d + 1, _, _, _, h, g => isv_fn (R := Is X.K H d) I (fun _ _ _ a b => is_fn I a b) h g
theorem items_eq (hR : ∀ x y t t' v u, R x t → R y t' → RelV x v → RelV y u → ∃ b, (b = true ↔ t = t') ∧ SeqAt.EqAt A s v u b) {xs ys : List V} {its jts : List Value} {ts ts' : List Tr} (r1 : Vals xs its) (r2 : Vals ys jts) (p1 : Paired R xs ts) (p2 : Paired R ys ts') :
    ∃ e : Nat → Bool, (∀ j (h1 : j < its.toArray.size) (h2 : j < jts.toArray.size), SeqAt.EqAt A s its.toArray[j] jts.toArray[j] (e j)) ∧ ∀ j, j < ts.length → j < ts'.length → (e j = true ↔ ts[j]? = ts'[j]?) := by
  have l1 : xs.length = its.length := r1.length
  have l2 : ys.length = jts.length := r2.length
  have l3 : xs.length = ts.length := Paired.length p1
  have l4 : ys.length = ts'.length := Paired.length p2
  have ex : ∀ (j : Nat) (h1 : j < its.toArray.size) (h2 : j < jts.toArray.size), ∃ b, (b = true ↔ ts[j]? = ts'[j]?) ∧ SeqAt.EqAt A s its.toArray[j] jts.toArray[j] b := by
    intro j h1 h2
    have h1' : j < its.length := by simpa using h1
    have h2' : j < jts.length := by simpa using h2
    obtain ⟨v1, e1, q1⟩ := r1.get (i := j) (x := xs[j]) (by simp [show j < xs.length by omega])
    obtain ⟨v2, e2, q2⟩ := r2.get (i := j) (x := ys[j]) (by simp [show j < ys.length by omega])
    obtain ⟨t1, e3, q3⟩ := Paired.get' (i := j) (x := xs[j]) p1 (by simp [show j < xs.length by omega])
    obtain ⟨t2, e4, q4⟩ := Paired.get' (i := j) (x := ys[j]) p2 (by simp [show j < ys.length by omega])
    have e1' : its[j] = v1 := by simpa [h1'] using e1
    have e2' : jts[j] = v2 := by simpa [h2'] using e2
    obtain ⟨b, hb, he⟩ := hR _ _ _ _ _ _ q3 q4 q1 q2
    refine ⟨b, ?_, ?_⟩
    · rw [e3, e4, hb]
      simp
    · rw [List.getElem_toArray, List.getElem_toArray, e1', e2']
      exact he
  classical
  refine ⟨fun j => if h : j < its.toArray.size ∧ j < jts.toArray.size then Classical.choose (ex j h.1 h.2) else false, fun j h1 h2 => ?_, fun j h1 h2 => ?_⟩
  · dsimp only
    rw [dif_pos (⟨h1, h2⟩ : j < its.toArray.size ∧ j < jts.toArray.size)]
    exact (Classical.choose_spec (ex j h1 h2)).2
  · have k1 : j < its.toArray.size := by rw [List.size_toArray]; omega
    have k2 : j < jts.toArray.size := by rw [List.size_toArray]; omega
    dsimp only
    rw [dif_pos (⟨k1, k2⟩ : j < its.toArray.size ∧ j < jts.toArray.size)]
    exact (Classical.choose_spec (ex j k1 k2)).1
theorem all_iff {e : Nat → Bool} {ts ts' : List Tr} {n n' : Nat} (l : ts.length = n) (l' : ts'.length = n') (he : ∀ j, j < ts.length → j < ts'.length → (e j = true ↔ ts[j]? = ts'[j]?)) : ((List.range (min n n')).all e && n == n') = true ↔ ts = ts' := by
  subst l l'
  rw [Bool.and_eq_true, beq_iff_eq, List.all_eq_true]
  constructor
  · rintro ⟨h, hl⟩
    refine List.ext_getElem? fun j => ?_
    by_cases hj : j < ts.length
    · exact (he j hj (by omega)).mp (h j (by rw [List.mem_range]; omega))
    · rw [List.getElem?_eq_none (by omega), List.getElem?_eq_none (by omega)]
  · rintro rfl
    refine ⟨fun j hj => ?_, rfl⟩
    rw [List.mem_range] at hj
    exact (he j (by omega) (by omega)).mpr rfl
theorem len_of {xs : List V} {its : List Value} {ts : List Tr} (r : Vals xs its) (p : Paired R xs ts) : ts.length = its.toArray.size := by
  rw [List.size_toArray, ← r.length, Paired.length p]
section
variable (hu : A.units < cLine) (I : Inv X pins σ H s) (hR : ∀ x y t t' v u, R x t → R y t' → RelV x v → RelV y u → ∃ b, (b = true ↔ t = t') ∧ SeqAt.EqAt A.in1 s v u b) (hF : ∀ x t t', R x t → R x t' → t = t')
include hu I hR hF
theorem rcat_tup {a b : Addr} {xs ys : List V} {ts ts' : List Tr} (q1 : SqT X.K H a xs) (q2 : SqT X.K H b ys) (p1 : Paired R xs ts) (p2 : Paired R ys ts') : ∃ k, (k = true ↔ Tr.tup ts = Tr.tup ts') ∧ SeqAt.RcAt A s (.ref a) (.ref b) k := by
  obtain ⟨its, r1, pp1, _⟩ := I.tuple q1
  obtain ⟨jts, r2, pp2, _⟩ := I.tuple q2
  obtain ⟨e, he, hi⟩ := items_eq hR r1 r2 p1 p2
  refine ⟨_, ?_, SeqAt.RcAt.tuples pp1 pp2 hu he⟩
  rw [all_iff (len_of r1 p1) (len_of r2 p2) hi, Tr.tup.injEq]
theorem rcat_lst {a b : Addr} {xs ys : List V} {ts ts' : List Tr} (q1 : SqL X.K H a xs) (q2 : SqL X.K H b ys) (p1 : Paired R xs ts) (p2 : Paired R ys ts') : ∃ k, (k = true ↔ Tr.lst ts = Tr.lst ts') ∧ SeqAt.RcAt A s (.ref a) (.ref b) k := by
  obtain ⟨its, r1, pp1, _⟩ := I.list q1
  obtain ⟨jts, r2, pp2, _⟩ := I.list q2
  obtain ⟨e, he, hi⟩ := items_eq hR r1 r2 p1 p2
  have l1 := len_of r1 p1
  have l2 := len_of r2 p2
  by_cases c : its.toArray.size = jts.toArray.size
  · refine ⟨_, ?_, SeqAt.RcAt.lists pp1.isList pp2.isList c hu he⟩
    have := all_iff l1 l2 hi
    rw [c, Nat.min_self, beq_self_eq_true, Bool.and_true] at this
    rw [c, this, Tr.lst.injEq]
  · refine ⟨false, ?_, SeqAt.RcAt.lists_lengths pp1.isList pp2.isList (by simpa using c) hu⟩
    simp only [Bool.false_eq_true, Tr.lst.injEq, false_iff]
    exact fun z => c (by rw [← l1, ← l2, z])
theorem eqat_tup {a b : Addr} {xs ys : List V} {ts ts' : List Tr} (q1 : SqT X.K H a xs) (q2 : SqT X.K H b ys) (p1 : Paired R xs ts) (p2 : Paired R ys ts') : ∃ k, (k = true ↔ Tr.tup ts = Tr.tup ts') ∧ SeqAt.EqAt A s (.ref a) (.ref b) k := by
  by_cases c : a = b
  · subst c
    cases I.tuple_inj q1 q2
    rw [paired_fn hF p1 p2]
    exact ⟨true, by simp, SeqAt.EqAt.same _⟩
  · obtain ⟨k, hk, h⟩ := rcat_tup hu I hR hF q1 q2 p1 p2
    exact ⟨k, hk, SeqAt.EqAt.of_refs c h⟩
theorem eqat_lst {a b : Addr} {xs ys : List V} {ts ts' : List Tr} (q1 : SqL X.K H a xs) (q2 : SqL X.K H b ys) (p1 : Paired R xs ts) (p2 : Paired R ys ts') : ∃ k, (k = true ↔ Tr.lst ts = Tr.lst ts') ∧ SeqAt.EqAt A s (.ref a) (.ref b) k := by
  by_cases c : a = b
  · subst c
    cases I.list_inj q1 q2
    rw [paired_fn hF p1 p2]
    exact ⟨true, by simp, SeqAt.EqAt.same _⟩
  · obtain ⟨k, hk, h⟩ := rcat_lst hu I hR hF q1 q2 p1 p2
    exact ⟨k, hk, SeqAt.EqAt.of_refs c h⟩
theorem eqAt_isv {x y : V} {t t' : Tr} {v u : Value} (h : IsV X.K H R x t) (h' : IsV X.K H R y t') (rx : RelV x v) (ry : RelV y u) : ∃ b, (b = true ↔ t = t') ∧ SeqAt.EqAt A s v u b := by
  cases h with
  | non =>
    cases rx
    cases h' with
    | non =>
      cases ry
      exact ⟨_, by simp, SeqAt.EqAt.same _⟩
    | bl b2 =>
      cases ry
      exact ⟨false, by simp, SeqAt.EqAt.none_bool b2⟩
    | int n2 =>
      obtain ⟨w2, rfl⟩ := ry
      exact ⟨false, by simp, SeqAt.EqAt.none_int n2 w2⟩
    | str z2 =>
      obtain ⟨w2, rfl⟩ := ry
      exact ⟨false, by simp, SeqAt.EqAt.none_str z2 w2⟩
    | tup q2 p2 =>
      cases ry
      obtain ⟨its2, r2, pp2, _⟩ := I.tuple q2
      have I2 := pp2
      exact ⟨false, by simp, SeqAt.EqAt.none_tuple I2 hu⟩
    | lst q2 p2 =>
      cases ry
      obtain ⟨its2, r2, pp2, _⟩ := I.list q2
      have I2 := pp2.isList
      exact ⟨false, by simp, SeqAt.EqAt.none_list I2 hu⟩
  | bl b1 =>
    cases rx
    cases h' with
    | non =>
      cases ry
      exact ⟨false, by simp, SeqAt.EqAt.bool_none b1⟩
    | bl b2 =>
      cases ry
      exact ⟨_, tr_eqbool_bool b1 b2, SeqAt.EqAt.bool_bool b1 b2⟩
    | int n2 =>
      obtain ⟨w2, rfl⟩ := ry
      exact ⟨_, tr_eqbool_int b1 n2, SeqAt.EqAt.bool_int b1 n2 w2⟩
    | str z2 =>
      obtain ⟨w2, rfl⟩ := ry
      exact ⟨false, by simp, SeqAt.EqAt.bool_str b1 z2 w2⟩
    | tup q2 p2 =>
      cases ry
      obtain ⟨its2, r2, pp2, _⟩ := I.tuple q2
      have I2 := pp2
      exact ⟨false, by simp, SeqAt.EqAt.bool_tuple b1 I2 hu⟩
    | lst q2 p2 =>
      cases ry
      obtain ⟨its2, r2, pp2, _⟩ := I.list q2
      have I2 := pp2.isList
      exact ⟨false, by simp, SeqAt.EqAt.bool_list b1 I2 hu⟩
  | int n1 =>
    obtain ⟨w1, rfl⟩ := rx
    cases h' with
    | non =>
      cases ry
      exact ⟨false, by simp, SeqAt.EqAt.int_none n1 w1⟩
    | bl b2 =>
      cases ry
      exact ⟨_, tr_eqint_bool n1 b2, SeqAt.EqAt.int_bool n1 w1 b2⟩
    | int n2 =>
      obtain ⟨w2, rfl⟩ := ry
      exact ⟨_, tr_eqint_int n1 n2, SeqAt.EqAt.int_int n1 w1 n2 w2⟩
    | str z2 =>
      obtain ⟨w2, rfl⟩ := ry
      exact ⟨false, by simp, SeqAt.EqAt.int_str n1 w1 z2 w2⟩
    | tup q2 p2 =>
      cases ry
      obtain ⟨its2, r2, pp2, _⟩ := I.tuple q2
      have I2 := pp2
      exact ⟨false, by simp, SeqAt.EqAt.int_tuple n1 w1 I2 hu⟩
    | lst q2 p2 =>
      cases ry
      obtain ⟨its2, r2, pp2, _⟩ := I.list q2
      have I2 := pp2.isList
      exact ⟨false, by simp, SeqAt.EqAt.int_list n1 w1 I2 hu⟩
  | str z1 =>
    obtain ⟨w1, rfl⟩ := rx
    cases h' with
    | non =>
      cases ry
      exact ⟨false, by simp, SeqAt.EqAt.str_none z1 w1⟩
    | bl b2 =>
      cases ry
      exact ⟨false, by simp, SeqAt.EqAt.str_bool z1 w1 b2⟩
    | int n2 =>
      obtain ⟨w2, rfl⟩ := ry
      exact ⟨false, by simp, SeqAt.EqAt.str_int z1 w1 n2 w2⟩
    | str z2 =>
      obtain ⟨w2, rfl⟩ := ry
      exact ⟨_, tr_eqstr z1 z2, SeqAt.EqAt.str_str z1 w1 z2 w2⟩
    | tup q2 p2 =>
      cases ry
      obtain ⟨its2, r2, pp2, _⟩ := I.tuple q2
      have I2 := pp2
      exact ⟨false, by simp, SeqAt.EqAt.str_tuple z1 w1 I2 hu⟩
    | lst q2 p2 =>
      cases ry
      obtain ⟨its2, r2, pp2, _⟩ := I.list q2
      have I2 := pp2.isList
      exact ⟨false, by simp, SeqAt.EqAt.str_list z1 w1 I2 hu⟩
  | tup q1 p1 =>
    cases rx
    cases h' with
    | non =>
      cases ry
      obtain ⟨its1, r1, pp1, _⟩ := I.tuple q1
      have I1 := pp1
      exact ⟨false, by simp, SeqAt.EqAt.tuple_none I1 hu⟩
    | bl b2 =>
      cases ry
      obtain ⟨its1, r1, pp1, _⟩ := I.tuple q1
      have I1 := pp1
      exact ⟨false, by simp, SeqAt.EqAt.tuple_bool b2 I1 hu⟩
    | int n2 =>
      obtain ⟨w2, rfl⟩ := ry
      obtain ⟨its1, r1, pp1, _⟩ := I.tuple q1
      have I1 := pp1
      exact ⟨false, by simp, SeqAt.EqAt.tuple_int n2 w2 I1 hu⟩
    | str z2 =>
      obtain ⟨w2, rfl⟩ := ry
      obtain ⟨its1, r1, pp1, _⟩ := I.tuple q1
      have I1 := pp1
      exact ⟨false, by simp, SeqAt.EqAt.tuple_str z2 w2 I1 hu⟩
    | tup q2 p2 =>
      cases ry
      obtain ⟨its1, r1, pp1, _⟩ := I.tuple q1
      have I1 := pp1
      obtain ⟨its2, r2, pp2, _⟩ := I.tuple q2
      have I2 := pp2
      exact eqat_tup hu I hR hF q1 q2 p1 p2
    | lst q2 p2 =>
      cases ry
      obtain ⟨its1, r1, pp1, _⟩ := I.tuple q1
      have I1 := pp1
      obtain ⟨its2, r2, pp2, _⟩ := I.list q2
      have I2 := pp2.isList
      exact ⟨false, by simp, SeqAt.EqAt.tuple_list I1 I2 hu⟩
  | lst q1 p1 =>
    cases rx
    cases h' with
    | non =>
      cases ry
      obtain ⟨its1, r1, pp1, _⟩ := I.list q1
      have I1 := pp1.isList
      exact ⟨false, by simp, SeqAt.EqAt.list_none I1 hu⟩
    | bl b2 =>
      cases ry
      obtain ⟨its1, r1, pp1, _⟩ := I.list q1
      have I1 := pp1.isList
      exact ⟨false, by simp, SeqAt.EqAt.list_bool b2 I1 hu⟩
    | int n2 =>
      obtain ⟨w2, rfl⟩ := ry
      obtain ⟨its1, r1, pp1, _⟩ := I.list q1
      have I1 := pp1.isList
      exact ⟨false, by simp, SeqAt.EqAt.list_int n2 w2 I1 hu⟩
    | str z2 =>
      obtain ⟨w2, rfl⟩ := ry
      obtain ⟨its1, r1, pp1, _⟩ := I.list q1
      have I1 := pp1.isList
      exact ⟨false, by simp, SeqAt.EqAt.list_str z2 w2 I1 hu⟩
    | tup q2 p2 =>
      cases ry
      obtain ⟨its1, r1, pp1, _⟩ := I.list q1
      have I1 := pp1.isList
      obtain ⟨its2, r2, pp2, _⟩ := I.tuple q2
      have I2 := pp2
      exact ⟨false, by simp, SeqAt.EqAt.list_tuple I1 I2 hu⟩
    | lst q2 p2 =>
      cases ry
      obtain ⟨its1, r1, pp1, _⟩ := I.list q1
      have I1 := pp1.isList
      obtain ⟨its2, r2, pp2, _⟩ := I.list q2
      have I2 := pp2.isList
      exact eqat_lst hu I hR hF q1 q2 p1 p2
end
theorem eqAt_tr (I : Inv X pins σ H s) : ∀ (d : Nat) {A : Around} {x y : V} {t t' : Tr} {v u : Value}, A.units + d < cLine → Is X.K H d x t → Is X.K H d y t' → RelV x v → RelV y u → ∃ b, (b = true ↔ t = t') ∧ SeqAt.EqAt A s v u b
  | 0, _, _, _, _, _, _, _, hu, h, h', rx, ry => eqAt_isv hu I (fun _ _ _ _ _ _ z _ _ _ => z.elim) (fun _ _ _ z _ => z.elim) h h' rx ry
  | d + 1, A, _, _, _, _, _, _, hu, h, h', rx, ry => eqAt_isv (show A.units < cLine by omega) I (fun _ _ _ _ _ _ a b ra rb => eqAt_tr I d (A := A.in1) (show A.units + 1 + d < cLine by omega) a b ra rb) (fun _ _ _ a b => is_fn I a b) h h' rx ry
end
section
variable {X : Cx}
def rInTr (K : PySem.W.Frag) (d : Nat) : R2 := fun x y H Q => ∃ p ys t ts, y = .ref p ∧ (SqL K H p ys ∨ SqT K H p ys) ∧ Is K H d x t ∧ Paired (Is K H d) ys ts ∧ ∀ b, (b = true ↔ t ∈ ts) → Q (.bl b) H
def rNiTr (K : PySem.W.Frag) (d : Nat) : R2 := fun x y H Q => ∃ p ys t ts, y = .ref p ∧ (SqL K H p ys ∨ SqT K H p ys) ∧ Is K H d x t ∧ Paired (Is K H d) ys ts ∧ ∀ b, (b = true ↔ ¬ t ∈ ts) → Q (.bl b) H
theorem items_in {pins : List (Addr × Obj)} {s : Shared} {σ : St} {H : Hp} {A : Around} (I : Inv X pins σ H s) {d : Nat} (hu : A.units + d < cLine) {x : V} {v : Value} {t : Tr} {ys : List V} {ts : List Tr} {its : List Value} (h : Is X.K H d x t) (rx : RelV x v) (r : Vals ys its) (p : Paired (Is X.K H d) ys ts) :
    ∃ e : Value → Bool, (∀ y, y ∈ its → SeqAt.EqAt A s y v (e y)) ∧ (∀ (j : Nat) (y : Value), its[j]? = some y → (e y = true ↔ ts[j]? = some t)) := by
  have l1 : ys.length = its.length := r.length
  have l2 : ys.length = ts.length := Paired.length p
  have ex : ∀ y, y ∈ its → ∃ b, (∀ j : Nat, its[j]? = some y → (b = true ↔ ts[j]? = some t)) ∧ SeqAt.EqAt A s y v b := by
    intro y hy
    obtain ⟨j, hj⟩ := List.mem_iff_getElem?.mp hy
    have one : ∀ k : Nat, its[k]? = some y → ∃ z tz, ts[k]? = some tz ∧ Is X.K H d z tz ∧ RelV z y := fun k hk => by
      have k1 : k < its.length := (List.getElem?_eq_some_iff.mp hk).1
      obtain ⟨v1, e1, q1⟩ := r.get (i := k) (x := ys[k]) (by simp [show k < ys.length by omega])
      obtain ⟨t1, e3, q3⟩ := Paired.get' (i := k) (x := ys[k]) p (by simp [show k < ys.length by omega])
      rw [hk] at e1
      cases e1
      exact ⟨ys[k], t1, e3, q3, q1⟩
    obtain ⟨z, tz, h1, h2, h3⟩ := one j hj
    obtain ⟨b, hb, he⟩ := eqAt_tr I d hu h2 h h3 rx
    refine ⟨b, fun k hk => ?_, he⟩
    obtain ⟨z', tz', h1', h2', h3'⟩ := one k hk
    have ez : tz' = tz := by
      cases RelV.inj h3 h3'
      exact is_fn I h2' h2
    rw [h1', hb, ez]
    simp
  classical
  refine ⟨fun y => if hy : y ∈ its then Classical.choose (ex y hy) else false, fun y hy => ?_, fun j y hj => ?_⟩
  · dsimp only
    rw [dif_pos hy]
    exact (Classical.choose_spec (ex y hy)).2
  · have hy : y ∈ its := List.mem_of_getElem? hj
    dsimp only
    rw [dif_pos hy]
    exact (Classical.choose_spec (ex y hy)).1 j hj
theorem any_in {e : Value → Bool} {its : List Value} {ts : List Tr} {t : Tr} (l : its.length = ts.length) (h : ∀ (j : Nat) (y : Value), its[j]? = some y → (e y = true ↔ ts[j]? = some t)) : (its.toArray.any e = true) ↔ t ∈ ts := by
  rw [List.any_toArray, List.any_eq_true]
  constructor
  · rintro ⟨y, hy, ey⟩
    obtain ⟨j, hj⟩ := List.mem_iff_getElem?.mp hy
    exact List.mem_of_getElem? ((h j y hj).mp ey)
  · intro ht
    obtain ⟨j, hj⟩ := List.mem_iff_getElem?.mp ht
    have k : j < its.length := by
      have := (List.getElem?_eq_some_iff.mp hj).1
      omega
    have hy : its[j]? = some its[j] := by simp [k]
    exact ⟨its[j], List.getElem_mem k, (h j _ hy).mpr hj⟩
theorem op_inTr (d : Nat) (hu : X.A.units + 1 + d < cLine) : OpR X (compareOp .In) (rInTr X.K d) := by
  intro pins s σ H x y v u Q I rx ry h
  obtain ⟨p, ys, t, ts, rfl, hq, h1, h2, q⟩ := h
  cases ry
  rcases hq with hq | hq
  · obtain ⟨its, r, pl, _⟩ := I.list hq
    obtain ⟨e, he, hi⟩ := items_in I (A := X.A.in1) hu h1 rx r h2
    refine SeqAt.in_listAt e pl.isList (fun y hy => he y (by simpa using hy)) ⟨.bl _, H, I, rfl, q _ ?_⟩
    exact any_in (by rw [← r.length, Paired.length h2]) hi
  · obtain ⟨its, r, pl, _⟩ := I.tuple hq
    obtain ⟨e, he, hi⟩ := items_in I (A := X.A.in1) hu h1 rx r h2
    refine SeqAt.in_tupleAt e pl (fun y hy => he y (by simpa using hy)) ⟨.bl _, H, I, rfl, q _ ?_⟩
    exact any_in (by rw [← r.length, Paired.length h2]) hi
theorem op_niTr (d : Nat) (hu : X.A.units + 1 + d < cLine) : OpR X (compareOp .NotIn) (rNiTr X.K d) := by
  intro pins s σ H x y v u Q I rx ry h
  obtain ⟨p, ys, t, ts, rfl, hq, h1, h2, q⟩ := h
  cases ry
  have fin : ∀ {its : List Value} {e : Value → Bool}, its.length = ts.length → (∀ (j : Nat) (y : Value), its[j]? = some y → (e y = true ↔ ts[j]? = some t)) → ((!its.toArray.any e) = true ↔ ¬ t ∈ ts) := fun {its e} l hi => by
    rw [← any_in l hi]
    cases its.toArray.any e <;> simp
  rcases hq with hq | hq
  · obtain ⟨its, r, pl, _⟩ := I.list hq
    obtain ⟨e, he, hi⟩ := items_in I (A := X.A.in1) hu h1 rx r h2
    refine SeqAt.notIn_listAt e pl.isList (fun y hy => he y (by simpa using hy)) ⟨.bl _, H, I, rfl, q _ ?_⟩
    exact fin (by rw [← r.length, Paired.length h2]) hi
  · obtain ⟨its, r, pl, _⟩ := I.tuple hq
    obtain ⟨e, he, hi⟩ := items_in I (A := X.A.in1) hu h1 rx r h2
    refine SeqAt.notIn_tupleAt e pl (fun y hy => he y (by simpa using hy)) ⟨.bl _, H, I, rfl, q _ ?_⟩
    exact fin (by rw [← r.length, Paired.length h2]) hi
theorem mt_indexTr (d : Nat) (hu : X.A.units + 1 + d < cLine) : MtR X "list.index" (fun x vs H Q => ∃ (l : Addr) (ys : List V) (y : V) (t : Tr) (ts : List Tr) (j : Nat), x = .ref l ∧ vs = [y] ∧ SqL X.K H l ys ∧ Is X.K H d y t ∧ Paired (Is X.K H d) ys ts ∧ ts[j]? = some t ∧ (∀ k, k < j → ts[k]? ≠ some t) ∧ j < 100000 ∧ Q (.int (j : Int)) H) := by
  intro pins s σ H x vs v us Q I rx rv h
  obtain ⟨l, ys, y, t, ts, j, rfl, rfl, hl, h1, h2, hj, hno, hs, q⟩ := h
  cases rx
  obtain ⟨u, rfl, ru⟩ := vals1 rv
  obtain ⟨its, r1, p1, _⟩ := I.list hl
  obtain ⟨⟨cls, dd, data, sl⟩, ho, hc, n, hd⟩ := id p1.isList
  simp only at hc hd
  subst hc hd
  obtain ⟨e, he, hi⟩ := items_in I (A := X.A.in1) hu h1 ru r1 h2
  have hlen : its.length = ts.length := by rw [← r1.length, Paired.length h2]
  have hjl : j < its.length := by
    have := (List.getElem?_eq_some_iff.mp hj).1
    omega
  refine call_meets PySem.F.slot_list_index ⟨_, ho, rfl⟩ PySem.F.entry_list_index (PySem.F.args_list_index_2 _ _) (SeqAt.list_indexAt l its.toArray n dd sl u e j (by simpa using hjl) (by omega) ?_ ?_) ⟨ho, fun y hy => he y (by simpa using hy), ?_⟩
  · have : its[j]? = some its[j] := by simp [hjl]
    rw [List.getElem_toArray]
    exact (hi j _ this).mpr hj
  · intro m hm hmj
    have hm' : m < its.length := by simpa using hm
    have : its[m]? = some its[m] := by simp [hm']
    have z := (hi m _ this)
    rw [List.getElem_toArray]
    cases eb : e its[m] with
    | false => rfl
    | true => exact absurd (z.mp eb) (hno m hmj)
  · exact ⟨.int _, H, I.tok _, ⟨_, rfl⟩, q⟩
end
end L2

namespace L2
open PySem PySem.Calls PySem.Spec PyProof.Rows
section
variable {X : Cx}
theorem sorted_from {pins : List (Addr × Obj)} {s : Shared} {σ : St} {H : Hp} {Q : VK} {a : Addr} {ns : List Int} (I : Inv X pins σ H s) (hl : ns.length < 64)
    (hcol : ∀ {R : List Value → Shared → Prop}, (∀ (h' : Heap) (tk : Nat) (its : List Value), (∀ b o, s.heap.get? b = some o → h'.get? b = some o) → Vals (ns.map V.int) its → R its { s with heap := h', toks := tk }) → wpAny (model X.prog X.w) X.A.in1 (collect (.ref a)) R X.xe s)
    (q : ∀ (D : Addr) (ns' : List Int) (H' : Hp), Same H H' → H' D = some (.lst (ns'.map V.int)) → ns'.Perm ns → ns'.Pairwise (· ≤ ·) → Q (.ref D) H') : wpAny (model X.prog X.w) X.A (call (.builtin "sorted") [.ref a]) (EP X pins σ Q) X.xe s := by
  have sl : (1000000 : Nat) < sizeLine := by decide
  refine Calls.call_function_entry kind_sorted plain_sorted entry_sorted (args_sorted1 _) ?_
  unfold Builtin.«sorted»
  refine wpAny_bind (m := checkCount "sorted" 1 1 _) (wpAny_pure ?_)
  refine wpAny_bind (hcol fun h' tk its kp rv => ?_)
  have li : its.length = ns.length := by rw [← rv.length, List.length_map]
  have hI : IntsAre its ns := intsAre_of rv
  refine wpAny_bind (wpAny_newList ?_)
  have I0 : Inv X pins σ H { s with heap := h', toks := tk } := I.kept kp
  have hoL : (h'.push (seqObj "list" its.toArray 0)).get? h'.objs.size = some (seqObj "list" its.toArray 0) := Heap.get?_push_size _ rfl
  show wpAny _ _ _ _ _ { s with heap := h'.push (seqObj "list" its.toArray 0), toks := tk }
  refine wpAny_bind (wpAny_holding (wpAny_call_entry slot_list_sort ⟨_, hoL, rfl⟩ entry_list_sort (list_sort_tree hoL hI (by omega) fun out ns' h1 h2 h3 => ⟨_, rfl, ?_⟩) (args_list_sort _)))
  refine wpAny_pure ⟨_, rfl, ?_⟩
  have hsz : h'.objs.size < (h'.push (seqObj "list" its.toArray 0)).objs.size := by rw [size_push']; exact Nat.lt_succ_self _
  have old : ∀ b o, h'.get? b = some o → (sortedHeap (h'.push (seqObj "list" its.toArray 0)) h'.objs.size its out).get? b = some o := fun b o e => by
    have hb := Heap.lt_size e
    rw [sortedHeap_old (Nat.ne_of_lt hb) (Nat.lt_trans hb hsz)]
    exact Heap.get?_push_of_some _ e
  obtain ⟨c, hcn⟩ := sortedHeap_at (n := 0) (out := out) (vs := its) hoL
  have I1 : Inv X pins σ H { s with heap := sortedHeap (h'.push (seqObj "list" its.toArray 0)) h'.objs.size its out, toks := tk } := I0.kept (t' := tk) old
  have fp : FpOk X pins H h'.objs.size := I0.newFp fun b o e => Heap.lt_size e
  refine ⟨.ref h'.objs.size, _, I1.adopt (o := .lst (ns'.map V.int)) fp ⟨?_, out.toList, c, vals_ints h1, by simpa using hcn⟩, rfl, q _ ns' _ (Same.upd fp.1) upd_same h2 h3⟩
  rw [List.length_map, h2.length_eq]
  exact Nat.le_of_lt (small1000 (by omega))
theorem call_sorted_sqT : CallR X (.builtin "sorted") (fun xs H Q => ∃ (a : Addr) (ns : List Int), xs = [.ref a] ∧ SqT X.K H a (ns.map V.int) ∧ ns.length < 64 ∧
    ∀ (D : Addr) (ns' : List Int) (H' : Hp), Same H H' → H' D = some (.lst (ns'.map V.int)) → ns'.Perm ns → ns'.Pairwise (· ≤ ·) → Q (.ref D) H') := by
  intro pins s σ H xs us Q I r h
  obtain ⟨a, ns, rfl, hq, hl, q⟩ := h
  obtain ⟨u, rfl, ru⟩ := vals1 r
  cases ru
  obtain ⟨its, rv, pl, hz⟩ := I.tuple hq
  have li : its.length = ns.length := by rw [← rv.length, List.length_map]
  refine sorted_from I hl (fun {R} f => ?_) q
  refine collect_tupL pl ?_ (by have := small1000 (n := its.length) (by omega); omega)
  exact f _ s.toks its (fun b o e => by
    have hb := Heap.lt_size e
    rw [Heap.get?_update_ne _ _ _ _ (Nat.ne_of_lt hb)]
    exact Heap.get?_push_of_some _ e) rv
end
end L2
namespace PySem
open PySem.Spec PyProof.Rows
section
variable {prog : Program} {w : World} {A : Around} {E : Value → Shared → Prop} {s : Shared}
theorem call_set_tupI {l : Addr} {its : Array Value} {ns : List Int} {Q : Value → Shared → Prop} (noH : A.handled = none) (ht : s.heap.IsTuple l its) (hi : IntsAre its.toList ns) (few : its.size + 1 < scanBound)
    (fin : ∀ (h2 : Heap) (tk : Nat), h2.SetOf (intKind prog w) s.heap.objs.size (fun k => (firstMet (fun i => ns.getD i 0) its.size).any (· == k)) (firstMet (fun i => ns.getD i 0) its.size).length →
      (∀ b o, s.heap.get? b = some o → h2.get? b = some o) → Q (.ref s.heap.objs.size) { s with heap := h2, toks := tk }) :
    wpAny (model prog w) A (call (.type "set") [.ref l]) Q E s := by
  obtain ⟨c, tl, hmro⟩ := F.called_set.mro
  have mk1 := F.called_set.made
  have mk2 := F.called_set.sub
  refine wpAny_call (codeAny_of_tree (show wpAny _ _ (callAny (.type "set") _) _ _ _ from ?_))
  refine wpAny_pure ⟨Code.quiet_builtin _ (by decide +kernel), codeAny_builtin F.entry_type_call ?_⟩
  rw [Around.under_plain (weight_type_call_type "set" [.ref l] []) rfl]
  have mk3 := F.called_set.notType
  have mk4 := F.called_set.canCreate
  have mk5 := F.typeCall_set_1 (.ref l)
  repeat (any_goals (first | assumption | wp_step))
  refine codeAny_mono (code_set_new_1 (.ref l) (E := E) (Q₁ := fun ob t1 => ∃ led : Bool, ob = .ref s.heap.objs.size ∧ t1 = { s with heap := s.heap.push { cls := .type "set", dict := none, data := .set #[] 0 (.fresh 0 0 led) } }) (fun led => ⟨led, rfl, rfl⟩)) (fun r t1 hr => ?_)
  cases r with
  | error e => exact hr
  | ok fl =>
    cases fl with
    | ret ob =>
      obtain ⟨led, rfl, rfl⟩ := hr
      generalize hN : s.heap.push { cls := .type "set", dict := none, data := .set #[] 0 (.fresh 0 0 led) } = N
      have sN : N.objs.size = s.heap.objs.size + 1 := by rw [← hN, Heap.size_push]
      have kN : ∀ b o, s.heap.get? b = some o → N.get? b = some o := fun b o e => by rw [← hN]; exact Heap.get?_push_of_some _ e
      have gN : N.get? s.heap.objs.size = some { cls := .type "set", dict := none, data := .set #[] 0 (.fresh 0 0 led) } := by rw [← hN]; exact Heap.get?_push_size _ rfl
      have tyN : Shared.TypeIs { s with heap := N } (.ref s.heap.objs.size) "set" := ⟨_, gN, rfl⟩
      have ini1 := F.called_set.init.lookup
      have ini2 := F.called_set.init.bind (.ref s.heap.objs.size)
      repeat (any_goals (first | assumption | wp_step))
      refine codeAny_mono (codeAny_call_builtin (R := wants (fun r t2 => r = .none ∧ ∃ h2 tk, t2 = { s with heap := h2, toks := tk } ∧
          h2.SetOf (intKind prog w) s.heap.objs.size (fun k => (firstMet (fun i => ns.getD i 0) its.size).any (· == k)) (firstMet (fun i => ns.getD i 0) its.size).length ∧
          (∀ b o, s.heap.get? b = some o → h2.get? b = some o)) E) F.called_set.init.plain F.entry_set_init (check_set_init_1 tyN ?_)) (fun r2 t2 hr2 => ?_)
      · obtain ⟨⟨ocls, odict, odata, oslots⟩, ot, oc, n, od⟩ := ht
        simp only at oc od
        subst oc od
        have ot' := kN _ _ ot
        have no1 := F.sub_tuple_set
        have no2 := F.sub_tuple_frozenset
        have no3 : (Value.type "tuple" == Value.type "dict") = false := by decide
        have tN : N.IsTuple l its := ⟨_, ot', rfl, n, rfl⟩
        unfold Builtin.«set.__init__» noKeywords Builtin.Frozenset.updateFrom
        generalize hPI : pyIter = PI
        wp_walk
        subst hPI
        refine wpAny_pyIter_tuple tN ?_
        refine wpAny_bind (wpAny_runValue ?_)
        have hl : l < s.heap.objs.size := Heap.lt_size ot
        have ne1 : l ≠ N.objs.size := by rw [sN]; exact Nat.ne_of_lt (Nat.lt_succ_of_lt hl)
        have ne2 : s.heap.objs.size ∉ [N.objs.size, l] := by
          simp only [List.mem_cons, List.not_mem_nil, or_false, not_or]
          exact ⟨by rw [sN]; exact Nat.ne_of_lt (Nat.lt_succ_self _), Nat.ne_of_gt hl⟩
        have vals : ∀ (i : Nat) (v : Value), its[i]? = some v → ∃ t, v = .int ((fun i => ns.getD i 0) i) t := fun i v e => IntsAre.int_at hi i v (by rw [Array.getElem?_toList]; exact e)
        refine codeAny_set_update_loopS ((Walks.tuple (show A.in1.in1.in1.handled = none by simp [noH]) _ l ne1 its).toS) s.heap.objs.size ne2 (fun i => ns.getD i 0) vals few (its.size - 0) 0 _ (by omega) (Nat.zero_le _)
          ⟨⟨_, Heap.get?_push_size _ rfl, rfl, rfl⟩, (tN.push _)⟩ ?hS0 ?hR
        case hS0 => exact SetOf_congr ((setObjOf_fresh (knd := intKind prog w) led).setOf (Heap.get?_push_of_some _ gN) (by unfold scanBound; omega)) (fun _ => rfl) rfl
        case hR =>
          intro t3 mv st3
          obtain ⟨h3, g3, d3, tk3, os3⟩ := t3
          have e1 : g3 = s.gens := mv.gens
          have e2 : d3 = s.drawn := mv.drawn
          have e3 : os3 = s.os := mv.os
          subst e1 e2 e3
          refine wpAny_pure (show wpAny _ _ (ret Value.none) _ _ _ from wpAny_pure ⟨rfl, h3, tk3, rfl, st3, fun b o e => ?_⟩)
          have hb := Heap.lt_size e
          refine mv.heap b o ?_ (Heap.get?_push_of_some _ (kN b o e))
          simp only [List.mem_cons, List.not_mem_nil, or_false, not_or]
          exact ⟨Nat.ne_of_lt hb, by rw [sN]; exact Nat.ne_of_lt (Nat.lt_succ_of_lt hb)⟩
      · cases r2 with
        | error e => exact hr2
        | ok fl2 =>
          cases fl2 with
          | ret r =>
            obtain ⟨rfl, h2, tk, rfl, st2, kp2⟩ := hr2
            repeat (any_goals (first | assumption | wp_step))
            exact fin _ _ st2 kp2
          | _ => exact hr2.elim
    | _ => exact hr.elim
end
end PySem
namespace L2
open PySem PySem.Calls PySem.Spec PyProof.Rows
def fmL (ns : List Int) : List Int := firstMet (fun i => ns.getD i 0) ns.length
theorem range_getD (ns : List Int) : (List.range ns.length).map (fun i => ns.getD i 0) = ns := by
  refine List.ext_getElem (by simp) fun i h1 h2 => ?_
  rw [List.getElem_map, List.getElem_range, List.getD_eq_getElem?_getD, List.getElem?_eq_getElem h2]
  rfl
theorem fm_len : ∀ (l acc : List Int), (l.foldl step_dedup acc).length ≤ acc.length + l.length ∧ (acc.Nodup → ((l.foldl step_dedup acc).length = acc.length + l.length ↔ (acc ++ l).Nodup))
  | [], acc => by simp
  | x :: l, acc => by
    rw [List.foldl_cons]
    obtain ⟨h1, h2⟩ := fm_len l (step_dedup acc x)
    have sl := step_length acc x
    by_cases c : acc.any (· == x) = true
    · rw [if_pos c] at sl
      have hx : x ∈ acc := by simpa using c
      have es : step_dedup acc x = acc := by unfold step_dedup; rw [if_pos c]
      refine ⟨by rw [List.length_cons]; omega, fun nd => ?_⟩
      constructor
      · intro e
        rw [List.length_cons] at e
        omega
      · intro e
        exact absurd rfl ((List.nodup_append.mp e).2.2 x hx x List.mem_cons_self)
    · rw [if_neg c] at sl
      have hx : x ∉ acc := by simpa using c
      have es : step_dedup acc x = acc ++ [x] := by unfold step_dedup; rw [if_neg c]
      refine ⟨by rw [List.length_cons]; omega, fun nd => ?_⟩
      have nd2 : (step_dedup acc x).Nodup := by
        rw [es]
        refine List.nodup_append.mpr ⟨nd, List.pairwise_singleton _ _, fun a ha b hb e => ?_⟩
        rw [List.mem_singleton] at hb
        subst hb e
        exact hx ha
      have := h2 nd2
      rw [es, List.append_assoc, List.singleton_append] at this
      rw [List.length_cons, es]
      rw [show acc.length + (l.length + 1) = (acc ++ [x]).length + l.length by rw [List.length_append, List.length_singleton]; omega]
      exact this
theorem fmL_eq (ns : List Int) : fmL ns = ns.foldl step_dedup [] := by
  unfold fmL firstMet
  rw [range_getD]
theorem fmL_len (ns : List Int) : (fmL ns).length ≤ ns.length ∧ ((fmL ns).length = ns.length ↔ ns.Nodup) := by
  rw [fmL_eq]
  have := fm_len ns []
  simpa using this
theorem fmL_any (ns : List Int) (k : Int) : (fmL ns).any (· == k) = decide (k ∈ ns) := by
  unfold fmL
  rw [firstMet_any, range_getD, Bool.eq_iff_iff]
  simp
section
variable {X : Cx}
theorem call_set_tup (hc : X.calm = true) : CallR X (.type "set") (fun xs H Q => ∃ (a : Addr) (ns : List Int), xs = [.ref a] ∧ SqT X.K H a (ns.map V.int) ∧ ns.length ≤ 1000 ∧ ∀ p (n : Nat), H p = none → (n = ns.length ↔ ns.Nodup) → n ≤ ns.length → Q (.ref p) (upd H p (.set (fun k => decide (k ∈ ns)) n))) := by
  intro pins s σ H xs us Q I r h
  obtain ⟨a, ns, rfl, hq, hl, q⟩ := h
  obtain ⟨u, rfl, ru⟩ := vals1 r
  cases ru
  obtain ⟨its, rv, pl, hz⟩ := I.tuple hq
  have li : its.length = ns.length := by rw [← rv.length, List.length_map]
  refine PySem.call_set_tupI (ns := ns) (I.ok.hd hc) pl (by simpa using intsAre_of rv) (by simp only [List.size_toArray]; unfold scanBound; omega) fun h2 tk st kp => ?_
  have I1 : Inv X pins σ H { s with heap := h2, toks := tk } := I.kept kp
  have fp : FpOk X pins H s.heap.objs.size := I.newFp fun b o e => Heap.lt_size e
  rw [show its.toArray.size = ns.length by simp [li]] at st
  have e : (fun k => (firstMet (fun i => ns.getD i 0) ns.length).any (· == k)) = fun k => decide (k ∈ ns) := funext fun k => fmL_any ns k
  rw [e] at st
  refine ⟨.ref s.heap.objs.size, _, I1.adopt (o := .set (fun k => decide (k ∈ ns)) (fmL ns).length) fp st, rfl, q _ _ fp.1 (fmL_len ns).2 (fmL_len ns).1⟩
theorem call_lenS : CallR X (.builtin "len") (fun xs H Q => ∃ (a : Addr) (S : Int → Bool) (n : Nat), xs = [.ref a] ∧ H a = some (.set S n) ∧ Q (.int (n : Nat)) H) := by
  intro pins s σ H xs us Q I r h
  obtain ⟨a, S, n, rfl, ha, q⟩ := h
  obtain ⟨u, rfl, ru⟩ := vals1 r
  cases ru
  obtain ⟨o, es, ep, t, e1, e2, e3, e4, e5, e6, e7, e8⟩ := (show s.heap.SetOf (intKind X.prog X.w) a S n from I.hok a _ ha)
  refine call_len_set e1 e2 e3 e7 (by unfold scanBound at e6; omega) ⟨.int (n : Nat), H, I.tok _, ⟨_, by rw [e8]⟩, q⟩
theorem boot_tset : bootBuiltins "set" = some (.type "set") := by decide +kernel
end
end L2

namespace L2
open PySem PySem.Calls PySem.Spec PyProof.Rows
section
variable {X : Cx}
theorem boot_trng : bootBuiltins "range" = some (.type "range") := by decide +kernel
end
end L2

namespace L2
open PySem PySem.Calls PySem.Spec PyProof.Rows
section
variable {X : Cx}
end
end L2

namespace L2
open PySem PySem.Calls PySem.Spec PyProof.Rows PySem.W
section
variable {X : Cx} {e : Expr} {pos : Pos} {te : TE}
end
end L2

namespace PySem
section
variable {prog : Program} {w : World} {A : Around} {R : Result → Shared → Prop} {I : Addr} {fp wr : List Addr} {G : Array GenState → Array GenState → Prop} {n : Nat} {P : Nat → Value → Prop} {St : Nat → Shared → Prop}
variable {K : Type} [DecidableEq K] {knd : KeyKind prog w K}
end
section
variable {prog : Program} {w : World} {A : Around} {E : Value → Shared → Prop} {s : Shared}
variable {K : Type} [DecidableEq K] {knd : KeyKind prog w K}
end
end PySem
namespace L2
open PySem PySem.Calls PySem.Spec PyProof.Rows PySem.W
section
variable {X : Cx}
end
end L2

namespace PySem
section
variable {prog : Program} {w : World} {A : Around} {R : Result → Shared → Prop} {I : Addr} {fp wr : List Addr} {G : Array GenState → Array GenState → Prop} {n : Nat} {P : Nat → Value → Prop} {St : Nat → Shared → Prop}
variable {K : Type} [DecidableEq K] {knd : KeyKind prog w K}
end
section
variable {prog : Program} {w : World} {A : Around} {E : Value → Shared → Prop} {s : Shared}
variable {K : Type} [DecidableEq K] {knd : KeyKind prog w K}
end
end PySem
namespace L2
open PySem PySem.Calls PySem.Spec PyProof.Rows PySem.W
section
variable {X : Cx}
end
end L2

namespace L2
open PySem PySem.Spec PyProof.Rows
def HT2 (H : Hp) (p : Addr) (xs : List V) : Prop := H p = some (.tup xs) ∨ ∃ o : Obj, H p = some (.frz o (.tup xs))
theorem HT2.sq {K : PySem.W.Frag} {H : Hp} {p : Addr} {xs : List V} (h : HT2 H p xs) : SqT K H p xs := h.elim SqT.of fun ⟨o, e⟩ => .inl (.inr ⟨o, e⟩)
theorem HT2.some {H : Hp} {p : Addr} {xs : List V} (h : HT2 H p xs) : ∃ o, H p = some o := h.elim (fun e => ⟨_, e⟩) fun ⟨o, e⟩ => ⟨_, e⟩
theorem HT2.inj {H : Hp} {p : Addr} {xs ys : List V} (h : HT2 H p xs) (g : HT2 H p ys) : xs = ys := by
  rcases h with h | ⟨o, h⟩ <;> rcases g with g | ⟨o', g⟩ <;> (rw [h] at g; cases g) <;> rfl
theorem HT2.mono {H H' : Hp} {p : Addr} {xs : List V} (h : HT2 H p xs) (s : Same H H') : HT2 H' p xs := h.elim (fun e => .inl (s _ _ e)) fun ⟨o, e⟩ => .inr ⟨o, s _ _ e⟩
theorem HT2.of {H : Hp} {p : Addr} {xs : List V} (h : H p = Option.some (.tup xs)) : HT2 H p xs := .inl h
def IteT (a : Addr) : It := ⟨fun i H => ∃ xs, HT2 H a xs ∧ i < xs.length,
  fun i H x H' => ∃ p v, x = .ref p ∧ H p = none ∧ H' = upd H p (.tup [.int i, v]) ∧ ∀ xs, HT2 H a xs → xs[i]? = some v,
  fun i H => ∃ xs, HT2 H a xs ∧ i = xs.length⟩
theorem turn_enumT {P : Program} {w : World} {K : PySem.W.Frag} {es : List Expr} {kt : Nat} {tp : Pos} (a e it : Addr) (d1 : e ≠ it) :
    Turn P w K (.Tuple es kt tp) (IteT a) [e, it] e (fun i h => (∃ old, IsEnum h e it i old) ∧ h.IsTupleIter it a i) where
  mem := by simp
  obj := fun i h st c hc => by
    obtain ⟨⟨old, s1⟩, ⟨o2, s2, _, q2⟩⟩ := st
    simp only [List.mem_cons, List.not_mem_nil, or_false] at hc
    rcases hc with rfl | rfl
    · exact ⟨_, s1, fun v => by intro q; cases q⟩
    · exact ⟨_, s2, fun v => by intro q; rw [q2] at q; cases q⟩
  keep := fun i h h' st kp => by
    obtain ⟨⟨old, s1⟩, ⟨o2, s2, r2⟩⟩ := st
    exact ⟨⟨old, kp e (by simp) _ s1⟩, ⟨o2, kp it (by simp) _ s2, r2⟩⟩
  item := by
    intro X hP hw hK hc i pins s σ H E I hf st hg
    subst hP hw hK
    obtain ⟨xs, ha, l1⟩ := hg
    obtain ⟨⟨old, s1⟩, s2⟩ := st
    have nf : ∀ {c : Addr} {o : HO}, H c = some o → ∀ b ∈ [e, it], c ≠ b := fun hcc b hb q => by rw [q, (hf b hb).1] at hcc; cases hcc
    obtain ⟨its, r1, t1, _⟩ := I.tuple (HT2.sq ha)
    have hh : X.A.in1.handled = none := I.ok.hd hc
    have e1 : its.toArray.size = xs.length := by rw [List.size_toArray, ← r1.length]
    have nef : e ∉ [it, a] := by
      simp only [List.mem_cons, List.not_mem_nil, or_false, not_or]
      exact ⟨d1, (nf (HT2.some ha).choose_spec e (by simp)).symm⟩
    refine wpAny_pyNext_enum_itemD (draws_tup hh it a (nf (HT2.some ha).choose_spec it (by simp)) its.toArray) s1 ⟨s2, t1⟩ (by omega) d1 nef fun x h' tk px z1 z2 z3 z4 kp => ⟨_, rfl, ?_⟩
    have px : its[i]? = some x := by simpa using px
    obtain ⟨vx, hx⟩ : ∃ v, xs[i]? = some v := ⟨xs[i], by simp [l1]⟩
    obtain ⟨x', q1, rx⟩ := r1.get hx
    rw [px] at q1; cases q1
    refine wpAny_letOwnedTupleGo_enum z1 fun g2 zz hs => ?_
    have fr : H s.heap.objs.size = none := I.hok.fresh (Nat.le_refl _)
    have I1 : Inv X pins σ H { s with heap := g2, toks := tk + 1 } := I.turnedL (l := [e, it]) (t' := tk + 1) (fun c o hc e => by
      simp only [List.mem_cons, List.not_mem_nil, or_false, not_or] at hc
      exact hs.extBut _ _ hc.1 (kp c o hc.1 hc.2 e)) fun c hc => hf c hc
    have fp := I.fpOk (H' := H) (Nat.le_refl _) fr
    have nz : ∀ b ∈ [e, it], b ≠ s.heap.objs.size := fun b hb q => by
      obtain ⟨o, ho⟩ : ∃ o, s.heap.get? b = some o := by
        obtain ⟨o2, s2, _⟩ := s2
        simp only [List.mem_cons, List.not_mem_nil, or_false] at hb
        rcases hb with rfl | rfl
        · exact ⟨_, s1⟩
        · exact ⟨_, s2⟩
      exact absurd (Heap.lt_size ho) (by rw [q]; exact Nat.lt_irrefl _)
    have at2 : g2.get? s.heap.objs.size = some { cls := .type "tuple", data := .seq #[.int i tk, x] } := hs.extBut _ _ (nz e (by simp)).symm z3
    refine ⟨.ref s.heap.objs.size, upd H s.heap.objs.size (.tup [.int i, vx]), I1.adopt fp ⟨?_, [.int i tk, x], .cons ⟨_, rfl⟩ (.cons rx .nil), ⟨_, at2, rfl, _, rfl, rfl⟩⟩, rfl, ⟨_, vx, rfl, fr, rfl, fun xs' q1 => ?_⟩,
      ⟨⟨_, zz⟩, z2.1.extBut hs.extBut d1.symm⟩, fun c hc => ?_⟩
    · show 2 ≤ sizeLine
      decide
    · rw [HT2.inj q1 ha]
      exact hx
    · rw [upd_ne (nz c hc)]
      exact (hf c hc).1
  done := by
    intro X hP hw hK hc i pins s σ H E I hf st hg
    subst hP hw hK
    obtain ⟨xs, ha, hl⟩ := hg
    obtain ⟨⟨old, s1⟩, s2⟩ := st
    have nf : ∀ {c : Addr} {o : HO}, H c = some o → ∀ b ∈ [e, it], c ≠ b := fun hcc b hb q => by rw [q, (hf b hb).1] at hcc; cases hcc
    obtain ⟨its, r1, t1, _⟩ := I.tuple (HT2.sq ha)
    have hh : X.A.in1.handled = none := I.ok.hd hc
    have e1 : its.toArray.size = i := by rw [List.size_toArray, ← r1.length, hl]
    subst e1
    refine wpAny_pyNext_enum_endD (draws_tup hh it a (nf (HT2.some ha).choose_spec it (by simp)) its.toArray) s1 ⟨s2, t1⟩ fun h' eb => ⟨rfl, ?_⟩
    exact I.turnedL (l := [e, it]) (t' := s.toks) (fun c o hc e => by
      simp only [List.mem_cons, List.not_mem_nil, or_false, not_or] at hc
      exact eb c o hc.2 e) fun c hc => hf c hc
  self := fun _ _ _ _ _ st h => by
    obtain ⟨⟨old, s1⟩, _⟩ := st
    exact wpAny_pyIter_enum s1 h
section
variable {X : Cx} {es : List Expr} {kt : Nat} {tp : Pos}
def iEnumT (ta : TA) : TI := fun σ H R => ta σ H fun vs H1 => ∃ a xs, vs = [.ref a] ∧ HT2 H1 a xs ∧ R (IteT a) H1
theorem pi_enumT {a : Expr} {ta : TA} {p pos : Pos} (hg : Gl X "enumerate") (hm : X.mg "enumerate" = none) (ha : PA X [a] ta) (hs : starEach [a] X.env = [(false, eval a X.env)] := by rfl) :
    PI X (.Tuple es kt tp) (.Call (.Name "enumerate" p) [a] [] pos) (iEnumT ta) := by
  intro pins s σ H R I h
  refine Call_ (ld_blt I hg hm boot_enum (PyProof.Rows.callWith_type1 (thn (ha pos pins s σ H _ I h) fun us s1 h1 => ?_) hs rfl))
  obtain ⟨vs, H1, I1, r1, a, xs, e, ha, q⟩ := h1
  subst e
  obtain ⟨u, rfl, ru⟩ := vals1 r1
  cases ru
  obtain ⟨its, _, t1, _⟩ := I1.tuple (HT2.sq ha)
  refine call_enum_tup t1 fun h' z1 z2 kp => wpAny_pyIter_enum z1 ?_
  have I2 : Inv X pins σ H1 { s1 with heap := h' } := I1.kept (t' := s1.toks) kp
  have fr : ∀ k : Nat, H1 (s1.heap.objs.size + k) = none := fun k => I1.hok.fresh (Nat.le_add_right _ _)
  refine ⟨s1.heap.objs.size + 1, _, _, IteT a, H1, rfl, I2, turn_enumT a (s1.heap.objs.size + 1) s1.heap.objs.size (Nat.succ_ne_self _), ⟨⟨_, z1⟩, z2⟩, fun c hc => ?_, q⟩
  simp only [List.mem_cons, List.not_mem_nil, or_false] at hc
  rcases hc with rfl | rfl
  · exact I1.fpOk (Nat.le_add_right _ _) (fr 1)
  · exact I1.fpOk (Nat.le_refl _) (fr 0)
theorem for_enumTT {a : Addr} {xs : List V} {g : TG} {tb : TS} {D : Ends} {σ : St} {H : Hp} (Pv : Nat → St → Hp → Prop) (h0 : Pv 0 σ H) (hl : ∀ i σ H, i ≤ xs.length → Pv i σ H → HT2 H a xs)
    (hs : ∀ (i : Nat) v σ H p, xs[i]? = some v → Pv i σ H → H p = none → g (.ref p) σ (upd H p (.tup [.int i, v])) fun σ2 H2 => tb { D with nx := Pv (i + 1), ct := Pv (i + 1), bk := D.nx } σ2 H2) (hd : ∀ σ H, Pv xs.length σ H → D.nx σ H) :
    ∃ W : Nat → Nat → St → Hp → Prop, (∃ m, W 0 m σ H) ∧ ∀ i m σ H, W i m σ H →
      ((IteT a).stop i H ∧ D.nx σ H) ∨ ((IteT a).go i H ∧ ∃ N : St → Hp → Prop, (∀ σ' H', N σ' H' → ∃ m', m' < m ∧ W (i + 1) m' σ' H') ∧ ∀ x H', (IteT a).yld i H x H' → g x σ H' fun σ2 H2 => tb { D with nx := N, ct := N, bk := D.nx } σ2 H2) := by
  refine ⟨fun i m σ H => m = xs.length - i ∧ i ≤ xs.length ∧ Pv i σ H, ⟨xs.length, by simp, Nat.zero_le _, h0⟩, ?_⟩
  rintro i m σ H ⟨rfl, hi, p⟩
  have q := hl i σ H hi p
  by_cases hlt : i < xs.length
  · refine .inr ⟨⟨xs, q, hlt⟩, Pv (i + 1), fun σ' H' p' => ⟨xs.length - (i + 1), by omega, rfl, hlt, p'⟩, fun x H' y => ?_⟩
    obtain ⟨p', v, e1, e2, e3, y⟩ := y
    subst e1 e3
    exact hs i v σ H p' (y xs q) p e2
  · have e : i = xs.length := by omega
    subst e
    exact .inl ⟨⟨xs, q, rfl⟩, hd σ H p⟩
end
section
variable {X : Cx}
end
end L2

namespace L2
open PySem PySem.Calls PySem.Spec PyProof.Rows PySem.W
section
variable {prog : Program} {w : World} {A : Around} {E : Value → Shared → Prop} {s : Shared}
end
end L2

namespace L2
open PySem PySem.Calls PySem.Spec PyProof.Rows PySem.W
section
variable {X : Cx} {pins : List (Addr × Obj)} {σ : St} {H : Hp} {s : Shared}
end
end L2
namespace L2.Hd
open L2 PySem PySem.Calls PySem.Spec PyProof.Rows PySem.W
section
variable {X : Cx} {tg : Expr}
end
section
variable {X : Cx} {N : List Str} {src : List (Option Nat)} {scope : Scope} {cl : List (Str × Addr)} {pins : List (Addr × Obj)} {σ : St} {H : Hp} {s : Shared}
end
end L2.Hd

namespace L2
open PySem PySem.Calls PySem.Spec PyProof.Rows PySem.W
section
variable {prog : Program} {w : World} {A : Around} {y : Addr} {ob : Obj}
end
section
variable {X : Cx}
end
end L2
namespace PySem
open PySem.Spec PyProof.Rows
section
variable {prog : Program} {w : World} {A : Around} {E : Value → Shared → Prop} {s : Shared} {y : Addr} {ob : Obj}
end
end PySem
namespace L2
open PySem PySem.Calls PySem.Spec PyProof.Rows PySem.W
section
variable {X : Cx}
end
section
variable {X : Cx} {k : Nat} {x : Str} {ps : List Str} {sp : Sp} {p pos : Pos} {e : Expr} {es : List Expr} {t : TA}
end
end L2

namespace L2
open PySem
abbrev IsZb (h : Heap) (z TI TO : Addr) (f0 : Value) (b : Bool) : Prop :=
  h.get? z = some { cls := .type "zip", dict := none, data := .fields #[f0, .bool b, .bool false, .ref TI, .ref TO], slots := #[] }
theorem wpAny_loadAlive {M : Model} {A : Around} {E : Value → Shared → Prop} {s : Shared} {a : Addr} {Q : Option Obj → Shared → Prop} (h : Q (s.heap.get? a) s) : wpAny M A (loadIfAlive a) Q E s := fun Γ p _ => by
  show Sem.wp M Γ (.loadIfAlive a .pure) _ _ p s
  rw [Sem.wp_loadIfAlive]
  exact h
section
variable {prog : Program} {w : World} {z TI TO i1 i2 : Addr} {f1 f2 : List Addr} {n1 n2 : Nat} {P1 P2 : Nat → Value → Prop} {S1 S2 : Nat → Heap → Prop}
theorem owned_free {A : Around} {E : Value → Shared → Prop} {s : Shared} {Q : Bool → Shared → Prop} {f0 : Value} {b : Bool} (hz : IsZb s.heap z TI TO f0 b) (hf : f0 = .none ∨ ∃ a, f0 = rawInt a) (q1 : Q true s)
    (q2 : ∀ h' f1 b1, IsZb h' z TI TO f1 b1 → (∃ a, f1 = rawInt a) → Heap.SameBut z s.heap h' → Q false { s with heap := h' }) : wpAny (model prog w) A (Builtin.SmallTypes.ownedTupleIsFree (.ref z)) Q E s := by
  unfold Builtin.SmallTypes.ownedTupleIsFree
  refine wpAny_bind (wpAny_field hz rfl (x := f0) rfl ?_)
  rcases hf with rfl | ⟨a, rfl⟩
  · exact wpAny_pure q1
  · show wpAny (model prog w) A (loadIfAlive a.toNat >>= _) Q E s
    refine wpAny_bind (wpAny_loadAlive ?_)
    cases e : s.heap.get? a.toNat with
    | none =>
      simp only [Option.isNone_none, if_true]
      exact wpAny_pure q1
    | some o =>
      simp only [Option.isNone_some, Bool.false_eq_true, if_false]
      refine wpAny_bind (wpAny_field hz rfl (x := .bool b) rfl ?_)
      cases b with
      | true => exact wpAny_pure (q2 s.heap _ _ hz ⟨a, rfl⟩ (Heap.SameBut.refl _ _))
      | false => exact wpAny_bind (wpAny_setField_rec hz (by simp) fun g1 z1 e1 => wpAny_pure (q2 g1 _ true z1 ⟨a, rfl⟩ e1))
def ZSb (z TI TO i1 i2 : Addr) (S1 S2 : Nat → Heap → Prop) (i : Nat) (h : Heap) : Prop := (∃ f0 b, IsZb h z TI TO f0 b ∧ (f0 = .none ∨ ∃ a, f0 = rawInt a)) ∧ IsPair h TI (.ref i1) (.ref i2) ∧ (∃ a b, IsPair h TO a b) ∧ S1 i h ∧ S2 i h
theorem zip_itemN {A : Around} {E : Value → Shared → Prop} {s : Shared} {k : Nat} {Q : Value → Shared → Prop} (D : ZAp z TI TO i1 i2 f1 f2) (d1 : Draws prog w A i1 f1 n1 P1 S1) (d2 : Draws prog w A i2 f2 n2 P2 S2) (l1 : k < n1) (l2 : k < n2)
    (st : ZSb z TI TO i1 i2 S1 S2 k s.heap)
    (q : ∀ x y h' tk, P1 k x → P2 k y → (∃ f0 b, IsZb h' z TI TO f0 b ∧ (f0 = .none ∨ ∃ a, f0 = rawInt a)) → (∃ a b, IsPair h' TO a b) → IsPair h' TI (.ref i1) (.ref i2) → S1 (k + 1) h' → S2 (k + 1) h' → IsPair h' s.heap.objs.size x y → h'.objs.size = s.heap.objs.size + 1 →
      (∀ c o, c ≠ z → c ≠ TO → c ≠ i1 → c ≠ i2 → s.heap.get? c = some o → h'.get? c = some o) → Q (.ref s.heap.objs.size) { s with heap := h', toks := tk }) :
    wpAny (model prog w) A (Builtin.«zip.__next__» ⟨[.ref z], []⟩) (fun fin t => ∃ v, fin = .done (.ret v) ∧ Q v t) E s := by
  obtain ⟨⟨f0, b0, hz, hf⟩, hTI, ⟨a, b, hTO⟩, s1, s2⟩ := st
  show wpAny (model prog w) _ (field (.ref z) 2 >>= _) _ _ _
  refine wpAny_bind (wpAny_field hz rfl (x := .bool false) rfl ?_)
  show wpAny (model prog w) _ (field (.ref z) 3 >>= _) _ _ _
  refine wpAny_bind (wpAny_field hz rfl (x := .ref TI) rfl ?_)
  refine wpAny_bind (wpAny_seqItems hTI rfl ?_)
  show wpAny (model prog w) _ (Builtin.SmallTypes.ownedTupleIsFree (.ref z) >>= _) _ _ _
  refine wpAny_bind (owned_free hz hf ?_ fun h1 f1 b1 hz1 hf1 e0 => ?_)
  · simp only [if_true]
    refine wpAny_bind (wpAny_rule ?_)
    refine wpAny_bind (wpAny_field hz rfl (x := .ref TO) rfl ?_)
    refine wpAny_bind (wpAny_setField_rec hz (by simp) fun g1 z1 e1 => ?_)
    replace z1 : IsZb g1 z TI TO .ellipsis b0 := z1
    refine wpAny_bind ?_
    simp only [List.zipIdx_cons, List.zipIdx_nil, List.forIn_cons, List.forIn_nil]
    refine wpAny_bind (wpAny_bind (wpAny_onRaise ?_))
    show wpAny (model prog w) _ (Builtin.SmallTypes.nextOf (.ref i1) >>= _) _ _ _
    have s1a : S1 k g1 := d1.frame _ _ _ s1 fun c hc o e => e1.extBut _ _ (fun x => D.b2 (x ▸ hc)) e
    have s2a : S2 k g1 := d2.frame _ _ _ s2 fun c hc o e => e1.extBut _ _ (fun x => D.b3 (x ▸ hc)) e
    refine wpAny_bind (d1.item k _ _ _ l1 s1a fun x g2 tk2 p1 s1b e2 => wpAny_pure ?_)
    have t2 : IsPair g2 TO a b := e2.extBut _ _ D.a8 (e1.extBut _ _ D.a2 hTO)
    refine wpAny_bind (wpAny_seqItems t2 rfl ?_)
    refine wpAny_bind (wpAny_updateSeq_pair t2 fun g3 t3 e3 => ?_)
    replace t3 : IsPair g3 TO x b := t3
    refine wpAny_bind (wpAny_letGo (wpAny_pure ?_))
    refine wpAny_bind (wpAny_bind (wpAny_onRaise ?_))
    show wpAny (model prog w) _ (Builtin.SmallTypes.nextOf (.ref i2) >>= _) _ _ _
    have s2b : S2 k g3 := d2.frame _ _ _ s2a fun c hc o e => e3.extBut _ _ (fun x => D.b5 (x ▸ hc)) (e2.extBut _ _ (fun x => D.b6 (x ▸ hc)) e)
    have s1c : S1 (k + 1) g3 := d1.frame _ _ _ s1b fun c hc o e => e3.extBut _ _ (fun x => D.b4 (x ▸ hc)) e
    refine wpAny_bind (d2.item k _ _ _ l2 s2b fun y g4 tk4 p2 s2c e4 => wpAny_pure ?_)
    have t4 : IsPair g4 TO x b := e4.extBut _ _ D.a9 t3
    refine wpAny_bind (wpAny_seqItems t4 rfl ?_)
    refine wpAny_bind (wpAny_updateSeq_pair t4 fun g5 t5 e5 => ?_)
    replace t5 : IsPair g5 TO x y := t5
    refine wpAny_bind (wpAny_letGo (wpAny_pure (wpAny_pure ?_)))
    refine wpAny_bind (wpAny_seqItems t5 rfl ?_)
    refine wpAny_bind (wpAny_newTuple ?_)
    have sz : g5.objs.size = s.heap.objs.size := by rw [e5.1, e4.1, e3.1, e2.1, e1.1]
    have z5 : IsZb g5 z TI TO .ellipsis b0 := e5.extBut _ _ D.a2.symm (e4.extBut _ _ D.a4.symm (e3.extBut _ _ D.a2.symm (e2.extBut _ _ D.a3.symm z1)))
    have kp : ∀ c o, c ≠ z → c ≠ TO → c ≠ i1 → c ≠ i2 → s.heap.get? c = some o → g5.get? c = some o := fun c o c1 c2 c3 c4 e =>
      e5.extBut _ _ c2 (e4.extBut _ _ c4 (e3.extBut _ _ c2 (e2.extBut _ _ c3 (e1.extBut _ _ c1 e))))
    have s1d : S1 (k + 1) g5 := d1.frame _ _ _ s1c fun c hc o e => e5.extBut _ _ (fun x => D.b4 (x ▸ hc)) (e4.extBut _ _ (fun x => D.b7 (x ▸ hc)) e)
    have s2d : S2 (k + 1) g5 := d2.frame _ _ _ s2c fun c hc o e => e5.extBut _ _ (fun x => D.b5 (x ▸ hc)) e
    have zlt : z < g5.objs.size := Heap.lt_size z5
    show wpAny (model prog w) _ (Builtin.SmallTypes.ownedTupleHandOut (.ref z) (.ref g5.objs.size) >>= _) _ _ _
    refine wpAny_bind ?_
    unfold Builtin.SmallTypes.ownedTupleHandOut
    have z6 : IsZb (g5.push { cls := .type "tuple", data := .seq #[x, y] }) z TI TO .ellipsis b0 := Heap.get?_push_of_some _ z5
    refine wpAny_bind (wpAny_setField_rec z6 (by simp) fun g7 z7 e7 => ?_)
    replace z7 : IsZb g7 z TI TO (rawInt g5.objs.size) b0 := z7
    refine wpAny_setField_rec z7 (by simp) fun g8 z8 e8 => ?_
    replace z8 : IsZb g8 z TI TO (rawInt g5.objs.size) false := z8
    have up : ∀ c o, c ≠ z → g5.get? c = some o → g8.get? c = some o := fun c o c1 e => e8.extBut _ _ c1 (e7.extBut _ _ c1 (Heap.get?_push_of_some _ e))
    have t8 : IsPair g8 g5.objs.size x y := e8.extBut _ _ (Nat.ne_of_gt zlt) (e7.extBut _ _ (Nat.ne_of_gt zlt) (Heap.get?_push_size _ rfl))
    have sz8 : g8.objs.size = g5.objs.size + 1 := by rw [e8.1, e7.1, Heap.size_push]
    rw [sz] at z8 t8 sz8
    refine wpAny_pure ⟨_, rfl, ?_⟩
    show Q (.ref g5.objs.size) _
    rw [sz]
    exact q x y g8 tk4 p1 p2 ⟨_, _, z8, .inr ⟨_, rfl⟩⟩ ⟨_, _, up _ _ D.a2 t5⟩ (up _ _ D.a1 (kp _ _ D.a1 D.a5 D.a6 D.a7 hTI)) (d1.frame _ _ _ s1d fun c hc o e => up c o (fun x => D.b2 (x ▸ hc)) e) (d2.frame _ _ _ s2d fun c hc o e => up c o (fun x => D.b3 (x ▸ hc)) e) t8 sz8
      fun c o c1 c2 c3 c4 e => up c o c1 (kp c o c1 c2 c3 c4 e)
  · simp only [Bool.false_eq_true, if_false]
    have s1a : S1 k h1 := d1.frame _ _ _ s1 fun c hc o e => e0.extBut _ _ (fun x => D.b2 (x ▸ hc)) e
    have s2a : S2 k h1 := d2.frame _ _ _ s2 fun c hc o e => e0.extBut _ _ (fun x => D.b3 (x ▸ hc)) e
    rw [← Array.forIn_toList]
    simp only [List.forIn_cons, List.forIn_nil]
    refine wpAny_bind (wpAny_bind (wpAny_bind (wpAny_holding ?_)))
    show wpAny (model prog w) _ (Builtin.SmallTypes.nextOf (.ref i1) >>= _) _ _ _
    refine wpAny_bind (d1.item k _ _ _ l1 s1a fun x g2 tk2 p1 s1b e2 => wpAny_pure (wpAny_pure ?_))
    dsimp only
    refine wpAny_bind (wpAny_bind (wpAny_holding ?_))
    show wpAny (model prog w) _ (Builtin.SmallTypes.nextOf (.ref i2) >>= _) _ _ _
    have s2b : S2 k g2 := d2.frame _ _ _ s2a fun c hc o e => e2.extBut _ _ (fun x => D.b6 (x ▸ hc)) e
    refine wpAny_bind (d2.item k _ _ _ l2 s2b fun y g4 tk4 p2 s2c e4 => wpAny_pure (wpAny_pure ?_))
    dsimp only
    refine wpAny_pure ?_
    dsimp only
    refine wpAny_bind (wpAny_newTuple (hsz := by show 2 ≤ sizeLine; decide) ?_)
    have sz : g4.objs.size = s.heap.objs.size := by rw [e4.1, e2.1, e0.1]
    have z4 : IsZb g4 z TI TO f1 b1 := e4.extBut _ _ D.a4.symm (e2.extBut _ _ D.a3.symm hz1)
    have kp : ∀ c o, c ≠ z → c ≠ TO → c ≠ i1 → c ≠ i2 → s.heap.get? c = some o → g4.get? c = some o := fun c o c1 c2 c3 c4 e => e4.extBut _ _ c4 (e2.extBut _ _ c3 (e0.extBut _ _ c1 e))
    have up : ∀ c o, g4.get? c = some o → (g4.push { cls := .type "tuple", data := .seq #[x, y] }).get? c = some o := fun c o e => Heap.get?_push_of_some _ e
    have s1c : S1 (k + 1) g4 := d1.frame _ _ _ s1b fun c hc o e => e4.extBut _ _ (fun x => D.b7 (x ▸ hc)) e
    have tO : IsPair g4 TO a b := e4.extBut _ _ D.a9 (e2.extBut _ _ D.a8 (e0.extBut _ _ D.a2 hTO))
    refine wpAny_pure ⟨_, rfl, ?_⟩
    show Q (.ref g4.objs.size) _
    have t8 : IsPair (g4.push { cls := .type "tuple", data := .seq #[x, y] }) g4.objs.size x y := Heap.get?_push_size _ rfl
    have sz8 : (g4.push { cls := .type "tuple", data := .seq #[x, y] }).objs.size = g4.objs.size + 1 := Heap.size_push ..
    rw [sz] at t8 sz8
    rw [sz]
    exact q x y _ tk4 p1 p2 ⟨_, _, up _ _ z4, .inr hf1⟩ ⟨_, _, up _ _ tO⟩ (up _ _ (kp _ _ D.a1 D.a5 D.a6 D.a7 hTI)) (d1.frame _ _ _ s1c fun c hc o e => up c o e) (d2.frame _ _ _ s2c fun c hc o e => up c o e) t8 sz8 fun c o c1 c2 c3 c4 e => up c o (kp c o c1 c2 c3 c4 e)
theorem zip_stopN {A : Around} {E : Value → Shared → Prop} {s : Shared} {k : Nat} {Q : Fin → Shared → Prop} (D : ZAp z TI TO i1 i2 f1 f2) (d1 : Draws prog w A i1 f1 n1 P1 S1) (d2 : Draws prog w A i2 f2 n2 P2 S2) (hk : k = n1 ∨ (k < n1 ∧ k = n2))
    (st : ZSb z TI TO i1 i2 S1 S2 k s.heap)
    (q : ∀ h' e tk, (∀ c o, c ≠ z → c ≠ TO → c ≠ i1 → c ≠ i2 → s.heap.get? c = some o → h'.get? c = some o) → (∃ o, h'.get? e = some o ∧ o.cls = .type "StopIteration") → E (.ref e) { s with heap := h', toks := tk }) :
    wpAny (model prog w) A (Builtin.«zip.__next__» ⟨[.ref z], []⟩) Q E s := by
  obtain ⟨⟨f0, b0, hz, hf⟩, hTI, ⟨a, b, hTO⟩, s1, s2⟩ := st
  show wpAny (model prog w) _ (field (.ref z) 2 >>= _) _ _ _
  refine wpAny_bind (wpAny_field hz rfl (x := .bool false) rfl ?_)
  show wpAny (model prog w) _ (field (.ref z) 3 >>= _) _ _ _
  refine wpAny_bind (wpAny_field hz rfl (x := .ref TI) rfl ?_)
  refine wpAny_bind (wpAny_seqItems hTI rfl ?_)
  show wpAny (model prog w) _ (Builtin.SmallTypes.ownedTupleIsFree (.ref z) >>= _) _ _ _
  refine wpAny_bind (owned_free hz hf ?_ fun h1 f1 b1 hz1 hf1 e0 => ?_)
  · simp only [if_true]
    refine wpAny_bind (wpAny_rule ?_)
    refine wpAny_bind (wpAny_field hz rfl (x := .ref TO) rfl ?_)
    refine wpAny_bind (wpAny_setField_rec hz (by simp) fun g1 z1 e1 => ?_)
    replace z1 : IsZb g1 z TI TO .ellipsis b0 := z1
    refine wpAny_bind ?_
    simp only [List.zipIdx_cons, List.zipIdx_nil, List.forIn_cons, List.forIn_nil]
    refine wpAny_bind (wpAny_bind (wpAny_onRaise ?_))
    show wpAny (model prog w) _ (Builtin.SmallTypes.nextOf (.ref i1) >>= _) _ _ _
    have s1a : S1 k g1 := d1.frame _ _ _ s1 fun c hc o e => e1.extBut _ _ (fun x => D.b2 (x ▸ hc)) e
    have s2a : S2 k g1 := d2.frame _ _ _ s2 fun c hc o e => e1.extBut _ _ (fun x => D.b3 (x ▸ hc)) e
    rcases hk with rfl | ⟨l1, rfl⟩
    · refine wpAny_bind (d1.done _ _ _ s1a fun g2 x e2 hx => ?_)
      obtain ⟨ox, hox, hcx⟩ := hx
      have z2 : IsZb g2 z TI TO .ellipsis b0 := e2 _ _ D.a3.symm z1
      have nz : x ≠ z := fun r => by subst r; rw [z2] at hox; cases hox; simp at hcx
      exact wpAny_setField_rec z2 (by simp) fun g3 _ e3 => q g3 x _ (fun c o c1 _ c3 _ y => e3.extBut _ _ c1 (e2 _ _ c3 (e1.extBut _ _ c1 y))) ⟨ox, e3.extBut _ _ nz hox, hcx⟩
    · refine wpAny_bind (d1.item _ _ _ _ l1 s1a fun x g2 tk2 p1 s1b e2 => wpAny_pure ?_)
      have t2 : IsPair g2 TO a b := e2.extBut _ _ D.a8 (e1.extBut _ _ D.a2 hTO)
      refine wpAny_bind (wpAny_seqItems t2 rfl ?_)
      refine wpAny_bind (wpAny_updateSeq_pair t2 fun g3 t3 e3 => ?_)
      refine wpAny_bind (wpAny_letGo (wpAny_pure ?_))
      refine wpAny_bind (wpAny_bind (wpAny_onRaise ?_))
      show wpAny (model prog w) _ (Builtin.SmallTypes.nextOf (.ref i2) >>= _) _ _ _
      have s2b : S2 k g3 := d2.frame _ _ _ s2a fun c hc o e => e3.extBut _ _ (fun x => D.b5 (x ▸ hc)) (e2.extBut _ _ (fun x => D.b6 (x ▸ hc)) e)
      refine wpAny_bind (d2.done _ _ _ s2b fun g4 y e4 hy => ?_)
      obtain ⟨oy, hoy, hcy⟩ := hy
      have z4 : IsZb g4 z TI TO .ellipsis b0 := e4 _ _ D.a4.symm (e3.extBut _ _ D.a2.symm (e2.extBut _ _ D.a3.symm z1))
      have nz : y ≠ z := fun r => by subst r; rw [z4] at hoy; cases hoy; simp at hcy
      exact wpAny_setField_rec z4 (by simp) fun g5 _ e5 => q g5 y _ (fun c o c1 c2 c3 c4 r => e5.extBut _ _ c1 (e4 _ _ c4 (e3.extBut _ _ c2 (e2.extBut _ _ c3 (e1.extBut _ _ c1 r))))) ⟨oy, e5.extBut _ _ nz hoy, hcy⟩
  · simp only [Bool.false_eq_true, if_false]
    have s1a : S1 k h1 := d1.frame _ _ _ s1 fun c hc o e => e0.extBut _ _ (fun x => D.b2 (x ▸ hc)) e
    have s2a : S2 k h1 := d2.frame _ _ _ s2 fun c hc o e => e0.extBut _ _ (fun x => D.b3 (x ▸ hc)) e
    rw [← Array.forIn_toList]
    simp only [List.forIn_cons, List.forIn_nil]
    refine wpAny_bind (wpAny_bind (wpAny_bind (wpAny_holding ?_)))
    show wpAny (model prog w) _ (Builtin.SmallTypes.nextOf (.ref i1) >>= _) _ _ _
    rcases hk with rfl | ⟨l1, rfl⟩
    · refine wpAny_bind (d1.done _ _ _ s1a fun g2 x e2 hx => ?_)
      exact q g2 x _ (fun c o c1 _ c3 _ y => e2 _ _ c3 (e0.extBut _ _ c1 y)) hx
    · refine wpAny_bind (d1.item _ _ _ _ l1 s1a fun x g2 tk2 p1 s1b e2 => wpAny_pure (wpAny_pure ?_))
      dsimp only
      refine wpAny_bind (wpAny_bind (wpAny_holding ?_))
      show wpAny (model prog w) _ (Builtin.SmallTypes.nextOf (.ref i2) >>= _) _ _ _
      have s2b : S2 k g2 := d2.frame _ _ _ s2a fun c hc o e => e2.extBut _ _ (fun x => D.b6 (x ▸ hc)) e
      refine wpAny_bind (d2.done _ _ _ s2b fun g4 y e4 hy => ?_)
      exact q g4 y _ (fun c o c1 c2 c3 c4 r => e4 _ _ c4 (e2.extBut _ _ c3 (e0.extBut _ _ c1 r))) hy
theorem ZSb.ty {s : Shared} {k : Nat} (st : ZSb z TI TO i1 i2 S1 S2 k s.heap) : s.TypeIs (.ref z) "zip" := by
  obtain ⟨⟨f0, b0, hz, _⟩, _⟩ := st
  exact ⟨_, hz, rfl⟩
theorem zip_pyNextN {A : Around} {E : Value → Shared → Prop} {s : Shared} {k : Nat} {Q : Option Value → Shared → Prop} (D : ZAp z TI TO i1 i2 f1 f2) (d1 : Draws prog w A.in1 i1 f1 n1 P1 S1) (d2 : Draws prog w A.in1 i2 f2 n2 P2 S2) (l1 : k < n1) (l2 : k < n2)
    (st : ZSb z TI TO i1 i2 S1 S2 k s.heap)
    (q : ∀ x y h' tk, P1 k x → P2 k y → (∃ f0 b, IsZb h' z TI TO f0 b ∧ (f0 = .none ∨ ∃ a, f0 = rawInt a)) → (∃ a b, IsPair h' TO a b) → IsPair h' TI (.ref i1) (.ref i2) → S1 (k + 1) h' → S2 (k + 1) h' → IsPair h' s.heap.objs.size x y → h'.objs.size = s.heap.objs.size + 1 →
      (∀ c o, c ≠ z → c ≠ TO → c ≠ i1 → c ≠ i2 → s.heap.get? c = some o → h'.get? c = some o) → Q (some (.ref s.heap.objs.size)) { s with heap := h', toks := tk }) :
    wpAny (model prog w) A (pyNext (.ref z)) Q E s := by
  have hT := st.ty
  unfold pyNext
  exact wpAny_bind (wpAny_attempt (wpAny_callSpecial?_slot (name := Str.ofString "__next__") hT F.slot_zip_next
    (wpAny_call_entry F.slot_zip_next hT F.entry_zip_next
      (zip_itemN D d1 d2 l1 l2 st fun x y h' tk c1 c2 c3 c4 c5 c6 c7 c8 c9 c10 => wpAny_pure (q x y h' tk c1 c2 c3 c4 c5 c6 c7 c8 c9 c10)) (F.args_zip_next_1 _))))
theorem zip_pyNext_endN {A : Around} {E : Value → Shared → Prop} {s : Shared} {k : Nat} {Q : Option Value → Shared → Prop} (D : ZAp z TI TO i1 i2 f1 f2) (d1 : Draws prog w A.in1 i1 f1 n1 P1 S1) (d2 : Draws prog w A.in1 i2 f2 n2 P2 S2)
    (hk : k = n1 ∨ (k < n1 ∧ k = n2)) (st : ZSb z TI TO i1 i2 S1 S2 k s.heap)
    (q : ∀ h' tk, (∀ c o, c ≠ z → c ≠ TO → c ≠ i1 → c ≠ i2 → s.heap.get? c = some o → h'.get? c = some o) → Q none { s with heap := h', toks := tk }) : wpAny (model prog w) A (pyNext (.ref z)) Q E s := by
  have hT := st.ty
  unfold pyNext
  refine wpAny_bind (wpAny_attempt (wpAny_callSpecial?_slot (name := Str.ofString "__next__") hT F.slot_zip_next
    (wpAny_call_entry F.slot_zip_next hT F.entry_zip_next (zip_stopN D d1 d2 hk st fun h' e tk kp he => ?_) (F.args_zip_next_1 _))))
  obtain ⟨o, ho, hc⟩ := he
  refine wpAny_bind (wpAny_isInstance (T := "StopIteration") (b := true) ⟨o, ho, hc⟩ isSubtype_stop ?_)
  exact wpAny_pure (q _ _ kp)
end
theorem wpAny_pyIter_zipN {prog : Program} {w : World} {A : Around} {E : Value → Shared → Prop} {s : Shared} {z TI TO : Addr} {Q : Value → Shared → Prop} (hz : ∃ f0 b0, IsZb s.heap z TI TO f0 b0 ∧ (f0 = .none ∨ ∃ a, f0 = rawInt a)) (h : Q (.ref z) s) : wpAny (model prog w) A (pyIter (.ref z)) Q E s := by
  obtain ⟨f0, b0, hz, _⟩ := hz
  have ty : Shared.TypeIs s (.ref z) "zip" := ⟨_, hz, rfl⟩
  exact wpAny_pyIter_slot ty F.slot_zip_iter (wpAny_call_entry F.slot_zip_iter ty F.entry_zip_iter (show wpAny _ _ (ret (.ref z)) _ _ s from wpAny_pure ⟨_, rfl, "zip", _, ty, PySem.F.slot_zip_next.lookup, h⟩) (F.args_zip_iter_1 _))
theorem turn_zipN {P : Program} {w : World} {K : PySem.W.Frag} {nm : Str} {tp : Pos} (a b z TI TO i1 i2 : Addr) (d1 : TI ≠ z) (d2 : TO ≠ z) (d3 : i1 ≠ z) (d4 : i2 ≠ z) (d5 : TI ≠ TO) (d6 : TI ≠ i1) (d7 : TI ≠ i2) (d8 : TO ≠ i1) (d9 : TO ≠ i2) (d0 : i1 ≠ i2) :
    Turn P w K (.Name nm tp) (Itz a b) [z, TI, TO, i1, i2] z (fun i h => (∃ f0 b0, IsZb h z TI TO f0 b0 ∧ (f0 = .none ∨ ∃ a, f0 = rawInt a)) ∧ IsPair h TI (.ref i1) (.ref i2) ∧ (∃ x y, IsPair h TO x y) ∧ h.IsTupleIter i1 a i ∧ h.IsTupleIter i2 b i) where
  mem := by simp
  obj := fun i h st c hc => by
    obtain ⟨⟨f0, b0, s1, _⟩, s2, ⟨x, y, s3⟩, ⟨o4, s4, _, q4⟩, ⟨o5, s5, _, q5⟩⟩ := st
    simp only [List.mem_cons, List.not_mem_nil, or_false] at hc
    rcases hc with rfl | rfl | rfl | rfl | rfl
    · exact ⟨_, s1, fun v => by intro q; cases q⟩
    · exact ⟨_, s2, fun v => by intro q; cases q⟩
    · exact ⟨_, s3, fun v => by intro q; cases q⟩
    · exact ⟨_, s4, fun v => by intro q; rw [q4] at q; cases q⟩
    · exact ⟨_, s5, fun v => by intro q; rw [q5] at q; cases q⟩
  keep := fun i h h' st kp => by
    obtain ⟨⟨f0, b0, s1, hf0⟩, s2, ⟨x, y, s3⟩, ⟨o4, s4, r4⟩, ⟨o5, s5, r5⟩⟩ := st
    exact ⟨⟨f0, b0, kp z (by simp) _ s1, hf0⟩, kp TI (by simp) _ s2, ⟨x, y, kp TO (by simp) _ s3⟩, ⟨o4, kp i1 (by simp) _ s4, r4⟩, ⟨o5, kp i2 (by simp) _ s5, r5⟩⟩
  item := by
    intro X hP hw hK hc i pins s σ H E I hf st hg
    subst hP hw hK
    obtain ⟨xs, ys, ha, hb, l1, l2⟩ := hg
    obtain ⟨s1, s2, s3, s4, s5⟩ := st
    have nf : ∀ {c : Addr} {o : HO}, H c = some o → ∀ e ∈ [z, TI, TO, i1, i2], c ≠ e := fun hcc e he q => by rw [q, (hf e he).1] at hcc; cases hcc
    obtain ⟨its, r1, t1, _⟩ := I.tuple (SqT.of ha)
    obtain ⟨its2, r2, t2, _⟩ := I.tuple (SqT.of hb)
    have D : ZAp z TI TO i1 i2 [i1, a] [i2, b] := by
      refine ⟨d1, d2, d3, d4, d5, d6, d7, d8, d9, d0, ?_, ?_, ?_, ?_, ?_, ?_⟩ <;> simp only [List.mem_cons, List.not_mem_nil, or_false, not_or]
      · exact ⟨d3.symm, (nf ha z (by simp)).symm⟩
      · exact ⟨d4.symm, (nf hb z (by simp)).symm⟩
      · exact ⟨d8, (nf ha TO (by simp)).symm⟩
      · exact ⟨d9, (nf hb TO (by simp)).symm⟩
      · exact ⟨d0, (nf hb i1 (by simp)).symm⟩
      · exact ⟨d0.symm, (nf ha i2 (by simp)).symm⟩
    have hh : X.A.in1.handled = none := I.ok.hd hc
    have e1 : its.toArray.size = xs.length := by rw [List.size_toArray, ← r1.length]
    have e2 : its2.toArray.size = ys.length := by rw [List.size_toArray, ← r2.length]
    refine zip_pyNextN D (draws_tup hh i1 a (nf ha i1 (by simp)) its.toArray) (draws_tup hh i2 b (nf hb i2 (by simp)) its2.toArray) (by omega) (by omega) ⟨s1, s2, s3, ⟨s4, t1⟩, ⟨s5, t2⟩⟩ fun x y g tk p1 p2 z1 z2 z3 z4 z5 z6 z7 kp => ⟨_, rfl, ?_⟩
    have p1 : its[i]? = some x := by simpa using p1
    have p2 : its2[i]? = some y := by simpa using p2
    obtain ⟨vx, hx⟩ : ∃ v, xs[i]? = some v := ⟨xs[i], by simp [l1]⟩
    obtain ⟨vy, hy⟩ : ∃ v, ys[i]? = some v := ⟨ys[i], by simp [l2]⟩
    obtain ⟨x', q1, rx⟩ := r1.get hx
    rw [p1] at q1; cases q1
    obtain ⟨y', q2, ry⟩ := r2.get hy
    rw [p2] at q2; cases q2
    refine wpAny_pure ?_
    have fr : H s.heap.objs.size = none := I.hok.fresh (Nat.le_refl _)
    have I1 : Inv X pins σ H { s with heap := g, toks := tk } := I.turnedL (l := [z, TO, i1, i2]) (t' := tk) (fun c o hc e => by
      simp only [List.mem_cons, List.not_mem_nil, or_false, not_or] at hc
      exact kp c o hc.1 hc.2.1 hc.2.2.1 hc.2.2.2 e) fun c hc => hf c (by
        simp only [List.mem_cons, List.not_mem_nil, or_false] at hc ⊢
        rcases hc with h | h | h | h <;> simp [h])
    have fp := I.fpOk (H' := H) (Nat.le_refl _) fr
    have nz : ∀ e ∈ [z, TI, TO, i1, i2], e ≠ s.heap.objs.size := fun e he q => by
      obtain ⟨o, ho⟩ : ∃ o, s.heap.get? e = some o := by
        obtain ⟨x3, y3, s3⟩ := s3
        obtain ⟨o4, s4, _⟩ := s4
        obtain ⟨o5, s5, _⟩ := s5
        simp only [List.mem_cons, List.not_mem_nil, or_false] at he
        rcases he with rfl | rfl | rfl | rfl | rfl
        · obtain ⟨f0, b0, s1, _⟩ := s1
          exact ⟨_, s1⟩
        · exact ⟨_, s2⟩
        · exact ⟨_, s3⟩
        · exact ⟨_, s4⟩
        · exact ⟨_, s5⟩
      exact absurd (Heap.lt_size ho) (by rw [q]; exact Nat.lt_irrefl _)
    have at2 : g.get? s.heap.objs.size = some { cls := .type "tuple", data := .seq #[x, y] } := z6
    refine ⟨.ref s.heap.objs.size, upd H s.heap.objs.size (.tup [vx, vy]), I1.adopt fp ⟨?_, [x, y], .cons rx (.cons ry .nil), ⟨_, at2, rfl, _, rfl, rfl⟩⟩, rfl, ⟨_, vx, vy, rfl, fr, rfl, fun xs' ys' q1 q2 => ?_⟩,
      ⟨z1, z3, z2, z4.1, z5.1⟩, fun c hc => ?_⟩
    · show 2 ≤ sizeLine
      decide
    · rw [ha] at q1; cases q1
      rw [hb] at q2; cases q2
      exact ⟨hx, hy⟩
    · rw [upd_ne (nz c hc)]
      exact (hf c hc).1
  done := by
    intro X hP hw hK hc i pins s σ H E I hf st hg
    subst hP hw hK
    obtain ⟨xs, ys, ha, hb, hl⟩ := hg
    obtain ⟨s1, s2, s3, s4, s5⟩ := st
    have nf : ∀ {c : Addr} {o : HO}, H c = some o → ∀ e ∈ [z, TI, TO, i1, i2], c ≠ e := fun hcc e he q => by rw [q, (hf e he).1] at hcc; cases hcc
    obtain ⟨its, r1, t1, _⟩ := I.tuple (SqT.of ha)
    obtain ⟨its2, r2, t2, _⟩ := I.tuple (SqT.of hb)
    have D : ZAp z TI TO i1 i2 [i1, a] [i2, b] := by
      refine ⟨d1, d2, d3, d4, d5, d6, d7, d8, d9, d0, ?_, ?_, ?_, ?_, ?_, ?_⟩ <;> simp only [List.mem_cons, List.not_mem_nil, or_false, not_or]
      · exact ⟨d3.symm, (nf ha z (by simp)).symm⟩
      · exact ⟨d4.symm, (nf hb z (by simp)).symm⟩
      · exact ⟨d8, (nf ha TO (by simp)).symm⟩
      · exact ⟨d9, (nf hb TO (by simp)).symm⟩
      · exact ⟨d0, (nf hb i1 (by simp)).symm⟩
      · exact ⟨d0.symm, (nf ha i2 (by simp)).symm⟩
    have hh : X.A.in1.handled = none := I.ok.hd hc
    have e1 : its.toArray.size = xs.length := by rw [List.size_toArray, ← r1.length]
    have e2 : its2.toArray.size = ys.length := by rw [List.size_toArray, ← r2.length]
    refine zip_pyNext_endN D (draws_tup hh i1 a (nf ha i1 (by simp)) its.toArray) (draws_tup hh i2 b (nf hb i2 (by simp)) its2.toArray) (by rcases hl with h | ⟨h, h2⟩ <;> omega) ⟨s1, s2, s3, ⟨s4, t1⟩, ⟨s5, t2⟩⟩ fun g tk kp => ⟨rfl, ?_⟩
    exact I.turnedL (l := [z, TO, i1, i2]) (t' := tk) (fun c o hc e => by
      simp only [List.mem_cons, List.not_mem_nil, or_false, not_or] at hc
      exact kp c o hc.1 hc.2.1 hc.2.2.1 hc.2.2.2 e) fun c hc => hf c (by
        simp only [List.mem_cons, List.not_mem_nil, or_false] at hc ⊢
        rcases hc with h | h | h | h <;> simp [h])
  self := fun _ _ _ _ _ st h => wpAny_pyIter_zipN st.1 h
section
open PySem.Spec PyProof.Rows
variable {X : Cx} {nm : Str} {tp : Pos}
theorem pi_zipN {a b : Expr} {ta : TA} {p pos : Pos} (hg : Gl X "zip") (hm : X.mg "zip" = none) (ha : PA X [a, b] ta) (hs : starEach [a, b] X.env = [(false, eval a X.env), (false, eval b X.env)] := by rfl) (hs2 : starEach [b] X.env = [(false, eval b X.env)] := by rfl) :
    PI X (.Name nm tp) (.Call (.Name "zip" p) [a, b] [] pos) (iZip ta) := by
  intro pins s σ H R I h
  refine Call_ (ld_blt I hg hm boot_zip (PyProof.Rows.callWith_type1 (thn (ha pos pins s σ H _ I h) fun us s1 h1 => ?_) (by rw [hs, hs2]) (by rw [hs2]; rfl)))
  obtain ⟨vs, H1, I1, r1, a, b, xs, ys, e, ha, hb, q⟩ := h1
  subst e
  obtain ⟨u, v, rfl, ru, rv⟩ := vals2' r1
  cases ru
  cases rv
  obtain ⟨its, _, t1, _⟩ := I1.tuple (SqT.of ha)
  obtain ⟨its2, _, t2, _⟩ := I1.tuple (SqT.of hb)
  refine call_zip_tups t1 t2 fun h' z1 z2 z3 z4 z5 kp => wpAny_pyIter_zip z1 ?_
  have I2 : Inv X pins σ H1 { s1 with heap := h' } := I1.kept (t' := s1.toks) kp
  have fr : ∀ k : Nat, H1 (s1.heap.objs.size + k) = none := fun k => I1.hok.fresh (Nat.le_add_right _ _)
  refine ⟨s1.heap.objs.size + 4, _, _, Itz a b, H1, rfl, I2, turn_zipN a b (s1.heap.objs.size + 4) (s1.heap.objs.size + 2) (s1.heap.objs.size + 3) s1.heap.objs.size (s1.heap.objs.size + 1)
    (nne _ 2 4 (by decide)) (nne _ 3 4 (by decide)) (nne0 _ 4 (by decide)) (nne _ 1 4 (by decide)) (nne _ 2 3 (by decide)) (nne0 _ 2 (by decide)).symm (nne _ 2 1 (by decide)) (nne0 _ 3 (by decide)).symm (nne _ 3 1 (by decide)) (nne0 _ 1 (by decide)), ⟨⟨_, _, z1, .inl rfl⟩, z2, ⟨_, _, z3⟩, z4, z5⟩, fun c hc => ?_, q⟩
  simp only [List.mem_cons, List.not_mem_nil, or_false] at hc
  rcases hc with rfl | rfl | rfl | rfl | rfl
  · exact I1.fpOk (Nat.le_add_right _ _) (fr 4)
  · exact I1.fpOk (Nat.le_add_right _ _) (fr 2)
  · exact I1.fpOk (Nat.le_add_right _ _) (fr 3)
  · exact I1.fpOk (Nat.le_refl _) (fr 0)
  · exact I1.fpOk (Nat.le_add_right _ _) (fr 1)
end
end L2

namespace L2
open PySem PySem.Spec PyProof.Rows
section
variable {prog : Program} {w : World} {A : Around} {R : Result → Shared → Prop} {it B : Addr} {fp wr : List Addr} {n : Nat} {P : Nat → Value → Prop} {St : Nat → Heap → Prop} {dn : Str} {dv : Value} {kf : Nat → Nat} {Ok : Heap → Prop}
end
section
variable {X : Cx}
end
end L2

namespace L2
open PySem PySem.Spec PyProof.Rows
section
variable {X : Cx}
end
end L2

namespace L2
open PySem
end L2

namespace L2
open PySem PySem.Calls PySem.Spec PyProof.Rows
section
variable {prog : Program} {w : World} {A : Around} {E : Value → Shared → Prop} {s : Shared} {d it : Addr} {es : Array (Int × Value)} {ep i slot : Nat} {t : SetTable}
end
end L2

namespace L2
open PySem PySem.Calls PySem.Spec PyProof.Rows
section
variable {prog : Program} {w : World} {K : Type} [DecidableEq K] {knd : KeyKind prog w K} {Sm : K → Prop} {A : Around} {E : Value → Shared → Prop} {s : Shared}
end
end L2

namespace L2
open PySem PySem.Calls PySem.Spec PyProof.Rows
section
variable {prog : Program} {w : World} {A : Around} {E : Value → Shared → Prop} {s : Shared} {d it : Addr} {es : Array (Int × Value)} {ep i slot : Nat} {t : SetTable}
end
end L2

namespace L2
open PySem PySem.Calls PySem.Spec PyProof.Rows
section
variable {prog : Program} {w : World} {K : Type} [DecidableEq K] {knd : KeyKind prog w K} {Sm : K → Prop} {A : Around} {E : Value → Shared → Prop} {s : Shared}
end
end L2

namespace L2
open PySem PySem.Calls PySem.Spec PyProof.Rows
section
variable {prog : Program} {w : World} {K : Type} [DecidableEq K] {knd : KeyKind prog w K} {Sm : K → Prop} {A : Around} {E : Value → Shared → Prop} {s : Shared}
end
end L2

namespace L2
open PySem PySem.Calls PySem.Spec PyProof.Rows
section
variable {prog : Program} {w : World} {K : Type} [DecidableEq K] {knd : KeyKind prog w K} {Sm : K → Prop} {A : Around} {E : Value → Shared → Prop} {s : Shared}
end
section
variable {X : Cx}
end
end L2

namespace L2
open PySem PySem.Calls PySem.Spec PyProof.Rows
section
variable {prog : Program} {w : World} {A : Around} {E : Value → Shared → Prop} {s : Shared}
end
section
variable {prog : Program} {w : World} {A : Around} {E : Value → Shared → Prop} {s : Shared}
end
section
variable {X : Cx}
end
end L2

namespace L2
open PySem PySem.Calls PySem.Spec PyProof.Rows Builtin Builtin.Str
section
variable {prog : Program} {w : World} {A : Around} {E : Value → Shared → Prop} {s : Shared} {x y : Str} {t u : Tok}
end
section
variable {X : Cx}
end
section
variable {X : Cx} {tg : Expr}
end
end L2

namespace PySem
open PySem.Calls PySem.Spec PyProof.Rows
section
variable {prog : Program} {w : World} {A : Around} {E : Value → Shared → Prop} {s : Shared}
end
end PySem

namespace PySem
end PySem
namespace L2
open PySem PySem.Calls PySem.Spec PyProof.Rows PySem.AutoSeq1
section
variable {X : Cx} {es : List Expr} {kt : Nat} {tp : Pos}
end
section
variable {K : PySem.W.Frag} {g : TG} {tc : TT} {te : TE} {σ : St} {H : Hp} {R : List V → Hp → Prop}
end
section
variable {X : Cx} {es : List Expr} {kt : Nat} {tp : Pos}
end
section
variable {K : PySem.W.Frag} {g : TG} {tc : TT} {te : TE} {σ : St} {H : Hp} {R : List V → Hp → Prop}
end
section
variable {X : Cx} {e : Expr} {pos : Pos} {te : TE}
end
section
variable {K : PySem.W.Frag} {g : TG} {tc : TT} {te : TE} {σ : St} {H : Hp} {R : List V → Hp → Prop}
end
end L2

namespace L2
open PySem PySem.Calls PySem.Spec PyProof.Rows
section
variable {X : Cx} {e o : Expr} {es : List Expr} {te to : TE} {t : TA}
end
end L2

namespace L2
open PySem PySem.Spec PyProof.Rows
section
variable {P : Program} {w : World} {A : Around} {p : Addr} {a b : Int} {t u v : Tok}
end
section
variable {X : Cx}
end
end L2

namespace L2
open PySem PySem.Spec PyProof.Rows
section
open PySem.SeqAt
open PySem.AutoSeq1 (wpAny_loadPart')
open PySem.MeetsSeq PySem.MeetsSeq2 PySem.MeetsSeq3
end
section
variable {X : Cx}
end
end L2

namespace L2
open PySem PySem.Calls PySem.Spec PyProof.Rows
section
variable {X : Cx}
def tTM2 (r : V → List V → Hp → VK → Prop) (to : TE) (t : TA) : TE := fun σ H Q => to σ H fun x H1 => (∃ p xs, x = .ref p ∧ H1 p = some (.tup xs)) ∧ t σ H1 fun xs H2 => r x xs H2 Q
theorem pe_tm2 {o e : Expr} {es : List Expr} {to : TE} {t : TA} {name : Str} {apos cpos : Pos} {id : String} {r : V → List V → Hp → VK → Prop} (pa : PlainAttrs "tuple") (slot : Slot "tuple" name id) (hty : typeOf (.builtin id) = pure (.type "method_descriptor")) (hm : MtR X id r) (ho : PE X o to) (ha : PA X (e :: es) t)
    (hbase : attributeBase o name X.env (eval o X.env) = eval o X.env := by rfl)
    (hfew : ((backTo cpos (starEach (e :: es) X.env)).all (fun x => !x.1) && (backToKw cpos (keywordEach [] X.env)).all (fun x => x.1.isSome)
      && decide ((e :: es).length + ([] : List Keyword).length + (if ([] : List Keyword).isEmpty then 0 else 1) < 30)) = true := by rfl)
    (hline : (apos.endLine == cpos.line) = true := by rfl) (hs : starEach (e :: es) X.env = (false, eval e X.env) :: starEach es X.env := by rfl) (hplain : (backTo cpos (starEach es X.env)).any (·.1) = false := by rfl) :
    PE X (.Call (.Attribute o name apos) (e :: es) [] cpos) (tTM2 r to t) := by
  intro pins s σ H Q I h
  refine wpAny_Call_method_late hbase hfew hline rfl (thn (ho pins s σ H _ I h) fun v s1 ⟨x, H1, I1, r1, ty, q1⟩ => ?_)
  obtain ⟨p, xs, rfl, e1⟩ := ty
  have rr := r1
  cases r1
  obtain ⟨_, its, _, ob, g1, hcl, n, _, hdn⟩ := (show ObjOk X.prog X.w H1 s1.heap p (.tup xs) from I1.hok p _ e1)
  refine ⟨"tuple", id, pa, slot, hty, ⟨ob, g1, hcl⟩, fun a e => ?_, ?_⟩
  · cases e
    exact ⟨ob, g1, hdn⟩
  have hA := ha cpos pins s1 σ H1 _ I1 q1
  rw [hs] at hA ⊢
  refine Calls.callWith_builtin (by show (false || (backTo cpos (starEach es X.env)).any (·.1)) = false; rw [hplain] <;> rfl) (Calls.evalArgs_plain ?_)
  exact thn hA fun us s2 ⟨vs, H2, I2, r2, q2⟩ => hm pins s2 σ H2 (.ref p) vs (.ref p) us Q I2 rr r2 q2
end
end L2

namespace Hk
open PySem L2
def top (i : Nat) : Stmt := PySem.Challenge.pw_holdsets_k05_rings_and_orders_by_anybody.main.body.getD i (.Pass ⟨0, 0, 0, 0⟩)
abbrev s_whole_good : Stmt := top 1
abbrev s_place_good : Stmt := top 2
abbrev s_unlike_places : Stmt := top 3
abbrev s_ring_good : Stmt := top 4
abbrev s_order_good : Stmt := top 5
abbrev s_law_cell_at : Stmt := top 7
abbrev s_law_next : Stmt := top 8
abbrev s_law_pen_of : Stmt := top 9
abbrev s_law_draw : Stmt := top 10
abbrev s_law_whole : Stmt := top 11
abbrev s_law_web_by : Stmt := top 12
abbrev s_law_leads : Stmt := top 13
abbrev s_law_ring_good : Stmt := top 14
abbrev s_law_order_good : Stmt := top 15
abbrev s_law_walk : Stmt := top 16
abbrev s_law_sunk : Stmt := top 17
abbrev s_law_bent : Stmt := top 18
abbrev s_law_right : Stmt := top 19
abbrev s_law : Stmt := top 20
end Hk

namespace Hk
open PySem L2
section
variable {P : Program} {w : World} {K : PySem.W.Frag} {mg : Str → Option Value} {base : Heap}
def spCell (K : PySem.W.Frag) : Sp := fun vs H Q _ => ∃ (a : Addr) (ns : List Int) (k : Nat), vs = [.ref a, .int k] ∧ SqL K H a (ns.map V.int) ∧ ∀ n : Int, Q (.int n) H
theorem kn_cell (D : DefAt K mg "_law_cell_at" s_law_cell_at ["script", "k"]) (fr : Free mg ["len"]) : Kn P w K mg base 1 "_law_cell_at" ["script", "k"] (spCell K) := by
  have sc : FnScope ["script", "k"] ["script", "k"] (defScope s_law_cell_at) := ⟨rfl, rfl, rfl, by decide +kernel, rfl, by decide +kernel, by decide +kernel⟩
  refine D.kn (N := ["script", "k"]) sc (fun vs H Q E h => ?_) (fun f cdv A outer s H vs Q E hr h => ?_)
  · obtain ⟨a, ns, k, rfl, _⟩ := h
    rfl
  · obtain ⟨a, ns, k, rfl, hq, kk⟩ := h
    have m1 := fr "len" (by simp)
    refine ⟨_, pss_cons (ps_if (pt_cmpR op_lt (pv 1) (pe_callB call_len_seq rfl m1 PySem.boot_len (pa_cons (pv 0) pa_nil)) (nomark _)) (pss_one (ps_ret (pe_ix ix_list (pv 0) (pv 1) (fun _ _ => rfl)))) pss_nil) (pss_one (ps_ret pe_int)), ?_⟩
    refine ⟨_, rfl, _, rfl, a, _, rfl, .inl hq, _, _, rfl, rfl, _, rfl, ite2 (fun h1 => ?_) (fun h1 => ?_)⟩
    · have h2 : k < ns.length := by
        have := of_decide_eq_true h1
        rw [List.length_map] at this
        omega
      exact ⟨_, rfl, _, rfl, a, _, _, V.int ns[k], rfl, rfl, hq, atI_nat (by simp [h2]), kk _⟩
    · exact kk 0
def spNext : Sp := fun vs H Q _ => ∃ n : Int, vs = [.int n] ∧ ∀ r : Int, Q (.int r) H
theorem kn_next (D : DefAt K mg "_law_next" s_law_next ["seed"]) : Kn P w K mg base 1 "_law_next" ["seed"] spNext := by
  have sc : FnScope ["seed"] ["seed"] (defScope s_law_next) := ⟨rfl, rfl, rfl, by decide +kernel, rfl, by decide +kernel, by decide +kernel⟩
  refine D.kn (N := ["seed"]) sc (fun vs H Q E h => ?_) (fun f cdv A outer s H vs Q E hr h => ?_)
  · obtain ⟨n, rfl, _⟩ := h
    rfl
  · obtain ⟨n, rfl, kk⟩ := h
    refine ⟨_, pss_cons (ps_set (i := 0) sc.nd rfl (Or.inl rfl) (pe_op op_mod (pe_op op_add (pv 0) pe_int) pe_int))
      (pss_one (ps_ret (pe_op op_mod (pe_op op_add (pe_op op_add (pe_op op_mul (pv 0) (pv 0)) (pe_op op_mul pe_int (pv 0))) pe_int) pe_int))), ?_⟩
    refine ⟨_, rfl, _, _, rfl, rfl, _, _, rfl, rfl, (by show (0 : Int) < 2147483647; decide), ?_⟩
    have b1 : 0 ≤ (n + 7919) % 2147483647 := Int.emod_nonneg _ (by decide)
    have b2 : (n + 7919) % 2147483647 < 2147483647 := Int.emod_lt_of_pos _ (by decide)
    refine ⟨_, rfl, _, rfl, _, _, rfl, rfl, .inl ⟨by omega, by omega⟩, _, rfl, _, _, rfl, rfl, .inl ⟨by decide, by decide⟩, _, _, rfl, rfl, _, _, rfl, rfl, _, _, rfl, rfl, (by show (0 : Int) < 2147483629; decide), kk _⟩
def PenAt (H : Hp) (p : Addr) : Prop := ∃ a b c : Int, H p = some (.lst [.int a, .int b, .int c])
def spPen : Sp := fun vs H Q _ => ∃ n : Int, vs = [.int n] ∧ ∀ (p : Addr) (H' : Hp), Same H H' → H p = none → PenAt H' p → Q (.ref p) H'
theorem kn_pen (D : DefAt K mg "_law_pen_of" s_law_pen_of ["cell"]) (fr : Free mg ["max", "int"]) : Kn P w K mg base 1 "_law_pen_of" ["cell"] spPen := by
  have sc : FnScope ["cell", "left"] ["cell"] (defScope s_law_pen_of) := ⟨rfl, rfl, rfl, by decide +kernel, rfl, by decide +kernel, by decide +kernel⟩
  refine D.kn (N := ["cell", "left"]) sc (fun vs H Q E h => ?_) (fun f cdv A outer s H vs Q E hr h => ?_)
  · obtain ⟨n, rfl, _⟩ := h
    rfl
  · obtain ⟨n, rfl, kk⟩ := h
    have m1 := fr "max" (by simp)
    have m2 := fr "int" (by simp)
    refine ⟨_, pss_cons (ps_set (i := 1) sc.nd rfl (Or.inl rfl) (pe_callB (call_max2 rfl) rfl m1 boot_fmax (pa_cons (pv 0) (pa_cons (pe_op op_sub pe_int (pv 0)) pa_nil))))
      (pss_one (ps_ret (pe_lst (pa_cons (pv 1) (pa_cons (pe_callTy call_int1 rfl m2 boot_tint (pa_cons (pe_cmpR op_ge (pv 1) (pe_op op_pow pe_int pe_int) (nomark _)) pa_nil)) (pa_cons (pe_op op_mod (pv 1) pe_int) pa_nil)))))), ?_⟩
    refine ⟨_, rfl, _, rfl, _, _, rfl, rfl, _, _, rfl, ?_⟩
    refine ⟨_, rfl, _, rfl, _, _, rfl, rfl, ⟨by decide, by decide, by decide⟩, _, _, rfl, rfl, .inr ⟨_, rfl, ?_⟩⟩
    refine ⟨_, rfl, _, _, rfl, rfl, (by show (0 : Int) < 1000003; decide), ?_, fun p hp => ?_⟩
    · show 3 ≤ sizeLine
      decide
    · exact kk p _ (Same.upd hp) hp ⟨_, _, _, upd_same⟩
theorem log_small {m : Int} (h0 : 0 < m) (h1 : m ≤ 1000000000000000000000000000000000000000000000000000000000000) : m.natAbs.log2 < 9000 := by
  have h2 : m.natAbs < 2 ^ 200 := by
    have : (2 : Nat) ^ 200 = 1606938044258990275541962092341162602522202993782792835301376 := by decide +kernel
    rw [this]
    omega
  have := (Nat.log2_lt (n := m.natAbs) (k := 200) (by omega)).mpr h2
  omega
def spDraw : Sp := fun vs H Q _ => ∃ (p : Addr) (m : Int), vs = [.ref p, .int m] ∧ PenAt H p ∧ 0 < m ∧ m ≤ 1000000000000000000000000000000000000000000000000000000000000 ∧ ∀ (r : Int) (H' : Hp), 0 ≤ r → r < m → SameBut p H H' → PenAt H' p → Q (.int r) H'
theorem kn_draw (D : DefAt K mg "_law_draw" s_law_draw ["pen", "many"]) (kx : Kn P w K mg base 1 "_law_next" ["seed"] spNext) : Kn P w K mg base 2 "_law_draw" ["pen", "many"] spDraw := by
  have sc : FnScope ["pen", "many", "found"] ["pen", "many"] (defScope s_law_draw) := ⟨rfl, rfl, rfl, by decide +kernel, rfl, by decide +kernel, by decide +kernel⟩
  refine D.kn (N := ["pen", "many", "found"]) sc (fun vs H Q E h => ?_) (fun f cdv A outer s H vs Q E hr h => ?_)
  · obtain ⟨p, m, rfl, _⟩ := h
    rfl
  · obtain ⟨p, m, rfl, ⟨a, b, c, hp⟩, h0, h1, kk⟩ := h
    have lg := log_small h0 h1
    refine ⟨_, pss_cons (ps_if (pt_cmpR op_eq (pe_ix ix_list (pv 0) pe_int (fun _ _ => rfl)) pe_int (nomark _))
        (pss_cons (ps_set (i := 2) sc.nd rfl (Or.inl rfl) (pe_op op_mod (pe_ix ix_list (pv 0) pe_int (fun _ _ => rfl)) (pv 1)))
        (pss_cons (ps_asg (pe_op op_fdivW (pe_ix ix_list (pv 0) pe_int (fun _ _ => rfl)) (pv 1)) (pg_sub (pv 0) pe_int set_list)) (pss_one (ps_ret (pv 2))))) pss_nil)
      (pss_cons (ps_asg (pe_kn kx hr (pa_cons (pe_op op_add (pe_kn kx hr (pa_cons (pe_ix ix_list (pv 0) pe_int (fun _ _ => rfl)) pa_nil)) pe_int) pa_nil)) (pg_sub (pv 0) pe_int set_list))
      (pss_one (ps_ret (pe_op op_mod (pe_op op_fdiv (pe_ix ix_list (pv 0) pe_int (fun _ _ => rfl)) pe_int) (pv 1))))), ?_⟩
    refine ⟨_, rfl, p, _, _, _, rfl, rfl, SqL.of hp, rfl, rfl, _, rfl, ite2 (fun h2 => ?_) (fun h2 => ?_)⟩
    · refine ⟨_, rfl, p, _, _, _, rfl, rfl, SqL.of hp, rfl, _, rfl, _, _, rfl, rfl, h0, ?_⟩
      refine ⟨_, rfl, p, _, _, _, rfl, rfl, SqL.of hp, rfl, _, rfl, _, _, rfl, rfl, ⟨h0, lg⟩, ?_⟩
      refine ⟨_, rfl, p, _, _, 0, rfl, rfl, hp, rfl, ?_⟩
      refine ⟨_, rfl, kk _ _ (Int.emod_nonneg _ (by omega)) (Int.emod_lt_of_pos _ h0) SameBut.upd ⟨_, _, _, upd_same⟩⟩
    · refine ⟨_, rfl, p, _, _, _, rfl, rfl, SqL.of hp, rfl, _, rfl, fun r1 => ?_⟩
      refine ⟨_, _, rfl, rfl, _, rfl, fun r2 => ?_⟩
      refine ⟨_, rfl, p, _, _, 2, rfl, rfl, hp, rfl, ?_⟩
      refine ⟨_, rfl, p, _, _, _, rfl, rfl, SqL.of upd_same, rfl, _, _, rfl, rfl, ⟨by decide, by decide⟩, _, rfl, _, _, rfl, rfl, h0, ?_⟩
      exact kk _ _ (Int.emod_nonneg _ (by omega)) (Int.emod_lt_of_pos _ h0) SameBut.upd ⟨_, _, _, upd_same⟩
end
end Hk

namespace Hk
open PySem L2
theorem smallN {n : Nat} (h : n ≤ 100000) : n < sizeLine := Nat.lt_of_le_of_lt h (by decide)
theorem arsLen {H : Hp} {us : List V} {ars : List (Int × Int)} (h : Ars H us ars) : us.length = ars.length := Paired.length h
theorem filter_snoc {α : Type} (f : α → Bool) (l : List α) (i : Nat) (x : α) (h : l[i]? = some x) : (l.take (i + 1)).filter f = (l.take i).filter f ++ (if f x = true then [x] else []) := by
  rw [take_snoc _ _ _ h, List.filter_append, List.filter_cons, List.filter_nil]
end Hk

namespace Hk
open PySem L2
section
variable {P : Program} {w : World} {K : PySem.W.Frag} {mg : Str → Option Value} {base : Heap}
theorem PenAt.mono {H H' : Hp} {p : Addr} (s : Same H H') (h : PenAt H p) : PenAt H' p := by
  obtain ⟨x, y, z, e⟩ := h
  exact ⟨x, y, z, s _ _ e⟩
theorem pen_tup {H : Hp} {p q : Addr} {xs : List V} (hp : PenAt H p) (hq : H q = some (.tup xs)) : q ≠ p := by
  obtain ⟨a, b, c, e⟩ := hp
  exact ne_of hq e (by intro z; cases z)
theorem Web.but {H H' : Hp} {a t p : Addr} {m : Int} {vs : List V} {ars : List (Int × Int)} (h : Web H a t m vs ars) (hp : PenAt H p) (s : SameBut p H H') : Web H' a t m vs ars :=
  ⟨s _ _ (pen_tup hp h.top) h.top, s _ _ (pen_tup hp h.arr) h.arr, Paired.mapP h.ars fun _ _ ⟨q, e, z⟩ => ⟨q, e, s _ _ (pen_tup hp z) z⟩, h.len, h.mb⟩
def GoodA (m : Int) (prs : List (Int × Int)) : Prop := ∀ q ∈ prs, 0 ≤ q.1 ∧ q.1 < m ∧ 0 ≤ q.2 ∧ q.2 < m ∧ q.1 ≠ q.2
def DT (H : Hp) (d : Addr) (m : Int) (n : Nat) : Prop := ∃ (kvs : List (List Key × V)) (prs : List (Int × Int)), H d = some (.dT kvs) ∧ kvs.map (·.1) = prs.map prKey ∧ GoodA m prs ∧ kvs.length ≤ n
theorem DT.put {H : Hp} {d b : Addr} {m : Int} {n : Nat} {x y : Int} (h : DT H d m n) (hb : H b = none) (hn : n ≤ 1000) (g : 0 ≤ x ∧ x < m ∧ 0 ≤ y ∧ y < m ∧ x ≠ y) (v : V) :
    ∃ H4, DPut (upd H b (.tup [.int x, .int y])) d (.ref b) v H4 ∧ DT H4 d m (n + 1) ∧ ∀ c o, c ≠ d → H c = some o → H4 c = some o := by
  obtain ⟨kvs, prs, e1, e2, e3, e4⟩ := h
  have ne : d ≠ b := ne_of_none e1 hb
  have ed : (upd H b (.tup [.int x, .int y])) d = some (.dT kvs) := by rw [upd_ne ne]; exact e1
  have eb : (upd H b (.tup [.int x, .int y])) b = some (.tup ((prKey (x, y)).map kV)) := upd_same
  refine ⟨_, DPut.t (k := prKey (x, y)) ed eb (small1000 (by omega)), ?_, fun c o hc e => ?_⟩
  · by_cases hv : valV kvs (prKey (x, y)) = none
    · refine ⟨_, prs ++ [(x, y)], upd_same, ?_, fun q hq => ?_, ?_⟩
      · rw [putK_new v hv, List.map_append, List.map_append, e2]
        rfl
      · rcases List.mem_append.mp hq with h | h
        · exact e3 q h
        · rw [List.mem_singleton] at h
          subst h
          exact g
      · exact Nat.le_trans (length_putK _ _ _) (Nat.succ_le_succ e4)
    · refine ⟨_, prs, upd_same, ?_, e3, Nat.le_trans (length_putK _ _ _) (Nat.succ_le_succ e4)⟩
      have ha : (kvs.any fun kv => decide (kv.1 = prKey (x, y))) = true := by
        rw [valV_any]
        cases q : valV kvs (prKey (x, y)) with
        | none => exact absurd q hv
        | some _ => rfl
      unfold putK
      rw [if_pos ha, List.map_map, ← e2]
      refine List.map_congr_left fun kv _ => ?_
      show (if kv.1 = prKey (x, y) then (kv.1, v) else kv).1 = kv.1
      split <;> rfl
  · rw [upd_ne hc, upd_ne (ne_of_none e hb)]
    exact e
theorem DT.keep {H H' : Hp} {d p : Addr} {m : Int} {n : Nat} (h : DT H d m n) (hp : PenAt H p) (s : SameBut p H H') : DT H' d m n := by
  obtain ⟨kvs, prs, e1, r⟩ := h
  obtain ⟨a, b, c, e⟩ := hp
  exact ⟨kvs, prs, s _ _ (ne_of e1 e (by intro z; cases z)) e1, r⟩
theorem DT.mono {H : Hp} {d : Addr} {m : Int} {n k : Nat} (h : DT H d m n) (hk : n ≤ k) : DT H d m k := by
  obtain ⟨kvs, prs, e1, e2, e3, e4⟩ := h
  exact ⟨kvs, prs, e1, e2, e3, Nat.le_trans e4 hk⟩
theorem gname_in {i : Nat} {v : V} {σ : St} {H : Hp} {Q : St → Hp → Prop} (h : Q (σ.set i (some v)) H) : gName i v σ H Q := h
theorem seq_inv {a R : TS} {D : Ends} {σ : St} {H : Hp} (Inv : St → Hp → Prop) (h : ∀ D' : Ends, (∀ σ H, Inv σ H → D'.nx σ H) → a D' σ H) (hk : ∀ σ H, Inv σ H → R D σ H) : tSeq a R D σ H := h _ hk
end
end Hk

namespace Hk
open PySem L2
section
variable {P : Program} {w : World} {K : PySem.W.Frag} {mg : Str → Option Value} {base : Heap}
theorem turned_ne {a b t m : Int} (a0 : 0 ≤ a) (a1 : a < m) (b0 : 0 ≤ b) (b1 : b < m) (h : a ≠ b) : (a + t) % m ≠ (b + t) % m := fun z => by
  have e := Int.emod_emod_of_dvd
  have h1 : (a + t - (b + t)) % m = 0 := Int.emod_eq_emod_iff_emod_sub_eq_zero.mp z
  have h2 : a + t - (b + t) = a - b := by omega
  rw [h2] at h1
  obtain ⟨c, hc⟩ := Int.dvd_of_emod_eq_zero h1
  rcases Int.lt_trichotomy c 0 with hc0 | hc0 | hc0
  · have : m * c ≤ m * (-1) := Int.mul_le_mul_of_nonneg_left (by omega) (by omega)
    omega
  · subst hc0
    omega
  · have : m * 1 ≤ m * c := Int.mul_le_mul_of_nonneg_left (by omega) (by omega)
    omega
def spWebByS : Sp := fun vs H Q _ => ∃ (p : Addr) (most : Int), vs = [.ref p, .int most] ∧ PenAt H p ∧ 1 ≤ most ∧ most ≤ 40 ∧
  ∀ (a t : Addr) (m : Int) (us : List V) (ars : List (Int × Int)) (H' : Hp), SameBut p H H' → PenAt H' p → Web H' a t m us ars → 1 ≤ m → m ≤ most → GoodA m ars → us.length ≤ 200 → (ars.Pairwise fun x y => lexB x y = true) → Q (.ref a) H'
theorem kn_webby2S (D : DefAt K mg "_law_web_by" s_law_web_by ["pen", "most"]) (fr : Free mg ["range", "tuple", "sorted", "list", "min", "max"]) (kd : Kn P w K mg base 2 "_law_draw" ["pen", "many"] spDraw) : Kn P w K mg base 3 "_law_web_by" ["pen", "most"] spWebByS := by
  have sc : FnScope ["pen", "most", "many", "way", "turn", "found", "lap", "a", "b", "place"] ["pen", "most"] (defScope s_law_web_by) := ⟨rfl, rfl, rfl, by decide +kernel, rfl, by decide +kernel, by decide +kernel⟩
  refine D.kn (N := ["pen", "most", "many", "way", "turn", "found", "lap", "a", "b", "place"]) sc (fun vs H Q E h => ?_) (fun f cdv A outer s H vs Q E hr h => ?_)
  · obtain ⟨p, m, rfl, _⟩ := h
    rfl
  · obtain ⟨p, most, rfl, hp, h1, h2, kk⟩ := h
    have hu := hu_of hr
    have m1 := fr "range" (by simp)
    have m2 := fr "tuple" (by simp)
    have m3 := fr "sorted" (by simp)
    have m4 := fr "list" (by simp)
    have m5 := fr "min" (by simp)
    have m6 := fr "max" (by simp)
    refine ⟨_, pss_cons (ps_set (i := 2) sc.nd rfl (Or.inl rfl) (pe_op op_add pe_int (pe_kn kd hr (pa_cons (pv 0) (pa_cons (pv 1) pa_nil)))))
      (pss_cons (ps_set (i := 3) sc.nd rfl (Or.inl rfl) (pe_kn kd hr (pa_cons (pv 0) (pa_cons pe_int pa_nil))))
      (pss_cons (ps_set (i := 4) sc.nd rfl (Or.inl rfl) (pe_kn kd hr (pa_cons (pv 0) (pa_cons (pv 2) pa_nil))))
      (pss_cons (ps_set (i := 5) sc.nd rfl (Or.inl rfl) pe_dnewT)
      (pss_cons (ps_for PassesOwn.never rfl (pi_range1 rfl m1 (pa_cons (pe_callB (call_min2 rfl) rfl m5 boot_fmin (pa_cons pe_int (pa_cons (pe_op op_mul (pv 2) (pe_ix ix_list (pe_lst (pa_cons pe_int (pa_cons pe_int (pa_cons pe_int (pa_cons pe_int pa_nil))))) (pe_kn kd hr (pa_cons (pv 0) (pa_cons pe_int pa_nil))) (fun _ _ => rfl))) pa_nil))) pa_nil)) (pg_name (i := 6) sc.nd rfl (Or.inl rfl))
        (pss_cons (ps_set (i := 7) sc.nd rfl (Or.inl rfl) (pe_kn kd hr (pa_cons (pv 0) (pa_cons (pv 2) pa_nil))))
        (pss_cons (ps_set (i := 8) sc.nd rfl (Or.inl rfl) (pe_kn kd hr (pa_cons (pv 0) (pa_cons (pv 2) pa_nil))))
        (pss_cons (ps_if (pt_cmpR op_eq (pv 3) pe_int (nomark _)) (pss_one (ps_par (i := 7) (j := 8) rfl sc.nd rfl rfl (by decide) rfl rfl (pa_cons (pe_callB (call_max2 rfl) rfl m6 boot_fmax (pa_cons (pv 7) (pa_cons (pv 8) pa_nil))) (pa_cons (pe_callB (call_min2 rfl) rfl m5 boot_fmin (pa_cons (pv 7) (pa_cons (pv 8) pa_nil))) pa_nil)) rfl)) pss_nil)
        (pss_one (ps_if (PW.pt (pw_and (pt_cmpR op_ne (pv 7) (pv 8) (nomark _)) (pw_and1 (PW.pt (pw_or (pt_cmpR op_ne (pv 3) pe_int (nomark _)) (pw_or1 (pt_cmpR op_eq (pe_op op_mod (pe_op op_add (pv 7) (pv 8)) pe_int) pe_int (nomark _))))))))
          (pss_one (ps_dput hu (pv 5) (pe_tup (pa_cons (pe_op op_mod (pe_op op_add (pv 7) (pv 4)) (pv 2)) (pa_cons (pe_op op_mod (pe_op op_add (pv 8) (pv 4)) (pv 2)) pa_nil))) pe_bl rfl)) pss_nil))))))
      (pss_cons (ps_if (PW.pt (pw_and (pt_cmpR op_eq (pv 3) pe_int (nomark _)) (pw_and1 (pt_cmpR op_gt (pv 2) pe_int (nomark _))))) (pss_one (ps_for PassesOwn.never rfl (pi_range1 rfl m1 (pa_cons (pv 2) pa_nil)) (pg_name (i := 9) sc.nd rfl (Or.inl rfl))
          (pss_one (ps_dput hu (pv 5) (pe_tup (pa_cons (pv 9) (pa_cons (pe_op op_mod (pe_op op_add (pv 9) pe_int) (pv 2)) pa_nil))) pe_bl rfl)))) pss_nil)
      (pss_one (ps_ret (pe_tup (pa_cons (pv 2) (pa_cons (pe_callTy call_tuple_of rfl m2 boot_ttuple (pa_cons (pe_callB call_sorted_prsS rfl m3 boot_fsorted (pa_cons (pe_callTy (call_list_prsN rfl) rfl m4 boot_tlist (pa_cons (pv 5) pa_nil)) pa_nil)) pa_nil)) pa_nil)))))))))), ?_⟩
    refine ⟨_, rfl, _, rfl, p, most, rfl, hp, by omega, by omega, fun r H1 r0 r1 s1 hp1 => ?_⟩
    refine ⟨_, _, rfl, rfl, ?_⟩
    refine ⟨_, rfl, p, 4, rfl, hp1, by decide, by decide, fun way H2 w0 w1 s2 hp2 => ?_⟩
    have hm1 : 1 ≤ 1 + r ∧ 1 + r ≤ 40 ∧ 1 + r ≤ most := by omega
    generalize hm : 1 + r = m at hm1
    refine gname_in ?_
    dsimp only
    refine ⟨_, rfl, _, rfl, p, m, by rw [← hm]; rfl, hp2, by omega, by omega, fun tn H2' t0 t1 s2' hp2' => ?_⟩
    intro d hd
    have pd : p ≠ d := by
      obtain ⟨_, _, _, e⟩ := hp2'
      exact ne_of_none e hd
    have z0 : SameBut p H2 (upd H2' d (.dT [])) := s2'.trans (Same.upd hd).but
    have hd2 : H2 d = none := by
      cases q : H2 d with
      | none => rfl
      | some o =>
        rw [s2' d o (Ne.symm pd) q] at hd
        cases hd
    have z1 : PenAt (upd H2' d (.dT [])) p := by
      obtain ⟨a, b, c, e⟩ := hp2'
      exact ⟨a, b, c, by rw [upd_ne pd]; exact e⟩
    have z2 : DT (upd H2' d (.dT [])) d m 0 := ⟨[], [], upd_same, rfl, fun q hq => (nomatch hq), Nat.le_refl _⟩
    refine gname_in ?_
    dsimp only
    rw [hm]
    refine seq_inv (a := tFor _ _ _) (fun σ H3 => ∃ (v6 v7 v8 : Option V), σ = [some (.ref p), some (.int most), some (.int m), some (.int way), some (.int tn), some (.ref d), v6, v7, v8, none] ∧ SameBut p H2 H3 ∧ PenAt H3 p ∧ DT H3 d m 160) (fun D' hk => ?_) ?_
    · refine ⟨_, rfl, (by show 4 ≤ sizeLine; decide), fun l hl => ?_⟩
      have zz1 : PenAt (upd (upd H2' d (.dT [])) l (.lst [.int 1, .int 2, .int 3, .int 6])) p := z1.mono (Same.upd hl)
      refine ⟨_, rfl, p, 4, rfl, zz1, by decide, by decide, fun q H3 q0 q1 s3 hp3 => ?_⟩
      have nl : l ≠ p := by
        obtain ⟨_, _, _, e⟩ := z1
        exact Ne.symm (ne_of_none e hl)
      have ix : ∃ k : Int, atI [V.int 1, V.int 2, V.int 3, V.int 6] q = some (V.int k) ∧ 0 ≤ k ∧ k ≤ 6 := by
        have hw : q = 0 ∨ q = 1 ∨ q = 2 ∨ q = 3 := by omega
        rcases hw with rfl | rfl | rfl | rfl
        · exact ⟨1, rfl, by decide, by decide⟩
        · exact ⟨2, rfl, by decide, by decide⟩
        · exact ⟨3, rfl, by decide, by decide⟩
        · exact ⟨6, rfl, by decide, by decide⟩
      obtain ⟨k, hk1, hk2, hk3⟩ := ix
      have dk : DT H3 d m 0 := (z2.keep z1 (Same.upd hl).but).keep zz1 s3
      have mk : 0 ≤ m * k := Int.mul_nonneg (by omega) hk2
      refine ⟨l, _, q, _, rfl, rfl, SqL.of (s3 _ _ nl upd_same), hk1, _, _, rfl, rfl, .inl ⟨by omega, by omega⟩, _, _, rfl, ?_⟩
      refine ⟨_, rfl, by split <;> omega, by split <;> omega, ?_⟩
      have lb : (if m * k < 160 then m * k else 160).toNat ≤ 160 := by split <;> omega
      generalize (if m * k < 160 then m * k else 160) = laps at lb
      have sk : SameBut p H2 H3 := z0.trans ((Same.upd hl).but.trans s3)
      refine for_range (fun i σ H4 => ∃ v6 v7 v8 : Option V, σ = [some (.ref p), some (.int most), some (.int m), some (.int way), some (.int tn), some (.ref d), v6, v7, v8, none] ∧ SameBut p H2 H4 ∧ PenAt H4 p ∧ DT H4 d m i) ⟨none, none, none, rfl, sk, hp3, dk⟩ ?_ ?_
      · rintro i σ H4 hi ⟨v6, v7, v8, rfl, s4, hp4, hd4⟩
        refine ⟨_, rfl, _, rfl, p, m, rfl, hp4, by omega, by omega, fun a H5 a0 a1 s5 hp5 => ?_⟩
        refine ⟨_, rfl, _, rfl, p, m, rfl, hp5, by omega, by omega, fun b H6 b0 b1 s6 hp6 => ?_⟩
        refine gname_in ?_
        dsimp only
        have s46 := s5.trans s6
        refine seq_inv (a := tIfS _ _ _) (fun σ H7 => H7 = H6 ∧ ∃ (x y : Int), σ = [some (.ref p), some (.int most), some (.int m), some (.int way), some (.int tn), some (.ref d), some (.int (0 + i)), some (.int x), some (.int y), none] ∧ 0 ≤ x ∧ x < m ∧ 0 ≤ y ∧ y < m) (fun D' hk => ?_) ?_
        · refine ⟨_, rfl, rfl, _, rfl, ite2 (fun hg => ?_) (fun hg => ?_)⟩
          · refine ⟨_, rfl, _, rfl, _, _, rfl, _, rfl, _, rfl, _, _, rfl, _, _, rfl, hk _ _ ⟨rfl, _, _, rfl, ?_⟩⟩
            refine ⟨?_, ?_, ?_, ?_⟩ <;> split <;> omega
          · exact hk _ _ ⟨rfl, a, b, rfl, a0, a1, b0, b1⟩
        · rintro σ H7 ⟨rfl, x, y, rfl, x0, x1, y0, y1⟩
          have hd6 := hd4.keep hp4 s46
          have nope : ∃ v6 v7 v8 : Option V, [some (V.ref p), some (.int most), some (.int m), some (.int way), some (.int tn), some (.ref d), some (.int (0 + i)), some (.int x), some (.int y), none] = [some (.ref p), some (.int most), some (.int m), some (.int way), some (.int tn), some (.ref d), v6, v7, v8, none] ∧ SameBut p H2 H7 ∧ PenAt H7 p ∧ DT H7 d m (i + 1) := ⟨_, _, _, rfl, s4.trans s46, hp6, hd6.mono (Nat.le_succ _)⟩
          have go : x ≠ y → ∀ c, H7 c = none → ∃ H8, DPut (upd H7 c (.tup [.int ((x + tn) % m), .int ((y + tn) % m)])) d (.ref c) (.bl true) H8 ∧ SameBut p H2 H8 ∧ PenAt H8 p ∧ DT H8 d m (i + 1) := fun hxy c hc => by
            have b1 : (x + tn) % m < m := Int.emod_lt_of_pos _ (by omega)
            have b2 : 0 ≤ (x + tn) % m := Int.emod_nonneg _ (by omega)
            have b3 : (y + tn) % m < m := Int.emod_lt_of_pos _ (by omega)
            have b4 : 0 ≤ (y + tn) % m := Int.emod_nonneg _ (by omega)
            obtain ⟨H8, g1, g2, g3⟩ := hd6.put hc (by omega) (x := (x + tn) % m) (y := (y + tn) % m) ⟨b2, b1, b4, b3, turned_ne x0 x1 y0 y1 hxy⟩ (.bl true)
            refine ⟨H8, g1, ?_, ?_, g2⟩
            · intro e o he ee
              by_cases hed : e = d
              · subst hed
                rw [hd2] at ee
                cases ee
              · exact g3 e o hed ((s4.trans s46) e o he ee)
            · obtain ⟨x, y, z, e⟩ := hp6
              exact ⟨x, y, z, g3 _ _ pd e⟩
          refine ⟨_, rfl, _, rfl, rfl, _, rfl, ite2 (fun hg => ?_) (fun hg => ?_)⟩
          · have hxy : x ≠ y := by
              intro z
              subst z
              simp at hg
            refine ⟨_, rfl, rfl, _, rfl, ite2 (fun hw => ?_) (fun hw => ?_)⟩
            · refine ⟨_, rfl, _, rfl, _, rfl, _, _, rfl, rfl, _, rfl, _, _, rfl, rfl, (by show (0 : Int) < m; omega), _, rfl, _, rfl, _, _, rfl, rfl, _, rfl, _, _, rfl, rfl, (by show (0 : Int) < m; omega), (by show 2 ≤ sizeLine; decide), fun c hc => ?_⟩
              obtain ⟨H8, g1, g2, g3, g4⟩ := go hxy c hc
              exact ⟨d, H8, rfl, g1, _, _, _, rfl, g2, g3, g4⟩
            · refine ⟨_, rfl, _, rfl, _, _, rfl, rfl, _, _, rfl, rfl, (by show (0 : Int) < 2; decide), rfl, _, rfl, ite2 (fun hv => ?_) (fun hv => ?_)⟩
              · refine ⟨_, rfl, _, rfl, _, rfl, _, _, rfl, rfl, _, rfl, _, _, rfl, rfl, (by show (0 : Int) < m; omega), _, rfl, _, rfl, _, _, rfl, rfl, _, rfl, _, _, rfl, rfl, (by show (0 : Int) < m; omega), (by show 2 ≤ sizeLine; decide), fun c hc => ?_⟩
                obtain ⟨H8, g1, g2, g3, g4⟩ := go hxy c hc
                exact ⟨d, H8, rfl, g1, _, _, _, rfl, g2, g3, g4⟩
              · exact nope
          · exact nope
      · rintro σ H4 ⟨v6, v7, v8, rfl, s4, hp4, hd4⟩
        exact hk _ _ ⟨v6, v7, v8, rfl, s4, hp4, hd4.mono lb⟩
    · rintro σ H3 ⟨v6, v7, v8, rfl, s3, hp3, hd3⟩
      refine seq_inv (a := tIfS _ _ _) (fun σ H4 => ∃ (v9 : Option V), σ = [some (.ref p), some (.int most), some (.int m), some (.int way), some (.int tn), some (.ref d), v6, v7, v8, v9] ∧ SameBut p H2 H4 ∧ PenAt H4 p ∧ DT H4 d m 200) (fun D' hk => ?_) ?_
      · have stay : D'.nx [some (.ref p), some (.int most), some (.int m), some (.int way), some (.int tn), some (.ref d), v6, v7, v8, none] H3 := hk _ _ ⟨none, rfl, s3, hp3, hd3.mono (by decide)⟩
        refine ⟨_, rfl, rfl, _, rfl, ite2 (fun hg => ?_) (fun hg => stay)⟩
        refine ⟨_, rfl, _, _, rfl, rfl, _, rfl, ite2 (fun hh => ?_) (fun hh => stay)⟩
        have hh' : 1 < m := of_decide_eq_true hh
        refine ⟨_, rfl, m, rfl, by omega, by omega, for_range (fun i σ H4 => ∃ (v9 : Option V), σ = [some (.ref p), some (.int most), some (.int m), some (.int way), some (.int tn), some (.ref d), v6, v7, v8, v9] ∧ SameBut p H2 H4 ∧ PenAt H4 p ∧ DT H4 d m (160 + i)) ⟨none, rfl, s3, hp3, hd3⟩ ?_ ?_⟩
        · rintro i σ H4 hi ⟨v9, rfl, s4, hp4, hd4⟩
          refine ⟨_, rfl, _, rfl, _, rfl, _, _, rfl, rfl, _, rfl, _, _, rfl, rfl, (by show (0 : Int) < m; omega), (by show 2 ≤ sizeLine; decide), fun b hb => ?_⟩
          have b1 : (0 + (i : Int) + 1) % m < m := Int.emod_lt_of_pos _ (by omega)
          have b2 : 0 ≤ (0 + (i : Int) + 1) % m := Int.emod_nonneg _ (by omega)
          have b3 : (0 + (i : Int)) ≠ (0 + (i : Int) + 1) % m := by
            by_cases h : (i : Int) + 1 < m
            · rw [Int.emod_eq_of_lt (by omega) (by omega)]
              omega
            · have : (0 + (i : Int) + 1) = m := by omega
              rw [this, Int.emod_self]
              omega
          obtain ⟨H5, g1, g2, g3⟩ := hd4.put hb (by omega) (x := 0 + i) (y := (0 + i + 1) % m) ⟨by omega, by omega, b2, b1, b3⟩ (.bl true)
          refine ⟨d, H5, rfl, g1, _, rfl, ?_, ?_, g2⟩
          · intro c o hc e
            by_cases hcd : c = d
            · subst hcd
              rw [hd2] at e
              cases e
            · exact g3 c o hcd (s4 c o hc e)
          · obtain ⟨x, y, z, e⟩ := hp4
            exact ⟨x, y, z, g3 _ _ pd e⟩
        · rintro σ H4 ⟨v9, rfl, s4, hp4, hd4⟩
          exact hk _ _ ⟨v9, rfl, s4, hp4, hd4.mono (by omega)⟩
      · rintro σ H4 ⟨v9, rfl, s4, hp4, hd4⟩
        obtain ⟨kvs, prs, e1, e2, e3, e4⟩ := hd4
        have q3 : kvs.length = prs.length := by
          have := congrArg List.length e2
          rwa [List.length_map, List.length_map] at this
        refine ⟨_, rfl, _, rfl, d, kvs, prs, rfl, e1, e2, by omega, fun L0 ws0 H5 s5 hL0 ha0 ndp => ?_⟩
        have l0 := arsLen ha0
        refine ⟨L0, ws0, prs, rfl, hL0, ha0, by omega, fun L ws prs' H6 s6 hL ha hpm ris => ?_⟩
        have lw : ws.length ≤ 200 := by
          have q1 := arsLen ha
          have q2 := hpm.length_eq
          omega
        refine ⟨L, ws, rfl, .inl ⟨SqL.of hL, fun t ht => ⟨(by show 2 ≤ sizeLine; decide), fun g hg => ?_⟩⟩⟩
        have s7 : Same H6 _ := (Same.upd (o := .tup ws) ht).trans (Same.upd (o := .tup [.int m, .ref t]) hg)
        refine kk g t m ws prs' _ (((s1.trans s2).trans s4).trans (s5.trans (s6.trans s7)).but) ?_ ⟨upd_same, ?_, ha.mono s7, by omega, by omega, by omega⟩ (by omega) (by omega) (fun z hz => e3 z (hpm.mem_iff.mp hz)) lw (ris_strict ris (hpm.symm.nodup ndp))
        · exact hp4.mono (s5.trans (s6.trans s7))
        · exact Same.upd hg _ _ upd_same
end
end Hk

namespace Hk
open PySem L2
theorem newp {H : Hp} {p q : Addr} (hp : PenAt H p) (hq : H q = none) : q ≠ p := fun e => by
  obtain ⟨_, _, _, z⟩ := hp
  rw [e, z] at hq
  cases hq
end Hk

namespace Hk
open PySem L2
section
variable {P : Program} {w : World} {K : PySem.W.Frag} {mg : Str → Option Value} {base : Heap}
def spWhole : Sp := fun vs H Q _ => ∃ x T, vs = [x] ∧ Dat H x T ∧ Q (.bl (isI x)) H
theorem kn_whole (D : DefAt K mg "whole_good" s_whole_good ["thing"]) (fr : Free mg ["isinstance", "int", "bool"]) : Kn P w K mg base 1 "whole_good" ["thing"] spWhole := by
  refine D.kn (N := ["thing"]) ⟨rfl, rfl, rfl, by decide +kernel, rfl, by decide +kernel, by decide +kernel⟩ (fun vs H Q E h => ?_) (fun f cdv A outer s H vs Q E hr h => ?_)
  · obtain ⟨x, T, rfl, _⟩ := h
    rfl
  · obtain ⟨x, T, rfl, d, k⟩ := h
    have m1 := fr "isinstance" (by simp)
    have m2 := fr "int" (by simp)
    have m3 := fr "bool" (by simp)
    refine ⟨_, pss_one (ps_ret (pe_and (pe_callB call_isi rfl m1 boot_isi (pa_cons (pv 0) (pa_cons (pe_bltn (v := .ty "int") rfl m2 boot_tint rfl) pa_nil)))
      (pe_one (pe_not (pe_callB call_isi rfl m1 boot_isi (pa_cons (pv 0) (pa_cons (pe_bltn (v := .ty "bool") rfl m3 boot_tbool rfl) pa_nil))))))), ?_⟩
    refine ⟨x, rfl, x, "int", T, rfl, d, by simp, _, rfl, ite2 (fun h1 => ?_) (fun h1 => ?_)⟩
    · refine ⟨x, rfl, x, "bool", T, rfl, d, by simp, _, rfl, ?_⟩
      cases d <;> first | exact k | exact absurd h1 (by decide)
    · cases d <;> first | exact k | exact absurd (by decide) h1
def spPlace : Sp := fun vs H Q _ => ∃ a m y x T, vs = [.ref a, x] ∧ H a = some (.tup [.int m, y]) ∧ Dat H x T ∧ Q (.bl (plG m x)) H
theorem kn_place (D : DefAt K mg "place_good" s_place_good ["web", "thing"]) (kw : Kn P w K mg base 1 "whole_good" ["thing"] spWhole) : Kn P w K mg base 2 "place_good" ["web", "thing"] spPlace := by
  refine D.kn (N := ["web", "thing"]) ⟨rfl, rfl, rfl, by decide +kernel, rfl, by decide +kernel, by decide +kernel⟩ (fun vs H Q E h => ?_) (fun f cdv A outer s H vs Q E hr h => ?_)
  · obtain ⟨a, m, y, x, T, rfl, _⟩ := h
    rfl
  · obtain ⟨a, m, y, x, T, rfl, ha, d, k⟩ := h
    refine ⟨_, pss_one (ps_ret (pe_and (pe_kn kw hr (pa_cons (pv 1) pa_nil)) (pe_one (pe_chain op_le op_lt pe_int (pv 1) (pe_ix ix_tup (pv 0) pe_int (fun _ _ => rfl)))))), ?_⟩
    refine ⟨x, rfl, x, T, rfl, d, _, rfl, ?_⟩
    cases d with
    | int i =>
      refine iteT ?_
      refine ⟨_, rfl, _, _, rfl, rfl, _, rfl, ite2 (fun h1 => ?_) (fun h1 => ?_)⟩
      · refine ⟨_, rfl, a, _, _, _, rfl, rfl, SqT.of ha, rfl, _, _, rfl, rfl, ?_⟩
        have e : plG m (.int i) = decide (i < m) := by simp [plG, of_decide_eq_true h1]
        rw [e] at k
        exact k
      · have e : plG m (.int i) = false := by
          have h1 : ¬ 0 ≤ i := by simpa using h1
          simp [plG, h1]
        rw [e] at k
        exact k
    | _ => exact iteF k
end
end Hk

namespace Hk
open PySem L2
section
variable {P : Program} {w : World} {K : PySem.W.Frag} {mg : Str → Option Value} {base : Heap}
theorem kn_lawWhole (D : DefAt K mg "_law_whole" s_law_whole ["found"]) (fr : Free mg ["isinstance", "int", "bool"]) : Kn P w K mg base 1 "_law_whole" ["found"] spWhole := by
  refine D.kn (N := ["found"]) ⟨rfl, rfl, rfl, by decide +kernel, rfl, by decide +kernel, by decide +kernel⟩ (fun vs H Q E h => ?_) (fun f cdv A outer s H vs Q E hr h => ?_)
  · obtain ⟨x, T, rfl, _⟩ := h
    rfl
  · obtain ⟨x, T, rfl, d, k⟩ := h
    have m1 := fr "isinstance" (by simp)
    have m2 := fr "int" (by simp)
    have m3 := fr "bool" (by simp)
    refine ⟨_, pss_one (ps_ret (pe_and (pe_callB call_isi rfl m1 boot_isi (pa_cons (pv 0) (pa_cons (pe_bltn (v := .ty "int") rfl m2 boot_tint rfl) pa_nil)))
      (pe_one (pe_not (pe_callB call_isi rfl m1 boot_isi (pa_cons (pv 0) (pa_cons (pe_bltn (v := .ty "bool") rfl m3 boot_tbool rfl) pa_nil))))))), ?_⟩
    refine ⟨x, rfl, x, "int", T, rfl, d, by simp, _, rfl, ite2 (fun h1 => ?_) (fun h1 => ?_)⟩
    · refine ⟨x, rfl, x, "bool", T, rfl, d, by simp, _, rfl, ?_⟩
      cases d <;> first | exact k | exact absurd h1 (by decide)
    · cases d <;> first | exact k | exact absurd (by decide) h1
end
end Hk

namespace Hk
open PySem L2
section
variable {P : Program} {w : World} {K : PySem.W.Frag} {mg : Str → Option Value} {base : Heap}
theorem dat_but {H H' : Hp} {p : Addr} {x : V} {T : String} (h : Dat H x T) (n : x ≠ .ref p) (s : SameBut p H H') : Dat H' x T := by
  cases h with
  | non => exact .non
  | bl b => exact .bl b
  | int i => exact .int i
  | str z => exact .str z
  | lst e => exact .lst (s _ _ (fun z => n (by rw [z])) e)
  | tup e => exact .tup (s _ _ (fun z => n (by rw [z])) e)
  | dK e => exact .dK (s _ _ (fun z => n (by rw [z])) e)
def It (p : Addr) (H : Hp) (y : V) : Prop := (∃ T, Dat H y T) ∧ y ≠ .ref p
theorem It.but {p : Addr} {H H' : Hp} {y : V} (h : It p H y) (s : SameBut p H H') : It p H' y := ⟨h.1.imp fun _ d => dat_but d h.2 s, h.2⟩
theorem cut_mem {xs : List V} {lo hi : Option Int} {y : V} (h : y ∈ cutV xs lo hi) : y ∈ xs := by
  unfold cutV at h
  exact List.mem_of_mem_drop (List.mem_of_mem_take h)
theorem it_ints {p : Addr} {H : Hp} {ns : List Int} {y : V} (h : y ∈ ns.map V.int) : It p H y := by
  obtain ⟨b, _, rfl⟩ := List.mem_map.mp h
  exact ⟨⟨_, .int _⟩, fun z => (nomatch z)⟩
end
end Hk

namespace Hk
open PySem L2
section
variable {K : PySem.W.Frag}
def cI (B : Hp) (σ : St) (t : TE) : Prop := ∀ H Q, Same B H → (∀ i : Int, Q (.int i) H) → t σ H Q
def cP (B : Hp) (σ : St) (t : TO) : Prop := ∀ H Q, Same B H → (∀ o : Option Int, Q o H) → t σ H Q
def cV (B : Hp) (p : Addr) (σ : St) (t : TE) : Prop := ∀ H Q, Same B H → (∀ v H', Same H H' → It p H' v → Q v H') → t σ H Q
def cT (B : Hp) (p : Addr) (σ : St) (t : TE) (L : Nat) : Prop := ∀ H Q, Same B H → (∀ x ys H', Same H H' → H' x = some (.tup ys) → (∀ y ∈ ys, It p H' y) → ys.length ≤ L → Q (.ref x) H') → t σ H Q
variable {B : Hp} {p : Addr} {σ : St}
theorem It.mono {H H' : Hp} {y : V} (h : It p H y) (s : Same H H') : It p H' y := h.but s.but
theorem i_c {i : Int} : cI B σ (tC (.int i)) := fun H Q _ h => h i
theorem i_add {x y : TE} (hx : cI B σ x) (hy : cI B σ y) : cI B σ (tOp (rI0 fun i j => V.int (i + j)) x y) := fun H Q s h => hx H _ s fun i => hy H _ s fun j => ⟨_, _, rfl, rfl, h _⟩
theorem p_no : cP B σ tNoPart := fun H Q _ h => h none
theorem p_so {x : TE} (hx : cI B σ x) : cP B σ (tPart x) := fun H Q s h => hx H _ s fun i => ⟨i, rfl, h _⟩
theorem v_t (hp : PenAt B p) {x : TE} {L : Nat} (hx : cT B p σ x L) : cV B p σ x := fun H Q s h => hx H _ s fun x ys H' s' e _ _ => h _ _ s' ⟨⟨_, .tup e⟩, fun z => pen_tup (PenAt.mono (s.trans s') hp) e (by cases z; rfl)⟩
theorem t_sl {x : TE} {lo hi : TO} {L : Nat} (hx : cT B p σ x L) (hl : cP B σ lo) (hh : cP B σ hi) : cT B p σ (tSl rSl2 x lo hi) L := fun H Q s h =>
  hx H _ s fun x ys H1 s1 e it l => hl H1 _ (s.trans s1) fun o1 => hh H1 _ (s.trans s1) fun o2 => ⟨x, ys, rfl, e, fun z H' s' e' => h z _ H' (s1.trans s') e' (fun y hy => (it y (cut_mem hy)).mono s') (Nat.le_trans (cutV_length _ _ _) l)⟩
theorem t_cat {x y : TE} {L M : Nat} (hx : cT B p σ x L) (hy : cT B p σ y M) (hz : L + M ≤ 1000 := by decide) : cT B p σ (tOp rCat2 x y) (L + M) := fun H Q s h =>
  hx H _ s fun x xs H1 s1 e1 i1 l1 => hy H1 _ (s.trans s1) fun y ys H2 s2 e2 i2 l2 => ⟨x, y, xs, ys, rfl, rfl, s2 _ _ e1, e2, Nat.le_of_lt (small1000 (by omega)), fun z H' s' e' => h z _ H' (s1.trans (s2.trans s')) e' (fun y hy => by
    rcases List.mem_append.mp hy with g | g
    · exact (i1 y g).mono (s2.trans s')
    · exact (i2 y g).mono s') (by rw [List.length_append]; omega)⟩
theorem t_one {x : TE} (hx : cV B p σ x) : cT B p σ (tTup (tCons x tNil)) 1 := fun H Q s h =>
  hx H _ s fun v H1 s1 it => ⟨(by show 1 ≤ sizeLine; decide), fun b hb => h b _ _ (s1.trans (Same.upd hb)) upd_same (fun y hy => by rw [List.mem_singleton.mp hy]; exact it.mono (Same.upd hb)) (Nat.le_refl 1)⟩
theorem t_nil : cT B p σ (tTup tNil) 0 := fun H Q s h =>
  ⟨(by show 0 ≤ sizeLine; decide), fun b hb => h b _ _ (Same.upd hb) upd_same (fun y hy => (nomatch hy)) (Nat.le_refl 0)⟩
theorem t_rev {x : TE} {L : Nat} (hx : cT B p σ x L) : cT B p σ (tRev x) L := fun H Q s h =>
  hx H _ s fun x ys H1 s1 e it l => ⟨x, ys, rfl, e, fun z H' s' e' => h z _ H' (s1.trans s') e' (fun y hy => (it y (List.mem_reverse.mp hy)).mono s') (by rw [List.length_reverse]; exact l)⟩
theorem asg_in {te : TE} {i : Nat} {u : TS} {D : Ends} {H : Hp} (h : te σ H fun x H1 => u D (σ.set i (some x)) H1) : tSeq (tAsg te (gName i)) u D σ H := h
theorem i_var {i : Nat} {n : Int} (e : σ[i]? = some (some (.int n))) : cI B σ (tVar i) := fun H Q _ h => ⟨_, e, h n⟩
theorem t_var {i : Nat} {x : Addr} {ys : List V} {n : Nat} (e : σ[i]? = some (some (.ref x))) (hx : B x = some (.tup ys)) (it : ∀ y ∈ ys, It p B y) (hn : ys.length ≤ n) : cT B p σ (tVar i) n := fun H Q s h =>
  ⟨_, e, h x ys H (Same.refl _) (s _ _ hx) (fun y hy => (it y hy).mono s) hn⟩
end
end Hk

namespace Hk
open PySem L2
section
variable {K : PySem.W.Frag}
structure Ob (p : Addr) (H : Hp) (v : V) : Prop where
  ex : ∃ o, Thing H v o ∧ (∀ ys, o = some ys → ys.length ≤ 60) ∧ v ≠ .ref p ∧ ∀ ys, o = some ys → ∀ y ∈ ys, y ≠ .ref p
theorem Ob.but {p : Addr} {H H' : Hp} {v : V} (h : Ob p H v) (s : SameBut p H H') : Ob p H' v := by
  obtain ⟨o, th, h2, h3, h4⟩ := h.ex
  refine ⟨o, ?_, h2, h3, h4⟩
  cases th with
  | tup e ty z => exact .tup (s _ _ (fun z => h3 (by rw [z])) e) (fun y hy => (ty y hy).imp fun t q => dat_but q (h4 _ rfl y hy) s) z
  | oth d n => exact .oth (dat_but d h3 s) n
theorem Ob.mono {p : Addr} {H H' : Hp} {v : V} (h : Ob p H v) (s : Same H H') : Ob p H' v := h.but s.but
theorem Ob.oth {p : Addr} {H : Hp} {v : V} {T : String} (d : Dat H v T) (n : T ≠ "tuple") (h : v ≠ .ref p) : Ob p H v :=
  ⟨none, .oth d n, fun _ z => (nomatch z), h, fun _ z => (nomatch z)⟩
theorem Ob.tup {p a : Addr} {H : Hp} {ys : List V} (hp : PenAt H p) (ha : H a = some (.tup ys)) (ty : ∀ y ∈ ys, It p H y) (l : ys.length ≤ 60) : Ob p H (.ref a) :=
  ⟨some ys, .tup ha (fun y hy => (ty y hy).1) (Nat.le_of_lt (small1000 (by omega))), fun _ e => by cases e; exact l, fun e => pen_tup hp ha (by cases e; rfl), fun _ e y hy => by cases e; exact (ty y hy).2⟩
def gcO (B : Hp) (p : Addr) (σ : St) (t : TE) : Prop := ∀ H Q, Same B H → (∀ v H', Same H H' → Ob p H' v → Q v H') → t σ H Q
def gcA (B : Hp) (p : Addr) (σ : St) (t : TA) (n : Nat) : Prop := ∀ H Q, Same B H → (∀ vs H', Same H H' → (∀ v ∈ vs, Ob p H' v) → vs.length = n → Q vs H') → t σ H Q
def gcL (B : Hp) (p : Addr) (σ : St) (t : TE) (n : Nat) : Prop := ∀ H Q, Same B H → (∀ x vs H', Same H H' → x ≠ p → H' x = some (.lst vs) → (∀ v ∈ vs, Ob p H' v) → vs.length = n → Q (.ref x) H') → t σ H Q
variable {B : Hp} {p : Addr} {σ : St}
theorem go_t (hp : PenAt B p) {x : TE} {L : Nat} (hx : cT B p σ x L) (hz : L ≤ 60 := by decide) : gcO B p σ x := fun H Q s h =>
  hx H _ s fun x ys H1 s1 e it l => h _ H1 s1 (Ob.tup (PenAt.mono (s.trans s1) hp) e it (by omega))
theorem go_non : gcO B p σ (tC .non) := fun H Q s h => h _ _ (Same.refl _) (Ob.oth .non (by decide) (fun z => (nomatch z)))
theorem go_list (hp : PenAt B p) {x : TE} {L : Nat} (hx : cT B p σ x L) : gcO B p σ (tCB (fun xs H Q => ∃ p ys, xs = [.ref p] ∧ (SqL K H p ys ∨ SqT K H p ys) ∧ ∀ l, H l = none → Q (.ref l) (upd H l (.lst ys))) (tCons x tNil)) := fun H Q s h =>
  hx H _ s fun x ys H1 s1 e it l => ⟨x, ys, rfl, .inr (SqT.of e), fun b hb => h _ _ (s1.trans (Same.upd hb)) (Ob.oth (.lst upd_same) (by decide) (fun z => newp (PenAt.mono (s.trans s1) hp) hb (by cases z; rfl)))⟩
theorem ga_nil : gcA B p σ tNil 0 := fun H Q s h => h [] H (Same.refl _) (fun y hy => (nomatch hy)) rfl
theorem ga_cons {x : TE} {ta : TA} {n : Nat} (hx : gcO B p σ x) (ha : gcA B p σ ta n) : gcA B p σ (tCons x ta) (n + 1) := fun H Q s h =>
  hx H _ s fun v H1 s1 o => ha H1 _ (s.trans s1) fun vs H2 s2 os l => h _ H2 (s1.trans s2) (fun y hy => by
    rcases List.mem_cons.mp hy with g | g
    · rw [g]; exact o.mono s2
    · exact os y g) (congrArg Nat.succ l)
theorem gl_a (hp : PenAt B p) {ta : TA} {n : Nat} (ha : gcA B p σ ta n) (hz : n ≤ 1000 := by decide) : gcL B p σ (tLst ta) n := fun H Q s h =>
  ha H _ s fun vs H1 s1 os l => ⟨Nat.le_of_lt (small1000 (by omega)), fun b hb => h b vs _ (s1.trans (Same.upd hb)) (newp (PenAt.mono (s.trans s1) hp) hb) upd_same (fun v hv => (os v hv).mono (Same.upd hb)) l⟩
theorem gl_cat (hp : PenAt B p) {x y : TE} {n k : Nat} (hx : gcL B p σ x n) (hy : gcL B p σ y k) (hz : n + k ≤ 1000 := by decide) : gcL B p σ (tOp rCat x y) (n + k) := fun H Q s h =>
  hx H _ s fun x xs H1 s1 n1 e1 i1 l1 => hy H1 _ (s.trans s1) fun y ys H2 s2 n2 e2 i2 l2 => ⟨x, y, xs, ys, rfl, rfl, s2 _ _ e1, e2, Nat.le_of_lt (small1000 (by omega)), fun b hb => h b _ _ (s1.trans (s2.trans (Same.upd hb))) (newp (PenAt.mono (s.trans (s1.trans s2)) hp) hb) upd_same (fun y hy => by
    rcases List.mem_append.mp hy with g | g
    · exact (i1 y g).mono (s2.trans (Same.upd hb))
    · exact (i2 y g).mono (Same.upd hb)) (by rw [List.length_append]; omega)⟩
theorem gl_var {i : Nat} {x : Addr} {vs : List V} {n : Nat} (ne : x ≠ p) (e : σ[i]? = some (some (.ref x))) (hx : B x = some (.lst vs)) (os : ∀ v ∈ vs, Ob p B v) (hn : vs.length = n) : gcL B p σ (tVar i) n := fun H Q s h =>
  ⟨_, e, h x vs H (Same.refl _) ne (s _ _ hx) (fun v hv => (os v hv).mono s) hn⟩
theorem guse_l {t : TE} {n : Nat} {Q : VK} (h : gcL B p σ t n) (hk : ∀ x vs H', Same B H' → x ≠ p → H' x = some (.lst vs) → (∀ v ∈ vs, Ob p H' v) → vs.length = n → Q (.ref x) H') : t σ B Q := h B Q (Same.refl _) hk
theorem t_mul {x : TE} {L : Nat} (hx : cT B p σ x L) (hz : 2 * L ≤ 1000 := by decide) : cT B p σ (tOp rMulT x (tC (.int 2))) (2 * L) := fun H Q s h =>
  hx H _ s fun x ys H1 s1 e it l => ⟨x, 2, ys, rfl, rfl, e, by decide, by decide, by omega, fun z H' s' e' => h z _ H' (s1.trans s') e' (fun y hy => by
    obtain ⟨l, h1, h2⟩ := List.mem_flatten.mp hy
    rw [List.eq_of_mem_replicate h1] at h2
    exact (it y h2).mono s') (by rw [rep_len]; show 2 * _ ≤ _; omega)⟩
theorem v_it {i : Nat} {v : V} (e : σ[i]? = some (some v)) (it : It p B v) : cV B p σ (tVar i) := fun H Q s h => ⟨_, e, h v H (Same.refl _) (it.mono s)⟩
end
end Hk

namespace Hk
open PySem L2
section
variable {P : Program} {w : World} {K : PySem.W.Frag} {mg : Str → Option Value} {base : Heap}
theorem inV_int (k : Int) (ns : List Int) : inV (.int k) (ns.map V.int) = decide (k ∈ ns) := by
  unfold inV
  induction ns with
  | nil => simp
  | cons n r ih =>
    rw [List.map_cons, List.any_cons, ih]
    have : eqV (V.int n) (V.int k) = decide (k = n) := by
      show (n == k) = _
      by_cases h : k = n
      · subst h; simp
      · simp [h, Ne.symm h]
    rw [this]
    simp
end
end Hk

namespace Hk
open PySem L2
section
variable {P : Program} {w : World} {K : PySem.W.Frag} {mg : Str → Option Value} {base : Heap}
theorem none_same {H H' : Hp} {l : Addr} (s : Same H H') (h : H' l = none) : H l = none := by
  cases e : H l with
  | none => rfl
  | some o => rw [s _ _ e] at h; cases h
def spNextsN : Sp := fun vs H Q _ => ∃ (a t : Addr) (m : Int) (us : List V) (ars : List (Int × Int)) (k : Int), vs = [.ref a, .int k] ∧ Web H a t m us ars ∧
  ∀ (l : Addr) (H' : Hp), Same H H' → H l = none → H' l = some (.lst (((ars.filter fun q => decide (q.1 = k)).map (·.2)).map V.int)) → Q (.ref l) H'
theorem kn_leadsN (D : DefAt K mg "_law_leads" s_law_leads ["web", "place"]) : Kn P w K mg base 1 "_law_leads" ["web", "place"] spNextsN := by
  have sc : FnScope ["web", "place"] ["web", "place"] (defScope s_law_leads) := ⟨rfl, rfl, rfl, by decide +kernel, rfl, by decide +kernel, by decide +kernel⟩
  refine D.kn (N := ["web", "place"]) sc (fun vs H Q E h => ?_) (fun f cdv A outer s H vs Q E hr h => ?_)
  · obtain ⟨a, t, m, us, ars, k, rfl, _⟩ := h
    rfl
  · obtain ⟨a, t, m, us, ars, k, rfl, W, kk⟩ := h
    have nd : (["arrow", "place"] : List Str).Nodup := by decide +kernel
    refine ⟨_, pss_one (ps_ret (pe_lc (N := ["arrow", "place"]) (src := [none, some 1]) rfl ⟨rfl, rfl, rfl, rfl, ⟨⟨rfl, rfl⟩, trivial⟩, rfl, rfl, rfl⟩ (gown_name (i := 0) rfl) (pi_tup (pe_ix ix_tup (pv 0) pe_int (fun _ _ => rfl)))
        (fun C s H fp => ⟨pg_name (i := 0) nd rfl (Or.inl rfl), pifs_one (pt_cmpR op_eq (pe_ix (r := rIxT K) ix_tup (pv 0) pe_int (fun _ _ => rfl)) (pv 1) (nomark _)), pe_ix (r := rIxT K) ix_tup (pv 0) pe_int (fun _ _ => rfl)⟩))), ?_⟩
    refine ⟨_, rfl, a, _, _, _, rfl, rfl, SqT.of W.top, rfl, t, rfl, ⟨_, SqT.of W.arr⟩, lc_tup (xs := us) (fun i zs H' => Same H H' ∧ zs = (((ars.take i).filter fun q => decide (q.1 = k)).map (·.2)).map V.int) ⟨Same.refl _, rfl⟩ ?_ ?_ ?_⟩
    · rintro i zs H' hi ⟨s2, rfl⟩
      refine ⟨SqT.of (s2 _ _ W.arr), ?_⟩
      have h2 : ((ars.take i).filter fun q => decide (q.1 = k)).length ≤ (ars.take i).length := List.length_filter_le _ _
      rw [List.length_take] at h2
      have h3 := W.len
      rw [List.length_map, List.length_map]
      exact Nat.le_of_lt (small1000 (by omega))
    · rintro zs H' ⟨s2, rfl⟩ l hl'
      rw [arsLen W.ars, List.take_of_length_le (Nat.le_refl _)]
      exact kk l _ (s2.trans (Same.upd hl')) (none_same s2 hl') upd_same
    · rintro i x zs H' h1 hi ⟨s2, rfl⟩
      obtain ⟨q, e1, r, rfl, hr'⟩ := Paired.get' W.ars h1
      refine ⟨_, rfl, r, _, _, _, rfl, rfl, SqT.of (s2 _ _ hr'), rfl, _, rfl, rfl, _, rfl, ?_⟩
      have hq : decide (V.int q.1 = V.int k) = decide (q.1 = k) := by simp
      rw [hq]
      refine ite2 (fun h2 => ?_) (fun h2 => ?_)
      · refine ⟨_, rfl, r, _, _, _, rfl, rfl, SqT.of (s2 _ _ hr'), rfl, nx hi ⟨s2, ?_⟩⟩
        rw [filter_snoc _ _ _ _ e1, if_pos h2, List.map_append, List.map_append]
        rfl
      · refine nx hi ⟨s2, ?_⟩
        rw [filter_snoc _ _ _ _ e1, if_neg h2, List.append_nil]
end
end Hk

namespace Hk
open PySem L2
def plI (n : Nat) : List Int := (List.range n).map fun (k : Nat) => (k : Int)
theorem mem_plI {n : Nat} {p : Int} : p ∈ plI n ↔ 0 ≤ p ∧ p < n := by
  unfold plI
  rw [List.mem_map]
  constructor
  · rintro ⟨k, hk, rfl⟩
    rw [List.mem_range] at hk
    omega
  · rintro ⟨h0, h1⟩
    exact ⟨p.toNat, List.mem_range.mpr (by omega), by omega⟩
theorem plI_len (n : Nat) : (plI n).length = n := by
  unfold plI
  rw [List.length_map, List.length_range]
theorem nodup_le {n : Nat} {D : List Int} (h1 : D.Nodup) (h2 : ∀ p ∈ D, 0 ≤ p ∧ p < n) : D.length ≤ n := by
  have : D ⊆ plI n := fun p hp => mem_plI.mpr (h2 p hp)
  have := List.Nodup.length_le_of_subset h1 this
  rwa [plI_len] at this
end Hk
namespace Hk
open PySem L2
end Hk

namespace Hk
open PySem L2 PySem.W
theorem rise_uniq : ∀ {l r : List Int}, l.Pairwise (· < ·) → r.Pairwise (· < ·) → (∀ x, x ∈ l ↔ x ∈ r) → l = r
  | [], [], _, _, _ => rfl
  | [], y :: r, _, _, h => absurd ((h y).mpr List.mem_cons_self) (by simp)
  | x :: l, [], _, _, h => absurd ((h x).mp List.mem_cons_self) (by simp)
  | x :: l, y :: r, h1, h2, h => by
    have a := List.pairwise_cons.mp h1
    have b := List.pairwise_cons.mp h2
    have e : x = y := by
      rcases List.mem_cons.mp ((h x).mp List.mem_cons_self) with z | z
      · exact z
      · rcases List.mem_cons.mp ((h y).mpr List.mem_cons_self) with w | w
        · exact w.symm
        · have := a.1 y w
          have := b.1 x z
          omega
    subst e
    rw [rise_uniq a.2 b.2 fun z => ?_]
    constructor
    · intro hz
      rcases List.mem_cons.mp ((h z).mp (List.mem_cons_of_mem _ hz)) with w | w
      · subst w
        have := a.1 z hz
        omega
      · exact w
    · intro hz
      rcases List.mem_cons.mp ((h z).mpr (List.mem_cons_of_mem _ hz)) with w | w
      · subst w
        have := b.1 z hz
        omega
      · exact w
theorem le_lt {l : List Int} (h : l.Pairwise (· ≤ ·)) (n : l.Nodup) : l.Pairwise (· < ·) := by
  have := List.Pairwise.and h n
  exact this.imp fun {a b} ⟨x, y⟩ => by
    have : a ≠ b := y
    omega
theorem plI_rise (n : Nat) : (plI n).Pairwise (· < ·) := by
  unfold plI
  rw [List.pairwise_map]
  exact List.pairwise_lt_range.imp fun {a b} h => by omega
end Hk

namespace Hk
open PySem L2 PySem.W
theorem huN {k j : Nat} {A : Around} (hr : Room k A) (h : j ≤ 200) : A.units + j < cLine := by
  have := hr.un
  omega
theorem none_same' {H H' : Hp} {l : Addr} (s : Same H H') (h : H' l = none) : H l = none := by
  cases e : H l with
  | none => rfl
  | some o => rw [s _ _ e] at h; cases h
end Hk

namespace Hk
open PySem L2 PySem.W
theorem ints_all : ∀ {ys : List V}, ys.all isI = true → ∃ ns : List Int, ys = ns.map V.int
  | [], _ => ⟨[], rfl⟩
  | y :: r, h => by
    rw [List.all_cons, Bool.and_eq_true] at h
    obtain ⟨ns, e⟩ := ints_all h.2
    cases y with
    | int i => exact ⟨i :: ns, by rw [e]; rfl⟩
    | _ => exact absurd h.1 (by simp [isI])
inductive Tg (H : Hp) : V → Option (List Int) → Prop where
  | nts {c : Addr} {ns : List Int} (h : H c = some (.tup (ns.map V.int))) (l : ns.length ≤ 60) : Tg H (.ref c) (some ns)
  | odd {c : Addr} {ys : List V} (h : H c = some (.tup ys)) (ty : ∀ y ∈ ys, ∃ T, Dat H y T) (n : ys.all isI = false) (l : ys.length ≤ 60) : Tg H (.ref c) none
  | oth {x : V} {T : String} (h : Dat H x T) (n : T ≠ "tuple") : Tg H x none
theorem Tg.mono {H H' : Hp} {v : V} {o : Option (List Int)} (s : Same H H') (h : Tg H v o) : Tg H' v o := by
  cases h with
  | nts h l => exact .nts (s _ _ h) l
  | odd h ty n l => exact .odd (s _ _ h) (fun y hy => (ty y hy).imp fun _ d => d.mono s) n l
  | oth h n => exact .oth (h.mono s) n
theorem tg_tup {H : Hp} {c : Addr} {ys : List V} (h : H c = some (.tup ys)) (ty : ∀ y ∈ ys, ∃ T, Dat H y T) (l : ys.length ≤ 60) : ∃ o, Tg H (.ref c) o := by
  cases e : ys.all isI with
  | true =>
    obtain ⟨ns, rfl⟩ := ints_all e
    exact ⟨_, .nts h (by rw [List.length_map] at l; exact l)⟩
  | false => exact ⟨_, .odd h ty e l⟩
theorem Ob.tg {p : Addr} {H : Hp} {v : V} (h : Ob p H v) : ∃ o, Tg H v o := by
  obtain ⟨o, th, l, _⟩ := h.ex
  cases th with
  | tup e ty z => exact tg_tup e ty (l _ rfl)
  | oth d n => exact ⟨_, .oth d n⟩
theorem Tg.cases' {H : Hp} {v : V} {o : Option (List Int)} (h : Tg H v o) : (∃ (c : Addr) (ys : List V), v = .ref c ∧ H c = some (.tup ys) ∧ (∀ y ∈ ys, ∃ T, Dat H y T) ∧ ys.length ≤ 60 ∧ ((∃ ns, ys = ns.map V.int ∧ o = some ns) ∨ (ys.all isI = false ∧ o = none))) ∨ (∃ T, Dat H v T ∧ T ≠ "tuple" ∧ o = none) := by
  cases h with
  | nts h l => exact .inl ⟨_, _, rfl, h, fun y hy => by
      obtain ⟨i, _, rfl⟩ := List.mem_map.mp hy
      exact ⟨_, .int i⟩, by rw [List.length_map]; exact l, .inl ⟨_, rfl, rfl⟩⟩
  | odd h ty n l => exact .inl ⟨_, _, rfl, h, ty, l, .inr ⟨n, rfl⟩⟩
  | oth h n => exact .inr ⟨_, h, n, rfl⟩
def Unl (m : Int) (ns : List Int) : Prop := ns.Nodup ∧ ∀ p ∈ ns, 0 ≤ p ∧ p < m
def RgP (ars : List (Int × Int)) (R : List Int) : Prop := 2 ≤ R.length ∧ R.Nodup ∧ ∀ i, i < R.length → ∀ x y, R[i]? = some x → R[(i + 1) % R.length]? = some y → (x, y) ∈ ars
def OgP (m : Int) (ars : List (Int × Int)) (ns : List Int) : Prop := Unl m ns ∧ (ns.length : Int) = m ∧ ∀ q ∈ ars, ns.idxOf q.2 < ns.idxOf q.1
def Of (φ : List Int → Prop) (o : Option (List Int)) : Prop := ∃ ns, o = some ns ∧ φ ns
theorem of_some {φ : List Int → Prop} {ns : List Int} : Of φ (some ns) ↔ φ ns := ⟨fun ⟨_, e, h⟩ => by cases e; exact h, fun h => ⟨_, rfl, h⟩⟩
theorem of_none {φ : List Int → Prop} : ¬ Of φ none := fun ⟨_, e, _⟩ => nomatch e
theorem plG_all {m : Int} : ∀ {ys : List V}, ys.all (plG m) = true → ys.all isI = true
  | [], _ => rfl
  | y :: r, h => by
    rw [List.all_cons, Bool.and_eq_true] at h ⊢
    refine ⟨?_, plG_all h.2⟩
    cases y with
    | int i => rfl
    | _ => exact absurd h.1 (by simp [plG])
theorem plG_ints {m : Int} {ns : List Int} : (ns.map V.int).all (plG m) = true ↔ ∀ p ∈ ns, 0 ≤ p ∧ p < m := by
  rw [List.all_map, List.all_eq_true]
  refine forall_congr' fun p => forall_congr' fun _ => ?_
  show (decide (0 ≤ p) && decide (p < m)) = true ↔ _
  simp
theorem RgP.unl {m : Int} {ars : List (Int × Int)} {R : List Int} (ga : GoodA m ars) (h : RgP ars R) : Unl m R := by
  obtain ⟨r2, nd, ra⟩ := h
  refine ⟨nd, fun p hp => ?_⟩
  obtain ⟨i, hi, rfl⟩ := List.mem_iff_getElem.mp hp
  have hj : (i + 1) % R.length < R.length := Nat.mod_lt _ (by omega)
  have := ra i hi _ _ (List.getElem?_eq_getElem hi) (List.getElem?_eq_getElem hj)
  obtain ⟨g1, g2, _⟩ := ga _ this
  exact ⟨g1, g2⟩
theorem next_at {R : List Int} {j : Nat} {y : Int} (hj : j < R.length) (ey : (R.drop 1 ++ R.take 1)[j]? = some y) : R[(j + 1) % R.length]? = some y := by
  by_cases c : j + 1 < R.length
  · rw [List.getElem?_append_left (by rw [List.length_drop]; omega), List.getElem?_drop] at ey
    rw [Nat.mod_eq_of_lt c, Nat.add_comm]
    exact ey
  · have ej : j = R.length - 1 := by omega
    rw [List.getElem?_append_right (by rw [List.length_drop]; omega), List.length_drop, show j - (R.length - 1) = 0 by omega, List.getElem?_take_of_lt (by decide)] at ey
    rw [show (j + 1) % R.length = 0 by rw [show j + 1 = R.length by omega]; exact Nat.mod_self _]
    exact ey
theorem unl_mem {m : Int} {ns : List Int} (h : Unl m ns) (l : (ns.length : Int) = m) {p : Int} (h0 : 0 ≤ p) (h1 : p < m) : p ∈ ns := by
  by_cases c : p ∈ ns
  · exact c
  · have := Hk.nodup_le (n := ns.length) (D := p :: ns) (List.nodup_cons.mpr ⟨c, h.1⟩) fun q hq => by
      rcases List.mem_cons.mp hq with rfl | hq
      · exact ⟨h0, by omega⟩
      · have := h.2 q hq
        exact ⟨this.1, by omega⟩
    rw [List.length_cons] at this
    omega
theorem sort_unl {m : Int} {ns ns' : List Int} (h0 : 0 ≤ m) (pm : ns'.Perm ns) (pw : ns'.Pairwise (· ≤ ·)) : ns' = plI m.toNat ↔ (Unl m ns ∧ (ns.length : Int) = m) := by
  constructor
  · intro e
    subst e
    have nd : (plI m.toNat).Nodup := (plI_rise _).imp fun {a b} h => by omega
    refine ⟨⟨pm.nodup_iff.mp nd, fun p hp => ?_⟩, by rw [← pm.length_eq, plI_len]; omega⟩
    have := mem_plI.mp (pm.mem_iff.mpr hp)
    omega
  · rintro ⟨u, l⟩
    refine rise_uniq (le_lt pw (pm.nodup_iff.mpr u.1)) (plI_rise _) fun x => ?_
    rw [pm.mem_iff, mem_plI]
    constructor
    · intro hx
      have := u.2 x hx
      omega
    · rintro ⟨a, b⟩
      exact unl_mem u l a (by omega)
end Hk

namespace Hk
open PySem L2 PySem.W
theorem mem_tPrs {prs : List (Int × Int)} {a b : Int} : (Tr.tup [.int a, .int b]) ∈ tPrs prs ↔ (a, b) ∈ prs := by
  unfold tPrs
  constructor
  · intro h
    obtain ⟨q, hq, e⟩ := List.mem_map.mp h
    have e := Tr.tup.inj e
    injection e with e1 e2
    injection e2 with e2 _
    have : q = (a, b) := Prod.ext (Tr.int.inj e1) (Tr.int.inj e2)
    rw [← this]
    exact hq
  · intro h
    exact List.mem_map.mpr ⟨_, h, rfl⟩
theorem cut_head (l : List V) : cutV l none (some 1) = l.take 1 := by
  unfold cutV
  show (l.drop 0).take (HT.sIx l.length l.length (some 1) - 0) = _
  cases l with
  | nil => rfl
  | cons x r =>
    have e : HT.sIx (x :: r).length (x :: r).length (some 1) = 1 := by
      unfold HT.sIx
      simp
    rw [e]
    rfl
theorem cut_from {xs : List V} {i : Nat} (h : i ≤ xs.length) : cutV xs (some (i : Int)) none = xs.drop i := by
  have e : HT.sIx xs.length 0 (some (i : Int)) = i := by
    unfold HT.sIx
    simp only
    first | omega | (split <;> omega) | simp [h]
  unfold cutV
  rw [e, show HT.sIx xs.length xs.length none = xs.length from rfl, List.take_of_length_le (by rw [List.length_drop]; omega)]
theorem all_take {α : Type} (f : α → Bool) (l : List α) : ((l.take l.length).map f).all id = l.all f := by
  rw [List.take_length, List.all_map]
  rfl
section
variable {P : Program} {w : World} {K : Frag} {mg : Str → Option Value} {base : Heap}
def spUnlA : Sp := fun vs H Q _ => ∃ (a t : Addr) (v : V) (m : Int) (us : List V) (ars : List (Int × Int)) (o : Option (List Int)), vs = [.ref a, v] ∧ Web H a t m us ars ∧ Tg H v o ∧ ∀ b H', Same H H' → (b = true ↔ Of (Unl m) o) → Q (.bl b) H'
theorem kn_unlA (D : DefAt K mg "unlike_places" s_unlike_places ["web", "thing"]) (fr : Free mg ["all", "isinstance", "len", "set", "tuple"]) (kp : Kn P w K mg base 2 "place_good" ["web", "thing"] spPlace) : Kn P w K mg base 3 "unlike_places" ["web", "thing"] spUnlA := by
  have sc : FnScope ["web", "thing"] ["web", "thing"] (defScope s_unlike_places) := ⟨rfl, rfl, rfl, by decide +kernel, rfl, by decide +kernel, by decide +kernel⟩
  refine D.kn (N := ["web", "thing"]) sc (fun vs H Q E h => ?_) (fun f cdv A outer s H vs Q E hr h => ?_)
  · obtain ⟨a, t, v, m, us, ars, o, rfl, _⟩ := h
    rfl
  · obtain ⟨a, t, v, m, us, ars, o, rfl, W, tg, kk⟩ := h
    have m_all := fr "all" (by simp)
    have m_isinstance := fr "isinstance" (by simp)
    have m_len := fr "len" (by simp)
    have m_set := fr "set" (by simp)
    have m_tuple := fr "tuple" (by simp)
    have nd0 : (["place", "web"] : List Str).Nodup := by decide +kernel
    have nd1 : (["place", "web"] : List Str).Nodup := by decide +kernel
    refine ⟨_, (pss_cons (ps_if (pt_not (pt_call (pe_callB call_isi rfl m_isinstance boot_isi (pa_cons (pv 1) (pa_cons (pe_bltn (v := .ty "tuple") rfl m_tuple boot_ttuple rfl) pa_nil))))) (pss_one (ps_ret pe_bl)) pss_nil) (pss_one (ps_ret (pe_and (pe_callB (call_all_bl rfl) rfl m_all boot_fall (pa_cons (pe_lc (N := ["place", "web"]) (src := [none, some 0]) rfl ⟨rfl, rfl, rfl, rfl, ⟨⟨rfl, rfl⟩, trivial⟩, rfl, rfl, rfl⟩ (gown_name (i := 0) rfl) (pi_tup (pv 1)) (fun C s H fp => ⟨(pg_name (i := 0) nd1 rfl (Or.inl rfl)), pifs_nil, (pe_kn kp hr (pa_cons (pv 1) (pa_cons (pv 0) pa_nil)))⟩)) pa_nil)) (pe_one (pe_cmpR op_eq (pe_callB call_lenS rfl m_len PySem.boot_len (pa_cons (pe_callTy (call_set_tup rfl) rfl m_set boot_tset (pa_cons (pv 1) pa_nil)) pa_nil)) (pe_callB call_len_seq rfl m_len PySem.boot_len (pa_cons (pv 1) pa_nil)) (nomark _))))))), ?_⟩
    rcases tg.cases' with ⟨c, ys, rfl, hc, ty, l9, o'⟩ | ⟨T, d, nT, rfl⟩
    · have hq : SqT K H c ys := SqT.of hc
      refine ⟨_, rfl, .ref c, "tuple", _, rfl, .tup hc, by simp, _, rfl, iteF ?_⟩
      refine ⟨_, rfl, c, rfl, ⟨_, hq⟩, lc_tup0 (xs := ys) (fun j zs H5 => Same H H5 ∧ zs = ((ys.take j).map (plG m)).map V.bl) ⟨Same.refl _, rfl⟩ ?_ ?_ ?_⟩
      · rintro j zs H5 hj ⟨s5, rfl⟩
        rw [List.length_map, List.length_map, List.length_take]
        exact ⟨same_sqT s5 hq, Nat.le_of_lt (small1000 (by omega))⟩
      · rintro zs H5 ⟨s5, rfl⟩ l hl
        have s6 := s5.trans (Same.upd (o := .lst (((ys.take ys.length).map (plG m)).map V.bl)) hl)
        refine ⟨l, _, rfl, SqL.of upd_same, _, rfl, ?_⟩
        rw [all_take]
        generalize upd H5 l (.lst (((ys.take ys.length).map (plG m)).map V.bl)) = H6 at s6
        refine ite2 (fun cc => ?_) (fun cc => ?_)
        · rcases o' with ⟨ns, rfl, rfl⟩ | ⟨na, rfl⟩
          · have bd := plG_ints.mp cc
            rw [List.length_map] at l9
            refine ⟨_, rfl, c, ns, rfl, same_sqT s6 hq, by omega, fun p n hp hn hle => ?_⟩
            have s7 := s6.trans (Same.upd (o := .set (fun k => decide (k ∈ ns)) n) hp)
            refine ⟨p, _, _, rfl, upd_same, _, rfl, c, _, rfl, .inr (same_sqT s7 hq), rfl, ?_⟩
            refine kk _ _ s7 ?_
            rw [of_some, decide_eq_true_eq, List.length_map]
            constructor
            · intro e
              exact ⟨hn.mp (by have := V.int.inj e; omega), bd⟩
            · rintro ⟨nd, _⟩
              rw [hn.mpr nd]
          · rw [plG_all cc] at na
            cases na
        · refine kk _ _ s6 ⟨fun e => (nomatch e), fun ⟨ns, e, u⟩ => ?_⟩
          rcases o' with ⟨ns', rfl, e'⟩ | ⟨_, e'⟩
          · rw [e] at e'
            cases e'
            exact absurd (plG_ints.mpr u.2) cc
          · rw [e] at e'
            cases e'
      · rintro j x zs H5 hx hj ⟨s5, rfl⟩
        obtain ⟨T, dx⟩ := ty x (List.mem_of_getElem? hx)
        refine ⟨_, rfl, _, rfl, a, m, _, _, _, rfl, s5 _ _ W.top, dx.mono s5, nx hj ⟨s5, ?_⟩⟩
        rw [take_snoc _ _ _ hx, List.map_append, List.map_append]
        rfl
    · refine ⟨_, rfl, v, _, T, rfl, d, by simp, _, rfl, ?_⟩
      have kb : kitB T "tuple" = false := by cases d <;> first | exact absurd rfl nT | decide
      rw [kb]
      exact iteT (kk _ _ (Same.refl _) ⟨fun e => (nomatch e), fun z => absurd z of_none⟩)
def spRgA : Sp := fun vs H Q _ => ∃ (a t : Addr) (v : V) (m : Int) (us : List V) (ars : List (Int × Int)) (o : Option (List Int)), vs = [.ref a, v] ∧ Web H a t m us ars ∧ GoodA m ars ∧ Tg H v o ∧ ∀ b H', Same H H' → (b = true ↔ Of (RgP ars) o) → Q (.bl b) H'
theorem kn_rgA (D : DefAt K mg "ring_good" s_ring_good ["web", "thing"]) (fr : Free mg ["all", "len", "zip"]) (ku : Kn P w K mg base 3 "unlike_places" ["web", "thing"] spUnlA) : Kn P w K mg base 4 "ring_good" ["web", "thing"] spRgA := by
  have sc : FnScope ["web", "thing"] ["web", "thing"] (defScope s_ring_good) := ⟨rfl, rfl, rfl, by decide +kernel, rfl, by decide +kernel, by decide +kernel⟩
  refine D.kn (N := ["web", "thing"]) sc (fun vs H Q E h => ?_) (fun f cdv A outer s H vs Q E hr h => ?_)
  · obtain ⟨a, t, v, m, us, ars, o, rfl, _⟩ := h
    rfl
  · obtain ⟨a, t, v, m, us, ars, o, rfl, W, ga, tg, kk⟩ := h
    have hu2 := huN (j := 2) hr (by decide)
    have m_all := fr "all" (by simp)
    have m_len := fr "len" (by simp)
    have m_zip := fr "zip" (by simp)
    have nd0 : (["arrow", "web"] : List Str).Nodup := by decide +kernel
    have nd1 : (["arrow", "web"] : List Str).Nodup := by decide +kernel
    refine ⟨_, (pss_cons (ps_if (PW.pt (pw_or (pt_not (pt_call (pe_kn ku hr (pa_cons (pv 0) (pa_cons (pv 1) pa_nil))))) (pw_or1 (pt_cmpR op_lt (pe_callB call_len_seq rfl m_len PySem.boot_len (pa_cons (pv 1) pa_nil)) pe_int (nomark _))))) (pss_one (ps_ret pe_bl)) pss_nil) (pss_one (ps_ret (pe_callB (call_all_bl rfl) rfl m_all boot_fall (pa_cons (pe_lc (N := ["arrow", "web"]) (src := [none, some 0]) rfl ⟨rfl, rfl, rfl, rfl, ⟨⟨rfl, rfl⟩, trivial⟩, rfl, rfl, rfl⟩ (gown_name (i := 0) rfl) (pi_zipN rfl m_zip (pa_cons (pv 1) (pa_cons (pe_op op_cat2 (pe_slice sl_tup2 (pv 1) (po_some pe_int) po_none) (pe_slice sl_tup2 (pv 1) po_none (po_some pe_int))) pa_nil))) (fun C s H fp => ⟨(pg_name (i := 0) nd1 rfl (Or.inl rfl)), pifs_nil, (pe_cmpR (r := rInTr K 1) (op_inTr 1 hu2) (pv 0) (pe_ix (r := rIxT K) ix_tup (pv 1) pe_int (fun _ _ => rfl)) rfl)⟩)) pa_nil))))), ?_⟩
    refine ⟨_, rfl, _, rfl, a, t, v, m, us, ars, o, rfl, W, tg, fun b H1 s1 hb => ⟨_, rfl, ?_⟩⟩
    cases b with
    | false =>
      refine iteT (kk _ _ s1 ⟨fun e => (nomatch e), fun ⟨ns, e, r⟩ => ?_⟩)
      exact hb.mpr ⟨ns, e, r.unl ga⟩
    | true =>
      obtain ⟨R, rfl, nd, bd⟩ := hb.mp rfl
      refine iteF ?_
      cases tg with | nts hc l9 => ?_
      rename_i c
      have hc1 := s1 _ _ hc
      refine ⟨_, rfl, c, _, rfl, .inr (SqT.of hc1), _, _, rfl, rfl, _, rfl, ?_⟩
      rw [List.length_map]
      refine ite2 (fun cc => ?_) (fun cc => ?_)
      · have := of_decide_eq_true cc
        exact kk _ _ s1 ⟨fun e => (nomatch e), fun z => absurd (of_some.mp z).1 (by omega)⟩
      have r2 : 2 ≤ R.length := by
        have : ¬ ((R.length : Nat) : Int) < 2 := fun z => cc (decide_eq_true z)
        omega
      -- zip(thing, thing[1:] + thing[:1])
      refine ⟨_, rfl, _, rfl, 1, rfl, c, _, rfl, hc1, fun q1 H2 s2 hq1 => ?_⟩
      have hc2 := s2 _ _ hc1
      refine ⟨_, rfl, 1, rfl, c, _, rfl, hc2, fun q2 H3 s3 hq2 => ?_⟩
      have hq13 := s3 _ _ hq1
      have e1 : cutV (R.map V.int) (some 1) none ++ cutV (R.map V.int) none (some 1) = (R.drop 1 ++ R.take 1).map V.int := by
        rw [show (1 : Int) = ((1 : Nat) : Int) from rfl, cut_from (by rw [List.length_map]; omega), show ((1 : Nat) : Int) = 1 from rfl, cut_head, List.map_append, List.map_drop, List.map_take]
      refine ⟨q1, q2, _, _, rfl, rfl, hq13, hq2, ?_, fun q3 H4 s4 hq3 => ?_⟩
      · rw [← List.length_append, e1, List.length_map, List.length_append, List.length_drop, List.length_take]
        exact Nat.le_of_lt (small1000 (by omega))
      rw [e1] at hq3
      have s14 := s2.trans (s3.trans s4)
      have hc4 := s14 _ _ hc1
      have s04 := s1.trans s14
      have lS : ((R.drop 1 ++ R.take 1).map V.int).length = R.length := by
        rw [List.length_map, List.length_append, List.length_drop, List.length_take]
        omega
      have W4 := W.mono s04
      refine ⟨c, q3, _, _, rfl, hc4, hq3, lc_zip0 (xs := R.map V.int) (ys := (R.drop 1 ++ R.take 1).map V.int) (.inr (.inr (by rw [lS, List.length_map]))) (fun j zs H5 => Same H4 H5 ∧ ∃ bs : List Bool, zs = bs.map V.bl ∧ bs.length = j ∧ (bs.all id = true ↔ ∀ i < j, ∀ x y, R[i]? = some x → R[(i + 1) % R.length]? = some y → (x, y) ∈ ars)) ⟨Same.refl _, [], rfl, rfl, ⟨fun _ i hi => absurd hi (Nat.not_lt_zero _), fun _ => rfl⟩⟩ ?_ ?_ ?_⟩
      · rintro j zs H5 hj ⟨s5, bs, rfl, lb, _⟩
        rw [lS] at hj
        rw [List.length_map, lb]
        exact ⟨s5 _ _ hc4, s5 _ _ hq3, Nat.le_of_lt (small1000 (by omega))⟩
      · rintro zs H5 ⟨s5, bs, rfl, lb, ib⟩ l hl
        refine ⟨l, _, rfl, SqL.of upd_same, ?_⟩
        refine kk _ _ (s04.trans (s5.trans (Same.upd hl))) ?_
        rw [of_some, ib, lS]
        exact ⟨fun z => ⟨r2, nd, z⟩, fun z => z.2.2⟩
      · rintro j v w' zs H5 q h1 h2 hi ⟨s5, bs, rfl, lb, ib⟩ hq
        rw [List.getElem?_map] at h1 h2
        obtain ⟨x, ex, rfl⟩ := Option.map_eq_some_iff.mp h1
        obtain ⟨y, ey, rfl⟩ := Option.map_eq_some_iff.mp h2
        have hjl : j < R.length := (List.getElem?_eq_some_iff.mp ex).1
        have ey2 := next_at hjl ey
        have s6 := s5.trans (Same.upd (o := .tup [.int x, .int y]) hq)
        have hq6 : (upd H5 q (.tup [.int x, .int y])) q = some (.tup [.int x, .int y]) := upd_same
        have W6 := W4.mono s6
        generalize upd H5 q (.tup [.int x, .int y]) = H6 at s6 hq6 W6
        refine ⟨_, rfl, _, rfl, a, _, _, _, rfl, rfl, SqT.of W6.top, rfl, t, _, _, _, rfl, .inr (SqT.of W6.arr), Is.tup (SqT.of hq6) (.cons (Is.int _) (.cons (Is.int _) .nil)), is_ars (d := 0) W6.ars, fun b hb2 => nx hi ⟨s6, bs ++ [b], by rw [List.map_append]; rfl, by rw [List.length_append, lb]; rfl, ?_⟩⟩
        rw [List.all_append, Bool.and_eq_true, ib]
        have eb : b = true ↔ (x, y) ∈ ars := hb2.trans mem_tPrs
        constructor
        · rintro ⟨z, z2⟩ i hi' x' y' e1 e2
          rcases Nat.lt_succ_iff_lt_or_eq.mp hi' with g | rfl
          · exact z i g x' y' e1 e2
          · rw [ex] at e1
            rw [ey2] at e2
            cases e1
            cases e2
            exact eb.mp (by simpa using z2)
        · intro z
          exact ⟨fun i hi' => z i (Nat.lt_succ_of_lt hi'), by
            have := eb.mpr (z j (Nat.lt_succ_self _) x y ex ey2)
            rw [this]
            rfl⟩
def spOgA : Sp := fun vs H Q _ => ∃ (a t : Addr) (v : V) (m : Int) (us : List V) (ars : List (Int × Int)) (o : Option (List Int)), vs = [.ref a, v] ∧ Web H a t m us ars ∧ GoodA m ars ∧ Tg H v o ∧ ∀ b H', Same H H' → (b = true ↔ Of (OgP m ars) o) → Q (.bl b) H'
theorem kn_ogA (D : DefAt K mg "order_good" s_order_good ["web", "thing"]) (fr : Free mg ["all", "enumerate", "len"]) (ku : Kn P w K mg base 3 "unlike_places" ["web", "thing"] spUnlA) : Kn P w K mg base 4 "order_good" ["web", "thing"] spOgA := by
  have sc : FnScope ["web", "thing", "stands", "number", "place"] ["web", "thing"] (defScope s_order_good) := ⟨rfl, rfl, rfl, by decide +kernel, rfl, by decide +kernel, by decide +kernel⟩
  refine D.kn (N := ["web", "thing", "stands", "number", "place"]) sc (fun vs H Q E h => ?_) (fun f cdv A outer s H vs Q E hr h => ?_)
  · obtain ⟨a, t, v, m, us, ars, o, rfl, _⟩ := h
    rfl
  · obtain ⟨a, t, v, m, us, ars, o, rfl, W, ga, tg, kk⟩ := h
    have hu := hu_of hr
    have m_all := fr "all" (by simp)
    have m_enumerate := fr "enumerate" (by simp)
    have m_len := fr "len" (by simp)
    have nd0 : (["a", "b", "stands"] : List Str).Nodup := by decide +kernel
    have nd1 : (["a", "b", "stands"] : List Str).Nodup := by decide +kernel
    refine ⟨_, (pss_cons (ps_if (PW.pt (pw_or (pt_not (pt_call (pe_kn ku hr (pa_cons (pv 0) (pa_cons (pv 1) pa_nil))))) (pw_or1 (pt_cmpR op_ne (pe_callB call_len_seq rfl m_len PySem.boot_len (pa_cons (pv 1) pa_nil)) (pe_ix ix_tup (pv 0) pe_int (fun _ _ => rfl)) (nomark _))))) (pss_one (ps_ret pe_bl)) pss_nil) (pss_cons (ps_set (i := 2) sc.nd rfl (Or.inr rfl) pe_dnewK) (pss_cons (ps_for PassesOwn.never rfl (pi_enumT rfl m_enumerate (pa_cons (pv 1) pa_nil)) (pg_tup (n := 2) rfl (pgs_cons (pg_name (i := 3) sc.nd rfl (Or.inl rfl)) (pgs_cons (pg_name (i := 4) sc.nd rfl (Or.inl rfl)) pgs_nil))) (pss_one (ps_dput hu (pv 2) (pv 4) (pv 3) rfl))) (pss_one (ps_ret (pe_callB (call_all_bl rfl) rfl m_all boot_fall (pa_cons (pe_lc (N := ["a", "b", "stands"]) (src := [none, none, some 2]) rfl ⟨rfl, rfl, rfl, rfl, ⟨⟨rfl, rfl⟩, trivial⟩, rfl, rfl, rfl⟩ (gown_pair (i := 0) (j := 1) rfl rfl) (pi_tup (pe_ix ix_tup (pv 0) pe_int (fun _ _ => rfl))) (fun C s H fp => ⟨(pg_tup (n := 2) rfl (pgs_cons (pg_name (i := 0) nd1 rfl (Or.inl rfl)) (pgs_cons (pg_name (i := 1) nd1 rfl (Or.inl rfl)) pgs_nil))), pifs_nil, (pe_cmpR op_gt (pe_dget hu (pv 2) (pv 0) (fun _ _ => rfl)) (pe_dget hu (pv 2) (pv 1) (fun _ _ => rfl)) (nomark _))⟩)) pa_nil))))))), ?_⟩
    refine ⟨_, rfl, _, rfl, a, t, v, m, us, ars, o, rfl, W, tg, fun b H1 s1 hb => ⟨_, rfl, ?_⟩⟩
    cases b with
    | false =>
      refine iteT (kk _ _ s1 ⟨fun e => (nomatch e), fun ⟨ns, e, r⟩ => ?_⟩)
      exact hb.mpr ⟨ns, e, r.1⟩
    | true =>
      obtain ⟨ns, rfl, nd, bd⟩ := hb.mp rfl
      refine iteF ?_
      cases tg with | nts hc l9 => ?_
      rename_i c
      have hc1 : HT2 H1 c (ns.map V.int) := HT2.of (s1 _ _ hc)
      have W1 := W.mono s1
      refine ⟨_, rfl, c, _, rfl, .inr (SqT.of (s1 _ _ hc)), _, rfl, a, _, _, _, rfl, rfl, SqT.of W1.top, rfl, rfl, _, rfl, ?_⟩
      rw [List.length_map]
      refine ite2 (fun cc => ?_) (fun cc => ?_)
      · refine kk _ _ s1 ⟨fun e => (nomatch e), fun z => ?_⟩
        have := (of_some.mp z).2.1
        rw [this, decide_eq_true rfl] at cc
        cases cc
      have ln : (ns.length : Int) = m := by
        by_cases e : ((ns.length : Nat) : Int) = m
        · exact e
        · refine absurd ?_ cc
          rw [decide_eq_false (fun z => e (V.int.inj z))]
          rfl
      refine fun d hd => ?_
      refine gname_in ?_
      dsimp only [List.set]
      have hdN := none_same' s1 hd
      have s2 := s1.trans (Same.upd (o := .dK []) hd)
      have hd2 : (upd H1 d (.dK [])) d = some (.dK []) := upd_same
      have hc2 := hc1.mono (Same.upd (o := .dK []) hd)
      generalize upd H1 d (.dK []) = H2 at s2 hd2 hc2
      have ncd : c ≠ d := fun z => by
        rcases hc2 with e | ⟨o, e⟩ <;> rw [z, hd2] at e <;> cases e
      have keepC : ∀ {H3 : Hp}, SameBut d H2 H3 → HT2 H3 c (ns.map V.int) := fun {H3} s3 => hc2.elim (fun e => .inl (s3 _ _ ncd e)) fun ⟨o, e⟩ => .inr ⟨o, s3 _ _ ncd e⟩
      refine ⟨_, rfl, c, _, rfl, hc2, for_enumTT (xs := ns.map V.int) (fun i σ H3 => ∃ (kvs : List (Key × V)) (v3 v4 : Option V), σ = [some (.ref a), some (.ref c), some (.ref d), v3, v4] ∧ SameBut d H2 H3 ∧ H3 d = some (.dK kvs) ∧ kvs.length ≤ i ∧ ∀ (j : Nat) (p : Int), j < i → ns[j]? = some p → valV kvs (Sum.inl p) = some (.int (j : Int))) ⟨[], _, _, rfl, SameBut.refl _ _, hd2, Nat.le_refl _, fun j p hj => absurd hj (Nat.not_lt_zero _)⟩ (fun i σ H3 _ ⟨_, _, _, _, s3, _⟩ => keepC s3) ?_ ?_⟩
      · rintro i v σ H3 pr hi ⟨kvs, v3, v4, rfl, s3, hd3, lk, inv⟩ hpr
        rw [List.getElem?_map] at hi
        obtain ⟨p, hip, rfl⟩ := Option.map_eq_some_iff.mp hi
        have hi8 : i < ns.length := (List.getElem?_eq_some_iff.mp hip).1
        have s4 := Same.upd (o := .tup [.int (i : Int), .int p]) hpr
        have hd4 := s4 _ _ hd3
        refine ⟨pr, _, rfl, SqT.of upd_same, rfl, _, _, rfl, _, _, rfl, rfl, ?_⟩
        have s34 : SameBut d H2 (upd H3 pr (.tup [.int (i : Int), .int p])) := s3.trans s4.but
        generalize upd H3 pr (.tup [.int (i : Int), .int p]) = H4 at hd4 s34
        have lp := length_putK kvs (Sum.inl p) (V.int (i : Int))
        refine ⟨_, rfl, _, rfl, _, rfl, d, _, rfl, DPut.k (k := Sum.inl p) hd4 (small1000 (by omega)), putK kvs (Sum.inl p) (.int (i : Int)), _, _, rfl, fun b o nb e => ?_, upd_same, by omega, fun j q hj hq => ?_⟩
        · rw [upd_ne nb]
          exact s34 _ _ nb e
        · rw [valV_put]
          by_cases e : j = i
          · subst e
            rw [hip] at hq
            cases hq
            rw [if_pos rfl]
          · have ne : q ≠ p := fun z => by
              subst z
              obtain ⟨h1, e1⟩ := List.getElem?_eq_some_iff.mp hq
              obtain ⟨h2, e2⟩ := List.getElem?_eq_some_iff.mp hip
              have a1 := List.Nodup.idxOf_getElem nd j h1
              have a2 := List.Nodup.idxOf_getElem nd i h2
              rw [e1] at a1
              rw [e2] at a2
              omega
            rw [if_neg (fun z => ne (Sum.inl.inj z))]
            exact inv j q (by omega) hq
      · rintro σ H3 ⟨kvs, v3, v4, rfl, s3, hd3, lk, inv⟩
        rw [List.length_map] at inv
        have s03 : Same H H3 := fun b o e => s3 _ _ (ne_of_none e hdN) (s2 _ _ e)
        have W3 := W.mono s03
        have at_ : ∀ p ∈ ns, valV kvs (Sum.inl p) = some (.int (ns.idxOf p : Nat)) := fun p hp => by
          have hl := List.idxOf_lt_length_iff.mpr hp
          exact inv (ns.idxOf p) p hl (List.getElem?_eq_some_iff.mpr ⟨hl, List.getElem_idxOf hl⟩)
        have lu := arsLen W3.ars
        have wl := W3.len
        refine ⟨_, rfl, a, _, _, _, rfl, rfl, SqT.of W3.top, rfl, t, rfl, ⟨_, SqT.of W3.arr⟩, lc_tup0 (xs := us) (fun j zs H5 => Same H3 H5 ∧ zs = ((ars.take j).map fun q => decide (ns.idxOf q.2 < ns.idxOf q.1)).map V.bl) ⟨Same.refl _, rfl⟩ ?_ ?_ ?_⟩
        · rintro j zs H5 hj ⟨s5, rfl⟩
          rw [List.length_map, List.length_map, List.length_take]
          exact ⟨SqT.of (s5 _ _ W3.arr), Nat.le_of_lt (smallN (by omega))⟩
        · rintro zs H5 ⟨s5, rfl⟩ l hl
          refine ⟨l, _, rfl, SqL.of upd_same, ?_⟩
          refine kk _ _ (s03.trans (s5.trans (Same.upd hl))) ?_
          rw [of_some, List.take_of_length_le (by omega), List.all_map, List.all_eq_true]
          constructor
          · intro z
            exact ⟨⟨nd, bd⟩, ln, fun q hq => of_decide_eq_true (z q hq)⟩
          · rintro ⟨_, _, z⟩ q hq
            exact decide_eq_true (z q hq)
        · rintro j x zs H5 hx hj ⟨s5, rfl⟩
          obtain ⟨q, eq, r, rfl, hr'⟩ := Paired.get' W3.ars hx
          have gz := ga q (List.mem_of_getElem? eq)
          have h1 : q.1 ∈ ns := unl_mem ⟨nd, bd⟩ ln gz.1 gz.2.1
          have h2 : q.2 ∈ ns := unl_mem ⟨nd, bd⟩ ln gz.2.2.1 gz.2.2.2.1
          have hd5 := s5 _ _ hd3
          have g1 := DGet.k (k := Sum.inl q.1) hd5
          have g2 := DGet.k (k := Sum.inl q.2) hd5
          rw [at_ _ h1] at g1
          rw [at_ _ h2] at g2
          refine ⟨r, _, rfl, SqT.of (s5 _ _ hr'), rfl, _, _, rfl, _, _, rfl, rfl, _, rfl, _, rfl, d, _, rfl, g1, _, rfl, _, rfl, d, _, rfl, g2, _, _, rfl, rfl, nx hj ⟨s5, ?_⟩⟩
          have e : decide (((ns.idxOf q.2 : Nat) : Int) < ((ns.idxOf q.1 : Nat) : Int)) = decide (ns.idxOf q.2 < ns.idxOf q.1) := decide_eq_decide.mpr Int.ofNat_lt
          show _ ++ [V.bl (decide (((ns.idxOf q.2 : Nat) : Int) < ((ns.idxOf q.1 : Nat) : Int)))] = _
          rw [e, take_snoc _ _ _ eq, List.map_append, List.map_append]
          rfl
end
end Hk

namespace Hk
open PySem L2 PySem.W
theorem whI_all : ∀ {ys : List V}, ys.all isI = true ↔ ∃ ns : List Int, ys = ns.map V.int := fun {ys} => ⟨ints_all, fun ⟨ns, e⟩ => by
  subst e
  rw [List.all_map, List.all_eq_true]
  exact fun _ _ => rfl⟩
section
variable {P : Program} {w : World} {K : Frag} {mg : Str → Option Value} {base : Heap}
theorem kn_lrA (D : DefAt K mg "_law_ring_good" s_law_ring_good ["web", "thing"]) (fr : Free mg ["all", "isinstance", "len", "range", "set", "tuple"]) (kw : Kn P w K mg base 1 "_law_whole" ["found"] spWhole) : Kn P w K mg base 2 "_law_ring_good" ["web", "thing"] spRgA := by
  have sc : FnScope ["web", "thing", "k"] ["web", "thing"] (defScope s_law_ring_good) := ⟨rfl, rfl, rfl, by decide +kernel, rfl, by decide +kernel, by decide +kernel⟩
  refine D.kn (N := ["web", "thing", "k"]) sc (fun vs H Q E h => ?_) (fun f cdv A outer s H vs Q E hr h => ?_)
  · obtain ⟨a, t, v, m, us, ars, o, rfl, _⟩ := h
    rfl
  · obtain ⟨a, t, v, m, us, ars, o, rfl, W, ga, tg, kk⟩ := h
    have hu := hu_of hr
    have hu2 := huN (j := 2) hr (by decide)
    have r1 := hr.mono (j := 1) (by decide)
    have m_all := fr "all" (by simp)
    have m_isinstance := fr "isinstance" (by simp)
    have m_len := fr "len" (by simp)
    have m_range := fr "range" (by simp)
    have m_set := fr "set" (by simp)
    have m_tuple := fr "tuple" (by simp)
    have nd0 : (["place"] : List Str).Nodup := by decide +kernel
    have nd1 : (["place"] : List Str).Nodup := by decide +kernel
    refine ⟨_, (pss_cons (ps_if (PW.pt (pw_or (pt_not (pt_call (pe_callB call_isi rfl m_isinstance boot_isi (pa_cons (pv 1) (pa_cons (pe_bltn (v := .ty "tuple") rfl m_tuple boot_ttuple rfl) pa_nil))))) (pw_or (pt_cmpR op_lt (pe_callB call_len_seq rfl m_len PySem.boot_len (pa_cons (pv 1) pa_nil)) pe_int (nomark _)) (pw_or1 (pt_not (pt_call (pe_callB (call_all_bl rfl) rfl m_all boot_fall (pa_cons (pe_lc (N := ["place"]) (src := [none]) (cl := []) rfl ⟨rfl, rfl, rfl, rfl, trivial, rfl, rfl, rfl⟩ (gown_name (i := 0) rfl) (pi_tup (pv 1)) (fun C s H fp => ⟨(pg_name (i := 0) nd1 rfl (Or.inl rfl)), pifs_nil, (pe_kn kw r1 (pa_cons (pv 0) pa_nil))⟩)) pa_nil)))))))) (pss_one (ps_ret pe_bl)) pss_nil) (pss_cons (ps_if (pt_cmpR op_ne (pe_callB call_lenS rfl m_len PySem.boot_len (pa_cons (pe_callTy (call_set_tup rfl) rfl m_set boot_tset (pa_cons (pv 1) pa_nil)) pa_nil)) (pe_callB call_len_seq rfl m_len PySem.boot_len (pa_cons (pv 1) pa_nil)) (nomark _)) (pss_one (ps_ret pe_bl)) pss_nil) (pss_cons (ps_for PassesOwn.never rfl (pi_range1 rfl m_range (pa_cons (pe_callB call_len_seq rfl m_len PySem.boot_len (pa_cons (pv 1) pa_nil)) pa_nil)) (pg_name (i := 2) sc.nd rfl (Or.inl rfl)) (pss_one (ps_if (pt_cmpR (op_niTr 1 hu2) (pe_tup (pa_cons (pe_ix ix_tup (pv 1) (pv 2) (fun _ _ => rfl)) (pa_cons (pe_ix ix_tup (pv 1) (pe_op op_mod (pe_op op_add (pv 2) pe_int) (pe_callB call_len_seq rfl m_len PySem.boot_len (pa_cons (pv 1) pa_nil))) (fun _ _ => rfl)) pa_nil))) (pe_ix ix_tup (pv 0) pe_int (fun _ _ => rfl)) rfl) (pss_one (ps_ret pe_bl)) pss_nil))) (pss_one (ps_ret pe_bl))))), ?_⟩
    rcases tg.cases' with ⟨c, ys, rfl, hc, ty, l9, o'⟩ | ⟨T, d, nT, rfl⟩
    · have hq : SqT K H c ys := SqT.of hc
      refine ⟨_, rfl, .ref c, "tuple", _, rfl, .tup hc, by simp, _, rfl, iteF ?_⟩
      refine ⟨_, rfl, c, _, rfl, .inr hq, _, _, rfl, rfl, _, rfl, ite2 (fun cc => ?_) (fun cc => ?_)⟩
      · have := of_decide_eq_true cc
        refine kk _ _ (Same.refl _) ⟨fun e => (nomatch e), fun ⟨ns, e, u⟩ => ?_⟩
        rcases o' with ⟨ns', rfl, e'⟩ | ⟨_, e'⟩
        · rw [e] at e'
          cases e'
          have := u.1
          rw [List.length_map] at *
          omega
        · rw [e] at e'
          cases e'
      have r2 : 2 ≤ ys.length := by
        have : ¬ ((ys.length : Nat) : Int) < 2 := fun z => cc (decide_eq_true z)
        omega
      refine ⟨_, rfl, c, rfl, ⟨_, hq⟩, lc_tup0 (xs := ys) (fun j zs H5 => Same H H5 ∧ zs = ((ys.take j).map isI).map V.bl) ⟨Same.refl _, rfl⟩ ?_ ?_ ?_⟩
      · rintro j zs H5 hj ⟨s5, rfl⟩
        rw [List.length_map, List.length_map, List.length_take]
        exact ⟨same_sqT s5 hq, Nat.le_of_lt (small1000 (by omega))⟩
      · rintro zs H5 ⟨s5, rfl⟩ l hl
        have s6 := s5.trans (Same.upd (o := .lst (((ys.take ys.length).map isI).map V.bl)) hl)
        refine ⟨l, _, rfl, SqL.of upd_same, _, rfl, ?_⟩
        rw [all_take]
        generalize upd H5 l (.lst (((ys.take ys.length).map isI).map V.bl)) = H6 at s6
        rcases o'.symm with ⟨na, rfl⟩ | ⟨ns, rfl, rfl⟩
        · rw [na]
          exact iteT (kk _ _ s6 ⟨fun e => (nomatch e), fun z => absurd z of_none⟩)
        rw [whI_all.mpr ⟨ns, rfl⟩]
        refine iteF ?_
        have lR : (ns.map V.int).length = ns.length := List.length_map _
        rw [lR] at l9 r2
        refine ⟨_, rfl, c, ns, rfl, same_sqT s6 hq, by omega, fun p n hp hn hle => ⟨p, _, n, rfl, upd_same, ?_⟩⟩
        have s3 := s6.trans (Same.upd (o := .set (fun k => decide (k ∈ ns)) n) hp)
        refine ⟨_, rfl, c, _, rfl, .inr (same_sqT s3 hq), rfl, _, rfl, ?_⟩
        generalize upd H6 p (.set (fun k => decide (k ∈ ns)) n) = H3 at s3
        rw [lR]
        refine ite2 (fun cc => ?_) (fun cc => ?_)
        · refine kk _ _ s3 ⟨fun e => (nomatch e), fun z => ?_⟩
          have nd := (of_some.mp z).2.1
          rw [hn.mpr nd, decide_eq_true rfl] at cc
          cases cc
        have nd : ns.Nodup := by
          refine hn.mp ?_
          by_cases e : n = ns.length
          · exact e
          · refine absurd ?_ cc
            rw [decide_eq_false (fun z => e (by have := V.int.inj z; omega))]
            rfl
        refine ⟨_, rfl, c, _, rfl, .inr (same_sqT s3 hq), _, rfl, by omega, by omega, for_range (fun i σ H4 => ∃ v2, σ = [some (.ref a), some (.ref c), v2] ∧ Same H H4 ∧ ∀ k < i, ∀ x y, ns[k]? = some x → ns[(k + 1) % ns.length]? = some y → (x, y) ∈ ars) ⟨_, rfl, s3, fun k hk => absurd hk (Nat.not_lt_zero _)⟩ ?_ ?_⟩
        · rintro i σ H4 hi ⟨v2, rfl, s4, inv⟩
          have hi' : i < ns.length := by omega
          have hj' : (i + 1) % ns.length < ns.length := Nat.mod_lt _ (by omega)
          have q4 := same_sqT (K := K) s4 hq
          refine ⟨_, rfl, _, rfl, c, _, _, .int ns[i], rfl, rfl, q4, ?_, ?_⟩
          · rw [Int.zero_add]
            refine atI_nat ?_
            rw [List.getElem?_map, List.getElem?_eq_getElem hi']
            rfl
          refine ⟨_, rfl, _, rfl, _, _, rfl, rfl, _, rfl, c, _, rfl, .inr q4, _, _, rfl, rfl, (by show (0 : Int) < _; omega), c, _, _, .int ns[(i + 1) % ns.length], rfl, rfl, q4, ?_, (by show 2 ≤ sizeLine; decide), fun b hb => ?_⟩
          · rw [Int.zero_add, lR, show ((i : Int) + 1) % ((ns.length : Nat) : Int) = (((i + 1) % ns.length : Nat) : Int) by push_cast; rfl]
            refine atI_nat ?_
            rw [List.getElem?_map, List.getElem?_eq_getElem hj']
            rfl
          have s5 := s4.trans (Same.upd (o := .tup [.int ns[i], .int ns[(i + 1) % ns.length]]) hb)
          have W5 := W.mono s5
          refine ⟨_, rfl, a, _, _, _, rfl, rfl, SqT.of W5.top, rfl, t, us, tPr (ns[i], ns[(i + 1) % ns.length]), tPrs ars, rfl, .inr (SqT.of W5.arr), Is.tup (SqT.of upd_same) (.cons (Is.int _) (.cons (Is.int _) .nil)), is_ars W5.ars, fun bb hbb => ⟨_, rfl, ?_⟩⟩
          cases bb with
          | true =>
            refine iteT (kk _ _ s5 ⟨fun e => (nomatch e), fun z => ?_⟩)
            have := (of_some.mp z).2.2 i hi' _ _ (List.getElem?_eq_getElem hi') (List.getElem?_eq_getElem hj')
            exact absurd (List.mem_map.mpr ⟨_, this, rfl⟩) (hbb.mp rfl)
          | false =>
            refine iteF ⟨_, rfl, s5, fun k hk x y ex ey => ?_⟩
            rcases Nat.lt_succ_iff_lt_or_eq.mp hk with g | rfl
            · exact inv k g x y ex ey
            · rw [List.getElem?_eq_getElem hi'] at ex
              rw [List.getElem?_eq_getElem hj'] at ey
              cases ex
              cases ey
              have : ¬ tPr (ns[k], ns[(k + 1) % ns.length]) ∉ tPrs ars := fun z => by
                have := hbb.mpr z
                cases this
              exact mem_tPrs.mp (Classical.not_not.mp this)
        · rintro σ H4 ⟨v2, rfl, s4, inv⟩
          exact kk _ H4 s4 ⟨fun _ => of_some.mpr ⟨r2, nd, fun i hi => inv i (by omega)⟩, fun _ => rfl⟩
      · rintro j x zs H5 hx hj ⟨s5, rfl⟩
        obtain ⟨T, dx⟩ := ty x (List.mem_of_getElem? hx)
        refine ⟨_, rfl, x, T, rfl, dx.mono s5, nx hj ⟨s5, ?_⟩⟩
        rw [take_snoc _ _ _ hx, List.map_append, List.map_append]
        rfl
    · refine ⟨_, rfl, v, _, T, rfl, d, by simp, _, rfl, ?_⟩
      have kb : kitB T "tuple" = false := by cases d <;> first | exact absurd rfl nT | decide
      rw [kb]
      exact iteT (kk _ _ (Same.refl _) ⟨fun e => (nomatch e), fun z => absurd z of_none⟩)
theorem kn_loA (D : DefAt K mg "_law_order_good" s_law_order_good ["web", "thing"]) (fr : Free mg ["all", "isinstance", "list", "range", "sorted", "tuple"]) (kw : Kn P w K mg base 1 "_law_whole" ["found"] spWhole) : Kn P w K mg base 2 "_law_order_good" ["web", "thing"] spOgA := by
  have sc : FnScope ["web", "thing", "a", "b"] ["web", "thing"] (defScope s_law_order_good) := ⟨rfl, rfl, rfl, by decide +kernel, rfl, by decide +kernel, by decide +kernel⟩
  refine D.kn (N := ["web", "thing", "a", "b"]) sc (fun vs H Q E h => ?_) (fun f cdv A outer s H vs Q E hr h => ?_)
  · obtain ⟨a, t, v, m, us, ars, o, rfl, _⟩ := h
    rfl
  · obtain ⟨a, t, v, m, us, ars, o, rfl, W, ga, tg, kk⟩ := h
    have hu := hu_of hr
    have r1 := hr.mono (j := 1) (by decide)
    have mb := W.mb
    have m_all := fr "all" (by simp)
    have m_isinstance := fr "isinstance" (by simp)
    have m_list := fr "list" (by simp)
    have m_range := fr "range" (by simp)
    have m_sorted := fr "sorted" (by simp)
    have m_tuple := fr "tuple" (by simp)
    have nd0 : (["place"] : List Str).Nodup := by decide +kernel
    have nd1 : (["place"] : List Str).Nodup := by decide +kernel
    refine ⟨_, (pss_cons (ps_if (PW.pt (pw_or (pt_not (pt_call (pe_callB call_isi rfl m_isinstance boot_isi (pa_cons (pv 1) (pa_cons (pe_bltn (v := .ty "tuple") rfl m_tuple boot_ttuple rfl) pa_nil))))) (pw_or1 (pt_not (pt_call (pe_callB (call_all_bl rfl) rfl m_all boot_fall (pa_cons (pe_lc (N := ["place"]) (src := [none]) (cl := []) rfl ⟨rfl, rfl, rfl, rfl, trivial, rfl, rfl, rfl⟩ (gown_name (i := 0) rfl) (pi_tup (pv 1)) (fun C s H fp => ⟨(pg_name (i := 0) nd1 rfl (Or.inl rfl)), pifs_nil, (pe_kn kw r1 (pa_cons (pv 0) pa_nil))⟩)) pa_nil))))))) (pss_one (ps_ret pe_bl)) pss_nil) (pss_cons (ps_if (pt_cmpR (op_neL (Nat.lt_of_succ_lt hu)) (pe_callB call_sorted_sqT rfl m_sorted boot_fsorted (pa_cons (pv 1) pa_nil)) (pe_callTy (call_list_rng rfl) rfl m_list boot_tlist (pa_cons (pe_callTy call_rng1 rfl m_range boot_trng (pa_cons (pe_ix ix_tup (pv 0) pe_int (fun _ _ => rfl)) pa_nil)) pa_nil)) (nomark _)) (pss_one (ps_ret pe_bl)) pss_nil) (pss_cons (ps_for PassesOwn.never rfl (pi_tup (pe_ix ix_tup (pv 0) pe_int (fun _ _ => rfl))) (pg_tup (n := 2) rfl (pgs_cons (pg_name (i := 2) sc.nd rfl (Or.inl rfl)) (pgs_cons (pg_name (i := 3) sc.nd rfl (Or.inl rfl)) pgs_nil))) (pss_one (ps_if (pt_cmpR op_lt (pe_tm2 PySem.F.plainAttrs_tuple PySem.F.slot_tuple_index PySem.F.type_tuple_index mt_indexT (pv 1) (pa_cons (pv 2) pa_nil)) (pe_tm2 PySem.F.plainAttrs_tuple PySem.F.slot_tuple_index PySem.F.type_tuple_index mt_indexT (pv 1) (pa_cons (pv 3) pa_nil)) (nomark _)) (pss_one (ps_ret pe_bl)) pss_nil))) (pss_one (ps_ret pe_bl))))), ?_⟩
    rcases tg.cases' with ⟨c, ys, rfl, hc, ty, l9, o'⟩ | ⟨T, d, nT, rfl⟩
    · have hq : SqT K H c ys := SqT.of hc
      refine ⟨_, rfl, .ref c, "tuple", _, rfl, .tup hc, by simp, _, rfl, iteF ?_⟩
      refine ⟨_, rfl, c, rfl, ⟨_, hq⟩, lc_tup0 (xs := ys) (fun j zs H5 => Same H H5 ∧ zs = ((ys.take j).map isI).map V.bl) ⟨Same.refl _, rfl⟩ ?_ ?_ ?_⟩
      · rintro j zs H5 hj ⟨s5, rfl⟩
        rw [List.length_map, List.length_map, List.length_take]
        exact ⟨same_sqT s5 hq, Nat.le_of_lt (small1000 (by omega))⟩
      · rintro zs H5 ⟨s5, rfl⟩ l hl
        have s6 := s5.trans (Same.upd (o := .lst (((ys.take ys.length).map isI).map V.bl)) hl)
        refine ⟨l, _, rfl, SqL.of upd_same, _, rfl, ?_⟩
        rw [all_take]
        generalize upd H5 l (.lst (((ys.take ys.length).map isI).map V.bl)) = H6 at s6
        rcases o'.symm with ⟨na, rfl⟩ | ⟨O, rfl, rfl⟩
        · rw [na]
          exact iteT (kk _ _ s6 ⟨fun e => (nomatch e), fun z => absurd z of_none⟩)
        rw [whI_all.mpr ⟨O, rfl⟩]
        refine iteF ?_
        have lR : (O.map V.int).length = O.length := List.length_map _
        rw [lR] at l9
        refine ⟨_, rfl, c, O, rfl, same_sqT s6 hq, by omega, fun D' ns' H3 s3 hD pm pw => ?_⟩
        have s23 := s6.trans s3
        have ens := sort_unl (m := m) mb.1 pm pw
        refine ⟨_, rfl, a, _, _, _, rfl, rfl, SqT.of (s23 _ _ W.top), rfl, m, rfl, fun p hp => ?_⟩
        refine ⟨p, m, rfl, upd_same, by omega, by omega, fun l hl => ?_⟩
        have s4 := (Same.upd (o := .rng 0 m) hp).trans (Same.upd (o := .lst ((plI m.toNat).map V.int)) hl)
        refine ⟨D', l, _, _, rfl, rfl, SqL.of (s4 _ _ hD), SqL.of upd_same, all_flat_ints _, all_flat_ints _, _, rfl, ?_⟩
        have s24 : Same H (upd (upd H3 p (.rng 0 m)) l (.lst ((plI m.toNat).map V.int))) := s23.trans s4
        show if (!eqVs (ns'.map V.int) ((plI m.toNat).map V.int)) = true then _ else _
        rw [eqVs_int]
        refine ite2 (fun cc => ?_) (fun cc => ?_)
        · refine kk _ _ s24 ⟨fun e => (nomatch e), fun z => ?_⟩
          have u := of_some.mp z
          rw [decide_eq_true (ens.mpr ⟨u.1, u.2.1⟩)] at cc
          cases cc
        obtain ⟨u, ln⟩ : Unl m O ∧ (O.length : Int) = m := by
          refine ens.mp ?_
          by_cases e : ns' = plI m.toNat
          · exact e
          · refine absurd ?_ cc
            rw [decide_eq_false e]
            rfl
        show tSeq _ _ _ _ (upd (upd H3 p (.rng 0 m)) l (.lst ((plI m.toNat).map V.int)))
        generalize upd (upd H3 p (.rng 0 m)) l (.lst ((plI m.toNat).map V.int)) = H4 at s24
        refine ⟨_, rfl, a, _, _, _, rfl, rfl, SqT.of (s24 _ _ W.top), rfl, t, rfl, ⟨_, SqT.of (s24 _ _ W.arr)⟩, for_tup (K := K) (xs := us) (fun i σ H5 => ∃ v2 v3, σ = [some (.ref a), some (.ref c), v2, v3] ∧ Same H H5 ∧ ∀ q ∈ ars.take i, O.idxOf q.2 < O.idxOf q.1) ⟨_, _, rfl, s24, fun q hq => by simp at hq⟩ (fun i σ H5 _ ⟨_, _, _, s5, _⟩ => SqT.of (s5 _ _ W.arr)) ?_ ?_⟩
        · rintro i x σ H5 hx ⟨v2, v3, rfl, s5, inv⟩
          obtain ⟨z, e1, r, rfl, hr'⟩ := Paired.get' W.ars hx
          have gz := ga z (List.mem_of_getElem? e1)
          have ha : z.1 ∈ O := unl_mem u ln gz.1 gz.2.1
          have hb : z.2 ∈ O := unl_mem u ln gz.2.2.1 gz.2.2.2.1
          have nz : O.idxOf z.1 ≠ O.idxOf z.2 := fun e => by
            have i1 := List.getElem_idxOf (List.idxOf_lt_length_iff.mpr ha)
            have i2 := List.getElem_idxOf (List.idxOf_lt_length_iff.mpr hb)
            have : z.1 = z.2 := by
              rw [← i1, ← i2]
              congr 1
            exact gz.2.2.2.2 this
          have f5 := s5 _ _ hc
          refine ⟨r, _, rfl, SqT.of (s5 _ _ hr'), rfl, _, _, rfl, _, _, rfl, rfl, ?_⟩
          refine ⟨_, rfl, ⟨c, _, rfl, f5⟩, _, rfl, c, O, z.1, rfl, rfl, SqT.of f5, ha, _, rfl, ⟨c, _, rfl, f5⟩, _, rfl, c, O, z.2, rfl, rfl, SqT.of f5, hb, _, _, rfl, rfl, _, rfl, ite2 (fun cc => ?_) (fun cc => ⟨_, _, rfl, s5, ?_⟩)⟩
          · have := of_decide_eq_true cc
            refine kk _ _ s5 ⟨fun e => (nomatch e), fun z' => ?_⟩
            have := (of_some.mp z').2.2 z (List.mem_of_getElem? e1)
            omega
          · have : ¬ ((O.idxOf z.1 : Nat) : Int) < ((O.idxOf z.2 : Nat) : Int) := fun z => cc (decide_eq_true z)
            rw [take_snoc _ _ _ e1]
            intro q hq
            rcases List.mem_append.mp hq with g | g
            · exact inv q g
            · rw [List.mem_singleton] at g
              subst g
              omega
        · rintro σ H5 ⟨v2, v3, rfl, s5, inv⟩
          have la := arsLen W.ars
          rw [List.take_of_length_le (by omega)] at inv
          exact kk _ H5 s5 ⟨fun _ => of_some.mpr ⟨u, ln, inv⟩, fun _ => rfl⟩
      · rintro j x zs H5 hx hj ⟨s5, rfl⟩
        obtain ⟨T, dx⟩ := ty x (List.mem_of_getElem? hx)
        refine ⟨_, rfl, x, T, rfl, dx.mono s5, nx hj ⟨s5, ?_⟩⟩
        rw [take_snoc _ _ _ hx, List.map_append, List.map_append]
        rfl
    · refine ⟨_, rfl, v, _, T, rfl, d, by simp, _, rfl, ?_⟩
      have kb : kitB T "tuple" = false := by cases d <;> first | exact absurd rfl nT | decide
      rw [kb]
      exact iteT (kk _ _ (Same.refl _) ⟨fun e => (nomatch e), fun z => absurd z of_none⟩)
end
end Hk

namespace Hk
open PySem L2 PySem.W
theorem mem_ld {ars : List (Int × Int)} {k x : Int} (h : x ∈ (ars.filter fun q => decide (q.1 = k)).map (·.2)) : ∃ q ∈ ars, q.2 = x := by
  obtain ⟨q, hq, rfl⟩ := List.mem_map.mp h
  exact ⟨q, (List.mem_filter.mp hq).1, rfl⟩
section
variable {P : Program} {w : World} {K : Frag} {mg : Str → Option Value} {base : Heap}
def spWalk : Sp := fun vs H Q _ => ∃ (a t p : Addr) (m : Int) (us : List V) (ars : List (Int × Int)), vs = [.ref a, .ref p] ∧ Web H a t m us ars ∧ GoodA m ars ∧ 1 ≤ m ∧ m ≤ 12 ∧ PenAt H p ∧
  ∀ (c : Addr) (ns : List Int) (H' : Hp), SameBut p H H' → PenAt H' p → H' c = some (.tup (ns.map V.int)) → ns.length ≤ 13 → Q (.ref c) H'
theorem kn_walk (D : DefAt K mg "_law_walk" s_law_walk ["web", "pen"]) (fr : Free mg ["len", "range", "tuple"]) (kd : Kn P w K mg base 2 "_law_draw" ["pen", "many"] spDraw) (kl : Kn P w K mg base 1 "_law_leads" ["web", "place"] spNextsN) : Kn P w K mg base 3 "_law_walk" ["web", "pen"] spWalk := by
  have sc : FnScope ["web", "pen", "found", "turn", "on", "place"] ["web", "pen"] (defScope s_law_walk) := ⟨rfl, rfl, rfl, by decide +kernel, rfl, by decide +kernel, by decide +kernel⟩
  refine D.kn (N := ["web", "pen", "found", "turn", "on", "place"]) sc (fun vs H Q E h => ?_) (fun f cdv A outer s H vs Q E hr h => ?_)
  · obtain ⟨a, t, p, m, us, ars, rfl, _⟩ := h
    rfl
  · obtain ⟨a, t, p, m, us, ars, rfl, W, ga, m1, m12, hp, kk⟩ := h
    have hu := hu_of hr
    have r1 := hr.mono (j := 1) (by decide)
    have r2 := hr.mono (j := 2) (by decide)
    have m_len := fr "len" (by simp)
    have m_range := fr "range" (by simp)
    have m_tuple := fr "tuple" (by simp)
    refine ⟨_, (pss_cons (ps_set (i := 2) sc.nd rfl (Or.inl rfl) (pe_lst (pa_cons (pe_kn kd r2 (pa_cons (pv 1) (pa_cons (pe_ix ix_tup (pv 0) pe_int (fun _ _ => rfl)) pa_nil))) pa_nil))) (pss_cons (ps_for PassesOwn.never rfl (pi_range1 rfl m_range (pa_cons (pe_ix ix_tup (pv 0) pe_int (fun _ _ => rfl)) pa_nil)) (pg_name (i := 3) sc.nd rfl (Or.inl rfl)) (pss_cons (ps_set (i := 4) sc.nd rfl (Or.inl rfl) (pe_kn kl r1 (pa_cons (pv 0) (pa_cons (pe_ix ix_list (pv 2) (pe_un un_neg pe_int) (fun _ _ => rfl)) pa_nil)))) (pss_cons (ps_if (pt_cmpR (op_eqNil (Nat.lt_of_succ_lt hu)) (pv 4) (pe_lst pa_nil) (nomark _)) (pss_one (ps_ret (pe_callTy call_tuple_of rfl m_tuple boot_ttuple (pa_cons (pv 2) pa_nil)))) pss_nil) (pss_cons (ps_set (i := 5) sc.nd rfl (Or.inl rfl) (pe_ix ix_list (pv 4) (pe_kn kd r2 (pa_cons (pv 1) (pa_cons (pe_callB call_len_seq rfl m_len PySem.boot_len (pa_cons (pv 4) pa_nil)) pa_nil))) (fun _ _ => rfl))) (pss_cons (ps_if (pt_cmpR op_in_seq (pv 5) (pv 2) rfl) (pss_one (ps_ret (pe_callTy call_tuple_of rfl m_tuple boot_ttuple (pa_cons (pe_slice sl_list (pv 2) (po_some (pe_bm PySem.F.plainAttrs_list PySem.F.slot_list_index PySem.F.type_list_index (mt_indexTr 0 hu) (pv 2) (pa_cons (pv 5) pa_nil))) po_none) pa_nil)))) pss_nil) (pss_one (ps_expr (pe_bm PySem.F.plainAttrs_list PySem.F.slot_list_append PySem.F.type_list_append mt_append (pv 2) (pa_cons (pv 5) pa_nil))))))))) (pss_one (ps_ret (pe_callTy call_tuple_of rfl m_tuple boot_ttuple (pa_cons (pv 2) pa_nil)))))), ?_⟩
    refine ⟨_, rfl, _, rfl, a, _, _, _, rfl, rfl, SqT.of W.top, rfl, p, m, rfl, hp, by omega, by omega, fun x0 H1 a0 a1 s1 hp1 => ⟨(by show 1 ≤ sizeLine; decide), fun l hl => ?_⟩⟩
    have nlp : l ≠ p := newp hp1 hl
    have s2 := Same.upd (o := .lst [.int x0]) hl
    have hl2 : upd H1 l (.lst [.int x0]) l = some (.lst ([x0].map V.int)) := upd_same
    have nlH : H l = none := by
      cases e : H l with
      | none => rfl
      | some o =>
        rw [s1 _ _ nlp e] at hl
        cases hl
    refine gname_in ?_
    dsimp only
    change tSeq _ _ _ _ (upd H1 l (.lst [.int x0]))
    have k2 := s1.trans s2.but
    have hp2 := hp1.mono s2
    generalize upd H1 l (.lst [.int x0]) = H2 at k2 hp2 hl2
    have fin : ∀ (c : Addr) (ns : List Int) (H3 H4 : Hp), SameBut p H H3 → Same H3 H4 → PenAt H4 p → H4 c = some (.tup (ns.map V.int)) → ns.length ≤ 13 → Q (.ref c) H4 := fun c ns H3 H4 k s hp hc l => kk c ns H4 (k.trans s.but) hp hc l
    refine ⟨_, rfl, a, _, _, _, rfl, rfl, SqT.of (Web.but W hp k2).top, rfl, m, rfl, by omega, by omega, for_range (fun i σ H3 => ∃ (ns : List Int) (v3 v4 v5 : Option V), σ = [some (.ref a), some (.ref p), some (.ref l), v3, v4, v5] ∧ SameBut p H H3 ∧ PenAt H3 p ∧ H3 l = some (.lst (ns.map V.int)) ∧ ns.length ≤ i + 1 ∧ ns ≠ [] ∧ ∀ x ∈ ns, 0 ≤ x ∧ x < m) ⟨[x0], _, _, _, rfl, k2, hp2, hl2, Nat.le_refl _, by simp, fun x hx => by rw [List.mem_singleton.mp hx]; exact ⟨a0, a1⟩⟩ ?_ ?_⟩
    · rintro i σ H3 hi ⟨ns, v3, v4, v5, rfl, k3, hp3, hl3, ln, ne, bd⟩
      have W3 := Web.but W hp k3
      refine gname_in ?_
      dsimp only
      obtain ⟨ns0, z, ez⟩ : ∃ (r : List Int) (z : Int), ns = r ++ [z] := ⟨_, _, (List.dropLast_concat_getLast ne).symm⟩
      have lastV : atI (ns.map V.int) (-1) = some (.int z) := by
        rw [ez, List.map_append]
        exact atI_last _ _
      have zb := bd z (by rw [ez]; simp)
      refine ⟨_, rfl, _, rfl, _, rfl, l, _, -1, _, rfl, rfl, SqL.of hl3, lastV, a, t, m, us, ars, z, rfl, W3, fun on H4 s4 nOn hOn => ?_⟩
      have hl4 := s4 _ _ hl3
      have hp4 := hp3.mono s4
      have nOp : on ≠ p := newp hp3 nOn
      refine gname_in ?_
      dsimp only
      have gl : ∀ x ∈ (ars.filter fun q => decide (q.1 = z)).map (·.2), 0 ≤ x ∧ x < m := fun x hx => by
        obtain ⟨q, hq, rfl⟩ := mem_ld hx
        exact ⟨(ga q hq).2.2.1, (ga q hq).2.2.2.1⟩
      have ll : ((ars.filter fun q => decide (q.1 = z)).map (·.2)).length ≤ 1000 := by
        have h2 : (ars.filter fun q => decide (q.1 = z)).length ≤ ars.length := List.length_filter_le _ _
        have := W.len
        have := arsLen W.ars
        rw [List.length_map]
        omega
      generalize (ars.filter fun q => decide (q.1 = z)).map (·.2) = L at hOn gl ll
      refine ⟨_, rfl, (by show 0 ≤ sizeLine; decide), fun e he => ?_⟩
      have s5 := Same.upd (o := .lst []) he
      refine ⟨on, e, _, rfl, rfl, SqL.of (s5 _ _ hOn), SqL.of upd_same, _, rfl, ?_⟩
      have hl5 := s5 _ _ hl4
      have hp5 := hp4.mono s5
      have hOn5 := s5 _ _ hOn
      have s35 := s4.trans s5
      generalize upd H4 e (.lst []) = H5 at s35 hl5 hp5 hOn5
      refine ite2 (fun c => ?_) (fun c => ?_)
      · refine ⟨_, rfl, l, _, rfl, .inl ⟨SqL.of hl5, fun c hc => ?_⟩⟩
        have s6 := Same.upd (o := .tup (ns.map V.int)) hc
        exact fin c ns _ _ k3 (s35.trans s6) (hp5.mono s6) upd_same (by omega)
      have lpos : 0 < L.length := by
        cases L with
        | nil => exact absurd rfl c
        | cons _ _ => simp
      refine ⟨_, rfl, _, rfl, _, rfl, on, _, rfl, .inl (SqL.of hOn5), p, _, rfl, hp5, by rw [List.length_map]; omega, by rw [List.length_map]; omega, fun r H6 b0 b1 s6 hp6 => ?_⟩
      rw [List.length_map] at b1
      have hOn6 := s6 _ _ nOp hOn5
      have hl6 := s6 _ _ nlp hl5
      have k6 := (k3.trans s35.but).trans s6
      obtain ⟨j, rfl⟩ : ∃ j : Nat, r = (j : Int) := ⟨r.toNat, by omega⟩
      have hj : j < L.length := by omega
      refine ⟨on, _, _, .int L[j], rfl, rfl, SqL.of hOn6, atI_nat (by rw [List.getElem?_map, List.getElem?_eq_getElem hj]; rfl), ?_⟩
      refine gname_in ?_
      dsimp only
      have gb := gl L[j] (List.getElem_mem hj)
      generalize L[j] = pl at gb
      refine ⟨_, rfl, _, rfl, l, _, rfl, .inl (SqL.of hl6), rfl, all_flat_ints _, _, rfl, ?_⟩
      show if inV (.int pl) (ns.map V.int) = true then _ else _
      rw [inV_int]
      refine ite2 (fun c => ?_) (fun c => ?_)
      · have hin := of_decide_eq_true c
        have hl0 := List.idxOf_lt_length_iff.mpr hin
        refine ⟨_, rfl, _, rfl, .inl ⟨rfl, _, SqL.of hl6⟩, _, rfl, l, _, _, .int pl, ns.map Tr.int, ns.idxOf pl, rfl, rfl, SqL.of hl6, Is.int pl, is_ints ns, ?_, fun k hk => ?_, by omega, ?_⟩
        · rw [List.getElem?_map, List.getElem?_eq_getElem hl0, List.getElem_idxOf]
          rfl
        · rw [List.getElem?_map, List.getElem?_eq_getElem (by omega)]
          intro z
          have := Tr.int.inj (Option.some.inj z)
          have h2 := PyProof.Rows.ne_of_lt_idxOf (ns := ns) (k := pl) hk (by omega)
          rw [this] at h2
          simp at h2
        · refine ⟨_, rfl, l, _, rfl, SqL.of hl6, fun x1 hx1 => ?_⟩
          rw [cut_from (by rw [List.length_map]; omega), ← List.map_drop]
          have t1 := Same.upd (o := .lst ((ns.drop (ns.idxOf pl)).map V.int)) hx1
          refine ⟨x1, _, rfl, .inl ⟨SqL.of upd_same, fun c hc => ?_⟩⟩
          have t2 := Same.upd (o := .tup ((ns.drop (ns.idxOf pl)).map V.int)) hc
          exact fin c _ _ _ k6 (t1.trans t2) ((hp6.mono t1).mono t2) upd_same (by rw [List.length_drop]; omega)
      · refine ⟨_, rfl, .inl ⟨rfl, _, SqL.of hl6⟩, _, rfl, l, _, _, rfl, rfl, hl6, small1000 (by rw [List.length_map]; omega), ?_⟩
        refine ⟨ns ++ [pl], _, _, _, rfl, fun b o nb e => ?_, ?_, ?_, by rw [List.length_append]; simp; omega, by simp, fun x hx => ?_⟩
        · rw [upd_ne (ne_of_none e nlH)]
          exact k6 _ _ nb e
        · obtain ⟨x, y, q, e⟩ := hp6
          exact ⟨x, y, q, by rw [upd_ne (Ne.symm nlp)]; exact e⟩
        · rw [upd_same, List.map_append]
          rfl
        · rcases List.mem_append.mp hx with g | g
          · exact bd x g
          · rw [List.mem_singleton.mp g]
            exact gb
    · rintro σ H3 ⟨ns, v3, v4, v5, rfl, k3, hp3, hl3, ln, ne, bd⟩
      refine ⟨_, rfl, l, _, rfl, .inl ⟨SqL.of hl3, fun c hc => ?_⟩⟩
      have s6 := Same.upd (o := .tup (ns.map V.int)) hc
      exact fin c ns _ _ k3 s6 (hp3.mono s6) upd_same (by omega)
def spSunkA : Sp := fun vs H Q _ => ∃ (a t : Addr) (m : Int) (us : List V) (ars : List (Int × Int)), vs = [.ref a] ∧ Web H a t m us ars ∧ 1 ≤ m ∧ m ≤ 12 ∧
  ∀ (c : Addr) (ns : List Int) (H' : Hp), Same H H' → H' c = some (.tup (ns.map V.int)) → ns.length ≤ 12 → Q (.ref c) H'
theorem kn_sunkA (D : DefAt K mg "_law_sunk" s_law_sunk ["web"]) (fr : Free mg ["all", "range", "tuple"]) (kl : Kn P w K mg base 1 "_law_leads" ["web", "place"] spNextsN) : Kn P w K mg base 2 "_law_sunk" ["web"] spSunkA := by
  have sc : FnScope ["web", "found", "turn", "place"] ["web"] (defScope s_law_sunk) := ⟨rfl, rfl, rfl, by decide +kernel, rfl, by decide +kernel, by decide +kernel⟩
  refine D.kn (N := ["web", "found", "turn", "place"]) sc (fun vs H Q E h => ?_) (fun f cdv A outer s H vs Q E hr h => ?_)
  · obtain ⟨a, t, m, us, ars, rfl, _⟩ := h
    rfl
  · obtain ⟨a, t, m, us, ars, rfl, W, m1, m12, kk⟩ := h
    have hu := hu_of hr
    have r1 := hr.mono (j := 1) (by decide)
    have m_all := fr "all" (by simp)
    have m_range := fr "range" (by simp)
    have m_tuple := fr "tuple" (by simp)
    have nd0 : (["other", "found"] : List Str).Nodup := by decide +kernel
    have nd1 : (["other", "found"] : List Str).Nodup := by decide +kernel
    refine ⟨_, (pss_cons (ps_set (i := 1) sc.nd rfl (Or.inr rfl) (pe_lst pa_nil)) (pss_cons (ps_for PassesOwn.never rfl (pi_range1 rfl m_range (pa_cons (pe_ix ix_tup (pv 0) pe_int (fun _ _ => rfl)) pa_nil)) (pg_name (i := 2) sc.nd rfl (Or.inl rfl)) (pss_one (ps_for PassesOwn.never rfl (pi_range1 rfl m_range (pa_cons (pe_ix ix_tup (pv 0) pe_int (fun _ _ => rfl)) pa_nil)) (pg_name (i := 3) sc.nd rfl (Or.inl rfl)) (pss_one (ps_if (PW.pt (pw_and (pt_cmpR op_notIn_seq (pv 3) (pv 1) rfl) (pw_and1 (pt_call (pe_callB (call_all_bl rfl) rfl m_all boot_fall (pa_cons (pe_lc (N := ["other", "found"]) (src := [none, some 1]) rfl ⟨rfl, rfl, rfl, rfl, ⟨⟨rfl, rfl⟩, trivial⟩, rfl, rfl, rfl⟩ (gown_name (i := 0) rfl) (pi_list (pe_kn kl r1 (pa_cons (pv 0) (pa_cons (pv 3) pa_nil)))) (fun C s H fp => ⟨(pg_name (i := 0) nd1 rfl (Or.inl rfl)), pifs_nil, (pe_cmpR (r := rIn K false) op_in_seq (pv 0) (pv 1) rfl)⟩)) pa_nil)))))) (pss_one (ps_expr (pe_bm PySem.F.plainAttrs_list PySem.F.slot_list_append PySem.F.type_list_append mt_append (pv 1) (pa_cons (pv 3) pa_nil)))) pss_nil))))) (pss_one (ps_ret (pe_callTy call_tuple_of rfl m_tuple boot_ttuple (pa_cons (pv 1) pa_nil)))))), ?_⟩
    refine ⟨(by show 0 ≤ sizeLine; decide), fun l hl => ?_⟩
    have s1 := Same.upd (o := .lst []) hl
    have hl1 : upd H l (.lst []) l = some (.lst (([] : List Int).map V.int)) := upd_same
    refine gname_in ?_
    dsimp only [List.set]
    change tSeq _ _ _ _ (upd H l (.lst []))
    generalize upd H l (.lst []) = H1 at s1 hl1
    have nodl : ∀ {ns : List Int}, ns.Nodup → (∀ x ∈ ns, 0 ≤ x ∧ x < m) → ns.length ≤ 12 := fun {ns} h1 h2 => by
      have := Hk.nodup_le (n := m.toNat) h1 fun x hx => ⟨(h2 x hx).1, by have := (h2 x hx).2; omega⟩
      omega
    refine ⟨_, rfl, a, _, _, _, rfl, rfl, SqT.of (s1 _ _ W.top), rfl, m, rfl, by omega, by omega, for_range (fun i σ H2 => ∃ (ns : List Int) (v2 v3 : Option V), σ = [some (.ref a), some (.ref l), v2, v3] ∧ Same H H2 ∧ H2 l = some (.lst (ns.map V.int)) ∧ ns.Nodup ∧ ∀ x ∈ ns, 0 ≤ x ∧ x < m) ⟨[], _, _, rfl, s1, hl1, List.nodup_nil, fun x hx => (nomatch hx)⟩ ?_ ?_⟩
    · rintro i σ H2 hi ⟨ns, v2, v3, rfl, s2, hl2, nd, bd⟩
      refine gname_in ?_
      dsimp only [List.set]
      refine ⟨_, rfl, a, _, _, _, rfl, rfl, SqT.of (s2 _ _ W.top), rfl, m, rfl, by omega, by omega, for_range (fun j σ H3 => ∃ (ns : List Int) (v3 : Option V), σ = [some (.ref a), some (.ref l), some (.int (0 + (i : Int))), v3] ∧ Same H H3 ∧ H3 l = some (.lst (ns.map V.int)) ∧ ns.Nodup ∧ ∀ x ∈ ns, 0 ≤ x ∧ x < m) ⟨ns, _, rfl, s2, hl2, nd, bd⟩ ?_ ?_⟩
      · rintro j σ H3 hj ⟨ns, v3, rfl, s3, hl3, nd, bd⟩
        have nl := nodl nd bd
        refine gname_in ?_
        dsimp only [List.set]
        refine ⟨_, rfl, _, rfl, l, _, rfl, .inl (SqL.of hl3), rfl, all_flat_ints _, _, rfl, ?_⟩
        show if (!inV (.int (0 + (j : Int))) (ns.map V.int)) = true then _ else _
        rw [inV_int]
        refine ite2 (fun c => ?_) (fun c => ?_)
        · have nin : (0 + (j : Int)) ∉ ns := fun z => by
            rw [decide_eq_true z] at c
            cases c
          refine ⟨_, rfl, _, rfl, a, t, m, us, ars, _, rfl, W.mono s3, fun q H4 s4 nq hq => ?_⟩
          have hl4 := s4 _ _ hl3
          have ll : ((ars.filter fun q => decide (q.1 = (0 + (j : Int)))).map (·.2)).length ≤ 1000 := by
            have h2 : (ars.filter fun q => decide (q.1 = (0 + (j : Int)))).length ≤ ars.length := List.length_filter_le _ _
            have := W.len
            have := arsLen W.ars
            rw [List.length_map]
            omega
          generalize (ars.filter fun q => decide (q.1 = (0 + (j : Int)))).map (·.2) = L at hq ll
          refine ⟨q, rfl, ⟨_, SqL.of hq⟩, lc_list0 (xs := L.map V.int) (fun i zs H5 => Same H4 H5 ∧ ∃ bs : List Bool, zs = bs.map V.bl ∧ bs.length = i) ⟨Same.refl _, [], rfl, rfl⟩ ?_ ?_ ?_⟩
          · rintro i zs H5 hi ⟨s5, bs, rfl, lb⟩
            refine ⟨SqL.of (s5 _ _ hq), ?_⟩
            rw [List.length_map] at hi ⊢
            exact Nat.le_of_lt (small1000 (by omega))
          · rintro zs H5 ⟨s5, bs, rfl, lb⟩ y hy
            have s6 := Same.upd (o := .lst (bs.map V.bl)) hy
            refine ⟨y, _, rfl, SqL.of upd_same, _, rfl, ?_⟩
            have hl6 := s6 _ _ (s5 _ _ hl4)
            have s36 := s3.trans (s4.trans (s5.trans s6))
            generalize upd H5 y (.lst (bs.map V.bl)) = H6 at hl6 s36
            refine ite2 (fun c => ?_) (fun c => ?_)
            · refine ⟨_, rfl, .inl ⟨rfl, _, SqL.of hl6⟩, _, rfl, l, _, _, rfl, rfl, hl6, small1000 (by rw [List.length_map]; omega), ?_⟩
              refine ⟨ns ++ [0 + (j : Int)], _, rfl, fun b o e => ?_, ?_, ?_, fun x hx => ?_⟩
              · rw [upd_ne (ne_of_none e hl)]
                exact s36 _ _ e
              · rw [upd_same, List.map_append]
                rfl
              · rw [List.nodup_append]
                refine ⟨nd, by simp, fun x hx y hy e => ?_⟩
                rw [List.mem_singleton] at hy
                subst hy
                subst e
                exact nin hx
              · rcases List.mem_append.mp hx with g | g
                · exact bd x g
                · rw [List.mem_singleton.mp g]
                  exact ⟨by omega, by omega⟩
            · exact ⟨ns, _, rfl, s36, hl6, nd, bd⟩
          · rintro i x zs H5 hx hi ⟨s5, bs, rfl, lb⟩
            rw [List.getElem?_map] at hx
            obtain ⟨z, ez, rfl⟩ := Option.map_eq_some_iff.mp hx
            refine ⟨_, rfl, _, rfl, l, _, rfl, .inl (SqL.of (s5 _ _ hl4)), rfl, all_flat_ints _, nx hi ⟨s5, bs ++ [inV (.int z) (ns.map V.int)], ?_, ?_⟩⟩
            · rw [List.map_append]
              rfl
            · rw [List.length_append, lb]
              rfl
        · exact ⟨ns, _, rfl, s3, hl3, nd, bd⟩
      · rintro σ H3 ⟨ns, v3, rfl, s3, hl3, nd, bd⟩
        exact ⟨ns, _, _, rfl, s3, hl3, nd, bd⟩
    · rintro σ H2 ⟨ns, v2, v3, rfl, s2, hl2, nd, bd⟩
      refine ⟨_, rfl, l, _, rfl, .inl ⟨SqL.of hl2, fun c hc => ?_⟩⟩
      exact kk c ns _ (s2.trans (Same.upd hc)) upd_same (nodl nd bd)
end
end Hk

namespace Hk
open PySem L2 PySem.W
theorem at_any {α : Type} (xs : List α) {r : Int} (h0 : 0 ≤ r) (h1 : r < (xs.length : Int)) : ∃ v ∈ xs, atI xs r = some v := by
  obtain ⟨j, rfl⟩ : ∃ j : Nat, r = (j : Int) := ⟨r.toNat, by omega⟩
  have hj : j < xs.length := by omega
  exact ⟨xs[j], List.getElem_mem hj, atI_nat (List.getElem?_eq_getElem hj)⟩
section
variable {P : Program} {w : World} {K : Frag} {mg : Str → Option Value} {base : Heap}
def spBentA : Sp := fun vs H Q _ => ∃ (c p : Addr) (ns : List Int), vs = [.ref c, .ref p] ∧ H c = some (.tup (ns.map V.int)) ∧ ns.length ≤ 13 ∧ PenAt H p ∧ ∀ (v : V) (H' : Hp), SameBut p H H' → PenAt H' p → Ob p H' v → Q v H'
theorem kn_bentA (D : DefAt K mg "_law_bent" s_law_bent ["thing", "pen"]) (fr : Free mg ["len", "list"]) (kd : Kn P w K mg base 2 "_law_draw" ["pen", "many"] spDraw) : Kn P w K mg base 3 "_law_bent" ["thing", "pen"] spBentA := by
  have sc : FnScope ["thing", "pen", "spot", "odd", "some"] ["thing", "pen"] (defScope s_law_bent) := ⟨rfl, rfl, rfl, by decide +kernel, rfl, by decide +kernel, by decide +kernel⟩
  refine D.kn (N := ["thing", "pen", "spot", "odd", "some"]) sc (fun vs H Q E h => ?_) (fun f cdv A outer s H vs Q E hr h => ?_)
  · obtain ⟨c, p, ns, rfl, _⟩ := h
    rfl
  · obtain ⟨c, p, ns, rfl, hc, ln, hp, kk⟩ := h
    have m_len := fr "len" (by simp)
    have m_list := fr "list" (by simp)
    refine ⟨_, (pss_cons (ps_set (i := 2) sc.nd rfl (Or.inl rfl) (pe_kn kd hr (pa_cons (pv 1) (pa_cons (pe_op op_add (pe_callB call_len_seq rfl m_len PySem.boot_len (pa_cons (pv 0) pa_nil)) pe_int) pa_nil)))) (pss_cons (ps_set (i := 3) sc.nd rfl (Or.inl rfl) (pe_ix ix_list (pe_lst (pa_cons (pe_un un_neg pe_int) (pa_cons pe_int (pa_cons pe_bl (pa_cons pe_non (pa_cons pe_int (pa_cons pe_str (pa_cons (pe_tup (pa_cons pe_int pa_nil)) pa_nil)))))))) (pe_kn kd hr (pa_cons (pv 1) (pa_cons pe_int pa_nil))) (fun _ _ => rfl))) (pss_cons (ps_set (i := 4) sc.nd rfl (Or.inl rfl) (pe_lst (pa_cons (pe_rev (pv 0)) (pa_cons (pe_op op_cat2 (pe_slice sl_tup2 (pv 0) (po_some (pv 2)) po_none) (pe_slice sl_tup2 (pv 0) po_none (po_some (pv 2)))) (pa_cons (pe_op op_cat2 (pe_slice sl_tup2 (pv 0) po_none (po_some (pv 2))) (pe_slice sl_tup2 (pv 0) (po_some (pe_op op_add (pv 2) pe_int)) po_none)) (pa_cons (pe_callTy call_list_of rfl m_list boot_tlist (pa_cons (pv 0) pa_nil)) (pa_cons pe_non (pa_cons (pe_tup pa_nil) (pa_cons (pe_op op_mulT (pv 0) pe_int) pa_nil))))))))) (pss_cons (ps_set (i := 4) sc.nd rfl (Or.inl rfl) (pe_op op_cat (pv 4) (pe_lst (pa_cons (pe_op op_cat2 (pe_op op_cat2 (pe_slice sl_tup2 (pv 0) po_none (po_some (pv 2))) (pe_tup (pa_cons (pv 3) pa_nil))) (pe_slice sl_tup2 (pv 0) (po_some (pv 2)) po_none)) (pa_cons (pe_op op_cat2 (pe_op op_cat2 (pe_slice sl_tup2 (pv 0) po_none (po_some (pv 2))) (pe_tup (pa_cons (pv 3) pa_nil))) (pe_slice sl_tup2 (pv 0) (po_some (pe_op op_add (pv 2) pe_int)) po_none)) (pa_cons (pe_tup (pa_cons (pv 0) pa_nil)) pa_nil)))))) (pss_one (ps_ret (pe_ix ix_list (pv 4) (pe_kn kd hr (pa_cons (pv 1) (pa_cons pe_int pa_nil))) (fun _ _ => rfl)))))))), ?_⟩
    refine ⟨_, rfl, _, rfl, c, _, rfl, .inr (SqT.of hc), _, _, rfl, rfl, p, _, rfl, hp, by rw [List.length_map]; omega, by rw [List.length_map]; omega, fun sp H1 _ _ s1 hp1 => ?_⟩
    have hc1 := s1 _ _ (pen_tup hp hc) hc
    refine gname_in ?_
    dsimp only
    refine ⟨_, rfl, (by show 1 ≤ sizeLine; decide), fun q hq => ⟨(by show 7 ≤ sizeLine; decide), fun L hL => ?_⟩⟩
    have t1 := Same.upd (o := .tup [.int 0]) hq
    have t2 := Same.upd (o := .lst [.int (-1), .int 0, .bl true, .non, .int 99, .str (Str.ofString "0"), .ref q]) hL
    have nqp : q ≠ p := newp hp1 hq
    have nLp : L ≠ p := newp (hp1.mono t1) hL
    have hq2 := t2 _ _ (upd_same (H := H1) (a := q) (o := .tup [.int 0]))
    have hL2 := upd_same (H := upd H1 q (.tup [.int 0])) (a := L) (o := .lst [.int (-1), .int 0, .bl true, .non, .int 99, .str (Str.ofString "0"), .ref q])
    have t12 := t1.trans t2
    have hp2 := hp1.mono t12
    refine ⟨_, rfl, p, 7, rfl, hp2, by decide, by decide, fun r H3 r0 r7 s3 hp3 => ?_⟩
    have hL3 := s3 _ _ nLp hL2
    have hq3 := s3 _ _ nqp hq2
    have hc3 := s3 _ _ (pen_tup hp2 (t12 _ _ hc1)) (t12 _ _ hc1)
    have k3 := (s1.trans t12.but).trans s3
    obtain ⟨odd, ho, ea⟩ := at_any [V.int (-1), .int 0, .bl true, .non, .int 99, .str (Str.ofString "0"), .ref q] r0 r7
    refine ⟨L, _, r, odd, rfl, rfl, SqL.of hL3, ea, ?_⟩
    have it : It p H3 odd := by
      simp only [List.mem_cons, List.not_mem_nil, or_false] at ho
      rcases ho with rfl | rfl | rfl | rfl | rfl | rfl | rfl
      · exact ⟨⟨_, .int _⟩, fun z => (nomatch z)⟩
      · exact ⟨⟨_, .int _⟩, fun z => (nomatch z)⟩
      · exact ⟨⟨_, .bl _⟩, fun z => (nomatch z)⟩
      · exact ⟨⟨_, .non⟩, fun z => (nomatch z)⟩
      · exact ⟨⟨_, .int _⟩, fun z => (nomatch z)⟩
      · exact ⟨⟨_, .str _⟩, fun z => (nomatch z)⟩
      · exact ⟨⟨_, .tup hq3⟩, fun z => nqp (by cases z; rfl)⟩
    clear ea ho hL3 hq3 hL2 hq2
    refine gname_in ?_
    dsimp only
    have T : ∀ {B : Hp} {σ : St}, Same H3 B → σ[0]? = some (some (.ref c)) → cT B p σ (tVar 0) 13 := fun {B σ} s e => t_var e (s _ _ hc3) (fun y hy => it_ints hy) (by rw [List.length_map]; exact ln)
    have I2 : ∀ {B : Hp} {σ : St}, σ[2]? = some (some (.int sp)) → cI B σ (tVar 2) := fun {B σ} e => i_var e
    have O3 : ∀ {B : Hp} {σ : St}, Same H3 B → σ[3]? = some (some odd) → cV B p σ (tVar 3) := fun {B σ} s e => v_it e (it.mono s)
    refine asg_in (guse_l (p := p) (gl_a hp3 (ga_cons (go_t hp3 (t_rev (T (Same.refl _) rfl))) (ga_cons (go_t hp3 (t_cat (t_sl (T (Same.refl _) rfl) (p_so (I2 rfl)) p_no) (t_sl (T (Same.refl _) rfl) p_no (p_so (I2 rfl))))) (ga_cons (go_t hp3 (t_cat (t_sl (T (Same.refl _) rfl) p_no (p_so (I2 rfl))) (t_sl (T (Same.refl _) rfl) (p_so (i_add (I2 rfl) i_c)) p_no))) (ga_cons (go_list hp3 (T (Same.refl _) rfl)) (ga_cons go_non (ga_cons (go_t hp3 t_nil) (ga_cons (go_t hp3 (t_mul (T (Same.refl _) rfl))) ga_nil)))))))) fun f1 vs H4 s4 nf hf os hn => ?_)
    have hp4 := hp3.mono s4
    refine asg_in (guse_l (p := p) (gl_cat hp4 (gl_var (x := f1) nf rfl hf os hn) (gl_a hp4 (ga_cons (go_t hp4 (t_cat (t_cat (t_sl (T s4 rfl) p_no (p_so (I2 rfl))) (t_one (O3 s4 rfl))) (t_sl (T s4 rfl) (p_so (I2 rfl)) p_no))) (ga_cons (go_t hp4 (t_cat (t_cat (t_sl (T s4 rfl) p_no (p_so (I2 rfl))) (t_one (O3 s4 rfl))) (t_sl (T s4 rfl) (p_so (i_add (I2 rfl) i_c)) p_no))) (ga_cons (go_t hp4 (t_one (v_t hp4 (T s4 rfl)))) ga_nil))))) fun f2 vs2 H5 s5 nf2 hf2 os2 hn2 => ?_)
    have hp5 := hp4.mono s5
    refine ⟨_, rfl, _, rfl, p, 10, rfl, hp5, by decide, by decide, fun r2 H6 r20 r27 s6 hp6 => ?_⟩
    obtain ⟨v, hv, ea⟩ := at_any vs2 r20 (by rw [hn2]; exact r27)
    exact ⟨f2, _, r2, v, rfl, rfl, SqL.of (s6 _ _ nf2 hf2), ea, kk v H6 (k3.trans ((s4.trans s5).but.trans s6)) hp6 ((os2 v hv).but s6)⟩
def spRt : Sp := fun vs H Q _ => ∃ (a t : Addr) (v : V) (m : Int) (us : List V) (ars : List (Int × Int)) (o : Option (List Int)), vs = [.ref a, v] ∧ Web H a t m us ars ∧ GoodA m ars ∧ Tg H v o ∧ ∀ H', Same H H' → Q (.bl true) H'
theorem bl_eq {b c : Bool} {φ : Prop} (h1 : b = true ↔ φ) (h2 : c = true ↔ φ) : b = c := by
  cases b <;> cases c <;> simp_all
theorem kn_rt05 (D : DefAt K mg "_law_right" s_law_right ["web", "thing"]) (fr : Free mg ["bool", "isinstance"]) (kr : Kn P w K mg base 4 "ring_good" ["web", "thing"] spRgA) (ko : Kn P w K mg base 4 "order_good" ["web", "thing"] spOgA) (klr : Kn P w K mg base 2 "_law_ring_good" ["web", "thing"] spRgA) (klo : Kn P w K mg base 2 "_law_order_good" ["web", "thing"] spOgA) : Kn P w K mg base 5 "_law_right" ["web", "thing"] spRt := by
  have sc : FnScope ["web", "thing", "found", "other"] ["web", "thing"] (defScope s_law_right) := ⟨rfl, rfl, rfl, by decide +kernel, rfl, by decide +kernel, by decide +kernel⟩
  refine D.kn (N := ["web", "thing", "found", "other"]) sc (fun vs H Q E h => ?_) (fun f cdv A outer s H vs Q E hr h => ?_)
  · obtain ⟨a, t, v, m, us, ars, o, rfl, _⟩ := h
    rfl
  · obtain ⟨a, t, v, m, us, ars, o, rfl, W, ga, tg, kk⟩ := h
    have r2 := hr.mono (j := 2) (by decide)
    have m_bool := fr "bool" (by simp)
    have m_isinstance := fr "isinstance" (by simp)
    refine ⟨_, (pss_cons (ps_set (i := 2) sc.nd rfl (Or.inl rfl) (pe_kn kr hr (pa_cons (pv 0) (pa_cons (pv 1) pa_nil)))) (pss_cons (ps_set (i := 3) sc.nd rfl (Or.inl rfl) (pe_kn ko hr (pa_cons (pv 0) (pa_cons (pv 1) pa_nil)))) (pss_cons (ps_if (PW.pt (pw_or (pt_not (pt_call (pe_callB call_isi rfl m_isinstance boot_isi (pa_cons (pv 2) (pa_cons (pe_bltn (v := .ty "bool") rfl m_bool boot_tbool rfl) pa_nil))))) (pw_or1 (pt_not (pt_call (pe_callB call_isi rfl m_isinstance boot_isi (pa_cons (pv 3) (pa_cons (pe_bltn (v := .ty "bool") rfl m_bool boot_tbool rfl) pa_nil)))))))) (pss_one (ps_ret pe_bl)) pss_nil) (pss_one (ps_ret (pe_and (pe_cmpR op_eq (pv 2) (pe_kn klr r2 (pa_cons (pv 0) (pa_cons (pv 1) pa_nil))) (nomark _)) (pe_one (pe_cmpR op_eq (pv 3) (pe_kn klo r2 (pa_cons (pv 0) (pa_cons (pv 1) pa_nil))) (nomark _))))))))), ?_⟩
    refine ⟨_, rfl, _, rfl, a, t, v, m, us, ars, o, rfl, W, ga, tg, fun b H1 s1 hb => ?_⟩
    refine gname_in ?_
    dsimp only
    refine ⟨_, rfl, _, rfl, a, t, v, m, us, ars, o, rfl, W.mono s1, ga, tg.mono s1, fun b2 H2 s2 hb2 => ?_⟩
    refine gname_in ?_
    dsimp only
    have s12 := s1.trans s2
    refine ⟨_, rfl, _, _, "bool", rfl, .bl b, by simp, _, rfl, iteF ?_⟩
    refine ⟨_, rfl, _, _, "bool", rfl, .bl b2, by simp, _, rfl, iteF ?_⟩
    refine ⟨_, rfl, _, rfl, _, rfl, a, t, v, m, us, ars, o, rfl, W.mono s12, ga, tg.mono s12, fun c1 H3 s3 hc1 => ?_⟩
    rw [bl_eq hc1 hb]
    have s13 := s12.trans s3
    refine ⟨rfl, _, rfl, ?_⟩
    rw [decide_eq_true rfl]
    refine iteT ?_
    refine ⟨_, rfl, _, rfl, _, rfl, a, t, v, m, us, ars, o, rfl, W.mono s13, ga, tg.mono s13, fun c2 H4 s4 hc2 => ?_⟩
    rw [bl_eq hc2 hb2]
    refine ⟨rfl, ?_⟩
    rw [decide_eq_true rfl]
    exact kk _ (s13.trans s4)
end
end Hk

namespace Hk
open PySem L2 PySem.W
theorem pa_ct {X : Cx} {es' : List Expr} {k : Nat} {p : Pos} {es : List Expr} {te : TE} {t : TA} (ha : PE X (.Tuple es' k p) te) (hr : PA X es t) : PA X (.Tuple es' k p :: es) (tCons te t) := pa_cons ha hr (by rfl)
theorem pa_ci {X : Cx} {i : Int} {j : Nat} {p : Pos} {es : List Expr} {t : TA} (hr : PA X es t) : PA X (.Constant (.int i) j p :: es) (tCons (tC (.int i)) t) := pa_cons pe_int hr (by rfl)
theorem pa_cn {X : Cx} {j : Nat} {p : Pos} {es : List Expr} {t : TA} (hr : PA X es t) : PA X (.Constant .none j p :: es) (tCons (tC .non) t) := pa_cons pe_non hr (by rfl)
theorem pa_cb {X : Cx} {b : Bool} {j : Nat} {p : Pos} {es : List Expr} {t : TA} (hr : PA X es t) : PA X (.Constant (.bool b) j p :: es) (tCons (tC (.bl b)) t) := pa_cons pe_bl hr (by rfl)
theorem pa_cl {X : Cx} {es' : List Expr} {p : Pos} {es : List Expr} {te : TE} {t : TA} (ha : PE X (.List es' p) te) (hr : PA X es t) : PA X (.List es' p :: es) (tCons te t) := pa_cons ha hr (by rfl)
def litA : Expr := .List [.Tuple [] 0 ⟨108, 18, 108, 20⟩, .Tuple [.Constant (.int 0) 0 ⟨108, 23, 108, 24⟩] 0 ⟨108, 22, 108, 26⟩, .Tuple [.Constant (.int 0) 0 ⟨108, 29, 108, 30⟩, .Constant (.int 1) 0 ⟨108, 32, 108, 33⟩] 0 ⟨108, 28, 108, 34⟩, .Tuple [.Constant (.int 1) 0 ⟨108, 37, 108, 38⟩, .Constant (.int 0) 0 ⟨108, 40, 108, 41⟩] 0 ⟨108, 36, 108, 42⟩, .Tuple [.Constant (.int 0) 0 ⟨108, 45, 108, 46⟩, .Constant (.int 1) 0 ⟨108, 48, 108, 49⟩, .Constant (.int 0) 0 ⟨108, 51, 108, 52⟩] 0 ⟨108, 44, 108, 53⟩, .Constant .none 0 ⟨108, 55, 108, 59⟩, .List [.Constant (.int 0) 0 ⟨108, 62, 108, 63⟩, .Constant (.int 1) 0 ⟨108, 65, 108, 66⟩] ⟨108, 61, 108, 67⟩, .Tuple [.Constant (.bool false) 0 ⟨108, 70, 108, 75⟩, .Constant (.bool true) 0 ⟨108, 77, 108, 81⟩] 0 ⟨108, 69, 108, 82⟩] ⟨108, 17, 108, 83⟩
theorem pe_litA {X : Cx} : PE X litA (tLst (tCons (tTup tNil) (tCons (tTup (tCons (tC (.int 0)) tNil)) (tCons (tTup (tCons (tC (.int 0)) (tCons (tC (.int 1)) tNil))) (tCons (tTup (tCons (tC (.int 1)) (tCons (tC (.int 0)) tNil))) (tCons (tTup (tCons (tC (.int 0)) (tCons (tC (.int 1)) (tCons (tC (.int 0)) tNil)))) (tCons (tC .non) (tCons (tLst (tCons (tC (.int 0)) (tCons (tC (.int 1)) tNil))) (tCons (tTup (tCons (tC (.bl false)) (tCons (tC (.bl true)) tNil))) tNil))))))))) := by
  unfold litA
  refine pe_lst ?_
  refine pa_ct ?_ ?_
  · refine pe_tup ?_
    exact pa_nil
  refine pa_ct ?_ ?_
  · refine pe_tup ?_
    refine pa_ci ?_
    exact pa_nil
  refine pa_ct ?_ ?_
  · refine pe_tup ?_
    refine pa_ci ?_
    refine pa_ci ?_
    exact pa_nil
  refine pa_ct ?_ ?_
  · refine pe_tup ?_
    refine pa_ci ?_
    refine pa_ci ?_
    exact pa_nil
  refine pa_ct ?_ ?_
  · refine pe_tup ?_
    refine pa_ci ?_
    refine pa_ci ?_
    refine pa_ci ?_
    exact pa_nil
  refine pa_cn ?_
  refine pa_cl ?_ ?_
  · refine pe_lst ?_
    refine pa_ci ?_
    refine pa_ci ?_
    exact pa_nil
  refine pa_ct ?_ ?_
  · refine pe_tup ?_
    refine pa_cb ?_
    refine pa_cb ?_
    exact pa_nil
  exact pa_nil
def litB : Expr := .List [.Tuple [.Constant (.int 1) 0 ⟨109, 21, 109, 22⟩, .Tuple [] 0 ⟨109, 24, 109, 26⟩] 0 ⟨109, 20, 109, 27⟩, .Tuple [.Constant (.int 2) 0 ⟨109, 30, 109, 31⟩, .Tuple [.Tuple [.Constant (.int 0) 0 ⟨109, 35, 109, 36⟩, .Constant (.int 1) 0 ⟨109, 38, 109, 39⟩] 0 ⟨109, 34, 109, 40⟩, .Tuple [.Constant (.int 1) 0 ⟨109, 43, 109, 44⟩, .Constant (.int 0) 0 ⟨109, 46, 109, 47⟩] 0 ⟨109, 42, 109, 48⟩] 0 ⟨109, 33, 109, 49⟩] 0 ⟨109, 29, 109, 50⟩, .Tuple [.Constant (.int 2) 0 ⟨109, 53, 109, 54⟩, .Tuple [.Tuple [.Constant (.int 1) 0 ⟨109, 58, 109, 59⟩, .Constant (.int 0) 0 ⟨109, 61, 109, 62⟩] 0 ⟨109, 57, 109, 63⟩] 0 ⟨109, 56, 109, 65⟩] 0 ⟨109, 52, 109, 66⟩] ⟨109, 19, 109, 67⟩
theorem pe_litB {X : Cx} : PE X litB (tLst (tCons (tTup (tCons (tC (.int 1)) (tCons (tTup tNil) tNil))) (tCons (tTup (tCons (tC (.int 2)) (tCons (tTup (tCons (tTup (tCons (tC (.int 0)) (tCons (tC (.int 1)) tNil))) (tCons (tTup (tCons (tC (.int 1)) (tCons (tC (.int 0)) tNil))) tNil))) tNil))) (tCons (tTup (tCons (tC (.int 2)) (tCons (tTup (tCons (tTup (tCons (tC (.int 1)) (tCons (tC (.int 0)) tNil))) tNil)) tNil))) tNil)))) := by
  unfold litB
  refine pe_lst ?_
  refine pa_ct ?_ ?_
  · refine pe_tup ?_
    refine pa_ci ?_
    refine pa_ct ?_ ?_
    · refine pe_tup ?_
      exact pa_nil
    exact pa_nil
  refine pa_ct ?_ ?_
  · refine pe_tup ?_
    refine pa_ci ?_
    refine pa_ct ?_ ?_
    · refine pe_tup ?_
      refine pa_ct ?_ ?_
      · refine pe_tup ?_
        refine pa_ci ?_
        refine pa_ci ?_
        exact pa_nil
      refine pa_ct ?_ ?_
      · refine pe_tup ?_
        refine pa_ci ?_
        refine pa_ci ?_
        exact pa_nil
      exact pa_nil
    exact pa_nil
  refine pa_ct ?_ ?_
  · refine pe_tup ?_
    refine pa_ci ?_
    refine pa_ct ?_ ?_
    · refine pe_tup ?_
      refine pa_ct ?_ ?_
      · refine pe_tup ?_
        refine pa_ci ?_
        refine pa_ci ?_
        exact pa_nil
      exact pa_nil
    exact pa_nil
  exact pa_nil
def forWith2 : Stmt → Expr → Expr → Stmt
  | .For t _ [.For t2 _ b2 o2 p2] o p, e, e2 => .For t e [.For t2 e2 b2 o2 p2] o p
  | s, _, _ => s
def st0 : Stmt := match defBody s_law with
  | s :: _ => s
  | _ => .Pass ⟨0, 0, 0, 0⟩
@[irreducible] def it0 : Expr := match defBody s_law with
  | .For _ e _ _ _ :: _ => e
  | _ => .Constant .none 0 ⟨0, 0, 0, 0⟩
@[irreducible] def it1 : Expr := match defBody s_law with
  | .For _ _ [.For _ e _ _ _] _ _ :: _ => e
  | _ => .Constant .none 0 ⟨0, 0, 0, 0⟩
theorem it0_eq : it0 = litA := by kernel_rfl
theorem it1_eq : it1 = litB := by kernel_rfl
theorem body_eq : defBody s_law = forWith2 st0 it0 it1 :: (defBody s_law).drop 1 := by kernel_rfl
theorem ps_forF {X : Cx} {tg iter : Expr} {body : List Stmt} {wi : TI} {g : TG} {tb : TS} {pos : Pos} (hs : ∀ x, foldedSetIterable iter X.env x = pure x) (hp : PassesOwn (model X.prog X.w) X.A X.env X.xe) (hc : X.calm = true) (hi : PI X tg iter wi) (hg : PG X tg g) (hb : PSs X body tb) : PS X (.For tg iter body [] pos) (tFor wi g tb) := ps_for hp hc hi hg hb hs
theorem fold0 (env : Env) (v : Value) : foldedSetIterable it0 env v = pure v := by
  rw [it0_eq]
  rfl
theorem fold1 (env : Env) (v : Value) : foldedSetIterable it1 env v = pure v := by
  rw [it1_eq]
  rfl
theorem pe_it0 {X : Cx} : PE X it0 (tLst (tCons (tTup tNil) (tCons (tTup (tCons (tC (.int 0)) tNil)) (tCons (tTup (tCons (tC (.int 0)) (tCons (tC (.int 1)) tNil))) (tCons (tTup (tCons (tC (.int 1)) (tCons (tC (.int 0)) tNil))) (tCons (tTup (tCons (tC (.int 0)) (tCons (tC (.int 1)) (tCons (tC (.int 0)) tNil)))) (tCons (tC .non) (tCons (tLst (tCons (tC (.int 0)) (tCons (tC (.int 1)) tNil))) (tCons (tTup (tCons (tC (.bl false)) (tCons (tC (.bl true)) tNil))) tNil))))))))) := by
  exact it0_eq ▸ @pe_litA X
theorem pe_it1 {X : Cx} : PE X it1 (tLst (tCons (tTup (tCons (tC (.int 1)) (tCons (tTup tNil) tNil))) (tCons (tTup (tCons (tC (.int 2)) (tCons (tTup (tCons (tTup (tCons (tC (.int 0)) (tCons (tC (.int 1)) tNil))) (tCons (tTup (tCons (tC (.int 1)) (tCons (tC (.int 0)) tNil))) tNil))) tNil))) (tCons (tTup (tCons (tC (.int 2)) (tCons (tTup (tCons (tTup (tCons (tC (.int 1)) (tCons (tC (.int 0)) tNil))) tNil)) tNil))) tNil)))) := by
  exact it1_eq ▸ @pe_litB X
theorem forl_in {K : Frag} {te : TE} {g : TG} {tb : TS} {D : Ends} {σ : St} {H : Hp} (h : te σ H fun x H1 => ∃ a, x = .ref a ∧ (∃ xs, SqL K H1 a xs) ∧ tFor (fun _ H' R => R (Itl K a) H') g tb D σ H1) : tFor (iList K te) g tb D σ H := h
theorem sforl_in {K : Frag} {te : TE} {g : TG} {tb u : TS} {D : Ends} {σ : St} {H : Hp} (h : te σ H fun x H1 => ∃ a, x = .ref a ∧ (∃ xs, SqL K H1 a xs) ∧ tSeq (tFor (fun _ H' R => R (Itl K a) H') g tb) u D σ H1) : tSeq (tFor (iList K te) g tb) u D σ H := h
section
variable {B : Hp} {σ : St}
def TgE (H : Hp) (v : V) : Prop := ∃ o, Tg H v o
theorem TgE.mono {H H' : Hp} {v : V} (h : TgE H v) (s : Same H H') : TgE H' v := h.imp fun _ t => t.mono s
def nA (B : Hp) (σ : St) (t : TA) (n : Nat) : Prop := ∀ H Q, Same B H → (∀ vs H', Same H H' → (∀ v ∈ vs, ∃ T, Dat H' v T) → vs.length = n → Q vs H') → t σ H Q
def nO (B : Hp) (σ : St) (t : TE) : Prop := ∀ H Q, Same B H → (∀ v H', Same H H' → TgE H' v → Q v H') → t σ H Q
def nT (B : Hp) (σ : St) (t : TA) (n : Nat) : Prop := ∀ H Q, Same B H → (∀ vs H', Same H H' → (∀ v ∈ vs, TgE H' v) → vs.length = n → Q vs H') → t σ H Q
theorem na_nil : nA B σ tNil 0 := fun H Q s h => h [] H (Same.refl _) (fun y hy => (nomatch hy)) rfl
theorem na_int {i : Int} {t : TA} {n : Nat} (h : nA B σ t n) : nA B σ (tCons (tC (.int i)) t) (n + 1) := fun H Q s k => h H _ s fun vs H' s' d l => k _ H' s' (fun v hv => by
  rcases List.mem_cons.mp hv with rfl | hv
  · exact ⟨_, .int i⟩
  · exact d v hv) (congrArg Nat.succ l)
theorem na_bl {b : Bool} {t : TA} {n : Nat} (h : nA B σ t n) : nA B σ (tCons (tC (.bl b)) t) (n + 1) := fun H Q s k => h H _ s fun vs H' s' d l => k _ H' s' (fun v hv => by
  rcases List.mem_cons.mp hv with rfl | hv
  · exact ⟨_, .bl b⟩
  · exact d v hv) (congrArg Nat.succ l)
theorem no_tup {t : TA} {n : Nat} (h : nA B σ t n) (hn : n ≤ 60 := by decide) : nO B σ (tTup t) := fun H Q s k => h H _ s fun vs H' s' d l => ⟨Nat.le_of_lt (small1000 (by omega)), fun p hp => k _ _ (s'.trans (Same.upd hp)) (tg_tup upd_same (fun y hy => (d y hy).imp fun _ q => q.mono (Same.upd hp)) (by omega))⟩
theorem no_lst {t : TA} {n : Nat} (h : nA B σ t n) (hn : n ≤ 60 := by decide) : nO B σ (tLst t) := fun H Q s k => h H _ s fun vs H' s' d l => ⟨Nat.le_of_lt (small1000 (by omega)), fun p hp => k _ _ (s'.trans (Same.upd hp)) ⟨_, .oth (.lst upd_same) (by decide)⟩⟩
theorem no_non : nO B σ (tC .non) := fun H Q s k => k _ H (Same.refl _) ⟨_, .oth .non (by decide)⟩
theorem nt_nil : nT B σ tNil 0 := fun H Q s h => h [] H (Same.refl _) (fun y hy => (nomatch hy)) rfl
theorem nt_cons {x : TE} {t : TA} {n : Nat} (hx : nO B σ x) (h : nT B σ t n) : nT B σ (tCons x t) (n + 1) := fun H Q s k => hx H _ s fun v H1 s1 d => h H1 _ (s.trans s1) fun vs H' s' e l => k _ H' (s1.trans s') (fun u hu => by
  rcases List.mem_cons.mp hu with rfl | hu
  · exact d.mono s'
  · exact e u hu) (congrArg Nat.succ l)
theorem tmA_in {Q : VK} {H : Hp} (k : ∀ x vs H', Same H H' → H' x = some (.lst vs) → (∀ v ∈ vs, TgE H' v) → vs.length ≤ 60 → Q (.ref x) H') : (tLst (tCons (tTup tNil) (tCons (tTup (tCons (tC (.int 0)) tNil)) (tCons (tTup (tCons (tC (.int 0)) (tCons (tC (.int 1)) tNil))) (tCons (tTup (tCons (tC (.int 1)) (tCons (tC (.int 0)) tNil))) (tCons (tTup (tCons (tC (.int 0)) (tCons (tC (.int 1)) (tCons (tC (.int 0)) tNil)))) (tCons (tC .non) (tCons (tLst (tCons (tC (.int 0)) (tCons (tC (.int 1)) tNil))) (tCons (tTup (tCons (tC (.bl false)) (tCons (tC (.bl true)) tNil))) tNil))))))))) σ H Q := by
  have h : nT H σ (tCons (tTup tNil) (tCons (tTup (tCons (tC (.int 0)) tNil)) (tCons (tTup (tCons (tC (.int 0)) (tCons (tC (.int 1)) tNil))) (tCons (tTup (tCons (tC (.int 1)) (tCons (tC (.int 0)) tNil))) (tCons (tTup (tCons (tC (.int 0)) (tCons (tC (.int 1)) (tCons (tC (.int 0)) tNil)))) (tCons (tC .non) (tCons (tLst (tCons (tC (.int 0)) (tCons (tC (.int 1)) tNil))) (tCons (tTup (tCons (tC (.bl false)) (tCons (tC (.bl true)) tNil))) tNil)))))))) 8 := nt_cons (no_tup na_nil) (nt_cons (no_tup (na_int na_nil)) (nt_cons (no_tup (na_int (na_int na_nil))) (nt_cons (no_tup (na_int (na_int na_nil))) (nt_cons (no_tup (na_int (na_int (na_int na_nil)))) (nt_cons no_non (nt_cons (no_lst (na_int (na_int na_nil))) (nt_cons (no_tup (na_bl (na_bl na_nil))) nt_nil)))))))
  exact h H _ (Same.refl _) fun vs H1 s1 d l => ⟨Nat.le_of_lt (small1000 (by omega)), fun p hp => k p vs _ (s1.trans (Same.upd hp)) upd_same (fun v hv => (d v hv).mono (Same.upd hp)) (by omega)⟩
def nR (B : Hp) (σ : St) (t : TA) (ars : List (Int × Int)) : Prop := ∀ H Q, Same B H → (∀ us H', Same H H' → Ars H' us ars → Q us H') → t σ H Q
theorem nr_nil : nR B σ tNil [] := fun H Q s h => h [] H (Same.refl _) .nil
theorem nr_cons {x y : Int} {t : TA} {ars : List (Int × Int)} (h : nR B σ t ars) : nR B σ (tCons (tTup (tCons (tC (.int x)) (tCons (tC (.int y)) tNil))) t) ((x, y) :: ars) := fun H Q s k =>
  ⟨(by show 2 ≤ sizeLine; decide), fun p hp => h _ _ (s.trans (Same.upd hp)) fun us H' s' a => k _ H' ((Same.upd hp).trans s') (.cons ⟨p, rfl, s' _ _ upd_same⟩ a)⟩
def GWs (H : Hp) (v : V) : Prop := ∃ (a t : Addr) (m : Int) (us : List V) (ars : List (Int × Int)), v = .ref a ∧ Web H a t m us ars ∧ GoodA m ars
theorem GWs.mono {H H' : Hp} {v : V} (h : GWs H v) (s : Same H H') : GWs H' v := by
  obtain ⟨a, t, m, us, ars, e, W, g⟩ := h
  exact ⟨a, t, m, us, ars, e, W.mono s, g⟩
def nW (B : Hp) (σ : St) (t : TE) : Prop := ∀ H Q, Same B H → (∀ v H', Same H H' → GWs H' v → Q v H') → t σ H Q
theorem nw_web {m : Int} {t : TA} {ars : List (Int × Int)} (h : nR B σ t ars) (l : ars.length ≤ 1000 := by decide) (mb : 0 ≤ m ∧ m ≤ 1000 := by decide) (g : GoodA m ars := by unfold GoodA; decide) : nW B σ (tTup (tCons (tC (.int m)) (tCons (tTup t) tNil))) := fun H Q s k =>
  h H _ s fun us H1 s1 a => by
    have la := arsLen a
    refine ⟨Nat.le_of_lt (small1000 (by omega)), fun p hp => ⟨(by show 2 ≤ sizeLine; decide), fun q hq => k _ _ ((s1.trans (Same.upd hp)).trans (Same.upd hq)) ⟨q, p, m, us, ars, rfl, ⟨upd_same, ?_, ?_, by omega, mb⟩, g⟩⟩⟩
    · exact Same.upd hq _ _ upd_same
    · exact (a.mono (Same.upd hp)).mono (Same.upd hq)
def nWs (B : Hp) (σ : St) (t : TA) (n : Nat) : Prop := ∀ H Q, Same B H → (∀ vs H', Same H H' → (∀ v ∈ vs, GWs H' v) → vs.length = n → Q vs H') → t σ H Q
theorem nws_nil : nWs B σ tNil 0 := fun H Q s h => h [] H (Same.refl _) (fun y hy => (nomatch hy)) rfl
theorem nws_cons {x : TE} {t : TA} {n : Nat} (hx : nW B σ x) (h : nWs B σ t n) : nWs B σ (tCons x t) (n + 1) := fun H Q s k => hx H _ s fun v H1 s1 d => h H1 _ (s.trans s1) fun vs H' s' e l => k _ H' (s1.trans s') (fun u hu => by
  rcases List.mem_cons.mp hu with rfl | hu
  · exact d.mono s'
  · exact e u hu) (congrArg Nat.succ l)
theorem tmB_in {Q : VK} {H : Hp} (k : ∀ x vs H', Same H H' → H' x = some (.lst vs) → (∀ v ∈ vs, GWs H' v) → vs.length ≤ 60 → Q (.ref x) H') : (tLst (tCons (tTup (tCons (tC (.int 1)) (tCons (tTup tNil) tNil))) (tCons (tTup (tCons (tC (.int 2)) (tCons (tTup (tCons (tTup (tCons (tC (.int 0)) (tCons (tC (.int 1)) tNil))) (tCons (tTup (tCons (tC (.int 1)) (tCons (tC (.int 0)) tNil))) tNil))) tNil))) (tCons (tTup (tCons (tC (.int 2)) (tCons (tTup (tCons (tTup (tCons (tC (.int 1)) (tCons (tC (.int 0)) tNil))) tNil)) tNil))) tNil)))) σ H Q := by
  have h : nWs H σ (tCons (tTup (tCons (tC (.int 1)) (tCons (tTup tNil) tNil))) (tCons (tTup (tCons (tC (.int 2)) (tCons (tTup (tCons (tTup (tCons (tC (.int 0)) (tCons (tC (.int 1)) tNil))) (tCons (tTup (tCons (tC (.int 1)) (tCons (tC (.int 0)) tNil))) tNil))) tNil))) (tCons (tTup (tCons (tC (.int 2)) (tCons (tTup (tCons (tTup (tCons (tC (.int 1)) (tCons (tC (.int 0)) tNil))) tNil)) tNil))) tNil))) 3 := nws_cons (nw_web nr_nil) (nws_cons (nw_web (nr_cons (nr_cons nr_nil))) (nws_cons (nw_web (nr_cons nr_nil)) nws_nil))
  exact h H _ (Same.refl _) fun vs H1 s1 d l => ⟨Nat.le_of_lt (small1000 (by omega)), fun p hp => k p vs _ (s1.trans (Same.upd hp)) upd_same (fun v hv => (d v hv).mono (Same.upd hp)) (by omega)⟩
end
end Hk

namespace Hk
open PySem L2 PySem.W
section
variable {P : Program} {w : World} {K : Frag} {mg : Str → Option Value} {base : Heap}
def spLaw (K : Frag) : Sp := fun vs H Q _ => ∃ (a : Addr) (ns : List Int), vs = [.ref a] ∧ SqL K H a (ns.map V.int) ∧ ns.length ≤ 63 ∧ ∀ H', Q (.bl true) H'
theorem ok_law {fl : Addr} {fd : FuncData} (F : Fun K "law" "law" s_law fl fd) (fr : Free mg ["range", "tuple"])
    (kc : Kn P w K mg base 1 "_law_cell_at" ["script", "k"] (spCell K)) (kp : Kn P w K mg base 1 "_law_pen_of" ["cell"] spPen) (kw : Kn P w K mg base 3 "_law_web_by" ["pen", "most"] spWebByS)
    (kwa : Kn P w K mg base 3 "_law_walk" ["web", "pen"] spWalk) (ks : Kn P w K mg base 2 "_law_sunk" ["web"] spSunkA) (kb : Kn P w K mg base 3 "_law_bent" ["thing", "pen"] spBentA) (krt : Kn P w K mg base 5 "_law_right" ["web", "thing"] spRt) :
    FnOk P w K mg base CX0 6 fl fd ["script"] (spLaw K) := by
  have sc : FnScope ["script", "thing", "web", "cell", "pen", "turn"] ["script"] (defScope s_law) := ⟨rfl, rfl, rfl, by decide +kernel, rfl, by decide +kernel, by decide +kernel⟩
  refine F.ok (N := ["script", "thing", "web", "cell", "pen", "turn"]) sc (fun vs H Q E h => ?_) (fun cdv A outer s H vs Q E hr h => ?_)
  · obtain ⟨a, ns, rfl, _⟩ := h
    rfl
  · obtain ⟨a, ns, rfl, ha, hn, kk⟩ := h
    have r1 := hr.mono (j := 1) (by decide)
    have r2 := hr.mono (j := 2) (by decide)
    have r3 := hr.mono (j := 3) (by decide)
    have m_range := fr "range" (by simp)
    have m_tuple := fr "tuple" (by simp)
    rw [body_eq]
    refine ⟨_, (pss_cons (ps_forF (fold0 _) PassesOwn.never rfl (pi_list (@pe_it0 (cxOf CX0 P w K mg base ["script", "thing", "web", "cell", "pen", "turn"] "law" (defScope s_law) fl cdv A outer s H E).nox)) (pg_name (i := 1) sc.nd rfl (Or.inl rfl)) (pss_one (ps_forF (fold1 _) PassesOwn.never rfl (pi_list (@pe_it1 (cxOf CX0 P w K mg base ["script", "thing", "web", "cell", "pen", "turn"] "law" (defScope s_law) fl cdv A outer s H E).nox)) (pg_name (i := 2) sc.nd rfl (Or.inl rfl)) (pss_one (ps_if (pt_not (pt_call (pe_kn krt hr (pa_cons (pv 2) (pa_cons (pv 1) pa_nil))))) (pss_one (ps_ret pe_bl)) pss_nil))))) (pss_cons (ps_for PassesOwn.never rfl (pi_list (pe_op op_cat (pe_lst (pa_cons (pe_kn kc r1 (pa_cons (pv 0) (pa_cons pe_int pa_nil))) pa_nil)) (pe_slice sl_list (pv 0) (po_some pe_int) (po_some pe_int)))) (pg_name (i := 3) sc.nd rfl (Or.inl rfl)) (pss_cons (ps_set (i := 4) sc.nd rfl (Or.inl rfl) (pe_kn kp r1 (pa_cons (pv 3) pa_nil))) (pss_cons (ps_set (i := 2) sc.nd rfl (Or.inl rfl) (pe_kn kw r3 (pa_cons (pv 4) (pa_cons pe_int pa_nil)))) (pss_one (ps_for PassesOwn.never rfl (pi_list (pe_lst (pa_cons (pe_kn kwa r3 (pa_cons (pv 2) (pa_cons (pv 4) pa_nil))) (pa_cons (pe_kn ks r2 (pa_cons (pv 2) pa_nil)) (pa_cons (pe_callTy (call_tuple_rng rfl) rfl m_tuple boot_ttuple (pa_cons (pe_callTy call_rng1 rfl m_range boot_trng (pa_cons (pe_ix ix_tup (pv 2) pe_int (fun _ _ => rfl)) pa_nil)) pa_nil)) pa_nil))))) (pg_name (i := 1) sc.nd rfl (Or.inl rfl)) (pss_cons (ps_if (pt_not (pt_call (pe_kn krt hr (pa_cons (pv 2) (pa_cons (pv 1) pa_nil))))) (pss_one (ps_ret pe_bl)) pss_nil) (pss_one (ps_for PassesOwn.never rfl (pi_range1 rfl m_range (pa_cons pe_int pa_nil)) (pg_name (i := 5) sc.nd rfl (Or.inl rfl)) (pss_one (ps_if (pt_not (pt_call (pe_kn krt hr (pa_cons (pv 2) (pa_cons (pe_kn kb r3 (pa_cons (pv 1) (pa_cons (pv 4) pa_nil))) pa_nil))))) (pss_one (ps_ret pe_bl)) pss_nil)))))))))) (pss_one (ps_ret pe_bl)))), ?_⟩
    have c1 : 1 ≤ sizeLine := by decide
    refine sforl_in (tmA_in fun L vs H1 s1 hL tg lv => ?_)
    refine ⟨L, rfl, ⟨_, SqL.of hL⟩, for_list (K := K) (xs := vs) (fun i σ H2 => ∃ v1 v2 : Option V, σ = [some (.ref a), v1, v2, none, none, none] ∧ Same H1 H2) ⟨_, _, rfl, Same.refl _⟩ (fun i σ H2 _ ⟨_, _, _, s2⟩ => SqL.of (s2 _ _ hL)) ?_ ?_⟩
    · rintro i y σ H2 hi ⟨v1, v2, rfl, s2⟩
      refine gname_in ?_
      dsimp only
      refine forl_in (tmB_in fun L2 ws H3 s3 hL2 gw lw => ?_)
      refine ⟨L2, rfl, ⟨_, SqL.of hL2⟩, for_list (K := K) (xs := ws) (fun j σ H4 => ∃ v2 : Option V, σ = [some (.ref a), some y, v2, none, none, none] ∧ Same H3 H4) ⟨_, rfl, Same.refl _⟩ (fun i σ H2 _ ⟨_, _, s2⟩ => SqL.of (s2 _ _ hL2)) ?_ ?_⟩
      · rintro j z σ H4 hj ⟨v2, rfl, s4⟩
        refine gname_in ?_
        dsimp only
        obtain ⟨wa, t, m, us, ars, rfl, W, ga⟩ := (gw z (List.mem_of_getElem? hj)).mono s4
        obtain ⟨o, ty⟩ := ((tg y (List.mem_of_getElem? hi)).mono (s2.trans s3)).mono s4
        refine ⟨_, rfl, _, rfl, wa, t, y, m, us, ars, o, rfl, W, ga, ty, fun H5 s5 => ⟨_, rfl, iteF ⟨_, rfl, s4.trans s5⟩⟩⟩
      · rintro σ H4 ⟨v2, rfl, s4⟩
        exact ⟨_, _, rfl, s2.trans (s3.trans s4)⟩
    rintro σ H2 ⟨v1, v2, rfl, s2⟩
    have ha := (s1.trans s2).seq ha
    refine ⟨_, rfl, a, ns, 0, rfl, ha, fun n0 => ⟨c1, fun l1 hl1 => ?_⟩⟩
    have ha3 : SqL K _ a (ns.map V.int) := (Same.upd (o := .lst [.int n0]) hl1).seq ha
    refine ⟨_, rfl, 1, rfl, 4, rfl, a, _, rfl, ha3, fun l2 hl2 => ?_⟩
    refine ⟨l1, l2, _, _, rfl, rfl, Same.upd hl2 _ _ upd_same, upd_same, ?_, fun M2 hM2 => ?_⟩
    · have := cutV_length (ns.map V.int) (some 1) (some 4)
      rw [List.length_map] at this
      show 1 + _ ≤ sizeLine
      exact Nat.le_of_lt (small1000 (by omega))
    have allInt : ∀ v ∈ [V.int n0] ++ cutV (ns.map V.int) (some 1) (some 4), ∃ n : Int, v = .int n := by
      intro v hv
      rcases List.mem_append.mp hv with z | z
      · exact ⟨n0, by simpa using z⟩
      · unfold cutV at z
        obtain ⟨n, _, rfl⟩ := List.mem_map.mp (List.mem_of_mem_drop (List.mem_of_mem_take z))
        exact ⟨n, rfl⟩
    have hM3 : (upd (upd (upd H2 l1 (.lst [.int n0])) l2 (.lst (cutV (ns.map V.int) (some 1) (some 4)))) M2 (.lst ([V.int n0] ++ cutV (ns.map V.int) (some 1) (some 4)))) M2 = some (.lst ([V.int n0] ++ cutV (ns.map V.int) (some 1) (some 4))) := upd_same
    generalize upd (upd (upd H2 l1 (.lst [.int n0])) l2 (.lst (cutV (ns.map V.int) (some 1) (some 4)))) M2 (.lst ([V.int n0] ++ cutV (ns.map V.int) (some 1) (some 4))) = HF at hM3
    generalize [V.int n0] ++ cutV (ns.map V.int) (some 1) (some 4) = CS at hM3 allInt
    refine ⟨M2, rfl, ⟨_, SqL.of hM3⟩, for_list (K := K) (xs := CS) (fun i σ H4 => ∃ v1 v2 v3 v4 v5 : Option V, σ = [some (.ref a), v1, v2, v3, v4, v5] ∧ H4 M2 = some (.lst CS)) ⟨_, _, _, _, _, rfl, hM3⟩ (fun i σ H2 _ ⟨_, _, _, _, _, _, h⟩ => SqL.of h) ?_ ?_⟩
    · rintro i y σ H4 hi ⟨v1, v2, v3, v4, v5, rfl, hM4⟩
      obtain ⟨n, rfl⟩ := allInt y (List.mem_of_getElem? hi)
      refine gname_in ?_
      dsimp only
      refine ⟨_, rfl, n, rfl, fun p H5 s5 hp4 hp5 => ?_⟩
      have nMp : M2 ≠ p := ne_of_none hM4 hp4
      refine gname_in ?_
      dsimp only
      refine ⟨_, rfl, p, 12, rfl, hp5, by decide, by decide, fun wa t m us ars H6 s6 hp6 W m1 m12 ga lu st => ?_⟩
      refine gname_in ?_
      dsimp only
      have hM6 := s6 _ _ nMp (s5 _ _ hM4)
      refine ⟨_, rfl, _, rfl, wa, t, p, m, us, ars, rfl, W, ga, m1, m12, hp6, fun c1' ns1 H7 s7 hp7 hc1 l1 => ?_⟩
      have W7 := Web.but W hp6 s7
      refine ⟨_, rfl, wa, t, m, us, ars, rfl, W7, m1, m12, fun c2' ns2 H8 s8 hc2 l2 => ?_⟩
      have W8 := W7.mono s8
      refine ⟨_, rfl, wa, _, _, _, rfl, rfl, SqT.of W8.top, rfl, m, rfl, fun q hq => ?_⟩
      refine ⟨q, m, rfl, upd_same, by omega, by omega, fun c3' H9 s9 hc3 => ⟨(by show 3 ≤ sizeLine; decide), fun L3 hL3 => ?_⟩⟩
      have k9 := (s8.trans (Same.upd (o := .rng 0 m) hq)).trans s9
      have k10 := Same.upd (o := .lst [.ref c1', .ref c2', .ref c3']) hL3
      have k := k9.trans k10
      have hp10 := hp7.mono k
      have nLp : L3 ≠ p := newp (hp7.mono k9) hL3
      have W10 := W7.mono k
      have hM10 := k _ _ (s7 _ _ nMp hM6)
      have ht : ∀ y ∈ [V.ref c1', .ref c2', .ref c3'], ∃ (c : Addr) (ms : List Int), y = .ref c ∧ upd H9 L3 (.lst [.ref c1', .ref c2', .ref c3']) c = some (.tup (ms.map V.int)) ∧ ms.length ≤ 13 := fun y hy => by
        simp only [List.mem_cons, List.not_mem_nil, or_false] at hy
        rcases hy with rfl | rfl | rfl
        · exact ⟨_, _, rfl, k _ _ hc1, l1⟩
        · exact ⟨_, _, rfl, (((Same.upd (o := .rng 0 m) hq).trans s9).trans k10) _ _ hc2, by omega⟩
        · exact ⟨_, _, rfl, k10 _ _ hc3, by rw [List.length_map, List.length_range]; omega⟩
      have hL10 : upd H9 L3 (.lst [.ref c1', .ref c2', .ref c3']) L3 = some (.lst [.ref c1', .ref c2', .ref c3']) := upd_same
      generalize upd H9 L3 (.lst [.ref c1', .ref c2', .ref c3']) = H10 at hp10 W10 hM10 ht hL10
      refine ⟨L3, rfl, ⟨_, SqL.of hL10⟩, for_list (K := K) (xs := [.ref c1', .ref c2', .ref c3']) (fun i σ H11 => ∃ v1 v5 : Option V, σ = [some (.ref a), v1, some (.ref wa), some (.int n), some (.ref p), v5] ∧ PenAt H11 p ∧ SameBut p H10 H11) ⟨_, _, rfl, hp10, SameBut.refl _ _⟩ (fun i σ H2 _ ⟨_, _, _, _, h⟩ => SqL.of (h _ _ nLp hL10)) ?_ ?_⟩
      · rintro j y σ H11 hj ⟨v1, v5, rfl, hp11, s11⟩
        obtain ⟨c, ms, rfl, hc, lm⟩ := ht y (List.mem_of_getElem? hj)
        have hc11 := s11 _ _ (pen_tup hp10 hc) hc
        have W11 := Web.but W10 hp10 s11
        refine gname_in ?_
        dsimp only
        refine ⟨_, rfl, _, rfl, wa, t, .ref c, m, us, ars, some ms, rfl, W11, ga, .nts hc11 (by omega), fun H12 s12 => ⟨_, rfl, iteF ?_⟩⟩
        have s1012 := s11.trans s12.but
        refine ⟨3, rfl, by decide, by decide, for_range (lo := 0) (n := 3) (fun k σ H13 => ∃ v5 : Option V, σ = [some (.ref a), some (.ref c), some (.ref wa), some (.int n), some (.ref p), v5] ∧ PenAt H13 p ∧ SameBut p H10 H13) ⟨_, rfl, hp11.mono s12, s1012⟩ ?_ ?_⟩
        · rintro k' σ H13 hk ⟨v5, rfl, hp13, s13⟩
          have hc13 := s13 _ _ (pen_tup hp10 hc) hc
          refine gname_in ?_
          dsimp only
          refine ⟨_, rfl, _, rfl, _, rfl, c, p, ms, rfl, hc13, lm, hp13, fun v H14 s14 hp14 ob => ?_⟩
          have s1014 := s13.trans s14
          obtain ⟨o, tg'⟩ := ob.tg
          exact ⟨wa, t, v, m, us, ars, o, rfl, Web.but W10 hp10 s1014, ga, tg', fun H15 s15 => ⟨_, rfl, iteF ⟨_, rfl, hp14.mono s15, s1014.trans s15.but⟩⟩⟩
        · rintro σ H13 ⟨v5, rfl, hp13, s13⟩
          exact ⟨_, _, rfl, hp13, s13⟩
      · rintro σ H11 ⟨v1, v5, rfl, hp11, s11⟩
        exact ⟨_, _, _, _, _, rfl, s11 _ _ nMp hM10⟩
    · rintro σ H4 ⟨v1, v2, v3, v4, v5, rfl, hM4⟩
      exact kk _
end
end Hk

namespace Hk
open PySem L2
structure DF (K : PySem.W.Frag) (x : Str) (st : Stmt) : Prop where
  ex : ∃ (f : Addr) (oc : Value) (od an : Option Addr) (osl : Array (Option Value)) (kV doc pm cdv ct : Value), PySem.W.nsIn K mainGlobals x = some (some (.ref f)) ∧
    K.lookup f = some ⟨oc, od, .func (PySem.W.fnOf x x (defArgs st) (defBody st) (defScope st) .none kV doc pm an cdv ct), osl⟩ ∧ PySem.W.codeIn K cdv x = true ∧ PySem.W.keepIn K (.ref f) = true
theorem DF.of {K : PySem.W.Frag} {x : Str} {st : Stmt} {f : Addr} {oc : Value} {od an : Option Addr} {osl : Array (Option Value)} {kV doc pm cdv ct : Value} (a : PySem.W.nsIn K mainGlobals x = some (some (.ref f)))
    (l : K.lookup f = some ⟨oc, od, .func (PySem.W.fnOf x x (defArgs st) (defBody st) (defScope st) .none kV doc pm an cdv ct), osl⟩) (c : PySem.W.codeIn K cdv x = true) (k : PySem.W.keepIn K (.ref f) = true) : DF K x st := ⟨⟨f, oc, od, an, osl, kV, doc, pm, cdv, ct, a, l, c, k⟩⟩
theorem DF.at {K : PySem.W.Frag} {h : Heap} {mg : Str → Option Value} {x : Str} {st : Stmt} {ps : List Str} (D : DF K x st) (X : K.In h) (G : h.Ns mainGlobals mg)
    (hb : ∀ (kV doc pm : Value) (an : Option Addr) (cdv ct : Value) (us : List Value), us.length = ps.length → bindArgs (PySem.W.fnOf x x (defArgs st) (defBody st) (defScope st) .none kV doc pm an cdv ct) ⟨us, []⟩ = pure (ps.zip us)) : DefAt K mg x st ps := by
  obtain ⟨f, oc, od, an, osl, kV, doc, pm, cdv, ct, a, l, c, k⟩ := D.ex
  exact ⟨f, _, fun_mk l c k, PySem.W.mg_of X G a, (fun_mk l c k).binds hb⟩
theorem all_mk {P : Program} {w : World} {K : PySem.W.Frag} {h : Heap} {mg : Str → Option Value} {fa : Addr} (X : K.In h) (G : h.Ns mainGlobals mg) (hfa : mg "law" = some (.ref fa))
    (d0 : DF K "whole_good" s_whole_good) (d1 : DF K "place_good" s_place_good) (d2 : DF K "unlike_places" s_unlike_places) (d3 : DF K "ring_good" s_ring_good) (d4 : DF K "order_good" s_order_good) (d5 : DF K "_law_cell_at" s_law_cell_at) (d6 : DF K "_law_next" s_law_next) (d7 : DF K "_law_pen_of" s_law_pen_of) (d8 : DF K "_law_draw" s_law_draw) (d9 : DF K "_law_whole" s_law_whole) (d10 : DF K "_law_web_by" s_law_web_by) (d11 : DF K "_law_leads" s_law_leads) (d12 : DF K "_law_ring_good" s_law_ring_good) (d13 : DF K "_law_order_good" s_law_order_good) (d14 : DF K "_law_walk" s_law_walk) (d15 : DF K "_law_sunk" s_law_sunk) (d16 : DF K "_law_bent" s_law_bent) (d17 : DF K "_law_right" s_law_right) (d18 : DF K "law" s_law)
    (z0 : PySem.W.nsIn K mainGlobals "all" = some none) (z1 : PySem.W.nsIn K mainGlobals "bool" = some none) (z2 : PySem.W.nsIn K mainGlobals "enumerate" = some none) (z3 : PySem.W.nsIn K mainGlobals "int" = some none) (z4 : PySem.W.nsIn K mainGlobals "isinstance" = some none) (z5 : PySem.W.nsIn K mainGlobals "len" = some none) (z6 : PySem.W.nsIn K mainGlobals "list" = some none) (z7 : PySem.W.nsIn K mainGlobals "max" = some none) (z8 : PySem.W.nsIn K mainGlobals "min" = some none) (z9 : PySem.W.nsIn K mainGlobals "range" = some none) (z10 : PySem.W.nsIn K mainGlobals "set" = some none) (z11 : PySem.W.nsIn K mainGlobals "sorted" = some none) (z12 : PySem.W.nsIn K mainGlobals "tuple" = some none) (z13 : PySem.W.nsIn K mainGlobals "zip" = some none) :
    ∃ fd : FuncData, (∀ (s : Shared) (v : Value), BindsTo s fd ⟨[v], []⟩ [("script", v)]) ∧ ∀ base : Heap, K.In base → base.Ns mainGlobals mg → FnOk P w K mg base CX0 6 fa fd ["script"] (spLaw K) := by
  have D0 := d0.at (ps := ["thing"]) X G fun _ _ _ _ _ _ us hl => match us, hl with | [_], _ => rfl
  have D1 := d1.at (ps := ["web", "thing"]) X G fun _ _ _ _ _ _ us hl => match us, hl with | [_, _], _ => rfl
  have D2 := d2.at (ps := ["web", "thing"]) X G fun _ _ _ _ _ _ us hl => match us, hl with | [_, _], _ => rfl
  have D3 := d3.at (ps := ["web", "thing"]) X G fun _ _ _ _ _ _ us hl => match us, hl with | [_, _], _ => rfl
  have D4 := d4.at (ps := ["web", "thing"]) X G fun _ _ _ _ _ _ us hl => match us, hl with | [_, _], _ => rfl
  have D5 := d5.at (ps := ["script", "k"]) X G fun _ _ _ _ _ _ us hl => match us, hl with | [_, _], _ => rfl
  have D6 := d6.at (ps := ["seed"]) X G fun _ _ _ _ _ _ us hl => match us, hl with | [_], _ => rfl
  have D7 := d7.at (ps := ["cell"]) X G fun _ _ _ _ _ _ us hl => match us, hl with | [_], _ => rfl
  have D8 := d8.at (ps := ["pen", "many"]) X G fun _ _ _ _ _ _ us hl => match us, hl with | [_, _], _ => rfl
  have D9 := d9.at (ps := ["found"]) X G fun _ _ _ _ _ _ us hl => match us, hl with | [_], _ => rfl
  have D10 := d10.at (ps := ["pen", "most"]) X G fun _ _ _ _ _ _ us hl => match us, hl with | [_, _], _ => rfl
  have D11 := d11.at (ps := ["web", "place"]) X G fun _ _ _ _ _ _ us hl => match us, hl with | [_, _], _ => rfl
  have D12 := d12.at (ps := ["web", "thing"]) X G fun _ _ _ _ _ _ us hl => match us, hl with | [_, _], _ => rfl
  have D13 := d13.at (ps := ["web", "thing"]) X G fun _ _ _ _ _ _ us hl => match us, hl with | [_, _], _ => rfl
  have D14 := d14.at (ps := ["web", "pen"]) X G fun _ _ _ _ _ _ us hl => match us, hl with | [_, _], _ => rfl
  have D15 := d15.at (ps := ["web"]) X G fun _ _ _ _ _ _ us hl => match us, hl with | [_], _ => rfl
  have D16 := d16.at (ps := ["thing", "pen"]) X G fun _ _ _ _ _ _ us hl => match us, hl with | [_, _], _ => rfl
  have D17 := d17.at (ps := ["web", "thing"]) X G fun _ _ _ _ _ _ us hl => match us, hl with | [_, _], _ => rfl
  obtain ⟨f, oc, od, an, osl, kV, doc, pm, cdv, ct, a, l, c, k⟩ := d18.ex
  have e := hfa.symm.trans (PySem.W.mg_of X G a)
  cases e
  have F := fun_mk (st := s_law) l c k
  have y0 := PySem.W.mg_none_of X G z0
  have y1 := PySem.W.mg_none_of X G z1
  have y2 := PySem.W.mg_none_of X G z2
  have y3 := PySem.W.mg_none_of X G z3
  have y4 := PySem.W.mg_none_of X G z4
  have y5 := PySem.W.mg_none_of X G z5
  have y6 := PySem.W.mg_none_of X G z6
  have y7 := PySem.W.mg_none_of X G z7
  have y8 := PySem.W.mg_none_of X G z8
  have y9 := PySem.W.mg_none_of X G z9
  have y10 := PySem.W.mg_none_of X G z10
  have y11 := PySem.W.mg_none_of X G z11
  have y12 := PySem.W.mg_none_of X G z12
  have y13 := PySem.W.mg_none_of X G z13
  refine ⟨PySem.W.fnOf "law" "law" (defArgs s_law) (defBody s_law) (defScope s_law) .none kV doc pm an cdv ct, fun s v => .of_eq rfl, fun base _ _ => ?_⟩
  have K0 := kn_whole (P := P) (w := w) (base := base) D0 (fun z hz => by
      simp only [List.mem_cons, List.not_mem_nil, or_false] at hz
      rcases hz with rfl | rfl | rfl
      · exact y4
      · exact y3
      · exact y1) 
  have K1 := kn_place (P := P) (w := w) (base := base) D1  K0
  have K2 := kn_unlA (P := P) (w := w) (base := base) D2 (fun z hz => by
      simp only [List.mem_cons, List.not_mem_nil, or_false] at hz
      rcases hz with rfl | rfl | rfl | rfl | rfl
      · exact y0
      · exact y4
      · exact y5
      · exact y10
      · exact y12) K1
  have K3 := kn_rgA (P := P) (w := w) (base := base) D3 (fun z hz => by
      simp only [List.mem_cons, List.not_mem_nil, or_false] at hz
      rcases hz with rfl | rfl | rfl
      · exact y0
      · exact y5
      · exact y13) K2
  have K4 := kn_ogA (P := P) (w := w) (base := base) D4 (fun z hz => by
      simp only [List.mem_cons, List.not_mem_nil, or_false] at hz
      rcases hz with rfl | rfl | rfl
      · exact y0
      · exact y2
      · exact y5) K2
  have K5 := kn_cell (P := P) (w := w) (base := base) D5 (fun z hz => by
      simp only [List.mem_cons, List.not_mem_nil, or_false] at hz
      rcases hz with rfl
      · exact y5) 
  have K6 := kn_next (P := P) (w := w) (base := base) D6  
  have K7 := kn_pen (P := P) (w := w) (base := base) D7 (fun z hz => by
      simp only [List.mem_cons, List.not_mem_nil, or_false] at hz
      rcases hz with rfl | rfl
      · exact y7
      · exact y3) 
  have K8 := kn_draw (P := P) (w := w) (base := base) D8  K6
  have K9 := kn_lawWhole (P := P) (w := w) (base := base) D9 (fun z hz => by
      simp only [List.mem_cons, List.not_mem_nil, or_false] at hz
      rcases hz with rfl | rfl | rfl
      · exact y4
      · exact y3
      · exact y1) 
  have K10 := kn_webby2S (P := P) (w := w) (base := base) D10 (fun z hz => by
      simp only [List.mem_cons, List.not_mem_nil, or_false] at hz
      rcases hz with rfl | rfl | rfl | rfl | rfl | rfl
      · exact y9
      · exact y12
      · exact y11
      · exact y6
      · exact y8
      · exact y7) K8
  have K11 := kn_leadsN (P := P) (w := w) (base := base) D11  
  have K12 := kn_lrA (P := P) (w := w) (base := base) D12 (fun z hz => by
      simp only [List.mem_cons, List.not_mem_nil, or_false] at hz
      rcases hz with rfl | rfl | rfl | rfl | rfl | rfl
      · exact y0
      · exact y4
      · exact y5
      · exact y9
      · exact y10
      · exact y12) K9
  have K13 := kn_loA (P := P) (w := w) (base := base) D13 (fun z hz => by
      simp only [List.mem_cons, List.not_mem_nil, or_false] at hz
      rcases hz with rfl | rfl | rfl | rfl | rfl | rfl
      · exact y0
      · exact y4
      · exact y6
      · exact y9
      · exact y11
      · exact y12) K9
  have K14 := kn_walk (P := P) (w := w) (base := base) D14 (fun z hz => by
      simp only [List.mem_cons, List.not_mem_nil, or_false] at hz
      rcases hz with rfl | rfl | rfl
      · exact y5
      · exact y9
      · exact y12) K8 K11
  have K15 := kn_sunkA (P := P) (w := w) (base := base) D15 (fun z hz => by
      simp only [List.mem_cons, List.not_mem_nil, or_false] at hz
      rcases hz with rfl | rfl | rfl
      · exact y0
      · exact y9
      · exact y12) K11
  have K16 := kn_bentA (P := P) (w := w) (base := base) D16 (fun z hz => by
      simp only [List.mem_cons, List.not_mem_nil, or_false] at hz
      rcases hz with rfl | rfl
      · exact y5
      · exact y6) K8
  have K17 := kn_rt05 (P := P) (w := w) (base := base) D17 (fun z hz => by
      simp only [List.mem_cons, List.not_mem_nil, or_false] at hz
      rcases hz with rfl | rfl
      · exact y1
      · exact y4) K3 K4 K12 K13
  exact ok_law F (fun z hz => by
      simp only [List.mem_cons, List.not_mem_nil, or_false] at hz
      rcases hz with rfl | rfl
      · exact y9
      · exact y12) K5 K7 K10 K14 K15 K16 K17
theorem walk {l : PySem.W.OpenLaw} {q : Program} {loose : List Str} {XP : (Str → Option Value) → Heap → Prop} {YP : World → Heap → Prop} {d : DefRec} {K : Params → PySem.W.Frag} (hn : l.most = some 63) (hdf : d.params.defaults = [])
    (hY : ∀ (w : World) (h : Heap), YP w h → (K w.params).In h)
    (F : ∀ (w : World) (mg : Str → Option Value) (fa : Addr) (h : Heap), (K w.params).In h → h.Ns mainGlobals mg → mg d.name = some (.ref fa) →
      ∃ fd : FuncData, (∀ (s : Shared) (u : Value), BindsTo s fd ⟨[u], []⟩ [("script", u)]) ∧ ∀ base : Heap, (K w.params).In base → base.Ns mainGlobals mg → FnOk l.prog w (K w.params) mg base CX0 6 fa fd ["script"] (spLaw (K w.params))) :
    PySem.W.WalkO q loose XP YP l.row.toRowW d [] (fun f vs => PySem.call f vs) :=
  L2.walk_of (n := 63) (k := 6) (x := "script") (CX := fun _ => CX0) (sp := fun w => spLaw (K w.params)) hn (by decide) hdf ⟨rfl, by decide, by decide, rfl⟩ hY F (fun _ _ a ns hl _ hS => ⟨a, ns, rfl, hS, hl, fun _ => rfl⟩) fun _ _ _ _ _ z => z
end Hk
open PySem PySem.W PyProof.Rows
set_option maxRecDepth 100000 in
set_option maxHeartbeats 0 in
theorem PySem.Challenge.cw_holdsets_k05_rings_and_orders_by_anybody_holds : PySem.Challenge.rw_holdsets_k05_rings_and_orders_by_anybody.Holds := by
  w_on; o_law; k_head; (case hw => w_witness2)
  k_fill
  refine Hk.walk (l := PySem.Challenge.rw_holdsets_k05_rings_and_orders_by_anybody) rfl rfl (fun w h Y => PySem.W.kIn_of Y) ?F
  case F =>
    intro w mg fa h KX G hmg
    refine' Hk.all_mk KX G hmg  ?d0 ?d1 ?d2 ?d3 ?d4 ?d5 ?d6 ?d7 ?d8 ?d9 ?d10 ?d11 ?d12 ?d13 ?d14 ?d15 ?d16 ?d17 ?d18 ?z0 ?z1 ?z2 ?z3 ?z4 ?z5 ?z6 ?z7 ?z8 ?z9 ?z10 ?z11 ?z12 ?z13
    (case d0 => refine' Hk.DF.of ?a ?l ?c ?k; (case a => k_is); (case l => k_is); (case c => k_is); (case k => k_is))
    (case d1 => refine' Hk.DF.of ?a ?l ?c ?k; (case a => k_is); (case l => k_is); (case c => k_is); (case k => k_is))
    (case d2 => refine' Hk.DF.of ?a ?l ?c ?k; (case a => k_is); (case l => k_is); (case c => k_is); (case k => k_is))
    (case d3 => refine' Hk.DF.of ?a ?l ?c ?k; (case a => k_is); (case l => k_is); (case c => k_is); (case k => k_is))
    (case d4 => refine' Hk.DF.of ?a ?l ?c ?k; (case a => k_is); (case l => k_is); (case c => k_is); (case k => k_is))
    (case d5 => refine' Hk.DF.of ?a ?l ?c ?k; (case a => k_is); (case l => k_is); (case c => k_is); (case k => k_is))
    (case d6 => refine' Hk.DF.of ?a ?l ?c ?k; (case a => k_is); (case l => k_is); (case c => k_is); (case k => k_is))
    (case d7 => refine' Hk.DF.of ?a ?l ?c ?k; (case a => k_is); (case l => k_is); (case c => k_is); (case k => k_is))
    (case d8 => refine' Hk.DF.of ?a ?l ?c ?k; (case a => k_is); (case l => k_is); (case c => k_is); (case k => k_is))
    (case d9 => refine' Hk.DF.of ?a ?l ?c ?k; (case a => k_is); (case l => k_is); (case c => k_is); (case k => k_is))
    (case d10 => refine' Hk.DF.of ?a ?l ?c ?k; (case a => k_is); (case l => k_is); (case c => k_is); (case k => k_is))
    (case d11 => refine' Hk.DF.of ?a ?l ?c ?k; (case a => k_is); (case l => k_is); (case c => k_is); (case k => k_is))
    (case d12 => refine' Hk.DF.of ?a ?l ?c ?k; (case a => k_is); (case l => k_is); (case c => k_is); (case k => k_is))
    (case d13 => refine' Hk.DF.of ?a ?l ?c ?k; (case a => k_is); (case l => k_is); (case c => k_is); (case k => k_is))
    (case d14 => refine' Hk.DF.of ?a ?l ?c ?k; (case a => k_is); (case l => k_is); (case c => k_is); (case k => k_is))
    (case d15 => refine' Hk.DF.of ?a ?l ?c ?k; (case a => k_is); (case l => k_is); (case c => k_is); (case k => k_is))
    (case d16 => refine' Hk.DF.of ?a ?l ?c ?k; (case a => k_is); (case l => k_is); (case c => k_is); (case k => k_is))
    (case d17 => refine' Hk.DF.of ?a ?l ?c ?k; (case a => k_is); (case l => k_is); (case c => k_is); (case k => k_is))
    (case d18 => refine' Hk.DF.of ?a ?l ?c ?k; (case a => k_is); (case l => k_is); (case c => k_is); (case k => k_is))
    (case z0 => k_is)
    (case z1 => k_is)
    (case z2 => k_is)
    (case z3 => k_is)
    (case z4 => k_is)
    (case z5 => k_is)
    (case z6 => k_is)
    (case z7 => k_is)
    (case z8 => k_is)
    (case z9 => k_is)
    (case z10 => k_is)
    (case z11 => k_is)
    (case z12 => k_is)
    (case z13 => k_is)


