import PyProof.Rows.All
import Wide.All
import OpenK.AllK
import Wide.FinOn
import Lean
import PyProof.EqAt
import PyProof.EqKinds
import PyProof.TupleCall
import PySem.Challenge.RW_holdsets_k66_whole_holds_counted_togethe
import PyProof.NeKinds
import KE.KSortTup
import KE.KDictSum
import PyProof.Draws
import PyProof.EnumFor
import PyProof.EnumMake
import PyProof.ListRange
import PyProof.TupleOfStr
import OpenK.KMake
import OpenK.KOwn
import OpenK.KRaise
import OpenK.KMore
import KE.KTryMore
import KE.KTryOn
import PyProof.NsDelKeeps
import PyProof.Rows.SumAny
import KE.BitLaws
import KE.KMinKey
import PyProof.Rows.CallKwBuiltin
import PyProof.WalksMore
import PyProof.Rows.TupIter
import PyProof.RangeFor
import PyProof.Rows.SeqRoads
import PyProof.Rows.SeqRange
import PyProof.Rows.FStr
import PyProof.DictWalks
import PyProof.Rows.Range3
import PyProof.Rows.TupIn
import PyProof.ReprRoads
import PyProof.ReprLen
import PyProof.FitsInt
import PyProof.AttrMissHeap
import PyProof.AttrMiss
import PyProof.DictUpdate
import PyProof.CollectWalk
import KE.KDictOf
import PyProof.Walks
import PyProof.WalksS
import KE.KIntText
import PyProof.StrLawsTight
import PyProof.ToksMono
import PyProof.StrCalls6
import PyProof.StrOps2
set_option Elab.async false
set_option linter.all false
set_option maxRecDepth 100000
set_option maxHeartbeats 4000000
/-! ### no twins of the greatest written values: they are not needed, and the compiled text stays small -/
def PySem.W.Fast.tw1789397540923238219 : Unit := ()
def PySem.W.Fast.tw17244696993499541147 : Unit := ()
def PySem.W.Fast.tw17589051490694871560 : Unit := ()
def PySem.W.Fast.tw11555603369054216374 : Unit := ()
def PySem.W.Fast.tw17698040704250413723 : Unit := ()
def PySem.W.Fast.tw2602770282438984304 : Unit := ()
def PySem.W.Fast.tw13108991946452163453 : Unit := ()
def PySem.W.Fast.tw13358727442427918775 : Unit := ()
def PySem.W.Fast.tw14199841876928803264 : Unit := ()
def PySem.W.Fast.tw2081258990766987131 : Unit := ()
def PySem.W.Fast.tw11349323722541323494 : Unit := ()
def PySem.W.Fast.tw17630084903662343131 : Unit := ()
def PySem.W.Fast.tw16715705327215032154 : Unit := ()
def PySem.W.Fast.tw11143836479008384976 : Unit := ()
def PySem.W.Fast.tw11409452817880582539 : Unit := ()
def PySem.W.Fast.tw14871347143620228762 : Unit := ()
def PySem.W.Fast.tw11722963758367663922 : Unit := ()
def PySem.W.Fast.tw9968085443058804321 : Unit := ()
def PySem.W.Fast.tw8934015569807984292 : Unit := ()
def PySem.W.Fast.tw1844501126298032006 : Unit := ()
def PySem.W.Fast.tw4792881796654454636 : Unit := ()
def PySem.W.Fast.tw4161652126578546928 : Unit := ()
def PySem.W.Fast.tw10339504774472230973 : Unit := ()
def PySem.W.Fast.tw3794022924452865798 : Unit := ()
def PySem.W.Fast.tw10462943863262014342 : Unit := ()
def PySem.W.Fast.tw16828008144777119928 : Unit := ()
def PySem.W.Fast.tw16972728371318227741 : Unit := ()
def PySem.W.Fast.tw14646644308156077533 : Unit := ()
def PySem.W.Fast.tw7747793348260710502 : Unit := ()
def PySem.W.Fast.tw9869279051783112953 : Unit := ()
def PySem.W.Fast.tw9364828905992145615 : Unit := ()
def PySem.W.Fast.tw6154723806047171334 : Unit := ()
def PySem.W.Fast.tw14189292087069852337 : Unit := ()
def PySem.W.Fast.tw16080065608128607325 : Unit := ()
def PySem.W.Fast.tw3446116758890376616 : Unit := ()
def PySem.W.Fast.tw11156865682649183917 : Unit := ()
def PySem.W.Fast.tw6921359206006092325 : Unit := ()
def PySem.W.Fast.tw17312954993984161860 : Unit := ()
def PySem.W.Fast.tw4192560391798597474 : Unit := ()
def PySem.W.Fast.tw10489576892895751261 : Unit := ()
def PySem.W.Fast.tw9386051666780851206 : Unit := ()
def PySem.W.Fast.tw4277765625376409202 : Unit := ()
def PySem.W.Fast.tw10464901979171706421 : Unit := ()
def PySem.W.Fast.tw14020734414379907548 : Unit := ()
def PySem.W.Fast.tw5049573497858768420 : Unit := ()
def PySem.W.Fast.tw8852427564224192507 : Unit := ()
def PySem.W.Fast.tw7583505762214965084 : Unit := ()
def PySem.W.Fast.tw5253075242095548894 : Unit := ()
def PySem.W.Fast.tw17063981554202923536 : Unit := ()
def PySem.W.Fast.tw5074064947444208151 : Unit := ()
def PySem.W.Fast.tw16461382589634424457 : Unit := ()
def PySem.W.Fast.tw6946656339600355796 : Unit := ()
def PySem.W.Fast.tw13373814555188918113 : Unit := ()
def PySem.W.Fast.tw1573736000163122881 : Unit := ()
def PySem.W.Fast.tw14827345064268368834 : Unit := ()
def PySem.W.Fast.tw7455610841281951107 : Unit := ()
def PySem.W.Fast.tw10848941104799251223 : Unit := ()
def PySem.W.Fast.tw16562276350189903263 : Unit := ()
def PySem.W.Fast.tw7850905050795551815 : Unit := ()
def PySem.W.Fast.tw3109673221633434017 : Unit := ()
def PySem.W.Fast.tw3320593586677134770 : Unit := ()
def PySem.W.Fast.tw4917305100477307126 : Unit := ()
def PySem.W.Fast.tw17219471667589437203 : Unit := ()
def PySem.W.Fast.tw10414709211249904794 : Unit := ()
def PySem.W.Fast.tw16124727328879564975 : Unit := ()
def PySem.W.Fast.tw15639410103160799428 : Unit := ()
def PySem.W.Fast.tw5216877718653595846 : Unit := ()
def PySem.W.Fast.tw5139126891227251760 : Unit := ()
def PySem.W.Fast.tw8590794838334043311 : Unit := ()
def PySem.W.Fast.tw13948633388364098612 : Unit := ()
def PySem.W.Fast.tw7096113709236613355 : Unit := ()
def PySem.W.Fast.tw4150543854944404149 : Unit := ()
def PySem.W.Fast.tw1758771788890376657 : Unit := ()
def PySem.W.Fast.tw12240317640275204426 : Unit := ()
def PySem.W.Fast.tw7658829778177614019 : Unit := ()
def PySem.W.Fast.tw235732755217142785 : Unit := ()
def PySem.W.Fast.tw17440426694010682036 : Unit := ()
def PySem.W.Fast.tw4780839978707756442 : Unit := ()
def PySem.W.Fast.tw15900259202484291179 : Unit := ()
def PySem.W.Fast.tw3328335722944653361 : Unit := ()

namespace L2
open PySem PySem.Spec PyProof.Rows

abbrev Key := Sum Int Str
def keyIs : Key → Value → Bool
  | .inl k, v => Value.isInt k v
  | .inr x, v => Value.isStrOf x v
def keyH (w : World) : Key → Int
  | .inl k => hashInt k
  | .inr x => hashStr w x
theorem keyIs_shape : ∀ {k : Key} {v : Value}, keyIs k v = true → (∃ i t, k = Sum.inl i ∧ v = Value.int i t) ∨ (∃ x t, k = Sum.inr x ∧ v = Value.str x t)
  | .inl i, v, h => by
    obtain ⟨t, e⟩ := Value.isInt_shape (k := i) (v := v) h
    exact .inl ⟨i, t, rfl, e⟩
  | .inr x, v, h => by
    obtain ⟨t, e⟩ := Value.isStrOf_shape (x := x) (v := v) h
    exact .inr ⟨x, t, rfl, e⟩
theorem keyIs_int (i : Int) (t : Tok) : keyIs (.inl i) (.int i t) = true := by simp [keyIs, Value.isInt]
theorem keyIs_str (x : Str) (t : Tok) : keyIs (.inr x) (.str x t) = true := by simp [keyIs, Value.isStrOf]
theorem key_ll (a b : Int) : decide ((Sum.inl a : Key) = Sum.inl b) = (a == b) := by
  by_cases e : a = b
  · subst e; simp
  · have h : ¬ (Sum.inl a : Key) = Sum.inl b := fun q => e (Sum.inl.inj q)
    rw [decide_eq_false h]
    exact (beq_eq_false_iff_ne.mpr e).symm
theorem key_rr (a b : Str) : decide ((Sum.inr a : Key) = Sum.inr b) = decide (a = b) := by
  by_cases e : a = b
  · subst e; simp
  · have h : ¬ (Sum.inr a : Key) = Sum.inr b := fun q => e (Sum.inr.inj q)
    rw [decide_eq_false h, decide_eq_false e]
theorem key_lr (a : Int) (b : Str) : decide ((Sum.inl a : Key) = Sum.inr b) = false := decide_eq_false (fun q => nomatch q)
theorem key_rl (a : Str) (b : Int) : decide ((Sum.inr a : Key) = Sum.inl b) = false := decide_eq_false (fun q => nomatch q)

def mixKind (prog : Program) (w : World) : PySem.KeyKind prog w Key where
  is := keyIs
  hash := keyH w
  inj := fun v a b ha hb => by
    rcases keyIs_shape ha with ⟨i, t, rfl, rfl⟩ | ⟨x, t, rfl, rfl⟩
    · rcases keyIs_shape hb with ⟨j, u, rfl, e⟩ | ⟨y, u, rfl, e⟩
      · injection e with e1 _; rw [e1]
      · exact nomatch e
    · rcases keyIs_shape hb with ⟨j, u, rfl, e⟩ | ⟨y, u, rfl, e⟩
      · exact nomatch e
      · injection e with e1 _; rw [e1]
  byValue := fun k v h => by
    rcases keyIs_shape h with ⟨i, t, rfl, rfl⟩ | ⟨x, t, rfl, rfl⟩ <;> rfl
  pyHash := fun hv h => by
    rcases keyIs_shape hv with ⟨i, t, rfl, rfl⟩ | ⟨x, t, rfl, rfl⟩
    · exact wpAny_pyHash_int h
    · exact wpAny_pyHash_str h
  eqBool := fun hu hv h => by
    rcases keyIs_shape hu with ⟨i, t, rfl, rfl⟩ | ⟨x, t, rfl, rfl⟩
    · rcases keyIs_shape hv with ⟨j, u, rfl, rfl⟩ | ⟨y, u, rfl, rfl⟩
      · rw [key_ll] at h; exact wpAny_eqBool_int h
      · rw [key_lr] at h; exact SeqAt.EqAt.int_str i t y u _ _ _ _ h
    · rcases keyIs_shape hv with ⟨j, u, rfl, rfl⟩ | ⟨y, u, rfl, rfl⟩
      · rw [key_rl] at h; exact SeqAt.EqAt.str_int x t j u _ _ _ _ h
      · rw [key_rr] at h; exact wpAny_eqBool_str h
  «strs» := fun k x t v h => by
    rcases keyIs_shape h with ⟨i, u, rfl, e⟩ | ⟨y, u, rfl, e⟩
    · exact nomatch e
    · injection e with e1 _
      subst e1
      cases v <;> rfl

theorem mixKind_int (prog : Program) (w : World) (i : Int) (t : Tok) : (mixKind prog w).is (.inl i) (.int i t) = true := keyIs_int i t
theorem mixKind_str (prog : Program) (w : World) (x : Str) (t : Tok) : (mixKind prog w).is (.inr x) (.str x t) = true := keyIs_str x t
end L2

namespace L2
open PySem PySem.Spec PyProof.Rows

inductive V where
  | non | bl (b : Bool) | int (i : Int) | str (x : Str) | byt (b : Array UInt8) | flt (b : UInt64) | ref (a : Addr) | ty (n : String)
  deriving DecidableEq

def RelV : V → Value → Prop
  | .non, u => u = Value.none
  | .bl b, u => u = Value.bool b
  | .int i, u => ∃ t, u = Value.int i t
  | .str x, u => ∃ t, u = Value.str x t
  | .byt b, u => ∃ t, u = Value.bytes b t
  | .flt b, u => ∃ t, u = Value.float b t
  | .ref a, u => u = Value.ref a
  | .ty n, u => u = Value.type n

abbrev Vals : List V → List Value → Prop := Paired RelV
theorem Vals.length {xs : List V} {us : List Value} (r : Vals xs us) : xs.length = us.length := Paired.length r
theorem Vals.get : ∀ {xs : List V} {us : List Value} {i : Nat} {x : V}, Vals xs us → xs[i]? = some x → ∃ u, us[i]? = some u ∧ RelV x u
  | _, _, _, _, .nil, e => by simp at e
  | _, _, 0, _, .cons r _, e => by simp at e; subst e; exact ⟨_, rfl, r⟩
  | _, _, i + 1, x, .cons _ t, e => by
    obtain ⟨u, h1, h2⟩ := Vals.get (i := i) (x := x) t (by simpa using e)
    exact ⟨u, by simpa using h1, h2⟩
theorem Vals.set {x : V} {u : Value} (r : RelV x u) : ∀ {xs : List V} {us : List Value} (i : Nat), Vals xs us → Vals (xs.set i x) (us.set i u)
  | _, _, _, .nil => .nil
  | _, _, 0, .cons _ t => .cons r t
  | _, _, i + 1, .cons q t => .cons q (Vals.set r i t)
theorem Vals.append : ∀ {xs ys : List V} {us ws : List Value}, Vals xs us → Vals ys ws → Vals (xs ++ ys) (us ++ ws)
  | _, _, _, _, .nil, s => s
  | _, _, _, _, .cons r t, s => .cons r (Vals.append t s)
theorem Vals.take : ∀ {xs : List V} {us : List Value} (n : Nat), Vals xs us → Vals (xs.take n) (us.take n)
  | _, _, 0, _ => .nil
  | _, _, _ + 1, .nil => .nil
  | _, _, n + 1, .cons r t => .cons r (Vals.take n t)
theorem Vals.drop : ∀ {xs : List V} {us : List Value} (n : Nat), Vals xs us → Vals (xs.drop n) (us.drop n)
  | _, _, 0, r => r
  | _, _, _ + 1, .nil => .nil
  | _, _, n + 1, .cons _ t => Vals.drop n t
def RelO : Option V → Option Value → Prop
  | some v, some u => RelV v u
  | none, none => True
  | _, _ => False
def KV {κ : Type} : List (κ × V) → List (κ × Value) → Prop := Paired fun (p : κ × V) (q : κ × Value) => p.1 = q.1 ∧ RelV p.2 q.2

def kV : Key → V
  | .inl i => .int i
  | .inr x => .str x

inductive HO where
  /-- a list -/
  | lst (xs : List V)
  /-- a tuple (never changes) -/
  | tup (xs : List V)
  /-- a dict whose keys are ints and texts; one whose keys are tuples of ints and texts (the empty one is both) -/
  | dK (kvs : List (Key × V)) | dT (kvs : List (List Key × V))
  /-- a set of ints: its members, its size -/
  | set (S : Int → Bool) (n : Nat)
  /-- an instance of the class at C, its dict at dx, its attributes -/
  | ins (C dx : Addr) (fs : List (Str × V))
  /-- the dict of the instance at x -/
  | own (x : Addr)
  /-- the dict of an exception -/
  | xd (fs : List (Str × V))
  /-- a bound method, f of x -/
  | met (f x : Addr)
  /-- a range object lo, lo + 1, .. below hi -/
  | rng (lo hi : Int)
  /-- a thing that is known to the object (the script; a dict while a loop walks it): read, never written while it is so -/
  | frz (o : Obj) (u : HO)
  /-- a code object's table -/
  | tbl (ps : Array Value)
  /-- any other thing, by what is true of its one object (a def of one's own: SetO a S n := HO.ext fun h => ..) -/
  | ext (φ : Heap → Prop)

abbrev Hp := Addr → Option HO
def upd (H : Hp) (a : Addr) (o : HO) : Hp := fun b => if b = a then some o else H b
theorem upd_same {H : Hp} {a : Addr} {o : HO} : upd H a o a = some o := by unfold upd; rw [if_pos rfl]
theorem upd_ne {H : Hp} {a b : Addr} {o : HO} (h : b ≠ a) : upd H a o b = H b := by unfold upd; rw [if_neg h]
theorem ne_of {H : Hp} {a b : Addr} {o u : HO} (h : H a = some o) (h' : H b = some u) (d : o ≠ u) : a ≠ b := by
  intro e; subst e; rw [h] at h'; exact d (Option.some.inj h')
theorem ne_of_none {H : Hp} {a b : Addr} {o : HO} (h : H a = some o) (h' : H b = none) : a ≠ b := by
  intro e; subst e; rw [h] at h'; cases h'

section
variable (P : Program) (w : World)
def ObjOk (H : Hp) (h : Heap) (a : Addr) : HO → Prop
  | .lst xs => xs.length ≤ sizeLine ∧ ∃ (its : List Value) (n : Nat), Vals xs its ∧ h.get? a = some { cls := .type "list", data := .seq its.toArray n }
  | .tup xs => xs.length ≤ sizeLine ∧ ∃ its : List Value, Vals xs its ∧ IsTup h a its.toArray
  | .dK kvs => kvs.length ≤ sizeLine ∧ (a == sysModules) = false ∧ ∃ vs, KV kvs vs ∧ h.DictOf (mixKind P w) a vs
  | .dT kvs => kvs.length ≤ sizeLine ∧ (a == sysModules) = false ∧ ∃ xs : List (List Key × Addr × Value),
      Paired (fun (p : List Key × V) (q : List Key × Addr × Value) => p.1 = q.1 ∧ H q.2.1 = some (.tup (p.1.map kV)) ∧ RelV p.2 q.2.2) kvs xs ∧
      ∃ o es ep, h.get? a = some o ∧ o.ExactDict ∧ o.data = .dict es ep ∧ es.toList = xs.map (entryOfKey (tupleKind (mixKind P w))) ∧ (xs.map (·.1)).Nodup
  | .set S n => h.SetOf (intKind P w) a S n
  | .ins C dx fs => H dx = some (.own a) ∧ fs.length ≤ 1000 ∧ dx ≠ a ∧ h.get? a = some (PySem.W.instObj C dx) ∧
      ∃ mA, h.Ns1 dx mA ∧ (∀ f, RelO (fs.lookup f) (mA f)) ∧ PySem.Within mA (fs.map (·.1))
  | .own _ => ∃ o, h.get? a = some o
  | .xd fs => ∃ mA, h.Ns1 a mA ∧ ∀ f, RelO (fs.lookup f) (mA f)
  | .rng lo hi => ∃ t u v, h.get? a = some { cls := .type "range", data := .fields #[.int lo t, .int hi u, .int 1 v] }
  | .frz o u => h.get? a = some o ∧ ObjOk H h a u
  | .tbl ps => h.get? a = some { cls := .none, data := .fields ps }
  | .met f x => h.get? a = some (PySem.W.methodObj (.ref f) (.ref x))
  | .ext φ => φ h ∧ (∃ o, h.get? a = some o) ∧ ∀ h1 h2 : Heap, φ h1 → (∀ o, h1.get? a = some o → h2.get? a = some o) → φ h2
def HOk (H : Hp) (h : Heap) : Prop := ∀ a o, H a = some o → ObjOk P w H h a o
end

section
variable {P : Program} {w : World} {H H' : Hp} {h h' : Heap} {a : Addr} {o : HO}
theorem ObjOk.lt (x : ObjOk P w H h a o) : a < h.objs.size := by
  cases o with
  | lst xs => obtain ⟨_, _, _, _, e⟩ := x; exact Heap.lt_size e
  | tup xs => obtain ⟨_, _, _, p⟩ := x; exact p.lt
  | dK kvs => obtain ⟨_, _, _, _, o, _, _, e, _⟩ := x; exact Heap.lt_size e
  | dT kvs => obtain ⟨_, _, _, _, o, _, _, e, _⟩ := x; exact Heap.lt_size e
  | set S n => obtain ⟨o, _, _, _, e, _⟩ := x; exact Heap.lt_size e
  | ins C dx fs => obtain ⟨_, _, _, e, _⟩ := x; exact Heap.lt_size e
  | own y => obtain ⟨_, e⟩ := x; exact Heap.lt_size e
  | xd fs => obtain ⟨_, ⟨_, _, _, e, _⟩, _⟩ := x; exact Heap.lt_size e
  | rng lo hi => obtain ⟨_, _, _, e⟩ := x; exact Heap.lt_size e
  | frz ob u => obtain ⟨e, _⟩ := x; exact Heap.lt_size e
  | tbl ps => exact Heap.lt_size (show h.get? a = some _ from x)
  | met f y => exact Heap.lt_size (show h.get? a = some _ from x)
  | ext φ => obtain ⟨_, ⟨_, e⟩, _⟩ := x; exact Heap.lt_size e
theorem Paired.mapP {α β : Type} {F G : α → β → Prop} : ∀ {l₁ : List α} {l₂ : List β}, Paired F l₁ l₂ → (∀ a b, F a b → G a b) → Paired G l₁ l₂
  | _, _, .nil, _ => .nil
  | _, _, .cons r t, f => .cons (f _ _ r) (Paired.mapP t f)
theorem ObjOk.stay (x : ObjOk P w H h a o) (k : ∀ b u, (b = a ∨ H b = some (.own a)) → h.get? b = some u → h'.get? b = some u)
    (ho : ∀ b, H b = some (.own a) → H' b = some (.own a)) (ht : ∀ b xs, H b = some (.tup xs) → H' b = some (.tup xs)) : ObjOk P w H' h' a o := by
  induction o with
  | lst xs => obtain ⟨z, its, n, r, e⟩ := x; exact ⟨z, its, n, r, k _ _ (.inl rfl) e⟩
  | tup xs => obtain ⟨z, its, r, ob, e, c⟩ := x; exact ⟨z, its, r, ob, k _ _ (.inl rfl) e, c⟩
  | dK kvs => obtain ⟨z, y, vs, r, ob, es, ep, e, c⟩ := x; exact ⟨z, y, vs, r, ob, es, ep, k _ _ (.inl rfl) e, c⟩
  | dT kvs =>
    obtain ⟨z, y, xs, r, ob, es, ep, e, c⟩ := x
    exact ⟨z, y, xs, Paired.mapP r fun p q z => ⟨z.1, ht _ _ z.2.1, z.2.2⟩, ob, es, ep, k _ _ (.inl rfl) e, c⟩
  | set S n => obtain ⟨ob, es, ep, t, e, c⟩ := x; exact ⟨ob, es, ep, t, k _ _ (.inl rfl) e, c⟩
  | ins C dx fs =>
    obtain ⟨d, z, ne, e, mA, ⟨od, es, ep, e2, c⟩, r⟩ := x
    exact ⟨ho _ d, z, ne, k _ _ (.inl rfl) e, mA, ⟨od, es, ep, k _ _ (.inr d) e2, c⟩, r⟩
  | own y => obtain ⟨ob, e⟩ := x; exact ⟨ob, k _ _ (.inl rfl) e⟩
  | xd fs => obtain ⟨mA, ⟨od, es, ep, e, c⟩, r⟩ := x; exact ⟨mA, ⟨od, es, ep, k _ _ (.inl rfl) e, c⟩, r⟩
  | rng lo hi => obtain ⟨t, u, v, e⟩ := x; exact ⟨t, u, v, k _ _ (.inl rfl) e⟩
  | frz ob u ih => obtain ⟨e, q⟩ := x; exact ⟨k _ _ (.inl rfl) e, ih q⟩
  | tbl ps =>
    have e : h.get? a = some { cls := .none, data := .fields ps } := x
    show h'.get? a = some { cls := .none, data := .fields ps }
    exact k a _ (.inl rfl) e
  | met f y =>
    have e : h.get? a = some (PySem.W.methodObj (.ref f) (.ref y)) := x
    show h'.get? a = some (PySem.W.methodObj (.ref f) (.ref y))
    exact k a _ (.inl rfl) e
  | ext φ => obtain ⟨p, ⟨o, e⟩, st⟩ := x; exact ⟨st _ _ p fun o q => k _ _ (.inl rfl) q, ⟨o, k _ _ (.inl rfl) e⟩, st⟩
theorem HOk.lt (x : HOk P w H h) (e : H a = some o) : a < h.objs.size := (x a o e).lt
theorem HOk.fresh (x : HOk P w H h) (e : h.objs.size ≤ a) : H a = none := by
  cases q : H a with
  | none => rfl
  | some u => exact absurd (Nat.lt_of_lt_of_le (x.lt q) e) (Nat.lt_irrefl _)
theorem HOk.kept (x : HOk P w H h) (k : ∀ b u, h.get? b = some u → h'.get? b = some u) : HOk P w H h' := fun a o e =>
  (x a o e).stay (fun b u _ q => k b u q) (fun _ q => q) fun _ _ q => q
theorem HOk.laid (x : HOk P w H h) (k : ∀ b u, h.get? b = some u → h'.get? b = some u) (hp : h.objs.size ≤ a) (new : ObjOk P w (upd H a o) h' a o) : HOk P w (upd H a o) h' := fun b u e => by
  have hn := x.fresh hp
  by_cases hb : b = a
  · subst hb; rw [upd_same] at e; cases e; exact new
  · rw [upd_ne hb] at e
    exact (x b u e).stay (fun c v _ q => k c v q) (fun c q => by rw [upd_ne (ne_of_none q hn)]; exact q) fun c xs q => by rw [upd_ne (ne_of_none q hn)]; exact q
end

def Rd (H : Hp) (a : Addr) (u : HO) : Prop := H a = some u ∨ ∃ o, H a = some (.frz o u)
theorem Rd.ok {P : Program} {w : World} {H : Hp} {h : Heap} {a : Addr} {u : HO} (r : Rd H a u) (x : HOk P w H h) : ObjOk P w H h a u := by
  rcases r with r | ⟨o, r⟩
  · exact x a u r
  · obtain ⟨_, q⟩ := x a _ r
    exact q
def Mut : Option HO → Prop
  | some (.lst _) => True
  | some (.dK _) => True
  | some (.dT _) => True
  | some (.set _ _) => True
  | some (.ins _ _ _) => True
  | some (.ext _) => True
  | _ => False
section
variable {P : Program} {w : World} {H : Hp} {h h' : Heap} {x e : Addr} {o' : HO}
theorem HOk.write (ok : HOk P w H h) (mu : Mut (H x)) (he : e = x ∨ H e = some (.own x)) (k : ∀ b u, b ≠ e → h.get? b = some u → h'.get? b = some u) (heo : ∃ u, h'.get? e = some u)
    (new : ObjOk P w (upd H x o') h' x o') : HOk P w (upd H x o') h' := fun b u q => by
  have nown : ∀ c y, H c = some (.own y) → c ≠ x := fun c y r z => by subst z; rw [r] at mu; exact mu
  have ntup : ∀ c xs, H c = some (.tup xs) → c ≠ x := fun c xs r z => by subst z; rw [r] at mu; exact mu
  by_cases hb : b = x
  · subst hb; rw [upd_same] at q; cases q; exact new
  · rw [upd_ne hb] at q
    by_cases hbe : b = e
    · have q' : H b = some (.own x) := by
        rcases he with z | z
        · exact absurd (hbe.trans z) hb
        · rw [hbe]; exact z
      rw [q] at q'; cases q'
      obtain ⟨v, hv⟩ := heo
      exact ⟨v, by rw [hbe]; exact hv⟩
    · refine (ok b u q).stay (fun c v hc r => k c v ?_ r) (fun c r => by rw [upd_ne (nown c b r)]; exact r) fun c xs r => by rw [upd_ne (ntup c xs r)]; exact r
      rcases hc with rfl | hc
      · exact hbe
      · rintro rfl
        rcases he with z | z
        · exact nown c b hc z
        · rw [hc] at z; cases z; exact hb rfl
end

structure Un (fs ex : List Addr) (H H' : Hp) (h h' : Heap) : Prop where
  keep : ∀ b o, h.get? b = some o → H b = none → b ∉ fs → b ∉ ex → h'.get? b = some o
  slot : ∀ b o, h.get? b = some o → H b = none → b ∈ fs → b ∉ ex → ∃ sl, h'.get? b = some { o with slots := sl }
  free : ∀ b o, h.get? b = some o → H b = none → b ∉ ex → H' b = none
  there : ∀ b o, h.get? b = some o → b ∉ ex → ∃ o', h'.get? b = some o'
  tups : ∀ b xs, H b = some (.tup xs) → H' b = some (.tup xs)
  frzs : ∀ b o u, H b = some (.frz o u) → H' b = some (.frz o u)
  tbls : ∀ b ps, H b = some (.tbl ps) → ∃ more, H' b = some (.tbl (ps ++ more))
section
variable {fs fs' ex ex' : List Addr} {H H1 H2 : Hp} {h h1 h2 h' : Heap} {a x e : Addr} {o : HO}
theorem Un.any (u : Un fs ex H H1 h h1) {b : Addr} {ob : Obj} (q : h.get? b = some ob) (n : H b = none) (hx : b ∉ ex) : ∃ sl, h1.get? b = some { ob with slots := sl } := by
  by_cases hb : b ∈ fs
  · exact u.slot b ob q n hb hx
  · exact ⟨ob.slots, u.keep b ob q n hb hx⟩
theorem Un.kept (k : ∀ b u, h.get? b = some u → h'.get? b = some u) : Un fs ex H H h h' :=
  ⟨fun b ob q _ _ _ => k b ob q, fun b ob q _ _ _ => ⟨ob.slots, k b ob q⟩, fun _ _ _ n _ => n, fun b ob q _ => ⟨ob, k b ob q⟩, fun _ _ q => q, fun _ _ _ q => q, fun _ ps q => ⟨#[], by rw [q]; simp⟩⟩
theorem Un.refl : Un fs ex H H h h := Un.kept fun _ _ q => q
theorem Un.laid (k : ∀ b u, h.get? b = some u → h'.get? b = some u) (hp : h.objs.size ≤ a) (hn : H a = none) : Un fs ex H (upd H a o) h h' where
  keep := fun b u q _ _ _ => k b u q
  slot := fun b u q _ _ _ => ⟨u.slots, k b u q⟩
  free := fun b u q n _ => by rw [upd_ne (Nat.ne_of_lt (Nat.lt_of_lt_of_le (Heap.lt_size q) hp))]; exact n
  there := fun b u q _ => ⟨u, k b u q⟩
  tups := fun b xs q => by rw [upd_ne (ne_of_none q hn)]; exact q
  frzs := fun b u xs q => by rw [upd_ne (ne_of_none q hn)]; exact q
  tbls := fun b ps q => ⟨#[], by rw [upd_ne (ne_of_none q hn), q]; simp⟩
theorem Un.write (mu : Mut (H x)) (he : e = x ∨ H e = some (.own x)) (k : ∀ b u, b ≠ e → h.get? b = some u → h'.get? b = some u) (heo : ∃ u, h'.get? e = some u) : Un fs ex H (upd H x o) h h' := by
  have hx : ∀ b, H b = none → b ≠ x := fun b n z => by subst z; rw [n] at mu; exact mu
  have hb : ∀ b, H b = none → b ≠ e := fun b n z => by
    subst z
    rcases he with r | r
    · exact hx b n r
    · rw [n] at r; cases r
  have hm : ∀ b u, H b = some u → ¬ Mut (some u) → b ≠ x := fun b u q nm z => by subst z; rw [q] at mu; exact nm mu
  refine ⟨fun b u q n _ _ => k b u (hb b n) q, fun b u q n _ _ => ⟨u.slots, k b u (hb b n) q⟩, fun b u q n _ => by rw [upd_ne (hx b n)]; exact n, fun b u q _ => ?_,
    fun b xs q => by rw [upd_ne (hm b _ q fun z => z)]; exact q, fun b u xs q => by rw [upd_ne (hm b _ q fun z => z)]; exact q, fun b ps q => ⟨#[], by rw [upd_ne (hm b _ q fun z => z), q]; simp⟩⟩
  by_cases hbe : b = e
  · subst hbe; exact heo
  · exact ⟨u, k b u hbe q⟩
end

def trk (h : Heap) (H : Hp) : List Addr := (List.range h.objs.size).filter fun a => (H a).isSome
def hidT (h : Heap) (H : Hp) : Heap := PySem.W.hideAll h (trk h H)
theorem hidT_size (h : Heap) (H : Hp) : (hidT h H).objs.size = h.objs.size := PySem.W.hideAll_size _ _
theorem hidT_get {h : Heap} {H : Hp} {b : Addr} {o : Obj} (e : h.get? b = some o) (n : H b = none) : (hidT h H).get? b = some o :=
  PySem.W.hideAll_get _ e fun hm => by
    have q : (H b).isSome = true := (List.mem_filter.mp hm).2
    rw [n] at q; simp at q
theorem of_hidT {h : Heap} {H : Hp} {b : Addr} {o : Obj} (e : (hidT h H).get? b = some o) : h.get? b = some o ∧ H b = none := by
  have e' : h.get? b = some o := PySem.W.of_hideAll (trk h H) e
  refine ⟨e', ?_⟩
  cases q : H b with
  | none => rfl
  | some x =>
    have hm : b ∈ trk h H := List.mem_filter.mpr ⟨List.mem_range.mpr (Heap.lt_size e'), by simp [q]⟩
    have z : (hidT h H).get? b = none := PySem.W.hideAll_none (trk h H) hm
    rw [z] at e; cases e

end L2

namespace L2
open PySem PySem.Spec PyProof.Rows

structure Mod (K : PySem.W.Frag) (mg : Str → Option Value) (base : Heap) : Prop where
  kin : K.In base
  glob : base.Ns mainGlobals mg
  blt : ∃ mb, base.Ns builtinsNs mb ∧ ∀ x : Str, x ≠ "__name__" → mb x = bootBuiltins x
  nolimit : base.NoLimit

structure Cx where
  prog : Program
  w : World
  K : PySem.W.Frag
  mg : Str → Option Value
  base : Heap
  A : Around
  N : List Str
  s₀ : Shared
  H₀ : Hp
  env : Env
  outer : List Env
  stack : List Env
  ex : List Addr
  fn : Str → Bool
  calm : Bool
  pn : List (Addr × Obj)
  xe : Value → Shared → Prop
def frs (l : List Env) : List Addr := l.filterMap (·.frame)
abbrev Cx.fs (X : Cx) : List Addr := frs X.outer

def Vis (sc : Scope) (x : Str) : Prop := sc.names.lookup x = some .local ∨ sc.names.lookup x = some .cell ∨ sc.names.lookup x = some .free
def Loc (sc : Scope) (x : Str) : Prop := sc.names.lookup x = some .local ∨ sc.names.lookup x = some .cell
def Look (env : Env) (h : Heap) (m : Str → Option Value) (x : Str) (u : Value) : Prop :=
  (env.kindOf x = some .local ∧ m x = some u) ∨ ((env.kindOf x = some .cell ∨ env.kindOf x = some .free) ∧ ∃ c, env.cells.lookup x = some c ∧ h.IsCell c (some u))

structure Cx.Ok (X : Cx) : Prop where
  mod : Mod X.K X.mg X.base
  kind : X.env.scope.kind = .function
  glob : X.env.globals = mainGlobals
  blt : X.env.builtins = builtinsNs
  above : X.s₀.heap.objs.size ≤ X.env.locals
  inj : ∀ x y c, X.env.cells.lookup x = some c → X.env.cells.lookup y = some c → x = y
  has : ∀ x, (X.env.kindOf x = some .cell ∨ X.env.kindOf x = some .free) → ∃ c, X.env.cells.lookup x = some c
  cab : ∀ x c, X.fn x = true → X.env.cells.lookup x = some c → X.s₀.heap.objs.size ≤ c
  hd : X.calm = true → X.A.handled = none
  frames : X.A.frames = some X.stack
  stk : X.stack = X.outer ∨ (X.stack = X.env :: X.outer ∧ X.env.frame = some X.env.locals)
  exf : ∀ b ∈ X.ex, b ≠ X.env.locals ∧ ∀ x c, X.env.cells.lookup x = some c → c ≠ b
  bs : ∀ b o, X.base.get? b = some o → X.s₀.heap.get? b = some o ∧ X.H₀ b = none
  bsz : X.base.objs.size ≤ X.s₀.heap.objs.size
  noex : ∀ b o, X.base.get? b = some o → b ∉ X.ex
  exfs : ∀ b ∈ X.ex, b ∉ X.fs
  funs : X.s₀.heap.FunFrames X.base X.outer
  frf : ∀ b ∈ X.fs, X.H₀ b = none

structure Inv (X : Cx) (pins : List (Addr × Obj)) (σ : List (Option V)) (H : Hp) (s : Shared) : Prop where
  ok : X.Ok
  os : s.os = X.s₀.os
  bare : AllBare s.gens
  base : Un X.fs X.ex X.H₀ H X.s₀.heap s.heap
  loc : ∃ m, s.heap.Ns X.env.locals m ∧ ∀ (i : Nat) (x : Str) (v : V), X.N[i]? = some x → σ[i]? = some (some v) → Vis X.env.scope x → ∃ u, RelV v u ∧ Look X.env s.heap m x u
  cell : ∀ x c, X.env.cells.lookup x = some c → ∃ v, s.heap.IsCell c v
  free : H X.env.locals = none
  freeC : ∀ x c, X.env.cells.lookup x = some c → H c = none
  pin : ∀ p ∈ X.pn ++ pins, s.heap.get? p.1 = some p.2 ∧ H p.1 = none ∧ p.1 ≠ X.env.locals ∧ p.1 ∉ X.fs ∧ ∀ v, p.2.data ≠ .cell v
  hok : HOk X.prog X.w H s.heap
  len : σ.length = X.N.length

section
variable {X : Cx} {pins : List (Addr × Obj)} {σ : List (Option V)} {H H' : Hp} {s : Shared} {h' : Heap}

theorem Cx.Ok.nofr (ok : X.Ok) {b : Addr} {o : Obj} (e : X.base.get? b = some o) : b ∉ X.fs := fun hb => by
  have := (ok.funs.mem hb).1
  rw [e] at this; cases this
theorem Inv.bs (I : Inv X pins σ H s) : ∀ b o, X.base.get? b = some o → s.heap.get? b = some o ∧ H b = none := fun b o e =>
  ⟨I.base.keep b o (I.ok.bs b o e).1 (I.ok.bs b o e).2 (I.ok.nofr e) (I.ok.noex b o e), I.base.free b o (I.ok.bs b o e).1 (I.ok.bs b o e).2 (I.ok.noex b o e)⟩
theorem Inv.bk (I : Inv X pins σ H s) : ∀ b o, X.base.get? b = some o → s.heap.get? b = some o := fun b o e => (I.bs b o e).1
theorem Inv.mod (I : Inv X pins σ H s) : Mod X.K X.mg X.base := I.ok.mod
theorem Inv.kIn (I : Inv X pins σ H s) : X.K.In s.heap := I.ok.mod.kin.keeps I.bk
theorem Inv.lt (I : Inv X pins σ H s) : X.env.locals < s.heap.objs.size := let ⟨_, hn, _⟩ := I.loc; hn.lt
theorem Inv.sz (I : Inv X pins σ H s) : X.s₀.heap.objs.size ≤ s.heap.objs.size := Nat.le_trans I.ok.above (Nat.le_of_lt I.lt)
theorem Inv.nofs (I : Inv X pins σ H s) {a : Addr} (h : s.heap.objs.size ≤ a) : a ∉ X.fs := fun hb => by
  obtain ⟨_, o, ho, _⟩ := I.ok.funs.mem hb
  exact absurd (Nat.lt_of_lt_of_le (Heap.lt_size ho) (Nat.le_trans I.sz h)) (Nat.lt_irrefl _)
theorem Inv.cne (I : Inv X pins σ H s) : ∀ x c, X.env.cells.lookup x = some c → c ≠ X.env.locals := fun x c e z => by
  obtain ⟨v, o, ho, hd⟩ := I.cell x c e
  obtain ⟨m, ⟨o', es, ep, ho', hd', _⟩, _⟩ := I.loc
  rw [z, ho'] at ho; cases ho; rw [hd'] at hd; cases hd
theorem Inv.funs (I : Inv X pins σ H s) : s.heap.FunFrames X.base X.outer := by
  have all : ∀ (l : List Env), (∀ b ∈ frs l, b ∈ X.fs) → X.s₀.heap.FunFrames X.base l → s.heap.FunFrames X.base l := by
    intro l
    induction l with
    | nil => intro _ _; trivial
    | cons env r ih =>
      intro hs hl
      obtain ⟨hk, ⟨L, o, hf, hn, ho, hd⟩, hr⟩ := hl
      have hL : L ∈ X.fs := hs L (by unfold frs; rw [List.filterMap_cons, hf]; exact List.mem_cons_self)
      obtain ⟨sl, e⟩ := I.base.slot L o ho (I.ok.frf L hL) hL fun z => I.ok.exfs L z hL
      exact ⟨hk, ⟨L, _, hf, hn, e, hd⟩, ih (fun b hb => hs b (by unfold frs; rw [List.filterMap_cons, hf]; exact List.mem_cons_of_mem _ hb)) hr⟩
  exact all X.outer (fun _ hb => hb) I.ok.funs

theorem Inv.stack (I : Inv X pins σ H s) : s.heap.FunFrames X.base X.stack := by
  rcases I.ok.stk with e | ⟨e, hf⟩
  · rw [e]; exact I.funs
  · rw [e]
    obtain ⟨m, hn, _⟩ := I.loc
    refine .cons (by rw [I.ok.kind]; decide) hf hn ?_ I.funs
    exact Heap.get?_none_of_le (Nat.le_trans I.ok.bsz I.ok.above)
theorem Inv.stkSub (I : Inv X pins σ H s) : ∀ b ∈ frs X.stack, b ∈ X.env.locals :: X.fs := fun b hb => by
  rcases I.ok.stk with e | ⟨e, hf⟩
  · rw [e] at hb; exact List.mem_cons_of_mem _ hb
  · rw [e] at hb
    unfold frs at hb
    rw [List.filterMap_cons, hf] at hb
    exact hb
theorem Inv.stkFree (I : Inv X pins σ H s) : ∀ b ∈ frs X.stack, H b = none := fun b hb => by
  rcases List.mem_cons.mp (I.stkSub b hb) with e | hb
  · rw [e]; exact I.free
  · obtain ⟨_, o, ho, _⟩ := I.ok.funs.mem hb
    exact I.base.free b o ho (I.ok.frf b hb) fun z => I.ok.exfs b z hb

theorem Inv.step {g' : Array GenState} {t' : Nat} {d' : Drawn} {ch : List Addr} (I : Inv X pins σ H s)
    (hch : ∀ b ∈ ch, (b ∈ X.ex ∨ X.s₀.heap.objs.size ≤ b) ∧ b ≠ X.env.locals ∧ (∀ x c, X.env.cells.lookup x = some c → c ≠ b) ∧ ∀ p ∈ X.pn ++ pins, p.1 ≠ b)
    (keep : ∀ b o, b ≠ X.env.locals → b ∉ X.fs → b ∉ ch → s.heap.get? b = some o → H b = none → h'.get? b = some o)
    (slot : ∀ b o, b ≠ X.env.locals → b ∈ X.fs → b ∉ ch → s.heap.get? b = some o → H b = none → ∃ sl, h'.get? b = some { o with slots := sl }) (free : ∀ b o, b ∉ ch → s.heap.get? b = some o → H b = none → H' b = none)
    (there : ∀ b o, b ∉ ch → s.heap.get? b = some o → ∃ o', h'.get? b = some o')
    (tups : ∀ b xs, H b = some (.tup xs) → H' b = some (.tup xs)) (frzs : ∀ b o u, H b = some (.frz o u) → H' b = some (.frz o u)) (tbls : ∀ b ps, H b = some (.tbl ps) → ∃ more, H' b = some (.tbl (ps ++ more)))
    (ns : ∀ m, s.heap.Ns X.env.locals m → h'.Ns X.env.locals m) (hok : HOk X.prog X.w H' h') (hg : AllBare g') :
    Inv X pins σ H' { s with heap := h', gens := g', drawn := d', toks := t' } := by
  have neL : ∀ b o, X.s₀.heap.get? b = some o → b ≠ X.env.locals := fun b o e => Nat.ne_of_lt (Nat.lt_of_lt_of_le (Heap.lt_size e) I.ok.above)
  have neC : ∀ b o, X.s₀.heap.get? b = some o → b ∉ X.ex → b ∉ ch := fun b o e hx hb => by
    rcases (hch b hb).1 with z | z
    · exact hx z
    · exact absurd (Nat.lt_of_lt_of_le (Heap.lt_size e) z) (Nat.lt_irrefl _)
  have cellK : ∀ x c, X.env.cells.lookup x = some c → ∀ v, s.heap.IsCell c v → h'.IsCell c v := fun x c e v ⟨o, ho, hd⟩ => by
    have nch : c ∉ ch := fun z => (hch c z).2.2.1 x c e rfl
    by_cases hc : c ∈ X.fs
    · obtain ⟨sl, q⟩ := slot c o (I.cne x c e) hc nch ho (I.freeC x c e)
      exact ⟨_, q, hd⟩
    · exact ⟨o, keep c o (I.cne x c e) hc nch ho (I.freeC x c e), hd⟩
  refine ⟨I.ok, I.os, hg, ⟨fun b o e n hb hx => ?_, fun b o e n hb hx => ?_, fun b o e n hx => ?_, fun b o e hx => ?_, fun b xs e => tups b xs (I.base.tups b xs e), fun b o xs e => frzs b o xs (I.base.frzs b o xs e), fun b ps e => ?_⟩, ?_, fun x c e => ?_, ?_, fun x c e => ?_, fun p hp => ?_, hok, I.len⟩
  · exact keep b o (neL b o e) hb (neC b o e hx) (I.base.keep b o e n hb hx) (I.base.free b o e n hx)
  · obtain ⟨sl, e1⟩ := I.base.slot b o e n hb hx
    obtain ⟨sl', e2⟩ := slot b _ (neL b o e) hb (neC b o e hx) e1 (I.base.free b o e n hx)
    exact ⟨sl', e2⟩
  · obtain ⟨o', e1⟩ := I.base.there b o e hx
    exact free b o' (neC b o e hx) e1 (I.base.free b o e n hx)
  · obtain ⟨o', e1⟩ := I.base.there b o e hx
    exact there b o' (neC b o e hx) e1
  · obtain ⟨m1, e1⟩ := I.base.tbls b ps e
    obtain ⟨m2, e2⟩ := tbls b _ e1
    exact ⟨m1 ++ m2, by rw [e2, Array.append_assoc]⟩
  · obtain ⟨m, hn, hl⟩ := I.loc
    refine ⟨m, ns m hn, fun i x v e1 e2 e3 => ?_⟩
    obtain ⟨u, r, l⟩ := hl i x v e1 e2 e3
    refine ⟨u, r, ?_⟩
    rcases l with l | ⟨k, c, e, z⟩
    · exact .inl l
    · exact .inr ⟨k, c, e, cellK x c e _ z⟩
  · obtain ⟨v, z⟩ := I.cell x c e
    exact ⟨v, cellK x c e v z⟩
  · obtain ⟨m, ⟨o, _, _, ho, _⟩, _⟩ := I.loc
    exact free _ o (fun z => (hch _ z).2.1 rfl) ho I.free
  · obtain ⟨v, o, ho, hd⟩ := I.cell x c e
    exact free c o (fun z => (hch c z).2.2.1 x c e rfl) ho (I.freeC x c e)
  · obtain ⟨e, n, ne, nf, d⟩ := I.pin p hp
    have nch : p.1 ∉ ch := fun z => (hch p.1 z).2.2.2 p hp rfl
    exact ⟨keep p.1 p.2 ne nf nch e n, free p.1 p.2 nch e n, ne, nf, d⟩
theorem Inv.un {t' : Nat} (I : Inv X pins σ H s) (u : Un X.fs [] H H' s.heap h') (hok : HOk X.prog X.w H' h') : Inv X pins σ H' { s with heap := h', toks := t' } := by
  obtain ⟨m, ⟨o, es, ep, ho, r⟩, _⟩ := id I.loc
  obtain ⟨sl, hL⟩ := u.any ho I.free (by simp)
  exact I.step (g' := s.gens) (d' := s.drawn) (ch := []) (fun _ z => nomatch z) (fun b o _ hb _ e n => u.keep b o e n hb (by simp)) (fun b o _ hb _ e n => u.slot b o e n hb (by simp)) (fun b o _ e n => u.free b o e n (by simp)) (fun b o _ e => u.there b o e (by simp)) u.tups u.frzs u.tbls (fun m' hm => by
    obtain ⟨o', es', ep', ho', r'⟩ := hm
    rw [ho] at ho'; cases ho'
    exact ⟨_, es', ep', hL, r'⟩) hok I.bare
theorem Inv.call {g' : Array GenState} {t' : Nat} {d' : Drawn} {ch : List Addr} (I : Inv X pins σ H s) (u : Un (frs X.stack) ch H H' s.heap h') (hok : HOk X.prog X.w H' h') (hg : AllBare g')
    (hch : ∀ b ∈ ch, (b ∈ X.ex ∨ X.s₀.heap.objs.size ≤ b) ∧ b ≠ X.env.locals ∧ (∀ x c, X.env.cells.lookup x = some c → c ≠ b) ∧ ∀ p ∈ X.pn ++ pins, p.1 ≠ b) :
    Inv X pins σ H' { s with heap := h', gens := g', drawn := d', toks := t' } := by
  obtain ⟨m, ⟨o, es, ep, ho, r⟩, _⟩ := id I.loc
  obtain ⟨sl, hL⟩ := u.any ho I.free fun z => (hch _ z).2.1 rfl
  exact I.step (ch := ch) hch (fun b o hL hb hc e n => u.keep b o e n (fun z => (List.mem_cons.mp (I.stkSub b z)).elim hL hb) hc) (fun b o _ _ hc e n => u.any e n hc) (fun b o hc e n => u.free b o e n hc) (fun b o hc e => u.there b o e hc) u.tups u.frzs u.tbls (fun m' hm => by
    obtain ⟨o', es', ep', ho', r'⟩ := hm
    rw [ho] at ho'; cases ho'
    exact ⟨_, es', ep', hL, r'⟩) hok hg
theorem Inv.turned {t' : Nat} {it : Addr} (I : Inv X pins σ H s) (k : ∀ b o, b ≠ it → s.heap.get? b = some o → h'.get? b = some o) (hn : H it = none) (hL : it ≠ X.env.locals)
    (h1 : it ∈ X.ex ∨ X.s₀.heap.objs.size ≤ it) (h2 : ∀ x c, X.env.cells.lookup x = some c → c ≠ it) (h3 : ∀ p ∈ X.pn ++ pins, p.1 ≠ it) : Inv X pins σ H { s with heap := h', toks := t' } := by
  have nit : ∀ b u, H b = some u → b ≠ it := fun b u e z => by rw [z, hn] at e; cases e
  refine I.step (g' := s.gens) (d' := s.drawn) (ch := [it]) (fun b hb => ?_) (fun b o _ _ hc e _ => k b o (fun z => hc (by simp [z])) e) (fun b o _ _ hc e _ => ⟨o.slots, k b o (fun z => hc (by simp [z])) e⟩) (fun _ _ _ _ n => n)
    (fun b o hc e => ⟨o, k b o (fun z => hc (by simp [z])) e⟩) (fun _ _ e => e) (fun _ _ _ e => e) (fun b ps e => ⟨#[], by rw [e]; simp⟩) (fun m hm => ?_) (fun b u e => ?_) I.bare
  · have e : b = it := by simpa using hb
    subst e
    exact ⟨h1, hL, h2, h3⟩
  · obtain ⟨o, es, ep, ho, r⟩ := hm
    exact ⟨o, es, ep, k _ o (Ne.symm hL) ho, r⟩
  · refine (I.hok b u e).stay (fun c v hc q => k c v ?_ q) (fun _ q => q) fun _ _ q => q
    rcases hc with z | z
    · rw [z]; exact nit b u e
    · exact nit c _ z
theorem Inv.tok (I : Inv X pins σ H s) (t : Nat) : Inv X pins σ H { s with toks := t } := I.un (h' := s.heap) (t' := t) Un.refl I.hok
theorem Inv.kept {t' : Nat} (I : Inv X pins σ H s) (k : ∀ b u, s.heap.get? b = some u → h'.get? b = some u) : Inv X pins σ H { s with heap := h', toks := t' } := I.un (Un.kept k) (I.hok.kept k)
theorem Inv.laid {a : Addr} {o : HO} {t' : Nat} (I : Inv X pins σ H s) (k : ∀ b u, s.heap.get? b = some u → h'.get? b = some u) (hp : s.heap.objs.size ≤ a) (new : ObjOk X.prog X.w (upd H a o) h' a o) :
    Inv X pins σ (upd H a o) { s with heap := h', toks := t' } := I.un (Un.laid k hp (I.hok.fresh hp)) (I.hok.laid k hp new)
theorem Inv.write {x e : Addr} {o : HO} {t' : Nat} (I : Inv X pins σ H s) (mu : Mut (H x)) (he : e = x ∨ H e = some (.own x)) (k : ∀ b u, b ≠ e → s.heap.get? b = some u → h'.get? b = some u) (heo : ∃ u, h'.get? e = some u)
    (new : ObjOk X.prog X.w (upd H x o) h' x o) : Inv X pins σ (upd H x o) { s with heap := h', toks := t' } := I.un (Un.write mu he k heo) (I.hok.write mu he k heo new)
theorem Inv.weak {σ' : List (Option V)} (I : Inv X pins σ H s) (hl : σ'.length = σ.length) (w : ∀ (i : Nat) v, σ'[i]? = some (some v) → σ[i]? = some (some v)) : Inv X pins σ' H s :=
  ⟨I.ok, I.os, I.bare, I.base, let ⟨m, hn, hl'⟩ := I.loc; ⟨m, hn, fun i x v e1 e2 e3 => hl' i x v e1 (w i v e2) e3⟩, I.cell, I.free, I.freeC, I.pin, I.hok, hl.trans I.len⟩
theorem Inv.pins_of {pins' : List (Addr × Obj)} (I : Inv X pins σ H s) (h : ∀ p ∈ pins', s.heap.get? p.1 = some p.2 ∧ H p.1 = none ∧ p.1 ≠ X.env.locals ∧ p.1 ∉ X.fs ∧ ∀ v, p.2.data ≠ .cell v) : Inv X pins' σ H s :=
  ⟨I.ok, I.os, I.bare, I.base, I.loc, I.cell, I.free, I.freeC, fun p hp => (List.mem_append.mp hp).elim (fun z => I.pin p (List.mem_append_left _ z)) (h p), I.hok, I.len⟩

theorem nodup_ix {N : List Str} (hN : N.Nodup) {i j : Nat} {x : Str} (a : N[i]? = some x) (b : N[j]? = some x) : i = j := by
  obtain ⟨h1, e1⟩ := List.getElem?_eq_some_iff.mp a
  obtain ⟨h2, e2⟩ := List.getElem?_eq_some_iff.mp b
  exact (List.getElem_inj hN).mp (e1.trans e2.symm)

theorem store_ok2 {M : Model} {A : Around} {E : Value → Shared → Prop} {i : Nat} {x : Str} {v : V} {u : Value} {Q : Unit → Shared → Prop} (I : Inv X pins σ H s) (hN : X.N.Nodup) (hi : X.N[i]? = some x) (hx : Loc X.env.scope x) (r : RelV v u)
    (h : ∀ s', Inv X pins (σ.set i (some v)) H s' → (∃ a, Heap.SameBut a s.heap s'.heap ∧ (a = X.env.locals ∨ X.env.cells.lookup x = some a)) → Q () s') (hf : X.fn x = true ∨ X.env.scope.names.lookup x = some .local := by first | exact .inl rfl | exact .inr rfl | assumption) : wpAny M A (storeName X.env x u) Q E s := by
  obtain ⟨m, hn, hl⟩ := id I.loc
  have hcls : (X.env.scope.kind == .class || (X.env.scope.kind == .module && X.env.locals != X.env.globals)) = false := by rw [I.ok.kind]; rfl
  have hiσ : i < σ.length := by rw [I.len]; exact (List.getElem?_eq_some_iff.mp hi).1
  have cne := I.cne
  have tracked : ∀ {a : Addr} {h' : Heap}, (∃ o, s.heap.get? a = some o ∧ H a = none) → Heap.SameBut a s.heap h' → HOk X.prog X.w H h' := fun {a h'} ha hs b ob e => by
    obtain ⟨_, _, hfree⟩ := ha
    refine (I.hok b ob e).stay (fun c w' hc q => (hs.2 c ?_).trans q) (fun _ q => q) fun _ _ q => q
    rintro rfl
    rcases hc with rfl | hc
    · rw [hfree] at e; cases e
    · rw [hfree] at hc; cases hc
  rcases hx with hk | hk
  · refine wpAny_storeName_local hk hn (fun h' hn' hs => ?_) hcls
    obtain ⟨oL, _, _, hoL, _⟩ := id hn
    refine h _ ⟨I.ok, I.os, I.bare, ⟨fun b o e n hb hx => ?_, fun b o e n hb hx => ?_, I.base.free, fun b o e hx => ?_, I.base.tups, I.base.frzs, I.base.tbls⟩, ⟨_, hn', fun j y v' e1 e2 e3 => ?_⟩, fun y c e => ?_, I.free, I.freeC, fun p hp => ?_, tracked ⟨oL, hoL, I.free⟩ hs, by simpa using I.len⟩ ⟨_, hs, .inl rfl⟩
    · exact (hs.2 b (Nat.ne_of_lt (Nat.lt_of_lt_of_le (Heap.lt_size e) I.ok.above))).trans (I.base.keep b o e n hb hx)
    · obtain ⟨sl, e1⟩ := I.base.slot b o e n hb hx
      exact ⟨sl, (hs.2 b (Nat.ne_of_lt (Nat.lt_of_lt_of_le (Heap.lt_size e) I.ok.above))).trans e1⟩
    · obtain ⟨o', e1⟩ := I.base.there b o e hx
      exact ⟨o', (hs.2 b (Nat.ne_of_lt (Nat.lt_of_lt_of_le (Heap.lt_size e) I.ok.above))).trans e1⟩
    · by_cases hj : j = i
      · subst hj
        rw [hi] at e1; cases e1
        rw [List.getElem?_set_self hiσ] at e2
        cases e2
        exact ⟨u, r, .inl ⟨hk, by simp⟩⟩
      · rw [List.getElem?_set_ne (Ne.symm hj)] at e2
        obtain ⟨u', r', q⟩ := hl j y v' e1 e2 e3
        refine ⟨u', r', ?_⟩
        rcases q with ⟨k, e⟩ | ⟨k, c, e, z⟩
        · refine .inl ⟨k, ?_⟩
          have : y ≠ x := fun e => hj (nodup_ix hN e1 (e ▸ hi))
          simp [this, e]
        · exact .inr ⟨k, c, e, z.sameBut hs (cne y c e)⟩
    · obtain ⟨w', z⟩ := I.cell y c e
      exact ⟨w', z.sameBut hs (cne y c e)⟩
    · obtain ⟨e, n, ne, nf, d⟩ := I.pin p hp
      exact ⟨(hs.2 p.1 ne).trans e, n, ne, nf, d⟩
  · have hfn : X.fn x = true := by
      rcases hf with z | z
      · exact z
      · rw [z] at hk; cases hk
    obtain ⟨c, hc⟩ := I.ok.has x (.inl hk)
    obtain ⟨w', z⟩ := I.cell x c hc
    refine wpAny_storeName_cell I.ok.kind hk hc z (fun h' hc' hs => ?_)
    obtain ⟨oc, hoc, hocd⟩ := id z
    refine h { s with heap := h' } ⟨I.ok, I.os, I.bare, ⟨fun b o e n hb hx => ?_, fun b o e n hb hx => ?_, I.base.free, fun b o e hx => ?_, I.base.tups, I.base.frzs, I.base.tbls⟩, ⟨m, hn.sameBut hs (Ne.symm (cne x c hc)), fun j y v' e1 e2 e3 => ?_⟩, fun y c' e => ?_, I.free, I.freeC, fun p hp => ?_, tracked ⟨oc, hoc, I.freeC x c hc⟩ hs, by simpa using I.len⟩ ⟨c, hs, .inr hc⟩
    · exact (hs.2 b (Nat.ne_of_lt (Nat.lt_of_lt_of_le (Heap.lt_size e) (I.ok.cab x c hfn hc)))).trans (I.base.keep b o e n hb hx)
    · obtain ⟨sl, e1⟩ := I.base.slot b o e n hb hx
      exact ⟨sl, (hs.2 b (Nat.ne_of_lt (Nat.lt_of_lt_of_le (Heap.lt_size e) (I.ok.cab x c hfn hc)))).trans e1⟩
    · obtain ⟨o', e1⟩ := I.base.there b o e hx
      exact ⟨o', (hs.2 b (Nat.ne_of_lt (Nat.lt_of_lt_of_le (Heap.lt_size e) (I.ok.cab x c hfn hc)))).trans e1⟩
    · by_cases hj : j = i
      · subst hj
        rw [hi] at e1; cases e1
        rw [List.getElem?_set_self hiσ] at e2
        cases e2
        exact ⟨u, r, .inr ⟨.inl hk, c, hc, hc'⟩⟩
      · rw [List.getElem?_set_ne (Ne.symm hj)] at e2
        obtain ⟨u', r', q⟩ := hl j y v' e1 e2 e3
        refine ⟨u', r', ?_⟩
        rcases q with q | ⟨k, c', e, z'⟩
        · exact .inl q
        · refine .inr ⟨k, c', e, z'.sameBut hs ?_⟩
          rintro rfl
          exact hj (nodup_ix hN e1 (I.ok.inj _ _ _ e hc ▸ hi))
    · by_cases hcc : c' = c
      · subst hcc; exact ⟨_, hc'⟩
      · obtain ⟨w2, z2⟩ := I.cell y c' e
        exact ⟨w2, z2.sameBut hs hcc⟩
    · obtain ⟨e, n, ne, nf, d⟩ := I.pin p hp
      refine ⟨(hs.2 p.1 ?_).trans e, n, ne, nf, d⟩
      intro q
      rw [q, hoc] at e
      have q' : oc = p.2 := Option.some.inj e
      exact d w' (by rw [← q']; exact hocd)
theorem store_ok {M : Model} {A : Around} {E : Value → Shared → Prop} {i : Nat} {x : Str} {v : V} {u : Value} {Q : Unit → Shared → Prop} (I : Inv X pins σ H s) (hN : X.N.Nodup) (hi : X.N[i]? = some x) (hx : Loc X.env.scope x) (r : RelV v u)
    (h : ∀ s', Inv X pins (σ.set i (some v)) H s' → Q () s') (hf : X.fn x = true ∨ X.env.scope.names.lookup x = some .local := by first | exact .inl rfl | exact .inr rfl | assumption) : wpAny M A (storeName X.env x u) Q E s :=
  store_ok2 I hN hi hx r (fun s' I' _ => h s' I') hf
theorem Inv.call' {s' : Shared} {ch : List Addr} (I : Inv X pins σ H s) (ho : s'.os = s.os) (u : Un (frs X.stack) ch H H' s.heap s'.heap) (hok : HOk X.prog X.w H' s'.heap) (hg : AllBare s'.gens)
    (hch : ∀ b ∈ ch, (b ∈ X.ex ∨ X.s₀.heap.objs.size ≤ b) ∧ b ≠ X.env.locals ∧ (∀ x c, X.env.cells.lookup x = some c → c ≠ b) ∧ ∀ p ∈ X.pn ++ pins, p.1 ≠ b) : Inv X pins σ H' s' := by
  obtain ⟨h', g', d', t', o'⟩ := s'
  have e : o' = s.os := ho
  subst e
  exact I.call (g' := g') (t' := t') (d' := d') u hok hg hch
end

abbrev XK := Value → Option Addr → Hp → Prop
abbrev St := List (Option V)
abbrev VK := V → Hp → Prop
abbrev TE := St → Hp → VK → Prop
abbrev TT := St → Hp → (Bool → Hp → Prop) → Prop
abbrev TA := St → Hp → (List V → Hp → Prop) → Prop
structure Ends where
  nx : St → Hp → Prop
  rt : VK
  bk : St → Hp → Prop := fun _ _ => False
  ct : St → Hp → Prop := fun _ _ => False
abbrev TS := Ends → St → Hp → Prop

def EP (X : Cx) (pins : List (Addr × Obj)) (σ : St) (Q : VK) (u : Value) (s' : Shared) : Prop := ∃ v H', Inv X pins σ H' s' ∧ RelV v u ∧ Q v H'
def TP (X : Cx) (pins : List (Addr × Obj)) (σ : St) (Q : Bool → Hp → Prop) (b : Bool) (s' : Shared) : Prop := ∃ H', Inv X pins σ H' s' ∧ Q b H'
def AP (X : Cx) (pins : List (Addr × Obj)) (σ : St) (Q : List V → Hp → Prop) (us : List Value) (s' : Shared) : Prop := ∃ vs H', Inv X pins σ H' s' ∧ Vals vs us ∧ Q vs H'
def SP (X : Cx) (pins : List (Addr × Obj)) (D : Ends) (f : Flow) (s' : Shared) : Prop :=
  match f with
  | .next => ∃ σ' H', Inv X pins σ' H' s' ∧ D.nx σ' H'
  | .brk => ∃ σ' H', Inv X pins σ' H' s' ∧ D.bk σ' H'
  | .cont => ∃ σ' H', Inv X pins σ' H' s' ∧ D.ct σ' H'
  | .ret u => ∃ v σ' H', Inv X pins σ' H' s' ∧ RelV v u ∧ D.rt v H'

def PE (X : Cx) (e : Expr) (t : TE) : Prop :=
  ∀ (pins : List (Addr × Obj)) (s : Shared) (σ : St) (H : Hp) (Q : VK), Inv X pins σ H s → t σ H Q → wpAny (model X.prog X.w) X.A (eval e X.env) (EP X pins σ Q) X.xe s
def PT (X : Cx) (e : Expr) (t : TT) : Prop :=
  ∀ (pins : List (Addr × Obj)) (s : Shared) (σ : St) (H : Hp) (Q : Bool → Hp → Prop), Inv X pins σ H s → t σ H Q → wpAny (model X.prog X.w) X.A (isTrue e X.env (eval e X.env)) (TP X pins σ Q) X.xe s
def PW (X : Cx) (e : Expr) (t : TT) : Prop :=
  ∀ (whole : Sem Value) (pins : List (Addr × Obj)) (s : Shared) (σ : St) (H : Hp) (Q : Bool → Hp → Prop), Inv X pins σ H s → t σ H Q → wpAny (model X.prog X.w) X.A (isTrue e X.env whole) (TP X pins σ Q) X.xe s
theorem PW.pt {X : Cx} {e : Expr} {t : TT} (h : PW X e t) : PT X e t := h _
def PA (X : Cx) (es : List Expr) (t : TA) : Prop :=
  ∀ (pos : Pos) (pins : List (Addr × Obj)) (s : Shared) (σ : St) (H : Hp) (Q : List V → Hp → Prop), Inv X pins σ H s → t σ H Q → wpAny (model X.prog X.w) X.A (spliced (backTo pos (starEach es X.env))) (AP X pins σ Q) X.xe s
def PS (X : Cx) (st : Stmt) (t : TS) : Prop :=
  ∀ (pins : List (Addr × Obj)) (s : Shared) (σ : St) (H : Hp) (D : Ends), Inv X pins σ H s → t D σ H → wpAny (model X.prog X.w) X.A (exec st X.env) (SP X pins D) X.xe s
def PSs (X : Cx) (st : List Stmt) (t : TS) : Prop :=
  ∀ (pins : List (Addr × Obj)) (s : Shared) (σ : St) (H : Hp) (D : Ends), Inv X pins σ H s → t D σ H → wpAny (model X.prog X.w) X.A (execs st X.env) (SP X pins D) X.xe s
theorem thn {α : Type} {t : Sem α} {Q Q' : α → Shared → Prop} {M : Model} {A : Around} {E : Value → Shared → Prop} {s : Shared} (h : wpAny M A t Q E s) (hQ : ∀ a s, Q a s → Q' a s) : wpAny M A t Q' E s := wpAny_mono h hQ fun _ _ x => x
end L2

namespace L2
open PySem PySem.Spec PyProof.Rows
section
variable {X : Cx}

def tVar (i : Nat) : TE := fun σ H Q => ∃ v, σ[i]? = some (some v) ∧ Q v H
def tC (v : V) : TE := fun _ H Q => Q v H
theorem pe_var {i : Nat} {x : Str} {pos : Pos} (hN : X.N[i]? = some x) (hv : Vis X.env.scope x) (hd : (x == ("__debug__" : Str)) = false := by decide) (hcd : (x == ("__classdict__" : Str)) = false := by decide) : PE X (.Name x pos) (tVar i) := by
  intro pins s σ H Q I h
  obtain ⟨v, e, h⟩ := h
  obtain ⟨m, hn, hl⟩ := I.loc
  obtain ⟨u, r, l⟩ := hl i x v hN e hv
  have fin : EP X pins σ Q u s := ⟨v, H, I, r, h⟩
  rcases l with ⟨hk, hm⟩ | ⟨hk, c, hc, hcell⟩
  · exact wpAny_Name (wpAny_loadName_local I.ok.kind hk hn hm fin) hd
  · rcases hk with hk | hk
    · exact wpAny_Name (wpAny_loadName_cell I.ok.kind hk hc hcell fin) hd
    · exact wpAny_Name (wpAny_loadName_free I.ok.kind hk hc hcell fin hcd) hd
theorem pe_int {i j pos} : PE X (.Constant (.int i) j pos) (tC (.int i)) := fun _ _ _ H _ I h => wpAny_Constant_int ⟨.int i, H, I.tok _, ⟨_, rfl⟩, h⟩
theorem pe_bl {b j pos} : PE X (.Constant (.bool b) j pos) (tC (.bl b)) := fun _ _ _ H _ I h => Constant_bool ⟨.bl b, H, I, rfl, h⟩
def Gl (X : Cx) (x : Str) : Prop := X.env.kindOf x = some .globalImplicit
theorem ld_glob {E : Value → Shared → Prop} {pins : List (Addr × Obj)} {s : Shared} {σ : St} {H : Hp} {x : Str} {u : Value} {pos : Pos} {Q : Value → Shared → Prop} (I : Inv X pins σ H s) (hg : Gl X x) (hm : X.mg x = some u) (h : Q u s)
    (hd : (x == ("__debug__" : Str)) = false := by decide) : wpAny (model X.prog X.w) X.A (eval (.Name x pos) X.env) Q E s :=
  Calls.Name_function_global I.ok.kind hg (Calls.loadGlobal_global (by rw [I.ok.glob]; exact I.mod.glob.keeps I.bk) hm h) hd
theorem ld_blt {E : Value → Shared → Prop} {pins : List (Addr × Obj)} {s : Shared} {σ : St} {H : Hp} {x : Str} {u : Value} {pos : Pos} {Q : Value → Shared → Prop} (I : Inv X pins σ H s) (hg : Gl X x) (hm : X.mg x = none) (hv : bootBuiltins x = some u) (h : Q u s)
    (hn : x ≠ "__name__" := by decide) (hd : (x == ("__debug__" : Str)) = false := by decide) : wpAny (model X.prog X.w) X.A (eval (.Name x pos) X.env) Q E s := by
  obtain ⟨mb, h1, h2⟩ := I.mod.blt
  exact Calls.Name_function_global I.ok.kind hg (Calls.loadGlobal_builtin (by rw [I.ok.glob]; exact I.mod.glob.keeps I.bk) hm (by rw [I.ok.blt]; exact h1.keeps I.bk) ((h2 x hn).trans hv) h) hd
theorem pe_glob {x : Str} {v : V} {u : Value} {pos : Pos} (hg : Gl X x) (hm : X.mg x = some u) (r : RelV v u) (hd : (x == ("__debug__" : Str)) = false := by decide) : PE X (.Name x pos) (tC v) :=
  fun _ _ _ H _ I h => ld_glob I hg hm ⟨v, H, I, r, h⟩ hd
theorem pe_bltn {x : Str} {v : V} {u : Value} {pos : Pos} (hg : Gl X x) (hm : X.mg x = none) (hv : bootBuiltins x = some u) (r : RelV v u) (hn : x ≠ "__name__" := by decide) (hd : (x == ("__debug__" : Str)) = false := by decide) : PE X (.Name x pos) (tC v) :=
  fun _ _ _ H _ I h => ld_blt I hg hm hv ⟨v, H, I, r, h⟩ hn hd

variable {a b : Expr} {ta tb : TE} {pos : Pos}
def PC (X : Cx) (op : CmpOp) (a b : Expr) (t : TE) : Prop :=
  ∀ (pins : List (Addr × Obj)) (s : Shared) (σ : St) (H : Hp) (Q : VK), Inv X pins σ H s → t σ H Q →
    wpAny (model X.prog X.w) X.A (eval a X.env) (fun v s₁ => wpAny (model X.prog X.w) X.A (eval b X.env) (fun u s₂ => wpAny (model X.prog X.w) X.A (compareOp op v u) (EP X pins σ Q) X.xe s₂) X.xe s₁) X.xe s
def tB (t : TE) : TT := fun σ H Q => t σ H fun x H1 => ∃ c, x = .bl c ∧ Q c H1
theorem pt_cmp {op : CmpOp} {t : TE} (h : PC X op a b t) (h1 : behindInMarks op b = false := by first | exact nobehind _ (by decide) (by decide) | rfl) : PT X (.Compare a [op] [b] pos) (tB t) := by
  intro pins s σ H Q I hw
  refine wpAny_isTrue_Compare1 (thn (h pins s σ H _ I hw) fun v s1 h1 => thn h1 fun u s2 h2 => thn h2 fun c s3 ⟨x, H1, I1, r1, q1⟩ => ?_) h1
  obtain ⟨d, rfl, q⟩ := q1
  cases r1
  exact wpAny_truthy_bool ⟨H1, I1, q⟩
theorem pt_val {e : Expr} {t : TE} (h : PE X e t) (he : ∀ whole, isTrue e X.env whole = (do let v ← whole; standAt e.pos; holding [v] (truthy v)) := by intro _; rfl) : PT X e (tB t) := by
  intro pins s σ H Q I hw
  refine isTrue_plain (thn (h pins s σ H _ I hw) fun v s1 ⟨x, H1, I1, r1, q1⟩ => ?_) (he _)
  obtain ⟨d, rfl, q⟩ := q1
  cases r1
  exact wpAny_truthy_bool ⟨H1, I1, q⟩

variable {tA tB' : TT} {rest : List Expr}
def tAnd (t u : TT) : TT := fun σ H Q => t σ H fun c H1 => if c = true then u σ H1 Q else Q false H1
def tOr (t u : TT) : TT := fun σ H Q => t σ H fun c H1 => if c = true then Q true H1 else u σ H1 Q
def tNot (t : TT) : TT := fun σ H Q => t σ H fun c H1 => Q (!c) H1
theorem pw_and1 (ha : PT X a tA) : PW X (.BoolOp .And [a] pos) tA := by
  intro wh pins s σ H Q I h
  refine isTrue_and (thn (ha pins s σ H Q I h) fun c s1 e => ?_)
  cases c with
  | true => exact isTrue_and_nil e
  | false => exact e
theorem pw_or1 (ha : PT X a tA) : PW X (.BoolOp .Or [a] pos) tA := by
  intro wh pins s σ H Q I h
  refine isTrue_or (thn (ha pins s σ H Q I h) fun c s1 e => ?_)
  cases c with
  | false => exact isTrue_or_nil e
  | true => exact e
theorem pw_and (ha : PT X a tA) (hb : PW X (.BoolOp .And (b :: rest) pos) tB') : PW X (.BoolOp .And (a :: b :: rest) pos) (tAnd tA tB') := by
  intro wh pins s σ H Q I h
  refine isTrue_and (thn (ha pins s σ H _ I h) fun c s1 ⟨H1, I1, q1⟩ => ?_)
  cases c with
  | true => exact hb wh pins s1 σ H1 Q I1 q1
  | false => exact ⟨H1, I1, q1⟩
theorem pw_or (ha : PT X a tA) (hb : PW X (.BoolOp .Or (b :: rest) pos) tB') : PW X (.BoolOp .Or (a :: b :: rest) pos) (tOr tA tB') := by
  intro wh pins s σ H Q I h
  refine isTrue_or (thn (ha pins s σ H _ I h) fun c s1 ⟨H1, I1, q1⟩ => ?_)
  cases c with
  | true => exact ⟨H1, I1, q1⟩
  | false => exact hb wh pins s1 σ H1 Q I1 q1
theorem pt_not (ha : PT X a tA) : PT X (.UnaryOp .Not a pos) (tNot tA) := by
  intro pins s σ H Q I h
  exact isTrue_not (ha pins s σ H (fun c H1 => Q (!c) H1) I h)
def tAndV (ta tb : TE) : TE := fun σ H Q => ta σ H fun x H1 => ∃ c, x = .bl c ∧ if c = true then tb σ H1 Q else Q (.bl false) H1
def tNotV (ta : TE) : TE := fun σ H Q => ta σ H fun x H1 => ∃ c, x = .bl c ∧ Q (.bl (!c)) H1
theorem pe_one {op} {t : TE} (h : PE X a t) : PE X (.BoolOp op [a] pos) t := fun pins s σ H Q I hw => BoolOp_one (h pins s σ H Q I hw)
theorem pe_and (ha : PE X a ta) (hb : PE X (.BoolOp .And (b :: rest) pos) tb) : PE X (.BoolOp .And (a :: b :: rest) pos) (tAndV ta tb) := by
  intro pins s σ H Q I h
  refine BoolOp_and (thn (ha pins s σ H _ I h) fun v s1 ⟨x, H1, I1, r1, q1⟩ => ?_)
  obtain ⟨c, rfl, q1⟩ := q1
  cases r1
  refine wpAny_truthy_bool ?_
  cases c with
  | true => exact hb pins s1 σ H1 Q I1 q1
  | false => exact ⟨.bl false, H1, I1, rfl, q1⟩
theorem pe_not (ha : PE X a ta) : PE X (.UnaryOp .Not a pos) (tNotV ta) := by
  intro pins s σ H Q I h
  refine UnaryOp_ (thn (ha pins s σ H _ I h) fun v s1 ⟨x, H1, I1, r1, q1⟩ => ?_)
  obtain ⟨c, rfl, q1⟩ := q1
  cases r1
  exact not_of (wpAny_truthy_bool ⟨.bl (!c), H1, I1, rfl, q1⟩)
end
end L2

namespace L2
open PySem PySem.Spec PyProof.Rows

def SqL (K : PySem.W.Frag) (H : Hp) (a : Addr) (xs : List V) : Prop :=
  Rd H a (.lst xs) ∨
    ∃ (o : Obj) (its : Array Value) (n : Nat), K.lookup a = some o ∧ o.cls = .type "list" ∧ o.dict = none ∧ o.data = .seq its n ∧ its.size ≤ sizeLine ∧ Vals xs its.toList
def SqT (K : PySem.W.Frag) (H : Hp) (a : Addr) (xs : List V) : Prop :=
  Rd H a (.tup xs) ∨
    ∃ (o : Obj) (its : Array Value) (n : Nat), K.lookup a = some o ∧ o.cls = .type "tuple" ∧ o.data = .seq its n ∧ its.size ≤ sizeLine ∧ Vals xs its.toList
def absV : Value → Option V
  | .none => some .non
  | .bool b => some (.bl b)
  | .int i _ => some (.int i)
  | .str x _ => some (.str x)
  | .bytes b _ => some (.byt b)
  | .float b _ => some (.flt b)
  | .ref a => some (.ref a)
  | .type n => some (.ty n)
  | _ => none
theorem RelV.abs {x : V} {u : Value} (r : RelV x u) : absV u = some x := by
  cases x with
  | non => cases r; rfl
  | bl _ => cases r; rfl
  | int _ => obtain ⟨t, rfl⟩ := r; rfl
  | str _ => obtain ⟨t, rfl⟩ := r; rfl
  | byt _ => obtain ⟨t, rfl⟩ := r; rfl
  | flt _ => obtain ⟨t, rfl⟩ := r; rfl
  | ref _ => cases r; rfl
  | ty _ => cases r; rfl
theorem RelV.inj {x y : V} {u : Value} (r : RelV x u) (q : RelV y u) : x = y := Option.some.inj (r.abs.symm.trans q.abs)
theorem Vals.inj : ∀ {xs ys : List V} {us : List Value}, Vals xs us → Vals ys us → xs = ys
  | _, _, _, .nil, .nil => rfl
  | _, _, _, .cons r t, .cons r' t' => by rw [r.inj r', Vals.inj t t']
section
variable {X : Cx} {pins : List (Addr × Obj)} {σ : St} {H : Hp} {s : Shared} {a : Addr} {xs ys : List V}
theorem SqL.of {K : PySem.W.Frag} (h : H a = some (.lst xs)) : SqL K H a xs := .inl (.inl h)
theorem SqT.of {K : PySem.W.Frag} (h : H a = some (.tup xs)) : SqT K H a xs := .inl (.inl h)
theorem Inv.list (I : Inv X pins σ H s) (h : SqL X.K H a xs) : ∃ its : List Value, Vals xs its ∧ PlainL s.heap a its.toArray ∧ xs.length ≤ sizeLine := by
  rcases h with h | ⟨o, its, n, hk, hc, hd, hs, hz, r⟩
  · obtain ⟨z, its, n, r, e⟩ := h.ok I.hok
    exact ⟨its, r, ⟨_, n, e, rfl, rfl, rfl⟩, z⟩
  · refine ⟨its.toList, r, ⟨o, n, I.kIn a o hk, hc, hd, by simpa using hs⟩, ?_⟩
    have e := r.length
    simp only [Array.length_toList] at e
    omega
theorem Inv.tuple (I : Inv X pins σ H s) (h : SqT X.K H a xs) : ∃ its : List Value, Vals xs its ∧ IsTup s.heap a its.toArray ∧ xs.length ≤ sizeLine := by
  rcases h with h | ⟨o, its, n, hk, hc, hs, hz, r⟩
  · obtain ⟨z, its, r, p⟩ := h.ok I.hok
    exact ⟨its, r, p, z⟩
  · refine ⟨its.toList, r, ⟨o, I.kIn a o hk, hc, n, by simpa using hs⟩, ?_⟩
    have e := r.length
    simp only [Array.length_toList] at e
    omega
theorem Inv.list_inj (I : Inv X pins σ H s) (h : SqL X.K H a xs) (h' : SqL X.K H a ys) : xs = ys := by
  obtain ⟨its, r, ⟨o, n, e, _, _, d⟩, _⟩ := I.list h
  obtain ⟨its', r', ⟨o', n', e', _, _, d'⟩, _⟩ := I.list h'
  rw [e] at e'; cases e'
  rw [d] at d'
  injection d' with d1 _
  have : its = its' := by simpa using congrArg Array.toList d1
  subst this
  exact r.inj r'
theorem Inv.tuple_inj (I : Inv X pins σ H s) (h : SqT X.K H a xs) (h' : SqT X.K H a ys) : xs = ys := by
  obtain ⟨its, r, ⟨o, e, _, n, d⟩, _⟩ := I.tuple h
  obtain ⟨its', r', ⟨o', e', _, n', d'⟩, _⟩ := I.tuple h'
  rw [e] at e'; cases e'
  rw [d] at d'
  injection d' with d1 _
  have : its = its' := by simpa using congrArg Array.toList d1
  subst this
  exact r.inj r'
end

abbrev Cx.wish (X : Cx) (E : Value → Shared → Prop) : Cx := { X with xe := E }
abbrev Cx.nox (X : Cx) : Cx := X.wish fun _ _ => False
theorem Cx.Ok.wish {X : Cx} (ok : X.Ok) (E : Value → Shared → Prop) : (X.wish E).Ok :=
  ⟨ok.mod, ok.kind, ok.glob, ok.blt, ok.above, ok.inj, ok.has, ok.cab, ok.hd, ok.frames, ok.stk, ok.exf, ok.bs, ok.bsz, ok.noex, ok.exfs, ok.funs, ok.frf⟩
theorem Cx.Ok.unwish {X : Cx} {E : Value → Shared → Prop} (ok : (X.wish E).Ok) : X.Ok :=
  ⟨ok.mod, ok.kind, ok.glob, ok.blt, ok.above, ok.inj, ok.has, ok.cab, ok.hd, ok.frames, ok.stk, ok.exf, ok.bs, ok.bsz, ok.noex, ok.exfs, ok.funs, ok.frf⟩
section
variable {X : Cx} {pins : List (Addr × Obj)} {σ : St} {H : Hp} {s : Shared} {E : Value → Shared → Prop}
theorem Inv.wish (I : Inv X pins σ H s) (E : Value → Shared → Prop) : Inv (X.wish E) pins σ H s := ⟨I.ok.wish E, I.os, I.bare, I.base, I.loc, I.cell, I.free, I.freeC, I.pin, I.hok, I.len⟩
theorem Inv.unwish (I : Inv (X.wish E) pins σ H s) : Inv X pins σ H s := ⟨I.ok.unwish, I.os, I.bare, I.base, I.loc, I.cell, I.free, I.freeC, I.pin, I.hok, I.len⟩
theorem SP.unwish {D : Ends} {f : Flow} {s' : Shared} (h : SP (X.wish E) pins D f s') : SP X pins D f s' := by
  cases f with
  | next => obtain ⟨σ', H', I, q⟩ := h; exact ⟨σ', H', I.unwish, q⟩
  | brk => obtain ⟨σ', H', I, q⟩ := h; exact ⟨σ', H', I.unwish, q⟩
  | cont => obtain ⟨σ', H', I, q⟩ := h; exact ⟨σ', H', I.unwish, q⟩
  | ret u => obtain ⟨v, σ', H', I, r, q⟩ := h; exact ⟨v, σ', H', I.unwish, r, q⟩
theorem PSs.nox {st : List Stmt} {t : TS} (h : PSs X.nox st t) : PSs X st t := fun pins s σ H D I hw =>
  wpAny_mono (h pins s σ H D (I.wish _) hw) (fun _ _ q => q.unwish) fun _ _ z => False.elim z
end

section
variable {X : Cx} {st : Stmt} {rest : List Stmt} {t u : TS} {e : Expr} {te : TE} {pos : Pos}
def tNext : TS := fun D σ H => D.nx σ H
def tSeq (t u : TS) : TS := fun D σ H => t { D with nx := u D } σ H
theorem pss_nil : PSs X [] tNext := fun _ _ σ H _ I h => wpAny_execs_nil ⟨σ, H, I, h⟩
theorem pss_cons (h1 : PS X st t) (h2 : PSs X rest u) : PSs X (st :: rest) (tSeq t u) := by
  intro pins s σ H D I h
  refine wpAny_execs_cons (thn (h1 pins s σ H { D with nx := u D } I h) fun f s1 q => ?_)
  cases f with
  | next =>
    obtain ⟨σ', H', I', q⟩ := q
    exact h2 pins s1 σ' H' D I' q
  | ret v => exact q
  | brk => exact q
  | cont => exact q
theorem pss_one (h1 : PS X st t) : PSs X [st] t := by
  intro pins s σ H D I h
  refine wpAny_execs_cons (thn (h1 pins s σ H D I h) fun f s1 q => ?_)
  cases f with
  | next => exact wpAny_execs_nil q
  | ret v => exact q
  | brk => exact q
  | cont => exact q
theorem Inv.quiet {pins : List (Addr × Obj)} {σ : St} {H : Hp} {s : Shared} (I : Inv X pins σ H s) : interactive X.env = false := by simp [interactive, I.ok.kind]
def tDrop (te : TE) : TS := fun D σ H => te σ H fun _ H1 => D.nx σ H1
theorem ps_expr (he : PE X e te) (hs : swapsWith e none pos.line X.env = pure false := by rfl) : PS X (.Expr e pos) (tDrop te) := by
  intro pins s σ H D I h
  exact wpAny_Expr_any (thn (he pins s σ H _ I h) fun v s1 ⟨x, H1, I1, r1, q1⟩ => ⟨σ, H1, I1, q1⟩) I.quiet hs
def tRet (te : TE) : TS := fun D σ H => te σ H D.rt
theorem ps_ret (he : PE X e te) : PS X (.Return (some e) pos) (tRet te) := by
  intro pins s σ H D I h
  exact wpAny_Return_some (thn (he pins s σ H _ I h) fun v s1 ⟨x, H1, I1, r1, q1⟩ => ⟨x, σ, H1, I1, r1, q1⟩)
def tIfS (c : TT) (t u : TS) : TS := fun D σ H => c σ H fun b H1 => if b = true then t D σ H1 else u D σ H1
theorem ps_if {c : Expr} {a b : List Stmt} {tc : TT} (hc : PT X c tc) (ha : PSs X a t) (hb : PSs X b u) : PS X (.If c a b pos) (tIfS tc t u) := by
  intro pins s σ H D I h
  refine wpAny_If (thn (hc pins s σ H _ I h) fun d s1 ⟨H1, I1, q1⟩ => ?_)
  cases d with
  | true => exact ha pins s1 σ H1 D I1 q1
  | false => exact hb pins s1 σ H1 D I1 q1
def tNever : TS := fun _ _ _ => False
theorem ps_never : PS X st tNever := fun _ _ _ _ _ _ h => h.elim
end

abbrev TG := V → St → Hp → (St → Hp → Prop) → Prop
abbrev TGs := List V → St → Hp → (St → Hp → Prop) → Prop
def PG (X : Cx) (target : Expr) (t : TG) : Prop :=
  ∀ (pins : List (Addr × Obj)) (s : Shared) (σ : St) (H : Hp) (v : V) (u : Value) (Q : St → Hp → Prop), Inv X pins σ H s → RelV v u → t v σ H Q →
    wpAny (model X.prog X.w) X.A (assign target X.env u) (fun _ s' => ∃ σ' H', Inv X pins σ' H' s' ∧ Q σ' H') X.xe s
def PGs (X : Cx) (ts : List Expr) (t : TGs) : Prop :=
  ∀ (pins : List (Addr × Obj)) (s : Shared) (σ : St) (H : Hp) (vs : List V) (us : List Value) (Q : St → Hp → Prop), Inv X pins σ H s → Vals vs us → t vs σ H Q →
    wpAny (model X.prog X.w) X.A (assignInOrder ((assignEach ts X.env).map (·.2)) us) (fun _ s' => ∃ σ' H', Inv X pins σ' H' s' ∧ Q σ' H') X.xe s
abbrev TSet := V → V → V → Hp → (Hp → Prop) → Prop
def PSet (X : Cx) (t : TSet) : Prop :=
  ∀ (pins : List (Addr × Obj)) (s : Shared) (σ : St) (H : Hp) (o i v : V) (ov iv u : Value) (Q : Hp → Prop), Inv X pins σ H s → RelV o ov → RelV i iv → RelV v u → t o i v H Q →
    wpAny (model X.prog X.w) X.A (setItem ov iv u) (fun _ s' => ∃ H', Inv X pins σ H' s' ∧ Q H') X.xe s
section
variable {X : Cx} {pos : Pos}
def gName (i : Nat) : TG := fun v σ H Q => Q (σ.set i (some v)) H
theorem pg_name {i : Nat} {x : Str} (hN : X.N.Nodup) (hi : X.N[i]? = some x) (hx : Loc X.env.scope x) (hf : X.fn x = true ∨ X.env.scope.names.lookup x = some .local := by first | exact .inl rfl | exact .inr rfl | assumption) : PG X (.Name x pos) (gName i) := by
  intro pins s σ H v u Q I r h
  exact wpAny_assign_Name (store_ok I hN hi hx r (fun s' I' => ⟨_, H, I', h⟩) hf)
def gNil : TGs := fun vs σ H Q => vs = [] ∧ Q σ H
def gCons (t : TG) (u : TGs) : TGs := fun vs σ H Q => ∃ v r, vs = v :: r ∧ t v σ H fun σ' H' => u r σ' H' Q
theorem pgs_nil : PGs X [] gNil := by
  intro pins s σ H vs us Q I r h
  obtain ⟨e, h⟩ := h
  subst e
  cases r
  exact assignInOrder_nil ⟨σ, H, I, h⟩
theorem pgs_cons {e : Expr} {es : List Expr} {t : TG} {u : TGs} (h1 : PG X e t) (h2 : PGs X es u)
    (hs : (assignEach (e :: es) X.env).map (·.2) = assign e X.env :: (assignEach es X.env).map (·.2) := by rfl) : PGs X (e :: es) (gCons t u) := by
  intro pins s σ H vs us Q I r h
  obtain ⟨v, vr, e1, h⟩ := h
  subst e1
  cases r with
  | cons r rr =>
    rw [hs]
    refine assignInOrder_cons (thn (h1 pins s σ H _ _ _ I r h) fun _ s1 ⟨σ1, H1, I1, q1⟩ => ?_)
    exact h2 pins s1 σ1 H1 _ _ Q I1 rr q1
def gTup (K : PySem.W.Frag) (n : Nat) (t : TGs) : TG := fun v σ H Q => ∃ a xs, v = .ref a ∧ SqT K H a xs ∧ xs.length = n ∧ t xs σ H Q
theorem pg_tup {es : List Expr} {k : Nat} {t : TGs} {n : Nat} (hc : X.calm = true) (h : PGs X es t)
    (hn : (assignEach es X.env).length = n := by rfl) (hst : (assignEach es X.env).findIdx? (·.1) = none := by rfl) : PG X (.Tuple es k pos) (gTup X.K n t) := by
  intro pins s σ H v u Q I r hw
  obtain ⟨a, xs, e1, hq, hl, hw⟩ := hw
  subst e1
  cases r
  obtain ⟨its, rv, ht, hz⟩ := I.tuple hq
  refine assign_Tuple_tuple (I.ok.hd hc) ht (by simp [hn, ← hl, rv.length]) hst fun h' hx => ?_
  have I1 : Inv X pins σ H { s with heap := h' } := I.kept (t' := s.toks) fun b o e => hx b o (Nat.ne_of_lt (Heap.lt_size e)) e
  exact h pins _ σ H xs _ Q I1 (by simpa using rv) hw
def gSub (to ti : TE) (t : TSet) : TG := fun v σ H Q => to σ H fun o H1 => ti σ H1 fun i H2 => t o i v H2 fun H3 => Q σ H3
theorem pg_sub {o i : Expr} {to ti : TE} {t : TSet} (ho : PE X o to) (hi : PE X i ti) (hs : PSet X t)
    (ha : ∀ v, assign (.Subscript o i pos) X.env v = (do
      let ov ← holding [v] (eval o X.env)
      let iv ← holding [v, ov] (eval i X.env)
      standAt pos
      holding [v, ov, iv] (setItem ov iv v)
      release [v, ov, iv] []) := by intro _; rfl) : PG X (.Subscript o i pos) (gSub to ti t) := by
  intro pins s σ H v u Q I r h
  rw [ha]
  refine wpAny_bind (wpAny_holding (thn (ho pins s σ H _ I h) fun ov s1 ⟨x, H1, I1, r1, q1⟩ => ?_))
  refine wpAny_bind (wpAny_holding (thn (hi pins s1 σ H1 _ I1 q1) fun iv s2 ⟨y, H2, I2, r2, q2⟩ => ?_))
  refine wpAny_bind (wpAny_standAt (wpAny_bind (wpAny_holding (thn (hs pins s2 σ H2 x y v ov iv u _ I2 r1 r2 r q2) fun _ s3 ⟨H3, I3, q3⟩ => ?_))))
  exact wpAny_release ⟨σ, H3, I3, q3⟩
def tAsg (te : TE) (g : TG) : TS := fun D σ H => te σ H fun x H1 => g x σ H1 D.nx
theorem ps_asg {tg e : Expr} {te : TE} {g : TG} (he : PE X e te) (hg : PG X tg g) (hs : swapsWithSole [tg] e pos.line X.env = pure false := by rfl) (hw : swappedStores [tg] e X.env = pure none := by rfl)
    (h1 : (assignEach [tg] X.env).map (·.2) = [assign tg X.env] := by rfl) : PS X (.Assign [tg] e pos) (tAsg te g) := by
  intro pins s σ H D I h
  refine wpAny_Assign_stores (thn (he pins s σ H _ I h) fun v s1 ⟨x, H1, I1, r1, q1⟩ => ?_) hs hw
  rw [h1]
  exact thn (hg pins s1 σ H1 x v _ I1 r1 q1) fun _ s2 q => q
theorem ps_set {i : Nat} {x : Str} {e : Expr} {te : TE} {pos' : Pos} (hN : X.N.Nodup) (hi : X.N[i]? = some x) (hx : Loc X.env.scope x) (he : PE X e te) (hs : swapsWith e (some (.Name x pos')) pos.line X.env = pure false := by rfl) (hf : X.fn x = true ∨ X.env.scope.names.lookup x = some .local := by first | exact .inl rfl | exact .inr rfl | assumption) :
    PS X (.Assign [.Name x pos'] e pos) (tAsg te (gName i)) := by
  intro pins s σ H D I h
  refine wpAny_Assign_Name (thn (he pins s σ H _ I h) fun v s1 ⟨y, H1, I1, r1, q1⟩ => ?_) hs
  exact store_ok I1 hN hi hx r1 (fun s2 I2 => ⟨_, H1, I2, q1⟩) hf
def tPar (i j : Nat) (ta : TA) : TS := fun D σ H => ta σ H fun vs H1 => ∃ v w, vs = [v, w] ∧ D.nx ((σ.set i (some v)).set j (some w)) H1
theorem ps_par {i j : Nat} {x y : Str} {a b : Expr} {ta : TA} {px py pt : Pos} {kt k2 pt2} (hc : X.calm = true) (hN : X.N.Nodup) (hi : X.N[i]? = some x) (hj : X.N[j]? = some y) (hij : i ≠ j)
    (hx : X.env.scope.names.lookup x = some .local) (hy : X.env.scope.names.lookup y = some .local) (ha : PA X [a, b] ta)
    (hw : swappedStores [.Tuple [.Name x px, .Name y py] kt pt] (.Tuple [a, b] k2 pt2) X.env = pure (some [x, y]))
    (hs : swapsWithSole [.Tuple [.Name x px, .Name y py] kt pt] (.Tuple [a, b] k2 pt2) pos.line X.env = pure false := by rfl) :
    PS X (.Assign [.Tuple [.Name x px, .Name y py] kt pt] (.Tuple [a, b] k2 pt2) pos) (tPar i j ta) := by
  intro pins s σ H D I h
  rw [exec_Assign_arm]
  refine wpAny_bind (wpAny_standAt ?_)
  rw [hs]
  refine wpAny_bind (wpAny_pure ?_)
  rw [if_neg (by decide)]
  refine wpAny_bind (Tuple_ (thn (ha _ pins s σ H _ I h) fun us s1 ⟨vs, H1, I1, r1, q1⟩ => ?_))
  obtain ⟨v, w, e1, q1⟩ := q1
  subst e1
  obtain ⟨u1, u2, rfl, rv, rw'⟩ : ∃ u1 u2, us = [u1, u2] ∧ RelV v u1 ∧ RelV w u2 := by
    cases r1 with
    | cons p q =>
      cases q with
      | cons p' q' =>
        cases q'
        exact ⟨_, _, rfl, p, p'⟩
  refine wpAny_newObj_type ?_ (by show 2 ≤ sizeLine; decide)
  have I2 : Inv X pins σ H1 { s1 with heap := s1.heap.push { cls := .type "tuple", data := .seq [u1, u2].toArray } } := I1.kept (t' := s1.toks) fun b o e => Heap.get?_push_of_some _ e
  rw [hw]
  refine wpAny_bind (wpAny_pure ?_)
  show wpAny (model X.prog X.w) X.A (do rule "assign.swapped-stores"; let items ← unpackItems (.ref s1.heap.objs.size) 2 none; assignInOrder [fun v => bindName X.env y v, fun v => bindName X.env x v] items.reverse; pure Flow.next) _ _ _
  refine wpAny_bind (wpAny_rule (wpAny_bind (unpackItems_tuple (items := #[u1, u2]) (I.ok.hd hc) (IsTup.new s1.heap _) fun h' hx' => ?_)))
  have I3 := I2.kept (h' := h') (t' := s1.toks) fun b o e => hx' b o (Nat.ne_of_lt (Heap.lt_size e)) e
  show wpAny _ _ (assignInOrder [fun v => bindName X.env y v, fun v => bindName X.env x v] [u2, u1] >>= fun _ => pure Flow.next) _ _ _
  refine wpAny_bind (assignInOrder_cons (wpAny_bindName (store_ok I3 hN hj (.inl hy) rw' (fun s2 I4 => ?_) (.inr hy))))
  refine assignInOrder_cons (wpAny_bindName (store_ok I4 hN hi (.inl hx) rv (fun s3 I5 => assignInOrder_nil (wpAny_pure ?_)) (.inr hx)))
  rw [List.set_comm _ _ (Ne.symm hij)] at I5
  exact ⟨_, H1, I5, q1⟩
end

section
variable {X : Cx} {pos : Pos}
end

structure It where
  go : Nat → Hp → Prop
  yld : Nat → Hp → V → Hp → Prop
  stop : Nat → Hp → Prop
def FpOk (X : Cx) (pins : List (Addr × Obj)) (H : Hp) (b : Addr) : Prop :=
  H b = none ∧ b ≠ X.env.locals ∧ b ∉ X.fs ∧ (b ∈ X.ex ∨ X.s₀.heap.objs.size ≤ b) ∧ (∀ x c, X.env.cells.lookup x = some c → c ≠ b) ∧ ∀ p ∈ X.pn ++ pins, p.1 ≠ b
theorem Inv.fpOk {X : Cx} {pins : List (Addr × Obj)} {σ : St} {H H' : Hp} {s : Shared} {b : Addr} (I : Inv X pins σ H s) (hb : s.heap.objs.size ≤ b) (hn : H' b = none) : FpOk X pins H' b := by
  refine ⟨hn, Nat.ne_of_gt (Nat.lt_of_lt_of_le I.lt hb), I.nofs hb, .inr (Nat.le_trans I.sz hb), fun x c e z => ?_, fun p hp z => ?_⟩
  · obtain ⟨v, q⟩ := I.cell x c e
    exact absurd (Nat.lt_of_lt_of_le q.lt (by rw [z]; exact hb)) (Nat.lt_irrefl _)
  · exact absurd (Nat.lt_of_lt_of_le (Heap.lt_size (I.pin p hp).1) (by rw [z]; exact hb)) (Nat.lt_irrefl _)
structure Turn (P : Program) (w : World) (K : PySem.W.Frag) (tg : Expr) (J : It) (fp : List Addr) (it : Addr) (tn : Nat → Heap → Prop) : Prop where
  mem : it ∈ fp
  obj : ∀ i h, tn i h → ∀ b ∈ fp, ∃ o, h.get? b = some o ∧ ∀ v, o.data ≠ .cell v
  keep : ∀ i h h', tn i h → (∀ b ∈ fp, ∀ o, h.get? b = some o → h'.get? b = some o) → tn i h'
  item : ∀ (X : Cx), X.prog = P → X.w = w → X.K = K → X.calm = true → ∀ (i : Nat) (pins : List (Addr × Obj)) (s : Shared) (σ : St) (H : Hp) (E : Value → Shared → Prop), Inv X pins σ H s → (∀ b ∈ fp, FpOk X pins H b) → tn i s.heap → J.go i H →
    wpAny (model P w) X.A (pyNext (.ref it)) (fun r s1 => ∃ u, r = some u ∧
      wpAny (model P w) X.A (letOwnedTupleGo tg (.ref it) u) (fun _ s2 => ∃ x H', Inv X pins σ H' s2 ∧ RelV x u ∧ J.yld i H x H' ∧ tn (i + 1) s2.heap ∧ ∀ b ∈ fp, H' b = none) E s1) E s
  done : ∀ (X : Cx), X.prog = P → X.w = w → X.K = K → X.calm = true → ∀ (i : Nat) (pins : List (Addr × Obj)) (s : Shared) (σ : St) (H : Hp) (E : Value → Shared → Prop), Inv X pins σ H s → (∀ b ∈ fp, FpOk X pins H b) → tn i s.heap → J.stop i H →
    wpAny (model P w) X.A (pyNext (.ref it)) (fun r s1 => r = none ∧ Inv X pins σ H s1) E s
  self : ∀ (A : Around) (i : Nat) (s : Shared) (Q : Value → Shared → Prop) (E : Value → Shared → Prop), tn i s.heap → Q (.ref it) s → wpAny (model P w) A (pyIter (.ref it)) Q E s
abbrev TI := St → Hp → (It → Hp → Prop) → Prop
def PIE (X : Cx) (pins : List (Addr × Obj)) (σ : St) (tg : Expr) (R : It → Hp → Prop) (itv : Value) (s2 : Shared) : Prop :=
  ∃ (it : Addr) (fp : List Addr) (tn : Nat → Heap → Prop) (J : It) (H' : Hp), itv = .ref it ∧ Inv X pins σ H' s2 ∧ Turn X.prog X.w X.K tg J fp it tn ∧ tn 0 s2.heap ∧ (∀ b ∈ fp, FpOk X pins H' b) ∧ R J H'
def PI (X : Cx) (tg iter : Expr) (wi : TI) : Prop :=
  ∀ (pins : List (Addr × Obj)) (s : Shared) (σ : St) (H : Hp) (R : It → Hp → Prop), Inv X pins σ H s → wi σ H R →
    wpAny (model X.prog X.w) X.A (eval iter X.env) (fun v s1 => wpAny (model X.prog X.w) X.A (pyIter v) (PIE X pins σ tg R) X.xe s1) X.xe s

theorem go_of {M : Model} {A : Around} {E : Value → Shared → Prop} {s : Shared} {tg : Expr} {it : Addr} {u : Value} {o : Obj} {n : String} {vs : Array Value} {Q : Unit → Shared → Prop} (ho : s.heap.get? it = some o) (hc : o.cls = .type n) (hd : o.data = .fields vs)
    (hn : ["enumerate", "zip", "dict_itemiterator", "dict_reverseitemiterator", "odict_iterator", "itertools.zip_longest", "itertools.pairwise"].contains n = false) (hQ : Q () s) : wpAny M A (letOwnedTupleGo tg (.ref it) u) Q E s := by
  unfold letOwnedTupleGo
  cases tg <;> first
    | exact wpAny_pure hQ
    | (cases u <;> first
        | exact wpAny_pure hQ
        | (refine wpAny_bind (wpAny_load ho ?_)
           rw [hc, hd]
           show wpAny M A (if (["enumerate", "zip", "dict_itemiterator", "dict_reverseitemiterator", "odict_iterator", "itertools.zip_longest", "itertools.pairwise"].contains n && vs[0]? == some (rawInt _)) = true then _ else _) Q E s
           rw [if_neg (by intro h; rw [hn, Bool.false_and] at h; cases h)]
           exact wpAny_pure hQ))

def Itl (K : PySem.W.Frag) (a : Addr) : It :=
  ⟨fun i H => ∃ xs x, SqL K H a xs ∧ xs[i]? = some x, fun i H x H' => H' = H ∧ ∀ xs, SqL K H a xs → xs[i]? = some x, fun i H => ∃ xs, SqL K H a xs ∧ xs.length ≤ i⟩
def Itt (K : PySem.W.Frag) (a : Addr) : It :=
  ⟨fun i H => ∃ xs x, SqT K H a xs ∧ xs[i]? = some x, fun i H x H' => H' = H ∧ ∀ xs, SqT K H a xs → xs[i]? = some x, fun i H => ∃ xs, SqT K H a xs ∧ xs.length ≤ i⟩
def Itr (lo : Int) (n : Nat) : It := ⟨fun i _ => i < n, fun i H x H' => H' = H ∧ x = .int (lo + i), fun i _ => n ≤ i⟩
theorem turn_list {P : Program} {w : World} {K : PySem.W.Frag} {tg : Expr} (a it : Addr) : Turn P w K tg (Itl K a) [it] it (fun i h => h.IsListIter it a i) where
  mem := by simp
  obj := fun i h st b hb => by
    have e : b = it := by simpa using hb
    subst e
    obtain ⟨o, e, c, d⟩ := st
    exact ⟨o, e, fun v z => by rw [d] at z; cases z⟩
  keep := fun i h h' st k => st.at fun o e => k it (by simp) o e
  item := by
    intro X hP hw hK hc i pins s σ H E I hf st hg
    subst hP hw hK
    obtain ⟨xs, x, hq, hx⟩ := hg
    obtain ⟨its, rv, p, hz⟩ := I.list hq
    obtain ⟨u, hu, ru⟩ := rv.get hx
    obtain ⟨f0, f1, f2, f3, f4, f5⟩ := hf it (by simp)
    refine wpAny_pyNext_list_item st p.isList (x := u) (by simpa using hu) fun h' st' sb => ?_
    have I1 : Inv X pins σ H { s with heap := h' } := I.turned (t' := s.toks) (fun b o hb e => (sb.2 b hb).trans e) f0 f1 f3 f4 f5
    obtain ⟨o, e, c, d⟩ := id st'
    exact ⟨u, rfl, go_of (s := { s with heap := h' }) e c d (by decide) ⟨x, H, I1, ru, ⟨rfl, fun ys hy => by rw [I.list_inj hy hq]; exact hx⟩, st', fun b hb => (hf b hb).1⟩⟩
  done := by
    intro X hP hw hK hc i pins s σ H E I hf st hg
    subst hP hw hK
    obtain ⟨xs, hq, hx⟩ := hg
    obtain ⟨its, rv, p, hz⟩ := I.list hq
    obtain ⟨f0, f1, f2, f3, f4, f5⟩ := hf it (by simp)
    have hl := rv.length
    exact wpAny_pyNext_list_end (I.ok.hd hc) st p.isList (by simp; omega) fun h' eb => ⟨rfl, I.turned (t' := s.toks) (fun b o hb e => eb b o hb e) f0 f1 f3 f4 f5⟩
  self := fun _ _ _ _ _ st h => wpAny_pyIter_listiter st h
theorem turn_tuple {P : Program} {w : World} {K : PySem.W.Frag} {tg : Expr} (a it : Addr) : Turn P w K tg (Itt K a) [it] it (fun i h => h.IsTupleIter it a i) where
  mem := by simp
  obj := fun i h st b hb => by
    have e : b = it := by simpa using hb
    subst e
    obtain ⟨o, e, c, d⟩ := st
    exact ⟨o, e, fun v z => by rw [d] at z; cases z⟩
  keep := fun i h h' st k => st.at fun o e => k it (by simp) o e
  item := by
    intro X hP hw hK hc i pins s σ H E I hf st hg
    subst hP hw hK
    obtain ⟨xs, x, hq, hx⟩ := hg
    obtain ⟨its, rv, p, hz⟩ := I.tuple hq
    obtain ⟨u, hu, ru⟩ := rv.get hx
    obtain ⟨f0, f1, f2, f3, f4, f5⟩ := hf it (by simp)
    refine wpAny_pyNext_tuple_item st (show s.heap.IsTuple a its.toArray from p) (x := u) (by simpa using hu) fun h' st' sb => ?_
    have I1 : Inv X pins σ H { s with heap := h' } := I.turned (t' := s.toks) (fun b o hb e => (sb.2 b hb).trans e) f0 f1 f3 f4 f5
    obtain ⟨o, e, c, d⟩ := id st'
    exact ⟨u, rfl, go_of (s := { s with heap := h' }) e c d (by decide) ⟨x, H, I1, ru, ⟨rfl, fun ys hy => by rw [I.tuple_inj hy hq]; exact hx⟩, st', fun b hb => (hf b hb).1⟩⟩
  done := by
    intro X hP hw hK hc i pins s σ H E I hf st hg
    subst hP hw hK
    obtain ⟨xs, hq, hx⟩ := hg
    obtain ⟨its, rv, p, hz⟩ := I.tuple hq
    obtain ⟨f0, f1, f2, f3, f4, f5⟩ := hf it (by simp)
    have hl := rv.length
    exact wpAny_pyNext_tuple_end (I.ok.hd hc) st (show s.heap.IsTuple a its.toArray from p) (by simp; omega) fun h' eb => ⟨rfl, I.turned (t' := s.toks) (fun b o hb e => eb b o hb e) f0 f1 f3 f4 f5⟩
  self := fun _ _ _ _ _ st h => wpAny_pyIter_tupleiter st h
theorem turn_range {P : Program} {w : World} {K : PySem.W.Frag} {tg : Expr} (it : Addr) (lo : Int) (n : Nat) : Turn P w K tg (Itr lo n) [it] it (fun i h => IsRangeIter h it (lo + (i : Nat) * 1) ((n : Int) - (i : Nat)) 1) where
  mem := by simp
  obj := fun i h st b hb => by
    have e : b = it := by simpa using hb
    subst e
    exact ⟨_, st, fun v z => by
      have z' : Data.fields _ = Data.cell v := z
      cases z'⟩
  keep := fun i h h' st k => k it (by simp) _ st
  item := by
    intro X hP hw hK hc i pins s σ H E I hf st hg
    subst hP hw hK
    obtain ⟨f0, f1, f2, f3, f4, f5⟩ := hf it (by simp)
    have W := Walks.range (prog := X.prog) (w := X.w) (I.ok.hd hc) it lo 1 n
    refine W.item i s _ _ hg st fun v h' tk hv st' kk => ?_
    obtain ⟨t, rfl⟩ := hv
    have I1 : Inv X pins σ H { s with heap := h', toks := tk } := I.turned (fun b o hb e => kk b o (by simpa using hb) e) f0 f1 f3 f4 f5
    refine ⟨_, rfl, go_of (s := { s with heap := h', toks := tk }) (n := "range_iterator") st' rfl rfl (by decide) ⟨.int (lo + i), H, I1, ⟨t, ?_⟩, ⟨rfl, rfl⟩, st', fun b hb => (hf b hb).1⟩⟩
    rw [Int.mul_one]
  done := by
    intro X hP hw hK hc i pins s σ H E I hf st hg
    subst hP hw hK
    obtain ⟨f0, f1, f2, f3, f4, f5⟩ := hf it (by simp)
    exact wpAny_pyNext_range_end (I.ok.hd hc) st (by have : n ≤ i := hg; omega) fun h' eb => ⟨rfl, I.turned (t' := s.toks) (fun b o hb e => eb b o hb e) f0 f1 f3 f4 f5⟩
  self := fun _ _ _ _ _ st h => wpAny_pyIter_rangeiter st h
end L2

namespace L2
open PySem PySem.Spec PyProof.Rows
section
variable {X : Cx} {tg : Expr}
def iList (K : PySem.W.Frag) (tl : TE) : TI := fun σ H R => tl σ H fun x H1 => ∃ a, x = .ref a ∧ (∃ xs, SqL K H1 a xs) ∧ R (Itl K a) H1
def iTup (K : PySem.W.Frag) (tl : TE) : TI := fun σ H R => tl σ H fun x H1 => ∃ a, x = .ref a ∧ (∃ xs, SqT K H1 a xs) ∧ R (Itt K a) H1
theorem pi_list {l : Expr} {tl : TE} (hl : PE X l tl) : PI X tg l (iList X.K tl) := by
  intro pins s σ H R I h
  refine thn (hl pins s σ H _ I h) fun v s1 ⟨x, H1, I1, r1, q1⟩ => ?_
  obtain ⟨a, e, ⟨xs, hq⟩, q⟩ := q1
  subst e
  cases r1
  obtain ⟨its, rv, p, hz⟩ := I1.list hq
  refine wpAny_pyIter_list p.isList ?_
  refine ⟨s1.heap.objs.size, [s1.heap.objs.size], _, _, H1, rfl, I1.kept (t' := s1.toks) fun b o e => Heap.get?_push_of_some _ e, turn_list a _, ⟨_, Heap.get?_push_size _ rfl, rfl, rfl⟩, fun b hb => ?_, q⟩
  have e : b = s1.heap.objs.size := by simpa using hb
  subst e
  exact I1.fpOk (Nat.le_refl _) (I1.hok.fresh (Nat.le_refl _))
theorem pi_tup {l : Expr} {tl : TE} (hl : PE X l tl) : PI X tg l (iTup X.K tl) := by
  intro pins s σ H R I h
  refine thn (hl pins s σ H _ I h) fun v s1 ⟨x, H1, I1, r1, q1⟩ => ?_
  obtain ⟨a, e, ⟨xs, hq⟩, q⟩ := q1
  subst e
  cases r1
  obtain ⟨its, rv, p, hz⟩ := I1.tuple hq
  refine wpAny_pyIter_tuple (show s1.heap.IsTuple a its.toArray from p) ?_
  refine ⟨s1.heap.objs.size, [s1.heap.objs.size], _, _, H1, rfl, I1.kept (t' := s1.toks) fun b o e => Heap.get?_push_of_some _ e, turn_tuple a _, ⟨_, Heap.get?_push_size _ rfl, rfl, rfl⟩, fun b hb => ?_, q⟩
  have e : b = s1.heap.objs.size := by simpa using hb
  subst e
  exact I1.fpOk (Nat.le_refl _) (I1.hok.fresh (Nat.le_refl _))
theorem range_it {pins : List (Addr × Obj)} {σ : St} {H : Hp} {s : Shared} {R : It → Hp → Prop} {E : Value → Shared → Prop} {lo hi : Int} {t u v : Tok} {tk : Nat} (I : Inv X pins σ H s) (h1 : -(2 ^ 62) ≤ lo) (h2 : lo < 2 ^ 62) (h3 : -(2 ^ 62) ≤ hi) (h4 : hi < 2 ^ 62)
    (q : R (Itr lo (hi - lo).toNat) H) : wpAny (model X.prog X.w) X.A (pyIter (.ref s.heap.objs.size)) (PIE X pins σ tg R) E { s with heap := s.heap.push { cls := .type "range", data := .fields #[.int lo t, .int hi u, .int 1 v] }, toks := tk } := by
  refine wpAny_pyIter_range (IsRange.new ..) (small_one h1 h2 h3 h4) ?_
  have I1 : Inv X pins σ H { s with heap := s.heap.push { cls := .type "range", data := .fields #[.int lo t, .int hi u, .int 1 v] }, toks := tk } := I.kept fun b o e => Heap.get?_push_of_some _ e
  refine ⟨(s.heap.push { cls := .type "range", data := .fields #[.int lo t, .int hi u, .int 1 v] }).objs.size, [(s.heap.push { cls := .type "range", data := .fields #[.int lo t, .int hi u, .int 1 v] }).objs.size], _, _, H, rfl,
    I1.kept (t' := tk) fun b o e => Heap.get?_push_of_some _ e, turn_range _ lo (hi - lo).toNat, ?_, fun b hb => ?_, q⟩
  · have e1 : lo + ((0 : Nat) : Int) * 1 = lo := by simp
    have e2 : (((hi - lo).toNat : Nat) : Int) - ((0 : Nat) : Int) = Builtin.Range.rangeSize lo hi 1 := by rw [rangeSize_one]; split <;> omega
    show IsRangeIter _ _ (lo + ((0 : Nat) : Int) * 1) ((((hi - lo).toNat : Nat) : Int) - ((0 : Nat) : Int)) 1
    rw [e1, e2]
    exact Heap.get?_push_size _ rfl
  · have e : b = (s.heap.push { cls := .type "range", data := .fields #[.int lo t, .int hi u, .int 1 v] }).objs.size := by simpa using hb
    subst e
    exact I1.fpOk (Nat.le_refl _) (I1.hok.fresh (Nat.le_refl _))
def iRng1 (ta : TA) : TI := fun σ H R => ta σ H fun vs H1 => ∃ j : Int, vs = [.int j] ∧ -(2 ^ 62) ≤ j ∧ j < 2 ^ 62 ∧ R (Itr 0 j.toNat) H1
def iRng2 (ta : TA) : TI := fun σ H R => ta σ H fun vs H1 => ∃ i j : Int, vs = [.int i, .int j] ∧ (-(2 ^ 62) ≤ i ∧ i < 2 ^ 62 ∧ -(2 ^ 62) ≤ j ∧ j < 2 ^ 62) ∧ R (Itr i (j - i).toNat) H1
theorem pi_range1 {a : Expr} {ta : TA} {p pos : Pos} (hg : Gl X "range") (hm : X.mg "range" = none) (ha : PA X [a] ta) (hs : starEach [a] X.env = [(false, eval a X.env)] := by rfl) : PI X tg (.Call (.Name "range" p) [a] [] pos) (iRng1 ta) := by
  intro pins s σ H R I h
  refine Call_ (ld_blt I hg hm boot_range (PyProof.Rows.callWith_type1 (thn (ha pos pins s σ H _ I h) fun us s1 ⟨vs, H1, I1, r1, q1⟩ => ?_) hs rfl))
  obtain ⟨j, e, q1, q2, q⟩ := q1
  subst e
  cases r1 with
  | cons r rr =>
    cases rr
    obtain ⟨t, rfl⟩ := r
    exact call_range_1 (range_it I1 (by omega) (by omega) q1 q2 (by simpa using q))
theorem pi_range2 {a b : Expr} {ta : TA} {p pos : Pos} (hg : Gl X "range") (hm : X.mg "range" = none) (ha : PA X [a, b] ta) (hs : starEach [a, b] X.env = [(false, eval a X.env), (false, eval b X.env)] := by rfl) (hs2 : starEach [b] X.env = [(false, eval b X.env)] := by rfl) :
    PI X tg (.Call (.Name "range" p) [a, b] [] pos) (iRng2 ta) := by
  intro pins s σ H R I h
  refine Call_ (ld_blt I hg hm boot_range (PyProof.Rows.callWith_type1 (thn (ha pos pins s σ H _ I h) fun us s1 ⟨vs, H1, I1, r1, q1⟩ => ?_) (by rw [hs, hs2]) (by rw [hs2]; rfl)))
  obtain ⟨i, j, e, ⟨q1, q2, q3, q4⟩, q⟩ := q1
  subst e
  cases r1 with
  | cons r rr =>
    cases rr with
    | cons r' rr =>
      cases rr
      obtain ⟨t, rfl⟩ := r
      obtain ⟨t', rfl⟩ := r'
      exact call_range_2 (range_it I1 q1 q2 q3 q4 q)

def tFor (wi : TI) (g : TG) (tb : TS) : TS := fun D σ H => wi σ H fun J H1 => ∃ W : Nat → Nat → St → Hp → Prop, (∃ m, W 0 m σ H1) ∧ ∀ i m σ H, W i m σ H →
  (J.stop i H ∧ D.nx σ H) ∨ (J.go i H ∧ ∃ N : St → Hp → Prop, (∀ σ' H', N σ' H' → ∃ m', m' < m ∧ W (i + 1) m' σ' H') ∧ ∀ x H', J.yld i H x H' → g x σ H' fun σ2 H2 => tb { D with nx := N, ct := N, bk := D.nx } σ2 H2)
def pinsAt (fp : List Addr) (h : Heap) : List (Addr × Obj) := fp.filterMap fun b => (h.get? b).map fun o => (b, o)
theorem mem_pinsAt {fp : List Addr} {h : Heap} {b : Addr} {o : Obj} (hb : b ∈ fp) (e : h.get? b = some o) : (b, o) ∈ pinsAt fp h := List.mem_filterMap.mpr ⟨b, hb, by rw [e]; rfl⟩
theorem of_pinsAt {fp : List Addr} {h : Heap} {p : Addr × Obj} (hp : p ∈ pinsAt fp h) : p.1 ∈ fp ∧ h.get? p.1 = some p.2 := by
  obtain ⟨b, hb, e⟩ := List.mem_filterMap.mp hp
  cases q : h.get? b with
  | none => rw [q] at e; cases e
  | some o =>
    rw [q] at e
    have e' : (b, o) = p := Option.some.inj e
    subst e'
    exact ⟨hb, q⟩
theorem Inv.pinned {pins : List (Addr × Obj)} {σ : St} {H : Hp} {s : Shared} {fp : List Addr} (I : Inv X pins σ H s) (hf : ∀ b ∈ fp, FpOk X pins H b) (ho : ∀ b ∈ fp, ∃ o, s.heap.get? b = some o ∧ ∀ v, o.data ≠ .cell v) : Inv X (pins ++ pinsAt fp s.heap) σ H s :=
  I.pins_of fun p hp => (List.mem_append.mp hp).elim (fun z => I.pin p (List.mem_append_right _ z)) fun z => by
    obtain ⟨hb, e⟩ := of_pinsAt z
    obtain ⟨f0, f1, f2, _⟩ := hf p.1 hb
    obtain ⟨o, e', d⟩ := ho p.1 hb
    rw [e] at e'; cases e'
    exact ⟨e, f0, f1, f2, d⟩
theorem Inv.unpinned {pins pl : List (Addr × Obj)} {σ : St} {H : Hp} {s : Shared} (I : Inv X (pins ++ pl) σ H s) : Inv X pins σ H s := I.pins_of fun p hp => I.pin p (List.mem_append_right _ (List.mem_append_left _ hp))
theorem ps_for {iter : Expr} {body : List Stmt} {wi : TI} {g : TG} {tb : TS} {pos : Pos} (hp : PassesOwn (model X.prog X.w) X.A X.env X.xe) (hc : X.calm = true) (hi : PI X tg iter wi) (hg : PG X tg g) (hb : PSs X body tb)
    (hs : ∀ x, foldedSetIterable iter X.env x = pure x := by intro _; rfl) : PS X (.For tg iter body [] pos) (tFor wi g tb) := by
  intro pins s σ H D I h
  refine wpAny_For (thn (hi pins s σ H _ I h) fun v s1 h1 => thn h1 fun itv s2 h2 => ?_) hs
  obtain ⟨it, fp, tn, J, H2, e, I2, T, st2, f2, W, ⟨m0, w0⟩, turn⟩ := h2
  subst e
  -- what stays true of the iterator's objects through the loop
  have stat : ∀ {H' : Hp}, (∀ b ∈ fp, H' b = none) → ∀ b ∈ fp, FpOk X pins H' b := fun hn b hb => ⟨hn b hb, (f2 b hb).2⟩
  refine codeAny_forLoop_any (fun n s' => ∃ i σ' H', Inv X pins σ' H' s' ∧ tn i s'.heap ∧ (∀ b ∈ fp, H' b = none) ∧ W i n σ' H') ?_ m0 ⟨0, σ, H2, I2, st2, fun b hb => (f2 b hb).1, w0⟩
  rintro n s3 ⟨i, σ3, H3, I3, st3, fr3, w3⟩
  rcases turn i n σ3 H3 w3 with ⟨stop, qn⟩ | ⟨go, N, hN, step⟩
  · refine wpAny_passesOwn hp (thn (T.done X rfl rfl rfl hc i pins s3 σ3 H3 X.xe I3 (stat fr3) st3 stop) fun r s4 ⟨hr, I4⟩ => ?_)
    subst hr
    exact wpAny_execs_nil ⟨σ3, H3, I4, qn⟩
  · refine wpAny_passesOwn hp (thn (T.item X rfl rfl rfl hc i pins s3 σ3 H3 X.xe I3 (stat fr3) st3 go) fun r s4 ⟨u, hr, h4⟩ => ?_)
    subst hr
    refine wpAny_passesOwn hp (thn h4 fun _ s5 ⟨x, H5, I5, r5, y5, st5, fr5⟩ => ?_)
    have I5' := I5.pinned (stat fr5) (T.obj _ _ st5)
    refine wpAny_passesOwn hp (thn (hg _ s5 σ3 H5 x u _ I5' r5 (step x H5 y5)) fun _ s6 ⟨σ6, H6, I6, q6⟩ => ?_)
    refine wpAny_passesOwn hp (thn (hb _ s6 σ6 H6 _ I6 q6) fun f s7 q7 => ?_)
    have again : ∀ {σ7 : St} {H7 : Hp}, Inv X (pins ++ pinsAt fp s5.heap) σ7 H7 s7 → N σ7 H7 → ∃ m, m < n ∧ ∃ i σ' H', Inv X pins σ' H' s7 ∧ tn i s7.heap ∧ (∀ b ∈ fp, H' b = none) ∧ W i m σ' H' := fun {σ7 H7} I7 n7 => by
      obtain ⟨m', hm, w7⟩ := hN σ7 H7 n7
      refine ⟨m', hm, i + 1, σ7, H7, I7.unpinned, T.keep _ _ _ st5 fun b hb o e => (I7.pin (b, o) (List.mem_append_right _ (List.mem_append_right _ (mem_pinsAt hb e)))).1, fun b hb => ?_, w7⟩
      obtain ⟨o, e, d⟩ := T.obj _ _ st5 b hb
      exact (I7.pin (b, o) (List.mem_append_right _ (List.mem_append_right _ (mem_pinsAt hb e)))).2.1
    cases f with
    | next => obtain ⟨σ7, H7, I7, n7⟩ := q7; exact again I7 n7
    | cont => obtain ⟨σ7, H7, I7, n7⟩ := q7; exact again I7 n7
    | brk => obtain ⟨σ7, H7, I7, q7⟩ := q7; exact ⟨σ7, H7, I7.unpinned, q7⟩
    | ret v => obtain ⟨x7, σ7, H7, I7, r7, q7⟩ := q7; exact ⟨x7, σ7, H7, I7.unpinned, r7, q7⟩
end

theorem for_list {K : PySem.W.Frag} {a : Addr} {xs : List V} {g : TG} {tb : TS} {D : Ends} {σ : St} {H : Hp} (Pv : Nat → St → Hp → Prop) (h0 : Pv 0 σ H) (hl : ∀ i σ H, i ≤ xs.length → Pv i σ H → SqL K H a xs)
    (hs : ∀ i x σ H, xs[i]? = some x → Pv i σ H → g x σ H fun σ2 H2 => tb { D with nx := Pv (i + 1), ct := Pv (i + 1), bk := D.nx } σ2 H2) (hd : ∀ σ H, Pv xs.length σ H → D.nx σ H) :
    ∃ W : Nat → Nat → St → Hp → Prop, (∃ m, W 0 m σ H) ∧ ∀ i m σ H, W i m σ H →
      ((Itl K a).stop i H ∧ D.nx σ H) ∨ ((Itl K a).go i H ∧ ∃ N : St → Hp → Prop, (∀ σ' H', N σ' H' → ∃ m', m' < m ∧ W (i + 1) m' σ' H') ∧ ∀ x H', (Itl K a).yld i H x H' → g x σ H' fun σ2 H2 => tb { D with nx := N, ct := N, bk := D.nx } σ2 H2) := by
  refine ⟨fun i m σ H => m = xs.length - i ∧ i ≤ xs.length ∧ Pv i σ H, ⟨xs.length, by simp, Nat.zero_le _, h0⟩, ?_⟩
  rintro i m σ H ⟨rfl, hi, p⟩
  have q := hl i σ H hi p
  by_cases hlt : i < xs.length
  · refine .inr ⟨⟨xs, xs[i], q, by simp [hlt]⟩, Pv (i + 1), fun σ' H' p' => ⟨xs.length - (i + 1), by omega, rfl, hlt, p'⟩, fun x H' y => ?_⟩
    obtain ⟨e, y⟩ := y
    subst e
    exact hs i x σ _ (y xs q) p
  · have e : i = xs.length := by omega
    subst e
    exact .inl ⟨⟨xs, q, Nat.le_refl _⟩, hd σ H p⟩
theorem for_tup {K : PySem.W.Frag} {a : Addr} {xs : List V} {g : TG} {tb : TS} {D : Ends} {σ : St} {H : Hp} (Pv : Nat → St → Hp → Prop) (h0 : Pv 0 σ H) (hl : ∀ i σ H, i ≤ xs.length → Pv i σ H → SqT K H a xs)
    (hs : ∀ i x σ H, xs[i]? = some x → Pv i σ H → g x σ H fun σ2 H2 => tb { D with nx := Pv (i + 1), ct := Pv (i + 1), bk := D.nx } σ2 H2) (hd : ∀ σ H, Pv xs.length σ H → D.nx σ H) :
    ∃ W : Nat → Nat → St → Hp → Prop, (∃ m, W 0 m σ H) ∧ ∀ i m σ H, W i m σ H →
      ((Itt K a).stop i H ∧ D.nx σ H) ∨ ((Itt K a).go i H ∧ ∃ N : St → Hp → Prop, (∀ σ' H', N σ' H' → ∃ m', m' < m ∧ W (i + 1) m' σ' H') ∧ ∀ x H', (Itt K a).yld i H x H' → g x σ H' fun σ2 H2 => tb { D with nx := N, ct := N, bk := D.nx } σ2 H2) := by
  refine ⟨fun i m σ H => m = xs.length - i ∧ i ≤ xs.length ∧ Pv i σ H, ⟨xs.length, by simp, Nat.zero_le _, h0⟩, ?_⟩
  rintro i m σ H ⟨rfl, hi, p⟩
  have q := hl i σ H hi p
  by_cases hlt : i < xs.length
  · refine .inr ⟨⟨xs, xs[i], q, by simp [hlt]⟩, Pv (i + 1), fun σ' H' p' => ⟨xs.length - (i + 1), by omega, rfl, hlt, p'⟩, fun x H' y => ?_⟩
    obtain ⟨e, y⟩ := y
    subst e
    exact hs i x σ _ (y xs q) p
  · have e : i = xs.length := by omega
    subst e
    exact .inl ⟨⟨xs, q, Nat.le_refl _⟩, hd σ H p⟩
theorem for_range {lo : Int} {n : Nat} {g : TG} {tb : TS} {D : Ends} {σ : St} {H : Hp} (Pv : Nat → St → Hp → Prop) (h0 : Pv 0 σ H)
    (hs : ∀ i σ H, i < n → Pv i σ H → g (.int (lo + i)) σ H fun σ2 H2 => tb { D with nx := Pv (i + 1), ct := Pv (i + 1), bk := D.nx } σ2 H2) (hd : ∀ σ H, Pv n σ H → D.nx σ H) :
    ∃ W : Nat → Nat → St → Hp → Prop, (∃ m, W 0 m σ H) ∧ ∀ i m σ H, W i m σ H →
      ((Itr lo n).stop i H ∧ D.nx σ H) ∨ ((Itr lo n).go i H ∧ ∃ N : St → Hp → Prop, (∀ σ' H', N σ' H' → ∃ m', m' < m ∧ W (i + 1) m' σ' H') ∧ ∀ x H', (Itr lo n).yld i H x H' → g x σ H' fun σ2 H2 => tb { D with nx := N, ct := N, bk := D.nx } σ2 H2) := by
  refine ⟨fun i m σ H => m = n - i ∧ i ≤ n ∧ Pv i σ H, ⟨n, by simp, Nat.zero_le _, h0⟩, ?_⟩
  rintro i m σ H ⟨rfl, hi, p⟩
  by_cases hlt : i < n
  · refine .inr ⟨hlt, Pv (i + 1), fun σ' H' p' => ⟨n - (i + 1), by omega, rfl, hlt, p'⟩, fun x H' y => ?_⟩
    obtain ⟨e, y⟩ := y
    subst e y
    exact hs i σ _ hlt p
  · have e : i = n := by omega
    subst e
    exact .inl ⟨Nat.le_refl _, hd σ H p⟩
end L2

namespace L2
open PySem PySem.Spec PyProof.Rows

abbrev R2 := V → V → Hp → VK → Prop
def OpR (X : Cx) (f : Value → Value → Sem Value) (r : R2) : Prop :=
  ∀ (pins : List (Addr × Obj)) (s : Shared) (σ : St) (H : Hp) (x y : V) (v u : Value) (Q : VK), Inv X pins σ H s → RelV x v → RelV y u → r x y H Q →
    wpAny (model X.prog X.w) X.A (f v u) (EP X pins σ Q) X.xe s
def CallR (X : Cx) (f : Value) (r : List V → Hp → VK → Prop) : Prop :=
  ∀ (pins : List (Addr × Obj)) (s : Shared) (σ : St) (H : Hp) (xs : List V) (us : List Value) (Q : VK), Inv X pins σ H s → Vals xs us → r xs H Q →
    wpAny (model X.prog X.w) X.A (call f us) (EP X pins σ Q) X.xe s
def tOp (r : R2) (ta tb : TE) : TE := fun σ H Q => ta σ H fun x H1 => tb σ H1 fun y H2 => r x y H2 Q
def rI (C : Int → Int → Prop) (g : Int → Int → V) : R2 := fun x y H Q => ∃ i j, x = .int i ∧ y = .int j ∧ C i j ∧ Q (g i j) H
def rI0 (g : Int → Int → V) : R2 := fun x y H Q => ∃ i j, x = .int i ∧ y = .int j ∧ Q (g i j) H
section
variable {X : Cx} {a b c : Expr} {ta tb tc : TE} {pos : Pos}

theorem binT (ha : PE X a ta) (hb : PE X b tb) {pins : List (Addr × Obj)} {s : Shared} {σ : St} {H : Hp} {R : V → V → Hp → Prop} (I : Inv X pins σ H s)
    (h : ta σ H fun x H1 => tb σ H1 fun y H2 => R x y H2) {Q : Value → Shared → Prop} {f : Value → Value → Sem Value}
    (hf : ∀ v u s2 x y H2, Inv X pins σ H2 s2 → RelV x v → RelV y u → R x y H2 → wpAny (model X.prog X.w) X.A (f v u) Q X.xe s2) :
    wpAny (model X.prog X.w) X.A (eval a X.env) (fun v s₁ => wpAny (model X.prog X.w) X.A (eval b X.env) (fun u s₂ => wpAny (model X.prog X.w) X.A (f v u) Q X.xe s₂) X.xe s₁) X.xe s := by
  refine thn (ha pins s σ H _ I h) fun v s1 ⟨x, H1, I1, r1, q1⟩ => ?_
  refine thn (hb pins s1 σ H1 _ I1 q1) fun u s2 ⟨y, H2, I2, r2, q2⟩ => ?_
  exact hf v u s2 x y H2 I2 r1 r2 q2

theorem pe_op {op : Operator} {r : R2} (ho : OpR X (binaryOp op) r) (ha : PE X a ta) (hb : PE X b tb) : PE X (.BinOp a op b pos) (tOp r ta tb) := by
  intro pins s σ H Q I h
  exact wpAny_BinOp (binT ha hb I h fun v u s2 x y H2 I2 rx ry q => ho pins s2 σ H2 x y v u Q I2 rx ry q)
theorem opI {f : Value → Value → Sem Value} {C : Int → Int → Prop} {g : Int → Int → Int}
    (rule : ∀ (i j : Int) (t u : Tok) (s : Shared) (Q : Value → Shared → Prop) (E : Value → Shared → Prop), C i j → Q (.int (g i j) s.toks) { s with toks := s.toks + 1 } → wpAny (model X.prog X.w) X.A (f (.int i t) (.int j u)) Q E s) :
    OpR X f (rI C fun i j => .int (g i j)) := by
  intro pins s σ H x y v u Q I rx ry h
  obtain ⟨i, j, rfl, rfl, hc, q⟩ := h
  obtain ⟨t, rfl⟩ := rx
  obtain ⟨t', rfl⟩ := ry
  exact rule i j t t' s _ _ hc ⟨.int (g i j), H, I.tok _, ⟨_, rfl⟩, q⟩
theorem opI0 {f : Value → Value → Sem Value} {g : Int → Int → Int}
    (rule : ∀ (i j : Int) (t u : Tok) (s : Shared) (Q : Value → Shared → Prop) (E : Value → Shared → Prop), Q (.int (g i j) s.toks) { s with toks := s.toks + 1 } → wpAny (model X.prog X.w) X.A (f (.int i t) (.int j u)) Q E s) :
    OpR X f (rI0 fun i j => .int (g i j)) := by
  intro pins s σ H x y v u Q I rx ry h
  obtain ⟨i, j, rfl, rfl, q⟩ := h
  obtain ⟨t, rfl⟩ := rx
  obtain ⟨t', rfl⟩ := ry
  exact rule i j t t' s _ _ ⟨.int (g i j), H, I.tok _, ⟨_, rfl⟩, q⟩
theorem opB0 {f : Value → Value → Sem Value} {g : Int → Int → Bool}
    (rule : ∀ (i j : Int) (t u : Tok) (s : Shared) (Q : Value → Shared → Prop) (E : Value → Shared → Prop), Q (.bool (g i j)) s → wpAny (model X.prog X.w) X.A (f (.int i t) (.int j u)) Q E s) :
    OpR X f (rI0 fun i j => .bl (g i j)) := by
  intro pins s σ H x y v u Q I rx ry h
  obtain ⟨i, j, rfl, rfl, q⟩ := h
  obtain ⟨t, rfl⟩ := rx
  obtain ⟨t', rfl⟩ := ry
  exact rule i j t t' s _ _ ⟨.bl (g i j), H, I, rfl, q⟩

def CDiv (i j : Int) : Prop := 0 < j ∧ j < 1073741824
def CPow (i j : Int) : Prop := 0 ≤ j ∧ j ≤ 1000000 ∧ i.natAbs < 2 ^ 64
def CMul (i j : Int) : Prop := (-(2 ^ 64) < i ∧ i < 2 ^ 64) ∨ (-(2 ^ 64) < j ∧ j < 2 ^ 64)
theorem CMul.ok {i j : Int} (h : CMul i j) : IntMulOk i j := by
  rcases h with ⟨h1, h2⟩ | ⟨h1, h2⟩
  · exact .of_left (intBits_le_64 h1 h2)
  · exact .of_right (intBits_le_64 h1 h2)
theorem two_pow_nn (k : Nat) : (0 : Int) ≤ 2 ^ k := by
  rw [two_pow_cast]
  exact Int.natCast_nonneg _

theorem op_add : OpR X (binaryOp .Add) (rI0 fun i j => .int (i + j)) := opI0 fun _ _ _ _ _ _ _ q => add_int q
theorem op_sub : OpR X (binaryOp .Sub) (rI0 fun i j => .int (i - j)) := opI0 fun _ _ _ _ _ _ _ q => sub_int q
theorem op_mul : OpR X (binaryOp .Mult) (rI CMul fun i j => .int (i * j)) := opI fun _ _ _ _ _ _ _ hc q => mul_int q hc.ok
theorem op_fdiv : OpR X (binaryOp .FloorDiv) (rI CDiv fun i j => .int (i / j)) := opI fun i j _ _ _ _ _ hc q => by
  have h1 : (0 : Int) < j := hc.1
  have h2 : j < 1073741824 := hc.2
  exact floordiv_int (by omega) (by rw [Int.fdiv_eq_ediv_of_nonneg i (by omega)]; exact q) (.inl (PyProof.noPylong_small (by omega)))
theorem op_mod : OpR X (binaryOp .Mod) (rI (fun _ j => 0 < j) fun i j => .int (i % j)) := opI fun i j _ _ _ _ _ hc q => by
  have h1 : (0 : Int) < j := hc
  exact mod_int' (by omega) (by rw [Int.fmod_eq_emod_of_nonneg i (by omega)]; exact q)
theorem op_pow : OpR X (binaryOp .Pow) (rI CPow fun i j => .int (i ^ j.toNat)) := opI fun _ _ _ _ _ _ _ hc q => pow_int_small hc.1 hc.2.1 hc.2.2 q
theorem op_shl : OpR X (binaryOp .LShift) (rI CPow fun i j => .int (i * 2 ^ j.toNat)) := opI fun _ _ _ _ _ _ _ hc q => lshift_int_small hc.1 hc.2.1 hc.2.2 q
theorem op_shr : OpR X (binaryOp .RShift) (rI (fun _ j => 0 ≤ j) fun i j => .int (i / 2 ^ j.toNat)) := opI fun i j _ _ _ _ _ hc q =>
  rshift_int hc (by rw [Int.fdiv_eq_ediv_of_nonneg i (two_pow_nn _)]; exact q)
theorem op_and : OpR X (binaryOp .BitAnd) (rI0 fun i j => .int (Builtin.bitAnd i j)) := opI0 fun _ _ _ _ _ _ _ q => and_int q
end

def scal : V → V → Bool
  | .non, .non => true | .non, .int _ => true | .int _, .non => true | .non, .bl _ => true | .bl _, .non => true | .non, .str _ => true | .str _, .non => true
  | .int _, .int _ => true | .bl _, .bl _ => true | .str _, .str _ => true | .byt _, .byt _ => true
  | .int _, .str _ => true | .str _, .int _ => true | .bl _, .str _ => true | .str _, .bl _ => true
  | _, _ => false
def rEq : R2 := fun x y H Q => scal x y = true ∧ Q (.bl (decide (x = y))) H
def rNe : R2 := fun x y H Q => scal x y = true ∧ Q (.bl (!decide (x = y))) H

theorem dec_int {i j : Int} : decide (V.int i = V.int j) = (i == j) := by
  rw [Bool.eq_iff_iff]
  simp
theorem dec_bl {i j : Bool} : decide (V.bl i = V.bl j) = (i == j) := by
  rw [Bool.eq_iff_iff]
  simp
theorem dec_str {i j : Str} : decide (V.str i = V.str j) = (i == j) := by
  rw [Bool.eq_iff_iff]
  simp
theorem dec_byt {i j : Array UInt8} : decide (V.byt i = V.byt j) = (i.toList == j.toList) := by
  rw [Bool.eq_iff_iff]
  cases i
  cases j
  simp

section
variable {X : Cx} {a b c : Expr} {ta tb tc : TE} {pos : Pos}
theorem fin_bl {pins : List (Addr × Obj)} {σ : St} {H : Hp} {s : Shared} {Q : VK} {k k' : Bool} (I : Inv X pins σ H s) (q : Q (.bl k) H) (e : k = k') : EP X pins σ Q (.bool k') s := by
  subst e
  exact ⟨.bl k, H, I, rfl, q⟩
theorem op_eq : OpR X (compareOp .Eq) rEq := by
  intro pins s σ H x y v u Q I rx ry h
  obtain ⟨hs, q⟩ := h
  cases x with
  | non =>
    cases rx
    cases y with
    | non => cases ry; exact PySem.EqNone.eq_none_none (fin_bl I q (by simp))
    | bl j => cases ry; exact PySem.EqNone.eq_none_bool (fin_bl I q (by simp))
    | int j => obtain ⟨t', rfl⟩ := ry; exact PySem.EqNone.eq_none_int (fin_bl I q (by simp))
    | str j => obtain ⟨t', rfl⟩ := ry; exact PySem.EqNone.eq_none_str (fin_bl I q (by simp))
    | _ => exact absurd (show false = true from hs) Bool.false_ne_true
  | bl i =>
    cases rx
    cases y with
    | non => cases ry; exact PySem.EqNone.eq_bool_none (fin_bl I q (by simp))
    | bl j => cases ry; exact eq_bool (fin_bl I q dec_bl)
    | str j => obtain ⟨t', rfl⟩ := ry; exact PySem.EqMixed.eq_bool_str (fin_bl I q (by simp))
    | _ => exact absurd (show false = true from hs) Bool.false_ne_true
  | int i =>
    obtain ⟨t, rfl⟩ := rx
    cases y with
    | non => cases ry; exact PySem.EqNone.eq_int_none (fin_bl I q (by simp))
    | int j => obtain ⟨t', rfl⟩ := ry; exact eq_int (fin_bl I q dec_int)
    | str j => obtain ⟨t', rfl⟩ := ry; exact PySem.EqMixed.eq_int_str (fin_bl I q (by simp))
    | _ => exact absurd (show false = true from hs) Bool.false_ne_true
  | str i =>
    obtain ⟨t, rfl⟩ := rx
    cases y with
    | non => cases ry; exact PySem.EqNone.eq_str_none (fin_bl I q (by simp))
    | bl j => cases ry; exact PySem.EqMixed.eq_str_bool (fin_bl I q (by simp))
    | int j => obtain ⟨t', rfl⟩ := ry; exact PySem.EqMixed.eq_str_int (fin_bl I q (by simp))
    | str j => obtain ⟨t', rfl⟩ := ry; exact eq_str (fin_bl I q dec_str)
    | _ => exact absurd (show false = true from hs) Bool.false_ne_true
  | byt i =>
    obtain ⟨t, rfl⟩ := rx
    cases y with
    | byt j => obtain ⟨t', rfl⟩ := ry; exact PySem.W.eq_bytes (fin_bl I q dec_byt)
    | _ => exact absurd (show false = true from hs) Bool.false_ne_true
  | _ => cases y <;> exact absurd (show false = true from hs) Bool.false_ne_true
theorem op_ne : OpR X (compareOp .NotEq) rNe := by
  intro pins s σ H x y v u Q I rx ry h
  obtain ⟨hs, q⟩ := h
  cases x with
  | non =>
    cases rx
    cases y with
    | non => cases ry; exact PySem.EqNone.ne_none_none (fin_bl I q (by simp))
    | bl j => cases ry; exact PySem.EqNone.ne_none_bool (fin_bl I q (by simp))
    | int j => obtain ⟨t', rfl⟩ := ry; exact PySem.EqNone.ne_none_int (fin_bl I q (by simp))
    | str j => obtain ⟨t', rfl⟩ := ry; exact PySem.EqNone.ne_none_str (fin_bl I q (by simp))
    | _ => exact absurd (show false = true from hs) Bool.false_ne_true
  | bl i =>
    cases rx
    cases y with
    | non => cases ry; exact PySem.EqNone.ne_bool_none (fin_bl I q (by simp))
    | bl j => cases ry; exact ne_bool (fin_bl I q (congrArg not dec_bl))
    | str j => obtain ⟨t', rfl⟩ := ry; exact PySem.EqMixed.ne_bool_str (fin_bl I q (by simp))
    | _ => exact absurd (show false = true from hs) Bool.false_ne_true
  | int i =>
    obtain ⟨t, rfl⟩ := rx
    cases y with
    | non => cases ry; exact PySem.EqNone.ne_int_none (fin_bl I q (by simp))
    | int j => obtain ⟨t', rfl⟩ := ry; exact ne_int (fin_bl I q (congrArg not dec_int))
    | str j => obtain ⟨t', rfl⟩ := ry; exact PySem.EqMixed.ne_int_str (fin_bl I q (by simp))
    | _ => exact absurd (show false = true from hs) Bool.false_ne_true
  | str i =>
    obtain ⟨t, rfl⟩ := rx
    cases y with
    | non => cases ry; exact PySem.EqNone.ne_str_none (fin_bl I q (by simp))
    | bl j => cases ry; exact PySem.EqMixed.ne_str_bool (fin_bl I q (by simp))
    | int j => obtain ⟨t', rfl⟩ := ry; exact PySem.EqMixed.ne_str_int (fin_bl I q (by simp))
    | str j => obtain ⟨t', rfl⟩ := ry; exact ne_str (fin_bl I q (congrArg not dec_str))
    | _ => exact absurd (show false = true from hs) Bool.false_ne_true
  | byt i =>
    obtain ⟨t, rfl⟩ := rx
    cases y with
    | byt j => obtain ⟨t', rfl⟩ := ry; exact PySem.W.ne_bytes (fin_bl I q (congrArg not dec_byt))
    | _ => exact absurd (show false = true from hs) Bool.false_ne_true
  | _ => cases y <;> exact absurd (show false = true from hs) Bool.false_ne_true

theorem op_lt : OpR X (compareOp .Lt) (rI0 fun i j => .bl (decide (i < j))) := opB0 fun _ _ _ _ _ _ _ q => lt_int q
theorem op_le : OpR X (compareOp .LtE) (rI0 fun i j => .bl (decide (i ≤ j))) := opB0 fun _ _ _ _ _ _ _ q => le_int q
theorem op_gt : OpR X (compareOp .Gt) (rI0 fun i j => .bl (decide (j < i))) := opB0 fun _ _ _ _ _ _ _ q => gt_int q
theorem op_ge : OpR X (compareOp .GtE) (rI0 fun i j => .bl (decide (j ≤ i))) := opB0 fun _ _ _ _ _ _ _ q => ge_int q
theorem nomark (b : Expr) {op : CmpOp} (h : op ≠ .In := by decide) (h2 : op ≠ .NotIn := by decide) : behindInMarks op b = false := by
  have e1 : (op == CmpOp.In) = false := by cases op <;> first | rfl | exact absurd rfl h
  have e2 : (op == CmpOp.NotIn) = false := by cases op <;> first | rfl | exact absurd rfl h2
  cases b <;> simp [behindInMarks, e1, e2]
theorem pe_cmpR {op : CmpOp} {r : R2} (ho : OpR X (compareOp op) r) (ha : PE X a ta) (hb : PE X b tb) (hm : behindInMarks op b = false) : PE X (.Compare a [op] [b] pos) (tOp r ta tb) := by
  intro pins s σ H Q I h
  exact wpAny_Compare1 (binT ha hb I h fun v u s2 x y H2 I2 rx ry q => ho pins s2 σ H2 x y v u Q I2 rx ry q) hm
def tTest (t : TE) : TT := fun σ H Q => t σ H fun x H' => ∃ k, x = .bl k ∧ Q k H'
theorem pt_cmpR {op : CmpOp} {r : R2} (ho : OpR X (compareOp op) r) (ha : PE X a ta) (hb : PE X b tb) (hm : behindInMarks op b = false) : PT X (.Compare a [op] [b] pos) (tTest (tOp r ta tb)) := by
  intro pins s σ H Q I h
  refine wpAny_isTrue_Compare1 (thn (ha pins s σ H _ I h) fun v s1 ⟨x, H1, I1, r1, q1⟩ => thn (hb pins s1 σ H1 _ I1 q1) fun u s2 ⟨y, H2, I2, r2, q2⟩ =>
    thn (ho pins s2 σ H2 x y v u _ I2 r1 r2 q2) fun c s3 ⟨z, H3, I3, r3, k, e, q3⟩ => ?_) hm
  subst e
  cases r3
  exact wpAny_truthy_bool ⟨H3, I3, q3⟩
def tChain (r r' : R2) (ta tb tc : TE) : TE := fun σ H Q => ta σ H fun x H1 => tb σ H1 fun y H2 => r x y H2 fun z H3 => ∃ k, z = .bl k ∧
  (if k = true then tc σ H3 fun w' H4 => r' y w' H4 Q else Q (.bl false) H3)
theorem pe_chain {op op' : CmpOp} {r r' : R2} (ho : OpR X (compareOp op) r) (ho' : OpR X (compareOp op') r') (ha : PE X a ta) (hb : PE X b tb) (hc : PE X c tc)
    (hm : lastMarks [op, op'] [b, c] = false := by with_unfolding_all rfl) : PE X (.Compare a [op, op'] [b, c] pos) (tChain r r' ta tb tc) := by
  intro pins s σ H Q I h
  refine Compare_chain (thn (ha pins s σ H _ I h) fun v s1 ⟨x, H1, I1, r1, q1⟩ => chain_link (thn (hb pins s1 σ H1 _ I1 q1) fun u s2 ⟨y, H2, I2, r2, q2⟩ =>
    thn (ho pins s2 σ H2 x y v u _ I2 r1 r2 q2) fun d s3 ⟨z, H3, I3, r3, k, e, q3⟩ => ?_)) hm
  subst e
  cases r3
  refine wpAny_truthy_bool ?_
  cases k with
  | false => exact ite_ff ⟨.bl false, H3, I3, rfl, q3⟩
  | true => exact ite_tt (chain_last (thn (hc pins s3 σ H3 _ I3 q3) fun w' s4 ⟨z', H4, I4, r4, q4⟩ => ho' pins s4 σ H4 y z' u w' Q I4 r2 r4 q4))
theorem line63 : (sizeLine : Nat) < 2 ^ 63 := by rw [sizeLine_eq]; decide
theorem vals1 {x : V} {us : List Value} (r : Vals [x] us) : ∃ u, us = [u] ∧ RelV x u := by
  cases r with
  | cons r1 r2 => cases r2; exact ⟨_, rfl, r1⟩
theorem vals2 {x y : V} {us : List Value} (r : Vals [x, y] us) : ∃ u w', us = [u, w'] ∧ RelV x u ∧ RelV y w' := by
  cases r with
  | cons r1 r2 =>
    cases r2 with
    | cons r3 r4 => cases r4; exact ⟨_, _, rfl, r1, r3⟩
theorem call_max2 (hc : X.calm = true) : CallR X (.builtin "max") (fun xs H Q => ∃ i j, xs = [.int i, .int j] ∧ Q (.int (if j > i then j else i)) H) := by
  intro pins s σ H xs us Q I r h
  obtain ⟨i, j, rfl, q⟩ := h
  obtain ⟨u, w', rfl, ⟨t, rfl⟩, ⟨t', rfl⟩⟩ := vals2 r
  refine max_two_ints (I.ok.hd hc) fun h' tk k => ⟨_, H, I.kept k, ?_, q⟩
  by_cases hj : j > i
  · rw [if_pos hj, if_pos hj]; exact ⟨_, rfl⟩
  · rw [if_neg hj, if_neg hj]; exact ⟨_, rfl⟩
theorem call_min2 (hc : X.calm = true) : CallR X (.builtin "min") (fun xs H Q => ∃ i j, xs = [.int i, .int j] ∧ Q (.int (if j < i then j else i)) H) := by
  intro pins s σ H xs us Q I r h
  obtain ⟨i, j, rfl, q⟩ := h
  obtain ⟨u, w', rfl, ⟨t, rfl⟩, ⟨t', rfl⟩⟩ := vals2 r
  refine min_two_ints (I.ok.hd hc) fun h' tk k => ⟨_, H, I.kept k, ?_, q⟩
  by_cases hj : j < i
  · rw [if_pos hj, if_pos hj]; exact ⟨_, rfl⟩
  · rw [if_neg hj, if_neg hj]; exact ⟨_, rfl⟩
theorem call_int1 : CallR X (.type "int") (fun xs H Q => (∃ i, xs = [.int i] ∧ Q (.int i) H) ∨ ∃ k, xs = [.bl k] ∧ Q (.int (if k then 1 else 0)) H) := by
  intro pins s σ H xs us Q I r h
  rcases h with ⟨i, rfl, q⟩ | ⟨k, rfl, q⟩
  · obtain ⟨u, rfl, t, rfl⟩ := vals1 r
    exact call_int_int ⟨.int i, H, I, ⟨_, rfl⟩, q⟩
  · obtain ⟨u, rfl, r1⟩ := vals1 r
    cases r1
    exact call_int_bool ⟨.int (if k then 1 else 0), H, I.tok _, ⟨_, rfl⟩, q⟩
end
end L2

namespace L2
open PySem PySem.Spec PyProof.Rows

structure ObjM (h : Heap) (x dx C : Addr) (mA : Str → Option Value) : Prop where
  obj : h.get? x = some (PySem.W.instObj C dx)
  ns : h.Ns1 dx mA
  ne : dx ≠ x

theorem lookIn_ns {h : Heap} {dx : Addr} {mA : Str → Option Value} (n : h.Ns1 dx mA) : ∃ od, h.get? dx = some od ∧ ∀ name, PySem.W.lookIn name od = some (mA name) := by
  obtain ⟨o, es, ep, ho, hd, hk, _, hm⟩ := n
  refine ⟨o, ho, fun name => ?_⟩
  have e := hm name
  unfold nsFind findBy at e
  rw [← Array.find?_toList] at e
  unfold PySem.W.lookIn
  rw [hd]
  dsimp only
  split
  · rename_i y q
    rw [q] at e
    exact congrArg some e
  · rename_i q
    rw [q] at e
    have a : es.toList.any (·.refKey) = false := by
      rw [List.any_eq_false]
      intro y hy
      obtain ⟨z, t, hkey⟩ := hk y (Array.mem_toList_iff.mp hy)
      simp [DictEntry.refKey, hkey]
    have a' : ¬ es.toList.any (·.refKey) = true := by rw [a]; exact Bool.false_ne_true
    rw [if_neg a']
    exact congrArg some e

theorem ObjM.look {h : Heap} {x dx C : Addr} {mA : Str → Option Value} (I : ObjM h x dx C mA) : ∃ od, PySem.W.InstAt h x (PySem.W.instObj C dx) C (some od) ∧ ∀ name, PySem.W.lookIn name od = some (mA name) :=
  let ⟨od, ho, hl⟩ := lookIn_ns I.ns
  ⟨od, ⟨I.obj, rfl, rfl, ho⟩, hl⟩

section
variable {prog : Program} {w : World} {A : Around} {E : Value → Shared → Prop} {s : Shared} {K : PySem.W.Frag} {x dx C f : Addr} {mA : Str → Option Value} {name : Str} {v : Value}

end

section
variable {P : Program} {w : World} {H H' : Hp} {h h' : Heap} {a C dx : Addr} {fs fs' : List (Str × V)}
theorem ins_get (hok : HOk P w H h) (e : H a = some (.ins C dx fs)) : ∃ mA, ObjM h a dx C mA ∧ (∀ f, RelO (fs.lookup f) (mA f)) ∧ PySem.Within mA (fs.map (·.1)) ∧ fs.length ≤ 1000 ∧ H dx = some (.own a) := by
  obtain ⟨d, z, ne, ob, mA, n, r, q⟩ := (show ObjOk P w H h a (.ins C dx fs) from hok a _ e)
  exact ⟨mA, ⟨ob, n, ne⟩, r, q, z, d⟩
end

structure Cls (K : PySem.W.Frag) (C : Addr) : Prop where
  pg : PySem.W.plainGet K C Str.empty = true
  hd : PySem.W.hasDictIn K C = true
  po : PySem.W.plainOver K C = true
  sa : PySem.W.findIn K (.ref C) "__setattr__" = some (some (.builtin "object.__setattr__"))
theorem Cls.get {K : PySem.W.Frag} {C : Addr} (c : Cls K C) (f : Str) : PySem.W.plainGet K C f = true := c.pg
section
variable {X : Cx} {pins : List (Addr × Obj)} {σ : St} {H : Hp} {s : Shared} {a C dx : Addr} {fs : List (Str × V)} {f : Str} {v : V} {A : Around} {E : Value → Shared → Prop}

end

section
variable {X : Cx} {o e value : Expr} {f : Str} {pos pos' tpos : Pos} {ta tv : TE}
end

section
variable {X : Cx} {pins : List (Addr × Obj)} {σ : St} {H : Hp} {s : Shared} {A : Around} {E : Value → Shared → Prop} {Q : Value → Shared → Prop} {c : Value} {b : Bool}
inductive TyOf (K : PySem.W.Frag) (H : Hp) : V → Value → Prop where
  | non : TyOf K H .non (.type "NoneType")
  | bl (x : Bool) : TyOf K H (.bl x) (.type "bool")
  | int (i : Int) : TyOf K H (.int i) (.type "int")
  | str (x : Str) : TyOf K H (.str x) (.type "str")
  | flt (x : UInt64) : TyOf K H (.flt x) (.type "float")
  | lst {a : Addr} {xs : List V} (e : H a = some (.lst xs)) : TyOf K H (.ref a) (.type "list")
  | frz {a : Addr} {o : Obj} {xs : List V} (e : H a = some (.frz o (.lst xs))) : TyOf K H (.ref a) (.type "list")
  | tup {a : Addr} {xs : List V} (e : H a = some (.tup xs)) : TyOf K H (.ref a) (.type "tuple")
  | dK {a : Addr} {kvs : List (Key × V)} (e : H a = some (.dK kvs)) : TyOf K H (.ref a) (.type "dict")
  | dT {a : Addr} {kvs : List (List Key × V)} (e : H a = some (.dT kvs)) : TyOf K H (.ref a) (.type "dict")
  | ins {a C dx : Addr} {fs : List (Str × V)} (e : H a = some (.ins C dx fs)) (cl : Cls K C) (ha : PySem.W.findIn K (.ref C) "__class__" = some (some (.builtin "object.__class__")))
      (hn : PySem.W.specialIn K (.builtin "object.__class__") "__get__" = some (some (.builtin "getset_descriptor.__get__"))) (htk : PySem.W.takesIn K (.builtin "object.__class__") = some true)
      (hm : PySem.W.mroIn K C (.type "object") = some true) : TyOf K H (.ref a) (.ref C)
theorem isinst_ok {x : V} {u t : Value} (I : Inv X pins σ H s) (rx : RelV x u) (ty : TyOf X.K H x t) (e : PySem.W.kitOne X.K t c = some b) (h : ∀ tk, Q (.bool b) { s with toks := tk }) :
    wpAny (model X.prog X.w) A (call (.builtin "isinstance") [u, c]) Q E s := by
  cases ty with
  | non => cases (show u = Value.none from rx); exact PySem.W.kia_one PySem.W.kitx_none I.kIn True.intro e (fun z => nomatch z) h
  | bl y => cases (show u = Value.bool y from rx); exact PySem.W.kia_one PySem.W.kitx_bool I.kIn True.intro e (fun z => nomatch z) h
  | int i => obtain ⟨t, q⟩ := (show ∃ t, u = Value.int i t from rx); cases q; exact PySem.W.kia_one PySem.W.kitx_int I.kIn True.intro e (fun z => nomatch z) h
  | str y => obtain ⟨t, q⟩ := (show ∃ t, u = Value.str y t from rx); cases q; exact PySem.W.kia_one PySem.W.kitx_str I.kIn True.intro e (fun z => nomatch z) h
  | flt y => obtain ⟨t, q⟩ := (show ∃ t, u = Value.float y t from rx); cases q; exact PySem.W.kia_one PySem.W.kitx_float I.kIn True.intro e (fun z => nomatch z) h
  | @lst a xs ea =>
    cases (show u = Value.ref a from rx)
    obtain ⟨_, _, n, _, h1⟩ := (show ObjOk X.prog X.w H s.heap a (.lst xs) from I.hok a _ ea)
    exact PySem.W.kia_one PySem.W.kitx_list I.kIn ⟨_, h1, rfl⟩ e (fun z => nomatch z) h
  | @frz a ob xs ea =>
    cases (show u = Value.ref a from rx)
    obtain ⟨_, _, _, n, _, h1⟩ := (show ObjOk X.prog X.w H s.heap a (.frz ob (.lst xs)) from I.hok a _ ea)
    exact PySem.W.kia_one PySem.W.kitx_list I.kIn ⟨_, h1, rfl⟩ e (fun z => nomatch z) h
  | @tup a xs ea =>
    cases (show u = Value.ref a from rx)
    obtain ⟨_, _, _, p⟩ := (show ObjOk X.prog X.w H s.heap a (.tup xs) from I.hok a _ ea)
    obtain ⟨o, h1, h2, _⟩ := p
    exact PySem.W.kia_one PySem.W.kitx_tuple I.kIn ⟨o, h1, h2⟩ e (fun z => nomatch z) h
  | @dK a kvs ea =>
    cases (show u = Value.ref a from rx)
    obtain ⟨_, _, vs, _, p⟩ := (show ObjOk X.prog X.w H s.heap a (.dK kvs) from I.hok a _ ea)
    obtain ⟨o, es, ep, h1, h2, _⟩ := p
    exact PySem.W.kia_one PySem.W.kitx_dict I.kIn ⟨o, h1, h2.1⟩ e (fun z => nomatch z) h
  | @dT a kvs ea =>
    cases (show u = Value.ref a from rx)
    obtain ⟨_, _, xs, _, o, es, ep, h1, h2, _⟩ := (show ObjOk X.prog X.w H s.heap a (.dT kvs) from I.hok a _ ea)
    exact PySem.W.kia_one PySem.W.kitx_dict I.kIn ⟨o, h1, h2.1⟩ e (fun z => nomatch z) h
  | @ins a C dx fs ea cl ha hn htk hm =>
    cases (show u = Value.ref a from rx)
    obtain ⟨mA, O, _⟩ := ins_get I.hok ea
    obtain ⟨od, J, _⟩ := O.look
    exact PySem.W.kia_one (PySem.W.kitx_own (cl.get _) cl.hd ha hn htk hm) I.kIn J e (fun z => nomatch z) h
end
end L2

namespace L2
open PySem PySem.Spec PyProof.Rows

structure Room (k : Nat) (A : Around) : Prop where
  hd : A.handled = none
  dp : A.depth + 3 * k + 5 < recursionLimit
  un : A.units + 16 * k + 200 < cLine
  gd : A.guards = some []
theorem Room.mono {j k : Nat} {A : Around} (r : Room k A) (h : j ≤ k) : Room j A := ⟨r.hd, by have := r.dp; omega, by have := r.un; omega, r.gd⟩
theorem Room.deeper {k : Nat} {A : Around} (r : Room (k + 1) A) (env : Env) : Room k (A.deeper env) :=
  ⟨r.hd, by have := r.dp; show A.depth + 1 + 3 * k + 5 < _; omega, by have := r.un; show A.units + 3 + 16 * k + 200 < _; omega, r.gd⟩
theorem Room.depth {k : Nat} {A : Around} (r : Room k A) : A.depth < recursionLimit := by have := r.dp; omega
theorem Room.units {k : Nat} {A : Around} (r : Room k A) : A.units + 64 < cLine := by have := r.un; omega
theorem Room.units0 {k : Nat} {A : Around} (r : Room k A) : A.units < cLine := by have := r.un; omega

def tNil : TA := fun _ H Q => Q [] H
def tCons (ta : TE) (tr : TA) : TA := fun σ H Q => ta σ H fun x H1 => tr σ H1 fun xs H2 => Q (x :: xs) H2
section
variable {X : Cx} {e : Expr} {es : List Expr} {te : TE} {t : TA} {pos : Pos}
theorem pa_nil : PA X [] tNil := fun _ _ _ _ H Q I h => Calls.spliced_nil ⟨[], H, I, .nil, h⟩
theorem pa_cons (ha : PE X e te) (hr : PA X es t) (hs : starEach (e :: es) X.env = (false, eval e X.env) :: starEach es X.env := by rfl) : PA X (e :: es) (tCons te t) := by
  intro pos pins s σ H Q I h
  rw [hs]
  show wpAny _ _ (spliced ((false, eval e X.env) :: backTo pos (starEach es X.env))) _ _ s
  refine Calls.spliced_cons (thn (ha pins s σ H _ I h) fun u s1 ⟨x, H1, I1, r1, q1⟩ => ?_)
  exact thn (hr pos pins s1 σ H1 _ I1 q1) fun us s2 ⟨xs, H2, I2, r2, q2⟩ => ⟨x :: xs, H2, I2, .cons r1 r2, q2⟩

def tTup (t : TA) : TE := fun σ H Q => t σ H fun xs H1 => xs.length ≤ sizeLine ∧ ∀ p, H1 p = none → Q (.ref p) (upd H1 p (.tup xs))
def tLst (t : TA) : TE := fun σ H Q => t σ H fun xs H1 => xs.length ≤ sizeLine ∧ ∀ p, H1 p = none → Q (.ref p) (upd H1 p (.lst xs))
theorem pe_tup {x1} (h : PA X es t) : PE X (.Tuple es x1 pos) (tTup t) := by
  intro pins s σ H Q I hq
  refine wpAny_Tuple_spliced (thn (h pos pins s σ H _ I hq) fun us s1 ⟨xs, H1, I1, r, z, q⟩ => ⟨by rw [← r.length]; exact z, ?_⟩)
  have hf : H1 s1.heap.objs.size = none := I1.hok.fresh (Nat.le_refl _)
  refine ⟨.ref s1.heap.objs.size, upd H1 s1.heap.objs.size (.tup xs), I1.laid (t' := s1.toks) (fun b u e => Heap.get?_push_of_some _ e) (Nat.le_refl _) ?_, rfl, q _ hf⟩
  exact ⟨z, us, r, ⟨_, Heap.get?_push_size _ rfl, rfl, _, rfl⟩⟩
theorem pe_lst (h : PA X es t) : PE X (.List es pos) (tLst t) := by
  intro pins s σ H Q I hq
  refine wpAny_List_spliced (thn (h pos pins s σ H _ I hq) fun us s1 ⟨xs, H1, I1, r, z, q⟩ => ⟨by rw [← r.length]; exact z, ?_⟩)
  have hf : H1 s1.heap.objs.size = none := I1.hok.fresh (Nat.le_refl _)
  refine ⟨.ref s1.heap.objs.size, upd H1 s1.heap.objs.size (.lst xs), I1.laid (t' := s1.toks) (fun b u e => Heap.get?_push_of_some _ e) (Nat.le_refl _) ?_, rfl, q _ hf⟩
  exact ⟨z, us, 0, r, Heap.get?_push_size _ rfl⟩
end

abbrev Sp := List V → Hp → VK → XK → Prop
abbrev CXT := List Env → Hp → Shared → XK → Value → Shared → Prop

structure Env0 (P : Program) (w : World) (K : PySem.W.Frag) (mg : Str → Option Value) (base : Heap) (A : Around) (outer : List Env) (s : Shared) (H : Hp) : Prop where
  frames : A.frames = some outer
  mod : Mod K mg base
  bs : ∀ b o, base.get? b = some o → s.heap.get? b = some o ∧ H b = none
  bsz : base.objs.size ≤ s.heap.objs.size
  funs : s.heap.FunFrames base outer
  frf : ∀ b ∈ frs outer, H b = none
  hok : HOk P w H s.heap
  bare : AllBare s.gens
def CE (outer : List Env) (P : Program) (w : World) (H : Hp) (s : Shared) (Q : VK) (u : Value) (s' : Shared) : Prop :=
  ∃ v H', s'.os = s.os ∧ AllBare s'.gens ∧ Un (frs outer) [] H H' s.heap s'.heap ∧ HOk P w H' s'.heap ∧ RelV v u ∧ Q v H'
def CR (CX : CXT) (outer : List Env) (P : Program) (w : World) (H : Hp) (s : Shared) (Q : VK) (E : XK) (r : Result) (s' : Shared) : Prop :=
  match r with
  | .ok (.ret u) => CE outer P w H s Q u s'
  | .ok _ => False
  | .error e => CX outer H s E e s'
structure FnOk (P : Program) (w : World) (K : PySem.W.Frag) (mg : Str → Option Value) (base : Heap) (CX : CXT) (k : Nat) (f : Addr) (fd : FuncData) (ps : List Str) (sp : Sp) : Prop where
  len : ∀ vs H Q E, sp vs H Q E → vs.length = ps.length
  run : ∀ (A : Around) (outer : List Env) (s : Shared) (H : Hp) (args : Args) (us : List Value) (vs : List V) (Q : VK) (E : XK), Room k A → Env0 P w K mg base A outer s H → BindsTo s fd args (ps.zip us) → Vals vs us → sp vs H Q E →
    codeAny (model P w) A (.call (.ref f) args) (CR CX outer P w H s Q E) s
section
variable {X : Cx} {pins : List (Addr × Obj)} {σ : St} {H : Hp} {s s' : Shared}
theorem Inv.env0 (I : Inv X pins σ H s) : Env0 X.prog X.w X.K X.mg X.base X.A X.stack s H :=
  ⟨I.ok.frames, I.ok.mod, I.bs, Nat.le_trans I.ok.bsz I.sz, I.stack, I.stkFree, I.hok, I.bare⟩
theorem Inv.after {Q : VK} {u : Value} (I : Inv X pins σ H s) (h : CE X.stack X.prog X.w H s Q u s') : EP X pins σ Q u s' := by
  obtain ⟨v, H', os, bare, un, hok, r, q⟩ := h
  obtain ⟨hh, g, d, t, os'⟩ := s'
  obtain rfl : os' = s.os := os
  exact ⟨v, H', I.call (h' := hh) (g' := g) (d' := d) (t' := t) (ch := []) un hok bare (fun b z => absurd z (by simp)), r, q⟩
end

def tCall (sp : Sp) (dvs : List V) (E : XK) (t : TA) : TE := fun σ H Q => t σ H fun vs H1 => sp (vs ++ dvs) H1 Q E
def Binds (K : PySem.W.Frag) (fd : FuncData) (ps : List Str) (ds : List Value) : Prop :=
  ∀ (s : Shared) (us : List Value), K.In s.heap → (us ++ ds).length = ps.length → BindsTo s fd ⟨us, []⟩ (ps.zip (us ++ ds))
theorem Binds.all {K : PySem.W.Frag} {fd : FuncData} {ps : List Str} (h : ∀ us : List Value, us.length = ps.length → bindArgs fd ⟨us, []⟩ = pure (ps.zip us)) : Binds K fd ps [] := fun s us _ hl => by
  rw [List.append_nil] at hl ⊢
  exact .of_eq (h us hl)

def Passes (CX : CXT) (X : Cx) (E : XK) : Prop := ∀ (pins : List (Addr × Obj)) (σ : St) (H : Hp) (s : Shared) (e : Value) (s' : Shared), Inv X pins σ H s → CX X.stack H s E e s' → X.xe e s'

section
variable {X : Cx} {CX : CXT} {k : Nat} {f C : Addr} {fd : FuncData} {ps : List Str} {sp : Sp} {dvs : List V} {ds : List Value} {E : XK} {x m : Str} {p pos apos : Pos} {e o : Expr} {es : List Expr} {ta : TE} {t : TA}

theorem run_fn {pins : List (Addr × Obj)} {σ : St} {H : Hp} {s : Shared} {Q : VK} {us : List Value} {vs : List V} (F : FnOk X.prog X.w X.K X.mg X.base CX k f fd ps sp) (hr : Room k X.A) (hb : Binds X.K fd ps ds) (hd : Vals dvs ds) (hx : Passes CX X E)
    (I : Inv X pins σ H s) (r : Vals vs us) (h : sp (vs ++ dvs) H Q E) : wpAny (model X.prog X.w) X.A (call (.ref f) us) (EP X pins σ Q) X.xe s := by
  have r2 : Vals (vs ++ dvs) (us ++ ds) := r.append hd
  have hl : (us ++ ds).length = ps.length := by rw [← r2.length]; exact F.len _ _ _ _ h
  refine wpAny_call (codeAny_mono (F.run X.A X.stack s H ⟨us, []⟩ (us ++ ds) (vs ++ dvs) Q E hr I.env0 (hb s us I.kIn hl) r2 h) fun r s' hq => ?_)
  cases r with
  | error e => exact hx pins σ H s e s' I hq
  | ok fl =>
    cases fl with
    | ret u => exact I.after hq
    | next => exact False.elim hq
    | brk => exact False.elim hq
    | cont => exact False.elim hq

theorem pe_call (F : FnOk X.prog X.w X.K X.mg X.base CX k f fd ps sp) (hr : Room k X.A) (hg : Gl X x) (hm : X.mg x = some (.ref f)) (hk : PySem.W.keepIn X.K (.ref f) = true) (hb : Binds X.K fd ps ds) (hd : Vals dvs ds) (hx : Passes CX X E)
    (ha : PA X (e :: es) t) (hdb : (x == ("__debug__" : Str)) = false := by decide) (he : starEach (e :: es) X.env = (false, eval e X.env) :: starEach es X.env := by rfl) (hpl : (backTo pos (starEach es X.env)).any (·.1) = false := by rfl) :
    PE X (.Call (.Name x p) (e :: es) [] pos) (tCall sp dvs E t) := by
  intro pins s σ H Q I h
  refine wpAny_Call_Name_kw (ld_glob I hg hm ?_ hdb)
  refine PySem.W.callWith_K (h₀ := X.base) I.ok.mod.kin hk (thn (ha pos pins s σ H _ I h) fun us s1 ⟨vs, H1, I1, r, q⟩ => ⟨I1.kIn, ?_⟩) he hpl
  exact run_fn F hr hb hd hx I1 r q
end

section
variable {X : Cx} {CX : CXT} {k : Nat} {f C : Addr} {fd : FuncData} {ps ks : List Str} {sp : Sp} {E : XK} {x m : Str} {p pos apos kpos : Pos} {e o : Expr} {es : List Expr} {kws : List Keyword} {te ta : TE} {t tk : TA} {nm : Option Str}
variable {g : List Value → List Value → List Value} {gV : List V → List V → List V}
end

structure FnScope (N P : List Str) (sc : Scope) : Prop where
  kind : sc.kind = .function
  co : sc.isCoroutine = false
  gen : sc.isGenerator = false
  nd : N.Nodup
  pre : N.take P.length = P
  par : ∀ x ∈ P, sc.names.lookup x = some .local ∨ sc.names.lookup x = some .cell
  nofree : ∀ y ∈ sc.names, y.2 ≠ .free

theorem bindL_out {kindOf : Str → Option NameKind} {x : Str} : ∀ {binds : List (Str × Value)} {m : Str → Option Value}, (∀ v, (x, v) ∉ binds) → bindL kindOf binds m x = m x
  | [], _, _ => rfl
  | (n, v) :: r, m, h => by
    unfold bindL
    rw [bindL_out fun w hw => h w (List.mem_cons_of_mem _ hw)]
    split
    · have : x ≠ n := by rintro rfl; exact h v List.mem_cons_self
      simp [this]
    · rfl
theorem bindC_out {kindOf : Str → Option NameKind} {x : Str} : ∀ {binds : List (Str × Value)} {m : Str → Option Value}, (∀ v, (x, v) ∉ binds) → bindC kindOf binds m x = m x
  | [], _, _ => rfl
  | (n, v) :: r, m, h => by
    unfold bindC
    rw [bindC_out fun w hw => h w (List.mem_cons_of_mem _ hw)]
    split
    · rfl
    · have : x ≠ n := by rintro rfl; exact h v List.mem_cons_self
      simp [this]
theorem bindL_get {kindOf : Str → Option NameKind} {x : Str} {v : Value} : ∀ {P : List Str} {vs : List Value} {i : Nat} {m : Str → Option Value}, P.Nodup → P[i]? = some x → vs[i]? = some v → kindOf x = some .local →
    bindL kindOf (P.zip vs) m x = some v
  | [], _, _, _, _, h, _, _ => by simp at h
  | _ :: _, [], _, _, _, _, h, _ => by simp at h
  | p :: P, w :: vs, 0, m, nd, h1, h2, hk => by
    simp at h1 h2; subst h1; subst h2
    show bindL kindOf ((p, w) :: P.zip vs) m p = _
    unfold bindL
    rw [bindL_out fun v hv => (List.nodup_cons.mp nd).1 (List.of_mem_zip hv).1, if_pos hk]
    simp
  | p :: P, w :: vs, i + 1, m, nd, h1, h2, hk => by
    show bindL kindOf ((p, w) :: P.zip vs) m x = _
    unfold bindL
    exact bindL_get (i := i) (List.nodup_cons.mp nd).2 (by simpa using h1) (by simpa using h2) hk
theorem bindC_get {kindOf : Str → Option NameKind} {x : Str} {v : Value} : ∀ {P : List Str} {vs : List Value} {i : Nat} {m : Str → Option Value}, P.Nodup → P[i]? = some x → vs[i]? = some v → kindOf x ≠ some .local →
    bindC kindOf (P.zip vs) m x = some v
  | [], _, _, _, _, h, _, _ => by simp at h
  | _ :: _, [], _, _, _, _, h, _ => by simp at h
  | p :: P, w :: vs, 0, m, nd, h1, h2, hk => by
    simp at h1 h2; subst h1; subst h2
    show bindC kindOf ((p, w) :: P.zip vs) m p = _
    unfold bindC
    rw [bindC_out fun v hv => (List.nodup_cons.mp nd).1 (List.of_mem_zip hv).1, if_neg hk]
    simp
  | p :: P, w :: vs, i + 1, m, nd, h1, h2, hk => by
    show bindC kindOf ((p, w) :: P.zip vs) m x = _
    unfold bindC
    exact bindC_get (i := i) (List.nodup_cons.mp nd).2 (by simpa using h1) (by simpa using h2) hk

def start (N : List Str) (vs : List V) : St := vs.map some ++ List.replicate (N.length - vs.length) none

def cxOf (CX : CXT) (P : Program) (w : World) (K : PySem.W.Frag) (mg : Str → Option Value) (base : Heap) (N : List Str) (qual : Str) (scope : Scope) (f : Addr) (cd : Value) (A : Around) (outer : List Env) (s : Shared) (H : Hp) (E : XK) : Cx where
  prog := P
  w := w
  K := K
  mg := mg
  base := base
  A := A.deeper (envOfC qual scope s.heap.objs.size f cd)
  N := N
  s₀ := s
  H₀ := H
  env := envOfC qual scope s.heap.objs.size f cd
  outer := outer
  stack := envOfC qual scope s.heap.objs.size f cd :: outer
  ex := []
  calm := true
  fn := fun _ => true
  pn := []
  xe := fun e s' => wpAny (model P w) (A.deeper (envOfC qual scope s.heap.objs.size f cd)) (leaving (envOfC qual scope s.heap.objs.size f cd) e) (fun _ s'' => CX outer H s E e s'') (fun e' s'' => CX outer H s E e' s'') s'

theorem cell_has {sc : Scope} {n : Nat} {x : Str} (h : sc.names.lookup x = some .cell) : ∃ c, (cellsFrom n sc.names []).lookup x = some c := by
  have q := PySem.W.cellsFrom_some sc.names n [] (.inl h)
  exact Option.isSome_iff_exists.mp q

theorem inv_start {CX : CXT} {P : Program} {w : World} {K : PySem.W.Frag} {mg : Str → Option Value} {base : Heap} {N ps : List Str} {qual : Str} {scope : Scope} {f : Addr} {cd : Value} {A : Around} {outer : List Env} {s s1 : Shared} {H : Hp} {E : XK} {us : List Value} {vs : List V}
    (S : FnScope N ps scope) (hd : A.handled = none) (e0 : Env0 P w K mg base A outer s H) (hl : vs.length = ps.length) (r : Vals vs us)
    (x : InCallC s s.heap.objs.size (bindL (envOfC qual scope s.heap.objs.size f cd).kindOf (ps.zip us) fun _ => none) (cellsFrom (s.heap.objs.size + 1) scope.names []) (bindC (envOfC qual scope s.heap.objs.size f cd).kindOf (ps.zip us) fun _ => none) s1) :
    Inv (cxOf CX P w K mg base N qual scope f cd A outer s H E) [] (start N vs) H s1 := by
  have hpl : ps.length ≤ N.length := by have := congrArg List.length S.pre; rw [List.length_take] at this; omega
  obtain ⟨h1, tk, rfl, hk⟩ := x.done
  have noA : ∀ b : Addr, b ∉ (cxOf CX P w K mg base N qual scope f cd A outer s H E).ex := fun b z => absurd (show b ∈ ([] : List Addr) from z) (by simp)
  refine ⟨⟨e0.mod, S.kind, rfl, rfl, Nat.le_refl _, fun y z c h1 h2 => ?_, fun y hy => ?_, fun y c _ h => ?_, fun _ => hd, Around.frames_deeper e0.frames, .inr ⟨rfl, rfl⟩, fun b z => absurd z (noA b), e0.bs, e0.bsz, fun b _ _ => noA b, fun b z => absurd z (noA b), e0.funs, e0.frf⟩,
    rfl, e0.bare, Un.kept hk, ⟨_, x.toInCall.ns, fun i y v h1 h2 h3 => ?_⟩, fun y c h => ⟨_, x.cell y c h⟩, e0.hok.fresh (Nat.le_refl _), fun y c h => ?_, fun p hp => absurd (show p ∈ ([] : List (Addr × Obj)) from hp) (by simp), e0.hok.kept hk, ?_⟩
  · exact name_of_addr x.apart (PySem.mem_of_lookup h1) (PySem.mem_of_lookup h2)
  · have hy : scope.names.lookup y = some .cell ∨ scope.names.lookup y = some .free := hy
    rcases hy with hy | hy
    · exact cell_has hy
    · exact absurd rfl (S.nofree _ (PySem.mem_of_lookup hy))
  · exact Nat.le_of_lt (x.above y c (PySem.mem_of_lookup h))
  · have hi : i < vs.length := by
      unfold start at h2
      by_cases hi : i < vs.length
      · exact hi
      · rw [List.getElem?_append_right (by simpa using hi)] at h2
        rw [List.getElem?_replicate] at h2
        split at h2 <;> cases h2
    have ha : vs[i]? = some v := by
      unfold start at h2
      rw [List.getElem?_append_left (by simpa using hi), List.getElem?_map] at h2
      cases e : vs[i]? with
      | none => rw [e] at h2; cases h2
      | some a => rw [e] at h2; cases h2; rfl
    obtain ⟨u, hu, rv⟩ := r.get ha
    have hp : ps[i]? = some y := by
      rw [← S.pre, List.getElem?_take_of_lt (by omega)]; exact h1
    have ndP : ps.Nodup := by rw [← S.pre]; exact S.nd.sublist (List.take_sublist _ _)
    refine ⟨u, rv, ?_⟩
    rcases S.par y (List.mem_of_getElem? hp) with k | k
    · exact .inl ⟨k, bindL_get ndP hp hu k⟩
    · obtain ⟨c, e⟩ := cell_has (n := s.heap.objs.size + 1) k
      refine .inr ⟨.inl k, c, e, ?_⟩
      have q := x.cell y c e
      rw [bindC_get ndP hp hu (by show scope.names.lookup y ≠ _; rw [k]; decide)] at q
      exact q
  · exact e0.hok.fresh (Nat.le_of_lt (x.above y c (PySem.mem_of_lookup h)))
  · unfold start
    show _ = N.length
    rw [List.length_append, List.length_map, List.length_replicate]
    omega

theorem fn_of {CX : CXT} {P : Program} {w : World} {K : PySem.W.Frag} {mg : Str → Option Value} {base : Heap} {k : Nat} {f : Addr} {name qual : Str} {params : Arguments} {body : List Stmt} {scope : Scope} {dV kV doc pm cdv ct oc : Value} {an od : Option Addr}
    {osl : Array (Option Value)} {N ps : List Str} {sp : Sp} (lk : K.lookup f = some ⟨oc, od, .func (PySem.W.fnOf name qual params body scope dV kV doc pm an cdv ct), osl⟩) (hcd : PySem.W.codeIn K cdv qual = true) (S : FnScope N ps scope)
    (len : ∀ vs H Q E, sp vs H Q E → vs.length = ps.length)
    (hbody : ∀ (A : Around) (outer : List Env) (s : Shared) (H : Hp) (vs : List V) (Q : VK) (E : XK), Room k (A.deeper (envOfC qual scope s.heap.objs.size f cdv)) → sp vs H Q E →
      ∃ t, PSs (cxOf CX P w K mg base N qual scope f cdv A outer s H E) body t ∧ t { nx := fun _ H' => Q .non H', rt := Q } (start N vs) H) :
    FnOk P w K mg base CX (k + 1) f (PySem.W.fnOf name qual params body scope dV kV doc pm an cdv ct) ps sp := by
  refine ⟨len, fun A outer s H args us vs Q E hr e0 hb r hsp => ?_⟩
  have hl := len _ _ _ _ hsp
  have KX : K.In s.heap := e0.mod.kin.keeps fun b o e => (e0.bs b o e).1
  have lim : s.heap.NoLimit := e0.mod.nolimit.keeps fun b o e => (e0.bs b o e).1
  have hkind : ∀ y ∈ ps.zip us, scope.names.lookup y.1 = some .local ∨ (scope.names.lookup y.1 = some .cell ∧ ((cellsFrom (s.heap.objs.size + 1) scope.names []).lookup y.1).isSome = true) := fun ⟨n, v⟩ hy => by
    rcases S.par n (List.of_mem_zip hy).1 with q | q
    · exact .inl q
    · exact .inr ⟨q, PySem.W.cellsFrom_some _ _ _ (.inl q)⟩
  refine codeAny_call_function hr.depth (KX _ _ lk) rfl S.co S.gen rfl (PySem.W.codeRec_of KX hcd) (hb _ _ _ _ ?_)
  refine wpAny_newFunctionEnv_cells S.kind hkind fun env he s1 x => ?_
  subst he
  refine ⟨lim.keeps x.toInCall.keep, codeAny_func ?_⟩
  obtain ⟨t, ht, hq⟩ := hbody A outer s H vs Q E (hr.deeper _) hsp
  have I : Inv (cxOf CX P w K mg base N qual scope f cdv A outer s H E) [] (start N vs) H s1 := inv_start S hr.hd e0 hl r x
  refine wpAny_mono (ht [] s1 (start N vs) H _ I hq) (fun fl s' hs => ?_) fun e s' hs => hs
  have fin : ∀ {σ' : St} {H' : Hp} {v : V} {u : Value}, Inv (cxOf CX P w K mg base N qual scope f cdv A outer s H E) [] σ' H' s' → RelV v u → Q v H' → CE outer P w H s Q u s' :=
    fun {σ' H' v u} J rv q => ⟨v, H', J.os, J.bare, J.base, J.hok, rv, q⟩
  cases fl with
  | ret u =>
    obtain ⟨v, σ', H', J, rv, q⟩ := hs
    exact fin J rv q
  | next =>
    obtain ⟨σ', H', J, q⟩ := hs
    exact fin (v := V.non) (u := Value.none) J rfl q
  | brk =>
    obtain ⟨_, _, _, q⟩ := hs
    exact False.elim q
  | cont =>
    obtain ⟨_, _, _, q⟩ := hs
    exact False.elim q
end L2

namespace L2
open PySem PySem.Spec PyProof.Rows
section
variable {X : Cx} {x : Str} {p pos : Pos} {e : Expr} {es : List Expr} {t : TA} {id T : String} {r : List V → Hp → VK → Prop}

def tCB (r : List V → Hp → VK → Prop) (t : TA) : TE := fun σ H Q => t σ H fun vs H1 => r vs H1 Q
theorem pe_callB (hc : CallR X (.builtin id) r) (hg : Gl X x) (hm : X.mg x = none) (hv : bootBuiltins x = some (.builtin id)) (ha : PA X (e :: es) t) (hn : x ≠ "__name__" := by decide) (hdb : (x == ("__debug__" : Str)) = false := by decide)
    (he : starEach (e :: es) X.env = (false, eval e X.env) :: starEach es X.env := by rfl) (hpl : (backTo pos (starEach es X.env)).any (·.1) = false := by rfl) : PE X (.Call (.Name x p) (e :: es) [] pos) (tCB r t) := by
  intro pins s σ H Q I h
  refine wpAny_Call_Name_kw (ld_blt I hg hm hv ?_ hn hdb)
  exact PyProof.Rows.callWith_builtin1 (thn (ha pos pins s σ H _ I h) fun us s1 ⟨vs, H1, I1, r1, q1⟩ => hc pins s1 σ H1 vs us Q I1 r1 q1) he hpl
theorem pe_callTy (hc : CallR X (.type T) r) (hg : Gl X x) (hm : X.mg x = none) (hv : bootBuiltins x = some (.type T)) (ha : PA X (e :: es) t) (hn : x ≠ "__name__" := by decide) (hdb : (x == ("__debug__" : Str)) = false := by decide)
    (he : starEach (e :: es) X.env = (false, eval e X.env) :: starEach es X.env := by rfl) (hpl : (backTo pos (starEach es X.env)).any (·.1) = false := by rfl) : PE X (.Call (.Name x p) (e :: es) [] pos) (tCB r t) := by
  intro pins s σ H Q I h
  refine wpAny_Call_Name_kw (ld_blt I hg hm hv ?_ hn hdb)
  exact PyProof.Rows.callWith_type1 (thn (ha pos pins s σ H _ I h) fun us s1 ⟨vs, H1, I1, r1, q1⟩ => hc pins s1 σ H1 vs us Q I1 r1 q1) he hpl
end
end L2

namespace HT
open PySem PyProof.Rows

section
open PySem.SeqAt
open PySem.AutoSeq1 (wpAny_loadPart')
open PySem.MeetsSeq PySem.MeetsSeq2 PySem.MeetsSeq3

end

section
variable {prog : Program} {w : World} {A : Around} {E : Value → Shared → Prop} {s : Shared}

def sIx (n d : Nat) : Option Int → Nat
  | none => d
  | some v => if v < 0 then (v + (n : Int)).toNat else min v.toNat n
theorem sIx_nat (n d k : Nat) : sIx n d (some (k : Int)) = min k n := by
  show (if (k : Int) < 0 then ((k : Int) + (n : Int)).toNat else min (k : Int).toNat n) = min k n
  rw [if_neg (by omega), Int.toNat_natCast]
theorem sIx_le (n d : Nat) (hd : d ≤ n) (o : Option Int) : sIx n d o ≤ n := by
  cases o with
  | none => exact hd
  | some v =>
    show (if v < 0 then (v + (n : Int)).toNat else min v.toNat n) ≤ n
    by_cases hv : v < 0
    · rw [if_pos hv]; omega
    · rw [if_neg hv]; exact Nat.min_le_right _ _
theorem clip_eq (v : Int) (n d : Nat) : (if v < 0 then max (v + (n : Int)) 0 else min v (n : Int)) = ((sIx n d (some v) : Nat) : Int) := by
  show (if v < 0 then max (v + (n : Int)) 0 else min v (n : Int)) = (((if v < 0 then (v + (n : Int)).toNat else min v.toNat n) : Nat) : Int)
  by_cases hv : v < 0
  · simp only [if_pos hv]; omega
  · simp only [if_neg hv]; omega
theorem adjust_gen (lo hi : Option Int) (n : Nat) : Builtin.Slice.sliceAdjust lo hi 1 (n : Int) = (((sIx n 0 lo : Nat) : Int), ((sIx n n hi : Nat) : Int)) := by
  have h1 : ¬ ((1 : Int) < 0) := by omega
  unfold Builtin.Slice.sliceAdjust
  simp only [h1, if_false]
  refine Prod.ext ?_ ?_
  · cases lo with
    | none => rfl
    | some v => exact clip_eq v n 0
  · cases hi with
    | none => rfl
    | some v => exact clip_eq v n n
theorem places_gen (i j : Nat) : Builtin.Slice.slicePlaces (i : Int) (j : Int) 1 = j - i := by
  unfold Builtin.Slice.slicePlaces
  have h1 : (1 : Int) > 0 := by omega
  simp only [h1, if_true, Int.ediv_one]
  split <;> omega
theorem slicePart_ {v : Value} {o : Option Int} {Q : Option Int → Shared → Prop} (p : IsPart v o) (h : Q o s) : wpAny (model prog w) A (Builtin.Slice.slicePartIndex v) Q E s := by
  cases p with
  | none => exact slicePart_none h
  | int i t => exact slicePart_int h
theorem sliceApplied_gen {sl : Addr} {vl vu : Value} {lo hi : Option Int} {n : Nat} {Q : Int × Int × Nat → Shared → Prop} (hs : s.heap.IsSliceOf sl vl vu .none) (pl : IsPart vl lo) (pu : IsPart vu hi)
    (h : Q (((sIx n 0 lo : Nat) : Int), 1, sIx n n hi - sIx n 0 lo) s) : wpAny (model prog w) A (Builtin.Slice.sliceApplied (.ref sl) (pure (n : Int))) Q E s := by
  obtain ⟨os, hos, hcs, hds⟩ := id hs
  unfold Builtin.Slice.sliceApplied Builtin.Slice.sliceFields
  refine wpAny_bind (wpAny_bind (wpAny_field hos hds (x := vl) rfl (wpAny_bind (wpAny_field hos hds (x := vu) rfl (wpAny_bind (wpAny_field hos hds (x := .none) rfl (wpAny_pure ?_)))))))
  refine wpAny_bind (slicePart_none ?_)
  show wpAny _ _ (if ((1 : Int) == 0) = true then _ else _) _ _ s
  rw [if_neg (by decide)]
  refine wpAny_bind (slicePart_ pl (wpAny_bind (slicePart_ pu (wpAny_bind (wpAny_pure ?_)))))
  show wpAny _ _ (match Builtin.Slice.sliceAdjust lo hi 1 (n : Int) with | (lo, hi) => pure (lo, (1 : Int), Builtin.Slice.slicePlaces lo hi 1)) _ _ s
  rw [adjust_gen lo hi n]
  show wpAny _ _ (pure (((sIx n 0 lo : Nat) : Int), (1 : Int), Builtin.Slice.slicePlaces ((sIx n 0 lo : Nat) : Int) ((sIx n n hi : Nat) : Int) 1)) _ _ s
  rw [places_gen]
  exact wpAny_pure h
theorem pick_gen (xs : Array Value) (i k : Nat) : ((List.range k).filterMap fun (m : Nat) => xs[((i : Int) + (m : Int) * 1).toNat]?).toArray = ((xs.toList.drop i).take k).toArray := by
  have e : (fun (m : Nat) => xs[((i : Int) + (m : Int) * 1).toNat]?) = fun m => xs[i + m]? := by
    funext m
    have : ((i : Int) + (m : Int) * 1).toNat = i + m := by omega
    rw [this]
  rw [e]
  have := pick_run xs i k
  rw [List.filterMap_map] at this
  have e2 : ((fun x => xs[x]?) ∘ fun x => i + x) = fun m => xs[i + m]? := rfl
  rw [e2] at this
  rw [this]

theorem getItem_tuple_cut {t sl : Addr} {items : Array Value} {vl vu : Value} {lo hi : Option Int} {Q : Value → Shared → Prop} (ht : IsTup s.heap t items) (hs : s.heap.IsSliceOf sl vl vu .none) (pl : IsPart vl lo) (pu : IsPart vu hi)
    (hw : ¬ (sIx items.size 0 lo = 0 ∧ sIx items.size items.size hi = items.size))
    (h : Q (.ref s.heap.objs.size) { s with heap := s.heap.push { cls := .type "tuple", data := .seq ((items.toList.drop (sIx items.size 0 lo)).take (sIx items.size items.size hi - sIx items.size 0 lo)).toArray } })
    (hsz : items.size ≤ sizeLine) : wpAny (model prog w) A (getItem (.ref t) (.ref sl)) Q E s := by
  have htake : sizeOk (.seq ((items.toList.drop (sIx items.size 0 lo)).take (sIx items.size items.size hi - sIx items.size 0 lo)).toArray) := by
    show ((items.toList.drop (sIx items.size 0 lo)).take (sIx items.size items.size hi - sIx items.size 0 lo)).toArray.size ≤ sizeLine
    rw [List.size_toArray, List.length_take, List.length_drop, Array.length_toList]
    omega
  have hj : sIx items.size items.size hi ≤ items.size := sIx_le _ _ (Nat.le_refl _) hi
  obtain ⟨os, hos, hcs, hds⟩ := id hs
  have hTs : s.TypeIs (.ref sl) "slice" := ⟨os, hos, hcs⟩
  unfold getItem
  try with_reducible refine wpAny_holding ?_
  first | refine wpAny_bind (wpAny_pure ?_) | skip
  refine wpAny_bind (wpAny_sequenceKey ht.typeIs (by decide) ?_)
  refine wpAny_bind (wpAny_callSpecial?_slot (name := Str.ofString "__getitem__") ht.typeIs PyProof.Rows.slot_tuple_getitem
    (wpAny_call_entry PyProof.Rows.slot_tuple_getitem ht.typeIs entry_tuple_getitem ?_ (args_tuple_getitem _ _)))
  show wpAny _ _ (Builtin.Tuple.tupleItemsOf (.ref t) >>= _) _ _ s
  refine wpAny_bind (tupleItemsOf_ ht ?_)
  refine wpAny_bind (wpAny_typeOf hTs ?_)
  rw [if_pos (by decide)]
  refine wpAny_bind (sliceApplied_gen hs pl pu ?_)
  have hno : ¬ ((((sIx items.size 0 lo : Nat) : Int) == 0 && (1 : Int) == 1 && (sIx items.size items.size hi - sIx items.size 0 lo) == items.size) = true) := by
    intro q
    rw [Bool.and_eq_true, Bool.and_eq_true] at q
    have q1 : ((sIx items.size 0 lo : Nat) : Int) = 0 := eq_of_beq q.1.1
    have q2 : sIx items.size items.size hi - sIx items.size 0 lo = items.size := eq_of_beq q.2
    exact hw ⟨by omega, by omega⟩
  show wpAny _ _ (if (((sIx items.size 0 lo : Nat) : Int) == 0 && (1 : Int) == 1 && (sIx items.size items.size hi - sIx items.size 0 lo) == items.size) = true then _ else _) _ _ s
  rw [if_neg hno, pick_gen]
  first
    | exact wpAny_bind (m := Builtin.Tuple.tupleExact _) (wpAny_newObj_type (wpAny_pure ⟨_, rfl, wpAny_pure h⟩) htake)
    | exact wpAny_bind (m := Builtin.Tuple.tupleExact _) (wpAny_newObj_type (wpAny_bind (wpAny_pure (wpAny_pure ⟨_, rfl, wpAny_pure h⟩))) htake)
    | exact wpAny_bind (wpAny_bind (m := Builtin.Tuple.tupleExact _) (wpAny_newObj_type (wpAny_pure (wpAny_pure ⟨_, rfl, wpAny_pure h⟩)) htake))
    | exact wpAny_bind (wpAny_bind (m := Builtin.Tuple.tupleExact _) (wpAny_newObj_type (wpAny_pure ⟨_, rfl, wpAny_pure h⟩) htake))
end
end HT

namespace L2
open PySem PySem.Spec PyProof.Rows

abbrev TO := St → Hp → (Option Int → Hp → Prop) → Prop
def PO (X : Cx) (e : Option Expr) (t : TO) : Prop :=
  ∀ (pins : List (Addr × Obj)) (s : Shared) (σ : St) (H : Hp) (Q : Option Int → Hp → Prop), Inv X pins σ H s → t σ H Q →
    wpAny (model X.prog X.w) X.A (evalPart e X.env) (fun u s' => ∃ o H', Inv X pins σ H' s' ∧ IsPart u o ∧ Q o H') X.xe s
def tNoPart : TO := fun _ H Q => Q none H
def tPart (t : TE) : TO := fun σ H Q => t σ H fun x H1 => ∃ i, x = .int i ∧ Q (some i) H1

section
variable {X : Cx} {e : Expr} {te : TE} {lo hi : Option Expr} {tl th : TO} {pos p2 : Pos}

theorem po_none : PO X none tNoPart := by
  intro pins s σ H Q I h
  rw [evalPart_none]
  exact wpAny_pure ⟨none, H, I, .none, h⟩
theorem po_some (h : PE X e te) : PO X (some e) (tPart te) := by
  intro pins s σ H Q I hw
  rw [evalPart_some]
  refine thn (h pins s σ H _ I hw) fun u s1 ⟨x, H1, I1, r1, q1⟩ => ?_
  obtain ⟨i, rfl, q⟩ := q1
  obtain ⟨t, rfl⟩ := r1
  exact ⟨some i, H1, I1, .int i t, q⟩

def SlR (X : Cx) (r : V → Option Int → Option Int → Hp → VK → Prop) : Prop :=
  ∀ (pins : List (Addr × Obj)) (s : Shared) (σ : St) (H : Hp) (x : V) (v vl vu : Value) (lo hi : Option Int) (sl : Addr) (Q : VK), Inv X pins σ H s → RelV x v → s.heap.IsSliceOf sl vl vu .none → IsPart vl lo → IsPart vu hi → r x lo hi H Q →
    ∃ T id, typeLookup (.type T) "__getitem__" = pure (some (.builtin id)) ∧ s.TypeIs v T ∧ wpAny (model X.prog X.w) X.A (getItem v (.ref sl)) (EP X pins σ Q) X.xe s
def tSl (r : V → Option Int → Option Int → Hp → VK → Prop) (te : TE) (tl th : TO) : TE := fun σ H Q => te σ H fun x H1 => tl σ H1 fun l H2 => th σ H2 fun u H3 => r x l u H3 Q
theorem pe_slice {r : V → Option Int → Option Int → Hp → VK → Prop} (hr : SlR X r) (he : PE X e te) (hl : PO X lo tl) (hu : PO X hi th) : PE X (.Subscript e (.Slice lo hi none p2) pos) (tSl r te tl th) := by
  intro pins s σ H Q I h
  refine Subscript_ (thn (he pins s σ H _ I h) fun v s1 ⟨x, H1, I1, r1, q1⟩ => ?_)
  refine wpAny_Slice (thn (hl pins s1 σ H1 _ I1 q1) fun vl s2 ⟨l, H2, I2, pl, q2⟩ => thn (hu pins s2 σ H2 _ I2 q2) fun vu s3 ⟨u, H3, I3, pu, q3⟩ => ?_)
  rw [evalPart_none]
  refine wpAny_pure ?_
  have I4 : Inv X pins σ H3 { s3 with heap := s3.heap.push { cls := .type "slice", data := .fields #[vl, vu, .none] } } := I3.kept (t' := s3.toks) fun b ob q => Heap.get?_push_of_some _ q
  obtain ⟨T, id, hT, ht, hg⟩ := hr pins { s3 with heap := s3.heap.push { cls := .type "slice", data := .fields #[vl, vu, .none] } } σ H3 x v vl vu l u s3.heap.objs.size Q I4 r1 (Heap.IsSliceOf.new ..) pl pu q3
  show wpAny (model X.prog X.w) X.A (subscriptTail e (.Slice lo hi none p2) v (.ref s3.heap.objs.size)) (EP X pins σ Q) X.xe { s3 with heap := s3.heap.push { cls := .type "slice", data := .fields #[vl, vu, .none] } }
  exact tail_any (ops := [.ref s3.heap.objs.size, v]) ht hT hg (by with_unfolding_all rfl)

def cutV (xs : List V) (lo hi : Option Int) : List V := (xs.drop (HT.sIx xs.length 0 lo)).take (HT.sIx xs.length xs.length hi - HT.sIx xs.length 0 lo)
theorem cutV_length (xs : List V) (lo hi : Option Int) : (cutV xs lo hi).length ≤ xs.length := by
  unfold cutV
  rw [List.length_take, List.length_drop]
  omega
def rSlT (K : PySem.W.Frag) : V → Option Int → Option Int → Hp → VK → Prop := fun x lo hi H Q => ∃ a xs, x = .ref a ∧ SqT K H a xs ∧
  ¬ (HT.sIx xs.length 0 lo = 0 ∧ HT.sIx xs.length xs.length hi = xs.length) ∧ ∀ p, H p = none → Q (.ref p) (upd H p (.tup (cutV xs lo hi)))
theorem sl_tup : SlR X (rSlT X.K) := by
  intro pins s σ H x v vl vu lo hi sl Q I rx hs pl pu h
  obtain ⟨a, xs, rfl, hx, hw, q⟩ := h
  cases rx
  obtain ⟨its, r, ht, hz⟩ := I.tuple hx
  have hlen : its.toArray.size = xs.length := by rw [List.size_toArray]; exact r.length.symm
  refine ⟨"tuple", _, PyProof.Rows.slot_tuple_getitem.lookup, ht.typeIs, ?_⟩
  refine HT.getItem_tuple_cut ht hs pl pu (by rw [hlen]; exact hw) ?_ (by rw [hlen]; exact hz)
  rw [hlen]
  refine ⟨.ref s.heap.objs.size, _, I.laid (t' := s.toks) (o := .tup (cutV xs lo hi)) (fun b ob q => Heap.get?_push_of_some _ q) (Nat.le_refl _) ?_, rfl, q _ (I.hok.fresh (Nat.le_refl _))⟩
  exact ⟨Nat.le_trans (cutV_length xs lo hi) hz, _, (r.drop (HT.sIx xs.length 0 lo)).take (HT.sIx xs.length xs.length hi - HT.sIx xs.length 0 lo), IsTup.new _ _⟩

end
end L2

namespace L2
open PySem PySem.Spec PyProof.Rows

def ixN (n : Nat) (i : Int) : Option Nat := if 0 ≤ i then (if i < n then some i.toNat else none) else if -(n : Int) ≤ i then some (i + n).toNat else none
def atI {α : Type} (xs : List α) (i : Int) : Option α := (ixN xs.length i).bind fun j => xs[j]?
theorem ixN_seq {n : Nat} {i : Int} {j : Nat} (h : ixN n i = some j) : seqIndex? i n = some j ∧ j < n ∧ -(n : Int) ≤ i ∧ i < n := by
  unfold ixN at h
  by_cases h0 : 0 ≤ i
  · rw [if_pos h0] at h
    by_cases h1 : i < n
    · rw [if_pos h1] at h
      have e : i.toNat = j := Option.some.inj h
      exact ⟨by rw [seqIndex_of h0 h1, e], by omega, by omega, h1⟩
    · rw [if_neg h1] at h; cases h
  · rw [if_neg h0] at h
    by_cases h1 : -(n : Int) ≤ i
    · rw [if_pos h1] at h
      have e : (i + n).toNat = j := Option.some.inj h
      exact ⟨by rw [seqIndex_neg (by omega) h1, e], by omega, h1, by omega⟩
    · rw [if_neg h1] at h; cases h
theorem atI_get {α : Type} {xs : List α} {i : Int} {v : α} (h : atI xs i = some v) : ∃ j, seqIndex? i xs.length = some j ∧ xs[j]? = some v ∧ j < xs.length ∧ -(xs.length : Int) ≤ i ∧ i < xs.length := by
  unfold atI at h
  cases e : ixN xs.length i with
  | none => rw [e] at h; cases h
  | some j =>
    rw [e] at h
    obtain ⟨h1, h2, h3, h4⟩ := ixN_seq e
    exact ⟨j, h1, h, h2, h3, h4⟩
theorem atI_nat {α : Type} {xs : List α} {j : Nat} {v : α} (h : xs[j]? = some v) : atI xs (j : Int) = some v := by
  have hj : j < xs.length := (List.getElem?_eq_some_iff.mp h).1
  have e : ixN xs.length (j : Int) = some j := by
    unfold ixN
    rw [if_pos (by omega), if_pos (by omega)]; simp
  unfold atI; rw [e]; exact h
def PlainIx (b : Expr) : Prop := ∀ o i, subscripted b false o i = operate [o, i] (getItem o i)
def IxR (X : Cx) (r : R2) : Prop :=
  ∀ (value slice : Expr) (pins : List (Addr × Obj)) (s : Shared) (σ : St) (H : Hp) (x y : V) (v u : Value) (Q : VK), Inv X pins σ H s → RelV x v → RelV y u → r x y H Q →
    subscripted slice false v u = operate [v, u] (getItem v u) → wpAny (model X.prog X.w) X.A (subscriptTail value slice v u) (EP X pins σ Q) X.xe s
def MtR (X : Cx) (id : String) (r : V → List V → Hp → VK → Prop) : Prop :=
  ∀ (pins : List (Addr × Obj)) (s : Shared) (σ : St) (H : Hp) (x : V) (xs : List V) (v : Value) (us : List Value) (Q : VK), Inv X pins σ H s → RelV x v → Vals xs us → r x xs H Q →
    wpAny (model X.prog X.w) X.A (call (.builtin id) (v :: us)) (EP X pins σ Q) X.xe s
section
variable {X : Cx} {a b : Expr} {ta tb : TE} {pos : Pos}
theorem pe_ix {r : R2} (hr : IxR X r) (ha : PE X a ta) (hb : PE X b tb) (hs : PlainIx b) : PE X (.Subscript a b pos) (tOp r ta tb) := by
  intro pins s σ H Q I h
  exact Subscript_ (binT ha hb I h fun v u s2 x y H2 I2 rx ry q => hr a b pins s2 σ H2 x y v u Q I2 rx ry q (hs _ _))

def rIxL (K : PySem.W.Frag) : R2 := fun x y H Q => ∃ p xs i v, x = .ref p ∧ y = .int i ∧ SqL K H p xs ∧ atI xs i = some v ∧ Q v H
def rIxT (K : PySem.W.Frag) : R2 := fun x y H Q => ∃ p xs i v, x = .ref p ∧ y = .int i ∧ SqT K H p xs ∧ atI xs i = some v ∧ Q v H
theorem ix_list : IxR X (rIxL X.K) := by
  intro value slice pins s σ H x y v u Q I rx ry h hs
  obtain ⟨p, xs, i, z, rfl, rfl, hq, he, q⟩ := h
  cases rx
  obtain ⟨t, rfl⟩ := ry
  obtain ⟨its, r, pl, hz⟩ := I.list hq
  obtain ⟨j, h1, h2, h3, h4, h5⟩ := atI_get he
  obtain ⟨w, ew, rw'⟩ := r.get h2
  have hl := r.length
  have hn := line63
  have fin : EP X pins σ Q w s := ⟨z, H, I, rw', q⟩
  by_cases h0 : 0 ≤ i
  · have hj : i.toNat = j := by
      rw [seqIndex_of h0 h5] at h1
      exact Option.some.inj h1
    exact item_listR pl.isList h0 (by omega) (by rw [hj]; simpa using ew) fin hs
  · have hj : (i + (its.toArray.size : Int)).toNat = j := by
      rw [seqIndex_neg (by omega) h4] at h1
      rw [List.size_toArray, ← hl]
      exact Option.some.inj h1
    exact subscriptTail_builtinR (x := w) pl.isList.typeIs slot_list_getitem.lookup
      (wpAny_getItem_list_neg (Q := fun r s' => r = w ∧ EP X pins σ Q r s') pl.isList (by omega) (by rw [List.size_toArray] <;> omega) (by omega) (by rw [hj]; simpa using ew) ⟨rfl, fin⟩) hs
theorem ix_tup : IxR X (rIxT X.K) := by
  intro value slice pins s σ H x y v u Q I rx ry h hs
  obtain ⟨p, xs, i, z, rfl, rfl, hq, he, q⟩ := h
  cases rx
  obtain ⟨t, rfl⟩ := ry
  obtain ⟨its, r, pl, hz⟩ := I.tuple hq
  obtain ⟨j, h1, h2, h3, h4, h5⟩ := atI_get he
  obtain ⟨w, ew, rw'⟩ := r.get h2
  have hl := r.length
  have hn := line63
  have fin : EP X pins σ Q w s := ⟨z, H, I, rw', q⟩
  exact subscriptTail_builtinR (x := w) pl.typeIs slot_tuple_getitem.lookup
    (getItem_tuple (j := j) (Q := fun r s' => r = w ∧ EP X pins σ Q r s') pl (by omega) (by omega) (by rw [List.size_toArray, ← hl]; exact h1) (by simpa using ew) ⟨rfl, fin⟩) hs
theorem mapSeq_set (its : List Value) (n j : Nat) (u : Value) : Obj.mapSeq (·.setIfInBounds j u) { cls := .type "list", data := .seq its.toArray n } = { cls := .type "list", data := .seq (its.set j u).toArray n } := by
  simp [Obj.mapSeq]
theorem Inv.lst {pins : List (Addr × Obj)} {σ : St} {H : Hp} {s : Shared} {p : Addr} {xs : List V} (I : Inv X pins σ H s) (h : H p = some (.lst xs)) :
    ∃ (its : List Value) (n : Nat), Vals xs its ∧ s.heap.get? p = some { cls := .type "list", data := .seq its.toArray n } ∧ xs.length ≤ sizeLine := by
  obtain ⟨z, its, n, r, e⟩ := I.hok p _ h
  exact ⟨its, n, r, e, z⟩
theorem Inv.lstUpd {pins : List (Addr × Obj)} {σ : St} {H : Hp} {s : Shared} {p : Addr} {xs ys : List V} {its its' : List Value} {n n' : Nat} {f : Obj → Obj} (I : Inv X pins σ H s) (h : H p = some (.lst xs))
    (ho : s.heap.get? p = some { cls := .type "list", data := .seq its.toArray n }) (hf : f { cls := .type "list", data := .seq its.toArray n } = { cls := .type "list", data := .seq its'.toArray n' }) (r : Vals ys its') (hz : ys.length ≤ sizeLine) (t : Nat) :
    Inv X pins σ (upd H p (.lst ys)) { s with heap := s.heap.update p f, toks := t } := by
  have e : (s.heap.update p f).get? p = some { cls := .type "list", data := .seq its'.toArray n' } := by
    rw [Heap.get?_update_self f ho (by rw [hf] <;> rfl), hf]
  refine I.write (x := p) (e := p) (by rw [h]; trivial) (.inl rfl) (fun b u hb q => (Heap.get?_update_other _ _ (Ne.symm hb)).trans q) ⟨_, e⟩ ?_
  exact ⟨hz, its', n', r, e⟩
def rSetL : V → V → V → Hp → (Hp → Prop) → Prop := fun o i v H Q => ∃ p xs k j, o = .ref p ∧ i = .int k ∧ H p = some (.lst xs) ∧ ixN xs.length k = some j ∧ Q (upd H p (.lst (xs.set j v)))
theorem set_list : PSet X rSetL := by
  intro pins s σ H o i v ov iv u Q I ro ri rv h
  obtain ⟨p, xs, k, j, rfl, rfl, hp, hj, q⟩ := h
  cases ro
  obtain ⟨t, rfl⟩ := ri
  obtain ⟨its, n, r, ho, hz⟩ := I.lst hp
  obtain ⟨h1, h2, h3, h4⟩ := ixN_seq hj
  have hl := r.length
  have hn := line63
  have I' : Inv X pins σ (upd H p (.lst (xs.set j v))) { s with heap := s.heap.update p (Obj.mapSeq (·.setIfInBounds j u)) } :=
    I.lstUpd hp ho (mapSeq_set its n j u) (r.set rv j) (by rw [List.length_set]; exact hz) s.toks
  by_cases h0 : 0 ≤ k
  · have hk : k.toNat = j := by
      rw [seqIndex_of h0 h4] at h1
      exact Option.some.inj h1
    exact PySem.W.ki_setAt ho h0 (by omega) (by rw [List.size_toArray, ← hl]; exact h4) (by rw [hk]; exact ⟨_, I', q⟩)
  · have hk : (k + (its.toArray.size : Int)).toNat = j := by
      rw [seqIndex_neg (by omega) h3] at h1
      rw [List.size_toArray, ← hl]
      exact Option.some.inj h1
    exact PySem.W.ki_setBack ho (by omega) (by rw [List.size_toArray, ← hl]; exact h3) (by omega) (by rw [hk]; exact ⟨_, I', q⟩)

theorem slice_bounds (lo hi : Option Int) (n : Nat) : (sliceBounds lo hi none n).1 = ((HT.sIx n 0 lo : Nat) : Int) ∧ (sliceBounds lo hi none n).2.1 = ((HT.sIx n n hi : Nat) : Int) ∧ (sliceBounds lo hi none n).2.2 = 1 := by
  refine ⟨?_, ?_, rfl⟩
  · cases lo with
    | none => simp [sliceBounds, HT.sIx]
    | some i =>
      simp only [sliceBounds, HT.sIx, Option.getD_none, show (1 : Int) > 0 by decide, if_true]
      by_cases h : i < 0
      · simp only [h, if_true] <;> omega
      · simp only [h, if_false] <;> omega
  · cases hi with
    | none => simp [sliceBounds, HT.sIx]
    | some i =>
      simp only [sliceBounds, HT.sIx, Option.getD_none, show (1 : Int) > 0 by decide, if_true]
      by_cases h : i < 0
      · simp only [h, if_true] <;> omega
      · simp only [h, if_false] <;> omega
theorem slicePick_cut (its : List Value) (lo hi : Option Int) : slicePick its.toArray lo hi none = ((its.drop (HT.sIx its.length 0 lo)).take (HT.sIx its.length its.length hi - HT.sIx its.length 0 lo)).toArray := by
  obtain ⟨h1, h2, h3⟩ := slice_bounds lo hi its.toArray.size
  unfold slicePick
  rw [h1, h2, h3]
  simp only [sliceRange_one, pick_run, List.size_toArray] <;> rfl
def rSlL (K : PySem.W.Frag) : V → Option Int → Option Int → Hp → VK → Prop := fun x lo hi H Q => ∃ a xs, x = .ref a ∧ SqL K H a xs ∧ ∀ p, H p = none → Q (.ref p) (upd H p (.lst (cutV xs lo hi)))
theorem sl_list : SlR X (rSlL X.K) := by
  intro pins s σ H x v vl vu lo hi sl Q I rx hs pl pu h
  obtain ⟨a, xs, rfl, hx, q⟩ := h
  cases rx
  obtain ⟨its, r, ht, hz⟩ := I.list hx
  have hlen := r.length
  refine ⟨"list", _, slot_list_getitem.lookup, ht.isList.typeIs, ?_⟩
  refine wpAny_getItem_list_slice ht.isList hs pl pu .none (by simp) ?_ (by rw [List.size_toArray] <;> omega)
  rw [slicePick_cut, ← hlen]
  refine ⟨.ref s.heap.objs.size, _, I.laid (t' := s.toks) (o := .lst (cutV xs lo hi)) (fun b ob q => Heap.get?_push_of_some _ q) (Nat.le_refl _) ?_, rfl, q _ (I.hok.fresh (Nat.le_refl _))⟩
  exact ⟨Nat.le_trans (cutV_length xs lo hi) hz, _, 0, (r.drop (HT.sIx xs.length 0 lo)).take (HT.sIx xs.length xs.length hi - HT.sIx xs.length 0 lo), Heap.get?_push_size _ rfl⟩

def flatV : V → Bool
  | .non => true
  | .bl _ => true
  | .int _ => true
  | .str _ => true
  | _ => false
def eqV : V → V → Bool
  | .non, .non => true
  | .bl a, .bl b => a == b
  | .bl a, .int b => (if a then 1 else 0) == b
  | .int a, .bl b => a == (if b then 1 else 0)
  | .int a, .int b => a == b
  | .str a, .str b => a == b
  | _, _ => false
theorem eqAt_V {A : Around} {s : Shared} {y x : V} {u v : Value} (ry : RelV y u) (rx : RelV x v) (fy : flatV y = true) (fx : flatV x = true) : SeqAt.EqAt A s u v (eqV y x) := by
  cases y with
  | non =>
    cases ry
    cases x with
    | non => cases rx; exact SeqAt.EqAt.same _
    | bl b => cases rx; exact SeqAt.EqAt.none_bool b
    | int b => obtain ⟨t, rfl⟩ := rx; exact SeqAt.EqAt.none_int b t
    | str b => obtain ⟨t, rfl⟩ := rx; exact SeqAt.EqAt.none_str b t
    | _ => exact absurd (show false = true from fx) Bool.false_ne_true
  | bl a =>
    cases ry
    cases x with
    | non => cases rx; exact SeqAt.EqAt.bool_none a
    | bl b => cases rx; exact SeqAt.EqAt.bool_bool a b
    | int b => obtain ⟨t, rfl⟩ := rx; exact SeqAt.EqAt.bool_int a b t
    | str b => obtain ⟨t, rfl⟩ := rx; exact SeqAt.EqAt.bool_str a b t
    | _ => exact absurd (show false = true from fx) Bool.false_ne_true
  | int a =>
    obtain ⟨t', rfl⟩ := ry
    cases x with
    | non => cases rx; exact SeqAt.EqAt.int_none a t'
    | bl b => cases rx; exact SeqAt.EqAt.int_bool a t' b
    | int b => obtain ⟨t, rfl⟩ := rx; exact SeqAt.EqAt.int_int a t' b t
    | str b => obtain ⟨t, rfl⟩ := rx; exact SeqAt.EqAt.int_str a t' b t
    | _ => exact absurd (show false = true from fx) Bool.false_ne_true
  | str a =>
    obtain ⟨t', rfl⟩ := ry
    cases x with
    | non => cases rx; exact SeqAt.EqAt.str_none a t'
    | bl b => cases rx; exact SeqAt.EqAt.str_bool a t' b
    | int b => obtain ⟨t, rfl⟩ := rx; exact SeqAt.EqAt.str_int a t' b t
    | str b => obtain ⟨t, rfl⟩ := rx; exact SeqAt.EqAt.str_str a t' b t
    | _ => exact absurd (show false = true from fx) Bool.false_ne_true
  | _ => exact absurd (show false = true from fy) Bool.false_ne_true
def eqU (x : V) (u : Value) : Bool := match u with
  | .none => eqV .non x
  | .bool b => eqV (.bl b) x
  | .int i _ => eqV (.int i) x
  | .str z _ => eqV (.str z) x
  | _ => false
theorem eqU_of {x y : V} {u : Value} (r : RelV y u) (f : flatV y = true) : eqU x u = eqV y x := by
  cases y with
  | non => cases r; rfl
  | bl b => cases r; rfl
  | int i => obtain ⟨t, rfl⟩ := r; rfl
  | str z => obtain ⟨t, rfl⟩ := r; rfl
  | _ => exact absurd (show false = true from f) Bool.false_ne_true
theorem any_eqU {x : V} : ∀ {xs : List V} {us : List Value}, Vals xs us → xs.all flatV = true → us.any (eqU x) = xs.any fun y => eqV y x
  | _, _, .nil, _ => rfl
  | y :: xs, u :: us, .cons r t, f => by
    rw [List.all_cons, Bool.and_eq_true] at f
    rw [List.any_cons, List.any_cons, eqU_of r f.1, any_eqU t f.2]
theorem mem_eqAt {A : Around} {s : Shared} {x : V} {v : Value} (rx : RelV x v) (fx : flatV x = true) : ∀ {xs : List V} {us : List Value}, Vals xs us → xs.all flatV = true → ∀ u ∈ us, SeqAt.EqAt A s u v (eqU x u)
  | _, _, .nil, _ => fun u hu => by cases hu
  | y :: xs, u :: us, .cons r t, f => fun u' hu => by
    rw [List.all_cons, Bool.and_eq_true] at f
    rcases List.mem_cons.mp hu with rfl | hu
    · rw [eqU_of r f.1]; exact eqAt_V r rx f.1 fx
    · exact mem_eqAt rx fx t f.2 u' hu
def inV (x : V) (xs : List V) : Bool := xs.any fun y => eqV y x
def rIn (K : PySem.W.Frag) (neg : Bool) : R2 := fun x y H Q => ∃ p xs, y = .ref p ∧ (SqL K H p xs ∨ SqT K H p xs) ∧ flatV x = true ∧ xs.all flatV = true ∧ Q (.bl (if neg then !inV x xs else inV x xs)) H
theorem op_in_seq : OpR X (compareOp .In) (rIn X.K false) := by
  intro pins s σ H x y v u Q I rx ry h
  obtain ⟨p, xs, rfl, hq, fx, fs, q⟩ := h
  cases ry
  rcases hq with hq | hq
  · obtain ⟨its, r, pl, hz⟩ := I.list hq
    refine SeqAt.in_listAt (eqU x) pl.isList (fun w hw => mem_eqAt rx fx r fs w (by simpa using hw)) ⟨.bl _, H, I, rfl, ?_⟩
    rw [show its.toArray.any (eqU x) = its.any (eqU x) by simp, any_eqU r fs]
    exact q
  · obtain ⟨its, r, pl, hz⟩ := I.tuple hq
    refine SeqAt.in_tupleAt (eqU x) pl (fun w hw => mem_eqAt rx fx r fs w (by simpa using hw)) ⟨.bl _, H, I, rfl, ?_⟩
    rw [show its.toArray.any (eqU x) = its.any (eqU x) by simp, any_eqU r fs]
    exact q
theorem call_len_seq : CallR X (.builtin "len") (fun xs H Q => ∃ p ys, xs = [.ref p] ∧ (SqL X.K H p ys ∨ SqT X.K H p ys) ∧ Q (.int ys.length) H) := by
  intro pins s σ H xs us Q I r h
  obtain ⟨p, ys, rfl, hq, q⟩ := h
  obtain ⟨u, rfl, rx⟩ := vals1 r
  cases rx
  have hn := line63
  rcases hq with hq | hq
  · obtain ⟨its, r', pl, hz⟩ := I.list hq
    have hlen := r'.length
    exact Calls.call_len_list pl.isList (by simp only [List.size_toArray] <;> omega) ⟨.int ys.length, H, I.tok _, ⟨s.toks + 1, by rw [List.size_toArray, hlen]⟩, q⟩
  · obtain ⟨its, r', pl, hz⟩ := I.tuple hq
    have hlen := r'.length
    exact len_tuple pl (by simp only [List.size_toArray] <;> omega) ⟨.int ys.length, H, I.tok _, ⟨s.toks + 1, by rw [List.size_toArray, hlen]⟩, q⟩
theorem call_list_of : CallR X (.type "list") (fun xs H Q => ∃ p ys, xs = [.ref p] ∧ (SqL X.K H p ys ∨ SqT X.K H p ys) ∧ ∀ l, H l = none → Q (.ref l) (upd H l (.lst ys))) := by
  intro pins s σ H xs us Q I r h
  obtain ⟨p, ys, rfl, hq, q⟩ := h
  obtain ⟨u, rfl, rx⟩ := vals1 r
  cases rx
  have fin : ∀ (its : List Value), Vals ys its → ys.length ≤ sizeLine → ∀ (h' : Heap) (c' : Nat), (∀ b o', s.heap.get? b = some o' → h'.get? b = some o') →
      h'.get? s.heap.objs.size = some { cls := .type "list", dict := none, data := .seq its.toArray c', slots := #[] } → EP X pins σ Q (.ref s.heap.objs.size) { s with heap := h' } := fun its r' hz h' c' kp e =>
    ⟨.ref s.heap.objs.size, _, I.laid (t' := s.toks) kp (Nat.le_refl _) (show ObjOk X.prog X.w _ h' _ (.lst ys) from ⟨hz, its, c', r', e⟩), rfl, q _ (I.hok.fresh (Nat.le_refl _))⟩
  rcases hq with hq | hq
  · obtain ⟨its, r', pl, hz⟩ := I.list hq
    have hlen := r'.length
    obtain ⟨o, ho, hc, n, hd⟩ := pl.isList
    exact call_list_seq p (.inl rfl) ho hc hd (fun h' c' kp e => fin its r' hz h' c' kp e) (by simp only [List.size_toArray] <;> omega)
  · obtain ⟨its, r', pl, hz⟩ := I.tuple hq
    have hlen := r'.length
    obtain ⟨o, ho, hc, n, hd⟩ := pl
    exact call_list_seq p (.inr rfl) ho hc hd (fun h' c' kp e => fin its r' hz h' c' kp e) (by simp only [List.size_toArray] <;> omega)
theorem call_tuple_of : CallR X (.type "tuple") (fun xs H Q => ∃ p ys, xs = [.ref p] ∧ ((SqL X.K H p ys ∧ ∀ l, H l = none → Q (.ref l) (upd H l (.tup ys))) ∨ (SqT X.K H p ys ∧ Q (.ref p) H))) := by
  intro pins s σ H xs us Q I r h
  obtain ⟨p, ys, rfl, h⟩ := h
  obtain ⟨u, rfl, rx⟩ := vals1 r
  cases rx
  rcases h with ⟨hq, q⟩ | ⟨hq, q⟩
  · obtain ⟨its, r', pl, hz⟩ := I.list hq
    have hlen := r'.length
    refine call_tuple_list pl.isList (fun h' kp => ?_) (by simp only [List.size_toArray] <;> omega)
    have I1 : Inv X pins σ H { s with heap := h' } := I.kept (t' := s.toks) kp
    have I2 : Inv X pins σ (upd H h'.objs.size (.tup ys)) { s with heap := h'.push { cls := .type "tuple", data := .seq its.toArray } } :=
      I1.laid (t' := s.toks) (fun b o e => Heap.get?_push_of_some _ e) (Nat.le_refl _) (show ObjOk X.prog X.w _ _ _ (.tup ys) from ⟨hz, its, r', IsTup.new _ _⟩)
    exact ⟨.ref h'.objs.size, _, I2, rfl, q _ (I1.hok.fresh (Nat.le_refl _))⟩
  · obtain ⟨its, r', pl, hz⟩ := I.tuple hq
    exact call_tuple_same pl ⟨.ref p, H, I, rfl, q⟩

def tyV (K : PySem.W.Frag) (T : String) (x : V) (H : Hp) : Prop := match x with
  | .str _ => T = "str"
  | .int _ => T = "int"
  | .ref p => (T = "list" ∧ ∃ xs, SqL K H p xs) ∨ (T = "tuple" ∧ ∃ o, K.lookup p = some o ∧ o.cls = .type "tuple" ∧ o.dict = none) ∨
      (T = "dict" ∧ ((∃ kvs, H p = some (.dK kvs)) ∨ ∃ kvs, H p = some (.dT kvs))) ∨ (T = "set" ∧ ∃ S n, H p = some (.set S n))
  | _ => False
theorem tyV_is {pins : List (Addr × Obj)} {σ : St} {H : Hp} {s : Shared} {T : String} {x : V} {v : Value} (I : Inv X pins σ H s) (r : RelV x v) (ty : tyV X.K T x H) :
    s.TypeIs v T ∧ ∀ a, v = .ref a → ∃ ob, s.heap.get? a = some ob ∧ ob.dict = none := by
  cases x with
  | str z =>
    obtain ⟨t, rfl⟩ := r
    cases (show T = "str" from ty)
    exact ⟨typeIs_str s z t, fun _ e => nomatch e⟩
  | int i =>
    obtain ⟨t, rfl⟩ := r
    cases (show T = "int" from ty)
    exact ⟨typeIs_int s i t, fun _ e => nomatch e⟩
  | ref p =>
    cases r
    rcases ty with ⟨rfl, xs, hq⟩ | ⟨rfl, o, hk, hc, hd⟩ | ⟨rfl, hk⟩ | ⟨rfl, S, n, hk⟩
    · obtain ⟨its, _, pl, _⟩ := I.list hq
      refine ⟨pl.isList.typeIs, fun a e => ?_⟩
      cases e
      obtain ⟨o, n, e, c, hd, _⟩ := pl
      exact ⟨o, e, hd⟩
    · refine ⟨⟨o, I.kIn p o hk, hc⟩, fun a e => ?_⟩
      cases e
      exact ⟨o, I.kIn _ o hk, hd⟩
    · have z : ∃ o, s.heap.get? p = some o ∧ o.ExactDict := by
        rcases hk with ⟨kvs, hk⟩ | ⟨kvs, hk⟩
        · obtain ⟨_, _, _, _, o, _, _, e, ex, _⟩ := I.hok p _ hk
          exact ⟨o, e, ex⟩
        · obtain ⟨_, _, _, _, o, _, _, e, ex, _⟩ := I.hok p _ hk
          exact ⟨o, e, ex⟩
      obtain ⟨o, e, ex⟩ := z
      refine ⟨⟨o, e, ex.1⟩, fun a e2 => ?_⟩
      cases e2
      exact ⟨o, e, ex.2.1⟩
    · obtain ⟨o, _, _, _, e, ex, _⟩ := I.hok p _ hk
      refine ⟨⟨o, e, ex.1⟩, fun a e2 => ?_⟩
      cases e2
      exact ⟨o, e, ex.2.1⟩
  | _ => exact False.elim ty
def tBM (K : PySem.W.Frag) (T : String) (r : V → List V → Hp → VK → Prop) (to : TE) (t : TA) : TE := fun σ H Q => to σ H fun x H1 => tyV K T x H1 ∧ t σ H1 fun xs H2 => r x xs H2 Q
variable {o e : Expr} {es : List Expr} {to : TE} {t : TA} {name : Str} {apos cpos : Pos} {T id : String} {r : V → List V → Hp → VK → Prop}
theorem pe_bm (pa : PlainAttrs T) (slot : Slot T name id) (hty : typeOf (.builtin id) = pure (.type "method_descriptor")) (hm : MtR X id r) (ho : PE X o to) (ha : PA X (e :: es) t)
    (hbase : attributeBase o name X.env (eval o X.env) = eval o X.env := by rfl)
    (hfew : ((backTo cpos (starEach (e :: es) X.env)).all (fun x => !x.1) && (backToKw cpos (keywordEach [] X.env)).all (fun x => x.1.isSome)
      && decide ((e :: es).length + ([] : List Keyword).length + (if ([] : List Keyword).isEmpty then 0 else 1) < 30)) = true := by rfl)
    (hline : (apos.endLine == cpos.line) = true := by rfl) (hs : starEach (e :: es) X.env = (false, eval e X.env) :: starEach es X.env := by rfl) (hplain : (backTo cpos (starEach es X.env)).any (·.1) = false := by rfl) :
    PE X (.Call (.Attribute o name apos) (e :: es) [] cpos) (tBM X.K T r to t) := by
  intro pins s σ H Q I h
  refine wpAny_Call_method_late hbase hfew hline rfl (thn (ho pins s σ H _ I h) fun v s1 ⟨x, H1, I1, r1, ty, q1⟩ => ?_)
  obtain ⟨h1, h2⟩ := tyV_is I1 r1 ty
  refine ⟨T, id, pa, slot, hty, h1, h2, ?_⟩
  have hA := ha cpos pins s1 σ H1 _ I1 q1
  rw [hs] at hA ⊢
  refine Calls.callWith_builtin (by show (false || (backTo cpos (starEach es X.env)).any (·.1)) = false; rw [hplain] <;> rfl) (Calls.evalArgs_plain ?_)
  exact thn hA fun us s2 ⟨vs, H2, I2, r2, q2⟩ => hm pins s2 σ H2 x vs v us Q I2 r1 r2 q2
end
end L2

namespace L2
open PySem PySem.Spec PyProof.Rows

def MtM (X : Cx) (id : String) (r : V → List V → Hp → VK → Prop) : Prop :=
  ∀ (pins : List (Addr × Obj)) (s : Shared) (σ : St) (H : Hp) (x : V) (xs : List V) (v : Value) (us : List Value) (Q : VK), Inv X pins σ H s → RelV x v → Vals xs us → r x xs H Q →
    wpAny (model X.prog X.w) X.A (call (.builtin id) (v :: us)) (EP X pins σ Q) X.xe s

theorem Vals.one : ∀ {x : V} {us : List Value}, Vals [x] us → ∃ u, us = [u] ∧ RelV x u
  | _, _, .cons r .nil => ⟨_, rfl, r⟩
section
variable {X : Cx} {pins : List (Addr × Obj)} {σ : St} {H : Hp} {s : Shared} {l b : Addr} {xs ys zs : List V}

theorem Inv.lset {its its' : List Value} {n : Nat} {f : Array Value → Array Value} {t' : Nat} (I : Inv X pins σ H s) (hH : H l = some (.lst xs))
    (e : s.heap.get? l = some { cls := .type "list", data := .seq its.toArray n }) (hf : f its.toArray = its'.toArray) (hv : Vals ys its') (hz : ys.length ≤ sizeLine) :
    Inv X pins σ (upd H l (.lst ys)) { s with heap := s.heap.update l (Obj.mapSeq f), toks := t' } := by
  have q := PySem.IsL.update e f
  rw [hf] at q
  refine I.write (x := l) (e := l) (by rw [hH]; exact trivial) (.inl rfl) (fun b' u hb hu => (Heap.get?_update_other s.heap (Obj.mapSeq f) (Ne.symm hb)).trans hu) ⟨_, q⟩ ?_
  exact ⟨hz, its', _, hv, q⟩
theorem Inv.lnew {its : List Value} {t' : Nat} (I : Inv X pins σ H s) (hv : Vals ys its) (hz : ys.length ≤ sizeLine) :
    Inv X pins σ (upd H s.heap.objs.size (.lst ys)) { s with heap := s.heap.push { cls := .type "list", data := .seq its.toArray }, toks := t' } :=
  I.laid (fun _ _ q => Heap.get?_push_of_some _ q) (Nat.le_refl _) ⟨hz, its, 0, hv, Heap.get?_push_size _ rfl⟩
theorem Inv.fresh (I : Inv X pins σ H s) : H s.heap.objs.size = none := I.hok.fresh (Nat.le_refl _)
theorem Inv.lstM (I : Inv X pins σ H s) (hH : H l = some (.lst xs)) : xs.length ≤ sizeLine ∧ ∃ (its : List Value) (n : Nat), Vals xs its ∧ xs.length = its.length ∧ s.heap.get? l = some { cls := .type "list", data := .seq its.toArray n } := by
  obtain ⟨z, its, n, r, e⟩ := I.hok l _ hH
  exact ⟨z, its, n, r, r.length, e⟩

theorem notLongL {n : Nat} (h : n ≤ sizeLine) : Builtin.List.listTooLong n = false := by
  unfold Builtin.List.listTooLong
  exact decide_eq_false (by omega)
end

section
variable {X : Cx}

def rAppend : V → List V → Hp → VK → Prop := fun x vs H Q => ∃ l xs y, x = .ref l ∧ vs = [y] ∧ H l = some (.lst xs) ∧ xs.length < sizeLine ∧ Q .non (upd H l (.lst (xs ++ [y])))
theorem mt_append : MtM X "list.append" rAppend := by
  intro pins s σ H x vs v us Q I rx rv h
  obtain ⟨l, xs, y, rfl, rfl, hH, hz, q⟩ := h
  cases rx
  obtain ⟨u, rfl, ru⟩ := rv.one
  obtain ⟨z, its, n, r, hl, e⟩ := I.lstM hH
  refine call_meets F.slot_list_append ⟨_, e, rfl⟩ F.entry_list_append (F.args_list_append_2 _ _) (PySem.list_append l its.toArray n u (by rw [List.size_toArray]; omega)) ⟨e, ?_⟩
  refine ⟨.non, _, I.lset (its' := its ++ [u]) hH e (by simp) (r.append (.cons ru .nil)) ?_, rfl, q⟩
  rw [List.length_append, List.length_singleton]
  omega

def rExtend : V → List V → Hp → VK → Prop := fun x vs H Q => ∃ l b xs zs, x = .ref l ∧ vs = [.ref b] ∧ H l = some (.lst xs) ∧ H b = some (.lst zs) ∧ xs.length + zs.length ≤ sizeLine ∧ Q .non (upd H l (.lst (xs ++ zs)))
theorem mt_extend : MtM X "list.extend" rExtend := by
  intro pins s σ H x vs v us Q I rx rv h
  obtain ⟨l, b, xs, zs, rfl, rfl, hH, hB, hz, q⟩ := h
  cases rx
  obtain ⟨u, rfl, ru⟩ := rv.one
  cases ru
  obtain ⟨z, its, n, r, hl, e⟩ := I.lstM hH
  obtain ⟨z2, its2, n2, r2, hl2, e2⟩ := I.lstM hB
  have hsz : its.toArray.size + its2.toArray.size ≤ sizeLine := by rw [List.size_toArray, List.size_toArray]; omega
  have hlong : ¬ (!its.toArray.isEmpty && Builtin.List.listTooLong (its.toArray.size + its2.toArray.size)) = true := by
    rw [notLongL hsz, Bool.and_false]
    exact Bool.false_ne_true
  refine call_meets F.slot_list_extend ⟨_, e, rfl⟩ F.entry_list_extend (F.args_list_extend_2 _ _)
    (AutoSeq1.list_extend_list_list_0 l its.toArray n b its2.toArray n2 hlong (by rw [List.size_toArray]; omega) (by omega)) ⟨e, e2, ?_⟩
  refine ⟨.non, _, I.lset (its' := its ++ its2) hH e (by simp) (r.append r2) ?_, rfl, q⟩
  rw [List.length_append]
  omega

def rCat : R2 := fun x y H Q => ∃ l b xs zs, x = .ref l ∧ y = .ref b ∧ H l = some (.lst xs) ∧ H b = some (.lst zs) ∧ xs.length + zs.length ≤ sizeLine ∧ ∀ p, H p = none → Q (.ref p) (upd H p (.lst (xs ++ zs)))
theorem op_cat : OpR X (binaryOp .Add) rCat := by
  intro pins s σ H x y v u Q I rx ry h
  obtain ⟨l, b, xs, zs, rfl, rfl, hH, hB, hz, q⟩ := h
  cases rx
  cases ry
  obtain ⟨z, its, n, r, hl, e⟩ := I.lstM hH
  obtain ⟨z2, its2, n2, r2, hl2, e2⟩ := I.lstM hB
  refine PySem.P.add_list e e2 ?_ (by rw [List.size_toArray, List.size_toArray]; omega)
  have ea : its.toArray ++ its2.toArray = (its ++ its2).toArray := by simp
  rw [ea]
  exact ⟨.ref _, _, I.lnew (t' := s.toks) (r.append r2) (by rw [List.length_append]; omega), rfl, q _ I.fresh⟩
end

section
variable {prog : Program} {w : World} {A : Around} {E : Value → Shared → Prop} {s : Shared}
set_option maxRecDepth 100000 in
end

section
variable {X : Cx}
end
end L2

namespace L2
open PySem PySem.Spec PyProof.Rows

section
variable {κ : Type} [DecidableEq κ]
def valV (kvs : List (κ × V)) (k : κ) : Option V := (kvs.find? fun kv => decide (kv.1 = k)).map (·.2)
def putK (kvs : List (κ × V)) (k : κ) (v : V) : List (κ × V) :=
  if (kvs.any fun kv => decide (kv.1 = k)) = true then kvs.map (fun kv => if kv.1 = k then (kv.1, v) else kv) else kvs ++ [(k, v)]
theorem valV_pos {p : κ × V} {r : List (κ × V)} {k : κ} (e : p.1 = k) : valV (p :: r) k = some p.2 := by simp [valV, List.find?_cons, e]
theorem valV_neg {p : κ × V} {r : List (κ × V)} {k : κ} (e : ¬ p.1 = k) : valV (p :: r) k = valV r k := by simp [valV, List.find?_cons, e]
theorem valV_any (k : κ) : ∀ kvs : List (κ × V), (kvs.any fun kv => decide (kv.1 = k)) = (valV kvs k).isSome
  | [] => rfl
  | p :: r => by
    rw [List.any_cons]
    by_cases e : p.1 = k
    · simp only [valV_pos e, decide_eq_true e, Bool.true_or, Option.isSome_some]
    · rw [valV_neg e, decide_eq_false e, Bool.false_or]; exact valV_any k r
theorem valV_map (k j : κ) (y : V) : ∀ kvs : List (κ × V), valV (kvs.map fun kv => if kv.1 = k then (kv.1, y) else kv) j = (valV kvs j).map fun x => if j = k then y else x
  | [] => rfl
  | p :: r => by
    have ih := valV_map k j y r
    rw [List.map_cons]
    by_cases h : p.1 = k
    · rw [if_pos h]
      by_cases e : p.1 = j
      · rw [valV_pos (p := (p.1, y)) e, valV_pos e, Option.map_some, if_pos (e.symm.trans h)]
      · rw [valV_neg (p := (p.1, y)) e, valV_neg e, ih]
    · rw [if_neg h]
      by_cases e : p.1 = j
      · rw [valV_pos (p := p) e, valV_pos e, Option.map_some, if_neg (fun z => h (e.trans z))]
      · rw [valV_neg (p := p) e, valV_neg e, ih]
theorem valV_snoc (k j : κ) (y : V) : ∀ kvs : List (κ × V), valV kvs k = none → valV (kvs ++ [(k, y)]) j = if j = k then some y else valV kvs j
  | [], _ => by
    by_cases e : k = j
    · rw [if_pos e.symm]; exact valV_pos (p := (k, y)) e
    · rw [if_neg (fun z => e z.symm)]; exact valV_neg (p := (k, y)) e
  | p :: r, hn => by
    rw [List.cons_append]
    have hk : ¬ p.1 = k := fun z => by rw [valV_pos z] at hn; cases hn
    rw [valV_neg hk] at hn
    have ih := valV_snoc k j y r hn
    by_cases e : p.1 = j
    · rw [valV_pos e, valV_pos e, if_neg (fun z => hk (e.trans z))]
    · rw [valV_neg e, valV_neg e, ih]
theorem valV_put (kvs : List (κ × V)) (k j : κ) (y : V) : valV (putK kvs k y) j = if j = k then some y else valV kvs j := by
  unfold putK
  by_cases a : (kvs.any fun kv => decide (kv.1 = k)) = true
  · rw [if_pos a, valV_map]
    rw [valV_any] at a
    by_cases e : j = k
    · obtain ⟨x, hx⟩ := Option.isSome_iff_exists.mp a
      rw [if_pos e, e, hx, Option.map_some, if_pos rfl]
    · rw [if_neg e]
      cases valV kvs j with
      | none => rfl
      | some x => rw [Option.map_some, if_neg e]
  · rw [if_neg a]
    refine valV_snoc k j y kvs ?_
    rw [valV_any] at a
    cases q : valV kvs k with
    | none => rfl
    | some x => rw [q] at a; exact (a rfl).elim
theorem length_putK (kvs : List (κ × V)) (k : κ) (v : V) : (putK kvs k v).length ≤ kvs.length + 1 := by
  unfold putK
  split
  · rw [List.length_map]; omega
  · rw [List.length_append, List.length_cons, List.length_nil]; omega
theorem putK_new {kvs : List (κ × V)} {k : κ} (v : V) (h : valV kvs k = none) : putK kvs k v = kvs ++ [(k, v)] := by
  unfold putK
  rw [valV_any, h]
  exact if_neg (by decide)

theorem RelO.isSome_eq {o : Option V} {u : Option Value} (r : RelO o u) : o.isSome = u.isSome := by
  cases o with
  | none => cases u with
    | none => rfl
    | some _ => exact (show False from r).elim
  | some _ => cases u with
    | none => exact (show False from r).elim
    | some _ => rfl
theorem KV.val {kvs : List (κ × V)} {vs : List (κ × Value)} (r : KV kvs vs) (k : κ) : RelO (valV kvs k) (valueAt vs k) := by
  unfold KV at r
  induction r with
  | nil => exact True.intro
  | @cons p q ps qs h t ih =>
    obtain ⟨h1, h2⟩ := h
    by_cases e : p.1 = k
    · have e' : q.1 = k := h1.symm.trans e
      have b : valueAt (q :: qs) k = some q.2 := by simp [valueAt, List.find?_cons, e']
      rw [valV_pos e, b]; exact h2
    · have e' : ¬ q.1 = k := fun z => e (h1.trans z)
      have b : valueAt (q :: qs) k = valueAt qs k := by simp [valueAt, List.find?_cons, e']
      rw [valV_neg e, b]; exact ih
theorem KV.any {kvs : List (κ × V)} {vs : List (κ × Value)} (r : KV kvs vs) (k : κ) : (kvs.any fun kv => decide (kv.1 = k)) = vs.any fun kv => decide (kv.1 = k) := by
  unfold KV at r
  induction r with
  | nil => rfl
  | cons h t ih => rw [List.any_cons, List.any_cons, ih, h.1]
theorem KV.repl {kvs : List (κ × V)} {vs : List (κ × Value)} (r : KV kvs vs) (k : κ) {y : V} {u : Value} (ry : RelV y u) :
    KV (kvs.map fun kv => if kv.1 = k then (kv.1, y) else kv) (vs.map fun kv => if kv.1 = k then (kv.1, u) else kv) := by
  unfold KV at r ⊢
  induction r with
  | nil => exact .nil
  | @cons p q ps qs h t ih =>
    rw [List.map_cons, List.map_cons]
    refine .cons ?_ ih
    obtain ⟨h1, h2⟩ := h
    by_cases e : p.1 = k
    · rw [if_pos e, if_pos (h1.symm.trans e)]; exact ⟨h1, ry⟩
    · rw [if_neg e, if_neg (fun z => e (h1.trans z))]; exact ⟨h1, h2⟩
theorem KV.put {kvs : List (κ × V)} {vs : List (κ × Value)} (r : KV kvs vs) (k : κ) {y : V} {u : Value} (ry : RelV y u) : KV (putK kvs k y) (stored vs k u) := by
  unfold putK stored
  rw [r.any k]
  by_cases e : (vs.any fun kv => decide (kv.1 = k)) = true
  · rw [if_pos e, if_pos e]; exact r.repl k ry
  · rw [if_neg e, if_neg e]; exact Paired.snoc r ⟨rfl, ry⟩
theorem KV.length {kvs : List (κ × V)} {vs : List (κ × Value)} (r : KV kvs vs) : kvs.length = vs.length := Paired.length r
end


theorem kV_is {P : Program} {w : World} {k : Key} {u : Value} (r : RelV (kV k) u) : (mixKind P w).is k u = true := by
  cases k with
  | inl i => obtain ⟨t, e⟩ := (show ∃ t, u = Value.int i t from r); subst e; exact mixKind_int P w i t
  | inr x => obtain ⟨t, e⟩ := (show ∃ t, u = Value.str x t from r); subst e; exact mixKind_str P w x t
theorem items_are {P : Program} {w : World} : ∀ {ks : List Key} {us : List Value}, Vals (ks.map kV) us → ItemsAre (mixKind P w) ks us
  | [], _, r => by rw [List.map_nil] at r; cases r; exact .nil
  | k :: ks, _, r => by
    rw [List.map_cons] at r
    cases r with
    | cons h t => exact .cons (kV_is h) (items_are t)

abbrev KT (H : Hp) : List (List Key × V) → List (List Key × Addr × Value) → Prop := Paired fun p q => p.1 = q.1 ∧ H q.2.1 = some (.tup (p.1.map kV)) ∧ RelV p.2 q.2.2
theorem KT.val {H : Hp} {kvs : List (List Key × V)} {xs : List (List Key × Addr × Value)} (r : KT H kvs xs) (k : List Key) : RelO (valV kvs k) ((atKey xs k).map (·.2)) := by
  induction r with
  | nil => exact True.intro
  | @cons p q ps qs h t ih =>
    obtain ⟨h1, _, h2⟩ := h
    by_cases e : p.1 = k
    · have e' : q.1 = k := h1.symm.trans e
      have b : atKey (q :: qs) k = some q.2 := by simp [atKey, List.find?_cons, e']
      rw [valV_pos e, b]; exact h2
    · have e' : ¬ q.1 = k := fun z => e (h1.trans z)
      have b : atKey (q :: qs) k = atKey qs k := by simp [atKey, List.find?_cons, e']
      rw [valV_neg e, b]; exact ih
theorem KT.repl {H : Hp} {kvs : List (List Key × V)} {xs : List (List Key × Addr × Value)} (r : KT H kvs xs) (k : List Key) {y : V} {u : Value} (ry : RelV y u) :
    KT H (kvs.map fun kv => if kv.1 = k then (kv.1, y) else kv) (xs.map (putAt k u)) := by
  induction r with
  | nil => exact .nil
  | @cons p q ps qs h t ih =>
    rw [List.map_cons, List.map_cons]
    refine .cons ?_ ih
    obtain ⟨h1, h2, h3⟩ := h
    unfold putAt
    by_cases e : p.1 = k
    · rw [if_pos e, if_pos (h1.symm.trans e)]; exact ⟨h1, h2, ry⟩
    · rw [if_neg e, if_neg (fun z => e (h1.trans z))]; exact ⟨h1, h2, h3⟩
theorem KT.put {H : Hp} {kvs : List (List Key × V)} {xs : List (List Key × Addr × Value)} (r : KT H kvs xs) (k : List Key) {b : Addr} {y : V} {u : Value} (hb : H b = some (.tup (k.map kV))) (ry : RelV y u) :
    KT H (putK kvs k y) (storedH xs k b u) := by
  have e : (kvs.any fun kv => decide (kv.1 = k)) = (atKey xs k).isSome := by
    rw [valV_any, (r.val k).isSome_eq, Option.isSome_map]
  unfold putK storedH
  rw [e]
  by_cases q : (atKey xs k).isSome = true
  · rw [if_pos q, if_pos q]; exact r.repl k ry
  · rw [if_neg q, if_neg q]; exact Paired.snoc r ⟨rfl, hb, ry⟩
theorem KT.keeps {H H' : Hp} {kvs : List (List Key × V)} {xs : List (List Key × Addr × Value)} (r : KT H kvs xs) (ht : ∀ b ys, H b = some (.tup ys) → H' b = some (.tup ys)) : KT H' kvs xs :=
  Paired.mapP r fun _ _ z => ⟨z.1, ht _ _ z.2.1, z.2.2⟩

section
variable {P : Program} {w : World} {H : Hp} {h : Heap} {a : Addr}
theorem rd_of {u : HO} (ok : HOk P w H h) (e : Rd H a u) : ObjOk P w H h a u := e.ok ok
theorem dk_rd {kvs : List (Key × V)} (ok : HOk P w H h) (e : Rd H a (.dK kvs)) : kvs.length ≤ sizeLine ∧ (a == sysModules) = false ∧ ∃ vs, KV kvs vs ∧ h.DictOf (mixKind P w) a vs :=
  show ObjOk P w H h a (.dK kvs) from rd_of ok e
theorem dk_of {kvs : List (Key × V)} (ok : HOk P w H h) (e : H a = some (.dK kvs)) : kvs.length ≤ sizeLine ∧ (a == sysModules) = false ∧ ∃ vs, KV kvs vs ∧ h.DictOf (mixKind P w) a vs := dk_rd ok (.inl e)
theorem key_of {ks : List Key} (ok : HOk P w H h) (e : H a = some (.tup (ks.map kV))) : (tupleKind (mixKind P w)).is h ks a := by
  obtain ⟨_, its, r, o, h1, h2, n, h3⟩ := (show ObjOk P w H h a (.tup (ks.map kV)) from ok a _ e)
  exact ⟨o, its.toArray, n, h1, h2, h3, by simpa using items_are r⟩
theorem dt_rd {kvs : List (List Key × V)} (ok : HOk P w H h) (e : Rd H a (.dT kvs)) : kvs.length ≤ sizeLine ∧ (a == sysModules) = false ∧
    ∃ xs, KT H kvs xs ∧ h.DictOfH (tupleKind (mixKind P w)) a xs := by
  obtain ⟨z, y, xs, r, o, es, ep, h1, h2, h3, h4, h5⟩ := (show ObjOk P w H h a (.dT kvs) from rd_of ok e)
  refine ⟨z, y, xs, r, o, es, ep, h1, h2, h3, h4, fun x hx => ?_, h5⟩
  have all : ∀ {l : List (List Key × V)} {m : List (List Key × Addr × Value)}, KT H l m → ∀ x ∈ m, (tupleKind (mixKind P w)).is h x.1 x.2.1 := by
    intro l m q
    induction q with
    | nil => intro x hx; exact nomatch hx
    | @cons p q ps qs hq t ih =>
      intro x hx
      rcases List.mem_cons.mp hx with e | hx
      · subst e
        exact key_of ok (by rw [← hq.1]; exact hq.2.1)
      · exact ih x hx
  exact all r x hx
theorem dt_of {kvs : List (List Key × V)} (ok : HOk P w H h) (e : H a = some (.dT kvs)) : kvs.length ≤ sizeLine ∧ (a == sysModules) = false ∧
    ∃ xs, KT H kvs xs ∧ h.DictOfH (tupleKind (mixKind P w)) a xs := dt_rd ok (.inl e)
end

def DGet (H : Hp) (a : Addr) (y : V) (r : Option V) : Prop :=
  (∃ kvs k, Rd H a (.dK kvs) ∧ y = kV k ∧ r = valV kvs k) ∨ ∃ kvs k b, Rd H a (.dT kvs) ∧ y = .ref b ∧ H b = some (.tup (k.map kV)) ∧ r = valV kvs k
def DPut (H : Hp) (a : Addr) (y v : V) (H' : Hp) : Prop :=
  (∃ kvs k, H a = some (.dK kvs) ∧ y = kV k ∧ kvs.length < sizeLine ∧ H' = upd H a (.dK (putK kvs k v))) ∨
  ∃ kvs k b, H a = some (.dT kvs) ∧ y = .ref b ∧ H b = some (.tup (k.map kV)) ∧ kvs.length < sizeLine ∧ H' = upd H a (.dT (putK kvs k v))
theorem DGet.k {H : Hp} {a : Addr} {kvs : List (Key × V)} {k : Key} (e : H a = some (.dK kvs)) : DGet H a (kV k) (valV kvs k) := .inl ⟨kvs, k, .inl e, rfl, rfl⟩
theorem DPut.k {H : Hp} {a : Addr} {kvs : List (Key × V)} {k : Key} {v : V} (e : H a = some (.dK kvs)) (hl : kvs.length < sizeLine) : DPut H a (kV k) v (upd H a (.dK (putK kvs k v))) := .inl ⟨kvs, k, e, rfl, hl, rfl⟩
theorem DPut.t {H : Hp} {a b : Addr} {kvs : List (List Key × V)} {k : List Key} {v : V} (e : H a = some (.dT kvs)) (eb : H b = some (.tup (k.map kV))) (hl : kvs.length < sizeLine) :
    DPut H a (.ref b) v (upd H a (.dT (putK kvs k v))) := .inr ⟨kvs, k, b, e, rfl, eb, hl, rfl⟩


section
variable {X : Cx} {pins : List (Addr × Obj)} {σ : St} {H : Hp} {s : Shared} {a : Addr} {y v : V} {u r : Value} {o : Option V} {A : Around} {E : Value → Shared → Prop}

theorem Inv.big (I : Inv X pins σ H s) : sysModules < s.heap.objs.size := by
  have h : mainGlobals < s.heap.objs.size := (I.mod.glob.keeps I.bk).lt
  exact Nat.lt_trans (by decide) h

theorem d_in {Q : Value → Shared → Prop} (hu : A.units + 1 < cLine) (I : Inv X pins σ H s) (g : DGet H a y o) (ry : RelV y u) (h : ∀ s', Inv X pins σ H s' → Q (.bool o.isSome) s') :
    wpAny (model X.prog X.w) A (compareOp .In u (.ref a)) Q E s := by
  rcases g with ⟨kvs, k, e, ey, l⟩ | ⟨kvs, k, b, e, ey, eb, l⟩
  · subst ey
    obtain ⟨z, hd, vs, rel, dd⟩ := dk_rd I.hok e
    refine wpAny_in_of (kV_is ry) hd dd.mapOf ?_
    rw [← (rel.val k).isSome_eq, ← l]
    exact h _ (I.tok _)
  · subst ey
    cases (show u = Value.ref b from ry)
    obtain ⟨z, hd, xs, rel, dd⟩ := dt_rd I.hok e
    refine wpAny_in_heap (tupleKind_room_in1 hu) (key_of I.hok eb) hd dd ?_
    have q := (rel.val k).isSome_eq
    rw [Option.isSome_map] at q
    rw [← q, ← l]
    exact h _ (I.tok _)
theorem d_notIn {Q : Value → Shared → Prop} (hu : A.units + 1 < cLine) (I : Inv X pins σ H s) (g : DGet H a y o) (ry : RelV y u) (h : ∀ s', Inv X pins σ H s' → Q (.bool (!o.isSome)) s') :
    wpAny (model X.prog X.w) A (compareOp .NotIn u (.ref a)) Q E s := by
  rcases g with ⟨kvs, k, e, ey, l⟩ | ⟨kvs, k, b, e, ey, eb, l⟩
  · subst ey
    obtain ⟨z, hd, vs, rel, dd⟩ := dk_rd I.hok e
    refine wpAny_notIn_of (kV_is ry) hd dd.mapOf ?_
    rw [← (rel.val k).isSome_eq, ← l]
    exact h _ (I.tok _)
  · subst ey
    cases (show u = Value.ref b from ry)
    obtain ⟨z, hd, xs, rel, dd⟩ := dt_rd I.hok e
    refine wpAny_notIn_heap (tupleKind_room_in1 hu) (key_of I.hok eb) hd dd ?_
    have q := (rel.val k).isSome_eq
    rw [Option.isSome_map] at q
    rw [← q, ← l]
    exact h _ (I.tok _)
theorem d_write {h' : Heap} {t' : Nat} {ob : HO} (I : Inv X pins σ H s) (mu : Mut (H a)) (hs : Heap.SameBut a s.heap h') (he : ∃ q, h'.get? a = some q) (new : ObjOk X.prog X.w (upd H a ob) h' a ob) :
    Inv X pins σ (upd H a ob) { s with heap := h', toks := t' } :=
  I.write (x := a) (e := a) mu (.inl rfl) (fun b q hb z => (hs.2 b hb).trans z) he new
theorem dk_new {P : Program} {w : World} {H' : Hp} {h' : Heap} {kvs : List (Key × V)} {vs : List (Key × Value)} (z : kvs.length ≤ sizeLine) (hd : (a == sysModules) = false) (rel : KV kvs vs) (dd : h'.DictOf (mixKind P w) a vs) :
    ObjOk P w H' h' a (.dK kvs) := ⟨z, hd, vs, rel, dd⟩
theorem d_setItem {H' : Hp} {Q : Unit → Shared → Prop} (hu : A.units + 1 < cLine) (I : Inv X pins σ H s) (g : DPut H a y v H') (ry : RelV y u) (rv : RelV v r) (h : ∀ s', Inv X pins σ H' s' → Q () s') :
    wpAny (model X.prog X.w) A (setItem (.ref a) u r) Q E s := by
  rcases g with ⟨kvs, k, e, ey, l, eH⟩ | ⟨kvs, k, b, e, ey, eb, l, eH⟩
  · subst ey eH
    obtain ⟨z, hd, vs, rel, dd⟩ := dk_of I.hok e
    have hz : vs.length ≤ sizeLine := by rw [← rel.length]; exact z
    have hl : (putK kvs k v).length ≤ sizeLine := by have := length_putK kvs k v; omega
    refine wpAny_setItem_pairs (hsz := hz) (kV_is ry) dd fun h' dd' hs => h _ ?_
    have he : ∃ q, h'.get? a = some q := let ⟨q, _, _, hq, _⟩ := dd'; ⟨q, hq⟩
    exact d_write I (by rw [e]; exact True.intro) hs he (dk_new hl hd (rel.put k rv) dd')
  · subst ey eH
    cases (show u = Value.ref b from ry)
    obtain ⟨z, hd, xs, rel, dd⟩ := dt_of I.hok e
    have hz : xs.length ≤ sizeLine := by rw [← Paired.length rel]; exact z
    have hl : (putK kvs k v).length ≤ sizeLine := by have := length_putK kvs k v; omega
    refine wpAny_setItem_heap (hsz := hz) (tupleKind_room_in1 hu) (key_of I.hok eb) dd fun h' dd' hs => h _ ?_
    obtain ⟨q, es, ep, hq, h2, h3, h4, _, h5⟩ := dd'
    refine d_write I (by rw [e]; exact True.intro) hs ⟨q, hq⟩ ⟨hl, hd, _, (rel.put k eb rv).keeps fun c ys ec => ?_, q, es, ep, hq, h2, h3, h4, h5⟩
    rw [upd_ne (ne_of ec e (fun z => nomatch z))]
    exact ec
end

section
variable {X : Cx} {pins : List (Addr × Obj)} {σ : St} {H : Hp} {s : Shared} {a : Addr} {kvs : List (Key × V)} {k : Key} {u : Value} {A : Around} {E : Value → Shared → Prop}
end


def tDIn (ty td : TE) : TE := fun σ H Q => ty σ H fun y H1 => td σ H1 fun x H2 => ∃ a o, x = .ref a ∧ DGet H2 a y o ∧ Q (.bl o.isSome) H2
def tDNotIn (ty td : TE) : TE := fun σ H Q => ty σ H fun y H1 => td σ H1 fun x H2 => ∃ a o, x = .ref a ∧ DGet H2 a y o ∧ Q (.bl (!o.isSome)) H2
def sDPut (td ty tv : TE) : TS := fun D σ H => tv σ H fun v H1 => td σ H1 fun x H2 => ty σ H2 fun y H3 => ∃ a H4, x = .ref a ∧ DPut H3 a y v H4 ∧ D.nx σ H4
section
variable {X : Cx} {o i e value : Expr} {pos pos' tpos : Pos} {td ty tv : TE}
theorem pc_din (hu : X.A.units + 1 < cLine) (hi : PE X i ty) (ho : PE X o td) : PC X .In i o (tDIn ty td) := by
  intro pins s σ H Q I h
  refine thn (hi pins s σ H _ I h) fun iv s1 ⟨y, H1, I1, ry, q1⟩ => thn (ho pins s1 σ H1 _ I1 q1) fun u s2 ⟨x, H2, I2, rx, a, ov, ex, g, q2⟩ => ?_
  subst ex
  obtain rfl : u = Value.ref a := rx
  exact d_in hu I2 g ry fun s3 I3 => ⟨.bl ov.isSome, H2, I3, rfl, q2⟩
theorem pc_dnotin (hu : X.A.units + 1 < cLine) (hi : PE X i ty) (ho : PE X o td) : PC X .NotIn i o (tDNotIn ty td) := by
  intro pins s σ H Q I h
  refine thn (hi pins s σ H _ I h) fun iv s1 ⟨y, H1, I1, ry, q1⟩ => thn (ho pins s1 σ H1 _ I1 q1) fun u s2 ⟨x, H2, I2, rx, a, ov, ex, g, q2⟩ => ?_
  subst ex
  obtain rfl : u = Value.ref a := rx
  exact d_notIn hu I2 g ry fun s3 I3 => ⟨.bl (!ov.isSome), H2, I3, rfl, q2⟩
theorem ps_dput (hu : X.A.units + 1 < cLine) (ho : PE X o td) (hi : PE X i ty) (hv : PE X value tv) (hs : swapsWith value (some (.Subscript o i pos')) pos.line X.env = pure false) :
    PS X (.Assign [.Subscript o i pos'] value pos) (sDPut td ty tv) := by
  intro pins s σ H D I h
  refine wpAny_Assign_Subscript (thn (hv pins s σ H _ I h) fun r s1 ⟨v, H1, I1, rv, q1⟩ => thn (ho pins s1 σ H1 _ I1 q1) fun u s2 ⟨x, H2, I2, rx, q2⟩ => thn (hi pins s2 σ H2 _ I2 q2) fun iv s3 ⟨y, H3, I3, ry, a, H4, ex, g, q3⟩ => ?_) hs
  subst ex
  obtain rfl : u = Value.ref a := rx
  exact d_setItem hu I3 g ry rv fun s4 I4 => ⟨σ, H4, I4, q3⟩
end


theorem dk_empty {P : Program} {w : World} {H : Hp} (h : Heap) (hb : sysModules < h.objs.size) : ObjOk P w H (h.push { cls := .type "dict", data := .dict #[] }) h.objs.size (.dK []) :=
  ⟨Nat.zero_le _, beq_eq_false_iff_ne.mpr (Ne.symm (Nat.ne_of_lt hb)), [], .nil, Heap.DictOf.new h⟩
theorem dt_empty {P : Program} {w : World} {H : Hp} (h : Heap) (hb : sysModules < h.objs.size) : ObjOk P w H (h.push { cls := .type "dict", data := .dict #[] }) h.objs.size (.dT []) :=
  ⟨Nat.zero_le _, beq_eq_false_iff_ne.mpr (Ne.symm (Nat.ne_of_lt hb)), [], .nil, _, #[], 0, Heap.get?_push_size _ rfl, ⟨rfl, rfl, rfl⟩, rfl, rfl, List.nodup_nil⟩
def tDNewK : TE := fun _ H Q => ∀ p, H p = none → Q (.ref p) (upd H p (.dK []))
def tDNewT : TE := fun _ H Q => ∀ p, H p = none → Q (.ref p) (upd H p (.dT []))
section
variable {X : Cx} {pos : Pos}
theorem pe_dnewK : PE X (.Dict [] [] pos) tDNewK := fun pins s σ H Q I h =>
  wpAny_Dict_empty ⟨.ref s.heap.objs.size, _, I.laid (a := s.heap.objs.size) (o := .dK []) (t' := s.toks) (fun _ _ q => Heap.get?_push_of_some _ q) (Nat.le_refl _) (dk_empty s.heap I.big), rfl, h _ (I.hok.fresh (Nat.le_refl _))⟩
theorem pe_dnewT : PE X (.Dict [] [] pos) tDNewT := fun pins s σ H Q I h =>
  wpAny_Dict_empty ⟨.ref s.heap.objs.size, _, I.laid (a := s.heap.objs.size) (o := .dT []) (t' := s.toks) (fun _ _ q => Heap.get?_push_of_some _ q) (Nat.le_refl _) (dt_empty s.heap I.big), rfl, h _ (I.hok.fresh (Nat.le_refl _))⟩
end

section
variable {X : Cx} {pins : List (Addr × Obj)} {σ : St} {H : Hp} {s : Shared} {a : Addr} {y d : V} {u r : Value} {o : Option V} {A : Around} {E : Value → Shared → Prop}
end

section
variable {X : Cx} {o e f : Expr} {apos cpos : Pos} {td ty tx : TE}
end

section
variable {X : Cx} {pins : List (Addr × Obj)} {σ : St} {H : Hp} {s : Shared} {a : Addr} {kvs : List (Key × V)} {A : Around} {E : Value → Shared → Prop}
theorem d_copyOf {Q : Value → Shared → Prop} (I : Inv X pins σ H s) (e : Rd H a (.dK kvs)) (h : ∀ p s', H p = none → Inv X pins σ (upd H p (.dK kvs)) s' → Q (.ref p) s') : wpAny (model X.prog X.w) A (call (.type "dict") [.ref a]) Q E s := by
  obtain ⟨z, hd, vs, rel, dd⟩ := dk_rd I.hok e
  refine kt_call_dict hd dd (by rw [← rel.length]; exact z) fun h' dd' hs => ?_
  refine h _ _ (I.hok.fresh (Nat.le_refl _)) (I.laid (a := s.heap.objs.size) (o := .dK kvs) (t' := s.toks) (fun b q hq => ?_) (Nat.le_refl _) (dk_new z (beq_eq_false_iff_ne.mpr (Ne.symm (Nat.ne_of_lt I.big))) rel dd'))
  exact (hs.2 b (Nat.ne_of_lt (Heap.lt_size hq))).trans (Heap.get?_push_of_some _ hq)
end


section
variable {X : Cx} {pins : List (Addr × Obj)} {σ : St} {H : Hp} {s : Shared} {a : Addr} {y : V} {u : Value} {A : Around} {E : Value → Shared → Prop}
end
end L2

namespace Att
open PySem PySem.W PySem.Calls PyProof.Rows

theorem ints_of_wellAll {P : Params} {h : Heap} : ∀ (ns : List Int) (vs : List Value), WellAll P h vs (ns.map WData.int) → IntsAre vs ns := by
  intro ns
  induction ns with
  | nil =>
    intro vs w
    rw [List.map_nil] at w
    cases w
    exact .nil
  | cons n ns ih =>
    intro vs w
    rw [List.map_cons] at w
    cases w with
    | cons a b =>
      cases a
      exact .cons _ _ (ih _ b)

theorem script_of {l : OpenLaw} {n : Nat} (hn : l.most = some n) {P : Params} {h : Heap} {args : List WData} {vals : List Value}
    (hpre : l.row.toRowW.claim.pre args = true) (hwl : WellAll P h vals args) :
    ∃ a vs ns, vals = [Value.ref a] ∧ args = [WData.list (ns.map WData.int)] ∧ h.get? a = some { cls := .type "list", data := .seq vs.toArray } ∧ IntsAre vs ns ∧ ns.length ≤ n := by
  have hsh : WShape.hasAll [] args [.list .int] = true := (pre_splitW hpre).1
  have hc : l.pre.holds [] { args := args } = true := (pre_splitW hpre).2
  obtain ⟨d, r, rfl, h1, h2⟩ := hasAllW_cons hsh
  obtain rfl := hasAllW_nil h2
  obtain ⟨xs, rfl, h3⟩ := hasW_list h1
  obtain ⟨ns, rfl⟩ := items_int h3
  have hlen : ns.length ≤ n := by
    unfold OpenLaw.pre at hc
    have h4 : (WTm.not (.lt (.lit (.int (n : Int))) (.len (.arg 0)))).holds [] { args := [.list (ns.map .int)] } = true := by
      have h4 := (holds_andW hc).1
      rw [hn] at h4
      exact h4
    have h5 := condW_of h4 (w_not (w_lt w_lit (w_len_list (w_arg rfl))))
    rw [List.length_map] at h5
    refine Nat.le_of_not_lt fun q => ?_
    have q' : (n : Int) < ((ns.length : Nat) : Int) := by omega
    first
      | (rw [decide_eq_true q'] at h5; exact absurd h5 (by decide))
      | (simp at h5; omega)
  cases hwl with
  | cons w1 w2 =>
    cases w2
    cases w1 with
    | list ho hall => exact ⟨_, _, ns, rfl, rfl, ho, ints_of_wellAll ns _ hall, hlen⟩

theorem post_true (l : OpenLaw) (args : List WData) : l.row.toRowW.claim.post args (.bool true) args = true :=
  postW_of (r := l.row.toRowW) (X := (true == true))
    (show WShape.has [] (.bool true) .bool = true by first | rfl | decide | simp [WShape.has, WShape.arms, WShape.armsAll])
    (show (WTm.eq .res (.lit (.bool true))).value [] { args := args, res := some (.bool true), after := args } = some (.bool (true == true)) from w_eq_bool (w_res rfl) w_lit) rfl

theorem attach_call {l : OpenLaw} {n : Nat} {q : Program} {loose : List Str} {XP : (Str → Option Value) → Heap → Prop} {YP : World → Heap → Prop} {d : DefRec}
    (hn : l.most = some n) (hdf : d.params.defaults = [])
    (call : ∀ (w : World) (s₀ s₁ : Shared) (mg mb : Str → Option Value) (fa : Addr) (o : Obj) (pm cd doc : Value) (a : Addr) (vs : List Value) (ns : List Int),
      Ground q loose [] XP w s₀ mg mb s₁.heap → YP w s₁.heap →
      s₁.heap.get? fa = some o → o.data = .func (docDef d.name d.params d.body d.scope pm cd doc) → s₁.heap.CodeRec cd d.name → mg d.name = some (.ref fa) →
      s₁.heap.get? a = some { cls := .type "list", data := .seq vs.toArray } → IntsAre vs ns → ns.length ≤ n → s₁.gens = #[] →
      codeAny (model l.prog w) callerA (.call (.ref fa) ⟨[.ref a], []⟩) (fun r s' => r = .ok (.ret (.bool true)) ∧ OldK s₁.heap s'.heap ∧ s'.os = s₁.os ∧ AllBare s'.gens) s₁) :
    WalkO q loose XP YP l.row.toRowW d [] (fun f vs => PySem.call f vs) := by
  intro w s₀ s₁ mg mb G Y fa o pm cd doc dV kV ho hd hcd hD hmg hg args vals as hpre hlay hrd hwl hlo
  obtain rfl : dV = .none := Dflts.none hD hdf
  obtain rfl : kV = .none := Dflts.noKw hD
  obtain ⟨a, vs, ns, rfl, rfl, hobj, hints, hlen⟩ := script_of hn hpre hwl
  refine enter_call (codeAny_mono (call w s₀ s₁ mg mb fa o pm cd doc a vs ns G Y ho (fd_plain hd) hcd hmg hobj hints hlen hg) fun r s' hq => ?_)
  obtain ⟨rfl, h2, h3, h4⟩ := hq
  exact ⟨.inl ⟨.bool true, .bool true, [], rfl, fun _ => rfl, .bool true, post_true l _, fun _ => ⟨List.Pairwise.nil, fun _ hm => (nomatch hm)⟩⟩, h2, h3, h4⟩

section
variable {prog : Program} {w : World} {A : Around} {E : Value → Shared → Prop} {s : Shared} {K : Frag}

end
end Att

namespace L2
open PySem PySem.Spec PyProof.Rows

theorem vals_ints : ∀ {vs : List Value} {ns : List Int}, IntsAre vs ns → Vals (ns.map V.int) vs
  | _, _, .nil => .nil
  | _, _, .cons n t h => .cons ⟨t, rfl⟩ (vals_ints h)

def Only (H : Hp) : Prop := ∀ b, H b = none ∨ ∃ o xs, H b = some (.frz o (.lst xs))

theorem law_call {P : Program} {w : World} {K : PySem.W.Frag} {mg mb : Str → Option Value} {CX : CXT} {k : Nat} {fa a : Addr} {fd : FuncData} {x : Str} {sp : Sp} {s₁ : Shared} {vs : List Value} {ns : List Int}
    (KX : K.In s₁.heap) (hns : s₁.heap.Ns mainGlobals mg) (hb : s₁.heap.Ns builtinsNs mb) (hbb : ∀ x : Str, x ≠ "__name__" → mb x = bootBuiltins x) (hlim : s₁.heap.NoLimit) (hg : s₁.gens = #[])
    (ha : s₁.heap.get? a = some { cls := .type "list", data := .seq vs.toArray }) (hi : IntsAre vs ns) (hl : ns.length ≤ sizeLine) (hr : Room k callerA)
    (F : ∀ base : Heap, K.In base → base.Ns mainGlobals mg → FnOk P w K mg base CX k fa fd [x] sp) (hbind : ∀ (s : Shared) (u : Value), BindsTo s fd ⟨[u], []⟩ [(x, u)])
    (hsp : ∀ H : Hp, Only H → SqL K H a (ns.map V.int) → sp [.ref a] H (fun v _ => v = .bl true) fun _ _ _ => False)
    (hCX : ∀ H e s', CX [] H s₁ (fun _ _ _ => False) e s' → False) :
    codeAny (model P w) callerA (.call (.ref fa) ⟨[.ref a], []⟩) (fun r s' => r = .ok (.ret (.bool true)) ∧ OldK s₁.heap s'.heap ∧ s'.os = s₁.os ∧ AllBare s'.gens) s₁ := by
  have rv := vals_ints hi
  have lenV := hi.length
  -- from an abstract heap in which nothing but the script may be tracked
  have core : ∀ H : Hp, Only H → SqL K H a (ns.map V.int) → HOk P w H s₁.heap → (∀ b, H b ≠ none → b = a) → (H a ≠ none → K.lookup a = none) →
      codeAny (model P w) callerA (.call (.ref fa) ⟨[.ref a], []⟩) (fun r s' => r = .ok (.ret (.bool true)) ∧ OldK s₁.heap s'.heap ∧ s'.os = s₁.os ∧ AllBare s'.gens) s₁ := by
    intro H hO hS hok hA hK
    have base_of : ∀ {b : Addr} {o : Obj}, s₁.heap.get? b = some o → H b = none → (hidT s₁.heap H).get? b = some o := fun e n => hidT_get e n
    have noA : ∀ {b : Addr} {o : Obj} {es : Array DictEntry} {ep : Nat}, s₁.heap.get? b = some o → o.data = .dict es ep → H b = none := fun {b o es ep} e d => by
      cases q : H b with
      | none => rfl
      | some u =>
        have e' : b = a := hA b (by rw [q]; simp)
        subst e'
        rw [ha] at e; cases e
        have d' : Data.seq vs.toArray _ = Data.dict es ep := d
        cases d'
    have nsK : ∀ {b : Addr} {m : Str → Option Value}, s₁.heap.Ns b m → (hidT s₁.heap H).Ns b m := fun {b m} ⟨o, es, ep, e, d, r⟩ => ⟨o, es, ep, base_of e (noA e d), d, r⟩
    have hKb : K.In (hidT s₁.heap H) := fun b o e => base_of (KX b o e) (by
      cases q : H b with
      | none => rfl
      | some u =>
        have e' : b = a := hA b (by rw [q]; simp)
        subst e'
        rw [hK (by rw [q]; simp)] at e; cases e)
    have hM : Mod K mg (hidT s₁.heap H) := ⟨hKb, nsK hns, ⟨mb, nsK hb, hbb⟩, let ⟨mc, h1, h2⟩ := hlim; ⟨mc, nsK h1, h2⟩⟩
    have e0 : Env0 P w K mg (hidT s₁.heap H) callerA [] s₁ H := ⟨rfl, hM, fun b o e => of_hidT e, Nat.le_of_eq (hidT_size _ _), trivial, fun b hb => absurd (show b ∈ ([] : List Addr) from hb) (by simp), hok, .of_eq hg⟩
    refine codeAny_mono ((F _ hKb (nsK hns)).run callerA [] s₁ H ⟨[.ref a], []⟩ [.ref a] [.ref a] _ _ hr e0 (hbind s₁ (.ref a)) (.cons rfl .nil) (hsp H hO hS)) fun r s' h => ?_
    cases r with
    | error e => exact (hCX H e s' h).elim
    | ok fl =>
      cases fl with
      | next => exact False.elim h
      | brk => exact False.elim h
      | cont => exact False.elim h
      | ret u =>
        obtain ⟨v, H', os, bare, un, hok', r', q⟩ := h
        have q' : v = .bl true := q
        subst q'
        obtain rfl : u = Value.bool true := r'
        refine ⟨rfl, OldK.of_keep fun b o e => ?_, os, bare⟩
        cases q : H b with
        | none => exact un.keep b o e q (by intro z; exact absurd (show b ∈ ([] : List Addr) from z) (by simp)) (by simp)
        | some u =>
          rcases hO b with z | ⟨ob, xs, z⟩
          · rw [q] at z; cases z
          · have z2 := un.frzs b ob _ z
            obtain ⟨e1, _⟩ := hok b _ z
            obtain ⟨e2, _⟩ := hok' b _ z2
            rw [e] at e1; cases e1
            exact e2
  cases hk : K.lookup a with
  | some o =>
    -- the script is one of the module's own objects
    have e := KX a o hk
    rw [ha] at e
    cases e
    refine core (fun _ => none) (fun _ => .inl rfl) (.inr ⟨_, vs.toArray, _, hk, rfl, rfl, rfl, by rw [List.size_toArray, lenV]; exact hl, by simpa using rv⟩) (fun b u z => by have z' : (none : Option HO) = some u := z; cases z') (fun b z => absurd rfl z) fun z => absurd rfl z
  | none =>
    refine core (fun b => if b = a then some (.frz { cls := .type "list", data := .seq vs.toArray } (.lst (ns.map V.int))) else none) (fun b => ?_) (.inl (.inr ⟨{ cls := .type "list", data := .seq vs.toArray }, if_pos rfl⟩)) (fun b u z => ?_) (fun b z => ?_) fun _ => hk
    · by_cases hb : b = a
      · exact .inr ⟨_, _, if_pos hb⟩
      · exact .inl (if_neg hb)
    · by_cases hb : b = a
      · have z' := (if_pos hb).symm.trans z
        cases z'
        subst hb
        exact ⟨ha, by rw [List.length_map]; exact hl, vs, _, rv, ha⟩
      · have z' := (if_neg hb).symm.trans z
        cases z'
    · by_cases hb : b = a
      · exact hb
      · exact absurd (if_neg hb) z
end L2

namespace L2
open PySem PySem.Spec PyProof.Rows

theorem walk_of {l : PySem.W.OpenLaw} {n k : Nat} {q : Program} {loose : List Str} {XP : (Str → Option Value) → Heap → Prop} {YP : World → Heap → Prop} {d : DefRec} {K : Params → PySem.W.Frag} {CX : World → CXT} {sp : World → Sp} {x : Str}
    (hn : l.most = some n) (hn2 : n ≤ sizeLine) (hdf : d.params.defaults = []) (hr : Room k callerA)
    (hY : ∀ (w : World) (h : Heap), YP w h → (K w.params).In h)
    (F : ∀ (w : World) (mg : Str → Option Value) (fa : Addr) (h : Heap), (K w.params).In h → h.Ns mainGlobals mg → mg d.name = some (.ref fa) →
      ∃ fd : FuncData, (∀ (s : Shared) (u : Value), BindsTo s fd ⟨[u], []⟩ [(x, u)]) ∧
        ∀ base : Heap, (K w.params).In base → base.Ns mainGlobals mg → FnOk l.prog w (K w.params) mg base (CX w) k fa fd [x] (sp w))
    (hsp : ∀ (w : World) (H : Hp) (a : Addr) (ns : List Int), ns.length ≤ n → Only H → SqL (K w.params) H a (ns.map V.int) → sp w [.ref a] H (fun v _ => v = .bl true) fun _ _ _ => False)
    (hCX : ∀ (w : World) (H : Hp) (s : Shared) (e : Value) (s' : Shared), CX w [] H s (fun _ _ _ => False) e s' → False) :
    PySem.W.WalkO q loose XP YP l.row.toRowW d [] (fun f vs => PySem.call f vs) := by
  refine Att.attach_call hn hdf fun w s₀ s₁ mg mb fa o pm cd doc a vs ns G Y ho hd hcd hmg hobj hints hlen hg => ?_
  have KX := hY w _ Y
  obtain ⟨fd, hb, hF⟩ := F w mg fa _ KX G.T.g hmg
  exact law_call KX G.T.g G.T.b G.T.builtins G.T.nolimit hg hobj hints (Nat.le_trans hlen hn2) hr hF hb (fun H hO hS => hsp w H a ns hlen hO hS) fun H e s' => hCX w H s₁ e s'
end L2


namespace L2
open PySem PySem.Spec PyProof.Rows

def defArgs (s : Stmt) : Arguments := match s with
  | .FunctionDef _ a _ _ _ _ _ _ _ _ => a
  | _ => { posonlyargs := [], args := [], vararg := none, kwonlyargs := [], kw_defaults := [], kwarg := none, defaults := [] }
def defBody (s : Stmt) : List Stmt := match s with
  | .FunctionDef _ _ b _ _ _ _ _ _ _ => b
  | _ => []
def defScope (s : Stmt) : Scope := match s with
  | .FunctionDef _ _ _ _ _ _ sc _ _ _ => sc
  | _ => { kind := .function, names := [], isGenerator := false, isCoroutine := false }

abbrev CX0 : CXT := fun _ _ _ _ _ _ => False
abbrev E0 : XK := fun _ _ _ => False
theorem pass0 {X : Cx} : Passes CX0 X E0 := fun _ _ _ _ _ _ _ h => h.elim

structure Fun (K : PySem.W.Frag) (x qual : Str) (st : Stmt) (f : Addr) (fd : FuncData) : Prop where
  ex : ∃ (oc : Value) (od : Option Addr) (kV doc pm : Value) (an : Option Addr) (cdv ct : Value) (osl : Array (Option Value)),
    fd = PySem.W.fnOf x qual (defArgs st) (defBody st) (defScope st) .none kV doc pm an cdv ct ∧ K.lookup f = some ⟨oc, od, .func fd, osl⟩ ∧ PySem.W.codeIn K cdv qual = true
  kp : PySem.W.keepIn K (.ref f) = true
section
variable {P : Program} {w : World} {K : PySem.W.Frag} {mg : Str → Option Value} {base : Heap}
theorem Fun.ok {x qual : Str} {st : Stmt} {f : Addr} {fd : FuncData} {N ps : List Str} {k : Nat} {sp : Sp} (F : Fun K x qual st f fd) (S : FnScope N ps (defScope st)) (len : ∀ vs H Q E, sp vs H Q E → vs.length = ps.length)
    (hbody : ∀ (cdv : Value) (A : Around) (outer : List Env) (s : Shared) (H : Hp) (vs : List V) (Q : VK) (E : XK), Room k (A.deeper (envOfC qual (defScope st) s.heap.objs.size f cdv)) → sp vs H Q E →
      ∃ t, PSs (cxOf CX0 P w K mg base N qual (defScope st) f cdv A outer s H E).nox (defBody st) t ∧ t { nx := fun _ H' => Q .non H', rt := Q } (start N vs) H) : FnOk P w K mg base CX0 (k + 1) f fd ps sp := by
  obtain ⟨oc, od, kV, doc, pm, an, cdv, ct, osl, rfl, lk, hcd⟩ := F.ex
  refine fn_of lk hcd S len fun A outer s H vs Q E hr hsp => ?_
  obtain ⟨t, h, q⟩ := hbody cdv A outer s H vs Q E hr hsp
  exact ⟨t, h.nox, q⟩
theorem Fun.binds {x qual : Str} {st : Stmt} {f : Addr} {fd : FuncData} {ps : List Str} (F : Fun K x qual st f fd)
    (h : ∀ (kV doc pm : Value) (an : Option Addr) (cdv ct : Value) (us : List Value), us.length = ps.length → bindArgs (PySem.W.fnOf x qual (defArgs st) (defBody st) (defScope st) .none kV doc pm an cdv ct) ⟨us, []⟩ = pure (ps.zip us)) : Binds K fd ps [] := by
  obtain ⟨oc, od, kV, doc, pm, an, cdv, ct, osl, rfl, lk, hcd⟩ := F.ex
  exact .all (h kV doc pm an cdv ct)
theorem fun_mk {x qual : Str} {st : Stmt} {f : Addr} {oc : Value} {od an : Option Addr} {osl : Array (Option Value)} {kV doc pm cdv ct : Value} (l : K.lookup f = some ⟨oc, od, .func (PySem.W.fnOf x qual (defArgs st) (defBody st) (defScope st) .none kV doc pm an cdv ct), osl⟩)
    (c : PySem.W.codeIn K cdv qual = true) (k : PySem.W.keepIn K (.ref f) = true) : Fun K x qual st f (PySem.W.fnOf x qual (defArgs st) (defBody st) (defScope st) .none kV doc pm an cdv ct) := ⟨⟨oc, od, kV, doc, pm, an, cdv, ct, osl, rfl, l, c⟩, k⟩
end
theorem hu_of {A : Around} {k : Nat} (hr : Room k A) : A.units + 1 < cLine := Nat.lt_of_le_of_lt (Nat.add_le_add_left (by decide : 1 ≤ 64) _) hr.units
theorem small1000 {n : Nat} (h : n ≤ 1000) : n < sizeLine := Nat.lt_of_le_of_lt h (by decide)

section
variable {X : Cx}
theorem pv (i : Nat) {x : Str} {pos : Pos} (hN : X.N[i]? = some x := by rfl) (hv : Vis X.env.scope x := by first | exact Or.inl rfl | exact Or.inr (Or.inl rfl) | exact Or.inr (Or.inr rfl)) (hd : (x == ("__debug__" : Str)) = false := by decide)
    (hcd : (x == ("__classdict__" : Str)) = false := by decide) : PE X (.Name x pos) (tVar i) := pe_var hN hv hd hcd
end

theorem iteF {A B : Prop} (h : B) : if false = true then A else B := by
  rw [if_neg Bool.false_ne_true]
  exact h
theorem iteT {A B : Prop} (h : A) : if true = true then A else B := by
  rw [if_pos rfl]
  exact h
theorem ite2 {c A B : Prop} [Decidable c] (h1 : c → A) (h2 : ¬ c → B) : if c then A else B := by
  by_cases h : c
  · rw [if_pos h]
    exact h1 h
  · rw [if_neg h]
    exact h2 h
def Same (H H' : Hp) : Prop := ∀ b o, H b = some o → H' b = some o
theorem Same.refl (H : Hp) : Same H H := fun _ _ h => h
theorem Same.trans {H H1 H2 : Hp} (a : Same H H1) (b : Same H1 H2) : Same H H2 := fun c o h => b c o (a c o h)
theorem Same.seq {K : PySem.W.Frag} {H H' : Hp} {a : Addr} {xs : List V} (e : Same H H') (h : SqL K H a xs) : SqL K H' a xs := by
  rcases h with (h | ⟨o, h⟩) | h
  · exact .inl (.inl (e _ _ h))
  · exact .inl (.inr ⟨o, e _ _ h⟩)
  · exact .inr h

section
variable {κ : Type} [DecidableEq κ]
end
end L2


namespace L2
open PySem PySem.Spec PyProof.Rows
section
variable {prog : Program} {w : World} {A : Around} {R : Result → Shared → Prop}
theorem lc_loop {elt tg iter : Expr} {ifs : List Expr} {scope : Scope} {pos : Pos} {itv accv : Value} {ce : Env} (J : Nat → Shared → Prop)
    (step : ∀ k t, J k t → wpAny (model prog w) A (pyNext itv) (fun r t1 => match r with
      | none => R (.ok .next) t1
      | some v => wpAny (model prog w) A (letOwnedTupleGo tg itv v) (fun _ t2 => wpAny (model prog w) A (assign tg ce v) (fun _ t3 =>
          wpAny (model prog w) A (forIn ifs true fun c r => if r = true then do let ok ← isTrue c ce (eval c ce); pure (ForInStep.yield ok) else pure (ForInStep.yield r)) (fun ok t4 =>
            if ok = true then wpAny (model prog w) A (eval elt ce) (fun x t5 =>
              wpAny (model prog w) A (call (.builtin "list.append") [accv, x]) (fun _ t6 => ∃ j, j < k ∧ J j t6) (fun _ _ => False) t5) (fun _ _ => False) t4
            else ∃ j, j < k ∧ J j t4) (fun _ _ => False) t3) (fun _ _ => False) t2) (fun _ _ => False) t1) (fun _ _ => False) t)
    (n : Nat) {s : Shared} (h : J n s) :
    codeAny (model prog w) A (.compLoop (.ListComp elt [⟨tg, iter, ifs, 0⟩] scope pos) 0 itv accv ce) R s := by
  refine codeAny_loop rfl J (fun k t hJ => ?_) n h
  show wpAny _ A ((compTurn (.ListComp elt [⟨tg, iter, ifs, 0⟩] scope pos) 0 itv accv ce).onRaise (fun x => do noteFrame x ce; theTreesLotGoes x)) _ _ t
  refine wpAny_noted ?_
  rw [compTurn_list]
  refine wpAny_bind (wpAny_standAt (wpAny_bind (wpAny_mono (step k t hJ) (fun r t1 h1 => ?_) fun _ _ z => z.elim)))
  cases r with
  | none => exact wpAny_pure h1
  | some v =>
    refine wpAny_bind (wpAny_mono h1 (fun _ t2 h2 => ?_) fun _ _ z => z.elim)
    refine wpAny_bind (wpAny_mono h2 (fun _ t3 h3 => wpAny_bind (wpAny_mono h3 (fun ok t4 h4 => ?_) fun _ _ z => z.elim)) fun _ _ z => z.elim)
    cases ok with
    | false => exact wpAny_pure ⟨rfl, h4⟩
    | true =>
      exact wpAny_bind (wpAny_bind (wpAny_mono h4 (fun x t5 h5 => wpAny_bind (wpAny_mono h5 (fun _ t6 h6 => wpAny_pure (wpAny_pure ⟨rfl, h6⟩)) fun _ _ z => z.elim)) fun _ _ z => z.elim))
end

def cxLc (X : Cx) (N : List Str) (scope : Scope) (cl : List (Str × Addr)) (C : Addr) (s : Shared) (H : Hp) (fp : List Addr) : Cx where
  prog := X.prog
  w := X.w
  K := X.K
  mg := X.mg
  base := X.base
  A := X.A
  N := N
  s₀ := s
  H₀ := H
  env := compEnvC scope cl C X.env
  outer := X.stack
  stack := X.stack
  ex := fp
  fn := fun _ => false
  calm := X.calm
  pn := []
  xe := fun _ _ => False

def CapsIn (env : Env) : List (Str × Addr) → Prop
  | [] => True
  | p :: r => (env.kindOf p.1 = some .cell ∧ env.cells.lookup p.1 = some p.2) ∧ CapsIn env r
theorem CapsIn.get {env : Env} : ∀ {cl : List (Str × Addr)}, CapsIn env cl → ∀ x c, cl.lookup x = some c → env.kindOf x = some .cell ∧ env.cells.lookup x = some c
  | [], _, _, _, e => by simp at e
  | (n, a) :: r, h, x, c, e => by
    by_cases hx : x = n
    · subst hx
      simp only [List.lookup_cons, beq_self_eq_true] at e
      cases e
      exact h.1
    · have hb : (x == n) = false := by simpa using hx
      simp only [List.lookup_cons, hb] at e
      exact CapsIn.get h.2 x c e
structure LcOk (X : Cx) (N : List Str) (src : List (Option Nat)) (scope : Scope) (cl : List (Str × Addr)) : Prop where
  clos : closureFor scope X.env = pure cl
  kind : scope.kind = .function
  nocell : scope.names.all (fun y => !(y.2 == .cell)) = true
  names : scope.names.all (fun y => !(y.2 == .local) || scope.names.lookup y.1 == some .local) = true
  caps : CapsIn X.env cl
  has : (relabel scope X.env).names.all (fun y => !(y.2 == .cell || y.2 == .free) || (cl.lookup y.1).isSome) = true
  len : N.length = src.length
  srcs : (N.zip src).all (fun p => match p.2 with | none => true | some i => X.N[i]? == some p.1 && !((relabel scope X.env).names.lookup p.1 == some .local)) = true
def capS (src : List (Option Nat)) (σ : St) : St := src.map fun o => match o with | none => none | some i => (σ[i]?).join
def GOwn (g : TG) (src : List (Option Nat)) : Prop :=
  ∀ x σ H Q, g x σ H Q → g x σ H fun σ2 H2 => Q σ2 H2 ∧ σ2.length = σ.length ∧ ∀ k : Nat, src[k]? ≠ some none → σ2[k]? = σ[k]?
theorem gown_name {i : Nat} {src : List (Option Nat)} (h : src[i]? = some none) : GOwn (gName i) src := fun x σ H Q q =>
  ⟨q, by simp, fun k hk => by
    have : i ≠ k := fun e => hk (by rw [← e]; exact h)
    rw [List.getElem?_set_ne this]⟩
theorem gown_pair {K : PySem.W.Frag} {i j n : Nat} {src : List (Option Nat)} (h : src[i]? = some none) (h' : src[j]? = some none) : GOwn (gTup K n (gCons (gName i) (gCons (gName j) gNil))) src := by
  intro x σ H Q q
  obtain ⟨a, xs, e1, e2, e3, v, r, e4, v2, r2, e5, e6, q⟩ := q
  refine ⟨a, xs, e1, e2, e3, v, r, e4, v2, r2, e5, e6, q, by simp, fun k hk => ?_⟩
  have n1 : i ≠ k := fun e => hk (by rw [← e]; exact h)
  have n2 : j ≠ k := fun e => hk (by rw [← e]; exact h')
  rw [List.getElem?_set_ne n2, List.getElem?_set_ne n1]
theorem capS_len (src : List (Option Nat)) (σ : St) : (capS src σ).length = src.length := by simp [capS]
theorem capS_get {src : List (Option Nat)} {σ : St} {k : Nat} {v : V} (h : (capS src σ)[k]? = some (some v)) : ∃ i, src[k]? = some (some i) ∧ σ[i]? = some (some v) := by
  unfold capS at h
  rw [List.getElem?_map] at h
  cases e : src[k]? with
  | none => rw [e] at h; cases h
  | some o =>
    rw [e] at h
    cases o with
    | none => cases h
    | some i =>
      refine ⟨i, rfl, ?_⟩
      have h : some ((σ[i]?).join) = some (some v) := h
      have h := Option.some.inj h
      cases q : σ[i]? with
      | none => rw [q] at h; cases h
      | some z => rw [q] at h; have h : z = some v := h; rw [h]
def PIfs (X : Cx) (ifs : List Expr) (t : TT) : Prop :=
  ∀ (pins : List (Addr × Obj)) (s : Shared) (σ : St) (H : Hp) (Q : Bool → Hp → Prop), Inv X pins σ H s → t σ H Q →
    wpAny (model X.prog X.w) X.A (forIn ifs true fun c r => if r = true then do let ok ← isTrue c X.env (eval c X.env); pure (ForInStep.yield ok) else pure (ForInStep.yield r)) (TP X pins σ Q) X.xe s
def tYes : TT := fun _ H Q => Q true H
theorem pifs_nil {X : Cx} : PIfs X [] tYes := fun _ _ _ H _ I h => wpAny_tests_nil ⟨H, I, h⟩
theorem pifs_one {X : Cx} {c : Expr} {t : TT} (h : PT X c t) : PIfs X [c] t := fun pins s σ H Q I q => wpAny_tests_one (h pins s σ H Q I q)
def tLc (wi : TI) (src : List (Option Nat)) (g : TG) (tc : TT) (te : TE) : TE := fun σ H Q => wi σ H fun J H1 =>
  ∃ W : Nat → Nat → List V → Hp → Prop, (∃ m, W 0 m [] H1) ∧ ∀ i m ys H, W i m ys H →
    (J.stop i H ∧ ys.length ≤ sizeLine ∧ ∀ p, H p = none → Q (.ref p) (upd H p (.lst ys))) ∨
    (J.go i H ∧ ys.length ≤ sizeLine ∧ ∀ x H', J.yld i H x H' → g x (capS src σ) H' fun σ2 H2 => tc σ2 H2 fun b H3 =>
      if b = true then te σ2 H3 fun y H4 => ∃ m', m' < m ∧ W (i + 1) m' (ys ++ [y]) H4 else ∃ m', m' < m ∧ W (i + 1) m' ys H3)

section
variable {X : Cx} {N : List Str} {src : List (Option Nat)} {scope : Scope} {cl : List (Str × Addr)} {pins : List (Addr × Obj)} {σ : St} {H : Hp} {s : Shared}
theorem LcOk.cellAt (ok : LcOk X N src scope cl) : ∀ x, ((relabel scope X.env).names.lookup x = some .cell ∨ (relabel scope X.env).names.lookup x = some .free) → ∃ c, cl.lookup x = some c := by
  intro x hx
  have key : ∀ k : NameKind, (k == .cell || k == .free) = true → (relabel scope X.env).names.lookup x = some k → ∃ c, cl.lookup x = some c := by
    intro k hk e
    have m := PySem.mem_of_lookup e
    have q := List.all_eq_true.mp ok.has _ m
    rw [hk] at q
    simp only [Bool.not_true, Bool.false_or] at q
    exact Option.isSome_iff_exists.mp q
  rcases hx with e | e
  · exact key _ rfl e
  · exact key _ rfl e
theorem LcOk.enter (ok : LcOk X N src scope cl) (I : Inv X pins σ H s) {fp : List Addr} (hfp : ∀ b ∈ fp, FpOk X pins H b) (hlt : ∀ b ∈ fp, b < s.heap.objs.size) {C : Addr} (hC : s.heap.objs.size ≤ C)
    {t : Shared} {m : Str → Option Value} (ho : t.os = s.os) (hg : t.gens = s.gens) (hk : ∀ b o, s.heap.get? b = some o → t.heap.get? b = some o) (hn : t.heap.Ns C m)
    {pl : List (Addr × Obj)} (hpl : ∀ p ∈ pl, t.heap.get? p.1 = some p.2 ∧ H p.1 = none ∧ p.1 ≠ C ∧ p.1 ∉ frs X.stack ∧ ∀ v, p.2.data ≠ .cell v) :
    Inv (cxLc X N scope cl C s H fp) pl (capS src σ) H t := by
  have cg := ok.caps.get
  have okX : (cxLc X N scope cl C s H fp).Ok := by
    refine ⟨I.ok.mod, ok.kind, I.ok.glob, I.ok.blt, hC, fun x y c h1 h2 => ?_, fun x hx => ok.cellAt x hx, (fun x c z _ => nomatch z), I.ok.hd, I.ok.frames, .inl rfl, fun b hb => ?_, I.bs, Nat.le_trans I.ok.bsz I.sz, fun b o e hb => ?_, fun b hb z => ?_, I.stack, I.stkFree⟩
    · exact I.ok.inj x y c (cg x c h1).2 (cg y c h2).2
    · refine ⟨fun e => ?_, fun x c e => ?_⟩
      · have e : b = C := e
        have := hlt b hb
        rw [e] at this
        exact absurd (Nat.lt_of_lt_of_le this hC) (Nat.lt_irrefl _)
      · exact (hfp b hb).2.2.2.2.1 x c (cg x c e).2
    · rcases (hfp b hb).2.2.2.1 with z | z
      · exact I.ok.noex b o e z
      · exact absurd (Nat.lt_of_lt_of_le (Heap.lt_size e) (Nat.le_trans I.ok.bsz z)) (Nat.lt_irrefl _)
    · rcases List.mem_cons.mp (I.stkSub b z) with e | e
      · exact (hfp b hb).2.1 e
      · exact (hfp b hb).2.2.1 e
  obtain ⟨mX, hnX, hlX⟩ := I.loc
  refine ⟨okX, ho, by rw [hg]; exact I.bare, Un.kept hk, ⟨m, hn, fun j x v e1 e2 e3 => ?_⟩, fun x c e => ?_, I.hok.fresh hC, fun x c e => I.freeC x c (cg x c e).2, fun p hp => hpl p hp, I.hok.kept hk, ?_⟩
  · obtain ⟨i, e4, e5⟩ := capS_get e2
    have hz : (N.zip src)[j]? = some (x, some i) := by
      rw [List.getElem?_zip_eq_some]
      exact ⟨e1, e4⟩
    have q := List.all_eq_true.mp ok.srcs _ (List.mem_of_getElem? hz)
    have q : (X.N[i]? == some x && !((relabel scope X.env).names.lookup x == some .local)) = true := q
    rw [Bool.and_eq_true] at q
    have q1 : X.N[i]? = some x := by simpa using q.1
    have q2 : ¬ (relabel scope X.env).names.lookup x = some .local := by
      intro z
      rw [z] at q
      exact absurd q.2 (by decide)
    have e3 : (relabel scope X.env).names.lookup x = some .local ∨ (relabel scope X.env).names.lookup x = some .cell ∨ (relabel scope X.env).names.lookup x = some .free := e3
    have e6 : (relabel scope X.env).names.lookup x = some .cell ∨ (relabel scope X.env).names.lookup x = some .free := e3.resolve_left q2
    obtain ⟨c, hc⟩ := ok.cellAt x e6
    obtain ⟨k1, k2⟩ := cg x c hc
    obtain ⟨u, r, l⟩ := hlX i x v q1 e5 (.inr (.inl k1))
    refine ⟨u, r, .inr ⟨e6, c, hc, ?_⟩⟩
    rcases l with ⟨z, _⟩ | ⟨_, c', z1, z2⟩
    · rw [k1] at z; cases z
    · rw [k2] at z1
      cases z1
      obtain ⟨o, ho', hd⟩ := z2
      exact ⟨o, hk _ o ho', hd⟩
  · obtain ⟨v, o, ho', hd⟩ := I.cell x c (cg x c e).2
    exact ⟨v, o, hk _ o ho', hd⟩
  · rw [capS_len]
    exact ok.len.symm
theorem lc_leave (I : Inv X pins σ H s) {fp : List Addr} (hfp : ∀ b ∈ fp, FpOk X pins H b) {C D : Addr} (hD : s.heap.objs.size ≤ D) (hC : s.heap.objs.size ≤ C)
    {σ' : St} {H' : Hp} {t : Shared} {pl : List (Addr × Obj)} (J : Inv (cxLc X N scope cl C s H fp) pl σ' H' t) {ys : List V} {its : List Value} {n : Nat} (hy : ys.length ≤ sizeLine) (rv : Vals ys its)
    (hd : t.heap.get? D = some { cls := .type "list", data := .seq its.toArray n }) (hn : H' D = none) (hDC : D ≠ C) {h' : Heap} (hs : Heap.SameBut C t.heap h') : Inv X pins σ (upd H' D (.lst ys)) { t with heap := h' } := by
  have neC : ∀ b o, s.heap.get? b = some o → b ≠ C := fun b o e => Nat.ne_of_lt (Nat.lt_of_lt_of_le (Heap.lt_size e) hC)
  have neD : ∀ b o, s.heap.get? b = some o → b ≠ D := fun b o e => Nat.ne_of_lt (Nat.lt_of_lt_of_le (Heap.lt_size e) hD)
  have B : Un (frs X.stack) fp H H' s.heap t.heap := J.base
  have fC : H' C = none := J.free
  refine I.call' (s' := { t with heap := h' }) (ch := fp) J.os ?_ ?_ J.bare fun b hb => ⟨(hfp b hb).2.2.2.1, (hfp b hb).2.1, (hfp b hb).2.2.2.2.1, (hfp b hb).2.2.2.2.2⟩
  · refine ⟨fun b o e q hb hx => (hs.2 b (neC b o e)).trans (B.keep b o e q hb hx), fun b o e q hb hx => ?_, fun b o e q hx => ?_, fun b o e hx => ?_, fun b xs e => ?_, fun b o u e => ?_, fun b ps e => ?_⟩
    · obtain ⟨sl, z⟩ := B.slot b o e q hb hx
      exact ⟨sl, (hs.2 b (neC b o e)).trans z⟩
    · rw [upd_ne (neD b o e)]
      exact B.free b o e q hx
    · obtain ⟨o', z⟩ := B.there b o e hx
      exact ⟨o', (hs.2 b (neC b o e)).trans z⟩
    · have z := B.tups b xs e
      rw [upd_ne (ne_of_none z hn)]
      exact z
    · have z := B.frzs b o u e
      rw [upd_ne (ne_of_none z hn)]
      exact z
    · obtain ⟨more, z⟩ := B.tbls b ps e
      exact ⟨more, by rw [upd_ne (ne_of_none z hn)]; exact z⟩
  · intro b u e
    by_cases hb : b = D
    · subst hb
      rw [upd_same] at e
      cases e
      exact ⟨hy, its, n, rv, (hs.2 b hDC).trans hd⟩
    · rw [upd_ne hb] at e
      refine (J.hok b u e).stay (fun c v hc q => (hs.2 c ?_).trans q) (fun c q => ?_) fun c xs q => ?_
      · rintro rfl
        rcases hc with z | z
        · rw [← z, fC] at e; cases e
        · rw [fC] at z; cases z
      · rw [upd_ne (ne_of_none q hn)]; exact q
      · rw [upd_ne (ne_of_none q hn)]; exact q

theorem lc_block {elt tg iter : Expr} {ifs : List Expr} {pos : Pos} {te : TE} {tc : TT} {g : TG} {it : Addr} {fp : List Addr} {tn : Nat → Heap → Prop} {J : It} {E : Value → Shared → Prop} {RR : Value → Addr → Result → Shared → Prop} {Qr : List V → Hp → Prop}
    (hc : X.calm = true) (ok : LcOk X N src scope cl) (hgo : GOwn g src)
    (hb : ∀ C, PG (cxLc X N scope cl C s H fp) tg g ∧ PIfs (cxLc X N scope cl C s H fp) ifs tc ∧ PE (cxLc X N scope cl C s H fp) elt te)
    (I : Inv X pins σ H s) (T : Turn X.prog X.w X.K tg J fp it tn) (st : tn 0 s.heap) (hfp : ∀ b ∈ fp, FpOk X pins H b)
    (W : Nat → Nat → List V → Hp → Prop) (w0 : ∃ m, W 0 m [] H)
    (turn : ∀ i m ys H, W i m ys H → (J.stop i H ∧ ys.length ≤ sizeLine ∧ Qr ys H) ∨ (J.go i H ∧ ys.length ≤ sizeLine ∧ ∀ x H', J.yld i H x H' → g x (capS src σ) H' fun σ2 H2 => tc σ2 H2 fun b H3 =>
      if b = true then te σ2 H3 fun y H4 => ∃ m', m' < m ∧ W (i + 1) m' (ys ++ [y]) H4 else ∃ m', m' < m ∧ W (i + 1) m' ys H3))
    (fin : ∀ D C t ys H', s.heap.objs.size ≤ D → s.heap.objs.size ≤ C → D ≠ C → H' D = none → H' C = none → (∃ m, t.heap.Ns C m) → Qr ys H' → (∀ h', Heap.SameBut C t.heap h' → Inv X pins σ (upd H' D (.lst ys)) { t with heap := h' }) →
      RR (.ref D) C (.ok .next) t) :
    wpAny (model X.prog X.w) X.A (newList []) (fun acc s₃ => wpAny (model X.prog X.w) X.A (newFunctionEnv scope X.env.globals cl [] X.env.qual none .none (some X.env)) (fun cenv s₄ =>
      codeAny (model X.prog X.w) X.A (.compStart (.ListComp elt [⟨tg, iter, ifs, 0⟩] scope pos) 0 (.ref it) acc { cenv with scope := relabel scope X.env }) (RR acc cenv.locals) s₄) E s₃) E s := by
  have noc : ∀ y ∈ scope.names, y.2 ≠ .cell := fun y hy z => by
    have q := List.all_eq_true.mp ok.nocell y hy
    rw [z] at q
    exact absurd q (by decide)
  obtain ⟨m0, w0⟩ := w0
  refine wpAny_newList (wpAny_newFunctionEnv noc (by intro y hy; simp at hy) (fun h1 hns hsb => ?_) ok.kind) (by show 0 ≤ sizeLine; exact Nat.zero_le _)
  dsimp only at hns hsb ⊢
  generalize hp1 : s.heap.push { cls := .type "list", data := .seq ([] : List Value).toArray } = hD at hns hsb ⊢
  have eC : hD.objs.size = s.heap.objs.size + 1 := by rw [← hp1, Heap.size_push]
  have nDC : s.heap.objs.size ≠ hD.objs.size := by rw [eC]; exact Nat.ne_of_lt (Nat.lt_succ_self _)
  have leC : s.heap.objs.size ≤ hD.objs.size := by rw [eC]; exact Nat.le_succ _
  have kept : ∀ b o, s.heap.get? b = some o → h1.get? b = some o := fun b o e =>
    hsb.extBut b o (Nat.ne_of_lt (Nat.lt_of_lt_of_le (Heap.lt_size e) leC)) (Heap.get?_push_of_some _ (hp1 ▸ Heap.get?_push_of_some _ e))
  have atD : h1.get? s.heap.objs.size = some { cls := .type "list", data := .seq ([] : List Value).toArray } := hsb.extBut _ _ nDC (Heap.get?_push_of_some _ (hp1 ▸ Heap.get?_push_size _ rfl))
  have ltf : ∀ b ∈ fp, b < s.heap.objs.size := fun b hb => by
    obtain ⟨o, e, _⟩ := T.obj 0 _ st b hb
    exact Heap.lt_size e
  have nstk : s.heap.objs.size ∉ frs X.stack := fun z => by
    rcases List.mem_cons.mp (I.stkSub _ z) with e | e
    · exact absurd (Nat.lt_of_lt_of_le I.lt (Nat.le_of_eq e)) (Nat.lt_irrefl _)
    · exact I.nofs (Nat.le_refl _) e
  have ncl : ∀ x c, cl.lookup x = some c → c ≠ s.heap.objs.size := fun x c e z => by
    obtain ⟨v, q⟩ := I.cell x c (ok.caps.get x c e).2
    exact absurd q.lt (by rw [z]; exact Nat.lt_irrefl _)
  -- what stays true of the iterator's records
  have stat : ∀ {H' : Hp} {its : List Value} {k : Nat}, (∀ b ∈ fp, H' b = none) → ∀ b ∈ fp, FpOk (cxLc X N scope cl hD.objs.size s H fp) [(s.heap.objs.size, { cls := .type "list", data := .seq its.toArray k })] H' b := fun fr b hb => by
    refine ⟨fr b hb, fun z => ?_, fun z => ?_, .inl hb, fun x c e => (hfp b hb).2.2.2.2.1 x c (ok.caps.get x c e).2, fun p hp z => ?_⟩
    · have z : b = hD.objs.size := z
      exact absurd (Nat.lt_of_lt_of_le (ltf b hb) (by rw [z]; exact leC)) (Nat.lt_irrefl _)
    · rcases List.mem_cons.mp (I.stkSub b z) with e | e
      · exact (hfp b hb).2.1 e
      · exact (hfp b hb).2.2.1 e
    · have hp : p ∈ ([] : List (Addr × Obj)) ++ [(s.heap.objs.size, { cls := .type "list", data := .seq _ _ })] := hp
      rw [List.nil_append, List.mem_singleton] at hp
      rw [hp] at z
      exact absurd (ltf b hb) (by rw [← z]; exact Nat.lt_irrefl _)
  have loop : ∀ t : Shared, t = { s with heap := h1, toks := s.toks + ([] : List (Str × Value)).length } →
      codeAny (model X.prog X.w) X.A (.compLoop (.ListComp elt [⟨tg, iter, ifs, 0⟩] scope pos) 0 (.ref it) (.ref s.heap.objs.size) (compEnvC scope cl hD.objs.size X.env)) (RR (.ref s.heap.objs.size) hD.objs.size) t := by
    rintro t rfl
    refine lc_loop (fun n t => ∃ i ys its k H', Inv (cxLc X N scope cl hD.objs.size s H fp) [(s.heap.objs.size, { cls := .type "list", data := .seq its.toArray k })] (capS src σ) H' t ∧ Vals ys its ∧ tn i t.heap ∧ (∀ b ∈ fp, H' b = none) ∧ W i n ys H') ?_ m0
      ⟨0, [], [], 0, H, ok.enter (t := { s with heap := h1, toks := s.toks + ([] : List (Str × Value)).length }) I hfp ltf leC rfl rfl kept hns ?_, .nil, T.keep 0 _ _ st fun b _ o e => kept b o e, fun b hb => (hfp b hb).1, w0⟩
    · rintro n t ⟨i, ys, its, k, H', Iy, rv, stt, fr, wv⟩
      rcases turn i n ys H' wv with ⟨stop, hy, q⟩ | ⟨go, hy, body⟩
      · refine wpAny_mono (T.done (cxLc X N scope cl hD.objs.size s H fp) rfl rfl rfl hc i _ t _ H' (fun _ _ => False) Iy (stat fr) stt stop) (fun r t1 hr => ?_) fun _ _ z => z
        obtain ⟨hr, I1⟩ := hr
        subst hr
        have p := I1.pin (s.heap.objs.size, _) (List.mem_append_right _ List.mem_cons_self)
        obtain ⟨m, hnC, _⟩ := id I1.loc
        exact fin _ _ t1 ys H' (Nat.le_refl _) leC nDC p.2.1 I1.free ⟨m, hnC⟩ q fun h' hs => lc_leave I hfp (Nat.le_refl _) leC I1 hy rv p.1 p.2.1 nDC hs
      · refine wpAny_mono (T.item (cxLc X N scope cl hD.objs.size s H fp) rfl rfl rfl hc i _ t _ H' (fun _ _ => False) Iy (stat fr) stt go) (fun r t1 hr => ?_) fun _ _ z => z
        obtain ⟨u, hr, h4⟩ := hr
        subst hr
        refine wpAny_mono h4 (fun _ t2 h5 => ?_) fun _ _ z => z
        obtain ⟨x, H5, I5, r5, y5, st5, fr5⟩ := h5
        have I5' := I5.pinned (stat fr5) (T.obj _ _ st5)
        obtain ⟨pg, pi, pe⟩ := hb hD.objs.size
        refine wpAny_mono (pg _ t2 _ H5 x u _ I5' r5 (hgo _ _ _ _ (body x H5 y5))) (fun _ t3 h6 => ?_) fun _ _ z => z
        obtain ⟨σ6, H6, I6, q6, len6, keep6⟩ := h6
        refine wpAny_mono (pi _ t3 σ6 H6 _ I6 q6) (fun b t4 h7 => ?_) fun _ _ z => z
        obtain ⟨H7, I7, q7⟩ := h7
        have wk : ∀ {pl : List (Addr × Obj)} {Hz : Hp} {tz : Shared}, Inv (cxLc X N scope cl hD.objs.size s H fp) pl σ6 Hz tz → Inv (cxLc X N scope cl hD.objs.size s H fp) pl (capS src σ) Hz tz := fun Iz =>
          Iz.weak len6.symm fun j v e => by
            obtain ⟨a, ea, _⟩ := capS_get e
            rw [keep6 j (by rw [ea]; simp)]
            exact e
        have held : ∀ {Hz : Hp} {tz : Shared} {pl : List (Addr × Obj)}, Inv (cxLc X N scope cl hD.objs.size s H fp) (pl ++ pinsAt fp t2.heap) σ6 Hz tz → (∀ b ∈ fp, ∀ o, t2.heap.get? b = some o → tz.heap.get? b = some o) ∧ ∀ b ∈ fp, Hz b = none := fun Iz =>
          ⟨fun b hb o e => (Iz.pin (b, o) (List.mem_append_right _ (List.mem_append_right _ (mem_pinsAt hb e)))).1, fun b hb => by
            obtain ⟨o, e, _⟩ := T.obj _ _ st5 b hb
            exact (Iz.pin (b, o) (List.mem_append_right _ (List.mem_append_right _ (mem_pinsAt hb e)))).2.1⟩
        cases b with
        | false =>
          rw [if_neg Bool.false_ne_true] at q7 ⊢
          obtain ⟨m', hm, w'⟩ := q7
          exact ⟨m', hm, i + 1, ys, its, k, H7, wk I7.unpinned, rv, T.keep _ _ _ st5 (held I7).1, (held I7).2, w'⟩
        | true =>
          rw [if_pos rfl] at q7 ⊢
          refine wpAny_mono (pe _ t4 σ6 H7 _ I7 q7) (fun v t5 h8 => ?_) fun _ _ z => z
          obtain ⟨y, H8, I8, r8, m', hm, w'⟩ := h8
          have p := I8.pin (s.heap.objs.size, _) (List.mem_append_right _ (List.mem_append_left _ List.mem_cons_self))
          have hl : its.toArray.size ≤ sizeLine := by rw [List.size_toArray, ← rv.length]; exact hy
          refine wpAny_list_append_plain (items := its.toArray) ⟨k, p.1⟩ (fun h' hpl hs => ?_) hl
          obtain ⟨k', ek⟩ := hpl
          have ek : h'.get? s.heap.objs.size = some { cls := .type "list", data := .seq (its ++ [v]).toArray k' } := by
            rw [ek]
            simp
          have I9 : Inv (cxLc X N scope cl hD.objs.size s H fp) (pinsAt fp t2.heap) σ6 H8 t5 := I8.pins_of fun a ha => I8.pin a (List.mem_append_right _ (List.mem_append_right _ ha))
          have I10 : Inv (cxLc X N scope cl hD.objs.size s H fp) (pinsAt fp t2.heap) σ6 H8 { t5 with heap := h' } := I9.turned (it := s.heap.objs.size) (t' := t5.toks) (fun b o hb e => hs.extBut b o hb e) p.2.1 nDC (.inr (Nat.le_refl _)) (fun x c e => ncl x c e) fun a ha z => by
            have ha : a ∈ ([] : List (Addr × Obj)) ++ pinsAt fp t2.heap := ha
            rw [List.nil_append] at ha
            exact absurd (ltf a.1 (of_pinsAt ha).1) (by rw [z]; exact Nat.lt_irrefl _)
          have hld := held (pl := []) (show Inv (cxLc X N scope cl hD.objs.size s H fp) ([] ++ pinsAt fp t2.heap) σ6 H8 { t5 with heap := h' } from I10)
          refine ⟨m', hm, i + 1, ys ++ [y], its ++ [v], k', H8, (wk I10).pins_of fun a ha => ?_, rv.append (.cons r8 .nil), T.keep _ _ _ st5 hld.1, hld.2, w'⟩
          rw [List.mem_singleton] at ha
          subst ha
          exact ⟨ek, p.2.1, nDC, nstk, fun _ z => nomatch z⟩
    · intro a ha
      rw [List.mem_singleton] at ha
      subst ha
      exact ⟨atD, I.hok.fresh (Nat.le_refl _), nDC, nstk, fun _ z => nomatch z⟩
  exact codeAny_compStart_list (loop _ rfl) (T.self _ 0 _ _ _ (T.keep 0 _ _ st fun b _ o e => kept b o e) (loop _ rfl))
theorem pe_lc {elt tg iter : Expr} {ifs : List Expr} {pos : Pos} {te : TE} {tc : TT} {g : TG} {wi : TI} (hc : X.calm = true) (ok : LcOk X N src scope cl) (hgo : GOwn g src) (hi : PI X tg iter wi)
    (hb : ∀ C s H fp, PG (cxLc X N scope cl C s H fp) tg g ∧ PIfs (cxLc X N scope cl C s H fp) ifs tc ∧ PE (cxLc X N scope cl C s H fp) elt te)
    (hs : ∀ x, foldedSetIterable iter X.env x = pure x := by intro _; rfl) : PE X (.ListComp elt [⟨tg, iter, ifs, 0⟩] scope pos) (tLc wi src g tc te) := by
  intro pins s σ H Q I h
  have nms : ∀ y ∈ scope.names, y.2 = .local → scope.names.lookup y.1 = some .local := fun y hy z => by
    have q := List.all_eq_true.mp ok.names y hy
    rw [z] at q
    simpa using q
  rw [eval_ListComp]
  refine wpAny_comprehension_free (use := none) rfl hs ok.clos ok.kind nms (thn (hi pins s σ H _ I h) fun v s1 h1 => thn h1 fun itv s2 h2 => ?_)
  obtain ⟨it, fp, tn, J, H2, e, I2, T, st2, f2, W, w0, turn⟩ := h2
  subst e
  refine lc_block (RR := fun acc C => compPost (model X.prog X.w) X.A X.xe none (EP X pins σ Q) acc C) (Qr := fun ys H => ∀ p, H p = none → Q (.ref p) (upd H p (.lst ys))) hc ok hgo (fun C => hb C s2 H2 fp) I2 T st2 f2 W w0 turn ?_
  intro D C t ys H' hD hC nDC n1 n2 hn q inv
  obtain ⟨m, hn⟩ := hn
  exact ⟨m, hn, fun h' hs => ⟨.ref D, _, inv h' hs, rfl, q D n1⟩⟩
theorem ps_setlc {elt tg iter : Expr} {ifs : List Expr} {pos pos' spos : Pos} {te : TE} {tc : TT} {g : TG} {wi : TI} {i : Nat} {x : Str} (hN : X.N.Nodup) (hx : X.N[i]? = some x) (hl : X.env.scope.names.lookup x = some .local)
    (hsw : swapsWith (.ListComp elt [⟨tg, iter, ifs, 0⟩] scope pos) (some (.Name x pos')) spos.line X.env = pure true) (hc : X.calm = true) (ok : LcOk X N src scope cl) (hgo : GOwn g src) (hi : PI X tg iter wi)
    (hb : ∀ C s H fp, PG (cxLc X N scope cl C s H fp) tg g ∧ PIfs (cxLc X N scope cl C s H fp) ifs tc ∧ PE (cxLc X N scope cl C s H fp) elt te)
    (hs : ∀ x, foldedSetIterable iter X.env x = pure x := by intro _; rfl) : PS X (.Assign [.Name x pos'] (.ListComp elt [⟨tg, iter, ifs, 0⟩] scope pos) spos) (tAsg (tLc wi src g tc te) (gName i)) := by
  intro pins s σ H DD I h
  have nms : ∀ y ∈ scope.names, y.2 = .local → scope.names.lookup y.1 = some .local := fun y hy z => by
    have q := List.all_eq_true.mp ok.names y hy
    rw [z] at q
    simpa using q
  rw [exec_Assign_Name_used _ _ _ _ hsw]
  refine wpAny_bind (wpAny_standAt (wpAny_bind ?_))
  show wpAny (model X.prog X.w) X.A (do let _ ← comprehension (.ListComp elt [⟨tg, iter, ifs, 0⟩] scope pos) scope X.env _ (newList []) false (eval iter X.env) (some (assign (.Name x pos') X.env))) _ _ s
  refine wpAny_bind (wpAny_mono (wpAny_comprehension_free (use := some (assign (.Name x pos') X.env)) (Q := fun _ t => SP X pins DD .next t) rfl hs ok.clos ok.kind nms
    (thn (hi pins s σ H _ I h) fun v s1 h1 => thn h1 fun itv s2 h2 => ?_)) (fun _ t hq => wpAny_pure (wpAny_pure hq)) fun _ _ e => e)
  obtain ⟨it, fp, tn, J, H2, e, I2, T, st2, f2, W, w0, turn⟩ := h2
  subst e
  refine lc_block (RR := fun acc C => compPost (model X.prog X.w) X.A X.xe (some (assign (.Name x pos') X.env)) (fun _ t => SP X pins DD .next t) acc C) (Qr := fun ys H => ∀ p, H p = none → DD.nx (σ.set i (some (.ref p))) (upd H p (.lst ys))) hc ok hgo (fun C => hb C s2 H2 fp) I2 T st2 f2 W w0 turn ?_
  intro D C t ys H' hD hC nDC n1 n2 hn q inv
  obtain ⟨m, hn⟩ := hn
  have I3 := inv t.heap (Heap.SameBut.refl ..)
  have neL : C ≠ X.env.locals := Nat.ne_of_gt (Nat.lt_of_lt_of_le I2.lt hC)
  have neK : ∀ y c, X.env.cells.lookup y = some c → c ≠ C := fun y c e => by
    obtain ⟨v, z⟩ := I2.cell y c e
    exact Nat.ne_of_lt (Nat.lt_of_lt_of_le z.lt hC)
  show wpAny (model X.prog X.w) X.A (assign (.Name x pos') X.env (.ref D)) _ X.xe t
  refine wpAny_assign_Name (store_ok2 (v := .ref D) (s := { t with heap := t.heap }) I3 hN hx (.inl hl) rfl (fun t2 I4 hw => ?_) (.inr hl))
  obtain ⟨a, sb, ha⟩ := hw
  have naC : C ≠ a := by
    rcases ha with e | e
    · rw [e]; exact neL
    · exact fun z => neK _ _ e z.symm
  refine ⟨m, hn.sameBut sb naC, fun h' hs' => ?_⟩
  refine ⟨_, _, I4.turned (it := C) (t' := t2.toks) (fun b o hb e => hs'.extBut b o hb e) ?_ neL (.inr (Nat.le_trans I2.sz hC)) (fun y c e => neK y c e) (fun p hp z => ?_), q D n1⟩
  · rw [upd_ne (Ne.symm nDC)]
    exact n2
  · have e := (I2.pin p hp).1
    exact absurd (Nat.lt_of_lt_of_le (Heap.lt_size e) (by rw [z]; exact hC)) (Nat.lt_irrefl _)
end
end L2

namespace L2
open PySem
theorem nextOf_tup {prog : Program} {w : World} {A : Around} {E : Value → Shared → Prop} {s : Shared} {it t : Addr} {i : Nat} {its : Array Value} {x : Value} {Q : Value → Shared → Prop} (hi : s.heap.IsTupleIter it t i)
    (ht : s.heap.IsTuple t its) (hx : its[i]? = some x) (q : ∀ h', h'.IsTupleIter it t (i + 1) → Heap.SameBut it s.heap h' → Q x { s with heap := h' }) :
    wpAny (model prog w) A (Builtin.SmallTypes.nextOf (.ref it)) Q E s := by
  obtain ⟨o, h1, h2, h3⟩ := id hi
  obtain ⟨o2, h4, _, n2, h5⟩ := ht
  unfold Builtin.SmallTypes.nextOf
  refine wpAny_bind (wpAny_callSpecial?_slot (name := Str.ofString "__next__") hi.typeIs F.slot_tuple_iterator_next
    (wpAny_call_entry F.slot_tuple_iterator_next hi.typeIs F.entry_tuple_iterator_next ?_ (F.args_tuple_iterator_next_1 _)))
  show wpAny (model prog w) _ (field (.ref it) 0 >>= _) _ _ s
  refine wpAny_bind (wpAny_field h1 h3 (x := .ref t) rfl ?_)
  show wpAny (model prog w) _ (if (Value.ref t == Value.none) = true then _ else _) _ _ s
  rw [if_neg (show ¬ (Value.ref t == Value.none) = true from Bool.false_ne_true)]
  show wpAny (model prog w) _ (field (.ref it) 1 >>= _) _ _ s
  refine wpAny_bind (wpAny_field h1 h3 (x := .int i 0) rfl ?_)
  show wpAny (model prog w) _ (seqItems? (.ref t) >>= _) _ _ s
  refine wpAny_bind (wpAny_seqItems h4 h5 ?_)
  simp only [Int.toNat_natCast, hx]
  refine wpAny_bind (wpAny_setField h1 h3 (by simp) (wpAny_pure ⟨x, rfl, wpAny_pure (q _ ?_ (Heap.SameBut.update ..))⟩))
  exact ⟨_, Heap.get?_update_self _ h1 (Obj.isFreed_of_fields (Obj.data_mapFields h3 _)), (Obj.cls_mapFields ..).trans h2, by
    rw [Obj.data_mapFields h3]; simp [rawInt]⟩
theorem nextOf_tup_end {prog : Program} {w : World} {A : Around} {E : Value → Shared → Prop} {s : Shared} {it t : Addr} {i : Nat} {its : Array Value} {Q : Value → Shared → Prop} (hh : A.handled = none) (hi : s.heap.IsTupleIter it t i)
    (ht : s.heap.IsTuple t its) (hx : its[i]? = none) (q : ∀ h' e, Heap.ExtBut it s.heap h' → (∃ o, h'.get? e = some o ∧ o.cls = .type "StopIteration") → E (.ref e) { s with heap := h' }) :
    wpAny (model prog w) A (Builtin.SmallTypes.nextOf (.ref it)) Q E s := by
  obtain ⟨o, h1, h2, h3⟩ := id hi
  obtain ⟨o2, h4, _, n2, h5⟩ := ht
  unfold Builtin.SmallTypes.nextOf
  refine wpAny_bind (wpAny_callSpecial?_slot (name := Str.ofString "__next__") hi.typeIs F.slot_tuple_iterator_next
    (wpAny_call_entry F.slot_tuple_iterator_next hi.typeIs F.entry_tuple_iterator_next ?_ (F.args_tuple_iterator_next_1 _)))
  show wpAny (model prog w) _ (field (.ref it) 0 >>= _) _ _ s
  refine wpAny_bind (wpAny_field h1 h3 (x := .ref t) rfl ?_)
  show wpAny (model prog w) _ (if (Value.ref t == Value.none) = true then _ else _) _ _ s
  rw [if_neg (show ¬ (Value.ref t == Value.none) = true from Bool.false_ne_true)]
  show wpAny (model prog w) _ (field (.ref it) 1 >>= _) _ _ s
  refine wpAny_bind (wpAny_field h1 h3 (x := .int i 0) rfl ?_)
  show wpAny (model prog w) _ (seqItems? (.ref t) >>= _) _ _ s
  refine wpAny_bind (wpAny_seqItems h4 h5 ?_)
  simp only [Int.toNat_natCast, hx]
  refine wpAny_bind (wpAny_rule (wpAny_bind (wpAny_setField h1 h3 (by simp) ?_)))
  show wpAny (model prog w) _ (newExc (.type "StopIteration") [] >>= _) _ _ _
  refine wpAny_bind ?_
  simp only [newExc, newTuple]
  refine wpAny_bind (wpAny_newObj_type ?_ (by size_fits))
  refine wpAny_bind (m := firstArgMember _ _) (wpAny_of_eq (a := Value.none) (by first | rfl | (simp only [firstArgMember]; rfl)) ?_)
  refine wpAny_newObj_type ?_ (by size_fits)
  simp only [raiseNew]
  refine wpAny_bind (wpAny_handled ?_)
  first | rw [show A.in1.handled = none from hh] | rw [hh]
  refine wpAny_bind (wpAny_pure (wpAny_throw ?_))
  exact q _ _ (((Heap.SameBut.update ..).extBut.push _).push _) ⟨_, Heap.get?_push_size _ rfl, rfl⟩
theorem draws_tup {prog : Program} {w : World} {A : Around} (hh : A.handled = none) (it l : Addr) (hne : l ≠ it) (its : Array Value) :
    Draws prog w A it [it, l] its.size (fun i v => its[i]? = some v) (fun i h => h.IsTupleIter it l i ∧ h.IsTuple l its) where
  live := fun _ _ st => let ⟨o, ho, _⟩ := st.1; ⟨o, ho⟩
  frame := fun _ _ _ st hk => ⟨let ⟨o, a, r⟩ := st.1; ⟨o, hk it (by simp) o a, r⟩, let ⟨o, a, r⟩ := st.2; ⟨o, hk l (by simp) o a, r⟩⟩
  item := fun i s Q E hi st hQ => by
    refine nextOf_tup st.1 st.2 (x := its[i]) (by simp [hi]) fun h' a b => ?_
    exact hQ _ h' s.toks (by simp [hi]) ⟨a, st.2.extBut b.extBut hne⟩ b
  done := fun s Q E st hE => nextOf_tup_end hh st.1 st.2 (by simp) hE

structure ZAp (z TI TO i1 i2 : Addr) (f1 f2 : List Addr) : Prop where
  a1 : TI ≠ z
  a2 : TO ≠ z
  a3 : i1 ≠ z
  a4 : i2 ≠ z
  a5 : TI ≠ TO
  a6 : TI ≠ i1
  a7 : TI ≠ i2
  a8 : TO ≠ i1
  a9 : TO ≠ i2
  b1 : i1 ≠ i2
  b2 : z ∉ f1
  b3 : z ∉ f2
  b4 : TO ∉ f1
  b5 : TO ∉ f2
  b6 : i1 ∉ f2
  b7 : i2 ∉ f1
section
variable {prog : Program} {w : World} {z TI TO i1 i2 : Addr} {f1 f2 : List Addr} {n1 n2 : Nat} {P1 P2 : Nat → Value → Prop} {S1 S2 : Nat → Heap → Prop}
def ZSt (z TI TO i1 i2 : Addr) (S1 S2 : Nat → Heap → Prop) (i : Nat) (h : Heap) : Prop := IsZip h z TI TO .none ∧ IsPair h TI (.ref i1) (.ref i2) ∧ (∃ a b, IsPair h TO a b) ∧ S1 i h ∧ S2 i h
theorem zip_item {A : Around} {E : Value → Shared → Prop} {s : Shared} {k : Nat} {Q : Value → Shared → Prop} (D : ZAp z TI TO i1 i2 f1 f2) (d1 : Draws prog w A i1 f1 n1 P1 S1) (d2 : Draws prog w A i2 f2 n2 P2 S2) (l1 : k < n1) (l2 : k < n2)
    (st : ZSt z TI TO i1 i2 S1 S2 k s.heap)
    (q : ∀ x y h' tk, P1 k x → P2 k y → IsZip h' z TI TO (rawInt s.heap.objs.size) → IsPair h' TO x y → IsPair h' TI (.ref i1) (.ref i2) → S1 (k + 1) h' → S2 (k + 1) h' → IsPair h' s.heap.objs.size x y → h'.objs.size = s.heap.objs.size + 1 →
      (∀ c o, c ≠ z → c ≠ TO → c ≠ i1 → c ≠ i2 → s.heap.get? c = some o → h'.get? c = some o) → Q (.ref s.heap.objs.size) { s with heap := h', toks := tk }) :
    wpAny (model prog w) A (Builtin.«zip.__next__» ⟨[.ref z], []⟩) (fun fin t => ∃ v, fin = .done (.ret v) ∧ Q v t) E s := by
  obtain ⟨hz, hTI, ⟨a, b, hTO⟩, s1, s2⟩ := st
  show wpAny (model prog w) _ (field (.ref z) 2 >>= _) _ _ _
  refine wpAny_bind (wpAny_field hz rfl (x := .bool false) rfl ?_)
  show wpAny (model prog w) _ (field (.ref z) 3 >>= _) _ _ _
  refine wpAny_bind (wpAny_field hz rfl (x := .ref TI) rfl ?_)
  refine wpAny_bind (wpAny_seqItems hTI rfl ?_)
  show wpAny (model prog w) _ (Builtin.SmallTypes.ownedTupleIsFree (.ref z) >>= _) _ _ _
  refine wpAny_bind ?_
  unfold Builtin.SmallTypes.ownedTupleIsFree
  refine wpAny_bind (wpAny_field hz rfl (x := .none) rfl (wpAny_pure ?_))
  simp only [if_true]
  refine wpAny_bind (wpAny_rule ?_)
  refine wpAny_bind (wpAny_field hz rfl (x := .ref TO) rfl ?_)
  refine wpAny_bind (wpAny_setField_rec hz (by simp) fun g1 z1 e1 => ?_)
  replace z1 : IsZip g1 z TI TO .ellipsis := z1
  refine wpAny_bind ?_
  simp only [List.zipIdx_cons, List.zipIdx_nil, List.forIn_cons, List.forIn_nil]
  refine wpAny_bind (wpAny_bind (wpAny_onRaise ?_))
  show wpAny (model prog w) _ (Builtin.SmallTypes.nextOf (.ref i1) >>= _) _ _ _
  have s1a : S1 k g1 := d1.frame _ _ _ s1 fun c hc o e => e1.extBut _ _ (fun x => D.b2 (x ▸ hc)) e
  have s2a : S2 k g1 := d2.frame _ _ _ s2 fun c hc o e => e1.extBut _ _ (fun x => D.b3 (x ▸ hc)) e
  refine wpAny_bind (d1.item k _ _ _ l1 s1a fun x g2 tk2 p1 s1b e2 => wpAny_pure ?_)
  have t2 : IsPair g2 TO a b := e2.extBut _ _ D.a8 (e1.extBut _ _ D.a2 hTO)
  refine wpAny_bind (wpAny_seqItems t2 rfl ?_)
  refine wpAny_bind (wpAny_updateSeq_pair t2 fun g3 t3 e3 => ?_)
  replace t3 : IsPair g3 TO x b := t3
  refine wpAny_bind (wpAny_letGo (wpAny_pure ?_))
  refine wpAny_bind (wpAny_bind (wpAny_onRaise ?_))
  show wpAny (model prog w) _ (Builtin.SmallTypes.nextOf (.ref i2) >>= _) _ _ _
  have s2b : S2 k g3 := d2.frame _ _ _ s2a fun c hc o e => e3.extBut _ _ (fun x => D.b5 (x ▸ hc)) (e2.extBut _ _ (fun x => D.b6 (x ▸ hc)) e)
  have s1c : S1 (k + 1) g3 := d1.frame _ _ _ s1b fun c hc o e => e3.extBut _ _ (fun x => D.b4 (x ▸ hc)) e
  refine wpAny_bind (d2.item k _ _ _ l2 s2b fun y g4 tk4 p2 s2c e4 => wpAny_pure ?_)
  have t4 : IsPair g4 TO x b := e4.extBut _ _ D.a9 t3
  refine wpAny_bind (wpAny_seqItems t4 rfl ?_)
  refine wpAny_bind (wpAny_updateSeq_pair t4 fun g5 t5 e5 => ?_)
  replace t5 : IsPair g5 TO x y := t5
  refine wpAny_bind (wpAny_letGo (wpAny_pure (wpAny_pure ?_)))
  refine wpAny_bind (wpAny_seqItems t5 rfl ?_)
  refine wpAny_bind (wpAny_newTuple ?_)
  have sz : g5.objs.size = s.heap.objs.size := by rw [e5.1, e4.1, e3.1, e2.1, e1.1]
  have z5 : IsZip g5 z TI TO .ellipsis := e5.extBut _ _ D.a2.symm (e4.extBut _ _ D.a4.symm (e3.extBut _ _ D.a2.symm (e2.extBut _ _ D.a3.symm z1)))
  have kp : ∀ c o, c ≠ z → c ≠ TO → c ≠ i1 → c ≠ i2 → s.heap.get? c = some o → g5.get? c = some o := fun c o c1 c2 c3 c4 e =>
    e5.extBut _ _ c2 (e4.extBut _ _ c4 (e3.extBut _ _ c2 (e2.extBut _ _ c3 (e1.extBut _ _ c1 e))))
  have s1d : S1 (k + 1) g5 := d1.frame _ _ _ s1c fun c hc o e => e5.extBut _ _ (fun x => D.b4 (x ▸ hc)) (e4.extBut _ _ (fun x => D.b7 (x ▸ hc)) e)
  have s2d : S2 (k + 1) g5 := d2.frame _ _ _ s2c fun c hc o e => e5.extBut _ _ (fun x => D.b5 (x ▸ hc)) e
  have zlt : z < g5.objs.size := Heap.lt_size z5
  show wpAny (model prog w) _ (Builtin.SmallTypes.ownedTupleHandOut (.ref z) (.ref g5.objs.size) >>= _) _ _ _
  refine wpAny_bind ?_
  unfold Builtin.SmallTypes.ownedTupleHandOut
  have z6 : IsZip (g5.push { cls := .type "tuple", data := .seq #[x, y] }) z TI TO .ellipsis := Heap.get?_push_of_some _ z5
  refine wpAny_bind (wpAny_setField_rec z6 (by simp) fun g7 z7 e7 => ?_)
  replace z7 : IsZip g7 z TI TO (rawInt g5.objs.size) := z7
  refine wpAny_setField_rec z7 (by simp) fun g8 z8 e8 => ?_
  replace z8 : IsZip g8 z TI TO (rawInt g5.objs.size) := z8
  have up : ∀ c o, c ≠ z → g5.get? c = some o → g8.get? c = some o := fun c o c1 e => e8.extBut _ _ c1 (e7.extBut _ _ c1 (Heap.get?_push_of_some _ e))
  have t8 : IsPair g8 g5.objs.size x y := e8.extBut _ _ (Nat.ne_of_gt zlt) (e7.extBut _ _ (Nat.ne_of_gt zlt) (Heap.get?_push_size _ rfl))
  have sz8 : g8.objs.size = g5.objs.size + 1 := by rw [e8.1, e7.1, Heap.size_push]
  rw [sz] at z8 t8 sz8
  refine wpAny_pure ⟨_, rfl, ?_⟩
  show Q (.ref g5.objs.size) _
  rw [sz]
  exact q x y g8 tk4 p1 p2 z8 (up _ _ D.a2 t5) (up _ _ D.a1 (kp _ _ D.a1 D.a5 D.a6 D.a7 hTI)) (d1.frame _ _ _ s1d fun c hc o e => up c o (fun x => D.b2 (x ▸ hc)) e) (d2.frame _ _ _ s2d fun c hc o e => up c o (fun x => D.b3 (x ▸ hc)) e) t8 sz8
    fun c o c1 c2 c3 c4 e => up c o c1 (kp c o c1 c2 c3 c4 e)

theorem zip_stop {A : Around} {E : Value → Shared → Prop} {s : Shared} {k : Nat} {Q : Fin → Shared → Prop} (D : ZAp z TI TO i1 i2 f1 f2) (d1 : Draws prog w A i1 f1 n1 P1 S1) (d2 : Draws prog w A i2 f2 n2 P2 S2) (hk : k = n1 ∨ (k < n1 ∧ k = n2))
    (st : ZSt z TI TO i1 i2 S1 S2 k s.heap)
    (q : ∀ h' e tk, (∀ c o, c ≠ z → c ≠ TO → c ≠ i1 → c ≠ i2 → s.heap.get? c = some o → h'.get? c = some o) → (∃ o, h'.get? e = some o ∧ o.cls = .type "StopIteration") → E (.ref e) { s with heap := h', toks := tk }) :
    wpAny (model prog w) A (Builtin.«zip.__next__» ⟨[.ref z], []⟩) Q E s := by
  obtain ⟨hz, hTI, ⟨a, b, hTO⟩, s1, s2⟩ := st
  show wpAny (model prog w) _ (field (.ref z) 2 >>= _) _ _ _
  refine wpAny_bind (wpAny_field hz rfl (x := .bool false) rfl ?_)
  show wpAny (model prog w) _ (field (.ref z) 3 >>= _) _ _ _
  refine wpAny_bind (wpAny_field hz rfl (x := .ref TI) rfl ?_)
  refine wpAny_bind (wpAny_seqItems hTI rfl ?_)
  show wpAny (model prog w) _ (Builtin.SmallTypes.ownedTupleIsFree (.ref z) >>= _) _ _ _
  refine wpAny_bind ?_
  unfold Builtin.SmallTypes.ownedTupleIsFree
  refine wpAny_bind (wpAny_field hz rfl (x := .none) rfl (wpAny_pure ?_))
  simp only [if_true]
  refine wpAny_bind (wpAny_rule ?_)
  refine wpAny_bind (wpAny_field hz rfl (x := .ref TO) rfl ?_)
  refine wpAny_bind (wpAny_setField_rec hz (by simp) fun g1 z1 e1 => ?_)
  replace z1 : IsZip g1 z TI TO .ellipsis := z1
  refine wpAny_bind ?_
  simp only [List.zipIdx_cons, List.zipIdx_nil, List.forIn_cons, List.forIn_nil]
  refine wpAny_bind (wpAny_bind (wpAny_onRaise ?_))
  show wpAny (model prog w) _ (Builtin.SmallTypes.nextOf (.ref i1) >>= _) _ _ _
  have s1a : S1 k g1 := d1.frame _ _ _ s1 fun c hc o e => e1.extBut _ _ (fun x => D.b2 (x ▸ hc)) e
  have s2a : S2 k g1 := d2.frame _ _ _ s2 fun c hc o e => e1.extBut _ _ (fun x => D.b3 (x ▸ hc)) e
  rcases hk with rfl | ⟨l1, rfl⟩
  · refine wpAny_bind (d1.done _ _ _ s1a fun g2 x e2 hx => ?_)
    obtain ⟨ox, hox, hcx⟩ := hx
    have z2 : IsZip g2 z TI TO .ellipsis := e2 _ _ D.a3.symm z1
    have nz : x ≠ z := fun r => by subst r; rw [z2] at hox; cases hox; simp at hcx
    exact wpAny_setField_rec z2 (by simp) fun g3 _ e3 => q g3 x _ (fun c o c1 _ c3 _ y => e3.extBut _ _ c1 (e2 _ _ c3 (e1.extBut _ _ c1 y))) ⟨ox, e3.extBut _ _ nz hox, hcx⟩
  · refine wpAny_bind (d1.item _ _ _ _ l1 s1a fun x g2 tk2 p1 s1b e2 => wpAny_pure ?_)
    have t2 : IsPair g2 TO a b := e2.extBut _ _ D.a8 (e1.extBut _ _ D.a2 hTO)
    refine wpAny_bind (wpAny_seqItems t2 rfl ?_)
    refine wpAny_bind (wpAny_updateSeq_pair t2 fun g3 t3 e3 => ?_)
    refine wpAny_bind (wpAny_letGo (wpAny_pure ?_))
    refine wpAny_bind (wpAny_bind (wpAny_onRaise ?_))
    show wpAny (model prog w) _ (Builtin.SmallTypes.nextOf (.ref i2) >>= _) _ _ _
    have s2b : S2 k g3 := d2.frame _ _ _ s2a fun c hc o e => e3.extBut _ _ (fun x => D.b5 (x ▸ hc)) (e2.extBut _ _ (fun x => D.b6 (x ▸ hc)) e)
    refine wpAny_bind (d2.done _ _ _ s2b fun g4 y e4 hy => ?_)
    obtain ⟨oy, hoy, hcy⟩ := hy
    have z4 : IsZip g4 z TI TO .ellipsis := e4 _ _ D.a4.symm (e3.extBut _ _ D.a2.symm (e2.extBut _ _ D.a3.symm z1))
    have nz : y ≠ z := fun r => by subst r; rw [z4] at hoy; cases hoy; simp at hcy
    exact wpAny_setField_rec z4 (by simp) fun g5 _ e5 => q g5 y _ (fun c o c1 c2 c3 c4 r => e5.extBut _ _ c1 (e4 _ _ c4 (e3.extBut _ _ c2 (e2.extBut _ _ c3 (e1.extBut _ _ c1 r))))) ⟨oy, e5.extBut _ _ nz hoy, hcy⟩
theorem zip_pyNext {A : Around} {E : Value → Shared → Prop} {s : Shared} {k : Nat} {Q : Option Value → Shared → Prop} (D : ZAp z TI TO i1 i2 f1 f2) (d1 : Draws prog w A.in1 i1 f1 n1 P1 S1) (d2 : Draws prog w A.in1 i2 f2 n2 P2 S2) (l1 : k < n1) (l2 : k < n2)
    (st : ZSt z TI TO i1 i2 S1 S2 k s.heap)
    (q : ∀ x y h' tk, P1 k x → P2 k y → IsZip h' z TI TO (rawInt s.heap.objs.size) → IsPair h' TO x y → IsPair h' TI (.ref i1) (.ref i2) → S1 (k + 1) h' → S2 (k + 1) h' → IsPair h' s.heap.objs.size x y → h'.objs.size = s.heap.objs.size + 1 →
      (∀ c o, c ≠ z → c ≠ TO → c ≠ i1 → c ≠ i2 → s.heap.get? c = some o → h'.get? c = some o) → Q (some (.ref s.heap.objs.size)) { s with heap := h', toks := tk }) :
    wpAny (model prog w) A (pyNext (.ref z)) Q E s := by
  have hT : s.TypeIs (.ref z) "zip" := ⟨_, st.1, rfl⟩
  unfold pyNext
  exact wpAny_bind (wpAny_attempt (wpAny_callSpecial?_slot (name := Str.ofString "__next__") hT F.slot_zip_next
    (wpAny_call_entry F.slot_zip_next hT F.entry_zip_next
      (zip_item D d1 d2 l1 l2 st fun x y h' tk c1 c2 c3 c4 c5 c6 c7 c8 c9 c10 => wpAny_pure (q x y h' tk c1 c2 c3 c4 c5 c6 c7 c8 c9 c10)) (F.args_zip_next_1 _))))
theorem zip_pyNext_end {A : Around} {E : Value → Shared → Prop} {s : Shared} {k : Nat} {Q : Option Value → Shared → Prop} (D : ZAp z TI TO i1 i2 f1 f2) (d1 : Draws prog w A.in1 i1 f1 n1 P1 S1) (d2 : Draws prog w A.in1 i2 f2 n2 P2 S2)
    (hk : k = n1 ∨ (k < n1 ∧ k = n2)) (st : ZSt z TI TO i1 i2 S1 S2 k s.heap)
    (q : ∀ h' tk, (∀ c o, c ≠ z → c ≠ TO → c ≠ i1 → c ≠ i2 → s.heap.get? c = some o → h'.get? c = some o) → Q none { s with heap := h', toks := tk }) : wpAny (model prog w) A (pyNext (.ref z)) Q E s := by
  have hT : s.TypeIs (.ref z) "zip" := ⟨_, st.1, rfl⟩
  unfold pyNext
  refine wpAny_bind (wpAny_attempt (wpAny_callSpecial?_slot (name := Str.ofString "__next__") hT F.slot_zip_next
    (wpAny_call_entry F.slot_zip_next hT F.entry_zip_next (zip_stop D d1 d2 hk st fun h' e tk kp he => ?_) (F.args_zip_next_1 _))))
  obtain ⟨o, ho, hc⟩ := he
  refine wpAny_bind (wpAny_isInstance (T := "StopIteration") (b := true) ⟨o, ho, hc⟩ isSubtype_stop ?_)
  exact wpAny_pure (q _ _ kp)
end

abbrev zpa (h : Heap) (l1 : Addr) : Heap := h.push { cls := .type "tuple_iterator", data := .fields #[.ref l1, .int 0 0] }
abbrev zpb (h : Heap) (l1 l2 : Addr) : Heap := (zpa h l1).push { cls := .type "tuple_iterator", data := .fields #[.ref l2, .int 0 0] }
abbrev zpc (h : Heap) (l1 l2 : Addr) : Heap := (zpb h l1 l2).push { cls := .type "tuple", data := .seq #[.ref h.objs.size, .ref (zpa h l1).objs.size] }
abbrev zpd (h : Heap) (l1 l2 : Addr) : Heap := (zpc h l1 l2).push { cls := .type "tuple", data := .seq #[.none, .none] }
abbrev zpe (h : Heap) (l1 l2 : Addr) : Heap := (zpd h l1 l2).push { cls := .type "zip", data := .fields #[.none, .bool false, .bool false, .ref (zpb h l1 l2).objs.size, .ref (zpc h l1 l2).objs.size] }
theorem zip_new_tups (l1 l2 : Addr) (xs ys : Array Value) :
    Meets (Builtin.«zip.__new__» ⟨[.type "zip", .ref l1, .ref l2], []⟩) (fun _ R s => s.heap.IsTuple l1 xs ∧ s.heap.IsTuple l2 ys ∧
      R (.ok (.ret (.ref (zpd s.heap l1 l2).objs.size))) { s with heap := zpe s.heap l1 l2 }) :=
  .of_wp fun prog w A R s h => by
    obtain ⟨hp, g, d, tk, os⟩ := s; obtain ⟨t1, t2, h⟩ := h
    have f0 := sub_zip
    have T1 : Heap.IsTuple (Shared.heap ⟨hp, g, d, tk, os⟩) l1 xs := t1
    have T2 : Heap.IsTuple (Shared.heap ⟨hp.push { cls := .type "tuple_iterator", data := .fields #[.ref l1, .int 0 0] }, g, d, tk, os⟩) l2 ys := Heap.IsTuple.push t2 _
    wp_walk using wpAny_pyIter_tuple T1, wpAny_pyIter_tuple T2
    exact ⟨_, rfl, h⟩
theorem call_zip_tups {prog : Program} {w : World} {A : Around} {E : Value → Shared → Prop} {s : Shared} {l1 l2 : Addr} {xs ys : Array Value} {Q : Value → Shared → Prop} (h1 : s.heap.IsTuple l1 xs) (h2 : s.heap.IsTuple l2 ys)
    (q : ∀ h', IsZip h' (s.heap.objs.size + 4) (s.heap.objs.size + 2) (s.heap.objs.size + 3) .none → IsPair h' (s.heap.objs.size + 2) (.ref s.heap.objs.size) (.ref (s.heap.objs.size + 1)) →
      IsPair h' (s.heap.objs.size + 3) .none .none → h'.IsTupleIter s.heap.objs.size l1 0 → h'.IsTupleIter (s.heap.objs.size + 1) l2 0 →
      (∀ c o, s.heap.get? c = some o → h'.get? c = some o) → Q (.ref (s.heap.objs.size + 4)) { s with heap := h' }) :
    wpAny (model prog w) A (call (.type "zip") [.ref l1, .ref l2]) Q E s := by
  refine callType_new F.called_zip (by decide) (F.typeCall_zip_2 _ _) (F.newCall_zip_2 _ _) (fun obj => F.args_object_init_3 obj _ _) F.entry_zip_new
    (zip_new_tups l1 l2 xs ys) ⟨h1, h2, ?_⟩
  have z1 : (zpa s.heap l1).objs.size = s.heap.objs.size + 1 := Heap.size_push ..
  have z2 : (zpb s.heap l1 l2).objs.size = s.heap.objs.size + 2 := by rw [Heap.size_push, z1]
  have z3 : (zpc s.heap l1 l2).objs.size = s.heap.objs.size + 3 := by rw [Heap.size_push, z2]
  have z4 : (zpd s.heap l1 l2).objs.size = s.heap.objs.size + 4 := by rw [Heap.size_push, z3]
  have k5 : (zpe s.heap l1 l2).get? (zpd s.heap l1 l2).objs.size = some _ := Heap.get?_push_size _ rfl
  have k4 : (zpe s.heap l1 l2).get? (zpc s.heap l1 l2).objs.size = some _ := Heap.get?_push_of_some _ (Heap.get?_push_size _ rfl)
  have k3 : (zpe s.heap l1 l2).get? (zpb s.heap l1 l2).objs.size = some _ := Heap.get?_push_of_some _ (Heap.get?_push_of_some _ (Heap.get?_push_size _ rfl))
  have k2 : (zpe s.heap l1 l2).get? (zpa s.heap l1).objs.size = some _ := Heap.get?_push_of_some _ (Heap.get?_push_of_some _ (Heap.get?_push_of_some _ (Heap.get?_push_size _ rfl)))
  have k1 : (zpe s.heap l1 l2).get? s.heap.objs.size = some _ := Heap.get?_push_of_some _ (Heap.get?_push_of_some _ (Heap.get?_push_of_some _ (Heap.get?_push_of_some _ (Heap.get?_push_size _ rfl))))
  show _ ∧ _
  rw [z2, z3, z4] at k5
  rw [z1, z2] at k3
  rw [z3] at k4
  rw [z1] at k2
  rw [z4]
  exact ⟨⟨_, k5, rfl⟩, q _ k5 k3 k4 ⟨_, k1, rfl, rfl⟩ ⟨_, k2, rfl, rfl⟩ fun c o x =>
    Heap.get?_push_of_some _ (Heap.get?_push_of_some _ (Heap.get?_push_of_some _ (Heap.get?_push_of_some _ (Heap.get?_push_of_some _ x))))⟩
end L2

namespace L2
open PySem PySem.Spec PyProof.Rows
theorem boot_zip : bootBuiltins "zip" = some (.type "zip") := by decide +kernel
theorem nne (n a b : Nat) (h : a ≠ b) : n + a ≠ n + b := by omega
theorem nne0 (n b : Nat) (h : 0 < b) : n ≠ n + b := by omega
theorem vals2' {x y : V} {us : List Value} (r : Vals [x, y] us) : ∃ u v, us = [u, v] ∧ RelV x u ∧ RelV y v := by
  cases r with
  | cons p q =>
    cases q with
    | cons p' q' =>
      cases q'
      exact ⟨_, _, rfl, p, p'⟩
section
variable {X : Cx} {pins : List (Addr × Obj)} {σ : St} {H : Hp} {s : Shared} {h' : Heap}
theorem Inv.turnedL {t' : Nat} {l : List Addr} (I : Inv X pins σ H s) (k : ∀ b o, b ∉ l → s.heap.get? b = some o → h'.get? b = some o) (hf : ∀ b ∈ l, FpOk X pins H b) : Inv X pins σ H { s with heap := h', toks := t' } := by
  have nl : ∀ b u, H b = some u → b ∉ l := fun b u e z => by rw [(hf b z).1] at e; cases e
  refine I.step (g' := s.gens) (d' := s.drawn) (ch := l) (fun b hb => ⟨(hf b hb).2.2.2.1, (hf b hb).2.1, (hf b hb).2.2.2.2.1, (hf b hb).2.2.2.2.2⟩) (fun b o _ _ hc e _ => k b o hc e) (fun b o _ _ hc e _ => ⟨o.slots, k b o hc e⟩) (fun _ _ _ _ n => n)
    (fun b o hc e => ⟨o, k b o hc e⟩) (fun _ _ e => e) (fun _ _ _ e => e) (fun b ps e => ⟨#[], by rw [e]; simp⟩) (fun m hm => ?_) (fun b u e => ?_) I.bare
  · obtain ⟨o, es, ep, ho, r⟩ := hm
    exact ⟨o, es, ep, k _ o (fun z => (hf _ z).2.1 rfl) ho, r⟩
  · refine (I.hok b u e).stay (fun c v hc q => k c v ?_ q) (fun _ q => q) fun _ _ q => q
    rcases hc with z | z
    · rw [z]; exact nl b u e
    · exact nl c _ z
theorem Inv.adopt {p : Addr} {o : HO} (I : Inv X pins σ H s) (hf : FpOk X pins H p) (new : ObjOk X.prog X.w (upd H p o) s.heap p o) : Inv X pins σ (upd H p o) s := by
  have e0 : ({ s with heap := s.heap, gens := s.gens, drawn := s.drawn, toks := s.toks } : Shared) = s := rfl
  rw [← e0]
  refine I.step (H' := upd H p o) (h' := s.heap) (g' := s.gens) (d' := s.drawn) (t' := s.toks) (ch := [p]) (fun b hb => ?_) (fun b u _ _ _ e _ => e) (fun b u _ _ _ e _ => ⟨u.slots, e⟩) (fun b u hc e n => ?_) (fun b u _ e => ⟨u, e⟩)
    (fun b xs e => ?_) (fun b u v e => ?_) (fun b ps e => ⟨#[], ?_⟩) (fun m hm => hm) (fun b u e => ?_) I.bare
  · rw [List.mem_singleton] at hb
    subst hb
    exact ⟨hf.2.2.2.1, hf.2.1, hf.2.2.2.2.1, hf.2.2.2.2.2⟩
  · rw [upd_ne fun z => hc (by rw [z]; exact List.mem_singleton_self _)]
    exact n
  · rw [upd_ne (ne_of_none e hf.1)]; exact e
  · rw [upd_ne (ne_of_none e hf.1)]; exact e
  · rw [upd_ne (ne_of_none e hf.1), e]; simp
  · by_cases hb : b = p
    · subst hb
      rw [upd_same] at e
      cases e
      exact new
    · rw [upd_ne hb] at e
      exact (I.hok b u e).stay (fun c v hc q => q) (fun c q => by rw [upd_ne (ne_of_none q hf.1)]; exact q) fun c xs q => by rw [upd_ne (ne_of_none q hf.1)]; exact q
end
def Itz (a b : Addr) : It := ⟨fun i H => ∃ xs ys, H a = some (.tup xs) ∧ H b = some (.tup ys) ∧ i < xs.length ∧ i < ys.length,
  fun i H x H' => ∃ p v w, x = .ref p ∧ H p = none ∧ H' = upd H p (.tup [v, w]) ∧ ∀ xs ys, H a = some (.tup xs) → H b = some (.tup ys) → xs[i]? = some v ∧ ys[i]? = some w,
  fun i H => ∃ xs ys, H a = some (.tup xs) ∧ H b = some (.tup ys) ∧ (i = xs.length ∨ (i < xs.length ∧ i = ys.length))⟩
theorem turn_zip {P : Program} {w : World} {K : PySem.W.Frag} {es : List Expr} {kt : Nat} {tp : Pos} (a b z TI TO i1 i2 : Addr) (d1 : TI ≠ z) (d2 : TO ≠ z) (d3 : i1 ≠ z) (d4 : i2 ≠ z) (d5 : TI ≠ TO) (d6 : TI ≠ i1) (d7 : TI ≠ i2) (d8 : TO ≠ i1) (d9 : TO ≠ i2) (d0 : i1 ≠ i2) :
    Turn P w K (.Tuple es kt tp) (Itz a b) [z, TI, TO, i1, i2] z (fun i h => IsZip h z TI TO .none ∧ IsPair h TI (.ref i1) (.ref i2) ∧ (∃ x y, IsPair h TO x y) ∧ h.IsTupleIter i1 a i ∧ h.IsTupleIter i2 b i) where
  mem := by simp
  obj := fun i h st c hc => by
    obtain ⟨s1, s2, ⟨x, y, s3⟩, ⟨o4, s4, _, q4⟩, ⟨o5, s5, _, q5⟩⟩ := st
    simp only [List.mem_cons, List.not_mem_nil, or_false] at hc
    rcases hc with rfl | rfl | rfl | rfl | rfl
    · exact ⟨_, s1, fun v => by intro q; cases q⟩
    · exact ⟨_, s2, fun v => by intro q; cases q⟩
    · exact ⟨_, s3, fun v => by intro q; cases q⟩
    · exact ⟨_, s4, fun v => by intro q; rw [q4] at q; cases q⟩
    · exact ⟨_, s5, fun v => by intro q; rw [q5] at q; cases q⟩
  keep := fun i h h' st kp => by
    obtain ⟨s1, s2, ⟨x, y, s3⟩, ⟨o4, s4, r4⟩, ⟨o5, s5, r5⟩⟩ := st
    exact ⟨kp z (by simp) _ s1, kp TI (by simp) _ s2, ⟨x, y, kp TO (by simp) _ s3⟩, ⟨o4, kp i1 (by simp) _ s4, r4⟩, ⟨o5, kp i2 (by simp) _ s5, r5⟩⟩
  item := by
    intro X hP hw hK hc i pins s σ H E I hf st hg
    subst hP hw hK
    obtain ⟨xs, ys, ha, hb, l1, l2⟩ := hg
    obtain ⟨s1, s2, s3, s4, s5⟩ := st
    have nf : ∀ {c : Addr} {o : HO}, H c = some o → ∀ e ∈ [z, TI, TO, i1, i2], c ≠ e := fun hcc e he q => by rw [q, (hf e he).1] at hcc; cases hcc
    obtain ⟨its, r1, t1, _⟩ := I.tuple (SqT.of ha)
    obtain ⟨its2, r2, t2, _⟩ := I.tuple (SqT.of hb)
    have D : ZAp z TI TO i1 i2 [i1, a] [i2, b] := by
      refine ⟨d1, d2, d3, d4, d5, d6, d7, d8, d9, d0, ?_, ?_, ?_, ?_, ?_, ?_⟩ <;> simp only [List.mem_cons, List.not_mem_nil, or_false, not_or]
      · exact ⟨d3.symm, (nf ha z (by simp)).symm⟩
      · exact ⟨d4.symm, (nf hb z (by simp)).symm⟩
      · exact ⟨d8, (nf ha TO (by simp)).symm⟩
      · exact ⟨d9, (nf hb TO (by simp)).symm⟩
      · exact ⟨d0, (nf hb i1 (by simp)).symm⟩
      · exact ⟨d0.symm, (nf ha i2 (by simp)).symm⟩
    have hh : X.A.in1.handled = none := I.ok.hd hc
    have e1 : its.toArray.size = xs.length := by rw [List.size_toArray, ← r1.length]
    have e2 : its2.toArray.size = ys.length := by rw [List.size_toArray, ← r2.length]
    refine zip_pyNext D (draws_tup hh i1 a (nf ha i1 (by simp)) its.toArray) (draws_tup hh i2 b (nf hb i2 (by simp)) its2.toArray) (by omega) (by omega) ⟨s1, s2, s3, ⟨s4, t1⟩, ⟨s5, t2⟩⟩ fun x y g tk p1 p2 z1 z2 z3 z4 z5 z6 z7 kp => ⟨_, rfl, ?_⟩
    have p1 : its[i]? = some x := by simpa using p1
    have p2 : its2[i]? = some y := by simpa using p2
    obtain ⟨vx, hx⟩ : ∃ v, xs[i]? = some v := ⟨xs[i], by simp [l1]⟩
    obtain ⟨vy, hy⟩ : ∃ v, ys[i]? = some v := ⟨ys[i], by simp [l2]⟩
    obtain ⟨x', q1, rx⟩ := r1.get hx
    rw [p1] at q1; cases q1
    obtain ⟨y', q2, ry⟩ := r2.get hy
    rw [p2] at q2; cases q2
    refine wpAny_letOwnedTupleGo_zip z1 fun g2 zz hs => ?_
    have fr : H s.heap.objs.size = none := I.hok.fresh (Nat.le_refl _)
    have I1 : Inv X pins σ H { s with heap := g2, toks := tk } := I.turnedL (l := [z, TO, i1, i2]) (t' := tk) (fun c o hc e => by
      simp only [List.mem_cons, List.not_mem_nil, or_false, not_or] at hc
      exact hs.extBut _ _ hc.1 (kp c o hc.1 hc.2.1 hc.2.2.1 hc.2.2.2 e)) fun c hc => hf c (by
        simp only [List.mem_cons, List.not_mem_nil, or_false] at hc ⊢
        rcases hc with h | h | h | h <;> simp [h])
    have fp := I.fpOk (H' := H) (Nat.le_refl _) fr
    have nz : ∀ e ∈ [z, TI, TO, i1, i2], e ≠ s.heap.objs.size := fun e he q => by
      obtain ⟨o, ho⟩ : ∃ o, s.heap.get? e = some o := by
        obtain ⟨x3, y3, s3⟩ := s3
        obtain ⟨o4, s4, _⟩ := s4
        obtain ⟨o5, s5, _⟩ := s5
        simp only [List.mem_cons, List.not_mem_nil, or_false] at he
        rcases he with rfl | rfl | rfl | rfl | rfl
        · exact ⟨_, s1⟩
        · exact ⟨_, s2⟩
        · exact ⟨_, s3⟩
        · exact ⟨_, s4⟩
        · exact ⟨_, s5⟩
      exact absurd (Heap.lt_size ho) (by rw [q]; exact Nat.lt_irrefl _)
    have at2 : g2.get? s.heap.objs.size = some { cls := .type "tuple", data := .seq #[x, y] } := hs.extBut _ _ (nz z (by simp)).symm z6
    refine ⟨.ref s.heap.objs.size, upd H s.heap.objs.size (.tup [vx, vy]), I1.adopt fp ⟨?_, [x, y], .cons rx (.cons ry .nil), ⟨_, at2, rfl, _, rfl⟩⟩, rfl, ⟨_, vx, vy, rfl, fr, rfl, fun xs' ys' q1 q2 => ?_⟩,
      ⟨zz, hs.extBut _ _ d1 z3, ⟨_, _, hs.extBut _ _ d2 z2⟩, z4.1.extBut hs.extBut d3, z5.1.extBut hs.extBut d4⟩, fun c hc => ?_⟩
    · show 2 ≤ sizeLine
      decide
    · rw [ha] at q1; cases q1
      rw [hb] at q2; cases q2
      exact ⟨hx, hy⟩
    · rw [upd_ne (nz c hc)]
      exact (hf c hc).1
  done := by
    intro X hP hw hK hc i pins s σ H E I hf st hg
    subst hP hw hK
    obtain ⟨xs, ys, ha, hb, hl⟩ := hg
    obtain ⟨s1, s2, s3, s4, s5⟩ := st
    have nf : ∀ {c : Addr} {o : HO}, H c = some o → ∀ e ∈ [z, TI, TO, i1, i2], c ≠ e := fun hcc e he q => by rw [q, (hf e he).1] at hcc; cases hcc
    obtain ⟨its, r1, t1, _⟩ := I.tuple (SqT.of ha)
    obtain ⟨its2, r2, t2, _⟩ := I.tuple (SqT.of hb)
    have D : ZAp z TI TO i1 i2 [i1, a] [i2, b] := by
      refine ⟨d1, d2, d3, d4, d5, d6, d7, d8, d9, d0, ?_, ?_, ?_, ?_, ?_, ?_⟩ <;> simp only [List.mem_cons, List.not_mem_nil, or_false, not_or]
      · exact ⟨d3.symm, (nf ha z (by simp)).symm⟩
      · exact ⟨d4.symm, (nf hb z (by simp)).symm⟩
      · exact ⟨d8, (nf ha TO (by simp)).symm⟩
      · exact ⟨d9, (nf hb TO (by simp)).symm⟩
      · exact ⟨d0, (nf hb i1 (by simp)).symm⟩
      · exact ⟨d0.symm, (nf ha i2 (by simp)).symm⟩
    have hh : X.A.in1.handled = none := I.ok.hd hc
    have e1 : its.toArray.size = xs.length := by rw [List.size_toArray, ← r1.length]
    have e2 : its2.toArray.size = ys.length := by rw [List.size_toArray, ← r2.length]
    refine zip_pyNext_end D (draws_tup hh i1 a (nf ha i1 (by simp)) its.toArray) (draws_tup hh i2 b (nf hb i2 (by simp)) its2.toArray) (by rcases hl with h | ⟨h, h2⟩ <;> omega) ⟨s1, s2, s3, ⟨s4, t1⟩, ⟨s5, t2⟩⟩ fun g tk kp => ⟨rfl, ?_⟩
    exact I.turnedL (l := [z, TO, i1, i2]) (t' := tk) (fun c o hc e => by
      simp only [List.mem_cons, List.not_mem_nil, or_false, not_or] at hc
      exact kp c o hc.1 hc.2.1 hc.2.2.1 hc.2.2.2 e) fun c hc => hf c (by
        simp only [List.mem_cons, List.not_mem_nil, or_false] at hc ⊢
        rcases hc with h | h | h | h <;> simp [h])
  self := fun _ _ _ _ _ st h => wpAny_pyIter_zip st.1 h
section
variable {X : Cx} {es : List Expr} {kt : Nat} {tp : Pos}
def iZip (ta : TA) : TI := fun σ H R => ta σ H fun vs H1 => ∃ a b xs ys, vs = [.ref a, .ref b] ∧ H1 a = some (.tup xs) ∧ H1 b = some (.tup ys) ∧ R (Itz a b) H1
theorem pi_zip {a b : Expr} {ta : TA} {p pos : Pos} (hg : Gl X "zip") (hm : X.mg "zip" = none) (ha : PA X [a, b] ta) (hs : starEach [a, b] X.env = [(false, eval a X.env), (false, eval b X.env)] := by rfl) (hs2 : starEach [b] X.env = [(false, eval b X.env)] := by rfl) :
    PI X (.Tuple es kt tp) (.Call (.Name "zip" p) [a, b] [] pos) (iZip ta) := by
  intro pins s σ H R I h
  refine Call_ (ld_blt I hg hm boot_zip (PyProof.Rows.callWith_type1 (thn (ha pos pins s σ H _ I h) fun us s1 h1 => ?_) (by rw [hs, hs2]) (by rw [hs2]; rfl)))
  obtain ⟨vs, H1, I1, r1, a, b, xs, ys, e, ha, hb, q⟩ := h1
  subst e
  obtain ⟨u, v, rfl, ru, rv⟩ := vals2' r1
  cases ru
  cases rv
  obtain ⟨its, _, t1, _⟩ := I1.tuple (SqT.of ha)
  obtain ⟨its2, _, t2, _⟩ := I1.tuple (SqT.of hb)
  refine call_zip_tups t1 t2 fun h' z1 z2 z3 z4 z5 kp => wpAny_pyIter_zip z1 ?_
  have I2 : Inv X pins σ H1 { s1 with heap := h' } := I1.kept (t' := s1.toks) kp
  have fr : ∀ k : Nat, H1 (s1.heap.objs.size + k) = none := fun k => I1.hok.fresh (Nat.le_add_right _ _)
  refine ⟨s1.heap.objs.size + 4, _, _, Itz a b, H1, rfl, I2, turn_zip a b (s1.heap.objs.size + 4) (s1.heap.objs.size + 2) (s1.heap.objs.size + 3) s1.heap.objs.size (s1.heap.objs.size + 1)
    (nne _ 2 4 (by decide)) (nne _ 3 4 (by decide)) (nne0 _ 4 (by decide)) (nne _ 1 4 (by decide)) (nne _ 2 3 (by decide)) (nne0 _ 2 (by decide)).symm (nne _ 2 1 (by decide)) (nne0 _ 3 (by decide)).symm (nne _ 3 1 (by decide)) (nne0 _ 1 (by decide)), ⟨z1, z2, ⟨_, _, z3⟩, z4, z5⟩, fun c hc => ?_, q⟩
  simp only [List.mem_cons, List.not_mem_nil, or_false] at hc
  rcases hc with rfl | rfl | rfl | rfl | rfl
  · exact I1.fpOk (Nat.le_add_right _ _) (fr 4)
  · exact I1.fpOk (Nat.le_add_right _ _) (fr 2)
  · exact I1.fpOk (Nat.le_add_right _ _) (fr 3)
  · exact I1.fpOk (Nat.le_refl _) (fr 0)
  · exact I1.fpOk (Nat.le_add_right _ _) (fr 1)
end
end L2

namespace L2
open PySem PySem.Spec PyProof.Rows
theorem Same.upd {H : Hp} {p : Addr} {o : HO} (h : H p = none) : Same H (upd H p o) := fun b u e => by
  rw [upd_ne (ne_of_none e h)]
  exact e
def SameBut (p : Addr) (H H' : Hp) : Prop := ∀ b o, b ≠ p → H b = some o → H' b = some o
theorem Same.but {p : Addr} {H H' : Hp} (h : Same H H') : SameBut p H H' := fun b o _ e => h b o e
theorem SameBut.trans {p : Addr} {H H1 H2 : Hp} (a : SameBut p H H1) (b : SameBut p H1 H2) : SameBut p H H2 := fun c o n e => b c o n (a c o n e)
theorem SameBut.upd {p : Addr} {H : Hp} {o : HO} : SameBut p H (upd H p o) := fun b u n e => by rw [upd_ne n]; exact e
section
variable {X : Cx}
theorem call_all_bl (hc : X.calm = true) : CallR X (.builtin "all") (fun xs H Q => ∃ (p : Addr) (bs : List Bool), xs = [.ref p] ∧ SqL X.K H p (bs.map V.bl) ∧ Q (.bl (bs.all id)) H) := by
  intro pins s σ H xs us Q I r h
  obtain ⟨p, bs, rfl, hq, q⟩ := h
  obtain ⟨u, rfl, ru⟩ := vals1 r
  cases ru
  obtain ⟨its, rv, pl, hz⟩ := I.list hq
  have hlen : its.toArray.size = bs.length := by rw [List.size_toArray, ← rv.length, List.length_map]
  have hne : p ≠ s.heap.objs.size := by
    obtain ⟨o, n, e, _⟩ := pl
    exact Nat.ne_of_lt (Heap.lt_size e)
  refine call_all_walk (wpAny_pyIter_list pl.isList ?_)
  refine ⟨s.heap.objs.size, _, _, its.toArray.size, _, _, fun i => bs.getD i false, rfl, Walks.list (A := X.A.in1) (I.ok.hd hc) s.heap.objs.size p hne its.toArray, ⟨⟨_, Heap.get?_push_size _ rfl, rfl, rfl⟩, pl.isList.push _⟩, fun i v t Q' E' hv hQ' => ?_, fun h' tk kp => ?_⟩
  · have hv : its[i]? = some v := by simpa using hv
    have hi : i < bs.length := by
      have := (List.getElem?_eq_some_iff.mp hv).1
      rw [← rv.length, List.length_map] at this
      exact this
    obtain ⟨u, e1, e2⟩ := rv.get (i := i) (x := V.bl bs[i]) (by simp [hi])
    rw [hv] at e1
    cases e1
    have e2 : v = Value.bool bs[i] := e2
    subst e2
    have e3 : bs.getD i false = bs[i] := by simp [hi]
    rw [← e3]
    exact wpAny_truthy_bool hQ'
  · have e : (List.range its.toArray.size).all (fun i => bs.getD i false) = bs.all id := by
      rw [hlen, Bool.eq_iff_iff, List.all_eq_true, List.all_eq_true]
      constructor
      · intro h b hb
        obtain ⟨i, hi, rfl⟩ := List.mem_iff_getElem.mp hb
        have := h i (by simpa using hi)
        simpa [hi] using this
      · intro h i hi
        have hi : i < bs.length := by simpa using hi
        have := h bs[i] (List.getElem_mem hi)
        simpa [hi] using this
    rw [e]
    exact ⟨.bl (bs.all id), H, I.kept (t' := tk) fun b o eb => kp b o (fun z => by
      have z : b = s.heap.objs.size := by simpa using z
      exact absurd (Heap.lt_size eb) (by rw [z]; exact Nat.lt_irrefl _)) (Heap.get?_push_of_some _ eb), rfl, q⟩
theorem call_isinst : CallR X (.builtin "isinstance") (fun xs H Q => ∃ x T t b, xs = [x, .ty T] ∧ TyOf X.K H x t ∧ PySem.W.kitOne X.K t (.type T) = some b ∧ Q (.bl b) H) := by
  intro pins s σ H xs us Q I r h
  obtain ⟨x, T, t, b, rfl, ty, e, q⟩ := h
  obtain ⟨u, v, rfl, ru, rv⟩ := vals2 r
  have rv : v = Value.type T := rv
  subst rv
  exact isinst_ok I ru ty e fun tk => ⟨.bl b, H, I.tok tk, rfl, q⟩
def rEqNil (K : PySem.W.Frag) : R2 := fun x y H Q => ∃ a b xs, x = .ref a ∧ y = .ref b ∧ SqL K H a xs ∧ SqL K H b [] ∧ Q (.bl xs.isEmpty) H
theorem op_eqNil (hu : X.A.units < cLine) : OpR X (compareOp .Eq) (rEqNil X.K) := by
  intro pins s σ H x y v u Q I rx ry h
  obtain ⟨a, b, xs, rfl, rfl, ha, hb, q⟩ := h
  cases rx
  cases ry
  obtain ⟨its, r1, p1, _⟩ := I.list ha
  obtain ⟨its2, r2, p2, _⟩ := I.list hb
  cases r2
  by_cases hx : xs = []
  · subst hx
    cases r1
    exact SeqAt.eq_listAt (e := fun _ => true) p1.isList p2.isList rfl hu (fun j h1 _ => absurd h1 (by simp)) ⟨.bl true, H, I, by simp; rfl, q⟩
  · have e : xs.isEmpty = false := by cases xs with
      | nil => exact absurd rfl hx
      | cons _ _ => rfl
    rw [e] at q
    refine SeqAt.eq_list_lengthsAt p1.isList p2.isList ?_ hu ⟨.bl false, H, I, rfl, q⟩
    have h0 : its.length ≠ 0 := by
      rw [← r1.length]
      exact fun z => hx (List.length_eq_zero_iff.mp z)
    simpa using h0
def rSl2 : V → Option Int → Option Int → Hp → VK → Prop := fun x lo hi H Q => ∃ a xs, x = .ref a ∧ H a = some (.tup xs) ∧ ∀ p H', Same H H' → H' p = some (.tup (cutV xs lo hi)) → Q (.ref p) H'
theorem getItem_tuple_whole {prog : Program} {w : World} {A : Around} {E : Value → Shared → Prop} {s : Shared} {t sl : Addr} {items : Array Value} {vl vu : Value} {lo hi : Option Int} {Q : Value → Shared → Prop} (ht : IsTup s.heap t items) (hs : s.heap.IsSliceOf sl vl vu .none)
    (pl : IsPart vl lo) (pu : IsPart vu hi) (hw : HT.sIx items.size 0 lo = 0 ∧ HT.sIx items.size items.size hi = items.size) (h : Q (.ref t) s) : wpAny (model prog w) A (getItem (.ref t) (.ref sl)) Q E s := by
  obtain ⟨os, hos, hcs, hds⟩ := id hs
  have hTs : s.TypeIs (.ref sl) "slice" := ⟨os, hos, hcs⟩
  unfold getItem
  try with_reducible refine wpAny_holding ?_
  first | refine wpAny_bind (wpAny_pure ?_) | skip
  refine wpAny_bind (wpAny_sequenceKey ht.typeIs (by decide) ?_)
  refine wpAny_bind (wpAny_callSpecial?_slot (name := Str.ofString "__getitem__") ht.typeIs PyProof.Rows.slot_tuple_getitem
    (wpAny_call_entry PyProof.Rows.slot_tuple_getitem ht.typeIs entry_tuple_getitem ?_ (args_tuple_getitem _ _)))
  show wpAny (model prog w) _ (Builtin.Tuple.tupleItemsOf (.ref t) >>= _) _ _ s
  refine wpAny_bind (tupleItemsOf_ ht ?_)
  refine wpAny_bind (wpAny_typeOf hTs ?_)
  rw [if_pos (by decide)]
  refine wpAny_bind (HT.sliceApplied_gen hs pl pu ?_)
  have yes : (((HT.sIx items.size 0 lo : Nat) : Int) == 0 && (1 : Int) == 1 && (HT.sIx items.size items.size hi - HT.sIx items.size 0 lo) == items.size) = true := by
    rw [hw.1, hw.2]
    simp
  show wpAny (model prog w) _ (if (((HT.sIx items.size 0 lo : Nat) : Int) == 0 && (1 : Int) == 1 && (HT.sIx items.size items.size hi - HT.sIx items.size 0 lo) == items.size) = true then _ else _) _ _ s
  rw [if_pos yes]
  have ex : wpAny (model prog w) A.in1 (Builtin.Tuple.tupleIsExact (.ref t)) (fun b t' => b = true ∧ t' = s) E s := by
    unfold Builtin.Tuple.tupleIsExact
    exact wpAny_bind (wpAny_typeOf ht.typeIs (wpAny_pure ⟨rfl, rfl⟩))
  refine wpAny_bind (wpAny_mono ex (fun b t' hb => ?_) fun _ _ z => z)
  obtain ⟨rfl, rfl⟩ := hb
  rw [if_pos rfl]
  exact wpAny_bind (wpAny_rule (wpAny_pure ⟨_, rfl, wpAny_pure h⟩))
theorem sl_tup2 : SlR X rSl2 := by
  intro pins s σ H x v vl vu lo hi sl Q I rx hs pl pu h
  obtain ⟨a, xs, rfl, hx, q⟩ := h
  by_cases hw : HT.sIx xs.length 0 lo = 0 ∧ HT.sIx xs.length xs.length hi = xs.length
  · cases rx
    obtain ⟨its, r, ht, hz⟩ := I.tuple (SqT.of hx)
    have hlen : its.toArray.size = xs.length := by rw [List.size_toArray]; exact r.length.symm
    refine ⟨"tuple", _, PyProof.Rows.slot_tuple_getitem.lookup, ht.typeIs, ?_⟩
    refine getItem_tuple_whole ht hs pl pu (by rw [hlen]; exact hw) ⟨.ref a, H, I, rfl, q a H (Same.refl H) ?_⟩
    have e : cutV xs lo hi = xs := by
      unfold cutV
      rw [hw.1, hw.2]
      simp
    rw [e]
    exact hx
  · exact sl_tup pins s σ H (.ref a) v vl vu lo hi sl Q I rx hs pl pu ⟨a, xs, rfl, SqT.of hx, hw, fun p hp => q p _ (Same.upd hp) upd_same⟩
theorem call_dict_of : CallR X (.type "dict") (fun xs H Q => ∃ a kvs, xs = [.ref a] ∧ H a = some (.dK kvs) ∧ ∀ p, H p = none → Q (.ref p) (upd H p (.dK kvs))) := by
  intro pins s σ H xs us Q I r h
  obtain ⟨a, kvs, rfl, ha, q⟩ := h
  obtain ⟨u, rfl, ru⟩ := vals1 r
  cases ru
  exact d_copyOf I (.inl ha) fun p s' hp I' => ⟨.ref p, _, I', rfl, q p hp⟩
end
end L2

namespace L2
open PySem PySem.Spec PyProof.Rows
structure Kn (P : Program) (w : World) (K : PySem.W.Frag) (mg : Str → Option Value) (base : Heap) (k : Nat) (x : Str) (ps : List Str) (sp : Sp) : Prop where
  ex : ∃ (f : Addr) (fd : FuncData), FnOk P w K mg base CX0 k f fd ps sp ∧ mg x = some (.ref f) ∧ PySem.W.keepIn K (.ref f) = true ∧ Binds K fd ps []
theorem pe_kn {X : Cx} {k : Nat} {x : Str} {ps : List Str} {sp : Sp} {p pos : Pos} {e : Expr} {es : List Expr} {t : TA} (h : Kn X.prog X.w X.K X.mg X.base k x ps sp) (hr : Room k X.A) (ha : PA X (e :: es) t) (hg : Gl X x := by rfl)
    (hdb : (x == ("__debug__" : Str)) = false := by decide) (he : starEach (e :: es) X.env = (false, eval e X.env) :: starEach es X.env := by rfl) (hpl : (backTo pos (starEach es X.env)).any (·.1) = false := by rfl) :
    PE X (.Call (.Name x p) (e :: es) [] pos) (tCall sp [] E0 t) := by
  obtain ⟨f, fd, F, hm, hk, hb⟩ := h.ex
  exact pe_call F hr hg hm hk hb .nil pass0 ha hdb he hpl
theorem pt_call {X : Cx} {f : Expr} {es : List Expr} {ks : List Keyword} {pos : Pos} {t : TE} (h : PE X (.Call f es ks pos) t) : PT X (.Call f es ks pos) (tB t) := pt_val h
structure DefAt (K : PySem.W.Frag) (mg : Str → Option Value) (x : Str) (st : Stmt) (ps : List Str) : Prop where
  ex : ∃ (f : Addr) (fd : FuncData), Fun K x x st f fd ∧ mg x = some (.ref f) ∧ Binds K fd ps []
theorem DefAt.kn {P : Program} {w : World} {K : PySem.W.Frag} {mg : Str → Option Value} {base : Heap} {k : Nat} {x : Str} {st : Stmt} {N ps : List Str} {sp : Sp} (D : DefAt K mg x st ps) (S : FnScope N ps (defScope st)) (len : ∀ vs H Q E, sp vs H Q E → vs.length = ps.length)
    (hbody : ∀ (f : Addr) (cdv : Value) (A : Around) (outer : List Env) (s : Shared) (H : Hp) (vs : List V) (Q : VK) (E : XK), Room k (A.deeper (envOfC x (defScope st) s.heap.objs.size f cdv)) → sp vs H Q E →
      ∃ t, PSs (cxOf CX0 P w K mg base N x (defScope st) f cdv A outer s H E).nox (defBody st) t ∧ t { nx := fun _ H' => Q .non H', rt := Q } (start N vs) H) : Kn P w K mg base (k + 1) x ps sp := by
  obtain ⟨f, fd, F, hm, hb⟩ := D.ex
  exact ⟨f, fd, F.ok S len fun cdv A outer s H vs Q E hr h => hbody f cdv A outer s H vs Q E hr h, hm, F.kp, hb⟩
def Free (mg : Str → Option Value) (l : List Str) : Prop := ∀ x ∈ l, mg x = none

inductive Dat (H : Hp) : V → String → Prop where
  | non : Dat H .non "NoneType"
  | bl (b : Bool) : Dat H (.bl b) "bool"
  | int (i : Int) : Dat H (.int i) "int"
  | str (x : Str) : Dat H (.str x) "str"
  | lst {a : Addr} {xs : List V} (h : H a = some (.lst xs)) : Dat H (.ref a) "list"
  | tup {a : Addr} {xs : List V} (h : H a = some (.tup xs)) : Dat H (.ref a) "tuple"
  | dK {a : Addr} {kvs : List (Key × V)} (h : H a = some (.dK kvs)) : Dat H (.ref a) "dict"
theorem Dat.mono {H H' : Hp} {x : V} {T : String} (s : Same H H') (h : Dat H x T) : Dat H' x T := by
  cases h with
  | non => exact .non
  | bl b => exact .bl b
  | int i => exact .int i
  | str z => exact .str z
  | lst e => exact .lst (s _ _ e)
  | tup e => exact .tup (s _ _ e)
  | dK e => exact .dK (s _ _ e)
theorem Dat.ty {K : PySem.W.Frag} {H : Hp} {x : V} {T : String} (h : Dat H x T) : TyOf K H x (.type T) := by
  cases h with
  | non => exact .non
  | bl b => exact .bl b
  | int i => exact .int i
  | str z => exact .str z
  | lst e => exact .lst e
  | tup e => exact .tup e
  | dK e => exact .dK e
theorem Dat.mem {H : Hp} {x : V} {T : String} (h : Dat H x T) : T ∈ ["NoneType", "bool", "int", "str", "list", "tuple", "dict"] := by
  cases h <;> simp
def kitB (t T : String) : Bool := t == T || (t == "bool" && T == "int")
theorem kit_of (K : PySem.W.Frag) {t T : String} (h : t ∈ ["NoneType", "bool", "int", "str", "list", "tuple", "dict"]) (h' : T ∈ ["int", "bool", "tuple", "list", "str", "dict"]) : PySem.W.kitOne K (.type t) (.type T) = some (kitB t T) := by
  simp only [List.mem_cons, List.not_mem_nil, or_false] at h h'
  rcases h with rfl | rfl | rfl | rfl | rfl | rfl | rfl <;> rcases h' with rfl | rfl | rfl | rfl | rfl | rfl <;> kernel_rfl
theorem call_isi {X : Cx} : CallR X (.builtin "isinstance") (fun xs H Q => ∃ x T T', xs = [x, .ty T] ∧ Dat H x T' ∧ T ∈ ["int", "bool", "tuple", "list", "str", "dict"] ∧ Q (.bl (kitB T' T)) H) := by
  intro pins s σ H xs us Q I r h
  obtain ⟨x, T, T', e, d, m, q⟩ := h
  exact call_isinst pins s σ H xs us Q I r ⟨x, T, .type T', _, e, d.ty, kit_of X.K d.mem m, q⟩
theorem boot_isi : bootBuiltins "isinstance" = some (.builtin "isinstance") := by decide +kernel
theorem boot_tint : bootBuiltins "int" = some (.type "int") := by decide +kernel
theorem boot_tbool : bootBuiltins "bool" = some (.type "bool") := by decide +kernel
theorem boot_ttuple : bootBuiltins "tuple" = some (.type "tuple") := by decide +kernel
theorem boot_tlist : bootBuiltins "list" = some (.type "list") := by decide +kernel
theorem boot_tdict : bootBuiltins "dict" = some (.type "dict") := by decide +kernel
theorem boot_fall : bootBuiltins "all" = some (.builtin "all") := by decide +kernel
theorem boot_fmax : bootBuiltins "max" = some (.builtin "max") := by decide +kernel
theorem boot_fmin : bootBuiltins "min" = some (.builtin "min") := by decide +kernel
theorem boot_fsorted : bootBuiltins "sorted" = some (.builtin "sorted") := by decide +kernel
inductive Thing (H : Hp) : V → Option (List V) → Prop where
  | tup {p : Addr} {ys : List V} (h : H p = some (.tup ys)) (ty : ∀ y ∈ ys, ∃ T, Dat H y T) (z : ys.length ≤ sizeLine) : Thing H (.ref p) (some ys)
  | oth {x : V} {T : String} (h : Dat H x T) (n : T ≠ "tuple") : Thing H x none
theorem Thing.mono {H H' : Hp} {x : V} {o : Option (List V)} (s : Same H H') (h : Thing H x o) : Thing H' x o := by
  cases h with
  | tup h ty z => exact .tup (s _ _ h) (fun y hy => (ty y hy).imp fun t q => q.mono s) z
  | oth h n => exact .oth (h.mono s) n
def Ars (H : Hp) : List V → List (Int × Int) → Prop := Paired fun v p => ∃ q, v = V.ref q ∧ H q = some (.tup [.int p.1, .int p.2])
theorem Ars.mono {H H' : Hp} {vs : List V} {ars : List (Int × Int)} (s : Same H H') (h : Ars H vs ars) : Ars H' vs ars := Paired.mapP h fun _ _ ⟨q, e, z⟩ => ⟨q, e, s _ _ z⟩
structure Web (H : Hp) (a t : Addr) (m : Int) (vs : List V) (ars : List (Int × Int)) : Prop where
  top : H a = some (.tup [.int m, .ref t])
  arr : H t = some (.tup vs)
  ars : Ars H vs ars
  len : vs.length ≤ 1000
  mb : 0 ≤ m ∧ m ≤ 1000
theorem Web.mono {H H' : Hp} {a t : Addr} {m : Int} {vs : List V} {ars : List (Int × Int)} (s : Same H H') (h : Web H a t m vs ars) : Web H' a t m vs ars := ⟨s _ _ h.top, s _ _ h.arr, h.ars.mono s, h.len, h.mb⟩
theorem Paired.get' {α β : Type} {F : α → β → Prop} : ∀ {l : List α} {r : List β} {i : Nat} {x : α}, Paired F l r → l[i]? = some x → ∃ y, r[i]? = some y ∧ F x y
  | _, _, _, _, .nil, e => by simp at e
  | _, _, 0, _, .cons h _, e => by
    simp at e
    subst e
    exact ⟨_, rfl, h⟩
  | _, _, i + 1, x, .cons _ t, e => by
    obtain ⟨y, h1, h2⟩ := Paired.get' (i := i) (x := x) t (by simpa using e)
    exact ⟨y, by simpa using h1, h2⟩
def isI : V → Bool
  | .int _ => true
  | _ => false
def plG (m : Int) : V → Bool
  | .int n => decide (0 ≤ n) && decide (n < m)
  | _ => false
def risesI : List Int → Bool
  | [] => true
  | [_] => true
  | a :: b :: r => decide (a < b) && risesI (b :: r)
def intsOf (ys : List V) : List Int := ys.filterMap fun y => match y with | .int n => some n | _ => none
def plsG (m : Int) : Option (List V) → Bool
  | none => false
  | some ys => ys.all (plG m) && risesI (intsOf ys)
theorem ints_of_all {m : Int} : ∀ {ys : List V}, ys.all (plG m) = true → ys = (intsOf ys).map V.int
  | [], _ => rfl
  | y :: r, h => by
    rw [List.all_cons, Bool.and_eq_true] at h
    cases y with
    | int n =>
      show V.int n :: r = V.int n :: (intsOf r).map V.int
      rw [← ints_of_all h.2]
    | _ => exact absurd h.1 (by simp [plG])
theorem intsOf_map (ns : List Int) : intsOf (ns.map V.int) = ns := by
  induction ns with
  | nil => rfl
  | cons n r ih => show n :: intsOf (r.map V.int) = n :: r; rw [ih]
end L2

namespace L2
open PySem PySem.Spec PyProof.Rows
def Wn (n : Nat) (Pv : Nat → List V → Hp → Prop) (i m : Nat) (zs : List V) (H : Hp) : Prop := m = n - i ∧ i ≤ n ∧ Pv i zs H
theorem nx {n i : Nat} {Pv : Nat → List V → Hp → Prop} {zs : List V} {H : Hp} (hi : i < n) (h : Pv (i + 1) zs H) : ∃ m', m' < n - i ∧ Wn n Pv (i + 1) m' zs H := ⟨n - (i + 1), by omega, rfl, hi, h⟩
section
variable {K : PySem.W.Frag} {g : TG} {tc : TT} {te : TE} {σ : St} {H : Hp} {R : List V → Hp → Prop}
theorem lc_by {J : It} (n : Nat) (Pv : Nat → List V → Hp → Prop) (h0 : Pv 0 [] H) (stop : ∀ zs H, Pv n zs H → J.stop n H ∧ zs.length ≤ sizeLine ∧ R zs H)
    (go : ∀ i zs H, i < n → Pv i zs H → J.go i H ∧ zs.length ≤ sizeLine ∧ ∀ x H', J.yld i H x H' → g x σ H' fun σ2 H2 => tc σ2 H2 fun b H3 =>
      if b = true then te σ2 H3 fun y H4 => ∃ m', m' < n - i ∧ Wn n Pv (i + 1) m' (zs ++ [y]) H4 else ∃ m', m' < n - i ∧ Wn n Pv (i + 1) m' zs H3) :
    ∃ W : Nat → Nat → List V → Hp → Prop, (∃ m, W 0 m [] H) ∧ ∀ i m ys H, W i m ys H → (J.stop i H ∧ ys.length ≤ sizeLine ∧ R ys H) ∨
      (J.go i H ∧ ys.length ≤ sizeLine ∧ ∀ x H', J.yld i H x H' → g x σ H' fun σ2 H2 => tc σ2 H2 fun b H3 =>
        if b = true then te σ2 H3 fun y H4 => ∃ m', m' < m ∧ W (i + 1) m' (ys ++ [y]) H4 else ∃ m', m' < m ∧ W (i + 1) m' ys H3) := by
  refine ⟨Wn n Pv, ⟨n, rfl, Nat.zero_le _, h0⟩, ?_⟩
  rintro i m ys H ⟨rfl, hi, p⟩
  by_cases hlt : i < n
  · exact .inr (go i ys H hlt p)
  · have e : i = n := by omega
    subst e
    exact .inl (stop ys H p)
theorem lc_tup {a : Addr} {xs : List V} (Pv : Nat → List V → Hp → Prop) (h0 : Pv 0 [] H) (hl : ∀ i zs H, i ≤ xs.length → Pv i zs H → SqT K H a xs ∧ zs.length ≤ sizeLine) (hd : ∀ zs H, Pv xs.length zs H → R zs H)
    (hs : ∀ i x zs H, xs[i]? = some x → i < xs.length → Pv i zs H → g x σ H fun σ2 H2 => tc σ2 H2 fun b H3 =>
      if b = true then te σ2 H3 fun y H4 => ∃ m', m' < xs.length - i ∧ Wn xs.length Pv (i + 1) m' (zs ++ [y]) H4 else ∃ m', m' < xs.length - i ∧ Wn xs.length Pv (i + 1) m' zs H3) :
    ∃ W : Nat → Nat → List V → Hp → Prop, (∃ m, W 0 m [] H) ∧ ∀ i m ys H, W i m ys H → ((Itt K a).stop i H ∧ ys.length ≤ sizeLine ∧ R ys H) ∨
      ((Itt K a).go i H ∧ ys.length ≤ sizeLine ∧ ∀ x H', (Itt K a).yld i H x H' → g x σ H' fun σ2 H2 => tc σ2 H2 fun b H3 =>
        if b = true then te σ2 H3 fun y H4 => ∃ m', m' < m ∧ W (i + 1) m' (ys ++ [y]) H4 else ∃ m', m' < m ∧ W (i + 1) m' ys H3) := by
  refine lc_by xs.length Pv h0 (fun zs H p => ?_) (fun i zs H hi p => ?_)
  · obtain ⟨q, z⟩ := hl _ zs H (Nat.le_refl _) p
    exact ⟨⟨xs, q, Nat.le_refl _⟩, z, hd zs H p⟩
  · obtain ⟨q, z⟩ := hl i zs H (Nat.le_of_lt hi) p
    refine ⟨⟨xs, xs[i], q, by simp [hi]⟩, z, fun x H' y => ?_⟩
    obtain ⟨e, y⟩ := y
    subst e
    exact hs i x zs _ (y xs q) hi p
theorem lc_list {a : Addr} {xs : List V} (Pv : Nat → List V → Hp → Prop) (h0 : Pv 0 [] H) (hl : ∀ i zs H, i ≤ xs.length → Pv i zs H → SqL K H a xs ∧ zs.length ≤ sizeLine) (hd : ∀ zs H, Pv xs.length zs H → R zs H)
    (hs : ∀ i x zs H, xs[i]? = some x → i < xs.length → Pv i zs H → g x σ H fun σ2 H2 => tc σ2 H2 fun b H3 =>
      if b = true then te σ2 H3 fun y H4 => ∃ m', m' < xs.length - i ∧ Wn xs.length Pv (i + 1) m' (zs ++ [y]) H4 else ∃ m', m' < xs.length - i ∧ Wn xs.length Pv (i + 1) m' zs H3) :
    ∃ W : Nat → Nat → List V → Hp → Prop, (∃ m, W 0 m [] H) ∧ ∀ i m ys H, W i m ys H → ((Itl K a).stop i H ∧ ys.length ≤ sizeLine ∧ R ys H) ∨
      ((Itl K a).go i H ∧ ys.length ≤ sizeLine ∧ ∀ x H', (Itl K a).yld i H x H' → g x σ H' fun σ2 H2 => tc σ2 H2 fun b H3 =>
        if b = true then te σ2 H3 fun y H4 => ∃ m', m' < m ∧ W (i + 1) m' (ys ++ [y]) H4 else ∃ m', m' < m ∧ W (i + 1) m' ys H3) := by
  refine lc_by xs.length Pv h0 (fun zs H p => ?_) (fun i zs H hi p => ?_)
  · obtain ⟨q, z⟩ := hl _ zs H (Nat.le_refl _) p
    exact ⟨⟨xs, q, Nat.le_refl _⟩, z, hd zs H p⟩
  · obtain ⟨q, z⟩ := hl i zs H (Nat.le_of_lt hi) p
    refine ⟨⟨xs, xs[i], q, by simp [hi]⟩, z, fun x H' y => ?_⟩
    obtain ⟨e, y⟩ := y
    subst e
    exact hs i x zs _ (y xs q) hi p
theorem lc_range {lo : Int} {n : Nat} (Pv : Nat → List V → Hp → Prop) (h0 : Pv 0 [] H) (hl : ∀ i zs H, i ≤ n → Pv i zs H → zs.length ≤ sizeLine) (hd : ∀ zs H, Pv n zs H → R zs H)
    (hs : ∀ i zs H, i < n → Pv i zs H → g (.int (lo + i)) σ H fun σ2 H2 => tc σ2 H2 fun b H3 =>
      if b = true then te σ2 H3 fun y H4 => ∃ m', m' < n - i ∧ Wn n Pv (i + 1) m' (zs ++ [y]) H4 else ∃ m', m' < n - i ∧ Wn n Pv (i + 1) m' zs H3) :
    ∃ W : Nat → Nat → List V → Hp → Prop, (∃ m, W 0 m [] H) ∧ ∀ i m ys H, W i m ys H → ((Itr lo n).stop i H ∧ ys.length ≤ sizeLine ∧ R ys H) ∨
      ((Itr lo n).go i H ∧ ys.length ≤ sizeLine ∧ ∀ x H', (Itr lo n).yld i H x H' → g x σ H' fun σ2 H2 => tc σ2 H2 fun b H3 =>
        if b = true then te σ2 H3 fun y H4 => ∃ m', m' < m ∧ W (i + 1) m' (ys ++ [y]) H4 else ∃ m', m' < m ∧ W (i + 1) m' ys H3) := by
  refine lc_by n Pv h0 (fun zs H p => ⟨Nat.le_refl _, hl _ zs H (Nat.le_refl _) p, hd zs H p⟩) (fun i zs H hi p => ⟨hi, hl i zs H (Nat.le_of_lt hi) p, fun x H' y => ?_⟩)
  obtain ⟨e, y⟩ := y
  subst e y
  exact hs i zs _ hi p
theorem lc_zip {a b : Addr} {xs ys : List V} (hxy : ys.length + 1 = xs.length ∨ (xs.length = 0 ∧ ys.length = 0) ∨ ys.length = xs.length) (Pv : Nat → List V → Hp → Prop) (h0 : Pv 0 [] H)
    (hl : ∀ i zs H, i ≤ ys.length → Pv i zs H → H a = some (.tup xs) ∧ H b = some (.tup ys) ∧ zs.length ≤ sizeLine) (hd : ∀ zs H, Pv ys.length zs H → R zs H)
    (hs : ∀ i v w zs H p, xs[i]? = some v → ys[i]? = some w → i < ys.length → Pv i zs H → H p = none → g (.ref p) σ (upd H p (.tup [v, w])) fun σ2 H2 => tc σ2 H2 fun b H3 =>
      if b = true then te σ2 H3 fun y H4 => ∃ m', m' < ys.length - i ∧ Wn ys.length Pv (i + 1) m' (zs ++ [y]) H4 else ∃ m', m' < ys.length - i ∧ Wn ys.length Pv (i + 1) m' zs H3) :
    ∃ W : Nat → Nat → List V → Hp → Prop, (∃ m, W 0 m [] H) ∧ ∀ i m ys H, W i m ys H → ((Itz a b).stop i H ∧ ys.length ≤ sizeLine ∧ R ys H) ∨
      ((Itz a b).go i H ∧ ys.length ≤ sizeLine ∧ ∀ x H', (Itz a b).yld i H x H' → g x σ H' fun σ2 H2 => tc σ2 H2 fun b H3 =>
        if b = true then te σ2 H3 fun y H4 => ∃ m', m' < m ∧ W (i + 1) m' (ys ++ [y]) H4 else ∃ m', m' < m ∧ W (i + 1) m' ys H3) := by
  refine lc_by ys.length Pv h0 (fun zs H p => ?_) (fun i zs H hi p => ?_)
  · obtain ⟨q1, q2, z⟩ := hl _ zs H (Nat.le_refl _) p
    exact ⟨⟨xs, ys, q1, q2, by omega⟩, z, hd zs H p⟩
  · obtain ⟨q1, q2, z⟩ := hl i zs H (Nat.le_of_lt hi) p
    refine ⟨⟨xs, ys, q1, q2, by omega, hi⟩, z, fun x H' y => ?_⟩
    obtain ⟨p', v, w, e1, e2, e3, y⟩ := y
    subst e1 e3
    obtain ⟨y1, y2⟩ := y xs ys q1 q2
    exact hs i v w zs H p' y1 y2 hi p e2
end
section
variable {K : PySem.W.Frag} {g : TG} {te : TE} {σ : St} {H : Hp} {R : List V → Hp → Prop}
theorem lc_tup0 {a : Addr} {xs : List V} (Pv : Nat → List V → Hp → Prop) (h0 : Pv 0 [] H) (hl : ∀ i zs H, i ≤ xs.length → Pv i zs H → SqT K H a xs ∧ zs.length ≤ sizeLine) (hd : ∀ zs H, Pv xs.length zs H → R zs H)
    (hs : ∀ i x zs H, xs[i]? = some x → i < xs.length → Pv i zs H → g x σ H fun σ2 H2 => te σ2 H2 fun y H4 => ∃ m', m' < xs.length - i ∧ Wn xs.length Pv (i + 1) m' (zs ++ [y]) H4) :
    ∃ W : Nat → Nat → List V → Hp → Prop, (∃ m, W 0 m [] H) ∧ ∀ i m ys H, W i m ys H → ((Itt K a).stop i H ∧ ys.length ≤ sizeLine ∧ R ys H) ∨
      ((Itt K a).go i H ∧ ys.length ≤ sizeLine ∧ ∀ x H', (Itt K a).yld i H x H' → g x σ H' fun σ2 H2 => tYes σ2 H2 fun b H3 =>
        if b = true then te σ2 H3 fun y H4 => ∃ m', m' < m ∧ W (i + 1) m' (ys ++ [y]) H4 else ∃ m', m' < m ∧ W (i + 1) m' ys H3) := lc_tup (tc := tYes) Pv h0 hl hd hs
theorem lc_list0 {a : Addr} {xs : List V} (Pv : Nat → List V → Hp → Prop) (h0 : Pv 0 [] H) (hl : ∀ i zs H, i ≤ xs.length → Pv i zs H → SqL K H a xs ∧ zs.length ≤ sizeLine) (hd : ∀ zs H, Pv xs.length zs H → R zs H)
    (hs : ∀ i x zs H, xs[i]? = some x → i < xs.length → Pv i zs H → g x σ H fun σ2 H2 => te σ2 H2 fun y H4 => ∃ m', m' < xs.length - i ∧ Wn xs.length Pv (i + 1) m' (zs ++ [y]) H4) :
    ∃ W : Nat → Nat → List V → Hp → Prop, (∃ m, W 0 m [] H) ∧ ∀ i m ys H, W i m ys H → ((Itl K a).stop i H ∧ ys.length ≤ sizeLine ∧ R ys H) ∨
      ((Itl K a).go i H ∧ ys.length ≤ sizeLine ∧ ∀ x H', (Itl K a).yld i H x H' → g x σ H' fun σ2 H2 => tYes σ2 H2 fun b H3 =>
        if b = true then te σ2 H3 fun y H4 => ∃ m', m' < m ∧ W (i + 1) m' (ys ++ [y]) H4 else ∃ m', m' < m ∧ W (i + 1) m' ys H3) := lc_list (tc := tYes) Pv h0 hl hd hs
theorem lc_range0 {lo : Int} {n : Nat} (Pv : Nat → List V → Hp → Prop) (h0 : Pv 0 [] H) (hl : ∀ i zs H, i ≤ n → Pv i zs H → zs.length ≤ sizeLine) (hd : ∀ zs H, Pv n zs H → R zs H)
    (hs : ∀ i zs H, i < n → Pv i zs H → g (.int (lo + i)) σ H fun σ2 H2 => te σ2 H2 fun y H4 => ∃ m', m' < n - i ∧ Wn n Pv (i + 1) m' (zs ++ [y]) H4) :
    ∃ W : Nat → Nat → List V → Hp → Prop, (∃ m, W 0 m [] H) ∧ ∀ i m ys H, W i m ys H → ((Itr lo n).stop i H ∧ ys.length ≤ sizeLine ∧ R ys H) ∨
      ((Itr lo n).go i H ∧ ys.length ≤ sizeLine ∧ ∀ x H', (Itr lo n).yld i H x H' → g x σ H' fun σ2 H2 => tYes σ2 H2 fun b H3 =>
        if b = true then te σ2 H3 fun y H4 => ∃ m', m' < m ∧ W (i + 1) m' (ys ++ [y]) H4 else ∃ m', m' < m ∧ W (i + 1) m' ys H3) := lc_range (tc := tYes) Pv h0 hl hd hs
theorem lc_zip0 {a b : Addr} {xs ys : List V} (hxy : ys.length + 1 = xs.length ∨ (xs.length = 0 ∧ ys.length = 0) ∨ ys.length = xs.length) (Pv : Nat → List V → Hp → Prop) (h0 : Pv 0 [] H)
    (hl : ∀ i zs H, i ≤ ys.length → Pv i zs H → H a = some (.tup xs) ∧ H b = some (.tup ys) ∧ zs.length ≤ sizeLine) (hd : ∀ zs H, Pv ys.length zs H → R zs H)
    (hs : ∀ i v w zs H p, xs[i]? = some v → ys[i]? = some w → i < ys.length → Pv i zs H → H p = none → g (.ref p) σ (upd H p (.tup [v, w])) fun σ2 H2 => te σ2 H2 fun y H4 => ∃ m', m' < ys.length - i ∧ Wn ys.length Pv (i + 1) m' (zs ++ [y]) H4) :
    ∃ W : Nat → Nat → List V → Hp → Prop, (∃ m, W 0 m [] H) ∧ ∀ i m ys H, W i m ys H → ((Itz a b).stop i H ∧ ys.length ≤ sizeLine ∧ R ys H) ∨
      ((Itz a b).go i H ∧ ys.length ≤ sizeLine ∧ ∀ x H', (Itz a b).yld i H x H' → g x σ H' fun σ2 H2 => tYes σ2 H2 fun b H3 =>
        if b = true then te σ2 H3 fun y H4 => ∃ m', m' < m ∧ W (i + 1) m' (ys ++ [y]) H4 else ∃ m', m' < m ∧ W (i + 1) m' ys H3) := lc_zip (tc := tYes) hxy Pv h0 hl hd hs
end
theorem take_snoc {α : Type} (l : List α) (i : Nat) (x : α) (h : l[i]? = some x) : l.take (i + 1) = l.take i ++ [x] := by
  rw [List.take_add_one, h]
  rfl
theorem rises_zip : ∀ ns : List Int, ((ns.zip (ns.drop 1)).map fun p => decide (p.1 < p.2)).all id = risesI ns
  | [] => rfl
  | [_] => rfl
  | a :: b :: r => by
    have ih := rises_zip (b :: r)
    show (decide (a < b) :: ((b :: r).zip r).map fun p => decide (p.1 < p.2)).all id = (decide (a < b) && risesI (b :: r))
    rw [List.all_cons, ← ih]
    rfl
theorem cut1 (ns : List Int) : cutV (ns.map V.int) (some 1) none = (ns.drop 1).map V.int := by
  unfold cutV
  have e1 : HT.sIx (ns.map V.int).length 0 (some 1) = min 1 (ns.map V.int).length := HT.sIx_nat _ 0 1
  have e2 : HT.sIx (ns.map V.int).length (ns.map V.int).length none = (ns.map V.int).length := rfl
  rw [e1, e2]
  cases ns with
  | nil => rfl
  | cons n r =>
    simp
    rw [List.take_of_length_le (by simp)]
end L2

namespace L2
open PySem PySem.Calls PySem.Spec PyProof.Rows
def RawD (h : Heap) (d : Addr) (es : Array DictEntry) (ep : Nat) : Prop := ∃ o, h.get? d = some o ∧ o.ExactDict ∧ o.data = .dict es ep
section
variable {prog : Program} {w : World} {A : Around} {E : Value → Shared → Prop} {s : Shared} {d it : Addr} {es : Array DictEntry} {ep i : Nat}
theorem RawD.ty (h : RawD s.heap d es ep) : s.TypeIs (.ref d) "dict" := let ⟨o, a, b, _⟩ := h; ⟨o, a, b.1⟩
theorem raw_iter {Q : Value → Shared → Prop} (hd : (d == sysModules) = false) (hm : RawD s.heap d es ep)
    (q : Q (.ref s.heap.objs.size) { s with heap := s.heap.push { cls := .type "dict_keyiterator", data := .fields #[.ref d, .int 0 0, .int es.size 0, .int ep 0] } }) :
    wpAny (model prog w) A (pyIter (.ref d)) Q E s := by
  have hT := hm.ty
  obtain ⟨o, h1, h2, h3⟩ := id hm
  refine wpAny_pyIter_slot hT F.slot_dict_iter (wpAny_call_entry F.slot_dict_iter hT F.entry_dict_iter ?_ (F.args_dict_iter_1 _))
  unfold Builtin.«dict.__iter__»
  refine wpAny_bind ?_
  unfold Builtin.Dict.dictSlotNone
  refine wpAny_bind (wpAny_notOrdered_dict hT ?_)
  show wpAny (model prog w) _ (pure (Value.ref d)) _ _ s
  refine wpAny_pure ?_
  show wpAny (model prog w) _ (Builtin.Dict.showsAll d >>= _) _ _ s
  unfold Builtin.Dict.showsAll
  rw [if_neg (by rw [hd]; exact Bool.false_ne_true)]
  refine wpAny_bind (wpAny_pure ?_)
  refine wpAny_bind (wpAny_dictEntries h1 h3 ?_)
  refine wpAny_bind (wpAny_dictEpoch h1 h3 ?_)
  exact wpAny_bind (wpAny_newObj_type (wpAny_pure ⟨_, rfl, "dict_keyiterator", _, ⟨_, Heap.get?_push_size _ rfl, rfl⟩, F.slot_dict_keyiterator_next.lookup, q⟩))
theorem raw_next {Q : Option Value → Shared → Prop} (hi : s.heap.IsKeyIter it d i es.size ep) (hm : RawD s.heap d es ep) (hx : i < es.size)
    (q : ∀ h', h'.IsKeyIter it d (i + 1) es.size ep → Heap.SameBut it s.heap h' → Q (some es[i].key) { s with heap := h' }) : wpAny (model prog w) A (pyNext (.ref it)) Q E s := by
  obtain ⟨o, a1, a2, a3⟩ := id hi
  obtain ⟨od, b1, b2, b3⟩ := id hm
  unfold pyNext
  refine wpAny_bind (wpAny_attempt (wpAny_callSpecial?_slot (name := Str.ofString "__next__") hi.typeIs F.slot_dict_keyiterator_next
    (wpAny_call_entry F.slot_dict_keyiterator_next hi.typeIs F.entry_dict_keyiterator_next ?_ (F.args_dict_keyiterator_next_1 _))))
  refine wpAny_bind (wpAny_pure ?_)
  refine wpAny_bind ?_
  refine wpAny_bind ?_
  first | refine wpAny_bind (wpAny_typeNameOfWhole_keyiter hi.typeIs (wpAny_pure ?_)) | refine wpAny_bind (wpAny_typeNameOf_keyiter hi.typeIs (wpAny_pure ?_))
  refine wpAny_bind (wpAny_fieldsOf a1 a3 ?_)
  have own : Builtin.Dict_items.ownsTuple "dict_keyiterator" = false := by decide
  simp only [own, Bool.false_eq_true, if_false]
  show wpAny (model prog w) _ (if (Value.ref d == Value.none) = true then _ else _) _ _ s
  rw [if_neg (show ¬ (Value.ref d == Value.none) = true from Bool.false_ne_true)]
  refine wpAny_bind (wpAny_pure ?_)
  refine wpAny_bind (wpAny_dictEntries b1 b3 ?_)
  rw [if_neg (by simp)]
  refine wpAny_bind (wpAny_pure ?_)
  refine wpAny_bind (wpAny_dictEpoch b1 b3 ?_)
  rw [if_neg (by simp)]
  refine wpAny_pure ?_
  simp only [show ¬ ((i : Int) < 0) from by omega, if_false, Int.toNat_natCast, Array.getElem?_eq_getElem hx]
  refine wpAny_bind ?_
  first | refine wpAny_bind (wpAny_typeNameOfWhole_keyiter hi.typeIs (wpAny_pure ?_)) | refine wpAny_bind (wpAny_typeNameOf_keyiter hi.typeIs (wpAny_pure ?_))
  refine wpAny_bind (wpAny_isOneOf_keyiter hi.typeIs ?_)
  show wpAny (model prog w) _ (setField (.ref it) 1 (rawInt ((i : Int) + 1)) >>= _) _ _ s
  refine wpAny_bind (wpAny_setField a1 a3 (by simp) ?_)
  have nxt : (s.heap.update it (Obj.mapFields (·.setIfInBounds 1 (rawInt ((i : Int) + 1))))).IsKeyIter it d (i + 1) es.size ep :=
    ⟨_, Heap.get?_update_self _ a1 (Obj.isFreed_of_fields (Obj.data_mapFields a3 _)), (Obj.cls_mapFields ..).trans a2, by rw [Obj.data_mapFields a3]; simp [rawInt]⟩
  refine wpAny_bind (wpAny_holding ?_)
  refine wpAny_bind (wpAny_isOneOf_keyiter (s := { s with heap := s.heap.update it (Obj.mapFields (·.setIfInBounds 1 (rawInt ((i : Int) + 1)))) }) nxt.typeIs ?_)
  show wpAny (model prog w) _ (pure es[i].key) _ _ _
  exact wpAny_pure (wpAny_pure ⟨_, rfl, wpAny_pure (q _ nxt (Heap.SameBut.update ..))⟩)
theorem raw_end {Q : Option Value → Shared → Prop} (hh : A.handled = none) (hi : s.heap.IsKeyIter it d es.size es.size ep) (hm : RawD s.heap d es ep)
    (q : ∀ h', Heap.ExtBut it s.heap h' → Q none { s with heap := h' }) : wpAny (model prog w) A (pyNext (.ref it)) Q E s := by
  obtain ⟨o, a1, a2, a3⟩ := id hi
  obtain ⟨od, b1, b2, b3⟩ := id hm
  unfold pyNext
  refine wpAny_bind (wpAny_attempt (wpAny_callSpecial?_slot (name := Str.ofString "__next__") hi.typeIs F.slot_dict_keyiterator_next
    (wpAny_call_entry F.slot_dict_keyiterator_next hi.typeIs F.entry_dict_keyiterator_next ?_ (F.args_dict_keyiterator_next_1 _))))
  refine wpAny_bind (wpAny_pure ?_)
  refine wpAny_bind ?_
  refine wpAny_bind ?_
  first | refine wpAny_bind (wpAny_typeNameOfWhole_keyiter hi.typeIs (wpAny_pure ?_)) | refine wpAny_bind (wpAny_typeNameOf_keyiter hi.typeIs (wpAny_pure ?_))
  refine wpAny_bind (wpAny_fieldsOf a1 a3 ?_)
  have own : Builtin.Dict_items.ownsTuple "dict_keyiterator" = false := by decide
  simp only [own, Bool.false_eq_true, if_false]
  show wpAny (model prog w) _ (if (Value.ref d == Value.none) = true then _ else _) _ _ s
  rw [if_neg (show ¬ (Value.ref d == Value.none) = true from Bool.false_ne_true)]
  refine wpAny_bind (wpAny_pure ?_)
  refine wpAny_bind (wpAny_dictEntries b1 b3 ?_)
  rw [if_neg (by simp)]
  refine wpAny_bind (wpAny_pure ?_)
  refine wpAny_bind (wpAny_dictEpoch b1 b3 ?_)
  rw [if_neg (by simp)]
  refine wpAny_pure ?_
  simp only [show ¬ ((es.size : Int) < 0) from by omega, if_false, Int.toNat_natCast, Array.getElem?_eq_none (Nat.le_refl es.size)]
  refine wpAny_bind ?_
  first | refine wpAny_bind (wpAny_typeNameOfWhole_keyiter hi.typeIs (wpAny_pure ?_)) | refine wpAny_bind (wpAny_typeNameOf_keyiter hi.typeIs (wpAny_pure ?_))
  show wpAny (model prog w) _ (setField (.ref it) 0 .none >>= _) _ _ s
  refine wpAny_bind (wpAny_setField a1 a3 (by simp) ?_)
  show wpAny (model prog w) _ (newExc (.type "StopIteration") [] >>= _) _ _ _
  refine wpAny_bind ?_
  simp only [newExc, newTuple]
  refine wpAny_bind (wpAny_newObj_type ?_ (by size_fits))
  refine wpAny_bind (m := firstArgMember _ _) (wpAny_of_eq (a := Value.none) (by first | rfl | (simp only [firstArgMember]; rfl)) ?_)
  refine wpAny_newObj_type ?_ (by size_fits)
  simp only [raiseNew]
  refine wpAny_bind (wpAny_handled ?_)
  rw [show A.in1.handled = none from hh]
  refine wpAny_bind (wpAny_pure (wpAny_throw ?_))
  refine wpAny_bind (wpAny_isInstance (T := "StopIteration") (b := true) ⟨_, Heap.get?_push_size _ rfl, rfl⟩ isSubtype_stop ?_)
  exact wpAny_pure (q _ (((Heap.SameBut.update ..).extBut.push _).push _))
theorem raw_walks (hh : A.handled = none) (it d : Addr) (hne : d ≠ it) (es : Array DictEntry) (ep : Nat) :
    Walks prog w A it [it, d] [it] es.size (fun i v => ∃ e, es[i]? = some e ∧ v = e.key) (fun i h => h.IsKeyIter it d i es.size ep ∧ RawD h d es ep) where
  sub := fun b hb => by simp at hb; simp [hb]
  frame := fun _ _ _ st hk => ⟨st.1.at fun o e => hk it (by simp) o e, let ⟨o, a, r⟩ := st.2; ⟨o, hk d (by simp) o a, r⟩⟩
  item := fun i s Q E hi st hQ => by
    refine raw_next st.1 st.2 hi fun h' a b => ?_
    exact hQ _ h' s.toks ⟨es[i], by simp [hi], rfl⟩ ⟨a, let ⟨o, x, r⟩ := st.2; ⟨o, b.extBut d o hne x, r⟩⟩ fun c o hc e => b.extBut c o (fun z => hc (by simp [z])) e
  done := fun s Q E st hQ => raw_end hh st.1 st.2 fun h' x => hQ h' s.toks fun b o hb e => x b o (fun z => hb (by simp [z])) e
  self := fun _ _ _ _ st hQ => wpAny_pyIter_keyiter st.1 hQ
theorem raw_src (hd : (d == sysModules) = false) (es : Array DictEntry) (ep : Nat) : PySem.W.KdlSrc prog w "dict" d d es.size (fun i v => ∃ e, es[i]? = some e ∧ v = e.key) (fun h => RawD h d es ep) where
  type := fun _ hm => hm.ty
  there := fun _ hm => let ⟨_, a, _⟩ := hm; ⟨Heap.lt_size a, Heap.lt_size a⟩
  keep := fun _ _ hm hk => let ⟨o, a, r⟩ := hm; ⟨o, hk d (.inl rfl) o a, r⟩
  notList := by decide
  notTuple := by decide
  hint := fun _ _ _ _ hm hq => PySem.W.kdl_hint_dict hm.ty hq
  iter := fun _ _ hh hm => ⟨_, _, (fun _ _ hq => raw_iter hd hm hq), raw_walks hh _ d (let ⟨_, a, _⟩ := hm; Nat.ne_of_lt (Heap.lt_size a)) es ep, ⟨⟨_, Heap.get?_push_size _ rfl, rfl, rfl⟩, let ⟨o, a, r⟩ := hm; ⟨o, Heap.get?_push_of_some _ a, r⟩⟩⟩
end
end L2

namespace Tim
open PySem PyProof.Rows
structure Ok (κ : SortKind) (a0 : Array Keyed) (st : SortSt) : Prop where
  kind : kindOf st = κ
  fail : failedOf st = none
  perm : (arrOf st).Perm a0
def gallop' : Bool → Keyed → Array Keyed → Nat → Nat → Nat → StateT SortSt Sem (Option Nat) := sortPriv% PySem.Builtin.gallop
def mergeLo' : Array Keyed → Array Keyed → StateT SortSt Sem (Array Keyed) := sortPriv% PySem.Builtin.mergeLo
def mergeHi' : Array Keyed → Array Keyed → StateT SortSt Sem (Array Keyed) := sortPriv% PySem.Builtin.mergeHi
section
variable {prog : Program} {w : World} {A : Around} {E : Value → Shared → Prop} {s : Shared} {κ : SortKind} {a0 : Array Keyed}
theorem elem_ok {arr : Array Keyed} {i : Nat} {st : SortSt} {Q : Keyed → SortSt → Prop} (h : i < arr.size) (q : Q arr[i] st) : wpS (model prog w) A E s (elem' arr i) Q st := by
  rw [elem'_eq, Array.getElem?_eq_getElem h]
  exact wpS_pure q
def In (a0 arr : Array Keyed) : Prop := ∀ x ∈ arr, x ∈ a0
def PL (a b out : Array Keyed) (ia ib : Nat) : Prop := (out.toList ++ (a.toList.drop ia ++ b.toList.drop ib)).Perm (a.toList ++ b.toList)
theorem drop_ex (a : Array Keyed) (i k : Nat) (h : i ≤ k) : a.toList.drop i = (a.extract i k).toList ++ a.toList.drop k := by
  rw [Array.toList_extract, List.extract_eq_take_drop]
  have e : a.toList.drop k = (a.toList.drop i).drop (k - i) := by
    rw [List.drop_drop]
    congr 1
    omega
  rw [e, List.take_append_drop]
theorem ext_all (a : Array Keyed) (i : Nat) : (a.extract i a.size).toList = a.toList.drop i := by
  rw [Array.toList_extract, List.extract_eq_take_drop]
  exact List.take_of_length_le (by simp)
section
variable {a b out : Array Keyed} {ia ib : Nat}
theorem PL.takeA (h : PL a b out ia ib) (k : Nat) : PL a b (out ++ a.extract ia (ia + k)) (ia + k) ib := by
  unfold PL at h ⊢
  rw [drop_ex a ia (ia + k) (by omega)] at h
  simpa using h
theorem PL.takeB (h : PL a b out ia ib) (k : Nat) : PL a b (out ++ b.extract ib (ib + k)) ia (ib + k) := by
  unfold PL at h ⊢
  rw [drop_ex b ib (ib + k) (by omega)] at h
  refine List.Perm.trans ?_ h
  simp only [Array.toList_append, List.append_assoc]
  refine List.Perm.append_left _ ?_
  rw [← List.append_assoc, ← List.append_assoc]
  exact List.Perm.append_right _ List.perm_append_comm
theorem PL.pushA (h : PL a b out ia ib) (hi : ia < a.size) : PL a b (out.push a[ia]) (ia + 1) ib := by
  unfold PL at h ⊢
  rw [List.drop_eq_getElem_cons (by simpa using hi)] at h
  simpa using h
theorem PL.pushB (h : PL a b out ia ib) (hi : ib < b.size) : PL a b (out.push b[ib]) ia (ib + 1) := by
  unfold PL at h ⊢
  rw [List.drop_eq_getElem_cons (l := b.toList) (by simpa using hi)] at h
  refine List.Perm.trans ?_ h
  simp only [Array.toList_push, List.append_assoc, List.singleton_append]
  refine List.Perm.append_left _ ?_
  simpa using List.perm_middle.symm
theorem PL.done (h : PL a b out ia ib) : (out ++ a.extract ia a.size ++ b.extract ib b.size).Perm (a ++ b) := by
  unfold PL at h
  rw [Array.perm_iff_toList_perm]
  simp only [Array.toList_append, ext_all, List.append_assoc]
  exact h
theorem PL.last (h : PL a b out ia ib) : (out ++ b.extract ib b.size ++ a.extract ia a.size).Perm (a ++ b) := by
  unfold PL at h
  rw [Array.perm_iff_toList_perm]
  simp only [Array.toList_append, ext_all, List.append_assoc]
  exact (List.Perm.append_left _ List.perm_append_comm).trans h
end
structure SI (κ : SortKind) (a0 : Array Keyed) (st st' : SortSt) : Prop where
  ok : Ok κ a0 st'
  pend : pendingOf st' = pendingOf st
  arr : arrOf st' = arrOf st
def PH (a b out : Array Keyed) (na nb : Nat) : Prop := ((a.toList.take na ++ b.toList.take nb) ++ out.toList.reverse).Perm (a.toList ++ b.toList)
theorem take_ex (a : Array Keyed) (i k : Nat) (h : i ≤ k) : a.toList.take k = a.toList.take i ++ (a.extract i k).toList := by
  rw [Array.toList_extract, List.extract_eq_take_drop]
  have e : k = i + (k - i) := by omega
  conv => lhs; rw [e, List.take_add]
theorem take_last (a : Array Keyed) (n : Nat) (h0 : 0 < n) (h : n - 1 < a.size) : a.toList.take n = a.toList.take (n - 1) ++ [a[n - 1]] := by
  have e : n = (n - 1) + 1 := by omega
  conv => lhs; rw [e, List.take_add_one]
  rw [Array.getElem?_toList, Array.getElem?_eq_getElem h]
  rfl
theorem ext_zero (a : Array Keyed) (n : Nat) : (a.extract 0 n).toList = a.toList.take n := by
  rw [Array.toList_extract, List.extract_eq_take_drop]
  simp
section
variable {a b out : Array Keyed} {na nb : Nat}
theorem PH.downA (h : PH a b out na nb) (h0 : 0 < na) (hi : na - 1 < a.size) : PH a b (out.push a[na - 1]) (na - 1) nb := by
  unfold PH at h ⊢
  rw [take_last a na h0 hi] at h
  refine List.Perm.trans ?_ h
  simp only [Array.toList_push, List.reverse_append, List.reverse_singleton, List.append_assoc, List.singleton_append]
  exact List.Perm.append_left _ List.perm_middle
theorem PH.downB (h : PH a b out na nb) (h0 : 0 < nb) (hi : nb - 1 < b.size) : PH a b (out.push b[nb - 1]) na (nb - 1) := by
  unfold PH at h ⊢
  rw [take_last b nb h0 hi] at h
  simpa using h
theorem PH.takeA (h : PH a b out na nb) {k : Nat} (hk : k ≤ na) : PH a b (out ++ (a.extract k na).reverse) k nb := by
  unfold PH at h ⊢
  rw [take_ex a k na hk] at h
  refine List.Perm.trans ?_ h
  simp only [Array.toList_append, Array.toList_reverse, List.reverse_append, List.reverse_reverse, List.append_assoc]
  refine List.Perm.append_left _ ?_
  rw [← List.append_assoc, ← List.append_assoc]
  exact List.Perm.append_right _ List.perm_append_comm
theorem PH.takeB (h : PH a b out na nb) {k : Nat} (hk : k ≤ nb) : PH a b (out ++ (b.extract k nb).reverse) na k := by
  unfold PH at h ⊢
  rw [take_ex b k nb hk] at h
  simpa using h
theorem PH.done (h : PH a b out na nb) : (a.extract 0 na ++ b.extract 0 nb ++ out.reverse).Perm (a ++ b) := by
  unfold PH at h
  rw [Array.perm_iff_toList_perm]
  simp only [Array.toList_append, ext_zero, Array.toList_reverse]
  exact h
theorem PH.first (h : PH a b out na nb) : (b.extract 0 nb ++ a.extract 0 na ++ out.reverse).Perm (a ++ b) := by
  unfold PH at h
  rw [Array.perm_iff_toList_perm]
  simp only [Array.toList_append, ext_zero, Array.toList_reverse]
  exact (List.Perm.append_right _ List.perm_append_comm).trans h
end
theorem wpS_set {M : Model} {σ : Type} {x : σ} {Q : PUnit → σ → Prop} {st : σ} (h : Q ⟨⟩ x) : wpS M A E s (set x : StateT σ Sem PUnit) Q st := by
  unfold wpS
  rw [StateT.run_set]
  exact wpAny_pure ⟨rfl, h⟩
def Chain : List (Nat × Nat × Nat) → Nat → Nat → Prop
  | [], b, e => b = e
  | r :: rest, b, e => r.1 = b ∧ 1 ≤ r.2.1 ∧ Chain rest (b + r.2.1) e
theorem Chain.le : ∀ {l : List (Nat × Nat × Nat)} {b e : Nat}, Chain l b e → b ≤ e
  | [], _, _, h => Nat.le_of_eq h
  | _ :: _, _, _, h => Nat.le_trans (Nat.le_add_right _ _) h.2.2.le
theorem Chain.merge : ∀ {l : List (Nat × Nat × Nat)} {b e i : Nat} {x y : Nat × Nat × Nat}, Chain l b e → l[i]? = some x → l[i + 1]? = some y →
    y.1 = x.1 + x.2.1 ∧ 1 ≤ x.2.1 ∧ 1 ≤ y.2.1 ∧ y.1 + y.2.1 ≤ e ∧ Chain ((l.set i (x.1, x.2.1 + y.2.1, x.2.2)).eraseIdx (i + 1)) b e
  | [], _, _, _, _, _, _, h, _ => by simp at h
  | r :: rest, b, e, 0, x, y, h, h1, h2 => by
    obtain rfl : r = x := by simpa using h1
    cases rest with
    | nil => simp at h2
    | cons r2 rest =>
      obtain rfl : r2 = y := by simpa using h2
      have e1 : r.1 = b := h.1
      have n1 : 1 ≤ r.2.1 := h.2.1
      have e2 : r2.1 = b + r.2.1 := h.2.2.1
      have n2 : 1 ≤ r2.2.1 := h.2.2.2.1
      have c : Chain rest (b + r.2.1 + r2.2.1) e := h.2.2.2.2
      have := c.le
      refine ⟨by omega, n1, n2, by omega, ?_⟩
      show Chain ((r.1, r.2.1 + r2.2.1, r.2.2) :: rest) b e
      refine ⟨e1, Nat.le_trans n1 (Nat.le_add_right _ _), ?_⟩
      show Chain rest (b + (r.2.1 + r2.2.1)) e
      rw [← Nat.add_assoc]
      exact c
  | r :: rest, b, e, i + 1, x, y, h, h1, h2 => by
    obtain ⟨e1, n1, c⟩ := h
    obtain ⟨g1, g2, g3, g4, g5⟩ := Chain.merge (i := i) c (by simpa using h1) (by simpa using h2)
    refine ⟨g1, g2, g3, g4, ?_⟩
    show Chain (r :: (rest.set i _).eraseIdx (i + 1)) b e
    exact ⟨e1, n1, g5⟩
theorem Chain.snoc : ∀ {l : List (Nat × Nat × Nat)} {b e n p : Nat}, Chain l b e → 1 ≤ n → Chain (l ++ [(e, n, p)]) b (e + n)
  | [], _, _, _, _, h, hn => ⟨h.symm, hn, by show _ + _ = _; rw [h]⟩
  | _ :: _, _, _, _, _, h, hn => ⟨h.1, h.2.1, h.2.2.snoc hn⟩
theorem Chain.mod : ∀ {l : List (Nat × Nat × Nat)} {b e : Nat} (i pw : Nat), Chain l b e → Chain (l.modify i fun x => (x.1, x.2.1, pw)) b e
  | [], _, _, i, _, h => by cases i <;> exact h
  | _ :: _, _, _, 0, _, h => h
  | _ :: _, _, _, i + 1, pw, h => ⟨h.1, h.2.1, h.2.2.mod i pw⟩
theorem put_all (sa : Nat) : ∀ (l : List Keyed) (arr : Array Keyed) (j : Nat), sa + j + l.length ≤ arr.size →
    ((l.zipIdx j).foldl (fun a (x : Keyed × Nat) => a.setIfInBounds (sa + x.2) x.1) arr).toList = arr.toList.take (sa + j) ++ (l ++ arr.toList.drop (sa + j + l.length))
  | [], arr, j, h => by simp
  | x :: r, arr, j, h => by
    rw [List.length_cons] at h
    rw [List.zipIdx_cons, List.foldl_cons, put_all sa r _ (j + 1) (by rw [Array.size_setIfInBounds]; omega)]
    have hl : sa + j < arr.toList.length := by rw [Array.length_toList]; omega
    rw [Array.toList_setIfInBounds, List.length_cons]
    have e1 : sa + (j + 1) = sa + j + 1 := by omega
    rw [e1, List.take_set, List.drop_set_of_lt (by omega), List.take_add_one, List.getElem?_eq_getElem hl]
    have e2 : sa + j + 1 + r.length = sa + j + (r.length + 1) := by omega
    rw [e2]
    have hlen : (arr.toList.take (sa + j)).length = sa + j := by rw [List.length_take]; omega
    rw [List.set_append_right _ _ (by rw [hlen]; exact Nat.le_refl _), hlen]
    simp
theorem ite_lt {c : Prop} [Decidable c] {x y n : Nat} (h1 : x + 1 < n) (h2 : y + 1 < n) : (if c then x else y) + 1 < n := by
  split
  · exact h1
  · exact h2
end
end Tim

namespace L2
open PySem PySem.Calls PySem.Spec PyProof.Rows
section
variable {prog : Program} {w : World} {A : Around} {E : Value → Shared → Prop} {s : Shared}
theorem sort_list {a : Addr} {vs : List Value} {n : Nat} {P : PySem.Fin → Shared → Prop} {Out : List Value → Prop} (ho : s.heap.get? a = some (seqObj "list" vs.toArray n)) (hz : vs.length ≤ 1000000)
    (h1 : vs.length < 2 → Out vs) (hlen : ∀ o, Out o → o.length = vs.length)
    (hrun : 2 ≤ vs.length → ∀ t : Shared, (∀ b o, b ≠ a → s.heap.get? b = some o → t.heap.get? b = some o) → wpAny (model prog w) A (keyKind' vs.toArray) (fun κ t' => t' = t ∧
      wpAny (model prog w) A ((sortRuns').run (SortSt.mk' κ (vs.toArray.zip vs.toArray) #[] 7 none)) (fun r t2 => t2 = t ∧ failedOf r.2 = none ∧ Out ((arrOf r.2).map (·.2)).toList) (fun _ _ => False) t) (fun _ _ => False) t)
    (q : ∀ out : Array Value, Out out.toList → P (.done (.ret .none)) { s with heap := sortedHeap s.heap a vs out }) : wpAny (model prog w) A (Builtin.«list.sort» ⟨[.ref a], []⟩) P E s := by
  have sl : (1000000 : Nat) < sizeLine := by decide
  have hza : vs.toArray.size ≤ sizeLine := by rw [List.size_toArray]; omega
  have lta : a < s.heap.objs.size := Heap.lt_size ho
  rw [list_sort_plain]
  refine wpAny_bind (listItems_at ho rfl ?_)
  refine wpAny_bind (listUpdate_at ho rfl ?_ hza (Nat.zero_le _))
  obtain ⟨e1, ho1⟩ : ∃ e1, (s.heap.update a (Obj.mapSeq fun _ => (#[] : Array Value))).get? a = some (seqObj "list" #[] e1) := ⟨_, get?_update_seq ho fun _ => #[]⟩
  refine wpAny_bind (seqEpoch_at ho1 rfl ?_)
  refine wpAny_bind (wpAny_newTuple ?_ (by show vs.length ≤ sizeLine; omega))
  refine wpAny_bind (wpAny_newList ?_ (Nat.zero_le _))
  refine wpAny_holding ?_
  show wpAny (model prog w) A _ P E { s with heap := ((s.heap.update a (Obj.mapSeq fun _ => (#[] : Array Value))).push (seqObj "tuple" vs.toArray 0)).push (seqObj "list" #[] 0) }
  have ho6 : (((s.heap.update a (Obj.mapSeq fun _ => (#[] : Array Value))).push (seqObj "tuple" vs.toArray 0)).push (seqObj "list" #[] 0)).get? a = some (seqObj "list" #[] e1) := Heap.get?_push_of_some _ (Heap.get?_push_of_some _ ho1)
  have kp : ∀ b o, b ≠ a → s.heap.get? b = some o → (((s.heap.update a (Obj.mapSeq fun _ => (#[] : Array Value))).push (seqObj "tuple" vs.toArray 0)).push (seqObj "list" #[] 0)).get? b = some o := fun b o hb e =>
    Heap.get?_push_of_some _ (Heap.get?_push_of_some _ ((Heap.SameBut.update s.heap a (Obj.mapSeq fun _ => (#[] : Array Value))).extBut b o hb e))
  dsimp only
  by_cases h2 : vs.toArray.size < 2
  · rw [if_pos h2, if_pos h2]
    refine wpAny_bind (wpAny_pure ?_)
    rw [StateT.run_pure]
    refine wpAny_bind (wpAny_pure ?_)
    dsimp only
    have eo : Array.map (·.2) (vs.toArray.zip vs.toArray) = vs.toArray := by
      apply Array.toList_inj.mp
      simp [List.map_snd_zip]
    have h2' : vs.length < 2 := by rw [List.size_toArray] at h2; exact h2
    refine wpAny_bind (seqEpoch_at ho6 rfl ?_)
    refine wpAny_bind (listUpdate_at ho6 rfl ?_ (Nat.zero_le _) (by show (Array.map (·.2) (vs.toArray.zip vs.toArray)).size ≤ sizeLine + 1; rw [eo]; omega))
    simp only [bne_self_eq_false, Bool.false_eq_true, if_false]
    refine wpAny_pure ?_
    show P _ { s with heap := sortedHeap s.heap a vs (Array.map (·.2) (vs.toArray.zip vs.toArray)) }
    exact q _ (by rw [eo]; exact h1 h2')
  · rw [if_neg h2, if_neg h2]
    have h2' : 2 ≤ vs.length := by rw [List.size_toArray] at h2; omega
    refine wpAny_bind (wpAny_mono (hrun h2' { s with heap := ((s.heap.update a (Obj.mapSeq fun _ => (#[] : Array Value))).push (seqObj "tuple" vs.toArray 0)).push (seqObj "list" #[] 0) } kp) (fun κ t' hk => ?_) fun _ _ z => z.elim)
    obtain ⟨rfl, hk⟩ := hk
    refine wpAny_bind (wpAny_mono hk (fun r t2 hr => ?_) fun _ _ z => z.elim)
    obtain ⟨⟨⟩, st⟩ := r
    obtain ⟨rfl, hf, hout⟩ := hr
    dsimp only
    have ol : ((arrOf st).map (·.2)).size = vs.length := by
      have := hlen _ hout
      rw [Array.length_toList] at this
      exact this
    refine wpAny_bind (seqEpoch_at ho6 rfl ?_)
    refine wpAny_bind (listUpdate_at ho6 rfl ?_ (Nat.zero_le _) (by show ((arrOf st).map (·.2)).size ≤ sizeLine + 1; rw [ol]; omega))
    have hf : failedOf st = none := hf
    rw [hf]
    simp only [bne_self_eq_false, Bool.false_eq_true, if_false]
    exact wpAny_pure (q _ hout)
end
def IsPr (h : Heap) (v : Value) (q : Int × Int) : Prop := ∃ a o t u n, v = .ref a ∧ h.get? a = some o ∧ o.cls = .type "tuple" ∧ o.data = .seq #[.int q.1 t, .int q.2 u] n
section
variable {prog : Program} {w : World} {A : Around} {E : Value → Shared → Prop} {s : Shared}
theorem pr_tups : ∀ {vs : List Value} {ps : List (Int × Int)}, Paired (IsPr s.heap) vs ps → ∃ fs, PySem.W.KatTups s.heap vs fs ∧ fs.length = vs.length ∧ ∀ v ∈ fs, ∃ i t, v = Value.int i t
  | _, _, .nil => ⟨[], PySem.W.KatTups.nil, rfl, fun v hv => by cases hv⟩
  | _, _, .cons h r => by
    obtain ⟨fs, k, l, z⟩ := pr_tups r
    obtain ⟨a, o, t, u, n, rfl, h1, h2, h3⟩ := h
    refine ⟨_, PySem.W.KatTups.cons h1 h2 h3 rfl k, by simp [l], fun v hv => ?_⟩
    rcases List.mem_cons.mp hv with rfl | hv
    · exact ⟨_, _, rfl⟩
    · exact z v hv
def Reord (vs o : List Value) : Prop := ∃ p : List Nat, p.Perm (List.range vs.length) ∧ o = p.map fun i => vs.getD i Value.none
theorem Reord.refl (vs : List Value) : Reord vs vs := ⟨List.range vs.length, .refl _, by
  apply List.ext_getElem
  · simp
  · intro i h1 h2
    simp [h1]⟩
theorem perm_map_back {α β : Type} {f : α → β} : ∀ {o v : List β}, o.Perm v → ∀ l : List α, v = l.map f → ∃ l' : List α, l'.Perm l ∧ o = l'.map f := by
  intro o v h
  induction h with
  | nil =>
    intro l e
    exact ⟨l, .refl _, e⟩
  | cons x _ ih =>
    intro l e
    cases l with
    | nil => cases e
    | cons y r =>
      rw [List.map_cons] at e
      obtain ⟨e1, e2⟩ := List.cons.inj e
      obtain ⟨l', p, q⟩ := ih r e2
      exact ⟨y :: l', .cons y p, by rw [List.map_cons, ← e1, ← q]⟩
  | swap x y t =>
    intro l e
    match l, e with
    | [], e => cases e
    | [_], e => cases (List.cons.inj e).2
    | a :: b :: r, e =>
      rw [List.map_cons, List.map_cons] at e
      obtain ⟨e1, e2⟩ := List.cons.inj e
      obtain ⟨e3, e4⟩ := List.cons.inj e2
      exact ⟨b :: a :: r, .swap a b r, by rw [List.map_cons, List.map_cons, ← e1, ← e3, ← e4]⟩
  | trans _ _ ih1 ih2 =>
    intro l e
    obtain ⟨l1, p1, e1⟩ := ih2 l e
    obtain ⟨l2, p2, e2⟩ := ih1 l1 e1
    exact ⟨l2, p2.trans p1, e2⟩
theorem Reord.of_perm {vs o : List Value} (h : o.Perm vs) : Reord vs o := by
  obtain ⟨_, _, e⟩ := Reord.refl vs
  obtain ⟨p, hp, eo⟩ := perm_map_back (f := fun i => vs.getD i Value.none) h (List.range vs.length) (by
    apply List.ext_getElem
    · simp
    · intro i h1 h2
      simp [h1])
  exact ⟨p, hp, eo⟩
end
theorem ObjOk.there {P : Program} {w : World} {H : Hp} {h : Heap} {a : Addr} {o : HO} (x : ObjOk P w H h a o) : ∃ ob, h.get? a = some ob := by
  cases o with
  | lst xs => obtain ⟨_, _, _, _, e⟩ := x; exact ⟨_, e⟩
  | tup xs => obtain ⟨_, _, _, ob, e, _⟩ := x; exact ⟨_, e⟩
  | dK kvs => obtain ⟨_, _, _, _, ob, _, _, e, _⟩ := x; exact ⟨_, e⟩
  | dT kvs => obtain ⟨_, _, _, _, ob, _, _, e, _⟩ := x; exact ⟨_, e⟩
  | set S n => obtain ⟨ob, _, _, _, e, _⟩ := x; exact ⟨_, e⟩
  | ins C dx fs => obtain ⟨_, _, _, e, _⟩ := x; exact ⟨_, e⟩
  | own y => exact x
  | xd fs => obtain ⟨_, ⟨_, _, _, e, _⟩, _⟩ := x; exact ⟨_, e⟩
  | rng lo hi => obtain ⟨_, _, _, e⟩ := x; exact ⟨_, e⟩
  | frz ob u => exact ⟨_, x.1⟩
  | tbl ps => exact ⟨_, x⟩
  | met f y => exact ⟨_, x⟩
  | ext φ => exact x.2.1
theorem Paired.of_get {α β : Type} {F : α → β → Prop} : ∀ {l : List α} {r : List β}, l.length = r.length → (∀ (j : Nat) (x : α) (y : β), l[j]? = some x → r[j]? = some y → F x y) → Paired F l r
  | [], [], _, _ => .nil
  | x :: l, y :: r, h, f => .cons (f 0 x y rfl rfl) (Paired.of_get (by simpa using h) fun j a b e1 e2 => f (j + 1) a b (by simpa using e1) (by simpa using e2))
  | [], _ :: _, h, _ => by cases h
  | _ :: _, [], h, _ => by cases h
theorem Paired.of_map {α β γ : Type} {F : α → β → Prop} {f : γ → α} {g : γ → β} : ∀ {l : List γ}, (∀ c ∈ l, F (f c) (g c)) → Paired F (l.map f) (l.map g)
  | [], _ => .nil
  | c :: r, h => .cons (h c List.mem_cons_self) (Paired.of_map fun d hd => h d (List.mem_cons_of_mem _ hd))
def prKey (q : Int × Int) : List Key := [Sum.inl q.1, Sum.inl q.2]
section
variable {X : Cx}
theorem Inv.newFp {pins : List (Addr × Obj)} {σ : St} {H : Hp} {s : Shared} (I : Inv X pins σ H s) {D : Addr} (hD : ∀ b o, s.heap.get? b = some o → b < D) : FpOk X pins H D := by
  obtain ⟨m, ⟨oL, _, _, eL, _⟩, _⟩ := id I.loc
  have hL := hD _ _ eL
  refine ⟨?_, Nat.ne_of_gt hL, fun z => ?_, .inr (Nat.le_of_lt (Nat.lt_of_le_of_lt I.ok.above hL)), fun x c e z => ?_, fun p hp z => ?_⟩
  · cases e : H D with
    | none => rfl
    | some u =>
      obtain ⟨ob, eo⟩ := (I.hok D u e).there
      exact absurd (hD _ _ eo) (Nat.lt_irrefl _)
  · obtain ⟨_, o, ho, _⟩ := I.ok.funs.mem z
    obtain ⟨o', ho'⟩ := I.base.there D o ho fun q => I.ok.exfs D q z
    exact absurd (hD _ _ ho') (Nat.lt_irrefl _)
  · obtain ⟨v, o, ho, _⟩ := I.cell x c e
    exact absurd (hD _ _ ho) (by rw [z]; exact Nat.lt_irrefl _)
  · exact absurd (hD _ _ (I.pin p hp).1) (by rw [z]; exact Nat.lt_irrefl _)
end
end L2

namespace L2
open PySem PySem.Calls PySem.Spec PyProof.Rows
section
variable {X : Cx}
end
end L2

namespace L2
open PySem PySem.Spec PyProof.Rows PySem.AutoSeq1
theorem enum_new_tup (l : Addr) (xs : Array Value) :
    Meets (Builtin.«enumerate.__new__» ⟨[.type "enumerate", .ref l], []⟩) (fun _ R s => s.heap.IsTuple l xs ∧
      R (.ok (.ret (.ref (zpa s.heap l).objs.size))) { s with heap := (zpa s.heap l).push { cls := .type "enumerate", data := .fields #[.none, .bool false, .ref s.heap.objs.size, rawInt 0, .none, .none] } }) :=
  .of_wp fun prog w A R s h => by
    obtain ⟨hp, g, d, tk, os⟩ := s; obtain ⟨t1, h⟩ := h
    have f0 := sub_enumerate
    have T1 : Heap.IsTuple (Shared.heap ⟨hp, g, d, tk, os⟩) l xs := t1
    obtain ⟨ob, hl, hcl, nn, hdl⟩ := id t1
    wp_walk using wpAny_loadPart' hl
    refine wpAny_stack_any fun st => wpAny_pure ?_
    split
    · rename_i c _ _ _ _ _
      cases (c == Value.type "enumerate")
      · wp_walk using wpAny_loadPart' hl, wpAny_pyIter_tuple T1
        exact ⟨_, rfl, h⟩
      · wp_walk using wpAny_loadPart' hl, wpAny_pyIter_tuple T1
        exact ⟨_, rfl, h⟩
    · wp_walk using wpAny_loadPart' hl, wpAny_pyIter_tuple T1
      exact ⟨_, rfl, h⟩
theorem call_enum_tup {prog : Program} {w : World} {A : Around} {E : Value → Shared → Prop} {s : Shared} {l : Addr} {xs : Array Value} {Q : Value → Shared → Prop} (h1 : s.heap.IsTuple l xs)
    (q : ∀ h', IsEnum h' (s.heap.objs.size + 1) s.heap.objs.size 0 .none → h'.IsTupleIter s.heap.objs.size l 0 → (∀ c o, s.heap.get? c = some o → h'.get? c = some o) → Q (.ref (s.heap.objs.size + 1)) { s with heap := h' }) :
    wpAny (model prog w) A (call (.type "enumerate") [.ref l]) Q E s := by
  refine callType_new F.called_enumerate (by decide) (F.typeCall_enumerate_1 _) (F.newCall_enumerate_1 _) (fun obj => F.args_object_init_2 obj _) F.entry_enumerate_new (enum_new_tup l xs) ⟨h1, ?_⟩
  have hz : (zpa s.heap l).objs.size = s.heap.objs.size + 1 := Heap.size_push ..
  show _ ∧ _
  rw [hz]
  have he : IsEnum ((zpa s.heap l).push { cls := .type "enumerate", data := .fields #[.none, .bool false, .ref s.heap.objs.size, rawInt 0, .none, .none] }) (s.heap.objs.size + 1) s.heap.objs.size 0 .none := by
    have := Heap.get?_push_size (zpa s.heap l) (o := { cls := .type "enumerate", data := .fields #[.none, .bool false, .ref s.heap.objs.size, rawInt 0, .none, .none] }) rfl
    rw [hz] at this
    exact this
  exact ⟨⟨_, he, rfl⟩, q _ he ⟨_, Heap.get?_push_of_some _ (Heap.get?_push_size _ rfl), rfl, rfl⟩ fun b o x => Heap.get?_push_of_some _ (Heap.get?_push_of_some _ x)⟩
def Ite (a : Addr) : It := ⟨fun i H => ∃ xs, H a = some (.tup xs) ∧ i < xs.length,
  fun i H x H' => ∃ p v, x = .ref p ∧ H p = none ∧ H' = upd H p (.tup [.int i, v]) ∧ ∀ xs, H a = some (.tup xs) → xs[i]? = some v,
  fun i H => ∃ xs, H a = some (.tup xs) ∧ i = xs.length⟩
theorem turn_enum {P : Program} {w : World} {K : PySem.W.Frag} {es : List Expr} {kt : Nat} {tp : Pos} (a e it : Addr) (d1 : e ≠ it) :
    Turn P w K (.Tuple es kt tp) (Ite a) [e, it] e (fun i h => (∃ old, IsEnum h e it i old) ∧ h.IsTupleIter it a i) where
  mem := by simp
  obj := fun i h st c hc => by
    obtain ⟨⟨old, s1⟩, ⟨o2, s2, _, q2⟩⟩ := st
    simp only [List.mem_cons, List.not_mem_nil, or_false] at hc
    rcases hc with rfl | rfl
    · exact ⟨_, s1, fun v => by intro q; cases q⟩
    · exact ⟨_, s2, fun v => by intro q; rw [q2] at q; cases q⟩
  keep := fun i h h' st kp => by
    obtain ⟨⟨old, s1⟩, ⟨o2, s2, r2⟩⟩ := st
    exact ⟨⟨old, kp e (by simp) _ s1⟩, ⟨o2, kp it (by simp) _ s2, r2⟩⟩
  item := by
    intro X hP hw hK hc i pins s σ H E I hf st hg
    subst hP hw hK
    obtain ⟨xs, ha, l1⟩ := hg
    obtain ⟨⟨old, s1⟩, s2⟩ := st
    have nf : ∀ {c : Addr} {o : HO}, H c = some o → ∀ b ∈ [e, it], c ≠ b := fun hcc b hb q => by rw [q, (hf b hb).1] at hcc; cases hcc
    obtain ⟨its, r1, t1, _⟩ := I.tuple (SqT.of ha)
    have hh : X.A.in1.handled = none := I.ok.hd hc
    have e1 : its.toArray.size = xs.length := by rw [List.size_toArray, ← r1.length]
    have nef : e ∉ [it, a] := by
      simp only [List.mem_cons, List.not_mem_nil, or_false, not_or]
      exact ⟨d1, (nf ha e (by simp)).symm⟩
    refine wpAny_pyNext_enum_itemD (draws_tup hh it a (nf ha it (by simp)) its.toArray) s1 ⟨s2, t1⟩ (by omega) d1 nef fun x h' tk px z1 z2 z3 z4 kp => ⟨_, rfl, ?_⟩
    have px : its[i]? = some x := by simpa using px
    obtain ⟨vx, hx⟩ : ∃ v, xs[i]? = some v := ⟨xs[i], by simp [l1]⟩
    obtain ⟨x', q1, rx⟩ := r1.get hx
    rw [px] at q1; cases q1
    refine wpAny_letOwnedTupleGo_enum z1 fun g2 zz hs => ?_
    have fr : H s.heap.objs.size = none := I.hok.fresh (Nat.le_refl _)
    have I1 : Inv X pins σ H { s with heap := g2, toks := tk + 1 } := I.turnedL (l := [e, it]) (t' := tk + 1) (fun c o hc e => by
      simp only [List.mem_cons, List.not_mem_nil, or_false, not_or] at hc
      exact hs.extBut _ _ hc.1 (kp c o hc.1 hc.2 e)) fun c hc => hf c hc
    have fp := I.fpOk (H' := H) (Nat.le_refl _) fr
    have nz : ∀ b ∈ [e, it], b ≠ s.heap.objs.size := fun b hb q => by
      obtain ⟨o, ho⟩ : ∃ o, s.heap.get? b = some o := by
        obtain ⟨o2, s2, _⟩ := s2
        simp only [List.mem_cons, List.not_mem_nil, or_false] at hb
        rcases hb with rfl | rfl
        · exact ⟨_, s1⟩
        · exact ⟨_, s2⟩
      exact absurd (Heap.lt_size ho) (by rw [q]; exact Nat.lt_irrefl _)
    have at2 : g2.get? s.heap.objs.size = some { cls := .type "tuple", data := .seq #[.int i tk, x] } := hs.extBut _ _ (nz e (by simp)).symm z3
    refine ⟨.ref s.heap.objs.size, upd H s.heap.objs.size (.tup [.int i, vx]), I1.adopt fp ⟨?_, [.int i tk, x], .cons ⟨_, rfl⟩ (.cons rx .nil), ⟨_, at2, rfl, _, rfl⟩⟩, rfl, ⟨_, vx, rfl, fr, rfl, fun xs' q1 => ?_⟩,
      ⟨⟨_, zz⟩, z2.1.extBut hs.extBut d1.symm⟩, fun c hc => ?_⟩
    · show 2 ≤ sizeLine
      decide
    · rw [ha] at q1; cases q1
      exact hx
    · rw [upd_ne (nz c hc)]
      exact (hf c hc).1
  done := by
    intro X hP hw hK hc i pins s σ H E I hf st hg
    subst hP hw hK
    obtain ⟨xs, ha, hl⟩ := hg
    obtain ⟨⟨old, s1⟩, s2⟩ := st
    have nf : ∀ {c : Addr} {o : HO}, H c = some o → ∀ b ∈ [e, it], c ≠ b := fun hcc b hb q => by rw [q, (hf b hb).1] at hcc; cases hcc
    obtain ⟨its, r1, t1, _⟩ := I.tuple (SqT.of ha)
    have hh : X.A.in1.handled = none := I.ok.hd hc
    have e1 : its.toArray.size = i := by rw [List.size_toArray, ← r1.length, hl]
    subst e1
    refine wpAny_pyNext_enum_endD (draws_tup hh it a (nf ha it (by simp)) its.toArray) s1 ⟨s2, t1⟩ fun h' eb => ⟨rfl, ?_⟩
    exact I.turnedL (l := [e, it]) (t' := s.toks) (fun c o hc e => by
      simp only [List.mem_cons, List.not_mem_nil, or_false, not_or] at hc
      exact eb c o hc.2 e) fun c hc => hf c hc
  self := fun _ _ _ _ _ st h => by
    obtain ⟨⟨old, s1⟩, _⟩ := st
    exact wpAny_pyIter_enum s1 h
section
variable {X : Cx} {es : List Expr} {kt : Nat} {tp : Pos}
theorem boot_enum : bootBuiltins "enumerate" = some (.type "enumerate") := by decide +kernel
def iEnum (ta : TA) : TI := fun σ H R => ta σ H fun vs H1 => ∃ a xs, vs = [.ref a] ∧ H1 a = some (.tup xs) ∧ R (Ite a) H1
theorem pi_enum {a : Expr} {ta : TA} {p pos : Pos} (hg : Gl X "enumerate") (hm : X.mg "enumerate" = none) (ha : PA X [a] ta) (hs : starEach [a] X.env = [(false, eval a X.env)] := by rfl) :
    PI X (.Tuple es kt tp) (.Call (.Name "enumerate" p) [a] [] pos) (iEnum ta) := by
  intro pins s σ H R I h
  refine Call_ (ld_blt I hg hm boot_enum (PyProof.Rows.callWith_type1 (thn (ha pos pins s σ H _ I h) fun us s1 h1 => ?_) hs rfl))
  obtain ⟨vs, H1, I1, r1, a, xs, e, ha, q⟩ := h1
  subst e
  obtain ⟨u, rfl, ru⟩ := vals1 r1
  cases ru
  obtain ⟨its, _, t1, _⟩ := I1.tuple (SqT.of ha)
  refine call_enum_tup t1 fun h' z1 z2 kp => wpAny_pyIter_enum z1 ?_
  have I2 : Inv X pins σ H1 { s1 with heap := h' } := I1.kept (t' := s1.toks) kp
  have fr : ∀ k : Nat, H1 (s1.heap.objs.size + k) = none := fun k => I1.hok.fresh (Nat.le_add_right _ _)
  refine ⟨s1.heap.objs.size + 1, _, _, Ite a, H1, rfl, I2, turn_enum a (s1.heap.objs.size + 1) s1.heap.objs.size (Nat.succ_ne_self _), ⟨⟨_, z1⟩, z2⟩, fun c hc => ?_, q⟩
  simp only [List.mem_cons, List.not_mem_nil, or_false] at hc
  rcases hc with rfl | rfl
  · exact I1.fpOk (Nat.le_add_right _ _) (fr 1)
  · exact I1.fpOk (Nat.le_refl _) (fr 0)
end
section
variable {K : PySem.W.Frag} {g : TG} {tc : TT} {te : TE} {σ : St} {H : Hp} {R : List V → Hp → Prop}
theorem lc_enum {a : Addr} {xs : List V} (Pv : Nat → List V → Hp → Prop) (h0 : Pv 0 [] H)
    (hl : ∀ i zs H, i ≤ xs.length → Pv i zs H → H a = some (.tup xs) ∧ zs.length ≤ sizeLine) (hd : ∀ zs H, Pv xs.length zs H → R zs H)
    (hs : ∀ (i : Nat) v zs H p, xs[i]? = some v → i < xs.length → Pv i zs H → H p = none → g (.ref p) σ (upd H p (.tup [.int i, v])) fun σ2 H2 => tc σ2 H2 fun b H3 =>
      if b = true then te σ2 H3 fun y H4 => ∃ m', m' < xs.length - i ∧ Wn xs.length Pv (i + 1) m' (zs ++ [y]) H4 else ∃ m', m' < xs.length - i ∧ Wn xs.length Pv (i + 1) m' zs H3) :
    ∃ W : Nat → Nat → List V → Hp → Prop, (∃ m, W 0 m [] H) ∧ ∀ i m ys H, W i m ys H → ((Ite a).stop i H ∧ ys.length ≤ sizeLine ∧ R ys H) ∨
      ((Ite a).go i H ∧ ys.length ≤ sizeLine ∧ ∀ x H', (Ite a).yld i H x H' → g x σ H' fun σ2 H2 => tc σ2 H2 fun b H3 =>
        if b = true then te σ2 H3 fun y H4 => ∃ m', m' < m ∧ W (i + 1) m' (ys ++ [y]) H4 else ∃ m', m' < m ∧ W (i + 1) m' ys H3) := by
  refine lc_by xs.length Pv h0 (fun zs H p => ?_) (fun i zs H hi p => ?_)
  · obtain ⟨q1, z⟩ := hl _ zs H (Nat.le_refl _) p
    exact ⟨⟨xs, q1, rfl⟩, z, hd zs H p⟩
  · obtain ⟨q1, z⟩ := hl i zs H (Nat.le_of_lt hi) p
    refine ⟨⟨xs, q1, hi⟩, z, fun x H' y => ?_⟩
    obtain ⟨p', v, e1, e2, e3, y⟩ := y
    subst e1 e3
    exact hs i v zs H p' (y xs q1) hi p e2
end
end L2

namespace L2
open PySem PySem.Calls PySem.Spec PyProof.Rows
section
variable {X : Cx}
theorem call_list_prs (hc : X.calm = true) : CallR X (.type "list") (fun xs H Q => ∃ (d : Addr) (kvs : List (List Key × V)) (prs : List (Int × Int)), xs = [.ref d] ∧ H d = some (.dT kvs) ∧ kvs.map (·.1) = prs.map prKey ∧ kvs.length ≤ 1000 ∧
    ∀ (D : Addr) (ws : List V) (H' : Hp), Same H H' → H' D = some (.lst ws) → Ars H' ws prs → Q (.ref D) H') := by
  intro pins s σ H xs us Q I r h
  obtain ⟨d, kvs, prs, rfl, hd, hk, hl, q⟩ := h
  obtain ⟨u, rfl, ru⟩ := vals1 r
  cases ru
  obtain ⟨z, hsys, xs', rel, o, es, ep, e1, e2, e3, e4, nd⟩ := (show ObjOk X.prog X.w H s.heap d (.dT kvs) from I.hok d _ hd)
  have l1 : kvs.length = xs'.length := Paired.length rel
  have l2 : es.size = kvs.length := by
    have := congrArg List.length e4
    rw [Array.length_toList, List.length_map] at this
    omega
  have l3 : prs.length = kvs.length := by
    have := congrArg List.length hk
    rw [List.length_map, List.length_map] at this
    exact this.symm
  have key : ∀ (j : Nat) (v : Value), (∃ e, es[j]? = some e ∧ v = e.key) → ∃ a q, v = .ref a ∧ prs[j]? = some q ∧ H a = some (.tup [.int q.1, .int q.2]) := by
    rintro j v ⟨e, he, rfl⟩
    have he' : es.toList[j]? = some e := by simpa using he
    rw [e4, List.getElem?_map] at he'
    obtain ⟨x, hx, rfl⟩ := Option.map_eq_some_iff.mp he'
    have hj : j < kvs.length := by
      have := (List.getElem?_eq_some_iff.mp hx).1
      omega
    obtain ⟨y, hy, hy1, hy2, _⟩ := Paired.get' (i := j) (x := kvs[j]) rel (by simp [hj])
    rw [hx] at hy
    cases hy
    have hq : prs[j]? = some prs[j] := by simp [l3, hj]
    have ek : (kvs.map (·.1))[j]? = (prs.map prKey)[j]? := by rw [hk]
    rw [List.getElem?_map, List.getElem?_map, hq] at ek
    have ek : kvs[j].1 = prKey prs[j] := by simpa [hj] using ek
    refine ⟨x.2.1, prs[j], rfl, hq, ?_⟩
    rw [hy2, ek]
    rfl
  refine PySem.W.kdl_call (raw_src hsys es ep) (I.ok.hd hc) ⟨o, e1, e2, e3⟩ (by have := small1000 (n := es.size) (by omega); omega) fun h' tk acc c kp hD hacc => ?_
  have I1 : Inv X pins σ H { s with heap := h', toks := tk } := I.kept kp
  have fp : FpOk X pins H s.heap.objs.size := I.newFp fun b o e => Heap.lt_size e
  have la : acc.toList.length = es.size := by rw [Array.length_toList]; exact hacc.1
  have pa : ∀ (j : Nat) (v : Value), acc.toList[j]? = some v → ∃ e, es[j]? = some e ∧ v = e.key := fun j v e => hacc.2 j v (by rw [← Array.getElem?_toList]; exact e)
  have addr : ∀ i, ∃ a : Addr, i < es.size → acc.toList.getD i Value.none = .ref a ∧ H a = some (.tup [.int (prs.getD i (0, 0)).1, .int (prs.getD i (0, 0)).2]) := fun i => by
    by_cases hi : i < es.size
    · have hi' : i < acc.toList.length := by omega
      obtain ⟨a, q', ea, hq, ha⟩ := key i acc.toList[i] (pa i _ (by rw [List.getElem?_eq_getElem hi']))
      refine ⟨a, fun _ => ⟨?_, ?_⟩⟩
      · rw [← ea, List.getD_eq_getElem?_getD, List.getElem?_eq_getElem hi']
        rfl
      · have e : prs.getD i (0, 0) = q' := by
          rw [List.getD_eq_getElem?_getD, hq]
          rfl
        rw [e]
        exact ha
    · exact ⟨0, fun z => absurd z hi⟩
  obtain ⟨f, hf⟩ := Classical.axiomOfChoice addr
  have vals : Vals ((List.range es.size).map fun i => V.ref (f i)) acc.toList := by
    refine Paired.of_get (by simp [la]) fun j x y hx hy => ?_
    have hj : j < es.size := by
      have := (List.getElem?_eq_some_iff.mp hx).1
      simpa using this
    have ex : x = V.ref (f j) := by simpa [hj] using hx.symm
    have ey : y = Value.ref (f j) := by
      have := (hf j hj).1
      rw [List.getD_eq_getElem?_getD, hy] at this
      exact this
    rw [ex, ey]
    rfl
  have new : ObjOk X.prog X.w (upd H s.heap.objs.size (.lst ((List.range es.size).map fun i => V.ref (f i)))) h' s.heap.objs.size (.lst ((List.range es.size).map fun i => V.ref (f i))) := by
    refine ⟨?_, acc.toList, c, vals, by simpa using hD⟩
    rw [List.length_map, List.length_range]
    exact Nat.le_of_lt (small1000 (by omega))
  refine ⟨.ref s.heap.objs.size, _, I1.adopt fp new, rfl, q _ _ _ (Same.upd fp.1) upd_same (Paired.of_get (by simp; omega) fun j x y hx hy => ?_)⟩
  have hj : j < es.size := by
    have := (List.getElem?_eq_some_iff.mp hx).1
    simpa using this
  have ex : x = V.ref (f j) := by simpa [hj] using hx.symm
  have ha := (hf j hj).2
  rw [List.getD_eq_getElem?_getD, hy] at ha
  exact ⟨f j, ex, by rw [upd_ne (ne_of_none ha fp.1)]; exact ha⟩
end
end L2

namespace L2
open PySem PySem.Calls PySem.Spec PyProof.Rows
section
variable {X : Cx}
end
end L2

namespace L2
open PySem PySem.Calls PySem.Spec PyProof.Rows
section
variable {prog : Program} {w : World} {A : Around} {E : Value → Shared → Prop} {s : Shared}
end
section
variable {X : Cx}
end
end L2

namespace L2
open PySem PySem.Calls PySem.Spec PyProof.Rows
section
variable {X : Cx}
theorem all_flat_ints (ns : List Int) : (ns.map V.int).all flatV = true := by
  rw [List.all_map]
  exact List.all_eq_true.mpr fun _ _ => rfl
end
end L2

namespace L2
open PySem PySem.Calls PySem.Spec PyProof.Rows PySem.W
section
variable {prog : Program} {w : World} {A : Around} {R : Result → Shared → Prop} {h : Heap} {g : Array GenState} {d : Drawn} {t : Nat} {os : OsState} {C f : Addr} {bm : List Value}
end
end L2

namespace L2
open PySem PySem.Calls PySem.Spec PyProof.Rows PySem.W
section
variable {X : Cx} {pins : List (Addr × Obj)} {σ : St} {H : Hp} {s : Shared}
variable {e : Expr} {es : List Expr} {p apos pos : Pos} {t : TA} {C : Addr} {bm : List Value} {pl : Sem Bool}
variable {CX : CXT} {k : Nat} {f : Addr} {fd : FuncData} {ps : List Str} {sp : Sp} {E : XK} {x : Str}
end
end L2

namespace L2
open PySem PySem.Calls PySem.Spec PyProof.Rows PySem.W
section
variable {X : Cx} {pins : List (Addr × Obj)} {σ : St} {H : Hp} {s : Shared} {CX : CXT} {k : Nat} {f C : Addr} {fd : FuncData} {ps : List Str} {sp : Sp} {E : XK} {x : Str} {p pos : Pos} {e : Expr} {es : List Expr} {t : TA} {bm : List Value}
end
end L2

namespace L2
open PySem PySem.Calls PySem.Spec PyProof.Rows PySem.W
end L2

namespace L2
open PySem PySem.Calls PySem.Spec PyProof.Rows PySem.W
section
variable {P : Program} {w : World} {outer : List Env} {H H' : Hp} {s s' : Shared} {y : Addr} {cls : Value} {dct : Option Addr}
end
section
variable {P : Program} {w : World} {K : Frag} {mg : Str → Option Value} {base : Heap} {N : List Str} {qual : Str} {scope : Scope} {f : Addr} {cd : Value} {A : Around} {outer : List Env} {s : Shared} {H : Hp} {E : XK}
variable {pins : List (Addr × Obj)} {σ : St} {H1 : Hp} {s1 : Shared} {y C : Addr} {dct : Option Addr}
end
end L2

namespace L2
open PySem PySem.Calls PySem.Spec PyProof.Rows PySem.W
section
variable {P : Program} {w : World} {K : Frag} {mg : Str → Option Value} {base : Heap} {N : List Str} {qual : Str} {scope : Scope} {f : Addr} {cd : Value} {A : Around} {outer : List Env} {s : Shared} {H : Hp} {E : XK}
variable {C : Addr} {bm : List Value} {e : Expr} {te : TE} {pos : Pos}
end
end L2

namespace L2
open PySem PySem.Calls PySem.Spec PyProof.Rows PySem.W
section
variable {prog : Program} {w : World} {A : Around} {E : Value → Shared → Prop} {s : Shared} {K : Frag} {y C : Addr}
end
section
variable {X : Cx}
end
end L2

namespace L2
open PySem PySem.Calls PySem.Spec PyProof.Rows PySem.W
section
variable {X : Cx} {pins : List (Addr × Obj)} {σ : St} {H H' : Hp} {s s' : Shared} {y : Addr} {cls : Value} {dct : Option Addr}
variable {k : Nat} {x : Str} {ps : List Str} {sp : Sp} {p pos : Pos} {e : Expr} {es : List Expr} {t : TA} {te : XK → TE}
variable {st b₀ : Stmt} {suite : List Stmt} {i : Nat} {n c : Str} {pc hpos : Pos} {W : Addr} {tb : XK → TS} {th : TS}
end
end L2

namespace L2
open PySem PySem.Calls PySem.Spec PyProof.Rows PySem.W
section
variable {X : Cx} {k : Nat} {x : Str} {ps : List Str} {sp : Sp} {p pos : Pos} {e : Expr} {es : List Expr} {t : TA}
end
end L2

namespace L2
open PySem PySem.Calls PySem.Spec PyProof.Rows PySem.W PySem.Builtin PySem.Builtin.ObjectAttr
section
variable {prog : Program} {w : World} {A : Around} {E : Value → Shared → Prop} {s : Shared} {K : Frag} {x C : Addr} {ox : Obj} {od : Option Obj} {name : Str} {v : Value} {Q : Unit → Shared → Prop}
end
section
variable {X : Cx} {pins : List (Addr × Obj)} {σ : St} {H : Hp} {s : Shared} {y C D : Addr} {fs : List (Str × V)} {f : Str} {v : V} {u : Value} {A : Around} {E : Value → Shared → Prop} {Q : Unit → Shared → Prop}
end
end L2

namespace L2
open PySem PySem.Calls PySem.Spec PyProof.Rows PySem.W PySem.Builtin PySem.Builtin.ObjectAttr
section
variable {prog : Program} {w : World} {A : Around} {E : Value → Shared → Prop} {s : Shared} {K : Frag} {y C : Addr} {ox : Obj} {od : Obj} {name : Str} {v : Value} {Q : Value → Shared → Prop} {expr : Bool}
end
section
variable {X : Cx} {e : Expr} {pos : Pos} {te : TE}
end
end L2

namespace L2
open PySem PySem.Spec PyProof.Rows
section
variable {X : Cx}
def CDivW (_ j : Int) : Prop := 0 < j ∧ j.natAbs.log2 < 9000
theorem op_fdivW : OpR X (binaryOp .FloorDiv) (rI CDivW fun i j => .int (i / j)) := opI fun i j _ _ _ _ _ hc q => by
  have h1 : (0 : Int) < j := hc.1
  have e := Int.fdiv_eq_ediv_of_nonneg i (Int.le_of_lt h1)
  exact floordiv_int (Int.ne_of_gt h1) (e ▸ q) (.inl (PyProof.noPylong_of_log2 hc.2))
end
end L2

namespace L2
open PySem PySem.Spec PyProof.Rows PySem.AutoSeq1
section
variable {X : Cx} {es : List Expr} {kt : Nat} {tp : Pos}
end
section
variable {K : PySem.W.Frag} {g : TG} {tc : TT} {te : TE} {σ : St} {H : Hp} {R : List V → Hp → Prop}
end
end L2

namespace L2
open PySem PySem.Spec PyProof.Rows
section
variable {X : Cx}
end
end L2

namespace L2
open PySem PySem.Spec PyProof.Rows PySem.AutoSeq1
end L2
namespace L2
open PySem PySem.Spec PyProof.Rows
section
variable {X : Cx} {es : List Expr} {kt : Nat} {tp : Pos}
end
section
variable {K : PySem.W.Frag} {g : TG} {tc : TT} {te : TE} {σ : St} {H : Hp} {R : List V → Hp → Prop}
end
end L2

namespace L2
open PySem PySem.Spec PyProof.Rows
section
variable {prog : Program} {w : World} {A : Around} {R : Result → Shared → Prop} {it B : Addr} {fp wr : List Addr} {n : Nat} {P : Nat → Value → Prop} {St : Nat → Heap → Prop} {bt : Nat → Nat → Bool} {dn : Str} {dv : Value}
end
section
variable {X : Cx}
end
end L2

namespace L2
open PySem PySem.Spec PyProof.Rows
section
variable {X : Cx}
end
end L2

namespace L2
open PySem PySem.Spec PyProof.Rows
section
variable {X : Cx}
end
end L2

namespace Tim
open PySem PyProof.Rows
structure Ordr (L : Keyed → Keyed → Bool) : Prop where
  asym : ∀ x y, L x y = true → L y x = false
  tr : ∀ x y z, L y x = false → L z y = false → L z x = false
abbrev Sd (L : Keyed → Keyed → Bool) (l : List Keyed) : Prop := l.Pairwise fun x y => L y x = false
section
variable {L : Keyed → Keyed → Bool}
theorem Sd.split {o m r1 r2 : List Keyed} (h1 : Sd L (o ++ (m ++ r1))) (h2 : Sd L (o ++ r2)) (c : ∀ x ∈ m, ∀ y ∈ r2, L y x = false) : Sd L ((o ++ m) ++ r1) ∧ Sd L ((o ++ m) ++ r2) := by
  refine ⟨by rw [List.append_assoc]; exact h1, ?_⟩
  obtain ⟨a1, a2, a3⟩ := List.pairwise_append.mp h1
  obtain ⟨b1, b2, b3⟩ := List.pairwise_append.mp h2
  obtain ⟨c1, c2, c3⟩ := List.pairwise_append.mp a2
  rw [List.append_assoc]
  refine List.pairwise_append.mpr ⟨a1, List.pairwise_append.mpr ⟨c1, b2, c⟩, fun x hx y hy => ?_⟩
  rcases List.mem_append.mp hy with z | z
  · exact a3 x hx y (List.mem_append_left _ z)
  · exact b3 x hx y z
theorem Sd.splitR {o m l1 l2 : List Keyed} (h1 : Sd L ((l1 ++ m) ++ o)) (h2 : Sd L (l2 ++ o)) (c : ∀ y ∈ l2, ∀ x ∈ m, L x y = false) : Sd L (l1 ++ (m ++ o)) ∧ Sd L (l2 ++ (m ++ o)) := by
  rw [List.append_assoc] at h1
  refine ⟨h1, ?_⟩
  obtain ⟨a1, a2, a3⟩ := List.pairwise_append.mp h1
  obtain ⟨b1, b2, b3⟩ := List.pairwise_append.mp h2
  refine List.pairwise_append.mpr ⟨b1, a2, fun y hy x hx => ?_⟩
  rcases List.mem_append.mp hx with z | z
  · exact c y hy x z
  · exact b3 y hy x z
end
section
variable {prog : Program} {w : World} {A : Around} {E : Value → Shared → Prop} {s : Shared} {κ : SortKind} {a0 : Array Keyed} {L : Keyed → Keyed → Bool}
def CmpL (prog : Program) (w : World) (A : Around) (s : Shared) (κ : SortKind) (a0 : Array Keyed) (L : Keyed → Keyed → Bool) : Prop :=
  ∀ x y, x ∈ a0 → y ∈ a0 → ∀ (E : Value → Shared → Prop) (Q : Bool → Shared → Prop), Q (L x y) s → wpAny (model prog w) A (keyLt' κ x.1 y.1) Q E s
theorem lt_L (hc : CmpL prog w A s κ a0 L) {x y : Keyed} {st : SortSt} {Q : Option Bool → SortSt → Prop} (hk : kindOf st = κ) (hx : x ∈ a0) (hy : y ∈ a0) (q : Q (some (L x y)) st) :
    wpS (model prog w) A E s (lt' x y) Q st := by
  rw [lt'_eq]
  refine wpS_bind (wpS_get ?_)
  rw [hk]
  refine wpS_bind (wpS_lift (wpAny_attempt (hc x y hx hy _ _ ⟨rfl, ?_⟩)))
  exact wpS_pure q
def bk (L : Keyed → Keyed → Bool) (left : Bool) (key x : Keyed) : Bool := if left = true then L x key else !L key x
theorem bk_mono (o : Ordr L) {left : Bool} {key x y : Keyed} (h : L y x = false) (hy : bk L left key y = true) : bk L left key x = true := by
  unfold bk at hy ⊢
  cases left with
  | true =>
    rw [if_pos rfl] at hy ⊢
    cases e : L x key with
    | true => rfl
    | false =>
      have := o.tr key x y e h
      rw [this] at hy
      cases hy
  | false =>
    rw [if_neg Bool.false_ne_true] at hy ⊢
    have hy : L key y = false := by simpa using hy
    rw [o.tr x y key h hy]
    rfl
theorem gallop_L (o : Ordr L) (hc : CmpL prog w A s κ a0 L) {left : Bool} {key : Keyed} {arr : Array Keyed} {lo n hint : Nat} {st : SortSt} {Q : Option Nat → SortSt → Prop} (hk : kindOf st = κ) (hkey : key ∈ a0) (hin : In a0 arr) (hn : lo + n ≤ arr.size) (hh : hint < n)
    (sd : Sd L ((arr.toList.drop lo).take n))
    (q : ∀ k, k ≤ n → (∀ x ∈ ((arr.toList.drop lo).take n).take k, bk L left key x = true) → (∀ x ∈ ((arr.toList.drop lo).take n).drop k, bk L left key x = false) → Q (some k) st) : wpS (model prog w) A E s (gallop' left key arr lo n hint) Q st := by
  have len : ((arr.toList.drop lo).take n).length = n := by rw [List.length_take, List.length_drop, Array.length_toList]; omega
  have eg : ∀ i, i < n → arr[lo + i]? = ((arr.toList.drop lo).take n)[i]? := fun i hi => by
    rw [List.getElem?_take, if_pos hi, List.getElem?_drop, Array.getElem?_toList]
  generalize (arr.toList.drop lo).take n = l at sd q len eg
  subst len
  have eg : ∀ i (hi : i < l.length), arr[lo + i]'(by omega) = l[i] := fun i hi => by
    have := eg i hi
    rw [Array.getElem?_eq_getElem (by omega), List.getElem?_eq_getElem hi] at this
    exact Option.some.inj this
  have mono : ∀ i j (hij : i ≤ j) (hj : j < l.length), bk L left key l[j] = true → bk L left key (l[i]'(by omega)) = true := fun i j hij hj h => by
    by_cases e : i = j
    · subst e; exact h
    · exact bk_mono o (List.pairwise_iff_getElem.mp sd i j (by omega) hj (by omega)) h
  have bey : ∀ (i : Nat) (R : Option Bool → SortSt → Prop) (hi : i < l.length), R (some (bk L left key l[i])) st → wpS (model prog w) A E s (do
      let x ← elem' arr (lo + i)
      if left = true then lt' x key else do
        let r ← lt' key x
        pure (r.map (!·))) R st := fun i R hi hR => by
    refine wpS_bind (elem_ok (by omega) ?_)
    have hm : arr[lo + i]'(by omega) ∈ a0 := hin _ (Array.getElem_mem _)
    rw [eg i hi] at hm ⊢
    unfold bk at hR
    cases left with
    | true =>
      rw [if_pos rfl] at hR
      exact lt_L hc hk hm hkey hR
    | false =>
      rw [if_neg Bool.false_ne_true] at hR
      exact wpS_bind (lt_L hc hk hkey hm (wpS_pure hR))
  -- by places
  have T : ∀ k, k ≤ l.length → (∀ i (hi : i < l.length), i < k → bk L left key l[i] = true) → ∀ x ∈ l.take k, bk L left key x = true := fun k hk h x hx => by
    obtain ⟨i, hi, rfl⟩ := List.mem_iff_getElem.mp hx
    rw [List.length_take] at hi
    rw [List.getElem_take]
    exact h i (by omega) (by omega)
  have F : ∀ k, (∀ i (hi : i < l.length), k ≤ i → bk L left key l[i] = false) → ∀ x ∈ l.drop k, bk L left key x = false := fun k h x hx => by
    obtain ⟨i, hi, rfl⟩ := List.mem_iff_getElem.mp hx
    rw [List.length_drop] at hi
    rw [List.getElem_drop]
    exact h (k + i) (by omega) (by omega)
  refine wpS_bind (wpS_mono (bey hint (fun r st' => r = some (bk L left key l[hint]) ∧ st' = st) hh ⟨rfl, rfl⟩) ?_)
  rintro r st' ⟨rfl, rfl⟩
  dsimp only
  cases hb : bk L left key l[hint]
  case' true =>
    rw [if_pos rfl]
    refine wpS_bind (wpS_mono (wpS_forRange (I := fun i c st2 => c.1 = none ∧ (c.2.1 < c.2.2 ∧ i + 1 ≤ c.2.2 ∧ ∃ h : hint + c.2.1 < l.length, bk L left key l[hint + c.2.1] = true) ∧ st2 = st')
      (Q := fun c st2 => c.1 = none ∧ (c.2.1 < c.2.2 ∧ (∃ h : hint + c.2.1 < l.length, bk L left key l[hint + c.2.1] = true) ∧ (l.length - hint ≤ c.2.2 ∨ ∃ h : hint + c.2.2 < l.length, bk L left key l[hint + c.2.2] = false)) ∧ st2 = st') ?step ?fin ⟨rfl, ⟨by decide, by decide, hh, hb⟩, rfl⟩) ?post)
    case fin =>
      rintro ⟨c1, la, ofs⟩ st2 ⟨h1, ⟨h2, h3, h4⟩, h5⟩
      dsimp only at h1 h2 h3 h4 ⊢
      rw [Nat.zero_max] at h3
      exact ⟨h1, ⟨h2, h4, .inl (by omega)⟩, h5⟩
    case step =>
      rintro i ⟨_, la, ofs⟩ st2 _ _ ⟨h, ⟨h2, h3, h4⟩, rfl⟩
      dsimp only at h h2 h3 h4 ⊢
      by_cases hm : ofs ≥ l.length - hint
      · rw [if_pos hm]
        exact wpS_pure ⟨rfl, ⟨h2, h4, .inl hm⟩, rfl⟩
      · rw [if_neg hm]
        refine wpS_bind (bey (hint + ofs) _ (by omega) ?_)
        cases e : bk L left key (l[hint + ofs]'(by omega))
        · exact wpS_pure ⟨rfl, ⟨h2, h4, .inr ⟨by dsimp only; omega, e⟩⟩, rfl⟩
        · exact wpS_pure ⟨rfl, ⟨by dsimp only; omega, by dsimp only; omega, by dsimp only; omega, e⟩, rfl⟩
  case' false =>
    rw [if_neg Bool.false_ne_true]
    refine wpS_bind (wpS_mono (wpS_forRange (I := fun i c st2 => c.1 = none ∧ (c.2.1 < c.2.2 ∧ i + 1 ≤ c.2.2 ∧ c.2.1 ≤ hint ∧ ∃ h : hint - c.2.1 < l.length, bk L left key l[hint - c.2.1] = false) ∧ st2 = st')
      (Q := fun c st2 => c.1 = none ∧ (c.2.1 < c.2.2 ∧ (c.2.1 ≤ hint ∧ ∃ h : hint - c.2.1 < l.length, bk L left key l[hint - c.2.1] = false) ∧ (hint + 1 ≤ c.2.2 ∨ ∃ h : hint - c.2.2 < l.length, bk L left key l[hint - c.2.2] = true)) ∧ st2 = st') ?step ?fin ⟨rfl, ⟨by decide, by decide, Nat.zero_le _, hh, hb⟩, rfl⟩) ?post)
    case fin =>
      rintro ⟨c1, la, ofs⟩ st2 ⟨h1, ⟨h2, h3, h4⟩, h5⟩
      dsimp only at h1 h2 h3 h4 ⊢
      rw [Nat.zero_max] at h3
      exact ⟨h1, ⟨h2, h4, .inl (by omega)⟩, h5⟩
    case step =>
      rintro i ⟨_, la, ofs⟩ st2 _ _ ⟨h, ⟨h2, h3, h4⟩, rfl⟩
      dsimp only at h h2 h3 h4 ⊢
      by_cases hm : ofs ≥ hint + 1
      · rw [if_pos hm]
        exact wpS_pure ⟨rfl, ⟨h2, h4, .inl hm⟩, rfl⟩
      · rw [if_neg hm]
        refine wpS_bind (bey (hint - ofs) _ (by omega) ?_)
        cases e : bk L left key (l[hint - ofs]'(by omega))
        · exact wpS_pure ⟨rfl, ⟨by dsimp only; omega, by dsimp only; omega, by dsimp only; omega, by dsimp only; omega, e⟩, rfl⟩
        · exact wpS_pure ⟨rfl, ⟨h2, h4, .inr ⟨by dsimp only; omega, e⟩⟩, rfl⟩
  case' true =>
    rintro ⟨c1, la, ofs⟩ st2 ⟨h, ⟨g1, ⟨g2, g3⟩, g4⟩, rfl⟩
    dsimp only at h g1 g2 g3 g4 ⊢
    subst h
    dsimp only
    have B : (hint + la + 1 ≤ hint + min ofs (l.length - hint) ∧ hint + min ofs (l.length - hint) ≤ l.length ∧ (∀ i (hi : i < l.length), i < hint + la + 1 → bk L left key l[i] = true) ∧ (∀ i (hi : i < l.length), hint + min ofs (l.length - hint) ≤ i → bk L left key l[i] = false)) := by
      refine ⟨by omega, by omega, fun i hi h => mono i (hint + la) (by omega) g2 g3, fun i hi h => ?_⟩
      rcases g4 with z | ⟨z, e⟩
      · omega
      · cases e2 : bk L left key l[i] with
        | false => rfl
        | true => rw [mono (hint + ofs) i (by omega) hi e2] at e; cases e
    generalize hint + la + 1 = l0 at B
    generalize hint + min ofs (l.length - hint) = h0 at B
  case' false =>
    rintro ⟨c1, la, ofs⟩ st2 ⟨h, ⟨g1, ⟨g0, g2, g3⟩, g4⟩, rfl⟩
    dsimp only at h g0 g1 g2 g3 g4 ⊢
    subst h
    dsimp only
    have B : (hint + 1 - min ofs (hint + 1) ≤ hint - la ∧ hint - la ≤ l.length ∧ (∀ i (hi : i < l.length), i < hint + 1 - min ofs (hint + 1) → bk L left key l[i] = true) ∧ (∀ i (hi : i < l.length), hint - la ≤ i → bk L left key l[i] = false)) := by
      refine ⟨by omega, by omega, fun i hi h => ?_, fun i hi h => ?_⟩
      · rcases g4 with z | ⟨z, e⟩
        · omega
        · exact mono i (hint - ofs) (by omega) z e
      · cases e2 : bk L left key l[i] with
        | false => rfl
        | true => rw [mono (hint - la) i h hi e2] at g3; cases g3
    generalize hint + 1 - min ofs (hint + 1) = l0 at B
    generalize hint - la = h0 at B
  all_goals
    refine wpS_bind (wpS_mono (wpS_forRange (I := fun j c st3 => c.1 = none ∧ (c.2.1 ≤ c.2.2 ∧ c.2.2 ≤ l.length ∧ (∀ i (hi : i < l.length), i < c.2.1 → bk L left key l[i] = true) ∧ (∀ i (hi : i < l.length), c.2.2 ≤ i → bk L left key l[i] = false)) ∧ c.2.2 - c.2.1 ≤ l.length - j ∧ st3 = st2)
      (Q := fun c st3 => c.1 = none ∧ (c.2.1 ≤ c.2.2 ∧ c.2.2 ≤ l.length ∧ (∀ i (hi : i < l.length), i < c.2.1 → bk L left key l[i] = true) ∧ (∀ i (hi : i < l.length), c.2.2 ≤ i → bk L left key l[i] = false)) ∧ c.2.2 ≤ c.2.1 ∧ st3 = st2) ?_ ?_ ⟨rfl, B, by dsimp only; omega, rfl⟩) ?_)
    · rintro j ⟨c1, l1, h1⟩ st3 _ _ ⟨e1, ⟨b1, b2, b3, b4⟩, e3, rfl⟩
      dsimp only at e1 b1 b2 b3 b4 e3 ⊢
      subst e1
      by_cases hm : l1 ≥ h1
      · rw [if_pos hm]
        exact wpS_pure ⟨rfl, ⟨b1, b2, b3, b4⟩, hm, rfl⟩
      · rw [if_neg hm]
        refine wpS_bind (bey (l1 + (h1 - l1) / 2) _ (by omega) ?_)
        cases e : bk L left key (l[l1 + (h1 - l1) / 2]'(by omega))
        · exact wpS_pure ⟨rfl, ⟨by dsimp only; omega, by dsimp only; omega, b3, fun i hi h => by
            cases e2 : bk L left key l[i] with
            | false => rfl
            | true => rw [mono _ i h hi e2] at e; cases e⟩, by dsimp only; omega, rfl⟩
        · exact wpS_pure ⟨rfl, ⟨by dsimp only; omega, b2, fun i hi h => mono i _ (by dsimp only at h; omega) (by omega) e, b4⟩, by dsimp only; omega, rfl⟩
    · rintro ⟨c1, l1, h1⟩ st3 ⟨e1, b, e3, e4⟩
      dsimp only at e1 b e3 ⊢
      rw [Nat.zero_max] at e3
      exact ⟨e1, b, by omega, e4⟩
    · rintro ⟨c1, l1, h1⟩ st3 ⟨e1, ⟨b1, b2, b3, b4⟩, e3, rfl⟩
      dsimp only at e1 b1 b2 b3 b4 e3 ⊢
      subst e1
      have e : l1 = h1 := by omega
      subst e
      exact wpS_pure (q _ b2 (T _ b2 b3) (F _ b4))
end
end Tim
namespace Tim
open PySem PyProof.Rows
section
variable {L : Keyed → Keyed → Bool}
theorem Ordr.irr (o : Ordr L) (x : Keyed) : L x x = false := by
  cases e : L x x with
  | false => rfl
  | true => rw [← o.asym x x e]; exact e.symm
theorem Sd.drop {l : List Keyed} (h : Sd L l) (i : Nat) : Sd L (l.drop i) := List.Pairwise.sublist (List.drop_sublist i l) h
theorem Sd.take {l : List Keyed} (h : Sd L l) (i : Nat) : Sd L (l.take i) := List.Pairwise.sublist (List.take_sublist i l) h
theorem Sd.head (o : Ordr L) {a : Array Keyed} (h : Sd L a.toList) {i : Nat} (hi : i < a.size) : ∀ y ∈ a.toList.drop i, L y a[i] = false := fun y hy => by
  rw [List.drop_eq_getElem_cons (by simpa using hi)] at hy
  have h2 := h.drop i
  rw [List.drop_eq_getElem_cons (by simpa using hi)] at h2
  rcases List.mem_cons.mp hy with z | z
  · rw [z]
    simp only [Array.getElem_toList]
    exact o.irr _
  · have := List.rel_of_pairwise_cons h2 z
    simpa using this
theorem Sd.lastL (o : Ordr L) {a : Array Keyed} (h : Sd L a.toList) {n : Nat} (h0 : 0 < n) (hi : n - 1 < a.size) : ∀ y ∈ a.toList.take n, L a[n - 1] y = false := fun y hy => by
  have h2 := h.take n
  rw [take_last a n h0 hi] at hy h2
  rcases List.mem_append.mp hy with z | z
  · exact (List.pairwise_append.mp h2).2.2 y z _ (List.mem_singleton.mpr rfl)
  · rw [List.mem_singleton.mp z]
    exact o.irr _
structure SL (L : Keyed → Keyed → Bool) (a b out : Array Keyed) (ia ib : Nat) : Prop where
  A : Sd L (out.toList ++ a.toList.drop ia)
  B : Sd L (out.toList ++ b.toList.drop ib)
variable {a b out : Array Keyed} {ia ib : Nat}
theorem SL.pushA (h : SL L a b out ia ib) (hi : ia < a.size) (c : ∀ y ∈ b.toList.drop ib, L y a[ia] = false) : SL L a b (out.push a[ia]) (ia + 1) ib := by
  have h1 := h.A
  rw [List.drop_eq_getElem_cons (by simpa using hi), Array.getElem_toList] at h1
  obtain ⟨x, y⟩ := Sd.split (m := [a[ia]]) h1 h.B (fun x hx y hy => by rw [List.mem_singleton.mp hx]; exact c y hy)
  exact ⟨by rw [Array.toList_push]; exact x, by rw [Array.toList_push]; exact y⟩
theorem SL.pushB (h : SL L a b out ia ib) (hi : ib < b.size) (c : ∀ y ∈ a.toList.drop ia, L y b[ib] = false) : SL L a b (out.push b[ib]) ia (ib + 1) := by
  have h1 := h.B
  rw [List.drop_eq_getElem_cons (by simpa using hi), Array.getElem_toList] at h1
  obtain ⟨x, y⟩ := Sd.split (m := [b[ib]]) h1 h.A (fun x hx y hy => by rw [List.mem_singleton.mp hx]; exact c y hy)
  exact ⟨by rw [Array.toList_push]; exact y, by rw [Array.toList_push]; exact x⟩
theorem SL.takeA (h : SL L a b out ia ib) {k : Nat} (c : ∀ x ∈ (a.extract ia (ia + k)).toList, ∀ y ∈ b.toList.drop ib, L y x = false) : SL L a b (out ++ a.extract ia (ia + k)) (ia + k) ib := by
  have h1 := h.A
  rw [drop_ex a ia (ia + k) (by omega)] at h1
  obtain ⟨x, y⟩ := Sd.split h1 h.B c
  exact ⟨by rw [Array.toList_append]; exact x, by rw [Array.toList_append]; exact y⟩
theorem SL.takeB (h : SL L a b out ia ib) {k : Nat} (c : ∀ x ∈ (b.extract ib (ib + k)).toList, ∀ y ∈ a.toList.drop ia, L y x = false) : SL L a b (out ++ b.extract ib (ib + k)) ia (ib + k) := by
  have h1 := h.B
  rw [drop_ex b ib (ib + k) (by omega)] at h1
  obtain ⟨x, y⟩ := Sd.split h1 h.A c
  exact ⟨by rw [Array.toList_append]; exact y, by rw [Array.toList_append]; exact x⟩
theorem SL.doneB (h : SL L a b out ia ib) (hb : b.size ≤ ib) : Sd L (out ++ a.extract ia a.size ++ b.extract ib b.size).toList := by
  rw [Array.toList_append, Array.toList_append, ext_all, ext_all, List.drop_of_length_le (l := b.toList) (by simpa using hb), List.append_nil]
  exact h.A
theorem SL.doneA (h : SL L a b out ia ib) (ha : a.size ≤ ia) : Sd L (out ++ a.extract ia a.size ++ b.extract ib b.size).toList := by
  rw [Array.toList_append, Array.toList_append, ext_all, ext_all, List.drop_of_length_le (l := a.toList) (by simpa using ha), List.append_nil]
  exact h.B
theorem SL.last (h : SL L a b out ia ib) (ha : ia + 1 = a.size) (hl : ∀ y ∈ b.toList, L a[ia] y = false) : Sd L (out ++ b.extract ib b.size ++ a.extract ia a.size).toList := by
  have hi : ia < a.size := by omega
  have h1 := h.A
  have e : a.toList.drop ia = [a[ia]] := by
    rw [List.drop_eq_getElem_cons (by simpa using hi), List.drop_of_length_le (by simp; omega), Array.getElem_toList]
  rw [e] at h1
  rw [Array.toList_append, Array.toList_append, ext_all, ext_all, e]
  refine List.pairwise_append.mpr ⟨h.B, List.pairwise_singleton _ _, fun x hx y hy => ?_⟩
  rw [List.mem_singleton.mp hy]
  rcases List.mem_append.mp hx with z | z
  · exact (List.pairwise_append.mp h1).2.2 x z _ (List.mem_singleton.mpr rfl)
  · exact hl x (List.mem_of_mem_drop z)
end
section
variable {prog : Program} {w : World} {A : Around} {E : Value → Shared → Prop} {s : Shared} {κ : SortKind} {a0 : Array Keyed} {L : Keyed → Keyed → Bool}
theorem gallop_all (o : Ordr L) (hc : CmpL prog w A s κ a0 L) {left : Bool} {key : Keyed} {arr : Array Keyed} {lo hint : Nat} {st : SortSt} {Q : Option Nat → SortSt → Prop} (hk : kindOf st = κ) (hkey : key ∈ a0) (hin : In a0 arr) (hn : lo ≤ arr.size) (hh : hint < arr.size - lo)
    (sd : Sd L arr.toList)
    (q : ∀ k, k ≤ arr.size - lo → (∀ x ∈ (arr.extract lo (lo + k)).toList, bk L left key x = true) → (∀ x ∈ arr.toList.drop (lo + k), bk L left key x = false) → Q (some k) st) : wpS (model prog w) A E s (gallop' left key arr lo (arr.size - lo) hint) Q st := by
  have e : (arr.toList.drop lo).take (arr.size - lo) = arr.toList.drop lo := List.take_of_length_le (by simp)
  refine gallop_L o hc hk hkey hin (by omega) hh (by rw [e]; exact sd.drop lo) fun k hk t f => q k hk (fun x hx => t x ?_) (fun x hx => f x ?_)
  · rw [e]
    rw [Array.toList_extract, List.extract_eq_take_drop, show lo + k - lo = k by omega] at hx
    exact hx
  · rw [e, List.drop_drop]
    exact hx
theorem gallop_to (o : Ordr L) (hc : CmpL prog w A s κ a0 L) {left : Bool} {key : Keyed} {arr : Array Keyed} {n hint : Nat} {st : SortSt} {Q : Option Nat → SortSt → Prop} (hk : kindOf st = κ) (hkey : key ∈ a0) (hin : In a0 arr) (hn : n ≤ arr.size) (hh : hint < n)
    (sd : Sd L arr.toList)
    (q : ∀ k, k ≤ n → (∀ x ∈ arr.toList.take k, bk L left key x = true) → (∀ x ∈ (arr.extract k n).toList, bk L left key x = false) → Q (some k) st) : wpS (model prog w) A E s (gallop' left key arr 0 n hint) Q st := by
  refine gallop_L o hc hk hkey hin (by omega) hh (by rw [List.drop_zero]; exact sd.take n) fun k hk t f => q k hk (fun x hx => t x ?_) (fun x hx => f x ?_)
  · rw [List.drop_zero, List.take_take, Nat.min_eq_left hk]
    exact hx
  · rw [List.drop_zero]
    rw [Array.toList_extract, List.extract_eq_take_drop] at hx
    rw [List.drop_take]
    exact hx
theorem bkR {key x : Keyed} (h : bk L false key x = true) : L key x = false := by
  unfold bk at h
  simpa using h
theorem bkR' {key x : Keyed} (h : bk L false key x = false) : L key x = true := by
  unfold bk at h
  simpa using h
theorem mergeLo_L (o : Ordr L) (hc : CmpL prog w A s κ a0 L) {a b : Array Keyed} {st : SortSt} {Q : Array Keyed → SortSt → Prop} (hk : Ok κ a0 st) (ha : In a0 a) (hb : In a0 b) (a1 : 1 ≤ a.size) (b1 : 1 ≤ b.size)
    (sda : Sd L a.toList) (sdb : Sd L b.toList) (hf : ∀ x ∈ a.toList, L x b[0] = false) (hl : ∀ (i : Nat) (hi : i < a.size), i + 1 = a.size → ∀ y ∈ b.toList, L a[i] y = false)
    (q : ∀ out st', out.Perm (a ++ b) → Sd L out.toList → SI κ a0 st st' → Q out st') : wpS (model prog w) A E s (mergeLo' a b) Q st := by
  have P0 : PL a b #[b[0]] 0 1 := by
    have : PL a b #[] 0 0 := by
      unfold PL
      simp
    exact this.pushB (by omega)
  have S0 : SL L a b #[b[0]] 0 1 := by
    have : SL L a b #[] 0 0 := ⟨by simpa using sda, by simpa using sdb⟩
    exact this.pushB (by omega) (by simpa using hf)
  have hdb := fun (i : Nat) (hi : i < b.size) => sdb.head o hi
  have hda := fun (i : Nat) (hi : i < a.size) => sda.head o hi
  refine wpS_bind (wpS_lift (wpAny_rule ⟨rfl, ?_⟩))
  dsimp only
  refine wpS_bind (elem_ok (by omega) ?_)
  by_cases c1 : (1 == b.size) = true
  · rw [if_pos c1]
    simp only [beq_iff_eq] at c1
    exact wpS_pure (q _ _ P0.done (S0.doneB (by omega)) ⟨hk, rfl, rfl⟩)
  rw [if_neg c1]
  by_cases c2 : (0 + 1 == a.size) = true
  · rw [if_pos c2]
    simp only [beq_iff_eq] at c2
    exact wpS_pure (q _ _ P0.last (S0.last (by omega) (hl 0 (by omega) (by omega))) ⟨hk, rfl, rfl⟩)
  rw [if_neg c2]
  simp only [beq_iff_eq] at c1 c2
  refine wpS_bind (wpS_get ?_)
  refine wpS_bind (wpS_mono (wpS_forRange (I := fun i c st' => SI κ a0 st st' ∧ ∃ (out : Array Keyed) (ia ib g : Nat), c = (none, out, ia, ib, g) ∧ (PL a b out ia ib ∧ SL L a b out ia ib) ∧ ia + 1 < a.size ∧ ib < b.size ∧ i + 1 ≤ ia + ib)
    (Q := fun c st' => SI κ a0 st st' ∧ ∃ r : Array Keyed, c.1 = some r ∧ r.Perm (a ++ b) ∧ Sd L r.toList) ?step ?fin ⟨⟨hk, rfl, rfl⟩, _, _, _, _, rfl, ⟨P0, S0⟩, by omega, by omega, by omega⟩) ?post)
  case fin =>
    rintro c st' ⟨_, out, ia, ib, g, _, _, h1, h2, h3⟩
    rw [Nat.zero_max] at h3
    omega
  case post =>
    rintro ⟨c, r4⟩ st' ⟨S, r, h, hp⟩
    dsimp only at h ⊢
    subst h
    exact wpS_pure (q _ _ hp.1 hp.2 S)
  case step =>
    rintro i c st1 _ hi ⟨S1, out, ia, ib, g, rfl, P, h1, h2, h3⟩
    dsimp only
    refine wpS_bind (wpS_mono (wpS_forRange (I := fun j c st' => SI κ a0 st st' ∧ ∃ (out : Array Keyed) (ia' ib' x y : Nat), c = (none, out, ia', ib', x, y) ∧ (PL a b out ia' ib' ∧ SL L a b out ia' ib') ∧ ia' + 1 < a.size ∧ ib' < b.size ∧ ia + ib + j ≤ ia' + ib')
      (Q := fun c st' => SI κ a0 st st' ∧ ((∃ r : Array Keyed, c.1 = some r ∧ r.Perm (a ++ b) ∧ Sd L r.toList) ∨ ∃ (out : Array Keyed) (ia' ib' x y : Nat), c = (none, out, ia', ib', x, y) ∧ (PL a b out ia' ib' ∧ SL L a b out ia' ib') ∧ ia' + 1 < a.size ∧ ib' < b.size ∧ ia + ib + 1 ≤ ia' + ib')) ?step1 ?fin1 ⟨S1, _, _, _, _, _, rfl, P, h1, h2, by omega⟩) ?post1)
    case fin1 =>
      rintro c st' ⟨S, out, ia', ib', x, y, rfl, P, h1, h2, h3⟩
      rw [Nat.zero_max] at h3
      exact ⟨S, .inr ⟨out, ia', ib', x, y, rfl, P, h1, h2, by omega⟩⟩
    case step1 =>
      rintro j c st2 _ hj ⟨S2, out, ia', ib', x, y, rfl, P2, h1', h2', h3'⟩
      dsimp only
      refine wpS_bind (elem_ok h2' (wpS_bind (elem_ok (by omega) (wpS_bind (lt_L hc S2.ok.kind (hb _ (Array.getElem_mem _)) (ha _ (Array.getElem_mem _)) ?_)))))
      dsimp only
      cases bw : L (b[ib']'h2') (a[ia']'(by omega)) with
      | true =>
        rw [if_pos rfl]
        refine wpS_bind (elem_ok h2' ?_)
        have P3 := P2.1.pushB h2'
        have S3 := P2.2.pushB h2' fun y hy => o.tr _ a[ia'] _ (o.asym _ _ bw) (hda ia' (by omega) y hy)
        by_cases d1 : (ib' + 1 == b.size) = true
        · rw [if_pos d1]
          simp only [beq_iff_eq] at d1
          exact wpS_pure ⟨S2, .inl ⟨_, rfl, P3.done, S3.doneB (by omega)⟩⟩
        rw [if_neg d1]
        simp only [beq_iff_eq] at d1
        split
        · exact wpS_pure ⟨S2, .inr ⟨_, _, _, _, _, rfl, ⟨P3, S3⟩, h1', by omega, by omega⟩⟩
        · exact wpS_pure ⟨S2, _, _, _, _, _, rfl, ⟨P3, S3⟩, h1', by omega, by omega⟩
      | false =>
        rw [if_neg Bool.false_ne_true]
        refine wpS_bind (elem_ok (by omega) ?_)
        have P3 := P2.1.pushA (by omega)
        have S3 := P2.2.pushA (by omega) fun y hy => o.tr _ b[ib'] _ bw (hdb ib' h2' y hy)
        by_cases d1 : (ia' + 1 + 1 == a.size) = true
        · rw [if_pos d1]
          simp only [beq_iff_eq] at d1
          exact wpS_pure ⟨S2, .inl ⟨_, rfl, P3.last, S3.last (by omega) (hl _ (by omega) (by omega))⟩⟩
        rw [if_neg d1]
        simp only [beq_iff_eq] at d1
        split
        · exact wpS_pure ⟨S2, .inr ⟨_, _, _, _, _, rfl, ⟨P3, S3⟩, by omega, h2', by omega⟩⟩
        · exact wpS_pure ⟨S2, _, _, _, _, _, rfl, ⟨P3, S3⟩, by omega, h2', by omega⟩
    case post1 =>
      rintro c st2 ⟨S2, ⟨r, h, hp⟩ | ⟨out, ia', ib', x, y, rfl, P2, h1', h2', h3'⟩⟩
      · obtain ⟨c1, cr⟩ := c
        dsimp only at h ⊢
        subst h
        exact wpS_pure ⟨S2, r, rfl, hp⟩
      dsimp only
      refine wpS_bind (wpS_lift (wpAny_rule ⟨rfl, ?_⟩))
      refine wpS_bind (wpS_mono (wpS_forRange (I := fun j c st' => SI κ a0 st st' ∧ ∃ (out : Array Keyed) (ia' ib' g x y : Nat), c = (none, out, ia', ib', g, x, y) ∧ (PL a b out ia' ib' ∧ SL L a b out ia' ib') ∧ ia' + 1 < a.size ∧ ib' < b.size ∧ ia + ib + 1 ≤ ia' + ib')
        (Q := fun c st' => SI κ a0 st st' ∧ ((∃ r : Array Keyed, c.1 = some r ∧ r.Perm (a ++ b) ∧ Sd L r.toList) ∨ ∃ (out : Array Keyed) (ia' ib' g x y : Nat), c = (none, out, ia', ib', g, x, y) ∧ (PL a b out ia' ib' ∧ SL L a b out ia' ib') ∧ ia' + 1 < a.size ∧ ib' < b.size ∧ ia + ib + 1 ≤ ia' + ib')) ?step2 ?fin2 ⟨S2, _, _, _, _, _, _, rfl, P2, h1', h2', h3'⟩) ?post2)
      case fin2 =>
        rintro c st' ⟨S, out, ia', ib', g, x, y, r⟩
        exact ⟨S, .inr ⟨out, ia', ib', g, x, y, r⟩⟩
      case post2 =>
        rintro c st3 ⟨S3, ⟨r, h, hp⟩ | ⟨out, ia', ib', g, x, y, rfl, P3, h1', h2', h3'⟩⟩
        · obtain ⟨c1, cr⟩ := c
          dsimp only at h ⊢
          subst h
          exact wpS_pure ⟨S3, r, rfl, hp⟩
        dsimp only
        refine wpS_bind (wpS_modify (wpS_pure ⟨⟨⟨S3.ok.kind, S3.ok.fail, S3.ok.perm⟩, S3.pend, S3.arr⟩, _, _, _, _, rfl, P3, h1', h2', by omega⟩))
      case step2 =>
        rintro j c st3 _ hj ⟨S3, out, ia', ib', g, x, y, rfl, ⟨P3, Z3⟩, h1', h2', h3'⟩
        dsimp only
        by_cases hg : g > 1
        case' pos => rw [if_pos hg]
        case' neg => rw [if_neg hg]
        all_goals
          refine wpS_bind (wpS_modify ?_)
          refine wpS_bind (elem_ok h2' ?_)
          refine wpS_bind (gallop_all o hc S3.ok.kind (hb _ (Array.getElem_mem _)) ha (by omega) (by omega) sda fun k hk kt kf => ?_)
          dsimp only
          have kt : ∀ x ∈ (a.extract ia' (ia' + k)).toList, ∀ y ∈ b.toList.drop ib', L y x = false := fun x hx y hy => o.tr x b[ib'] y (bkR (kt x hx)) (hdb ib' h2' y hy)
          have kf : ∀ x ∈ a.toList.drop (ia' + k), L x b[ib'] = false := fun x hx => o.asym _ _ (bkR' (kf x hx))
          by_cases hk0 : k > 0
          case' pos =>
            rw [if_pos hk0]
            have P4 := P3.takeA k
            have Z4 := Z3.takeA kt
            by_cases d1 : (ia' + k + 1 == a.size) = true
            · rw [if_pos d1]
              simp only [beq_iff_eq] at d1
              exact wpS_pure ⟨⟨⟨S3.ok.kind, S3.ok.fail, S3.ok.perm⟩, S3.pend, S3.arr⟩, .inl ⟨_, rfl, P4.last, Z4.last (by omega) (hl _ (by omega) (by omega))⟩⟩
            rw [if_neg d1]
            by_cases d2 : (ia' + k == a.size) = true
            · rw [if_pos d2]
              simp only [beq_iff_eq] at d2
              exact wpS_pure ⟨⟨⟨S3.ok.kind, S3.ok.fail, S3.ok.perm⟩, S3.pend, S3.arr⟩, .inl ⟨_, rfl, P4.done, Z4.doneA (by omega)⟩⟩
            rw [if_neg d2]
            simp only [beq_iff_eq] at d1 d2
            have hI : ia' + k + 1 < a.size := by omega
            have hJ : ia + ib + 1 ≤ ia' + k + ib' := by omega
            generalize out ++ a.extract ia' (ia' + k) = OUT at P4 Z4
            generalize ia' + k = IA at P4 Z4 hI hJ kf
          case' neg =>
            rw [if_neg hk0]
            have P4 := P3
            have Z4 := Z3
            have hI := h1'
            have hJ := h3'
            have kf : ∀ x ∈ a.toList.drop ia', L x b[ib'] = false := by
              have e : ia' + k = ia' := by omega
              rw [e] at kf
              exact kf
            generalize out = OUT at P4 Z4
            generalize ia' = IA at P4 Z4 hI hJ kf
          all_goals
            refine wpS_bind (elem_ok h2' ?_)
            have P5 := P4.pushB h2'
            have Z5 := Z4.pushB h2' kf
            by_cases d3 : (ib' + 1 == b.size) = true
            · rw [if_pos d3]
              simp only [beq_iff_eq] at d3
              exact wpS_pure ⟨⟨⟨S3.ok.kind, S3.ok.fail, S3.ok.perm⟩, S3.pend, S3.arr⟩, .inl ⟨_, rfl, P5.done, Z5.doneB (by omega)⟩⟩
            rw [if_neg d3]
            simp only [beq_iff_eq] at d3
            refine wpS_bind (elem_ok (by omega) ?_)
            refine wpS_bind (gallop_all o hc S3.ok.kind (ha _ (Array.getElem_mem _)) hb (by omega) (by omega) sdb fun k2 hk2 kt2 kf2 => ?_)
            dsimp only
            have kt2 : ∀ x ∈ (b.extract (ib' + 1) (ib' + 1 + k2)).toList, ∀ y ∈ a.toList.drop IA, L y x = false := fun x hx y hy => o.tr x (a[IA]'(by omega)) y (o.asym _ _ (show L x (a[IA]'(by omega)) = true from kt2 x hx)) (hda IA (by omega) y hy)
            have kf2 : ∀ x ∈ b.toList.drop (ib' + 1 + k2), L x (a[IA]'(by omega)) = false := fun x hx => kf2 x hx
            by_cases hk3 : k2 > 0
            case' pos =>
              rw [if_pos hk3]
              have P6 := P5.takeB k2
              have Z6 := Z5.takeB kt2
              by_cases d4 : (ib' + 1 + k2 == b.size) = true
              · rw [if_pos d4]
                simp only [beq_iff_eq] at d4
                exact wpS_pure ⟨⟨⟨S3.ok.kind, S3.ok.fail, S3.ok.perm⟩, S3.pend, S3.arr⟩, .inl ⟨_, rfl, P6.done, Z6.doneB (by omega)⟩⟩
              rw [if_neg d4]
              simp only [beq_iff_eq] at d4
              have hB : ib' + 1 + k2 < b.size := by omega
              have hC : ia + ib + 1 ≤ IA + (ib' + 1 + k2) := by omega
            case' neg =>
              rw [if_neg hk3]
              have P6 := P5
              have Z6 := Z5
              have kf2 : ∀ x ∈ b.toList.drop (ib' + 1), L x (a[IA]'(by omega)) = false := by
                have e : ib' + 1 + k2 = ib' + 1 := by omega
                rw [e] at kf2
                exact kf2
              have hB : ib' + 1 < b.size := by omega
              have hC : ia + ib + 1 ≤ IA + (ib' + 1) := by omega
            all_goals
              refine wpS_bind (elem_ok (by omega) ?_)
              have P7 := P6.pushA (by omega)
              have Z7 := Z6.pushA (by omega) kf2
              by_cases d5 : (IA + 1 + 1 == a.size) = true
              · rw [if_pos d5]
                simp only [beq_iff_eq] at d5
                exact wpS_pure ⟨⟨⟨S3.ok.kind, S3.ok.fail, S3.ok.perm⟩, S3.pend, S3.arr⟩, .inl ⟨_, rfl, P7.last, Z7.last (by omega) (hl _ (by omega) (by omega))⟩⟩
              rw [if_neg d5]
              simp only [beq_iff_eq] at d5
              by_cases d6 : (decide (k < 7) && decide (k2 < 7)) = true
              · rw [if_pos d6]
                exact wpS_pure ⟨⟨⟨S3.ok.kind, S3.ok.fail, S3.ok.perm⟩, S3.pend, S3.arr⟩, .inr ⟨_, _, _, _, _, _, rfl, ⟨P7, Z7⟩, by omega, hB, by omega⟩⟩
              · rw [if_neg d6]
                exact wpS_pure ⟨⟨⟨S3.ok.kind, S3.ok.fail, S3.ok.perm⟩, S3.pend, S3.arr⟩, _, _, _, _, _, _, rfl, ⟨P7, Z7⟩, by omega, hB, by omega⟩
end
end Tim
namespace Tim
open PySem PyProof.Rows
section
variable {L : Keyed → Keyed → Bool}
structure SH (L : Keyed → Keyed → Bool) (a b out : Array Keyed) (na nb : Nat) : Prop where
  A : Sd L (a.toList.take na ++ out.toList.reverse)
  B : Sd L (b.toList.take nb ++ out.toList.reverse)
variable {a b out : Array Keyed} {na nb : Nat}
theorem SH.downA (h : SH L a b out na nb) (h0 : 0 < na) (hi : na - 1 < a.size) (c : ∀ y ∈ b.toList.take nb, L a[na - 1] y = false) : SH L a b (out.push a[na - 1]) (na - 1) nb := by
  have h1 := h.A
  rw [take_last a na h0 hi] at h1
  obtain ⟨x, y⟩ := Sd.splitR h1 h.B (fun y hy x hx => by rw [List.mem_singleton.mp hx]; exact c y hy)
  have e : (out.push a[na - 1]).toList.reverse = [a[na - 1]] ++ out.toList.reverse := by simp
  exact ⟨by rw [e]; exact x, by rw [e]; exact y⟩
theorem SH.downB (h : SH L a b out na nb) (h0 : 0 < nb) (hi : nb - 1 < b.size) (c : ∀ y ∈ a.toList.take na, L b[nb - 1] y = false) : SH L a b (out.push b[nb - 1]) na (nb - 1) := by
  have h1 := h.B
  rw [take_last b nb h0 hi] at h1
  obtain ⟨x, y⟩ := Sd.splitR h1 h.A (fun y hy x hx => by rw [List.mem_singleton.mp hx]; exact c y hy)
  have e : (out.push b[nb - 1]).toList.reverse = [b[nb - 1]] ++ out.toList.reverse := by simp
  exact ⟨by rw [e]; exact y, by rw [e]; exact x⟩
theorem SH.takeA (h : SH L a b out na nb) {k : Nat} (hk : k ≤ na) (c : ∀ y ∈ b.toList.take nb, ∀ x ∈ (a.extract k na).toList, L x y = false) : SH L a b (out ++ (a.extract k na).reverse) k nb := by
  have h1 := h.A
  rw [take_ex a k na hk] at h1
  obtain ⟨x, y⟩ := Sd.splitR h1 h.B c
  have e : (out ++ (a.extract k na).reverse).toList.reverse = (a.extract k na).toList ++ out.toList.reverse := by
    simp only [Array.toList_append, Array.toList_reverse, List.reverse_append, List.reverse_reverse]
  exact ⟨by rw [e]; exact x, by rw [e]; exact y⟩
theorem SH.takeB (h : SH L a b out na nb) {k : Nat} (hk : k ≤ nb) (c : ∀ y ∈ a.toList.take na, ∀ x ∈ (b.extract k nb).toList, L x y = false) : SH L a b (out ++ (b.extract k nb).reverse) na k := by
  have h1 := h.B
  rw [take_ex b k nb hk] at h1
  obtain ⟨x, y⟩ := Sd.splitR h1 h.A c
  have e : (out ++ (b.extract k nb).reverse).toList.reverse = (b.extract k nb).toList ++ out.toList.reverse := by
    simp only [Array.toList_append, Array.toList_reverse, List.reverse_append, List.reverse_reverse]
  exact ⟨by rw [e]; exact y, by rw [e]; exact x⟩
theorem SH.doneA (h : SH L a b out na nb) (hn : na = 0) : Sd L (a.extract 0 na ++ b.extract 0 nb ++ out.reverse).toList := by
  subst hn
  rw [Array.toList_append, Array.toList_append, ext_zero, ext_zero, Array.toList_reverse, List.take_zero, List.nil_append]
  exact h.B
theorem SH.doneB (h : SH L a b out na nb) (hn : nb = 0) : Sd L (a.extract 0 na ++ b.extract 0 nb ++ out.reverse).toList := by
  subst hn
  rw [Array.toList_append, Array.toList_append, ext_zero, ext_zero, Array.toList_reverse, List.take_zero, List.append_nil]
  exact h.A
theorem SH.first (h : SH L a b out na nb) (b1 : 1 ≤ b.size) (hn : nb = 1) (hf : ∀ x ∈ a.toList, L x b[0] = false) : Sd L (b.extract 0 nb ++ a.extract 0 na ++ out.reverse).toList := by
  subst hn
  rw [Array.toList_append, Array.toList_append, ext_zero, ext_zero, Array.toList_reverse, List.append_assoc]
  have e : b.toList.take 1 = [b[0]] := by
    have := take_last b 1 (by omega) (by omega)
    simpa using this
  have h2 := h.B
  rw [e] at h2 ⊢
  refine List.pairwise_append.mpr ⟨List.pairwise_singleton _ _, h.A, fun x hx y hy => ?_⟩
  rw [List.mem_singleton.mp hx]
  rcases List.mem_append.mp hy with z | z
  · exact hf y (List.mem_of_mem_take z)
  · exact (List.pairwise_append.mp h2).2.2 _ (List.mem_singleton.mpr rfl) y z
end
section
variable {prog : Program} {w : World} {A : Around} {E : Value → Shared → Prop} {s : Shared} {κ : SortKind} {a0 : Array Keyed} {L : Keyed → Keyed → Bool}
theorem mergeHi_L (o : Ordr L) (hc : CmpL prog w A s κ a0 L) {a b : Array Keyed} {st : SortSt} {Q : Array Keyed → SortSt → Prop} (hk : Ok κ a0 st) (ha : In a0 a) (hb : In a0 b) (a1 : 1 ≤ a.size) (b1 : 1 ≤ b.size)
    (sda : Sd L a.toList) (sdb : Sd L b.toList) (hf : ∀ x ∈ a.toList, L x b[0] = false) (hl : ∀ y ∈ b.toList, L (a[a.size - 1]'(by omega)) y = false)
    (q : ∀ out st', out.Perm (a ++ b) → Sd L out.toList → SI κ a0 st st' → Q out st') : wpS (model prog w) A E s (mergeHi' a b) Q st := by
  have P0 : PH a b #[a[a.size - 1]] (a.size - 1) b.size := by
    have : PH a b #[] a.size b.size := by
      unfold PH
      rw [List.take_of_length_le (by simp), List.take_of_length_le (by simp)]
      simp
    exact this.downA (by omega) (by omega)
  have S0 : SH L a b #[a[a.size - 1]] (a.size - 1) b.size := by
    have : SH L a b #[] a.size b.size := by
      constructor
      · rw [List.take_of_length_le (by simp)]
        simpa using sda
      · rw [List.take_of_length_le (by simp)]
        simpa using sdb
    exact this.downA (by omega) (by omega) fun y hy => hl y (List.mem_of_mem_take hy)
  have ldb := fun (n : Nat) (h0 : 0 < n) (hi : n - 1 < b.size) => sdb.lastL o h0 hi
  have lda := fun (n : Nat) (h0 : 0 < n) (hi : n - 1 < a.size) => sda.lastL o h0 hi
  refine wpS_bind (wpS_lift (wpAny_rule ⟨rfl, ?_⟩))
  dsimp only
  refine wpS_bind (elem_ok (by omega) ?_)
  by_cases c1 : (a.size - 1 == 0) = true
  · rw [if_pos c1]
    simp only [beq_iff_eq] at c1
    exact wpS_pure (q _ _ P0.done (S0.doneA (by omega)) ⟨hk, rfl, rfl⟩)
  rw [if_neg c1]
  by_cases c2 : (b.size == 1) = true
  · rw [if_pos c2]
    simp only [beq_iff_eq] at c2
    exact wpS_pure (q _ _ P0.first (S0.first b1 (by omega) hf) ⟨hk, rfl, rfl⟩)
  rw [if_neg c2]
  simp only [beq_iff_eq] at c1 c2
  refine wpS_bind (wpS_get ?_)
  refine wpS_bind (wpS_mono (wpS_forRange (I := fun i c st' => SI κ a0 st st' ∧ ∃ (out : Array Keyed) (na nb g : Nat), c = (none, na, nb, out, g) ∧ (PH a b out na nb ∧ SH L a b out na nb) ∧ 1 ≤ na ∧ na ≤ a.size ∧ 2 ≤ nb ∧ nb ≤ b.size ∧ na + nb + i + 1 ≤ a.size + b.size)
    (Q := fun c st' => SI κ a0 st st' ∧ ∃ r : Array Keyed, c.1 = some r ∧ r.Perm (a ++ b) ∧ Sd L r.toList) ?step ?fin ⟨⟨hk, rfl, rfl⟩, _, _, _, _, rfl, ⟨P0, S0⟩, by omega, by omega, by omega, by omega, by omega⟩) ?post)
  case fin =>
    rintro c st' ⟨_, out, na, nb, g, _, _, h1, h1b, h2, h2b, h3⟩
    rw [Nat.zero_max] at h3
    omega
  case post =>
    rintro ⟨c, r4⟩ st' ⟨S, r, h, hp⟩
    dsimp only at h ⊢
    subst h
    exact wpS_pure (q _ _ hp.1 hp.2 S)
  case step =>
    rintro i c st1 _ hi ⟨S1, out, na, nb, g, rfl, P, h1, h1b, h2, h2b, h3⟩
    dsimp only
    refine wpS_bind (wpS_mono (wpS_forRange (I := fun j c st' => SI κ a0 st st' ∧ ∃ (out : Array Keyed) (ma mb x y : Nat), c = (none, ma, mb, out, x, y) ∧ (PH a b out ma mb ∧ SH L a b out ma mb) ∧ 1 ≤ ma ∧ ma ≤ a.size ∧ 2 ≤ mb ∧ mb ≤ b.size ∧ ma + mb + j ≤ na + nb)
      (Q := fun c st' => SI κ a0 st st' ∧ ((∃ r : Array Keyed, c.1 = some r ∧ r.Perm (a ++ b) ∧ Sd L r.toList) ∨ ∃ (out : Array Keyed) (ma mb x y : Nat), c = (none, ma, mb, out, x, y) ∧ (PH a b out ma mb ∧ SH L a b out ma mb) ∧ 1 ≤ ma ∧ ma ≤ a.size ∧ 2 ≤ mb ∧ mb ≤ b.size ∧ ma + mb + 1 ≤ na + nb)) ?step1 ?fin1 ⟨S1, _, _, _, _, _, rfl, P, h1, h1b, h2, h2b, by omega⟩) ?post1)
    case fin1 =>
      rintro c st' ⟨S, out, ma, mb, x, y, rfl, P, h1, h1b, h2, h2b, h3⟩
      rw [Nat.zero_max] at h3
      exact ⟨S, .inr ⟨out, ma, mb, x, y, rfl, P, h1, h1b, h2, h2b, by omega⟩⟩
    case step1 =>
      rintro j c st2 _ hj ⟨S2, out, ma, mb, x, y, rfl, P2, h1', h1b', h2', h2b', h3'⟩
      dsimp only
      refine wpS_bind (elem_ok (by omega) (wpS_bind (elem_ok (by omega) (wpS_bind (lt_L hc S2.ok.kind (hb _ (Array.getElem_mem _)) (ha _ (Array.getElem_mem _)) ?_)))))
      dsimp only
      cases bw : L (b[mb - 1]'(by omega)) (a[ma - 1]'(by omega)) with
      | true =>
        rw [if_pos rfl]
        refine wpS_bind (elem_ok (by omega) ?_)
        have P3 := P2.1.downA (by omega) (by omega)
        have Z3 := P2.2.downA (by omega) (by omega) fun y hy => o.tr y b[mb - 1] _ (ldb mb (by omega) (by omega) y hy) (o.asym _ _ bw)
        by_cases d1 : (ma - 1 == 0) = true
        · rw [if_pos d1]
          simp only [beq_iff_eq] at d1
          exact wpS_pure ⟨S2, .inl ⟨_, rfl, P3.done, Z3.doneA (by omega)⟩⟩
        rw [if_neg d1]
        simp only [beq_iff_eq] at d1
        split
        · exact wpS_pure ⟨S2, .inr ⟨_, _, _, _, _, rfl, ⟨P3, Z3⟩, by omega, by omega, by omega, by omega, by omega⟩⟩
        · exact wpS_pure ⟨S2, _, _, _, _, _, rfl, ⟨P3, Z3⟩, by omega, by omega, by omega, by omega, by omega⟩
      | false =>
        rw [if_neg Bool.false_ne_true]
        refine wpS_bind (elem_ok (by omega) ?_)
        have P3 := P2.1.downB (by omega) (by omega)
        have Z3 := P2.2.downB (by omega) (by omega) fun y hy => o.tr y a[ma - 1] _ (lda ma (by omega) (by omega) y hy) bw
        by_cases d1 : (mb - 1 == 1) = true
        · rw [if_pos d1]
          simp only [beq_iff_eq] at d1
          exact wpS_pure ⟨S2, .inl ⟨_, rfl, P3.first, Z3.first b1 (by omega) hf⟩⟩
        rw [if_neg d1]
        simp only [beq_iff_eq] at d1
        split
        · exact wpS_pure ⟨S2, .inr ⟨_, _, _, _, _, rfl, ⟨P3, Z3⟩, by omega, by omega, by omega, by omega, by omega⟩⟩
        · exact wpS_pure ⟨S2, _, _, _, _, _, rfl, ⟨P3, Z3⟩, by omega, by omega, by omega, by omega, by omega⟩
    case post1 =>
      rintro c st2 ⟨S2, ⟨r, h, hp⟩ | ⟨out, ma, mb, x, y, rfl, P2, h1', h1b', h2', h2b', h3'⟩⟩
      · obtain ⟨c1, cr⟩ := c
        dsimp only at h ⊢
        subst h
        exact wpS_pure ⟨S2, r, rfl, hp⟩
      dsimp only
      refine wpS_bind (wpS_lift (wpAny_rule ⟨rfl, ?_⟩))
      refine wpS_bind (wpS_mono (wpS_forRange (I := fun j c st' => SI κ a0 st st' ∧ ∃ (out : Array Keyed) (ma mb g x y : Nat), c = (none, ma, mb, out, g, x, y) ∧ (PH a b out ma mb ∧ SH L a b out ma mb) ∧ 1 ≤ ma ∧ ma ≤ a.size ∧ 2 ≤ mb ∧ mb ≤ b.size ∧ ma + mb + 1 ≤ na + nb)
        (Q := fun c st' => SI κ a0 st st' ∧ ((∃ r : Array Keyed, c.1 = some r ∧ r.Perm (a ++ b) ∧ Sd L r.toList) ∨ ∃ (out : Array Keyed) (ma mb g x y : Nat), c = (none, ma, mb, out, g, x, y) ∧ (PH a b out ma mb ∧ SH L a b out ma mb) ∧ 1 ≤ ma ∧ ma ≤ a.size ∧ 2 ≤ mb ∧ mb ≤ b.size ∧ ma + mb + 1 ≤ na + nb)) ?step2 ?fin2 ⟨S2, _, _, _, _, _, _, rfl, P2, h1', h1b', h2', h2b', h3'⟩) ?post2)
      case fin2 =>
        rintro c st' ⟨S, out, ma, mb, g, x, y, r⟩
        exact ⟨S, .inr ⟨out, ma, mb, g, x, y, r⟩⟩
      case post2 =>
        rintro c st3 ⟨S3, ⟨r, h, hp⟩ | ⟨out, ma, mb, g, x, y, rfl, P3, h1', h1b', h2', h2b', h3'⟩⟩
        · obtain ⟨c1, cr⟩ := c
          dsimp only at h ⊢
          subst h
          exact wpS_pure ⟨S3, r, rfl, hp⟩
        dsimp only
        refine wpS_bind (wpS_modify (wpS_pure ⟨⟨⟨S3.ok.kind, S3.ok.fail, S3.ok.perm⟩, S3.pend, S3.arr⟩, _, _, _, _, rfl, P3, by omega, by omega, by omega, by omega, by omega⟩))
      case step2 =>
        rintro j c st3 _ hj ⟨S3, out, ma, mb, g, x, y, rfl, ⟨P3, Z3⟩, h1', h1b', h2', h2b', h3'⟩
        dsimp only
        by_cases hg : g > 1
        case' pos => rw [if_pos hg]
        case' neg => rw [if_neg hg]
        all_goals
          refine wpS_bind (wpS_modify ?_)
          refine wpS_bind (elem_ok (by omega) ?_)
          refine wpS_bind (gallop_to o hc S3.ok.kind (hb _ (Array.getElem_mem _)) ha (by omega) (by omega) sda fun k hk kt kf => ?_)
          dsimp only
          have kf : ∀ y ∈ b.toList.take mb, ∀ x ∈ (a.extract k ma).toList, L x y = false := fun y hy x hx => o.tr y (b[mb - 1]'(by omega)) x (ldb mb (by omega) (by omega) y hy) (o.asym _ _ (bkR' (kf x hx)))
          have kt : ∀ x ∈ a.toList.take k, L (b[mb - 1]'(by omega)) x = false := fun x hx => bkR (kt x hx)
          by_cases hk0 : ma - k > 0
          case' pos =>
            rw [if_pos hk0]
            have P4 := P3.takeA hk
            have Z4 := Z3.takeA hk kf
            by_cases d1 : (k == 0) = true
            · rw [if_pos d1]
              simp only [beq_iff_eq] at d1
              exact wpS_pure ⟨⟨⟨S3.ok.kind, S3.ok.fail, S3.ok.perm⟩, S3.pend, S3.arr⟩, .inl ⟨_, rfl, P4.done, Z4.doneA (by omega)⟩⟩
            rw [if_neg d1]
            simp only [beq_iff_eq] at d1
            have hI : 1 ≤ k ∧ k ≤ a.size := by omega
            have hJ : k + mb + 1 ≤ na + nb := by omega
            generalize hX : ma - k = X
            generalize out ++ (a.extract k ma).reverse = OUT at P4 Z4
            clear hk0 hX hk kf
            generalize k = M at *
          case' neg =>
            rw [if_neg hk0]
            have P4 := P3
            have Z4 := Z3
            have ek : k = ma := by omega
            rw [ek] at kt
            have hI : 1 ≤ ma ∧ ma ≤ a.size := by omega
            have hJ : ma + mb + 1 ≤ na + nb := by omega
            generalize hX : ma - k = X
            generalize out = OUT at P4 Z4
            clear hk0 hX hk P3 Z3 h1' h1b' h3' kf ek
            generalize ma = M at *
          all_goals
            refine wpS_bind (elem_ok (by omega) ?_)
            have P5 := P4.downB (by omega) (by omega)
            have Z5 := Z4.downB (by omega) (by omega) kt
            by_cases d3 : (mb - 1 == 1) = true
            · rw [if_pos d3]
              simp only [beq_iff_eq] at d3
              exact wpS_pure ⟨⟨⟨S3.ok.kind, S3.ok.fail, S3.ok.perm⟩, S3.pend, S3.arr⟩, .inl ⟨_, rfl, P5.first, Z5.first b1 (by omega) hf⟩⟩
            rw [if_neg d3]
            simp only [beq_iff_eq] at d3
            refine wpS_bind (elem_ok (by omega) ?_)
            refine wpS_bind (gallop_to o hc S3.ok.kind (ha _ (Array.getElem_mem _)) hb (by omega) (by omega) sdb fun k2 hk2 kt2 kf2 => ?_)
            dsimp only
            have kf2 : ∀ y ∈ a.toList.take M, ∀ x ∈ (b.extract k2 (mb - 1)).toList, L x y = false := fun y hy x hx => o.tr y (a[M - 1]'(by omega)) x (lda M (by omega) (by omega) y hy) (show L x (a[M - 1]'(by omega)) = false from kf2 x hx)
            have kt2 : ∀ x ∈ b.toList.take k2, L (a[M - 1]'(by omega)) x = false := fun x hx => o.asym _ _ (show L x (a[M - 1]'(by omega)) = true from kt2 x hx)
            by_cases hk3 : mb - 1 - k2 > 0
            case' pos =>
              rw [if_pos hk3]
              have P6 := P5.takeB hk2
              have Z6 := Z5.takeB hk2 kf2
              by_cases d4 : (k2 == 1) = true
              · rw [if_pos d4]
                simp only [beq_iff_eq] at d4
                exact wpS_pure ⟨⟨⟨S3.ok.kind, S3.ok.fail, S3.ok.perm⟩, S3.pend, S3.arr⟩, .inl ⟨_, rfl, P6.first, Z6.first b1 (by omega) hf⟩⟩
              rw [if_neg d4]
              by_cases d5 : (k2 == 0) = true
              · rw [if_pos d5]
                simp only [beq_iff_eq] at d5
                exact wpS_pure ⟨⟨⟨S3.ok.kind, S3.ok.fail, S3.ok.perm⟩, S3.pend, S3.arr⟩, .inl ⟨_, rfl, P6.done, Z6.doneB (by omega)⟩⟩
              rw [if_neg d5]
              simp only [beq_iff_eq] at d4 d5
            case' neg =>
              rw [if_neg hk3]
              have P6 := P5
              have Z6 := Z5
              have ek2 : k2 = mb - 1 := by omega
              rw [ek2] at kt2
            all_goals
              refine wpS_bind (elem_ok (by omega) ?_)
              have P7 := P6.downA (by omega) (by omega)
              have Z7 := Z6.downA (by omega) (by omega) kt2
              by_cases d6 : (M - 1 == 0) = true
              · rw [if_pos d6]
                simp only [beq_iff_eq] at d6
                exact wpS_pure ⟨⟨⟨S3.ok.kind, S3.ok.fail, S3.ok.perm⟩, S3.pend, S3.arr⟩, .inl ⟨_, rfl, P7.done, Z7.doneA (by omega)⟩⟩
              rw [if_neg d6]
              simp only [beq_iff_eq] at d6
              split
              · exact wpS_pure ⟨⟨⟨S3.ok.kind, S3.ok.fail, S3.ok.perm⟩, S3.pend, S3.arr⟩, .inr ⟨_, _, _, _, _, _, rfl, ⟨P7, Z7⟩, by omega, by omega, by omega, by omega, by omega⟩⟩
              · exact wpS_pure ⟨⟨⟨S3.ok.kind, S3.ok.fail, S3.ok.perm⟩, S3.pend, S3.arr⟩, _, _, _, _, _, _, rfl, ⟨P7, Z7⟩, by omega, by omega, by omega, by omega, by omega⟩
end
end Tim
namespace Tim
open PySem PyProof.Rows
section
variable {L : Keyed → Keyed → Bool}
def RS (L : Keyed → Keyed → Bool) : List (Nat × Nat × Nat) → List Keyed → Prop
  | [], _ => True
  | r :: rest, l => Sd L (l.take r.2.1) ∧ RS L rest (l.drop r.2.1)
theorem Chain.ge : ∀ {rs : List (Nat × Nat × Nat)} {b e i : Nat} {x : Nat × Nat × Nat}, Chain rs b e → rs[i]? = some x → b ≤ x.1 ∧ x.1 + x.2.1 ≤ e
  | [], _, _, _, _, _, h => by simp at h
  | r :: rest, b, e, 0, x, h, h1 => by
    obtain rfl : r = x := by simpa using h1
    have := h.2.2.le
    have := h.1
    omega
  | r :: rest, b, e, i + 1, x, h, h1 => by
    have := h.2.2.ge (i := i) (by simpa using h1)
    omega
theorem RS.at : ∀ {rs : List (Nat × Nat × Nat)} {b e i : Nat} {x : Nat × Nat × Nat} {l : List Keyed}, Chain rs b e → RS L rs l → rs[i]? = some x → Sd L ((l.drop (x.1 - b)).take x.2.1)
  | [], _, _, _, _, _, _, _, h => by simp at h
  | r :: rest, b, e, 0, x, l, c, h, h1 => by
    obtain rfl : r = x := by simpa using h1
    rw [show r.1 - b = 0 by have := c.1; omega, List.drop_zero]
    exact h.1
  | r :: rest, b, e, i + 1, x, l, c, h, h1 => by
    have h1 : rest[i]? = some x := by simpa using h1
    have g := c.2.2.ge h1
    have := RS.at c.2.2 h.2 h1
    rw [List.drop_drop, show r.2.1 + (x.1 - (b + r.2.1)) = x.1 - b by omega] at this
    exact this
theorem RS.put : ∀ {rs : List (Nat × Nat × Nat)} {b e i : Nat} {x y : Nat × Nat × Nat} {l M : List Keyed}, Chain rs b e → RS L rs l → e - b ≤ l.length → rs[i]? = some x → rs[i + 1]? = some y → M.length = x.2.1 + y.2.1 → Sd L M →
    RS L ((rs.set i (x.1, x.2.1 + y.2.1, x.2.2)).eraseIdx (i + 1)) (l.take (x.1 - b) ++ (M ++ l.drop (x.1 - b + (x.2.1 + y.2.1))))
  | [], _, _, _, _, _, _, _, _, _, _, h, _, _, _ => by simp at h
  | r :: rest, b, e, 0, x, y, l, M, c, h, hl, h1, h2, hM, sM => by
    obtain rfl : r = x := by simpa using h1
    cases rest with
    | nil => simp at h2
    | cons r2 rest =>
      obtain rfl : r2 = y := by simpa using h2
      rw [show r.1 - b = 0 by have := c.1; omega, List.take_zero, List.nil_append, show 0 + (r.2.1 + r2.2.1) = r.2.1 + r2.2.1 from Nat.zero_add _]
      show Sd L ((M ++ l.drop (r.2.1 + r2.2.1)).take (r.2.1 + r2.2.1)) ∧ RS L rest ((M ++ l.drop (r.2.1 + r2.2.1)).drop (r.2.1 + r2.2.1))
      rw [← hM, List.take_left', List.drop_left', hM]
      · refine ⟨sM, ?_⟩
        have := h.2.2
        rw [List.drop_drop] at this
        exact this
      · rfl
      · rfl
  | r :: rest, b, e, i + 1, x, y, l, M, c, h, hl, h1, h2, hM, sM => by
    have h1 : rest[i]? = some x := by simpa using h1
    have h2 : rest[i + 1]? = some y := by simpa using h2
    have g := c.2.2.ge h1
    have g2 := c.2.2.ge h2
    have hl2 : e - (b + r.2.1) ≤ (l.drop r.2.1).length := by rw [List.length_drop]; omega
    have ih := RS.put c.2.2 h.2 hl2 h1 h2 hM sM
    have e1 : x.1 - b = r.2.1 + (x.1 - (b + r.2.1)) := by omega
    rw [List.drop_drop] at ih
    show RS L (r :: (rest.set i _).eraseIdx (i + 1)) _
    refine ⟨?_, ?_⟩
    · rw [List.take_append_of_le_length (by rw [List.length_take]; omega), List.take_take, Nat.min_eq_left (by omega)]
      exact h.1
    · have e2 : (l.take (x.1 - b) ++ (M ++ l.drop (x.1 - b + (x.2.1 + y.2.1)))).drop r.2.1 = (l.drop r.2.1).take (x.1 - (b + r.2.1)) ++ (M ++ l.drop (r.2.1 + (x.1 - (b + r.2.1) + (x.2.1 + y.2.1)))) := by
        rw [List.drop_append_of_le_length (by rw [List.length_take]; omega), List.drop_take, show x.1 - b - r.2.1 = x.1 - (b + r.2.1) by omega, show x.1 - b + (x.2.1 + y.2.1) = r.2.1 + (x.1 - (b + r.2.1) + (x.2.1 + y.2.1)) by omega]
      rw [e2]
      exact ih
theorem RS.snoc : ∀ {rs : List (Nat × Nat × Nat)} {b e n p : Nat} {l : List Keyed}, Chain rs b e → RS L rs l → Sd L ((l.drop (e - b)).take n) → RS L (rs ++ [(e, n, p)]) l
  | [], b, e, n, p, l, c, _, h => by
    have c : b = e := c
    rw [show e - b = 0 by omega, List.drop_zero] at h
    exact ⟨h, trivial⟩
  | r :: rest, b, e, n, p, l, c, h, hs => by
    have := c.2.2.le
    refine ⟨h.1, RS.snoc c.2.2 h.2 ?_⟩
    rw [List.drop_drop, show r.2.1 + (e - (b + r.2.1)) = e - b by omega]
    exact hs
theorem RS.mod : ∀ {rs : List (Nat × Nat × Nat)} {l : List Keyed} (i pw : Nat), RS L rs l → RS L (rs.modify i fun x => (x.1, x.2.1, pw)) l
  | [], _, i, _, h => by cases i <;> exact h
  | _ :: _, _, 0, _, h => h
  | _ :: _, _, i + 1, pw, h => ⟨h.1, h.2.mod i pw⟩
theorem RS.same : ∀ {rs : List (Nat × Nat × Nat)} {b e : Nat} {l l' : List Keyed}, Chain rs b e → RS L rs l → l'.take (e - b) = l.take (e - b) → RS L rs l'
  | [], _, _, _, _, _, _, _ => trivial
  | r :: rest, b, e, l, l', c, h, hs => by
    have := c.2.2.le
    refine ⟨?_, RS.same c.2.2 h.2 ?_⟩
    · have := congrArg (List.take r.2.1) hs
      rw [List.take_take, List.take_take, Nat.min_eq_left (by omega)] at this
      rw [this]
      exact h.1
    · have := congrArg (List.drop r.2.1) hs
      rw [List.drop_take, List.drop_take] at this
      rw [show e - (b + r.2.1) = e - b - r.2.1 by omega]
      exact this
theorem merged (o : Ordr L) {A B out : List Keyed} {k k2 : Nat} {b0 al : Keyed} (sA : Sd L A) (sB : Sd L B) (hb : ∀ y ∈ B, L y b0 = false) (hal : ∀ x ∈ A, L al x = false)
    (t1 : ∀ x ∈ A.take k, L b0 x = false) (f2 : ∀ x ∈ B.drop k2, L x al = false) (so : Sd L out) (hp : out.Perm (A.drop k ++ B.take k2)) : Sd L (A.take k ++ (out ++ B.drop k2)) := by
  have sA2 : Sd L (A.take k ++ A.drop k) := by rw [List.take_append_drop]; exact sA
  have sB2 : Sd L (B.take k2 ++ B.drop k2) := by rw [List.take_append_drop]; exact sB
  obtain ⟨a1, a2, a3⟩ := List.pairwise_append.mp sA2
  obtain ⟨b1, b2, b3⟩ := List.pairwise_append.mp sB2
  have om : ∀ x ∈ out, x ∈ A.drop k ∨ x ∈ B.take k2 := fun x hx => List.mem_append.mp (hp.mem_iff.mp hx)
  refine List.pairwise_append.mpr ⟨a1, List.pairwise_append.mpr ⟨so, b2, fun x hx y hy => ?_⟩, fun x hx y hy => ?_⟩
  · rcases om x hx with z | z
    · exact o.tr x al y (hal x (List.mem_of_mem_drop z)) (f2 y hy)
    · exact b3 x z y hy
  · have inB : y ∈ B → L y x = false := fun z => o.tr x b0 y (t1 x hx) (hb y z)
    rcases List.mem_append.mp hy with z | z
    · rcases om y z with z | z
      · exact a3 x hx y z
      · exact inB (List.mem_of_mem_take z)
    · exact inB (List.mem_of_mem_drop z)
end
section
variable {prog : Program} {w : World} {A : Around} {E : Value → Shared → Prop} {s : Shared} {κ : SortKind} {a0 : Array Keyed} {L : Keyed → Keyed → Bool}
theorem mergeAt_L (o : Ordr L) (hc : CmpL prog w A s κ a0 L) {i lo : Nat} {st : SortSt} {Q : Bool → SortSt → Prop} (ok : Ok κ a0 st) (hr : Chain (pendingOf st).toList 0 lo) (hs : RS L (pendingOf st).toList (arrOf st).toList) (hlo : lo ≤ a0.size) (hi : i + 1 < (pendingOf st).size)
    (q : ∀ st', Ok κ a0 st' → Chain (pendingOf st').toList 0 lo → RS L (pendingOf st').toList (arrOf st').toList → (arrOf st').toList.drop lo = (arrOf st).toList.drop lo → (pendingOf st').size + 1 = (pendingOf st).size → Q true st') : wpS (model prog w) A E s (mergeAt' i) Q st := by
  have e1 : (pendingOf st)[i]? = some (pendingOf st)[i] := Array.getElem?_eq_getElem (by omega)
  have e2 : (pendingOf st)[i + 1]? = some (pendingOf st)[i + 1] := Array.getElem?_eq_getElem hi
  generalize (pendingOf st)[i] = x at e1
  generalize (pendingOf st)[i + 1] = y at e2
  have el1 : (pendingOf st).toList[i]? = some x := by rw [Array.getElem?_toList]; exact e1
  have el2 : (pendingOf st).toList[i + 1]? = some y := by rw [Array.getElem?_toList]; exact e2
  obtain ⟨g1, g2, g3, g4, g5⟩ := hr.merge el1 el2
  have hsz : (arrOf st).size = a0.size := ok.perm.size_eq
  have sA := RS.at hr hs el1
  have sB := RS.at hr hs el2
  have put := fun (M : List Keyed) => RS.put (M := M) hr hs (by rw [Array.length_toList]; omega) el1 el2
  obtain ⟨sa, na, pw⟩ := x
  obtain ⟨sb, nb, pw2⟩ := y
  dsimp only at g1 g2 g3 g4 g5 sA sB put
  rw [Nat.sub_zero] at sA sB
  simp only [Nat.sub_zero] at put
  have hin : In a0 (arrOf st) := fun z hz => ok.perm.mem_iff.mp hz
  refine wpS_bind (wpS_get ?_)
  show wpS _ _ _ _ (match ((pendingOf st)[i]?, (pendingOf st)[i + 1]?) with | _ => _) Q st
  rw [e1, e2]
  dsimp only
  have pe : ((((pendingOf st).setIfInBounds i (sa, na + nb, pw)).eraseIdxIfInBounds (i + 1)).toList) = ((pendingOf st).toList.set i (sa, na + nb, pw)).eraseIdx (i + 1) := by
    rw [Array.eraseIdxIfInBounds_eq]
    simp [hi]
  have ps : (((pendingOf st).setIfInBounds i (sa, na + nb, pw)).eraseIdxIfInBounds (i + 1)).size + 1 = (pendingOf st).size := by
    have := congrArg List.length pe
    rw [Array.length_toList, List.length_eraseIdx_of_lt (by simpa using hi), List.length_set, Array.length_toList] at this
    omega
  have okn : ∀ (pp : Array (Nat × Nat × Nat)) (g : Nat), Ok κ a0 (SortSt.mk' (kindOf st) (arrOf st) pp g (failedOf st)) := fun _ _ => ⟨ok.kind, ok.fail, ok.perm⟩
  refine wpS_bind (wpS_set ?_)
  -- the two runs, as lists
  have lA : (((arrOf st).toList.drop sa).take na).length = na := by rw [List.length_take, List.length_drop, Array.length_toList]; omega
  have lB : (((arrOf st).toList.drop sb).take nb).length = nb := by rw [List.length_take, List.length_drop, Array.length_toList]; omega
  have whole : (arrOf st).toList = (arrOf st).toList.take sa ++ ((((arrOf st).toList.drop sa).take na ++ ((arrOf st).toList.drop sb).take nb) ++ (arrOf st).toList.drop (sa + (na + nb))) := by
    have t1 : (arrOf st).toList.drop sa = ((arrOf st).toList.drop sa).take na ++ (arrOf st).toList.drop sb := by
      conv => lhs; rw [← List.take_append_drop na ((arrOf st).toList.drop sa), List.drop_drop]
      rw [g1]
    have t2 : (arrOf st).toList.drop sb = ((arrOf st).toList.drop sb).take nb ++ (arrOf st).toList.drop (sa + (na + nb)) := by
      conv => lhs; rw [← List.take_append_drop nb ((arrOf st).toList.drop sb), List.drop_drop]
      rw [show sb + nb = sa + (na + nb) by omega]
    rw [List.append_assoc, ← t2, ← t1, List.take_append_drop]
  have headB : ∀ y ∈ ((arrOf st).toList.drop sb).take nb, L y ((arrOf st)[sb]'(by omega)) = false := fun y hy => by
    obtain ⟨j, hj, rfl⟩ := List.mem_iff_getElem.mp hy
    rw [lB] at hj
    have e0 : (arrOf st)[sb]'(by omega) = (((arrOf st).toList.drop sb).take nb)[0]'(by omega) := by
      rw [List.getElem_take, List.getElem_drop, Array.getElem_toList]
      rfl
    rw [e0]
    by_cases z : j = 0
    · subst z; exact o.irr _
    · exact List.pairwise_iff_getElem.mp sB 0 j (by omega) (by omega) (by omega)
  have leaf : Sd L (((arrOf st).toList.drop sa).take na ++ ((arrOf st).toList.drop sb).take nb) → Q true (SortSt.mk' (kindOf st) (arrOf st) (((pendingOf st).setIfInBounds i (sa, na + nb, pw)).eraseIdxIfInBounds (i + 1)) (gallopOf st) (failedOf st)) := fun sM => by
    refine q _ (okn _ _) (by show Chain (Array.toList _) 0 lo; rw [pe]; exact g5) ?_ rfl ps
    have := put _ (by rw [List.length_append, lA, lB]) sM
    rw [← whole] at this
    show RS L (Array.toList _) _
    rw [pe]
    exact this
  refine wpS_bind (elem_ok (show sb < (arrOf st).size by omega) ?_)
  refine wpS_bind (gallop_L o hc ok.kind (hin _ (Array.getElem_mem _)) hin (show sa + na ≤ (arrOf st).size by omega) (by omega) sA fun k hk kt kf => ?_)
  dsimp only
  have kt : ∀ x ∈ (((arrOf st).toList.drop sa).take na).take k, L ((arrOf st)[sb]'(by omega)) x = false := fun x hx => bkR (kt x hx)
  have kf : ∀ x ∈ (((arrOf st).toList.drop sa).take na).drop k, L ((arrOf st)[sb]'(by omega)) x = true := fun x hx => bkR' (kf x hx)
  by_cases d1 : (na - k == 0) = true
  · rw [if_pos d1]
    simp only [beq_iff_eq] at d1
    refine wpS_pure (leaf (List.pairwise_append.mpr ⟨sA, sB, fun x hx y hy => ?_⟩))
    rw [List.take_of_length_le (by omega)] at kt
    exact o.tr x _ y (kt x hx) (headB y hy)
  rw [if_neg d1]
  simp only [beq_iff_eq] at d1
  have ila : sa + k + (na - k) - 1 < (arrOf st).size := by omega
  have lastA : ∀ y ∈ ((arrOf st).toList.drop sa).take na, L ((arrOf st)[sa + k + (na - k) - 1]'ila) y = false := fun y hy => by
    obtain ⟨j, hj, rfl⟩ := List.mem_iff_getElem.mp hy
    rw [lA] at hj
    have e0 : (arrOf st)[sa + k + (na - k) - 1]'ila = (((arrOf st).toList.drop sa).take na)[na - 1]'(by omega) := by
      rw [List.getElem_take, List.getElem_drop, Array.getElem_toList]
      congr 1
      omega
    rw [e0]
    by_cases z : j = na - 1
    · subst z; exact o.irr _
    · exact List.pairwise_iff_getElem.mp sA j (na - 1) (by omega) (by omega) (by omega)
  refine wpS_bind (elem_ok ila ?_)
  refine wpS_bind (gallop_L o hc ok.kind (hin _ (Array.getElem_mem _)) hin (show sb + nb ≤ (arrOf st).size by omega) (by omega) sB fun k2 hk2 kt2 kf2 => ?_)
  dsimp only
  have kt2 : ∀ x ∈ (((arrOf st).toList.drop sb).take nb).take k2, L x ((arrOf st)[sa + k + (na - k) - 1]'ila) = true := fun x hx => kt2 x hx
  have kf2 : ∀ x ∈ (((arrOf st).toList.drop sb).take nb).drop k2, L x ((arrOf st)[sa + k + (na - k) - 1]'ila) = false := fun x hx => kf2 x hx
  by_cases d2 : (k2 == 0) = true
  · rw [if_pos d2]
    simp only [beq_iff_eq] at d2
    refine wpS_pure (leaf (List.pairwise_append.mpr ⟨sA, sB, fun x hx y hy => ?_⟩))
    rw [d2, List.drop_zero] at kf2
    exact o.tr x _ y (lastA x hx) (kf2 y hy)
  rw [if_neg d2]
  simp only [beq_iff_eq] at d2
  have xs : ((arrOf st).extract (sa + k) sb).size = na - k := by rw [Array.size_extract]; omega
  have ys : ((arrOf st).extract sb (sb + k2)).size = k2 := by rw [Array.size_extract]; omega
  have xl : ((arrOf st).extract (sa + k) sb).toList = (((arrOf st).toList.drop sa).take na).drop k := by
    rw [Array.toList_extract, List.extract_eq_take_drop, List.drop_take, List.drop_drop]
    congr 1
    omega
  have yl : ((arrOf st).extract sb (sb + k2)).toList = (((arrOf st).toList.drop sb).take nb).take k2 := by
    rw [Array.toList_extract, List.extract_eq_take_drop, List.take_take, Nat.min_eq_left hk2]
    congr 1
    omega
  have inx : In a0 ((arrOf st).extract (sa + k) sb) := fun z hz => hin z (by
    rw [← Array.mem_toList_iff] at hz ⊢
    rw [Array.toList_extract, List.extract_eq_take_drop] at hz
    exact List.mem_of_mem_drop (List.mem_of_mem_take hz))
  have iny : In a0 ((arrOf st).extract sb (sb + k2)) := fun z hz => hin z (by
    rw [← Array.mem_toList_iff] at hz ⊢
    rw [Array.toList_extract, List.extract_eq_take_drop] at hz
    exact List.mem_of_mem_drop (List.mem_of_mem_take hz))
  have sdx : Sd L ((arrOf st).extract (sa + k) sb).toList := by rw [xl]; exact sA.drop k
  have sdy : Sd L ((arrOf st).extract sb (sb + k2)).toList := by rw [yl]; exact sB.take k2
  have y0 : ∀ h : 0 < ((arrOf st).extract sb (sb + k2)).size, ((arrOf st).extract sb (sb + k2))[0] = (arrOf st)[sb]'(by omega) := fun h => by
    rw [Array.getElem_extract]
    rfl
  have xla : ∀ (j : Nat) (h : j < ((arrOf st).extract (sa + k) sb).size), j + 1 = ((arrOf st).extract (sa + k) sb).size → ((arrOf st).extract (sa + k) sb)[j] = (arrOf st)[sa + k + (na - k) - 1]'ila := fun j h e => by
    rw [Array.getElem_extract]
    congr 1
    omega
  have fin : ∀ (out : Array Keyed) (st' : SortSt), out.Perm ((arrOf st).extract (sa + k) sb ++ (arrOf st).extract sb (sb + k2)) → Sd L out.toList → SI κ a0 (SortSt.mk' (kindOf st) (arrOf st) (((pendingOf st).setIfInBounds i (sa, na + nb, pw)).eraseIdxIfInBounds (i + 1)) (gallopOf st) (failedOf st)) st' →
      Q true (SortSt.mk' (kindOf st') ((out.toList.zipIdx).foldl (fun a (x : Keyed × Nat) => a.setIfInBounds (sa + k + x.2) x.1) (arrOf st')) (pendingOf st') (gallopOf st') (failedOf st')) := by
    intro out st' hp so S
    have ea : arrOf st' = arrOf st := S.arr
    have ep : pendingOf st' = ((pendingOf st).setIfInBounds i (sa, na + nb, pw)).eraseIdxIfInBounds (i + 1) := S.pend
    have ol : out.toList.length = na - k + k2 := by
      rw [Array.length_toList, hp.size_eq, Array.size_append, xs, ys]
    have pa := put_all (sa + k) out.toList (arrOf st) 0 (by rw [ol]; omega)
    rw [Nat.add_zero] at pa
    have e4 : sa + k + out.toList.length = sb + k2 := by omega
    have hpl : out.toList.Perm ((((arrOf st).toList.drop sa).take na).drop k ++ (((arrOf st).toList.drop sb).take nb).take k2) := by
      have := Array.perm_iff_toList_perm.mp hp
      rw [Array.toList_append, xl, yl] at this
      exact this
    have sM := merged o sA sB headB lastA kt kf2 so hpl
    -- what lies now
    have now : ((out.toList.zipIdx).foldl (fun a (x : Keyed × Nat) => a.setIfInBounds (sa + k + x.2) x.1) (arrOf st)).toList = (arrOf st).toList.take sa ++ (((((arrOf st).toList.drop sa).take na).take k ++ (out.toList ++ (((arrOf st).toList.drop sb).take nb).drop k2)) ++ (arrOf st).toList.drop (sa + (na + nb))) := by
      rw [pa, e4]
      have t1 : (arrOf st).toList.take (sa + k) = (arrOf st).toList.take sa ++ (((arrOf st).toList.drop sa).take na).take k := by
        rw [List.take_add, List.take_take, Nat.min_eq_left hk]
      have t2 : (arrOf st).toList.drop (sb + k2) = (((arrOf st).toList.drop sb).take nb).drop k2 ++ (arrOf st).toList.drop (sa + (na + nb)) := by
        rw [List.drop_take, List.drop_drop]
        conv => lhs; rw [← List.take_append_drop (nb - k2) ((arrOf st).toList.drop (sb + k2)), List.drop_drop]
        rw [show sb + k2 + (nb - k2) = sa + (na + nb) by omega]
      rw [t1, t2]
      simp only [List.append_assoc]
    refine q _ ⟨S.ok.kind, S.ok.fail, ?_⟩ ?_ ?_ ?_ ?_
    · show Array.Perm (List.foldl _ _ _) a0
      refine Array.Perm.trans ?_ ok.perm
      rw [Array.perm_iff_toList_perm, ea, now]
      conv => rhs; rw [whole]
      refine List.Perm.append_left _ (List.Perm.append_right _ ?_)
      have t3 : (((arrOf st).toList.drop sa).take na) ++ ((arrOf st).toList.drop sb).take nb = (((arrOf st).toList.drop sa).take na).take k ++ (((((arrOf st).toList.drop sa).take na).drop k ++ (((arrOf st).toList.drop sb).take nb).take k2) ++ (((arrOf st).toList.drop sb).take nb).drop k2) := by
        rw [List.append_assoc, List.take_append_drop, ← List.append_assoc, List.take_append_drop]
      rw [t3]
      exact List.Perm.append_left _ (List.Perm.append_right _ hpl)
    · show Chain (pendingOf st').toList 0 lo
      rw [ep, pe]
      exact g5
    · show RS L (pendingOf st').toList (Array.toList (List.foldl _ _ _))
      rw [ep, pe, ea, now]
      refine put _ ?_ sM
      rw [List.length_append, List.length_append, List.length_take, lA, ol, List.length_drop, lB]
      omega
    · show (Array.toList (List.foldl _ _ _)).drop lo = _
      rw [ea, pa, e4, ← List.append_assoc, List.drop_append]
      have l1 : ((arrOf st).toList.take (sa + k) ++ out.toList).length = sb + k2 := by
        rw [List.length_append, List.length_take, ol, Array.length_toList]
        omega
      rw [List.drop_of_length_le (by rw [l1]; omega), l1, List.nil_append, List.drop_drop]
      congr 1
      omega
    · show (pendingOf st').size + 1 = _
      rw [ep]
      exact ps
  have hf : ∀ x ∈ ((arrOf st).extract (sa + k) sb).toList, L x (((arrOf st).extract sb (sb + k2))[0]'(by omega)) = false := fun x hx => by
    rw [y0, xl] at *
    exact o.asym _ _ (kf x hx)
  have hl : ∀ (j : Nat) (h : j < ((arrOf st).extract (sa + k) sb).size), j + 1 = ((arrOf st).extract (sa + k) sb).size → ∀ y ∈ ((arrOf st).extract sb (sb + k2)).toList, L ((arrOf st).extract (sa + k) sb)[j] y = false := fun j h e y hy => by
    rw [xla j h e]
    rw [yl] at hy
    exact o.asym _ _ (kt2 y hy)
  have hl' := hl (((arrOf st).extract (sa + k) sb).size - 1) (by omega) (by omega)
  by_cases d3 : na - k ≤ k2
  · rw [if_pos d3]
    refine wpS_bind (mergeLo_L o hc (okn _ _) inx iny (show 1 ≤ ((arrOf st).extract (sa + k) sb).size by omega) (show 1 ≤ ((arrOf st).extract sb (sb + k2)).size by omega) sdx sdy hf hl fun out st' hp so S => ?_)
    refine wpS_bind (wpS_modify (wpS_bind (wpS_get (wpS_pure ?_))))
    have := S.ok.fail
    show Q (failedOf st').isNone _
    rw [this]
    exact fin out st' hp so S
  · rw [if_neg d3]
    refine wpS_bind (mergeHi_L o hc (okn _ _) inx iny (show 1 ≤ ((arrOf st).extract (sa + k) sb).size by omega) (show 1 ≤ ((arrOf st).extract sb (sb + k2)).size by omega) sdx sdy hf hl' fun out st' hp so S => ?_)
    refine wpS_bind (wpS_modify (wpS_bind (wpS_get (wpS_pure ?_))))
    have := S.ok.fail
    show Q (failedOf st').isNone _
    rw [this]
    exact fin out st' hp so S
end
end Tim
namespace Tim
open PySem PyProof.Rows
def G (arr : Array Keyed) (i : Nat) : Keyed := arr[i]?.getD (Value.none, Value.none)
theorem G_congr {a b : Array Keyed} {i j : Nat} (h : a[i]? = b[j]?) : G a i = G b j := by unfold G; rw [h]
theorem G_at {a : Array Keyed} {i : Nat} (h : i < a.size) : a[i] = G a i := by unfold G; rw [Array.getElem?_eq_getElem h]; rfl
section
variable {L : Keyed → Keyed → Bool}
def Srt (L : Keyed → Keyed → Bool) (arr : Array Keyed) (lo n : Nat) : Prop := ∀ i j, lo ≤ i → i ≤ j → j < lo + n → L (G arr j) (G arr i) = false
def Dsc (L : Keyed → Keyed → Bool) (arr : Array Keyed) (lo n : Nat) : Prop := ∀ i j, lo ≤ i → i ≤ j → j < lo + n → L (G arr i) (G arr j) = false
def Alk (L : Keyed → Keyed → Bool) (arr : Array Keyed) (i j : Nat) : Prop := ∀ p q, i ≤ p → p < j → i ≤ q → q < j → L (G arr p) (G arr q) = false
theorem Srt.one (o : Ordr L) {arr : Array Keyed} {lo : Nat} : Srt L arr lo 1 := fun i j h1 h2 h3 => by
  have : i = j := by omega
  subst this
  exact o.irr _
theorem Srt.snoc (o : Ordr L) {arr : Array Keyed} {lo n : Nat} (h1 : 1 ≤ n) (h : Srt L arr lo n) (hl : L (G arr (lo + n)) (G arr (lo + n - 1)) = false) : Srt L arr lo (n + 1) := fun i j a b c => by
  by_cases e : j < lo + n
  · exact h i j a b e
  · have ej : j = lo + n := by omega
    subst ej
    by_cases e2 : i = lo + n
    · rw [e2]; exact o.irr _
    · exact o.tr _ _ _ (h i (lo + n - 1) a (by omega) (by omega)) hl
theorem Dsc.snoc (o : Ordr L) {arr : Array Keyed} {lo n : Nat} (h1 : 1 ≤ n) (h : Dsc L arr lo n) (hl : L (G arr (lo + n - 1)) (G arr (lo + n)) = false) : Dsc L arr lo (n + 1) := fun i j a b c => by
  by_cases e : j < lo + n
  · exact h i j a b e
  · have ej : j = lo + n := by omega
    subst ej
    by_cases e2 : i = lo + n
    · rw [e2]; exact o.irr _
    · exact o.tr _ _ _ hl (h i (lo + n - 1) a (by omega) (by omega))
theorem G_mir {arr : Array Keyed} {i j : Nat} (hj : j ≤ arr.size) (k : Nat) : G (mirror arr i j ((j - i) / 2)) k = if i ≤ k ∧ k < j then G arr (i + j - 1 - k) else G arr k := by
  have e := getElem?_mirror_all (i := i) hj k
  by_cases h1 : i ≤ k ∧ k < j
  · rw [if_pos h1] at e ⊢; exact G_congr e
  · rw [if_neg h1] at e ⊢; exact G_congr e
theorem Alk.mir (o : Ordr L) {arr : Array Keyed} {i j : Nat} (hj : j ≤ arr.size) (h : Alk L arr i j) (k : Nat) : L (G (mirror arr i j ((j - i) / 2)) k) (G arr k) = false ∧ L (G arr k) (G (mirror arr i j ((j - i) / 2)) k) = false := by
  rw [G_mir hj]
  split
  · rename_i c
    exact ⟨h _ _ (by omega) (by omega) c.1 c.2, h _ _ c.1 c.2 (by omega) (by omega)⟩
  · exact ⟨o.irr _, o.irr _⟩
theorem Dsc.like (o : Ordr L) {a b : Array Keyed} {lo n : Nat} (h : Dsc L a lo n) (e : ∀ k, L (G b k) (G a k) = false ∧ L (G a k) (G b k) = false) : Dsc L b lo n := fun i j x y z =>
  o.tr _ _ _ (e j).2 (o.tr _ _ _ (h i j x y z) (e i).1)
theorem Dsc.rev {arr : Array Keyed} {lo n : Nat} (hj : lo + n ≤ arr.size) (h : Dsc L arr lo n) : Srt L (mirror arr lo (lo + n) ((lo + n - lo) / 2)) lo n := fun i j a b c => by
  rw [G_mir hj, G_mir hj, if_pos (by omega), if_pos (by omega)]
  exact h _ _ (by omega) (by omega) (by omega)
theorem Srt.sd {arr : Array Keyed} {lo n : Nat} (hn : lo + n ≤ arr.size) (h : Srt L arr lo n) : Sd L ((arr.toList.drop lo).take n) := by
  refine List.pairwise_iff_getElem.mpr fun i j hi hj hij => ?_
  rw [List.length_take] at hi hj
  rw [List.getElem_take, List.getElem_take, List.getElem_drop, List.getElem_drop, Array.getElem_toList, Array.getElem_toList, G_at, G_at]
  exact h _ _ (by omega) (by omega) (by omega)
end
def Low (lo : Nat) (a b : Array Keyed) : Prop := ∀ p, p < lo → b[p]? = a[p]?
theorem Low.refl (lo : Nat) (a : Array Keyed) : Low lo a a := fun _ _ => rfl
theorem Low.trans {lo : Nat} {a b c : Array Keyed} (x : Low lo a b) (y : Low lo b c) : Low lo a c := fun p hp => (y p hp).trans (x p hp)
theorem Low.mir {lo i j : Nat} {a : Array Keyed} (hi : lo ≤ i) (hj : j ≤ a.size) : Low lo a (mirror a i j ((j - i) / 2)) := fun p hp => by
  rw [getElem?_mirror_all hj, if_neg (by omega)]
theorem Low.take {lo : Nat} {a b : Array Keyed} (h : Low lo a b) : b.toList.take lo = a.toList.take lo := by
  apply List.ext_getElem?
  intro i
  rw [List.getElem?_take, List.getElem?_take]
  split
  · rename_i c
    rw [Array.getElem?_toList, Array.getElem?_toList]
    exact h i c
  · rfl
section
variable {prog : Program} {w : World} {A : Around} {E : Value → Shared → Prop} {s : Shared} {κ : SortKind} {a0 : Array Keyed} {L : Keyed → Keyed → Bool}
theorem ltAt_L (hc : CmpL prog w A s κ a0 L) {i j : Nat} {st : SortSt} {Q : Option Bool → SortSt → Prop} (ok : Ok κ a0 st) (hi : i < a0.size) (hj : j < a0.size) (q : Q (some (L (G (arrOf st) i) (G (arrOf st) j))) st) : wpS (model prog w) A E s (ltAt' i j) Q st := by
  rw [ltAt'_eq]
  refine wpS_bind (wpS_get ?_)
  have h1 : i < (arrOf st).size := by rw [ok.perm.size_eq]; exact hi
  have h2 : j < (arrOf st).size := by rw [ok.perm.size_eq]; exact hj
  refine wpS_bind (elem_ok h1 (wpS_bind (elem_ok h2 ?_)))
  refine lt_L hc ok.kind (ok.perm.mem_iff.mp (Array.getElem_mem h1)) (ok.perm.mem_iff.mp (Array.getElem_mem h2)) ?_
  rw [G_at h1, G_at h2]
  exact q
theorem rev_L {i j : Nat} {st : SortSt} {Q : Unit → SortSt → Prop} (ok : Ok κ a0 st) (q : ∀ st', Ok κ a0 st' → pendingOf st' = pendingOf st → arrOf st' = mirror (arrOf st) i j ((j - i) / 2) → Q () st') : wpS (model prog w) A E s (reverseSlice' i j) Q st := by
  rw [reverseSlice'_eq]
  exact wpS_modify (q _ ⟨ok.kind, ok.fail, (mirror_perm _ _ _ _).trans ok.perm⟩ rfl rfl)
theorem bin_L (o : Ordr L) (hc : CmpL prog w A s κ a0 L) {lo n k0 : Nat} {st : SortSt} {Q : Bool → SortSt → Prop} (ok : Ok κ a0 st) (hn : lo + n ≤ a0.size) (hk0 : k0 ≤ n) (sr : Srt L (arrOf st) lo k0)
    (q : ∀ st', Ok κ a0 st' → pendingOf st' = pendingOf st → Srt L (arrOf st') lo n → Low lo (arrOf st) (arrOf st') → Q true st') : wpS (model prog w) A E s (binarySort' lo n k0) Q st := by
  rw [binarySort'_eq]
  refine wpS_bind (wpS_mono (wpS_forRange (I := fun k c st' => c.1 = none ∧ Ok κ a0 st' ∧ pendingOf st' = pendingOf st ∧ Srt L (arrOf st') lo (min k n) ∧ Low lo (arrOf st) (arrOf st')) (Q := fun c st' => c.1 = none ∧ Ok κ a0 st' ∧ pendingOf st' = pendingOf st ∧ Srt L (arrOf st') lo n ∧ Low lo (arrOf st) (arrOf st')) ?step ?fin ⟨rfl, ok, rfl, ?init, Low.refl _ _⟩) ?post)
  case init =>
    by_cases h : k0 = 0
    · intro i j a b c
      have : i = j := by omega
      subst this
      exact o.irr _
    · rw [show min (max k0 1) n = k0 by omega]
      exact sr
  case fin =>
    rintro c st' ⟨h, ok', hp, sr', lw⟩
    rw [show min (max (max k0 1) n) n = n by omega] at sr'
    exact ⟨h, ok', hp, sr', lw⟩
  case post =>
    rintro ⟨c, u⟩ st' ⟨h, ok', hp, sr', lw⟩
    dsimp only at h ⊢
    subst h
    exact wpS_pure (q _ ok' hp sr' lw)
  case step =>
    rintro k c st1 hk1 hk ⟨_, ok1, hp1, sr1, lw1⟩
    rw [show min k n = k by omega] at sr1
    dsimp only
    refine wpS_bind (wpS_mono (wpS_forRange (I := fun x c st' => c.1 = none ∧ (c.2.1 ≤ c.2.2 ∧ c.2.2 ≤ k ∧ c.2.2 - c.2.1 ≤ k - x ∧ (∀ i, i < c.2.1 → L (G (arrOf st1) (lo + k)) (G (arrOf st1) (lo + i)) = false) ∧ (∀ i, c.2.2 ≤ i → i < k → L (G (arrOf st1) (lo + k)) (G (arrOf st1) (lo + i)) = true)) ∧ st' = st1)
      (Q := fun c st' => c.1 = none ∧ (c.2.1 ≤ k ∧ (∀ i, i < c.2.1 → L (G (arrOf st1) (lo + k)) (G (arrOf st1) (lo + i)) = false) ∧ (∀ i, c.2.1 ≤ i → i < k → L (G (arrOf st1) (lo + k)) (G (arrOf st1) (lo + i)) = true)) ∧ st' = st1) ?step1 ?fin1 ⟨rfl, ⟨Nat.zero_le _, Nat.le_refl _, Nat.le_refl _, fun i h => absurd h (Nat.not_lt_zero _), fun i h1 h2 => by dsimp only at h1; omega⟩, rfl⟩) ?post1)
    case fin1 =>
      rintro ⟨c, l, r⟩ st2 ⟨h, ⟨h1, h2, h3, h4, h5⟩, rfl⟩
      dsimp only at h h1 h2 h3 h4 h5 ⊢
      rw [Nat.zero_max] at h3
      have e : l = r := by omega
      subst e
      exact ⟨h, ⟨h2, h4, h5⟩, rfl⟩
    case step1 =>
      rintro j ⟨c, l, r⟩ st2 _ _ ⟨h, ⟨h1, h2, h3, h4, h5⟩, rfl⟩
      dsimp only at h h1 h2 h3 h4 h5 ⊢
      split
      · rename_i ge
        have e : l = r := by omega
        subst e
        exact wpS_pure ⟨rfl, ⟨h2, h4, h5⟩, rfl⟩
      · refine wpS_bind (ltAt_L hc ok1 (by omega) (by omega) ?_)
        cases e : L (G (arrOf st2) (lo + k)) (G (arrOf st2) (lo + (l + r) / 2))
        · exact wpS_pure ⟨rfl, ⟨by dsimp only; omega, h2, by dsimp only; omega, fun i hi => o.tr _ _ _ (sr1 (lo + i) (lo + (l + r) / 2) (by omega) (by dsimp only at hi; omega) (by omega)) e, h5⟩, rfl⟩
        · exact wpS_pure ⟨rfl, ⟨by dsimp only; omega, by dsimp only; omega, by dsimp only; omega, h4, fun i hi1 hi2 => by
            cases e2 : L (G (arrOf st2) (lo + k)) (G (arrOf st2) (lo + i)) with
            | true => rfl
            | false =>
              have := o.tr _ _ _ (sr1 (lo + (l + r) / 2) (lo + i) (by omega) (by dsimp only at hi1; omega) (by omega)) e2
              rw [this] at e
              cases e⟩, rfl⟩
    case post1 =>
      rintro ⟨c, l, r⟩ st2 ⟨h, ⟨h1, h2, h3⟩, rfl⟩
      dsimp only at h h1 h2 h3 ⊢
      subst h
      show wpS _ _ _ _ (do moveDown' (lo + k) (lo + l); pure (ForInStep.yield (none, ()))) _ _
      rw [moveDown'_eq]
      have hks : lo + k < (arrOf st2).size := by rw [ok1.perm.size_eq]; omega
      have gb := fun x => getElem?_bubble hks (lo + k - (lo + l)) (by omega) x
      refine wpS_bind (wpS_modify (wpS_pure ⟨rfl, ⟨ok1.kind, ok1.fail, (bubble_perm _ _ _).trans ok1.perm⟩, hp1, ?_, ?_⟩))
      · rw [show min (k + 1) n = k + 1 by omega]
        have Gb : ∀ x, G (bubble (arrOf st2) (lo + k) (lo + k - (lo + l))) x = if x = lo + l then G (arrOf st2) (lo + k) else if lo + l < x ∧ x ≤ lo + k then G (arrOf st2) (x - 1) else G (arrOf st2) x := fun x => by
          have := gb x
          rw [show lo + k - (lo + k - (lo + l)) = lo + l by omega] at this
          by_cases c1 : x = lo + l
          · rw [if_pos c1] at this ⊢; exact G_congr this
          · rw [if_neg c1] at this ⊢
            by_cases c2 : lo + l < x ∧ x ≤ lo + k
            · rw [if_pos c2] at this ⊢; exact G_congr this
            · rw [if_neg c2] at this ⊢; exact G_congr this
        intro i j ai aij aj
        show L (G (bubble (arrOf st2) (lo + k) (lo + k - (lo + l))) j) (G (bubble (arrOf st2) (lo + k) (lo + k - (lo + l))) i) = false
        rw [Gb, Gb]
        by_cases ci : i = lo + l
        · rw [if_pos ci]
          by_cases cj : j = lo + l
          · rw [if_pos cj]; exact o.irr _
          · rw [if_neg cj, if_pos (by omega)]
            have := h3 (j - 1 - lo) (by omega) (by omega)
            rw [show lo + (j - 1 - lo) = j - 1 by omega] at this
            exact o.asym _ _ this
        · rw [if_neg ci]
          by_cases ci2 : lo + l < i ∧ i ≤ lo + k
          · rw [if_pos ci2, if_neg (by omega), if_pos (by omega)]
            exact sr1 _ _ (by omega) (by omega) (by omega)
          · rw [if_neg ci2]
            by_cases cj : j = lo + l
            · rw [if_pos cj]
              have := h2 (i - lo) (by omega)
              rw [show lo + (i - lo) = i by omega] at this
              exact this
            · rw [if_neg cj]
              by_cases cj2 : lo + l < j ∧ j ≤ lo + k
              · rw [if_pos cj2]
                exact sr1 _ _ ai (by omega) (by omega)
              · rw [if_neg cj2]
                exact sr1 _ _ ai aij (by omega)
      · refine lw1.trans fun p hp => ?_
        show (bubble (arrOf st2) (lo + k) (lo + k - (lo + l)))[p]? = _
        rw [gb p, if_neg (by omega), if_neg (by omega)]
theorem count_L (o : Ordr L) (hc : CmpL prog w A s κ a0 L) {lo m : Nat} {st : SortSt} {Q : Option Nat → SortSt → Prop} (ok : Ok κ a0 st) (h1 : 1 ≤ m) (h2 : lo + m ≤ a0.size)
    (q : ∀ n st', 1 ≤ n → n ≤ m → Ok κ a0 st' → pendingOf st' = pendingOf st → Srt L (arrOf st') lo n → Low lo (arrOf st) (arrOf st') → Q (some n) st') : wpS (model prog w) A E s (countRun' lo m) Q st := by
  rw [countRun'_eq]
  dsimp only
  have sz : ∀ {st' : SortSt}, Ok κ a0 st' → (arrOf st').size = a0.size := fun ok => ok.perm.size_eq
  refine wpS_bind (wpS_mono (wpS_forRange (I := fun i c st' => c.1 = none ∧ (c.2 = i ∧ 1 ≤ c.2 ∧ Srt L (arrOf st) lo c.2) ∧ st' = st) (Q := fun c st' => c.1 = none ∧ (1 ≤ c.2 ∧ c.2 ≤ m ∧ Srt L (arrOf st) lo c.2 ∧ (c.2 = m ∨ L (G (arrOf st) (lo + c.2)) (G (arrOf st) (lo + c.2 - 1)) = true)) ∧ st' = st) ?step ?fin ⟨rfl, ⟨rfl, Nat.le_refl _, Srt.one o⟩, rfl⟩) ?post)
  case fin =>
    rintro ⟨c, n⟩ st' ⟨h, ⟨a, b, d⟩, rfl⟩
    dsimp only at h a b d ⊢
    exact ⟨h, ⟨b, by omega, d, .inl (by omega)⟩, rfl⟩
  case step =>
    rintro i ⟨c, n⟩ st' _ hi ⟨h, ⟨a, b, d⟩, rfl⟩
    dsimp only at h a b d ⊢
    subst a
    refine wpS_bind (ltAt_L hc ok (by omega) (by omega) ?_)
    cases e : L (G (arrOf st') (lo + n)) (G (arrOf st') (lo + n - 1))
    · exact wpS_pure ⟨rfl, ⟨rfl, by dsimp only; omega, d.snoc o b e⟩, rfl⟩
    · exact wpS_pure ⟨rfl, ⟨b, by dsimp only; omega, d, .inr e⟩, rfl⟩
  case post =>
    rintro ⟨c, n⟩ st1 ⟨h, ⟨a, b, d, dl⟩, rfl⟩
    dsimp only at h a b d dl ⊢
    subst h
    dsimp only
    by_cases d1 : (n == m) = true
    · rw [if_pos d1]
      exact wpS_pure (q _ _ a b ok rfl d (Low.refl _ _))
    rw [if_neg d1]
    simp only [beq_iff_eq] at d1
    have dl := dl.resolve_left d1
    obtain ⟨st0, hst0⟩ : ∃ st0, st0 = st1 := ⟨_, rfl⟩
    by_cases d2 : n > 1
    case' pos =>
      rw [if_pos d2]
      refine wpS_bind (ltAt_L hc ok (by omega) (by omega) ?_)
      cases er : L (G (arrOf st1) lo) (G (arrOf st1) (lo + n - 1))
      case' true => exact wpS_pure (q _ _ a b ok rfl d (Low.refl _ _))
      refine wpS_bind (rev_L ok fun st2 ok2 hp2 ea2 => ?_)
      have alk : Alk L (arrOf st1) lo (lo + n) := fun p r p1 p2 r1 r2 => o.tr _ _ _ (d r (lo + n - 1) r1 (by omega) (by omega)) (o.tr _ _ _ er (d lo p (Nat.le_refl _) p1 p2))
      have dsc2 : Dsc L (arrOf st2) lo (n + 1) := by
        have d0 : Dsc L (arrOf st1) lo n := fun i j a b c => alk i j a (by omega) (by omega) c
        have d1' : Dsc L (arrOf st1) lo (n + 1) := d0.snoc o a (o.asym _ _ dl)
        rw [ea2]
        exact d1'.like o (alk.mir o (by rw [sz ok]; omega))
      have lw2 : Low lo (arrOf st1) (arrOf st2) := by
        rw [ea2]
        exact Low.mir (Nat.le_refl _) (by rw [sz ok]; omega)
    case' neg =>
      rw [if_neg d2]
      have ok2 := ok
      have hn1 : n = 1 := by omega
      have dsc2 : Dsc L (arrOf st1) lo (n + 1) := by
        refine Dsc.snoc o a (fun i j x y z => ?_) (o.asym _ _ dl)
        have : i = j := by omega
        subst this
        exact o.irr _
      have lw2 : Low lo (arrOf st1) (arrOf st1) := Low.refl _ _
      generalize hst2 : st1 = st2 at ok2 dsc2
      have hp2 : pendingOf st2 = pendingOf st1 := by rw [hst2]
      have lw2 : Low lo (arrOf st1) (arrOf st2) := by rw [hst2]; exact Low.refl _ _
    all_goals
      refine wpS_bind (wpS_lift (wpAny_rule ⟨rfl, ?_⟩))
      refine wpS_bind (wpS_mono (wpS_forRange (I := fun i c st' => c.1 = none ∧ (c.2.1 = i ∧ 1 ≤ c.2.1 ∧ c.2.2 + 1 ≤ c.2.1 ∧ Dsc L (arrOf st') lo c.2.1 ∧ Alk L (arrOf st') (lo + c.2.1 - (c.2.2 + 1)) (lo + c.2.1)) ∧ Ok κ a0 st' ∧ pendingOf st' = pendingOf st1 ∧ Low lo (arrOf st1) (arrOf st'))
        (Q := fun c st' => c.1 = none ∧ (1 ≤ c.2.1 ∧ c.2.1 ≤ m ∧ c.2.2 + 1 ≤ c.2.1 ∧ Dsc L (arrOf st') lo c.2.1 ∧ Alk L (arrOf st') (lo + c.2.1 - (c.2.2 + 1)) (lo + c.2.1)) ∧ Ok κ a0 st' ∧ pendingOf st' = pendingOf st1 ∧ Low lo (arrOf st1) (arrOf st')) ?step2 ?fin2 ⟨rfl, ⟨rfl, by dsimp only; omega, by dsimp only; omega, dsc2, fun p r p1 p2 r1 r2 => by
          dsimp only at p1 p2 r1 r2
          have : p = r := by omega
          subst this
          exact o.irr _⟩, ok2, hp2, lw2⟩) ?post2)
      case fin2 =>
        rintro ⟨c, k, neq⟩ st' ⟨h, ⟨e1, e2, e3, e4⟩, r⟩
        dsimp only at h e1 e2 e3 e4 ⊢
        exact ⟨h, ⟨e2, by omega, e3, e4⟩, r⟩
      case step2 =>
        rintro i ⟨c, k, neq⟩ st' _ hi ⟨h, ⟨e1, e2, e3, e4, e5⟩, ok3, hp3, lw3⟩
        dsimp only at h e1 e2 e3 e4 e5 ⊢
        subst e1
        have one : ∀ (ar : Array Keyed) (x : Nat), Alk L ar (lo + (x + 1) - (0 + 1)) (lo + (x + 1)) := fun ar x p r p1 p2 r1 r2 => by
          have : p = r := by omega
          subst this
          exact o.irr _
        refine wpS_bind (ltAt_L hc ok3 (by omega) (by omega) ?_)
        cases es : L (G (arrOf st') (lo + k)) (G (arrOf st') (lo + k - 1))
        · refine wpS_bind (ltAt_L hc ok3 (by omega) (by omega) ?_)
          cases el : L (G (arrOf st') (lo + k - 1)) (G (arrOf st') (lo + k))
          · refine wpS_pure ⟨rfl, ⟨rfl, by dsimp only; omega, by dsimp only; omega, e4.snoc o e2 el, fun p r p1 p2 r1 r2 => ?_⟩, ok3, hp3, lw3⟩
            dsimp only at p1 p2 r1 r2
            have low : ∀ x, lo + k - (neq + 1) ≤ x → x < lo + k → L (G (arrOf st') x) (G (arrOf st') (lo + k)) = false ∧ L (G (arrOf st') (lo + k)) (G (arrOf st') x) = false := fun x x1 x2 =>
              ⟨o.tr _ _ _ el (e5 x (lo + k - 1) x1 x2 (by omega) (by omega)), o.tr _ _ _ (e5 (lo + k - 1) x (by omega) (by omega) x1 x2) es⟩
            by_cases c1 : p = lo + k
            · by_cases c2 : r = lo + k
              · rw [c1, c2]; exact o.irr _
              · rw [c1]; exact (low r (by omega) (by omega)).2
            · by_cases c2 : r = lo + k
              · rw [c2]; exact (low p (by omega) (by omega)).1
              · exact e5 p r (by omega) (by omega) (by omega) (by omega)
          · exact wpS_pure ⟨rfl, ⟨e2, by dsimp only; omega, e3, e4, e5⟩, ok3, hp3, lw3⟩
        · dsimp only
          rw [if_pos rfl]
          have e6 : Dsc L (arrOf st') lo (k + 1) := e4.snoc o e2 (o.asym _ _ es)
          split
          · refine wpS_bind (rev_L ok3 fun st4 ok4 hp4 ea4 => wpS_pure ⟨rfl, ⟨rfl, by dsimp only; omega, by dsimp only; omega, ?_, one _ _⟩, ok4, hp4.trans hp3, ?_⟩)
            · dsimp only
              rw [ea4]
              exact e6.like o (e5.mir o (by rw [sz ok3]; omega))
            · rw [ea4]
              exact lw3.trans (Low.mir (by omega) (by rw [sz ok3]; omega))
          · exact wpS_pure ⟨rfl, ⟨rfl, by dsimp only; omega, by dsimp only; omega, e6, one _ _⟩, ok3, hp3, lw3⟩
      case post2 =>
        rintro ⟨c, k, neq⟩ st' ⟨h, ⟨e1, e2, e3, e4, e5⟩, ok3, hp3, lw3⟩
        dsimp only at h e1 e2 e3 e4 e5 ⊢
        subst h
        dsimp only
        by_cases d3 : neq > 0
        case' pos =>
          rw [if_pos d3]
          refine wpS_bind (rev_L ok3 fun st4 ok4 hp4 ea4 => ?_)
          have hp4 := hp4.trans hp3
          have dsc4 : Dsc L (arrOf st4) lo k := by
            rw [ea4]
            exact e4.like o (e5.mir o (by rw [sz ok3]; omega))
          have lw4 : Low lo (arrOf st1) (arrOf st4) := by
            rw [ea4]
            exact lw3.trans (Low.mir (by omega) (by rw [sz ok3]; omega))
        case' neg =>
          rw [if_neg d3]
          have ok4 := ok3
          have hp4 := hp3
          have dsc4 := e4
          have lw4 := lw3
        all_goals
          refine wpS_bind (rev_L ok4 fun st5 ok5 hp5 ea5 => ?_)
          have srt5 : Srt L (arrOf st5) lo k := by
            rw [ea5]
            exact dsc4.rev (by rw [sz ok4]; omega)
          have lw5 : Low lo (arrOf st1) (arrOf st5) := by
            rw [ea5]
            exact lw4.trans (Low.mir (Nat.le_refl _) (by rw [sz ok4]; omega))
          refine wpS_bind (wpS_mono (wpS_forRange (I := fun i c st' => c.1 = none ∧ (c.2 = i ∧ 1 ≤ c.2 ∧ Srt L (arrOf st5) lo c.2) ∧ st' = st5) (Q := fun c st' => c.1 = none ∧ (1 ≤ c.2 ∧ c.2 ≤ m ∧ Srt L (arrOf st5) lo c.2) ∧ st' = st5) ?step3 ?fin3 ⟨rfl, ⟨rfl, e1, srt5⟩, rfl⟩) ?post3)
          case fin3 =>
            rintro ⟨c, n⟩ st' ⟨h, ⟨a, b, d⟩, rfl⟩
            dsimp only at h a b d ⊢
            exact ⟨h, ⟨b, by omega, d⟩, rfl⟩
          case step3 =>
            rintro i ⟨c, n⟩ st' _ hi ⟨h, ⟨a, b, d⟩, rfl⟩
            dsimp only at h a b d ⊢
            subst a
            refine wpS_bind (ltAt_L hc ok5 (by omega) (by omega) ?_)
            cases e : L (G (arrOf st') (lo + n)) (G (arrOf st') (lo + n - 1))
            · exact wpS_pure ⟨rfl, ⟨rfl, by dsimp only; omega, d.snoc o b e⟩, rfl⟩
            · exact wpS_pure ⟨rfl, ⟨b, by dsimp only; omega, d⟩, rfl⟩
          case post3 =>
            rintro ⟨c, n⟩ st6 ⟨h, ⟨a, b, d⟩, rfl⟩
            dsimp only at h a b d ⊢
            subst h
            exact wpS_pure (q _ _ a b ok5 (hp5.trans hp4) d lw5)
end
end Tim
namespace Tim
open PySem PyProof.Rows
theorem Chain.len : ∀ {l : List (Nat × Nat × Nat)} {b e : Nat}, Chain l b e → l.length + b ≤ e
  | [], _, _, h => by have : _ = _ := h; simp; omega
  | r :: rest, b, e, h => by
    have := h.2.2.len
    have := h.2.1
    rw [List.length_cons]
    omega
section
variable {prog : Program} {w : World} {A : Around} {E : Value → Shared → Prop} {s : Shared} {κ : SortKind} {a0 : Array Keyed} {L : Keyed → Keyed → Bool}
theorem runs_L (o : Ordr L) (hc : CmpL prog w A s κ a0 L) {st : SortSt} {Q : Unit → SortSt → Prop} (ok : Ok κ a0 st) (hp : pendingOf st = #[]) (q : ∀ st', Ok κ a0 st' → Sd L (arrOf st').toList → Q () st') : wpS (model prog w) A E s sortRuns' Q st := by
  rw [sortRuns'_eq]
  refine wpS_bind (wpS_get ?_)
  have hs : (arrOf st).size = a0.size := ok.perm.size_eq
  rw [hs]
  generalize minRun' a0.size a0.size 0 = mr
  dsimp only
  refine wpS_bind (wpS_mono (wpS_forRange (I := fun i c st' => c.1 = none ∧ (c.2 ≤ a0.size ∧ i ≤ c.2) ∧ Ok κ a0 st' ∧ Chain (pendingOf st').toList 0 c.2 ∧ RS L (pendingOf st').toList (arrOf st').toList)
    (Q := fun c st' => c.1 = none ∧ c.2 = a0.size ∧ Ok κ a0 st' ∧ Chain (pendingOf st').toList 0 c.2 ∧ RS L (pendingOf st').toList (arrOf st').toList) ?step ?fin ⟨rfl, ⟨Nat.zero_le _, Nat.zero_le _⟩, ok, by rw [hp]; rfl, by rw [hp]; trivial⟩) ?post)
  case fin =>
    rintro ⟨c, lo⟩ st1 ⟨h, ⟨h1, h2⟩, r⟩
    dsimp only at h h1 h2 ⊢
    rw [Nat.zero_max] at h2
    exact ⟨h, by omega, r⟩
  case step =>
    rintro i ⟨c, lo⟩ st1 _ hi ⟨h, ⟨hlo, hil⟩, ok1, ch1, rs1⟩
    dsimp only at h hlo hil ch1 ⊢
    by_cases d1 : lo ≥ a0.size
    · rw [if_pos d1]
      exact wpS_pure ⟨rfl, by dsimp only; omega, ok1, ch1, rs1⟩
    rw [if_neg d1]
    refine wpS_bind (count_L o hc ok1 (by omega) (by omega) fun n st2 n1 n2 ok2 hp2 sr2 lw2 => ?_)
    dsimp only
    rw [← hp2] at ch1 rs1
    have rs2 : RS L (pendingOf st2).toList (arrOf st2).toList := rs1.same ch1 (by rw [Nat.sub_zero]; exact lw2.take)
    by_cases d2 : n < minRun' a0.size a0.size 0
    case' pos =>
      rw [if_pos d2]
      refine wpS_bind (wpS_lift (wpAny_rule ⟨rfl, ?_⟩))
      refine wpS_bind (bin_L o hc ok2 (by omega) (by omega) sr2 fun st3 ok3 hp3 sr3 lw3 => ?_)
      rw [if_neg (by decide)]
      have N1 : 1 ≤ min (a0.size - lo) (minRun' a0.size a0.size 0) := by omega
      have N2 : lo + min (a0.size - lo) (minRun' a0.size a0.size 0) ≤ a0.size := by omega
      have rs3 : RS L (pendingOf st3).toList (arrOf st3).toList := by
        rw [hp3]
        exact rs2.same ch1 (by rw [Nat.sub_zero]; exact lw3.take)
      have ch3 : Chain (pendingOf st3).toList 0 lo := by rw [hp3]; exact ch1
      generalize min (a0.size - lo) (minRun' a0.size a0.size 0) = N at N1 N2 sr3
    case' neg =>
      rw [if_neg d2]
      have N1 := n1
      have N2 : lo + n ≤ a0.size := by omega
      have ok3 := ok2
      have ch3 := ch1
      have rs3 := rs2
      have sr3 := sr2
      clear rs2 sr2 rs1 ch1 lw2 hp2
      generalize n = N at N1 N2 sr3
      generalize st2 = st3 at ok3 ch3 rs3 sr3
    all_goals
      have sd3 : Sd L (((arrOf st3).toList.drop lo).take N) := sr3.sd (by rw [ok3.perm.size_eq]; exact N2)
      refine wpS_bind (wpS_get ?_)
      cases hb : (pendingOf st3).back? with
      | none =>
        dsimp only
        refine wpS_bind (wpS_modify (wpS_pure ⟨rfl, ⟨N2, by dsimp only; omega⟩, ⟨ok3.kind, ok3.fail, ok3.perm⟩, ?_, ?_⟩))
        · show Chain (Array.toList ((pendingOf st3).push (lo, N, 0))) 0 (lo + N)
          rw [Array.toList_push]
          exact ch3.snoc N1
        · show RS L (Array.toList ((pendingOf st3).push (lo, N, 0))) (arrOf st3).toList
          rw [Array.toList_push]
          exact rs3.snoc ch3 (by rw [Nat.sub_zero]; exact sd3)
      | some r =>
        obtain ⟨s1, m1, z1⟩ := r
        dsimp only
        refine wpS_bind (wpS_mono (wpS_forRange (I := fun _ c st' => c.1 = none ∧ Ok κ a0 st' ∧ Chain (pendingOf st').toList 0 lo ∧ RS L (pendingOf st').toList (arrOf st').toList ∧ (arrOf st').toList.drop lo = (arrOf st3).toList.drop lo) (Q := fun c st' => c.1 = none ∧ Ok κ a0 st' ∧ Chain (pendingOf st').toList 0 lo ∧ RS L (pendingOf st').toList (arrOf st').toList ∧ (arrOf st').toList.drop lo = (arrOf st3).toList.drop lo) ?step2 (fun _ _ h => h) ⟨rfl, ok3, ch3, rs3, rfl⟩) ?post2)
        case step2 =>
          rintro j ⟨c, u⟩ st4 _ hj ⟨h, ok4, ch4, rs4, dr4⟩
          dsimp only at h ⊢
          refine wpS_bind (wpS_get ?_)
          by_cases d3 : (pendingOf st4).size > 1
          · rw [if_pos d3, Array.getElem?_eq_getElem (by omega)]
            generalize (pendingOf st4)[(pendingOf st4).size - 2] = y
            obtain ⟨y1, y2, y3⟩ := y
            dsimp only
            split
            · exact wpS_pure ⟨rfl, ok4, ch4, rs4, dr4⟩
            · refine wpS_bind (mergeAt_L o hc ok4 ch4 rs4 hlo (by omega) fun st5 ok5 ch5 rs5 dr5 _ => ?_)
              exact wpS_pure ⟨rfl, ok5, ch5, rs5, dr5.trans dr4⟩
          · rw [if_neg d3]
            exact wpS_pure ⟨rfl, ok4, ch4, rs4, dr4⟩
        case post2 =>
          rintro ⟨c, u⟩ st4 ⟨h, ok4, ch4, rs4, dr4⟩
          dsimp only at h ⊢
          subst h
          dsimp only
          refine wpS_bind (wpS_modify (wpS_bind (wpS_modify (wpS_pure ⟨rfl, ⟨N2, by dsimp only; omega⟩, ⟨ok4.kind, ok4.fail, ok4.perm⟩, ?_, ?_⟩))))
          · show Chain (Array.toList (Array.push (Array.modify (pendingOf st4) _ _) (lo, N, 0))) 0 (lo + N)
            rw [Array.toList_push, Array.toList_modify]
            exact (ch4.mod _ _).snoc N1
          · show RS L (Array.toList (Array.push (Array.modify (pendingOf st4) _ _) (lo, N, 0))) (arrOf st4).toList
            rw [Array.toList_push, Array.toList_modify]
            refine (rs4.mod _ _).snoc (ch4.mod _ _) ?_
            rw [Nat.sub_zero, dr4]
            exact sd3
  case post =>
    rintro ⟨c, lo⟩ st1 ⟨h, hlo, ok1, ch1, rs1⟩
    dsimp only at h hlo ch1 ⊢
    subst h
    dsimp only
    subst hlo
    have pl := ch1.len
    rw [Array.length_toList] at pl
    refine wpS_bind (wpS_mono (wpS_forRange (I := fun j c st' => c.1 = none ∧ Ok κ a0 st' ∧ Chain (pendingOf st').toList 0 a0.size ∧ RS L (pendingOf st').toList (arrOf st').toList ∧ (pendingOf st').size + j ≤ a0.size)
      (Q := fun c st' => c.1 = none ∧ Ok κ a0 st' ∧ Chain (pendingOf st').toList 0 a0.size ∧ RS L (pendingOf st').toList (arrOf st').toList ∧ (pendingOf st').size ≤ 1) ?step3 ?fin3 ⟨rfl, ok1, ch1, rs1, by omega⟩) ?post3)
    case fin3 =>
      rintro ⟨c, u⟩ st4 ⟨h, ok4, ch4, rs4, z⟩
      rw [Nat.zero_max] at z
      exact ⟨h, ok4, ch4, rs4, by omega⟩
    case step3 =>
      rintro j ⟨c, u⟩ st4 _ hj ⟨h, ok4, ch4, rs4, z⟩
      dsimp only at h ⊢
      refine wpS_bind (wpS_get ?_)
      by_cases d3 : (pendingOf st4).size ≤ 1
      · rw [if_pos d3]
        exact wpS_pure ⟨rfl, ok4, ch4, rs4, d3⟩
      · rw [if_neg d3]
        refine wpS_bind (mergeAt_L o hc ok4 ch4 rs4 (Nat.le_refl _) ?_ fun st5 ok5 ch5 rs5 _ z5 => ?_)
        · exact ite_lt (by omega) (by omega)
        · exact wpS_pure ⟨rfl, ok5, ch5, rs5, by omega⟩
    case post3 =>
      rintro ⟨c, u⟩ st4 ⟨h, ok4, ch4, rs4, z⟩
      dsimp only at h ⊢
      subst h
      refine wpS_pure (q _ ok4 ?_)
      have lz : (pendingOf st4).toList.length ≤ 1 := by rw [Array.length_toList]; exact z
      have la : (arrOf st4).toList.length = a0.size := by rw [Array.length_toList, ok4.perm.size_eq]
      generalize (pendingOf st4).toList = rs at ch4 rs4 lz
      match rs, ch4, rs4, lz with
      | [], c, _, _ =>
        have c : 0 = a0.size := c
        have : (arrOf st4).toList = [] := List.length_eq_zero_iff.mp (by omega)
        rw [this]
        exact List.Pairwise.nil
      | [r], c, rs, _ =>
        have c2 : 0 + r.2.1 = a0.size := c.2.2
        have := rs.1
        rw [List.take_of_length_le (by omega)] at this
        exact this
      | _ :: _ :: _, _, _, l => simp at l
end
end Tim

namespace L2
open PySem PySem.Calls PySem.Spec PyProof.Rows
def lexB (p q : Int × Int) : Bool := decide (p.1 < q.1) || (decide (p.1 = q.1) && decide (p.2 < q.2))
theorem lexB_iff {p q : Int × Int} : lexB p q = true ↔ p.1 < q.1 ∨ (p.1 = q.1 ∧ p.2 < q.2) := by
  unfold lexB
  simp
theorem lexB_not {p q : Int × Int} : lexB p q = false ↔ q.1 < p.1 ∨ (p.1 = q.1 ∧ q.2 ≤ p.2) := by
  rw [← Bool.not_eq_true, lexB_iff]
  omega
abbrev Ris (l : List (Int × Int)) : Prop := l.Pairwise fun x y => lexB y x = false
section
variable {prog : Program} {w : World} {A : Around} {E : Value → Shared → Prop} {s : Shared}
theorem pr_ltS {x y : Value} {p q : Int × Int} {C : Bool → Shared → Prop} (hx : IsPr s.heap x p) (hy : IsPr s.heap y q) (h : C (lexB p q) s) : wpAny (model prog w) A (keyLt' (tuples' true) x y) C E s := by
  obtain ⟨a, o, t, u, n, rfl, h1, h2, h3⟩ := hx
  obtain ⟨a', o', t', u', n', rfl, h1', h2', h3'⟩ := hy
  refine PySem.W.kat_lt h1 h3 h1' h3' ?_
  show PySem.W.KatLex prog w A true _ C [(Value.int p.1 t, Value.int q.1 t'), (Value.int p.2 u, Value.int q.2 u')] 0 s
  refine PySem.W.kat_cons (SeqAt.EqAt.int_int _ _ _ _ prog w _ _ (PySem.W.kat_go (fun e => PySem.W.kat_yes ?_) fun e => PySem.W.kat_no (oneLt_int ?_)))
  · have e : p.1 = q.1 := by simpa using e
    refine PySem.W.kat_cons (SeqAt.EqAt.int_int _ _ _ _ prog w _ _ (PySem.W.kat_go (fun e2 => PySem.W.kat_yes (PySem.W.kat_nil ?_)) fun e2 => PySem.W.kat_no ?_))
    · have e2 : p.2 = q.2 := by simpa using e2
      have : lexB p q = false := lexB_not.mpr (by omega)
      rw [this] at h
      exact h
    · refine PySem.W.kat_one _ _ (lt_int (show PySem.W.BoolBack C (.bool _) s from ?_))
      have : lexB p q = decide (p.2 < q.2) := by
        unfold lexB
        rw [decide_eq_true e, decide_eq_false (show ¬ p.1 < q.1 by omega)]
        rfl
      rw [this] at h
      exact h
  · have e : ¬ p.1 = q.1 := by simpa using e
    have : lexB p q = decide (p.1 < q.1) := by
      unfold lexB
      rw [decide_eq_false e]
      simp
    rw [this] at h
    exact h
theorem IsPr.uniq {h : Heap} {v : Value} {p q : Int × Int} (x : IsPr h v p) (y : IsPr h v q) : p = q := by
  obtain ⟨a, o, t, u, n, rfl, h1, h2, h3⟩ := x
  obtain ⟨a', o', t', u', n', e, h1', h2', h3'⟩ := y
  cases e
  rw [h1] at h1'
  cases h1'
  rw [h3] at h3'
  injection h3' with e1 _
  have e1 := congrArg Array.toList e1
  have e2 : p.1 = q.1 ∧ p.2 = q.2 := by
    simp at e1
    exact ⟨e1.1.1, e1.2.1⟩
  exact Prod.ext e2.1 e2.2
theorem prOf_ex (h : Heap) : ∃ key : Value → Int × Int, ∀ v q, IsPr h v q → key v = q := by
  classical
  refine ⟨fun v => if x : ∃ q, IsPr h v q then x.choose else (0, 0), fun v q x => ?_⟩
  have z : ∃ q, IsPr h v q := ⟨q, x⟩
  dsimp only
  rw [dif_pos z]
  exact z.choose_spec.uniq x
def keyLt (key : Value → Int × Int) (x y : Keyed) : Bool := lexB (key x.1) (key y.1)
theorem keyLt_ord (key : Value → Int × Int) : Tim.Ordr (keyLt key) := by
  constructor
  · intro x y e
    unfold keyLt at e ⊢
    rw [lexB_iff] at e
    rw [lexB_not]
    omega
  · intro x y z e1 e2
    unfold keyLt at e1 e2 ⊢
    rw [lexB_not] at e1 e2 ⊢
    omega
def OutS (ps : List (Int × Int)) (vs o : List Value) : Prop := ∃ p : List Nat, p.Perm (List.range vs.length) ∧ o = p.map (fun i => vs.getD i Value.none) ∧ Ris (p.map fun i => ps.getD i (0, 0))
theorem OutS.len {ps : List (Int × Int)} {vs o : List Value} (h : OutS ps vs o) : o.length = vs.length := by
  obtain ⟨p, hp, rfl, _⟩ := h
  rw [List.length_map, hp.length_eq, List.length_range]
theorem OutS.small {ps : List (Int × Int)} {vs : List Value} (h : vs.length < 2) : OutS ps vs vs := by
  obtain ⟨p, hp, e⟩ := Reord.refl vs
  refine ⟨p, hp, e, ?_⟩
  have l : (p.map fun i => ps.getD i (0, 0)).length < 2 := by rw [List.length_map, hp.length_eq, List.length_range]; exact h
  generalize (p.map fun i => ps.getD i (0, 0)) = l' at l
  match l', l with
  | [], _ => exact List.Pairwise.nil
  | [_], _ => exact List.pairwise_singleton _ _
  | _ :: _ :: _, l => exact absurd l (by simp)
theorem pr_runS {vs : List Value} {ps : List (Int × Int)} (hp : Paired (IsPr s.heap) vs ps) (h2 : 2 ≤ vs.length) :
    wpAny (model prog w) A (keyKind' vs.toArray) (fun κ t' => t' = s ∧
      wpAny (model prog w) A ((sortRuns').run (SortSt.mk' κ (vs.toArray.zip vs.toArray) #[] 7 none)) (fun r t2 => t2 = s ∧ failedOf r.2 = none ∧ OutS ps vs ((arrOf r.2).map (·.2)).toList) (fun _ _ => False) s) (fun _ _ => False) s := by
  obtain ⟨fs, kt, lf, hf⟩ := pr_tups hp
  obtain ⟨key, hkey⟩ := prOf_ex s.heap
  refine PySem.W.kat_kind (T := .type "int") kt (by omega) (fun v hv => ?_) (by decide) ⟨rfl, ?_⟩
  · obtain ⟨i, t, rfl⟩ := hf v hv
    exact .now
  · have mem : ∀ x : Keyed, x ∈ vs.toArray.zip vs.toArray → x.1 = x.2 ∧ ∃ q, IsPr s.heap x.1 q := fun x hx => by
      have hx' : x ∈ vs.zip vs := by
        have := Array.mem_toList_iff.mpr hx
        simpa using this
      obtain ⟨e1, e2⟩ := mem_zip_self hx'
      obtain ⟨k, hk, e3⟩ := List.getElem_of_mem e2
      obtain ⟨y, _, z⟩ := Paired.get' (i := k) (x := x.1) hp (by rw [List.getElem?_eq_getElem hk, e3])
      exact ⟨e1, y, z⟩
    have hc : Tim.CmpL prog w A s (tuples' true) (vs.toArray.zip vs.toArray) (keyLt key) := fun x y hx hy E Q q => by
      obtain ⟨_, p1, z1⟩ := mem x hx
      obtain ⟨_, p2, z2⟩ := mem y hy
      unfold keyLt at q
      rw [hkey _ _ z1, hkey _ _ z2] at q
      exact pr_ltS z1 z2 q
    refine Tim.runs_L (st := SortSt.mk' (tuples' true) (vs.toArray.zip vs.toArray) #[] 7 none) (Q := fun _ st => failedOf st = none ∧ OutS ps vs ((arrOf st).map (·.2)).toList) (keyLt_ord key) hc ⟨rfl, rfl, Array.Perm.refl _⟩ rfl fun st' ok sd => ⟨ok.fail, ?_⟩
    have pm : ((arrOf st').map (·.2)).toList.Perm vs := by
      have := (Array.perm_iff_toList_perm.mp ok.perm).map (·.2)
      rw [Array.toList_map]
      refine this.trans (List.Perm.of_eq ?_)
      simp [List.map_snd_zip]
    obtain ⟨p, hpp, eo⟩ := Reord.of_perm pm
    refine ⟨p, hpp, eo, ?_⟩
    -- the pairs of what lies now
    have s1 : (((arrOf st').map (·.2)).toList.map (key)).Pairwise fun x y => lexB y x = false := by
      rw [Array.toList_map, List.map_map]
      refine List.pairwise_map.mpr ?_
      refine List.Pairwise.imp_of_mem (fun {x y} hx hy h => ?_) sd
      have m1 := (mem x (ok.perm.mem_iff.mp (Array.mem_toList_iff.mp hx))).1
      have m2 := (mem y (ok.perm.mem_iff.mp (Array.mem_toList_iff.mp hy))).1
      unfold keyLt at h
      show lexB (key y.2) (key x.2) = false
      rw [← m1, ← m2]
      exact h
    have e2 : ((arrOf st').map (·.2)).toList.map (key) = p.map fun i => ps.getD i (0, 0) := by
      rw [eo, List.map_map]
      refine List.map_congr_left fun i hi => ?_
      have hi' : i < vs.length := by
        have := hpp.mem_iff.mp hi
        simpa using this
      obtain ⟨y, hy, z⟩ := Paired.get' (i := i) (x := vs[i]) hp (List.getElem?_eq_getElem hi')
      show key (vs.getD i Value.none) = _
      rw [List.getD_eq_getElem?_getD, List.getElem?_eq_getElem hi', List.getD_eq_getElem?_getD, hy]
      exact hkey _ _ z
    rw [e2] at s1
    exact s1
end
section
variable {X : Cx}
theorem call_sorted_prsS : CallR X (.builtin "sorted") (fun xs H Q => ∃ (l : Addr) (ws : List V) (prs : List (Int × Int)), xs = [.ref l] ∧ H l = some (.lst ws) ∧ Ars H ws prs ∧ ws.length ≤ 1000 ∧
    ∀ (D : Addr) (ws' : List V) (prs' : List (Int × Int)) (H' : Hp), Same H H' → H' D = some (.lst ws') → Ars H' ws' prs' → prs'.Perm prs → Ris prs' → Q (.ref D) H') := by
  intro pins s σ H xs us Q I r h
  obtain ⟨l, ws, prs, rfl, hl, ha, hn, q⟩ := h
  obtain ⟨u, rfl, ru⟩ := vals1 r
  cases ru
  obtain ⟨its, rv, pl, hz⟩ := I.list (SqL.of hl)
  have lv : ws.length = its.length := rv.length
  have lp : ws.length = prs.length := Paired.length ha
  have isp : ∀ {t : Shared}, (∀ b o, s.heap.get? b = some o → t.heap.get? b = some o) → Paired (IsPr t.heap) its prs := by
    intro t kp
    refine Paired.of_get (by omega) fun j v y hv hy => ?_
    have hj : j < its.length := (List.getElem?_eq_some_iff.mp hv).1
    have hj' : j < ws.length := by omega
    obtain ⟨c, e1, a, e2, e3⟩ := Paired.get' (i := j) (x := ws[j]) ha (by simp [hj'])
    rw [hy] at e1
    cases e1
    obtain ⟨w', e4, e5⟩ := rv.get (i := j) (x := ws[j]) (by simp [hj'])
    rw [hv] at e4
    cases e4
    rw [e2] at e5
    have e5 : v = Value.ref a := e5
    obtain ⟨jt, r3, ⟨ot, g1, g2, n, g3⟩, _⟩ := I.tuple (SqT.of e3)
    obtain ⟨u1, u2, rfl, ⟨t1, rfl⟩, ⟨t2, rfl⟩⟩ := vals2' r3
    exact ⟨a, ot, t1, t2, n, e5, kp _ _ g1, g2, g3⟩
  refine Calls.call_function_entry kind_sorted plain_sorted entry_sorted (args_sorted1 _) ?_
  unfold Builtin.«sorted»
  refine wpAny_bind (m := checkCount "sorted" 1 1 _) (wpAny_pure ?_)
  have sl : (1000000 : Nat) < sizeLine := by decide
  refine wpAny_bind (collect_list pl.isList ?_)
  refine wpAny_bind (wpAny_newList ?_)
  have hsz : ((s.heap.push (seqObj "list" #[] 0)).update s.heap.objs.size (Obj.mapSeq (· ++ its.toArray))).objs.size = s.heap.objs.size + 1 := by
    rw [Heap.size_update, size_push']
  have hoL : (((s.heap.push (seqObj "list" #[] 0)).update s.heap.objs.size (Obj.mapSeq (· ++ its.toArray))).push (seqObj "list" its.toArray 0)).get? (s.heap.objs.size + 1) = some (seqObj "list" its.toArray 0) := by
    rw [← hsz]; exact Heap.get?_push_size _ rfl
  show wpAny _ _ _ _ _ { s with heap := ((s.heap.push (seqObj "list" #[] 0)).update s.heap.objs.size (Obj.mapSeq (· ++ its.toArray))).push (seqObj "list" its.toArray 0) }
  rw [hsz]
  have k0 : ∀ b o, s.heap.get? b = some o → (((s.heap.push (seqObj "list" #[] 0)).update s.heap.objs.size (Obj.mapSeq (· ++ its.toArray))).push (seqObj "list" its.toArray 0)).get? b = some o := fun b o e => by
    refine Heap.get?_push_of_some _ ?_
    rw [Heap.get?_update_ne _ _ _ _ (Nat.ne_of_lt (Heap.lt_size e))]
    exact Heap.get?_push_of_some _ e
  refine wpAny_bind (wpAny_holding (wpAny_call_entry slot_list_sort ⟨_, hoL, rfl⟩ entry_list_sort (sort_list (Out := OutS prs its) hoL (by omega) (fun h2 => OutS.small (by omega)) (fun _ h => h.len)
    (fun h2 t kp => pr_runS (isp fun b o e => kp b o (Nat.ne_of_lt (Nat.lt_succ_of_lt (Heap.lt_size e))) (k0 b o e)) h2) fun out ho => ⟨_, rfl, ?_⟩) (args_list_sort _)))
  refine wpAny_pure ⟨_, rfl, ?_⟩
  obtain ⟨c, hDo⟩ := sortedHeap_at (vs := its) (out := out) hoL
  have kp : ∀ b o, s.heap.get? b = some o → (sortedHeap (((s.heap.push (seqObj "list" #[] 0)).update s.heap.objs.size (Obj.mapSeq (· ++ its.toArray))).push (seqObj "list" its.toArray 0)) (s.heap.objs.size + 1) its out).get? b = some o := fun b o e => by
    rw [sortedHeap_old (Nat.ne_of_lt (Nat.lt_succ_of_lt (Heap.lt_size e))) (by rw [size_push', hsz]; exact Nat.lt_succ_of_lt (Nat.lt_succ_of_lt (Heap.lt_size e)))]
    exact k0 b o e
  obtain ⟨p, hp, eo, ris⟩ := ho
  have I1 : Inv X pins σ H { s with heap := sortedHeap (((s.heap.push (seqObj "list" #[] 0)).update s.heap.objs.size (Obj.mapSeq (· ++ its.toArray))).push (seqObj "list" its.toArray 0)) (s.heap.objs.size + 1) its out } := I.kept (t' := s.toks) kp
  have fp : FpOk X pins H (s.heap.objs.size + 1) := I.newFp fun b o e => Nat.lt_succ_of_lt (Heap.lt_size e)
  have lt : ∀ i ∈ p, i < its.length := fun i hi => by
    have := hp.mem_iff.mp hi
    simpa using this
  have vals : Vals (p.map fun i => ws.getD i .non) out.toList := by
    rw [eo]
    refine Paired.of_map fun i hi => ?_
    have hi' := lt i hi
    obtain ⟨w', e4, e5⟩ := rv.get (i := i) (x := ws[i]'(by omega)) (by simp [lv, hi'])
    have a1 : ws.getD i .non = ws[i]'(by omega) := by simp [lv, hi']
    have a2 : its.getD i Value.none = w' := by rw [List.getD_eq_getElem?_getD, e4]; rfl
    rw [a1, a2]
    exact e5
  have new : ObjOk X.prog X.w (upd H (s.heap.objs.size + 1) (.lst (p.map fun i => ws.getD i .non))) (sortedHeap (((s.heap.push (seqObj "list" #[] 0)).update s.heap.objs.size (Obj.mapSeq (· ++ its.toArray))).push (seqObj "list" its.toArray 0)) (s.heap.objs.size + 1) its out) (s.heap.objs.size + 1) (.lst (p.map fun i => ws.getD i .non)) := by
    refine ⟨?_, out.toList, c, vals, by simpa using hDo⟩
    rw [List.length_map, hp.length_eq, List.length_range]
    omega
  refine ⟨.ref (s.heap.objs.size + 1), _, I1.adopt fp new, rfl, q _ _ (p.map fun i => prs.getD i (0, 0)) _ (Same.upd fp.1) upd_same (Paired.of_map fun i hi => ?_) ?_ ris⟩
  · have hi' := lt i hi
    obtain ⟨c, e1, a, e2, e3⟩ := Paired.get' (i := i) (x := ws[i]'(by omega)) ha (by simp [lv, hi'])
    have a1 : ws.getD i .non = ws[i]'(by omega) := by simp [lv, hi']
    have a2 : prs.getD i (0, 0) = c := by rw [List.getD_eq_getElem?_getD, e1]; rfl
    rw [a1, a2]
    exact ⟨a, e2, by rw [upd_ne (ne_of_none e3 fp.1)]; exact e3⟩
  · have e : (List.range its.length).map (fun i => prs.getD i (0, 0)) = prs := by
      apply List.ext_getElem
      · simp
        omega
      · intro i h1 h2
        simp [h2]
    have := hp.map fun i => prs.getD i (0, 0)
    rw [e] at this
    exact this
theorem call_list_prsN (hc : X.calm = true) : CallR X (.type "list") (fun xs H Q => ∃ (d : Addr) (kvs : List (List Key × V)) (prs : List (Int × Int)), xs = [.ref d] ∧ H d = some (.dT kvs) ∧ kvs.map (·.1) = prs.map prKey ∧ kvs.length ≤ 1000 ∧
    ∀ (D : Addr) (ws : List V) (H' : Hp), Same H H' → H' D = some (.lst ws) → Ars H' ws prs → prs.Nodup → Q (.ref D) H') := by
  intro pins s σ H xs us Q I r h
  obtain ⟨d, kvs, prs, rfl, hd, hk, hl, q⟩ := h
  obtain ⟨z, hsys, xs', rel, o, es, ep, e1, e2, e3, e4, nd⟩ := (show ObjOk X.prog X.w H s.heap d (.dT kvs) from I.hok d _ hd)
  have ek : ∀ {l : List (List Key × V)} {r : List (List Key × Addr × Value)}, Paired (fun (p : List Key × V) (q : List Key × Addr × Value) => p.1 = q.1 ∧ H q.2.1 = some (.tup (p.1.map kV)) ∧ RelV p.2 q.2.2) l r → l.map (·.1) = r.map (·.1) := by
    intro l r h
    induction h with
    | nil => rfl
    | cons a _ ih => rw [List.map_cons, List.map_cons, ih, a.1]
  rw [← ek rel, hk] at nd
  have nd' : prs.Nodup := List.Pairwise.of_map prKey (fun a b h e => h (by rw [e])) nd
  exact call_list_prs hc pins s σ H _ us Q I r ⟨d, kvs, prs, rfl, hd, hk, hl, fun D ws H' s1 hD ar => q D ws H' s1 hD ar nd'⟩
theorem ris_strict : ∀ {l : List (Int × Int)}, Ris l → l.Nodup → l.Pairwise fun x y => lexB x y = true
  | [], _, _ => List.Pairwise.nil
  | a :: r, h, n => by
    obtain ⟨h1, h2⟩ := List.pairwise_cons.mp h
    obtain ⟨n1, n2⟩ := List.pairwise_cons.mp n
    refine List.pairwise_cons.mpr ⟨fun b hb => ?_, ris_strict h2 n2⟩
    have e1 := h1 b hb
    have e2 := n1 b hb
    rw [lexB_not] at e1
    rw [lexB_iff]
    have : ¬ (a.1 = b.1 ∧ a.2 = b.2) := fun z => e2 (Prod.ext z.1 z.2)
    omega

end
end L2

namespace L2
open PySem PySem.Calls PySem.Spec PyProof.Rows
section
variable {X : Cx}
end
end L2

namespace L2
open PySem PySem.Calls PySem.Spec PyProof.Rows PySem.W
section
variable {X : Cx} {k i : Nat} {x : Str} {ps : List Str} {sp : Sp} {p pos : Pos} {e : Expr} {es : List Expr} {t : TA} {f : Addr} {fd : FuncData}
end
end L2

namespace L2
open PySem PySem.Calls PySem.Spec PyProof.Rows
section
variable {X : Cx} {A : Around}
end
end L2

namespace L2
open PySem PySem.Calls PySem.Spec PyProof.Rows
section
variable {X : Cx}
end
end L2

namespace L2
open PySem PySem.Spec PyProof.Rows
end L2

namespace L2
open PySem PySem.Calls PySem.Spec PyProof.Rows PySem.W
section
variable {X : Cx} {pos : Pos}
end
end L2

namespace Hk
open PySem L2 PySem.W
end Hk

namespace L2
open PySem PySem.Calls PySem.Spec PyProof.Rows PySem.W
section
variable {X : Cx} {e : Expr} {es : List Expr} {pos : Pos}
end
section
variable {X : Cx} {A : Around}
end
end L2

namespace L2
open PySem PySem.Spec PyProof.Rows
section
variable {X : Cx} {tg : Expr}
end
section
variable {g : TG} {tc : TT} {te : TE} {σ : St} {H : Hp} {R : List V → Hp → Prop}
end
end L2

namespace L2
open PySem PySem.Calls PySem.Spec PyProof.Rows
section
variable {X : Cx}
def Tpi (H : Hp) : List V → List (List Int) → Prop := Paired fun (v : V) (ns : List Int) => ∃ p, v = .ref p ∧ H p = some (.tup (ns.map V.int))
end
end L2

namespace L2
open PySem PySem.Calls PySem.Spec PyProof.Rows
section
variable {X : Cx} {tg : Expr}
end
end L2

namespace L2
open PySem PySem.Calls PySem.Spec PyProof.Rows
def lexL : List Int → List Int → Bool
  | [], [] => false
  | [], _ :: _ => true
  | _ :: _, [] => false
  | a :: x, b :: y => if a = b then lexL x y else decide (a < b)
theorem lexL_irr : ∀ x : List Int, lexL x x = false
  | [] => rfl
  | a :: x => by
    show (if a = a then lexL x x else decide (a < a)) = false
    rw [if_pos rfl]
    exact lexL_irr x
theorem lexL_asy : ∀ x y : List Int, lexL x y = true → lexL y x = false
  | [], [], h => by cases h
  | [], _ :: _, _ => rfl
  | _ :: _, [], h => by cases h
  | a :: x, b :: y, h => by
    have h : (if a = b then lexL x y else decide (a < b)) = true := h
    show (if b = a then lexL y x else decide (b < a)) = false
    by_cases e : a = b
    · rw [if_pos e] at h
      rw [if_pos e.symm]
      exact lexL_asy x y h
    · rw [if_neg e] at h
      rw [if_neg (fun z => e z.symm)]
      have := of_decide_eq_true h
      exact decide_eq_false (by omega)
theorem lexL_tot : ∀ x y : List Int, lexL x y = false → lexL y x = false → x = y
  | [], [], _, _ => rfl
  | [], _ :: _, h, _ => by cases h
  | _ :: _, [], _, h => by cases h
  | a :: x, b :: y, h, g => by
    have h : (if a = b then lexL x y else decide (a < b)) = false := h
    have g : (if b = a then lexL y x else decide (b < a)) = false := g
    by_cases e : a = b
    · rw [if_pos e] at h
      rw [if_pos e.symm] at g
      rw [e, lexL_tot x y h g]
    · rw [if_neg e] at h
      rw [if_neg (fun z => e z.symm)] at g
      have h := of_decide_eq_false h
      have g := of_decide_eq_false g
      omega
theorem lexL_tr : ∀ x y z : List Int, lexL y x = false → lexL z y = false → lexL z x = false
  | [], [], [], _, _ => rfl
  | [], [], _ :: _, _, _ => rfl
  | [], _ :: _, [], _, h => by cases h
  | [], _ :: _, _ :: _, _, _ => rfl
  | _ :: _, [], _, h, _ => by cases h
  | _ :: _, _ :: _, [], _, h => by cases h
  | a :: x, b :: y, c :: z, h, g => by
    have h : (if b = a then lexL y x else decide (b < a)) = false := h
    have g : (if c = b then lexL z y else decide (c < b)) = false := g
    show (if c = a then lexL z x else decide (c < a)) = false
    by_cases e : b = a
    · rw [if_pos e] at h
      by_cases e2 : c = b
      · rw [if_pos e2] at g
        rw [if_pos (e2.trans e)]
        exact lexL_tr x y z h g
      · rw [if_neg e2] at g
        rw [if_neg (fun w => e2 (w.trans e.symm))]
        have g := of_decide_eq_false g
        exact decide_eq_false (by omega)
    · rw [if_neg e] at h
      have h := of_decide_eq_false h
      by_cases e2 : c = b
      · rw [if_neg (fun w => e (e2.symm.trans w))]
        exact decide_eq_false (by omega)
      · rw [if_neg e2] at g
        have g := of_decide_eq_false g
        rw [if_neg (by omega)]
        exact decide_eq_false (by omega)
abbrev RisL (l : List (List Int)) : Prop := l.Pairwise fun x y => lexL y x = false
abbrev StcL (l : List (List Int)) : Prop := l.Pairwise fun x y => lexL x y = true
theorem risL_strict : ∀ {l : List (List Int)}, RisL l → l.Nodup → StcL l
  | [], _, _ => List.Pairwise.nil
  | a :: l, h, n => by
    obtain ⟨h1, h2⟩ := List.pairwise_cons.mp h
    obtain ⟨n1, n2⟩ := List.nodup_cons.mp n
    refine List.pairwise_cons.mpr ⟨fun y hy => ?_, risL_strict h2 n2⟩
    cases e : lexL a y with
    | true => rfl
    | false => exact absurd (lexL_tot a y e (h1 y hy)) (fun z => n1 (z ▸ hy))
theorem StcL.uniq : ∀ {l r : List (List Int)}, StcL l → StcL r → (∀ x, x ∈ l ↔ x ∈ r) → l = r
  | [], [], _, _, _ => rfl
  | [], b :: r, _, _, h => nomatch (h b).mpr List.mem_cons_self
  | a :: l, [], _, _, h => nomatch (h a).mp List.mem_cons_self
  | a :: l, b :: r, s1, s2, h => by
    obtain ⟨a1, a2⟩ := List.pairwise_cons.mp s1
    obtain ⟨b1, b2⟩ := List.pairwise_cons.mp s2
    have e : a = b := by
      rcases List.mem_cons.mp ((h a).mp List.mem_cons_self) with z | z
      · exact z
      · rcases List.mem_cons.mp ((h b).mpr List.mem_cons_self) with y | y
        · exact y.symm
        · have := lexL_asy _ _ (b1 a z)
          rw [a1 b y] at this
          cases this
    subst e
    rw [StcL.uniq a2 b2 fun x => ⟨fun hx => ?_, fun hx => ?_⟩]
    · rcases List.mem_cons.mp ((h x).mp (List.mem_cons_of_mem _ hx)) with z | z
      · have := a1 x hx
        rw [z, lexL_irr] at this
        cases this
      · exact z
    · rcases List.mem_cons.mp ((h x).mpr (List.mem_cons_of_mem _ hx)) with z | z
      · have := b1 x hx
        rw [z, lexL_irr] at this
        cases this
      · exact z
def IsTp (h : Heap) (v : Value) (ns : List Int) : Prop := ∃ a o us n, v = .ref a ∧ h.get? a = some o ∧ o.cls = .type "tuple" ∧ o.data = .seq (List.toArray us) n ∧ Vals (ns.map V.int) us
theorem vals_ints_inj : ∀ {ns ms : List Int} {us : List Value}, Vals (ns.map V.int) us → Vals (ms.map V.int) us → ns = ms
  | [], [], _, _, _ => rfl
  | [], _ :: _, _, .nil, h => by cases h
  | _ :: _, [], _, h, .nil => by cases h
  | _ :: _, _ :: _, _, .cons r t, .cons r' t' => by
    obtain ⟨_, e⟩ := r
    obtain ⟨_, e'⟩ := r'
    rw [e] at e'
    injection e' with e1 _
    rw [e1, vals_ints_inj t t']
section
variable {prog : Program} {w : World} {A : Around} {E : Value → Shared → Prop} {s : Shared}
theorem lex_ints {C : Bool → Shared → Prop} : ∀ (ns ms : List Int) (us vs : List Value) (i : Nat), Vals (ns.map V.int) us → Vals (ms.map V.int) vs → C (lexL ns ms) s → PySem.W.KatLex prog w A true (decide (ns.length < ms.length)) C (us.zip vs) i s
  | [], [], _, _, _, .nil, .nil, h => PySem.W.kat_nil h
  | [], _ :: _, _, _, _, .nil, .cons _ _, h => PySem.W.kat_nil (by rw [show decide (List.length [] < List.length (_ :: _)) = true from by simp]; exact h)
  | _ :: _, [], _, _, _, .cons _ _, .nil, h => PySem.W.kat_nil h
  | a :: x, b :: y, _, _, i, .cons r t, .cons r' t', h => by
    obtain ⟨t1, rfl⟩ := r
    obtain ⟨t2, rfl⟩ := r'
    have h : C (if a = b then lexL x y else decide (a < b)) s := h
    refine PySem.W.kat_cons (SeqAt.EqAt.int_int _ _ _ _ prog w _ _ (PySem.W.kat_go (fun e => PySem.W.kat_yes ?_) fun e => PySem.W.kat_no ?_))
    · have e : a = b := by simpa using e
      rw [if_pos e] at h
      have ih := lex_ints x y _ _ (i + 1) t t' h
      have : decide ((a :: x).length < (b :: y).length) = decide (x.length < y.length) := by simp
      rw [this]
      exact ih
    · have e : ¬ a = b := by simpa using e
      rw [if_neg e] at h
      cases i with
      | zero => exact oneLt_int h
      | succ i => exact PySem.W.kat_one _ _ (lt_int (show PySem.W.BoolBack C (.bool _) s from h))
theorem tp_lt {x y : Value} {p q : List Int} {C : Bool → Shared → Prop} (hx : IsTp s.heap x p) (hy : IsTp s.heap y q) (h : C (lexL p q) s) : wpAny (model prog w) A (keyLt' (tuples' true) x y) C E s := by
  obtain ⟨a, o, us, n, rfl, h1, h2, h3, h4⟩ := hx
  obtain ⟨a', o', us', n', rfl, h1', h2', h3', h4'⟩ := hy
  refine PySem.W.kat_lt h1 h3 h1' h3' ?_
  have l1 : us.length = p.length := by rw [← h4.length, List.length_map]
  have l2 : us'.length = q.length := by rw [← h4'.length, List.length_map]
  show PySem.W.KatLex prog w A true (decide (us.length < us'.length)) C (us.zip us') 0 s
  rw [l1, l2]
  exact lex_ints p q us us' 0 h4 h4' h
theorem IsTp.uniq {h : Heap} {v : Value} {p q : List Int} (x : IsTp h v p) (y : IsTp h v q) : p = q := by
  obtain ⟨a, o, us, n, rfl, h1, h2, h3, h4⟩ := x
  obtain ⟨a', o', us', n', e, h1', h2', h3', h4'⟩ := y
  cases e
  rw [h1] at h1'
  cases h1'
  rw [h3] at h3'
  injection h3' with e1 _
  have e1 := congrArg Array.toList e1
  simp at e1
  subst e1
  exact vals_ints_inj h4 h4'
theorem tpOf_ex (h : Heap) : ∃ key : Value → List Int, ∀ v q, IsTp h v q → key v = q := by
  classical
  refine ⟨fun v => if x : ∃ q, IsTp h v q then x.choose else [], fun v q x => ?_⟩
  have z : ∃ q, IsTp h v q := ⟨q, x⟩
  dsimp only
  rw [dif_pos z]
  exact z.choose_spec.uniq x
def keyLtT (key : Value → List Int) (x y : Keyed) : Bool := lexL (key x.1) (key y.1)
theorem keyLtT_ord (key : Value → List Int) : Tim.Ordr (keyLtT key) := ⟨fun x y e => lexL_asy _ _ e, fun x y z e1 e2 => lexL_tr _ _ _ e1 e2⟩
def OutT (ps : List (List Int)) (vs o : List Value) : Prop := ∃ p : List Nat, p.Perm (List.range vs.length) ∧ o = p.map (fun i => vs.getD i Value.none) ∧ RisL (p.map fun i => ps.getD i [])
theorem OutT.len {ps : List (List Int)} {vs o : List Value} (h : OutT ps vs o) : o.length = vs.length := by
  obtain ⟨p, hp, rfl, _⟩ := h
  rw [List.length_map, hp.length_eq, List.length_range]
theorem OutT.small {ps : List (List Int)} {vs : List Value} (h : vs.length < 2) : OutT ps vs vs := by
  obtain ⟨p, hp, e⟩ := Reord.refl vs
  refine ⟨p, hp, e, ?_⟩
  have l : (p.map fun i => ps.getD i []).length < 2 := by rw [List.length_map, hp.length_eq, List.length_range]; exact h
  generalize (p.map fun i => ps.getD i []) = l' at l
  match l', l with
  | [], _ => exact List.Pairwise.nil
  | [_], _ => exact List.pairwise_singleton _ _
  | _ :: _ :: _, l => exact absurd l (by simp)
theorem tp_tups : ∀ {vs : List Value} {ps : List (List Int)}, Paired (IsTp s.heap) vs ps → (∀ q ∈ ps, q ≠ []) → ∃ fs, PySem.W.KatTups s.heap vs fs ∧ fs.length = vs.length ∧ ∀ v ∈ fs, ∃ i t, v = Value.int i t
  | _, _, .nil, _ => ⟨[], PySem.W.KatTups.nil, rfl, fun v hv => by cases hv⟩
  | _, q :: _, .cons h r, ne => by
    obtain ⟨fs, k, l, z⟩ := tp_tups r fun q hq => ne q (List.mem_cons_of_mem _ hq)
    obtain ⟨a, o, us, n, rfl, h1, h2, h3, h4⟩ := h
    have hq := ne q List.mem_cons_self
    match q, hq, us, h4, h3 with
    | [], hq, _, _, _ => exact absurd rfl hq
    | i :: _, _, u :: us', .cons r _, h3 =>
      obtain ⟨t, rfl⟩ := r
      refine ⟨Value.int i t :: fs, PySem.W.KatTups.cons h1 h2 h3 (by simp) k, by simp [l], fun v hv => ?_⟩
      rcases List.mem_cons.mp hv with rfl | hv
      · exact ⟨_, _, rfl⟩
      · exact z v hv
theorem tp_run {vs : List Value} {ps : List (List Int)} (hp : Paired (IsTp s.heap) vs ps) (hne : ∀ q ∈ ps, q ≠ []) (h2 : 2 ≤ vs.length) :
    wpAny (model prog w) A (keyKind' vs.toArray) (fun κ t' => t' = s ∧
      wpAny (model prog w) A ((sortRuns').run (SortSt.mk' κ (vs.toArray.zip vs.toArray) #[] 7 none)) (fun r t2 => t2 = s ∧ failedOf r.2 = none ∧ OutT ps vs ((arrOf r.2).map (·.2)).toList) (fun _ _ => False) s) (fun _ _ => False) s := by
  obtain ⟨fs, kt, lf, hf⟩ := tp_tups hp hne
  obtain ⟨key, hkey⟩ := tpOf_ex s.heap
  refine PySem.W.kat_kind (T := .type "int") kt (by omega) (fun v hv => ?_) (by decide) ⟨rfl, ?_⟩
  · obtain ⟨i, t, rfl⟩ := hf v hv
    exact .now
  · have mem : ∀ x : Keyed, x ∈ vs.toArray.zip vs.toArray → x.1 = x.2 ∧ ∃ q, IsTp s.heap x.1 q := fun x hx => by
      have hx' : x ∈ vs.zip vs := by
        have := Array.mem_toList_iff.mpr hx
        simpa using this
      obtain ⟨e1, e2⟩ := mem_zip_self hx'
      obtain ⟨k, hk, e3⟩ := List.getElem_of_mem e2
      obtain ⟨y, _, z⟩ := Paired.get' (i := k) (x := x.1) hp (by rw [List.getElem?_eq_getElem hk, e3])
      exact ⟨e1, y, z⟩
    have hc : Tim.CmpL prog w A s (tuples' true) (vs.toArray.zip vs.toArray) (keyLtT key) := fun x y hx hy E Q q => by
      obtain ⟨_, p1, z1⟩ := mem x hx
      obtain ⟨_, p2, z2⟩ := mem y hy
      unfold keyLtT at q
      rw [hkey _ _ z1, hkey _ _ z2] at q
      exact tp_lt z1 z2 q
    refine Tim.runs_L (st := SortSt.mk' (tuples' true) (vs.toArray.zip vs.toArray) #[] 7 none) (Q := fun _ st => failedOf st = none ∧ OutT ps vs ((arrOf st).map (·.2)).toList) (keyLtT_ord key) hc ⟨rfl, rfl, Array.Perm.refl _⟩ rfl fun st' ok sd => ⟨ok.fail, ?_⟩
    have pm : ((arrOf st').map (·.2)).toList.Perm vs := by
      have := (Array.perm_iff_toList_perm.mp ok.perm).map (·.2)
      rw [Array.toList_map]
      refine this.trans (List.Perm.of_eq ?_)
      simp [List.map_snd_zip]
    obtain ⟨p, hpp, eo⟩ := Reord.of_perm pm
    refine ⟨p, hpp, eo, ?_⟩
    -- the pairs of what lies now
    have s1 : (((arrOf st').map (·.2)).toList.map (key)).Pairwise fun x y => lexL y x = false := by
      rw [Array.toList_map, List.map_map]
      refine List.pairwise_map.mpr ?_
      refine List.Pairwise.imp_of_mem (fun {x y} hx hy h => ?_) sd
      have m1 := (mem x (ok.perm.mem_iff.mp (Array.mem_toList_iff.mp hx))).1
      have m2 := (mem y (ok.perm.mem_iff.mp (Array.mem_toList_iff.mp hy))).1
      unfold keyLtT at h
      show lexL (key y.2) (key x.2) = false
      rw [← m1, ← m2]
      exact h
    have e2 : ((arrOf st').map (·.2)).toList.map (key) = p.map fun i => ps.getD i [] := by
      rw [eo, List.map_map]
      refine List.map_congr_left fun i hi => ?_
      have hi' : i < vs.length := by
        have := hpp.mem_iff.mp hi
        simpa using this
      obtain ⟨y, hy, z⟩ := Paired.get' (i := i) (x := vs[i]) hp (List.getElem?_eq_getElem hi')
      show key (vs.getD i Value.none) = _
      rw [List.getD_eq_getElem?_getD, List.getElem?_eq_getElem hi', List.getD_eq_getElem?_getD, hy]
      exact hkey _ _ z
    rw [e2] at s1
    exact s1
end
section
variable {X : Cx}
theorem call_sorted_tps : CallR X (.builtin "sorted") (fun xs H Q => ∃ (l : Addr) (ws : List V) (prs : List (List Int)), xs = [.ref l] ∧ H l = some (.lst ws) ∧ Tpi H ws prs ∧ (∀ q ∈ prs, q ≠ []) ∧ ws.length ≤ 10000 ∧
    ∀ (D : Addr) (ws' : List V) (prs' : List (List Int)) (H' : Hp), Same H H' → H D = none → H' D = some (.lst ws') → Tpi H' ws' prs' → prs'.Perm prs → RisL prs' → Q (.ref D) H') := by
  intro pins s σ H xs us Q I r h
  obtain ⟨l, ws, prs, rfl, hl, ha, hne, hn, q⟩ := h
  obtain ⟨u, rfl, ru⟩ := vals1 r
  cases ru
  obtain ⟨its, rv, pl, hz⟩ := I.list (SqL.of hl)
  have lv : ws.length = its.length := rv.length
  have lp : ws.length = prs.length := Paired.length ha
  have isp : ∀ {t : Shared}, (∀ b o, s.heap.get? b = some o → t.heap.get? b = some o) → Paired (IsTp t.heap) its prs := by
    intro t kp
    refine Paired.of_get (by omega) fun j v y hv hy => ?_
    have hj : j < its.length := (List.getElem?_eq_some_iff.mp hv).1
    have hj' : j < ws.length := by omega
    obtain ⟨c, e1, a, e2, e3⟩ := Paired.get' (i := j) (x := ws[j]) ha (by simp [hj'])
    rw [hy] at e1
    cases e1
    obtain ⟨w', e4, e5⟩ := rv.get (i := j) (x := ws[j]) (by simp [hj'])
    rw [hv] at e4
    cases e4
    rw [e2] at e5
    have e5 : v = Value.ref a := e5
    obtain ⟨jt, r3, ⟨ot, g1, g2, n, g3⟩, _⟩ := I.tuple (SqT.of e3)
    exact ⟨a, ot, jt, n, e5, kp _ _ g1, g2, g3, r3⟩
  refine Calls.call_function_entry kind_sorted plain_sorted entry_sorted (args_sorted1 _) ?_
  unfold Builtin.«sorted»
  refine wpAny_bind (m := checkCount "sorted" 1 1 _) (wpAny_pure ?_)
  have sl : (1000000 : Nat) < sizeLine := by decide
  refine wpAny_bind (collect_list pl.isList ?_)
  refine wpAny_bind (wpAny_newList ?_)
  have hsz : ((s.heap.push (seqObj "list" #[] 0)).update s.heap.objs.size (Obj.mapSeq (· ++ its.toArray))).objs.size = s.heap.objs.size + 1 := by
    rw [Heap.size_update, size_push']
  have hoL : (((s.heap.push (seqObj "list" #[] 0)).update s.heap.objs.size (Obj.mapSeq (· ++ its.toArray))).push (seqObj "list" its.toArray 0)).get? (s.heap.objs.size + 1) = some (seqObj "list" its.toArray 0) := by
    rw [← hsz]; exact Heap.get?_push_size _ rfl
  show wpAny _ _ _ _ _ { s with heap := ((s.heap.push (seqObj "list" #[] 0)).update s.heap.objs.size (Obj.mapSeq (· ++ its.toArray))).push (seqObj "list" its.toArray 0) }
  rw [hsz]
  have k0 : ∀ b o, s.heap.get? b = some o → (((s.heap.push (seqObj "list" #[] 0)).update s.heap.objs.size (Obj.mapSeq (· ++ its.toArray))).push (seqObj "list" its.toArray 0)).get? b = some o := fun b o e => by
    refine Heap.get?_push_of_some _ ?_
    rw [Heap.get?_update_ne _ _ _ _ (Nat.ne_of_lt (Heap.lt_size e))]
    exact Heap.get?_push_of_some _ e
  refine wpAny_bind (wpAny_holding (wpAny_call_entry slot_list_sort ⟨_, hoL, rfl⟩ entry_list_sort (sort_list (Out := OutT prs its) hoL (by omega) (fun h2 => OutT.small (by omega)) (fun _ h => h.len)
    (fun h2 t kp => tp_run (isp fun b o e => kp b o (Nat.ne_of_lt (Nat.lt_succ_of_lt (Heap.lt_size e))) (k0 b o e)) hne h2) fun out ho => ⟨_, rfl, ?_⟩) (args_list_sort _)))
  refine wpAny_pure ⟨_, rfl, ?_⟩
  obtain ⟨c, hDo⟩ := sortedHeap_at (vs := its) (out := out) hoL
  have kp : ∀ b o, s.heap.get? b = some o → (sortedHeap (((s.heap.push (seqObj "list" #[] 0)).update s.heap.objs.size (Obj.mapSeq (· ++ its.toArray))).push (seqObj "list" its.toArray 0)) (s.heap.objs.size + 1) its out).get? b = some o := fun b o e => by
    rw [sortedHeap_old (Nat.ne_of_lt (Nat.lt_succ_of_lt (Heap.lt_size e))) (by rw [size_push', hsz]; exact Nat.lt_succ_of_lt (Nat.lt_succ_of_lt (Heap.lt_size e)))]
    exact k0 b o e
  obtain ⟨p, hp, eo, ris⟩ := ho
  have I1 : Inv X pins σ H { s with heap := sortedHeap (((s.heap.push (seqObj "list" #[] 0)).update s.heap.objs.size (Obj.mapSeq (· ++ its.toArray))).push (seqObj "list" its.toArray 0)) (s.heap.objs.size + 1) its out } := I.kept (t' := s.toks) kp
  have fp : FpOk X pins H (s.heap.objs.size + 1) := I.newFp fun b o e => Nat.lt_succ_of_lt (Heap.lt_size e)
  have lt : ∀ i ∈ p, i < its.length := fun i hi => by
    have := hp.mem_iff.mp hi
    simpa using this
  have vals : Vals (p.map fun i => ws.getD i .non) out.toList := by
    rw [eo]
    refine Paired.of_map fun i hi => ?_
    have hi' := lt i hi
    obtain ⟨w', e4, e5⟩ := rv.get (i := i) (x := ws[i]'(by omega)) (by simp [lv, hi'])
    have a1 : ws.getD i .non = ws[i]'(by omega) := by simp [lv, hi']
    have a2 : its.getD i Value.none = w' := by rw [List.getD_eq_getElem?_getD, e4]; rfl
    rw [a1, a2]
    exact e5
  have new : ObjOk X.prog X.w (upd H (s.heap.objs.size + 1) (.lst (p.map fun i => ws.getD i .non))) (sortedHeap (((s.heap.push (seqObj "list" #[] 0)).update s.heap.objs.size (Obj.mapSeq (· ++ its.toArray))).push (seqObj "list" its.toArray 0)) (s.heap.objs.size + 1) its out) (s.heap.objs.size + 1) (.lst (p.map fun i => ws.getD i .non)) := by
    refine ⟨?_, out.toList, c, vals, by simpa using hDo⟩
    rw [List.length_map, hp.length_eq, List.length_range]
    omega
  refine ⟨.ref (s.heap.objs.size + 1), _, I1.adopt fp new, rfl, q _ _ (p.map fun i => prs.getD i []) _ (Same.upd fp.1) fp.1 upd_same (Paired.of_map fun i hi => ?_) ?_ ris⟩
  · have hi' := lt i hi
    obtain ⟨c, e1, a, e2, e3⟩ := Paired.get' (i := i) (x := ws[i]'(by omega)) ha (by simp [lv, hi'])
    have a1 : ws.getD i .non = ws[i]'(by omega) := by simp [lv, hi']
    have a2 : prs.getD i [] = c := by rw [List.getD_eq_getElem?_getD, e1]; rfl
    rw [a1, a2]
    exact ⟨a, e2, by rw [upd_ne (ne_of_none e3 fp.1)]; exact e3⟩
  · have e : (List.range its.length).map (fun i => prs.getD i []) = prs := by
      apply List.ext_getElem
      · simp
        omega
      · intro i h1 h2
        simp [h2]
    have := hp.map fun i => prs.getD i []
    rw [e] at this
    exact this
end
end L2

namespace L2
open PySem PySem.Spec PyProof.Rows
section
variable {X : Cx} {tg : Expr}
end
end L2

namespace L2
open PySem PySem.Spec PyProof.Rows
section
variable {X : Cx} {N : List Str} {src : List (Option Nat)} {scope : Scope} {cl : List (Str × Addr)} {z : Str} {pins : List (Addr × Obj)} {σ : St} {H : Hp} {s : Shared}
end
end L2

namespace L2
open PySem PySem.Calls PySem.Spec PyProof.Rows
end L2

namespace L2
open PySem PySem.Calls PySem.Spec PyProof.Rows PySem.W
section
variable {X : Cx} {pos : Pos}
variable {b₀ : Stmt} {sts suite : List Stmt} {i : Nat} {n c : Str} {pc hpos : Pos} {W : Addr} {tb : XK → TS} {th : TS}
end
section
variable {X : Cx}
def rEqTN (K : PySem.W.Frag) : R2 := fun x y H Q => ∃ a b xs, x = .ref a ∧ y = .ref b ∧ SqT K H a xs ∧ SqT K H b [] ∧ Q (.bl xs.isEmpty) H
theorem op_eqTN (hu : X.A.units < cLine) : OpR X (compareOp .Eq) (rEqTN X.K) := by
  intro pins s σ H x y v u Q I rx ry h
  obtain ⟨a, b, xs, rfl, rfl, ha, hb, q⟩ := h
  cases rx
  cases ry
  obtain ⟨its, r1, p1, _⟩ := I.tuple ha
  obtain ⟨its2, r2, p2, _⟩ := I.tuple hb
  have e2 : its2 = [] := by
    have := r2.length
    exact List.length_eq_zero_iff.mp this.symm
  subst e2
  refine SeqAt.eq_tupleAt (e := fun _ => true) p1 p2 hu (fun j h1 h2 => absurd h2 (by simp)) ⟨.bl _, H, I, rfl, ?_⟩
  have e : xs.isEmpty = its.isEmpty := by
    have := r1.length
    cases xs <;> cases its <;> first | rfl | cases this
  rw [e] at q
  cases its with
  | nil => simpa using q
  | cons x r => simpa using q
end
end L2

namespace L2
open PySem PySem.Calls PySem.Spec PyProof.Rows
section
variable {X : Cx}
end
end L2

namespace PySem.SeqAt
open AutoSeq1 (wpAny_loadPart')
open MeetsSeq
section
variable {A : Around} {s : Shared}
end
end PySem.SeqAt
namespace L2
open PySem PySem.Calls PySem.Spec PyProof.Rows
section
variable {X : Cx}
end
end L2

namespace L2
open PySem PySem.Calls PySem.Spec PyProof.Rows
inductive Tr where
  | non | int (i : Int) | str (x : Str) | tup (l : List Tr) | lst (l : List Tr)
inductive IsV (K : PySem.W.Frag) (H : Hp) (R : V → Tr → Prop) : V → Tr → Prop where
  | non : IsV K H R .non .non
  | bl (b : Bool) : IsV K H R (.bl b) (.int (if b then 1 else 0))
  | int (i : Int) : IsV K H R (.int i) (.int i)
  | str (x : Str) : IsV K H R (.str x) (.str x)
  | tup {a : Addr} {xs : List V} {ts : List Tr} (q : SqT K H a xs) (p : Paired R xs ts) : IsV K H R (.ref a) (.tup ts)
  | lst {a : Addr} {xs : List V} {ts : List Tr} (q : SqL K H a xs) (p : Paired R xs ts) : IsV K H R (.ref a) (.lst ts)
def Is (K : PySem.W.Frag) (H : Hp) : Nat → V → Tr → Prop
  | 0 => IsV K H fun _ _ => False
  | d + 1 => IsV K H (Is K H d)
theorem Is.int {K : PySem.W.Frag} {H : Hp} (i : Int) : ∀ {d : Nat}, Is K H d (.int i) (.int i)
  | 0 => IsV.int i
  | _ + 1 => IsV.int i
theorem Is.tup {K : PySem.W.Frag} {H : Hp} {d : Nat} {a : Addr} {xs : List V} {ts : List Tr} (q : SqT K H a xs) (p : Paired (Is K H d) xs ts) : Is K H (d + 1) (.ref a) (.tup ts) := IsV.tup q p
theorem Is.lst {K : PySem.W.Frag} {H : Hp} {d : Nat} {a : Addr} {xs : List V} {ts : List Tr} (q : SqL K H a xs) (p : Paired (Is K H d) xs ts) : Is K H (d + 1) (.ref a) (.lst ts) := IsV.lst q p
theorem is_ints {K : PySem.W.Frag} {H : Hp} {d : Nat} : ∀ ns : List Int, Paired (Is K H d) (ns.map V.int) (ns.map Tr.int)
  | [] => .nil
  | n :: r => .cons (Is.int n) (is_ints r)
def tInts (ns : List Int) : List Tr := ns.map Tr.int
def tPr (q : Int × Int) : Tr := .tup [.int q.1, .int q.2]
def tPrs (l : List (Int × Int)) : List Tr := l.map tPr
theorem is_ars {K : PySem.W.Frag} {H : Hp} {d : Nat} {ws : List V} {prs : List (Int × Int)} (h : Ars H ws prs) : Paired (Is K H (d + 1)) ws (tPrs prs) := by
  induction h with
  | nil => exact .nil
  | cons a _ ih =>
    obtain ⟨r, rfl, e⟩ := a
    exact .cons (Is.tup (SqT.of e) (.cons (Is.int _) (.cons (Is.int _) .nil))) ih
def tWeb (m : Int) (ars : List (Int × Int)) : Tr := .tup [.int m, .tup (tPrs ars)]
theorem is_web {K : PySem.W.Frag} {H : Hp} {d : Nat} {a t : Addr} {m : Int} {us : List V} {ars : List (Int × Int)} (W : Web H a t m us ars) : Is K H (d + 3) (.ref a) (tWeb m ars) :=
  Is.tup (SqT.of W.top) (.cons (Is.int _) (.cons (Is.tup (SqT.of W.arr) (is_ars W.ars)) .nil))
theorem tr_eqbool_bool (a b : Bool) : ((a == b) = true) ↔ (Tr.int (if a then 1 else 0) = Tr.int (if b then 1 else 0)) := by cases a <;> cases b <;> simp
theorem tr_eqbool_int (a : Bool) (n : Int) : (((if a then (1 : Int) else 0) == n) = true) ↔ (Tr.int (if a then 1 else 0) = Tr.int n) := by simp
theorem tr_eqint_bool (n : Int) (a : Bool) : ((n == (if a then (1 : Int) else 0)) = true) ↔ (Tr.int n = Tr.int (if a then 1 else 0)) := by simp
theorem tr_eqint_int (m n : Int) : ((m == n) = true) ↔ (Tr.int m = Tr.int n) := by simp
theorem tr_eqstr (x y : Str) : ((x == y) = true) ↔ (Tr.str x = Tr.str y) := by simp
theorem tr_nebool_bool (a b : Bool) : ((!(a == b)) = true) ↔ ¬ (Tr.int (if a then 1 else 0) = Tr.int (if b then 1 else 0)) := by cases a <;> cases b <;> simp
theorem tr_nebool_int (a : Bool) (n : Int) : ((!((if a then (1 : Int) else 0) == n)) = true) ↔ ¬ (Tr.int (if a then 1 else 0) = Tr.int n) := by simp
theorem tr_neint_bool (n : Int) (a : Bool) : ((!(n == (if a then (1 : Int) else 0))) = true) ↔ ¬ (Tr.int n = Tr.int (if a then 1 else 0)) := by simp
theorem tr_neint_int (m n : Int) : ((!(m == n)) = true) ↔ ¬ (Tr.int m = Tr.int n) := by simp
theorem tr_nestr (x y : Str) : ((!(x == y)) = true) ↔ ¬ (Tr.str x = Tr.str y) := by simp
section
variable {X : Cx} {pins : List (Addr × Obj)} {s : Shared} {σ : St} {H : Hp} {A : Around} {R : V → Tr → Prop}
theorem sq_excl (I : Inv X pins σ H s) {a : Addr} {xs ys : List V} (h : SqT X.K H a xs) (g : SqL X.K H a ys) : False := by
  obtain ⟨_, _, ⟨o, e, c, _⟩, _⟩ := I.tuple h
  obtain ⟨_, _, ⟨o', n', e', c', _⟩, _⟩ := I.list g
  rw [e] at e'
  cases e'
  rw [c] at c'
  exact absurd c' (by decide)
theorem paired_fn {R' : V → Tr → Prop} (hF : ∀ x t t', R' x t → R' x t' → t = t') : ∀ {xs : List V} {ts ts' : List Tr}, Paired R' xs ts → Paired R' xs ts' → ts = ts'
  | _, _, _, .nil, .nil => rfl
  | _, _, _, .cons a r, .cons b q => by rw [hF _ _ _ a b, paired_fn hF r q]
theorem isv_fn (I : Inv X pins σ H s) (hF : ∀ x t t', R x t → R x t' → t = t') {x : V} {t t' : Tr} (h : IsV X.K H R x t) (g : IsV X.K H R x t') : t = t' := by
  cases h with
  | non => cases g; rfl
  | bl b => cases g; rfl
  | int i => cases g; rfl
  | str z => cases g; rfl
  | tup q p =>
    cases g with
    | tup q' p' =>
      cases I.tuple_inj q q'
      rw [paired_fn hF p p']
    | lst q' p' => exact (sq_excl I q q').elim
  | lst q p =>
    cases g with
    | lst q' p' =>
      cases I.list_inj q q'
      rw [paired_fn hF p p']
    | tup q' p' => exact (sq_excl I q' q).elim
theorem is_fn (I : Inv X pins σ H s) : ∀ {d : Nat} {x : V} {t t' : Tr}, Is X.K H d x t → Is X.K H d x t' → t = t'
  | 0, _, _, _, h, g => isv_fn I (fun _ _ _ z _ => z.elim) h g
  | d + 1, _, _, _, h, g => isv_fn (R := Is X.K H d) I (fun _ _ _ a b => is_fn I a b) h g
theorem items_eq (hR : ∀ x y t t' v u, R x t → R y t' → RelV x v → RelV y u → ∃ b, (b = true ↔ t = t') ∧ SeqAt.EqAt A s v u b) {xs ys : List V} {its jts : List Value} {ts ts' : List Tr} (r1 : Vals xs its) (r2 : Vals ys jts) (p1 : Paired R xs ts) (p2 : Paired R ys ts') :
    ∃ e : Nat → Bool, (∀ j (h1 : j < its.toArray.size) (h2 : j < jts.toArray.size), SeqAt.EqAt A s its.toArray[j] jts.toArray[j] (e j)) ∧ ∀ j, j < ts.length → j < ts'.length → (e j = true ↔ ts[j]? = ts'[j]?) := by
  have l1 : xs.length = its.length := r1.length
  have l2 : ys.length = jts.length := r2.length
  have l3 : xs.length = ts.length := Paired.length p1
  have l4 : ys.length = ts'.length := Paired.length p2
  have ex : ∀ (j : Nat) (h1 : j < its.toArray.size) (h2 : j < jts.toArray.size), ∃ b, (b = true ↔ ts[j]? = ts'[j]?) ∧ SeqAt.EqAt A s its.toArray[j] jts.toArray[j] b := by
    intro j h1 h2
    have h1' : j < its.length := by simpa using h1
    have h2' : j < jts.length := by simpa using h2
    obtain ⟨v1, e1, q1⟩ := r1.get (i := j) (x := xs[j]) (by simp [show j < xs.length by omega])
    obtain ⟨v2, e2, q2⟩ := r2.get (i := j) (x := ys[j]) (by simp [show j < ys.length by omega])
    obtain ⟨t1, e3, q3⟩ := Paired.get' (i := j) (x := xs[j]) p1 (by simp [show j < xs.length by omega])
    obtain ⟨t2, e4, q4⟩ := Paired.get' (i := j) (x := ys[j]) p2 (by simp [show j < ys.length by omega])
    have e1' : its[j] = v1 := by simpa [h1'] using e1
    have e2' : jts[j] = v2 := by simpa [h2'] using e2
    obtain ⟨b, hb, he⟩ := hR _ _ _ _ _ _ q3 q4 q1 q2
    refine ⟨b, ?_, ?_⟩
    · rw [e3, e4, hb]
      simp
    · rw [List.getElem_toArray, List.getElem_toArray, e1', e2']
      exact he
  classical
  refine ⟨fun j => if h : j < its.toArray.size ∧ j < jts.toArray.size then Classical.choose (ex j h.1 h.2) else false, fun j h1 h2 => ?_, fun j h1 h2 => ?_⟩
  · dsimp only
    rw [dif_pos (⟨h1, h2⟩ : j < its.toArray.size ∧ j < jts.toArray.size)]
    exact (Classical.choose_spec (ex j h1 h2)).2
  · have k1 : j < its.toArray.size := by rw [List.size_toArray]; omega
    have k2 : j < jts.toArray.size := by rw [List.size_toArray]; omega
    dsimp only
    rw [dif_pos (⟨k1, k2⟩ : j < its.toArray.size ∧ j < jts.toArray.size)]
    exact (Classical.choose_spec (ex j k1 k2)).1
theorem all_iff {e : Nat → Bool} {ts ts' : List Tr} {n n' : Nat} (l : ts.length = n) (l' : ts'.length = n') (he : ∀ j, j < ts.length → j < ts'.length → (e j = true ↔ ts[j]? = ts'[j]?)) : ((List.range (min n n')).all e && n == n') = true ↔ ts = ts' := by
  subst l l'
  rw [Bool.and_eq_true, beq_iff_eq, List.all_eq_true]
  constructor
  · rintro ⟨h, hl⟩
    refine List.ext_getElem? fun j => ?_
    by_cases hj : j < ts.length
    · exact (he j hj (by omega)).mp (h j (by rw [List.mem_range]; omega))
    · rw [List.getElem?_eq_none (by omega), List.getElem?_eq_none (by omega)]
  · rintro rfl
    refine ⟨fun j hj => ?_, rfl⟩
    rw [List.mem_range] at hj
    exact (he j (by omega) (by omega)).mpr rfl
theorem len_of {xs : List V} {its : List Value} {ts : List Tr} (r : Vals xs its) (p : Paired R xs ts) : ts.length = its.toArray.size := by
  rw [List.size_toArray, ← r.length, Paired.length p]
section
variable (hu : A.units < cLine) (I : Inv X pins σ H s) (hR : ∀ x y t t' v u, R x t → R y t' → RelV x v → RelV y u → ∃ b, (b = true ↔ t = t') ∧ SeqAt.EqAt A.in1 s v u b) (hF : ∀ x t t', R x t → R x t' → t = t')
include hu I hR hF
theorem rcat_tup {a b : Addr} {xs ys : List V} {ts ts' : List Tr} (q1 : SqT X.K H a xs) (q2 : SqT X.K H b ys) (p1 : Paired R xs ts) (p2 : Paired R ys ts') : ∃ k, (k = true ↔ Tr.tup ts = Tr.tup ts') ∧ SeqAt.RcAt A s (.ref a) (.ref b) k := by
  obtain ⟨its, r1, pp1, _⟩ := I.tuple q1
  obtain ⟨jts, r2, pp2, _⟩ := I.tuple q2
  obtain ⟨e, he, hi⟩ := items_eq hR r1 r2 p1 p2
  refine ⟨_, ?_, SeqAt.RcAt.tuples pp1 pp2 hu he⟩
  rw [all_iff (len_of r1 p1) (len_of r2 p2) hi, Tr.tup.injEq]
theorem rcneat_tup {a b : Addr} {xs ys : List V} {ts ts' : List Tr} (q1 : SqT X.K H a xs) (q2 : SqT X.K H b ys) (p1 : Paired R xs ts) (p2 : Paired R ys ts') : ∃ k, (k = true ↔ ¬ Tr.tup ts = Tr.tup ts') ∧ SeqAt.RcNeAt A s (.ref a) (.ref b) k := by
  obtain ⟨its, r1, pp1, _⟩ := I.tuple q1
  obtain ⟨jts, r2, pp2, _⟩ := I.tuple q2
  obtain ⟨e, he, hi⟩ := items_eq hR r1 r2 p1 p2
  refine ⟨_, ?_, SeqAt.RcNeAt.tuples pp1 pp2 hu he⟩
  rw [Tr.tup.injEq, ← all_iff (len_of r1 p1) (len_of r2 p2) hi]
  cases ((List.range (min its.toArray.size jts.toArray.size)).all e && its.toArray.size == jts.toArray.size) <;> simp
theorem rcat_lst {a b : Addr} {xs ys : List V} {ts ts' : List Tr} (q1 : SqL X.K H a xs) (q2 : SqL X.K H b ys) (p1 : Paired R xs ts) (p2 : Paired R ys ts') : ∃ k, (k = true ↔ Tr.lst ts = Tr.lst ts') ∧ SeqAt.RcAt A s (.ref a) (.ref b) k := by
  obtain ⟨its, r1, pp1, _⟩ := I.list q1
  obtain ⟨jts, r2, pp2, _⟩ := I.list q2
  obtain ⟨e, he, hi⟩ := items_eq hR r1 r2 p1 p2
  have l1 := len_of r1 p1
  have l2 := len_of r2 p2
  by_cases c : its.toArray.size = jts.toArray.size
  · refine ⟨_, ?_, SeqAt.RcAt.lists pp1.isList pp2.isList c hu he⟩
    have := all_iff l1 l2 hi
    rw [c, Nat.min_self, beq_self_eq_true, Bool.and_true] at this
    rw [c, this, Tr.lst.injEq]
  · refine ⟨false, ?_, SeqAt.RcAt.lists_lengths pp1.isList pp2.isList (by simpa using c) hu⟩
    simp only [Bool.false_eq_true, Tr.lst.injEq, false_iff]
    exact fun z => c (by rw [← l1, ← l2, z])
theorem rcneat_lst {a b : Addr} {xs ys : List V} {ts ts' : List Tr} (q1 : SqL X.K H a xs) (q2 : SqL X.K H b ys) (p1 : Paired R xs ts) (p2 : Paired R ys ts') : ∃ k, (k = true ↔ ¬ Tr.lst ts = Tr.lst ts') ∧ SeqAt.RcNeAt A s (.ref a) (.ref b) k := by
  obtain ⟨its, r1, pp1, _⟩ := I.list q1
  obtain ⟨jts, r2, pp2, _⟩ := I.list q2
  obtain ⟨e, he, hi⟩ := items_eq hR r1 r2 p1 p2
  have l1 := len_of r1 p1
  have l2 := len_of r2 p2
  by_cases c : its.toArray.size = jts.toArray.size
  · refine ⟨_, ?_, SeqAt.RcNeAt.lists pp1.isList pp2.isList c hu he⟩
    have := all_iff l1 l2 hi
    rw [c, Nat.min_self, beq_self_eq_true, Bool.and_true] at this
    rw [c, Tr.lst.injEq, ← this]
    cases (List.range jts.toArray.size).all e <;> simp
  · refine ⟨true, ?_, SeqAt.RcNeAt.lists_lengths pp1.isList pp2.isList (by simpa using c) hu⟩
    simp only [Tr.lst.injEq, true_iff]
    exact fun z => c (by rw [← l1, ← l2, z])
theorem eqat_tup {a b : Addr} {xs ys : List V} {ts ts' : List Tr} (q1 : SqT X.K H a xs) (q2 : SqT X.K H b ys) (p1 : Paired R xs ts) (p2 : Paired R ys ts') : ∃ k, (k = true ↔ Tr.tup ts = Tr.tup ts') ∧ SeqAt.EqAt A s (.ref a) (.ref b) k := by
  by_cases c : a = b
  · subst c
    cases I.tuple_inj q1 q2
    rw [paired_fn hF p1 p2]
    exact ⟨true, by simp, SeqAt.EqAt.same _⟩
  · obtain ⟨k, hk, h⟩ := rcat_tup hu I hR hF q1 q2 p1 p2
    exact ⟨k, hk, SeqAt.EqAt.of_refs c h⟩
theorem eqat_lst {a b : Addr} {xs ys : List V} {ts ts' : List Tr} (q1 : SqL X.K H a xs) (q2 : SqL X.K H b ys) (p1 : Paired R xs ts) (p2 : Paired R ys ts') : ∃ k, (k = true ↔ Tr.lst ts = Tr.lst ts') ∧ SeqAt.EqAt A s (.ref a) (.ref b) k := by
  by_cases c : a = b
  · subst c
    cases I.list_inj q1 q2
    rw [paired_fn hF p1 p2]
    exact ⟨true, by simp, SeqAt.EqAt.same _⟩
  · obtain ⟨k, hk, h⟩ := rcat_lst hu I hR hF q1 q2 p1 p2
    exact ⟨k, hk, SeqAt.EqAt.of_refs c h⟩
theorem eqAt_isv {x y : V} {t t' : Tr} {v u : Value} (h : IsV X.K H R x t) (h' : IsV X.K H R y t') (rx : RelV x v) (ry : RelV y u) : ∃ b, (b = true ↔ t = t') ∧ SeqAt.EqAt A s v u b := by
  cases h with
  | non =>
    cases rx
    cases h' with
    | non =>
      cases ry
      exact ⟨_, by simp, SeqAt.EqAt.same _⟩
    | bl b2 =>
      cases ry
      exact ⟨false, by simp, SeqAt.EqAt.none_bool b2⟩
    | int n2 =>
      obtain ⟨w2, rfl⟩ := ry
      exact ⟨false, by simp, SeqAt.EqAt.none_int n2 w2⟩
    | str z2 =>
      obtain ⟨w2, rfl⟩ := ry
      exact ⟨false, by simp, SeqAt.EqAt.none_str z2 w2⟩
    | tup q2 p2 =>
      cases ry
      obtain ⟨its2, r2, pp2, _⟩ := I.tuple q2
      have I2 := pp2
      exact ⟨false, by simp, SeqAt.EqAt.none_tuple I2 hu⟩
    | lst q2 p2 =>
      cases ry
      obtain ⟨its2, r2, pp2, _⟩ := I.list q2
      have I2 := pp2.isList
      exact ⟨false, by simp, SeqAt.EqAt.none_list I2 hu⟩
  | bl b1 =>
    cases rx
    cases h' with
    | non =>
      cases ry
      exact ⟨false, by simp, SeqAt.EqAt.bool_none b1⟩
    | bl b2 =>
      cases ry
      exact ⟨_, tr_eqbool_bool b1 b2, SeqAt.EqAt.bool_bool b1 b2⟩
    | int n2 =>
      obtain ⟨w2, rfl⟩ := ry
      exact ⟨_, tr_eqbool_int b1 n2, SeqAt.EqAt.bool_int b1 n2 w2⟩
    | str z2 =>
      obtain ⟨w2, rfl⟩ := ry
      exact ⟨false, by simp, SeqAt.EqAt.bool_str b1 z2 w2⟩
    | tup q2 p2 =>
      cases ry
      obtain ⟨its2, r2, pp2, _⟩ := I.tuple q2
      have I2 := pp2
      exact ⟨false, by simp, SeqAt.EqAt.bool_tuple b1 I2 hu⟩
    | lst q2 p2 =>
      cases ry
      obtain ⟨its2, r2, pp2, _⟩ := I.list q2
      have I2 := pp2.isList
      exact ⟨false, by simp, SeqAt.EqAt.bool_list b1 I2 hu⟩
  | int n1 =>
    obtain ⟨w1, rfl⟩ := rx
    cases h' with
    | non =>
      cases ry
      exact ⟨false, by simp, SeqAt.EqAt.int_none n1 w1⟩
    | bl b2 =>
      cases ry
      exact ⟨_, tr_eqint_bool n1 b2, SeqAt.EqAt.int_bool n1 w1 b2⟩
    | int n2 =>
      obtain ⟨w2, rfl⟩ := ry
      exact ⟨_, tr_eqint_int n1 n2, SeqAt.EqAt.int_int n1 w1 n2 w2⟩
    | str z2 =>
      obtain ⟨w2, rfl⟩ := ry
      exact ⟨false, by simp, SeqAt.EqAt.int_str n1 w1 z2 w2⟩
    | tup q2 p2 =>
      cases ry
      obtain ⟨its2, r2, pp2, _⟩ := I.tuple q2
      have I2 := pp2
      exact ⟨false, by simp, SeqAt.EqAt.int_tuple n1 w1 I2 hu⟩
    | lst q2 p2 =>
      cases ry
      obtain ⟨its2, r2, pp2, _⟩ := I.list q2
      have I2 := pp2.isList
      exact ⟨false, by simp, SeqAt.EqAt.int_list n1 w1 I2 hu⟩
  | str z1 =>
    obtain ⟨w1, rfl⟩ := rx
    cases h' with
    | non =>
      cases ry
      exact ⟨false, by simp, SeqAt.EqAt.str_none z1 w1⟩
    | bl b2 =>
      cases ry
      exact ⟨false, by simp, SeqAt.EqAt.str_bool z1 w1 b2⟩
    | int n2 =>
      obtain ⟨w2, rfl⟩ := ry
      exact ⟨false, by simp, SeqAt.EqAt.str_int z1 w1 n2 w2⟩
    | str z2 =>
      obtain ⟨w2, rfl⟩ := ry
      exact ⟨_, tr_eqstr z1 z2, SeqAt.EqAt.str_str z1 w1 z2 w2⟩
    | tup q2 p2 =>
      cases ry
      obtain ⟨its2, r2, pp2, _⟩ := I.tuple q2
      have I2 := pp2
      exact ⟨false, by simp, SeqAt.EqAt.str_tuple z1 w1 I2 hu⟩
    | lst q2 p2 =>
      cases ry
      obtain ⟨its2, r2, pp2, _⟩ := I.list q2
      have I2 := pp2.isList
      exact ⟨false, by simp, SeqAt.EqAt.str_list z1 w1 I2 hu⟩
  | tup q1 p1 =>
    cases rx
    cases h' with
    | non =>
      cases ry
      obtain ⟨its1, r1, pp1, _⟩ := I.tuple q1
      have I1 := pp1
      exact ⟨false, by simp, SeqAt.EqAt.tuple_none I1 hu⟩
    | bl b2 =>
      cases ry
      obtain ⟨its1, r1, pp1, _⟩ := I.tuple q1
      have I1 := pp1
      exact ⟨false, by simp, SeqAt.EqAt.tuple_bool b2 I1 hu⟩
    | int n2 =>
      obtain ⟨w2, rfl⟩ := ry
      obtain ⟨its1, r1, pp1, _⟩ := I.tuple q1
      have I1 := pp1
      exact ⟨false, by simp, SeqAt.EqAt.tuple_int n2 w2 I1 hu⟩
    | str z2 =>
      obtain ⟨w2, rfl⟩ := ry
      obtain ⟨its1, r1, pp1, _⟩ := I.tuple q1
      have I1 := pp1
      exact ⟨false, by simp, SeqAt.EqAt.tuple_str z2 w2 I1 hu⟩
    | tup q2 p2 =>
      cases ry
      obtain ⟨its1, r1, pp1, _⟩ := I.tuple q1
      have I1 := pp1
      obtain ⟨its2, r2, pp2, _⟩ := I.tuple q2
      have I2 := pp2
      exact eqat_tup hu I hR hF q1 q2 p1 p2
    | lst q2 p2 =>
      cases ry
      obtain ⟨its1, r1, pp1, _⟩ := I.tuple q1
      have I1 := pp1
      obtain ⟨its2, r2, pp2, _⟩ := I.list q2
      have I2 := pp2.isList
      exact ⟨false, by simp, SeqAt.EqAt.tuple_list I1 I2 hu⟩
  | lst q1 p1 =>
    cases rx
    cases h' with
    | non =>
      cases ry
      obtain ⟨its1, r1, pp1, _⟩ := I.list q1
      have I1 := pp1.isList
      exact ⟨false, by simp, SeqAt.EqAt.list_none I1 hu⟩
    | bl b2 =>
      cases ry
      obtain ⟨its1, r1, pp1, _⟩ := I.list q1
      have I1 := pp1.isList
      exact ⟨false, by simp, SeqAt.EqAt.list_bool b2 I1 hu⟩
    | int n2 =>
      obtain ⟨w2, rfl⟩ := ry
      obtain ⟨its1, r1, pp1, _⟩ := I.list q1
      have I1 := pp1.isList
      exact ⟨false, by simp, SeqAt.EqAt.list_int n2 w2 I1 hu⟩
    | str z2 =>
      obtain ⟨w2, rfl⟩ := ry
      obtain ⟨its1, r1, pp1, _⟩ := I.list q1
      have I1 := pp1.isList
      exact ⟨false, by simp, SeqAt.EqAt.list_str z2 w2 I1 hu⟩
    | tup q2 p2 =>
      cases ry
      obtain ⟨its1, r1, pp1, _⟩ := I.list q1
      have I1 := pp1.isList
      obtain ⟨its2, r2, pp2, _⟩ := I.tuple q2
      have I2 := pp2
      exact ⟨false, by simp, SeqAt.EqAt.list_tuple I1 I2 hu⟩
    | lst q2 p2 =>
      cases ry
      obtain ⟨its1, r1, pp1, _⟩ := I.list q1
      have I1 := pp1.isList
      obtain ⟨its2, r2, pp2, _⟩ := I.list q2
      have I2 := pp2.isList
      exact eqat_lst hu I hR hF q1 q2 p1 p2
theorem rcAt_isv {x y : V} {t t' : Tr} {v u : Value} (h : IsV X.K H R x t) (h' : IsV X.K H R y t') (rx : RelV x v) (ry : RelV y u) : ∃ b, (b = true ↔ t = t') ∧ SeqAt.RcAt A s v u b := by
  cases h with
  | non =>
    cases rx
    cases h' with
    | non =>
      cases ry
      exact ⟨_, by simp, SeqAt.RcAt.none_none⟩
    | bl b2 =>
      cases ry
      exact ⟨false, by simp, SeqAt.RcAt.none_bool b2⟩
    | int n2 =>
      obtain ⟨w2, rfl⟩ := ry
      exact ⟨false, by simp, SeqAt.RcAt.none_int n2 w2⟩
    | str z2 =>
      obtain ⟨w2, rfl⟩ := ry
      exact ⟨false, by simp, SeqAt.RcAt.none_str z2 w2⟩
    | tup q2 p2 =>
      cases ry
      obtain ⟨its2, r2, pp2, _⟩ := I.tuple q2
      have I2 := pp2
      exact ⟨false, by simp, SeqAt.RcAt.none_tuple I2 hu⟩
    | lst q2 p2 =>
      cases ry
      obtain ⟨its2, r2, pp2, _⟩ := I.list q2
      have I2 := pp2.isList
      exact ⟨false, by simp, SeqAt.RcAt.none_list I2 hu⟩
  | bl b1 =>
    cases rx
    cases h' with
    | non =>
      cases ry
      exact ⟨false, by simp, SeqAt.RcAt.bool_none b1⟩
    | bl b2 =>
      cases ry
      exact ⟨_, tr_eqbool_bool b1 b2, SeqAt.RcAt.bool_bool b1 b2⟩
    | int n2 =>
      obtain ⟨w2, rfl⟩ := ry
      exact ⟨_, tr_eqbool_int b1 n2, SeqAt.RcAt.bool_int b1 n2 w2⟩
    | str z2 =>
      obtain ⟨w2, rfl⟩ := ry
      exact ⟨false, by simp, SeqAt.RcAt.bool_str b1 z2 w2⟩
    | tup q2 p2 =>
      cases ry
      obtain ⟨its2, r2, pp2, _⟩ := I.tuple q2
      have I2 := pp2
      exact ⟨false, by simp, SeqAt.RcAt.bool_tuple b1 I2 hu⟩
    | lst q2 p2 =>
      cases ry
      obtain ⟨its2, r2, pp2, _⟩ := I.list q2
      have I2 := pp2.isList
      exact ⟨false, by simp, SeqAt.RcAt.bool_list b1 I2 hu⟩
  | int n1 =>
    obtain ⟨w1, rfl⟩ := rx
    cases h' with
    | non =>
      cases ry
      exact ⟨false, by simp, SeqAt.RcAt.int_none n1 w1⟩
    | bl b2 =>
      cases ry
      exact ⟨_, tr_eqint_bool n1 b2, SeqAt.RcAt.int_bool n1 w1 b2⟩
    | int n2 =>
      obtain ⟨w2, rfl⟩ := ry
      exact ⟨_, tr_eqint_int n1 n2, SeqAt.RcAt.int_int n1 w1 n2 w2⟩
    | str z2 =>
      obtain ⟨w2, rfl⟩ := ry
      exact ⟨false, by simp, SeqAt.RcAt.int_str n1 w1 z2 w2⟩
    | tup q2 p2 =>
      cases ry
      obtain ⟨its2, r2, pp2, _⟩ := I.tuple q2
      have I2 := pp2
      exact ⟨false, by simp, SeqAt.RcAt.int_tuple n1 w1 I2 hu⟩
    | lst q2 p2 =>
      cases ry
      obtain ⟨its2, r2, pp2, _⟩ := I.list q2
      have I2 := pp2.isList
      exact ⟨false, by simp, SeqAt.RcAt.int_list n1 w1 I2 hu⟩
  | str z1 =>
    obtain ⟨w1, rfl⟩ := rx
    cases h' with
    | non =>
      cases ry
      exact ⟨false, by simp, SeqAt.RcAt.str_none z1 w1⟩
    | bl b2 =>
      cases ry
      exact ⟨false, by simp, SeqAt.RcAt.str_bool z1 w1 b2⟩
    | int n2 =>
      obtain ⟨w2, rfl⟩ := ry
      exact ⟨false, by simp, SeqAt.RcAt.str_int z1 w1 n2 w2⟩
    | str z2 =>
      obtain ⟨w2, rfl⟩ := ry
      exact ⟨_, tr_eqstr z1 z2, SeqAt.RcAt.str_str z1 w1 z2 w2⟩
    | tup q2 p2 =>
      cases ry
      obtain ⟨its2, r2, pp2, _⟩ := I.tuple q2
      have I2 := pp2
      exact ⟨false, by simp, SeqAt.RcAt.str_tuple z1 w1 I2 hu⟩
    | lst q2 p2 =>
      cases ry
      obtain ⟨its2, r2, pp2, _⟩ := I.list q2
      have I2 := pp2.isList
      exact ⟨false, by simp, SeqAt.RcAt.str_list z1 w1 I2 hu⟩
  | tup q1 p1 =>
    cases rx
    cases h' with
    | non =>
      cases ry
      obtain ⟨its1, r1, pp1, _⟩ := I.tuple q1
      have I1 := pp1
      exact ⟨false, by simp, SeqAt.RcAt.tuple_none I1 hu⟩
    | bl b2 =>
      cases ry
      obtain ⟨its1, r1, pp1, _⟩ := I.tuple q1
      have I1 := pp1
      exact ⟨false, by simp, SeqAt.RcAt.tuple_bool b2 I1 hu⟩
    | int n2 =>
      obtain ⟨w2, rfl⟩ := ry
      obtain ⟨its1, r1, pp1, _⟩ := I.tuple q1
      have I1 := pp1
      exact ⟨false, by simp, SeqAt.RcAt.tuple_int n2 w2 I1 hu⟩
    | str z2 =>
      obtain ⟨w2, rfl⟩ := ry
      obtain ⟨its1, r1, pp1, _⟩ := I.tuple q1
      have I1 := pp1
      exact ⟨false, by simp, SeqAt.RcAt.tuple_str z2 w2 I1 hu⟩
    | tup q2 p2 =>
      cases ry
      obtain ⟨its1, r1, pp1, _⟩ := I.tuple q1
      have I1 := pp1
      obtain ⟨its2, r2, pp2, _⟩ := I.tuple q2
      have I2 := pp2
      exact rcat_tup hu I hR hF q1 q2 p1 p2
    | lst q2 p2 =>
      cases ry
      obtain ⟨its1, r1, pp1, _⟩ := I.tuple q1
      have I1 := pp1
      obtain ⟨its2, r2, pp2, _⟩ := I.list q2
      have I2 := pp2.isList
      exact ⟨false, by simp, SeqAt.RcAt.tuple_list I1 I2 hu⟩
  | lst q1 p1 =>
    cases rx
    cases h' with
    | non =>
      cases ry
      obtain ⟨its1, r1, pp1, _⟩ := I.list q1
      have I1 := pp1.isList
      exact ⟨false, by simp, SeqAt.RcAt.list_none I1 hu⟩
    | bl b2 =>
      cases ry
      obtain ⟨its1, r1, pp1, _⟩ := I.list q1
      have I1 := pp1.isList
      exact ⟨false, by simp, SeqAt.RcAt.list_bool b2 I1 hu⟩
    | int n2 =>
      obtain ⟨w2, rfl⟩ := ry
      obtain ⟨its1, r1, pp1, _⟩ := I.list q1
      have I1 := pp1.isList
      exact ⟨false, by simp, SeqAt.RcAt.list_int n2 w2 I1 hu⟩
    | str z2 =>
      obtain ⟨w2, rfl⟩ := ry
      obtain ⟨its1, r1, pp1, _⟩ := I.list q1
      have I1 := pp1.isList
      exact ⟨false, by simp, SeqAt.RcAt.list_str z2 w2 I1 hu⟩
    | tup q2 p2 =>
      cases ry
      obtain ⟨its1, r1, pp1, _⟩ := I.list q1
      have I1 := pp1.isList
      obtain ⟨its2, r2, pp2, _⟩ := I.tuple q2
      have I2 := pp2
      exact ⟨false, by simp, SeqAt.RcAt.list_tuple I1 I2 hu⟩
    | lst q2 p2 =>
      cases ry
      obtain ⟨its1, r1, pp1, _⟩ := I.list q1
      have I1 := pp1.isList
      obtain ⟨its2, r2, pp2, _⟩ := I.list q2
      have I2 := pp2.isList
      exact rcat_lst hu I hR hF q1 q2 p1 p2
theorem rcNeAt_isv {x y : V} {t t' : Tr} {v u : Value} (h : IsV X.K H R x t) (h' : IsV X.K H R y t') (rx : RelV x v) (ry : RelV y u) : ∃ b, (b = true ↔ ¬ t = t') ∧ SeqAt.RcNeAt A s v u b := by
  cases h with
  | non =>
    cases rx
    cases h' with
    | non =>
      cases ry
      exact ⟨_, by simp, SeqAt.RcNeAt.none_none⟩
    | bl b2 =>
      cases ry
      exact ⟨true, by simp, SeqAt.RcNeAt.none_bool b2⟩
    | int n2 =>
      obtain ⟨w2, rfl⟩ := ry
      exact ⟨true, by simp, SeqAt.RcNeAt.none_int n2 w2⟩
    | str z2 =>
      obtain ⟨w2, rfl⟩ := ry
      exact ⟨true, by simp, SeqAt.RcNeAt.none_str z2 w2⟩
    | tup q2 p2 =>
      cases ry
      obtain ⟨its2, r2, pp2, _⟩ := I.tuple q2
      have I2 := pp2
      exact ⟨true, by simp, SeqAt.RcNeAt.none_tuple I2 hu⟩
    | lst q2 p2 =>
      cases ry
      obtain ⟨its2, r2, pp2, _⟩ := I.list q2
      have I2 := pp2.isList
      exact ⟨true, by simp, SeqAt.RcNeAt.none_list I2 hu⟩
  | bl b1 =>
    cases rx
    cases h' with
    | non =>
      cases ry
      exact ⟨true, by simp, SeqAt.RcNeAt.bool_none b1⟩
    | bl b2 =>
      cases ry
      exact ⟨_, tr_nebool_bool b1 b2, SeqAt.RcNeAt.bool_bool b1 b2⟩
    | int n2 =>
      obtain ⟨w2, rfl⟩ := ry
      exact ⟨_, tr_nebool_int b1 n2, SeqAt.RcNeAt.bool_int b1 n2 w2⟩
    | str z2 =>
      obtain ⟨w2, rfl⟩ := ry
      exact ⟨true, by simp, SeqAt.RcNeAt.bool_str b1 z2 w2⟩
    | tup q2 p2 =>
      cases ry
      obtain ⟨its2, r2, pp2, _⟩ := I.tuple q2
      have I2 := pp2
      exact ⟨true, by simp, SeqAt.RcNeAt.bool_tuple b1 I2 hu⟩
    | lst q2 p2 =>
      cases ry
      obtain ⟨its2, r2, pp2, _⟩ := I.list q2
      have I2 := pp2.isList
      exact ⟨true, by simp, SeqAt.RcNeAt.bool_list b1 I2 hu⟩
  | int n1 =>
    obtain ⟨w1, rfl⟩ := rx
    cases h' with
    | non =>
      cases ry
      exact ⟨true, by simp, SeqAt.RcNeAt.int_none n1 w1⟩
    | bl b2 =>
      cases ry
      exact ⟨_, tr_neint_bool n1 b2, SeqAt.RcNeAt.int_bool n1 w1 b2⟩
    | int n2 =>
      obtain ⟨w2, rfl⟩ := ry
      exact ⟨_, tr_neint_int n1 n2, SeqAt.RcNeAt.int_int n1 w1 n2 w2⟩
    | str z2 =>
      obtain ⟨w2, rfl⟩ := ry
      exact ⟨true, by simp, SeqAt.RcNeAt.int_str n1 w1 z2 w2⟩
    | tup q2 p2 =>
      cases ry
      obtain ⟨its2, r2, pp2, _⟩ := I.tuple q2
      have I2 := pp2
      exact ⟨true, by simp, SeqAt.RcNeAt.int_tuple n1 w1 I2 hu⟩
    | lst q2 p2 =>
      cases ry
      obtain ⟨its2, r2, pp2, _⟩ := I.list q2
      have I2 := pp2.isList
      exact ⟨true, by simp, SeqAt.RcNeAt.int_list n1 w1 I2 hu⟩
  | str z1 =>
    obtain ⟨w1, rfl⟩ := rx
    cases h' with
    | non =>
      cases ry
      exact ⟨true, by simp, SeqAt.RcNeAt.str_none z1 w1⟩
    | bl b2 =>
      cases ry
      exact ⟨true, by simp, SeqAt.RcNeAt.str_bool z1 w1 b2⟩
    | int n2 =>
      obtain ⟨w2, rfl⟩ := ry
      exact ⟨true, by simp, SeqAt.RcNeAt.str_int z1 w1 n2 w2⟩
    | str z2 =>
      obtain ⟨w2, rfl⟩ := ry
      exact ⟨_, tr_nestr z1 z2, SeqAt.RcNeAt.str_str z1 w1 z2 w2⟩
    | tup q2 p2 =>
      cases ry
      obtain ⟨its2, r2, pp2, _⟩ := I.tuple q2
      have I2 := pp2
      exact ⟨true, by simp, SeqAt.RcNeAt.str_tuple z1 w1 I2 hu⟩
    | lst q2 p2 =>
      cases ry
      obtain ⟨its2, r2, pp2, _⟩ := I.list q2
      have I2 := pp2.isList
      exact ⟨true, by simp, SeqAt.RcNeAt.str_list z1 w1 I2 hu⟩
  | tup q1 p1 =>
    cases rx
    cases h' with
    | non =>
      cases ry
      obtain ⟨its1, r1, pp1, _⟩ := I.tuple q1
      have I1 := pp1
      exact ⟨true, by simp, SeqAt.RcNeAt.tuple_none I1 hu⟩
    | bl b2 =>
      cases ry
      obtain ⟨its1, r1, pp1, _⟩ := I.tuple q1
      have I1 := pp1
      exact ⟨true, by simp, SeqAt.RcNeAt.tuple_bool b2 I1 hu⟩
    | int n2 =>
      obtain ⟨w2, rfl⟩ := ry
      obtain ⟨its1, r1, pp1, _⟩ := I.tuple q1
      have I1 := pp1
      exact ⟨true, by simp, SeqAt.RcNeAt.tuple_int n2 w2 I1 hu⟩
    | str z2 =>
      obtain ⟨w2, rfl⟩ := ry
      obtain ⟨its1, r1, pp1, _⟩ := I.tuple q1
      have I1 := pp1
      exact ⟨true, by simp, SeqAt.RcNeAt.tuple_str z2 w2 I1 hu⟩
    | tup q2 p2 =>
      cases ry
      obtain ⟨its1, r1, pp1, _⟩ := I.tuple q1
      have I1 := pp1
      obtain ⟨its2, r2, pp2, _⟩ := I.tuple q2
      have I2 := pp2
      exact rcneat_tup hu I hR hF q1 q2 p1 p2
    | lst q2 p2 =>
      cases ry
      obtain ⟨its1, r1, pp1, _⟩ := I.tuple q1
      have I1 := pp1
      obtain ⟨its2, r2, pp2, _⟩ := I.list q2
      have I2 := pp2.isList
      exact ⟨true, by simp, SeqAt.RcNeAt.tuple_list I1 I2 hu⟩
  | lst q1 p1 =>
    cases rx
    cases h' with
    | non =>
      cases ry
      obtain ⟨its1, r1, pp1, _⟩ := I.list q1
      have I1 := pp1.isList
      exact ⟨true, by simp, SeqAt.RcNeAt.list_none I1 hu⟩
    | bl b2 =>
      cases ry
      obtain ⟨its1, r1, pp1, _⟩ := I.list q1
      have I1 := pp1.isList
      exact ⟨true, by simp, SeqAt.RcNeAt.list_bool b2 I1 hu⟩
    | int n2 =>
      obtain ⟨w2, rfl⟩ := ry
      obtain ⟨its1, r1, pp1, _⟩ := I.list q1
      have I1 := pp1.isList
      exact ⟨true, by simp, SeqAt.RcNeAt.list_int n2 w2 I1 hu⟩
    | str z2 =>
      obtain ⟨w2, rfl⟩ := ry
      obtain ⟨its1, r1, pp1, _⟩ := I.list q1
      have I1 := pp1.isList
      exact ⟨true, by simp, SeqAt.RcNeAt.list_str z2 w2 I1 hu⟩
    | tup q2 p2 =>
      cases ry
      obtain ⟨its1, r1, pp1, _⟩ := I.list q1
      have I1 := pp1.isList
      obtain ⟨its2, r2, pp2, _⟩ := I.tuple q2
      have I2 := pp2
      exact ⟨true, by simp, SeqAt.RcNeAt.list_tuple I1 I2 hu⟩
    | lst q2 p2 =>
      cases ry
      obtain ⟨its1, r1, pp1, _⟩ := I.list q1
      have I1 := pp1.isList
      obtain ⟨its2, r2, pp2, _⟩ := I.list q2
      have I2 := pp2.isList
      exact rcneat_lst hu I hR hF q1 q2 p1 p2
end
theorem eqAt_tr (I : Inv X pins σ H s) : ∀ (d : Nat) {A : Around} {x y : V} {t t' : Tr} {v u : Value}, A.units + d < cLine → Is X.K H d x t → Is X.K H d y t' → RelV x v → RelV y u → ∃ b, (b = true ↔ t = t') ∧ SeqAt.EqAt A s v u b
  | 0, _, _, _, _, _, _, _, hu, h, h', rx, ry => eqAt_isv hu I (fun _ _ _ _ _ _ z _ _ _ => z.elim) (fun _ _ _ z _ => z.elim) h h' rx ry
  | d + 1, A, _, _, _, _, _, _, hu, h, h', rx, ry => eqAt_isv (show A.units < cLine by omega) I (fun _ _ _ _ _ _ a b ra rb => eqAt_tr I d (A := A.in1) (show A.units + 1 + d < cLine by omega) a b ra rb) (fun _ _ _ a b => is_fn I a b) h h' rx ry
theorem rcAt_tr (I : Inv X pins σ H s) : ∀ (d : Nat) {A : Around} {x y : V} {t t' : Tr} {v u : Value}, A.units + d < cLine → Is X.K H d x t → Is X.K H d y t' → RelV x v → RelV y u → ∃ b, (b = true ↔ t = t') ∧ SeqAt.RcAt A s v u b
  | 0, _, _, _, _, _, _, _, hu, h, h', rx, ry => rcAt_isv hu I (fun _ _ _ _ _ _ z _ _ _ => z.elim) (fun _ _ _ z _ => z.elim) h h' rx ry
  | d + 1, A, _, _, _, _, _, _, hu, h, h', rx, ry => rcAt_isv (show A.units < cLine by omega) I (fun _ _ _ _ _ _ a b ra rb => eqAt_tr I d (A := A.in1) (show A.units + 1 + d < cLine by omega) a b ra rb) (fun _ _ _ a b => is_fn I a b) h h' rx ry
theorem rcNeAt_tr (I : Inv X pins σ H s) : ∀ (d : Nat) {A : Around} {x y : V} {t t' : Tr} {v u : Value}, A.units + d < cLine → Is X.K H d x t → Is X.K H d y t' → RelV x v → RelV y u → ∃ b, (b = true ↔ ¬ t = t') ∧ SeqAt.RcNeAt A s v u b
  | 0, _, _, _, _, _, _, _, hu, h, h', rx, ry => rcNeAt_isv hu I (fun _ _ _ _ _ _ z _ _ _ => z.elim) (fun _ _ _ z _ => z.elim) h h' rx ry
  | d + 1, A, _, _, _, _, _, _, hu, h, h', rx, ry => rcNeAt_isv (show A.units < cLine by omega) I (fun _ _ _ _ _ _ a b ra rb => eqAt_tr I d (A := A.in1) (show A.units + 1 + d < cLine by omega) a b ra rb) (fun _ _ _ a b => is_fn I a b) h h' rx ry
end
section
variable {X : Cx}
def rEqTr (K : PySem.W.Frag) (d : Nat) : R2 := fun x y H Q => ∃ t t', Is K H d x t ∧ Is K H d y t' ∧ ∀ b, (b = true ↔ t = t') → Q (.bl b) H
def rNeTr (K : PySem.W.Frag) (d : Nat) : R2 := fun x y H Q => ∃ t t', Is K H d x t ∧ Is K H d y t' ∧ ∀ b, (b = true ↔ ¬ t = t') → Q (.bl b) H
theorem op_eqTr (d : Nat) (hu : X.A.units + d < cLine) : OpR X (compareOp .Eq) (rEqTr X.K d) := by
  intro pins s σ H x y v u Q I rx ry h
  obtain ⟨t, t', h1, h2, q⟩ := h
  obtain ⟨b, hb, r⟩ := rcAt_tr I d hu h1 h2 rx ry
  exact r _ _ _ _ ⟨.bl b, H, I, rfl, q b hb⟩
theorem op_neTr (d : Nat) (hu : X.A.units + d < cLine) : OpR X (compareOp .NotEq) (rNeTr X.K d) := by
  intro pins s σ H x y v u Q I rx ry h
  obtain ⟨t, t', h1, h2, q⟩ := h
  obtain ⟨b, hb, r⟩ := rcNeAt_tr I d hu h1 h2 rx ry
  exact r _ _ _ _ ⟨.bl b, H, I, rfl, q b hb⟩
end
end L2

namespace L2
open PySem PySem.Calls PySem.Spec PyProof.Rows
section
variable {X : Cx}
end
end L2
namespace PySem
open PySem.Spec PyProof.Rows
section
variable {prog : Program} {w : World} {A : Around} {E : Value → Shared → Prop} {s : Shared}
end
end PySem
namespace L2
open PySem PySem.Calls PySem.Spec PyProof.Rows
section
variable {X : Cx}
theorem boot_tset : bootBuiltins "set" = some (.type "set") := by decide +kernel
end
end L2

namespace L2
open PySem PySem.Calls PySem.Spec PyProof.Rows
section
variable {X : Cx}
end
end L2

namespace L2
open PySem PySem.Calls PySem.Spec PyProof.Rows
section
variable {X : Cx}
end
end L2

namespace L2
open PySem PySem.Calls PySem.Spec PyProof.Rows PySem.W
section
variable {X : Cx} {e : Expr} {pos : Pos} {te : TE}
end
end L2

namespace PySem
section
variable {prog : Program} {w : World} {A : Around} {R : Result → Shared → Prop} {I : Addr} {fp wr : List Addr} {G : Array GenState → Array GenState → Prop} {n : Nat} {P : Nat → Value → Prop} {St : Nat → Shared → Prop}
variable {K : Type} [DecidableEq K] {knd : KeyKind prog w K}
end
section
variable {prog : Program} {w : World} {A : Around} {E : Value → Shared → Prop} {s : Shared}
variable {K : Type} [DecidableEq K] {knd : KeyKind prog w K}
end
end PySem
namespace L2
open PySem PySem.Calls PySem.Spec PyProof.Rows PySem.W
section
variable {X : Cx}
end
end L2

namespace PySem
section
variable {prog : Program} {w : World} {A : Around} {R : Result → Shared → Prop} {I : Addr} {fp wr : List Addr} {G : Array GenState → Array GenState → Prop} {n : Nat} {P : Nat → Value → Prop} {St : Nat → Shared → Prop}
variable {K : Type} [DecidableEq K] {knd : KeyKind prog w K}
end
section
variable {prog : Program} {w : World} {A : Around} {E : Value → Shared → Prop} {s : Shared}
variable {K : Type} [DecidableEq K] {knd : KeyKind prog w K}
end
end PySem
namespace L2
open PySem PySem.Calls PySem.Spec PyProof.Rows PySem.W
section
variable {X : Cx}
end
end L2

namespace L2
open PySem PySem.Spec PyProof.Rows
section
variable {X : Cx} {es : List Expr} {kt : Nat} {tp : Pos}
end
section
variable {X : Cx}
end
end L2

namespace L2
open PySem PySem.Calls PySem.Spec PyProof.Rows PySem.W
section
variable {prog : Program} {w : World} {A : Around} {E : Value → Shared → Prop} {s : Shared}
end
end L2

namespace L2
open PySem PySem.Calls PySem.Spec PyProof.Rows PySem.W
section
variable {X : Cx} {pins : List (Addr × Obj)} {σ : St} {H : Hp} {s : Shared}
end
end L2
namespace L2.Hd
open L2 PySem PySem.Calls PySem.Spec PyProof.Rows PySem.W
section
variable {X : Cx} {tg : Expr}
end
section
variable {X : Cx} {N : List Str} {src : List (Option Nat)} {scope : Scope} {cl : List (Str × Addr)} {pins : List (Addr × Obj)} {σ : St} {H : Hp} {s : Shared}
end
end L2.Hd

namespace L2
open PySem PySem.Calls PySem.Spec PyProof.Rows PySem.W
section
variable {prog : Program} {w : World} {A : Around} {y : Addr} {ob : Obj}
end
section
variable {X : Cx}
end
end L2
namespace PySem
open PySem.Spec PyProof.Rows
section
variable {prog : Program} {w : World} {A : Around} {E : Value → Shared → Prop} {s : Shared} {y : Addr} {ob : Obj}
end
end PySem
namespace L2
open PySem PySem.Calls PySem.Spec PyProof.Rows PySem.W
section
variable {X : Cx}
end
section
variable {X : Cx} {k : Nat} {x : Str} {ps : List Str} {sp : Sp} {p pos : Pos} {e : Expr} {es : List Expr} {t : TA}
end
end L2

namespace L2
open PySem
section
variable {prog : Program} {w : World} {z TI TO i1 i2 : Addr} {f1 f2 : List Addr} {n1 n2 : Nat} {P1 P2 : Nat → Value → Prop} {S1 S2 : Nat → Heap → Prop}
end
section
open PySem.Spec PyProof.Rows
variable {X : Cx} {nm : Str} {tp : Pos}
end
end L2

namespace L2
open PySem PySem.Spec PyProof.Rows
section
variable {prog : Program} {w : World} {A : Around} {R : Result → Shared → Prop} {it B : Addr} {fp wr : List Addr} {n : Nat} {P : Nat → Value → Prop} {St : Nat → Heap → Prop} {dn : Str} {dv : Value} {kf : Nat → Nat} {Ok : Heap → Prop}
end
section
variable {X : Cx}
end
end L2

namespace L2
open PySem PySem.Spec PyProof.Rows
section
variable {X : Cx}
end
end L2

namespace L2
open PySem
theorem pigeon : ∀ (m : Nat) (l : List Nat), l.length < m → ∃ j, j < m ∧ j ∉ l
  | 0, l, h => absurd h (Nat.not_lt_zero _)
  | m + 1, l, h => by
    by_cases c : m ∈ l
    · obtain ⟨j, h1, h2⟩ := pigeon m (l.erase m) (by rw [List.length_erase_of_mem c]; have := List.length_pos_of_mem c; omega)
      exact ⟨j, by omega, fun q => h2 ((List.mem_erase_of_ne (by omega)).mpr q)⟩
    · exact ⟨m, by omega, c⟩
def Bel (l : List Nat) (j r : Nat) : Prop := r ≤ l.length ∧ (∀ i x, l[i]? = some x → i < r → x < j) ∧ ∀ i x, l[i]? = some x → r ≤ i → j ≤ x
theorem rise_lt {l : List Nat} (h : l.Pairwise (· < ·)) {i k x y : Nat} (hi : l[i]? = some x) (hk : l[k]? = some y) (c : i < k) : x < y := by
  obtain ⟨a1, a2⟩ := List.getElem?_eq_some_iff.mp hi
  obtain ⟨b1, b2⟩ := List.getElem?_eq_some_iff.mp hk
  have := List.pairwise_iff_getElem.mp h i k a1 b1 c
  rw [a2, b2] at this
  exact this
theorem below_go {xs : Array Nat} (hr : xs.toList.Pairwise (· < ·)) (j : Nat) : ∀ (fuel lo hi : Nat), lo ≤ hi → hi ≤ xs.size → hi - lo ≤ fuel →
    (∀ i x, xs.toList[i]? = some x → i < lo → x < j) → (∀ i x, xs.toList[i]? = some x → hi ≤ i → j ≤ x) → Bel xs.toList j (SetTable.below.go xs j fuel lo hi)
  | 0, lo, hi, h1, h2, h3, a, b => by
    have e : lo = hi := by omega
    subst e
    unfold SetTable.below.go
    exact ⟨by simpa using h2, a, b⟩
  | fuel + 1, lo, hi, h1, h2, h3, a, b => by
    unfold SetTable.below.go
    by_cases c : lo < hi
    · rw [if_pos c]
      have hm : (lo + hi) / 2 < xs.size := by omega
      have em : xs.toList[(lo + hi) / 2]? = some xs[(lo + hi) / 2] := by simp [hm]
      have eg : xs.getD ((lo + hi) / 2) j = xs[(lo + hi) / 2] := by simp [Array.getD, hm]
      dsimp only
      rw [eg]
      by_cases d : xs[(lo + hi) / 2] < j
      · rw [if_pos d]
        refine below_go hr j fuel _ hi (by omega) h2 (by omega) (fun i x e q => ?_) b
        rcases Nat.lt_or_eq_of_le (Nat.le_of_lt_succ q) with q | q
        · have := rise_lt hr e em q
          omega
        · subst q
          rw [em] at e
          cases e
          exact d
      · rw [if_neg d]
        refine below_go hr j fuel lo _ (by omega) (by omega) (by omega) a fun i x e q => ?_
        rcases Nat.lt_or_eq_of_le q with q | q
        · have := rise_lt hr em e q
          omega
        · subst q
          rw [em] at e
          cases e
          omega
    · rw [if_neg c]
      have e : lo = hi := by omega
      subst e
      exact ⟨by simpa using h2, a, b⟩
theorem below_bel {xs : Array Nat} (hr : xs.toList.Pairwise (· < ·)) (j : Nat) : Bel xs.toList j (SetTable.below xs j) :=
  below_go hr j _ _ _ (Nat.zero_le _) (Nat.le_refl _) (by omega) (fun _ _ _ q => absurd q (Nat.not_lt_zero _)) fun i x e q => by
    have := (List.getElem?_eq_some_iff.mp e).1
    simp at this
    omega
theorem put_rise {xs : Array Nat} (hr : xs.toList.Pairwise (· < ·)) {j : Nat} (hj : j ∉ xs.toList) : (SetTable.insertAt xs (SetTable.below xs j) j).toList.Pairwise (· < ·) := by
  obtain ⟨h1, h2, h3⟩ := below_bel hr j
  rw [SetTable.toList_insertAt]
  generalize SetTable.below xs j = r at *
  have e : xs.toList.take r ++ xs.toList.drop r = xs.toList := List.take_append_drop r _
  rw [← e] at hr
  obtain ⟨p1, p2, p3⟩ := List.pairwise_append.mp hr
  have t1 : ∀ x ∈ xs.toList.take r, x < j := fun x hx => by
    obtain ⟨i, hi, ei⟩ := List.mem_take_iff_getElem.mp hx
    exact h2 i x (by rw [List.getElem?_eq_getElem (by omega), ei]) (by omega)
  have t2 : ∀ x ∈ xs.toList.drop r, j < x := fun x hx => by
    obtain ⟨i, hi, ei⟩ := List.mem_drop_iff_getElem.mp hx
    have := h3 (r + i) x (by rw [List.getElem?_eq_getElem (by omega)]; simpa [Nat.add_comm] using ei) (by omega)
    have ne : x ≠ j := fun q => hj (by subst q; exact List.mem_of_mem_drop hx)
    omega
  refine List.pairwise_append.mpr ⟨p1, List.pairwise_cons.mpr ⟨t2, p2⟩, fun a ha b hb => ?_⟩
  rcases List.mem_cons.mp hb with rfl | hb
  · exact t1 a ha
  · exact p3 a ha b hb
theorem slot_empty {t : SetTable} (hr : t.place.toList.Pairwise (· < ·)) (hd : t.dummies = #[]) {j : Nat} : (j ∉ t.place.toList → t.slot j = .empty) ∧ (t.slot j = .empty → j ∉ t.place.toList) ∧ t.slot j ≠ .dummy := by
  have nh : SetTable.has t.dummies j = false := by rw [hd]; simp [SetTable.has]
  obtain ⟨h1, h2, h3⟩ := below_bel hr j
  unfold SetTable.slot
  dsimp only
  rw [nh]
  refine ⟨fun h => ?_, fun h hm => ?_, ?_⟩
  · rw [if_neg]
    · rfl
    · intro q
      have q := beq_iff_eq.mp q
      rw [← Array.getElem?_toList] at q
      exact h (List.mem_of_getElem? q)
  · obtain ⟨i, e⟩ := List.mem_iff_getElem?.mp hm
    have l1 : SetTable.below t.place j ≤ i := by
      rcases Nat.lt_or_ge i (SetTable.below t.place j) with c | c
      · exact absurd (h2 i j e c) (Nat.lt_irrefl _)
      · exact c
    rcases Nat.lt_or_eq_of_le l1 with c | c
    · have hi := (List.getElem?_eq_some_iff.mp e).1
      have e2 : t.place.toList[SetTable.below t.place j]? = some t.place.toList[SetTable.below t.place j] := List.getElem?_eq_getElem (by omega)
      have a := h3 _ _ e2 (Nat.le_refl _)
      have b := rise_lt hr e2 e c
      omega
    · rw [← c, Array.getElem?_toList] at e
      rw [e] at h
      simp at h
  · split
    · intro q; cases q
    · intro q; simp at q
def vis (mask : Nat) : Nat → Nat → Nat → Nat → Nat → List Nat
  | 0, _, _, _, _ => []
  | f + 1, j, more, i, pb => j :: if more > 0 then vis mask f (j + 1) (more - 1) i pb else vis mask f (SetTable.leap mask i pb).1 (SetTable.runEnd mask (SetTable.leap mask i pb).1 - (SetTable.leap mask i pb).1) (SetTable.leap mask i pb).1 (SetTable.leap mask i pb).2
theorem go_vis {t : SetTable} (hr : t.place.toList.Pairwise (· < ·)) (hd : t.dummies = #[]) {hashAt : Nat → Int} {h : Int} (hn : ∀ i, (hashAt i == h) = false) : ∀ (fuel : Nat) (p : SetTable.Probe), p.dummy = none →
    (∃ j, j ∈ vis t.mask fuel p.j p.more p.i p.perturb ∧ j ∉ t.place.toList) → ∃ j, SetTable.probe.go t hashAt h fuel p = some (.empty j none) ∧ j ∉ t.place.toList
  | 0, p, _, ⟨j, hj, _⟩ => by simp [vis] at hj
  | fuel + 1, p, hp, ⟨j, hj, hf⟩ => by
    obtain ⟨s1, s2, s3⟩ := slot_empty hr hd (j := p.j)
    unfold SetTable.probe.go
    cases hs : t.slot p.j with
    | empty =>
      dsimp only
      exact ⟨p.j, by rw [hp], s2 hs⟩
    | dummy => exact absurd hs s3
    | live i =>
      dsimp only
      rw [hn, if_neg Bool.false_ne_true]
      refine go_vis hr hd hn fuel (t.advance p) ?_ ⟨j, ?_, hf⟩
      · unfold SetTable.advance
        split
        · exact hp
        · exact hp
      · unfold vis at hj
        rcases List.mem_cons.mp hj with q | q
        · subst q
          rw [s1 hf] at hs
          cases hs
        · unfold SetTable.advance
          by_cases c : p.more > 0
          · rw [if_pos c] at q ⊢
            exact q
          · rw [if_neg c] at q ⊢
            exact q
def Msk (m : Nat) : Prop := m = 7 ∨ m = 15 ∨ m = 31 ∨ m = 63
end L2

namespace L2
open PySem PySem.Calls PySem.Spec PyProof.Rows
section
variable {prog : Program} {w : World} {A : Around} {E : Value → Shared → Prop} {s : Shared} {d it : Addr} {es : Array (Int × Value)} {ep i slot : Nat} {t : SetTable}
end
end L2

namespace L2
open PySem PySem.Calls PySem.Spec PyProof.Rows
structure Tab (w : World) (t : SetTable) (n : Nat) : Prop where
  size : t.place.size = n
  rise : t.place.toList.Pairwise (· < ·)
  dums : t.dummies = #[]
  mask : Msk t.mask
  room : n * 5 < t.mask * 3
  plain : t.plain = true
  led : t.led = !w.params.followText "set-order"
theorem Tab.fill {w : World} {t : SetTable} {n : Nat} (T : Tab w t n) : t.fill = n := by unfold SetTable.fill; rw [T.size, T.dums]; rfl
theorem Tab.fits {w : World} {t : SetTable} {n : Nat} (T : Tab w t n) : t.fits n = true := by
  have := T.fill
  have r := T.room
  unfold SetTable.fits
  rw [T.size, this]
  simp
  omega
theorem Tab.fresh (w : World) : Tab w (.fresh 0 0 (!w.params.followText "set-order")) 0 := ⟨rfl, by simp [SetTable.fresh], rfl, .inl rfl, by simp [SetTable.fresh], rfl, rfl⟩
theorem sz_insertAt {α : Type} (xs : Array α) (p : Nat) (x : α) : (SetTable.insertAt xs p x).size = xs.size + 1 := by
  have := (SetTable.insertAt_perm xs p x).length_eq
  simpa using this
section
variable {prog : Program} {w : World} {K : Type} [DecidableEq K] {knd : KeyKind prog w K} {Sm : K → Prop} {A : Around} {E : Value → Shared → Prop} {s : Shared}
end
end L2

namespace L2
open PySem PySem.Calls PySem.Spec PyProof.Rows
section
variable {prog : Program} {w : World} {A : Around} {E : Value → Shared → Prop} {s : Shared} {d it : Addr} {es : Array (Int × Value)} {ep i slot : Nat} {t : SetTable}
end
end L2

namespace L2
open PySem PySem.Calls PySem.Spec PyProof.Rows
section
variable {prog : Program} {w : World} {K : Type} [DecidableEq K] {knd : KeyKind prog w K} {Sm : K → Prop} {A : Around} {E : Value → Shared → Prop} {s : Shared}
abbrev set0 (w : World) : Obj := { cls := .type "set", dict := none, data := .set #[] 0 (.fresh 0 0 (!w.params.followText "set-order")) }
theorem newset_at {Q : Value → Shared → Prop} (q : Q (.ref s.heap.objs.size) { s with heap := s.heap.push (set0 w) }) : wpAny (model prog w) A (newSet (.type "set")) Q E s := by
  unfold newSet setsByText
  refine wpAny_bind (wpAny_bind (wpAny_askSetting (wpAny_pure ?_)))
  dsimp only
  simp only [newObj]
  exact wpAny_bind (wpAny_alloc (wpAny_pure q))
theorem set_new_at (a : Value) {Q₁ : Value → Shared → Prop} (q : Q₁ (.ref s.heap.objs.size) { s with heap := s.heap.push (set0 w) }) :
    codeAny (model prog w) A (.call (.builtin "set.__new__") ⟨[.type "set", a], []⟩) (wants Q₁ E) s := by
  refine codeAny_of_tree (show wpAny _ A.in1 (checkBuiltinCall "set.__new__" ⟨[.type "set", a], []⟩ >>= fun _ => again (.builtin "set.__new__" ⟨[.type "set", a], []⟩)) _ _ s from ?_)
  refine wpAny_bind (wpAny_of_eq (PySem.F.newCall_set_1 a) (wpAny_pure ⟨plainId_quiet PySem.F.plain_set_new _, codeAny_builtin PySem.F.entry_set_new ?_⟩))
  rw [Around.under_plainId PySem.F.plain_set_new _]
  unfold Builtin.«set.__new__» Builtin.Frozenset.newClass
  have := sub_set_self
  obtain ⟨hp, g, d, tk, os⟩ := s
  dsimp only
  generalize hN : newSet = N
  wp_walk
  subst hN
  exact newset_at (wpAny_pure q)
end
end L2

namespace L2
open PySem PySem.Calls PySem.Spec PyProof.Rows
section
variable {prog : Program} {w : World} {K : Type} [DecidableEq K] {knd : KeyKind prog w K} {Sm : K → Prop} {A : Around} {E : Value → Shared → Prop} {s : Shared}
end
end L2

namespace L2
open PySem PySem.Calls PySem.Spec PyProof.Rows
section
variable {prog : Program} {w : World} {K : Type} [DecidableEq K] {knd : KeyKind prog w K} {Sm : K → Prop} {A : Around} {E : Value → Shared → Prop} {s : Shared}
end
section
variable {X : Cx}
end
end L2

namespace L2
open PySem PySem.Calls PySem.Spec PyProof.Rows
section
variable {prog : Program} {w : World} {A : Around} {E : Value → Shared → Prop} {s : Shared}
end
section
variable {prog : Program} {w : World} {A : Around} {E : Value → Shared → Prop} {s : Shared}
end
section
variable {X : Cx}
end
end L2

namespace L2
open PySem PySem.Calls PySem.Spec PyProof.Rows Builtin Builtin.Str
section
variable {prog : Program} {w : World} {A : Around} {E : Value → Shared → Prop} {s : Shared} {x y : Str} {t u : Tok}
end
section
variable {X : Cx}
end
section
variable {X : Cx} {tg : Expr}
end
end L2

namespace PySem
open PySem.Calls PySem.Spec PyProof.Rows
section
variable {prog : Program} {w : World} {A : Around} {E : Value → Shared → Prop} {s : Shared}
end
end PySem

namespace PySem
end PySem
namespace L2
open PySem PySem.Calls PySem.Spec PyProof.Rows PySem.AutoSeq1
section
variable {X : Cx} {es : List Expr} {kt : Nat} {tp : Pos}
end
section
variable {K : PySem.W.Frag} {g : TG} {tc : TT} {te : TE} {σ : St} {H : Hp} {R : List V → Hp → Prop}
end
section
variable {X : Cx} {es : List Expr} {kt : Nat} {tp : Pos}
end
section
variable {K : PySem.W.Frag} {g : TG} {tc : TT} {te : TE} {σ : St} {H : Hp} {R : List V → Hp → Prop}
end
section
variable {X : Cx} {e : Expr} {pos : Pos} {te : TE}
end
section
variable {K : PySem.W.Frag} {g : TG} {tc : TT} {te : TE} {σ : St} {H : Hp} {R : List V → Hp → Prop}
end
end L2

namespace L2
open PySem PySem.Calls PySem.Spec PyProof.Rows
section
variable {X : Cx} {e o : Expr} {es : List Expr} {te to : TE} {t : TA}
end
end L2

namespace L2
open PySem PySem.Spec PyProof.Rows
section
variable {P : Program} {w : World} {A : Around} {p : Addr} {a b : Int} {t u v : Tok}
end
section
variable {X : Cx}
end
end L2

namespace L2
open PySem PySem.Spec PyProof.Rows
section
open PySem.SeqAt
open PySem.AutoSeq1 (wpAny_loadPart')
open PySem.MeetsSeq PySem.MeetsSeq2 PySem.MeetsSeq3
end
section
variable {X : Cx}
end
end L2

namespace L2
open PySem PySem.Calls PySem.Spec PyProof.Rows
def bitL (N : Nat) : List Int := ((List.range 9).filter fun k => N.testBit k).map fun (k : Nat) => (k : Int)
def hzT (l : List Int) : Int := reduceHash (Builtin.Tuple.tupleHashOf l)
def SmT9 (l : List Int) : Prop := ∃ N, N < 512 ∧ l = bitL N
theorem hz_pos : ((List.range 512).all fun N => !(hzT (bitL N) == 0)) = true := by decide +kernel
def hzs : List Int := (List.range 512).map fun N => hzT (bitL N)
theorem hz_nodup : hzs.Nodup := by decide +kernel
def visT (N : Nat) : Bool := (List.range 8).all fun j => (vis 7 (10 * SetTable.turns 7) (SetTable.bits (hzT (bitL N)) % 8) (SetTable.runEnd 7 (SetTable.bits (hzT (bitL N)) % 8) - SetTable.bits (hzT (bitL N)) % 8) (SetTable.bits (hzT (bitL N)) % 8) (SetTable.bits (hzT (bitL N)))).elem j
theorem visT_ok : ((List.range 512).all visT) = true := by decide +kernel
end L2

namespace L2
open PySem PySem.Calls PySem.Spec PyProof.Rows
theorem hz_inj {l l' : List Int} (h : SmT9 l) (h' : SmT9 l') (e : hzT l = hzT l') : l = l' := by
  obtain ⟨N, hN, rfl⟩ := h
  obtain ⟨M, hM, rfl⟩ := h'
  have z := hz_nodup
  unfold hzs at z
  rw [List.nodup_iff_pairwise_ne] at z
  rw [List.pairwise_map] at z
  by_cases c : N = M
  · rw [c]
  · exfalso
    have key : ∀ {a b : Nat}, a < b → b < 512 → hzT (bitL a) ≠ hzT (bitL b) := fun {a b} h1 h2 => by
      have := List.pairwise_iff_getElem.mp z a b (by rw [List.length_range]; omega) (by rw [List.length_range]; exact h2) h1
      simpa using this
    rcases Nat.lt_or_gt_of_ne c with q | q
    · exact key q hM e
    · exact key q hN e.symm
theorem hz_ne {l : List Int} (h : SmT9 l) : hzT l ≠ 0 := by
  obtain ⟨N, hN, rfl⟩ := h
  have := List.all_eq_true.mp hz_pos N (List.mem_range.mpr hN)
  intro e
  rw [e] at this
  cases this
theorem hash9 : ∀ i : Nat, i < 9 → hashInt (i : Int) = (i : Int) := by decide +kernel
theorem keyhash {prog : Program} {w : World} {l : List Int} (h : SmT9 l) : tupleKeyHash (intKind prog w) l = hzT l := by
  obtain ⟨N, _, rfl⟩ := h
  unfold tupleKeyHash hzT
  congr 2
  show (bitL N).map hashInt = bitL N
  unfold bitL
  rw [List.map_map]
  refine List.map_congr_left fun k hk => ?_
  exact hash9 k (List.mem_range.mp (List.mem_filter.mp hk).1)
def SetT (w : World) (o : Obj) (L : List (List Int)) : Prop := ∃ es ep t, o.ExactSet ∧ o.data = .set es ep t ∧ (∀ e ∈ es.toList, ∃ l ∈ L, e.1 = hzT l) ∧ es.size = L.length ∧ Tab w t es.size ∧ t.mask = 7
section
variable {prog : Program} {w : World} {A : Around} {E : Value → Shared → Prop} {s : Shared}
theorem set0_t : SetT w (set0 w) [] := ⟨#[], 0, _, ⟨rfl, rfl, rfl⟩, rfl, (fun _ h => nomatch h), rfl, Tab.fresh w, rfl⟩
theorem hbv_tup {x : Addr} {l : List Int} {Q : Bool → Shared → Prop} (hk : IsTupleKey (intKind prog w) s.heap l x) (q : Q true s) : wpAny (model prog w) A (hashByValue 8 (.ref x)) Q E s := by
  have hT := hk.typeIs
  obtain ⟨o, items, n, ho, _, hd, hi⟩ := hk
  unfold hashByValue
  refine wpAny_bind (wpAny_specialOf hT PySem.F.slot_tuple_hash.lookup ?_)
  dsimp only
  refine wpAny_bind (wpAny_seqItems ho hd ?_)
  dsimp only [Option.getD]
  refine wpAny_bind ?_
  rw [← Array.forIn_toList]
  refine wpAny_forIn_list _ (fun rest b s' => b.1 = none ∧ s' = s ∧ ∃ left, ItemsAre (intKind prog w) left rest) _ ?_ ?_ _ _ ⟨rfl, rfl, _, hi⟩
  · rintro y rest b s' ⟨hb, rfl, left, hl⟩
    cases hl with
    | @cons k _ ks' _ h1 hl' =>
      obtain ⟨t, rfl⟩ := Value.isInt_shape h1
      unfold hashByValue
      refine wpAny_bind (wpAny_pure ?_)
      exact wpAny_pure ⟨rfl, rfl, _, hl'⟩
  · rintro ⟨b1, b2⟩ s' ⟨hb, rfl, left, hl⟩
    cases hb
    exact wpAny_pure q
theorem probe_t {t : SetTable} {es : Array (Int × Value)} (T : Tab w t es.size) (m7 : t.mask = 7) {l : List Int} (hl : SmT9 l) {L : List (List Int)} (hL : ∀ l' ∈ L, SmT9 l') (hn : l ∉ L) (he : ∀ e ∈ es.toList, ∃ l' ∈ L, e.1 = hzT l') (hf : Nat → Int) (hfe : ∀ i, hf i = (es[i]?.map (·.1)).getD 0) :
    ∃ j, t.probe hf (hzT l) (t.probeStart (hzT l)) = some (.empty j none) ∧ j ∉ t.place.toList := by
  have hl8 : t.place.size ≤ t.mask := by rw [T.size]; have := T.room; omega
  obtain ⟨j, h1, h2⟩ := pigeon (t.mask + 1) t.place.toList (by simp; omega)
  obtain ⟨N, hN, rfl⟩ := hl
  have hv := List.all_eq_true.mp (List.all_eq_true.mp visT_ok N (List.mem_range.mpr hN)) j (List.mem_range.mpr (by rw [m7] at h1; exact h1))
  have hv := List.elem_iff.mp hv
  obtain ⟨j', e, hf'⟩ := go_vis T.rise T.dums (hashAt := hf) (h := hzT (bitL N)) (fun i => by
    rw [hfe i]
    have : (es[i]?.map (·.1)).getD 0 ≠ hzT (bitL N) := by
      cases q : es[i]? with
      | none => exact fun z => hz_ne ⟨N, hN, rfl⟩ z.symm
      | some e =>
        obtain ⟨l', hl', e'⟩ := he e (by rw [← Array.getElem?_toList] at q; exact List.mem_of_getElem? q)
        intro z
        have z : e.1 = hzT (bitL N) := z
        rw [e'] at z
        exact hn (hz_inj (hL l' hl') ⟨N, hN, rfl⟩ z ▸ hl')
    simpa using this) (10 * SetTable.turns t.mask) (t.probeStart (hzT (bitL N))) rfl ⟨j, by
      unfold SetTable.probeStart
      dsimp only
      rw [m7]
      exact hv, h2⟩
  refine ⟨j', ?_, hf'⟩
  unfold SetTable.probe
  exact e
theorem add_t {a x : Addr} {o : Obj} {L : List (List Int)} {l : List Int} {Q : Bool → Shared → Prop} (hk : IsTupleKey (intKind prog w) s.heap l x) (hl : SmT9 l) (hL : ∀ l' ∈ L, SmT9 l') (hn : l ∉ L) (few : L.length < 4) (ho : s.heap.get? a = some o) (hS : SetT w o L)
    (fin : ∀ (h' : Heap) (o' : Obj), Heap.SameBut a s.heap h' → h'.get? a = some o' → SetT w o' (L ++ [l]) → Q true { s with heap := h' }) :
    wpAny (model prog w) A (setAddHashed a (.ref x) (hzT l)) Q E s := by
  obtain ⟨es, ep, t, hx, hd, en, lz, T, m7⟩ := id hS
  unfold setAddHashed setAddHashedIn
  refine wpAny_holding (wpAny_bind (wpAny_setState_of ho hd T.fits ?_))
  dsimp only
  have nb : byScan (.ref x) es = false := rfl
  rw [nb]
  rw [if_neg (by decide)]
  refine wpAny_bind ?_
  unfold setSearch setSearchFrom
  refine wpAny_bind (wpAny_setState_of ho hd T.fits ?_)
  dsimp only
  have gw : t.gaveWay = false := by
    unfold SetTable.gaveWay
    rw [m7]
    rfl
  rw [gw]
  rw [if_neg (by decide)]
  obtain ⟨j, pe, hj⟩ := probe_t T m7 hl hL hn en _ (fun i => rfl)
  dsimp only [Option.getD]
  split
  case h_2 heq => exact (heq _ pe).elim
  case h_1 met heq =>
  have em := Option.some.inj (heq.symm.trans pe)
  subst em
  dsimp only
  refine wpAny_pure ?_
  dsimp only
  refine wpAny_bind (wpAny_setState_of ho hd T.fits ?_)
  dsimp only
  have pp : t.put j = ({ t with place := SetTable.insertAt t.place (SetTable.below t.place j) j }, SetTable.below t.place j) := by
    unfold SetTable.put
    have nh : SetTable.has t.dummies j = false := by rw [T.dums]; simp [SetTable.has]
    rw [nh]
    rfl
  rw [pp]
  dsimp only
  rw [if_pos T.plain]
  refine wpAny_bind (hbv_tup hk ?_)
  rw [if_pos rfl]
  have sz : (SetTable.insertAt t.place (SetTable.below t.place j) j).size = es.size + 1 := by rw [sz_insertAt, T.size]
  have z1 : (SetTable.insertAt es (SetTable.below t.place j) (hzT l, Value.ref x)).size = es.size + 1 := sz_insertAt ..
  have g1 : (s.heap.update a (Obj.putSet (SetTable.insertAt es (SetTable.below t.place j) (hzT l, Value.ref x)) { t with place := SetTable.insertAt t.place (SetTable.below t.place j) j })).get? a = some { o with data := .set (SetTable.insertAt es (SetTable.below t.place j) (hzT l, Value.ref x)) (ep + 1) { t with place := SetTable.insertAt t.place (SetTable.below t.place j) j } } := by
    have := Heap.get?_update_self (Obj.putSet (SetTable.insertAt es (SetTable.below t.place j) (hzT l, Value.ref x)) { t with place := SetTable.insertAt t.place (SetTable.below t.place j) j }) ho (by rw [putSet_of _ _ hd]; rfl)
    rwa [putSet_of _ _ hd] at this
  refine wpAny_bind (wpAny_storeSet_of ho hd ?_ (by rw [z1]; exact fits_of_scanBound (by unfold scanBound; omega)))
  have nf : (!false && ({ t with place := SetTable.insertAt t.place (SetTable.below t.place j) j } : SetTable).tooFull) = false := by
    simp only [Bool.not_false, Bool.true_and, SetTable.tooFull, SetTable.fill, T.dums, sz, m7]
    simp
    omega
  rw [nf]
  rw [if_neg (by decide)]
  refine wpAny_pure ?_
  refine fin _ _ (Heap.SameBut.update s.heap a _) g1 ⟨_, _, _, hx, rfl, fun e he => ?_, by rw [z1, lz, List.length_append]; rfl, ?_, m7⟩
  · have pI := SetTable.insertAt_perm es (SetTable.below t.place j) (hzT l, Value.ref x)
    rw [Array.toList_push] at pI
    rcases List.mem_append.mp (pI.mem_iff.mp he) with q | q
    · obtain ⟨l', h1, h2⟩ := en e q
      exact ⟨l', List.mem_append_left _ h1, h2⟩
    · rw [List.mem_singleton.mp q]
      exact ⟨l, by simp, rfl⟩
  · rw [z1]
    refine ⟨sz, put_rise T.rise hj, T.dums, T.mask, ?_, T.plain, T.led⟩
    show (es.size + 1) * 5 < t.mask * 3
    rw [m7]
    omega
theorem loop_t {R : Result → Shared → Prop} {I : Addr} {fp wr : List Addr} {G : Array GenState → Array GenState → Prop} {n : Nat} {P : Nat → Value → Prop} {St : Nat → Shared → Prop} (W : WalksS prog w A.in1 I fp wr G n P St) (S : Addr) (hSf : S ∉ fp)
    (val : Nat → List Int) (ad : Nat → Addr) (hval : ∀ i v, P i v → v = .ref (ad i)) (hsm : ∀ i, i < n → SmT9 (val i)) (inj : ∀ i j, i < n → j < n → val i = val j → i = j) (n4 : n ≤ 4) (hS2 : ∀ i, i < n → ad i ≠ S ∧ ad i ∉ wr) :
    ∀ (m i : Nat) (s : Shared) (o : Obj), A.units + 1 < cLine → n - i = m → i ≤ n → St i s → s.heap.get? S = some o → SetT w o ((List.range i).map val) → (∀ i, i < n → IsTupleKey (intKind prog w) s.heap (val i) (ad i)) →
      (∀ s' o', Moved (S :: wr) G s s' → s'.heap.get? S = some o' → SetT w o' ((List.range n).map val) → R (.ok (.ret .none)) s') →
      codeAny (model prog w) A (.builtin "set.update.loop" ⟨[.ref S, .ref I], []⟩) R s := by
  have nw : S ∉ wr := fun h => hSf (W.sub _ h)
  have mo : ∀ b ∈ wr, b ∈ S :: wr := fun b hb => List.mem_cons_of_mem _ hb
  intro m
  induction m with
  | zero =>
    intro i s o hu hm hi st ho hS tk fin
    obtain rfl : i = n := by omega
    refine codeAny_builtin PyProof.Rows.F.entry_set_update_loop ?_
    rw [Around.under_plainId PyProof.Rows.F.plain_set_update_loop _]
    refine wpAny_bind (m := pyNext (.ref I)) (W.done s _ _ st fun s' mv => ?_)
    exact wpAny_pure (fin s' o (mv.mono mo) (mv.heap S _ nw ho) hS)
  | succ m ih =>
    intro i s o hu hm hi st ho hS tk fin
    have lt : i < n := by omega
    refine codeAny_builtin PyProof.Rows.F.entry_set_update_loop ?_
    rw [Around.under_plainId PyProof.Rows.F.plain_set_update_loop _]
    refine wpAny_bind (m := pyNext (.ref I)) (W.item i s _ _ lt st fun v s' pv st' mv => ?_)
    have iv := hval i v pv
    subst iv
    show wpAny _ A.in1 (holding [.ref (ad i)] (setAdd S (.ref (ad i))) >>= _) _ _ s'
    refine wpAny_bind (wpAny_holding ?_)
    unfold setAdd
    have kt : ∀ i, i < n → IsTupleKey (intKind prog w) s'.heap (val i) (ad i) := fun i hi => by
      obtain ⟨o, items, k, h1, h2, h3, h4⟩ := tk i hi
      exact ⟨o, items, k, mv.heap _ _ (hS2 i hi).2 h1, h2, h3, h4⟩
    refine wpAny_holding (wpAny_bind (wpAny_pyHash_tuple (by simpa using hu) (kt i lt) ?_))
    rw [keyhash (hsm i lt)]
    refine add_t (s := { s' with toks := s'.toks + ((val i).length + 1) }) (L := (List.range i).map val) (kt i lt) (hsm i lt) (fun l' hl' => ?_) (fun hin => ?_) (by rw [List.length_map, List.length_range]; omega) (mv.heap S _ nw ho) hS fun h' o' sb g' hS' => ?_
    · obtain ⟨j, hj, rfl⟩ := List.mem_map.mp hl'
      exact hsm j (by have := List.mem_range.mp hj; omega)
    · obtain ⟨j, hj, e⟩ := List.mem_map.mp hin
      have hj := List.mem_range.mp hj
      have := inj j i (by omega) lt e
      omega
    rw [show (List.range i).map val ++ [val i] = (List.range (i + 1)).map val by rw [List.range_succ, List.map_append]; rfl] at hS'
    refine wpAny_pure ⟨plainId_quiet PyProof.Rows.F.plain_set_update_loop _, ih (i + 1) _ o' hu (by omega) lt (W.frame _ s' _ _ st' (Nat.le_add_right _ _) fun b hb o e => ?_) g' hS' (fun j hj => ?_) fun s2 o2 mv2 g2 hS2' => ?_⟩
    · rw [sb.2 b (fun h : b = S => hSf (h ▸ hb))]
      exact e
    · obtain ⟨o, items, k, h1, h2, h3, h4⟩ := kt j hj
      exact ⟨o, items, k, by rw [sb.2 _ (hS2 j hj).1]; exact h1, h2, h3, h4⟩
    · refine fin s2 o2 (Moved.trans W.gtrans ((mv.mono mo).then_heap (Nat.le_add_right _ _) fun b o hb e => ?_) mv2) g2 hS2'
      rw [sb.2 b (fun h : b = S => hb (h ▸ List.mem_cons_self))]
      exact e
theorem call_setTL {l : Addr} {its : Array Value} {ks : List (List Int)} {as : List Addr} {Q : Value → Shared → Prop} (noH : A.handled = none) (ht : s.heap.IsList l its) (hu : A.units + 9 < cLine) (hi : its.toList = as.map Value.ref) (hk : Paired (fun (a : Addr) (k : List Int) => IsTupleKey (intKind prog w) s.heap k a) as ks) (hs : ∀ k ∈ ks, SmT9 k) (nd : ks.Nodup) (few : ks.length ≤ 4)
    (fin : ∀ (h2 : Heap) (tk : Nat) (o : Obj), h2.get? s.heap.objs.size = some o → SetT w o ks → (∀ b o, s.heap.get? b = some o → h2.get? b = some o) → Q (.ref s.heap.objs.size) { s with heap := h2, toks := tk }) :
    wpAny (model prog w) A (call (.type "set") [.ref l]) Q E s := by
  obtain ⟨c, tl, hmro⟩ := PySem.F.called_set.mro
  have mk1 := PySem.F.called_set.made
  have mk2 := PySem.F.called_set.sub
  refine wpAny_call (codeAny_of_tree (show wpAny _ _ (callAny (.type "set") _) _ _ _ from ?_))
  refine wpAny_pure ⟨Code.quiet_builtin _ (by decide +kernel), codeAny_builtin PySem.F.entry_type_call ?_⟩
  rw [Around.under_plain (weight_type_call_type "set" [.ref l] []) rfl]
  have mk3 := PySem.F.called_set.notType
  have mk4 := PySem.F.called_set.canCreate
  have mk5 := PySem.F.typeCall_set_1 (.ref l)
  repeat (any_goals (first | assumption | wp_step))
  refine codeAny_mono (set_new_at (.ref l) (E := E) (Q₁ := fun ob t1 => ob = .ref s.heap.objs.size ∧ t1 = { s with heap := s.heap.push (set0 w) }) ⟨rfl, rfl⟩) (fun r t1 hr => ?_)
  cases r with
  | error e => exact hr
  | ok fl =>
    cases fl with
    | ret ob =>
      obtain ⟨rfl, rfl⟩ := hr
      generalize hN : s.heap.push (set0 w) = N
      have sN : N.objs.size = s.heap.objs.size + 1 := by rw [← hN, Heap.size_push]
      have kN : ∀ b o, s.heap.get? b = some o → N.get? b = some o := fun b o e => by rw [← hN]; exact Heap.get?_push_of_some _ e
      have gN : N.get? s.heap.objs.size = some (set0 w) := by rw [← hN]; exact Heap.get?_push_size _ rfl
      have tyN : Shared.TypeIs { s with heap := N } (.ref s.heap.objs.size) "set" := ⟨_, gN, rfl⟩
      have ini1 := PySem.F.called_set.init.lookup
      have ini2 := PySem.F.called_set.init.bind (.ref s.heap.objs.size)
      repeat (any_goals (first | assumption | wp_step))
      refine codeAny_mono (codeAny_call_builtin (R := wants (fun r t2 => r = .none ∧ ∃ h2 tk o, t2 = { s with heap := h2, toks := tk } ∧ h2.get? s.heap.objs.size = some o ∧ SetT w o ks ∧
          (∀ b o, s.heap.get? b = some o → h2.get? b = some o)) E) PySem.F.called_set.init.plain PySem.F.entry_set_init (check_set_init_1 tyN ?_)) (fun r2 t2 hr2 => ?_)
      · obtain ⟨⟨ocls, odict, odata, oslots⟩, ot, oc, n, od⟩ := ht
        simp only at oc od
        subst oc od
        have ot' := kN _ _ ot
        have no1 := PySem.F.sub_list_set
        have no2 := PySem.F.sub_list_frozenset
        have no3 : (Value.type "list" == Value.type "dict") = false := by decide
        have tN : N.IsList l its := ⟨_, ot', rfl, n, rfl⟩
        unfold Builtin.«set.__init__» noKeywords Builtin.Frozenset.updateFrom
        generalize hPI : pyIter = PI
        wp_walk
        subst hPI
        refine wpAny_pyIter_list tN ?_
        refine wpAny_bind (wpAny_runValue ?_)
        have hl : l < s.heap.objs.size := Heap.lt_size ot
        have ne1 : l ≠ N.objs.size := by rw [sN]; exact Nat.ne_of_lt (Nat.lt_succ_of_lt hl)
        have ne2 : s.heap.objs.size ∉ [N.objs.size, l] := by
          simp only [List.mem_cons, List.not_mem_nil, or_false, not_or]
          exact ⟨by rw [sN]; exact Nat.ne_of_lt (Nat.lt_succ_self _), Nat.ne_of_gt hl⟩
        have la := Paired.length hk
        have lk : its.size = ks.length := by
          have := congrArg List.length hi
          rw [List.length_map, Array.length_toList] at this
          omega
        have vals : ∀ (i : Nat) (v : Value), its[i]? = some v → v = .ref (as.getD i 0) := fun i v e => by
          rw [← Array.getElem?_toList, hi, List.getElem?_map] at e
          obtain ⟨y, e1, rfl⟩ := Option.map_eq_some_iff.mp e
          rw [List.getD_eq_getElem?_getD, e1]
          rfl
        have at' : ∀ i, i < its.size → ∃ a k, as[i]? = some a ∧ ks[i]? = some k ∧ IsTupleKey (intKind prog w) s.heap k a := fun i h => by
          have h' : i < as.length := by omega
          obtain ⟨k, e1, e2⟩ := Paired.get' hk (List.getElem?_eq_getElem h')
          exact ⟨_, k, List.getElem?_eq_getElem h', e1, e2⟩
        have vk : ∀ {i : Nat} {k : List Int}, ks[i]? = some k → ks.getD i [] = k := fun e => by rw [List.getD_eq_getElem?_getD, e]; rfl
        have va : ∀ {i : Nat} {a : Addr}, as[i]? = some a → as.getD i 0 = a := fun e => by rw [List.getD_eq_getElem?_getD, e]; rfl
        have hsm : ∀ i, i < its.size → SmT9 (ks.getD i []) := fun i h => by
          obtain ⟨a, k, _, e, _⟩ := at' i h
          rw [vk e]
          exact hs k (List.mem_of_getElem? e)
        have inj : ∀ i j, i < its.size → j < its.size → ks.getD i [] = ks.getD j [] → i = j := fun i j hi hj e => by
          obtain ⟨_, k, _, e1, _⟩ := at' i hi
          obtain ⟨_, k', _, e2, _⟩ := at' j hj
          rw [vk e1, vk e2] at e
          obtain ⟨h1, q1⟩ := List.getElem?_eq_some_iff.mp e1
          obtain ⟨h2, q2⟩ := List.getElem?_eq_some_iff.mp e2
          have a1 := List.Nodup.idxOf_getElem nd i h1
          have a2 := List.Nodup.idxOf_getElem nd j h2
          rw [q1] at a1
          rw [q2] at a2
          rw [e] at a1
          omega
        have lt : ∀ i, i < its.size → as.getD i 0 < s.heap.objs.size := fun i h => by
          obtain ⟨a, k, e, _, o, _, _, g, _⟩ := at' i h
          rw [va e]
          exact Heap.lt_size g
        refine loop_t ((Walks.list (show A.in1.in1.in1.handled = none by simp [noH]) _ l ne1 its).toS) s.heap.objs.size ne2 (fun i => ks.getD i []) (fun i => as.getD i 0) vals hsm inj (by omega) (fun i h => ⟨Nat.ne_of_lt (lt i h), fun q => by
              have := lt i h
              have e : as.getD i 0 = N.objs.size := List.mem_singleton.mp q
              rw [e, sN] at this
              exact absurd this (Nat.not_lt.mpr (Nat.le_succ _))⟩) (its.size - 0) 0 _ (set0 w) (by simp; omega) (by omega) (Nat.zero_le _)
          ⟨⟨_, Heap.get?_push_size _ rfl, rfl, rfl⟩, (tN.push _)⟩ (Heap.get?_push_of_some _ gN) set0_t (fun i h => by
            obtain ⟨a, k, e1, e2, o, items, c, g, r⟩ := at' i h
            show IsTupleKey _ _ (ks.getD i []) (as.getD i 0)
            rw [vk e2, va e1]
            exact ⟨o, items, c, Heap.get?_push_of_some _ (kN _ _ g), r⟩) ?hR
        case hR =>
          intro t3 o' mv g3 st3
          obtain ⟨h3, e1, d3, tk3, os3⟩ := t3
          have e1 : e1 = s.gens := mv.gens
          have e2 : d3 = s.drawn := mv.drawn
          have e3 : os3 = s.os := mv.os
          subst e1 e2 e3
          have eks : (List.range its.size).map (fun i => ks.getD i []) = ks := by
            apply List.ext_getElem?
            intro i
            rw [List.getElem?_map]
            by_cases c : i < its.size
            · obtain ⟨_, k, _, e, _⟩ := at' i c
              rw [List.getElem?_range c, e]
              exact congrArg some (vk e)
            · rw [List.getElem?_eq_none (by rw [List.length_range]; omega), List.getElem?_eq_none (by omega)]
              rfl
          rw [eks] at st3
          refine wpAny_pure (show wpAny _ _ (ret Value.none) _ _ _ from wpAny_pure ⟨rfl, h3, tk3, o', rfl, g3, st3, fun b o e => ?_⟩)
          · have hb := Heap.lt_size e
            refine mv.heap b o ?_ (Heap.get?_push_of_some _ (kN b o e))
            simp only [List.mem_cons, List.not_mem_nil, or_false, not_or]
            exact ⟨Nat.ne_of_lt hb, by rw [sN]; exact Nat.ne_of_lt (Nat.lt_succ_of_lt hb)⟩
      · cases r2 with
        | error e => exact hr2
        | ok fl2 =>
          cases fl2 with
          | ret r =>
            obtain ⟨rfl, h2, tk, o, rfl, g2, st2, kp2⟩ := hr2
            repeat (any_goals (first | assumption | wp_step))
            exact fin _ _ o g2 st2 kp2
          | _ => exact hr2.elim
    | _ => exact hr.elim
end
end L2

namespace L2
open PySem PySem.Calls PySem.Spec PyProof.Rows
def SetN (w : World) (a : Addr) (n : Nat) : HO := .ext fun h => ∃ o L, h.get? a = some o ∧ SetT w o L ∧ L.length = n
theorem setn_ok {P : Program} {w : World} {H : Hp} {h : Heap} {a : Addr} {o : Obj} {L : List (List Int)} (g : h.get? a = some o) (st : SetT w o L) : ObjOk P w H h a (SetN w a L.length) :=
  ⟨⟨o, L, g, st, rfl⟩, ⟨o, g⟩, fun _ _ ⟨o, L, g, st, e⟩ k => ⟨o, L, k _ g, st, e⟩⟩
theorem refs_of {H : Hp} : ∀ {ws : List V} {L : List (List Int)} {its : List Value}, Paired (fun v (ns : List Int) => ∃ q, v = V.ref q ∧ H q = some (.tup (ns.map V.int))) ws L → Vals ws its → ∃ as : List Addr, its = as.map Value.ref ∧ Paired (fun a (ns : List Int) => H a = some (.tup (ns.map V.int))) as L
  | _, _, _, .nil, .nil => ⟨[], rfl, .nil⟩
  | _, _, _, .cons ⟨q, e, h⟩ t, .cons r t' => by
    subst e
    cases r
    obtain ⟨as, e1, e2⟩ := refs_of t t'
    exact ⟨q :: as, by rw [e1]; rfl, .cons h e2⟩
theorem items_int {prog : Program} {w : World} : ∀ {ns : List Int} {its : List Value}, Vals (ns.map V.int) its → ItemsAre (intKind prog w) ns its
  | [], _, .nil => .nil
  | n :: r, _, .cons h t => by
    obtain ⟨tk, rfl⟩ := h
    exact .cons (by show Value.isInt n (.int n tk) = true; simp [Value.isInt]) (items_int t)
section
variable {X : Cx}
theorem call_set_tps (hc : X.calm = true) (hu : X.A.units + 9 < cLine) : CallR X (.type "set") (fun xs H Q => ∃ (a : Addr) (ws : List V) (L : List (List Int)), xs = [.ref a] ∧ H a = some (.lst ws) ∧ Paired (fun v (ns : List Int) => ∃ q, v = V.ref q ∧ H q = some (.tup (ns.map V.int))) ws L ∧ (∀ l ∈ L, SmT9 l) ∧ L.Nodup ∧ L.length ≤ 4 ∧ ∀ p, H p = none → Q (.ref p) (upd H p (SetN X.w p L.length))) := by
  intro pins s σ H xs us Q I r h
  obtain ⟨a, ws, L, rfl, ha, tp, sm, nd, few, q⟩ := h
  obtain ⟨u, rfl, ru⟩ := vals1 r
  cases ru
  obtain ⟨its, rv, pl, hz⟩ := I.list (SqL.of ha)
  obtain ⟨as, ea, pa⟩ := refs_of tp rv
  have pk : Paired (fun (a : Addr) (k : List Int) => IsTupleKey (intKind X.prog X.w) s.heap k a) as L := Paired.mapP pa fun b ns hb => by
    obtain ⟨its2, r2, ⟨o, g, c, n, d⟩, _⟩ := I.tuple (SqT.of hb)
    exact ⟨o, its2.toArray, n, g, c, d, items_int (by simpa using r2)⟩
  refine call_setTL (ks := L) (as := as) (I.ok.hd hc) pl.isList hu (by simpa using ea) pk sm nd few fun h2 tk o g2 st kp => ?_
  have I1 : Inv X pins σ H { s with heap := h2, toks := tk } := I.kept kp
  have fp : FpOk X pins H s.heap.objs.size := I.newFp fun b o e => Heap.lt_size e
  exact ⟨.ref s.heap.objs.size, _, I1.adopt (o := SetN X.w s.heap.objs.size L.length) fp (setn_ok g2 st), rfl, q _ fp.1⟩
theorem call_lenN : CallR X (.builtin "len") (fun xs H Q => ∃ (a : Addr) (n : Nat), xs = [.ref a] ∧ H a = some (SetN X.w a n) ∧ Q (.int (n : Nat)) H) := by
  intro pins s σ H xs us Q I r h
  obtain ⟨a, n, rfl, ha, q⟩ := h
  obtain ⟨u, rfl, ru⟩ := vals1 r
  cases ru
  obtain ⟨⟨o, L, g, ⟨es, ep, t, hx, hd, en, lz, T, m7⟩, el⟩, _⟩ := I.hok a _ ha
  have := T.room
  refine call_len_set g hx hd T.fits (by rw [m7] at this; have := small1000 (n := es.size) (by omega); omega) ⟨.int (n : Nat), H, I.tok _, ⟨_, by rw [lz, el]⟩, q⟩
end
end L2

namespace Hk
open PySem L2
def top (i : Nat) : Stmt := PySem.Challenge.pw_holdsets_k66_whole_holds_counted_togethe.main.body.getD i (.Pass ⟨0, 0, 0, 0⟩)
abbrev s_whole_good : Stmt := top 9
abbrev s_place_good : Stmt := top 10
abbrev s_rises : Stmt := top 11
abbrev s_places_good : Stmt := top 12
abbrev s_bounded_web : Stmt := top 13
abbrev s_refuse_no_place : Stmt := top 14
abbrev s_marked : Stmt := top 16
abbrev s_tied_arrows : Stmt := top 17
abbrev s_lost_places : Stmt := top 18
abbrev s_hold_good : Stmt := top 19
abbrev s_beside_web : Stmt := top 21
abbrev s_both_web : Stmt := top 22
abbrev s_arrows_web : Stmt := top 23
abbrev s_refuse_no_hold : Stmt := top 24
abbrev s_hold_to_arrows : Stmt := top 25
abbrev s_hold_from_arrows : Stmt := top 26
abbrev s_stands_for : Stmt := top 27
abbrev s_put_in : Stmt := top 28
abbrev s_law_cell_at : Stmt := top 30
abbrev s_law_next : Stmt := top 31
abbrev s_law_pen_of : Stmt := top 32
abbrev s_law_draw : Stmt := top 33
abbrev s_law_web_by : Stmt := top 34
abbrev s_law_held : Stmt := top 35
abbrev s_law_arrows_right : Stmt := top 36
abbrev s_law : Stmt := top 37
end Hk

namespace Hk
open PySem L2
section
variable {P : Program} {w : World} {K : PySem.W.Frag} {mg : Str → Option Value} {base : Heap}
def spWhole : Sp := fun vs H Q _ => ∃ x T, vs = [x] ∧ Dat H x T ∧ Q (.bl (isI x)) H
theorem kn_whole (D : DefAt K mg "whole_good" s_whole_good ["thing"]) (fr : Free mg ["isinstance", "int", "bool"]) : Kn P w K mg base 1 "whole_good" ["thing"] spWhole := by
  refine D.kn (N := ["thing"]) ⟨rfl, rfl, rfl, by decide +kernel, rfl, by decide +kernel, by decide +kernel⟩ (fun vs H Q E h => ?_) (fun f cdv A outer s H vs Q E hr h => ?_)
  · obtain ⟨x, T, rfl, _⟩ := h
    rfl
  · obtain ⟨x, T, rfl, d, k⟩ := h
    have m1 := fr "isinstance" (by simp)
    have m2 := fr "int" (by simp)
    have m3 := fr "bool" (by simp)
    refine ⟨_, pss_one (ps_ret (pe_and (pe_callB call_isi rfl m1 boot_isi (pa_cons (pv 0) (pa_cons (pe_bltn (v := .ty "int") rfl m2 boot_tint rfl) pa_nil)))
      (pe_one (pe_not (pe_callB call_isi rfl m1 boot_isi (pa_cons (pv 0) (pa_cons (pe_bltn (v := .ty "bool") rfl m3 boot_tbool rfl) pa_nil))))))), ?_⟩
    refine ⟨x, rfl, x, "int", T, rfl, d, by simp, _, rfl, ite2 (fun h1 => ?_) (fun h1 => ?_)⟩
    · refine ⟨x, rfl, x, "bool", T, rfl, d, by simp, _, rfl, ?_⟩
      cases d <;> first | exact k | exact absurd h1 (by decide)
    · cases d <;> first | exact k | exact absurd (by decide) h1
def spPlace : Sp := fun vs H Q _ => ∃ a m y x T, vs = [.ref a, x] ∧ H a = some (.tup [.int m, y]) ∧ Dat H x T ∧ Q (.bl (plG m x)) H
theorem kn_place (D : DefAt K mg "place_good" s_place_good ["web", "thing"]) (kw : Kn P w K mg base 1 "whole_good" ["thing"] spWhole) : Kn P w K mg base 2 "place_good" ["web", "thing"] spPlace := by
  refine D.kn (N := ["web", "thing"]) ⟨rfl, rfl, rfl, by decide +kernel, rfl, by decide +kernel, by decide +kernel⟩ (fun vs H Q E h => ?_) (fun f cdv A outer s H vs Q E hr h => ?_)
  · obtain ⟨a, m, y, x, T, rfl, _⟩ := h
    rfl
  · obtain ⟨a, m, y, x, T, rfl, ha, d, k⟩ := h
    refine ⟨_, pss_one (ps_ret (pe_and (pe_kn kw hr (pa_cons (pv 1) pa_nil)) (pe_one (pe_chain op_le op_lt pe_int (pv 1) (pe_ix ix_tup (pv 0) pe_int (fun _ _ => rfl)))))), ?_⟩
    refine ⟨x, rfl, x, T, rfl, d, _, rfl, ?_⟩
    cases d with
    | int i =>
      refine iteT ?_
      refine ⟨_, rfl, _, _, rfl, rfl, _, rfl, ite2 (fun h1 => ?_) (fun h1 => ?_)⟩
      · refine ⟨_, rfl, a, _, _, _, rfl, rfl, SqT.of ha, rfl, _, _, rfl, rfl, ?_⟩
        have e : plG m (.int i) = decide (i < m) := by simp [plG, of_decide_eq_true h1]
        rw [e] at k
        exact k
      · have e : plG m (.int i) = false := by
          have h1 : ¬ 0 ≤ i := by simpa using h1
          simp [plG, h1]
        rw [e] at k
        exact k
    | _ => exact iteF k
def spRises : Sp := fun vs H Q _ => ∃ (a : Addr) (ns : List Int), vs = [.ref a] ∧ H a = some (.tup (ns.map V.int)) ∧ ns.length ≤ sizeLine ∧ ∀ H', Same H H' → Q (.bl (risesI ns)) H'
theorem kn_rises (D : DefAt K mg "rises" s_rises ["things"]) (fr : Free mg ["all", "zip"]) : Kn P w K mg base 1 "rises" ["things"] spRises := by
  refine D.kn (N := ["things"]) ⟨rfl, rfl, rfl, by decide +kernel, rfl, by decide +kernel, by decide +kernel⟩ (fun vs H Q E h => ?_) (fun f cdv A outer s H vs Q E hr h => ?_)
  · obtain ⟨a, ns, rfl, _⟩ := h
    rfl
  · obtain ⟨a, ns, rfl, ha, hz, k⟩ := h
    have m1 := fr "all" (by simp)
    have m2 := fr "zip" (by simp)
    have nd : (["ahead", "behind"] : List Str).Nodup := by decide +kernel
    refine ⟨_, pss_one (ps_ret (pe_callB (call_all_bl rfl) rfl m1 boot_fall (pa_cons (pe_lc (N := ["ahead", "behind"]) (src := [none, none]) (cl := []) rfl ⟨rfl, rfl, rfl, rfl, trivial, rfl, rfl, rfl⟩ (gown_pair (i := 0) (j := 1) rfl rfl)
      (pi_zip rfl m2 (pa_cons (pv 0) (pa_cons (pe_slice sl_tup2 (pv 0) (po_some pe_int) po_none) pa_nil)))
      (fun C s H fp => ⟨pg_tup (n := 2) rfl (pgs_cons (pg_name (i := 0) nd rfl (Or.inl rfl)) (pgs_cons (pg_name (i := 1) nd rfl (Or.inl rfl)) pgs_nil)), pifs_nil, pe_cmpR op_lt (pv 0) (pv 1) (nomark _)⟩)) pa_nil))), ?_⟩
    refine ⟨_, rfl, _, rfl, _, rfl, a, _, rfl, ha, fun p H1 s1 hp => ?_⟩
    rw [cut1] at hp
    refine ⟨a, p, _, _, rfl, s1 _ _ ha, hp, lc_zip0 (xs := ns.map V.int) (ys := (ns.drop 1).map V.int) ?_ (fun i zs H' => Same H1 H' ∧ zs = ((ns.zip (ns.drop 1)).take i).map fun q => V.bl (decide (q.1 < q.2))) ⟨Same.refl _, rfl⟩ ?_ ?_ ?_⟩
    · rw [List.length_map, List.length_map, List.length_drop]
      omega
    · rintro i zs H' hi ⟨s2, rfl⟩
      refine ⟨s2 _ _ (s1 _ _ ha), s2 _ _ hp, ?_⟩
      rw [List.length_map, List.length_take, List.length_zip]
      omega
    · rintro zs H' ⟨s2, rfl⟩ l hl
      refine ⟨l, ((ns.zip (ns.drop 1)).map fun q => decide (q.1 < q.2)), rfl, SqL.of ?_, ?_⟩
      · rw [upd_same, List.length_map, List.take_of_length_le (by simp), List.map_map]
        rfl
      · rw [rises_zip]
        exact k _ ((s1.trans s2).trans (Same.upd hl))
    · rintro i v u zs H' q h1 h2 hi ⟨s2, rfl⟩ hq
      rw [List.getElem?_map] at h1 h2
      obtain ⟨x, e1, rfl⟩ := Option.map_eq_some_iff.mp h1
      obtain ⟨y, e2, rfl⟩ := Option.map_eq_some_iff.mp h2
      refine ⟨q, _, rfl, SqT.of upd_same, rfl, _, _, rfl, _, _, rfl, rfl, ?_⟩
      refine ⟨_, rfl, _, rfl, _, _, rfl, rfl, nx hi ⟨s2.trans (Same.upd hq), ?_⟩⟩
      rw [take_snoc (ns.zip (ns.drop 1)) i (x, y) (by rw [List.getElem?_zip_eq_some]; exact ⟨e1, e2⟩), List.map_append]
      rfl
def spPlaces : Sp := fun vs H Q _ => ∃ a m y x o, vs = [.ref a, x] ∧ H a = some (.tup [.int m, y]) ∧ Thing H x o ∧ ∀ H', Same H H' → Q (.bl (plsG m o)) H'
theorem kn_places (D : DefAt K mg "places_good" s_places_good ["web", "thing"]) (fr : Free mg ["isinstance", "tuple", "all"]) (kp : Kn P w K mg base 2 "place_good" ["web", "thing"] spPlace) (kr : Kn P w K mg base 1 "rises" ["things"] spRises) :
    Kn P w K mg base 3 "places_good" ["web", "thing"] spPlaces := by
  refine D.kn (N := ["web", "thing"]) ⟨rfl, rfl, rfl, by decide +kernel, rfl, by decide +kernel, by decide +kernel⟩ (fun vs H Q E h => ?_) (fun f cdv A outer s H vs Q E hr h => ?_)
  · obtain ⟨a, m, y, x, o, rfl, _⟩ := h
    rfl
  · obtain ⟨a, m, y, x, o, rfl, ha, th, k⟩ := h
    have m1 := fr "isinstance" (by simp)
    have m2 := fr "tuple" (by simp)
    have m3 := fr "all" (by simp)
    have nd : (["place", "web"] : List Str).Nodup := by decide +kernel
    refine ⟨_, pss_cons (ps_if (pt_not (pt_call (pe_callB call_isi rfl m1 boot_isi (pa_cons (pv 1) (pa_cons (pe_bltn (v := .ty "tuple") rfl m2 boot_ttuple rfl) pa_nil))))) (pss_one (ps_ret pe_bl)) pss_nil)
      (pss_one (ps_ret (pe_and (pe_callB (call_all_bl rfl) rfl m3 boot_fall (pa_cons (pe_lc (N := ["place", "web"]) (src := [none, some 0]) rfl ⟨rfl, rfl, rfl, rfl, ⟨⟨rfl, rfl⟩, trivial⟩, rfl, rfl, rfl⟩ (gown_name (i := 0) rfl)
        (pi_tup (pv 1)) (fun C s H fp => ⟨pg_name (i := 0) nd rfl (Or.inl rfl), pifs_nil, pe_kn kp hr (pa_cons (pv 1) (pa_cons (pv 0) pa_nil))⟩)) pa_nil))
        (pe_one (pe_kn kr (hr.mono (by decide)) (pa_cons (pv 1) pa_nil)))))), ?_⟩
    cases th with
    | oth d n =>
      refine ⟨_, rfl, _, "tuple", _, rfl, d, by simp, _, rfl, ?_⟩
      rename_i T
      have e : kitB T "tuple" = false := by
        unfold kitB
        simp [n]
      rw [e]
      exact iteT (k H (Same.refl H))
    | tup hp ty z =>
      refine ⟨_, rfl, _, "tuple", _, rfl, .tup hp, by simp, _, rfl, iteF ?_⟩
      rename_i p ys
      refine ⟨_, rfl, p, rfl, ⟨ys, SqT.of hp⟩, lc_tup0 (xs := ys) (fun i zs H' => Same H H' ∧ zs = (ys.take i).map fun q => V.bl (plG m q)) ⟨Same.refl _, rfl⟩ ?_ ?_ ?_⟩
      · rintro i zs H' hi ⟨s2, rfl⟩
        refine ⟨SqT.of (s2 _ _ hp), ?_⟩
        rw [List.length_map, List.length_take]
        omega
      · rintro zs H' ⟨s2, rfl⟩ l hl
        refine ⟨l, ys.map (plG m), rfl, SqL.of ?_, ?_⟩
        · rw [upd_same, List.take_of_length_le (Nat.le_refl _), List.map_map]
          rfl
        · refine ⟨_, rfl, ite2 (fun h1 => ?_) (fun h1 => ?_)⟩
          · have h2 : ys.all (plG m) = true := by simpa using h1
            have e := ints_of_all h2
            have e2 : plsG m (some ys) = risesI (intsOf ys) := by
              show (ys.all (plG m) && risesI (intsOf ys)) = _
              rw [h2]
              rfl
            refine ⟨_, rfl, p, intsOf ys, rfl, ?_, ?_, fun H3 s3 => ?_⟩
            · rw [upd_ne (ne_of_none (s2 _ _ hp) hl), s2 _ _ hp, ← e]
            · rw [e, List.length_map] at z
              exact z
            · rw [← e2]
              exact k _ ((s2.trans (Same.upd hl)).trans s3)
          · have h2 : plsG m (some ys) = false := by
              show (ys.all (plG m) && risesI (intsOf ys)) = _
              have : ys.all (plG m) = false := by simpa using h1
              rw [this]
              rfl
            rw [← h2]
            exact k _ (s2.trans (Same.upd hl))
      · rintro i x zs H' h1 hi ⟨s2, rfl⟩
        obtain ⟨T, d⟩ := ty x (List.mem_of_getElem? h1)
        refine ⟨_, rfl, _, rfl, a, m, y, x, T, rfl, s2 _ _ ha, d.mono s2, nx hi ⟨s2, ?_⟩⟩
        rw [take_snoc _ _ _ h1, List.map_append]
        rfl
end
end Hk

namespace Hk
open PySem L2
section
variable {P : Program} {w : World} {K : PySem.W.Frag} {mg : Str → Option Value} {base : Heap}
theorem smallN {n : Nat} (h : n ≤ 100000) : n < sizeLine := Nat.lt_of_le_of_lt h (by decide)
def MK (kvs : List (Key × V)) (l : List Int) : Prop := ∀ n : Int, (valV kvs (Sum.inl n)).isSome = decide (n ∈ l)
theorem MK.put {kvs : List (Key × V)} {l : List Int} (h : MK kvs l) (k : Int) (v : V) : MK (putK kvs (Sum.inl k) v) (l ++ [k]) := fun n => by
  rw [valV_put]
  by_cases e : n = k
  · subst e
    simp
  · have e' : ¬ (Sum.inl n : Key) = Sum.inl k := fun z => e (Sum.inl.inj z)
    rw [if_neg e', h n]
    simp [e]
def spMarked : Sp := fun vs H Q _ => ∃ (p : Addr) (ns : List Int), vs = [.ref p] ∧ H p = some (.tup (ns.map V.int)) ∧ ns.length ≤ 1000 ∧ ∀ (d : Addr) (kvs : List (Key × V)) (H' : Hp), Same H H' → H d = none → H' d = some (.dK kvs) → MK kvs ns → kvs.length ≤ ns.length → Q (.ref d) H'
theorem kn_marked (D : DefAt K mg "marked" s_marked ["places"]) : Kn P w K mg base 1 "marked" ["places"] spMarked := by
  have sc : FnScope ["places", "marks", "place"] ["places"] (defScope s_marked) := ⟨rfl, rfl, rfl, by decide +kernel, rfl, by decide +kernel, by decide +kernel⟩
  refine D.kn (N := ["places", "marks", "place"]) sc (fun vs H Q E h => ?_) (fun f cdv A outer s H vs Q E hr h => ?_)
  · obtain ⟨p, ns, rfl, _⟩ := h
    rfl
  · obtain ⟨p, ns, rfl, hp, hz, k⟩ := h
    have hu := hu_of hr
    refine ⟨_, pss_cons (ps_set (i := 1) sc.nd rfl (Or.inl rfl) pe_dnewK) (pss_cons (ps_for PassesOwn.never rfl (pi_tup (pv 0)) (pg_name (i := 2) sc.nd rfl (Or.inl rfl)) (pss_one (ps_dput hu (pv 1) (pv 2) pe_bl rfl))) (pss_one (ps_ret (pv 1)))), ?_⟩
    intro d hd
    have hp1 : (upd H d (.dK [])) p = some (.tup (ns.map V.int)) := by rw [upd_ne (ne_of_none hp hd)]; exact hp
    refine ⟨_, rfl, p, rfl, ⟨_, SqT.of hp1⟩, for_tup (K := K) (xs := ns.map V.int) (fun i σ H2 => ∃ (kvs : List (Key × V)) (v : Option V), σ = [some (.ref p), some (.ref d), v] ∧ Same H H2 ∧ H2 d = some (.dK kvs) ∧ MK kvs (ns.take i) ∧ kvs.length ≤ i)
      ⟨[], none, rfl, Same.upd hd, upd_same, fun n => by simp [valV], Nat.le_refl _⟩ (fun i σ H2 _ ⟨_, _, _, s2, _⟩ => SqT.of (s2 _ _ hp)) ?_ ?_⟩
    · rintro i y σ H2 hi ⟨kvs, v, rfl, s2, hd2, mk, hl⟩
      rw [List.getElem?_map] at hi
      obtain ⟨x, e1, rfl⟩ := Option.map_eq_some_iff.mp hi
      have hil : i < ns.length := (List.getElem?_eq_some_iff.mp e1).1
      refine ⟨_, rfl, _, rfl, d, _, rfl, DPut.k (k := Sum.inl x) hd2 (small1000 (by omega)), ?_⟩
      refine ⟨_, _, rfl, fun b o e => ?_, upd_same, ?_, Nat.le_trans (length_putK _ _ _) (Nat.succ_le_succ hl)⟩
      · rw [upd_ne (ne_of_none e hd)]
        exact s2 _ _ e
      · rw [take_snoc _ _ _ e1]
        exact mk.put x _
    · rintro σ H2 ⟨kvs, v, rfl, s2, hd2, mk, hl⟩
      rw [List.length_map] at mk hl
      rw [List.take_of_length_le (Nat.le_refl _)] at mk
      exact ⟨_, rfl, k d kvs H2 s2 hd hd2 mk hl⟩
def both (ns : List Int) (q : Int × Int) : Bool := decide (q.1 ∈ ns) && decide (q.2 ∈ ns)
def spTied : Sp := fun vs H Q _ => ∃ (a t : Addr) (m : Int) (us : List V) (ars : List (Int × Int)) (p : Addr) (ns : List Int), vs = [.ref a, .ref p] ∧ Web H a t m us ars ∧ H p = some (.tup (ns.map V.int)) ∧ ns.length ≤ 1000 ∧
  ∀ (l : Addr) (ws : List V) (H' : Hp), Same H H' → H' l = some (.lst ws) → Ars H' ws (ars.filter (both ns)) → Q (.ref l) H'
theorem arsLen {H : Hp} {us : List V} {ars : List (Int × Int)} (h : Ars H us ars) : us.length = ars.length := Paired.length h
theorem filter_snoc {α : Type} (f : α → Bool) (l : List α) (i : Nat) (x : α) (h : l[i]? = some x) : (l.take (i + 1)).filter f = (l.take i).filter f ++ (if f x = true then [x] else []) := by
  rw [take_snoc _ _ _ h, List.filter_append, List.filter_cons, List.filter_nil]
theorem kn_tied (D : DefAt K mg "tied_arrows" s_tied_arrows ["web", "places"]) (km : Kn P w K mg base 1 "marked" ["places"] spMarked) : Kn P w K mg base 2 "tied_arrows" ["web", "places"] spTied := by
  have sc : FnScope ["web", "places", "inside"] ["web", "places"] (defScope s_tied_arrows) := ⟨rfl, rfl, rfl, by decide +kernel, rfl, by decide +kernel, by decide +kernel⟩
  refine D.kn (N := ["web", "places", "inside"]) sc (fun vs H Q E h => ?_) (fun f cdv A outer s H vs Q E hr h => ?_)
  · obtain ⟨a, t, m, us, ars, p, ns, rfl, _⟩ := h
    rfl
  · obtain ⟨a, t, m, us, ars, p, ns, rfl, W, hp, hz, k⟩ := h
    have hu := hu_of hr
    have nd : (["arrow", "inside"] : List Str).Nodup := by decide +kernel
    refine ⟨_, pss_cons (ps_set (i := 2) sc.nd rfl (Or.inr rfl) (pe_kn km hr (pa_cons (pv 1) pa_nil)))
      (pss_one (ps_ret (pe_lc (N := ["arrow", "inside"]) (src := [none, some 2]) rfl ⟨rfl, rfl, rfl, rfl, ⟨⟨rfl, rfl⟩, trivial⟩, rfl, rfl, rfl⟩ (gown_name (i := 0) rfl) (pi_tup (pe_ix ix_tup (pv 0) pe_int (fun _ _ => rfl)))
        (fun C s H fp => ⟨pg_name (i := 0) nd rfl (Or.inl rfl), pifs_one (PW.pt (pw_and (pt_cmp (pc_din hu (pe_ix (r := rIxT K) ix_tup (pv 0) pe_int (fun _ _ => rfl)) (pv 1))) (pw_and1 (pt_cmp (pc_din hu (pe_ix (r := rIxT K) ix_tup (pv 0) pe_int (fun _ _ => rfl)) (pv 1)))))), pv 0⟩)))), ?_⟩
    refine ⟨_, rfl, p, ns, rfl, hp, hz, fun d kvs H1 s1 hd hd1 mk hl => ?_⟩
    have W1 := W.mono s1
    have lu := arsLen W.ars
    refine ⟨_, rfl, a, _, _, _, rfl, rfl, SqT.of W1.top, rfl, t, rfl, ⟨_, SqT.of W1.arr⟩, lc_tup (xs := us) (fun i zs H' => Same H1 H' ∧ Ars H1 zs ((ars.take i).filter (both ns))) ⟨Same.refl _, .nil⟩ ?_ ?_ ?_⟩
    · rintro i zs H' hi ⟨s2, hz'⟩
      refine ⟨SqT.of (s2 _ _ W1.arr), ?_⟩
      have := arsLen hz'
      have h2 : ((ars.take i).filter (both ns)).length ≤ (ars.take i).length := List.length_filter_le _ _
      rw [List.length_take] at h2
      have h3 := W.len
      exact Nat.le_of_lt (small1000 (by omega))
    · rintro zs H' ⟨s2, hz'⟩ l hl'
      rw [lu, List.take_of_length_le (Nat.le_refl _)] at hz'
      exact k l zs _ ((s1.trans s2).trans (Same.upd hl')) upd_same (hz'.mono (s2.trans (Same.upd hl')))
    · rintro i x zs H' h1 hi ⟨s2, hz'⟩
      obtain ⟨q, e1, r, rfl, hr'⟩ := Paired.get' W1.ars h1
      have g1 : DGet H' d (.int q.1) (valV kvs (Sum.inl q.1)) := DGet.k (k := Sum.inl q.1) (s2 _ _ hd1)
      have g2 : DGet H' d (.int q.2) (valV kvs (Sum.inl q.2)) := DGet.k (k := Sum.inl q.2) (s2 _ _ hd1)
      refine ⟨_, rfl, r, _, _, _, rfl, rfl, SqT.of (s2 _ _ hr'), rfl, _, rfl, d, _, rfl, g1, _, rfl, ?_⟩
      rw [mk q.1]
      have fin : ∀ b : Bool, both ns q = b → if b = true then ∃ m', m' < us.length - i ∧ Wn us.length (fun i zs H' => Same H1 H' ∧ Ars H1 zs ((ars.take i).filter (both ns))) (i + 1) m' (zs ++ [.ref r]) H' else ∃ m', m' < us.length - i ∧ Wn us.length (fun i zs H' => Same H1 H' ∧ Ars H1 zs ((ars.take i).filter (both ns))) (i + 1) m' zs H' := by
        intro b hb
        cases b with
        | true =>
          refine iteT (nx hi ⟨s2, ?_⟩)
          rw [filter_snoc _ _ _ _ e1, if_pos hb]
          exact Paired.snoc hz' ⟨r, rfl, hr'⟩
        | false =>
          refine iteF (nx hi ⟨s2, ?_⟩)
          rw [filter_snoc _ _ _ _ e1, if_neg (by rw [hb]; decide), List.append_nil]
          exact hz'
      refine ite2 (fun h2 => ?_) (fun h2 => ?_)
      · refine ⟨_, rfl, r, _, _, _, rfl, rfl, SqT.of (s2 _ _ hr'), rfl, _, rfl, d, _, rfl, g2, _, rfl, ?_⟩
        rw [mk q.2]
        have := fin (decide (q.2 ∈ ns)) (by unfold both; rw [h2]; rfl)
        refine ite2 (fun h3 => ?_) (fun h3 => ?_)
        · rw [if_pos h3] at this
          exact ⟨_, rfl, this⟩
        · rw [if_neg h3] at this
          exact this
      · have := fin false (by unfold both; rw [Bool.eq_false_iff.mpr h2]; rfl)
        exact this
def heldB (ars : List (Int × Int)) (ns : List Int) (k : Int) : Bool := decide (k ∈ ns) || ars.any fun q => decide (q.1 = k) && decide (q.2 ∈ ns)
def lostL (m : Int) (ars : List (Int × Int)) (ns : List Int) : List Int := ((List.range m.toNat).map fun (k : Nat) => (k : Int)).filter fun k => !heldB ars ns k
def HK (kvs : List (Key × V)) (ars : List (Int × Int)) (ns : List Int) : Prop := ∀ n : Int, (valV kvs (Sum.inl n)).isSome = heldB ars ns n
def spLost : Sp := fun vs H Q _ => ∃ (a t : Addr) (m : Int) (us : List V) (ars : List (Int × Int)) (p : Addr) (ns : List Int), vs = [.ref a, .ref p] ∧ Web H a t m us ars ∧ H p = some (.tup (ns.map V.int)) ∧ ns.length ≤ 1000 ∧
  ∀ (l : Addr) (H' : Hp), Same H H' → H' l = some (.lst ((lostL m ars ns).map V.int)) → Q (.ref l) H'
theorem heldB_snoc (ars : List (Int × Int)) (ns : List Int) (q : Int × Int) (k : Int) : heldB (ars ++ [q]) ns k = (heldB ars ns k || (decide (q.1 = k) && decide (q.2 ∈ ns))) := by
  unfold heldB
  rw [List.any_append, Bool.or_assoc]
  simp
theorem kn_lost (D : DefAt K mg "lost_places" s_lost_places ["web", "places"]) (fr : Free mg ["dict", "range"]) (km : Kn P w K mg base 1 "marked" ["places"] spMarked) : Kn P w K mg base 2 "lost_places" ["web", "places"] spLost := by
  have sc : FnScope ["web", "places", "inside", "held", "a", "b"] ["web", "places"] (defScope s_lost_places) := ⟨rfl, rfl, rfl, by decide +kernel, rfl, by decide +kernel, by decide +kernel⟩
  refine D.kn (N := ["web", "places", "inside", "held", "a", "b"]) sc (fun vs H Q E h => ?_) (fun f cdv A outer s H vs Q E hr h => ?_)
  · obtain ⟨a, t, m, us, ars, p, ns, rfl, _⟩ := h
    rfl
  · obtain ⟨a, t, m, us, ars, p, ns, rfl, W, hp, hz, k⟩ := h
    have hu := hu_of hr
    have m1 := fr "dict" (by simp)
    have m2 := fr "range" (by simp)
    have nd : (["place", "held"] : List Str).Nodup := by decide +kernel
    refine ⟨_, pss_cons (ps_set (i := 2) sc.nd rfl (Or.inl rfl) (pe_kn km hr (pa_cons (pv 1) pa_nil)))
      (pss_cons (ps_set (i := 3) sc.nd rfl (Or.inr rfl) (pe_callTy call_dict_of rfl m1 boot_tdict (pa_cons (pv 2) pa_nil)))
      (pss_cons (ps_for PassesOwn.never rfl (pi_tup (pe_ix ix_tup (pv 0) pe_int (fun _ _ => rfl))) (pg_tup (n := 2) rfl (pgs_cons (pg_name (i := 4) sc.nd rfl (Or.inl rfl)) (pgs_cons (pg_name (i := 5) sc.nd rfl (Or.inl rfl)) pgs_nil)))
        (pss_one (ps_if (pt_cmp (pc_din hu (pv 5) (pv 2))) (pss_one (ps_dput hu (pv 3) (pv 4) pe_bl rfl)) pss_nil)))
      (pss_one (ps_ret (pe_lc (N := ["place", "held"]) (src := [none, some 3]) rfl ⟨rfl, rfl, rfl, rfl, ⟨⟨rfl, rfl⟩, trivial⟩, rfl, rfl, rfl⟩ (gown_name (i := 0) rfl) (pi_range1 rfl m2 (pa_cons (pe_ix ix_tup (pv 0) pe_int (fun _ _ => rfl)) pa_nil))
        (fun C s H fp => ⟨pg_name (i := 0) nd rfl (Or.inl rfl), pifs_one (pt_cmp (pc_dnotin hu (pv 0) (pv 1))), pv 0⟩)))))), ?_⟩
    refine ⟨_, rfl, p, ns, rfl, hp, hz, fun d kvs H1 s1 hd hd1 mk hl => ?_⟩
    refine ⟨_, rfl, d, kvs, rfl, hd1, fun e he => ?_⟩
    have s1' : Same H1 (upd H1 e (.dK kvs)) := Same.upd he
    have s0 := s1.trans s1'
    have W1 := W.mono s0
    have lu := arsLen W.ars
    have ned : e ≠ d := fun z => by rw [z, hd1] at he; cases he
    refine ⟨_, rfl, a, _, _, _, rfl, rfl, SqT.of W1.top, rfl, t, rfl, ⟨_, SqT.of W1.arr⟩, for_tup (K := K) (xs := us) (fun i σ H2 => ∃ (kv2 : List (Key × V)) (v1 v2 : Option V), σ = [some (.ref a), some (.ref p), some (.ref d), some (.ref e), v1, v2] ∧ Same H1 H2 ∧ H2 e = some (.dK kv2) ∧ HK kv2 (ars.take i) ns ∧ kv2.length ≤ 1000 + i)
      ⟨kvs, none, none, rfl, s1', upd_same, fun n => ?_, ?_⟩ (fun i σ H2 _ ⟨_, _, _, _, s2, _⟩ => SqT.of (s2 _ _ (s1 _ _ W.arr))) ?_ ?_⟩
    · rw [mk n]
      unfold heldB
      simp
    · omega
    · rintro i y σ H2 hi ⟨kv2, v1, v2, rfl, s2, he2, hk, hl2⟩
      obtain ⟨q, e1, r, rfl, hr'⟩ := Paired.get' W1.ars hi
      have hr2 : H2 r = some (.tup [.int q.1, .int q.2]) := by
        obtain ⟨q', e1', r', er, hr''⟩ := Paired.get' (W.mono s1).ars hi
        cases er
        rw [e1] at e1'
        cases e1'
        exact s2 _ _ hr''
      have hil : i < us.length := (List.getElem?_eq_some_iff.mp hi).1
      have hlu := W.len
      refine ⟨r, _, rfl, SqT.of hr2, rfl, _, _, rfl, _, _, rfl, rfl, ?_⟩
      have g1 : DGet H2 d (.int q.2) (valV kvs (Sum.inl q.2)) := DGet.k (k := Sum.inl q.2) (s2 _ _ hd1)
      refine ⟨_, rfl, _, rfl, d, _, rfl, g1, _, rfl, ?_⟩
      rw [mk q.2]
      refine ite2 (fun h2 => ?_) (fun h2 => ?_)
      · refine ⟨_, rfl, _, rfl, e, _, rfl, DPut.k (k := Sum.inl q.1) he2 (smallN (by omega)), ?_⟩
        refine ⟨_, _, _, rfl, fun b o eb => ?_, upd_same, fun n => ?_, Nat.le_trans (length_putK _ _ _) (by omega)⟩
        · rw [upd_ne (ne_of_none eb he)]
          exact s2 _ _ eb
        · rw [valV_put, take_snoc _ _ _ e1, heldB_snoc, h2]
          by_cases en : n = q.1
          · subst en
            simp
          · have en' : ¬ (Sum.inl n : Key) = Sum.inl q.1 := fun z => en (Sum.inl.inj z)
            rw [if_neg en', hk n]
            simp [Ne.symm en]
      · refine ⟨kv2, _, _, rfl, s2, he2, fun n => ?_, by omega⟩
        rw [take_snoc _ _ _ e1, heldB_snoc, Bool.eq_false_iff.mpr h2, hk n]
        simp
    · rintro σ H2 ⟨kv2, v1, v2, rfl, s2, he2, hk, hl2⟩
      rw [lu, List.take_of_length_le (Nat.le_refl _)] at hk
      have hm := W.mb
      refine ⟨_, rfl, a, _, _, _, rfl, rfl, SqT.of (s2 _ _ (s1 _ _ W.top)), rfl, m, rfl, by omega, by omega, lc_range (fun i zs H' => Same H2 H' ∧ zs = ((((List.range m.toNat).map fun (k : Nat) => (k : Int)).take i).filter fun k => !heldB ars ns k).map V.int) ⟨Same.refl _, rfl⟩ ?_ ?_ ?_⟩
      · rintro i zs H' hi ⟨s3, rfl⟩
        have h2 := List.length_filter_le (fun k => !heldB ars ns k) (((List.range m.toNat).map fun (k : Nat) => (k : Int)).take i)
        rw [List.length_take, List.length_map, List.length_range] at h2
        rw [List.length_map]
        exact Nat.le_of_lt (small1000 (by omega))
      · rintro zs H' ⟨s3, rfl⟩ l hl'
        rw [List.take_of_length_le (by simp)]
        exact k l _ (((s1.trans s2).trans s3).trans (Same.upd hl')) upd_same
      · rintro i zs H' hi ⟨s3, rfl⟩
        have e1 : ((List.range m.toNat).map fun (k : Nat) => (k : Int))[i]? = some (0 + (i : Int)) := by simp [hi]
        have g1 : DGet H' e (.int (0 + (i : Int))) (valV kv2 (Sum.inl (0 + (i : Int)))) := DGet.k (k := Sum.inl (0 + (i : Int))) (s3 _ _ he2)
        refine ⟨_, rfl, _, rfl, e, _, rfl, g1, _, rfl, ?_⟩
        rw [hk]
        refine ite2 (fun h2 => ?_) (fun h2 => ?_)
        · refine ⟨_, rfl, nx hi ⟨s3, ?_⟩⟩
          rw [filter_snoc _ _ _ _ e1, if_pos h2, List.map_append]
          rfl
        · refine nx hi ⟨s3, ?_⟩
          rw [filter_snoc _ _ _ _ e1, if_neg h2, List.append_nil]
end
end Hk

namespace Hk
open PySem L2
section
variable {P : Program} {w : World} {K : PySem.W.Frag} {mg : Str → Option Value} {base : Heap}
def hgM (m : Int) (ars : List (Int × Int)) (o : Option (List V)) : Bool := plsG m o && match o with
  | none => false
  | some ys => (ars.filter (both (intsOf ys))).isEmpty && (lostL m ars (intsOf ys)).isEmpty
def spHold : Sp := fun vs H Q _ => ∃ (a t : Addr) (m : Int) (us : List V) (ars : List (Int × Int)) (x : V) (o : Option (List V)), vs = [.ref a, x] ∧ Web H a t m us ars ∧ Thing H x o ∧ (∀ ys, o = some ys → ys.length ≤ 1000) ∧ ∀ H', Same H H' → Q (.bl (hgM m ars o)) H'
theorem kn_hold (D : DefAt K mg "hold_good" s_hold_good ["web", "thing"]) (kp : Kn P w K mg base 3 "places_good" ["web", "thing"] spPlaces) (kt : Kn P w K mg base 2 "tied_arrows" ["web", "places"] spTied) (kl : Kn P w K mg base 2 "lost_places" ["web", "places"] spLost) :
    Kn P w K mg base 4 "hold_good" ["web", "thing"] spHold := by
  have sc : FnScope ["web", "thing"] ["web", "thing"] (defScope s_hold_good) := ⟨rfl, rfl, rfl, by decide +kernel, rfl, by decide +kernel, by decide +kernel⟩
  refine D.kn (N := ["web", "thing"]) sc (fun vs H Q E h => ?_) (fun f cdv A outer s H vs Q E hr h => ?_)
  · obtain ⟨a, t, m, us, ars, x, o, rfl, _⟩ := h
    rfl
  · obtain ⟨a, t, m, us, ars, x, o, rfl, W, th, hz, k⟩ := h
    have hu : _ < cLine := hr.units0
    refine ⟨_, pss_one (ps_ret (pe_and (pe_kn kp hr (pa_cons (pv 0) (pa_cons (pv 1) pa_nil))) (pe_and (pe_cmpR (op_eqNil hu) (pe_kn kt (hr.mono (by decide)) (pa_cons (pv 0) (pa_cons (pv 1) pa_nil))) (pe_lst pa_nil) (nomark _))
      (pe_one (pe_cmpR (op_eqNil hu) (pe_kn kl (hr.mono (by decide)) (pa_cons (pv 0) (pa_cons (pv 1) pa_nil))) (pe_lst pa_nil) (nomark _)))))), ?_⟩
    refine ⟨_, rfl, _, rfl, a, m, _, x, o, rfl, W.top, th, fun H1 s1 => ⟨_, rfl, ite2 (fun h1 => ?_) (fun h1 => ?_)⟩⟩
    · cases th with
      | oth d n => exact absurd h1 (by simp [plsG])
      | tup hp ty z =>
        rename_i p ys
        have h1' : (ys.all (plG m) && risesI (intsOf ys)) = true := h1
        rw [Bool.and_eq_true] at h1'
        have e := ints_of_all h1'.1
        have hz1 := hz ys rfl
        have hzz : (intsOf ys).length ≤ 1000 := by
          rw [e, List.length_map] at hz1
          exact hz1
        rw [e] at hp
        have hg : hgM m ars (some ys) = ((ars.filter (both (intsOf ys))).isEmpty && (lostL m ars (intsOf ys)).isEmpty) := by
          unfold hgM
          rw [h1]
          rfl
        refine ⟨_, rfl, _, rfl, a, t, m, us, ars, p, intsOf ys, rfl, W.mono s1, s1 _ _ hp, hzz, fun l ws H2 s2 hl ha => ?_⟩
        refine ⟨Nat.zero_le _, fun l0 hl0 => ?_⟩
        have n0 : l ≠ l0 := ne_of_none hl hl0
        have ew : ws.isEmpty = (ars.filter (both (intsOf ys))).isEmpty := by
          have := arsLen ha
          cases ws with
          | nil => cases q : ars.filter (both (intsOf ys)) with
            | nil => rfl
            | cons _ _ => rw [q] at this; cases this
          | cons _ _ => cases q : ars.filter (both (intsOf ys)) with
            | nil => rw [q] at this; cases this
            | cons _ _ => rfl
        refine ⟨l, l0, ws, rfl, rfl, SqL.of (by rw [upd_ne n0]; exact hl), SqL.of upd_same, _, rfl, ?_⟩
        rw [ew]
        have s3 := (s1.trans s2).trans (Same.upd (o := HO.lst []) hl0)
        refine ite2 (fun h2 => ?_) (fun h2 => ?_)
        · refine ⟨_, rfl, _, rfl, a, t, m, us, ars, p, intsOf ys, rfl, W.mono s3, s3 _ _ hp, hzz, fun l' H3 s4 hl' => ?_⟩
          refine ⟨Nat.zero_le _, fun l1 hl1 => ?_⟩
          have n1 : l' ≠ l1 := ne_of_none hl' hl1
          refine ⟨l', l1, _, rfl, rfl, SqL.of (by rw [upd_ne n1]; exact hl'), SqL.of upd_same, ?_⟩
          have e3 : hgM m ars (some ys) = ((lostL m ars (intsOf ys)).map V.int).isEmpty := by
            rw [hg, h2]
            simp
          rw [← e3]
          exact k _ ((s3.trans s4).trans (Same.upd hl1))
        · have e3 : hgM m ars (some ys) = false := by
            rw [hg, Bool.eq_false_iff.mpr h2]
            rfl
          rw [← e3]
          exact k _ s3
    · have e3 : hgM m ars o = false := by
        unfold hgM
        rw [Bool.eq_false_iff.mpr h1]
        rfl
      rw [← e3]
      exact k _ s1
end
end Hk

namespace Hk
open PySem L2
section
variable {P : Program} {w : World} {K : PySem.W.Frag} {mg : Str → Option Value} {base : Heap}
def spCell (K : PySem.W.Frag) : Sp := fun vs H Q _ => ∃ (a : Addr) (ns : List Int) (k : Nat), vs = [.ref a, .int k] ∧ SqL K H a (ns.map V.int) ∧ ∀ n : Int, Q (.int n) H
theorem kn_cell (D : DefAt K mg "_law_cell_at" s_law_cell_at ["script", "k"]) (fr : Free mg ["len"]) : Kn P w K mg base 1 "_law_cell_at" ["script", "k"] (spCell K) := by
  have sc : FnScope ["script", "k"] ["script", "k"] (defScope s_law_cell_at) := ⟨rfl, rfl, rfl, by decide +kernel, rfl, by decide +kernel, by decide +kernel⟩
  refine D.kn (N := ["script", "k"]) sc (fun vs H Q E h => ?_) (fun f cdv A outer s H vs Q E hr h => ?_)
  · obtain ⟨a, ns, k, rfl, _⟩ := h
    rfl
  · obtain ⟨a, ns, k, rfl, hq, kk⟩ := h
    have m1 := fr "len" (by simp)
    refine ⟨_, pss_cons (ps_if (pt_cmpR op_lt (pv 1) (pe_callB call_len_seq rfl m1 PySem.boot_len (pa_cons (pv 0) pa_nil)) (nomark _)) (pss_one (ps_ret (pe_ix ix_list (pv 0) (pv 1) (fun _ _ => rfl)))) pss_nil) (pss_one (ps_ret pe_int)), ?_⟩
    refine ⟨_, rfl, _, rfl, a, _, rfl, .inl hq, _, _, rfl, rfl, _, rfl, ite2 (fun h1 => ?_) (fun h1 => ?_)⟩
    · have h2 : k < ns.length := by
        have := of_decide_eq_true h1
        rw [List.length_map] at this
        omega
      exact ⟨_, rfl, _, rfl, a, _, _, V.int ns[k], rfl, rfl, hq, atI_nat (by simp [h2]), kk _⟩
    · exact kk 0
def spNext : Sp := fun vs H Q _ => ∃ n : Int, vs = [.int n] ∧ ∀ r : Int, Q (.int r) H
theorem kn_next (D : DefAt K mg "_law_next" s_law_next ["seed"]) : Kn P w K mg base 1 "_law_next" ["seed"] spNext := by
  have sc : FnScope ["seed"] ["seed"] (defScope s_law_next) := ⟨rfl, rfl, rfl, by decide +kernel, rfl, by decide +kernel, by decide +kernel⟩
  refine D.kn (N := ["seed"]) sc (fun vs H Q E h => ?_) (fun f cdv A outer s H vs Q E hr h => ?_)
  · obtain ⟨n, rfl, _⟩ := h
    rfl
  · obtain ⟨n, rfl, kk⟩ := h
    refine ⟨_, pss_cons (ps_set (i := 0) sc.nd rfl (Or.inl rfl) (pe_op op_mod (pe_op op_add (pv 0) pe_int) pe_int))
      (pss_one (ps_ret (pe_op op_mod (pe_op op_add (pe_op op_add (pe_op op_mul (pv 0) (pv 0)) (pe_op op_mul pe_int (pv 0))) pe_int) pe_int))), ?_⟩
    refine ⟨_, rfl, _, _, rfl, rfl, _, _, rfl, rfl, (by show (0 : Int) < 2147483647; decide), ?_⟩
    have b1 : 0 ≤ (n + 7919) % 2147483647 := Int.emod_nonneg _ (by decide)
    have b2 : (n + 7919) % 2147483647 < 2147483647 := Int.emod_lt_of_pos _ (by decide)
    refine ⟨_, rfl, _, rfl, _, _, rfl, rfl, .inl ⟨by omega, by omega⟩, _, rfl, _, _, rfl, rfl, .inl ⟨by decide, by decide⟩, _, _, rfl, rfl, _, _, rfl, rfl, _, _, rfl, rfl, (by show (0 : Int) < 2147483629; decide), kk _⟩
def PenAt (H : Hp) (p : Addr) : Prop := ∃ a b c : Int, H p = some (.lst [.int a, .int b, .int c])
def spPen : Sp := fun vs H Q _ => ∃ n : Int, vs = [.int n] ∧ ∀ (p : Addr) (H' : Hp), Same H H' → H p = none → PenAt H' p → Q (.ref p) H'
theorem kn_pen (D : DefAt K mg "_law_pen_of" s_law_pen_of ["cell"]) (fr : Free mg ["max", "int"]) : Kn P w K mg base 1 "_law_pen_of" ["cell"] spPen := by
  have sc : FnScope ["cell", "left"] ["cell"] (defScope s_law_pen_of) := ⟨rfl, rfl, rfl, by decide +kernel, rfl, by decide +kernel, by decide +kernel⟩
  refine D.kn (N := ["cell", "left"]) sc (fun vs H Q E h => ?_) (fun f cdv A outer s H vs Q E hr h => ?_)
  · obtain ⟨n, rfl, _⟩ := h
    rfl
  · obtain ⟨n, rfl, kk⟩ := h
    have m1 := fr "max" (by simp)
    have m2 := fr "int" (by simp)
    refine ⟨_, pss_cons (ps_set (i := 1) sc.nd rfl (Or.inl rfl) (pe_callB (call_max2 rfl) rfl m1 boot_fmax (pa_cons (pv 0) (pa_cons (pe_op op_sub pe_int (pv 0)) pa_nil))))
      (pss_one (ps_ret (pe_lst (pa_cons (pv 1) (pa_cons (pe_callTy call_int1 rfl m2 boot_tint (pa_cons (pe_cmpR op_ge (pv 1) (pe_op op_pow pe_int pe_int) (nomark _)) pa_nil)) (pa_cons (pe_op op_mod (pv 1) pe_int) pa_nil)))))), ?_⟩
    refine ⟨_, rfl, _, rfl, _, _, rfl, rfl, _, _, rfl, ?_⟩
    refine ⟨_, rfl, _, rfl, _, _, rfl, rfl, ⟨by decide, by decide, by decide⟩, _, _, rfl, rfl, .inr ⟨_, rfl, ?_⟩⟩
    refine ⟨_, rfl, _, _, rfl, rfl, (by show (0 : Int) < 1000003; decide), ?_, fun p hp => ?_⟩
    · show 3 ≤ sizeLine
      decide
    · exact kk p _ (Same.upd hp) hp ⟨_, _, _, upd_same⟩
theorem log_small {m : Int} (h0 : 0 < m) (h1 : m ≤ 1000000000000000000000000000000000000000000000000000000000000) : m.natAbs.log2 < 9000 := by
  have h2 : m.natAbs < 2 ^ 200 := by
    have : (2 : Nat) ^ 200 = 1606938044258990275541962092341162602522202993782792835301376 := by decide +kernel
    rw [this]
    omega
  have := (Nat.log2_lt (n := m.natAbs) (k := 200) (by omega)).mpr h2
  omega
def spDraw : Sp := fun vs H Q _ => ∃ (p : Addr) (m : Int), vs = [.ref p, .int m] ∧ PenAt H p ∧ 0 < m ∧ m ≤ 1000000000000000000000000000000000000000000000000000000000000 ∧ ∀ (r : Int) (H' : Hp), 0 ≤ r → r < m → SameBut p H H' → PenAt H' p → Q (.int r) H'
theorem kn_draw (D : DefAt K mg "_law_draw" s_law_draw ["pen", "many"]) (kx : Kn P w K mg base 1 "_law_next" ["seed"] spNext) : Kn P w K mg base 2 "_law_draw" ["pen", "many"] spDraw := by
  have sc : FnScope ["pen", "many", "found"] ["pen", "many"] (defScope s_law_draw) := ⟨rfl, rfl, rfl, by decide +kernel, rfl, by decide +kernel, by decide +kernel⟩
  refine D.kn (N := ["pen", "many", "found"]) sc (fun vs H Q E h => ?_) (fun f cdv A outer s H vs Q E hr h => ?_)
  · obtain ⟨p, m, rfl, _⟩ := h
    rfl
  · obtain ⟨p, m, rfl, ⟨a, b, c, hp⟩, h0, h1, kk⟩ := h
    have lg := log_small h0 h1
    refine ⟨_, pss_cons (ps_if (pt_cmpR op_eq (pe_ix ix_list (pv 0) pe_int (fun _ _ => rfl)) pe_int (nomark _))
        (pss_cons (ps_set (i := 2) sc.nd rfl (Or.inl rfl) (pe_op op_mod (pe_ix ix_list (pv 0) pe_int (fun _ _ => rfl)) (pv 1)))
        (pss_cons (ps_asg (pe_op op_fdivW (pe_ix ix_list (pv 0) pe_int (fun _ _ => rfl)) (pv 1)) (pg_sub (pv 0) pe_int set_list)) (pss_one (ps_ret (pv 2))))) pss_nil)
      (pss_cons (ps_asg (pe_kn kx hr (pa_cons (pe_op op_add (pe_kn kx hr (pa_cons (pe_ix ix_list (pv 0) pe_int (fun _ _ => rfl)) pa_nil)) pe_int) pa_nil)) (pg_sub (pv 0) pe_int set_list))
      (pss_one (ps_ret (pe_op op_mod (pe_op op_fdiv (pe_ix ix_list (pv 0) pe_int (fun _ _ => rfl)) pe_int) (pv 1))))), ?_⟩
    refine ⟨_, rfl, p, _, _, _, rfl, rfl, SqL.of hp, rfl, rfl, _, rfl, ite2 (fun h2 => ?_) (fun h2 => ?_)⟩
    · refine ⟨_, rfl, p, _, _, _, rfl, rfl, SqL.of hp, rfl, _, rfl, _, _, rfl, rfl, h0, ?_⟩
      refine ⟨_, rfl, p, _, _, _, rfl, rfl, SqL.of hp, rfl, _, rfl, _, _, rfl, rfl, ⟨h0, lg⟩, ?_⟩
      refine ⟨_, rfl, p, _, _, 0, rfl, rfl, hp, rfl, ?_⟩
      refine ⟨_, rfl, kk _ _ (Int.emod_nonneg _ (by omega)) (Int.emod_lt_of_pos _ h0) SameBut.upd ⟨_, _, _, upd_same⟩⟩
    · refine ⟨_, rfl, p, _, _, _, rfl, rfl, SqL.of hp, rfl, _, rfl, fun r1 => ?_⟩
      refine ⟨_, _, rfl, rfl, _, rfl, fun r2 => ?_⟩
      refine ⟨_, rfl, p, _, _, 2, rfl, rfl, hp, rfl, ?_⟩
      refine ⟨_, rfl, p, _, _, _, rfl, rfl, SqL.of upd_same, rfl, _, _, rfl, rfl, ⟨by decide, by decide⟩, _, rfl, _, _, rfl, rfl, h0, ?_⟩
      exact kk _ _ (Int.emod_nonneg _ (by omega)) (Int.emod_lt_of_pos _ h0) SameBut.upd ⟨_, _, _, upd_same⟩
end
end Hk

namespace Hk
open PySem L2
structure Rise (ns : List Int) (m : Int) : Prop where
  bd : ∀ n ∈ ns, 0 ≤ n ∧ n < m
  up : ns.Pairwise (· < ·)
theorem rises_of : ∀ {ns : List Int}, ns.Pairwise (· < ·) → risesI ns = true
  | [], _ => rfl
  | [_], _ => rfl
  | a :: b :: r, h => by
    rw [List.pairwise_cons] at h
    show (decide (a < b) && risesI (b :: r)) = true
    rw [decide_eq_true (h.1 b (by simp)), rises_of h.2]
    rfl
theorem up_len {m : Int} : ∀ {ns : List Int} {lo : Int}, (∀ n ∈ ns, lo ≤ n ∧ n < m) → ns.Pairwise (· < ·) → ns.length ≤ (m - lo).toNat
  | [], _, _, _ => Nat.zero_le _
  | a :: r, lo, hb, hp => by
    rw [List.pairwise_cons] at hp
    have h1 := hb a (by simp)
    have h2 := up_len (m := m) (ns := r) (lo := a + 1) (fun n hn => ⟨hp.1 n hn, (hb n (by simp [hn])).2⟩) hp.2
    rw [List.length_cons]
    omega
theorem Rise.len {ns : List Int} {m : Int} (h : Rise ns m) : ns.length ≤ m.toNat := by
  have := up_len h.bd h.up
  omega
theorem Rise.pls {ns : List Int} {m : Int} (h : Rise ns m) : plsG m (some (ns.map V.int)) = true := by
  show ((ns.map V.int).all (plG m) && risesI (intsOf (ns.map V.int))) = true
  rw [intsOf_map, rises_of h.up, Bool.and_true, List.all_map]
  refine List.all_eq_true.mpr fun n hn => ?_
  have := h.bd n hn
  show (decide (0 ≤ n) && decide (n < m)) = true
  rw [decide_eq_true this.1, decide_eq_true this.2]
  rfl
end Hk

namespace Hk
open PySem L2
def holdB (m : Int) (ars : List (Int × Int)) (ns : List Int) : Bool := (ars.filter (both ns)).isEmpty && (lostL m ars ns).isEmpty
theorem hg_rise {m : Int} {ars : List (Int × Int)} {ns : List Int} (R : Rise ns m) : hgM m ars (some (ns.map V.int)) = holdB m ars ns := by
  unfold hgM holdB
  rw [R.pls, Bool.true_and]
  show ((ars.filter (both (intsOf (ns.map V.int)))).isEmpty && (lostL m ars (intsOf (ns.map V.int))).isEmpty) = _
  rw [intsOf_map]
theorem thing_ints' {H : Hp} {q : Addr} {ns : List Int} (hq : H q = some (.tup (ns.map V.int))) (hl : ns.length ≤ 1000) : Thing H (.ref q) (some (ns.map V.int)) := by
  refine .tup hq (fun y hy => ?_) ?_
  · obtain ⟨n, _, rfl⟩ := List.mem_map.mp hy
    exact ⟨_, .int n⟩
  · rw [List.length_map]
    exact Nat.le_of_lt (small1000 hl)
end Hk

namespace Hk
open PySem L2
section
variable {P : Program} {w : World} {K : PySem.W.Frag} {mg : Str → Option Value} {base : Heap}
theorem PenAt.mono {H H' : Hp} {p : Addr} (s : Same H H') (h : PenAt H p) : PenAt H' p := by
  obtain ⟨x, y, z, e⟩ := h
  exact ⟨x, y, z, s _ _ e⟩
theorem pen_tup {H : Hp} {p q : Addr} {xs : List V} (hp : PenAt H p) (hq : H q = some (.tup xs)) : q ≠ p := by
  obtain ⟨a, b, c, e⟩ := hp
  exact ne_of hq e (by intro z; cases z)
theorem Web.but {H H' : Hp} {a t p : Addr} {m : Int} {vs : List V} {ars : List (Int × Int)} (h : Web H a t m vs ars) (hp : PenAt H p) (s : SameBut p H H') : Web H' a t m vs ars :=
  ⟨s _ _ (pen_tup hp h.top) h.top, s _ _ (pen_tup hp h.arr) h.arr, Paired.mapP h.ars fun _ _ ⟨q, e, z⟩ => ⟨q, e, s _ _ (pen_tup hp z) z⟩, h.len, h.mb⟩
def GoodA (m : Int) (prs : List (Int × Int)) : Prop := ∀ q ∈ prs, 0 ≤ q.1 ∧ q.1 < m ∧ 0 ≤ q.2 ∧ q.2 < m ∧ q.1 ≠ q.2
def DT (H : Hp) (d : Addr) (m : Int) (n : Nat) : Prop := ∃ (kvs : List (List Key × V)) (prs : List (Int × Int)), H d = some (.dT kvs) ∧ kvs.map (·.1) = prs.map prKey ∧ GoodA m prs ∧ kvs.length ≤ n
theorem DT.put {H : Hp} {d b : Addr} {m : Int} {n : Nat} {x y : Int} (h : DT H d m n) (hb : H b = none) (hn : n ≤ 1000) (g : 0 ≤ x ∧ x < m ∧ 0 ≤ y ∧ y < m ∧ x ≠ y) (v : V) :
    ∃ H4, DPut (upd H b (.tup [.int x, .int y])) d (.ref b) v H4 ∧ DT H4 d m (n + 1) ∧ ∀ c o, c ≠ d → H c = some o → H4 c = some o := by
  obtain ⟨kvs, prs, e1, e2, e3, e4⟩ := h
  have ne : d ≠ b := ne_of_none e1 hb
  have ed : (upd H b (.tup [.int x, .int y])) d = some (.dT kvs) := by rw [upd_ne ne]; exact e1
  have eb : (upd H b (.tup [.int x, .int y])) b = some (.tup ((prKey (x, y)).map kV)) := upd_same
  refine ⟨_, DPut.t (k := prKey (x, y)) ed eb (small1000 (by omega)), ?_, fun c o hc e => ?_⟩
  · by_cases hv : valV kvs (prKey (x, y)) = none
    · refine ⟨_, prs ++ [(x, y)], upd_same, ?_, fun q hq => ?_, ?_⟩
      · rw [putK_new v hv, List.map_append, List.map_append, e2]
        rfl
      · rcases List.mem_append.mp hq with h | h
        · exact e3 q h
        · rw [List.mem_singleton] at h
          subst h
          exact g
      · exact Nat.le_trans (length_putK _ _ _) (Nat.succ_le_succ e4)
    · refine ⟨_, prs, upd_same, ?_, e3, Nat.le_trans (length_putK _ _ _) (Nat.succ_le_succ e4)⟩
      have ha : (kvs.any fun kv => decide (kv.1 = prKey (x, y))) = true := by
        rw [valV_any]
        cases q : valV kvs (prKey (x, y)) with
        | none => exact absurd q hv
        | some _ => rfl
      unfold putK
      rw [if_pos ha, List.map_map, ← e2]
      refine List.map_congr_left fun kv _ => ?_
      show (if kv.1 = prKey (x, y) then (kv.1, v) else kv).1 = kv.1
      split <;> rfl
  · rw [upd_ne hc, upd_ne (ne_of_none e hb)]
    exact e
theorem DT.keep {H H' : Hp} {d p : Addr} {m : Int} {n : Nat} (h : DT H d m n) (hp : PenAt H p) (s : SameBut p H H') : DT H' d m n := by
  obtain ⟨kvs, prs, e1, r⟩ := h
  obtain ⟨a, b, c, e⟩ := hp
  exact ⟨kvs, prs, s _ _ (ne_of e1 e (by intro z; cases z)) e1, r⟩
theorem DT.mono {H : Hp} {d : Addr} {m : Int} {n k : Nat} (h : DT H d m n) (hk : n ≤ k) : DT H d m k := by
  obtain ⟨kvs, prs, e1, e2, e3, e4⟩ := h
  exact ⟨kvs, prs, e1, e2, e3, Nat.le_trans e4 hk⟩
theorem gname_in {i : Nat} {v : V} {σ : St} {H : Hp} {Q : St → Hp → Prop} (h : Q (σ.set i (some v)) H) : gName i v σ H Q := h
theorem seq_inv {a R : TS} {D : Ends} {σ : St} {H : Hp} (Inv : St → Hp → Prop) (h : ∀ D' : Ends, (∀ σ H, Inv σ H → D'.nx σ H) → a D' σ H) (hk : ∀ σ H, Inv σ H → R D σ H) : tSeq a R D σ H := h _ hk
end
end Hk

namespace Hk
open PySem L2
section
variable {P : Program} {w : World} {K : PySem.W.Frag} {mg : Str → Option Value} {base : Heap}
theorem turned_ne {a b t m : Int} (a0 : 0 ≤ a) (a1 : a < m) (b0 : 0 ≤ b) (b1 : b < m) (h : a ≠ b) : (a + t) % m ≠ (b + t) % m := fun z => by
  have e := Int.emod_emod_of_dvd
  have h1 : (a + t - (b + t)) % m = 0 := Int.emod_eq_emod_iff_emod_sub_eq_zero.mp z
  have h2 : a + t - (b + t) = a - b := by omega
  rw [h2] at h1
  obtain ⟨c, hc⟩ := Int.dvd_of_emod_eq_zero h1
  rcases Int.lt_trichotomy c 0 with hc0 | hc0 | hc0
  · have : m * c ≤ m * (-1) := Int.mul_le_mul_of_nonneg_left (by omega) (by omega)
    omega
  · subst hc0
    omega
  · have : m * 1 ≤ m * c := Int.mul_le_mul_of_nonneg_left (by omega) (by omega)
    omega
def spWebByS : Sp := fun vs H Q _ => ∃ (p : Addr) (most : Int), vs = [.ref p, .int most] ∧ PenAt H p ∧ 1 ≤ most ∧ most ≤ 40 ∧
  ∀ (a t : Addr) (m : Int) (us : List V) (ars : List (Int × Int)) (H' : Hp), SameBut p H H' → PenAt H' p → Web H' a t m us ars → 1 ≤ m → m ≤ most → GoodA m ars → us.length ≤ 200 → (ars.Pairwise fun x y => lexB x y = true) → Q (.ref a) H'
theorem kn_webby2S (D : DefAt K mg "_law_web_by" s_law_web_by ["pen", "most"]) (fr : Free mg ["range", "tuple", "sorted", "list", "min", "max"]) (kd : Kn P w K mg base 2 "_law_draw" ["pen", "many"] spDraw) : Kn P w K mg base 3 "_law_web_by" ["pen", "most"] spWebByS := by
  have sc : FnScope ["pen", "most", "many", "way", "turn", "found", "lap", "a", "b", "place"] ["pen", "most"] (defScope s_law_web_by) := ⟨rfl, rfl, rfl, by decide +kernel, rfl, by decide +kernel, by decide +kernel⟩
  refine D.kn (N := ["pen", "most", "many", "way", "turn", "found", "lap", "a", "b", "place"]) sc (fun vs H Q E h => ?_) (fun f cdv A outer s H vs Q E hr h => ?_)
  · obtain ⟨p, m, rfl, _⟩ := h
    rfl
  · obtain ⟨p, most, rfl, hp, h1, h2, kk⟩ := h
    have hu := hu_of hr
    have m1 := fr "range" (by simp)
    have m2 := fr "tuple" (by simp)
    have m3 := fr "sorted" (by simp)
    have m4 := fr "list" (by simp)
    have m5 := fr "min" (by simp)
    have m6 := fr "max" (by simp)
    refine ⟨_, pss_cons (ps_set (i := 2) sc.nd rfl (Or.inl rfl) (pe_op op_add pe_int (pe_kn kd hr (pa_cons (pv 0) (pa_cons (pv 1) pa_nil)))))
      (pss_cons (ps_set (i := 3) sc.nd rfl (Or.inl rfl) (pe_kn kd hr (pa_cons (pv 0) (pa_cons pe_int pa_nil))))
      (pss_cons (ps_set (i := 4) sc.nd rfl (Or.inl rfl) (pe_kn kd hr (pa_cons (pv 0) (pa_cons (pv 2) pa_nil))))
      (pss_cons (ps_set (i := 5) sc.nd rfl (Or.inl rfl) pe_dnewT)
      (pss_cons (ps_for PassesOwn.never rfl (pi_range1 rfl m1 (pa_cons (pe_callB (call_min2 rfl) rfl m5 boot_fmin (pa_cons pe_int (pa_cons (pe_op op_mul (pv 2) (pe_ix ix_list (pe_lst (pa_cons pe_int (pa_cons pe_int (pa_cons pe_int (pa_cons pe_int pa_nil))))) (pe_kn kd hr (pa_cons (pv 0) (pa_cons pe_int pa_nil))) (fun _ _ => rfl))) pa_nil))) pa_nil)) (pg_name (i := 6) sc.nd rfl (Or.inl rfl))
        (pss_cons (ps_set (i := 7) sc.nd rfl (Or.inl rfl) (pe_kn kd hr (pa_cons (pv 0) (pa_cons (pv 2) pa_nil))))
        (pss_cons (ps_set (i := 8) sc.nd rfl (Or.inl rfl) (pe_kn kd hr (pa_cons (pv 0) (pa_cons (pv 2) pa_nil))))
        (pss_cons (ps_if (pt_cmpR op_eq (pv 3) pe_int (nomark _)) (pss_one (ps_par (i := 7) (j := 8) rfl sc.nd rfl rfl (by decide) rfl rfl (pa_cons (pe_callB (call_max2 rfl) rfl m6 boot_fmax (pa_cons (pv 7) (pa_cons (pv 8) pa_nil))) (pa_cons (pe_callB (call_min2 rfl) rfl m5 boot_fmin (pa_cons (pv 7) (pa_cons (pv 8) pa_nil))) pa_nil)) rfl)) pss_nil)
        (pss_one (ps_if (PW.pt (pw_and (pt_cmpR op_ne (pv 7) (pv 8) (nomark _)) (pw_and1 (PW.pt (pw_or (pt_cmpR op_ne (pv 3) pe_int (nomark _)) (pw_or1 (pt_cmpR op_eq (pe_op op_mod (pe_op op_add (pv 7) (pv 8)) pe_int) pe_int (nomark _))))))))
          (pss_one (ps_dput hu (pv 5) (pe_tup (pa_cons (pe_op op_mod (pe_op op_add (pv 7) (pv 4)) (pv 2)) (pa_cons (pe_op op_mod (pe_op op_add (pv 8) (pv 4)) (pv 2)) pa_nil))) pe_bl rfl)) pss_nil))))))
      (pss_cons (ps_if (PW.pt (pw_and (pt_cmpR op_eq (pv 3) pe_int (nomark _)) (pw_and1 (pt_cmpR op_gt (pv 2) pe_int (nomark _))))) (pss_one (ps_for PassesOwn.never rfl (pi_range1 rfl m1 (pa_cons (pv 2) pa_nil)) (pg_name (i := 9) sc.nd rfl (Or.inl rfl))
          (pss_one (ps_dput hu (pv 5) (pe_tup (pa_cons (pv 9) (pa_cons (pe_op op_mod (pe_op op_add (pv 9) pe_int) (pv 2)) pa_nil))) pe_bl rfl)))) pss_nil)
      (pss_one (ps_ret (pe_tup (pa_cons (pv 2) (pa_cons (pe_callTy call_tuple_of rfl m2 boot_ttuple (pa_cons (pe_callB call_sorted_prsS rfl m3 boot_fsorted (pa_cons (pe_callTy (call_list_prsN rfl) rfl m4 boot_tlist (pa_cons (pv 5) pa_nil)) pa_nil)) pa_nil)) pa_nil)))))))))), ?_⟩
    refine ⟨_, rfl, _, rfl, p, most, rfl, hp, by omega, by omega, fun r H1 r0 r1 s1 hp1 => ?_⟩
    refine ⟨_, _, rfl, rfl, ?_⟩
    refine ⟨_, rfl, p, 4, rfl, hp1, by decide, by decide, fun way H2 w0 w1 s2 hp2 => ?_⟩
    have hm1 : 1 ≤ 1 + r ∧ 1 + r ≤ 40 ∧ 1 + r ≤ most := by omega
    generalize hm : 1 + r = m at hm1
    refine gname_in ?_
    dsimp only
    refine ⟨_, rfl, _, rfl, p, m, by rw [← hm]; rfl, hp2, by omega, by omega, fun tn H2' t0 t1 s2' hp2' => ?_⟩
    intro d hd
    have pd : p ≠ d := by
      obtain ⟨_, _, _, e⟩ := hp2'
      exact ne_of_none e hd
    have z0 : SameBut p H2 (upd H2' d (.dT [])) := s2'.trans (Same.upd hd).but
    have hd2 : H2 d = none := by
      cases q : H2 d with
      | none => rfl
      | some o =>
        rw [s2' d o (Ne.symm pd) q] at hd
        cases hd
    have z1 : PenAt (upd H2' d (.dT [])) p := by
      obtain ⟨a, b, c, e⟩ := hp2'
      exact ⟨a, b, c, by rw [upd_ne pd]; exact e⟩
    have z2 : DT (upd H2' d (.dT [])) d m 0 := ⟨[], [], upd_same, rfl, fun q hq => (nomatch hq), Nat.le_refl _⟩
    refine gname_in ?_
    dsimp only
    rw [hm]
    refine seq_inv (a := tFor _ _ _) (fun σ H3 => ∃ (v6 v7 v8 : Option V), σ = [some (.ref p), some (.int most), some (.int m), some (.int way), some (.int tn), some (.ref d), v6, v7, v8, none] ∧ SameBut p H2 H3 ∧ PenAt H3 p ∧ DT H3 d m 160) (fun D' hk => ?_) ?_
    · refine ⟨_, rfl, (by show 4 ≤ sizeLine; decide), fun l hl => ?_⟩
      have zz1 : PenAt (upd (upd H2' d (.dT [])) l (.lst [.int 1, .int 2, .int 3, .int 6])) p := z1.mono (Same.upd hl)
      refine ⟨_, rfl, p, 4, rfl, zz1, by decide, by decide, fun q H3 q0 q1 s3 hp3 => ?_⟩
      have nl : l ≠ p := by
        obtain ⟨_, _, _, e⟩ := z1
        exact Ne.symm (ne_of_none e hl)
      have ix : ∃ k : Int, atI [V.int 1, V.int 2, V.int 3, V.int 6] q = some (V.int k) ∧ 0 ≤ k ∧ k ≤ 6 := by
        have hw : q = 0 ∨ q = 1 ∨ q = 2 ∨ q = 3 := by omega
        rcases hw with rfl | rfl | rfl | rfl
        · exact ⟨1, rfl, by decide, by decide⟩
        · exact ⟨2, rfl, by decide, by decide⟩
        · exact ⟨3, rfl, by decide, by decide⟩
        · exact ⟨6, rfl, by decide, by decide⟩
      obtain ⟨k, hk1, hk2, hk3⟩ := ix
      have dk : DT H3 d m 0 := (z2.keep z1 (Same.upd hl).but).keep zz1 s3
      have mk : 0 ≤ m * k := Int.mul_nonneg (by omega) hk2
      refine ⟨l, _, q, _, rfl, rfl, SqL.of (s3 _ _ nl upd_same), hk1, _, _, rfl, rfl, .inl ⟨by omega, by omega⟩, _, _, rfl, ?_⟩
      refine ⟨_, rfl, by split <;> omega, by split <;> omega, ?_⟩
      have lb : (if m * k < 160 then m * k else 160).toNat ≤ 160 := by split <;> omega
      generalize (if m * k < 160 then m * k else 160) = laps at lb
      have sk : SameBut p H2 H3 := z0.trans ((Same.upd hl).but.trans s3)
      refine for_range (fun i σ H4 => ∃ v6 v7 v8 : Option V, σ = [some (.ref p), some (.int most), some (.int m), some (.int way), some (.int tn), some (.ref d), v6, v7, v8, none] ∧ SameBut p H2 H4 ∧ PenAt H4 p ∧ DT H4 d m i) ⟨none, none, none, rfl, sk, hp3, dk⟩ ?_ ?_
      · rintro i σ H4 hi ⟨v6, v7, v8, rfl, s4, hp4, hd4⟩
        refine ⟨_, rfl, _, rfl, p, m, rfl, hp4, by omega, by omega, fun a H5 a0 a1 s5 hp5 => ?_⟩
        refine ⟨_, rfl, _, rfl, p, m, rfl, hp5, by omega, by omega, fun b H6 b0 b1 s6 hp6 => ?_⟩
        refine gname_in ?_
        dsimp only
        have s46 := s5.trans s6
        refine seq_inv (a := tIfS _ _ _) (fun σ H7 => H7 = H6 ∧ ∃ (x y : Int), σ = [some (.ref p), some (.int most), some (.int m), some (.int way), some (.int tn), some (.ref d), some (.int (0 + i)), some (.int x), some (.int y), none] ∧ 0 ≤ x ∧ x < m ∧ 0 ≤ y ∧ y < m) (fun D' hk => ?_) ?_
        · refine ⟨_, rfl, rfl, _, rfl, ite2 (fun hg => ?_) (fun hg => ?_)⟩
          · refine ⟨_, rfl, _, rfl, _, _, rfl, _, rfl, _, rfl, _, _, rfl, _, _, rfl, hk _ _ ⟨rfl, _, _, rfl, ?_⟩⟩
            refine ⟨?_, ?_, ?_, ?_⟩ <;> split <;> omega
          · exact hk _ _ ⟨rfl, a, b, rfl, a0, a1, b0, b1⟩
        · rintro σ H7 ⟨rfl, x, y, rfl, x0, x1, y0, y1⟩
          have hd6 := hd4.keep hp4 s46
          have nope : ∃ v6 v7 v8 : Option V, [some (V.ref p), some (.int most), some (.int m), some (.int way), some (.int tn), some (.ref d), some (.int (0 + i)), some (.int x), some (.int y), none] = [some (.ref p), some (.int most), some (.int m), some (.int way), some (.int tn), some (.ref d), v6, v7, v8, none] ∧ SameBut p H2 H7 ∧ PenAt H7 p ∧ DT H7 d m (i + 1) := ⟨_, _, _, rfl, s4.trans s46, hp6, hd6.mono (Nat.le_succ _)⟩
          have go : x ≠ y → ∀ c, H7 c = none → ∃ H8, DPut (upd H7 c (.tup [.int ((x + tn) % m), .int ((y + tn) % m)])) d (.ref c) (.bl true) H8 ∧ SameBut p H2 H8 ∧ PenAt H8 p ∧ DT H8 d m (i + 1) := fun hxy c hc => by
            have b1 : (x + tn) % m < m := Int.emod_lt_of_pos _ (by omega)
            have b2 : 0 ≤ (x + tn) % m := Int.emod_nonneg _ (by omega)
            have b3 : (y + tn) % m < m := Int.emod_lt_of_pos _ (by omega)
            have b4 : 0 ≤ (y + tn) % m := Int.emod_nonneg _ (by omega)
            obtain ⟨H8, g1, g2, g3⟩ := hd6.put hc (by omega) (x := (x + tn) % m) (y := (y + tn) % m) ⟨b2, b1, b4, b3, turned_ne x0 x1 y0 y1 hxy⟩ (.bl true)
            refine ⟨H8, g1, ?_, ?_, g2⟩
            · intro e o he ee
              by_cases hed : e = d
              · subst hed
                rw [hd2] at ee
                cases ee
              · exact g3 e o hed ((s4.trans s46) e o he ee)
            · obtain ⟨x, y, z, e⟩ := hp6
              exact ⟨x, y, z, g3 _ _ pd e⟩
          refine ⟨_, rfl, _, rfl, rfl, _, rfl, ite2 (fun hg => ?_) (fun hg => ?_)⟩
          · have hxy : x ≠ y := by
              intro z
              subst z
              simp at hg
            refine ⟨_, rfl, rfl, _, rfl, ite2 (fun hw => ?_) (fun hw => ?_)⟩
            · refine ⟨_, rfl, _, rfl, _, rfl, _, _, rfl, rfl, _, rfl, _, _, rfl, rfl, (by show (0 : Int) < m; omega), _, rfl, _, rfl, _, _, rfl, rfl, _, rfl, _, _, rfl, rfl, (by show (0 : Int) < m; omega), (by show 2 ≤ sizeLine; decide), fun c hc => ?_⟩
              obtain ⟨H8, g1, g2, g3, g4⟩ := go hxy c hc
              exact ⟨d, H8, rfl, g1, _, _, _, rfl, g2, g3, g4⟩
            · refine ⟨_, rfl, _, rfl, _, _, rfl, rfl, _, _, rfl, rfl, (by show (0 : Int) < 2; decide), rfl, _, rfl, ite2 (fun hv => ?_) (fun hv => ?_)⟩
              · refine ⟨_, rfl, _, rfl, _, rfl, _, _, rfl, rfl, _, rfl, _, _, rfl, rfl, (by show (0 : Int) < m; omega), _, rfl, _, rfl, _, _, rfl, rfl, _, rfl, _, _, rfl, rfl, (by show (0 : Int) < m; omega), (by show 2 ≤ sizeLine; decide), fun c hc => ?_⟩
                obtain ⟨H8, g1, g2, g3, g4⟩ := go hxy c hc
                exact ⟨d, H8, rfl, g1, _, _, _, rfl, g2, g3, g4⟩
              · exact nope
          · exact nope
      · rintro σ H4 ⟨v6, v7, v8, rfl, s4, hp4, hd4⟩
        exact hk _ _ ⟨v6, v7, v8, rfl, s4, hp4, hd4.mono lb⟩
    · rintro σ H3 ⟨v6, v7, v8, rfl, s3, hp3, hd3⟩
      refine seq_inv (a := tIfS _ _ _) (fun σ H4 => ∃ (v9 : Option V), σ = [some (.ref p), some (.int most), some (.int m), some (.int way), some (.int tn), some (.ref d), v6, v7, v8, v9] ∧ SameBut p H2 H4 ∧ PenAt H4 p ∧ DT H4 d m 200) (fun D' hk => ?_) ?_
      · have stay : D'.nx [some (.ref p), some (.int most), some (.int m), some (.int way), some (.int tn), some (.ref d), v6, v7, v8, none] H3 := hk _ _ ⟨none, rfl, s3, hp3, hd3.mono (by decide)⟩
        refine ⟨_, rfl, rfl, _, rfl, ite2 (fun hg => ?_) (fun hg => stay)⟩
        refine ⟨_, rfl, _, _, rfl, rfl, _, rfl, ite2 (fun hh => ?_) (fun hh => stay)⟩
        have hh' : 1 < m := of_decide_eq_true hh
        refine ⟨_, rfl, m, rfl, by omega, by omega, for_range (fun i σ H4 => ∃ (v9 : Option V), σ = [some (.ref p), some (.int most), some (.int m), some (.int way), some (.int tn), some (.ref d), v6, v7, v8, v9] ∧ SameBut p H2 H4 ∧ PenAt H4 p ∧ DT H4 d m (160 + i)) ⟨none, rfl, s3, hp3, hd3⟩ ?_ ?_⟩
        · rintro i σ H4 hi ⟨v9, rfl, s4, hp4, hd4⟩
          refine ⟨_, rfl, _, rfl, _, rfl, _, _, rfl, rfl, _, rfl, _, _, rfl, rfl, (by show (0 : Int) < m; omega), (by show 2 ≤ sizeLine; decide), fun b hb => ?_⟩
          have b1 : (0 + (i : Int) + 1) % m < m := Int.emod_lt_of_pos _ (by omega)
          have b2 : 0 ≤ (0 + (i : Int) + 1) % m := Int.emod_nonneg _ (by omega)
          have b3 : (0 + (i : Int)) ≠ (0 + (i : Int) + 1) % m := by
            by_cases h : (i : Int) + 1 < m
            · rw [Int.emod_eq_of_lt (by omega) (by omega)]
              omega
            · have : (0 + (i : Int) + 1) = m := by omega
              rw [this, Int.emod_self]
              omega
          obtain ⟨H5, g1, g2, g3⟩ := hd4.put hb (by omega) (x := 0 + i) (y := (0 + i + 1) % m) ⟨by omega, by omega, b2, b1, b3⟩ (.bl true)
          refine ⟨d, H5, rfl, g1, _, rfl, ?_, ?_, g2⟩
          · intro c o hc e
            by_cases hcd : c = d
            · subst hcd
              rw [hd2] at e
              cases e
            · exact g3 c o hcd (s4 c o hc e)
          · obtain ⟨x, y, z, e⟩ := hp4
            exact ⟨x, y, z, g3 _ _ pd e⟩
        · rintro σ H4 ⟨v9, rfl, s4, hp4, hd4⟩
          exact hk _ _ ⟨v9, rfl, s4, hp4, hd4.mono (by omega)⟩
      · rintro σ H4 ⟨v9, rfl, s4, hp4, hd4⟩
        obtain ⟨kvs, prs, e1, e2, e3, e4⟩ := hd4
        have q3 : kvs.length = prs.length := by
          have := congrArg List.length e2
          rwa [List.length_map, List.length_map] at this
        refine ⟨_, rfl, _, rfl, d, kvs, prs, rfl, e1, e2, by omega, fun L0 ws0 H5 s5 hL0 ha0 ndp => ?_⟩
        have l0 := arsLen ha0
        refine ⟨L0, ws0, prs, rfl, hL0, ha0, by omega, fun L ws prs' H6 s6 hL ha hpm ris => ?_⟩
        have lw : ws.length ≤ 200 := by
          have q1 := arsLen ha
          have q2 := hpm.length_eq
          omega
        refine ⟨L, ws, rfl, .inl ⟨SqL.of hL, fun t ht => ⟨(by show 2 ≤ sizeLine; decide), fun g hg => ?_⟩⟩⟩
        have s7 : Same H6 _ := (Same.upd (o := .tup ws) ht).trans (Same.upd (o := .tup [.int m, .ref t]) hg)
        refine kk g t m ws prs' _ (((s1.trans s2).trans s4).trans (s5.trans (s6.trans s7)).but) ?_ ⟨upd_same, ?_, ha.mono s7, by omega, by omega, by omega⟩ (by omega) (by omega) (fun z hz => e3 z (hpm.mem_iff.mp hz)) lw (ris_strict ris (hpm.symm.nodup ndp))
        · exact hp4.mono (s5.trans (s6.trans s7))
        · exact Same.upd hg _ _ upd_same
end
end Hk

namespace Hk
open PySem L2
end Hk

namespace Hk
open PySem L2
section
variable {P : Program} {w : World} {K : PySem.W.Frag} {mg : Str → Option Value} {base : Heap}
end
end Hk

namespace Hk
open PySem L2
section
variable {P : Program} {w : World} {K : PySem.W.Frag} {mg : Str → Option Value} {base : Heap}
theorem inV_int (k : Int) (ns : List Int) : inV (.int k) (ns.map V.int) = decide (k ∈ ns) := by
  unfold inV
  induction ns with
  | nil => simp
  | cons n r ih =>
    rw [List.map_cons, List.any_cons, ih]
    have : eqV (V.int n) (V.int k) = decide (k = n) := by
      show (n == k) = _
      by_cases h : k = n
      · subst h; simp
      · simp [h, Ne.symm h]
    rw [this]
    simp
theorem flat_ints (ns : List Int) : (ns.map V.int).all flatV = true := by
  rw [List.all_map]
  exact List.all_eq_true.mpr fun _ _ => rfl
end
end Hk

namespace Hk
open PySem L2
structure GlobI (mg : Str → Option Value) (x : Str) (n : Int) : Prop where
  ex : ∃ t, mg x = some (.int n t)
end Hk

namespace Hk
open PySem L2
abbrev Stc (l : List (Int × Int)) : Prop := l.Pairwise fun x y => lexB x y = true
theorem lexB_irr (x : Int × Int) : lexB x x = false := lexB_not.mpr (by omega)
theorem lexB_asy {x y : Int × Int} (h : lexB x y = true) : lexB y x = false := by
  rw [lexB_iff] at h
  rw [lexB_not]
  omega
theorem Stc.uniq : ∀ {l r : List (Int × Int)}, Stc l → Stc r → (∀ x, x ∈ l ↔ x ∈ r) → l = r
  | [], [], _, _, _ => rfl
  | [], b :: r, _, _, h => nomatch (h b).mpr List.mem_cons_self
  | a :: l, [], _, _, h => nomatch (h a).mp List.mem_cons_self
  | a :: l, b :: r, s1, s2, h => by
    obtain ⟨a1, a2⟩ := List.pairwise_cons.mp s1
    obtain ⟨b1, b2⟩ := List.pairwise_cons.mp s2
    have e : a = b := by
      rcases List.mem_cons.mp ((h a).mp List.mem_cons_self) with z | z
      · exact z
      · rcases List.mem_cons.mp ((h b).mpr List.mem_cons_self) with y | y
        · exact y.symm
        · have := lexB_asy (b1 a z)
          rw [a1 b y] at this
          cases this
    subst e
    rw [Stc.uniq a2 b2 fun x => ⟨fun hx => ?_, fun hx => ?_⟩]
    · rcases List.mem_cons.mp ((h x).mp (List.mem_cons_of_mem _ hx)) with z | z
      · have := a1 x hx
        rw [z, lexB_irr] at this
        cases this
      · exact z
    · rcases List.mem_cons.mp ((h x).mpr (List.mem_cons_of_mem _ hx)) with z | z
      · have := b1 x hx
        rw [z, lexB_irr] at this
        cases this
      · exact z
theorem Stc.nodup {l : List (Int × Int)} (h : Stc l) : l.Nodup := h.imp fun {x y} e z => by
  subst z
  rw [lexB_irr] at e
  cases e
end Hk

namespace Hk
open PySem L2
theorem _root_.List.Nodup.map_on' {α β : Type} {f : α → β} {l : List α} (hf : ∀ a b, f a = f b → a = b) (h : l.Nodup) : (l.map f).Nodup := by
  rw [List.Nodup, List.pairwise_map]
  exact h.imp fun {a b} ne e => ne (hf a b e)
def bsL (m : Int) (ars ars' : List (Int × Int)) : List (Int × Int) := ars ++ ars'.map fun q => (m + q.1, m + q.2)
def boA (ars : List (Int × Int)) (n : Int) : Nat → List (Int × Int)
  | 0 => []
  | b + 1 => boA ars n b ++ ars.map fun q => (q.1 * n + b, q.2 * n + b)
def boB (ars : List (Int × Int)) (n : Int) : Nat → List (Int × Int)
  | 0 => []
  | a + 1 => boB ars n a ++ ars.map fun q => ((a : Int) * n + q.1, (a : Int) * n + q.2)
def boL (m : Int) (ars : List (Int × Int)) (n : Int) (ars' : List (Int × Int)) : List (Int × Int) := boA ars n n.toNat ++ boB ars' n m.toNat
theorem mem_boA {ars : List (Int × Int)} {n : Int} {x : Int × Int} : ∀ {k : Nat}, x ∈ boA ars n k ↔ ∃ (b : Nat) (q : Int × Int), b < k ∧ q ∈ ars ∧ x = (q.1 * n + b, q.2 * n + b)
  | 0 => ⟨(fun h => nomatch h), fun ⟨_, _, h, _⟩ => by omega⟩
  | k + 1 => by
    show x ∈ boA ars n k ++ _ ↔ _
    rw [List.mem_append, mem_boA (k := k), List.mem_map]
    constructor
    · rintro (⟨b, q, h, h1, h2⟩ | ⟨q, h1, rfl⟩)
      · exact ⟨b, q, by omega, h1, h2⟩
      · exact ⟨k, q, by omega, h1, rfl⟩
    · rintro ⟨b, q, h, h1, h2⟩
      by_cases e : b = k
      · subst e
        exact .inr ⟨q, h1, h2.symm⟩
      · exact .inl ⟨b, q, by omega, h1, h2⟩
theorem mem_boB {ars : List (Int × Int)} {n : Int} {x : Int × Int} : ∀ {k : Nat}, x ∈ boB ars n k ↔ ∃ (a : Nat) (q : Int × Int), a < k ∧ q ∈ ars ∧ x = ((a : Int) * n + q.1, (a : Int) * n + q.2)
  | 0 => ⟨(fun h => nomatch h), fun ⟨_, _, h, _⟩ => by omega⟩
  | k + 1 => by
    show x ∈ boB ars n k ++ _ ↔ _
    rw [List.mem_append, mem_boB (k := k), List.mem_map]
    constructor
    · rintro (⟨b, q, h, h1, h2⟩ | ⟨q, h1, rfl⟩)
      · exact ⟨b, q, by omega, h1, h2⟩
      · exact ⟨k, q, by omega, h1, rfl⟩
    · rintro ⟨b, q, h, h1, h2⟩
      by_cases e : b = k
      · subst e
        exact .inr ⟨q, h1, h2.symm⟩
      · exact .inl ⟨b, q, by omega, h1, h2⟩
theorem dm1 {a b n : Int} (h0 : 0 ≤ b) (h1 : b < n) : (a * n + b) / n = a := by
  rw [Int.add_comm, Int.add_mul_ediv_right _ _ (by omega), Int.ediv_eq_zero_of_lt h0 h1, Int.zero_add]
theorem dm2 {a b n : Int} (h0 : 0 ≤ b) (h1 : b < n) : (a * n + b) % n = b := by
  rw [Int.add_comm, Int.add_mul_emod_self_right, Int.emod_eq_of_lt h0 h1]
theorem mulIn {a b m n : Int} (h0 : 0 ≤ a) (h1 : a < m) (b0 : 0 ≤ b) (b1 : b < n) : 0 ≤ a * n + b ∧ a * n + b < m * n := by
  have x : 0 ≤ a * n := Int.mul_nonneg h0 (by omega)
  have y : (a + 1) * n ≤ m * n := Int.mul_le_mul_of_nonneg_right (by omega) (by omega)
  rw [Int.add_mul, Int.one_mul] at y
  omega
section
variable {m n : Int} {ars ars' : List (Int × Int)} (g : GoodA m ars) (g' : GoodA n ars') (m0 : 0 ≤ m) (n0 : 1 ≤ n)
include g g' m0 n0
theorem bo_nodup (d : ars.Nodup) (d' : ars'.Nodup) : (boL m ars n ars').Nodup := by
  unfold boL
  refine List.nodup_append.mpr ⟨?_, ?_, fun x hx y hy e => ?_⟩
  · have key : ∀ k : Nat, (k : Int) ≤ n → (boA ars n k).Nodup := fun k => by
      induction k with
      | zero => exact fun _ => List.nodup_nil
      | succ k ih =>
        intro hk
        show (boA ars n k ++ _).Nodup
        refine List.nodup_append.mpr ⟨ih (by omega), ?_, fun x hx y hy e => ?_⟩
        · refine List.Nodup.map_on' ?_ d
          intro p q e
          obtain ⟨e1, e2⟩ := Prod.mk.inj e
          have e1 : p.1 * n = q.1 * n := by omega
          have e2 : p.2 * n = q.2 * n := by omega
          exact Prod.ext (Int.eq_of_mul_eq_mul_right (by omega) e1) (Int.eq_of_mul_eq_mul_right (by omega) e2)
        · subst e
          obtain ⟨b, q, hb, hq, rfl⟩ := mem_boA.mp hx
          obtain ⟨q', hq', e⟩ := List.mem_map.mp hy
          have e := (Prod.mk.inj e).1
          have z := congrArg (· % n) e
          rw [dm2 (by omega) (by omega), dm2 (by omega) (by omega)] at z
          omega
    exact key _ (by omega)
  · have key : ∀ k : Nat, (boB ars' n k).Nodup := fun k => by
      induction k with
      | zero => exact List.nodup_nil
      | succ k ih =>
        show (boB ars' n k ++ _).Nodup
        refine List.nodup_append.mpr ⟨ih, ?_, fun x hx y hy e => ?_⟩
        · refine List.Nodup.map_on' ?_ d'
          intro p q e
          obtain ⟨e1, e2⟩ := Prod.mk.inj e
          exact Prod.ext (by omega) (by omega)
        · subst e
          obtain ⟨b, q, hb, hq, rfl⟩ := mem_boB.mp hx
          obtain ⟨q', hq', e⟩ := List.mem_map.mp hy
          have e := (Prod.mk.inj e).1
          have z := congrArg (· / n) e
          have gq := g' q hq
          have gq' := g' q' hq'
          rw [dm1 gq.1 gq.2.1, dm1 gq'.1 gq'.2.1] at z
          omega
    exact key _
  · subst e
    obtain ⟨b, q, hb, hq, rfl⟩ := mem_boA.mp hx
    obtain ⟨a, q', ha, hq', e⟩ := mem_boB.mp hy
    obtain ⟨e1, e2⟩ := Prod.mk.inj e
    have z1 := congrArg (· / n) e1
    have z2 := congrArg (· / n) e2
    have gq := g q hq
    have gq' := g' q' hq'
    rw [dm1 (by omega) (by omega), dm1 gq'.1 gq'.2.1] at z1
    rw [dm1 (by omega) (by omega), dm1 gq'.2.2.1 gq'.2.2.2.1] at z2
    exact gq.2.2.2.2 (z1.trans z2.symm)
theorem bo_good : GoodA (m * n) (boL m ars n ars') := fun x hx => by
  unfold boL at hx
  rcases List.mem_append.mp hx with h | h
  · obtain ⟨b, q, hb, hq, rfl⟩ := mem_boA.mp h
    have gq := g q hq
    have h1 := mulIn (n := n) gq.1 gq.2.1 (b := (b : Int)) (by omega) (by omega)
    have h2 := mulIn (n := n) gq.2.2.1 gq.2.2.2.1 (b := (b : Int)) (by omega) (by omega)
    refine ⟨h1.1, h1.2, h2.1, h2.2, fun e => gq.2.2.2.2 ?_⟩
    have e : q.1 * n = q.2 * n := by
      dsimp only at e
      omega
    exact Int.eq_of_mul_eq_mul_right (by omega) e
  · obtain ⟨a, q, ha, hq, rfl⟩ := mem_boB.mp h
    have gq := g' q hq
    have h1 := mulIn (n := n) (a := (a : Int)) (m := m) (by omega) (by omega) gq.1 gq.2.1
    have h2 := mulIn (n := n) (a := (a : Int)) (m := m) (by omega) (by omega) gq.2.2.1 gq.2.2.2.1
    refine ⟨h1.1, h1.2, h2.1, h2.2, fun e => gq.2.2.2.2 ?_⟩
    dsimp only at e
    omega
theorem bs_good : GoodA (m + n) (bsL m ars ars') := fun x hx => by
  unfold bsL at hx
  rcases List.mem_append.mp hx with h | h
  · have gq := g x h
    omega
  · obtain ⟨q, hq, rfl⟩ := List.mem_map.mp h
    have gq := g' q hq
    dsimp only
    omega
end
theorem boA_len (ars : List (Int × Int)) (n : Int) : ∀ k, (boA ars n k).length = k * ars.length
  | 0 => by simp [boA]
  | k + 1 => by
    show (boA ars n k ++ _).length = _
    rw [List.length_append, List.length_map, boA_len ars n k, Nat.add_mul, Nat.one_mul]
theorem boB_len (ars : List (Int × Int)) (n : Int) : ∀ k, (boB ars n k).length = k * ars.length
  | 0 => by simp [boB]
  | k + 1 => by
    show (boB ars n k ++ _).length = _
    rw [List.length_append, List.length_map, boB_len ars n k, Nat.add_mul, Nat.one_mul]
end Hk

namespace Hk
open PySem L2 PySem.W
section
variable {P : Program} {w : World} {K : Frag} {mg : Str → Option Value} {base : Heap}
def BWo (n : Int) (L : List (Int × Int)) (H : Hp) (Q : VK) : Prop :=
  n ≤ 40 ∧ L.length ≤ 200 ∧ ∀ (a t : Addr) (us : List V) (T : List (Int × Int)) (H' : Hp), Same H H' → Web H' a t n us T → T.Perm L → Ris T → us.length = L.length → Q (.ref a) H'
theorem BWo.mono {n : Int} {L : List (Int × Int)} {H H1 : Hp} {Q : VK} (h : BWo n L H Q) (s : Same H H1) : BWo n L H1 Q :=
  ⟨h.1, h.2.1, fun a t us T H' s' => h.2.2 a t us T H' (s.trans s')⟩
theorem BWo.bw {n : Int} {L : List (Int × Int)} {H : Hp} {Q : VK} {k : Nat} (h : BWo n L H Q) (e : k = L.length) :
    n ≤ 40 ∧ k ≤ 200 ∧ ∀ (a t : Addr) (us : List V) (T : List (Int × Int)) (H' : Hp), Same H H' → Web H' a t n us T → T.Perm L → Ris T → us.length = k → Q (.ref a) H' := by
  subst e
  exact h
theorem ars_app63 {H : Hp} {ws zs : List V} {l r : List (Int × Int)} (h : Ars H ws l) (g : Ars H zs r) : Ars H (ws ++ zs) (l ++ r) := by
  induction h with
  | nil => exact g
  | cons a _ ih => exact .cons a ih
def spBW0 : Sp := fun vs H Q _ => ∃ (m : Int) (l : Addr) (ws : List V) (ars : List (Int × Int)), vs = [.int m, .ref l] ∧ H l = some (.lst ws) ∧ Ars H ws ars ∧ ws.length ≤ 100000 ∧ 0 ≤ m ∧ m ≤ 1000 ∧
  (m ≤ 40 ∧ ws.length ≤ 200 ∧ ∀ (a t : Addr) (us : List V) (T : List (Int × Int)) (H' : Hp), Same H H' → Web H' a t m us T → T.Perm ars → Ris T → us.length = ws.length → Q (.ref a) H')
theorem kn_bw0 (D : DefAt K mg "bounded_web" s_bounded_web ["many", "arrows"]) (fr : Free mg ["len", "tuple", "sorted"]) (G : GlobI mg "MOST_PLACES" 40) (G2 : GlobI mg "MOST_ARROWS" 200) : Kn P w K mg base 1 "bounded_web" ["many", "arrows"] spBW0 := by
  have sc : FnScope ["many", "arrows"] ["many", "arrows"] (defScope s_bounded_web) := ⟨rfl, rfl, rfl, by decide +kernel, rfl, by decide +kernel, by decide +kernel⟩
  refine D.kn (N := ["many", "arrows"]) sc (fun vs H Q E h => ?_) (fun f cdv A outer s H vs Q E hr h => ?_)
  · obtain ⟨m, l, ws, ars, rfl, _⟩ := h
    rfl
  · obtain ⟨m, l, ws, ars, rfl, hl, ar, h900, m0, m1000, m40, l200, kk⟩ := h
    have m_len := fr "len" (by simp)
    have m_tuple := fr "tuple" (by simp)
    have m_sorted := fr "sorted" (by simp)
    obtain ⟨tg, hg⟩ := G.ex
    obtain ⟨tg2, hg2⟩ := G2.ex
    refine ⟨_, (pss_cons (ps_if (pt_cmpR op_gt (pv 0) (pe_glob (v := .int 40) rfl hg ⟨_, rfl⟩) (nomark _)) (pss_one ps_never) pss_nil) (pss_cons (ps_if (pt_cmpR op_gt (pe_callB call_len_seq rfl m_len PySem.boot_len (pa_cons (pv 1) pa_nil)) (pe_glob (v := .int 200) rfl hg2 ⟨_, rfl⟩) (nomark _)) (pss_one ps_never) pss_nil) (pss_one (ps_ret (pe_tup (pa_cons (pv 0) (pa_cons (pe_callTy call_tuple_of rfl m_tuple boot_ttuple (pa_cons (pe_callB call_sorted_prsS rfl m_sorted boot_fsorted (pa_cons (pv 1) pa_nil)) pa_nil)) pa_nil))))))), ?_⟩
    refine ⟨_, rfl, m, 40, rfl, rfl, _, rfl, ?_⟩
    show if decide (40 < m) = true then _ else _
    rw [decide_eq_false (by omega : ¬ (40 : Int) < m)]
    refine iteF ?_
    refine ⟨_, rfl, l, ws, rfl, .inl (SqL.of hl), _, _, rfl, rfl, _, rfl, ?_⟩
    show if decide ((200 : Int) < (ws.length : Nat)) = true then _ else _
    rw [decide_eq_false (by omega : ¬ (200 : Int) < (ws.length : Nat))]
    refine iteF ?_
    refine ⟨_, rfl, _, rfl, l, ws, ars, rfl, hl, ar, by omega, fun D' zs T' H4 s4 hD az hp ris => ⟨D', zs, rfl, .inl ⟨SqL.of hD, fun t' ht' => ⟨(by show 2 ≤ sizeLine; decide), fun a' ha' => ?_⟩⟩⟩⟩
    have s5 := (Same.upd (o := .tup zs) ht').trans (Same.upd (o := .tup [.int m, .ref t']) ha')
    have lz : zs.length = ws.length := by
      have := arsLen az
      have := arsLen ar
      have := hp.length_eq
      omega
    exact kk a' t' zs T' _ (s4.trans s5) ⟨upd_same, Same.upd ha' _ _ upd_same, az.mono s5, by omega, by omega⟩ hp ris lz
theorem ars_mapS {H : Hp} {b : Addr} {f : Int × Int → Int × Int} {zs : List V} {ars : List (Int × Int)} {i : Nat} {q : Int × Int} (az : Ars H zs ((ars.take i).map f)) (e : ars[i]? = some q) (hb : H b = some (.tup [.int (f q).1, .int (f q).2])) : Ars H (zs ++ [.ref b]) ((ars.take (i + 1)).map f) := by
  rw [take_snoc _ _ _ e, List.map_append]
  exact Paired.snoc az ⟨b, rfl, hb⟩
theorem ars_ext {H : Hp} {y d : Addr} {ws zs : List V} {L R : List (Int × Int)} (hy : H y = none) (hd : H d = some (.lst ws)) (aw : Ars H ws L) (az : Ars H zs R) : Ars (upd (upd H y (.lst zs)) d (.lst (ws ++ zs))) (ws ++ zs) (L ++ R) := by
  have hd5 := Same.upd (o := .lst zs) hy _ _ hd
  have up : ∀ (b' : Addr) (ys : List V), (upd H y (.lst zs)) b' = some (.tup ys) → (upd (upd H y (.lst zs)) d (.lst (ws ++ zs))) b' = some (.tup ys) := fun b' ys e' => by
    rw [upd_ne (ne_of e' hd5 (fun z => nomatch z))]
    exact e'
  refine ars_app63 ?_ ?_
  · exact Paired.mapP (aw.mono (Same.upd hy)) fun _ _ ⟨r, e, z⟩ => ⟨r, e, up _ _ z⟩
  · exact Paired.mapP (az.mono (Same.upd hy)) fun _ _ ⟨r, e, z⟩ => ⟨r, e, up _ _ z⟩
structure W2 (H : Hp) (vs : List V) (m : Int) (ars : List (Int × Int)) (n : Int) (ars' : List (Int × Int)) : Prop where
  ex : ∃ (a t a' t' : Addr) (us us' : List V), vs = [.ref a, .ref a'] ∧ Web H a t m us ars ∧ Web H a' t' n us' ars'
  len : ars.length ≤ 200 ∧ ars'.length ≤ 200
  mb : 1 ≤ m ∧ m ≤ 20 ∧ 1 ≤ n ∧ n ≤ 20
  good : GoodA m ars ∧ GoodA n ars'
def sp2 (Nf : Int → Int → Int) (Lf : Int → List (Int × Int) → Int → List (Int × Int) → List (Int × Int)) : Sp := fun vs H Q _ => ∃ (m n : Int) (ars ars' : List (Int × Int)), W2 H vs m ars n ars' ∧ BWo (Nf m n) (Lf m ars n ars') H Q
def bsN (m n : Int) : Int := m + n
def boN (m n : Int) : Int := m * n
def bsL4 (m : Int) (ars : List (Int × Int)) (_ : Int) (ars' : List (Int × Int)) : List (Int × Int) := bsL m ars ars'
theorem lead2 {H : Hp} {vs : List V} {m n : Int} {ars ars' : List (Int × Int)} (h : W2 H vs m ars n ars') : vs.length = 2 := by
  obtain ⟨_, _, _, _, _, _, rfl, _⟩ := h.ex
  rfl
theorem kn_beside (D : DefAt K mg "beside_web" s_beside_web ["web", "other"]) (fr : Free mg ["list"]) (kb : Kn P w K mg base 1 "bounded_web" ["many", "arrows"] spBW0) : Kn P w K mg base 2 "beside_web" ["web", "other"] (sp2 bsN bsL4) := by
  have sc : FnScope ["web", "other", "many"] ["web", "other"] (defScope s_beside_web) := ⟨rfl, rfl, rfl, by decide +kernel, rfl, by decide +kernel, by decide +kernel⟩
  refine D.kn (N := ["web", "other", "many"]) sc (fun vs H Q E h => ?_) (fun f cdv A outer s H vs Q E hr h => ?_)
  · obtain ⟨m, n, ars, ars', w2, _⟩ := h
    exact lead2 w2
  · obtain ⟨m, n, ars, ars', w2, kk⟩ := h
    obtain ⟨a, t, a', t', us, us', rfl, W, W'⟩ := w2.ex
    have lb := w2.len
    have mb := w2.mb
    have r1 := hr.mono (j := 1) (by decide)
    have m_list := fr "list" (by simp)
    have nd0 : (["a", "b", "many"] : List Str).Nodup := by decide +kernel
    refine ⟨_, (pss_cons (ps_set (i := 2) sc.nd rfl (Or.inr rfl) (pe_ix ix_tup (pv 0) pe_int (fun _ _ => rfl))) (pss_one (ps_ret (pe_kn kb r1 (pa_cons (pe_op op_add (pv 2) (pe_ix ix_tup (pv 1) pe_int (fun _ _ => rfl))) (pa_cons (pe_op op_cat (pe_callTy call_list_of rfl m_list boot_tlist (pa_cons (pe_ix ix_tup (pv 0) pe_int (fun _ _ => rfl)) pa_nil)) (pe_lc (N := ["a", "b", "many"]) (src := [none, none, some 2]) rfl ⟨rfl, rfl, rfl, rfl, ⟨⟨rfl, rfl⟩, trivial⟩, rfl, rfl, rfl⟩ (gown_pair (i := 0) (j := 1) rfl rfl) (pi_tup (pe_ix ix_tup (pv 1) pe_int (fun _ _ => rfl))) (fun C s H fp => ⟨(pg_tup (n := 2) rfl (pgs_cons (pg_name (i := 0) nd0 rfl (Or.inl rfl)) (pgs_cons (pg_name (i := 1) nd0 rfl (Or.inl rfl)) pgs_nil))), pifs_nil, (pe_tup (pa_cons (pe_op op_add (pv 2) (pv 0)) (pa_cons (pe_op op_add (pv 2) (pv 1)) pa_nil)))⟩))) pa_nil)))))), ?_⟩
    have c2 : 2 ≤ sizeLine := by decide
    have lu := arsLen W.ars
    have lu' := arsLen W'.ars
    refine ⟨_, rfl, a, _, _, _, rfl, rfl, SqT.of W.top, rfl, ?_⟩
    refine gname_in ?_
    dsimp only
    refine ⟨_, rfl, _, rfl, a', _, _, _, rfl, rfl, SqT.of W'.top, rfl, _, _, rfl, rfl, ?_⟩
    refine ⟨_, rfl, a, _, _, _, rfl, rfl, SqT.of W.top, rfl, t, us, rfl, .inr (SqT.of W.arr), fun l hl => ?_⟩
    have s1 := Same.upd (o := .lst us) hl
    refine ⟨_, rfl, a', _, _, _, rfl, rfl, SqT.of (s1 _ _ W'.top), rfl, t', rfl, ⟨_, SqT.of (s1 _ _ W'.arr)⟩, lc_tup0 (xs := us') (fun i zs H5 => Same (upd H l (.lst us)) H5 ∧ Ars H5 zs ((ars'.take i).map fun q => (m + q.1, m + q.2))) ⟨Same.refl _, .nil⟩ ?_ ?_ ?_⟩
    · rintro i zs H5 hi ⟨s5, az⟩
      have := arsLen az
      rw [List.length_map, List.length_take] at this
      exact ⟨SqT.of (s5 _ _ (s1 _ _ W'.arr)), Nat.le_of_lt (small1000 (by omega))⟩
    · rintro zs H5 ⟨s5, az⟩ y hy
      rw [List.take_of_length_le (by omega)] at az
      have lz := arsLen az
      rw [List.length_map] at lz
      have s6 := Same.upd (o := .lst zs) hy
      refine ⟨l, y, us, zs, rfl, rfl, s6 _ _ (s5 _ _ upd_same), upd_same, Nat.le_of_lt (small1000 (by omega)), fun q hq => ?_⟩
      have s7 := Same.upd (o := .lst (us ++ zs)) hq
      have sA := s1.trans (s5.trans (s6.trans s7))
      refine ⟨_, q, us ++ zs, bsL m ars ars', rfl, upd_same, ars_app63 (W.ars.mono sA) (az.mono (s6.trans s7)), ?_, by omega, by omega, ?_⟩
      · rw [List.length_append]
        omega
      · exact (kk.mono sA).bw (by unfold bsL4 bsL; rw [List.length_append, List.length_append, List.length_map, lz, lu])
    · rintro i x zs H5 hx hi ⟨s5, az⟩
      obtain ⟨q, e1, r, rfl, hr'⟩ := Paired.get' W'.ars hx
      refine ⟨r, _, rfl, SqT.of (s5 _ _ (s1 _ _ hr')), rfl, _, _, rfl, _, _, rfl, rfl, ?_⟩
      refine ⟨_, rfl, _, rfl, _, _, rfl, rfl, _, rfl, _, rfl, _, _, rfl, rfl, c2, fun b hb => nx hi ⟨s5.trans (Same.upd hb), ?_⟩⟩
      exact ars_mapS (az.mono (Same.upd hb)) e1 upd_same
theorem kn_both (D : DefAt K mg "both_web" s_both_web ["web", "other"]) (fr : Free mg ["range"]) (kb : Kn P w K mg base 1 "bounded_web" ["many", "arrows"] spBW0) : Kn P w K mg base 2 "both_web" ["web", "other"] (sp2 boN boL) := by
  have sc : FnScope ["web", "other", "many", "arrows", "b", "a"] ["web", "other"] (defScope s_both_web) := ⟨rfl, rfl, rfl, by decide +kernel, rfl, by decide +kernel, by decide +kernel⟩
  refine D.kn (N := ["web", "other", "many", "arrows", "b", "a"]) sc (fun vs H Q E h => ?_) (fun f cdv A outer s H vs Q E hr h => ?_)
  · obtain ⟨m, n, ars, ars', w2, _⟩ := h
    exact lead2 w2
  · obtain ⟨m, n, ars, ars', w2, kk⟩ := h
    obtain ⟨a, t, a', t', us, us', rfl, W, W'⟩ := w2.ex
    have lb := w2.len
    have mb := w2.mb
    have gd := w2.good
    have r1 := hr.mono (j := 1) (by decide)
    have m_range := fr "range" (by simp)
    have nd0 : (["a", "c", "many", "b"] : List Str).Nodup := by decide +kernel
    have nd1 : (["b", "c", "a", "many"] : List Str).Nodup := by decide +kernel
    refine ⟨_, (pss_cons (ps_set (i := 2) sc.nd rfl (Or.inr rfl) (pe_ix ix_tup (pv 1) pe_int (fun _ _ => rfl))) (pss_cons (ps_set (i := 3) sc.nd rfl (Or.inl rfl) (pe_lst pa_nil)) (pss_cons (ps_for PassesOwn.never rfl (pi_range1 rfl m_range (pa_cons (pv 2) pa_nil)) (pg_name (i := 4) sc.nd rfl (Or.inr rfl)) (pss_one (ps_expr (pe_bm PySem.F.plainAttrs_list PySem.F.slot_list_extend PySem.F.type_list_extend mt_extend (pv 3) (pa_cons (pe_lc (N := ["a", "c", "many", "b"]) (src := [none, none, some 2, some 4]) rfl ⟨rfl, rfl, rfl, rfl, ⟨⟨rfl, rfl⟩, ⟨⟨rfl, rfl⟩, trivial⟩⟩, rfl, rfl, rfl⟩ (gown_pair (i := 0) (j := 1) rfl rfl) (pi_tup (pe_ix ix_tup (pv 0) pe_int (fun _ _ => rfl))) (fun C s H fp => ⟨(pg_tup (n := 2) rfl (pgs_cons (pg_name (i := 0) nd0 rfl (Or.inl rfl)) (pgs_cons (pg_name (i := 1) nd0 rfl (Or.inl rfl)) pgs_nil))), pifs_nil, (pe_tup (pa_cons (pe_op op_add (pe_op op_mul (pv 0) (pv 2)) (pv 3)) (pa_cons (pe_op op_add (pe_op op_mul (pv 1) (pv 2)) (pv 3)) pa_nil)))⟩)) pa_nil))))) (pss_cons (ps_for PassesOwn.never rfl (pi_range1 rfl m_range (pa_cons (pe_ix ix_tup (pv 0) pe_int (fun _ _ => rfl)) pa_nil)) (pg_name (i := 5) sc.nd rfl (Or.inr rfl)) (pss_one (ps_expr (pe_bm PySem.F.plainAttrs_list PySem.F.slot_list_extend PySem.F.type_list_extend mt_extend (pv 3) (pa_cons (pe_lc (N := ["b", "c", "a", "many"]) (src := [none, none, some 5, some 2]) rfl ⟨rfl, rfl, rfl, rfl, ⟨⟨rfl, rfl⟩, ⟨⟨rfl, rfl⟩, trivial⟩⟩, rfl, rfl, rfl⟩ (gown_pair (i := 0) (j := 1) rfl rfl) (pi_tup (pe_ix ix_tup (pv 1) pe_int (fun _ _ => rfl))) (fun C s H fp => ⟨(pg_tup (n := 2) rfl (pgs_cons (pg_name (i := 0) nd1 rfl (Or.inl rfl)) (pgs_cons (pg_name (i := 1) nd1 rfl (Or.inl rfl)) pgs_nil))), pifs_nil, (pe_tup (pa_cons (pe_op op_add (pe_op op_mul (pv 2) (pv 3)) (pv 0)) (pa_cons (pe_op op_add (pe_op op_mul (pv 2) (pv 3)) (pv 1)) pa_nil)))⟩)) pa_nil))))) (pss_one (ps_ret (pe_kn kb r1 (pa_cons (pe_op op_mul (pe_ix ix_tup (pv 0) pe_int (fun _ _ => rfl)) (pv 2)) (pa_cons (pv 3) pa_nil))))))))), ?_⟩
    have c2 : 2 ≤ sizeLine := by decide
    have lu := arsLen W.ars
    have lu' := arsLen W'.ars
    refine ⟨_, rfl, a', _, _, _, rfl, rfl, SqT.of W'.top, rfl, ?_⟩
    refine gname_in ?_
    dsimp only
    refine ⟨(by show 0 ≤ sizeLine; decide), fun d hd => ?_⟩
    have s2 := Same.upd (o := .lst []) hd
    refine ⟨_, rfl, n, rfl, by omega, by omega, for_range (fun i σ H3 => ∃ (ws : List V) (v4 v5 : Option V), σ = [some (.ref a), some (.ref a'), some (.int n), some (.ref d), v4, v5] ∧ Same H H3 ∧ H3 d = some (.lst ws) ∧ Ars H3 ws (boA ars n i)) ⟨[], _, _, rfl, s2, upd_same, .nil⟩ ?_ ?_⟩
    · rintro i σ H3 hi ⟨ws, v4, v5, rfl, s3, hd3, ar⟩
      refine ⟨_, rfl, .inl ⟨rfl, _, SqL.of hd3⟩, ?_⟩
      refine ⟨_, rfl, a, _, _, _, rfl, rfl, SqT.of (s3 _ _ W.top), rfl, t, rfl, ⟨_, SqT.of (s3 _ _ W.arr)⟩, lc_tup0 (xs := us) (fun j zs H5 => Same H3 H5 ∧ Ars H5 zs ((ars.take j).map fun q => (q.1 * n + (i : Int), q.2 * n + (i : Int)))) ⟨Same.refl _, .nil⟩ ?_ ?_ ?_⟩
      · rintro j zs H5 hj ⟨s5, az⟩
        have := arsLen az
        rw [List.length_map, List.length_take] at this
        exact ⟨SqT.of (s5 _ _ (s3 _ _ W.arr)), Nat.le_of_lt (small1000 (by omega))⟩
      · rintro zs H5 ⟨s5, az⟩ y hy
        rw [List.take_of_length_le (by omega)] at az
        have lz := arsLen az
        rw [List.length_map] at lz
        have lw := arsLen ar
        rw [boA_len] at lw
        have l3 : i * ars.length ≤ 20 * 200 := Nat.mul_le_mul (by omega) (by omega)
        have s6 := Same.upd (o := .lst zs) hy
        refine ⟨d, y, ws, zs, rfl, rfl, s6 _ _ (s5 _ _ hd3), upd_same, Nat.le_of_lt (smallN (by omega)), ws ++ zs, _, _, rfl, fun b o e => ?_, upd_same, ?_⟩
        · rw [upd_ne (ne_of_none e hd)]
          exact s6 _ _ (s5 _ _ (s3 _ _ e))
        · exact ars_ext hy (s5 _ _ hd3) (ar.mono s5) az
      · rintro j x zs H5 hx hj ⟨s5, az⟩
        obtain ⟨q, e1, r, rfl, hr'⟩ := Paired.get' W.ars hx
        have gq := gd.1 q (List.mem_of_getElem? e1)
        refine ⟨r, _, rfl, SqT.of (s5 _ _ (s3 _ _ hr')), rfl, _, _, rfl, _, _, rfl, rfl, ?_⟩
        refine ⟨_, rfl, _, rfl, _, _, rfl, rfl, .inl ⟨by omega, by omega⟩, _, rfl, _, _, rfl, rfl, ?_⟩
        refine ⟨_, rfl, _, rfl, _, _, rfl, rfl, .inl ⟨by omega, by omega⟩, _, rfl, _, _, rfl, rfl, c2, fun b hb => nx hj ⟨s5.trans (Same.upd hb), ?_⟩⟩
        refine ars_mapS (az.mono (Same.upd hb)) e1 ?_
        rw [upd_same, Int.zero_add]
    · rintro σ H3 ⟨ws0, v4, v5, rfl, s3, hd3, ar0⟩
      have lw0 := arsLen ar0
      rw [boA_len] at lw0
      have l4 : n.toNat * ars.length ≤ 20 * 200 := Nat.mul_le_mul (by omega) (by omega)
      refine ⟨_, rfl, a, _, _, _, rfl, rfl, SqT.of (s3 _ _ W.top), rfl, m, rfl, by omega, by omega, for_range (fun i σ H4 => ∃ (ws : List V) (v5 : Option V), σ = [some (.ref a), some (.ref a'), some (.int n), some (.ref d), v4, v5] ∧ Same H H4 ∧ H4 d = some (.lst ws) ∧ Ars H4 ws (boA ars n n.toNat ++ boB ars' n i)) ⟨ws0, _, rfl, s3, hd3, by rw [show boB ars' n 0 = [] from rfl, List.append_nil]; exact ar0⟩ ?_ ?_⟩
      · rintro i σ H4 hi ⟨ws, v5, rfl, s4, hd4, ar⟩
        refine ⟨_, rfl, .inl ⟨rfl, _, SqL.of hd4⟩, ?_⟩
        refine ⟨_, rfl, a', _, _, _, rfl, rfl, SqT.of (s4 _ _ W'.top), rfl, t', rfl, ⟨_, SqT.of (s4 _ _ W'.arr)⟩, lc_tup0 (xs := us') (fun j zs H5 => Same H4 H5 ∧ Ars H5 zs ((ars'.take j).map fun q => ((i : Int) * n + q.1, (i : Int) * n + q.2))) ⟨Same.refl _, .nil⟩ ?_ ?_ ?_⟩
        · rintro j zs H5 hj ⟨s5, az⟩
          have := arsLen az
          rw [List.length_map, List.length_take] at this
          exact ⟨SqT.of (s5 _ _ (s4 _ _ W'.arr)), Nat.le_of_lt (small1000 (by omega))⟩
        · rintro zs H5 ⟨s5, az⟩ y hy
          rw [List.take_of_length_le (by omega)] at az
          have lz := arsLen az
          rw [List.length_map] at lz
          have lw := arsLen ar
          rw [List.length_append, boA_len, boB_len] at lw
          have l3 : i * ars'.length ≤ 20 * 200 := Nat.mul_le_mul (by omega) (by omega)
          have s6 := Same.upd (o := .lst zs) hy
          refine ⟨d, y, ws, zs, rfl, rfl, s6 _ _ (s5 _ _ hd4), upd_same, Nat.le_of_lt (smallN (by omega)), ws ++ zs, _, rfl, fun b o e => ?_, upd_same, ?_⟩
          · rw [upd_ne (ne_of_none e hd)]
            exact s6 _ _ (s5 _ _ (s4 _ _ e))
          · rw [show boB ars' n (i + 1) = boB ars' n i ++ ars'.map fun q => ((i : Int) * n + q.1, (i : Int) * n + q.2) from rfl, ← List.append_assoc]
            exact ars_ext hy (s5 _ _ hd4) (ar.mono s5) az
        · rintro j x zs H5 hx hj ⟨s5, az⟩
          obtain ⟨q, e1, r, rfl, hr'⟩ := Paired.get' W'.ars hx
          refine ⟨r, _, rfl, SqT.of (s5 _ _ (s4 _ _ hr')), rfl, _, _, rfl, _, _, rfl, rfl, ?_⟩
          refine ⟨_, rfl, _, rfl, _, _, rfl, rfl, .inl ⟨by omega, by omega⟩, _, rfl, _, _, rfl, rfl, ?_⟩
          refine ⟨_, rfl, _, rfl, _, _, rfl, rfl, .inl ⟨by omega, by omega⟩, _, rfl, _, _, rfl, rfl, c2, fun b hb => nx hj ⟨s5.trans (Same.upd hb), ?_⟩⟩
          refine ars_mapS (az.mono (Same.upd hb)) e1 ?_
          rw [upd_same, Int.zero_add]
      · rintro σ H4 ⟨ws, v5, rfl, s4, hd4, ar⟩
        have lw := arsLen ar
        rw [List.length_append, boA_len, boB_len] at lw
        have l3 : m.toNat * ars'.length ≤ 20 * 200 := Nat.mul_le_mul (by omega) (by omega)
        have mn0 : 0 ≤ m * n := Int.mul_nonneg (by omega) (by omega)
        have mn : m * n ≤ 20 * 20 := Int.mul_le_mul (by omega) (by omega) (by omega) (by omega)
        refine ⟨_, rfl, a, _, _, _, rfl, rfl, SqT.of (s4 _ _ W.top), rfl, _, rfl, _, _, rfl, rfl, .inl ⟨by omega, by omega⟩, _, rfl, ?_⟩
        refine ⟨_, d, ws, boL m ars n ars', rfl, hd4, ar, by omega, mn0, by omega, ?_⟩
        exact (kk.mono s4).bw (arsLen ar)
end
end Hk

namespace Hk
open PySem L2
def plI (n : Nat) : List Int := (List.range n).map fun (k : Nat) => (k : Int)
theorem mem_plI {n : Nat} {p : Int} : p ∈ plI n ↔ 0 ≤ p ∧ p < n := by
  unfold plI
  rw [List.mem_map]
  constructor
  · rintro ⟨k, hk, rfl⟩
    rw [List.mem_range] at hk
    omega
  · rintro ⟨h0, h1⟩
    exact ⟨p.toNat, List.mem_range.mpr (by omega), by omega⟩
theorem plI_len (n : Nat) : (plI n).length = n := by
  unfold plI
  rw [List.length_map, List.length_range]
theorem plI_nodup (n : Nat) : (plI n).Nodup := by
  unfold plI
  rw [List.Nodup, List.pairwise_map]
  exact List.nodup_range.imp fun {a b} h e => h (by omega)
end Hk
namespace Hk
open PySem L2
end Hk

namespace Hk
open PySem L2
def aoR (ars : List (Int × Int)) (n : Nat) (c k : Int) : List (Int × Int) := ((List.range n).filter fun j => decide ((ars.getD j (0, 0)).1 = c)).map fun (j : Nat) => (k, (j : Int))
def aoL (ars : List (Int × Int)) : Nat → List (Int × Int)
  | 0 => []
  | k + 1 => aoL ars k ++ aoR ars ars.length (ars.getD k (0, 0)).2 (k : Int)
theorem aoR_succ (ars : List (Int × Int)) (n : Nat) (c k : Int) : aoR ars (n + 1) c k = aoR ars n c k ++ (if (ars.getD n (0, 0)).1 = c then [(k, (n : Int))] else []) := by
  unfold aoR
  rw [List.range_succ, List.filter_append, List.map_append]
  congr 1
  by_cases h : (ars.getD n (0, 0)).1 = c
  · rw [if_pos h, List.filter_cons, if_pos (decide_eq_true h)]
    rfl
  · rw [if_neg h, List.filter_cons, if_neg (by rw [decide_eq_false h]; decide)]
    rfl
theorem aoR_len (ars : List (Int × Int)) (n : Nat) (c k : Int) : (aoR ars n c k).length ≤ n := by
  unfold aoR
  rw [List.length_map]
  refine Nat.le_trans (List.length_filter_le _ _) ?_
  rw [List.length_range]
  exact Nat.le_refl _
theorem aoL_len (ars : List (Int × Int)) : ∀ k, (aoL ars k).length ≤ k * ars.length
  | 0 => by simp [aoL]
  | k + 1 => by
    show (aoL ars k ++ _).length ≤ _
    rw [List.length_append, Nat.add_mul, Nat.one_mul]
    exact Nat.add_le_add (aoL_len ars k) (aoR_len _ _ _ _)
theorem mem_aoR {ars : List (Int × Int)} {n : Nat} {c k : Int} {x : Int × Int} : x ∈ aoR ars n c k ↔ ∃ j : Nat, j < n ∧ x = (k, (j : Int)) ∧ (ars.getD j (0, 0)).1 = c := by
  unfold aoR
  rw [List.mem_map]
  constructor
  · rintro ⟨j, hj, rfl⟩
    rw [List.mem_filter, List.mem_range] at hj
    exact ⟨j, hj.1, rfl, of_decide_eq_true hj.2⟩
  · rintro ⟨j, h1, rfl, h2⟩
    exact ⟨j, List.mem_filter.mpr ⟨List.mem_range.mpr h1, decide_eq_true h2⟩, rfl⟩
theorem mem_aoL {ars : List (Int × Int)} {x : Int × Int} : ∀ {k : Nat}, x ∈ aoL ars k ↔ ∃ i j : Nat, i < k ∧ j < ars.length ∧ x = ((i : Int), (j : Int)) ∧ (ars.getD j (0, 0)).1 = (ars.getD i (0, 0)).2
  | 0 => by
    constructor
    · intro h
      cases h
    · rintro ⟨i, _, h, _⟩
      omega
  | k + 1 => by
    show x ∈ aoL ars k ++ _ ↔ _
    rw [List.mem_append, mem_aoL (k := k), mem_aoR]
    constructor
    · rintro (⟨i, j, h1, h2, h3, h4⟩ | ⟨j, h1, h2, h3⟩)
      · exact ⟨i, j, by omega, h2, h3, h4⟩
      · exact ⟨k, j, by omega, h1, h2, h3⟩
    · rintro ⟨i, j, h1, h2, h3, h4⟩
      by_cases e : i = k
      · subst e
        exact .inr ⟨j, h2, h3, h4⟩
      · exact .inl ⟨i, j, by omega, h2, h3, h4⟩
theorem aoR_stc (ars : List (Int × Int)) (n : Nat) (c k : Int) : Stc (aoR ars n c k) := by
  unfold aoR
  rw [Stc, List.pairwise_map]
  refine (List.Pairwise.filter _ List.pairwise_lt_range).imp fun {a b} h => ?_
  exact lexB_iff.mpr (.inr ⟨rfl, by show (a : Int) < (b : Int); omega⟩)
theorem aoL_stc (ars : List (Int × Int)) : ∀ k, Stc (aoL ars k)
  | 0 => List.Pairwise.nil
  | k + 1 => by
    show Stc (aoL ars k ++ _)
    rw [Stc, List.pairwise_append]
    refine ⟨aoL_stc ars k, aoR_stc _ _ _ _, fun x hx y hy => ?_⟩
    obtain ⟨i, j, h1, _, rfl, _⟩ := mem_aoL.mp hx
    obtain ⟨j', _, rfl, _⟩ := mem_aoR.mp hy
    exact lexB_iff.mpr (.inl (by show (i : Int) < (k : Int); omega))
theorem aoL_good {ars : List (Int × Int)} {m : Int} (g : GoodA m ars) : GoodA (ars.length : Int) (aoL ars ars.length) := fun x hx => by
  obtain ⟨i, j, h1, h2, rfl, h4⟩ := mem_aoL.mp hx
  refine ⟨by show (0 : Int) ≤ (i : Int); omega, by show (i : Int) < _; omega, by show (0 : Int) ≤ (j : Int); omega, by show (j : Int) < _; omega, fun e => ?_⟩
  have e : i = j := by
    have : (i : Int) = (j : Int) := e
    omega
  subst e
  have hi : ars.getD i (0, 0) ∈ ars := by
    rw [List.getD_eq_getElem?_getD, List.getElem?_eq_getElem h1]
    exact List.getElem_mem h1
  exact (g _ hi).2.2.2.2 h4
theorem ris_ao {ars T : List (Int × Int)} {k : Nat} (hp : T.Perm (aoL ars k)) (r : Ris T) : T = aoL ars k :=
  Stc.uniq (ris_strict r (hp.nodup_iff.mpr (Stc.nodup (aoL_stc ars k)))) (aoL_stc ars k) fun _ => hp.mem_iff
end Hk

namespace Hk
open PySem L2
theorem paired_snoc {α β : Type} {R : α → β → Prop} {x : α} {y : β} : ∀ {xs : List α} {ys : List β}, Paired R xs ys → R x y → Paired R (xs ++ [x]) (ys ++ [y])
  | _, _, .nil, h => .cons h .nil
  | _, _, .cons a r, h => .cons a (paired_snoc r h)
def Tps (H : Hp) : List V → List (List Int) → Prop := Paired fun v ns => ∃ q, v = V.ref q ∧ H q = some (.tup (ns.map V.int))
theorem Tps.mono {H H' : Hp} {ws : List V} {l : List (List Int)} (s : Same H H') (h : Tps H ws l) : Tps H' ws l := Paired.mapP h fun _ _ ⟨q, e, z⟩ => ⟨q, e, s _ _ z⟩
theorem Tps.but {H H' : Hp} {p : Addr} {xs : List V} {ws : List V} {l : List (List Int)} (hp : H p = some (.lst xs)) (s : SameBut p H H') (h : Tps H ws l) : Tps H' ws l := Paired.mapP h fun _ _ ⟨q, e, z⟩ => ⟨q, e, s _ _ (ne_of z hp (by intro z; cases z)) z⟩
theorem Tps.snoc {H : Hp} {ws : List V} {l : List (List Int)} {q : Addr} {ns : List Int} (h : Tps H ws l) (hq : H q = some (.tup (ns.map V.int))) : Tps H (ws ++ [.ref q]) (l ++ [ns]) := paired_snoc h ⟨q, rfl, hq⟩
theorem Tps.len {H : Hp} {ws : List V} {l : List (List Int)} (h : Tps H ws l) : ws.length = l.length := Paired.length h
end Hk

namespace Hk
open PySem L2
section
variable {P : Program} {w : World} {K : PySem.W.Frag} {mg : Str → Option Value} {base : Heap}
def bitB (N k : Nat) : Bool := decide (((N : Int) / 2 ^ k) % 2 = 1)
theorem and_one {x : Int} (h : 0 ≤ x) : Builtin.bitAnd x 1 = x % 2 := by
  rw [PyProof.Rows.bitAnd_pp h (by decide)]
  show ((x.toNat &&& 1 : Nat) : Int) = x % 2
  rw [Nat.and_one_is_mod]
  omega
theorem bit_val (N k : Nat) : decide (V.int (Builtin.bitAnd ((N : Int) / 2 ^ k) 1) = V.int 1) = bitB N k := by
  rw [and_one (Int.ediv_nonneg (by omega) (Int.pow_nonneg (by decide)))]
  unfold bitB
  simp
def bitsPl (m : Int) (N : Nat) : List Int := ((List.range m.toNat).map fun (k : Nat) => (k : Int)).filter fun k => bitB N k.toNat
theorem bitsPl_rise {m : Int} (N : Nat) (hm : 0 ≤ m) : Rise (bitsPl m N) m := by
  refine ⟨fun n hn => ?_, ?_⟩
  · unfold bitsPl at hn
    rw [List.mem_filter, List.mem_map] at hn
    obtain ⟨⟨k, hk, rfl⟩, _⟩ := hn
    have := List.mem_range.mp hk
    omega
  · unfold bitsPl
    refine List.Pairwise.filter _ ?_
    rw [List.pairwise_map]
    exact List.pairwise_lt_range.imp fun h => by omega
def holdsTo (m : Int) (ars : List (Int × Int)) (i : Nat) : List (List Int) := ((List.range i).map (bitsPl m)).filter (holdB m ars)
theorem holdsTo_succ (m : Int) (ars : List (Int × Int)) (i : Nat) : holdsTo m ars (i + 1) = holdsTo m ars i ++ (if holdB m ars (bitsPl m i) = true then [bitsPl m i] else []) := by
  unfold holdsTo
  rw [List.range_succ, List.map_append, List.filter_append]
  congr 1
  show List.filter (holdB m ars) [bitsPl m i] = _
  rw [List.filter_cons]
  rfl
theorem holdsTo_len (m : Int) (ars : List (Int × Int)) (i : Nat) : (holdsTo m ars i).length ≤ i := by
  unfold holdsTo
  refine Nat.le_trans (List.length_filter_le _ _) ?_
  rw [List.length_map, List.length_range]
  exact Nat.le_refl _
theorem pow_small {m : Int} (h0 : 0 ≤ m) (h1 : m ≤ 12) : (1 : Int) * 2 ^ m.toNat = ((2 ^ m.toNat : Nat) : Int) ∧ 2 ^ m.toNat ≤ 4096 := by
  constructor
  · rw [Int.one_mul]
    simp
  · exact Nat.pow_le_pow_right (by decide) (show m.toNat ≤ 12 by omega)
def spAllHolds : Sp := fun vs H Q _ => ∃ (a t : Addr) (m : Int) (us : List V) (ars : List (Int × Int)), vs = [.ref a] ∧ Web H a t m us ars ∧ m ≤ 12 ∧
  ∀ (l : Addr) (ws : List V) (H' : Hp), Same H H' → H l = none → H' l = some (.lst ws) → Tps H' ws (holdsTo m ars (2 ^ m.toNat)) → Q (.ref l) H'
theorem kn_allholds (D : DefAt K mg "_law_held" s_law_held ["web"]) (fr : Free mg ["range", "tuple"]) (kh : Kn P w K mg base 4 "hold_good" ["web", "thing"] spHold) : Kn P w K mg base 5 "_law_held" ["web"] spAllHolds := by
  have sc : FnScope ["web", "found", "number", "some"] ["web"] (defScope s_law_held) := ⟨rfl, rfl, rfl, by decide +kernel, rfl, by decide +kernel, by decide +kernel⟩
  refine D.kn (N := ["web", "found", "number", "some"]) sc (fun vs H Q E h => ?_) (fun f cdv A outer s H vs Q E hr h => ?_)
  · obtain ⟨a, t, m, us, ars, rfl, _⟩ := h
    rfl
  · obtain ⟨a, t, m, us, ars, rfl, W, h12, kk⟩ := h
    have m1 := fr "range" (by simp)
    have m2 := fr "tuple" (by simp)
    have nd : (["place", "number"] : List Str).Nodup := by decide +kernel
    refine ⟨_, pss_cons (ps_set (i := 1) sc.nd rfl (Or.inl rfl) (pe_lst pa_nil))
      (pss_cons (ps_for PassesOwn.never rfl (pi_range1 rfl m1 (pa_cons (pe_op op_shl pe_int (pe_ix ix_tup (pv 0) pe_int (fun _ _ => rfl))) pa_nil)) (pg_name (i := 2) sc.nd rfl (Or.inr rfl))
        (pss_cons (ps_set (i := 3) sc.nd rfl (Or.inl rfl) (pe_callTy call_tuple_of rfl m2 boot_ttuple (pa_cons (pe_lc (N := ["place", "number"]) (src := [none, some 2]) rfl ⟨rfl, rfl, rfl, rfl, ⟨⟨rfl, rfl⟩, trivial⟩, rfl, rfl, rfl⟩ (gown_name (i := 0) rfl) (pi_range1 rfl m1 (pa_cons (pe_ix ix_tup (pv 0) pe_int (fun _ _ => rfl)) pa_nil))
          (fun C s H fp => ⟨pg_name (i := 0) nd rfl (Or.inl rfl), pifs_one (pt_cmpR op_eq (pe_op op_and (pe_op op_shr (pv 1) (pv 0)) pe_int) pe_int (nomark _)), pv 0⟩)) pa_nil)))
        (pss_one (ps_if (pt_call (pe_kn kh hr (pa_cons (pv 0) (pa_cons (pv 3) pa_nil)))) (pss_one (ps_expr (pe_bm PySem.F.plainAttrs_list PySem.F.slot_list_append PySem.F.type_list_append mt_append (pv 1) (pa_cons (pv 3) pa_nil)))) pss_nil))))
      (pss_one (ps_ret (pv 1)))), ?_⟩
    have hm := W.mb
    obtain ⟨e2, b2⟩ := pow_small hm.1 h12
    have b3 : (((2 ^ m.toNat : Nat)) : Int) ≤ 4096 := by exact_mod_cast b2
    refine ⟨(by show 0 ≤ sizeLine; decide), fun l hl => ?_⟩
    have s0 : Same H _ := Same.upd (o := .lst []) hl
    refine ⟨_, rfl, a, _, _, _, rfl, rfl, SqT.of (s0 _ _ W.top), rfl, _, _, rfl, rfl, ⟨hm.1, by omega, by decide⟩, _, rfl, by rw [e2]; exact Int.le_trans (by decide) (Int.natCast_nonneg _), by rw [e2]; exact Int.lt_of_le_of_lt b3 (by decide), ?_⟩
    rw [e2, Int.toNat_natCast]
    refine for_range (fun i σ H2 => ∃ (ws : List V) (v2 v3 : Option V), σ = [some (.ref a), some (.ref l), v2, v3] ∧ Same H H2 ∧ H2 l = some (.lst ws) ∧ Tps H2 ws (holdsTo m ars i)) ⟨[], none, none, rfl, s0, upd_same, .nil⟩ ?_ ?_
    · rintro i σ H2 hi ⟨ws, v2, v3, rfl, s2, hl2, tp⟩
      have W2 := W.mono s2
      refine ⟨_, rfl, a, _, _, _, rfl, rfl, SqT.of W2.top, rfl, m, rfl, by omega, by omega, lc_range (fun j zs H' => Same H2 H' ∧ zs = ((((List.range m.toNat).map fun (k : Nat) => (k : Int)).take j).filter fun k => bitB i k.toNat).map V.int) ⟨Same.refl _, rfl⟩ ?_ ?_ ?_⟩
      · rintro j zs H' hj ⟨s3, rfl⟩
        have h2 := List.length_filter_le (fun k : Int => bitB i k.toNat) (((List.range m.toNat).map fun (k : Nat) => (k : Int)).take j)
        rw [List.length_take, List.length_map, List.length_range] at h2
        rw [List.length_map]
        exact Nat.le_of_lt (small1000 (by omega))
      · rintro zs H' ⟨s3, rfl⟩ l2 hl2'
        rw [List.take_of_length_le (by simp)]
        refine ⟨l2, _, rfl, .inl ⟨SqL.of upd_same, fun q hq => ?_⟩⟩
        have s4 : Same H2 _ := (s3.trans (Same.upd (o := .lst ((bitsPl m i).map V.int)) hl2')).trans (Same.upd (o := .tup ((bitsPl m i).map V.int)) hq)
        have hq4 : (upd (upd H' l2 (.lst ((bitsPl m i).map V.int))) q (.tup ((bitsPl m i).map V.int))) q = some (.tup ((bitsPl m i).map V.int)) := upd_same
        have R := bitsPl_rise i hm.1
        have hlr := R.len
        refine ⟨_, rfl, _, rfl, a, t, m, us, ars, .ref q, some ((bitsPl m i).map V.int), rfl, W2.mono s4, thing_ints' hq4 (by omega), fun ys e => ?_, fun H5 s5 => ?_⟩
        · cases e
          rw [List.length_map]
          omega
        rw [hg_rise R]
        have s45 := s4.trans s5
        have hl5 := s45 _ _ hl2
        have tp5 := tp.mono s45
        have hlen := holdsTo_len m ars i
        have hlw := tp.len
        refine ⟨_, rfl, ite2 (fun h1 => ?_) (fun h1 => ?_)⟩
        · refine ⟨_, rfl, .inl ⟨rfl, _, SqL.of hl5⟩, _, rfl, l, ws, _, rfl, rfl, hl5, smallN (by omega), ?_⟩
          refine ⟨_, _, _, rfl, fun b o e => ?_, upd_same, ?_⟩
          · rw [upd_ne (ne_of_none e hl)]
            exact s45 _ _ (s2 _ _ e)
          · rw [holdsTo_succ, if_pos h1]
            have hq5 := s5 _ _ hq4
            exact Tps.but hl5 SameBut.upd (tp5.snoc hq5)
        · refine ⟨ws, _, _, rfl, s2.trans s45, hl5, ?_⟩
          rw [holdsTo_succ, if_neg h1, List.append_nil]
          exact tp5
      · rintro j zs H' hj ⟨s3, rfl⟩
        have e1 : ((List.range m.toNat).map fun (k : Nat) => (k : Int))[j]? = some (0 + (j : Int)) := by simp [hj]
        refine ⟨_, rfl, _, rfl, _, _, rfl, rfl, (by show (0 : Int) ≤ 0 + j; omega), _, _, rfl, rfl, rfl, _, rfl, ?_⟩
        have eb : decide (V.int (Builtin.bitAnd ((0 + (i : Int)) / 2 ^ (0 + (j : Int)).toNat) 1) = V.int 1) = bitB i (0 + (j : Int)).toNat := by
          rw [Int.zero_add, Int.zero_add, Int.toNat_natCast]
          exact bit_val i j
        rw [eb]
        refine ite2 (fun h2 => ?_) (fun h2 => ?_)
        · refine ⟨_, rfl, nx hj ⟨s3, ?_⟩⟩
          rw [filter_snoc _ _ _ _ e1, if_pos h2, List.map_append]
          rfl
        · refine nx hj ⟨s3, ?_⟩
          rw [filter_snoc _ _ _ _ e1, if_neg h2, List.append_nil]
    · rintro σ H2 ⟨ws, v2, v3, rfl, s2, hl2, tp⟩
      exact ⟨_, rfl, kk l ws H2 s2 hl hl2 tp⟩
end
end Hk

namespace Hk
theorem up_ext : ∀ {a b : List Int}, a.Pairwise (· < ·) → b.Pairwise (· < ·) → (∀ n, n ∈ a ↔ n ∈ b) → a = b
  | [], [], _, _, _ => rfl
  | [], y :: _, _, _, h => by simp at h; exact absurd rfl (h y).1
  | x :: _, [], _, _, h => by simp at h; exact absurd rfl (h x).1
  | x :: r, y :: q, ha, hb, h => by
    rw [List.pairwise_cons] at ha hb
    have e : x = y := by
      have h1 := (h x).mp (by simp)
      have h2 := (h y).mpr (by simp)
      rcases List.mem_cons.mp h1 with z | z
      · exact z
      · rcases List.mem_cons.mp h2 with u | u
        · exact u.symm
        · have := ha.1 _ u
          have := hb.1 _ z
          omega
    subst e
    congr 1
    refine up_ext ha.2 hb.2 fun n => ?_
    constructor
    · intro hn
      rcases List.mem_cons.mp ((h n).mp (List.mem_cons_of_mem _ hn)) with z | z
      · exact absurd (ha.1 _ hn) (by omega)
      · exact z
    · intro hn
      rcases List.mem_cons.mp ((h n).mpr (List.mem_cons_of_mem _ hn)) with z | z
      · exact absurd (hb.1 _ hn) (by omega)
      · exact z
end Hk

namespace Hk
open PySem L2 PySem.W
theorem bitB_test (N k : Nat) : bitB N k = N.testBit k := by
  unfold bitB
  rw [Nat.testBit_eq_decide_div_mod_eq]
  refine decide_eq_decide.mpr ?_
  have e : ((N : Int) / 2 ^ k) % 2 = ((N / 2 ^ k % 2 : Nat) : Int) := by
    rw [Int.natCast_emod, Int.natCast_ediv, Int.natCast_pow]
    rfl
  rw [e]
  omega
theorem bits_all (f : Nat → Bool) : ∀ m : Nat, ∃ N, N < 2 ^ m ∧ ∀ k, k < m → N.testBit k = f k
  | 0 => ⟨0, by decide, fun k hk => absurd hk (Nat.not_lt_zero _)⟩
  | m + 1 => by
    obtain ⟨N, h1, h2⟩ := bits_all f m
    have hlt : 2 ^ m < 2 ^ (m + 1) := Nat.pow_lt_pow_right (by decide) (by omega)
    by_cases c : f m = true
    · refine ⟨N ||| 2 ^ m, Nat.or_lt_two_pow (by omega) hlt, fun k hk => ?_⟩
      rw [Nat.testBit_or, Nat.testBit_two_pow]
      by_cases e : k = m
      · subst e
        rw [decide_eq_true rfl, Bool.or_true, c]
      · rw [decide_eq_false (fun z => e z.symm), Bool.or_false]
        exact h2 k (by omega)
    · refine ⟨N, by omega, fun k hk => ?_⟩
      by_cases e : k = m
      · subst e
        rw [Nat.testBit_lt_two_pow h1]
        exact (Bool.eq_false_iff.mpr c).symm
      · exact h2 k (by omega)
theorem holds_all {m : Int} {ars : List (Int × Int)} {S : List Int} (hm : 0 ≤ m) (R : Rise S m) (hb : holdB m ars S = true) : S ∈ holdsTo m ars (2 ^ m.toNat) := by
  obtain ⟨N, h1, h2⟩ := bits_all (fun k => decide ((k : Int) ∈ S)) m.toNat
  have e : bitsPl m N = S := by
    refine up_ext (bitsPl_rise N hm).up R.up fun p => ?_
    unfold bitsPl
    rw [List.mem_filter, List.mem_map]
    constructor
    · rintro ⟨⟨k, hk, rfl⟩, hb⟩
      rw [bitB_test, Int.toNat_natCast, h2 k (List.mem_range.mp hk)] at hb
      exact of_decide_eq_true hb
    · intro hp
      have b := R.bd p hp
      refine ⟨⟨p.toNat, List.mem_range.mpr (by omega), by omega⟩, ?_⟩
      rw [bitB_test, h2 p.toNat (by omega), show ((p.toNat : Nat) : Int) = p by omega]
      exact decide_eq_true hp
  unfold holdsTo
  rw [List.mem_filter]
  exact ⟨List.mem_map.mpr ⟨N, List.mem_range.mpr h1, e⟩, hb⟩
theorem holdsTo_ok {m : Int} {ars : List (Int × Int)} {S : List Int} {i : Nat} (hm : 0 ≤ m) (h : S ∈ holdsTo m ars i) : Rise S m ∧ holdB m ars S = true := by
  unfold holdsTo at h
  rw [List.mem_filter] at h
  obtain ⟨k, _, rfl⟩ := List.mem_map.mp h.1
  exact ⟨bitsPl_rise k hm, h.2⟩
end Hk

namespace Hk
open PySem L2 PySem.W
theorem huN {k j : Nat} {A : Around} (hr : Room k A) (h : j ≤ 200) : A.units + j < cLine := by
  have := hr.un
  omega
theorem none_same' {H H' : Hp} {l : Addr} (s : Same H H') (h : H' l = none) : H l = none := by
  cases e : H l with
  | none => rfl
  | some o => rw [s _ _ e] at h; cases h
end Hk

namespace L2
open PySem PySem.Spec PyProof.Rows
theorem for_enumT {a : Addr} {xs : List V} {g : TG} {tb : TS} {D : Ends} {σ : St} {H : Hp} (Pv : Nat → St → Hp → Prop) (h0 : Pv 0 σ H) (hl : ∀ i σ H, i ≤ xs.length → Pv i σ H → H a = some (.tup xs))
    (hs : ∀ (i : Nat) v σ H p, xs[i]? = some v → Pv i σ H → H p = none → g (.ref p) σ (upd H p (.tup [.int i, v])) fun σ2 H2 => tb { D with nx := Pv (i + 1), ct := Pv (i + 1), bk := D.nx } σ2 H2) (hd : ∀ σ H, Pv xs.length σ H → D.nx σ H) :
    ∃ W : Nat → Nat → St → Hp → Prop, (∃ m, W 0 m σ H) ∧ ∀ i m σ H, W i m σ H →
      ((Ite a).stop i H ∧ D.nx σ H) ∨ ((Ite a).go i H ∧ ∃ N : St → Hp → Prop, (∀ σ' H', N σ' H' → ∃ m', m' < m ∧ W (i + 1) m' σ' H') ∧ ∀ x H', (Ite a).yld i H x H' → g x σ H' fun σ2 H2 => tb { D with nx := N, ct := N, bk := D.nx } σ2 H2) := by
  refine ⟨fun i m σ H => m = xs.length - i ∧ i ≤ xs.length ∧ Pv i σ H, ⟨xs.length, by simp, Nat.zero_le _, h0⟩, ?_⟩
  rintro i m σ H ⟨rfl, hi, p⟩
  have q := hl i σ H hi p
  by_cases hlt : i < xs.length
  · refine .inr ⟨⟨xs, q, hlt⟩, Pv (i + 1), fun σ' H' p' => ⟨xs.length - (i + 1), by omega, rfl, hlt, p'⟩, fun x H' y => ?_⟩
    obtain ⟨p', v, e1, e2, e3, y⟩ := y
    subst e1 e3
    exact hs i v σ H p' (y xs q) p e2
  · have e : i = xs.length := by omega
    subst e
    exact .inl ⟨⟨xs, q, rfl⟩, hd σ H p⟩
end L2

namespace Hk
open PySem L2 PySem.W
def stF (m pl n : Int) (i : Nat) : List Int := if (i : Int) < pl then [(i : Int)] else if (i : Int) = pl then (plI n.toNat).map fun x => m - 1 + x else [(i : Int) - 1]
structure LL (H : Hp) (l : Addr) (rows : List Addr) (f : Nat → List Int) : Prop where
  top : H l = some (.lst (rows.map V.ref))
  row : ∀ i r, rows[i]? = some r → H r = some (.lst ((f i).map V.int))
theorem LL.mono {H H' : Hp} {l : Addr} {rows : List Addr} {f : Nat → List Int} (h : LL H l rows f) (s : Same H H') : LL H' l rows f := ⟨s _ _ h.top, fun i r e => s _ _ (h.row i r e)⟩
section
variable {P : Program} {w : World} {K : Frag} {mg : Str → Option Value} {base : Heap}
def spSt : Sp := fun vs H Q _ => ∃ (a t a' t' : Addr) (m n pl : Int) (us us' : List V) (ars ars' : List (Int × Int)), vs = [.ref a, .int pl, .ref a'] ∧ Web H a t m us ars ∧ Web H a' t' n us' ars' ∧ 0 ≤ pl ∧ pl < m ∧ m ≤ 40 ∧ 0 ≤ n ∧ n ≤ 40 ∧
  ∀ (l : Addr) (rows : List Addr) (H' : Hp), Same H H' → H l = none → rows.length = m.toNat → LL H' l rows (stF m pl n) → Q (.ref l) H'
theorem rows_put {H : Hp} {l : Addr} {xs ys : List V} {rs : List Addr} {g : Nat → List Int} (hl : H l = some (.lst xs)) (nl : ∀ r ∈ rs, r ≠ l) (h : ∀ (j : Nat) r, rs[j]? = some r → H r = some (.lst ((g j).map V.int))) : ∀ (j : Nat) r, rs[j]? = some r → (upd H l (.lst ys)) r = some (.lst ((g j).map V.int)) := fun j r e => by
  rw [upd_ne (nl r (List.mem_of_getElem? e))]
  exact h j r e
theorem kn_st (D : DefAt K mg "stands_for" s_stands_for ["web", "place", "other"]) (fr : Free mg ["range"]) : Kn P w K mg base 1 "stands_for" ["web", "place", "other"] spSt := by
  have sc : FnScope ["web", "place", "other", "kept", "stands"] ["web", "place", "other"] (defScope s_stands_for) := ⟨rfl, rfl, rfl, by decide +kernel, rfl, by decide +kernel, by decide +kernel⟩
  refine D.kn (N := ["web", "place", "other", "kept", "stands"]) sc (fun vs H Q E h => ?_) (fun f cdv A outer s H vs Q E hr h => ?_)
  · obtain ⟨a, t, a', t', m, n, pl, us, us', ars, ars', rfl, _⟩ := h
    rfl
  · obtain ⟨a, t, a', t', m, n, pl, us, us', ars, ars', rfl, W, W', p0, pm, m40, n0, n40, kk⟩ := h
    have m_range := fr "range" (by simp)
    have nd0 : (["old"] : List Str).Nodup := by decide +kernel
    have nd1 : (["new", "kept"] : List Str).Nodup := by decide +kernel
    have nd2 : (["old"] : List Str).Nodup := by decide +kernel
    refine ⟨_, (pss_cons (ps_set (i := 3) sc.nd rfl (Or.inr rfl) (pe_op op_sub (pe_ix ix_tup (pv 0) pe_int (fun _ _ => rfl)) pe_int)) (pss_cons (ps_setlc (i := 4) (N := ["old"]) (src := [none]) (cl := []) sc.nd rfl rfl rfl rfl ⟨rfl, rfl, rfl, rfl, trivial, rfl, rfl, rfl⟩ (gown_name (i := 0) rfl) (pi_range1 rfl m_range (pa_cons (pv 1) pa_nil)) (fun C s H fp => ⟨(pg_name (i := 0) nd0 rfl (Or.inl rfl)), pifs_nil, (pe_lst (pa_cons (pv 0) pa_nil))⟩)) (pss_cons (ps_expr (pe_bm PySem.F.plainAttrs_list PySem.F.slot_list_append PySem.F.type_list_append mt_append (pv 4) (pa_cons (pe_lc (N := ["new", "kept"]) (src := [none, some 3]) rfl ⟨rfl, rfl, rfl, rfl, ⟨⟨rfl, rfl⟩, trivial⟩, rfl, rfl, rfl⟩ (gown_name (i := 0) rfl) (pi_range1 rfl m_range (pa_cons (pe_ix ix_tup (pv 2) pe_int (fun _ _ => rfl)) pa_nil)) (fun C s H fp => ⟨(pg_name (i := 0) nd1 rfl (Or.inl rfl)), pifs_nil, (pe_op op_add (pv 1) (pv 0))⟩)) pa_nil))) (pss_cons (ps_expr (pe_bm PySem.F.plainAttrs_list PySem.F.slot_list_extend PySem.F.type_list_extend mt_extend (pv 4) (pa_cons (pe_lc (N := ["old"]) (src := [none]) (cl := []) rfl ⟨rfl, rfl, rfl, rfl, trivial, rfl, rfl, rfl⟩ (gown_name (i := 0) rfl) (pi_range2 rfl m_range (pa_cons (pv 1) (pa_cons (pv 3) pa_nil))) (fun C s H fp => ⟨(pg_name (i := 0) nd2 rfl (Or.inl rfl)), pifs_nil, (pe_lst (pa_cons (pv 0) pa_nil))⟩)) pa_nil))) (pss_one (ps_ret (pv 4))))))), ?_⟩
    have c1 : 1 ≤ sizeLine := by decide
    refine ⟨_, rfl, a, _, _, _, rfl, rfl, SqT.of W.top, rfl, _, _, rfl, rfl, ?_⟩
    refine gname_in ?_
    dsimp only [List.set]
    refine ⟨_, rfl, pl, rfl, by omega, by omega, lc_range0 (n := pl.toNat) (fun i zs H' => ∃ rs : List Addr, zs = rs.map V.ref ∧ rs.length = i ∧ Same H H' ∧ (∀ r ∈ rs, H r = none) ∧ ∀ (j : Nat) r, rs[j]? = some r → H' r = some (.lst ((stF m pl n j).map V.int))) ⟨[], rfl, rfl, Same.refl _, fun r hr => (nomatch hr), fun j r e => (nomatch e)⟩ ?_ ?_ ?_⟩
    · rintro i zs H' hi ⟨rs, rfl, lr, s1, _⟩
      rw [List.length_map]
      exact Nat.le_of_lt (small1000 (by omega))
    · rintro zs H1 ⟨rs, rfl, lr, s1, fr1, hr1⟩ l hl
      have sl := Same.upd (o := .lst (rs.map V.ref)) hl
      have nl : ∀ r ∈ rs, r ≠ l := fun r hr z => by
        obtain ⟨j, e⟩ := List.getElem?_of_mem hr
        have := hr1 j r e
        rw [z, hl] at this
        cases this
      have hl1 : (upd H1 l (.lst (rs.map V.ref))) l = some (.lst (rs.map V.ref)) := upd_same
      have hr2 : ∀ (j : Nat) r, rs[j]? = some r → (upd H1 l (.lst (rs.map V.ref))) r = some (.lst ((stF m pl n j).map V.int)) := fun j r e => sl _ _ (hr1 j r e)
      have hlH : H l = none := none_same' s1 hl
      have s2 : Same H (upd H1 l (.lst (rs.map V.ref))) := s1.trans sl
      generalize upd H1 l (.lst (rs.map V.ref)) = H2 at hl1 hr2 s2 ⊢
      refine ⟨_, rfl, .inl ⟨rfl, _, SqL.of hl1⟩, _, rfl, a', _, _, _, rfl, rfl, SqT.of (s2 _ _ W'.top), rfl, n, rfl, by omega, by omega, lc_range0 (n := n.toNat) (fun i zs H' => H' = H2 ∧ zs = ((plI i).map fun x => m - 1 + x).map V.int) ⟨rfl, rfl⟩ ?_ ?_ ?_⟩
      · rintro i zs H' hi ⟨rfl, rfl⟩
        rw [List.length_map, List.length_map, plI_len]
        exact Nat.le_of_lt (small1000 (by omega))
      · rintro zs H' ⟨rfl, rfl⟩ x hx
        have sx := Same.upd (o := .lst (((plI n.toNat).map fun x => m - 1 + x).map V.int)) hx
        have nx' : x ≠ l := fun z => by
          rw [z, hl1] at hx
          cases hx
        refine ⟨l, rs.map V.ref, .ref x, rfl, rfl, sx _ _ hl1, small1000 (by rw [List.length_map]; omega), ?_⟩
        have hxH : H x = none := none_same' s2 hx
        have s3 : Same H (upd (upd H' x (.lst (((plI n.toNat).map fun x => m - 1 + x).map V.int))) l (.lst (rs.map V.ref ++ [.ref x]))) := fun b o e => by
          rw [upd_ne (ne_of_none e hlH)]
          exact sx _ _ (s2 _ _ e)
        have hl3 : (upd (upd H' x (.lst (((plI n.toNat).map fun x => m - 1 + x).map V.int))) l (.lst (rs.map V.ref ++ [.ref x]))) l = some (.lst ((rs ++ [x]).map V.ref)) := by
          rw [upd_same, List.map_append]
          rfl
        have nl3 : ∀ r ∈ rs ++ [x], r ≠ l := fun r hr => by
          rcases List.mem_append.mp hr with g | g
          · exact nl r g
          · rw [List.mem_singleton.mp g]
            exact nx'
        have fr3 : ∀ r ∈ rs ++ [x], H r = none := fun r hr => by
          rcases List.mem_append.mp hr with g | g
          · exact fr1 r g
          · rw [List.mem_singleton.mp g]
            exact hxH
        have hr3 : ∀ (j : Nat) r, (rs ++ [x])[j]? = some r → (upd (upd H' x (.lst (((plI n.toNat).map fun x => m - 1 + x).map V.int))) l (.lst (rs.map V.ref ++ [.ref x]))) r = some (.lst ((stF m pl n j).map V.int)) := by
          refine rows_put (sx _ _ hl1) nl3 fun j r e => ?_
          by_cases c : j < rs.length
          · rw [List.getElem?_append_left c] at e
            exact sx _ _ (hr2 j r e)
          · rw [List.getElem?_append_right (by omega)] at e
            obtain ⟨h1, h2⟩ := List.getElem?_eq_some_iff.mp e
            rw [List.length_singleton] at h1
            have ej : (j : Int) = pl := by omega
            have : r = x := by
              have e0 : j - rs.length = 0 := by omega
              rw [e0] at e
              exact (Option.some.inj e).symm
            rw [this, upd_same]
            unfold stF
            rw [if_neg (by omega), if_pos ej]
        generalize upd (upd H' x (.lst (((plI n.toNat).map fun x => m - 1 + x).map V.int))) l (.lst (rs.map V.ref ++ [.ref x])) = H3 at s3 hl3 hr3 ⊢
        have l3 : (rs ++ [x]).length = pl.toNat + 1 := by
          rw [List.length_append, lr]
          rfl
        generalize rs ++ [x] = rs3 at hl3 nl3 fr3 hr3 l3
        refine ⟨_, rfl, .inl ⟨rfl, _, SqL.of hl3⟩, _, rfl, _, rfl, pl, m - 1, rfl, ⟨by omega, by omega, by omega, by omega⟩, lc_range0 (lo := pl) (n := (m - 1 - pl).toNat) (fun i zs H' => ∃ rs : List Addr, zs = rs.map V.ref ∧ rs.length = i ∧ Same H3 H' ∧ (∀ r ∈ rs, H3 r = none) ∧ ∀ (j : Nat) r, rs[j]? = some r → H' r = some (.lst ((stF m pl n (pl.toNat + 1 + j)).map V.int))) ⟨[], rfl, rfl, Same.refl _, fun r hr => (nomatch hr), fun j r e => (nomatch e)⟩ ?_ ?_ ?_⟩
        · rintro i zs H4 hi ⟨rs4, rfl, lr4, s4, _⟩
          rw [List.length_map]
          exact Nat.le_of_lt (small1000 (by omega))
        · rintro zs H4 ⟨rs4, rfl, lr4, s4, fr4, hr4⟩ y hy
          have sy := Same.upd (o := .lst (rs4.map V.ref)) hy
          refine ⟨l, y, rs3.map V.ref, rs4.map V.ref, rfl, rfl, sy _ _ (s4 _ _ hl3), upd_same, Nat.le_of_lt (small1000 (by rw [List.length_map, List.length_map]; omega)), ?_⟩
          refine ⟨_, rfl, kk l (rs3 ++ rs4) _ (fun b o e => ?_) hlH (by rw [List.length_append]; omega) ⟨?_, ?_⟩⟩
          · rw [upd_ne (ne_of_none e hlH)]
            exact sy _ _ (s4 _ _ (s3 _ _ e))
          · rw [upd_same, List.map_append]
          · refine rows_put (sy _ _ (s4 _ _ hl3)) (fun r hr => ?_) fun j r e => ?_
            · rcases List.mem_append.mp hr with g | g
              · exact nl3 r g
              · exact fun z => by
                  have := fr4 r g
                  rw [z, hl3] at this
                  cases this
            · by_cases c : j < rs3.length
              · rw [List.getElem?_append_left c] at e
                exact sy _ _ (s4 _ _ (hr3 j r e))
              · rw [List.getElem?_append_right (by omega)] at e
                have := sy _ _ (hr4 _ r e)
                rw [show pl.toNat + 1 + (j - rs3.length) = j by omega] at this
                exact this
        · rintro i zs H4 hi ⟨rs4, rfl, lr4, s4, fr4, hr4⟩
          refine ⟨_, rfl, c1, fun y hy => nx hi ⟨rs4 ++ [y], by rw [List.map_append]; rfl, by rw [List.length_append, lr4]; rfl, s4.trans (Same.upd hy), fun r hr => ?_, fun j r e => ?_⟩⟩
          · rcases List.mem_append.mp hr with g | g
            · exact fr4 r g
            · rw [List.mem_singleton.mp g]
              exact none_same' s4 hy
          · by_cases c : j < rs4.length
            · rw [List.getElem?_append_left c] at e
              exact Same.upd hy _ _ (hr4 j r e)
            · rw [List.getElem?_append_right (by omega)] at e
              obtain ⟨h1, _⟩ := List.getElem?_eq_some_iff.mp e
              rw [List.length_singleton] at h1
              have e0 : j - rs4.length = 0 := by omega
              rw [e0] at e
              rw [← Option.some.inj e, upd_same]
              unfold stF
              rw [if_neg (by omega), if_neg (by omega), show pl + (i : Int) = ((pl.toNat + 1 + j : Nat) : Int) - 1 by omega]
              rfl
      · rintro i zs H' hi ⟨rfl, rfl⟩
        refine ⟨_, rfl, _, rfl, _, _, rfl, rfl, nx hi ⟨rfl, ?_⟩⟩
        unfold plI
        rw [List.range_succ, List.map_append, List.map_append, List.map_append, Int.zero_add]
        rfl
    · rintro i zs H' hi ⟨rs, rfl, lr, s1, fr1, hr1⟩
      refine ⟨_, rfl, c1, fun y hy => nx hi ⟨rs ++ [y], by rw [List.map_append]; rfl, by rw [List.length_append, lr]; rfl, s1.trans (Same.upd hy), fun r hr => ?_, fun j r e => ?_⟩⟩
      · rcases List.mem_append.mp hr with g | g
        · exact fr1 r g
        · rw [List.mem_singleton.mp g]
          exact none_same' s1 hy
      · by_cases c : j < rs.length
        · rw [List.getElem?_append_left c] at e
          exact Same.upd hy _ _ (hr1 j r e)
        · rw [List.getElem?_append_right (by omega)] at e
          obtain ⟨h1, _⟩ := List.getElem?_eq_some_iff.mp e
          rw [List.length_singleton] at h1
          have e0 : j - rs.length = 0 := by omega
          rw [e0] at e
          rw [← Option.some.inj e, upd_same]
          unfold stF
          rw [if_pos (by omega), Int.zero_add, show i = j by omega]
          rfl
end
end Hk

namespace Hk
open PySem L2 PySem.W
theorem getD_at {ars : List (Int × Int)} {i : Nat} {q : Int × Int} (h : ars[i]? = some q) : ars.getD i (0, 0) = q := by
  rw [List.getD_eq_getElem?_getD, h]
  rfl
def taS (ars : List (Int × Int)) (S : List Int) : List Int := ((List.range ars.length).filter fun k => decide ((ars.getD k (0, 0)).2 ∈ S)).map fun (k : Nat) => (k : Int)
def frS (m : Int) (ars : List (Int × Int)) (T : List Int) : List Int := ((List.range m.toNat).map fun (k : Nat) => (k : Int)).filter fun p => !decide (p ∈ T.map fun k => (ars.getD k.toNat (0, 0)).1)
def crossL (A B : List Int) : List (Int × Int) := A.flatMap fun x => B.map fun y => (x, y)
def putL (m pl : Int) (ars : List (Int × Int)) (n : Int) (ars' : List (Int × Int)) : List (Int × Int) := (ars'.map fun q => (m - 1 + q.1, m - 1 + q.2)) ++ ars.flatMap fun q => crossL (stF m pl n q.1.toNat) (stF m pl n q.2.toNat)
theorem stF_len {m pl n : Int} (n0 : 0 ≤ n) (n40 : n ≤ 40) (i : Nat) : (stF m pl n i).length ≤ 40 ∧ ((i : Int) ≠ pl → (stF m pl n i).length = 1) := by
  unfold stF
  by_cases c : (i : Int) < pl
  · rw [if_pos c]
    exact ⟨by show 1 ≤ 40; decide, fun _ => rfl⟩
  · rw [if_neg c]
    by_cases c2 : (i : Int) = pl
    · rw [if_pos c2, List.length_map, plI_len]
      exact ⟨by omega, fun z => absurd c2 z⟩
    · rw [if_neg c2]
      exact ⟨by show 1 ≤ 40; decide, fun _ => rfl⟩
theorem crossL_len : ∀ (A B : List Int), (crossL A B).length = A.length * B.length
  | [], B => by rw [List.length_nil, Nat.zero_mul]; rfl
  | x :: A, B => by
    have e : crossL (x :: A) B = B.map (fun y => (x, y)) ++ crossL A B := by
      unfold crossL
      rw [List.flatMap_cons]
    rw [e, List.length_append, List.length_map, crossL_len A B, List.length_cons, Nat.succ_mul]
    omega
theorem cross_le {m pl n : Int} (n0 : 0 ≤ n) (n40 : n ≤ 40) {q : Int × Int} (h1 : 0 ≤ q.1) (h2 : 0 ≤ q.2) (h3 : q.1 ≠ q.2) : (crossL (stF m pl n q.1.toNat) (stF m pl n q.2.toNat)).length ≤ 40 := by
  rw [crossL_len]
  obtain ⟨a1, a2⟩ := stF_len (m := m) (pl := pl) n0 n40 q.1.toNat
  obtain ⟨b1, b2⟩ := stF_len (m := m) (pl := pl) n0 n40 q.2.toNat
  by_cases c : ((q.1.toNat : Nat) : Int) = pl
  · rw [b2 (by omega), Nat.mul_one]
    exact a1
  · rw [a2 c, Nat.one_mul]
    exact b1
theorem flat_le {F : Int × Int → List (Int × Int)} : ∀ {l : List (Int × Int)}, (∀ q ∈ l, (F q).length ≤ 40) → (l.flatMap F).length ≤ l.length * 40
  | [], _ => Nat.zero_le _
  | q :: l, h => by
    have h1 := h q (by simp)
    have h2 := flat_le (l := l) fun x hx => h x (by simp [hx])
    rw [List.flatMap_cons, List.length_append, List.length_cons, Nat.succ_mul]
    omega
section
variable {P : Program} {w : World} {K : Frag} {mg : Str → Option Value} {base : Heap}
def spAW0 : Sp := fun vs H Q _ => ∃ (a t : Addr) (m : Int) (us : List V) (ars : List (Int × Int)), vs = [.ref a] ∧ Web H a t m us ars ∧ us.length ≤ 200 ∧ ars ≠ [] ∧ ars.length ≤ 40 ∧ (aoL ars ars.length).length ≤ 200 ∧
  ∀ (a' t' : Addr) (us' : List V) (H' : Hp), Same H H' → Web H' a' t' (ars.length : Nat) us' (aoL ars ars.length) → us'.length = (aoL ars ars.length).length → Q (.ref a') H'
theorem kn_aw0 (D : DefAt K mg "arrows_web" s_arrows_web ["web"]) (fr : Free mg ["enumerate", "len"]) (kb : Kn P w K mg base 1 "bounded_web" ["many", "arrows"] spBW0) : Kn P w K mg base 2 "arrows_web" ["web"] spAW0 := by
  have sc : FnScope ["web", "arrows", "number", "arrow"] ["web"] (defScope s_arrows_web) := ⟨rfl, rfl, rfl, by decide +kernel, rfl, by decide +kernel, by decide +kernel⟩
  refine D.kn (N := ["web", "arrows", "number", "arrow"]) sc (fun vs H Q E h => ?_) (fun f cdv A outer s H vs Q E hr h => ?_)
  · obtain ⟨a, t, m, us, ars, rfl, _⟩ := h
    rfl
  · obtain ⟨a, t, m, us, ars, rfl, W, l200, na, l40, l20, kk⟩ := h
    have hu := hu_of hr
    have m1 := fr "enumerate" (by simp)
    have m2 := fr "len" (by simp)
    have r1 := hr.mono (j := 1) (by decide)
    have nd : (["onward", "other", "number", "arrow"] : List Str).Nodup := by decide +kernel
    have lu := arsLen W.ars
    refine ⟨_, (pss_cons (ps_if (pt_cmpR (op_eqTN (Nat.lt_of_succ_lt hu)) (pe_ix ix_tup (pv 0) pe_int (fun _ _ => rfl)) (pe_tup pa_nil) (nomark _)) (pss_one ps_never) pss_nil) (pss_cons (ps_set (i := 1) sc.nd rfl (Or.inl rfl) (pe_lst pa_nil)) (pss_cons (ps_for PassesOwn.never rfl (pi_enum rfl m1 (pa_cons (pe_ix ix_tup (pv 0) pe_int (fun _ _ => rfl)) pa_nil)) (pg_tup (n := 2) rfl (pgs_cons (pg_name (i := 2) sc.nd rfl (Or.inr rfl)) (pgs_cons (pg_name (i := 3) sc.nd rfl (Or.inr rfl)) pgs_nil))) (pss_one (ps_expr (pe_bm PySem.F.plainAttrs_list PySem.F.slot_list_extend PySem.F.type_list_extend mt_extend (pv 1) (pa_cons (pe_lc (N := ["onward", "other", "number", "arrow"]) (src := [none, none, some 2, some 3]) rfl ⟨rfl, rfl, rfl, rfl, ⟨⟨rfl, rfl⟩, ⟨⟨rfl, rfl⟩, trivial⟩⟩, rfl, rfl, rfl⟩ (gown_pair (i := 0) (j := 1) rfl rfl) (pi_enum rfl m1 (pa_cons (pe_ix ix_tup (pv 0) pe_int (fun _ _ => rfl)) pa_nil)) (fun C s H fp => ⟨(pg_tup (n := 2) rfl (pgs_cons (pg_name (i := 0) nd rfl (Or.inl rfl)) (pgs_cons (pg_name (i := 1) nd rfl (Or.inl rfl)) pgs_nil))), (pifs_one (pt_cmpR op_eq (pe_ix (r := rIxT K) ix_tup (pv 1) pe_int (fun _ _ => rfl)) (pe_ix (r := rIxT K) ix_tup (pv 3) pe_int (fun _ _ => rfl)) (nomark _))), (pe_tup (pa_cons (pv 2) (pa_cons (pv 0) pa_nil)))⟩)) pa_nil))))) (pss_one (ps_ret (pe_kn kb r1 (pa_cons (pe_callB call_len_seq rfl m2 PySem.boot_len (pa_cons (pe_ix ix_tup (pv 0) pe_int (fun _ _ => rfl)) pa_nil)) (pa_cons (pv 1) pa_nil)))))))), ?_⟩
    have c0 : 0 ≤ sizeLine := by decide
    refine ⟨_, rfl, a, _, _, _, rfl, rfl, SqT.of W.top, rfl, c0, fun e0 he0 => ?_⟩
    have s1 := Same.upd (o := .tup []) he0
    refine ⟨t, e0, us, rfl, rfl, SqT.of (s1 _ _ W.arr), SqT.of upd_same, _, rfl, ite2 (fun c => ?_) (fun c => ?_)⟩
    · have ea : ars = [] := by
        have := List.isEmpty_iff.mp c
        rw [this] at lu
        exact List.length_eq_zero_iff.mp lu.symm
      exact absurd ea na
    · have ea : ars ≠ [] := fun z => by
        rw [z] at lu
        have : us = [] := List.length_eq_zero_iff.mp lu
        exact c (by rw [this]; rfl)
      refine ⟨c0, fun d hd => ?_⟩
      have s2 := s1.trans (Same.upd (o := .lst []) hd)
      have ext : ∀ {H3 : Hp} {y : Addr} {ws zs : List V} {L R : List (Int × Int)}, H3 y = none → H3 d = some (.lst ws) → Ars H3 ws L → Ars H3 zs R → Ars (upd (upd H3 y (.lst zs)) d (.lst (ws ++ zs))) (ws ++ zs) (L ++ R) := fun {H3 y ws zs L R} hy hd3 aw az => by
        have hd5 := Same.upd (o := .lst zs) hy _ _ hd3
        have up : ∀ (b' : Addr) (ys : List V), (upd H3 y (.lst zs)) b' = some (.tup ys) → (upd (upd H3 y (.lst zs)) d (.lst (ws ++ zs))) b' = some (.tup ys) := fun b' ys e' => by
          rw [upd_ne (ne_of e' hd5 (fun z => nomatch z))]
          exact e'
        refine ars_app63 ?_ ?_
        · exact Paired.mapP (aw.mono (Same.upd hy)) fun _ _ ⟨r, e, z⟩ => ⟨r, e, up _ _ z⟩
        · exact Paired.mapP (az.mono (Same.upd hy)) fun _ _ ⟨r, e, z⟩ => ⟨r, e, up _ _ z⟩
      refine ⟨_, rfl, a, _, _, _, rfl, rfl, SqT.of (s2 _ _ W.top), rfl, t, us, rfl, s2 _ _ W.arr, for_enumT (xs := us) (fun i σ H3 => ∃ (ws : List V) (v2 v3 : Option V), σ = [some (.ref a), some (.ref d), v2, v3] ∧ Same H H3 ∧ H3 d = some (.lst ws) ∧ Ars H3 ws (aoL ars i)) ⟨[], _, _, rfl, s2, upd_same, .nil⟩ (fun i σ H3 _ ⟨_, _, _, _, s3, _⟩ => s3 _ _ W.arr) ?_ ?_⟩
      · rintro i v σ H3 p hv ⟨ws, v2, v3, rfl, s3, hd3, ar⟩ hp
        obtain ⟨q, e1, r, rfl, hr'⟩ := Paired.get' W.ars hv
        have hi : i < us.length := (List.getElem?_eq_some_iff.mp hv).1
        have s4 := s3.trans (Same.upd (o := .tup [.int i, .ref r]) hp)
        have hd4 := Same.upd (o := .tup [.int i, .ref r]) hp _ _ hd3
        have ar4 := ar.mono (Same.upd (o := .tup [.int i, .ref r]) hp)
        refine ⟨p, _, rfl, SqT.of upd_same, rfl, _, _, rfl, _, _, rfl, rfl, ?_⟩
        generalize upd H3 p (.tup [.int i, .ref r]) = H4 at s4 hd4 ar4
        refine ⟨_, rfl, .inl ⟨rfl, _, SqL.of hd4⟩, ?_⟩
        refine ⟨_, rfl, a, _, _, _, rfl, rfl, SqT.of (s4 _ _ W.top), rfl, t, us, rfl, s4 _ _ W.arr, lc_enum (xs := us) (fun j zs H5 => Same H4 H5 ∧ Ars H5 zs (aoR ars j q.2 (i : Int))) ⟨Same.refl _, .nil⟩ ?_ ?_ ?_⟩
        · rintro j zs H5 hj ⟨s5, az⟩
          have := arsLen az
          have := aoR_len ars j q.2 (i : Int)
          exact ⟨s5 _ _ (s4 _ _ W.arr), Nat.le_of_lt (small1000 (by omega))⟩
        · rintro zs H5 ⟨s5, az⟩ y hy
          have lz := arsLen az
          have l1 := aoR_len ars us.length q.2 (i : Int)
          have lw := arsLen ar
          have l2 := aoL_len ars i
          have l3 : i * ars.length ≤ 200 * 200 := Nat.mul_le_mul (by omega) (by omega)
          have hd5 := Same.upd (o := .lst zs) hy _ _ (s5 _ _ hd4)
          refine ⟨d, y, ws, zs, rfl, rfl, hd5, upd_same, Nat.le_of_lt (smallN (by omega)), ws ++ zs, _, _, rfl, fun b o e => ?_, upd_same, ?_⟩
          · rw [upd_ne (ne_of_none (s1 _ _ e) hd)]
            exact Same.upd hy _ _ (s5 _ _ (s4 _ _ e))
          · have eR : aoL ars (i + 1) = aoL ars i ++ aoR ars us.length q.2 (i : Int) := by
              show aoL ars i ++ aoR ars ars.length (ars.getD i (0, 0)).2 (i : Int) = _
              rw [getD_at e1, lu]
            rw [eR]
            exact ext hy (s5 _ _ hd4) (ar4.mono s5) az
        · rintro j v zs H5 z hv2 hj ⟨s5, az⟩ hz
          obtain ⟨q2, e2, r2, rfl, hr2⟩ := Paired.get' W.ars hv2
          have s6 := s5.trans (Same.upd (o := .tup [.int j, .ref r2]) hz)
          have az6 := az.mono (Same.upd (o := .tup [.int j, .ref r2]) hz)
          refine ⟨z, _, rfl, SqT.of upd_same, rfl, _, _, rfl, _, _, rfl, rfl, ?_⟩
          generalize upd H5 z (.tup [.int j, .ref r2]) = H6 at s6 az6
          have s46 := s4.trans s6
          refine ⟨_, rfl, r2, _, _, _, rfl, rfl, SqT.of (s46 _ _ hr2), rfl, _, rfl, r, _, _, _, rfl, rfl, SqT.of (s46 _ _ hr'), rfl, rfl, _, rfl, ?_⟩
          have sn := aoR_succ ars j q.2 (i : Int)
          rw [getD_at e2] at sn
          refine ite2 (fun c2 => ?_) (fun c2 => ?_)
          · have c2 : V.int q2.1 = V.int q.2 := of_decide_eq_true c2
            have c2 : q2.1 = q.2 := by injection c2
            rw [if_pos c2] at sn
            refine ⟨_, rfl, _, rfl, (by show 2 ≤ sizeLine; decide), fun b hb => nx hj ⟨s6.trans (Same.upd hb), ?_⟩⟩
            rw [sn]
            exact Paired.snoc (az6.mono (Same.upd hb)) ⟨b, rfl, upd_same⟩
          · have c2 : ¬ q2.1 = q.2 := fun e => c2 (decide_eq_true (by rw [e]))
            rw [if_neg c2, List.append_nil] at sn
            refine nx hj ⟨s6, ?_⟩
            rw [sn]
            exact az6
      · rintro σ H3 ⟨ws, v2, v3, rfl, s3, hd3, ar⟩
        rw [lu] at ar
        have lw := arsLen ar
        have l2 := aoL_len ars ars.length
        have l3 : ars.length * ars.length ≤ 200 * 200 := Nat.mul_le_mul (by omega) (by omega)
        refine ⟨_, rfl, a, _, _, _, rfl, rfl, SqT.of (s3 _ _ W.top), rfl, t, _, rfl, .inr (SqT.of (s3 _ _ W.arr)), _, rfl, _, d, ws, aoL ars ars.length, rfl, hd3, ar, by omega, by omega, by omega, ?_⟩
        have eN : ((us.length : Nat) : Int) = (ars.length : Nat) := by rw [lu]
        refine ⟨by omega, by omega, fun a' t' us' T H' s' W' pm ris el => ?_⟩
        have eT := ris_ao pm ris
        subst eT
        rw [eN] at W'
        exact kk a' t' us' H' (s3.trans s') W' (by omega)
def spRefH0 : Sp := fun vs H Q _ => ∃ (a t : Addr) (m : Int) (us : List V) (ars : List (Int × Int)) (x : V) (o : Option (List V)), vs = [.ref a, x] ∧ Web H a t m us ars ∧ Thing H x o ∧ (∀ ys, o = some ys → ys.length ≤ 1000) ∧ hgM m ars o = true ∧ ∀ H', Same H H' → Q .non H'
theorem kn_refH0 (D : DefAt K mg "refuse_no_hold" s_refuse_no_hold ["web", "thing"]) (kh : Kn P w K mg base 4 "hold_good" ["web", "thing"] spHold) : Kn P w K mg base 5 "refuse_no_hold" ["web", "thing"] spRefH0 := by
  have sc : FnScope ["web", "thing"] ["web", "thing"] (defScope s_refuse_no_hold) := ⟨rfl, rfl, rfl, by decide +kernel, rfl, by decide +kernel, by decide +kernel⟩
  refine D.kn (N := ["web", "thing"]) sc (fun vs H Q E h => ?_) (fun f cdv A outer s H vs Q E hr h => ?_)
  · obtain ⟨a, t, m, us, ars, x, o, rfl, _⟩ := h
    rfl
  · obtain ⟨a, t, m, us, ars, x, o, rfl, W, th, lb, hg, kk⟩ := h
    refine ⟨_, pss_one (ps_if (pt_not (pt_call (pe_kn kh hr (pa_cons (pv 0) (pa_cons (pv 1) pa_nil))))) (pss_one ps_never) pss_nil), ?_⟩
    refine ⟨_, rfl, _, rfl, a, t, m, us, ars, x, o, rfl, W, th, lb, fun H1 s1 => ⟨_, rfl, ?_⟩⟩
    rw [hg]
    exact iteF (kk H1 s1)
theorem pls_bd {m : Int} {S : List Int} (h : plsG m (some (S.map V.int)) = true) : ∀ k ∈ S, 0 ≤ k ∧ k < m := by
  unfold plsG at h
  intro k hk
  rw [Bool.and_eq_true, List.all_eq_true] at h
  have h2 : (decide ((0 : Int) ≤ k) && decide (k < m)) = true := h.1 (.int k) (List.mem_map.mpr ⟨k, hk, rfl⟩)
  rw [Bool.and_eq_true] at h2
  exact ⟨of_decide_eq_true h2.1, of_decide_eq_true h2.2⟩
structure Tin (H : Hp) (vs : List V) (m : Int) (us : List V) (ars : List (Int × Int)) (o : Option (List V)) : Prop where
  ex : ∃ (a t : Addr) (x : V), vs = [.ref a, x] ∧ Web H a t m us ars ∧ Thing H x o ∧ ∀ S : List Int, o = some (S.map V.int) → ∃ c, x = .ref c ∧ H c = some (.tup (S.map V.int))
  l200 : us.length ≤ 200
  lb : ∀ ys, o = some ys → ys.length ≤ 1000
theorem Tin.len {H : Hp} {vs : List V} {m : Int} {us : List V} {ars : List (Int × Int)} {o : Option (List V)} (h : Tin H vs m us ars o) : vs.length = 2 := by
  obtain ⟨a, t, x, e, _⟩ := h.ex
  rw [e]
  rfl
structure AwOk (ars : List (Int × Int)) : Prop where
  na : ars ≠ []
  l40 : ars.length ≤ 40
  l20 : (aoL ars ars.length).length ≤ 200
def spHT0 : Sp := fun vs H Q _ => ∃ (m : Int) (us : List V) (ars : List (Int × Int)) (o : Option (List V)), Tin H vs m us ars o ∧ AwOk ars ∧ hgM m ars o = true ∧
  ∃ S : List Int, o = some (S.map V.int) ∧ (∀ k ∈ S, 0 ≤ k ∧ k < 1000) ∧ ∀ (q : Addr) (H' : Hp), Same H H' → H' q = some (.tup ((taS ars S).map V.int)) → Q (.ref q) H'
def spHF0 : Sp := fun vs H Q _ => ∃ (m : Int) (us : List V) (ars : List (Int × Int)) (o : Option (List V)), Tin H vs m us ars o ∧ AwOk ars ∧ hgM (ars.length : Nat) (aoL ars ars.length) o = true ∧
  ∃ S : List Int, o = some (S.map V.int) ∧ (∀ k ∈ S, 0 ≤ k ∧ k < 1000) ∧ ∀ (q : Addr) (H' : Hp), Same H H' → H' q = some (.tup ((frS m ars S).map V.int)) → Q (.ref q) H'
theorem kn_hta0 (D : DefAt K mg "hold_to_arrows" s_hold_to_arrows ["web", "hold"]) (fr : Free mg ["enumerate", "tuple"]) (ka : Kn P w K mg base 2 "arrows_web" ["web"] spAW0) (kr : Kn P w K mg base 5 "refuse_no_hold" ["web", "thing"] spRefH0) : Kn P w K mg base 6 "hold_to_arrows" ["web", "hold"] spHT0 := by
  have sc : FnScope ["web", "hold"] ["web", "hold"] (defScope s_hold_to_arrows) := ⟨rfl, rfl, rfl, by decide +kernel, rfl, by decide +kernel, by decide +kernel⟩
  refine D.kn (N := ["web", "hold"]) sc (fun vs H Q E h => ?_) (fun f cdv A outer s H vs Q E hr h => ?_)
  · obtain ⟨m, us, ars, o, ti, _⟩ := h
    exact ti.len
  · obtain ⟨m, us, ars, o, ti, aok, c4, kk⟩ := h
    obtain ⟨a, t, x, rfl, W, th, hcS⟩ := ti.ex
    have r2 := hr.mono (j := 2) (by decide)
    have r5 := hr.mono (j := 5) (by decide)
    have m_enumerate := fr "enumerate" (by simp)
    have m_tuple := fr "tuple" (by simp)
    have nd0 : (["number", "arrow", "hold"] : List Str).Nodup := by decide +kernel
    have nd1 : (["number", "arrow", "hold"] : List Str).Nodup := by decide +kernel
    refine ⟨_, (pss_cons (ps_expr (pe_kn ka r2 (pa_cons (pv 0) pa_nil))) (pss_cons (ps_expr (pe_kn kr r5 (pa_cons (pv 0) (pa_cons (pv 1) pa_nil)))) (pss_one (ps_ret (pe_callTy call_tuple_of rfl m_tuple boot_ttuple (pa_cons (pe_lc (N := ["number", "arrow", "hold"]) (src := [none, none, some 1]) rfl ⟨rfl, rfl, rfl, rfl, ⟨⟨rfl, rfl⟩, trivial⟩, rfl, rfl, rfl⟩ (gown_pair (i := 0) (j := 1) rfl rfl) (pi_enum rfl m_enumerate (pa_cons (pe_ix ix_tup (pv 0) pe_int (fun _ _ => rfl)) pa_nil)) (fun C s H fp => ⟨(pg_tup (n := 2) rfl (pgs_cons (pg_name (i := 0) nd1 rfl (Or.inl rfl)) (pgs_cons (pg_name (i := 1) nd1 rfl (Or.inl rfl)) pgs_nil))), (pifs_one (pt_cmpR (r := rIn K false) op_in_seq (pe_ix (r := rIxT K) ix_tup (pv 1) pe_int (fun _ _ => rfl)) (pv 2) rfl)), (pv 0)⟩)) pa_nil)))))), ?_⟩
    have lu := arsLen W.ars
    have l200 := ti.l200
    refine ⟨_, rfl, a, t, m, us, ars, rfl, W, l200, aok.na, aok.l40, aok.l20, ?_⟩
    intro a' t' us' H1 s1 W' l'
    refine ⟨_, rfl, _, rfl, a, t, m, us, ars, x, o, rfl, W.mono s1, th.mono s1, ti.lb, ?_⟩
    · refine ⟨c4, ?_⟩
      obtain ⟨S, eS, bS, kk⟩ := kk
      obtain ⟨c, rfl, hc⟩ := hcS S eS
      intro H2 s2
      have s12 := s1.trans s2
      have W2 := W.mono s12
      have hc2 := s12 _ _ hc
      refine ⟨_, rfl, a, _, _, _, rfl, rfl, SqT.of W2.top, rfl, t, us, rfl, W2.arr, lc_enum (xs := us) (fun i zs H3 => Same H2 H3 ∧ zs = (((List.range i).filter fun k => decide ((ars.getD k (0, 0)).2 ∈ S)).map fun (k : Nat) => (k : Int)).map V.int) ⟨Same.refl _, rfl⟩ ?_ ?_ ?_⟩
      · rintro i zs H3 hi ⟨s3, rfl⟩
        refine ⟨s3 _ _ W2.arr, ?_⟩
        have := List.length_filter_le (fun k => decide ((ars.getD k (0, 0)).2 ∈ S)) (List.range i)
        rw [List.length_range] at this
        rw [List.length_map, List.length_map]
        exact Nat.le_of_lt (small1000 (by omega))
      · rintro zs H3 ⟨s3, rfl⟩ l hl
        rw [lu]
        refine ⟨l, _, rfl, .inl ⟨SqL.of upd_same, fun q hq => kk q _ ((s12.trans s3).trans ((Same.upd hl).trans (Same.upd hq))) upd_same⟩⟩
      · rintro i v zs H3 p hv hi ⟨s3, rfl⟩ hp
        obtain ⟨q, e1, r, rfl, hr'⟩ := Paired.get' W2.ars hv
        have s4 := s3.trans (Same.upd (o := .tup [.int i, .ref r]) hp)
        refine ⟨p, _, rfl, SqT.of upd_same, rfl, _, _, rfl, _, _, rfl, rfl, ?_⟩
        refine ⟨_, rfl, r, _, _, _, rfl, rfl, SqT.of (s4 _ _ hr'), rfl, _, rfl, c, _, rfl, .inr (SqT.of (s4 _ _ hc2)), rfl, flat_ints _, _, rfl, ?_⟩
        rw [if_neg Bool.false_ne_true, inV_int]
        have eg : (ars.getD i (0, 0)).2 = q.2 := by rw [getD_at e1]
        refine ite2 (fun h2 => ?_) (fun h2 => ?_)
        · refine ⟨_, rfl, nx hi ⟨s4, ?_⟩⟩
          rw [List.range_succ, List.filter_append, List.filter_cons, if_pos (by rw [eg]; exact h2), List.map_append, List.map_append]
          rfl
        · refine nx hi ⟨s4, ?_⟩
          rw [List.range_succ, List.filter_append, List.filter_cons, if_neg (by rw [eg]; exact h2), List.filter_nil, List.append_nil]
def spMarkedL : Sp := fun vs H Q _ => ∃ (p : Addr) (ns : List Int), vs = [.ref p] ∧ H p = some (.lst (ns.map V.int)) ∧ ns.length ≤ 1000 ∧ ∀ (d : Addr) (kvs : List (Key × V)) (H' : Hp), Same H H' → H d = none → H' d = some (.dK kvs) → MK kvs ns → Q (.ref d) H'
theorem kn_markedL (D : DefAt K mg "marked" s_marked ["places"]) : Kn P w K mg base 1 "marked" ["places"] spMarkedL := by
  have sc : FnScope ["places", "marks", "place"] ["places"] (defScope s_marked) := ⟨rfl, rfl, rfl, by decide +kernel, rfl, by decide +kernel, by decide +kernel⟩
  refine D.kn (N := ["places", "marks", "place"]) sc (fun vs H Q E h => ?_) (fun f cdv A outer s H vs Q E hr h => ?_)
  · obtain ⟨p, ns, rfl, _⟩ := h
    rfl
  · obtain ⟨p, ns, rfl, hp, hz, k⟩ := h
    have hu := hu_of hr
    refine ⟨_, (pss_cons (ps_set (i := 1) sc.nd rfl (Or.inl rfl) pe_dnewK) (pss_cons (ps_for PassesOwn.never rfl (pi_list (pv 0)) (pg_name (i := 2) sc.nd rfl (Or.inl rfl)) (pss_one (ps_dput hu (pv 1) (pv 2) pe_bl rfl))) (pss_one (ps_ret (pv 1))))), ?_⟩
    intro d hd
    have hp1 : (upd H d (.dK [])) p = some (.lst (ns.map V.int)) := by rw [upd_ne (ne_of_none hp hd)]; exact hp
    refine ⟨_, rfl, p, rfl, ⟨_, SqL.of hp1⟩, for_list (K := K) (xs := ns.map V.int) (fun i σ H2 => ∃ (kvs : List (Key × V)) (v : Option V), σ = [some (.ref p), some (.ref d), v] ∧ Same H H2 ∧ H2 d = some (.dK kvs) ∧ MK kvs (ns.take i) ∧ kvs.length ≤ i)
      ⟨[], none, rfl, Same.upd hd, upd_same, fun n => by simp [valV], Nat.le_refl _⟩ (fun i σ H2 _ ⟨_, _, _, s2, _⟩ => SqL.of (s2 _ _ hp)) ?_ ?_⟩
    · rintro i y σ H2 hi ⟨kvs, v, rfl, s2, hd2, mk, hl⟩
      rw [List.getElem?_map] at hi
      obtain ⟨x, e1, rfl⟩ := Option.map_eq_some_iff.mp hi
      have hil : i < ns.length := (List.getElem?_eq_some_iff.mp e1).1
      refine ⟨_, rfl, _, rfl, d, _, rfl, DPut.k (k := Sum.inl x) hd2 (small1000 (by omega)), ?_⟩
      refine ⟨_, _, rfl, fun b o e => ?_, upd_same, ?_, Nat.le_trans (length_putK _ _ _) (Nat.succ_le_succ hl)⟩
      · rw [upd_ne (ne_of_none e hd)]
        exact s2 _ _ e
      · rw [take_snoc _ _ _ e1]
        exact mk.put x _
    · rintro σ H2 ⟨kvs, v, rfl, s2, hd2, mk, hl⟩
      rw [List.length_map] at mk hl
      rw [List.take_of_length_le (Nat.le_refl _)] at mk
      exact ⟨_, rfl, k d kvs H2 s2 hd hd2 mk⟩
theorem kn_hfa0 (D : DefAt K mg "hold_from_arrows" s_hold_from_arrows ["web", "hold"]) (fr : Free mg ["range", "tuple"]) (ka : Kn P w K mg base 2 "arrows_web" ["web"] spAW0) (kr : Kn P w K mg base 5 "refuse_no_hold" ["web", "thing"] spRefH0) (km : Kn P w K mg base 1 "marked" ["places"] spMarkedL) : Kn P w K mg base 6 "hold_from_arrows" ["web", "hold"] spHF0 := by
  have sc : FnScope ["web", "hold", "left"] ["web", "hold"] (defScope s_hold_from_arrows) := ⟨rfl, rfl, rfl, by decide +kernel, rfl, by decide +kernel, by decide +kernel⟩
  refine D.kn (N := ["web", "hold", "left"]) sc (fun vs H Q E h => ?_) (fun f cdv A outer s H vs Q E hr h => ?_)
  · obtain ⟨m, us, ars, o, ti, _⟩ := h
    exact ti.len
  · obtain ⟨m, us, ars, o, ti, aok, c4, kk⟩ := h
    obtain ⟨a, t, x, rfl, W, th, hcS⟩ := ti.ex
    have hu := hu_of hr
    have r1 := hr.mono (j := 1) (by decide)
    have r2 := hr.mono (j := 2) (by decide)
    have r5 := hr.mono (j := 5) (by decide)
    have m_range := fr "range" (by simp)
    have m_tuple := fr "tuple" (by simp)
    have nd0 : (["number", "web"] : List Str).Nodup := by decide +kernel
    have nd1 : (["place", "left"] : List Str).Nodup := by decide +kernel
    have nd2 : (["place", "left"] : List Str).Nodup := by decide +kernel
    refine ⟨_, (pss_cons (ps_expr (pe_kn kr r5 (pa_cons (pe_kn ka r2 (pa_cons (pv 0) pa_nil)) (pa_cons (pv 1) pa_nil)))) (pss_cons (ps_set (i := 2) sc.nd rfl (Or.inr rfl) (pe_kn km r1 (pa_cons (pe_lc (N := ["number", "web"]) (src := [none, some 0]) rfl ⟨rfl, rfl, rfl, rfl, ⟨⟨rfl, rfl⟩, trivial⟩, rfl, rfl, rfl⟩ (gown_name (i := 0) rfl) (pi_tup (pv 1)) (fun C s H fp => ⟨(pg_name (i := 0) nd0 rfl (Or.inl rfl)), pifs_nil, (pe_ix (r := rIxT K) ix_tup (pe_ix (r := rIxT K) ix_tup (pe_ix (r := rIxT K) ix_tup (pv 1) pe_int (fun _ _ => rfl)) (pv 0) (fun _ _ => rfl)) pe_int (fun _ _ => rfl))⟩)) pa_nil))) (pss_one (ps_ret (pe_callTy call_tuple_of rfl m_tuple boot_ttuple (pa_cons (pe_lc (N := ["place", "left"]) (src := [none, some 2]) rfl ⟨rfl, rfl, rfl, rfl, ⟨⟨rfl, rfl⟩, trivial⟩, rfl, rfl, rfl⟩ (gown_name (i := 0) rfl) (pi_range1 rfl m_range (pa_cons (pe_ix ix_tup (pv 0) pe_int (fun _ _ => rfl)) pa_nil)) (fun C s H fp => ⟨(pg_name (i := 0) nd2 rfl (Or.inl rfl)), (pifs_one (pt_cmp (pc_dnotin hu (pv 0) (pv 1)))), (pv 0)⟩)) pa_nil)))))), ?_⟩
    have lu := arsLen W.ars
    have l200 := ti.l200
    have mb := W.mb
    refine ⟨_, rfl, a, t, m, us, ars, rfl, W, l200, aok.na, aok.l40, aok.l20, ?_⟩
    intro a' t' us' H1 s1 W' l'
    refine ⟨_, rfl, a', t', (ars.length : Nat), us', aoL ars ars.length, x, o, rfl, W', th.mono s1, ti.lb, ?_⟩
    · refine ⟨c4, ?_⟩
      obtain ⟨S, eS, bS, kk⟩ := kk
      obtain ⟨c, rfl, hc⟩ := hcS S eS
      have lS : S.length ≤ 1000 := by
        have := ti.lb _ eS
        rw [List.length_map] at this
        exact this
      have inA : ∀ k ∈ S, 0 ≤ k ∧ k < ars.length := by
        unfold hgM at c4
        rw [Bool.and_eq_true, eS] at c4
        exact pls_bd c4.1
      intro H2 s2
      have s12 := s1.trans s2
      have W2 := W.mono s12
      have hc2 := s12 _ _ hc
      refine ⟨_, rfl, c, rfl, ⟨_, SqT.of hc2⟩, lc_tup0 (xs := S.map V.int) (fun i zs H3 => Same H2 H3 ∧ zs = ((S.take i).map fun k => (ars.getD k.toNat (0, 0)).1).map V.int) ⟨Same.refl _, rfl⟩ ?_ ?_ ?_⟩
      · rintro i zs H3 hi ⟨s3, rfl⟩
        rw [List.length_map] at hi
        rw [List.length_map, List.length_map, List.length_take]
        exact ⟨SqT.of (s3 _ _ hc2), Nat.le_of_lt (small1000 (by omega))⟩
      · rintro zs H3 ⟨s3, rfl⟩ l hl
        rw [List.length_map, List.take_of_length_le (Nat.le_refl _)]
        have s4 := s3.trans (Same.upd (o := .lst ((S.map fun k => (ars.getD k.toNat (0, 0)).1).map V.int)) hl)
        refine ⟨l, _, rfl, upd_same, by rw [List.length_map]; exact lS, fun d kvs H5 s5 hd0 hd5 mk => ?_⟩
        refine gname_in ?_
        dsimp only [List.set]
        have s25 := s4.trans s5
        have W5 := W2.mono s25
        refine ⟨_, rfl, a, _, _, _, rfl, rfl, SqT.of W5.top, rfl, m, rfl, by omega, by omega, lc_range (n := m.toNat) (fun j zs H6 => Same H5 H6 ∧ zs = ((((List.range m.toNat).map fun (k : Nat) => (k : Int)).take j).filter fun p => !decide (p ∈ S.map fun k => (ars.getD k.toNat (0, 0)).1)).map V.int) ⟨Same.refl _, rfl⟩ ?_ ?_ ?_⟩
        · rintro j zs H6 hj ⟨s6, rfl⟩
          have h2 := List.length_filter_le (fun p : Int => !decide (p ∈ S.map fun k => (ars.getD k.toNat (0, 0)).1)) (((List.range m.toNat).map fun (k : Nat) => (k : Int)).take j)
          rw [List.length_take, List.length_map, List.length_range] at h2
          rw [List.length_map]
          exact Nat.le_of_lt (small1000 (by omega))
        · rintro zs H6 ⟨s6, rfl⟩ l6 hl6
          rw [List.take_of_length_le (by rw [List.length_map, List.length_range]; omega)]
          exact ⟨l6, _, rfl, .inl ⟨SqL.of upd_same, fun q hq => kk q _ (s12.trans (s25.trans (s6.trans ((Same.upd hl6).trans (Same.upd hq))))) upd_same⟩⟩
        · rintro j zs H6 hj ⟨s6, rfl⟩
          have e1 : ((List.range m.toNat).map fun (k : Nat) => (k : Int))[j]? = some (0 + (j : Int)) := by simp [hj]
          have g := DGet.k (k := Sum.inl (0 + (j : Int))) (s6 _ _ hd5)
          refine ⟨_, rfl, _, rfl, d, _, rfl, g, _, rfl, ?_⟩
          rw [mk (0 + (j : Int))]
          refine ite2 (fun h2 => ?_) (fun h2 => ?_)
          · refine ⟨_, rfl, nx hj ⟨s6, ?_⟩⟩
            rw [filter_snoc _ _ _ _ e1, if_pos h2, List.map_append]
            rfl
          · refine nx hj ⟨s6, ?_⟩
            rw [filter_snoc _ _ _ _ e1, if_neg h2, List.append_nil]
      · rintro i y zs H3 hx hi ⟨s3, rfl⟩
        rw [List.getElem?_map] at hx
        obtain ⟨b, hxb, rfl⟩ := Option.map_eq_some_iff.mp hx
        obtain ⟨b0, bl⟩ := inA b (List.mem_of_getElem? hxb)
        obtain ⟨bn, rfl⟩ : ∃ n : Nat, b = (n : Int) := ⟨b.toNat, by omega⟩
        have hbl : bn < us.length := by omega
        have eu : us[bn]? = some us[bn] := List.getElem?_eq_getElem hbl
        generalize us[bn] = uv at eu
        obtain ⟨q, e1, r, rfl, hr'⟩ := Paired.get' W2.ars eu
        have W3 := W2.mono s3
        refine ⟨_, rfl, a, _, _, _, rfl, rfl, SqT.of W3.top, rfl, _, rfl, t, _, (bn : Int), .ref r, rfl, rfl, SqT.of W3.arr, atI_nat eu, r, _, _, _, rfl, rfl, SqT.of (s3 _ _ hr'), rfl, nx hi ⟨s3, ?_⟩⟩
        rw [take_snoc _ _ _ hxb, List.map_append, List.map_append, List.map_singleton, List.map_singleton, Int.toNat_natCast, getD_at e1]
def spRP0 : Sp := fun vs H Q _ => ∃ (a : Addr) (m : Int) (y : V) (p : Int), vs = [.ref a, .int p] ∧ H a = some (.tup [.int m, y]) ∧ 0 ≤ p ∧ p < m ∧ Q .non H
theorem kn_rp0 (D : DefAt K mg "refuse_no_place" s_refuse_no_place ["web", "thing"]) (kp : Kn P w K mg base 2 "place_good" ["web", "thing"] spPlace) : Kn P w K mg base 3 "refuse_no_place" ["web", "thing"] spRP0 := by
  have sc : FnScope ["web", "thing"] ["web", "thing"] (defScope s_refuse_no_place) := ⟨rfl, rfl, rfl, by decide +kernel, rfl, by decide +kernel, by decide +kernel⟩
  refine D.kn (N := ["web", "thing"]) sc (fun vs H Q E h => ?_) (fun f cdv A outer s H vs Q E hr h => ?_)
  · obtain ⟨a, m, y, p, rfl, _⟩ := h
    rfl
  · obtain ⟨a, m, y, p, rfl, ha, p0, pm, kk⟩ := h
    have r2 := hr.mono (j := 2) (by decide)
    refine ⟨_, (pss_one (ps_if (pt_not (pt_call (pe_kn kp r2 (pa_cons (pv 0) (pa_cons (pv 1) pa_nil))))) (pss_one ps_never) pss_nil)), ?_⟩
    refine ⟨_, rfl, _, rfl, a, m, y, .int p, _, rfl, ha, .int p, _, rfl, ?_⟩
    rw [show plG m (.int p) = true from by show (decide ((0 : Int) ≤ p) && decide (p < m)) = true; rw [decide_eq_true p0, decide_eq_true pm]; rfl]
    exact iteF kk
def spPut0 : Sp := fun vs H Q _ => ∃ (a t a' t' : Addr) (m n pl : Int) (us us' : List V) (ars ars' : List (Int × Int)), vs = [.ref a, .int pl, .ref a'] ∧ Web H a t m us ars ∧ Web H a' t' n us' ars' ∧ GoodA m ars ∧ (0 ≤ pl ∧ pl < m) ∧ m ≤ 40 ∧ 0 ≤ n ∧ n ≤ 40 ∧ BWo (m - 1 + n) (putL m pl ars n ars') H Q
theorem kn_put0 (D : DefAt K mg "put_in" s_put_in ["web", "place", "other"]) (kr : Kn P w K mg base 3 "refuse_no_place" ["web", "thing"] spRP0) (ks : Kn P w K mg base 1 "stands_for" ["web", "place", "other"] spSt) (kb : Kn P w K mg base 1 "bounded_web" ["many", "arrows"] spBW0) : Kn P w K mg base 4 "put_in" ["web", "place", "other"] spPut0 := by
  have sc : FnScope ["web", "place", "other", "kept", "stands", "arrows", "a", "b", "new"] ["web", "place", "other"] (defScope s_put_in) := ⟨rfl, rfl, rfl, by decide +kernel, rfl, by decide +kernel, by decide +kernel⟩
  refine D.kn (N := ["web", "place", "other", "kept", "stands", "arrows", "a", "b", "new"]) sc (fun vs H Q E h => ?_) (fun f cdv A outer s H vs Q E hr h => ?_)
  · obtain ⟨a, t, a', t', m, n, pl, us, us', ars, ars', rfl, _⟩ := h
    rfl
  · obtain ⟨a, t, a', t', m, n, pl, us, us', ars, ars', rfl, W, W', ga, pb, m40, n0, n40, bw⟩ := h
    have r1 := hr.mono (j := 1) (by decide)
    have r3 := hr.mono (j := 3) (by decide)
    have nd0 : (["a", "b", "kept"] : List Str).Nodup := by decide +kernel
    have nd1 : (["end", "new"] : List Str).Nodup := by decide +kernel
    refine ⟨_, (pss_cons (ps_expr (pe_kn kr r3 (pa_cons (pv 0) (pa_cons (pv 1) pa_nil)))) (pss_cons (ps_set (i := 3) sc.nd rfl (Or.inr rfl) (pe_op op_sub (pe_ix ix_tup (pv 0) pe_int (fun _ _ => rfl)) pe_int)) (pss_cons (ps_set (i := 4) sc.nd rfl (Or.inl rfl) (pe_kn ks r1 (pa_cons (pv 0) (pa_cons (pv 1) (pa_cons (pv 2) pa_nil))))) (pss_cons (ps_setlc (i := 5) (N := ["a", "b", "kept"]) (src := [none, none, some 3]) sc.nd rfl rfl rfl rfl ⟨rfl, rfl, rfl, rfl, ⟨⟨rfl, rfl⟩, trivial⟩, rfl, rfl, rfl⟩ (gown_pair (i := 0) (j := 1) rfl rfl) (pi_tup (pe_ix ix_tup (pv 2) pe_int (fun _ _ => rfl))) (fun C s H fp => ⟨(pg_tup (n := 2) rfl (pgs_cons (pg_name (i := 0) nd0 rfl (Or.inl rfl)) (pgs_cons (pg_name (i := 1) nd0 rfl (Or.inl rfl)) pgs_nil))), pifs_nil, (pe_tup (pa_cons (pe_op op_add (pv 2) (pv 0)) (pa_cons (pe_op op_add (pv 2) (pv 1)) pa_nil)))⟩)) (pss_cons (ps_for PassesOwn.never rfl (pi_tup (pe_ix ix_tup (pv 0) pe_int (fun _ _ => rfl))) (pg_tup (n := 2) rfl (pgs_cons (pg_name (i := 6) sc.nd rfl (Or.inl rfl)) (pgs_cons (pg_name (i := 7) sc.nd rfl (Or.inl rfl)) pgs_nil))) (pss_one (ps_for PassesOwn.never rfl (pi_list (pe_ix ix_list (pv 4) (pv 6) (fun _ _ => rfl))) (pg_name (i := 8) sc.nd rfl (Or.inr rfl)) (pss_one (ps_expr (pe_bm PySem.F.plainAttrs_list PySem.F.slot_list_extend PySem.F.type_list_extend mt_extend (pv 5) (pa_cons (pe_lc (N := ["end", "new"]) (src := [none, some 8]) rfl ⟨rfl, rfl, rfl, rfl, ⟨⟨rfl, rfl⟩, trivial⟩, rfl, rfl, rfl⟩ (gown_name (i := 0) rfl) (pi_list (pe_ix ix_list (pv 4) (pv 7) (fun _ _ => rfl))) (fun C s H fp => ⟨(pg_name (i := 0) nd1 rfl (Or.inl rfl)), pifs_nil, (pe_tup (pa_cons (pv 1) (pa_cons (pv 0) pa_nil)))⟩)) pa_nil))))))) (pss_one (ps_ret (pe_kn kb r1 (pa_cons (pe_op op_add (pv 3) (pe_ix ix_tup (pv 2) pe_int (fun _ _ => rfl))) (pa_cons (pv 5) pa_nil)))))))))), ?_⟩
    have c2 : 2 ≤ sizeLine := by decide
    refine ⟨_, rfl, _, rfl, a, m, _, pl, rfl, W.top, pb.1, pb.2, ?_⟩
    refine ⟨_, rfl, a, _, _, _, rfl, rfl, SqT.of W.top, rfl, _, _, rfl, rfl, ?_⟩
    refine gname_in ?_
    dsimp only [List.set]
    refine ⟨_, rfl, _, rfl, _, rfl, a, t, a', t', m, n, pl, us, us', ars, ars', rfl, W, W', pb.1, pb.2, m40, n0, n40, fun l rows H1 s1 hl0 lr ll => ?_⟩
    have W1 := W.mono s1
    have W1' := W'.mono s1
    have la := arsLen W.ars
    have la' := arsLen W'.ars
    have wl := W.len
    have wl' := W'.len
    refine ⟨_, rfl, a', _, _, _, rfl, rfl, SqT.of W1'.top, rfl, t', rfl, ⟨_, SqT.of W1'.arr⟩, lc_tup0 (xs := us') (fun i zs H2 => Same H1 H2 ∧ Ars H2 zs ((ars'.take i).map fun q => (m - 1 + q.1, m - 1 + q.2))) ⟨Same.refl _, .nil⟩ ?_ ?_ ?_⟩
    · rintro i zs H2 hi ⟨s2, az⟩
      have := arsLen az
      rw [List.length_map, List.length_take] at this
      exact ⟨SqT.of (s2 _ _ W1'.arr), Nat.le_of_lt (small1000 (by omega))⟩
    · rintro zs H2 ⟨s2, az⟩ ar har
      rw [la', List.take_of_length_le (Nat.le_refl _)] at az
      have s3 := Same.upd (o := .lst zs) har
      have harH : H ar = none := none_same' (s1.trans s2) har
      have har1 : H1 ar = none := none_same' s2 har
      have W3 := W.mono ((s1.trans s2).trans s3)
      refine ⟨_, rfl, a, _, _, _, rfl, rfl, SqT.of W3.top, rfl, t, rfl, ⟨_, SqT.of W3.arr⟩, for_tup (K := K) (xs := us) (fun i σ H4 => ∃ (ws : List V) (v6 v7 v8 : Option V), σ = [some (.ref a), some (.int pl), some (.ref a'), some (.int (m - 1)), some (.ref l), some (.ref ar), v6, v7, v8] ∧ Same H1 H4 ∧ H4 ar = some (.lst ws) ∧ Ars H4 ws ((ars'.map fun q => (m - 1 + q.1, m - 1 + q.2)) ++ (ars.take i).flatMap fun q => crossL (stF m pl n q.1.toNat) (stF m pl n q.2.toNat)))
        ⟨zs, _, _, _, rfl, s2.trans s3, upd_same, by rw [List.take_zero, List.flatMap_nil, List.append_nil]; exact az.mono s3⟩ (fun i σ H4 _ ⟨_, _, _, _, _, s4, _⟩ => SqT.of (s4 _ _ W1.arr)) ?_ ?_⟩
      · rintro i y σ H4 hi ⟨ws, v6, v7, v8, rfl, s4, har4, aw⟩
        obtain ⟨q, e1, b, rfl, hb⟩ := Paired.get' W1.ars hi
        obtain ⟨q10, q1m, q20, q2m, qn⟩ := ga q (List.mem_of_getElem? e1)
        have hb4 := s4 _ _ hb
        have l4 := ll.mono s4
        obtain ⟨r, hr4⟩ : ∃ r, rows[q.1.toNat]? = some r := ⟨_, List.getElem?_eq_getElem (by omega)⟩
        obtain ⟨r', hr4'⟩ : ∃ r, rows[q.2.toNat]? = some r := ⟨_, List.getElem?_eq_getElem (by omega)⟩
        have row1 := ll.row _ _ hr4
        have row2 := ll.row _ _ hr4'
        have ix1 : atI (rows.map V.ref) q.1 = some (.ref r) := by
          rw [show q.1 = ((q.1.toNat : Nat) : Int) by omega]
          exact atI_nat (by rw [List.getElem?_map, hr4]; rfl)
        have ix2 : atI (rows.map V.ref) q.2 = some (.ref r') := by
          rw [show q.2 = ((q.2.toNat : Nat) : Int) by omega]
          exact atI_nat (by rw [List.getElem?_map, hr4']; rfl)
        have lA := stF_len (m := m) (pl := pl) n0 n40 q.1.toNat
        have lB := stF_len (m := m) (pl := pl) n0 n40 q.2.toNat
        have lwb : ((ars'.map fun q => (m - 1 + q.1, m - 1 + q.2)) ++ (ars.take i).flatMap fun q => crossL (stF m pl n q.1.toNat) (stF m pl n q.2.toNat)).length ≤ 1000 + 1000 * 40 := by
          have h1 := flat_le (F := fun q => crossL (stF m pl n q.1.toNat) (stF m pl n q.2.toNat)) (l := ars.take i) fun q hq => by
            obtain ⟨z1, _, z2, _, z3⟩ := ga q (List.mem_of_mem_take hq)
            exact cross_le n0 n40 z1 z2 z3
          rw [List.length_take] at h1
          rw [List.length_append, List.length_map]
          have : min i ars.length * 40 ≤ 1000 * 40 := Nat.mul_le_mul_right _ (by omega)
          omega
        refine ⟨b, _, rfl, SqT.of hb4, rfl, _, _, rfl, _, _, rfl, rfl, ?_⟩
        refine ⟨_, rfl, _, rfl, l, _, _, .ref r, rfl, rfl, SqL.of l4.top, ix1, r, rfl, ⟨_, SqL.of (s4 _ _ row1)⟩, for_list (K := K) (xs := (stF m pl n q.1.toNat).map V.int) (fun j σ H5 => ∃ (ws : List V) (v8 : Option V), σ = [some (.ref a), some (.int pl), some (.ref a'), some (.int (m - 1)), some (.ref l), some (.ref ar), some (.int q.1), some (.int q.2), v8] ∧ Same H1 H5 ∧ H5 ar = some (.lst ws) ∧ Ars H5 ws (((ars'.map fun q => (m - 1 + q.1, m - 1 + q.2)) ++ (ars.take i).flatMap fun q => crossL (stF m pl n q.1.toNat) (stF m pl n q.2.toNat)) ++ crossL ((stF m pl n q.1.toNat).take j) (stF m pl n q.2.toNat)))
          ⟨ws, _, rfl, s4, har4, by rw [List.take_zero]; show Ars H4 ws (_ ++ []); rw [List.append_nil]; exact aw⟩ (fun j σ H5 _ ⟨_, _, _, s5, _⟩ => SqL.of (s5 _ _ row1)) ?_ ?_⟩
        · rintro j y σ H5 hj ⟨ws5, v8, rfl, s5, har5, aw5⟩
          rw [List.getElem?_map] at hj
          obtain ⟨xn, hj', rfl⟩ := Option.map_eq_some_iff.mp hj
          clear hj
          have l5 := ll.mono s5
          refine ⟨_, rfl, .inl ⟨rfl, _, SqL.of har5⟩, _, rfl, _, rfl, l, _, _, .ref r', rfl, rfl, SqL.of l5.top, ix2, r', rfl, ⟨_, SqL.of (s5 _ _ row2)⟩, lc_list0 (xs := (stF m pl n q.2.toNat).map V.int) (fun k zs H6 => Same H5 H6 ∧ Ars H6 zs (((stF m pl n q.2.toNat).take k).map fun y => (xn, y))) ⟨Same.refl _, .nil⟩ ?_ ?_ ?_⟩
          · rintro k zs H6 hk ⟨s6, az6⟩
            have := arsLen az6
            rw [List.length_map, List.length_take] at this
            exact ⟨SqL.of (s6 _ _ (s5 _ _ row2)), Nat.le_of_lt (small1000 (by omega))⟩
          · rintro zs H6 ⟨s6, az6⟩ y6 hy6
            rw [List.length_map, List.take_of_length_le (Nat.le_refl _)] at az6
            have s7 := Same.upd (o := .lst zs) hy6
            have lw5 := arsLen aw5
            have lz6 := arsLen az6
            have lc5 := crossL_len ((stF m pl n q.1.toNat).take j) (stF m pl n q.2.toNat)
            have lt : ((stF m pl n q.1.toNat).take j).length ≤ 40 := by rw [List.length_take]; omega
            have lm : ((stF m pl n q.1.toNat).take j).length * (stF m pl n q.2.toNat).length ≤ 40 * 40 := Nat.mul_le_mul lt lB.1
            rw [List.length_append, lc5] at lw5
            rw [List.length_map] at lz6
            refine ⟨ar, y6, ws5, zs, rfl, rfl, s7 _ _ (s6 _ _ har5), upd_same, Nat.le_of_lt (smallN (by omega)), ws5 ++ zs, _, rfl, fun b' o e => ?_, upd_same, ?_⟩
            · rw [upd_ne (ne_of_none e har1)]
              exact s7 _ _ (s6 _ _ (s5 _ _ e))
            · have e2 : crossL ((stF m pl n q.1.toNat).take (j + 1)) (stF m pl n q.2.toNat) = crossL ((stF m pl n q.1.toNat).take j) (stF m pl n q.2.toNat) ++ (stF m pl n q.2.toNat).map fun y => (xn, y) := by
                unfold crossL
                rw [take_snoc _ _ _ hj', List.flatMap_append, List.flatMap_singleton]
              rw [e2, ← List.append_assoc]
              exact ars_ext hy6 (s6 _ _ har5) (aw5.mono s6) az6
          · rintro k x6 zs H6 hx hk ⟨s6, az6⟩
            rw [List.getElem?_map] at hx
            obtain ⟨yn, hx', rfl⟩ := Option.map_eq_some_iff.mp hx
            clear hx
            refine ⟨_, rfl, _, rfl, c2, fun u hu' => nx hk ⟨s6.trans (Same.upd hu'), ?_⟩⟩
            rw [take_snoc _ _ _ hx', List.map_append]
            exact Paired.snoc (az6.mono (Same.upd hu')) ⟨u, rfl, upd_same⟩
        · rintro σ H5 ⟨ws5, v8, rfl, s5, har5, aw5⟩
          refine ⟨ws5, _, _, _, rfl, s5, har5, ?_⟩
          rw [List.length_map, List.take_of_length_le (Nat.le_refl _)] at aw5
          rw [take_snoc _ _ _ e1, List.flatMap_append, List.flatMap_singleton, ← List.append_assoc]
          exact aw5
      · rintro σ H4 ⟨ws, v6, v7, v8, rfl, s4, har4, aw⟩
        rw [la, List.take_of_length_le (Nat.le_refl _)] at aw
        have W4' := W'.mono (s1.trans s4)
        have lw := arsLen aw
        have lp : (putL m pl ars n ars').length ≤ 1000 + 1000 * 40 := by
          have h1 := flat_le (F := fun q => crossL (stF m pl n q.1.toNat) (stF m pl n q.2.toNat)) (l := ars) fun q hq => by
            obtain ⟨z1, _, z2, _, z3⟩ := ga q hq
            exact cross_le n0 n40 z1 z2 z3
          unfold putL
          rw [List.length_append, List.length_map]
          have : ars.length * 40 ≤ 1000 * 40 := Nat.mul_le_mul_right _ (by omega)
          omega
        refine ⟨_, rfl, _, rfl, a', _, _, _, rfl, rfl, SqT.of W4'.top, rfl, _, _, rfl, rfl, _, rfl, _, ar, ws, putL m pl ars n ars', rfl, har4, aw, ?_, ?_, ?_, ?_⟩
        · have : ws.length = (putL m pl ars n ars').length := lw
          omega
        · omega
        · omega
        · exact (bw.mono (s1.trans s4)).bw lw
    · rintro i x zs H2 hx hi ⟨s2, az⟩
      obtain ⟨q, e1, b, rfl, hb⟩ := Paired.get' W1'.ars hx
      have hb2 := s2 _ _ hb
      refine ⟨b, _, rfl, SqT.of hb2, rfl, _, _, rfl, _, _, rfl, rfl, ?_⟩
      refine ⟨_, rfl, _, rfl, _, _, rfl, rfl, _, rfl, _, rfl, _, _, rfl, rfl, c2, fun u hu' => nx hi ⟨s2.trans (Same.upd hu'), ?_⟩⟩
      rw [take_snoc _ _ _ e1, List.map_append]
      exact Paired.snoc (az.mono (Same.upd hu')) ⟨u, rfl, upd_same⟩
end
end Hk

namespace Hk
open PySem L2 PySem.W
def unst (m pl v : Int) : Int := if m - 1 ≤ v then pl else if v < pl then v else v + 1
theorem unst_st {m pl n : Int} {i : Nat} (im : (i : Int) < m) (pm : pl < m) {x : Int} (h : x ∈ stF m pl n i) : unst m pl x = (i : Int) := by
  unfold stF at h
  unfold unst
  by_cases c1 : (i : Int) < pl
  · rw [if_pos c1] at h
    rw [List.mem_singleton.mp h, if_neg (by omega), if_pos c1]
  · rw [if_neg c1] at h
    by_cases c2 : (i : Int) = pl
    · rw [if_pos c2] at h
      obtain ⟨k, hk, rfl⟩ := List.mem_map.mp h
      have := (mem_plI.mp hk).1
      rw [if_pos (by omega), c2]
    · rw [if_neg c2] at h
      rw [List.mem_singleton.mp h, if_neg (by omega), if_neg (by omega)]
      omega
theorem mem_cross {A B : List Int} {z : Int × Int} : z ∈ crossL A B ↔ z.1 ∈ A ∧ z.2 ∈ B := by
  unfold crossL
  rw [List.mem_flatMap]
  constructor
  · rintro ⟨x, hx, h⟩
    obtain ⟨y, hy, rfl⟩ := List.mem_map.mp h
    exact ⟨hx, hy⟩
  · rintro ⟨h1, h2⟩
    exact ⟨z.1, h1, List.mem_map.mpr ⟨z.2, h2, rfl⟩⟩
theorem cross_nodup : ∀ {A B : List Int}, A.Nodup → B.Nodup → (crossL A B).Nodup
  | [], B, _, _ => List.Pairwise.nil
  | x :: A, B, hA, hB => by
    have e : crossL (x :: A) B = B.map (fun y => (x, y)) ++ crossL A B := by
      unfold crossL
      rw [List.flatMap_cons]
    obtain ⟨h1, h2⟩ := List.nodup_cons.mp hA
    rw [e, List.nodup_append]
    refine ⟨List.Pairwise.map _ (fun a b hab z => hab (by injection z)) hB, cross_nodup h2 hB, fun a ha b hb z => ?_⟩
    obtain ⟨y, _, rfl⟩ := List.mem_map.mp ha
    rw [← z] at hb
    exact h1 (mem_cross.mp hb).1
theorem stF_nodup {m pl n : Int} (i : Nat) : (stF m pl n i).Nodup := by
  unfold stF
  by_cases c1 : (i : Int) < pl
  · rw [if_pos c1]
    simp
  · rw [if_neg c1]
    by_cases c2 : (i : Int) = pl
    · rw [if_pos c2]
      exact List.Pairwise.map _ (fun a b hab z => hab (by omega)) (plI_nodup _)
    · rw [if_neg c2]
      simp
theorem flat_nodup {F : Int × Int → List (Int × Int)} {u : Int × Int → Int × Int} : ∀ {l : List (Int × Int)}, l.Nodup → (∀ q ∈ l, (F q).Nodup) → (∀ q ∈ l, ∀ z ∈ F q, u z = q) → (l.flatMap F).Nodup
  | [], _, _, _ => List.Pairwise.nil
  | q :: l, h, h1, h2 => by
    obtain ⟨a1, a2⟩ := List.nodup_cons.mp h
    rw [List.flatMap_cons, List.nodup_append]
    refine ⟨h1 q (by simp), flat_nodup a2 (fun x hx => h1 x (by simp [hx])) (fun x hx => h2 x (by simp [hx])), fun a ha b hb z => ?_⟩
    obtain ⟨x, hx, hb'⟩ := List.mem_flatMap.mp hb
    have e1 := h2 q (by simp) a ha
    have e2 := h2 x (by simp [hx]) b hb'
    rw [z, e2] at e1
    rw [e1] at hx
    exact a1 hx
theorem putL_nodup {m pl n : Int} {ars ars' : List (Int × Int)} (ga : GoodA m ars) (ga' : ∀ q ∈ ars', 0 ≤ q.1 ∧ 0 ≤ q.2) (nd : ars.Nodup) (nd' : ars'.Nodup) (pm : pl < m) : (putL m pl ars n ars').Nodup := by
  have inv : ∀ q ∈ ars, ∀ z ∈ crossL (stF m pl n q.1.toNat) (stF m pl n q.2.toNat), (unst m pl z.1, unst m pl z.2) = q := fun q hq z hz => by
    obtain ⟨z1, z2⟩ := mem_cross.mp hz
    obtain ⟨a1, a2, a3, a4, _⟩ := ga q hq
    have e1 := unst_st (m := m) (pl := pl) (n := n) (i := q.1.toNat) (by omega) pm z1
    have e2 := unst_st (m := m) (pl := pl) (n := n) (i := q.2.toNat) (by omega) pm z2
    rw [e1, e2]
    refine Prod.ext ?_ ?_
    · show ((q.1.toNat : Nat) : Int) = q.1
      omega
    · show ((q.2.toNat : Nat) : Int) = q.2
      omega
  unfold putL
  rw [List.nodup_append]
  refine ⟨List.Pairwise.map _ (fun a b hab z => hab ?_) nd', flat_nodup (u := fun z => (unst m pl z.1, unst m pl z.2)) nd (fun q _ => cross_nodup (stF_nodup _) (stF_nodup _)) inv, fun a ha b hb z => ?_⟩
  · obtain ⟨q', hq', rfl⟩ := List.mem_map.mp ha
    obtain ⟨q, hq, hb'⟩ := List.mem_flatMap.mp hb
    have e := inv q hq b hb'
    obtain ⟨b1, b2⟩ := ga' q' hq'
    rw [← z] at e
    have u1 : unst m pl (m - 1 + q'.1) = pl := by unfold unst; rw [if_pos (by omega)]
    have u2 : unst m pl (m - 1 + q'.2) = pl := by unfold unst; rw [if_pos (by omega)]
    have e : (unst m pl (m - 1 + q'.1), unst m pl (m - 1 + q'.2)) = q := e
    rw [u1, u2] at e
    exact (ga q hq).2.2.2.2 (by rw [← e])
  · injection z with z1 z2
    exact Prod.ext (by omega) (by omega)
end Hk

namespace Hk
open PySem L2 PySem.W
def KerP (m : Int) (ars : List (Int × Int)) (S : List Int) : Prop := ∀ p, 0 ≤ p → p < m → (p ∈ S ↔ ∀ b, (p, b) ∈ ars → b ∉ S)
theorem holdB_iff {m : Int} {ars : List (Int × Int)} {S : List Int} (ga : GoodA m ars) (R : Rise S m) : holdB m ars S = true ↔ KerP m ars S := by
  unfold holdB lostL
  rw [Bool.and_eq_true, List.isEmpty_iff, List.isEmpty_iff, List.filter_eq_nil_iff, List.filter_eq_nil_iff]
  constructor
  · rintro ⟨h1, h2⟩ p p0 pm
    constructor
    · intro hp b hb hbS
      exact h1 (p, b) hb (by unfold both; rw [decide_eq_true hp, decide_eq_true hbS]; rfl)
    · intro hn
      have := h2 p (List.mem_map.mpr ⟨p.toNat, List.mem_range.mpr (by omega), by omega⟩)
      have : heldB ars S p = true := by simpa using this
      unfold heldB at this
      rcases Bool.or_eq_true_iff.mp this with z | z
      · exact of_decide_eq_true z
      · obtain ⟨⟨x, b⟩, ha, hc⟩ := List.any_eq_true.mp z
        rw [Bool.and_eq_true] at hc
        have e : x = p := of_decide_eq_true hc.1
        subst e
        exact absurd (of_decide_eq_true hc.2) (hn b ha)
  · intro h
    refine ⟨fun q hq z => ?_, fun k hk z => ?_⟩
    · unfold both at z
      rw [Bool.and_eq_true] at z
      have g := ga q hq
      exact (h q.1 g.1 g.2.1).mp (of_decide_eq_true z.1) q.2 hq (of_decide_eq_true z.2)
    · obtain ⟨j, hj, rfl⟩ := List.mem_map.mp hk
      have hj := List.mem_range.mp hj
      have hh : heldB ars S (j : Int) = true := by
        unfold heldB
        by_cases c : (j : Int) ∈ S
        · rw [decide_eq_true c]
          rfl
        · rw [Bool.or_eq_true]
          right
          have := mt (h (j : Int) (by omega) (by omega)).mpr c
          obtain ⟨b, hb⟩ := Classical.not_forall.mp this
          obtain ⟨h1, h2⟩ := Classical.not_imp.mp hb
          exact List.any_eq_true.mpr ⟨((j : Int), b), h1, by rw [decide_eq_true rfl, decide_eq_true (Classical.not_not.mp h2)]; rfl⟩
      rw [hh] at z
      cases z

theorem mem_taS {ars : List (Int × Int)} {S : List Int} {k : Nat} (hk : k < ars.length) : (k : Int) ∈ taS ars S ↔ (ars.getD k (0, 0)).2 ∈ S := by
  unfold taS
  rw [List.mem_map]
  constructor
  · rintro ⟨j, hj, e⟩
    rw [List.mem_filter] at hj
    have : j = k := by omega
    subst this
    exact of_decide_eq_true hj.2
  · intro h
    exact ⟨k, List.mem_filter.mpr ⟨List.mem_range.mpr hk, decide_eq_true h⟩, rfl⟩
theorem taS_rise (ars : List (Int × Int)) (S : List Int) : Rise (taS ars S) (ars.length : Nat) := by
  unfold taS
  refine ⟨fun n hn => ?_, List.pairwise_map.mpr ((List.pairwise_lt_range.filter _).imp fun {a b} h => by omega)⟩
  obtain ⟨j, hj, rfl⟩ := List.mem_map.mp hn
  have := List.mem_range.mp (List.mem_filter.mp hj).1
  omega
theorem getD_mem {ars : List (Int × Int)} {k : Nat} (hk : k < ars.length) : ars.getD k (0, 0) ∈ ars := by
  rw [List.getD_eq_getElem?_getD, List.getElem?_eq_getElem hk]
  exact List.getElem_mem hk
theorem taS_ker {m : Int} {ars : List (Int × Int)} {S : List Int} (ga : GoodA m ars) (k : KerP m ars S) : KerP (ars.length : Nat) (aoL ars ars.length) (taS ars S) := by
  intro p p0 pm
  obtain ⟨i, rfl⟩ : ∃ n : Nat, p = (n : Int) := ⟨p.toNat, by omega⟩
  have hi : i < ars.length := by omega
  have g := ga _ (getD_mem hi)
  rw [mem_taS hi, k _ g.2.2.1 g.2.2.2.1]
  constructor
  · intro h b hb z
    obtain ⟨i', j, _, hj, e, ej⟩ := mem_aoL.mp hb
    have e1 := congrArg Prod.fst e
    have e2 := congrArg Prod.snd e
    dsimp only at e1 e2
    rw [e2, mem_taS hj] at z
    have : i' = i := by omega
    subst this
    refine h _ ?_ z
    rw [← ej]
    exact getD_mem hj
  · intro h b hb z
    obtain ⟨j, hj, ej⟩ := List.mem_iff_getElem.mp hb
    have eg : ars.getD j (0, 0) = ((ars.getD i (0, 0)).2, b) := by rw [List.getD_eq_getElem?_getD, List.getElem?_eq_getElem hj, ej]; rfl
    refine h (j : Int) (mem_aoL.mpr ⟨i, j, hi, hj, rfl, by rw [eg]⟩) ((mem_taS hj).mpr ?_)
    rw [eg]
    exact z
theorem frS_eq {m : Int} {ars : List (Int × Int)} {S : List Int} (m0 : 0 ≤ m) (ga : GoodA m ars) (R : Rise S m) (k : KerP m ars S) : frS m ars (taS ars S) = S := by
  refine up_ext ?_ R.up fun p => ?_
  · unfold frS
    exact List.Pairwise.filter _ (List.pairwise_map.mpr (List.pairwise_lt_range.imp fun h => by omega))
  · unfold frS
    rw [List.mem_filter, List.mem_map]
    have key : 0 ≤ p → p < m → ((p ∈ (taS ars S).map fun k => (ars.getD k.toNat (0, 0)).1) ↔ ¬ p ∈ S) := fun p0 pm => by
      rw [k p p0 pm, List.mem_map]
      constructor
      · rintro ⟨x, hx, e⟩ h
        have bx := (taS_rise ars S).bd x hx
        obtain ⟨i, rfl⟩ : ∃ n : Nat, x = (n : Int) := ⟨x.toNat, by omega⟩
        have hi : i < ars.length := by omega
        rw [Int.toNat_natCast] at e
        refine h (ars.getD i (0, 0)).2 ?_ ((mem_taS hi).mp hx)
        rw [← e]
        exact getD_mem hi
      · intro h
        obtain ⟨b, hb⟩ := Classical.not_forall.mp h
        obtain ⟨h1, h2⟩ := Classical.not_imp.mp hb
        obtain ⟨j, hj, ej⟩ := List.mem_iff_getElem.mp h1
        have eg : ars.getD j (0, 0) = (p, b) := by rw [List.getD_eq_getElem?_getD, List.getElem?_eq_getElem hj, ej]; rfl
        refine ⟨(j : Int), (mem_taS hj).mpr ?_, ?_⟩
        · rw [eg]
          exact Classical.not_not.mp h2
        · rw [Int.toNat_natCast, eg]
    constructor
    · rintro ⟨⟨j, hj, rfl⟩, h⟩
      have hj := List.mem_range.mp hj
      have h : ¬ ((j : Int) ∈ (taS ars S).map fun k => (ars.getD k.toNat (0, 0)).1) := by simpa using h
      exact Decidable.byContradiction fun z => h ((key (by omega) (by omega)).mpr z)
    · intro h
      have b := R.bd p h
      refine ⟨⟨p.toNat, List.mem_range.mpr (by omega), by omega⟩, ?_⟩
      have : ¬ (p ∈ (taS ars S).map fun k => (ars.getD k.toNat (0, 0)).1) := fun z => (key b.1 b.2).mp z h
      rw [decide_eq_false this]
      rfl
end Hk

namespace Hk
open PySem L2 PySem.W
def HL (m : Int) (ars : List (Int × Int)) : List (List Int) := holdsTo m ars (2 ^ m.toNat)
theorem mem_HL {m : Int} {ars : List (Int × Int)} {S : List Int} (m0 : 0 ≤ m) (ga : GoodA m ars) : S ∈ HL m ars ↔ Rise S m ∧ KerP m ars S := by
  constructor
  · intro h
    obtain ⟨R, b⟩ := holdsTo_ok m0 h
    exact ⟨R, (holdB_iff ga R).mp b⟩
  · rintro ⟨R, k⟩
    exact holds_all m0 R ((holdB_iff ga R).mpr k)
theorem mem_bits {m : Int} {N k : Nat} : (k : Int) ∈ bitsPl m N ↔ k < m.toNat ∧ N.testBit k = true := by
  unfold bitsPl
  rw [List.mem_filter, List.mem_map]
  constructor
  · rintro ⟨⟨j, hj, e⟩, h⟩
    have : j = k := by omega
    subst this
    rw [bitB_test, Int.toNat_natCast] at h
    exact ⟨List.mem_range.mp hj, h⟩
  · rintro ⟨a, b⟩
    exact ⟨⟨k, List.mem_range.mpr a, rfl⟩, by rw [bitB_test, Int.toNat_natCast]; exact b⟩
theorem nodup_HL {m : Int} {ars : List (Int × Int)} : (HL m ars).Nodup := by
  unfold HL holdsTo
  refine List.Pairwise.filter _ ?_
  rw [List.pairwise_map]
  refine List.Pairwise.imp_of_mem ?_ List.pairwise_lt_range
  intro a b ha hb lt e
  have ha := List.mem_range.mp ha
  have hb := List.mem_range.mp hb
  have : a = b := by
    apply Nat.eq_of_testBit_eq
    intro i
    by_cases c : i < m.toNat
    · have h : ((i : Int) ∈ bitsPl m a ↔ (i : Int) ∈ bitsPl m b) := by rw [e]
      rw [mem_bits, mem_bits] at h
      have h : a.testBit i = true ↔ b.testBit i = true := ⟨fun z => (h.mp ⟨c, z⟩).2, fun z => (h.mpr ⟨c, z⟩).2⟩
      exact Bool.eq_iff_iff.mpr h
    · have p : 2 ^ m.toNat ≤ 2 ^ i := Nat.pow_le_pow_right (by decide) (by omega)
      rw [Nat.testBit_lt_two_pow (by omega), Nat.testBit_lt_two_pow (by omega)]
  omega
theorem len_same {α : Type} [DecidableEq α] {l r : List α} (h1 : l.Nodup) (h2 : r.Nodup) (h : ∀ x, x ∈ l ↔ x ∈ r) : l.length = r.length :=
  Nat.le_antisymm (List.Nodup.length_le_of_subset h1 fun x hx => (h x).mp hx) (List.Nodup.length_le_of_subset h2 fun x hx => (h x).mpr hx)
theorem flatG {α β : Type} {F : α → List β} {u : β → α} : ∀ {l : List α}, l.Nodup → (∀ q ∈ l, (F q).Nodup) → (∀ q ∈ l, ∀ z ∈ F q, u z = q) → (l.flatMap F).Nodup
  | [], _, _, _ => List.nodup_nil
  | q :: l, nd, h1, h2 => by
    have nd' := List.nodup_cons.mp nd
    rw [List.flatMap_cons, List.nodup_append]
    refine ⟨h1 q (by simp), flatG nd'.2 (fun x hx => h1 x (by simp [hx])) (fun x hx => h2 x (by simp [hx])), fun a ha b hb e => ?_⟩
    subst e
    obtain ⟨q', hq', hz⟩ := List.mem_flatMap.mp hb
    have e1 := h2 q (by simp) a ha
    have e2 := h2 q' (by simp [hq']) a hz
    rw [e1] at e2
    exact nd'.1 (e2 ▸ hq')
theorem flat_const {α β : Type} {F : α → List β} {c : Nat} : ∀ {l : List α}, (∀ q ∈ l, (F q).length = c) → (l.flatMap F).length = l.length * c
  | [], _ => by simp
  | q :: l, h => by
    rw [List.flatMap_cons, List.length_append, h q (by simp), flat_const fun x hx => h x (by simp [hx]), List.length_cons, Nat.succ_mul]
    omega
theorem rise_filter {S : List Int} {m : Int} (R : Rise S m) (f : Int → Bool) (k : Int) (hk : ∀ p ∈ S, f p = true → p < k) : Rise (S.filter f) k :=
  ⟨fun n hn => ⟨(R.bd n (List.mem_filter.mp hn).1).1, hk n (List.mem_filter.mp hn).1 (List.mem_filter.mp hn).2⟩, R.up.filter _⟩
def shL (m : Int) (B : List Int) : List Int := B.map fun x => m + x
theorem mem_shL {m : Int} {B : List Int} {p : Int} : p ∈ shL m B ↔ p - m ∈ B := by
  unfold shL
  rw [List.mem_map]
  constructor
  · rintro ⟨x, hx, rfl⟩
    rw [show m + x - m = x by omega]
    exact hx
  · intro h
    exact ⟨p - m, h, by omega⟩
theorem cat_rise {A B : List Int} {m n : Int} (m0 : 0 ≤ m) (n0 : 0 ≤ n) (hA : Rise A m) (hB : Rise B n) : Rise (A ++ shL m B) (m + n) := by
  refine ⟨fun p hp => ?_, ?_⟩
  · rcases List.mem_append.mp hp with h | h
    · have := hA.bd p h
      omega
    · have := hB.bd _ (mem_shL.mp h)
      omega
  · rw [List.pairwise_append]
    refine ⟨hA.up, ?_, fun x hx y hy => ?_⟩
    · unfold shL
      rw [List.pairwise_map]
      exact hB.up.imp fun h => by omega
    · have := (hA.bd x hx).2
      have := hB.bd _ (mem_shL.mp hy)
      omega
theorem mem_bs {m : Int} {ars ars' : List (Int × Int)} {x : Int × Int} : x ∈ bsL m ars ars' ↔ x ∈ ars ∨ ∃ q ∈ ars', x = (m + q.1, m + q.2) := by
  unfold bsL
  rw [List.mem_append, List.mem_map]
  exact or_congr Iff.rfl ⟨fun ⟨q, a, b⟩ => ⟨q, a, b.symm⟩, fun ⟨q, a, b⟩ => ⟨q, a, b.symm⟩⟩
section
variable {m n : Int} {ars ars' T : List (Int × Int)}
theorem bs_ker (m0 : 0 ≤ m) (n0 : 0 ≤ n) (ga : GoodA m ars) (ga' : GoodA n ars') (hT : ∀ x, x ∈ T ↔ x ∈ bsL m ars ars') (S : List Int) :
    KerP (m + n) T S ↔ (∀ p, 0 ≤ p → p < m → (p ∈ S ↔ ∀ b, (p, b) ∈ ars → b ∉ S)) ∧ ∀ p, 0 ≤ p → p < n → (m + p ∈ S ↔ ∀ b, (p, b) ∈ ars' → m + b ∉ S) := by
  have low : ∀ p b, p < m → ((p, b) ∈ T ↔ (p, b) ∈ ars) := fun p b hp => by
    rw [hT, mem_bs]
    constructor
    · rintro (h | ⟨q, hq, e⟩)
      · exact h
      · have := ga' q hq
        have := congrArg Prod.fst e
        dsimp only at this
        omega
    · exact Or.inl
  have high : ∀ p b, 0 ≤ p → ((m + p, b) ∈ T ↔ ∃ c, (p, c) ∈ ars' ∧ b = m + c) := fun p b hp => by
    rw [hT, mem_bs]
    constructor
    · rintro (h | ⟨q, hq, e⟩)
      · have := ga _ h
        dsimp only at this
        omega
      · have e1 := congrArg Prod.fst e
        have e2 := congrArg Prod.snd e
        dsimp only at e1 e2
        refine ⟨q.2, ?_, e2⟩
        rw [show p = q.1 by omega]
        exact hq
    · rintro ⟨c, hc, rfl⟩
      exact .inr ⟨_, hc, rfl⟩
  constructor
  · intro k
    refine ⟨fun p p0 pm => ?_, fun p p0 pn => ?_⟩
    · rw [k p p0 (by omega)]
      exact forall_congr' fun b => by rw [low p b pm]
    · rw [k (m + p) (by omega) (by omega)]
      constructor
      · exact fun h b hb => h _ ((high p _ p0).mpr ⟨b, hb, rfl⟩)
      · intro h b hb
        obtain ⟨c, hc, rfl⟩ := (high p b p0).mp hb
        exact h c hc
  · rintro ⟨k1, k2⟩ p p0 pm
    by_cases c : p < m
    · rw [k1 p p0 c]
      exact forall_congr' fun b => by rw [low p b c]
    · have e : p = m + (p - m) := by omega
      rw [e, k2 (p - m) (by omega) (by omega)]
      constructor
      · intro h b hb
        obtain ⟨c, hc, rfl⟩ := (high (p - m) b (by omega)).mp hb
        exact h c hc
      · exact fun h b hb => h _ ((high (p - m) _ (by omega)).mpr ⟨b, hb, rfl⟩)
theorem bs_count (m0 : 0 ≤ m) (n0 : 0 ≤ n) (ga : GoodA m ars) (ga' : GoodA n ars') (gT : GoodA (m + n) T) (hT : ∀ x, x ∈ T ↔ x ∈ bsL m ars ars') : (HL (m + n) T).length = (HL m ars).length * (HL n ars').length := by
  have e : (HL (m + n) T).length = ((HL m ars).flatMap fun A => (HL n ars').map fun B => A ++ shL m B).length := by
    refine len_same nodup_HL ?_ fun S => ?_
    · refine flatG (u := fun z => z.filter fun p => decide (p < m)) nodup_HL (fun A _ => nodup_HL.map_on' fun B B' e => ?_) (fun A hA z hz => ?_)
      · have e := List.append_cancel_left e
        unfold shL at e
        exact List.map_inj_right (fun x y h => by omega) |>.mp e
      · obtain ⟨B, hB, rfl⟩ := List.mem_map.mp hz
        have RA := ((mem_HL m0 ga).mp hA).1
        have RB := ((mem_HL n0 ga').mp hB).1
        rw [List.filter_append, List.filter_eq_self.mpr (fun p hp => decide_eq_true (RA.bd p hp).2), List.filter_eq_nil_iff.mpr, List.append_nil]
        intro p hp z
        have := RB.bd _ (mem_shL.mp hp)
        have := of_decide_eq_true z
        omega
    · rw [mem_HL (by omega) gT, List.mem_flatMap]
      constructor
      · rintro ⟨R, k⟩
        obtain ⟨k1, k2⟩ := (bs_ker m0 n0 ga ga' hT S).mp k
        have RA : Rise (S.filter fun p => decide (p < m)) m := rise_filter R _ m fun p _ h => of_decide_eq_true h
        have mA : ∀ p, p < m → (p ∈ S.filter (fun p => decide (p < m)) ↔ p ∈ S) := fun p hp => by rw [List.mem_filter, decide_eq_true hp]; simp
        have RB : Rise ((S.filter fun p => decide (m ≤ p)).map fun p => p - m) n := by
          refine ⟨fun x hx => ?_, ?_⟩
          · obtain ⟨p, hp, rfl⟩ := List.mem_map.mp hx
            obtain ⟨h1, h2⟩ := List.mem_filter.mp hp
            have := of_decide_eq_true h2
            have := R.bd p h1
            omega
          · rw [List.pairwise_map]
            exact (R.up.filter _).imp fun h => by omega
        have mB : ∀ x, 0 ≤ x → (x ∈ (S.filter fun p => decide (m ≤ p)).map (fun p => p - m) ↔ m + x ∈ S) := fun x hx => by
          rw [List.mem_map]
          constructor
          · rintro ⟨p, hp, rfl⟩
            rw [show m + (p - m) = p by omega]
            exact (List.mem_filter.mp hp).1
          · intro h
            exact ⟨m + x, List.mem_filter.mpr ⟨h, decide_eq_true (by omega)⟩, by omega⟩
        refine ⟨_, (mem_HL m0 ga).mpr ⟨RA, fun p p0 pm => ?_⟩, List.mem_map.mpr ⟨_, (mem_HL n0 ga').mpr ⟨RB, fun p p0 pm => ?_⟩, ?_⟩⟩
        · rw [mA p pm, k1 p p0 pm]
          refine forall_congr' fun b => ⟨fun h hb z => h hb ((mA b (ga _ hb).2.2.2.1).mp z), fun h hb z => h hb ((mA b (ga _ hb).2.2.2.1).mpr z)⟩
        · rw [mB p p0, k2 p p0 pm]
          refine forall_congr' fun b => ⟨fun h hb z => h hb ((mB b (ga' _ hb).2.2.1).mp z), fun h hb z => h hb ((mB b (ga' _ hb).2.2.1).mpr z)⟩
        · refine up_ext (cat_rise m0 n0 RA RB).up R.up fun p => ?_
          rw [List.mem_append, mem_shL]
          by_cases c : p < m
          · rw [mA p c]
            constructor
            · rintro (h | h)
              · exact h
              · have := (RB.bd _ h).1
                omega
            · exact Or.inl
          · rw [mB (p - m) (by omega), show m + (p - m) = p by omega]
            constructor
            · rintro (h | h)
              · exact absurd (RA.bd p h).2 c
              · exact h
            · exact Or.inr
      · rintro ⟨A, hA, hz⟩
        obtain ⟨B, hB, rfl⟩ := List.mem_map.mp hz
        obtain ⟨RA, kA⟩ := (mem_HL m0 ga).mp hA
        obtain ⟨RB, kB⟩ := (mem_HL n0 ga').mp hB
        have mA : ∀ p, p < m → (p ∈ A ++ shL m B ↔ p ∈ A) := fun p hp => by
          rw [List.mem_append, mem_shL]
          exact ⟨fun h => h.elim id fun z => by have := (RB.bd _ z).1; omega, Or.inl⟩
        have mB : ∀ p, 0 ≤ p → (m + p ∈ A ++ shL m B ↔ p ∈ B) := fun p hp => by
          rw [List.mem_append, mem_shL, show m + p - m = p by omega]
          exact ⟨fun h => h.elim (fun z => by have := (RA.bd _ z).2; omega) id, Or.inr⟩
        refine ⟨cat_rise m0 n0 RA RB, (bs_ker m0 n0 ga ga' hT _).mpr ⟨fun p p0 pm => ?_, fun p p0 pn => ?_⟩⟩
        · rw [mA p pm, kA p p0 pm]
          refine forall_congr' fun b => ⟨fun h hb z => h hb ((mA b (ga _ hb).2.2.2.1).mp z), fun h hb z => h hb ((mA b (ga _ hb).2.2.2.1).mpr z)⟩
        · rw [mB p p0, kB p p0 pn]
          refine forall_congr' fun b => ⟨fun h hb z => h hb ((mB b (ga' _ hb).2.2.1).mp z), fun h hb z => h hb ((mB b (ga' _ hb).2.2.1).mpr z)⟩
  rw [e]
  exact flat_const fun A _ => by rw [List.length_map]
end
end Hk

namespace Hk
open PySem L2 PySem.W
def nuP (pl p : Int) : Int := if p < pl then p else p - 1
def olP (pl j : Int) : Int := if j < pl then j else j + 1
theorem nu_ol {pl j : Int} : nuP pl (olP pl j) = j := by
  unfold nuP olP
  by_cases c : j < pl
  · rw [if_pos c, if_pos c]
  · rw [if_neg c, if_neg (by omega)]
    omega
theorem ol_nu {pl p : Int} (h : p ≠ pl) : olP pl (nuP pl p) = p := by
  unfold nuP olP
  by_cases c : p < pl
  · rw [if_pos c, if_pos c]
  · rw [if_neg c, if_neg (by omega)]
    omega
theorem nu_lt {m pl p : Int} (h : p ≠ pl) (h0 : 0 ≤ p) (hm : p < m) (l0 : 0 ≤ pl) (lm : pl < m) : 0 ≤ nuP pl p ∧ nuP pl p < m - 1 := by
  unfold nuP
  by_cases c : p < pl
  · rw [if_pos c]; omega
  · rw [if_neg c]; omega
theorem ol_lt {m pl j : Int} (h0 : 0 ≤ j) (hm : j < m - 1) (l0 : 0 ≤ pl) : 0 ≤ olP pl j ∧ olP pl j < m ∧ olP pl j ≠ pl := by
  unfold olP
  by_cases c : j < pl
  · rw [if_pos c]; omega
  · rw [if_neg c]; omega
theorem nu_mono {pl p q : Int} (hp : p ≠ pl) (hq : q ≠ pl) (h : p < q) : nuP pl p < nuP pl q := by
  unfold nuP
  by_cases c : p < pl <;> by_cases d : q < pl
  · rw [if_pos c, if_pos d]; exact h
  · rw [if_pos c, if_neg d]; omega
  · omega
  · rw [if_neg c, if_neg d]; omega
theorem mem_st {m pl n p x : Int} (h0 : 0 ≤ p) (n0 : 0 ≤ n) : x ∈ stF m pl n p.toNat ↔ (p ≠ pl ∧ x = nuP pl p) ∨ (p = pl ∧ m - 1 ≤ x ∧ x < m - 1 + n) := by
  unfold stF nuP
  rw [show ((p.toNat : Nat) : Int) = p by omega]
  by_cases c : p < pl
  · rw [if_pos c, if_pos c, List.mem_singleton]
    exact ⟨fun e => .inl ⟨by omega, e⟩, fun h => h.elim (·.2) fun z => by omega⟩
  · rw [if_neg c, if_neg c]
    by_cases d : p = pl
    · rw [if_pos d, List.mem_map]
      constructor
      · rintro ⟨y, hy, rfl⟩
        have := mem_plI.mp hy
        exact .inr ⟨d, by omega, by omega⟩
      · rintro (⟨z, _⟩ | ⟨_, h1, h2⟩)
        · exact absurd d z
        · exact ⟨x - (m - 1), mem_plI.mpr ⟨by omega, by omega⟩, by omega⟩
    · rw [if_neg d, List.mem_singleton]
      exact ⟨fun e => .inl ⟨d, e⟩, fun h => h.elim (·.2) fun z => absurd z.1 d⟩
section
variable {m n pl : Int} {ars ars' T : List (Int × Int)}
theorem mem_put (n0 : 0 ≤ n) (ga : GoodA m ars) {x : Int × Int} : x ∈ putL m pl ars n ars' ↔ (∃ q ∈ ars', x = (m - 1 + q.1, m - 1 + q.2)) ∨ ∃ q ∈ ars, ((q.1 ≠ pl ∧ x.1 = nuP pl q.1) ∨ (q.1 = pl ∧ m - 1 ≤ x.1 ∧ x.1 < m - 1 + n)) ∧ ((q.2 ≠ pl ∧ x.2 = nuP pl q.2) ∨ (q.2 = pl ∧ m - 1 ≤ x.2 ∧ x.2 < m - 1 + n)) := by
  unfold putL
  rw [List.mem_append, List.mem_map, List.mem_flatMap]
  refine or_congr ⟨fun ⟨q, a, b⟩ => ⟨q, a, b.symm⟩, fun ⟨q, a, b⟩ => ⟨q, a, b.symm⟩⟩ (exists_congr fun q => and_congr_right fun hq => ?_)
  have g := ga q hq
  unfold crossL
  rw [List.mem_flatMap]
  constructor
  · rintro ⟨a, ha, hb⟩
    obtain ⟨b, hb', rfl⟩ := List.mem_map.mp hb
    exact ⟨(mem_st g.1 n0).mp ha, (mem_st g.2.2.1 n0).mp hb'⟩
  · rintro ⟨h1, h2⟩
    exact ⟨x.1, (mem_st g.1 n0).mpr h1, List.mem_map.mpr ⟨x.2, (mem_st g.2.2.1 n0).mpr h2, rfl⟩⟩
def phi (m n pl : Int) (z : List Int) (p : Int) : Prop := (p ≠ pl ∧ nuP pl p ∈ z) ∨ (p = pl ∧ ∃ x, 0 ≤ x ∧ x < n ∧ m - 1 + x ∈ z)
theorem put_ker (l0 : 0 ≤ pl) (lm : pl < m) (n0 : 0 ≤ n) (ga : GoodA m ars) (ga' : GoodA n ars') (hT : ∀ x, x ∈ T ↔ x ∈ putL m pl ars n ars') (z : List Int) :
    KerP (m - 1 + n) T z ↔ (∀ p, 0 ≤ p → p < m → p ≠ pl → (nuP pl p ∈ z ↔ ∀ y, (p, y) ∈ ars → ¬ phi m n pl z y)) ∧
      ∀ x, 0 ≤ x → x < n → (m - 1 + x ∈ z ↔ (∀ b, (x, b) ∈ ars' → m - 1 + b ∉ z) ∧ ∀ y, (pl, y) ∈ ars → ¬ phi m n pl z y) := by
  have out : ∀ {y b : Int}, ((y ≠ pl ∧ b = nuP pl y) ∨ (y = pl ∧ m - 1 ≤ b ∧ b < m - 1 + n)) → b ∈ z → phi m n pl z y := fun {y b} h hb => by
    rcases h with ⟨a, rfl⟩ | ⟨a, h1, h2⟩
    · exact .inl ⟨a, hb⟩
    · exact .inr ⟨a, b - (m - 1), by omega, by omega, by rw [show m - 1 + (b - (m - 1)) = b by omega]; exact hb⟩
  have bk : ∀ {y : Int}, phi m n pl z y → ∃ b, ((y ≠ pl ∧ b = nuP pl y) ∨ (y = pl ∧ m - 1 ≤ b ∧ b < m - 1 + n)) ∧ b ∈ z := fun {y} h => by
    rcases h with ⟨a, h⟩ | ⟨a, x, x0, xn, h⟩
    · exact ⟨_, .inl ⟨a, rfl⟩, h⟩
    · exact ⟨_, .inr ⟨a, by omega, by omega⟩, h⟩
  -- where a kept place leads
  have kept : ∀ p, 0 ≤ p → p < m → p ≠ pl → ((∀ b, (nuP pl p, b) ∈ T → b ∉ z) ↔ ∀ y, (p, y) ∈ ars → ¬ phi m n pl z y) := fun p p0 pm np => by
    have nl := nu_lt np p0 pm l0 lm
    constructor
    · intro h y hy ph
      obtain ⟨b, h1, h2⟩ := bk ph
      exact h b ((hT _).mpr ((mem_put n0 ga).mpr (.inr ⟨_, hy, .inl ⟨np, rfl⟩, h1⟩))) h2
    · intro h b hb hz
      rcases (mem_put n0 ga).mp ((hT _).mp hb) with ⟨q, hq, e⟩ | ⟨q, hq, h1, h2⟩
      · have := ga' q hq
        have := congrArg Prod.fst e
        dsimp only at this
        omega
      · dsimp only at h1 h2
        rcases h1 with ⟨nq, e⟩ | ⟨_, a, _⟩
        · have e : q.1 = p := by
            have := congrArg (olP pl) e
            rw [ol_nu np, ol_nu nq] at this
            exact this.symm
          refine h q.2 ?_ (out h2 hz)
          rw [← e]
          exact hq
        · omega
  have put : ∀ x, 0 ≤ x → x < n → ((∀ b, (m - 1 + x, b) ∈ T → b ∉ z) ↔ (∀ b, (x, b) ∈ ars' → m - 1 + b ∉ z) ∧ ∀ y, (pl, y) ∈ ars → ¬ phi m n pl z y) := fun x x0 xn => by
    constructor
    · intro h
      refine ⟨fun b hb => h _ ((hT _).mpr ((mem_put n0 ga).mpr (.inl ⟨_, hb, rfl⟩))), fun y hy ph => ?_⟩
      obtain ⟨b, h1, h2⟩ := bk ph
      exact h b ((hT _).mpr ((mem_put n0 ga).mpr (.inr ⟨_, hy, .inr ⟨rfl, by dsimp only; omega, by dsimp only; omega⟩, h1⟩))) h2
    · rintro ⟨h1, h2⟩ b hb hz
      rcases (mem_put n0 ga).mp ((hT _).mp hb) with ⟨q, hq, e⟩ | ⟨q, hq, g1, g2⟩
      · have e1 := congrArg Prod.fst e
        have e2 := congrArg Prod.snd e
        dsimp only at e1 e2
        rw [e2] at hz
        refine h1 q.2 ?_ hz
        rw [show x = q.1 by omega]
        exact hq
      · dsimp only at g1 g2
        rcases g1 with ⟨nq, e⟩ | ⟨e, _⟩
        · have := ga q hq
          have := nu_lt nq this.1 this.2.1 l0 lm
          omega
        · refine h2 q.2 ?_ (out g2 hz)
          rw [← e]
          exact hq
  constructor
  · intro k
    refine ⟨fun p p0 pm np => ?_, fun x x0 xn => ?_⟩
    · have nl := nu_lt np p0 pm l0 lm
      rw [k _ nl.1 (by omega), kept p p0 pm np]
    · rw [k _ (by omega) (by omega), put x x0 xn]
  · rintro ⟨k1, k2⟩ p p0 pm
    by_cases c : p < m - 1
    · have o := ol_lt p0 c l0
      have := k1 _ o.1 o.2.1 o.2.2
      rw [← kept _ o.1 o.2.1 o.2.2, nu_ol] at this
      exact this
    · have e : p = m - 1 + (p - (m - 1)) := by omega
      rw [e, k2 _ (by omega) (by omega), put _ (by omega) (by omega)]
def jn (m pl : Int) (S B : List Int) : List Int := ((S.filter fun p => decide (p ≠ pl)).map (nuP pl)) ++ shL (m - 1) B
theorem jn_rise (l0 : 0 ≤ pl) (lm : pl < m) (n0 : 0 ≤ n) {S B : List Int} (RS : Rise S m) (RB : Rise B n) : Rise (jn m pl S B) (m - 1 + n) := by
  refine cat_rise (by omega) n0 ⟨fun x hx => ?_, ?_⟩ RB
  · obtain ⟨p, hp, rfl⟩ := List.mem_map.mp hx
    obtain ⟨h1, h2⟩ := List.mem_filter.mp hp
    have b := RS.bd p h1
    exact nu_lt (of_decide_eq_true h2) b.1 b.2 l0 lm
  · rw [List.pairwise_map]
    refine List.Pairwise.imp_of_mem ?_ (RS.up.filter _)
    intro a b ha hb h
    exact nu_mono (of_decide_eq_true (List.mem_filter.mp ha).2) (of_decide_eq_true (List.mem_filter.mp hb).2) h
theorem jn_low (l0 : 0 ≤ pl) (lm : pl < m) {S B : List Int} (RB : Rise B n) {p : Int} (p0 : 0 ≤ p) (pm : p < m) (np : p ≠ pl) : nuP pl p ∈ jn m pl S B ↔ p ∈ S := by
  unfold jn
  have nl := nu_lt np p0 pm l0 lm
  rw [List.mem_append, mem_shL, List.mem_map]
  constructor
  · rintro (⟨q, hq, e⟩ | h)
    · obtain ⟨h1, h2⟩ := List.mem_filter.mp hq
      have := congrArg (olP pl) e
      rw [ol_nu np, ol_nu (of_decide_eq_true h2)] at this
      rw [← this]
      exact h1
    · have := (RB.bd _ h).1
      omega
  · intro h
    exact .inl ⟨p, List.mem_filter.mpr ⟨h, decide_eq_true np⟩, rfl⟩
theorem jn_high (l0 : 0 ≤ pl) (lm : pl < m) {S B : List Int} (RS : Rise S m) {x : Int} (x0 : 0 ≤ x) : m - 1 + x ∈ jn m pl S B ↔ x ∈ B := by
  unfold jn
  rw [List.mem_append, mem_shL, List.mem_map, show m - 1 + x - (m - 1) = x by omega]
  constructor
  · rintro (⟨q, hq, e⟩ | h)
    · obtain ⟨h1, h2⟩ := List.mem_filter.mp hq
      have b := RS.bd q h1
      have := nu_lt (of_decide_eq_true h2) b.1 b.2 l0 lm
      omega
    · exact h
  · exact Or.inr
theorem ker_ne (n1 : 1 ≤ n) {B : List Int} (k : KerP n ars' B) : B ≠ [] := fun e => by
  subst e
  have := (k 0 (by omega) (by omega)).mpr fun b _ => List.not_mem_nil
  cases this
theorem phi_jn (l0 : 0 ≤ pl) (lm : pl < m) {S B : List Int} (RS : Rise S m) (RB : Rise B n) (hb : pl ∈ S ↔ B ≠ []) {p : Int} (p0 : 0 ≤ p) (pm : p < m) : phi m n pl (jn m pl S B) p ↔ p ∈ S := by
  unfold phi
  constructor
  · rintro (⟨np, h⟩ | ⟨rfl, x, x0, xn, h⟩)
    · exact (jn_low l0 lm RB p0 pm np).mp h
    · rw [jn_high l0 lm RS x0] at h
      exact hb.mpr (List.ne_nil_of_mem h)
  · intro h
    by_cases c : p = pl
    · subst c
      obtain ⟨x, hx⟩ := List.exists_mem_of_ne_nil _ (hb.mp h)
      have := RB.bd x hx
      exact .inr ⟨rfl, x, this.1, this.2, (jn_high l0 lm RS this.1).mpr hx⟩
    · exact .inl ⟨c, (jn_low l0 lm RB p0 pm c).mpr h⟩
def uz (m n pl : Int) (z : List Int) : List Int := (plI m.toNat).filter fun p => if p = pl then z.any (fun x => decide (m - 1 ≤ x) && decide (x < m - 1 + n)) else decide (nuP pl p ∈ z)
theorem mem_uz {z : List Int} {p : Int} : p ∈ uz m n pl z ↔ (0 ≤ p ∧ p < (m.toNat : Nat)) ∧ phi m n pl z p := by
  unfold uz phi
  rw [List.mem_filter, mem_plI]
  refine and_congr_right fun _ => ?_
  by_cases c : p = pl
  · rw [if_pos c, List.any_eq_true]
    constructor
    · rintro ⟨x, hx, h⟩
      rw [Bool.and_eq_true] at h
      have h1 := of_decide_eq_true h.1
      have h2 := of_decide_eq_true h.2
      exact .inr ⟨c, x - (m - 1), by omega, by omega, by rw [show m - 1 + (x - (m - 1)) = x by omega]; exact hx⟩
    · rintro (⟨a, _⟩ | ⟨_, x, x0, xn, h⟩)
      · exact absurd c a
      · exact ⟨_, h, by rw [decide_eq_true (by omega), decide_eq_true (by omega)]; rfl⟩
  · rw [if_neg c]
    exact ⟨fun h => .inl ⟨c, of_decide_eq_true h⟩, fun h => h.elim (fun z => decide_eq_true z.2) fun z => absurd z.1 c⟩
theorem uz_rise (m0 : 0 ≤ m) (z : List Int) : Rise (uz m n pl z) m := by
  refine ⟨fun p hp => ?_, ?_⟩
  · have := (mem_uz.mp hp).1
    omega
  · unfold uz plI
    exact List.Pairwise.filter _ (List.pairwise_map.mpr (List.pairwise_lt_range.imp fun h => by omega))
theorem uz_jn (l0 : 0 ≤ pl) (lm : pl < m) {S B : List Int} (RS : Rise S m) (RB : Rise B n) (hb : pl ∈ S ↔ B ≠ []) : uz m n pl (jn m pl S B) = S := by
  refine up_ext (uz_rise (by omega) _).up RS.up fun p => ?_
  rw [mem_uz]
  constructor
  · rintro ⟨h, ph⟩
    exact (phi_jn l0 lm RS RB hb h.1 (by omega)).mp ph
  · intro h
    have b := RS.bd p h
    exact ⟨⟨b.1, by omega⟩, (phi_jn l0 lm RS RB hb b.1 b.2).mpr h⟩
theorem flat_two {α β : Type} {F : α → List β} {c : Nat} (f : α → Bool) : ∀ {l : List α}, (∀ q ∈ l, (F q).length = if f q = true then c else 1) → (l.flatMap F).length + (l.filter f).length = l.length + (l.filter f).length * c
  | [], _ => by simp
  | q :: l, h => by
    have ih := flat_two f fun x hx => h x (List.mem_cons_of_mem _ hx)
    rw [List.flatMap_cons, List.length_append, h q (by simp), List.filter_cons, List.length_cons]
    by_cases d : f q = true
    · rw [if_pos d, if_pos d, List.length_cons, Nat.succ_mul]
      omega
    · rw [if_neg d, if_neg d]
      omega
theorem put_count (l0 : 0 ≤ pl) (lm : pl < m) (n1 : 1 ≤ n) (ga : GoodA m ars) (ga' : GoodA n ars') (gT : GoodA (m - 1 + n) T) (hT : ∀ x, x ∈ T ↔ x ∈ putL m pl ars n ars') :
    (HL (m - 1 + n) T).length + ((HL m ars).filter fun S => decide (pl ∈ S)).length = (HL m ars).length + ((HL m ars).filter fun S => decide (pl ∈ S)).length * (HL n ars').length := by
  have m0 : 0 ≤ m := by omega
  have n0 : 0 ≤ n := by omega
  have r0 : Rise ([] : List Int) n := ⟨fun _ h => (nomatch h), .nil⟩
  have e : (HL (m - 1 + n) T).length = ((HL m ars).flatMap fun S => if pl ∈ S then (HL n ars').map (jn m pl S) else [jn m pl S []]).length := by
    refine len_same nodup_HL ?_ fun z => ?_
    · refine flatG (u := uz m n pl) nodup_HL (fun S _ => ?_) (fun S hS z hz => ?_)
      · by_cases c : pl ∈ S
        · rw [if_pos c]
          refine nodup_HL.map_on' fun B B' e => ?_
          unfold jn at e
          have e := List.append_cancel_left e
          unfold shL at e
          exact List.map_inj_right (fun x y h => by omega) |>.mp e
        · rw [if_neg c]
          exact List.pairwise_singleton _ _
      · have RS := ((mem_HL m0 ga).mp hS).1
        by_cases c : pl ∈ S
        · rw [if_pos c] at hz
          obtain ⟨B, hB, rfl⟩ := List.mem_map.mp hz
          obtain ⟨RB, kB⟩ := (mem_HL n0 ga').mp hB
          exact uz_jn l0 lm RS RB ⟨fun _ => ker_ne n1 kB, fun _ => c⟩
        · rw [if_neg c] at hz
          rw [List.mem_singleton.mp hz]
          exact uz_jn l0 lm RS r0 ⟨fun h => absurd h c, fun h => absurd rfl h⟩
    · rw [mem_HL (by omega) gT, List.mem_flatMap]
      constructor
      · rintro ⟨R, k⟩
        obtain ⟨k1, k2⟩ := (put_ker l0 lm n0 ga ga' hT z).mp k
        -- the place itself
        have kp : phi m n pl z pl ↔ ∀ y, (pl, y) ∈ ars → ¬ phi m n pl z y := by
          constructor
          · rintro (⟨a, _⟩ | ⟨_, x, x0, xn, h⟩)
            · exact absurd rfl a
            · exact ((k2 x x0 xn).mp h).2
          · intro h
            refine Classical.byContradiction fun no => ?_
            have nx : ∀ x, 0 ≤ x → x < n → m - 1 + x ∉ z := fun x x0 xn hx => no (.inr ⟨rfl, x, x0, xn, hx⟩)
            exact nx 0 (by omega) (by omega) ((k2 0 (by omega) (by omega)).mpr ⟨fun b hb => nx b (ga' _ hb).2.2.1 (ga' _ hb).2.2.2.1, h⟩)
        have mS : ∀ p, 0 ≤ p → p < m → (p ∈ uz m n pl z ↔ phi m n pl z p) := fun p p0 pm => by
          rw [mem_uz]
          exact ⟨fun h => h.2, fun h => ⟨⟨p0, by omega⟩, h⟩⟩
        have kS : KerP m ars (uz m n pl z) := fun p p0 pm => by
          rw [mS p p0 pm]
          have e : (∀ b, (p, b) ∈ ars → b ∉ uz m n pl z) ↔ ∀ y, (p, y) ∈ ars → ¬ phi m n pl z y := forall_congr' fun b => ⟨fun h hb z => h hb ((mS b (ga _ hb).2.2.1 (ga _ hb).2.2.2.1).mpr z), fun h hb z => h hb ((mS b (ga _ hb).2.2.1 (ga _ hb).2.2.2.1).mp z)⟩
          rw [e]
          by_cases c : p = pl
          · subst c
            exact kp
          · rw [← k1 p p0 pm c]
            exact ⟨fun h => h.elim (·.2) fun z => absurd z.1 c, fun h => .inl ⟨c, h⟩⟩
        have RS := uz_rise (n := n) (pl := pl) m0 z
        refine ⟨_, (mem_HL m0 ga).mpr ⟨RS, kS⟩, ?_⟩
        -- of the other web
        have RB : Rise ((z.filter fun p => decide (m - 1 ≤ p)).map fun p => p - (m - 1)) n := by
          refine ⟨fun x hx => ?_, ?_⟩
          · obtain ⟨p, hp, rfl⟩ := List.mem_map.mp hx
            obtain ⟨h1, h2⟩ := List.mem_filter.mp hp
            have := of_decide_eq_true h2
            have := R.bd p h1
            omega
          · rw [List.pairwise_map]
            exact (R.up.filter _).imp fun h => by omega
        have mB : ∀ x, 0 ≤ x → (x ∈ (z.filter fun p => decide (m - 1 ≤ p)).map (fun p => p - (m - 1)) ↔ m - 1 + x ∈ z) := fun x hx => by
          rw [List.mem_map]
          constructor
          · rintro ⟨p, hp, rfl⟩
            rw [show m - 1 + (p - (m - 1)) = p by omega]
            exact (List.mem_filter.mp hp).1
          · intro h
            exact ⟨m - 1 + x, List.mem_filter.mpr ⟨h, decide_eq_true (by omega)⟩, by omega⟩
        have back : z = jn m pl (uz m n pl z) ((z.filter fun p => decide (m - 1 ≤ p)).map fun p => p - (m - 1)) := by
          refine up_ext R.up (jn_rise l0 lm n0 RS RB).up fun p => ?_
          by_cases h0 : 0 ≤ p
          · by_cases c : p < m - 1
            · have o := ol_lt h0 c l0
              have := jn_low (S := uz m n pl z) l0 lm RB o.1 o.2.1 o.2.2
              rw [nu_ol] at this
              rw [this, mS _ o.1 o.2.1]
              unfold phi
              rw [nu_ol]
              exact ⟨fun h => .inl ⟨o.2.2, h⟩, fun h => h.elim (·.2) fun z => absurd z.1 o.2.2⟩
            · have := jn_high (B := (z.filter fun p => decide (m - 1 ≤ p)).map fun p => p - (m - 1)) l0 lm RS (x := p - (m - 1)) (by omega)
              rw [show m - 1 + (p - (m - 1)) = p by omega] at this
              rw [this, mB _ (by omega), show m - 1 + (p - (m - 1)) = p by omega]
          · exact ⟨fun h => absurd (R.bd p h).1 h0, fun h => absurd ((jn_rise l0 lm n0 RS RB).bd p h).1 h0⟩
        by_cases c : pl ∈ uz m n pl z
        · rw [if_pos c]
          have ph := (mS pl l0 lm).mp c
          have kpp := kp.mp ph
          refine List.mem_map.mpr ⟨_, (mem_HL n0 ga').mpr ⟨RB, fun x x0 xn => ?_⟩, back.symm⟩
          rw [mB x x0, k2 x x0 xn]
          exact ⟨fun h b hb z => h.1 b hb ((mB b (ga' _ hb).2.2.1).mp z), fun h => ⟨fun b hb z => h b hb ((mB b (ga' _ hb).2.2.1).mpr z), kpp⟩⟩
        · rw [if_neg c, List.mem_singleton]
          have nb : (z.filter fun p => decide (m - 1 ≤ p)).map (fun p => p - (m - 1)) = [] := by
            refine List.eq_nil_iff_forall_not_mem.mpr fun x hx => ?_
            have b := RB.bd x hx
            exact c ((mS pl l0 lm).mpr (.inr ⟨rfl, x, b.1, b.2, (mB x b.1).mp hx⟩))
          rw [nb] at back
          exact back
      · rintro ⟨S, hS, hz⟩
        obtain ⟨RS, kS⟩ := (mem_HL m0 ga).mp hS
        -- in both cases
        have go : ∀ B, Rise B n → (pl ∈ S ↔ B ≠ []) → (∀ x, 0 ≤ x → x < n → (x ∈ B ↔ (∀ b, (x, b) ∈ ars' → b ∉ B) ∧ pl ∈ S)) → Rise (jn m pl S B) (m - 1 + n) ∧ KerP (m - 1 + n) T (jn m pl S B) := fun B RB hb kB => by
          have e : ∀ p, (∀ y, (p, y) ∈ ars → ¬ phi m n pl (jn m pl S B) y) ↔ ∀ b, (p, b) ∈ ars → b ∉ S := fun p => forall_congr' fun y => ⟨fun h hy z => h hy ((phi_jn l0 lm RS RB hb (ga _ hy).2.2.1 (ga _ hy).2.2.2.1).mpr z), fun h hy z => h hy ((phi_jn l0 lm RS RB hb (ga _ hy).2.2.1 (ga _ hy).2.2.2.1).mp z)⟩
          refine ⟨jn_rise l0 lm n0 RS RB, (put_ker l0 lm n0 ga ga' hT _).mpr ⟨fun p p0 pm np => ?_, fun x x0 xn => ?_⟩⟩
          · rw [jn_low l0 lm RB p0 pm np, e, kS p p0 pm]
          · rw [jn_high l0 lm RS x0, e, ← kS pl l0 lm, kB x x0 xn]
            refine and_congr_left fun _ => forall_congr' fun b => ⟨fun h hb z => h hb ((jn_high l0 lm RS (ga' _ hb).2.2.1).mp z), fun h hb z => h hb ((jn_high l0 lm RS (ga' _ hb).2.2.1).mpr z)⟩
        by_cases c : pl ∈ S
        · rw [if_pos c] at hz
          obtain ⟨B, hB, rfl⟩ := List.mem_map.mp hz
          obtain ⟨RB, kB⟩ := (mem_HL n0 ga').mp hB
          exact go B RB ⟨fun _ => ker_ne n1 kB, fun _ => c⟩ fun x x0 xn => by
            rw [kB x x0 xn]
            exact ⟨fun h => ⟨h, c⟩, fun h => h.1⟩
        · rw [if_neg c] at hz
          rw [List.mem_singleton.mp hz]
          exact go [] r0 ⟨fun h => absurd h c, fun h => absurd rfl h⟩ fun x x0 xn => ⟨fun h => (nomatch h), fun h => absurd h.2 c⟩
  rw [e]
  refine flat_two (fun S => decide (pl ∈ S)) fun S _ => ?_
  by_cases c : pl ∈ S
  · rw [if_pos c, if_pos (decide_eq_true c), List.length_map]
  · rw [if_neg c, if_neg (fun h => c (of_decide_eq_true h))]
    rfl
end
end Hk

namespace Hk
open PySem L2 PySem.W
def kerR (m : Nat) (rows : List Nat) (k : Nat) : Bool := (List.range m).all fun i => k.testBit i == (Nat.land (rows.getD i 0) k == 0)
def cntR (m : Nat) (rows : List Nat) : Nat := ((List.range (2 ^ m)).filter fun k => kerR m rows k).length
def allR (m : Nat) : Nat → List Nat → Bool
  | 0, acc => Nat.ble (cntR m acc) 4
  | f + 1, acc => (List.range (2 ^ m)).all fun r => r.testBit acc.length || allR m f (acc ++ [r])
theorem allR_ok : allR 1 1 [] = true ∧ allR 2 2 [] = true ∧ allR 3 3 [] = true ∧ allR 4 4 [] = true := by decide +kernel
theorem allR_use {m : Nat} : ∀ (f : Nat) (acc rest : List Nat), allR m f acc = true → rest.length = f → (∀ i r, rest[i]? = some r → r < 2 ^ m ∧ r.testBit (acc.length + i) = false) → cntR m (acc ++ rest) ≤ 4
  | 0, acc, rest, h, l, _ => by
    rw [List.length_eq_zero_iff.mp l, List.append_nil]
    exact Nat.le_of_ble_eq_true h
  | f + 1, acc, [], h, l, _ => by simp at l
  | f + 1, acc, r :: rest, h, l, hr => by
    have h0 := hr 0 r rfl
    have := List.all_eq_true.mp h r (List.mem_range.mpr h0.1)
    rw [Nat.add_zero] at h0
    rw [h0.2, Bool.false_or] at this
    have := allR_use f (acc ++ [r]) rest this (by simpa using l) fun i x hx => by
      have := hr (i + 1) x (by simpa using hx)
      rw [List.length_append, List.length_singleton, Nat.add_assoc, Nat.add_comm 1 i]
      exact this
    rw [List.append_assoc] at this
    exact this
theorem rows_ex (ars : List (Int × Int)) (m : Nat) : ∀ k : Nat, ∃ rows : List Nat, rows.length = k ∧ ∀ i, i < k → ∃ r, rows[i]? = some r ∧ r < 2 ^ m ∧ ∀ j, j < m → r.testBit j = decide (((i : Int), (j : Int)) ∈ ars)
  | 0 => ⟨[], rfl, fun i h => absurd h (Nat.not_lt_zero _)⟩
  | k + 1 => by
    obtain ⟨rows, l, h⟩ := rows_ex ars m k
    obtain ⟨N, h1, h2⟩ := bits_all (fun j => decide (((k : Int), (j : Int)) ∈ ars)) m
    refine ⟨rows ++ [N], by rw [List.length_append, l]; rfl, fun i hi => ?_⟩
    by_cases c : i < k
    · obtain ⟨r, e, q⟩ := h i c
      exact ⟨r, by rw [List.getElem?_append_left (by omega)]; exact e, q⟩
    · have : i = k := by omega
      subst this
      exact ⟨N, by rw [← l]; simp, h1, h2⟩
theorem land_zero {m r k : Nat} (hr : r < 2 ^ m) : Nat.land r k = 0 ↔ ∀ j, j < m → ¬ (r.testBit j = true ∧ k.testBit j = true) := by
  constructor
  · intro h j _ ⟨a, b⟩
    have : (r &&& k).testBit j = false := by rw [show (r &&& k) = 0 from h]; exact Nat.zero_testBit j
    rw [Nat.testBit_and, a, b] at this
    cases this
  · intro h
    show (r &&& k) = 0
    apply Nat.eq_of_testBit_eq
    intro j
    rw [Nat.testBit_and, Nat.zero_testBit]
    by_cases c : j < m
    · cases a : r.testBit j <;> cases b : k.testBit j <;> first | rfl | exact absurd ⟨a, b⟩ (h j c)
    · rw [Nat.testBit_lt_two_pow (Nat.lt_of_lt_of_le hr (Nat.pow_le_pow_right (by decide) (by omega)))]
      rfl
theorem four_holds {m : Int} {ars : List (Int × Int)} (m1 : 1 ≤ m) (m4 : m ≤ 4) (ga : GoodA m ars) : (HL m ars).length ≤ 4 := by
  obtain ⟨M, rfl⟩ : ∃ M : Nat, m = (M : Int) := ⟨m.toNat, by omega⟩
  obtain ⟨rows, lr, hr⟩ := rows_ex ars M M
  have c4 : cntR M rows ≤ 4 := by
    have a : allR M M [] = true := by
      have := allR_ok
      have : M = 1 ∨ M = 2 ∨ M = 3 ∨ M = 4 := by omega
      rcases this with rfl | rfl | rfl | rfl
      · exact allR_ok.1
      · exact allR_ok.2.1
      · exact allR_ok.2.2.1
      · exact allR_ok.2.2.2
    refine allR_use M [] rows a lr fun i r e => ?_
    have hi : i < M := by
      have := (List.getElem?_eq_some_iff.mp e).1
      omega
    obtain ⟨r', e', h1, h2⟩ := hr i hi
    rw [e] at e'
    cases e'
    refine ⟨h1, ?_⟩
    rw [List.length_nil, Nat.zero_add, h2 i hi]
    exact decide_eq_false fun z => (ga _ z).2.2.2.2 rfl
  refine Nat.le_trans ?_ c4
  unfold HL holdsTo cntR
  rw [Int.toNat_natCast, List.filter_map, List.length_map]
  refine Nat.le_of_eq ?_
  congr 1
  refine List.filter_congr fun k hk => ?_
  rw [Bool.eq_iff_iff]
  show holdB (M : Int) ars (bitsPl (M : Int) k) = true ↔ _
  rw [holdB_iff ga (bitsPl_rise k (by omega))]
  unfold kerR
  rw [List.all_eq_true]
  have one : ∀ i, i < M → ((((i : Int) ∈ bitsPl (M : Int) k) ↔ ∀ b, ((i : Int), b) ∈ ars → b ∉ bitsPl (M : Int) k) ↔ (k.testBit i == (Nat.land (rows.getD i 0) k == 0)) = true) := fun i hi => by
    obtain ⟨r, e, h1, h2⟩ := hr i hi
    rw [List.getD_eq_getElem?_getD, e, Option.getD_some, mem_bits, Int.toNat_natCast]
    have q : (∀ b, ((i : Int), b) ∈ ars → b ∉ bitsPl (M : Int) k) ↔ Nat.land r k = 0 := by
      rw [land_zero h1]
      constructor
      · rintro h j hj ⟨a, b⟩
        rw [h2 j hj] at a
        exact h j (of_decide_eq_true a) (mem_bits.mpr ⟨by rw [Int.toNat_natCast]; exact hj, b⟩)
      · intro h b hb hz
        have g := ga _ hb
        dsimp only at g
        obtain ⟨j, rfl⟩ : ∃ j : Nat, b = (j : Int) := ⟨b.toNat, by omega⟩
        have hj : j < M := by omega
        exact h j hj ⟨by rw [h2 j hj]; exact decide_eq_true hb, (mem_bits.mp hz).2⟩
    rw [q, beq_iff_eq]
    constructor
    · intro h
      rw [Bool.eq_iff_iff, beq_iff_eq]
      exact ⟨fun z => h.mp ⟨hi, z⟩, fun z => (h.mpr z).2⟩
    · intro h
      rw [h, beq_iff_eq]
      exact ⟨fun z => z.2, fun z => ⟨hi, z⟩⟩
  constructor
  · intro h i hi
    have hi := List.mem_range.mp hi
    exact (one i hi).mp (h i (by omega) (by omega))
  · intro h p p0 pm
    obtain ⟨i, rfl⟩ : ∃ j : Nat, p = (j : Int) := ⟨p.toNat, by omega⟩
    exact (one i (by omega)).mpr (h i (List.mem_range.mpr (by omega)))
section
variable {m : Int} {ars : List (Int × Int)}
theorem mem_frS {T : List Int} {p : Int} (p0 : 0 ≤ p) (pm : p < m) : p ∈ frS m ars T ↔ ∀ k ∈ T, (ars.getD k.toNat (0, 0)).1 ≠ p := by
  unfold frS
  rw [List.mem_filter, List.mem_map]
  constructor
  · rintro ⟨_, h⟩ k hk e
    have : ¬ (p ∈ T.map fun k => (ars.getD k.toNat (0, 0)).1) := by simpa using h
    exact this (List.mem_map.mpr ⟨k, hk, e⟩)
  · intro h
    refine ⟨⟨p.toNat, List.mem_range.mpr (by omega), by omega⟩, ?_⟩
    have : ¬ (p ∈ T.map fun k => (ars.getD k.toNat (0, 0)).1) := fun z => by
      obtain ⟨k, hk, e⟩ := List.mem_map.mp z
      exact h k hk e
    rw [decide_eq_false this]
    rfl
theorem frS_rise (T : List Int) (m0 : 0 ≤ m) : Rise (frS m ars T) m := by
  refine ⟨fun p hp => ?_, ?_⟩
  · unfold frS at hp
    obtain ⟨k, hk, rfl⟩ := List.mem_map.mp (List.mem_filter.mp hp).1
    have := List.mem_range.mp hk
    omega
  · unfold frS
    exact List.Pairwise.filter _ (List.pairwise_map.mpr (List.pairwise_lt_range.imp fun h => by omega))
theorem arrow_in {T : List Int} (ga : GoodA m ars) (R : Rise T (ars.length : Nat)) (k : KerP (ars.length : Nat) (aoL ars ars.length) T) {i : Nat} (hi : i < ars.length) : (i : Int) ∈ T ↔ (ars.getD i (0, 0)).2 ∈ frS m ars T := by
  have g := ga _ (getD_mem hi)
  rw [k (i : Int) (by omega) (by omega), mem_frS g.2.2.1 g.2.2.2.1]
  constructor
  · intro h x hx e
    have b := R.bd x hx
    obtain ⟨j, rfl⟩ : ∃ j : Nat, x = (j : Int) := ⟨x.toNat, by omega⟩
    rw [Int.toNat_natCast] at e
    exact h j (mem_aoL.mpr ⟨i, j, hi, by omega, rfl, e⟩) hx
  · intro h b hb hz
    obtain ⟨i', j, _, hj, e, ej⟩ := mem_aoL.mp hb
    have e1 := congrArg Prod.fst e
    have e2 := congrArg Prod.snd e
    dsimp only at e1 e2
    have : i' = i := by omega
    subst this
    refine h b hz ?_
    rw [e2, Int.toNat_natCast]
    exact ej
theorem frS_ker {T : List Int} (m0 : 0 ≤ m) (ga : GoodA m ars) (R : Rise T (ars.length : Nat)) (k : KerP (ars.length : Nat) (aoL ars ars.length) T) : KerP m ars (frS m ars T) := by
  intro p p0 pm
  rw [mem_frS p0 pm]
  constructor
  · intro h b hb hz
    obtain ⟨j, hj, ej⟩ := List.mem_iff_getElem.mp hb
    have eg : ars.getD j (0, 0) = (p, b) := by rw [List.getD_eq_getElem?_getD, List.getElem?_eq_getElem hj, ej]; rfl
    have : (j : Int) ∈ T := (arrow_in ga R k hj).mpr (by rw [eg]; exact hz)
    exact h j this (by rw [Int.toNat_natCast, eg])
  · intro h x hx e
    have b := R.bd x hx
    obtain ⟨j, rfl⟩ : ∃ j : Nat, x = (j : Int) := ⟨x.toNat, by omega⟩
    have hj : j < ars.length := by omega
    rw [Int.toNat_natCast] at e
    refine h (ars.getD j (0, 0)).2 ?_ ((arrow_in ga R k hj).mp hx)
    rw [← e]
    exact getD_mem hj
theorem taS_fr {T : List Int} (ga : GoodA m ars) (R : Rise T (ars.length : Nat)) (k : KerP (ars.length : Nat) (aoL ars ars.length) T) : taS ars (frS m ars T) = T := by
  refine up_ext (taS_rise ars _).up R.up fun p => ?_
  constructor
  · intro h
    have b := (taS_rise ars _).bd p h
    obtain ⟨j, rfl⟩ : ∃ j : Nat, p = (j : Int) := ⟨p.toNat, by omega⟩
    have hj : j < ars.length := by omega
    exact (arrow_in ga R k hj).mpr ((mem_taS hj).mp h)
  · intro h
    have b := R.bd p h
    obtain ⟨j, rfl⟩ : ∃ j : Nat, p = (j : Int) := ⟨p.toNat, by omega⟩
    have hj : j < ars.length := by omega
    exact (mem_taS hj).mpr ((arrow_in ga R k hj).mp h)
def ledL (m : Int) (ars : List (Int × Int)) : List (List Int) := (HL m ars).map (taS ars)
theorem led_back (m0 : 0 ≤ m) (ga : GoodA m ars) : (ledL m ars).map (frS m ars) = HL m ars := by
  unfold ledL
  rw [List.map_map]
  conv => rhs; rw [← List.map_id (HL m ars)]
  refine List.map_congr_left fun S hS => ?_
  obtain ⟨R, k⟩ := (mem_HL m0 ga).mp hS
  exact frS_eq m0 ga R k
theorem led_nodup (m0 : 0 ≤ m) (ga : GoodA m ars) : (ledL m ars).Nodup := by
  have h : ((ledL m ars).map (frS m ars)).Nodup := by
    rw [led_back m0 ga]
    exact nodup_HL
  exact (List.pairwise_map.mp h).imp fun h e => h (by rw [e])
theorem led_perm (m0 : 0 ≤ m) (ga : GoodA m ars) : (ledL m ars).Perm (HL (ars.length : Nat) (aoL ars ars.length)) := by
  refine (List.perm_ext_iff_of_nodup (led_nodup m0 ga) nodup_HL).mpr fun T => ?_
  rw [mem_HL (by omega) (aoL_good ga)]
  unfold ledL
  rw [List.mem_map]
  constructor
  · rintro ⟨S, hS, rfl⟩
    obtain ⟨R, k⟩ := (mem_HL m0 ga).mp hS
    exact ⟨taS_rise ars S, taS_ker ga k⟩
  · rintro ⟨R, k⟩
    exact ⟨frS m ars T, (mem_HL m0 ga).mpr ⟨frS_rise T m0, frS_ker m0 ga R k⟩, taS_fr ga R k⟩
theorem small9 {T : List Int} {k : Nat} (hk : k ≤ 9) (R : Rise T (k : Nat)) : SmT9 T := by
  obtain ⟨N, h1, h2⟩ := bits_all (fun j => decide ((j : Int) ∈ T)) 9
  refine ⟨N, h1, up_ext R.up ?_ fun p => ?_⟩
  · unfold bitL
    rw [List.pairwise_map]
    exact (List.pairwise_lt_range.filter _).imp fun h => by omega
  · unfold bitL
    rw [List.mem_map]
    constructor
    · intro h
      have b := R.bd p h
      refine ⟨p.toNat, List.mem_filter.mpr ⟨List.mem_range.mpr (by omega), ?_⟩, by omega⟩
      rw [h2 p.toNat (by omega), show ((p.toNat : Nat) : Int) = p by omega]
      exact decide_eq_true h
    · rintro ⟨j, hj, rfl⟩
      obtain ⟨a, b⟩ := List.mem_filter.mp hj
      rw [h2 j (List.mem_range.mp a)] at b
      exact of_decide_eq_true b
end
end Hk

namespace Hk
open PySem L2 PySem.W
def tLs (L : List (List Int)) : List Tr := L.map fun l => Tr.tup (tInts l)
theorem is_tps {K : Frag} {H : Hp} {d : Nat} {ws : List V} {L : List (List Int)} (h : Tps H ws L) : Paired (Is K H (d + 1)) ws (tLs L) := by
  induction h with
  | nil => exact .nil
  | cons a _ ih =>
    obtain ⟨r, rfl, e⟩ := a
    exact .cons (Is.tup (SqT.of e) (is_ints _)) ih
theorem hold_hg {m : Int} {ars : List (Int × Int)} {S : List Int} (ga : GoodA m ars) (R : Rise S m) (k : KerP m ars S) : hgM m ars (some (S.map V.int)) = true := by
  rw [hg_rise R]
  exact (holdB_iff ga R).mpr k
section
variable {P : Program} {w : World} {K : Frag} {mg : Str → Option Value} {base : Heap}
theorem tin_tup {H : Hp} {a t c : Addr} {m : Int} {us : List V} {ars : List (Int × Int)} {S : List Int} (W : Web H a t m us ars) (hc : H c = some (.tup (S.map V.int))) (l200 : us.length ≤ 200) (lS : S.length ≤ 1000) : Tin H [.ref a, .ref c] m us ars (some (S.map V.int)) :=
  ⟨⟨a, t, .ref c, rfl, W, thing_ints' hc lS, fun S' e => ⟨c, rfl, by rw [← Option.some.inj e]; exact hc⟩⟩, l200, fun ys e => by cases e; rw [List.length_map]; exact lS⟩
def spAR : Sp := fun vs H Q _ => ∃ (a t l : Addr) (m : Int) (us ws : List V) (ars : List (Int × Int)), vs = [.ref a, .ref l] ∧ Web H a t m us ars ∧ GoodA m ars ∧ 1 ≤ m ∧ m ≤ 4 ∧ us.length ≤ 200 ∧ H l = some (.lst ws) ∧ Tps H ws (HL m ars) ∧ ∀ H', Same H H' → Q (.bl true) H'
theorem kn_ar (D : DefAt K mg "_law_arrows_right" s_law_arrows_right ["web", "holds"]) (fr : Free mg ["len", "set", "sorted"]) (kh : Kn P w K mg base 5 "_law_held" ["web"] spAllHolds) (ka : Kn P w K mg base 2 "arrows_web" ["web"] spAW0) (kt : Kn P w K mg base 6 "hold_to_arrows" ["web", "hold"] spHT0) (kf : Kn P w K mg base 6 "hold_from_arrows" ["web", "hold"] spHF0) : Kn P w K mg base 7 "_law_arrows_right" ["web", "holds"] spAR := by
  have sc : FnScope ["web", "holds", "other", "led"] ["web", "holds"] (defScope s_law_arrows_right) := ⟨rfl, rfl, rfl, by decide +kernel, rfl, by decide +kernel, by decide +kernel⟩
  refine D.kn (N := ["web", "holds", "other", "led"]) sc (fun vs H Q E h => ?_) (fun f cdv A outer s H vs Q E hr h => ?_)
  · obtain ⟨a, t, l, m, us, ws, ars, rfl, _⟩ := h
    rfl
  · obtain ⟨a, t, l, m, us, ws, ars, rfl, W, ga, m1, m4, l200, hl, tp, kk⟩ := h
    have hu := hu_of hr
    have hu2 := huN (j := 2) hr (by decide)
    have hu9 := huN (j := 9) hr (by decide)
    have r2 := hr.mono (j := 2) (by decide)
    have r5 := hr.mono (j := 5) (by decide)
    have r6 := hr.mono (j := 6) (by decide)
    have m_len := fr "len" (by simp)
    have m_set := fr "set" (by simp)
    have m_sorted := fr "sorted" (by simp)
    have nd0 : (["hold", "web"] : List Str).Nodup := by decide +kernel
    have nd1 : (["hold", "web"] : List Str).Nodup := by decide +kernel
    refine ⟨_, (pss_cons (ps_if (PW.pt (pw_or (pt_cmpR (op_eqTN (Nat.lt_of_succ_lt hu)) (pe_ix ix_tup (pv 0) pe_int (fun _ _ => rfl)) (pe_tup pa_nil) (nomark _)) (pw_or1 (pt_cmpR op_gt (pe_callB call_len_seq rfl m_len PySem.boot_len (pa_cons (pe_ix ix_tup (pv 0) pe_int (fun _ _ => rfl)) pa_nil)) pe_int (nomark _))))) (pss_one (ps_ret pe_bl)) pss_nil) (pss_cons (ps_set (i := 2) sc.nd rfl (Or.inl rfl) (pe_kn kh r5 (pa_cons (pe_kn ka r2 (pa_cons (pv 0) pa_nil)) pa_nil))) (pss_cons (ps_setlc (i := 3) (N := ["hold", "web"]) (src := [none, some 0]) sc.nd rfl rfl rfl rfl ⟨rfl, rfl, rfl, rfl, ⟨⟨rfl, rfl⟩, trivial⟩, rfl, rfl, rfl⟩ (gown_name (i := 0) rfl) (pi_list (pv 1)) (fun C s H fp => ⟨(pg_name (i := 0) nd0 rfl (Or.inl rfl)), pifs_nil, (pe_kn kt r6 (pa_cons (pv 1) (pa_cons (pv 0) pa_nil)))⟩)) (pss_cons (ps_if (PW.pt (pw_or (pt_cmpR (op_neTr 2 hu2) (pe_callB call_sorted_tps rfl m_sorted boot_fsorted (pa_cons (pv 3) pa_nil)) (pe_callB call_sorted_tps rfl m_sorted boot_fsorted (pa_cons (pv 2) pa_nil)) (nomark _)) (pw_or1 (pt_cmpR op_ne (pe_callB call_lenN rfl m_len PySem.boot_len (pa_cons (pe_callTy (call_set_tps rfl hu9) rfl m_set boot_tset (pa_cons (pv 3) pa_nil)) pa_nil)) (pe_callB call_len_seq rfl m_len PySem.boot_len (pa_cons (pv 1) pa_nil)) (nomark _))))) (pss_one (ps_ret pe_bl)) pss_nil) (pss_one (ps_ret (pe_cmpR (op_eqTr 2 hu2) (pe_lc (N := ["hold", "web"]) (src := [none, some 0]) rfl ⟨rfl, rfl, rfl, rfl, ⟨⟨rfl, rfl⟩, trivial⟩, rfl, rfl, rfl⟩ (gown_name (i := 0) rfl) (pi_list (pv 3)) (fun C s H fp => ⟨(pg_name (i := 0) nd1 rfl (Or.inl rfl)), pifs_nil, (pe_kn kf r6 (pa_cons (pv 1) (pa_cons (pv 0) pa_nil)))⟩)) (pv 1) (nomark _)))))))), ?_⟩
    have c0 : 0 ≤ sizeLine := by decide
    have m0 : 0 ≤ m := by omega
    have lu := arsLen W.ars
    have few := four_holds m1 m4 ga
    have lw := tp.len
    refine ⟨_, rfl, a, _, _, _, rfl, rfl, SqT.of W.top, rfl, c0, fun e0 he0 => ?_⟩
    have s1 := Same.upd (o := .tup []) he0
    refine ⟨t, e0, us, rfl, rfl, SqT.of (s1 _ _ W.arr), SqT.of upd_same, _, rfl, ite2 (fun c => ?_) (fun c => ?_)⟩
    · exact kk _ s1
    have na : ars ≠ [] := fun z => by
      rw [z] at lu
      have : us = [] := List.length_eq_zero_iff.mp lu
      exact c (by rw [this]; rfl)
    generalize upd H e0 (.tup []) = H1 at s1
    refine ⟨_, rfl, a, _, _, _, rfl, rfl, SqT.of (s1 _ _ W.top), rfl, t, _, rfl, .inr (SqT.of (s1 _ _ W.arr)), _, _, rfl, rfl, _, rfl, ite2 (fun c => ?_) (fun c => ?_)⟩
    · exact kk _ s1
    have k9 : ars.length ≤ 9 := by
      have : ¬ (9 : Int) < ((us.length : Nat) : Int) := fun z => c (decide_eq_true z)
      omega
    have kpos : 0 < ars.length := List.length_pos_iff.mpr na
    have l2 := aoL_len ars ars.length
    have l3 : ars.length * ars.length ≤ 9 * 9 := Nat.mul_le_mul k9 k9
    have aok : AwOk ars := ⟨na, by omega, by omega⟩
    have gA := aoL_good ga
    -- the holds of the web of arrows
    refine ⟨_, rfl, a, t, m, us, ars, rfl, W.mono s1, l200, na, by omega, by omega, fun a' t' us' H2 s2 W' l' => ?_⟩
    refine ⟨a', t', _, us', _, rfl, W', by omega, fun lo wo H3 s3 nlo hlo tpo => ?_⟩
    rw [Int.toNat_natCast] at tpo
    have tpo : Tps H3 wo (HL (ars.length : Nat) (aoL ars ars.length)) := tpo
    have s13 := (s1.trans s2).trans s3
    refine gname_in ?_
    dsimp only [List.set]
    -- led on
    have W3 := W.mono s13
    have hl3 := s13 _ _ hl
    have tp3 := tp.mono s13
    refine ⟨_, rfl, l, rfl, ⟨_, SqL.of hl3⟩, lc_list0 (xs := ws) (fun i zs H4 => Same H3 H4 ∧ Tps H4 zs (((HL m ars).take i).map (taS ars))) ⟨Same.refl _, .nil⟩ ?_ ?_ ?_⟩
    · rintro i zs H4 hi ⟨s4, tz⟩
      have := tz.len
      rw [List.length_map, List.length_take] at this
      exact ⟨SqL.of (s4 _ _ hl3), Nat.le_of_lt (small1000 (by omega))⟩
    · rintro zs H4 ⟨s4, tz⟩ le hle
      rw [lw, List.take_of_length_le (Nat.le_refl _)] at tz
      have tz : Tps H4 zs (ledL m ars) := tz
      have s5 := Same.upd (o := .lst zs) hle
      have hle5 : upd H4 le (.lst zs) le = some (.lst zs) := upd_same
      have tz5 := tz.mono s5
      have s15 := s13.trans (s4.trans s5)
      have hlo5 := s5 _ _ (s4 _ _ hlo)
      have tpo5 := (tpo.mono s4).mono s5
      have lz := tz.len
      have llen : (ledL m ars).length = (HL m ars).length := List.length_map _
      have pm := led_perm m0 ga
      have lo4 := pm.length_eq
      have ln := tpo.len
      generalize upd H4 le (.lst zs) = H5 at s5 hle5 tz5 s15 hlo5 tpo5
      have ne2 : ∀ q ∈ HL (ars.length : Nat) (aoL ars ars.length), q ≠ [] := fun q hq => ker_ne (by omega) ((mem_HL (by omega) gA).mp hq).2
      have ne1 : ∀ q ∈ ledL m ars, q ≠ [] := fun q hq => ne2 q (pm.mem_iff.mp hq)
      refine ⟨_, rfl, le, zs, ledL m ars, rfl, hle5, tz5, ne1, by omega, fun D1 w1 p1 H6 s6 nD1 hD1 t1 pm1 r1 => ?_⟩
      refine ⟨_, rfl, lo, wo, _, rfl, s6 _ _ hlo5, tpo5.mono s6, ne2, by omega, fun D2 w2 p2 H7 s7 nD2 hD2 t2 pm2 r2' => ?_⟩
      have eq : p1 = p2 := by
        refine StcL.uniq (risL_strict r1 (pm1.nodup_iff.mpr (led_nodup m0 ga))) (risL_strict r2' (pm2.nodup_iff.mpr nodup_HL)) fun x => ?_
        rw [pm1.mem_iff, pm2.mem_iff, pm.mem_iff]
      subst eq
      have t1 : Tps H6 w1 p1 := t1
      have t2 : Tps H7 w2 p1 := t2
      refine ⟨_, _, Is.lst (SqL.of (s7 _ _ hD1)) (is_tps (t1.mono s7)), Is.lst (SqL.of hD2) (is_tps t2), fun b hb => ⟨_, rfl, ?_⟩⟩
      have eb : b = false := by
        cases b with
        | false => rfl
        | true => exact absurd rfl (hb.mp rfl)
      subst eb
      refine iteF ?_
      have s67 := s6.trans s7
      have hle7 := s67 _ _ hle5
      have tz7 := tz5.mono s67
      have s17 := s15.trans s67
      refine ⟨_, rfl, le, zs, ledL m ars, rfl, hle7, tz7, fun T hT => ?_, led_nodup m0 ga, by omega, fun p hp => ⟨p, _, rfl, upd_same, ?_⟩⟩
      · exact small9 k9 ((mem_HL (by omega) gA).mp (pm.mem_iff.mp hT)).1
      have s8 := Same.upd (o := SetN w p (ledL m ars).length) hp
      have hl7 := s17 _ _ hl
      have tp7 := tp.mono s17
      refine ⟨_, rfl, l, _, rfl, .inl (SqL.of (s8 _ _ hl7)), rfl, _, rfl, ?_⟩
      rw [lw, llen, decide_eq_true rfl]
      refine iteF ?_
      have W7 := W.mono s17
      have s8 := Same.upd (o := SetN w p (HL m ars).length) hp
      refine ⟨_, rfl, le, rfl, ⟨_, SqL.of (s8 _ _ hle7)⟩, lc_list0 (xs := zs) (fun i xs H9 => Same H7 H9 ∧ Tps H9 xs (((ledL m ars).take i).map (frS m ars))) ⟨s8, .nil⟩ ?_ ?_ ?_⟩
      · rintro i xs H9 hi ⟨s9, tx⟩
        have := tx.len
        rw [List.length_map, List.length_take] at this
        exact ⟨SqL.of (s9 _ _ hle7), Nat.le_of_lt (small1000 (by omega))⟩
      · rintro xs H9 ⟨s9, tx⟩ y hy
        rw [lz, List.take_of_length_le (Nat.le_refl _), led_back m0 ga] at tx
        have s10 := Same.upd (o := .lst xs) hy
        refine ⟨_, rfl, _, _, Is.lst (SqL.of upd_same) (is_tps (tx.mono s10)), Is.lst (SqL.of (s10 _ _ (s9 _ _ hl7))) (is_tps ((tp7.mono s9).mono s10)), fun b hb => ?_⟩
        rw [hb.mpr rfl]
        exact kk _ (s17.trans (s9.trans s10))
      · rintro i x xs H9 hx hi ⟨s9, tx⟩
        obtain ⟨T, eT, c', rfl, hc'⟩ := Paired.get' (tz7.mono s9) hx
        have hT := List.mem_of_getElem? eT
        obtain ⟨RT, kT⟩ := (mem_HL (by omega) gA).mp (pm.mem_iff.mp hT)
        have lT := RT.len
        refine ⟨_, rfl, _, rfl, m, us, ars, _, tin_tup (W7.mono s9) hc' l200 (by omega), aok, hold_hg gA RT kT, T, rfl, fun k hk => ?_, fun q H10 s10 hq => nx hi ⟨s9.trans s10, ?_⟩⟩
        · have := RT.bd k hk
          omega
        · rw [take_snoc _ _ _ eT, List.map_append]
          exact (tx.mono s10).snoc hq
    · rintro i x zs H4 hx hi ⟨s4, tz⟩
      obtain ⟨S, eS, c', rfl, hc'⟩ := Paired.get' (tp3.mono s4) hx
      have hS := List.mem_of_getElem? eS
      obtain ⟨RS, kS⟩ := (mem_HL m0 ga).mp hS
      have lS := RS.len
      refine ⟨_, rfl, _, rfl, m, us, ars, _, tin_tup (W3.mono s4) hc' l200 (by omega), aok, hold_hg ga RS kS, S, rfl, fun k hk => ?_, fun q H10 s10 hq => nx hi ⟨s4.trans s10, ?_⟩⟩
      · have := RS.bd k hk
        omega
      · rw [take_snoc _ _ _ eS, List.map_append]
        exact (tz.mono s10).snoc hq
end
end Hk

namespace Hk
open PySem L2 PySem.W
theorem pairs_bd {k : Nat} {L : List (Int × Int)} (nd : L.Nodup) (g : GoodA (k : Int) L) : L.length ≤ k * k := by
  have h : ((List.range k).flatMap fun (i : Nat) => (List.range k).map fun (j : Nat) => ((i : Int), (j : Int))).length = k * k := by
    rw [flat_const (c := k) fun i _ => by rw [List.length_map, List.length_range], List.length_range]
  rw [← h]
  refine List.Nodup.length_le_of_subset nd fun q hq => ?_
  obtain ⟨a, b, c, d, _⟩ := g q hq
  refine List.mem_flatMap.mpr ⟨q.1.toNat, List.mem_range.mpr (by omega), List.mem_map.mpr ⟨q.2.toNat, List.mem_range.mpr (by omega), ?_⟩⟩
  exact Prod.ext (by show ((q.1.toNat : Nat) : Int) = q.1; omega) (by show ((q.2.toNat : Nat) : Int) = q.2; omega)
theorem pairs_8 {m : Int} {L : List (Int × Int)} (m0 : 0 ≤ m) (m8 : m ≤ 8) (nd : L.Nodup) (g : GoodA m L) : L.length ≤ 64 := by
  have := pairs_bd (k := m.toNat) nd (by rw [show ((m.toNat : Nat) : Int) = m by omega]; exact g)
  have h : m.toNat * m.toNat ≤ 8 * 8 := Nat.mul_le_mul (by omega) (by omega)
  omega
theorem stF_bd {m pl n : Int} {i : Nat} (im : (i : Int) < m) (p0 : 0 ≤ pl) (pm : pl < m) (n1 : 1 ≤ n) {x : Int} (h : x ∈ stF m pl n i) : 0 ≤ x ∧ x < m - 1 + n := by
  unfold stF at h
  by_cases c1 : (i : Int) < pl
  · rw [if_pos c1] at h
    rw [List.mem_singleton.mp h]
    omega
  · rw [if_neg c1] at h
    by_cases c2 : (i : Int) = pl
    · rw [if_pos c2] at h
      obtain ⟨k, hk, rfl⟩ := List.mem_map.mp h
      have := mem_plI.mp hk
      omega
    · rw [if_neg c2] at h
      rw [List.mem_singleton.mp h]
      omega
theorem putL_good {m pl n : Int} {ars ars' : List (Int × Int)} (ga : GoodA m ars) (ga' : GoodA n ars') (p0 : 0 ≤ pl) (pm : pl < m) (n1 : 1 ≤ n) : GoodA (m - 1 + n) (putL m pl ars n ars') := fun z hz => by
  unfold putL at hz
  rcases List.mem_append.mp hz with h | h
  · obtain ⟨q, hq, rfl⟩ := List.mem_map.mp h
    obtain ⟨a1, a2, a3, a4, a5⟩ := ga' q hq
    refine ⟨?_, ?_, ?_, ?_, ?_⟩ <;> (try show _ ≤ _ + _) <;> (try show _ + _ < _) <;> (try dsimp only) <;> omega
  · obtain ⟨q, hq, h⟩ := List.mem_flatMap.mp h
    obtain ⟨h1, h2⟩ := mem_cross.mp h
    obtain ⟨a1, a2, a3, a4, a5⟩ := ga q hq
    have b1 := stF_bd (n := n) (i := q.1.toNat) (by omega) p0 pm n1 h1
    have b2 := stF_bd (n := n) (i := q.2.toNat) (by omega) p0 pm n1 h2
    have e1 := unst_st (m := m) (pl := pl) (n := n) (i := q.1.toNat) (by omega) pm h1
    have e2 := unst_st (m := m) (pl := pl) (n := n) (i := q.2.toNat) (by omega) pm h2
    refine ⟨b1.1, b1.2, b2.1, b2.2, fun e => ?_⟩
    rw [e, e2] at e1
    omega
theorem both_one {m : Int} {ars T : List (Int × Int)} (m1 : 1 ≤ m) (ga : GoodA m ars) (st : Stc ars) (pm : T.Perm (boL m ars 1 [])) (r : Ris T) : T = ars := by
  have g0 : GoodA 1 ([] : List (Int × Int)) := fun q h => (nomatch h)
  have nd := bo_nodup ga g0 (by omega) (by decide) (Stc.nodup st) List.nodup_nil
  refine Stc.uniq (ris_strict r (pm.nodup_iff.mpr nd)) st fun x => ?_
  rw [pm.mem_iff]
  unfold boL
  rw [List.mem_append, mem_boA, mem_boB]
  constructor
  · rintro (⟨b, q, hb, hq, rfl⟩ | ⟨a, q, _, hq, _⟩)
    · have : b = 0 := by
        have : (1 : Int).toNat = 1 := rfl
        omega
      subst this
      have e : (q.1 * 1 + ((0 : Nat) : Int), q.2 * 1 + ((0 : Nat) : Int)) = q := Prod.ext (by show q.1 * 1 + 0 = q.1; omega) (by show q.2 * 1 + 0 = q.2; omega)
      rw [e]
      exact hq
    · cases hq
  · intro hx
    exact .inl ⟨0, x, by decide, hx, Prod.ext (by show x.1 = x.1 * 1 + 0; omega) (by show x.2 = x.2 * 1 + 0; omega)⟩
theorem put_one {n : Int} {ars T : List (Int × Int)} (ga : GoodA n ars) (st : Stc ars) (pm : T.Perm (putL 1 0 [] n ars)) (r : Ris T) : T = ars := by
  have e : putL 1 0 [] n ars = ars := by
    unfold putL
    rw [List.flatMap_nil, List.append_nil]
    conv => rhs; rw [← List.map_id ars]
    refine List.map_congr_left fun q _ => ?_
    exact Prod.ext (by show (1 : Int) - 1 + q.1 = q.1; omega) (by show (1 : Int) - 1 + q.2 = q.2; omega)
  rw [e] at pm
  exact Stc.uniq (ris_strict r (pm.nodup_iff.mpr (Stc.nodup st))) st fun x => pm.mem_iff
section
variable {P : Program} {w : World} {K : Frag} {mg : Str → Option Value} {base : Heap}
def spLaw (K : Frag) : Sp := fun vs H Q _ => ∃ (a : Addr) (ns : List Int), vs = [.ref a] ∧ SqL K H a (ns.map V.int) ∧ ns.length ≤ 63 ∧ ∀ H', Q (.bl true) H'
theorem ok_law {fl : Addr} {fd : FuncData} (F : Fun K "law" "law" s_law fl fd) (fr : Free mg ["len"])
    (kc : Kn P w K mg base 1 "_law_cell_at" ["script", "k"] (spCell K)) (kp : Kn P w K mg base 1 "_law_pen_of" ["cell"] spPen) (kw : Kn P w K mg base 3 "_law_web_by" ["pen", "most"] spWebByS) (kd : Kn P w K mg base 2 "_law_draw" ["pen", "many"] spDraw)
    (kh : Kn P w K mg base 5 "_law_held" ["web"] spAllHolds) (kb : Kn P w K mg base 2 "beside_web" ["web", "other"] (sp2 bsN bsL4)) (kpu : Kn P w K mg base 4 "put_in" ["web", "place", "other"] spPut0) (kbo : Kn P w K mg base 2 "both_web" ["web", "other"] (sp2 boN boL)) (kar : Kn P w K mg base 7 "_law_arrows_right" ["web", "holds"] spAR) :
    FnOk P w K mg base CX0 8 fl fd ["script"] (spLaw K) := by
  have sc : FnScope ["script", "cell", "pen", "one", "other", "place", "mine", "theirs", "inner"] ["script"] (defScope s_law) := ⟨rfl, rfl, rfl, by decide +kernel, rfl, by decide +kernel, by decide +kernel⟩
  refine F.ok (N := ["script", "cell", "pen", "one", "other", "place", "mine", "theirs", "inner"]) sc (fun vs H Q E h => ?_) (fun cdv A outer s H vs Q E hr h => ?_)
  · obtain ⟨a, ns, rfl, _⟩ := h
    rfl
  · obtain ⟨a, ns, rfl, ha, hn, kk⟩ := h
    have hu := hu_of hr
    have hu3 := huN (j := 3) hr (by decide)
    have r1 := hr.mono (j := 1) (by decide)
    have r2 := hr.mono (j := 2) (by decide)
    have r3 := hr.mono (j := 3) (by decide)
    have r4 := hr.mono (j := 4) (by decide)
    have r5 := hr.mono (j := 5) (by decide)
    have r7 := hr.mono (j := 7) (by decide)
    have m_len := fr "len" (by simp)
    have nd0 : (["hold", "place"] : List Str).Nodup := by decide +kernel
    have nd1 : (["hold", "place"] : List Str).Nodup := by decide +kernel
    refine ⟨_, (pss_cons (ps_for PassesOwn.never rfl (pi_list (pe_op op_cat (pe_lst (pa_cons (pe_kn kc r1 (pa_cons (pv 0) (pa_cons pe_int pa_nil))) pa_nil)) (pe_slice sl_list (pv 0) (po_some pe_int) (po_some pe_int)))) (pg_name (i := 1) sc.nd rfl (Or.inl rfl)) (pss_cons (ps_set (i := 2) sc.nd rfl (Or.inl rfl) (pe_kn kp r1 (pa_cons (pv 1) pa_nil))) (pss_cons (ps_set (i := 3) sc.nd rfl (Or.inl rfl) (pe_kn kw r3 (pa_cons (pv 2) (pa_cons pe_int pa_nil)))) (pss_cons (ps_set (i := 4) sc.nd rfl (Or.inl rfl) (pe_kn kw r3 (pa_cons (pv 2) (pa_cons pe_int pa_nil)))) (pss_cons (ps_set (i := 5) sc.nd rfl (Or.inr rfl) (pe_kn kd r2 (pa_cons (pv 2) (pa_cons (pe_ix ix_tup (pv 3) pe_int (fun _ _ => rfl)) pa_nil)))) (pss_cons (ps_set (i := 6) sc.nd rfl (Or.inl rfl) (pe_kn kh r5 (pa_cons (pv 3) pa_nil))) (pss_cons (ps_set (i := 7) sc.nd rfl (Or.inl rfl) (pe_kn kh r5 (pa_cons (pv 4) pa_nil))) (pss_cons (ps_if (pt_cmpR op_ne (pe_callB call_len_seq rfl m_len PySem.boot_len (pa_cons (pe_kn kh r5 (pa_cons (pe_kn kb r2 (pa_cons (pv 3) (pa_cons (pv 4) pa_nil))) pa_nil)) pa_nil)) (pe_op op_mul (pe_callB call_len_seq rfl m_len PySem.boot_len (pa_cons (pv 6) pa_nil)) (pe_callB call_len_seq rfl m_len PySem.boot_len (pa_cons (pv 7) pa_nil))) (nomark _)) (pss_one (ps_ret pe_bl)) pss_nil) (pss_cons (ps_set (i := 8) sc.nd rfl (Or.inl rfl) (pe_callB call_len_seq rfl m_len PySem.boot_len (pa_cons (pe_lc (N := ["hold", "place"]) (src := [none, some 5]) rfl ⟨rfl, rfl, rfl, rfl, ⟨⟨rfl, rfl⟩, trivial⟩, rfl, rfl, rfl⟩ (gown_name (i := 0) rfl) (pi_list (pv 6)) (fun C s H fp => ⟨(pg_name (i := 0) nd1 rfl (Or.inl rfl)), (pifs_one (pt_cmpR (r := rIn K false) op_in_seq (pv 1) (pv 0) rfl)), (pv 0)⟩)) pa_nil))) (pss_cons (ps_if (pt_cmpR op_ne (pe_callB call_len_seq rfl m_len PySem.boot_len (pa_cons (pe_kn kh r5 (pa_cons (pe_kn kpu r4 (pa_cons (pv 3) (pa_cons (pv 5) (pa_cons (pv 4) pa_nil)))) pa_nil)) pa_nil)) (pe_op op_add (pe_op op_sub (pe_callB call_len_seq rfl m_len PySem.boot_len (pa_cons (pv 6) pa_nil)) (pv 8)) (pe_op op_mul (pv 8) (pe_callB call_len_seq rfl m_len PySem.boot_len (pa_cons (pv 7) pa_nil)))) (nomark _)) (pss_one (ps_ret pe_bl)) pss_nil) (pss_cons (ps_if (PW.pt (pw_or (pt_cmpR (op_neTr 3 hu3) (pe_kn kbo r2 (pa_cons (pv 3) (pa_cons (pe_tup (pa_cons pe_int (pa_cons (pe_tup pa_nil) pa_nil))) pa_nil))) (pv 3) (nomark _)) (pw_or1 (pt_cmpR (op_neTr 3 hu3) (pe_kn kpu r4 (pa_cons (pe_tup (pa_cons pe_int (pa_cons (pe_tup pa_nil) pa_nil))) (pa_cons pe_int (pa_cons (pv 4) pa_nil)))) (pv 4) (nomark _))))) (pss_one (ps_ret pe_bl)) pss_nil) (pss_cons (ps_if (pt_cmpR op_ne (pe_ix ix_tup (pe_kn kpu r4 (pa_cons (pv 3) (pa_cons (pv 5) (pa_cons (pe_tup (pa_cons pe_int (pa_cons (pe_tup pa_nil) pa_nil))) pa_nil)))) pe_int (fun _ _ => rfl)) (pe_ix ix_tup (pv 3) pe_int (fun _ _ => rfl)) (nomark _)) (pss_one (ps_ret pe_bl)) pss_nil) (pss_one (ps_if (PW.pt (pw_or (pt_not (pt_call (pe_kn kar r7 (pa_cons (pv 3) (pa_cons (pv 6) pa_nil))))) (pw_or1 (pt_not (pt_call (pe_kn kar r7 (pa_cons (pv 4) (pa_cons (pv 7) pa_nil)))))))) (pss_one (ps_ret pe_bl)) pss_nil)))))))))))))) (pss_one (ps_ret pe_bl))), ?_⟩
    have c0 : 0 ≤ sizeLine := by decide
    have c1 : 1 ≤ sizeLine := by decide
    have c2 : 2 ≤ sizeLine := by decide
    refine ⟨_, rfl, a, ns, 0, rfl, ha, fun n0 => ⟨c1, fun l1 hl1 => ?_⟩⟩
    have ha3 : SqL K _ a (ns.map V.int) := (Same.upd (o := .lst [.int n0]) hl1).seq ha
    refine ⟨_, rfl, 1, rfl, 2, rfl, a, _, rfl, ha3, fun l2 hl2 => ?_⟩
    refine ⟨l1, l2, _, _, rfl, rfl, Same.upd hl2 _ _ upd_same, upd_same, ?_, fun M2 hM2 => ?_⟩
    · have := cutV_length (ns.map V.int) (some 1) (some 2)
      rw [List.length_map] at this
      show 1 + _ ≤ sizeLine
      exact Nat.le_of_lt (small1000 (by omega))
    have allInt : ∀ v ∈ [V.int n0] ++ cutV (ns.map V.int) (some 1) (some 2), ∃ n : Int, v = .int n := by
      intro v hv
      rcases List.mem_append.mp hv with z | z
      · exact ⟨n0, by simpa using z⟩
      · unfold cutV at z
        obtain ⟨n, _, rfl⟩ := List.mem_map.mp (List.mem_of_mem_drop (List.mem_of_mem_take z))
        exact ⟨n, rfl⟩
    have hM3 : (upd (upd (upd H l1 (.lst [.int n0])) l2 (.lst (cutV (ns.map V.int) (some 1) (some 2)))) M2 (.lst ([V.int n0] ++ cutV (ns.map V.int) (some 1) (some 2)))) M2 = some (.lst ([V.int n0] ++ cutV (ns.map V.int) (some 1) (some 2))) := upd_same
    generalize upd (upd (upd H l1 (.lst [.int n0])) l2 (.lst (cutV (ns.map V.int) (some 1) (some 2)))) M2 (.lst ([V.int n0] ++ cutV (ns.map V.int) (some 1) (some 2))) = HF at hM3
    generalize [V.int n0] ++ cutV (ns.map V.int) (some 1) (some 2) = CS at hM3 allInt
    refine ⟨M2, rfl, ⟨_, SqL.of hM3⟩, for_list (K := K) (xs := CS) (fun i σ H4 => ∃ u1 u2 u3 u4 u5 u6 u7 u8 : Option V, σ = [some (.ref a), u1, u2, u3, u4, u5, u6, u7, u8] ∧ H4 M2 = some (.lst CS)) ⟨_, _, _, _, _, _, _, _, rfl, hM3⟩ (fun i σ H2 _ ⟨_, _, _, _, _, _, _, _, _, h⟩ => SqL.of h) ?_ ?_⟩
    · rintro i y σ H4 hi ⟨u1, u2, u3, u4, u5, u6, u7, u8, rfl, hM4⟩
      obtain ⟨k, rfl⟩ := allInt y (List.mem_of_getElem? hi)
      refine gname_in ?_
      dsimp only [List.set]
      refine ⟨_, rfl, k, rfl, fun p H5 s5 hp4 hp5 => ?_⟩
      have nMp : M2 ≠ p := ne_of_none hM4 hp4
      refine gname_in ?_
      dsimp only [List.set]
      refine ⟨_, rfl, p, 4, rfl, hp5, by decide, by decide, fun a1 t1 m us1 ar1 H6 s6 hp6 W1 m1 m4 ga1 lu1 st1 => ?_⟩
      refine gname_in ?_
      dsimp only [List.set]
      refine ⟨_, rfl, p, 4, rfl, hp6, by decide, by decide, fun a2 t2 n us2 ar2 H7 s7 hp7 W2' n1 n4 ga2 lu2 st2 => ?_⟩
      refine gname_in ?_
      dsimp only [List.set]
      have W17 := Web.but W1 hp6 s7
      refine ⟨_, rfl, _, rfl, a1, _, _, _, rfl, rfl, SqT.of W17.top, rfl, p, m, rfl, hp7, by omega, by omega, fun pl H8 l0 lm s8 hp8 => ?_⟩
      refine gname_in ?_
      dsimp only [List.set]
      have W18 := Web.but W17 hp7 s8
      have W28 := Web.but W2' hp7 s8
      have hM8 := s8 _ _ nMp (s7 _ _ nMp (s6 _ _ nMp (s5 _ _ hM4)))
      have la1 := arsLen W18.ars
      have la2 := arsLen W28.ars
      have nd1' := Stc.nodup st1
      have nd2' := Stc.nodup st2
      have p1 := pairs_8 (by omega) (by omega) nd1' ga1
      have p2 := pairs_8 (by omega) (by omega) nd2' ga2
      refine ⟨_, rfl, a1, t1, m, us1, ar1, rfl, W18, by omega, fun l1 w1 H9 s9 nl1 hl1 tp1 => ?_⟩
      have tp1 : Tps H9 w1 (HL m ar1) := tp1
      refine gname_in ?_
      dsimp only [List.set]
      refine ⟨_, rfl, a2, t2, n, us2, ar2, rfl, W28.mono s9, by omega, fun l2 w2 H10 s10 nl2 hl2 tp2 => ?_⟩
      have tp2 : Tps H10 w2 (HL n ar2) := tp2
      refine gname_in ?_
      dsimp only [List.set]
      have s910 := s9.trans s10
      have hl1 := s10 _ _ hl1
      have tp1 := tp1.mono s10
      have W1 := W18.mono s910
      have W2' := W28.mono s910
      have hM := s910 _ _ hM8
      have e1 := tp1.len
      have e2 := tp2.len
      clear s5 s6 s7 s8 hp4 hp5 hp6 hp7 hp8 W17 W18 W28 hM4 hM8 nl1 nl2
      -- beside one another
      refine ⟨_, rfl, _, rfl, m, n, ar1, ar2, ⟨⟨a1, t1, a2, t2, us1, us2, rfl, W1, W2'⟩, ⟨by omega, by omega⟩, ⟨by omega, by omega, by omega, by omega⟩, ⟨ga1, ga2⟩⟩, (by show m + n ≤ 40; omega), (by show (bsL m ar1 ar2).length ≤ 200; unfold bsL; rw [List.length_append, List.length_map]; omega), fun a3 t3 us3 T H11 s11 W3 pm ris el => ?_⟩
      have W3 : Web H11 a3 t3 (m + n) us3 T := W3
      have pm : T.Perm (bsL m ar1 ar2) := pm
      have gT : GoodA (m + n) T := fun q hq => bs_good ga1 ga2 (by omega) (by omega) q (pm.mem_iff.mp hq)
      refine ⟨a3, t3, m + n, us3, T, rfl, W3, by omega, fun l3 w3 H12 s12 nl3 hl3 tp3 => ?_⟩
      have tp3 : Tps H12 w3 (HL (m + n) T) := tp3
      have e3 := tp3.len
      have s1012 := s11.trans s12
      refine ⟨l3, w3, rfl, .inl (SqL.of hl3), ?_⟩
      have f1 := four_holds m1 m4 ga1
      have f2 := four_holds n1 n4 ga2
      have w4 : ∀ z : Int, CMul z ((w2.length : Nat) : Int) := fun z => .inr ⟨by omega, by omega⟩
      refine ⟨_, rfl, l1, w1, rfl, .inl (SqL.of (s1012 _ _ hl1)), _, rfl, l2, w2, rfl, .inl (SqL.of (s1012 _ _ hl2)), _, _, rfl, rfl, w4 _, rfl, _, rfl, ?_⟩
      have cb := bs_count (by omega) (by omega) ga1 ga2 gT fun x => pm.mem_iff
      rw [decide_eq_true (by rw [e1, e2, e3, cb]; push_cast; rfl)]
      refine iteF ?_
      have hl1 := s1012 _ _ hl1
      have hl2 := s1012 _ _ hl2
      have tp1 := tp1.mono s1012
      have tp2 := tp2.mono s1012
      have W1 := W1.mono s1012
      have W2' := W2'.mono s1012
      have hM := s1012 _ _ hM
      clear hl3 tp3 W3 pm gT cb ris el nl3
      -- how many have the place
      refine ⟨_, rfl, l1, rfl, ⟨_, SqL.of hl1⟩, lc_list (xs := w1) (fun j zs H13 => Same H12 H13 ∧ zs.length = (((HL m ar1).take j).filter fun S => decide (pl ∈ S)).length) ⟨Same.refl _, rfl⟩ ?_ ?_ ?_⟩
      · rintro j zs H13 hj ⟨s13, lz⟩
        have := List.length_filter_le (fun S => decide (pl ∈ S)) ((HL m ar1).take j)
        rw [List.length_take] at this
        have := four_holds m1 m4 ga1
        exact ⟨SqL.of (s13 _ _ hl1), Nat.le_of_lt (small1000 (by omega))⟩
      · rintro zs H13 ⟨s13, lz⟩ lc hlc
        rw [List.take_of_length_le (by omega)] at lz
        have s14 := s13.trans (Same.upd (o := .lst zs) hlc)
        refine ⟨lc, zs, rfl, .inl (SqL.of upd_same), ?_⟩
        refine gname_in ?_
        dsimp only [List.set]
        have hl1 := s14 _ _ hl1
        have hl2 := s14 _ _ hl2
        have tp1 := tp1.mono s14
        have tp2 := tp2.mono s14
        have W1 := W1.mono s14
        have W2' := W2'.mono s14
        have hM := s14 _ _ hM
        change tSeq _ _ _ _ (upd H13 lc (.lst zs))
        generalize upd H13 lc (.lst zs) = H14 at hl1 hl2 tp1 tp2 W1 W2' hM
        clear s14 hlc s13
        -- put in
        have gP := putL_good ga1 ga2 l0 lm n1
        have ndP : (putL m pl ar1 n ar2).Nodup := putL_nodup ga1 (fun q hq => ⟨(ga2 q hq).1, (ga2 q hq).2.2.1⟩) nd1' nd2' lm
        refine ⟨_, rfl, _, rfl, _, rfl, a1, t1, a2, t2, m, n, pl, us1, us2, ar1, ar2, rfl, W1, W2', ga1, ⟨l0, lm⟩, by omega, by omega, by omega, by omega, Nat.le_trans (pairs_8 (by omega) (by omega) ndP gP) (by decide), fun a3 t3 us3 T H15 s15 W3 pm ris el => ?_⟩
        have gT : GoodA (m - 1 + n) T := fun q hq => gP q (pm.mem_iff.mp hq)
        refine ⟨a3, t3, m - 1 + n, us3, T, rfl, W3, by omega, fun l3 w3 H16 s16 nl3 hl3 tp3 => ?_⟩
        have tp3 : Tps H16 w3 (HL (m - 1 + n) T) := tp3
        have e3 := tp3.len
        have s1416 := s15.trans s16
        refine ⟨l3, w3, rfl, .inl (SqL.of hl3), ?_⟩
        refine ⟨_, rfl, l1, w1, rfl, .inl (SqL.of (s1416 _ _ hl1)), _, rfl, _, _, rfl, rfl, _, rfl, _, rfl, l2, w2, rfl, .inl (SqL.of (s1416 _ _ hl2)), _, _, rfl, rfl, w4 _, _, _, rfl, rfl, rfl, _, rfl, ?_⟩
        have cp := put_count l0 lm n1 ga1 ga2 gT fun x => pm.mem_iff
        rw [← lz, ← e1, ← e2, ← e3] at cp
        rw [decide_eq_true (by
          have : ((w3.length : Nat) : Int) + ((zs.length : Nat) : Int) = ((w1.length : Nat) : Int) + ((zs.length : Nat) : Int) * ((w2.length : Nat) : Int) := by exact_mod_cast cp
          have : ((w3.length : Nat) : Int) = ((w1.length : Nat) : Int) - ((zs.length : Nat) : Int) + ((zs.length : Nat) : Int) * ((w2.length : Nat) : Int) := by omega
          rw [this])]
        refine iteF ?_
        have hl1 := s1416 _ _ hl1
        have hl2 := s1416 _ _ hl2
        have tp1 := tp1.mono s1416
        have tp2 := tp2.mono s1416
        have W1 := W1.mono s1416
        have W2' := W2'.mono s1416
        have hM := s1416 _ _ hM
        clear hl3 tp3 W3 pm gT cp ris el nl3 s1416 s15 s16
        have g0 : GoodA 1 ([] : List (Int × Int)) := fun q h => (nomatch h)
        -- with one place
        refine ⟨_, rfl, c0, fun x1 hx1 => ⟨c2, fun x2 hx2 => ?_⟩⟩
        have q1 := Same.upd (o := .tup []) hx1
        have q2 := Same.upd (o := .tup [.int 1, .ref x1]) hx2
        have q12 := q1.trans q2
        have W0 : Web (upd (upd H16 x1 (.tup [])) x2 (.tup [.int 1, .ref x1])) x2 x1 1 [] [] := ⟨upd_same, q2 _ _ upd_same, .nil, by decide, by decide⟩
        generalize upd (upd H16 x1 (.tup [])) x2 (.tup [.int 1, .ref x1]) = H17 at q2 q12 W0
        have nb := bo_nodup ga1 g0 (by omega) (by decide) nd1' List.nodup_nil
        have gb : GoodA (m * 1) (boL m ar1 1 []) := bo_good ga1 g0 (by omega) (by decide)
        refine ⟨m, 1, ar1, [], ⟨⟨a1, t1, x2, x1, us1, [], rfl, W1.mono q12, W0⟩, ⟨by omega, by decide⟩, ⟨by omega, by omega, by decide, by decide⟩, ⟨ga1, g0⟩⟩, (by show m * 1 ≤ 40; omega), Nat.le_trans (pairs_8 (by omega) (by omega) nb gb) (by decide), fun a3 t3 us3 T H18 s18 W3 pm ris el => ?_⟩
        have eT := both_one m1 ga1 st1 pm ris
        subst eT
        have W3 : Web H18 a3 t3 m us3 T := by
          have : Web H18 a3 t3 (m * 1) us3 T := W3
          rw [Int.mul_one] at this
          exact this
        have s18' := q12.trans s18
        refine ⟨_, rfl, _, _, is_web W3, is_web (W1.mono s18'), fun b hb => ⟨_, rfl, ?_⟩⟩
        have eb : b = false := by
          cases b with
          | false => rfl
          | true => exact absurd rfl (hb.mp rfl)
        subst eb
        refine iteF ?_
        clear hb W3 pm ris el W0
        refine ⟨c0, fun x3 hx3 => ⟨c2, fun x4 hx4 => ?_⟩⟩
        have q3 := Same.upd (o := .tup []) hx3
        have q4 := Same.upd (o := .tup [.int 1, .ref x3]) hx4
        have q34 := q3.trans q4
        have W0 : Web (upd (upd H18 x3 (.tup [])) x4 (.tup [.int 1, .ref x3])) x4 x3 1 [] [] := ⟨upd_same, q4 _ _ upd_same, .nil, by decide, by decide⟩
        generalize upd (upd H18 x3 (.tup [])) x4 (.tup [.int 1, .ref x3]) = H19 at q4 q34 W0
        have s19 := s18'.trans q34
        have gp1 : GoodA (1 - 1 + n) (putL 1 0 [] n ar2) := putL_good g0 ga2 (by decide) (by decide) n1
        have np1 : (putL 1 0 [] n ar2).Nodup := putL_nodup g0 (fun q hq => ⟨(ga2 q hq).1, (ga2 q hq).2.2.1⟩) List.nodup_nil nd2' (by decide)
        refine ⟨_, rfl, x4, x3, a2, t2, 1, n, 0, [], us2, [], ar2, rfl, W0, W2'.mono s19, g0, ⟨by decide, by decide⟩, by decide, by omega, by omega, by omega, Nat.le_trans (pairs_8 (by omega) (by omega) np1 gp1) (by decide), fun a4 t4 us4 T4 H20 s20 W4 pm4 ris4 el4 => ?_⟩
        have eT := put_one ga2 st2 pm4 ris4
        subst eT
        have W4 : Web H20 a4 t4 n us4 T4 := by
          rw [show (1 : Int) - 1 + n = n by omega] at W4
          exact W4
        have s20' := s19.trans s20
        refine ⟨_, rfl, _, _, is_web W4, is_web (W2'.mono s20'), fun b hb => ⟨_, rfl, ?_⟩⟩
        have eb : b = false := by
          cases b with
          | false => rfl
          | true => exact absurd rfl (hb.mp rfl)
        subst eb
        refine iteF ?_
        clear hb W4 pm4 ris4 el4 W0
        -- a web of one place put in
        refine ⟨_, rfl, _, rfl, c0, fun x5 hx5 => ⟨c2, fun x6 hx6 => ?_⟩⟩
        have q5 := Same.upd (o := .tup []) hx5
        have q6 := Same.upd (o := .tup [.int 1, .ref x5]) hx6
        have q56 := q5.trans q6
        have W0 : Web (upd (upd H20 x5 (.tup [])) x6 (.tup [.int 1, .ref x5])) x6 x5 1 [] [] := ⟨upd_same, q6 _ _ upd_same, .nil, by decide, by decide⟩
        generalize upd (upd H20 x5 (.tup [])) x6 (.tup [.int 1, .ref x5]) = H21 at q6 q56 W0
        have s21 := s20'.trans q56
        have gp2 : GoodA (m - 1 + 1) (putL m pl T 1 []) := putL_good ga1 g0 l0 lm (by decide)
        have np2 : (putL m pl T 1 []).Nodup := putL_nodup ga1 (fun q hq => (nomatch hq)) nd1' List.nodup_nil lm
        refine ⟨a1, t1, x6, x5, m, 1, pl, us1, [], T, [], rfl, W1.mono s21, W0, ga1, ⟨l0, lm⟩, by omega, by decide, by decide, by omega, Nat.le_trans (pairs_8 (by omega) (by omega) np2 gp2) (by decide), fun a5 t5 us5 T5 H22 s22 W5 pm5 ris5 el5 => ?_⟩
        have s22' := s21.trans s22
        refine ⟨a5, _, _, _, rfl, rfl, SqT.of W5.top, rfl, _, rfl, a1, _, _, _, rfl, rfl, SqT.of (W1.mono s22').top, rfl, rfl, _, rfl, ?_⟩
        rw [decide_eq_true (by rw [show m - 1 + 1 = m by omega])]
        refine iteF ?_
        clear W5 pm5 ris5 el5 W0
        -- arrows
        refine ⟨_, rfl, _, rfl, a1, t1, l1, m, us1, w1, T, rfl, W1.mono s22', ga1, m1, m4, lu1, s22' _ _ hl1, tp1.mono s22', fun H23 s23 => ⟨_, rfl, iteF ?_⟩⟩
        have s23' := s22'.trans s23
        refine ⟨_, rfl, _, rfl, a2, t2, l2, n, us2, w2, T4, rfl, W2'.mono s23', ga2, n1, n4, lu2, s23' _ _ hl2, tp2.mono s23', fun H24 s24 => ⟨_, rfl, iteF ?_⟩⟩
        exact ⟨_, _, _, _, _, _, _, _, rfl, (s23'.trans s24) _ _ hM⟩
      · rintro j x zs H13 hx hj ⟨s13, lz⟩
        obtain ⟨S, eS, c', rfl, hc'⟩ := Paired.get' (tp1.mono s13) hx
        refine ⟨_, rfl, _, rfl, c', _, rfl, .inr (SqT.of hc'), rfl, all_flat_ints _, _, rfl, ?_⟩
        rw [if_neg Bool.false_ne_true, inV_int]
        refine ite2 (fun h2 => ?_) (fun h2 => ?_)
        · refine ⟨_, rfl, nx hj ⟨s13, ?_⟩⟩
          rw [take_snoc _ _ _ eS, List.filter_append, List.filter_cons, if_pos h2, List.length_append, List.length_append, lz]
          rfl
        · refine nx hj ⟨s13, ?_⟩
          rw [take_snoc _ _ _ eS, List.filter_append, List.filter_cons, if_neg h2, List.filter_nil, List.append_nil, lz]
    · rintro σ H4 ⟨u1, u2, u3, u4, u5, u6, u7, u8, rfl, hM4⟩
      exact kk _
end
end Hk

namespace Hk
open PySem L2
structure DF (K : PySem.W.Frag) (x : Str) (st : Stmt) : Prop where
  ex : ∃ (f : Addr) (oc : Value) (od an : Option Addr) (osl : Array (Option Value)) (kV doc pm cdv ct : Value), PySem.W.nsIn K mainGlobals x = some (some (.ref f)) ∧
    K.lookup f = some ⟨oc, od, .func (PySem.W.fnOf x x (defArgs st) (defBody st) (defScope st) .none kV doc pm an cdv ct), osl⟩ ∧ PySem.W.codeIn K cdv x = true ∧ PySem.W.keepIn K (.ref f) = true
theorem DF.of {K : PySem.W.Frag} {x : Str} {st : Stmt} {f : Addr} {oc : Value} {od an : Option Addr} {osl : Array (Option Value)} {kV doc pm cdv ct : Value} (a : PySem.W.nsIn K mainGlobals x = some (some (.ref f)))
    (l : K.lookup f = some ⟨oc, od, .func (PySem.W.fnOf x x (defArgs st) (defBody st) (defScope st) .none kV doc pm an cdv ct), osl⟩) (c : PySem.W.codeIn K cdv x = true) (k : PySem.W.keepIn K (.ref f) = true) : DF K x st := ⟨⟨f, oc, od, an, osl, kV, doc, pm, cdv, ct, a, l, c, k⟩⟩
theorem DF.at {K : PySem.W.Frag} {h : Heap} {mg : Str → Option Value} {x : Str} {st : Stmt} {ps : List Str} (D : DF K x st) (X : K.In h) (G : h.Ns mainGlobals mg)
    (hb : ∀ (kV doc pm : Value) (an : Option Addr) (cdv ct : Value) (us : List Value), us.length = ps.length → bindArgs (PySem.W.fnOf x x (defArgs st) (defBody st) (defScope st) .none kV doc pm an cdv ct) ⟨us, []⟩ = pure (ps.zip us)) : DefAt K mg x st ps := by
  obtain ⟨f, oc, od, an, osl, kV, doc, pm, cdv, ct, a, l, c, k⟩ := D.ex
  exact ⟨f, _, fun_mk l c k, PySem.W.mg_of X G a, (fun_mk l c k).binds hb⟩
theorem all_mk {P : Program} {w : World} {K : PySem.W.Frag} {h : Heap} {mg : Str → Option Value} {fa : Addr} (X : K.In h) (G : h.Ns mainGlobals mg) (hfa : mg "law" = some (.ref fa))
    {tGMOST_PLACES : Tok} {tGMOST_ARROWS : Tok} (gnMOST_PLACES : PySem.W.nsIn K mainGlobals "MOST_PLACES" = some (some (.int 40 tGMOST_PLACES))) (gnMOST_ARROWS : PySem.W.nsIn K mainGlobals "MOST_ARROWS" = some (some (.int 200 tGMOST_ARROWS)))
    (d0 : DF K "whole_good" s_whole_good) (d1 : DF K "place_good" s_place_good) (d2 : DF K "rises" s_rises) (d3 : DF K "places_good" s_places_good) (d4 : DF K "bounded_web" s_bounded_web) (d5 : DF K "refuse_no_place" s_refuse_no_place) (d6 : DF K "marked" s_marked) (d8 : DF K "tied_arrows" s_tied_arrows) (d9 : DF K "lost_places" s_lost_places) (d10 : DF K "hold_good" s_hold_good) (d11 : DF K "beside_web" s_beside_web) (d12 : DF K "both_web" s_both_web) (d13 : DF K "arrows_web" s_arrows_web) (d14 : DF K "refuse_no_hold" s_refuse_no_hold) (d15 : DF K "hold_to_arrows" s_hold_to_arrows) (d16 : DF K "hold_from_arrows" s_hold_from_arrows) (d17 : DF K "stands_for" s_stands_for) (d18 : DF K "put_in" s_put_in) (d19 : DF K "_law_cell_at" s_law_cell_at) (d20 : DF K "_law_next" s_law_next) (d21 : DF K "_law_pen_of" s_law_pen_of) (d22 : DF K "_law_draw" s_law_draw) (d23 : DF K "_law_web_by" s_law_web_by) (d24 : DF K "_law_held" s_law_held) (d25 : DF K "_law_arrows_right" s_law_arrows_right) (d26 : DF K "law" s_law)
    (z0 : PySem.W.nsIn K mainGlobals "all" = some none) (z1 : PySem.W.nsIn K mainGlobals "bool" = some none) (z2 : PySem.W.nsIn K mainGlobals "dict" = some none) (z3 : PySem.W.nsIn K mainGlobals "enumerate" = some none) (z4 : PySem.W.nsIn K mainGlobals "int" = some none) (z5 : PySem.W.nsIn K mainGlobals "isinstance" = some none) (z6 : PySem.W.nsIn K mainGlobals "len" = some none) (z7 : PySem.W.nsIn K mainGlobals "list" = some none) (z8 : PySem.W.nsIn K mainGlobals "max" = some none) (z9 : PySem.W.nsIn K mainGlobals "min" = some none) (z10 : PySem.W.nsIn K mainGlobals "range" = some none) (z11 : PySem.W.nsIn K mainGlobals "set" = some none) (z12 : PySem.W.nsIn K mainGlobals "sorted" = some none) (z13 : PySem.W.nsIn K mainGlobals "tuple" = some none) (z14 : PySem.W.nsIn K mainGlobals "zip" = some none) :
    ∃ fd : FuncData, (∀ (s : Shared) (v : Value), BindsTo s fd ⟨[v], []⟩ [("script", v)]) ∧ ∀ base : Heap, K.In base → base.Ns mainGlobals mg → FnOk P w K mg base CX0 8 fa fd ["script"] (spLaw K) := by
  have D0 := d0.at (ps := ["thing"]) X G fun _ _ _ _ _ _ us hl => match us, hl with | [_], _ => rfl
  have D1 := d1.at (ps := ["web", "thing"]) X G fun _ _ _ _ _ _ us hl => match us, hl with | [_, _], _ => rfl
  have D2 := d2.at (ps := ["things"]) X G fun _ _ _ _ _ _ us hl => match us, hl with | [_], _ => rfl
  have D3 := d3.at (ps := ["web", "thing"]) X G fun _ _ _ _ _ _ us hl => match us, hl with | [_, _], _ => rfl
  have D4 := d4.at (ps := ["many", "arrows"]) X G fun _ _ _ _ _ _ us hl => match us, hl with | [_, _], _ => rfl
  have D5 := d5.at (ps := ["web", "thing"]) X G fun _ _ _ _ _ _ us hl => match us, hl with | [_, _], _ => rfl
  have D6 := d6.at (ps := ["places"]) X G fun _ _ _ _ _ _ us hl => match us, hl with | [_], _ => rfl
  have D8 := d8.at (ps := ["web", "places"]) X G fun _ _ _ _ _ _ us hl => match us, hl with | [_, _], _ => rfl
  have D9 := d9.at (ps := ["web", "places"]) X G fun _ _ _ _ _ _ us hl => match us, hl with | [_, _], _ => rfl
  have D10 := d10.at (ps := ["web", "thing"]) X G fun _ _ _ _ _ _ us hl => match us, hl with | [_, _], _ => rfl
  have D11 := d11.at (ps := ["web", "other"]) X G fun _ _ _ _ _ _ us hl => match us, hl with | [_, _], _ => rfl
  have D12 := d12.at (ps := ["web", "other"]) X G fun _ _ _ _ _ _ us hl => match us, hl with | [_, _], _ => rfl
  have D13 := d13.at (ps := ["web"]) X G fun _ _ _ _ _ _ us hl => match us, hl with | [_], _ => rfl
  have D14 := d14.at (ps := ["web", "thing"]) X G fun _ _ _ _ _ _ us hl => match us, hl with | [_, _], _ => rfl
  have D15 := d15.at (ps := ["web", "hold"]) X G fun _ _ _ _ _ _ us hl => match us, hl with | [_, _], _ => rfl
  have D16 := d16.at (ps := ["web", "hold"]) X G fun _ _ _ _ _ _ us hl => match us, hl with | [_, _], _ => rfl
  have D17 := d17.at (ps := ["web", "place", "other"]) X G fun _ _ _ _ _ _ us hl => match us, hl with | [_, _, _], _ => rfl
  have D18 := d18.at (ps := ["web", "place", "other"]) X G fun _ _ _ _ _ _ us hl => match us, hl with | [_, _, _], _ => rfl
  have D19 := d19.at (ps := ["script", "k"]) X G fun _ _ _ _ _ _ us hl => match us, hl with | [_, _], _ => rfl
  have D20 := d20.at (ps := ["seed"]) X G fun _ _ _ _ _ _ us hl => match us, hl with | [_], _ => rfl
  have D21 := d21.at (ps := ["cell"]) X G fun _ _ _ _ _ _ us hl => match us, hl with | [_], _ => rfl
  have D22 := d22.at (ps := ["pen", "many"]) X G fun _ _ _ _ _ _ us hl => match us, hl with | [_, _], _ => rfl
  have D23 := d23.at (ps := ["pen", "most"]) X G fun _ _ _ _ _ _ us hl => match us, hl with | [_, _], _ => rfl
  have D24 := d24.at (ps := ["web"]) X G fun _ _ _ _ _ _ us hl => match us, hl with | [_], _ => rfl
  have D25 := d25.at (ps := ["web", "holds"]) X G fun _ _ _ _ _ _ us hl => match us, hl with | [_, _], _ => rfl
  obtain ⟨f, oc, od, an, osl, kV, doc, pm, cdv, ct, a, l, c, k⟩ := d26.ex
  have e := hfa.symm.trans (PySem.W.mg_of X G a)
  cases e
  have F := fun_mk (st := s_law) l c k
  have y0 := PySem.W.mg_none_of X G z0
  have y1 := PySem.W.mg_none_of X G z1
  have y2 := PySem.W.mg_none_of X G z2
  have y3 := PySem.W.mg_none_of X G z3
  have y4 := PySem.W.mg_none_of X G z4
  have y5 := PySem.W.mg_none_of X G z5
  have y6 := PySem.W.mg_none_of X G z6
  have y7 := PySem.W.mg_none_of X G z7
  have y8 := PySem.W.mg_none_of X G z8
  have y9 := PySem.W.mg_none_of X G z9
  have y10 := PySem.W.mg_none_of X G z10
  have y11 := PySem.W.mg_none_of X G z11
  have y12 := PySem.W.mg_none_of X G z12
  have y13 := PySem.W.mg_none_of X G z13
  have y14 := PySem.W.mg_none_of X G z14
  have G_MOST_PLACES : GlobI mg "MOST_PLACES" 40 := ⟨⟨_, PySem.W.mg_of X G gnMOST_PLACES⟩⟩
  have G_MOST_ARROWS : GlobI mg "MOST_ARROWS" 200 := ⟨⟨_, PySem.W.mg_of X G gnMOST_ARROWS⟩⟩
  refine ⟨PySem.W.fnOf "law" "law" (defArgs s_law) (defBody s_law) (defScope s_law) .none kV doc pm an cdv ct, fun s v => .of_eq rfl, fun base _ _ => ?_⟩
  have K0 := kn_whole (P := P) (w := w) (base := base) D0 (fun z hz => by
      simp only [List.mem_cons, List.not_mem_nil, or_false] at hz
      rcases hz with rfl | rfl | rfl
      · exact y5
      · exact y4
      · exact y1) 
  have K1 := kn_place (P := P) (w := w) (base := base) D1  K0
  have K2 := kn_rises (P := P) (w := w) (base := base) D2 (fun z hz => by
      simp only [List.mem_cons, List.not_mem_nil, or_false] at hz
      rcases hz with rfl | rfl
      · exact y0
      · exact y14) 
  have K3 := kn_places (P := P) (w := w) (base := base) D3 (fun z hz => by
      simp only [List.mem_cons, List.not_mem_nil, or_false] at hz
      rcases hz with rfl | rfl | rfl
      · exact y5
      · exact y13
      · exact y0) K1 K2
  have K4 := kn_bw0 (P := P) (w := w) (base := base) D4 (fun z hz => by
      simp only [List.mem_cons, List.not_mem_nil, or_false] at hz
      rcases hz with rfl | rfl | rfl
      · exact y6
      · exact y13
      · exact y12) G_MOST_PLACES G_MOST_ARROWS
  have K5 := kn_rp0 (P := P) (w := w) (base := base) D5  K1
  have K6 := kn_marked (P := P) (w := w) (base := base) D6  
  have K7 := kn_markedL (P := P) (w := w) (base := base) D6  
  have K8 := kn_tied (P := P) (w := w) (base := base) D8  K6
  have K9 := kn_lost (P := P) (w := w) (base := base) D9 (fun z hz => by
      simp only [List.mem_cons, List.not_mem_nil, or_false] at hz
      rcases hz with rfl | rfl
      · exact y2
      · exact y10) K6
  have K10 := kn_hold (P := P) (w := w) (base := base) D10  K3 K8 K9
  have K11 := kn_beside (P := P) (w := w) (base := base) D11 (fun z hz => by
      simp only [List.mem_cons, List.not_mem_nil, or_false] at hz
      rcases hz with rfl
      · exact y7) K4
  have K12 := kn_both (P := P) (w := w) (base := base) D12 (fun z hz => by
      simp only [List.mem_cons, List.not_mem_nil, or_false] at hz
      rcases hz with rfl
      · exact y10) K4
  have K13 := kn_aw0 (P := P) (w := w) (base := base) D13 (fun z hz => by
      simp only [List.mem_cons, List.not_mem_nil, or_false] at hz
      rcases hz with rfl | rfl
      · exact y3
      · exact y6) K4
  have K14 := kn_refH0 (P := P) (w := w) (base := base) D14  K10
  have K15 := kn_hta0 (P := P) (w := w) (base := base) D15 (fun z hz => by
      simp only [List.mem_cons, List.not_mem_nil, or_false] at hz
      rcases hz with rfl | rfl
      · exact y3
      · exact y13) K13 K14
  have K16 := kn_hfa0 (P := P) (w := w) (base := base) D16 (fun z hz => by
      simp only [List.mem_cons, List.not_mem_nil, or_false] at hz
      rcases hz with rfl | rfl
      · exact y10
      · exact y13) K13 K14 K7
  have K17 := kn_st (P := P) (w := w) (base := base) D17 (fun z hz => by
      simp only [List.mem_cons, List.not_mem_nil, or_false] at hz
      rcases hz with rfl
      · exact y10) 
  have K18 := kn_put0 (P := P) (w := w) (base := base) D18  K5 K17 K4
  have K19 := kn_cell (P := P) (w := w) (base := base) D19 (fun z hz => by
      simp only [List.mem_cons, List.not_mem_nil, or_false] at hz
      rcases hz with rfl
      · exact y6) 
  have K20 := kn_next (P := P) (w := w) (base := base) D20  
  have K21 := kn_pen (P := P) (w := w) (base := base) D21 (fun z hz => by
      simp only [List.mem_cons, List.not_mem_nil, or_false] at hz
      rcases hz with rfl | rfl
      · exact y8
      · exact y4) 
  have K22 := kn_draw (P := P) (w := w) (base := base) D22  K20
  have K23 := kn_webby2S (P := P) (w := w) (base := base) D23 (fun z hz => by
      simp only [List.mem_cons, List.not_mem_nil, or_false] at hz
      rcases hz with rfl | rfl | rfl | rfl | rfl | rfl
      · exact y10
      · exact y13
      · exact y12
      · exact y7
      · exact y9
      · exact y8) K22
  have K24 := kn_allholds (P := P) (w := w) (base := base) D24 (fun z hz => by
      simp only [List.mem_cons, List.not_mem_nil, or_false] at hz
      rcases hz with rfl | rfl
      · exact y10
      · exact y13) K10
  have K25 := kn_ar (P := P) (w := w) (base := base) D25 (fun z hz => by
      simp only [List.mem_cons, List.not_mem_nil, or_false] at hz
      rcases hz with rfl | rfl | rfl
      · exact y6
      · exact y11
      · exact y12) K24 K13 K15 K16
  exact ok_law F (fun z hz => by
      simp only [List.mem_cons, List.not_mem_nil, or_false] at hz
      rcases hz with rfl
      · exact y6) K19 K21 K23 K22 K24 K11 K18 K12 K25
theorem walk {l : PySem.W.OpenLaw} {q : Program} {loose : List Str} {XP : (Str → Option Value) → Heap → Prop} {YP : World → Heap → Prop} {d : DefRec} {K : Params → PySem.W.Frag} (hn : l.most = some 63) (hdf : d.params.defaults = [])
    (hY : ∀ (w : World) (h : Heap), YP w h → (K w.params).In h)
    (F : ∀ (w : World) (mg : Str → Option Value) (fa : Addr) (h : Heap), (K w.params).In h → h.Ns mainGlobals mg → mg d.name = some (.ref fa) →
      ∃ fd : FuncData, (∀ (s : Shared) (u : Value), BindsTo s fd ⟨[u], []⟩ [("script", u)]) ∧ ∀ base : Heap, (K w.params).In base → base.Ns mainGlobals mg → FnOk l.prog w (K w.params) mg base CX0 8 fa fd ["script"] (spLaw (K w.params))) :
    PySem.W.WalkO q loose XP YP l.row.toRowW d [] (fun f vs => PySem.call f vs) :=
  L2.walk_of (n := 63) (k := 8) (x := "script") (CX := fun _ => CX0) (sp := fun w => spLaw (K w.params)) hn (by decide) hdf ⟨rfl, by decide, by decide, rfl⟩ hY F (fun _ _ a ns hl _ hS => ⟨a, ns, rfl, hS, hl, fun _ => rfl⟩) fun _ _ _ _ _ z => z
end Hk
open PySem PySem.W PyProof.Rows
set_option maxRecDepth 100000 in
set_option maxHeartbeats 0 in
theorem PySem.Challenge.cw_holdsets_k66_whole_holds_counted_togethe_holds : PySem.Challenge.rw_holdsets_k66_whole_holds_counted_togethe.Holds := by
  w_on; o_law; k_head; (case hw => w_witness2)
  k_fill
  refine Hk.walk (l := PySem.Challenge.rw_holdsets_k66_whole_holds_counted_togethe) rfl rfl (fun w h Y => PySem.W.kIn_of Y) ?F
  case F =>
    intro w mg fa h KX G hmg
    refine' Hk.all_mk KX G hmg ?gnMOST_PLACES ?gnMOST_ARROWS ?d0 ?d1 ?d2 ?d3 ?d4 ?d5 ?d6 ?d8 ?d9 ?d10 ?d11 ?d12 ?d13 ?d14 ?d15 ?d16 ?d17 ?d18 ?d19 ?d20 ?d21 ?d22 ?d23 ?d24 ?d25 ?d26 ?z0 ?z1 ?z2 ?z3 ?z4 ?z5 ?z6 ?z7 ?z8 ?z9 ?z10 ?z11 ?z12 ?z13 ?z14
    (case gnMOST_PLACES => k_is)
    (case gnMOST_ARROWS => k_is)
    (case d0 => refine' Hk.DF.of ?a ?l ?c ?k; (case a => k_is); (case l => k_is); (case c => k_is); (case k => k_is))
    (case d1 => refine' Hk.DF.of ?a ?l ?c ?k; (case a => k_is); (case l => k_is); (case c => k_is); (case k => k_is))
    (case d2 => refine' Hk.DF.of ?a ?l ?c ?k; (case a => k_is); (case l => k_is); (case c => k_is); (case k => k_is))
    (case d3 => refine' Hk.DF.of ?a ?l ?c ?k; (case a => k_is); (case l => k_is); (case c => k_is); (case k => k_is))
    (case d4 => refine' Hk.DF.of ?a ?l ?c ?k; (case a => k_is); (case l => k_is); (case c => k_is); (case k => k_is))
    (case d5 => refine' Hk.DF.of ?a ?l ?c ?k; (case a => k_is); (case l => k_is); (case c => k_is); (case k => k_is))
    (case d6 => refine' Hk.DF.of ?a ?l ?c ?k; (case a => k_is); (case l => k_is); (case c => k_is); (case k => k_is))
    (case d8 => refine' Hk.DF.of ?a ?l ?c ?k; (case a => k_is); (case l => k_is); (case c => k_is); (case k => k_is))
    (case d9 => refine' Hk.DF.of ?a ?l ?c ?k; (case a => k_is); (case l => k_is); (case c => k_is); (case k => k_is))
    (case d10 => refine' Hk.DF.of ?a ?l ?c ?k; (case a => k_is); (case l => k_is); (case c => k_is); (case k => k_is))
    (case d11 => refine' Hk.DF.of ?a ?l ?c ?k; (case a => k_is); (case l => k_is); (case c => k_is); (case k => k_is))
    (case d12 => refine' Hk.DF.of ?a ?l ?c ?k; (case a => k_is); (case l => k_is); (case c => k_is); (case k => k_is))
    (case d13 => refine' Hk.DF.of ?a ?l ?c ?k; (case a => k_is); (case l => k_is); (case c => k_is); (case k => k_is))
    (case d14 => refine' Hk.DF.of ?a ?l ?c ?k; (case a => k_is); (case l => k_is); (case c => k_is); (case k => k_is))
    (case d15 => refine' Hk.DF.of ?a ?l ?c ?k; (case a => k_is); (case l => k_is); (case c => k_is); (case k => k_is))
    (case d16 => refine' Hk.DF.of ?a ?l ?c ?k; (case a => k_is); (case l => k_is); (case c => k_is); (case k => k_is))
    (case d17 => refine' Hk.DF.of ?a ?l ?c ?k; (case a => k_is); (case l => k_is); (case c => k_is); (case k => k_is))
    (case d18 => refine' Hk.DF.of ?a ?l ?c ?k; (case a => k_is); (case l => k_is); (case c => k_is); (case k => k_is))
    (case d19 => refine' Hk.DF.of ?a ?l ?c ?k; (case a => k_is); (case l => k_is); (case c => k_is); (case k => k_is))
    (case d20 => refine' Hk.DF.of ?a ?l ?c ?k; (case a => k_is); (case l => k_is); (case c => k_is); (case k => k_is))
    (case d21 => refine' Hk.DF.of ?a ?l ?c ?k; (case a => k_is); (case l => k_is); (case c => k_is); (case k => k_is))
    (case d22 => refine' Hk.DF.of ?a ?l ?c ?k; (case a => k_is); (case l => k_is); (case c => k_is); (case k => k_is))
    (case d23 => refine' Hk.DF.of ?a ?l ?c ?k; (case a => k_is); (case l => k_is); (case c => k_is); (case k => k_is))
    (case d24 => refine' Hk.DF.of ?a ?l ?c ?k; (case a => k_is); (case l => k_is); (case c => k_is); (case k => k_is))
    (case d25 => refine' Hk.DF.of ?a ?l ?c ?k; (case a => k_is); (case l => k_is); (case c => k_is); (case k => k_is))
    (case d26 => refine' Hk.DF.of ?a ?l ?c ?k; (case a => k_is); (case l => k_is); (case c => k_is); (case k => k_is))
    (case z0 => k_is)
    (case z1 => k_is)
    (case z2 => k_is)
    (case z3 => k_is)
    (case z4 => k_is)
    (case z5 => k_is)
    (case z6 => k_is)
    (case z7 => k_is)
    (case z8 => k_is)
    (case z9 => k_is)
    (case z10 => k_is)
    (case z11 => k_is)
    (case z12 => k_is)
    (case z13 => k_is)
    (case z14 => k_is)


