import PyProof.Rows.All
import Wide.All
import OpenK.AllK
import Wide.FinOn
import Lean
import PyProof.EqAt
import PyProof.EqKinds
import PyProof.TupleCall
import PySem.Challenge.RW_holdsets_k71_texts_that_write_none
import PyProof.NeKinds
import KE.KSortTup
import KE.KDictSum
import PyProof.Draws
import PyProof.EnumFor
import PyProof.EnumMake
import PyProof.ListRange
import PyProof.TupleOfStr
import OpenK.KMake
import OpenK.KOwn
import OpenK.KRaise
import OpenK.KMore
import KE.KTryMore
import KE.KTryOn
import PyProof.NsDelKeeps
import PyProof.Rows.SumAny
import KE.BitLaws
import KE.KMinKey
import PyProof.Rows.CallKwBuiltin
import PyProof.WalksMore
import PyProof.Rows.TupIter
import PyProof.RangeFor
import PyProof.Rows.SeqRoads
import PyProof.Rows.SeqRange
import PyProof.Rows.FStr
import PyProof.DictWalks
import PyProof.Rows.Range3
import PyProof.Rows.TupIn
import PyProof.ReprRoads
import PyProof.ReprLen
import PyProof.FitsInt
import PyProof.AttrMissHeap
import PyProof.AttrMiss
import PyProof.DictUpdate
import PyProof.CollectWalk
import KE.KDictOf
import PyProof.Walks
import PyProof.WalksS
import KE.KIntText
import PyProof.StrLawsTight
import PyProof.ToksMono
import PyProof.StrCalls6
import PyProof.StrOps2
set_option Elab.async false
set_option linter.all false
set_option maxRecDepth 100000
set_option maxHeartbeats 4000000
/-! ### no twins of the greatest written values: they are not needed, and the compiled text stays small -/
def PySem.W.Fast.tw13593619000414144322 : Unit := ()
def PySem.W.Fast.tw6653056499485810753 : Unit := ()
def PySem.W.Fast.tw7895816885783873591 : Unit := ()
def PySem.W.Fast.tw11191766992676082648 : Unit := ()
def PySem.W.Fast.tw7549859263802170812 : Unit := ()
def PySem.W.Fast.tw12986577429345462638 : Unit := ()
def PySem.W.Fast.tw13939266729328273876 : Unit := ()
def PySem.W.Fast.tw14421101452697359478 : Unit := ()
def PySem.W.Fast.tw5569520817376470724 : Unit := ()
def PySem.W.Fast.tw14109914752084469784 : Unit := ()
def PySem.W.Fast.tw7696101049248273785 : Unit := ()
def PySem.W.Fast.tw12213305645772188904 : Unit := ()
def PySem.W.Fast.tw17862807277924032555 : Unit := ()
def PySem.W.Fast.tw2698366447588198041 : Unit := ()
def PySem.W.Fast.tw4761798406777872009 : Unit := ()
def PySem.W.Fast.tw5417469963338660334 : Unit := ()
def PySem.W.Fast.tw11110694224675692539 : Unit := ()
def PySem.W.Fast.tw15272616247176475169 : Unit := ()
def PySem.W.Fast.tw10687100486427211114 : Unit := ()
def PySem.W.Fast.tw10770258834286417701 : Unit := ()
def PySem.W.Fast.tw11947784093439257908 : Unit := ()
def PySem.W.Fast.tw12047451840244112842 : Unit := ()
def PySem.W.Fast.tw8958870694922223230 : Unit := ()
def PySem.W.Fast.tw4141775396384552096 : Unit := ()
def PySem.W.Fast.tw4717447233225446939 : Unit := ()
def PySem.W.Fast.tw16543805369196851224 : Unit := ()
def PySem.W.Fast.tw3524803872292907661 : Unit := ()
def PySem.W.Fast.tw11392043596585627622 : Unit := ()
def PySem.W.Fast.tw2133996674031057064 : Unit := ()
def PySem.W.Fast.tw7266225203258278043 : Unit := ()
def PySem.W.Fast.tw8214052609897725545 : Unit := ()
def PySem.W.Fast.tw3034056175045879724 : Unit := ()
def PySem.W.Fast.tw5241963140431759039 : Unit := ()
def PySem.W.Fast.tw6346026452148607250 : Unit := ()
def PySem.W.Fast.tw4789707560639918492 : Unit := ()
def PySem.W.Fast.tw14253409773454718488 : Unit := ()
def PySem.W.Fast.tw5314678792095096763 : Unit := ()
def PySem.W.Fast.tw15812596944798124460 : Unit := ()
def PySem.W.Fast.tw7665443204770333998 : Unit := ()
def PySem.W.Fast.tw7484417411833268912 : Unit := ()
def PySem.W.Fast.tw17864709078450136627 : Unit := ()
def PySem.W.Fast.tw3712189405359130837 : Unit := ()
def PySem.W.Fast.tw8981622470967986729 : Unit := ()
def PySem.W.Fast.tw6380813332393092217 : Unit := ()
def PySem.W.Fast.tw16242526908090724162 : Unit := ()
def PySem.W.Fast.tw2505110811145767098 : Unit := ()
def PySem.W.Fast.tw2138164035341689036 : Unit := ()
def PySem.W.Fast.tw6296814642565797715 : Unit := ()
def PySem.W.Fast.tw15287210999859059798 : Unit := ()
def PySem.W.Fast.tw6852140307809668222 : Unit := ()
def PySem.W.Fast.tw9935735805643231818 : Unit := ()
def PySem.W.Fast.tw16040732339227413822 : Unit := ()
def PySem.W.Fast.tw905769530376951661 : Unit := ()
def PySem.W.Fast.tw4447351479317310605 : Unit := ()
def PySem.W.Fast.tw14135368678308176004 : Unit := ()
def PySem.W.Fast.tw8662606131823173101 : Unit := ()
def PySem.W.Fast.tw7347197468824775700 : Unit := ()
def PySem.W.Fast.tw1961539470817911621 : Unit := ()
def PySem.W.Fast.tw2111300067898938075 : Unit := ()
def PySem.W.Fast.tw5351990109146089678 : Unit := ()
def PySem.W.Fast.tw4066209405665839035 : Unit := ()
def PySem.W.Fast.tw14865328357267549742 : Unit := ()
def PySem.W.Fast.tw17558687412787819093 : Unit := ()
def PySem.W.Fast.tw5301224667014711871 : Unit := ()
def PySem.W.Fast.tw13777323077956223933 : Unit := ()
def PySem.W.Fast.tw6211529620423413533 : Unit := ()
def PySem.W.Fast.tw6941885959793625224 : Unit := ()
def PySem.W.Fast.tw2739792020231002142 : Unit := ()
def PySem.W.Fast.tw10632555083188590986 : Unit := ()
def PySem.W.Fast.tw9154103673763112862 : Unit := ()
def PySem.W.Fast.tw1375024178925648828 : Unit := ()
def PySem.W.Fast.tw8583740041752074394 : Unit := ()
def PySem.W.Fast.tw8688440979993646186 : Unit := ()
def PySem.W.Fast.tw8892213867898099830 : Unit := ()
def PySem.W.Fast.tw16048386676212994392 : Unit := ()
def PySem.W.Fast.tw2986913423370272882 : Unit := ()
def PySem.W.Fast.tw3846601252413478867 : Unit := ()
def PySem.W.Fast.tw11883714514582425166 : Unit := ()
def PySem.W.Fast.tw10266941774580001788 : Unit := ()
def PySem.W.Fast.tw10467541923247126242 : Unit := ()

namespace L2
open PySem PySem.Spec PyProof.Rows

abbrev Key := Sum Int Str
def keyIs : Key → Value → Bool
  | .inl k, v => Value.isInt k v
  | .inr x, v => Value.isStrOf x v
def keyH (w : World) : Key → Int
  | .inl k => hashInt k
  | .inr x => hashStr w x
theorem keyIs_shape : ∀ {k : Key} {v : Value}, keyIs k v = true → (∃ i t, k = Sum.inl i ∧ v = Value.int i t) ∨ (∃ x t, k = Sum.inr x ∧ v = Value.str x t)
  | .inl i, v, h => by
    obtain ⟨t, e⟩ := Value.isInt_shape (k := i) (v := v) h
    exact .inl ⟨i, t, rfl, e⟩
  | .inr x, v, h => by
    obtain ⟨t, e⟩ := Value.isStrOf_shape (x := x) (v := v) h
    exact .inr ⟨x, t, rfl, e⟩
theorem keyIs_int (i : Int) (t : Tok) : keyIs (.inl i) (.int i t) = true := by simp [keyIs, Value.isInt]
theorem keyIs_str (x : Str) (t : Tok) : keyIs (.inr x) (.str x t) = true := by simp [keyIs, Value.isStrOf]
theorem key_ll (a b : Int) : decide ((Sum.inl a : Key) = Sum.inl b) = (a == b) := by
  by_cases e : a = b
  · subst e; simp
  · have h : ¬ (Sum.inl a : Key) = Sum.inl b := fun q => e (Sum.inl.inj q)
    rw [decide_eq_false h]
    exact (beq_eq_false_iff_ne.mpr e).symm
theorem key_rr (a b : Str) : decide ((Sum.inr a : Key) = Sum.inr b) = decide (a = b) := by
  by_cases e : a = b
  · subst e; simp
  · have h : ¬ (Sum.inr a : Key) = Sum.inr b := fun q => e (Sum.inr.inj q)
    rw [decide_eq_false h, decide_eq_false e]
theorem key_lr (a : Int) (b : Str) : decide ((Sum.inl a : Key) = Sum.inr b) = false := decide_eq_false (fun q => nomatch q)
theorem key_rl (a : Str) (b : Int) : decide ((Sum.inr a : Key) = Sum.inl b) = false := decide_eq_false (fun q => nomatch q)

def mixKind (prog : Program) (w : World) : PySem.KeyKind prog w Key where
  is := keyIs
  hash := keyH w
  inj := fun v a b ha hb => by
    rcases keyIs_shape ha with ⟨i, t, rfl, rfl⟩ | ⟨x, t, rfl, rfl⟩
    · rcases keyIs_shape hb with ⟨j, u, rfl, e⟩ | ⟨y, u, rfl, e⟩
      · injection e with e1 _; rw [e1]
      · exact nomatch e
    · rcases keyIs_shape hb with ⟨j, u, rfl, e⟩ | ⟨y, u, rfl, e⟩
      · exact nomatch e
      · injection e with e1 _; rw [e1]
  byValue := fun k v h => by
    rcases keyIs_shape h with ⟨i, t, rfl, rfl⟩ | ⟨x, t, rfl, rfl⟩ <;> rfl
  pyHash := fun hv h => by
    rcases keyIs_shape hv with ⟨i, t, rfl, rfl⟩ | ⟨x, t, rfl, rfl⟩
    · exact wpAny_pyHash_int h
    · exact wpAny_pyHash_str h
  eqBool := fun hu hv h => by
    rcases keyIs_shape hu with ⟨i, t, rfl, rfl⟩ | ⟨x, t, rfl, rfl⟩
    · rcases keyIs_shape hv with ⟨j, u, rfl, rfl⟩ | ⟨y, u, rfl, rfl⟩
      · rw [key_ll] at h; exact wpAny_eqBool_int h
      · rw [key_lr] at h; exact SeqAt.EqAt.int_str i t y u _ _ _ _ h
    · rcases keyIs_shape hv with ⟨j, u, rfl, rfl⟩ | ⟨y, u, rfl, rfl⟩
      · rw [key_rl] at h; exact SeqAt.EqAt.str_int x t j u _ _ _ _ h
      · rw [key_rr] at h; exact wpAny_eqBool_str h
  «strs» := fun k x t v h => by
    rcases keyIs_shape h with ⟨i, u, rfl, e⟩ | ⟨y, u, rfl, e⟩
    · exact nomatch e
    · injection e with e1 _
      subst e1
      cases v <;> rfl

theorem mixKind_int (prog : Program) (w : World) (i : Int) (t : Tok) : (mixKind prog w).is (.inl i) (.int i t) = true := keyIs_int i t
theorem mixKind_str (prog : Program) (w : World) (x : Str) (t : Tok) : (mixKind prog w).is (.inr x) (.str x t) = true := keyIs_str x t
end L2

namespace L2
open PySem PySem.Spec PyProof.Rows

inductive V where
  | non | bl (b : Bool) | int (i : Int) | str (x : Str) | byt (b : Array UInt8) | flt (b : UInt64) | ref (a : Addr) | ty (n : String)
  deriving DecidableEq

def RelV : V → Value → Prop
  | .non, u => u = Value.none
  | .bl b, u => u = Value.bool b
  | .int i, u => ∃ t, u = Value.int i t
  | .str x, u => ∃ t, u = Value.str x t
  | .byt b, u => ∃ t, u = Value.bytes b t
  | .flt b, u => ∃ t, u = Value.float b t
  | .ref a, u => u = Value.ref a
  | .ty n, u => u = Value.type n

abbrev Vals : List V → List Value → Prop := Paired RelV
theorem Vals.length {xs : List V} {us : List Value} (r : Vals xs us) : xs.length = us.length := Paired.length r
theorem Vals.get : ∀ {xs : List V} {us : List Value} {i : Nat} {x : V}, Vals xs us → xs[i]? = some x → ∃ u, us[i]? = some u ∧ RelV x u
  | _, _, _, _, .nil, e => by simp at e
  | _, _, 0, _, .cons r _, e => by simp at e; subst e; exact ⟨_, rfl, r⟩
  | _, _, i + 1, x, .cons _ t, e => by
    obtain ⟨u, h1, h2⟩ := Vals.get (i := i) (x := x) t (by simpa using e)
    exact ⟨u, by simpa using h1, h2⟩
theorem Vals.set {x : V} {u : Value} (r : RelV x u) : ∀ {xs : List V} {us : List Value} (i : Nat), Vals xs us → Vals (xs.set i x) (us.set i u)
  | _, _, _, .nil => .nil
  | _, _, 0, .cons _ t => .cons r t
  | _, _, i + 1, .cons q t => .cons q (Vals.set r i t)
theorem Vals.append : ∀ {xs ys : List V} {us ws : List Value}, Vals xs us → Vals ys ws → Vals (xs ++ ys) (us ++ ws)
  | _, _, _, _, .nil, s => s
  | _, _, _, _, .cons r t, s => .cons r (Vals.append t s)
theorem Vals.take : ∀ {xs : List V} {us : List Value} (n : Nat), Vals xs us → Vals (xs.take n) (us.take n)
  | _, _, 0, _ => .nil
  | _, _, _ + 1, .nil => .nil
  | _, _, n + 1, .cons r t => .cons r (Vals.take n t)
theorem Vals.drop : ∀ {xs : List V} {us : List Value} (n : Nat), Vals xs us → Vals (xs.drop n) (us.drop n)
  | _, _, 0, r => r
  | _, _, _ + 1, .nil => .nil
  | _, _, n + 1, .cons _ t => Vals.drop n t
def RelO : Option V → Option Value → Prop
  | some v, some u => RelV v u
  | none, none => True
  | _, _ => False
def KV {κ : Type} : List (κ × V) → List (κ × Value) → Prop := Paired fun (p : κ × V) (q : κ × Value) => p.1 = q.1 ∧ RelV p.2 q.2

def kV : Key → V
  | .inl i => .int i
  | .inr x => .str x

inductive HO where
  /-- a list -/
  | lst (xs : List V)
  /-- a tuple (never changes) -/
  | tup (xs : List V)
  /-- a dict whose keys are ints and texts; one whose keys are tuples of ints and texts (the empty one is both) -/
  | dK (kvs : List (Key × V)) | dT (kvs : List (List Key × V))
  /-- a set of ints: its members, its size -/
  | set (S : Int → Bool) (n : Nat)
  /-- an instance of the class at C, its dict at dx, its attributes -/
  | ins (C dx : Addr) (fs : List (Str × V))
  /-- the dict of the instance at x -/
  | own (x : Addr)
  /-- the dict of an exception -/
  | xd (fs : List (Str × V))
  /-- a bound method, f of x -/
  | met (f x : Addr)
  /-- a range object lo, lo + 1, .. below hi -/
  | rng (lo hi : Int)
  /-- a thing that is known to the object (the script; a dict while a loop walks it): read, never written while it is so -/
  | frz (o : Obj) (u : HO)
  /-- a code object's table -/
  | tbl (ps : Array Value)
  /-- any other thing, by what is true of its one object (a def of one's own: SetO a S n := HO.ext fun h => ..) -/
  | ext (φ : Heap → Prop)

abbrev Hp := Addr → Option HO
def upd (H : Hp) (a : Addr) (o : HO) : Hp := fun b => if b = a then some o else H b
theorem upd_same {H : Hp} {a : Addr} {o : HO} : upd H a o a = some o := by unfold upd; rw [if_pos rfl]
theorem upd_ne {H : Hp} {a b : Addr} {o : HO} (h : b ≠ a) : upd H a o b = H b := by unfold upd; rw [if_neg h]
theorem ne_of {H : Hp} {a b : Addr} {o u : HO} (h : H a = some o) (h' : H b = some u) (d : o ≠ u) : a ≠ b := by
  intro e; subst e; rw [h] at h'; exact d (Option.some.inj h')
theorem ne_of_none {H : Hp} {a b : Addr} {o : HO} (h : H a = some o) (h' : H b = none) : a ≠ b := by
  intro e; subst e; rw [h] at h'; cases h'

section
variable (P : Program) (w : World)
def ObjOk (H : Hp) (h : Heap) (a : Addr) : HO → Prop
  | .lst xs => xs.length ≤ sizeLine ∧ ∃ (its : List Value) (n : Nat), Vals xs its ∧ h.get? a = some { cls := .type "list", data := .seq its.toArray n }
  | .tup xs => xs.length ≤ sizeLine ∧ ∃ its : List Value, Vals xs its ∧ IsTup h a its.toArray
  | .dK kvs => kvs.length ≤ sizeLine ∧ (a == sysModules) = false ∧ ∃ vs, KV kvs vs ∧ h.DictOf (mixKind P w) a vs
  | .dT kvs => kvs.length ≤ sizeLine ∧ (a == sysModules) = false ∧ ∃ xs : List (List Key × Addr × Value),
      Paired (fun (p : List Key × V) (q : List Key × Addr × Value) => p.1 = q.1 ∧ H q.2.1 = some (.tup (p.1.map kV)) ∧ RelV p.2 q.2.2) kvs xs ∧
      ∃ o es ep, h.get? a = some o ∧ o.ExactDict ∧ o.data = .dict es ep ∧ es.toList = xs.map (entryOfKey (tupleKind (mixKind P w))) ∧ (xs.map (·.1)).Nodup
  | .set S n => h.SetOf (intKind P w) a S n
  | .ins C dx fs => H dx = some (.own a) ∧ fs.length ≤ 1000 ∧ dx ≠ a ∧ h.get? a = some (PySem.W.instObj C dx) ∧
      ∃ mA, h.Ns1 dx mA ∧ (∀ f, RelO (fs.lookup f) (mA f)) ∧ PySem.Within mA (fs.map (·.1))
  | .own _ => ∃ o, h.get? a = some o
  | .xd fs => ∃ mA, h.Ns1 a mA ∧ ∀ f, RelO (fs.lookup f) (mA f)
  | .rng lo hi => ∃ t u v, h.get? a = some { cls := .type "range", data := .fields #[.int lo t, .int hi u, .int 1 v] }
  | .frz o u => h.get? a = some o ∧ ObjOk H h a u
  | .tbl ps => h.get? a = some { cls := .none, data := .fields ps }
  | .met f x => h.get? a = some (PySem.W.methodObj (.ref f) (.ref x))
  | .ext φ => φ h ∧ (∃ o, h.get? a = some o) ∧ ∀ h1 h2 : Heap, φ h1 → (∀ o, h1.get? a = some o → h2.get? a = some o) → φ h2
def HOk (H : Hp) (h : Heap) : Prop := ∀ a o, H a = some o → ObjOk P w H h a o
end

section
variable {P : Program} {w : World} {H H' : Hp} {h h' : Heap} {a : Addr} {o : HO}
theorem ObjOk.lt (x : ObjOk P w H h a o) : a < h.objs.size := by
  cases o with
  | lst xs => obtain ⟨_, _, _, _, e⟩ := x; exact Heap.lt_size e
  | tup xs => obtain ⟨_, _, _, p⟩ := x; exact p.lt
  | dK kvs => obtain ⟨_, _, _, _, o, _, _, e, _⟩ := x; exact Heap.lt_size e
  | dT kvs => obtain ⟨_, _, _, _, o, _, _, e, _⟩ := x; exact Heap.lt_size e
  | set S n => obtain ⟨o, _, _, _, e, _⟩ := x; exact Heap.lt_size e
  | ins C dx fs => obtain ⟨_, _, _, e, _⟩ := x; exact Heap.lt_size e
  | own y => obtain ⟨_, e⟩ := x; exact Heap.lt_size e
  | xd fs => obtain ⟨_, ⟨_, _, _, e, _⟩, _⟩ := x; exact Heap.lt_size e
  | rng lo hi => obtain ⟨_, _, _, e⟩ := x; exact Heap.lt_size e
  | frz ob u => obtain ⟨e, _⟩ := x; exact Heap.lt_size e
  | tbl ps => exact Heap.lt_size (show h.get? a = some _ from x)
  | met f y => exact Heap.lt_size (show h.get? a = some _ from x)
  | ext φ => obtain ⟨_, ⟨_, e⟩, _⟩ := x; exact Heap.lt_size e
theorem Paired.mapP {α β : Type} {F G : α → β → Prop} : ∀ {l₁ : List α} {l₂ : List β}, Paired F l₁ l₂ → (∀ a b, F a b → G a b) → Paired G l₁ l₂
  | _, _, .nil, _ => .nil
  | _, _, .cons r t, f => .cons (f _ _ r) (Paired.mapP t f)
theorem ObjOk.stay (x : ObjOk P w H h a o) (k : ∀ b u, (b = a ∨ H b = some (.own a)) → h.get? b = some u → h'.get? b = some u)
    (ho : ∀ b, H b = some (.own a) → H' b = some (.own a)) (ht : ∀ b xs, H b = some (.tup xs) → H' b = some (.tup xs)) : ObjOk P w H' h' a o := by
  induction o with
  | lst xs => obtain ⟨z, its, n, r, e⟩ := x; exact ⟨z, its, n, r, k _ _ (.inl rfl) e⟩
  | tup xs => obtain ⟨z, its, r, ob, e, c⟩ := x; exact ⟨z, its, r, ob, k _ _ (.inl rfl) e, c⟩
  | dK kvs => obtain ⟨z, y, vs, r, ob, es, ep, e, c⟩ := x; exact ⟨z, y, vs, r, ob, es, ep, k _ _ (.inl rfl) e, c⟩
  | dT kvs =>
    obtain ⟨z, y, xs, r, ob, es, ep, e, c⟩ := x
    exact ⟨z, y, xs, Paired.mapP r fun p q z => ⟨z.1, ht _ _ z.2.1, z.2.2⟩, ob, es, ep, k _ _ (.inl rfl) e, c⟩
  | set S n => obtain ⟨ob, es, ep, t, e, c⟩ := x; exact ⟨ob, es, ep, t, k _ _ (.inl rfl) e, c⟩
  | ins C dx fs =>
    obtain ⟨d, z, ne, e, mA, ⟨od, es, ep, e2, c⟩, r⟩ := x
    exact ⟨ho _ d, z, ne, k _ _ (.inl rfl) e, mA, ⟨od, es, ep, k _ _ (.inr d) e2, c⟩, r⟩
  | own y => obtain ⟨ob, e⟩ := x; exact ⟨ob, k _ _ (.inl rfl) e⟩
  | xd fs => obtain ⟨mA, ⟨od, es, ep, e, c⟩, r⟩ := x; exact ⟨mA, ⟨od, es, ep, k _ _ (.inl rfl) e, c⟩, r⟩
  | rng lo hi => obtain ⟨t, u, v, e⟩ := x; exact ⟨t, u, v, k _ _ (.inl rfl) e⟩
  | frz ob u ih => obtain ⟨e, q⟩ := x; exact ⟨k _ _ (.inl rfl) e, ih q⟩
  | tbl ps =>
    have e : h.get? a = some { cls := .none, data := .fields ps } := x
    show h'.get? a = some { cls := .none, data := .fields ps }
    exact k a _ (.inl rfl) e
  | met f y =>
    have e : h.get? a = some (PySem.W.methodObj (.ref f) (.ref y)) := x
    show h'.get? a = some (PySem.W.methodObj (.ref f) (.ref y))
    exact k a _ (.inl rfl) e
  | ext φ => obtain ⟨p, ⟨o, e⟩, st⟩ := x; exact ⟨st _ _ p fun o q => k _ _ (.inl rfl) q, ⟨o, k _ _ (.inl rfl) e⟩, st⟩
theorem HOk.lt (x : HOk P w H h) (e : H a = some o) : a < h.objs.size := (x a o e).lt
theorem HOk.fresh (x : HOk P w H h) (e : h.objs.size ≤ a) : H a = none := by
  cases q : H a with
  | none => rfl
  | some u => exact absurd (Nat.lt_of_lt_of_le (x.lt q) e) (Nat.lt_irrefl _)
theorem HOk.kept (x : HOk P w H h) (k : ∀ b u, h.get? b = some u → h'.get? b = some u) : HOk P w H h' := fun a o e =>
  (x a o e).stay (fun b u _ q => k b u q) (fun _ q => q) fun _ _ q => q
theorem HOk.laid (x : HOk P w H h) (k : ∀ b u, h.get? b = some u → h'.get? b = some u) (hp : h.objs.size ≤ a) (new : ObjOk P w (upd H a o) h' a o) : HOk P w (upd H a o) h' := fun b u e => by
  have hn := x.fresh hp
  by_cases hb : b = a
  · subst hb; rw [upd_same] at e; cases e; exact new
  · rw [upd_ne hb] at e
    exact (x b u e).stay (fun c v _ q => k c v q) (fun c q => by rw [upd_ne (ne_of_none q hn)]; exact q) fun c xs q => by rw [upd_ne (ne_of_none q hn)]; exact q
end

def Rd (H : Hp) (a : Addr) (u : HO) : Prop := H a = some u ∨ ∃ o, H a = some (.frz o u)
theorem Rd.ok {P : Program} {w : World} {H : Hp} {h : Heap} {a : Addr} {u : HO} (r : Rd H a u) (x : HOk P w H h) : ObjOk P w H h a u := by
  rcases r with r | ⟨o, r⟩
  · exact x a u r
  · obtain ⟨_, q⟩ := x a _ r
    exact q
def Mut : Option HO → Prop
  | some (.lst _) => True
  | some (.dK _) => True
  | some (.dT _) => True
  | some (.set _ _) => True
  | some (.ins _ _ _) => True
  | some (.ext _) => True
  | _ => False
section
variable {P : Program} {w : World} {H : Hp} {h h' : Heap} {x e : Addr} {o' : HO}
theorem HOk.write (ok : HOk P w H h) (mu : Mut (H x)) (he : e = x ∨ H e = some (.own x)) (k : ∀ b u, b ≠ e → h.get? b = some u → h'.get? b = some u) (heo : ∃ u, h'.get? e = some u)
    (new : ObjOk P w (upd H x o') h' x o') : HOk P w (upd H x o') h' := fun b u q => by
  have nown : ∀ c y, H c = some (.own y) → c ≠ x := fun c y r z => by subst z; rw [r] at mu; exact mu
  have ntup : ∀ c xs, H c = some (.tup xs) → c ≠ x := fun c xs r z => by subst z; rw [r] at mu; exact mu
  by_cases hb : b = x
  · subst hb; rw [upd_same] at q; cases q; exact new
  · rw [upd_ne hb] at q
    by_cases hbe : b = e
    · have q' : H b = some (.own x) := by
        rcases he with z | z
        · exact absurd (hbe.trans z) hb
        · rw [hbe]; exact z
      rw [q] at q'; cases q'
      obtain ⟨v, hv⟩ := heo
      exact ⟨v, by rw [hbe]; exact hv⟩
    · refine (ok b u q).stay (fun c v hc r => k c v ?_ r) (fun c r => by rw [upd_ne (nown c b r)]; exact r) fun c xs r => by rw [upd_ne (ntup c xs r)]; exact r
      rcases hc with rfl | hc
      · exact hbe
      · rintro rfl
        rcases he with z | z
        · exact nown c b hc z
        · rw [hc] at z; cases z; exact hb rfl
end

structure Un (fs ex : List Addr) (H H' : Hp) (h h' : Heap) : Prop where
  keep : ∀ b o, h.get? b = some o → H b = none → b ∉ fs → b ∉ ex → h'.get? b = some o
  slot : ∀ b o, h.get? b = some o → H b = none → b ∈ fs → b ∉ ex → ∃ sl, h'.get? b = some { o with slots := sl }
  free : ∀ b o, h.get? b = some o → H b = none → b ∉ ex → H' b = none
  there : ∀ b o, h.get? b = some o → b ∉ ex → ∃ o', h'.get? b = some o'
  tups : ∀ b xs, H b = some (.tup xs) → H' b = some (.tup xs)
  frzs : ∀ b o u, H b = some (.frz o u) → H' b = some (.frz o u)
  tbls : ∀ b ps, H b = some (.tbl ps) → ∃ more, H' b = some (.tbl (ps ++ more))
section
variable {fs fs' ex ex' : List Addr} {H H1 H2 : Hp} {h h1 h2 h' : Heap} {a x e : Addr} {o : HO}
theorem Un.any (u : Un fs ex H H1 h h1) {b : Addr} {ob : Obj} (q : h.get? b = some ob) (n : H b = none) (hx : b ∉ ex) : ∃ sl, h1.get? b = some { ob with slots := sl } := by
  by_cases hb : b ∈ fs
  · exact u.slot b ob q n hb hx
  · exact ⟨ob.slots, u.keep b ob q n hb hx⟩
theorem Un.kept (k : ∀ b u, h.get? b = some u → h'.get? b = some u) : Un fs ex H H h h' :=
  ⟨fun b ob q _ _ _ => k b ob q, fun b ob q _ _ _ => ⟨ob.slots, k b ob q⟩, fun _ _ _ n _ => n, fun b ob q _ => ⟨ob, k b ob q⟩, fun _ _ q => q, fun _ _ _ q => q, fun _ ps q => ⟨#[], by rw [q]; simp⟩⟩
theorem Un.refl : Un fs ex H H h h := Un.kept fun _ _ q => q
theorem Un.laid (k : ∀ b u, h.get? b = some u → h'.get? b = some u) (hp : h.objs.size ≤ a) (hn : H a = none) : Un fs ex H (upd H a o) h h' where
  keep := fun b u q _ _ _ => k b u q
  slot := fun b u q _ _ _ => ⟨u.slots, k b u q⟩
  free := fun b u q n _ => by rw [upd_ne (Nat.ne_of_lt (Nat.lt_of_lt_of_le (Heap.lt_size q) hp))]; exact n
  there := fun b u q _ => ⟨u, k b u q⟩
  tups := fun b xs q => by rw [upd_ne (ne_of_none q hn)]; exact q
  frzs := fun b u xs q => by rw [upd_ne (ne_of_none q hn)]; exact q
  tbls := fun b ps q => ⟨#[], by rw [upd_ne (ne_of_none q hn), q]; simp⟩
theorem Un.write (mu : Mut (H x)) (he : e = x ∨ H e = some (.own x)) (k : ∀ b u, b ≠ e → h.get? b = some u → h'.get? b = some u) (heo : ∃ u, h'.get? e = some u) : Un fs ex H (upd H x o) h h' := by
  have hx : ∀ b, H b = none → b ≠ x := fun b n z => by subst z; rw [n] at mu; exact mu
  have hb : ∀ b, H b = none → b ≠ e := fun b n z => by
    subst z
    rcases he with r | r
    · exact hx b n r
    · rw [n] at r; cases r
  have hm : ∀ b u, H b = some u → ¬ Mut (some u) → b ≠ x := fun b u q nm z => by subst z; rw [q] at mu; exact nm mu
  refine ⟨fun b u q n _ _ => k b u (hb b n) q, fun b u q n _ _ => ⟨u.slots, k b u (hb b n) q⟩, fun b u q n _ => by rw [upd_ne (hx b n)]; exact n, fun b u q _ => ?_,
    fun b xs q => by rw [upd_ne (hm b _ q fun z => z)]; exact q, fun b u xs q => by rw [upd_ne (hm b _ q fun z => z)]; exact q, fun b ps q => ⟨#[], by rw [upd_ne (hm b _ q fun z => z), q]; simp⟩⟩
  by_cases hbe : b = e
  · subst hbe; exact heo
  · exact ⟨u, k b u hbe q⟩
end

def trk (h : Heap) (H : Hp) : List Addr := (List.range h.objs.size).filter fun a => (H a).isSome
def hidT (h : Heap) (H : Hp) : Heap := PySem.W.hideAll h (trk h H)
theorem hidT_size (h : Heap) (H : Hp) : (hidT h H).objs.size = h.objs.size := PySem.W.hideAll_size _ _
theorem hidT_get {h : Heap} {H : Hp} {b : Addr} {o : Obj} (e : h.get? b = some o) (n : H b = none) : (hidT h H).get? b = some o :=
  PySem.W.hideAll_get _ e fun hm => by
    have q : (H b).isSome = true := (List.mem_filter.mp hm).2
    rw [n] at q; simp at q
theorem of_hidT {h : Heap} {H : Hp} {b : Addr} {o : Obj} (e : (hidT h H).get? b = some o) : h.get? b = some o ∧ H b = none := by
  have e' : h.get? b = some o := PySem.W.of_hideAll (trk h H) e
  refine ⟨e', ?_⟩
  cases q : H b with
  | none => rfl
  | some x =>
    have hm : b ∈ trk h H := List.mem_filter.mpr ⟨List.mem_range.mpr (Heap.lt_size e'), by simp [q]⟩
    have z : (hidT h H).get? b = none := PySem.W.hideAll_none (trk h H) hm
    rw [z] at e; cases e

end L2

namespace L2
open PySem PySem.Spec PyProof.Rows

structure Mod (K : PySem.W.Frag) (mg : Str → Option Value) (base : Heap) : Prop where
  kin : K.In base
  glob : base.Ns mainGlobals mg
  blt : ∃ mb, base.Ns builtinsNs mb ∧ ∀ x : Str, x ≠ "__name__" → mb x = bootBuiltins x
  nolimit : base.NoLimit

structure Cx where
  prog : Program
  w : World
  K : PySem.W.Frag
  mg : Str → Option Value
  base : Heap
  A : Around
  N : List Str
  s₀ : Shared
  H₀ : Hp
  env : Env
  outer : List Env
  stack : List Env
  ex : List Addr
  fn : Str → Bool
  calm : Bool
  pn : List (Addr × Obj)
  xe : Value → Shared → Prop
def frs (l : List Env) : List Addr := l.filterMap (·.frame)
abbrev Cx.fs (X : Cx) : List Addr := frs X.outer

def Vis (sc : Scope) (x : Str) : Prop := sc.names.lookup x = some .local ∨ sc.names.lookup x = some .cell ∨ sc.names.lookup x = some .free
def Loc (sc : Scope) (x : Str) : Prop := sc.names.lookup x = some .local ∨ sc.names.lookup x = some .cell
def Look (env : Env) (h : Heap) (m : Str → Option Value) (x : Str) (u : Value) : Prop :=
  (env.kindOf x = some .local ∧ m x = some u) ∨ ((env.kindOf x = some .cell ∨ env.kindOf x = some .free) ∧ ∃ c, env.cells.lookup x = some c ∧ h.IsCell c (some u))

structure Cx.Ok (X : Cx) : Prop where
  mod : Mod X.K X.mg X.base
  kind : X.env.scope.kind = .function
  glob : X.env.globals = mainGlobals
  blt : X.env.builtins = builtinsNs
  above : X.s₀.heap.objs.size ≤ X.env.locals
  inj : ∀ x y c, X.env.cells.lookup x = some c → X.env.cells.lookup y = some c → x = y
  has : ∀ x, (X.env.kindOf x = some .cell ∨ X.env.kindOf x = some .free) → ∃ c, X.env.cells.lookup x = some c
  cab : ∀ x c, X.fn x = true → X.env.cells.lookup x = some c → X.s₀.heap.objs.size ≤ c
  hd : X.calm = true → X.A.handled = none
  frames : X.A.frames = some X.stack
  stk : X.stack = X.outer ∨ (X.stack = X.env :: X.outer ∧ X.env.frame = some X.env.locals)
  exf : ∀ b ∈ X.ex, b ≠ X.env.locals ∧ ∀ x c, X.env.cells.lookup x = some c → c ≠ b
  bs : ∀ b o, X.base.get? b = some o → X.s₀.heap.get? b = some o ∧ X.H₀ b = none
  bsz : X.base.objs.size ≤ X.s₀.heap.objs.size
  noex : ∀ b o, X.base.get? b = some o → b ∉ X.ex
  exfs : ∀ b ∈ X.ex, b ∉ X.fs
  funs : X.s₀.heap.FunFrames X.base X.outer
  frf : ∀ b ∈ X.fs, X.H₀ b = none

structure Inv (X : Cx) (pins : List (Addr × Obj)) (σ : List (Option V)) (H : Hp) (s : Shared) : Prop where
  ok : X.Ok
  os : s.os = X.s₀.os
  bare : AllBare s.gens
  base : Un X.fs X.ex X.H₀ H X.s₀.heap s.heap
  loc : ∃ m, s.heap.Ns X.env.locals m ∧ ∀ (i : Nat) (x : Str) (v : V), X.N[i]? = some x → σ[i]? = some (some v) → Vis X.env.scope x → ∃ u, RelV v u ∧ Look X.env s.heap m x u
  cell : ∀ x c, X.env.cells.lookup x = some c → ∃ v, s.heap.IsCell c v
  free : H X.env.locals = none
  freeC : ∀ x c, X.env.cells.lookup x = some c → H c = none
  pin : ∀ p ∈ X.pn ++ pins, s.heap.get? p.1 = some p.2 ∧ H p.1 = none ∧ p.1 ≠ X.env.locals ∧ p.1 ∉ X.fs ∧ ∀ v, p.2.data ≠ .cell v
  hok : HOk X.prog X.w H s.heap
  len : σ.length = X.N.length

section
variable {X : Cx} {pins : List (Addr × Obj)} {σ : List (Option V)} {H H' : Hp} {s : Shared} {h' : Heap}

theorem Cx.Ok.nofr (ok : X.Ok) {b : Addr} {o : Obj} (e : X.base.get? b = some o) : b ∉ X.fs := fun hb => by
  have := (ok.funs.mem hb).1
  rw [e] at this; cases this
theorem Inv.bs (I : Inv X pins σ H s) : ∀ b o, X.base.get? b = some o → s.heap.get? b = some o ∧ H b = none := fun b o e =>
  ⟨I.base.keep b o (I.ok.bs b o e).1 (I.ok.bs b o e).2 (I.ok.nofr e) (I.ok.noex b o e), I.base.free b o (I.ok.bs b o e).1 (I.ok.bs b o e).2 (I.ok.noex b o e)⟩
theorem Inv.bk (I : Inv X pins σ H s) : ∀ b o, X.base.get? b = some o → s.heap.get? b = some o := fun b o e => (I.bs b o e).1
theorem Inv.mod (I : Inv X pins σ H s) : Mod X.K X.mg X.base := I.ok.mod
theorem Inv.kIn (I : Inv X pins σ H s) : X.K.In s.heap := I.ok.mod.kin.keeps I.bk
theorem Inv.fr (I : Inv X pins σ H s) : ∃ m, Fr X.base X.env.locals s.heap m :=
  let ⟨m, hn, _⟩ := I.loc
  ⟨m, hn, I.bk, Nat.le_trans I.ok.bsz I.ok.above⟩
theorem Inv.lt (I : Inv X pins σ H s) : X.env.locals < s.heap.objs.size := let ⟨_, hn, _⟩ := I.loc; hn.lt
theorem Inv.sz (I : Inv X pins σ H s) : X.s₀.heap.objs.size ≤ s.heap.objs.size := Nat.le_trans I.ok.above (Nat.le_of_lt I.lt)
theorem Inv.nofs (I : Inv X pins σ H s) {a : Addr} (h : s.heap.objs.size ≤ a) : a ∉ X.fs := fun hb => by
  obtain ⟨_, o, ho, _⟩ := I.ok.funs.mem hb
  exact absurd (Nat.lt_of_lt_of_le (Heap.lt_size ho) (Nat.le_trans I.sz h)) (Nat.lt_irrefl _)
theorem Inv.cne (I : Inv X pins σ H s) : ∀ x c, X.env.cells.lookup x = some c → c ≠ X.env.locals := fun x c e z => by
  obtain ⟨v, o, ho, hd⟩ := I.cell x c e
  obtain ⟨m, ⟨o', es, ep, ho', hd', _⟩, _⟩ := I.loc
  rw [z, ho'] at ho; cases ho; rw [hd'] at hd; cases hd
theorem Inv.funs (I : Inv X pins σ H s) : s.heap.FunFrames X.base X.outer := by
  have all : ∀ (l : List Env), (∀ b ∈ frs l, b ∈ X.fs) → X.s₀.heap.FunFrames X.base l → s.heap.FunFrames X.base l := by
    intro l
    induction l with
    | nil => intro _ _; trivial
    | cons env r ih =>
      intro hs hl
      obtain ⟨hk, ⟨L, o, hf, hn, ho, hd⟩, hr⟩ := hl
      have hL : L ∈ X.fs := hs L (by unfold frs; rw [List.filterMap_cons, hf]; exact List.mem_cons_self)
      obtain ⟨sl, e⟩ := I.base.slot L o ho (I.ok.frf L hL) hL fun z => I.ok.exfs L z hL
      exact ⟨hk, ⟨L, _, hf, hn, e, hd⟩, ih (fun b hb => hs b (by unfold frs; rw [List.filterMap_cons, hf]; exact List.mem_cons_of_mem _ hb)) hr⟩
  exact all X.outer (fun _ hb => hb) I.ok.funs

theorem Inv.stack (I : Inv X pins σ H s) : s.heap.FunFrames X.base X.stack := by
  rcases I.ok.stk with e | ⟨e, hf⟩
  · rw [e]; exact I.funs
  · rw [e]
    obtain ⟨m, hn, _⟩ := I.loc
    refine .cons (by rw [I.ok.kind]; decide) hf hn ?_ I.funs
    exact Heap.get?_none_of_le (Nat.le_trans I.ok.bsz I.ok.above)
theorem Inv.stkSub (I : Inv X pins σ H s) : ∀ b ∈ frs X.stack, b ∈ X.env.locals :: X.fs := fun b hb => by
  rcases I.ok.stk with e | ⟨e, hf⟩
  · rw [e] at hb; exact List.mem_cons_of_mem _ hb
  · rw [e] at hb
    unfold frs at hb
    rw [List.filterMap_cons, hf] at hb
    exact hb
theorem Inv.stkFree (I : Inv X pins σ H s) : ∀ b ∈ frs X.stack, H b = none := fun b hb => by
  rcases List.mem_cons.mp (I.stkSub b hb) with e | hb
  · rw [e]; exact I.free
  · obtain ⟨_, o, ho, _⟩ := I.ok.funs.mem hb
    exact I.base.free b o ho (I.ok.frf b hb) fun z => I.ok.exfs b z hb

theorem Inv.step {g' : Array GenState} {t' : Nat} {d' : Drawn} {ch : List Addr} (I : Inv X pins σ H s)
    (hch : ∀ b ∈ ch, (b ∈ X.ex ∨ X.s₀.heap.objs.size ≤ b) ∧ b ≠ X.env.locals ∧ (∀ x c, X.env.cells.lookup x = some c → c ≠ b) ∧ ∀ p ∈ X.pn ++ pins, p.1 ≠ b)
    (keep : ∀ b o, b ≠ X.env.locals → b ∉ X.fs → b ∉ ch → s.heap.get? b = some o → H b = none → h'.get? b = some o)
    (slot : ∀ b o, b ≠ X.env.locals → b ∈ X.fs → b ∉ ch → s.heap.get? b = some o → H b = none → ∃ sl, h'.get? b = some { o with slots := sl }) (free : ∀ b o, b ∉ ch → s.heap.get? b = some o → H b = none → H' b = none)
    (there : ∀ b o, b ∉ ch → s.heap.get? b = some o → ∃ o', h'.get? b = some o')
    (tups : ∀ b xs, H b = some (.tup xs) → H' b = some (.tup xs)) (frzs : ∀ b o u, H b = some (.frz o u) → H' b = some (.frz o u)) (tbls : ∀ b ps, H b = some (.tbl ps) → ∃ more, H' b = some (.tbl (ps ++ more)))
    (ns : ∀ m, s.heap.Ns X.env.locals m → h'.Ns X.env.locals m) (hok : HOk X.prog X.w H' h') (hg : AllBare g') :
    Inv X pins σ H' { s with heap := h', gens := g', drawn := d', toks := t' } := by
  have neL : ∀ b o, X.s₀.heap.get? b = some o → b ≠ X.env.locals := fun b o e => Nat.ne_of_lt (Nat.lt_of_lt_of_le (Heap.lt_size e) I.ok.above)
  have neC : ∀ b o, X.s₀.heap.get? b = some o → b ∉ X.ex → b ∉ ch := fun b o e hx hb => by
    rcases (hch b hb).1 with z | z
    · exact hx z
    · exact absurd (Nat.lt_of_lt_of_le (Heap.lt_size e) z) (Nat.lt_irrefl _)
  have cellK : ∀ x c, X.env.cells.lookup x = some c → ∀ v, s.heap.IsCell c v → h'.IsCell c v := fun x c e v ⟨o, ho, hd⟩ => by
    have nch : c ∉ ch := fun z => (hch c z).2.2.1 x c e rfl
    by_cases hc : c ∈ X.fs
    · obtain ⟨sl, q⟩ := slot c o (I.cne x c e) hc nch ho (I.freeC x c e)
      exact ⟨_, q, hd⟩
    · exact ⟨o, keep c o (I.cne x c e) hc nch ho (I.freeC x c e), hd⟩
  refine ⟨I.ok, I.os, hg, ⟨fun b o e n hb hx => ?_, fun b o e n hb hx => ?_, fun b o e n hx => ?_, fun b o e hx => ?_, fun b xs e => tups b xs (I.base.tups b xs e), fun b o xs e => frzs b o xs (I.base.frzs b o xs e), fun b ps e => ?_⟩, ?_, fun x c e => ?_, ?_, fun x c e => ?_, fun p hp => ?_, hok, I.len⟩
  · exact keep b o (neL b o e) hb (neC b o e hx) (I.base.keep b o e n hb hx) (I.base.free b o e n hx)
  · obtain ⟨sl, e1⟩ := I.base.slot b o e n hb hx
    obtain ⟨sl', e2⟩ := slot b _ (neL b o e) hb (neC b o e hx) e1 (I.base.free b o e n hx)
    exact ⟨sl', e2⟩
  · obtain ⟨o', e1⟩ := I.base.there b o e hx
    exact free b o' (neC b o e hx) e1 (I.base.free b o e n hx)
  · obtain ⟨o', e1⟩ := I.base.there b o e hx
    exact there b o' (neC b o e hx) e1
  · obtain ⟨m1, e1⟩ := I.base.tbls b ps e
    obtain ⟨m2, e2⟩ := tbls b _ e1
    exact ⟨m1 ++ m2, by rw [e2, Array.append_assoc]⟩
  · obtain ⟨m, hn, hl⟩ := I.loc
    refine ⟨m, ns m hn, fun i x v e1 e2 e3 => ?_⟩
    obtain ⟨u, r, l⟩ := hl i x v e1 e2 e3
    refine ⟨u, r, ?_⟩
    rcases l with l | ⟨k, c, e, z⟩
    · exact .inl l
    · exact .inr ⟨k, c, e, cellK x c e _ z⟩
  · obtain ⟨v, z⟩ := I.cell x c e
    exact ⟨v, cellK x c e v z⟩
  · obtain ⟨m, ⟨o, _, _, ho, _⟩, _⟩ := I.loc
    exact free _ o (fun z => (hch _ z).2.1 rfl) ho I.free
  · obtain ⟨v, o, ho, hd⟩ := I.cell x c e
    exact free c o (fun z => (hch c z).2.2.1 x c e rfl) ho (I.freeC x c e)
  · obtain ⟨e, n, ne, nf, d⟩ := I.pin p hp
    have nch : p.1 ∉ ch := fun z => (hch p.1 z).2.2.2 p hp rfl
    exact ⟨keep p.1 p.2 ne nf nch e n, free p.1 p.2 nch e n, ne, nf, d⟩
theorem Inv.un {t' : Nat} (I : Inv X pins σ H s) (u : Un X.fs [] H H' s.heap h') (hok : HOk X.prog X.w H' h') : Inv X pins σ H' { s with heap := h', toks := t' } := by
  obtain ⟨m, ⟨o, es, ep, ho, r⟩, _⟩ := id I.loc
  obtain ⟨sl, hL⟩ := u.any ho I.free (by simp)
  exact I.step (g' := s.gens) (d' := s.drawn) (ch := []) (fun _ z => nomatch z) (fun b o _ hb _ e n => u.keep b o e n hb (by simp)) (fun b o _ hb _ e n => u.slot b o e n hb (by simp)) (fun b o _ e n => u.free b o e n (by simp)) (fun b o _ e => u.there b o e (by simp)) u.tups u.frzs u.tbls (fun m' hm => by
    obtain ⟨o', es', ep', ho', r'⟩ := hm
    rw [ho] at ho'; cases ho'
    exact ⟨_, es', ep', hL, r'⟩) hok I.bare
theorem Inv.call {g' : Array GenState} {t' : Nat} {d' : Drawn} {ch : List Addr} (I : Inv X pins σ H s) (u : Un (frs X.stack) ch H H' s.heap h') (hok : HOk X.prog X.w H' h') (hg : AllBare g')
    (hch : ∀ b ∈ ch, (b ∈ X.ex ∨ X.s₀.heap.objs.size ≤ b) ∧ b ≠ X.env.locals ∧ (∀ x c, X.env.cells.lookup x = some c → c ≠ b) ∧ ∀ p ∈ X.pn ++ pins, p.1 ≠ b) :
    Inv X pins σ H' { s with heap := h', gens := g', drawn := d', toks := t' } := by
  obtain ⟨m, ⟨o, es, ep, ho, r⟩, _⟩ := id I.loc
  obtain ⟨sl, hL⟩ := u.any ho I.free fun z => (hch _ z).2.1 rfl
  exact I.step (ch := ch) hch (fun b o hL hb hc e n => u.keep b o e n (fun z => (List.mem_cons.mp (I.stkSub b z)).elim hL hb) hc) (fun b o _ _ hc e n => u.any e n hc) (fun b o hc e n => u.free b o e n hc) (fun b o hc e => u.there b o e hc) u.tups u.frzs u.tbls (fun m' hm => by
    obtain ⟨o', es', ep', ho', r'⟩ := hm
    rw [ho] at ho'; cases ho'
    exact ⟨_, es', ep', hL, r'⟩) hok hg
theorem Inv.turned {t' : Nat} {it : Addr} (I : Inv X pins σ H s) (k : ∀ b o, b ≠ it → s.heap.get? b = some o → h'.get? b = some o) (hn : H it = none) (hL : it ≠ X.env.locals)
    (h1 : it ∈ X.ex ∨ X.s₀.heap.objs.size ≤ it) (h2 : ∀ x c, X.env.cells.lookup x = some c → c ≠ it) (h3 : ∀ p ∈ X.pn ++ pins, p.1 ≠ it) : Inv X pins σ H { s with heap := h', toks := t' } := by
  have nit : ∀ b u, H b = some u → b ≠ it := fun b u e z => by rw [z, hn] at e; cases e
  refine I.step (g' := s.gens) (d' := s.drawn) (ch := [it]) (fun b hb => ?_) (fun b o _ _ hc e _ => k b o (fun z => hc (by simp [z])) e) (fun b o _ _ hc e _ => ⟨o.slots, k b o (fun z => hc (by simp [z])) e⟩) (fun _ _ _ _ n => n)
    (fun b o hc e => ⟨o, k b o (fun z => hc (by simp [z])) e⟩) (fun _ _ e => e) (fun _ _ _ e => e) (fun b ps e => ⟨#[], by rw [e]; simp⟩) (fun m hm => ?_) (fun b u e => ?_) I.bare
  · have e : b = it := by simpa using hb
    subst e
    exact ⟨h1, hL, h2, h3⟩
  · obtain ⟨o, es, ep, ho, r⟩ := hm
    exact ⟨o, es, ep, k _ o (Ne.symm hL) ho, r⟩
  · refine (I.hok b u e).stay (fun c v hc q => k c v ?_ q) (fun _ q => q) fun _ _ q => q
    rcases hc with z | z
    · rw [z]; exact nit b u e
    · exact nit c _ z
theorem Inv.tok (I : Inv X pins σ H s) (t : Nat) : Inv X pins σ H { s with toks := t } := I.un (h' := s.heap) (t' := t) Un.refl I.hok
theorem Inv.kept {t' : Nat} (I : Inv X pins σ H s) (k : ∀ b u, s.heap.get? b = some u → h'.get? b = some u) : Inv X pins σ H { s with heap := h', toks := t' } := I.un (Un.kept k) (I.hok.kept k)
theorem Inv.laid {a : Addr} {o : HO} {t' : Nat} (I : Inv X pins σ H s) (k : ∀ b u, s.heap.get? b = some u → h'.get? b = some u) (hp : s.heap.objs.size ≤ a) (new : ObjOk X.prog X.w (upd H a o) h' a o) :
    Inv X pins σ (upd H a o) { s with heap := h', toks := t' } := I.un (Un.laid k hp (I.hok.fresh hp)) (I.hok.laid k hp new)
theorem Inv.write {x e : Addr} {o : HO} {t' : Nat} (I : Inv X pins σ H s) (mu : Mut (H x)) (he : e = x ∨ H e = some (.own x)) (k : ∀ b u, b ≠ e → s.heap.get? b = some u → h'.get? b = some u) (heo : ∃ u, h'.get? e = some u)
    (new : ObjOk X.prog X.w (upd H x o) h' x o) : Inv X pins σ (upd H x o) { s with heap := h', toks := t' } := I.un (Un.write mu he k heo) (I.hok.write mu he k heo new)
theorem Inv.weak {σ' : List (Option V)} (I : Inv X pins σ H s) (hl : σ'.length = σ.length) (w : ∀ (i : Nat) v, σ'[i]? = some (some v) → σ[i]? = some (some v)) : Inv X pins σ' H s :=
  ⟨I.ok, I.os, I.bare, I.base, let ⟨m, hn, hl'⟩ := I.loc; ⟨m, hn, fun i x v e1 e2 e3 => hl' i x v e1 (w i v e2) e3⟩, I.cell, I.free, I.freeC, I.pin, I.hok, hl.trans I.len⟩
theorem Inv.pins_of {pins' : List (Addr × Obj)} (I : Inv X pins σ H s) (h : ∀ p ∈ pins', s.heap.get? p.1 = some p.2 ∧ H p.1 = none ∧ p.1 ≠ X.env.locals ∧ p.1 ∉ X.fs ∧ ∀ v, p.2.data ≠ .cell v) : Inv X pins' σ H s :=
  ⟨I.ok, I.os, I.bare, I.base, I.loc, I.cell, I.free, I.freeC, fun p hp => (List.mem_append.mp hp).elim (fun z => I.pin p (List.mem_append_left _ z)) (h p), I.hok, I.len⟩

theorem nodup_ix {N : List Str} (hN : N.Nodup) {i j : Nat} {x : Str} (a : N[i]? = some x) (b : N[j]? = some x) : i = j := by
  obtain ⟨h1, e1⟩ := List.getElem?_eq_some_iff.mp a
  obtain ⟨h2, e2⟩ := List.getElem?_eq_some_iff.mp b
  exact (List.getElem_inj hN).mp (e1.trans e2.symm)

theorem store_ok2 {M : Model} {A : Around} {E : Value → Shared → Prop} {i : Nat} {x : Str} {v : V} {u : Value} {Q : Unit → Shared → Prop} (I : Inv X pins σ H s) (hN : X.N.Nodup) (hi : X.N[i]? = some x) (hx : Loc X.env.scope x) (r : RelV v u)
    (h : ∀ s', Inv X pins (σ.set i (some v)) H s' → (∃ a, Heap.SameBut a s.heap s'.heap ∧ (a = X.env.locals ∨ X.env.cells.lookup x = some a)) → Q () s') (hf : X.fn x = true ∨ X.env.scope.names.lookup x = some .local := by first | exact .inl rfl | exact .inr rfl | assumption) : wpAny M A (storeName X.env x u) Q E s := by
  obtain ⟨m, hn, hl⟩ := id I.loc
  have hcls : (X.env.scope.kind == .class || (X.env.scope.kind == .module && X.env.locals != X.env.globals)) = false := by rw [I.ok.kind]; rfl
  have hiσ : i < σ.length := by rw [I.len]; exact (List.getElem?_eq_some_iff.mp hi).1
  have cne := I.cne
  have tracked : ∀ {a : Addr} {h' : Heap}, (∃ o, s.heap.get? a = some o ∧ H a = none) → Heap.SameBut a s.heap h' → HOk X.prog X.w H h' := fun {a h'} ha hs b ob e => by
    obtain ⟨_, _, hfree⟩ := ha
    refine (I.hok b ob e).stay (fun c w' hc q => (hs.2 c ?_).trans q) (fun _ q => q) fun _ _ q => q
    rintro rfl
    rcases hc with rfl | hc
    · rw [hfree] at e; cases e
    · rw [hfree] at hc; cases hc
  rcases hx with hk | hk
  · refine wpAny_storeName_local hk hn (fun h' hn' hs => ?_) hcls
    obtain ⟨oL, _, _, hoL, _⟩ := id hn
    refine h _ ⟨I.ok, I.os, I.bare, ⟨fun b o e n hb hx => ?_, fun b o e n hb hx => ?_, I.base.free, fun b o e hx => ?_, I.base.tups, I.base.frzs, I.base.tbls⟩, ⟨_, hn', fun j y v' e1 e2 e3 => ?_⟩, fun y c e => ?_, I.free, I.freeC, fun p hp => ?_, tracked ⟨oL, hoL, I.free⟩ hs, by simpa using I.len⟩ ⟨_, hs, .inl rfl⟩
    · exact (hs.2 b (Nat.ne_of_lt (Nat.lt_of_lt_of_le (Heap.lt_size e) I.ok.above))).trans (I.base.keep b o e n hb hx)
    · obtain ⟨sl, e1⟩ := I.base.slot b o e n hb hx
      exact ⟨sl, (hs.2 b (Nat.ne_of_lt (Nat.lt_of_lt_of_le (Heap.lt_size e) I.ok.above))).trans e1⟩
    · obtain ⟨o', e1⟩ := I.base.there b o e hx
      exact ⟨o', (hs.2 b (Nat.ne_of_lt (Nat.lt_of_lt_of_le (Heap.lt_size e) I.ok.above))).trans e1⟩
    · by_cases hj : j = i
      · subst hj
        rw [hi] at e1; cases e1
        rw [List.getElem?_set_self hiσ] at e2
        cases e2
        exact ⟨u, r, .inl ⟨hk, by simp⟩⟩
      · rw [List.getElem?_set_ne (Ne.symm hj)] at e2
        obtain ⟨u', r', q⟩ := hl j y v' e1 e2 e3
        refine ⟨u', r', ?_⟩
        rcases q with ⟨k, e⟩ | ⟨k, c, e, z⟩
        · refine .inl ⟨k, ?_⟩
          have : y ≠ x := fun e => hj (nodup_ix hN e1 (e ▸ hi))
          simp [this, e]
        · exact .inr ⟨k, c, e, z.sameBut hs (cne y c e)⟩
    · obtain ⟨w', z⟩ := I.cell y c e
      exact ⟨w', z.sameBut hs (cne y c e)⟩
    · obtain ⟨e, n, ne, nf, d⟩ := I.pin p hp
      exact ⟨(hs.2 p.1 ne).trans e, n, ne, nf, d⟩
  · have hfn : X.fn x = true := by
      rcases hf with z | z
      · exact z
      · rw [z] at hk; cases hk
    obtain ⟨c, hc⟩ := I.ok.has x (.inl hk)
    obtain ⟨w', z⟩ := I.cell x c hc
    refine wpAny_storeName_cell I.ok.kind hk hc z (fun h' hc' hs => ?_)
    obtain ⟨oc, hoc, hocd⟩ := id z
    refine h { s with heap := h' } ⟨I.ok, I.os, I.bare, ⟨fun b o e n hb hx => ?_, fun b o e n hb hx => ?_, I.base.free, fun b o e hx => ?_, I.base.tups, I.base.frzs, I.base.tbls⟩, ⟨m, hn.sameBut hs (Ne.symm (cne x c hc)), fun j y v' e1 e2 e3 => ?_⟩, fun y c' e => ?_, I.free, I.freeC, fun p hp => ?_, tracked ⟨oc, hoc, I.freeC x c hc⟩ hs, by simpa using I.len⟩ ⟨c, hs, .inr hc⟩
    · exact (hs.2 b (Nat.ne_of_lt (Nat.lt_of_lt_of_le (Heap.lt_size e) (I.ok.cab x c hfn hc)))).trans (I.base.keep b o e n hb hx)
    · obtain ⟨sl, e1⟩ := I.base.slot b o e n hb hx
      exact ⟨sl, (hs.2 b (Nat.ne_of_lt (Nat.lt_of_lt_of_le (Heap.lt_size e) (I.ok.cab x c hfn hc)))).trans e1⟩
    · obtain ⟨o', e1⟩ := I.base.there b o e hx
      exact ⟨o', (hs.2 b (Nat.ne_of_lt (Nat.lt_of_lt_of_le (Heap.lt_size e) (I.ok.cab x c hfn hc)))).trans e1⟩
    · by_cases hj : j = i
      · subst hj
        rw [hi] at e1; cases e1
        rw [List.getElem?_set_self hiσ] at e2
        cases e2
        exact ⟨u, r, .inr ⟨.inl hk, c, hc, hc'⟩⟩
      · rw [List.getElem?_set_ne (Ne.symm hj)] at e2
        obtain ⟨u', r', q⟩ := hl j y v' e1 e2 e3
        refine ⟨u', r', ?_⟩
        rcases q with q | ⟨k, c', e, z'⟩
        · exact .inl q
        · refine .inr ⟨k, c', e, z'.sameBut hs ?_⟩
          rintro rfl
          exact hj (nodup_ix hN e1 (I.ok.inj _ _ _ e hc ▸ hi))
    · by_cases hcc : c' = c
      · subst hcc; exact ⟨_, hc'⟩
      · obtain ⟨w2, z2⟩ := I.cell y c' e
        exact ⟨w2, z2.sameBut hs hcc⟩
    · obtain ⟨e, n, ne, nf, d⟩ := I.pin p hp
      refine ⟨(hs.2 p.1 ?_).trans e, n, ne, nf, d⟩
      intro q
      rw [q, hoc] at e
      have q' : oc = p.2 := Option.some.inj e
      exact d w' (by rw [← q']; exact hocd)
theorem store_ok {M : Model} {A : Around} {E : Value → Shared → Prop} {i : Nat} {x : Str} {v : V} {u : Value} {Q : Unit → Shared → Prop} (I : Inv X pins σ H s) (hN : X.N.Nodup) (hi : X.N[i]? = some x) (hx : Loc X.env.scope x) (r : RelV v u)
    (h : ∀ s', Inv X pins (σ.set i (some v)) H s' → Q () s') (hf : X.fn x = true ∨ X.env.scope.names.lookup x = some .local := by first | exact .inl rfl | exact .inr rfl | assumption) : wpAny M A (storeName X.env x u) Q E s :=
  store_ok2 I hN hi hx r (fun s' I' _ => h s' I') hf
theorem Inv.call' {s' : Shared} {ch : List Addr} (I : Inv X pins σ H s) (ho : s'.os = s.os) (u : Un (frs X.stack) ch H H' s.heap s'.heap) (hok : HOk X.prog X.w H' s'.heap) (hg : AllBare s'.gens)
    (hch : ∀ b ∈ ch, (b ∈ X.ex ∨ X.s₀.heap.objs.size ≤ b) ∧ b ≠ X.env.locals ∧ (∀ x c, X.env.cells.lookup x = some c → c ≠ b) ∧ ∀ p ∈ X.pn ++ pins, p.1 ≠ b) : Inv X pins σ H' s' := by
  obtain ⟨h', g', d', t', o'⟩ := s'
  have e : o' = s.os := ho
  subst e
  exact I.call (g' := g') (t' := t') (d' := d') u hok hg hch
end

abbrev XK := Value → Option Addr → Hp → Prop
abbrev St := List (Option V)
abbrev VK := V → Hp → Prop
abbrev TE := St → Hp → VK → Prop
abbrev TT := St → Hp → (Bool → Hp → Prop) → Prop
abbrev TA := St → Hp → (List V → Hp → Prop) → Prop
structure Ends where
  nx : St → Hp → Prop
  rt : VK
  bk : St → Hp → Prop := fun _ _ => False
  ct : St → Hp → Prop := fun _ _ => False
abbrev TS := Ends → St → Hp → Prop

def EP (X : Cx) (pins : List (Addr × Obj)) (σ : St) (Q : VK) (u : Value) (s' : Shared) : Prop := ∃ v H', Inv X pins σ H' s' ∧ RelV v u ∧ Q v H'
def TP (X : Cx) (pins : List (Addr × Obj)) (σ : St) (Q : Bool → Hp → Prop) (b : Bool) (s' : Shared) : Prop := ∃ H', Inv X pins σ H' s' ∧ Q b H'
def AP (X : Cx) (pins : List (Addr × Obj)) (σ : St) (Q : List V → Hp → Prop) (us : List Value) (s' : Shared) : Prop := ∃ vs H', Inv X pins σ H' s' ∧ Vals vs us ∧ Q vs H'
def SP (X : Cx) (pins : List (Addr × Obj)) (D : Ends) (f : Flow) (s' : Shared) : Prop :=
  match f with
  | .next => ∃ σ' H', Inv X pins σ' H' s' ∧ D.nx σ' H'
  | .brk => ∃ σ' H', Inv X pins σ' H' s' ∧ D.bk σ' H'
  | .cont => ∃ σ' H', Inv X pins σ' H' s' ∧ D.ct σ' H'
  | .ret u => ∃ v σ' H', Inv X pins σ' H' s' ∧ RelV v u ∧ D.rt v H'

def PE (X : Cx) (e : Expr) (t : TE) : Prop :=
  ∀ (pins : List (Addr × Obj)) (s : Shared) (σ : St) (H : Hp) (Q : VK), Inv X pins σ H s → t σ H Q → wpAny (model X.prog X.w) X.A (eval e X.env) (EP X pins σ Q) X.xe s
def PT (X : Cx) (e : Expr) (t : TT) : Prop :=
  ∀ (pins : List (Addr × Obj)) (s : Shared) (σ : St) (H : Hp) (Q : Bool → Hp → Prop), Inv X pins σ H s → t σ H Q → wpAny (model X.prog X.w) X.A (isTrue e X.env (eval e X.env)) (TP X pins σ Q) X.xe s
def PW (X : Cx) (e : Expr) (t : TT) : Prop :=
  ∀ (whole : Sem Value) (pins : List (Addr × Obj)) (s : Shared) (σ : St) (H : Hp) (Q : Bool → Hp → Prop), Inv X pins σ H s → t σ H Q → wpAny (model X.prog X.w) X.A (isTrue e X.env whole) (TP X pins σ Q) X.xe s
theorem PW.pt {X : Cx} {e : Expr} {t : TT} (h : PW X e t) : PT X e t := h _
def PA (X : Cx) (es : List Expr) (t : TA) : Prop :=
  ∀ (pos : Pos) (pins : List (Addr × Obj)) (s : Shared) (σ : St) (H : Hp) (Q : List V → Hp → Prop), Inv X pins σ H s → t σ H Q → wpAny (model X.prog X.w) X.A (spliced (backTo pos (starEach es X.env))) (AP X pins σ Q) X.xe s
def PS (X : Cx) (st : Stmt) (t : TS) : Prop :=
  ∀ (pins : List (Addr × Obj)) (s : Shared) (σ : St) (H : Hp) (D : Ends), Inv X pins σ H s → t D σ H → wpAny (model X.prog X.w) X.A (exec st X.env) (SP X pins D) X.xe s
def PSs (X : Cx) (st : List Stmt) (t : TS) : Prop :=
  ∀ (pins : List (Addr × Obj)) (s : Shared) (σ : St) (H : Hp) (D : Ends), Inv X pins σ H s → t D σ H → wpAny (model X.prog X.w) X.A (execs st X.env) (SP X pins D) X.xe s
theorem thn {α : Type} {t : Sem α} {Q Q' : α → Shared → Prop} {M : Model} {A : Around} {E : Value → Shared → Prop} {s : Shared} (h : wpAny M A t Q E s) (hQ : ∀ a s, Q a s → Q' a s) : wpAny M A t Q' E s := wpAny_mono h hQ fun _ _ x => x
end L2

namespace L2
open PySem PySem.Spec PyProof.Rows
section
variable {X : Cx}

def tVar (i : Nat) : TE := fun σ H Q => ∃ v, σ[i]? = some (some v) ∧ Q v H
def tC (v : V) : TE := fun _ H Q => Q v H
theorem pe_var {i : Nat} {x : Str} {pos : Pos} (hN : X.N[i]? = some x) (hv : Vis X.env.scope x) (hd : (x == ("__debug__" : Str)) = false := by decide) (hcd : (x == ("__classdict__" : Str)) = false := by decide) : PE X (.Name x pos) (tVar i) := by
  intro pins s σ H Q I h
  obtain ⟨v, e, h⟩ := h
  obtain ⟨m, hn, hl⟩ := I.loc
  obtain ⟨u, r, l⟩ := hl i x v hN e hv
  have fin : EP X pins σ Q u s := ⟨v, H, I, r, h⟩
  rcases l with ⟨hk, hm⟩ | ⟨hk, c, hc, hcell⟩
  · exact wpAny_Name (wpAny_loadName_local I.ok.kind hk hn hm fin) hd
  · rcases hk with hk | hk
    · exact wpAny_Name (wpAny_loadName_cell I.ok.kind hk hc hcell fin) hd
    · exact wpAny_Name (wpAny_loadName_free I.ok.kind hk hc hcell fin hcd) hd
theorem pe_int {i j pos} : PE X (.Constant (.int i) j pos) (tC (.int i)) := fun _ _ _ H _ I h => wpAny_Constant_int ⟨.int i, H, I.tok _, ⟨_, rfl⟩, h⟩
theorem pe_bl {b j pos} : PE X (.Constant (.bool b) j pos) (tC (.bl b)) := fun _ _ _ H _ I h => Constant_bool ⟨.bl b, H, I, rfl, h⟩
theorem pe_non {j pos} : PE X (.Constant .none j pos) (tC .non) := fun _ _ _ H _ I h => Constant_none ⟨.non, H, I, rfl, h⟩
theorem pe_str {x j pos} : PE X (.Constant (.str x) j pos) (tC (.str x)) := fun _ _ _ H _ I h => Calls.Constant_str ⟨.str x, H, I.tok _, ⟨_, rfl⟩, h⟩

def Gl (X : Cx) (x : Str) : Prop := X.env.kindOf x = some .globalImplicit
theorem ld_glob {E : Value → Shared → Prop} {pins : List (Addr × Obj)} {s : Shared} {σ : St} {H : Hp} {x : Str} {u : Value} {pos : Pos} {Q : Value → Shared → Prop} (I : Inv X pins σ H s) (hg : Gl X x) (hm : X.mg x = some u) (h : Q u s)
    (hd : (x == ("__debug__" : Str)) = false := by decide) : wpAny (model X.prog X.w) X.A (eval (.Name x pos) X.env) Q E s :=
  Calls.Name_function_global I.ok.kind hg (Calls.loadGlobal_global (by rw [I.ok.glob]; exact I.mod.glob.keeps I.bk) hm h) hd
theorem ld_blt {E : Value → Shared → Prop} {pins : List (Addr × Obj)} {s : Shared} {σ : St} {H : Hp} {x : Str} {u : Value} {pos : Pos} {Q : Value → Shared → Prop} (I : Inv X pins σ H s) (hg : Gl X x) (hm : X.mg x = none) (hv : bootBuiltins x = some u) (h : Q u s)
    (hn : x ≠ "__name__" := by decide) (hd : (x == ("__debug__" : Str)) = false := by decide) : wpAny (model X.prog X.w) X.A (eval (.Name x pos) X.env) Q E s := by
  obtain ⟨mb, h1, h2⟩ := I.mod.blt
  exact Calls.Name_function_global I.ok.kind hg (Calls.loadGlobal_builtin (by rw [I.ok.glob]; exact I.mod.glob.keeps I.bk) hm (by rw [I.ok.blt]; exact h1.keeps I.bk) ((h2 x hn).trans hv) h) hd
theorem pe_glob {x : Str} {v : V} {u : Value} {pos : Pos} (hg : Gl X x) (hm : X.mg x = some u) (r : RelV v u) (hd : (x == ("__debug__" : Str)) = false := by decide) : PE X (.Name x pos) (tC v) :=
  fun _ _ _ H _ I h => ld_glob I hg hm ⟨v, H, I, r, h⟩ hd
theorem pe_bltn {x : Str} {v : V} {u : Value} {pos : Pos} (hg : Gl X x) (hm : X.mg x = none) (hv : bootBuiltins x = some u) (r : RelV v u) (hn : x ≠ "__name__" := by decide) (hd : (x == ("__debug__" : Str)) = false := by decide) : PE X (.Name x pos) (tC v) :=
  fun _ _ _ H _ I h => ld_blt I hg hm hv ⟨v, H, I, r, h⟩ hn hd

variable {a b : Expr} {ta tb : TE} {pos : Pos}
def tB (t : TE) : TT := fun σ H Q => t σ H fun x H1 => ∃ c, x = .bl c ∧ Q c H1
theorem pt_val {e : Expr} {t : TE} (h : PE X e t) (he : ∀ whole, isTrue e X.env whole = (do let v ← whole; standAt e.pos; holding [v] (truthy v)) := by intro _; rfl) : PT X e (tB t) := by
  intro pins s σ H Q I hw
  refine isTrue_plain (thn (h pins s σ H _ I hw) fun v s1 ⟨x, H1, I1, r1, q1⟩ => ?_) (he _)
  obtain ⟨d, rfl, q⟩ := q1
  cases r1
  exact wpAny_truthy_bool ⟨H1, I1, q⟩

variable {tA tB' : TT} {rest : List Expr}
def tAnd (t u : TT) : TT := fun σ H Q => t σ H fun c H1 => if c = true then u σ H1 Q else Q false H1
def tOr (t u : TT) : TT := fun σ H Q => t σ H fun c H1 => if c = true then Q true H1 else u σ H1 Q
def tNot (t : TT) : TT := fun σ H Q => t σ H fun c H1 => Q (!c) H1
theorem pw_and1 (ha : PT X a tA) : PW X (.BoolOp .And [a] pos) tA := by
  intro wh pins s σ H Q I h
  refine isTrue_and (thn (ha pins s σ H Q I h) fun c s1 e => ?_)
  cases c with
  | true => exact isTrue_and_nil e
  | false => exact e
theorem pw_or1 (ha : PT X a tA) : PW X (.BoolOp .Or [a] pos) tA := by
  intro wh pins s σ H Q I h
  refine isTrue_or (thn (ha pins s σ H Q I h) fun c s1 e => ?_)
  cases c with
  | false => exact isTrue_or_nil e
  | true => exact e
theorem pw_and (ha : PT X a tA) (hb : PW X (.BoolOp .And (b :: rest) pos) tB') : PW X (.BoolOp .And (a :: b :: rest) pos) (tAnd tA tB') := by
  intro wh pins s σ H Q I h
  refine isTrue_and (thn (ha pins s σ H _ I h) fun c s1 ⟨H1, I1, q1⟩ => ?_)
  cases c with
  | true => exact hb wh pins s1 σ H1 Q I1 q1
  | false => exact ⟨H1, I1, q1⟩
theorem pw_or (ha : PT X a tA) (hb : PW X (.BoolOp .Or (b :: rest) pos) tB') : PW X (.BoolOp .Or (a :: b :: rest) pos) (tOr tA tB') := by
  intro wh pins s σ H Q I h
  refine isTrue_or (thn (ha pins s σ H _ I h) fun c s1 ⟨H1, I1, q1⟩ => ?_)
  cases c with
  | true => exact ⟨H1, I1, q1⟩
  | false => exact hb wh pins s1 σ H1 Q I1 q1
theorem pt_not (ha : PT X a tA) : PT X (.UnaryOp .Not a pos) (tNot tA) := by
  intro pins s σ H Q I h
  exact isTrue_not (ha pins s σ H (fun c H1 => Q (!c) H1) I h)
def tAndV (ta tb : TE) : TE := fun σ H Q => ta σ H fun x H1 => ∃ c, x = .bl c ∧ if c = true then tb σ H1 Q else Q (.bl false) H1
def tNotV (ta : TE) : TE := fun σ H Q => ta σ H fun x H1 => ∃ c, x = .bl c ∧ Q (.bl (!c)) H1
theorem pe_one {op} {t : TE} (h : PE X a t) : PE X (.BoolOp op [a] pos) t := fun pins s σ H Q I hw => BoolOp_one (h pins s σ H Q I hw)
theorem pe_and (ha : PE X a ta) (hb : PE X (.BoolOp .And (b :: rest) pos) tb) : PE X (.BoolOp .And (a :: b :: rest) pos) (tAndV ta tb) := by
  intro pins s σ H Q I h
  refine BoolOp_and (thn (ha pins s σ H _ I h) fun v s1 ⟨x, H1, I1, r1, q1⟩ => ?_)
  obtain ⟨c, rfl, q1⟩ := q1
  cases r1
  refine wpAny_truthy_bool ?_
  cases c with
  | true => exact hb pins s1 σ H1 Q I1 q1
  | false => exact ⟨.bl false, H1, I1, rfl, q1⟩
theorem pe_not (ha : PE X a ta) : PE X (.UnaryOp .Not a pos) (tNotV ta) := by
  intro pins s σ H Q I h
  refine UnaryOp_ (thn (ha pins s σ H _ I h) fun v s1 ⟨x, H1, I1, r1, q1⟩ => ?_)
  obtain ⟨c, rfl, q1⟩ := q1
  cases r1
  exact not_of (wpAny_truthy_bool ⟨.bl (!c), H1, I1, rfl, q1⟩)
end
end L2

namespace L2
open PySem PySem.Spec PyProof.Rows

def SqL (K : PySem.W.Frag) (H : Hp) (a : Addr) (xs : List V) : Prop :=
  Rd H a (.lst xs) ∨
    ∃ (o : Obj) (its : Array Value) (n : Nat), K.lookup a = some o ∧ o.cls = .type "list" ∧ o.dict = none ∧ o.data = .seq its n ∧ its.size ≤ sizeLine ∧ Vals xs its.toList
def SqT (K : PySem.W.Frag) (H : Hp) (a : Addr) (xs : List V) : Prop :=
  Rd H a (.tup xs) ∨
    ∃ (o : Obj) (its : Array Value) (n : Nat), K.lookup a = some o ∧ o.cls = .type "tuple" ∧ o.data = .seq its n ∧ its.size ≤ sizeLine ∧ Vals xs its.toList
def absV : Value → Option V
  | .none => some .non
  | .bool b => some (.bl b)
  | .int i _ => some (.int i)
  | .str x _ => some (.str x)
  | .bytes b _ => some (.byt b)
  | .float b _ => some (.flt b)
  | .ref a => some (.ref a)
  | .type n => some (.ty n)
  | _ => none
theorem RelV.abs {x : V} {u : Value} (r : RelV x u) : absV u = some x := by
  cases x with
  | non => cases r; rfl
  | bl _ => cases r; rfl
  | int _ => obtain ⟨t, rfl⟩ := r; rfl
  | str _ => obtain ⟨t, rfl⟩ := r; rfl
  | byt _ => obtain ⟨t, rfl⟩ := r; rfl
  | flt _ => obtain ⟨t, rfl⟩ := r; rfl
  | ref _ => cases r; rfl
  | ty _ => cases r; rfl
theorem RelV.inj {x y : V} {u : Value} (r : RelV x u) (q : RelV y u) : x = y := Option.some.inj (r.abs.symm.trans q.abs)
theorem Vals.inj : ∀ {xs ys : List V} {us : List Value}, Vals xs us → Vals ys us → xs = ys
  | _, _, _, .nil, .nil => rfl
  | _, _, _, .cons r t, .cons r' t' => by rw [r.inj r', Vals.inj t t']
section
variable {X : Cx} {pins : List (Addr × Obj)} {σ : St} {H : Hp} {s : Shared} {a : Addr} {xs ys : List V}
theorem SqL.of {K : PySem.W.Frag} (h : H a = some (.lst xs)) : SqL K H a xs := .inl (.inl h)
theorem SqT.of {K : PySem.W.Frag} (h : H a = some (.tup xs)) : SqT K H a xs := .inl (.inl h)
theorem Inv.list (I : Inv X pins σ H s) (h : SqL X.K H a xs) : ∃ its : List Value, Vals xs its ∧ PlainL s.heap a its.toArray ∧ xs.length ≤ sizeLine := by
  rcases h with h | ⟨o, its, n, hk, hc, hd, hs, hz, r⟩
  · obtain ⟨z, its, n, r, e⟩ := h.ok I.hok
    exact ⟨its, r, ⟨_, n, e, rfl, rfl, rfl⟩, z⟩
  · refine ⟨its.toList, r, ⟨o, n, I.kIn a o hk, hc, hd, by simpa using hs⟩, ?_⟩
    have e := r.length
    simp only [Array.length_toList] at e
    omega
theorem Inv.tuple (I : Inv X pins σ H s) (h : SqT X.K H a xs) : ∃ its : List Value, Vals xs its ∧ IsTup s.heap a its.toArray ∧ xs.length ≤ sizeLine := by
  rcases h with h | ⟨o, its, n, hk, hc, hs, hz, r⟩
  · obtain ⟨z, its, r, p⟩ := h.ok I.hok
    exact ⟨its, r, p, z⟩
  · refine ⟨its.toList, r, ⟨o, I.kIn a o hk, hc, n, by simpa using hs⟩, ?_⟩
    have e := r.length
    simp only [Array.length_toList] at e
    omega
theorem Inv.list_inj (I : Inv X pins σ H s) (h : SqL X.K H a xs) (h' : SqL X.K H a ys) : xs = ys := by
  obtain ⟨its, r, ⟨o, n, e, _, _, d⟩, _⟩ := I.list h
  obtain ⟨its', r', ⟨o', n', e', _, _, d'⟩, _⟩ := I.list h'
  rw [e] at e'; cases e'
  rw [d] at d'
  injection d' with d1 _
  have : its = its' := by simpa using congrArg Array.toList d1
  subst this
  exact r.inj r'
theorem Inv.tuple_inj (I : Inv X pins σ H s) (h : SqT X.K H a xs) (h' : SqT X.K H a ys) : xs = ys := by
  obtain ⟨its, r, ⟨o, e, _, n, d⟩, _⟩ := I.tuple h
  obtain ⟨its', r', ⟨o', e', _, n', d'⟩, _⟩ := I.tuple h'
  rw [e] at e'; cases e'
  rw [d] at d'
  injection d' with d1 _
  have : its = its' := by simpa using congrArg Array.toList d1
  subst this
  exact r.inj r'
end

abbrev Cx.wish (X : Cx) (E : Value → Shared → Prop) : Cx := { X with xe := E }
abbrev Cx.nox (X : Cx) : Cx := X.wish fun _ _ => False
theorem Cx.Ok.wish {X : Cx} (ok : X.Ok) (E : Value → Shared → Prop) : (X.wish E).Ok :=
  ⟨ok.mod, ok.kind, ok.glob, ok.blt, ok.above, ok.inj, ok.has, ok.cab, ok.hd, ok.frames, ok.stk, ok.exf, ok.bs, ok.bsz, ok.noex, ok.exfs, ok.funs, ok.frf⟩
theorem Cx.Ok.unwish {X : Cx} {E : Value → Shared → Prop} (ok : (X.wish E).Ok) : X.Ok :=
  ⟨ok.mod, ok.kind, ok.glob, ok.blt, ok.above, ok.inj, ok.has, ok.cab, ok.hd, ok.frames, ok.stk, ok.exf, ok.bs, ok.bsz, ok.noex, ok.exfs, ok.funs, ok.frf⟩
section
variable {X : Cx} {pins : List (Addr × Obj)} {σ : St} {H : Hp} {s : Shared} {E : Value → Shared → Prop}
theorem Inv.wish (I : Inv X pins σ H s) (E : Value → Shared → Prop) : Inv (X.wish E) pins σ H s := ⟨I.ok.wish E, I.os, I.bare, I.base, I.loc, I.cell, I.free, I.freeC, I.pin, I.hok, I.len⟩
theorem Inv.unwish (I : Inv (X.wish E) pins σ H s) : Inv X pins σ H s := ⟨I.ok.unwish, I.os, I.bare, I.base, I.loc, I.cell, I.free, I.freeC, I.pin, I.hok, I.len⟩
theorem SP.unwish {D : Ends} {f : Flow} {s' : Shared} (h : SP (X.wish E) pins D f s') : SP X pins D f s' := by
  cases f with
  | next => obtain ⟨σ', H', I, q⟩ := h; exact ⟨σ', H', I.unwish, q⟩
  | brk => obtain ⟨σ', H', I, q⟩ := h; exact ⟨σ', H', I.unwish, q⟩
  | cont => obtain ⟨σ', H', I, q⟩ := h; exact ⟨σ', H', I.unwish, q⟩
  | ret u => obtain ⟨v, σ', H', I, r, q⟩ := h; exact ⟨v, σ', H', I.unwish, r, q⟩
theorem PSs.nox {st : List Stmt} {t : TS} (h : PSs X.nox st t) : PSs X st t := fun pins s σ H D I hw =>
  wpAny_mono (h pins s σ H D (I.wish _) hw) (fun _ _ q => q.unwish) fun _ _ z => False.elim z
end

section
variable {X : Cx} {st : Stmt} {rest : List Stmt} {t u : TS} {e : Expr} {te : TE} {pos : Pos}
def tNext : TS := fun D σ H => D.nx σ H
def tSeq (t u : TS) : TS := fun D σ H => t { D with nx := u D } σ H
theorem pss_nil : PSs X [] tNext := fun _ _ σ H _ I h => wpAny_execs_nil ⟨σ, H, I, h⟩
theorem pss_cons (h1 : PS X st t) (h2 : PSs X rest u) : PSs X (st :: rest) (tSeq t u) := by
  intro pins s σ H D I h
  refine wpAny_execs_cons (thn (h1 pins s σ H { D with nx := u D } I h) fun f s1 q => ?_)
  cases f with
  | next =>
    obtain ⟨σ', H', I', q⟩ := q
    exact h2 pins s1 σ' H' D I' q
  | ret v => exact q
  | brk => exact q
  | cont => exact q
theorem pss_one (h1 : PS X st t) : PSs X [st] t := by
  intro pins s σ H D I h
  refine wpAny_execs_cons (thn (h1 pins s σ H D I h) fun f s1 q => ?_)
  cases f with
  | next => exact wpAny_execs_nil q
  | ret v => exact q
  | brk => exact q
  | cont => exact q
theorem Inv.quiet {pins : List (Addr × Obj)} {σ : St} {H : Hp} {s : Shared} (I : Inv X pins σ H s) : interactive X.env = false := by simp [interactive, I.ok.kind]
def tDrop (te : TE) : TS := fun D σ H => te σ H fun _ H1 => D.nx σ H1
theorem ps_expr (he : PE X e te) (hs : swapsWith e none pos.line X.env = pure false := by rfl) : PS X (.Expr e pos) (tDrop te) := by
  intro pins s σ H D I h
  exact wpAny_Expr_any (thn (he pins s σ H _ I h) fun v s1 ⟨x, H1, I1, r1, q1⟩ => ⟨σ, H1, I1, q1⟩) I.quiet hs
def tRet (te : TE) : TS := fun D σ H => te σ H D.rt
theorem ps_ret (he : PE X e te) : PS X (.Return (some e) pos) (tRet te) := by
  intro pins s σ H D I h
  exact wpAny_Return_some (thn (he pins s σ H _ I h) fun v s1 ⟨x, H1, I1, r1, q1⟩ => ⟨x, σ, H1, I1, r1, q1⟩)
def tIfS (c : TT) (t u : TS) : TS := fun D σ H => c σ H fun b H1 => if b = true then t D σ H1 else u D σ H1
theorem ps_if {c : Expr} {a b : List Stmt} {tc : TT} (hc : PT X c tc) (ha : PSs X a t) (hb : PSs X b u) : PS X (.If c a b pos) (tIfS tc t u) := by
  intro pins s σ H D I h
  refine wpAny_If (thn (hc pins s σ H _ I h) fun d s1 ⟨H1, I1, q1⟩ => ?_)
  cases d with
  | true => exact ha pins s1 σ H1 D I1 q1
  | false => exact hb pins s1 σ H1 D I1 q1
end

abbrev TG := V → St → Hp → (St → Hp → Prop) → Prop
abbrev TGs := List V → St → Hp → (St → Hp → Prop) → Prop
def PG (X : Cx) (target : Expr) (t : TG) : Prop :=
  ∀ (pins : List (Addr × Obj)) (s : Shared) (σ : St) (H : Hp) (v : V) (u : Value) (Q : St → Hp → Prop), Inv X pins σ H s → RelV v u → t v σ H Q →
    wpAny (model X.prog X.w) X.A (assign target X.env u) (fun _ s' => ∃ σ' H', Inv X pins σ' H' s' ∧ Q σ' H') X.xe s
def PGs (X : Cx) (ts : List Expr) (t : TGs) : Prop :=
  ∀ (pins : List (Addr × Obj)) (s : Shared) (σ : St) (H : Hp) (vs : List V) (us : List Value) (Q : St → Hp → Prop), Inv X pins σ H s → Vals vs us → t vs σ H Q →
    wpAny (model X.prog X.w) X.A (assignInOrder ((assignEach ts X.env).map (·.2)) us) (fun _ s' => ∃ σ' H', Inv X pins σ' H' s' ∧ Q σ' H') X.xe s
abbrev TSet := V → V → V → Hp → (Hp → Prop) → Prop
def PSet (X : Cx) (t : TSet) : Prop :=
  ∀ (pins : List (Addr × Obj)) (s : Shared) (σ : St) (H : Hp) (o i v : V) (ov iv u : Value) (Q : Hp → Prop), Inv X pins σ H s → RelV o ov → RelV i iv → RelV v u → t o i v H Q →
    wpAny (model X.prog X.w) X.A (setItem ov iv u) (fun _ s' => ∃ H', Inv X pins σ H' s' ∧ Q H') X.xe s
section
variable {X : Cx} {pos : Pos}
def gName (i : Nat) : TG := fun v σ H Q => Q (σ.set i (some v)) H
theorem pg_name {i : Nat} {x : Str} (hN : X.N.Nodup) (hi : X.N[i]? = some x) (hx : Loc X.env.scope x) (hf : X.fn x = true ∨ X.env.scope.names.lookup x = some .local := by first | exact .inl rfl | exact .inr rfl | assumption) : PG X (.Name x pos) (gName i) := by
  intro pins s σ H v u Q I r h
  exact wpAny_assign_Name (store_ok I hN hi hx r (fun s' I' => ⟨_, H, I', h⟩) hf)
def gNil : TGs := fun vs σ H Q => vs = [] ∧ Q σ H
def gCons (t : TG) (u : TGs) : TGs := fun vs σ H Q => ∃ v r, vs = v :: r ∧ t v σ H fun σ' H' => u r σ' H' Q
theorem pgs_nil : PGs X [] gNil := by
  intro pins s σ H vs us Q I r h
  obtain ⟨e, h⟩ := h
  subst e
  cases r
  exact assignInOrder_nil ⟨σ, H, I, h⟩
theorem pgs_cons {e : Expr} {es : List Expr} {t : TG} {u : TGs} (h1 : PG X e t) (h2 : PGs X es u)
    (hs : (assignEach (e :: es) X.env).map (·.2) = assign e X.env :: (assignEach es X.env).map (·.2) := by rfl) : PGs X (e :: es) (gCons t u) := by
  intro pins s σ H vs us Q I r h
  obtain ⟨v, vr, e1, h⟩ := h
  subst e1
  cases r with
  | cons r rr =>
    rw [hs]
    refine assignInOrder_cons (thn (h1 pins s σ H _ _ _ I r h) fun _ s1 ⟨σ1, H1, I1, q1⟩ => ?_)
    exact h2 pins s1 σ1 H1 _ _ Q I1 rr q1
def gTup (K : PySem.W.Frag) (n : Nat) (t : TGs) : TG := fun v σ H Q => ∃ a xs, v = .ref a ∧ SqT K H a xs ∧ xs.length = n ∧ t xs σ H Q
theorem pg_tup {es : List Expr} {k : Nat} {t : TGs} {n : Nat} (hc : X.calm = true) (h : PGs X es t)
    (hn : (assignEach es X.env).length = n := by rfl) (hst : (assignEach es X.env).findIdx? (·.1) = none := by rfl) : PG X (.Tuple es k pos) (gTup X.K n t) := by
  intro pins s σ H v u Q I r hw
  obtain ⟨a, xs, e1, hq, hl, hw⟩ := hw
  subst e1
  cases r
  obtain ⟨its, rv, ht, hz⟩ := I.tuple hq
  refine assign_Tuple_tuple (I.ok.hd hc) ht (by simp [hn, ← hl, rv.length]) hst fun h' hx => ?_
  have I1 : Inv X pins σ H { s with heap := h' } := I.kept (t' := s.toks) fun b o e => hx b o (Nat.ne_of_lt (Heap.lt_size e)) e
  exact h pins _ σ H xs _ Q I1 (by simpa using rv) hw
def gSub (to ti : TE) (t : TSet) : TG := fun v σ H Q => to σ H fun o H1 => ti σ H1 fun i H2 => t o i v H2 fun H3 => Q σ H3
theorem pg_sub {o i : Expr} {to ti : TE} {t : TSet} (ho : PE X o to) (hi : PE X i ti) (hs : PSet X t)
    (ha : ∀ v, assign (.Subscript o i pos) X.env v = (do
      let ov ← holding [v] (eval o X.env)
      let iv ← holding [v, ov] (eval i X.env)
      standAt pos
      holding [v, ov, iv] (setItem ov iv v)
      release [v, ov, iv] []) := by intro _; rfl) : PG X (.Subscript o i pos) (gSub to ti t) := by
  intro pins s σ H v u Q I r h
  rw [ha]
  refine wpAny_bind (wpAny_holding (thn (ho pins s σ H _ I h) fun ov s1 ⟨x, H1, I1, r1, q1⟩ => ?_))
  refine wpAny_bind (wpAny_holding (thn (hi pins s1 σ H1 _ I1 q1) fun iv s2 ⟨y, H2, I2, r2, q2⟩ => ?_))
  refine wpAny_bind (wpAny_standAt (wpAny_bind (wpAny_holding (thn (hs pins s2 σ H2 x y v ov iv u _ I2 r1 r2 r q2) fun _ s3 ⟨H3, I3, q3⟩ => ?_))))
  exact wpAny_release ⟨σ, H3, I3, q3⟩
def tAsg (te : TE) (g : TG) : TS := fun D σ H => te σ H fun x H1 => g x σ H1 D.nx
theorem ps_asg {tg e : Expr} {te : TE} {g : TG} (he : PE X e te) (hg : PG X tg g) (hs : swapsWithSole [tg] e pos.line X.env = pure false := by rfl) (hw : swappedStores [tg] e X.env = pure none := by rfl)
    (h1 : (assignEach [tg] X.env).map (·.2) = [assign tg X.env] := by rfl) : PS X (.Assign [tg] e pos) (tAsg te g) := by
  intro pins s σ H D I h
  refine wpAny_Assign_stores (thn (he pins s σ H _ I h) fun v s1 ⟨x, H1, I1, r1, q1⟩ => ?_) hs hw
  rw [h1]
  exact thn (hg pins s1 σ H1 x v _ I1 r1 q1) fun _ s2 q => q
theorem ps_set {i : Nat} {x : Str} {e : Expr} {te : TE} {pos' : Pos} (hN : X.N.Nodup) (hi : X.N[i]? = some x) (hx : Loc X.env.scope x) (he : PE X e te) (hs : swapsWith e (some (.Name x pos')) pos.line X.env = pure false := by rfl) (hf : X.fn x = true ∨ X.env.scope.names.lookup x = some .local := by first | exact .inl rfl | exact .inr rfl | assumption) :
    PS X (.Assign [.Name x pos'] e pos) (tAsg te (gName i)) := by
  intro pins s σ H D I h
  refine wpAny_Assign_Name (thn (he pins s σ H _ I h) fun v s1 ⟨y, H1, I1, r1, q1⟩ => ?_) hs
  exact store_ok I1 hN hi hx r1 (fun s2 I2 => ⟨_, H1, I2, q1⟩) hf
def tPar (i j : Nat) (ta : TA) : TS := fun D σ H => ta σ H fun vs H1 => ∃ v w, vs = [v, w] ∧ D.nx ((σ.set i (some v)).set j (some w)) H1
theorem ps_par {i j : Nat} {x y : Str} {a b : Expr} {ta : TA} {px py pt : Pos} {kt k2 pt2} (hc : X.calm = true) (hN : X.N.Nodup) (hi : X.N[i]? = some x) (hj : X.N[j]? = some y) (hij : i ≠ j)
    (hx : X.env.scope.names.lookup x = some .local) (hy : X.env.scope.names.lookup y = some .local) (ha : PA X [a, b] ta)
    (hw : swappedStores [.Tuple [.Name x px, .Name y py] kt pt] (.Tuple [a, b] k2 pt2) X.env = pure (some [x, y]))
    (hs : swapsWithSole [.Tuple [.Name x px, .Name y py] kt pt] (.Tuple [a, b] k2 pt2) pos.line X.env = pure false := by rfl) :
    PS X (.Assign [.Tuple [.Name x px, .Name y py] kt pt] (.Tuple [a, b] k2 pt2) pos) (tPar i j ta) := by
  intro pins s σ H D I h
  rw [exec_Assign_arm]
  refine wpAny_bind (wpAny_standAt ?_)
  rw [hs]
  refine wpAny_bind (wpAny_pure ?_)
  rw [if_neg (by decide)]
  refine wpAny_bind (Tuple_ (thn (ha _ pins s σ H _ I h) fun us s1 ⟨vs, H1, I1, r1, q1⟩ => ?_))
  obtain ⟨v, w, e1, q1⟩ := q1
  subst e1
  obtain ⟨u1, u2, rfl, rv, rw'⟩ : ∃ u1 u2, us = [u1, u2] ∧ RelV v u1 ∧ RelV w u2 := by
    cases r1 with
    | cons p q =>
      cases q with
      | cons p' q' =>
        cases q'
        exact ⟨_, _, rfl, p, p'⟩
  refine wpAny_newObj_type ?_ (by show 2 ≤ sizeLine; decide)
  have I2 : Inv X pins σ H1 { s1 with heap := s1.heap.push { cls := .type "tuple", data := .seq [u1, u2].toArray } } := I1.kept (t' := s1.toks) fun b o e => Heap.get?_push_of_some _ e
  rw [hw]
  refine wpAny_bind (wpAny_pure ?_)
  show wpAny (model X.prog X.w) X.A (do rule "assign.swapped-stores"; let items ← unpackItems (.ref s1.heap.objs.size) 2 none; assignInOrder [fun v => bindName X.env y v, fun v => bindName X.env x v] items.reverse; pure Flow.next) _ _ _
  refine wpAny_bind (wpAny_rule (wpAny_bind (unpackItems_tuple (items := #[u1, u2]) (I.ok.hd hc) (IsTup.new s1.heap _) fun h' hx' => ?_)))
  have I3 := I2.kept (h' := h') (t' := s1.toks) fun b o e => hx' b o (Nat.ne_of_lt (Heap.lt_size e)) e
  show wpAny _ _ (assignInOrder [fun v => bindName X.env y v, fun v => bindName X.env x v] [u2, u1] >>= fun _ => pure Flow.next) _ _ _
  refine wpAny_bind (assignInOrder_cons (wpAny_bindName (store_ok I3 hN hj (.inl hy) rw' (fun s2 I4 => ?_) (.inr hy))))
  refine assignInOrder_cons (wpAny_bindName (store_ok I4 hN hi (.inl hx) rv (fun s3 I5 => assignInOrder_nil (wpAny_pure ?_)) (.inr hx)))
  rw [List.set_comm _ _ (Ne.symm hij)] at I5
  exact ⟨_, H1, I5, q1⟩
end

section
variable {X : Cx} {pos : Pos}
end

structure It where
  go : Nat → Hp → Prop
  yld : Nat → Hp → V → Hp → Prop
  stop : Nat → Hp → Prop
def FpOk (X : Cx) (pins : List (Addr × Obj)) (H : Hp) (b : Addr) : Prop :=
  H b = none ∧ b ≠ X.env.locals ∧ b ∉ X.fs ∧ (b ∈ X.ex ∨ X.s₀.heap.objs.size ≤ b) ∧ (∀ x c, X.env.cells.lookup x = some c → c ≠ b) ∧ ∀ p ∈ X.pn ++ pins, p.1 ≠ b
theorem Inv.fpOk {X : Cx} {pins : List (Addr × Obj)} {σ : St} {H H' : Hp} {s : Shared} {b : Addr} (I : Inv X pins σ H s) (hb : s.heap.objs.size ≤ b) (hn : H' b = none) : FpOk X pins H' b := by
  refine ⟨hn, Nat.ne_of_gt (Nat.lt_of_lt_of_le I.lt hb), I.nofs hb, .inr (Nat.le_trans I.sz hb), fun x c e z => ?_, fun p hp z => ?_⟩
  · obtain ⟨v, q⟩ := I.cell x c e
    exact absurd (Nat.lt_of_lt_of_le q.lt (by rw [z]; exact hb)) (Nat.lt_irrefl _)
  · exact absurd (Nat.lt_of_lt_of_le (Heap.lt_size (I.pin p hp).1) (by rw [z]; exact hb)) (Nat.lt_irrefl _)
structure Turn (P : Program) (w : World) (K : PySem.W.Frag) (tg : Expr) (J : It) (fp : List Addr) (it : Addr) (tn : Nat → Heap → Prop) : Prop where
  mem : it ∈ fp
  obj : ∀ i h, tn i h → ∀ b ∈ fp, ∃ o, h.get? b = some o ∧ ∀ v, o.data ≠ .cell v
  keep : ∀ i h h', tn i h → (∀ b ∈ fp, ∀ o, h.get? b = some o → h'.get? b = some o) → tn i h'
  item : ∀ (X : Cx), X.prog = P → X.w = w → X.K = K → X.calm = true → ∀ (i : Nat) (pins : List (Addr × Obj)) (s : Shared) (σ : St) (H : Hp) (E : Value → Shared → Prop), Inv X pins σ H s → (∀ b ∈ fp, FpOk X pins H b) → tn i s.heap → J.go i H →
    wpAny (model P w) X.A (pyNext (.ref it)) (fun r s1 => ∃ u, r = some u ∧
      wpAny (model P w) X.A (letOwnedTupleGo tg (.ref it) u) (fun _ s2 => ∃ x H', Inv X pins σ H' s2 ∧ RelV x u ∧ J.yld i H x H' ∧ tn (i + 1) s2.heap ∧ ∀ b ∈ fp, H' b = none) E s1) E s
  done : ∀ (X : Cx), X.prog = P → X.w = w → X.K = K → X.calm = true → ∀ (i : Nat) (pins : List (Addr × Obj)) (s : Shared) (σ : St) (H : Hp) (E : Value → Shared → Prop), Inv X pins σ H s → (∀ b ∈ fp, FpOk X pins H b) → tn i s.heap → J.stop i H →
    wpAny (model P w) X.A (pyNext (.ref it)) (fun r s1 => r = none ∧ Inv X pins σ H s1) E s
  self : ∀ (A : Around) (i : Nat) (s : Shared) (Q : Value → Shared → Prop) (E : Value → Shared → Prop), tn i s.heap → Q (.ref it) s → wpAny (model P w) A (pyIter (.ref it)) Q E s
abbrev TI := St → Hp → (It → Hp → Prop) → Prop
def PIE (X : Cx) (pins : List (Addr × Obj)) (σ : St) (tg : Expr) (R : It → Hp → Prop) (itv : Value) (s2 : Shared) : Prop :=
  ∃ (it : Addr) (fp : List Addr) (tn : Nat → Heap → Prop) (J : It) (H' : Hp), itv = .ref it ∧ Inv X pins σ H' s2 ∧ Turn X.prog X.w X.K tg J fp it tn ∧ tn 0 s2.heap ∧ (∀ b ∈ fp, FpOk X pins H' b) ∧ R J H'
def PI (X : Cx) (tg iter : Expr) (wi : TI) : Prop :=
  ∀ (pins : List (Addr × Obj)) (s : Shared) (σ : St) (H : Hp) (R : It → Hp → Prop), Inv X pins σ H s → wi σ H R →
    wpAny (model X.prog X.w) X.A (eval iter X.env) (fun v s1 => wpAny (model X.prog X.w) X.A (pyIter v) (PIE X pins σ tg R) X.xe s1) X.xe s

theorem go_of {M : Model} {A : Around} {E : Value → Shared → Prop} {s : Shared} {tg : Expr} {it : Addr} {u : Value} {o : Obj} {n : String} {vs : Array Value} {Q : Unit → Shared → Prop} (ho : s.heap.get? it = some o) (hc : o.cls = .type n) (hd : o.data = .fields vs)
    (hn : ["enumerate", "zip", "dict_itemiterator", "dict_reverseitemiterator", "odict_iterator", "itertools.zip_longest", "itertools.pairwise"].contains n = false) (hQ : Q () s) : wpAny M A (letOwnedTupleGo tg (.ref it) u) Q E s := by
  unfold letOwnedTupleGo
  cases tg <;> first
    | exact wpAny_pure hQ
    | (cases u <;> first
        | exact wpAny_pure hQ
        | (refine wpAny_bind (wpAny_load ho ?_)
           rw [hc, hd]
           show wpAny M A (if (["enumerate", "zip", "dict_itemiterator", "dict_reverseitemiterator", "odict_iterator", "itertools.zip_longest", "itertools.pairwise"].contains n && vs[0]? == some (rawInt _)) = true then _ else _) Q E s
           rw [if_neg (by intro h; rw [hn, Bool.false_and] at h; cases h)]
           exact wpAny_pure hQ))

def Itl (K : PySem.W.Frag) (a : Addr) : It :=
  ⟨fun i H => ∃ xs x, SqL K H a xs ∧ xs[i]? = some x, fun i H x H' => H' = H ∧ ∀ xs, SqL K H a xs → xs[i]? = some x, fun i H => ∃ xs, SqL K H a xs ∧ xs.length ≤ i⟩
def Itt (K : PySem.W.Frag) (a : Addr) : It :=
  ⟨fun i H => ∃ xs x, SqT K H a xs ∧ xs[i]? = some x, fun i H x H' => H' = H ∧ ∀ xs, SqT K H a xs → xs[i]? = some x, fun i H => ∃ xs, SqT K H a xs ∧ xs.length ≤ i⟩
def Itr (lo : Int) (n : Nat) : It := ⟨fun i _ => i < n, fun i H x H' => H' = H ∧ x = .int (lo + i), fun i _ => n ≤ i⟩
theorem turn_list {P : Program} {w : World} {K : PySem.W.Frag} {tg : Expr} (a it : Addr) : Turn P w K tg (Itl K a) [it] it (fun i h => h.IsListIter it a i) where
  mem := by simp
  obj := fun i h st b hb => by
    have e : b = it := by simpa using hb
    subst e
    obtain ⟨o, e, c, d⟩ := st
    exact ⟨o, e, fun v z => by rw [d] at z; cases z⟩
  keep := fun i h h' st k => st.at fun o e => k it (by simp) o e
  item := by
    intro X hP hw hK hc i pins s σ H E I hf st hg
    subst hP hw hK
    obtain ⟨xs, x, hq, hx⟩ := hg
    obtain ⟨its, rv, p, hz⟩ := I.list hq
    obtain ⟨u, hu, ru⟩ := rv.get hx
    obtain ⟨f0, f1, f2, f3, f4, f5⟩ := hf it (by simp)
    refine wpAny_pyNext_list_item st p.isList (x := u) (by simpa using hu) fun h' st' sb => ?_
    have I1 : Inv X pins σ H { s with heap := h' } := I.turned (t' := s.toks) (fun b o hb e => (sb.2 b hb).trans e) f0 f1 f3 f4 f5
    obtain ⟨o, e, c, d⟩ := id st'
    exact ⟨u, rfl, go_of (s := { s with heap := h' }) e c d (by decide) ⟨x, H, I1, ru, ⟨rfl, fun ys hy => by rw [I.list_inj hy hq]; exact hx⟩, st', fun b hb => (hf b hb).1⟩⟩
  done := by
    intro X hP hw hK hc i pins s σ H E I hf st hg
    subst hP hw hK
    obtain ⟨xs, hq, hx⟩ := hg
    obtain ⟨its, rv, p, hz⟩ := I.list hq
    obtain ⟨f0, f1, f2, f3, f4, f5⟩ := hf it (by simp)
    have hl := rv.length
    exact wpAny_pyNext_list_end (I.ok.hd hc) st p.isList (by simp; omega) fun h' eb => ⟨rfl, I.turned (t' := s.toks) (fun b o hb e => eb b o hb e) f0 f1 f3 f4 f5⟩
  self := fun _ _ _ _ _ st h => wpAny_pyIter_listiter st h
theorem turn_tuple {P : Program} {w : World} {K : PySem.W.Frag} {tg : Expr} (a it : Addr) : Turn P w K tg (Itt K a) [it] it (fun i h => h.IsTupleIter it a i) where
  mem := by simp
  obj := fun i h st b hb => by
    have e : b = it := by simpa using hb
    subst e
    obtain ⟨o, e, c, d⟩ := st
    exact ⟨o, e, fun v z => by rw [d] at z; cases z⟩
  keep := fun i h h' st k => st.at fun o e => k it (by simp) o e
  item := by
    intro X hP hw hK hc i pins s σ H E I hf st hg
    subst hP hw hK
    obtain ⟨xs, x, hq, hx⟩ := hg
    obtain ⟨its, rv, p, hz⟩ := I.tuple hq
    obtain ⟨u, hu, ru⟩ := rv.get hx
    obtain ⟨f0, f1, f2, f3, f4, f5⟩ := hf it (by simp)
    refine wpAny_pyNext_tuple_item st (show s.heap.IsTuple a its.toArray from p) (x := u) (by simpa using hu) fun h' st' sb => ?_
    have I1 : Inv X pins σ H { s with heap := h' } := I.turned (t' := s.toks) (fun b o hb e => (sb.2 b hb).trans e) f0 f1 f3 f4 f5
    obtain ⟨o, e, c, d⟩ := id st'
    exact ⟨u, rfl, go_of (s := { s with heap := h' }) e c d (by decide) ⟨x, H, I1, ru, ⟨rfl, fun ys hy => by rw [I.tuple_inj hy hq]; exact hx⟩, st', fun b hb => (hf b hb).1⟩⟩
  done := by
    intro X hP hw hK hc i pins s σ H E I hf st hg
    subst hP hw hK
    obtain ⟨xs, hq, hx⟩ := hg
    obtain ⟨its, rv, p, hz⟩ := I.tuple hq
    obtain ⟨f0, f1, f2, f3, f4, f5⟩ := hf it (by simp)
    have hl := rv.length
    exact wpAny_pyNext_tuple_end (I.ok.hd hc) st (show s.heap.IsTuple a its.toArray from p) (by simp; omega) fun h' eb => ⟨rfl, I.turned (t' := s.toks) (fun b o hb e => eb b o hb e) f0 f1 f3 f4 f5⟩
  self := fun _ _ _ _ _ st h => wpAny_pyIter_tupleiter st h
theorem turn_range {P : Program} {w : World} {K : PySem.W.Frag} {tg : Expr} (it : Addr) (lo : Int) (n : Nat) : Turn P w K tg (Itr lo n) [it] it (fun i h => IsRangeIter h it (lo + (i : Nat) * 1) ((n : Int) - (i : Nat)) 1) where
  mem := by simp
  obj := fun i h st b hb => by
    have e : b = it := by simpa using hb
    subst e
    exact ⟨_, st, fun v z => by
      have z' : Data.fields _ = Data.cell v := z
      cases z'⟩
  keep := fun i h h' st k => k it (by simp) _ st
  item := by
    intro X hP hw hK hc i pins s σ H E I hf st hg
    subst hP hw hK
    obtain ⟨f0, f1, f2, f3, f4, f5⟩ := hf it (by simp)
    have W := Walks.range (prog := X.prog) (w := X.w) (I.ok.hd hc) it lo 1 n
    refine W.item i s _ _ hg st fun v h' tk hv st' kk => ?_
    obtain ⟨t, rfl⟩ := hv
    have I1 : Inv X pins σ H { s with heap := h', toks := tk } := I.turned (fun b o hb e => kk b o (by simpa using hb) e) f0 f1 f3 f4 f5
    refine ⟨_, rfl, go_of (s := { s with heap := h', toks := tk }) (n := "range_iterator") st' rfl rfl (by decide) ⟨.int (lo + i), H, I1, ⟨t, ?_⟩, ⟨rfl, rfl⟩, st', fun b hb => (hf b hb).1⟩⟩
    rw [Int.mul_one]
  done := by
    intro X hP hw hK hc i pins s σ H E I hf st hg
    subst hP hw hK
    obtain ⟨f0, f1, f2, f3, f4, f5⟩ := hf it (by simp)
    exact wpAny_pyNext_range_end (I.ok.hd hc) st (by have : n ≤ i := hg; omega) fun h' eb => ⟨rfl, I.turned (t' := s.toks) (fun b o hb e => eb b o hb e) f0 f1 f3 f4 f5⟩
  self := fun _ _ _ _ _ st h => wpAny_pyIter_rangeiter st h
end L2

namespace L2
open PySem PySem.Spec PyProof.Rows
section
variable {X : Cx} {tg : Expr}
def iList (K : PySem.W.Frag) (tl : TE) : TI := fun σ H R => tl σ H fun x H1 => ∃ a, x = .ref a ∧ (∃ xs, SqL K H1 a xs) ∧ R (Itl K a) H1
def iTup (K : PySem.W.Frag) (tl : TE) : TI := fun σ H R => tl σ H fun x H1 => ∃ a, x = .ref a ∧ (∃ xs, SqT K H1 a xs) ∧ R (Itt K a) H1
theorem pi_list {l : Expr} {tl : TE} (hl : PE X l tl) : PI X tg l (iList X.K tl) := by
  intro pins s σ H R I h
  refine thn (hl pins s σ H _ I h) fun v s1 ⟨x, H1, I1, r1, q1⟩ => ?_
  obtain ⟨a, e, ⟨xs, hq⟩, q⟩ := q1
  subst e
  cases r1
  obtain ⟨its, rv, p, hz⟩ := I1.list hq
  refine wpAny_pyIter_list p.isList ?_
  refine ⟨s1.heap.objs.size, [s1.heap.objs.size], _, _, H1, rfl, I1.kept (t' := s1.toks) fun b o e => Heap.get?_push_of_some _ e, turn_list a _, ⟨_, Heap.get?_push_size _ rfl, rfl, rfl⟩, fun b hb => ?_, q⟩
  have e : b = s1.heap.objs.size := by simpa using hb
  subst e
  exact I1.fpOk (Nat.le_refl _) (I1.hok.fresh (Nat.le_refl _))
theorem pi_tup {l : Expr} {tl : TE} (hl : PE X l tl) : PI X tg l (iTup X.K tl) := by
  intro pins s σ H R I h
  refine thn (hl pins s σ H _ I h) fun v s1 ⟨x, H1, I1, r1, q1⟩ => ?_
  obtain ⟨a, e, ⟨xs, hq⟩, q⟩ := q1
  subst e
  cases r1
  obtain ⟨its, rv, p, hz⟩ := I1.tuple hq
  refine wpAny_pyIter_tuple (show s1.heap.IsTuple a its.toArray from p) ?_
  refine ⟨s1.heap.objs.size, [s1.heap.objs.size], _, _, H1, rfl, I1.kept (t' := s1.toks) fun b o e => Heap.get?_push_of_some _ e, turn_tuple a _, ⟨_, Heap.get?_push_size _ rfl, rfl, rfl⟩, fun b hb => ?_, q⟩
  have e : b = s1.heap.objs.size := by simpa using hb
  subst e
  exact I1.fpOk (Nat.le_refl _) (I1.hok.fresh (Nat.le_refl _))
theorem range_it {pins : List (Addr × Obj)} {σ : St} {H : Hp} {s : Shared} {R : It → Hp → Prop} {E : Value → Shared → Prop} {lo hi : Int} {t u v : Tok} {tk : Nat} (I : Inv X pins σ H s) (h1 : -(2 ^ 62) ≤ lo) (h2 : lo < 2 ^ 62) (h3 : -(2 ^ 62) ≤ hi) (h4 : hi < 2 ^ 62)
    (q : R (Itr lo (hi - lo).toNat) H) : wpAny (model X.prog X.w) X.A (pyIter (.ref s.heap.objs.size)) (PIE X pins σ tg R) E { s with heap := s.heap.push { cls := .type "range", data := .fields #[.int lo t, .int hi u, .int 1 v] }, toks := tk } := by
  refine wpAny_pyIter_range (IsRange.new ..) (small_one h1 h2 h3 h4) ?_
  have I1 : Inv X pins σ H { s with heap := s.heap.push { cls := .type "range", data := .fields #[.int lo t, .int hi u, .int 1 v] }, toks := tk } := I.kept fun b o e => Heap.get?_push_of_some _ e
  refine ⟨(s.heap.push { cls := .type "range", data := .fields #[.int lo t, .int hi u, .int 1 v] }).objs.size, [(s.heap.push { cls := .type "range", data := .fields #[.int lo t, .int hi u, .int 1 v] }).objs.size], _, _, H, rfl,
    I1.kept (t' := tk) fun b o e => Heap.get?_push_of_some _ e, turn_range _ lo (hi - lo).toNat, ?_, fun b hb => ?_, q⟩
  · have e1 : lo + ((0 : Nat) : Int) * 1 = lo := by simp
    have e2 : (((hi - lo).toNat : Nat) : Int) - ((0 : Nat) : Int) = Builtin.Range.rangeSize lo hi 1 := by rw [rangeSize_one]; split <;> omega
    show IsRangeIter _ _ (lo + ((0 : Nat) : Int) * 1) ((((hi - lo).toNat : Nat) : Int) - ((0 : Nat) : Int)) 1
    rw [e1, e2]
    exact Heap.get?_push_size _ rfl
  · have e : b = (s.heap.push { cls := .type "range", data := .fields #[.int lo t, .int hi u, .int 1 v] }).objs.size := by simpa using hb
    subst e
    exact I1.fpOk (Nat.le_refl _) (I1.hok.fresh (Nat.le_refl _))
def iRng1 (ta : TA) : TI := fun σ H R => ta σ H fun vs H1 => ∃ j : Int, vs = [.int j] ∧ -(2 ^ 62) ≤ j ∧ j < 2 ^ 62 ∧ R (Itr 0 j.toNat) H1
def iRng2 (ta : TA) : TI := fun σ H R => ta σ H fun vs H1 => ∃ i j : Int, vs = [.int i, .int j] ∧ (-(2 ^ 62) ≤ i ∧ i < 2 ^ 62 ∧ -(2 ^ 62) ≤ j ∧ j < 2 ^ 62) ∧ R (Itr i (j - i).toNat) H1
theorem pi_range1 {a : Expr} {ta : TA} {p pos : Pos} (hg : Gl X "range") (hm : X.mg "range" = none) (ha : PA X [a] ta) (hs : starEach [a] X.env = [(false, eval a X.env)] := by rfl) : PI X tg (.Call (.Name "range" p) [a] [] pos) (iRng1 ta) := by
  intro pins s σ H R I h
  refine Call_ (ld_blt I hg hm boot_range (PyProof.Rows.callWith_type1 (thn (ha pos pins s σ H _ I h) fun us s1 ⟨vs, H1, I1, r1, q1⟩ => ?_) hs rfl))
  obtain ⟨j, e, q1, q2, q⟩ := q1
  subst e
  cases r1 with
  | cons r rr =>
    cases rr
    obtain ⟨t, rfl⟩ := r
    exact call_range_1 (range_it I1 (by omega) (by omega) q1 q2 (by simpa using q))
theorem pi_range2 {a b : Expr} {ta : TA} {p pos : Pos} (hg : Gl X "range") (hm : X.mg "range" = none) (ha : PA X [a, b] ta) (hs : starEach [a, b] X.env = [(false, eval a X.env), (false, eval b X.env)] := by rfl) (hs2 : starEach [b] X.env = [(false, eval b X.env)] := by rfl) :
    PI X tg (.Call (.Name "range" p) [a, b] [] pos) (iRng2 ta) := by
  intro pins s σ H R I h
  refine Call_ (ld_blt I hg hm boot_range (PyProof.Rows.callWith_type1 (thn (ha pos pins s σ H _ I h) fun us s1 ⟨vs, H1, I1, r1, q1⟩ => ?_) (by rw [hs, hs2]) (by rw [hs2]; rfl)))
  obtain ⟨i, j, e, ⟨q1, q2, q3, q4⟩, q⟩ := q1
  subst e
  cases r1 with
  | cons r rr =>
    cases rr with
    | cons r' rr =>
      cases rr
      obtain ⟨t, rfl⟩ := r
      obtain ⟨t', rfl⟩ := r'
      exact call_range_2 (range_it I1 q1 q2 q3 q4 q)

def tFor (wi : TI) (g : TG) (tb : TS) : TS := fun D σ H => wi σ H fun J H1 => ∃ W : Nat → Nat → St → Hp → Prop, (∃ m, W 0 m σ H1) ∧ ∀ i m σ H, W i m σ H →
  (J.stop i H ∧ D.nx σ H) ∨ (J.go i H ∧ ∃ N : St → Hp → Prop, (∀ σ' H', N σ' H' → ∃ m', m' < m ∧ W (i + 1) m' σ' H') ∧ ∀ x H', J.yld i H x H' → g x σ H' fun σ2 H2 => tb { D with nx := N, ct := N, bk := D.nx } σ2 H2)
def pinsAt (fp : List Addr) (h : Heap) : List (Addr × Obj) := fp.filterMap fun b => (h.get? b).map fun o => (b, o)
theorem mem_pinsAt {fp : List Addr} {h : Heap} {b : Addr} {o : Obj} (hb : b ∈ fp) (e : h.get? b = some o) : (b, o) ∈ pinsAt fp h := List.mem_filterMap.mpr ⟨b, hb, by rw [e]; rfl⟩
theorem of_pinsAt {fp : List Addr} {h : Heap} {p : Addr × Obj} (hp : p ∈ pinsAt fp h) : p.1 ∈ fp ∧ h.get? p.1 = some p.2 := by
  obtain ⟨b, hb, e⟩ := List.mem_filterMap.mp hp
  cases q : h.get? b with
  | none => rw [q] at e; cases e
  | some o =>
    rw [q] at e
    have e' : (b, o) = p := Option.some.inj e
    subst e'
    exact ⟨hb, q⟩
theorem Inv.pinned {pins : List (Addr × Obj)} {σ : St} {H : Hp} {s : Shared} {fp : List Addr} (I : Inv X pins σ H s) (hf : ∀ b ∈ fp, FpOk X pins H b) (ho : ∀ b ∈ fp, ∃ o, s.heap.get? b = some o ∧ ∀ v, o.data ≠ .cell v) : Inv X (pins ++ pinsAt fp s.heap) σ H s :=
  I.pins_of fun p hp => (List.mem_append.mp hp).elim (fun z => I.pin p (List.mem_append_right _ z)) fun z => by
    obtain ⟨hb, e⟩ := of_pinsAt z
    obtain ⟨f0, f1, f2, _⟩ := hf p.1 hb
    obtain ⟨o, e', d⟩ := ho p.1 hb
    rw [e] at e'; cases e'
    exact ⟨e, f0, f1, f2, d⟩
theorem Inv.unpinned {pins pl : List (Addr × Obj)} {σ : St} {H : Hp} {s : Shared} (I : Inv X (pins ++ pl) σ H s) : Inv X pins σ H s := I.pins_of fun p hp => I.pin p (List.mem_append_right _ (List.mem_append_left _ hp))
theorem ps_for {iter : Expr} {body : List Stmt} {wi : TI} {g : TG} {tb : TS} {pos : Pos} (hp : PassesOwn (model X.prog X.w) X.A X.env X.xe) (hc : X.calm = true) (hi : PI X tg iter wi) (hg : PG X tg g) (hb : PSs X body tb)
    (hs : ∀ x, foldedSetIterable iter X.env x = pure x := by intro _; rfl) : PS X (.For tg iter body [] pos) (tFor wi g tb) := by
  intro pins s σ H D I h
  refine wpAny_For (thn (hi pins s σ H _ I h) fun v s1 h1 => thn h1 fun itv s2 h2 => ?_) hs
  obtain ⟨it, fp, tn, J, H2, e, I2, T, st2, f2, W, ⟨m0, w0⟩, turn⟩ := h2
  subst e
  -- what stays true of the iterator's objects through the loop
  have stat : ∀ {H' : Hp}, (∀ b ∈ fp, H' b = none) → ∀ b ∈ fp, FpOk X pins H' b := fun hn b hb => ⟨hn b hb, (f2 b hb).2⟩
  refine codeAny_forLoop_any (fun n s' => ∃ i σ' H', Inv X pins σ' H' s' ∧ tn i s'.heap ∧ (∀ b ∈ fp, H' b = none) ∧ W i n σ' H') ?_ m0 ⟨0, σ, H2, I2, st2, fun b hb => (f2 b hb).1, w0⟩
  rintro n s3 ⟨i, σ3, H3, I3, st3, fr3, w3⟩
  rcases turn i n σ3 H3 w3 with ⟨stop, qn⟩ | ⟨go, N, hN, step⟩
  · refine wpAny_passesOwn hp (thn (T.done X rfl rfl rfl hc i pins s3 σ3 H3 X.xe I3 (stat fr3) st3 stop) fun r s4 ⟨hr, I4⟩ => ?_)
    subst hr
    exact wpAny_execs_nil ⟨σ3, H3, I4, qn⟩
  · refine wpAny_passesOwn hp (thn (T.item X rfl rfl rfl hc i pins s3 σ3 H3 X.xe I3 (stat fr3) st3 go) fun r s4 ⟨u, hr, h4⟩ => ?_)
    subst hr
    refine wpAny_passesOwn hp (thn h4 fun _ s5 ⟨x, H5, I5, r5, y5, st5, fr5⟩ => ?_)
    have I5' := I5.pinned (stat fr5) (T.obj _ _ st5)
    refine wpAny_passesOwn hp (thn (hg _ s5 σ3 H5 x u _ I5' r5 (step x H5 y5)) fun _ s6 ⟨σ6, H6, I6, q6⟩ => ?_)
    refine wpAny_passesOwn hp (thn (hb _ s6 σ6 H6 _ I6 q6) fun f s7 q7 => ?_)
    have again : ∀ {σ7 : St} {H7 : Hp}, Inv X (pins ++ pinsAt fp s5.heap) σ7 H7 s7 → N σ7 H7 → ∃ m, m < n ∧ ∃ i σ' H', Inv X pins σ' H' s7 ∧ tn i s7.heap ∧ (∀ b ∈ fp, H' b = none) ∧ W i m σ' H' := fun {σ7 H7} I7 n7 => by
      obtain ⟨m', hm, w7⟩ := hN σ7 H7 n7
      refine ⟨m', hm, i + 1, σ7, H7, I7.unpinned, T.keep _ _ _ st5 fun b hb o e => (I7.pin (b, o) (List.mem_append_right _ (List.mem_append_right _ (mem_pinsAt hb e)))).1, fun b hb => ?_, w7⟩
      obtain ⟨o, e, d⟩ := T.obj _ _ st5 b hb
      exact (I7.pin (b, o) (List.mem_append_right _ (List.mem_append_right _ (mem_pinsAt hb e)))).2.1
    cases f with
    | next => obtain ⟨σ7, H7, I7, n7⟩ := q7; exact again I7 n7
    | cont => obtain ⟨σ7, H7, I7, n7⟩ := q7; exact again I7 n7
    | brk => obtain ⟨σ7, H7, I7, q7⟩ := q7; exact ⟨σ7, H7, I7.unpinned, q7⟩
    | ret v => obtain ⟨x7, σ7, H7, I7, r7, q7⟩ := q7; exact ⟨x7, σ7, H7, I7.unpinned, r7, q7⟩
end

theorem for_list {K : PySem.W.Frag} {a : Addr} {xs : List V} {g : TG} {tb : TS} {D : Ends} {σ : St} {H : Hp} (Pv : Nat → St → Hp → Prop) (h0 : Pv 0 σ H) (hl : ∀ i σ H, i ≤ xs.length → Pv i σ H → SqL K H a xs)
    (hs : ∀ i x σ H, xs[i]? = some x → Pv i σ H → g x σ H fun σ2 H2 => tb { D with nx := Pv (i + 1), ct := Pv (i + 1), bk := D.nx } σ2 H2) (hd : ∀ σ H, Pv xs.length σ H → D.nx σ H) :
    ∃ W : Nat → Nat → St → Hp → Prop, (∃ m, W 0 m σ H) ∧ ∀ i m σ H, W i m σ H →
      ((Itl K a).stop i H ∧ D.nx σ H) ∨ ((Itl K a).go i H ∧ ∃ N : St → Hp → Prop, (∀ σ' H', N σ' H' → ∃ m', m' < m ∧ W (i + 1) m' σ' H') ∧ ∀ x H', (Itl K a).yld i H x H' → g x σ H' fun σ2 H2 => tb { D with nx := N, ct := N, bk := D.nx } σ2 H2) := by
  refine ⟨fun i m σ H => m = xs.length - i ∧ i ≤ xs.length ∧ Pv i σ H, ⟨xs.length, by simp, Nat.zero_le _, h0⟩, ?_⟩
  rintro i m σ H ⟨rfl, hi, p⟩
  have q := hl i σ H hi p
  by_cases hlt : i < xs.length
  · refine .inr ⟨⟨xs, xs[i], q, by simp [hlt]⟩, Pv (i + 1), fun σ' H' p' => ⟨xs.length - (i + 1), by omega, rfl, hlt, p'⟩, fun x H' y => ?_⟩
    obtain ⟨e, y⟩ := y
    subst e
    exact hs i x σ _ (y xs q) p
  · have e : i = xs.length := by omega
    subst e
    exact .inl ⟨⟨xs, q, Nat.le_refl _⟩, hd σ H p⟩
theorem for_tup {K : PySem.W.Frag} {a : Addr} {xs : List V} {g : TG} {tb : TS} {D : Ends} {σ : St} {H : Hp} (Pv : Nat → St → Hp → Prop) (h0 : Pv 0 σ H) (hl : ∀ i σ H, i ≤ xs.length → Pv i σ H → SqT K H a xs)
    (hs : ∀ i x σ H, xs[i]? = some x → Pv i σ H → g x σ H fun σ2 H2 => tb { D with nx := Pv (i + 1), ct := Pv (i + 1), bk := D.nx } σ2 H2) (hd : ∀ σ H, Pv xs.length σ H → D.nx σ H) :
    ∃ W : Nat → Nat → St → Hp → Prop, (∃ m, W 0 m σ H) ∧ ∀ i m σ H, W i m σ H →
      ((Itt K a).stop i H ∧ D.nx σ H) ∨ ((Itt K a).go i H ∧ ∃ N : St → Hp → Prop, (∀ σ' H', N σ' H' → ∃ m', m' < m ∧ W (i + 1) m' σ' H') ∧ ∀ x H', (Itt K a).yld i H x H' → g x σ H' fun σ2 H2 => tb { D with nx := N, ct := N, bk := D.nx } σ2 H2) := by
  refine ⟨fun i m σ H => m = xs.length - i ∧ i ≤ xs.length ∧ Pv i σ H, ⟨xs.length, by simp, Nat.zero_le _, h0⟩, ?_⟩
  rintro i m σ H ⟨rfl, hi, p⟩
  have q := hl i σ H hi p
  by_cases hlt : i < xs.length
  · refine .inr ⟨⟨xs, xs[i], q, by simp [hlt]⟩, Pv (i + 1), fun σ' H' p' => ⟨xs.length - (i + 1), by omega, rfl, hlt, p'⟩, fun x H' y => ?_⟩
    obtain ⟨e, y⟩ := y
    subst e
    exact hs i x σ _ (y xs q) p
  · have e : i = xs.length := by omega
    subst e
    exact .inl ⟨⟨xs, q, Nat.le_refl _⟩, hd σ H p⟩
theorem for_range {lo : Int} {n : Nat} {g : TG} {tb : TS} {D : Ends} {σ : St} {H : Hp} (Pv : Nat → St → Hp → Prop) (h0 : Pv 0 σ H)
    (hs : ∀ i σ H, i < n → Pv i σ H → g (.int (lo + i)) σ H fun σ2 H2 => tb { D with nx := Pv (i + 1), ct := Pv (i + 1), bk := D.nx } σ2 H2) (hd : ∀ σ H, Pv n σ H → D.nx σ H) :
    ∃ W : Nat → Nat → St → Hp → Prop, (∃ m, W 0 m σ H) ∧ ∀ i m σ H, W i m σ H →
      ((Itr lo n).stop i H ∧ D.nx σ H) ∨ ((Itr lo n).go i H ∧ ∃ N : St → Hp → Prop, (∀ σ' H', N σ' H' → ∃ m', m' < m ∧ W (i + 1) m' σ' H') ∧ ∀ x H', (Itr lo n).yld i H x H' → g x σ H' fun σ2 H2 => tb { D with nx := N, ct := N, bk := D.nx } σ2 H2) := by
  refine ⟨fun i m σ H => m = n - i ∧ i ≤ n ∧ Pv i σ H, ⟨n, by simp, Nat.zero_le _, h0⟩, ?_⟩
  rintro i m σ H ⟨rfl, hi, p⟩
  by_cases hlt : i < n
  · refine .inr ⟨hlt, Pv (i + 1), fun σ' H' p' => ⟨n - (i + 1), by omega, rfl, hlt, p'⟩, fun x H' y => ?_⟩
    obtain ⟨e, y⟩ := y
    subst e y
    exact hs i σ _ hlt p
  · have e : i = n := by omega
    subst e
    exact .inl ⟨Nat.le_refl _, hd σ H p⟩
end L2

namespace L2
open PySem PySem.Spec PyProof.Rows

abbrev R2 := V → V → Hp → VK → Prop
def OpR (X : Cx) (f : Value → Value → Sem Value) (r : R2) : Prop :=
  ∀ (pins : List (Addr × Obj)) (s : Shared) (σ : St) (H : Hp) (x y : V) (v u : Value) (Q : VK), Inv X pins σ H s → RelV x v → RelV y u → r x y H Q →
    wpAny (model X.prog X.w) X.A (f v u) (EP X pins σ Q) X.xe s
def UnR (X : Cx) (f : Value → Sem Value) (r : V → Hp → VK → Prop) : Prop :=
  ∀ (pins : List (Addr × Obj)) (s : Shared) (σ : St) (H : Hp) (x : V) (v : Value) (Q : VK), Inv X pins σ H s → RelV x v → r x H Q →
    wpAny (model X.prog X.w) X.A (f v) (EP X pins σ Q) X.xe s
def CallR (X : Cx) (f : Value) (r : List V → Hp → VK → Prop) : Prop :=
  ∀ (pins : List (Addr × Obj)) (s : Shared) (σ : St) (H : Hp) (xs : List V) (us : List Value) (Q : VK), Inv X pins σ H s → Vals xs us → r xs H Q →
    wpAny (model X.prog X.w) X.A (call f us) (EP X pins σ Q) X.xe s
def tOp (r : R2) (ta tb : TE) : TE := fun σ H Q => ta σ H fun x H1 => tb σ H1 fun y H2 => r x y H2 Q
def tUn (r : V → Hp → VK → Prop) (ta : TE) : TE := fun σ H Q => ta σ H fun x H1 => r x H1 Q
def rI (C : Int → Int → Prop) (g : Int → Int → V) : R2 := fun x y H Q => ∃ i j, x = .int i ∧ y = .int j ∧ C i j ∧ Q (g i j) H
def rI0 (g : Int → Int → V) : R2 := fun x y H Q => ∃ i j, x = .int i ∧ y = .int j ∧ Q (g i j) H
def rU (g : Int → V) : V → Hp → VK → Prop := fun x H Q => ∃ i, x = .int i ∧ Q (g i) H

section
variable {X : Cx} {a b c : Expr} {ta tb tc : TE} {pos : Pos}

theorem binT (ha : PE X a ta) (hb : PE X b tb) {pins : List (Addr × Obj)} {s : Shared} {σ : St} {H : Hp} {R : V → V → Hp → Prop} (I : Inv X pins σ H s)
    (h : ta σ H fun x H1 => tb σ H1 fun y H2 => R x y H2) {Q : Value → Shared → Prop} {f : Value → Value → Sem Value}
    (hf : ∀ v u s2 x y H2, Inv X pins σ H2 s2 → RelV x v → RelV y u → R x y H2 → wpAny (model X.prog X.w) X.A (f v u) Q X.xe s2) :
    wpAny (model X.prog X.w) X.A (eval a X.env) (fun v s₁ => wpAny (model X.prog X.w) X.A (eval b X.env) (fun u s₂ => wpAny (model X.prog X.w) X.A (f v u) Q X.xe s₂) X.xe s₁) X.xe s := by
  refine thn (ha pins s σ H _ I h) fun v s1 ⟨x, H1, I1, r1, q1⟩ => ?_
  refine thn (hb pins s1 σ H1 _ I1 q1) fun u s2 ⟨y, H2, I2, r2, q2⟩ => ?_
  exact hf v u s2 x y H2 I2 r1 r2 q2

theorem pe_op {op : Operator} {r : R2} (ho : OpR X (binaryOp op) r) (ha : PE X a ta) (hb : PE X b tb) : PE X (.BinOp a op b pos) (tOp r ta tb) := by
  intro pins s σ H Q I h
  exact wpAny_BinOp (binT ha hb I h fun v u s2 x y H2 I2 rx ry q => ho pins s2 σ H2 x y v u Q I2 rx ry q)
theorem pe_un {op : UnaryOp} {r : V → Hp → VK → Prop} (ho : UnR X (unaryOp op) r) (ha : PE X a ta) : PE X (.UnaryOp op a pos) (tUn r ta) := by
  intro pins s σ H Q I h
  exact UnaryOp_ (thn (ha pins s σ H _ I h) fun v s1 ⟨x, H1, I1, r1, q1⟩ => ho pins s1 σ H1 x v Q I1 r1 q1)
theorem opI {f : Value → Value → Sem Value} {C : Int → Int → Prop} {g : Int → Int → Int}
    (rule : ∀ (i j : Int) (t u : Tok) (s : Shared) (Q : Value → Shared → Prop) (E : Value → Shared → Prop), C i j → Q (.int (g i j) s.toks) { s with toks := s.toks + 1 } → wpAny (model X.prog X.w) X.A (f (.int i t) (.int j u)) Q E s) :
    OpR X f (rI C fun i j => .int (g i j)) := by
  intro pins s σ H x y v u Q I rx ry h
  obtain ⟨i, j, rfl, rfl, hc, q⟩ := h
  obtain ⟨t, rfl⟩ := rx
  obtain ⟨t', rfl⟩ := ry
  exact rule i j t t' s _ _ hc ⟨.int (g i j), H, I.tok _, ⟨_, rfl⟩, q⟩
theorem opI0 {f : Value → Value → Sem Value} {g : Int → Int → Int}
    (rule : ∀ (i j : Int) (t u : Tok) (s : Shared) (Q : Value → Shared → Prop) (E : Value → Shared → Prop), Q (.int (g i j) s.toks) { s with toks := s.toks + 1 } → wpAny (model X.prog X.w) X.A (f (.int i t) (.int j u)) Q E s) :
    OpR X f (rI0 fun i j => .int (g i j)) := by
  intro pins s σ H x y v u Q I rx ry h
  obtain ⟨i, j, rfl, rfl, q⟩ := h
  obtain ⟨t, rfl⟩ := rx
  obtain ⟨t', rfl⟩ := ry
  exact rule i j t t' s _ _ ⟨.int (g i j), H, I.tok _, ⟨_, rfl⟩, q⟩
theorem opB0 {f : Value → Value → Sem Value} {g : Int → Int → Bool}
    (rule : ∀ (i j : Int) (t u : Tok) (s : Shared) (Q : Value → Shared → Prop) (E : Value → Shared → Prop), Q (.bool (g i j)) s → wpAny (model X.prog X.w) X.A (f (.int i t) (.int j u)) Q E s) :
    OpR X f (rI0 fun i j => .bl (g i j)) := by
  intro pins s σ H x y v u Q I rx ry h
  obtain ⟨i, j, rfl, rfl, q⟩ := h
  obtain ⟨t, rfl⟩ := rx
  obtain ⟨t', rfl⟩ := ry
  exact rule i j t t' s _ _ ⟨.bl (g i j), H, I, rfl, q⟩

def CDiv (i j : Int) : Prop := 0 < j ∧ j < 1073741824
def CPow (i j : Int) : Prop := 0 ≤ j ∧ j ≤ 1000000 ∧ i.natAbs < 2 ^ 64
def CMul (i j : Int) : Prop := (-(2 ^ 64) < i ∧ i < 2 ^ 64) ∨ (-(2 ^ 64) < j ∧ j < 2 ^ 64)
theorem CMul.ok {i j : Int} (h : CMul i j) : IntMulOk i j := by
  rcases h with ⟨h1, h2⟩ | ⟨h1, h2⟩
  · exact .of_left (intBits_le_64 h1 h2)
  · exact .of_right (intBits_le_64 h1 h2)
theorem op_add : OpR X (binaryOp .Add) (rI0 fun i j => .int (i + j)) := opI0 fun _ _ _ _ _ _ _ q => add_int q
theorem op_sub : OpR X (binaryOp .Sub) (rI0 fun i j => .int (i - j)) := opI0 fun _ _ _ _ _ _ _ q => sub_int q
theorem op_mul : OpR X (binaryOp .Mult) (rI CMul fun i j => .int (i * j)) := opI fun _ _ _ _ _ _ _ hc q => mul_int q hc.ok
theorem op_fdiv : OpR X (binaryOp .FloorDiv) (rI CDiv fun i j => .int (i / j)) := opI fun i j _ _ _ _ _ hc q => by
  have h1 : (0 : Int) < j := hc.1
  have h2 : j < 1073741824 := hc.2
  exact floordiv_int (by omega) (by rw [Int.fdiv_eq_ediv_of_nonneg i (by omega)]; exact q) (.inl (PyProof.noPylong_small (by omega)))
theorem op_mod : OpR X (binaryOp .Mod) (rI (fun _ j => 0 < j) fun i j => .int (i % j)) := opI fun i j _ _ _ _ _ hc q => by
  have h1 : (0 : Int) < j := hc
  exact mod_int' (by omega) (by rw [Int.fmod_eq_emod_of_nonneg i (by omega)]; exact q)
theorem op_pow : OpR X (binaryOp .Pow) (rI CPow fun i j => .int (i ^ j.toNat)) := opI fun _ _ _ _ _ _ _ hc q => pow_int_small hc.1 hc.2.1 hc.2.2 q
theorem unI {f : Value → Sem Value} {g : Int → Int}
    (rule : ∀ (i : Int) (t : Tok) (s : Shared) (Q : Value → Shared → Prop) (E : Value → Shared → Prop), Q (.int (g i) s.toks) { s with toks := s.toks + 1 } → wpAny (model X.prog X.w) X.A (f (.int i t)) Q E s) :
    UnR X f (rU fun i => .int (g i)) := by
  intro pins s σ H x v Q I rx h
  obtain ⟨i, rfl, q⟩ := h
  obtain ⟨t, rfl⟩ := rx
  exact rule i t s _ _ ⟨.int (g i), H, I.tok _, ⟨_, rfl⟩, q⟩
theorem un_neg : UnR X (unaryOp .USub) (rU fun i => .int (-i)) := unI fun _ _ _ _ _ q => neg_int q
end

def scal : V → V → Bool
  | .non, .non => true | .non, .int _ => true | .int _, .non => true | .non, .bl _ => true | .bl _, .non => true | .non, .str _ => true | .str _, .non => true
  | .int _, .int _ => true | .bl _, .bl _ => true | .str _, .str _ => true | .byt _, .byt _ => true
  | .int _, .str _ => true | .str _, .int _ => true | .bl _, .str _ => true | .str _, .bl _ => true
  | _, _ => false
def rEq : R2 := fun x y H Q => scal x y = true ∧ Q (.bl (decide (x = y))) H
def rNe : R2 := fun x y H Q => scal x y = true ∧ Q (.bl (!decide (x = y))) H

theorem dec_int {i j : Int} : decide (V.int i = V.int j) = (i == j) := by
  rw [Bool.eq_iff_iff]
  simp
theorem dec_bl {i j : Bool} : decide (V.bl i = V.bl j) = (i == j) := by
  rw [Bool.eq_iff_iff]
  simp
theorem dec_str {i j : Str} : decide (V.str i = V.str j) = (i == j) := by
  rw [Bool.eq_iff_iff]
  simp
theorem dec_byt {i j : Array UInt8} : decide (V.byt i = V.byt j) = (i.toList == j.toList) := by
  rw [Bool.eq_iff_iff]
  cases i
  cases j
  simp

section
variable {X : Cx} {a b c : Expr} {ta tb tc : TE} {pos : Pos}
theorem fin_bl {pins : List (Addr × Obj)} {σ : St} {H : Hp} {s : Shared} {Q : VK} {k k' : Bool} (I : Inv X pins σ H s) (q : Q (.bl k) H) (e : k = k') : EP X pins σ Q (.bool k') s := by
  subst e
  exact ⟨.bl k, H, I, rfl, q⟩
theorem op_eq : OpR X (compareOp .Eq) rEq := by
  intro pins s σ H x y v u Q I rx ry h
  obtain ⟨hs, q⟩ := h
  cases x with
  | non =>
    cases rx
    cases y with
    | non => cases ry; exact PySem.EqNone.eq_none_none (fin_bl I q (by simp))
    | bl j => cases ry; exact PySem.EqNone.eq_none_bool (fin_bl I q (by simp))
    | int j => obtain ⟨t', rfl⟩ := ry; exact PySem.EqNone.eq_none_int (fin_bl I q (by simp))
    | str j => obtain ⟨t', rfl⟩ := ry; exact PySem.EqNone.eq_none_str (fin_bl I q (by simp))
    | _ => exact absurd (show false = true from hs) Bool.false_ne_true
  | bl i =>
    cases rx
    cases y with
    | non => cases ry; exact PySem.EqNone.eq_bool_none (fin_bl I q (by simp))
    | bl j => cases ry; exact eq_bool (fin_bl I q dec_bl)
    | str j => obtain ⟨t', rfl⟩ := ry; exact PySem.EqMixed.eq_bool_str (fin_bl I q (by simp))
    | _ => exact absurd (show false = true from hs) Bool.false_ne_true
  | int i =>
    obtain ⟨t, rfl⟩ := rx
    cases y with
    | non => cases ry; exact PySem.EqNone.eq_int_none (fin_bl I q (by simp))
    | int j => obtain ⟨t', rfl⟩ := ry; exact eq_int (fin_bl I q dec_int)
    | str j => obtain ⟨t', rfl⟩ := ry; exact PySem.EqMixed.eq_int_str (fin_bl I q (by simp))
    | _ => exact absurd (show false = true from hs) Bool.false_ne_true
  | str i =>
    obtain ⟨t, rfl⟩ := rx
    cases y with
    | non => cases ry; exact PySem.EqNone.eq_str_none (fin_bl I q (by simp))
    | bl j => cases ry; exact PySem.EqMixed.eq_str_bool (fin_bl I q (by simp))
    | int j => obtain ⟨t', rfl⟩ := ry; exact PySem.EqMixed.eq_str_int (fin_bl I q (by simp))
    | str j => obtain ⟨t', rfl⟩ := ry; exact eq_str (fin_bl I q dec_str)
    | _ => exact absurd (show false = true from hs) Bool.false_ne_true
  | byt i =>
    obtain ⟨t, rfl⟩ := rx
    cases y with
    | byt j => obtain ⟨t', rfl⟩ := ry; exact PySem.W.eq_bytes (fin_bl I q dec_byt)
    | _ => exact absurd (show false = true from hs) Bool.false_ne_true
  | _ => cases y <;> exact absurd (show false = true from hs) Bool.false_ne_true
theorem op_ne : OpR X (compareOp .NotEq) rNe := by
  intro pins s σ H x y v u Q I rx ry h
  obtain ⟨hs, q⟩ := h
  cases x with
  | non =>
    cases rx
    cases y with
    | non => cases ry; exact PySem.EqNone.ne_none_none (fin_bl I q (by simp))
    | bl j => cases ry; exact PySem.EqNone.ne_none_bool (fin_bl I q (by simp))
    | int j => obtain ⟨t', rfl⟩ := ry; exact PySem.EqNone.ne_none_int (fin_bl I q (by simp))
    | str j => obtain ⟨t', rfl⟩ := ry; exact PySem.EqNone.ne_none_str (fin_bl I q (by simp))
    | _ => exact absurd (show false = true from hs) Bool.false_ne_true
  | bl i =>
    cases rx
    cases y with
    | non => cases ry; exact PySem.EqNone.ne_bool_none (fin_bl I q (by simp))
    | bl j => cases ry; exact ne_bool (fin_bl I q (congrArg not dec_bl))
    | str j => obtain ⟨t', rfl⟩ := ry; exact PySem.EqMixed.ne_bool_str (fin_bl I q (by simp))
    | _ => exact absurd (show false = true from hs) Bool.false_ne_true
  | int i =>
    obtain ⟨t, rfl⟩ := rx
    cases y with
    | non => cases ry; exact PySem.EqNone.ne_int_none (fin_bl I q (by simp))
    | int j => obtain ⟨t', rfl⟩ := ry; exact ne_int (fin_bl I q (congrArg not dec_int))
    | str j => obtain ⟨t', rfl⟩ := ry; exact PySem.EqMixed.ne_int_str (fin_bl I q (by simp))
    | _ => exact absurd (show false = true from hs) Bool.false_ne_true
  | str i =>
    obtain ⟨t, rfl⟩ := rx
    cases y with
    | non => cases ry; exact PySem.EqNone.ne_str_none (fin_bl I q (by simp))
    | bl j => cases ry; exact PySem.EqMixed.ne_str_bool (fin_bl I q (by simp))
    | int j => obtain ⟨t', rfl⟩ := ry; exact PySem.EqMixed.ne_str_int (fin_bl I q (by simp))
    | str j => obtain ⟨t', rfl⟩ := ry; exact ne_str (fin_bl I q (congrArg not dec_str))
    | _ => exact absurd (show false = true from hs) Bool.false_ne_true
  | byt i =>
    obtain ⟨t, rfl⟩ := rx
    cases y with
    | byt j => obtain ⟨t', rfl⟩ := ry; exact PySem.W.ne_bytes (fin_bl I q (congrArg not dec_byt))
    | _ => exact absurd (show false = true from hs) Bool.false_ne_true
  | _ => cases y <;> exact absurd (show false = true from hs) Bool.false_ne_true

theorem op_lt : OpR X (compareOp .Lt) (rI0 fun i j => .bl (decide (i < j))) := opB0 fun _ _ _ _ _ _ _ q => lt_int q
theorem op_le : OpR X (compareOp .LtE) (rI0 fun i j => .bl (decide (i ≤ j))) := opB0 fun _ _ _ _ _ _ _ q => le_int q
theorem op_gt : OpR X (compareOp .Gt) (rI0 fun i j => .bl (decide (j < i))) := opB0 fun _ _ _ _ _ _ _ q => gt_int q
theorem op_ge : OpR X (compareOp .GtE) (rI0 fun i j => .bl (decide (j ≤ i))) := opB0 fun _ _ _ _ _ _ _ q => ge_int q
theorem op_in_str : OpR X (compareOp .In) (fun x y H Q => ∃ i j, x = .str i ∧ y = .str j ∧ Q (.bl (!(Builtin.Str.occurrences j i 0 j.length 1).isEmpty)) H) := by
  intro pins s σ H x y v u Q I rx ry h
  obtain ⟨i, j, rfl, rfl, q⟩ := h
  obtain ⟨t, rfl⟩ := rx
  obtain ⟨t', rfl⟩ := ry
  exact in_str (fin_bl I q rfl)

theorem op_isN : OpR X (compareOp .Is) (fun x y H Q => y = .non ∧ Q (.bl (decide (x = .non))) H) := by
  intro pins s σ H x y v u Q I rx ry h
  obtain ⟨rfl, q⟩ := h
  cases ry
  refine is_none_gen (fin_bl I q ?_)
  cases x <;> first
    | (cases rx; rfl)
    | (obtain ⟨t, rfl⟩ := rx; rfl)
theorem op_notN : OpR X (compareOp .IsNot) (fun x y H Q => y = .non ∧ Q (.bl (!decide (x = .non))) H) := by
  intro pins s σ H x y v u Q I rx ry h
  obtain ⟨rfl, q⟩ := h
  cases ry
  refine isnot_none_gen (fin_bl I q ?_)
  cases x <;> first
    | (cases rx; rfl)
    | (obtain ⟨t, rfl⟩ := rx; rfl)

theorem nomark (b : Expr) {op : CmpOp} (h : op ≠ .In := by decide) (h2 : op ≠ .NotIn := by decide) : behindInMarks op b = false := by
  have e1 : (op == CmpOp.In) = false := by cases op <;> first | rfl | exact absurd rfl h
  have e2 : (op == CmpOp.NotIn) = false := by cases op <;> first | rfl | exact absurd rfl h2
  cases b <;> simp [behindInMarks, e1, e2]
theorem pe_cmpR {op : CmpOp} {r : R2} (ho : OpR X (compareOp op) r) (ha : PE X a ta) (hb : PE X b tb) (hm : behindInMarks op b = false) : PE X (.Compare a [op] [b] pos) (tOp r ta tb) := by
  intro pins s σ H Q I h
  exact wpAny_Compare1 (binT ha hb I h fun v u s2 x y H2 I2 rx ry q => ho pins s2 σ H2 x y v u Q I2 rx ry q) hm
def tTest (t : TE) : TT := fun σ H Q => t σ H fun x H' => ∃ k, x = .bl k ∧ Q k H'
theorem pt_cmpR {op : CmpOp} {r : R2} (ho : OpR X (compareOp op) r) (ha : PE X a ta) (hb : PE X b tb) (hm : behindInMarks op b = false) : PT X (.Compare a [op] [b] pos) (tTest (tOp r ta tb)) := by
  intro pins s σ H Q I h
  refine wpAny_isTrue_Compare1 (thn (ha pins s σ H _ I h) fun v s1 ⟨x, H1, I1, r1, q1⟩ => thn (hb pins s1 σ H1 _ I1 q1) fun u s2 ⟨y, H2, I2, r2, q2⟩ =>
    thn (ho pins s2 σ H2 x y v u _ I2 r1 r2 q2) fun c s3 ⟨z, H3, I3, r3, k, e, q3⟩ => ?_) hm
  subst e
  cases r3
  exact wpAny_truthy_bool ⟨H3, I3, q3⟩
def tChain (r r' : R2) (ta tb tc : TE) : TE := fun σ H Q => ta σ H fun x H1 => tb σ H1 fun y H2 => r x y H2 fun z H3 => ∃ k, z = .bl k ∧
  (if k = true then tc σ H3 fun w' H4 => r' y w' H4 Q else Q (.bl false) H3)
theorem pe_chain {op op' : CmpOp} {r r' : R2} (ho : OpR X (compareOp op) r) (ho' : OpR X (compareOp op') r') (ha : PE X a ta) (hb : PE X b tb) (hc : PE X c tc)
    (hm : lastMarks [op, op'] [b, c] = false := by with_unfolding_all rfl) : PE X (.Compare a [op, op'] [b, c] pos) (tChain r r' ta tb tc) := by
  intro pins s σ H Q I h
  refine Compare_chain (thn (ha pins s σ H _ I h) fun v s1 ⟨x, H1, I1, r1, q1⟩ => chain_link (thn (hb pins s1 σ H1 _ I1 q1) fun u s2 ⟨y, H2, I2, r2, q2⟩ =>
    thn (ho pins s2 σ H2 x y v u _ I2 r1 r2 q2) fun d s3 ⟨z, H3, I3, r3, k, e, q3⟩ => ?_)) hm
  subst e
  cases r3
  refine wpAny_truthy_bool ?_
  cases k with
  | false => exact ite_ff ⟨.bl false, H3, I3, rfl, q3⟩
  | true => exact ite_tt (chain_last (thn (hc pins s3 σ H3 _ I3 q3) fun w' s4 ⟨z', H4, I4, r4, q4⟩ => ho' pins s4 σ H4 y z' u w' Q I4 r2 r4 q4))
theorem pt_chain {op op' : CmpOp} {r r' : R2} (ho : OpR X (compareOp op) r) (ho' : OpR X (compareOp op') r') (ha : PE X a ta) (hb : PE X b tb) (hc : PE X c tc)
    (hm : lastMarks [op, op'] [b, c] = false := by with_unfolding_all rfl) : PT X (.Compare a [op, op'] [b, c] pos) (tTest (tChain r r' ta tb tc)) := by
  intro pins s σ H Q I h
  refine isTrue_chain (thn (ha pins s σ H _ I h) fun v s1 ⟨x, H1, I1, r1, q1⟩ => test_link (thn (hb pins s1 σ H1 _ I1 q1) fun u s2 ⟨y, H2, I2, r2, q2⟩ =>
    thn (ho pins s2 σ H2 x y v u _ I2 r1 r2 q2) fun d s3 ⟨z, H3, I3, r3, k, e, q3⟩ => ?_)) hm
  subst e
  cases r3
  refine wpAny_truthy_bool ?_
  cases k with
  | false =>
    obtain ⟨k', e', q'⟩ := q3
    cases e'
    exact ite_ff ⟨H3, I3, q'⟩
  | true =>
    refine ite_tt (test_last (thn (hc pins s3 σ H3 _ I3 q3) fun w' s4 ⟨z', H4, I4, r4, q4⟩ => thn (ho' pins s4 σ H4 y z' u w' _ I4 r2 r4 q4) fun d' s5 ⟨z2, H5, I5, r5, k2, e2, q5⟩ => ?_))
    subst e2
    cases r5
    exact wpAny_truthy_bool ⟨H5, I5, q5⟩

theorem line63 : (sizeLine : Nat) < 2 ^ 63 := by rw [sizeLine_eq]; decide
theorem op_add_str : OpR X (binaryOp .Add) (fun x y H Q => ∃ i j, x = .str i ∧ y = .str j ∧ i.length + j.length ≤ sizeLine ∧ Q (.str (i ++ j)) H) := by
  intro pins s σ H x y v u Q I rx ry h
  obtain ⟨i, j, rfl, rfl, hz, q⟩ := h
  obtain ⟨t, rfl⟩ := rx
  obtain ⟨t', rfl⟩ := ry
  exact add_str (fun t' tk => ⟨.str (i ++ j), H, I.tok _, ⟨_, rfl⟩, q⟩) hz
theorem vals1 {x : V} {us : List Value} (r : Vals [x] us) : ∃ u, us = [u] ∧ RelV x u := by
  cases r with
  | cons r1 r2 => cases r2; exact ⟨_, rfl, r1⟩
theorem vals2 {x y : V} {us : List Value} (r : Vals [x, y] us) : ∃ u w', us = [u, w'] ∧ RelV x u ∧ RelV y w' := by
  cases r with
  | cons r1 r2 =>
    cases r2 with
    | cons r3 r4 => cases r4; exact ⟨_, _, rfl, r1, r3⟩
theorem call_max2 (hc : X.calm = true) : CallR X (.builtin "max") (fun xs H Q => ∃ i j, xs = [.int i, .int j] ∧ Q (.int (if j > i then j else i)) H) := by
  intro pins s σ H xs us Q I r h
  obtain ⟨i, j, rfl, q⟩ := h
  obtain ⟨u, w', rfl, ⟨t, rfl⟩, ⟨t', rfl⟩⟩ := vals2 r
  refine max_two_ints (I.ok.hd hc) fun h' tk k => ⟨_, H, I.kept k, ?_, q⟩
  by_cases hj : j > i
  · rw [if_pos hj, if_pos hj]; exact ⟨_, rfl⟩
  · rw [if_neg hj, if_neg hj]; exact ⟨_, rfl⟩
theorem call_int1 : CallR X (.type "int") (fun xs H Q => (∃ i, xs = [.int i] ∧ Q (.int i) H) ∨ ∃ k, xs = [.bl k] ∧ Q (.int (if k then 1 else 0)) H) := by
  intro pins s σ H xs us Q I r h
  rcases h with ⟨i, rfl, q⟩ | ⟨k, rfl, q⟩
  · obtain ⟨u, rfl, t, rfl⟩ := vals1 r
    exact call_int_int ⟨.int i, H, I, ⟨_, rfl⟩, q⟩
  · obtain ⟨u, rfl, r1⟩ := vals1 r
    cases r1
    exact call_int_bool ⟨.int (if k then 1 else 0), H, I.tok _, ⟨_, rfl⟩, q⟩
theorem call_str_int : CallR X (.type "str") (fun xs H Q => ∃ i, xs = [.int i] ∧ i.natAbs.log2 < 1920 ∧ Q (.str (toString i)) H) := by
  intro pins s σ H xs us Q I r h
  obtain ⟨i, rfl, hz, q⟩ := h
  obtain ⟨u, rfl, t, rfl⟩ := vals1 r
  exact PySem.P.str_of_int hz ⟨.str _, H, I.tok _, ⟨_, rfl⟩, q⟩
end
end L2

namespace L2
open PySem PySem.Spec PyProof.Rows

structure ObjM (h : Heap) (x dx C : Addr) (mA : Str → Option Value) : Prop where
  obj : h.get? x = some (PySem.W.instObj C dx)
  ns : h.Ns1 dx mA
  ne : dx ≠ x

theorem lookIn_ns {h : Heap} {dx : Addr} {mA : Str → Option Value} (n : h.Ns1 dx mA) : ∃ od, h.get? dx = some od ∧ ∀ name, PySem.W.lookIn name od = some (mA name) := by
  obtain ⟨o, es, ep, ho, hd, hk, _, hm⟩ := n
  refine ⟨o, ho, fun name => ?_⟩
  have e := hm name
  unfold nsFind findBy at e
  rw [← Array.find?_toList] at e
  unfold PySem.W.lookIn
  rw [hd]
  dsimp only
  split
  · rename_i y q
    rw [q] at e
    exact congrArg some e
  · rename_i q
    rw [q] at e
    have a : es.toList.any (·.refKey) = false := by
      rw [List.any_eq_false]
      intro y hy
      obtain ⟨z, t, hkey⟩ := hk y (Array.mem_toList_iff.mp hy)
      simp [DictEntry.refKey, hkey]
    have a' : ¬ es.toList.any (·.refKey) = true := by rw [a]; exact Bool.false_ne_true
    rw [if_neg a']
    exact congrArg some e

theorem ObjM.look {h : Heap} {x dx C : Addr} {mA : Str → Option Value} (I : ObjM h x dx C mA) : ∃ od, PySem.W.InstAt h x (PySem.W.instObj C dx) C (some od) ∧ ∀ name, PySem.W.lookIn name od = some (mA name) :=
  let ⟨od, ho, hl⟩ := lookIn_ns I.ns
  ⟨od, ⟨I.obj, rfl, rfl, ho⟩, hl⟩

section
variable {prog : Program} {w : World} {A : Around} {E : Value → Shared → Prop} {s : Shared} {K : PySem.W.Frag} {x dx C f : Addr} {mA : Str → Option Value} {name : Str} {v : Value}

end

def putF (f : Str) (v : V) : List (Str × V) → List (Str × V)
  | [] => [(f, v)]
  | (g, x) :: r => if g = f then (g, v) :: r else (g, x) :: putF f v r
theorem lookup_putF (f g : Str) (v : V) : ∀ fs : List (Str × V), (putF f v fs).lookup g = if g = f then some v else fs.lookup g
  | [] => by
    show List.lookup g [(f, v)] = _
    by_cases h : g = f
    · have hb : (g == f) = true := beq_iff_eq.mpr h
      simp only [List.lookup, hb, if_pos h]
    · have hb : (g == f) = false := beq_eq_false_iff_ne.mpr h
      simp only [List.lookup, hb, if_neg h]
  | (k, x) :: r => by
    have ih := lookup_putF f g v r
    rw [show putF f v ((k, x) :: r) = (if k = f then (k, v) :: r else (k, x) :: putF f v r) from rfl]
    by_cases hk : k = f
    · rw [if_pos hk]
      by_cases h : g = k
      · have hb : (g == k) = true := beq_iff_eq.mpr h
        simp only [List.lookup, hb, if_pos (h.trans hk)]
      · have hb : (g == k) = false := beq_eq_false_iff_ne.mpr h
        simp only [List.lookup, hb, if_neg (fun e : g = f => h (e.trans hk.symm))]
    · rw [if_neg hk]
      by_cases h : g = k
      · have hb : (g == k) = true := beq_iff_eq.mpr h
        simp only [List.lookup, hb, if_neg (fun e : g = f => hk (h.symm.trans e))]
      · have hb : (g == k) = false := beq_eq_false_iff_ne.mpr h
        simp only [List.lookup, hb]
        exact ih
theorem RelO.some_of {v : V} {o : Option Value} (r : RelO (some v) o) : ∃ u, o = some u ∧ RelV v u := by
  cases o with
  | none => exact (show False from r).elim
  | some u => exact ⟨u, rfl, r⟩
theorem RelO.none_of {o : Option Value} (r : RelO none o) : o = none := by
  cases o with
  | none => rfl
  | some u => exact (show False from r).elim
theorem handed_of {v : V} {u : Value} (r : RelV v u) : PySem.W.handedIn u = true := by
  cases v with
  | non => cases (show u = Value.none from r); rfl
  | bl b => cases (show u = Value.bool b from r); rfl
  | int i => obtain ⟨t, e⟩ := (show ∃ t, u = Value.int i t from r); cases e; rfl
  | str x => obtain ⟨t, e⟩ := (show ∃ t, u = Value.str x t from r); cases e; rfl
  | byt b => obtain ⟨t, e⟩ := (show ∃ t, u = Value.bytes b t from r); cases e; rfl
  | flt b => obtain ⟨t, e⟩ := (show ∃ t, u = Value.float b t from r); cases e; rfl
  | ref a => cases (show u = Value.ref a from r); rfl
  | ty n => cases (show u = Value.type n from r); rfl

section
variable {P : Program} {w : World} {H H' : Hp} {h h' : Heap} {a C dx : Addr} {fs fs' : List (Str × V)}
theorem ins_get (hok : HOk P w H h) (e : H a = some (.ins C dx fs)) : ∃ mA, ObjM h a dx C mA ∧ (∀ f, RelO (fs.lookup f) (mA f)) ∧ PySem.Within mA (fs.map (·.1)) ∧ fs.length ≤ 1000 ∧ H dx = some (.own a) := by
  obtain ⟨d, z, ne, ob, mA, n, r, q⟩ := (show ObjOk P w H h a (.ins C dx fs) from hok a _ e)
  exact ⟨mA, ⟨ob, n, ne⟩, r, q, z, d⟩
end

structure Cls (K : PySem.W.Frag) (C : Addr) : Prop where
  pg : PySem.W.plainGet K C Str.empty = true
  hd : PySem.W.hasDictIn K C = true
  po : PySem.W.plainOver K C = true
  sa : PySem.W.findIn K (.ref C) "__setattr__" = some (some (.builtin "object.__setattr__"))
theorem Cls.get {K : PySem.W.Frag} {C : Addr} (c : Cls K C) (f : Str) : PySem.W.plainGet K C f = true := c.pg
def NoAttr (K : PySem.W.Frag) (C : Addr) (f : Str) : Prop := PySem.W.findIn K (.ref C) f = some none
section
variable {X : Cx} {pins : List (Addr × Obj)} {σ : St} {H : Hp} {s : Shared} {a C dx : Addr} {fs : List (Str × V)} {f : Str} {v : V} {A : Around} {E : Value → Shared → Prop}

theorem attr_of {prog : Program} {w : World} {env : Env} {e : Expr} {f : Str} {pos : Pos} {s : Shared} {Q : Value → Shared → Prop} (hb : attributeBase e f env (eval e env) = eval e env)
    (h : wpAny (model prog w) A (eval e env) (fun o s₁ => wpAny (model prog w) A (getAttr o f true) Q E s₁) E s) : wpAny (model prog w) A (eval (.Attribute e f pos) env) Q E s :=
  Attribute_any_ h (by rw [arm_eval_Attribute, hb])
end

section
variable {X : Cx} {o e value : Expr} {f : Str} {pos pos' tpos : Pos} {ta tv : TE}
end

section
variable {X : Cx} {pins : List (Addr × Obj)} {σ : St} {H : Hp} {s : Shared} {A : Around} {E : Value → Shared → Prop} {Q : Value → Shared → Prop} {c : Value} {b : Bool}
inductive TyOf (K : PySem.W.Frag) (H : Hp) : V → Value → Prop where
  | non : TyOf K H .non (.type "NoneType")
  | bl (x : Bool) : TyOf K H (.bl x) (.type "bool")
  | int (i : Int) : TyOf K H (.int i) (.type "int")
  | str (x : Str) : TyOf K H (.str x) (.type "str")
  | flt (x : UInt64) : TyOf K H (.flt x) (.type "float")
  | lst {a : Addr} {xs : List V} (e : H a = some (.lst xs)) : TyOf K H (.ref a) (.type "list")
  | frz {a : Addr} {o : Obj} {xs : List V} (e : H a = some (.frz o (.lst xs))) : TyOf K H (.ref a) (.type "list")
  | tup {a : Addr} {xs : List V} (e : H a = some (.tup xs)) : TyOf K H (.ref a) (.type "tuple")
  | dK {a : Addr} {kvs : List (Key × V)} (e : H a = some (.dK kvs)) : TyOf K H (.ref a) (.type "dict")
  | dT {a : Addr} {kvs : List (List Key × V)} (e : H a = some (.dT kvs)) : TyOf K H (.ref a) (.type "dict")
  | ins {a C dx : Addr} {fs : List (Str × V)} (e : H a = some (.ins C dx fs)) (cl : Cls K C) (ha : PySem.W.findIn K (.ref C) "__class__" = some (some (.builtin "object.__class__")))
      (hn : PySem.W.specialIn K (.builtin "object.__class__") "__get__" = some (some (.builtin "getset_descriptor.__get__"))) (htk : PySem.W.takesIn K (.builtin "object.__class__") = some true)
      (hm : PySem.W.mroIn K C (.type "object") = some true) : TyOf K H (.ref a) (.ref C)
theorem isinst_ok {x : V} {u t : Value} (I : Inv X pins σ H s) (rx : RelV x u) (ty : TyOf X.K H x t) (e : PySem.W.kitOne X.K t c = some b) (h : ∀ tk, Q (.bool b) { s with toks := tk }) :
    wpAny (model X.prog X.w) A (call (.builtin "isinstance") [u, c]) Q E s := by
  cases ty with
  | non => cases (show u = Value.none from rx); exact PySem.W.kia_one PySem.W.kitx_none I.kIn True.intro e (fun z => nomatch z) h
  | bl y => cases (show u = Value.bool y from rx); exact PySem.W.kia_one PySem.W.kitx_bool I.kIn True.intro e (fun z => nomatch z) h
  | int i => obtain ⟨t, q⟩ := (show ∃ t, u = Value.int i t from rx); cases q; exact PySem.W.kia_one PySem.W.kitx_int I.kIn True.intro e (fun z => nomatch z) h
  | str y => obtain ⟨t, q⟩ := (show ∃ t, u = Value.str y t from rx); cases q; exact PySem.W.kia_one PySem.W.kitx_str I.kIn True.intro e (fun z => nomatch z) h
  | flt y => obtain ⟨t, q⟩ := (show ∃ t, u = Value.float y t from rx); cases q; exact PySem.W.kia_one PySem.W.kitx_float I.kIn True.intro e (fun z => nomatch z) h
  | @lst a xs ea =>
    cases (show u = Value.ref a from rx)
    obtain ⟨_, _, n, _, h1⟩ := (show ObjOk X.prog X.w H s.heap a (.lst xs) from I.hok a _ ea)
    exact PySem.W.kia_one PySem.W.kitx_list I.kIn ⟨_, h1, rfl⟩ e (fun z => nomatch z) h
  | @frz a ob xs ea =>
    cases (show u = Value.ref a from rx)
    obtain ⟨_, _, _, n, _, h1⟩ := (show ObjOk X.prog X.w H s.heap a (.frz ob (.lst xs)) from I.hok a _ ea)
    exact PySem.W.kia_one PySem.W.kitx_list I.kIn ⟨_, h1, rfl⟩ e (fun z => nomatch z) h
  | @tup a xs ea =>
    cases (show u = Value.ref a from rx)
    obtain ⟨_, _, _, p⟩ := (show ObjOk X.prog X.w H s.heap a (.tup xs) from I.hok a _ ea)
    obtain ⟨o, h1, h2, _⟩ := p
    exact PySem.W.kia_one PySem.W.kitx_tuple I.kIn ⟨o, h1, h2⟩ e (fun z => nomatch z) h
  | @dK a kvs ea =>
    cases (show u = Value.ref a from rx)
    obtain ⟨_, _, vs, _, p⟩ := (show ObjOk X.prog X.w H s.heap a (.dK kvs) from I.hok a _ ea)
    obtain ⟨o, es, ep, h1, h2, _⟩ := p
    exact PySem.W.kia_one PySem.W.kitx_dict I.kIn ⟨o, h1, h2.1⟩ e (fun z => nomatch z) h
  | @dT a kvs ea =>
    cases (show u = Value.ref a from rx)
    obtain ⟨_, _, xs, _, o, es, ep, h1, h2, _⟩ := (show ObjOk X.prog X.w H s.heap a (.dT kvs) from I.hok a _ ea)
    exact PySem.W.kia_one PySem.W.kitx_dict I.kIn ⟨o, h1, h2.1⟩ e (fun z => nomatch z) h
  | @ins a C dx fs ea cl ha hn htk hm =>
    cases (show u = Value.ref a from rx)
    obtain ⟨mA, O, _⟩ := ins_get I.hok ea
    obtain ⟨od, J, _⟩ := O.look
    exact PySem.W.kia_one (PySem.W.kitx_own (cl.get _) cl.hd ha hn htk hm) I.kIn J e (fun z => nomatch z) h
end
end L2

namespace L2
open PySem PySem.Spec PyProof.Rows

structure Room (k : Nat) (A : Around) : Prop where
  hd : A.handled = none
  dp : A.depth + 3 * k + 5 < recursionLimit
  un : A.units + 16 * k + 200 < cLine
  gd : A.guards = some []
theorem Room.mono {j k : Nat} {A : Around} (r : Room k A) (h : j ≤ k) : Room j A := ⟨r.hd, by have := r.dp; omega, by have := r.un; omega, r.gd⟩
theorem Room.deeper {k : Nat} {A : Around} (r : Room (k + 1) A) (env : Env) : Room k (A.deeper env) :=
  ⟨r.hd, by have := r.dp; show A.depth + 1 + 3 * k + 5 < _; omega, by have := r.un; show A.units + 3 + 16 * k + 200 < _; omega, r.gd⟩
theorem make_depth {A : Around} {C : Addr} {us : List Value} {kw : List (Str × Value)} : (A.under (.builtin "type.__call__" ⟨.ref C :: us, kw⟩)).depth = A.depth + 1 := by
  first | rfl | simp [Around.under, Code.weight, Code.isCreation, Code.isGuard, Code.isCaller, Code.frames, Code.isFrame, guardIds]
theorem make_units {A : Around} {C : Addr} {us : List Value} {kw : List (Str × Value)} : (A.under (.builtin "type.__call__" ⟨.ref C :: us, kw⟩)).units = A.units + 1 := by
  first | rfl | simp [Around.under, Code.cUnits, Code.frames, Code.isFrame]
theorem make_guards {A : Around} {C : Addr} {us : List Value} {kw : List (Str × Value)} : (A.under (.builtin "type.__call__" ⟨.ref C :: us, kw⟩)).guards = A.guards := by
  first | rfl | simp [Around.under, Code.guards, pushGuards, Code.isGuard, guardIds]
theorem Room.make {k : Nat} {A : Around} (r : Room (k + 1) A) (C : Addr) (us : List Value) (kw : List (Str × Value)) : Room k (A.under (.builtin "type.__call__" ⟨.ref C :: us, kw⟩)) :=
  ⟨r.hd, by have := r.dp; rw [make_depth]; omega, by have := r.un; rw [make_units]; omega, by rw [make_guards]; exact r.gd⟩
theorem Room.depth {k : Nat} {A : Around} (r : Room k A) : A.depth < recursionLimit := by have := r.dp; omega
theorem Room.units {k : Nat} {A : Around} (r : Room k A) : A.units + 64 < cLine := by have := r.un; omega
def tNil : TA := fun _ H Q => Q [] H
def tCons (ta : TE) (tr : TA) : TA := fun σ H Q => ta σ H fun x H1 => tr σ H1 fun xs H2 => Q (x :: xs) H2
section
variable {X : Cx} {e : Expr} {es : List Expr} {te : TE} {t : TA} {pos : Pos}
theorem pa_nil : PA X [] tNil := fun _ _ _ _ H Q I h => Calls.spliced_nil ⟨[], H, I, .nil, h⟩
theorem pa_cons (ha : PE X e te) (hr : PA X es t) (hs : starEach (e :: es) X.env = (false, eval e X.env) :: starEach es X.env := by rfl) : PA X (e :: es) (tCons te t) := by
  intro pos pins s σ H Q I h
  rw [hs]
  show wpAny _ _ (spliced ((false, eval e X.env) :: backTo pos (starEach es X.env))) _ _ s
  refine Calls.spliced_cons (thn (ha pins s σ H _ I h) fun u s1 ⟨x, H1, I1, r1, q1⟩ => ?_)
  exact thn (hr pos pins s1 σ H1 _ I1 q1) fun us s2 ⟨xs, H2, I2, r2, q2⟩ => ⟨x :: xs, H2, I2, .cons r1 r2, q2⟩

def tTup (t : TA) : TE := fun σ H Q => t σ H fun xs H1 => xs.length ≤ sizeLine ∧ ∀ p, H1 p = none → Q (.ref p) (upd H1 p (.tup xs))
def tLst (t : TA) : TE := fun σ H Q => t σ H fun xs H1 => xs.length ≤ sizeLine ∧ ∀ p, H1 p = none → Q (.ref p) (upd H1 p (.lst xs))
theorem pe_tup {x1} (h : PA X es t) : PE X (.Tuple es x1 pos) (tTup t) := by
  intro pins s σ H Q I hq
  refine wpAny_Tuple_spliced (thn (h pos pins s σ H _ I hq) fun us s1 ⟨xs, H1, I1, r, z, q⟩ => ⟨by rw [← r.length]; exact z, ?_⟩)
  have hf : H1 s1.heap.objs.size = none := I1.hok.fresh (Nat.le_refl _)
  refine ⟨.ref s1.heap.objs.size, upd H1 s1.heap.objs.size (.tup xs), I1.laid (t' := s1.toks) (fun b u e => Heap.get?_push_of_some _ e) (Nat.le_refl _) ?_, rfl, q _ hf⟩
  exact ⟨z, us, r, ⟨_, Heap.get?_push_size _ rfl, rfl, _, rfl⟩⟩
theorem pe_lst (h : PA X es t) : PE X (.List es pos) (tLst t) := by
  intro pins s σ H Q I hq
  refine wpAny_List_spliced (thn (h pos pins s σ H _ I hq) fun us s1 ⟨xs, H1, I1, r, z, q⟩ => ⟨by rw [← r.length]; exact z, ?_⟩)
  have hf : H1 s1.heap.objs.size = none := I1.hok.fresh (Nat.le_refl _)
  refine ⟨.ref s1.heap.objs.size, upd H1 s1.heap.objs.size (.lst xs), I1.laid (t' := s1.toks) (fun b u e => Heap.get?_push_of_some _ e) (Nat.le_refl _) ?_, rfl, q _ hf⟩
  exact ⟨z, us, 0, r, Heap.get?_push_size _ rfl⟩
end

abbrev Sp := List V → Hp → VK → XK → Prop
abbrev CXT := List Env → Hp → Shared → XK → Value → Shared → Prop

structure Env0 (P : Program) (w : World) (K : PySem.W.Frag) (mg : Str → Option Value) (base : Heap) (A : Around) (outer : List Env) (s : Shared) (H : Hp) : Prop where
  frames : A.frames = some outer
  mod : Mod K mg base
  bs : ∀ b o, base.get? b = some o → s.heap.get? b = some o ∧ H b = none
  bsz : base.objs.size ≤ s.heap.objs.size
  funs : s.heap.FunFrames base outer
  frf : ∀ b ∈ frs outer, H b = none
  hok : HOk P w H s.heap
  bare : AllBare s.gens
def CE (outer : List Env) (P : Program) (w : World) (H : Hp) (s : Shared) (Q : VK) (u : Value) (s' : Shared) : Prop :=
  ∃ v H', s'.os = s.os ∧ AllBare s'.gens ∧ Un (frs outer) [] H H' s.heap s'.heap ∧ HOk P w H' s'.heap ∧ RelV v u ∧ Q v H'
def CR (CX : CXT) (outer : List Env) (P : Program) (w : World) (H : Hp) (s : Shared) (Q : VK) (E : XK) (r : Result) (s' : Shared) : Prop :=
  match r with
  | .ok (.ret u) => CE outer P w H s Q u s'
  | .ok _ => False
  | .error e => CX outer H s E e s'
structure FnOk (P : Program) (w : World) (K : PySem.W.Frag) (mg : Str → Option Value) (base : Heap) (CX : CXT) (k : Nat) (f : Addr) (fd : FuncData) (ps : List Str) (sp : Sp) : Prop where
  len : ∀ vs H Q E, sp vs H Q E → vs.length = ps.length
  run : ∀ (A : Around) (outer : List Env) (s : Shared) (H : Hp) (args : Args) (us : List Value) (vs : List V) (Q : VK) (E : XK), Room k A → Env0 P w K mg base A outer s H → BindsTo s fd args (ps.zip us) → Vals vs us → sp vs H Q E →
    codeAny (model P w) A (.call (.ref f) args) (CR CX outer P w H s Q E) s
theorem Env0.make {P : Program} {w : World} {K : PySem.W.Frag} {mg : Str → Option Value} {base : Heap} {A : Around} {outer : List Env} {s : Shared} {H : Hp} (e : Env0 P w K mg base A outer s H) (C : Addr) (us : List Value) (kw : List (Str × Value)) :
    Env0 P w K mg base (A.under (.builtin "type.__call__" ⟨.ref C :: us, kw⟩)) outer s H := ⟨by first | exact e.frames | (simpa [Around.under, Code.envs, Code.isFrame, pushEnvs] using e.frames), e.mod, e.bs, e.bsz, e.funs, e.frf, e.hok, e.bare⟩
section
variable {X : Cx} {pins : List (Addr × Obj)} {σ : St} {H : Hp} {s s' : Shared}
theorem Inv.env0 (I : Inv X pins σ H s) : Env0 X.prog X.w X.K X.mg X.base X.A X.stack s H :=
  ⟨I.ok.frames, I.ok.mod, I.bs, Nat.le_trans I.ok.bsz I.sz, I.stack, I.stkFree, I.hok, I.bare⟩
theorem Inv.after {Q : VK} {u : Value} (I : Inv X pins σ H s) (h : CE X.stack X.prog X.w H s Q u s') : EP X pins σ Q u s' := by
  obtain ⟨v, H', os, bare, un, hok, r, q⟩ := h
  obtain ⟨hh, g, d, t, os'⟩ := s'
  obtain rfl : os' = s.os := os
  exact ⟨v, H', I.call (h' := hh) (g' := g) (d' := d) (t' := t) (ch := []) un hok bare (fun b z => absurd z (by simp)), r, q⟩
end

def tCall (sp : Sp) (dvs : List V) (E : XK) (t : TA) : TE := fun σ H Q => t σ H fun vs H1 => sp (vs ++ dvs) H1 Q E
def Binds (K : PySem.W.Frag) (fd : FuncData) (ps : List Str) (ds : List Value) : Prop :=
  ∀ (s : Shared) (us : List Value), K.In s.heap → (us ++ ds).length = ps.length → BindsTo s fd ⟨us, []⟩ (ps.zip (us ++ ds))
theorem Binds.all {K : PySem.W.Frag} {fd : FuncData} {ps : List Str} (h : ∀ us : List Value, us.length = ps.length → bindArgs fd ⟨us, []⟩ = pure (ps.zip us)) : Binds K fd ps [] := fun s us _ hl => by
  rw [List.append_nil] at hl ⊢
  exact .of_eq (h us hl)

def Passes (CX : CXT) (X : Cx) (E : XK) : Prop := ∀ (pins : List (Addr × Obj)) (σ : St) (H : Hp) (s : Shared) (e : Value) (s' : Shared), Inv X pins σ H s → CX X.stack H s E e s' → X.xe e s'

section
variable {X : Cx} {CX : CXT} {k : Nat} {f C : Addr} {fd : FuncData} {ps : List Str} {sp : Sp} {dvs : List V} {ds : List Value} {E : XK} {x m : Str} {p pos apos : Pos} {e o : Expr} {es : List Expr} {ta : TE} {t : TA}

theorem run_fn {pins : List (Addr × Obj)} {σ : St} {H : Hp} {s : Shared} {Q : VK} {us : List Value} {vs : List V} (F : FnOk X.prog X.w X.K X.mg X.base CX k f fd ps sp) (hr : Room k X.A) (hb : Binds X.K fd ps ds) (hd : Vals dvs ds) (hx : Passes CX X E)
    (I : Inv X pins σ H s) (r : Vals vs us) (h : sp (vs ++ dvs) H Q E) : wpAny (model X.prog X.w) X.A (call (.ref f) us) (EP X pins σ Q) X.xe s := by
  have r2 : Vals (vs ++ dvs) (us ++ ds) := r.append hd
  have hl : (us ++ ds).length = ps.length := by rw [← r2.length]; exact F.len _ _ _ _ h
  refine wpAny_call (codeAny_mono (F.run X.A X.stack s H ⟨us, []⟩ (us ++ ds) (vs ++ dvs) Q E hr I.env0 (hb s us I.kIn hl) r2 h) fun r s' hq => ?_)
  cases r with
  | error e => exact hx pins σ H s e s' I hq
  | ok fl =>
    cases fl with
    | ret u => exact I.after hq
    | next => exact False.elim hq
    | brk => exact False.elim hq
    | cont => exact False.elim hq

theorem pe_call (F : FnOk X.prog X.w X.K X.mg X.base CX k f fd ps sp) (hr : Room k X.A) (hg : Gl X x) (hm : X.mg x = some (.ref f)) (hk : PySem.W.keepIn X.K (.ref f) = true) (hb : Binds X.K fd ps ds) (hd : Vals dvs ds) (hx : Passes CX X E)
    (ha : PA X (e :: es) t) (hdb : (x == ("__debug__" : Str)) = false := by decide) (he : starEach (e :: es) X.env = (false, eval e X.env) :: starEach es X.env := by rfl) (hpl : (backTo pos (starEach es X.env)).any (·.1) = false := by rfl) :
    PE X (.Call (.Name x p) (e :: es) [] pos) (tCall sp dvs E t) := by
  intro pins s σ H Q I h
  refine wpAny_Call_Name_kw (ld_glob I hg hm ?_ hdb)
  refine PySem.W.callWith_K (h₀ := X.base) I.ok.mod.kin hk (thn (ha pos pins s σ H _ I h) fun us s1 ⟨vs, H1, I1, r, q⟩ => ⟨I1.kIn, ?_⟩) he hpl
  exact run_fn F hr hb hd hx I1 r q
end

def PK (X : Cx) (kws : List Keyword) (t : TA) : Prop :=
  ∀ (pos : Pos) (pins : List (Addr × Obj)) (s : Shared) (σ : St) (H : Hp) (Q : List V → Hp → Prop), Inv X pins σ H s → t σ H Q → wpAny (model X.prog X.w) X.A (evalAll ((backToKw pos (keywordEach kws X.env)).map (·.2))) (AP X pins σ Q) X.xe s
section
variable {X : Cx} {CX : CXT} {k : Nat} {f C : Addr} {fd : FuncData} {ps ks : List Str} {sp : Sp} {E : XK} {x m : Str} {p pos apos kpos : Pos} {e o : Expr} {es : List Expr} {kws : List Keyword} {te ta : TE} {t tk : TA} {nm : Option Str}
theorem pk_nil : PK X [] tNil := fun _ _ _ _ H Q I h => wpAny_evalAll_nil ⟨[], H, I, .nil, h⟩
theorem pk_cons (ha : PE X e te) (hr : PK X kws t) : PK X (⟨nm, e, kpos⟩ :: kws) (tCons te t) := by
  intro pos pins s σ H Q I h
  show wpAny _ _ (evalAll ((do let v ← eval e X.env; standAt pos; pure v) :: (backToKw pos (keywordEach kws X.env)).map (·.2))) _ _ s
  refine wpAny_evalAll_cons (wpAny_bind (thn (ha pins s σ H _ I h) fun u s1 ⟨x, H1, I1, r1, q1⟩ => wpAny_bind (wpAny_standAt (wpAny_pure ?_))))
  exact thn (hr pos pins s1 σ H1 _ I1 q1) fun us s2 ⟨xs, H2, I2, r2, q2⟩ => ⟨x :: xs, H2, I2, .cons r1 r2, q2⟩

variable {g : List Value → List Value → List Value} {gV : List V → List V → List V}
end

structure FnScope (N P : List Str) (sc : Scope) : Prop where
  kind : sc.kind = .function
  co : sc.isCoroutine = false
  gen : sc.isGenerator = false
  nd : N.Nodup
  pre : N.take P.length = P
  par : ∀ x ∈ P, sc.names.lookup x = some .local ∨ sc.names.lookup x = some .cell
  nofree : ∀ y ∈ sc.names, y.2 ≠ .free

theorem bindL_out {kindOf : Str → Option NameKind} {x : Str} : ∀ {binds : List (Str × Value)} {m : Str → Option Value}, (∀ v, (x, v) ∉ binds) → bindL kindOf binds m x = m x
  | [], _, _ => rfl
  | (n, v) :: r, m, h => by
    unfold bindL
    rw [bindL_out fun w hw => h w (List.mem_cons_of_mem _ hw)]
    split
    · have : x ≠ n := by rintro rfl; exact h v List.mem_cons_self
      simp [this]
    · rfl
theorem bindC_out {kindOf : Str → Option NameKind} {x : Str} : ∀ {binds : List (Str × Value)} {m : Str → Option Value}, (∀ v, (x, v) ∉ binds) → bindC kindOf binds m x = m x
  | [], _, _ => rfl
  | (n, v) :: r, m, h => by
    unfold bindC
    rw [bindC_out fun w hw => h w (List.mem_cons_of_mem _ hw)]
    split
    · rfl
    · have : x ≠ n := by rintro rfl; exact h v List.mem_cons_self
      simp [this]
theorem bindL_get {kindOf : Str → Option NameKind} {x : Str} {v : Value} : ∀ {P : List Str} {vs : List Value} {i : Nat} {m : Str → Option Value}, P.Nodup → P[i]? = some x → vs[i]? = some v → kindOf x = some .local →
    bindL kindOf (P.zip vs) m x = some v
  | [], _, _, _, _, h, _, _ => by simp at h
  | _ :: _, [], _, _, _, _, h, _ => by simp at h
  | p :: P, w :: vs, 0, m, nd, h1, h2, hk => by
    simp at h1 h2; subst h1; subst h2
    show bindL kindOf ((p, w) :: P.zip vs) m p = _
    unfold bindL
    rw [bindL_out fun v hv => (List.nodup_cons.mp nd).1 (List.of_mem_zip hv).1, if_pos hk]
    simp
  | p :: P, w :: vs, i + 1, m, nd, h1, h2, hk => by
    show bindL kindOf ((p, w) :: P.zip vs) m x = _
    unfold bindL
    exact bindL_get (i := i) (List.nodup_cons.mp nd).2 (by simpa using h1) (by simpa using h2) hk
theorem bindC_get {kindOf : Str → Option NameKind} {x : Str} {v : Value} : ∀ {P : List Str} {vs : List Value} {i : Nat} {m : Str → Option Value}, P.Nodup → P[i]? = some x → vs[i]? = some v → kindOf x ≠ some .local →
    bindC kindOf (P.zip vs) m x = some v
  | [], _, _, _, _, h, _, _ => by simp at h
  | _ :: _, [], _, _, _, _, h, _ => by simp at h
  | p :: P, w :: vs, 0, m, nd, h1, h2, hk => by
    simp at h1 h2; subst h1; subst h2
    show bindC kindOf ((p, w) :: P.zip vs) m p = _
    unfold bindC
    rw [bindC_out fun v hv => (List.nodup_cons.mp nd).1 (List.of_mem_zip hv).1, if_neg hk]
    simp
  | p :: P, w :: vs, i + 1, m, nd, h1, h2, hk => by
    show bindC kindOf ((p, w) :: P.zip vs) m x = _
    unfold bindC
    exact bindC_get (i := i) (List.nodup_cons.mp nd).2 (by simpa using h1) (by simpa using h2) hk

def start (N : List Str) (vs : List V) : St := vs.map some ++ List.replicate (N.length - vs.length) none

def cxOf (CX : CXT) (P : Program) (w : World) (K : PySem.W.Frag) (mg : Str → Option Value) (base : Heap) (N : List Str) (qual : Str) (scope : Scope) (f : Addr) (cd : Value) (A : Around) (outer : List Env) (s : Shared) (H : Hp) (E : XK) : Cx where
  prog := P
  w := w
  K := K
  mg := mg
  base := base
  A := A.deeper (envOfC qual scope s.heap.objs.size f cd)
  N := N
  s₀ := s
  H₀ := H
  env := envOfC qual scope s.heap.objs.size f cd
  outer := outer
  stack := envOfC qual scope s.heap.objs.size f cd :: outer
  ex := []
  calm := true
  fn := fun _ => true
  pn := []
  xe := fun e s' => wpAny (model P w) (A.deeper (envOfC qual scope s.heap.objs.size f cd)) (leaving (envOfC qual scope s.heap.objs.size f cd) e) (fun _ s'' => CX outer H s E e s'') (fun e' s'' => CX outer H s E e' s'') s'

theorem cell_has {sc : Scope} {n : Nat} {x : Str} (h : sc.names.lookup x = some .cell) : ∃ c, (cellsFrom n sc.names []).lookup x = some c := by
  have q := PySem.W.cellsFrom_some sc.names n [] (.inl h)
  exact Option.isSome_iff_exists.mp q

theorem inv_start {CX : CXT} {P : Program} {w : World} {K : PySem.W.Frag} {mg : Str → Option Value} {base : Heap} {N ps : List Str} {qual : Str} {scope : Scope} {f : Addr} {cd : Value} {A : Around} {outer : List Env} {s s1 : Shared} {H : Hp} {E : XK} {us : List Value} {vs : List V}
    (S : FnScope N ps scope) (hd : A.handled = none) (e0 : Env0 P w K mg base A outer s H) (hl : vs.length = ps.length) (r : Vals vs us)
    (x : InCallC s s.heap.objs.size (bindL (envOfC qual scope s.heap.objs.size f cd).kindOf (ps.zip us) fun _ => none) (cellsFrom (s.heap.objs.size + 1) scope.names []) (bindC (envOfC qual scope s.heap.objs.size f cd).kindOf (ps.zip us) fun _ => none) s1) :
    Inv (cxOf CX P w K mg base N qual scope f cd A outer s H E) [] (start N vs) H s1 := by
  have hpl : ps.length ≤ N.length := by have := congrArg List.length S.pre; rw [List.length_take] at this; omega
  obtain ⟨h1, tk, rfl, hk⟩ := x.done
  have noA : ∀ b : Addr, b ∉ (cxOf CX P w K mg base N qual scope f cd A outer s H E).ex := fun b z => absurd (show b ∈ ([] : List Addr) from z) (by simp)
  refine ⟨⟨e0.mod, S.kind, rfl, rfl, Nat.le_refl _, fun y z c h1 h2 => ?_, fun y hy => ?_, fun y c _ h => ?_, fun _ => hd, Around.frames_deeper e0.frames, .inr ⟨rfl, rfl⟩, fun b z => absurd z (noA b), e0.bs, e0.bsz, fun b _ _ => noA b, fun b z => absurd z (noA b), e0.funs, e0.frf⟩,
    rfl, e0.bare, Un.kept hk, ⟨_, x.toInCall.ns, fun i y v h1 h2 h3 => ?_⟩, fun y c h => ⟨_, x.cell y c h⟩, e0.hok.fresh (Nat.le_refl _), fun y c h => ?_, fun p hp => absurd (show p ∈ ([] : List (Addr × Obj)) from hp) (by simp), e0.hok.kept hk, ?_⟩
  · exact name_of_addr x.apart (PySem.mem_of_lookup h1) (PySem.mem_of_lookup h2)
  · have hy : scope.names.lookup y = some .cell ∨ scope.names.lookup y = some .free := hy
    rcases hy with hy | hy
    · exact cell_has hy
    · exact absurd rfl (S.nofree _ (PySem.mem_of_lookup hy))
  · exact Nat.le_of_lt (x.above y c (PySem.mem_of_lookup h))
  · have hi : i < vs.length := by
      unfold start at h2
      by_cases hi : i < vs.length
      · exact hi
      · rw [List.getElem?_append_right (by simpa using hi)] at h2
        rw [List.getElem?_replicate] at h2
        split at h2 <;> cases h2
    have ha : vs[i]? = some v := by
      unfold start at h2
      rw [List.getElem?_append_left (by simpa using hi), List.getElem?_map] at h2
      cases e : vs[i]? with
      | none => rw [e] at h2; cases h2
      | some a => rw [e] at h2; cases h2; rfl
    obtain ⟨u, hu, rv⟩ := r.get ha
    have hp : ps[i]? = some y := by
      rw [← S.pre, List.getElem?_take_of_lt (by omega)]; exact h1
    have ndP : ps.Nodup := by rw [← S.pre]; exact S.nd.sublist (List.take_sublist _ _)
    refine ⟨u, rv, ?_⟩
    rcases S.par y (List.mem_of_getElem? hp) with k | k
    · exact .inl ⟨k, bindL_get ndP hp hu k⟩
    · obtain ⟨c, e⟩ := cell_has (n := s.heap.objs.size + 1) k
      refine .inr ⟨.inl k, c, e, ?_⟩
      have q := x.cell y c e
      rw [bindC_get ndP hp hu (by show scope.names.lookup y ≠ _; rw [k]; decide)] at q
      exact q
  · exact e0.hok.fresh (Nat.le_of_lt (x.above y c (PySem.mem_of_lookup h)))
  · unfold start
    show _ = N.length
    rw [List.length_append, List.length_map, List.length_replicate]
    omega

theorem fn_of {CX : CXT} {P : Program} {w : World} {K : PySem.W.Frag} {mg : Str → Option Value} {base : Heap} {k : Nat} {f : Addr} {name qual : Str} {params : Arguments} {body : List Stmt} {scope : Scope} {dV kV doc pm cdv ct oc : Value} {an od : Option Addr}
    {osl : Array (Option Value)} {N ps : List Str} {sp : Sp} (lk : K.lookup f = some ⟨oc, od, .func (PySem.W.fnOf name qual params body scope dV kV doc pm an cdv ct), osl⟩) (hcd : PySem.W.codeIn K cdv qual = true) (S : FnScope N ps scope)
    (len : ∀ vs H Q E, sp vs H Q E → vs.length = ps.length)
    (hbody : ∀ (A : Around) (outer : List Env) (s : Shared) (H : Hp) (vs : List V) (Q : VK) (E : XK), Room k (A.deeper (envOfC qual scope s.heap.objs.size f cdv)) → sp vs H Q E →
      ∃ t, PSs (cxOf CX P w K mg base N qual scope f cdv A outer s H E) body t ∧ t { nx := fun _ H' => Q .non H', rt := Q } (start N vs) H) :
    FnOk P w K mg base CX (k + 1) f (PySem.W.fnOf name qual params body scope dV kV doc pm an cdv ct) ps sp := by
  refine ⟨len, fun A outer s H args us vs Q E hr e0 hb r hsp => ?_⟩
  have hl := len _ _ _ _ hsp
  have KX : K.In s.heap := e0.mod.kin.keeps fun b o e => (e0.bs b o e).1
  have lim : s.heap.NoLimit := e0.mod.nolimit.keeps fun b o e => (e0.bs b o e).1
  have hkind : ∀ y ∈ ps.zip us, scope.names.lookup y.1 = some .local ∨ (scope.names.lookup y.1 = some .cell ∧ ((cellsFrom (s.heap.objs.size + 1) scope.names []).lookup y.1).isSome = true) := fun ⟨n, v⟩ hy => by
    rcases S.par n (List.of_mem_zip hy).1 with q | q
    · exact .inl q
    · exact .inr ⟨q, PySem.W.cellsFrom_some _ _ _ (.inl q)⟩
  refine codeAny_call_function hr.depth (KX _ _ lk) rfl S.co S.gen rfl (PySem.W.codeRec_of KX hcd) (hb _ _ _ _ ?_)
  refine wpAny_newFunctionEnv_cells S.kind hkind fun env he s1 x => ?_
  subst he
  refine ⟨lim.keeps x.toInCall.keep, codeAny_func ?_⟩
  obtain ⟨t, ht, hq⟩ := hbody A outer s H vs Q E (hr.deeper _) hsp
  have I : Inv (cxOf CX P w K mg base N qual scope f cdv A outer s H E) [] (start N vs) H s1 := inv_start S hr.hd e0 hl r x
  refine wpAny_mono (ht [] s1 (start N vs) H _ I hq) (fun fl s' hs => ?_) fun e s' hs => hs
  have fin : ∀ {σ' : St} {H' : Hp} {v : V} {u : Value}, Inv (cxOf CX P w K mg base N qual scope f cdv A outer s H E) [] σ' H' s' → RelV v u → Q v H' → CE outer P w H s Q u s' :=
    fun {σ' H' v u} J rv q => ⟨v, H', J.os, J.bare, J.base, J.hok, rv, q⟩
  cases fl with
  | ret u =>
    obtain ⟨v, σ', H', J, rv, q⟩ := hs
    exact fin J rv q
  | next =>
    obtain ⟨σ', H', J, q⟩ := hs
    exact fin (v := V.non) (u := Value.none) J rfl q
  | brk =>
    obtain ⟨_, _, _, q⟩ := hs
    exact False.elim q
  | cont =>
    obtain ⟨_, _, _, q⟩ := hs
    exact False.elim q
end L2

namespace L2
open PySem PySem.Spec PyProof.Rows
section
variable {X : Cx} {x : Str} {p pos : Pos} {e : Expr} {es : List Expr} {t : TA} {id T : String} {r : List V → Hp → VK → Prop}

def tCB (r : List V → Hp → VK → Prop) (t : TA) : TE := fun σ H Q => t σ H fun vs H1 => r vs H1 Q
theorem pe_callB (hc : CallR X (.builtin id) r) (hg : Gl X x) (hm : X.mg x = none) (hv : bootBuiltins x = some (.builtin id)) (ha : PA X (e :: es) t) (hn : x ≠ "__name__" := by decide) (hdb : (x == ("__debug__" : Str)) = false := by decide)
    (he : starEach (e :: es) X.env = (false, eval e X.env) :: starEach es X.env := by rfl) (hpl : (backTo pos (starEach es X.env)).any (·.1) = false := by rfl) : PE X (.Call (.Name x p) (e :: es) [] pos) (tCB r t) := by
  intro pins s σ H Q I h
  refine wpAny_Call_Name_kw (ld_blt I hg hm hv ?_ hn hdb)
  exact PyProof.Rows.callWith_builtin1 (thn (ha pos pins s σ H _ I h) fun us s1 ⟨vs, H1, I1, r1, q1⟩ => hc pins s1 σ H1 vs us Q I1 r1 q1) he hpl
theorem pe_callTy (hc : CallR X (.type T) r) (hg : Gl X x) (hm : X.mg x = none) (hv : bootBuiltins x = some (.type T)) (ha : PA X (e :: es) t) (hn : x ≠ "__name__" := by decide) (hdb : (x == ("__debug__" : Str)) = false := by decide)
    (he : starEach (e :: es) X.env = (false, eval e X.env) :: starEach es X.env := by rfl) (hpl : (backTo pos (starEach es X.env)).any (·.1) = false := by rfl) : PE X (.Call (.Name x p) (e :: es) [] pos) (tCB r t) := by
  intro pins s σ H Q I h
  refine wpAny_Call_Name_kw (ld_blt I hg hm hv ?_ hn hdb)
  exact PyProof.Rows.callWith_type1 (thn (ha pos pins s σ H _ I h) fun us s1 ⟨vs, H1, I1, r1, q1⟩ => hc pins s1 σ H1 vs us Q I1 r1 q1) he hpl
end
end L2

namespace HT
open PySem PyProof.Rows

def lexLt : List Int → List Int → Bool
  | [], [] => false
  | [], _ :: _ => true
  | _ :: _, [] => false
  | x :: xs, y :: ys => if x = y then lexLt xs ys else decide (x < y)
theorem lexLt_cons (x y : Int) (xs ys : List Int) : lexLt (x :: xs) (y :: ys) = if x = y then lexLt xs ys else decide (x < y) := rfl
theorem lexLt_nil_nil : lexLt [] [] = false := rfl
theorem lexLt_nil_cons (y : Int) (ys : List Int) : lexLt [] (y :: ys) = true := rfl
theorem lexLt_cons_nil (x : Int) (xs : List Int) : lexLt (x :: xs) [] = false := rfl

theorem eqAt_int (A : Around) (s : Shared) (a : Int) (t : Tok) (c : Int) (u : Tok) : ∃ e, SeqAt.EqAt A s (.int a t) (.int c u) e ∧ (e = true ↔ a = c) :=
  ⟨(a == c), SeqAt.EqAt.int_int a t c u, by simp⟩
theorem rcLt_int (A : Around) (s : Shared) (a : Int) (t : Tok) (c : Int) (u : Tok) (prog : Program) (w : World) (E : Value → Shared → Prop) (Q : Value → Shared → Prop) (h : Q (.bool (decide (a < c))) s) :
    wpAny (model prog w) A (richCompare .Lt (.int a t) (.int c u)) Q E s :=
  (PyProof.Rows.lt_int h : wpAny (model prog w) A (compareOp .Lt (.int a t) (.int c u)) Q E s)

section
open PySem.SeqAt
open PySem.AutoSeq1 (wpAny_loadPart')
open PySem.MeetsSeq PySem.MeetsSeq2 PySem.MeetsSeq3

theorem tuple_lt_ints (l b : Addr) (items items2 : Array Value) (n n2 : Nat) (dd dd2 : Option Addr) (sl sl2 : Array (Option Value)) (ns ms : List Int) (hi : IntsAre items.toList ns) (hj : IntsAre items2.toList ms) :
    Meets (Builtin.«tuple.__lt__» ⟨[.ref l, .ref b], []⟩)
      (fun _ R s => s.heap.get? l = some { cls := .type "tuple", dict := dd, data := .seq items n, slots := sl } ∧ s.heap.get? b = some { cls := .type "tuple", dict := dd2, data := .seq items2 n2, slots := sl2 } ∧
        R (.ok (.ret (.bool (lexLt ns ms)))) s) :=
  .of_wp fun prog w A R s h => by
    obtain ⟨hp, g, d, tk, os⟩ := s; obtain ⟨hl, hb, h⟩ := h
    have f2 := AutoSeq1.sub_tuple_tuple
    have z1 : items.size = ns.length := by rw [← hi.length]; simp
    have z2 : items2.size = ms.length := by rw [← hj.length]; simp
    wp_walk using wpAny_loadPart' hl, wpAny_loadPart' hb, wpAny_forIn_list _ (fun rest b s' => b.1 = none ∧ s' = ⟨hp, g, d, tk, os⟩ ∧ ∃ (vs ws : List Value) (ns' ms' : List Int), rest = vs.zip ws ∧
      IntsAre vs ns' ∧ IntsAre ws ms' ∧ ns'.length + items2.size = ms'.length + items.size ∧ R (.ok (.ret (.bool (lexLt ns' ms')))) ⟨hp, g, d, tk, os⟩) _
    case turn =>
      rintro ⟨y, x⟩ rest b s' ⟨hb', rfl, vs, ws, ns', ms', hz, hvi, hwi, hlen, hR⟩
      cases hvi with
      | nil => rw [List.zip_nil_left] at hz; cases hz
      | cons a t hvi' =>
        cases hwi with
        | nil => rw [List.zip_nil_right] at hz; cases hz
        | cons c u hwi' =>
          rw [List.zip_cons_cons] at hz
          injection hz with hyx hrest
          injection hyx with hy hx
          subst hy hx
          rw [lexLt_cons] at hR
          simp only [List.length_cons] at hlen
          obtain ⟨e, he, hiff⟩ := eqAt_int A.in1 ⟨hp, g, d, tk, os⟩ a t c u
          refine wpAny_bind (he prog w _ _ ?_)
          cases e with
          | true =>
            rw [if_pos (hiff.mp rfl)] at hR
            wp_walk
            exact ⟨rfl, rfl, _, _, _, _, hrest, hvi', hwi', by omega, hR⟩
          | false =>
            rw [if_neg (fun q => absurd (hiff.mpr q) Bool.false_ne_true)] at hR
            have hri := rcLt_int A.in1 ⟨hp, g, d, tk, os⟩ a t c u prog w
            wp_walk using hri
            exact ⟨_, rfl, by simpa using hR⟩
    case fin =>
      rintro ⟨b1, b2⟩ s' ⟨hb', rfl, vs, ws, ns', ms', hz, hvi, hwi, hlen, hR⟩
      simp only at hb'
      subst hb'
      have hv : lexLt ns' ms' = decide (items.size < items2.size) := by
        cases hvi with
        | nil =>
          cases hwi with
          | nil =>
            simp only [List.length_nil] at hlen
            rw [lexLt_nil_nil]
            exact (decide_eq_false (by omega)).symm
          | cons c u hw =>
            simp only [List.length_nil, List.length_cons] at hlen
            rw [lexLt_nil_cons]
            exact (decide_eq_true (by omega)).symm
        | cons a t hv =>
          cases hwi with
          | nil =>
            simp only [List.length_nil, List.length_cons] at hlen
            rw [lexLt_cons_nil]
            exact (decide_eq_false (by omega)).symm
          | cons c u hw =>
            rw [List.zip_cons_cons] at hz
            cases hz
      rw [hv] at hR
      wp_walk
      exact ⟨_, rfl, by simpa [Builtin.Tuple.tupleCompareSizes] using hR⟩
    case h =>
      exact ⟨rfl, rfl, items.toList, items2.toList, ns, ms, rfl, hi, hj, by omega, h⟩
end

section
variable {prog : Program} {w : World} {A : Around} {E : Value → Shared → Prop} {s : Shared}

theorem lt_tupInts {l b : Addr} {items items2 : Array Value} {ns ms : List Int} {Q : Value → Shared → Prop} (hl : IsTup s.heap l items) (hb : IsTup s.heap b items2) (hi : IntsAre items.toList ns) (hj : IntsAre items2.toList ms)
    (hu : A.units < cLine) (h : Q (.bool (lexLt ns ms)) s) : wpAny (model prog w) A (compareOp .Lt (.ref l) (.ref b)) Q E s := by
  obtain ⟨⟨cls, dd, data, sl⟩, ho, hc, n, hd⟩ := id hl
  obtain ⟨⟨cls2, dd2, data2, sl2⟩, ho2, hc2, n2, hd2⟩ := id hb
  simp only at hc hd hc2 hd2
  subst hc hd hc2 hd2
  exact richCompare_meets_room (op := .Lt) ⟨_, ho, rfl⟩ ⟨_, ho2, rfl⟩ PySem.F.slot_tuple_lt PySem.F.entry_tuple_lt (PySem.F.args_tuple_lt_2 _ _) (tuple_lt_ints l b items items2 n n2 dd dd2 sl sl2 ns ms hi hj)
    ⟨ho, ho2, show Value.bool (lexLt ns ms) ≠ Value.notImplemented ∧ Q (.bool (lexLt ns ms)) s from ⟨(fun x => nomatch x), h⟩⟩ hu

def sIx (n d : Nat) : Option Int → Nat
  | none => d
  | some v => if v < 0 then (v + (n : Int)).toNat else min v.toNat n
theorem sIx_none (n d : Nat) : sIx n d none = d := rfl
theorem sIx_nat (n d k : Nat) : sIx n d (some (k : Int)) = min k n := by
  show (if (k : Int) < 0 then ((k : Int) + (n : Int)).toNat else min (k : Int).toNat n) = min k n
  rw [if_neg (by omega), Int.toNat_natCast]
end
end HT

namespace L2
open PySem PySem.Spec PyProof.Rows

abbrev TO := St → Hp → (Option Int → Hp → Prop) → Prop
def PO (X : Cx) (e : Option Expr) (t : TO) : Prop :=
  ∀ (pins : List (Addr × Obj)) (s : Shared) (σ : St) (H : Hp) (Q : Option Int → Hp → Prop), Inv X pins σ H s → t σ H Q →
    wpAny (model X.prog X.w) X.A (evalPart e X.env) (fun u s' => ∃ o H', Inv X pins σ H' s' ∧ IsPart u o ∧ Q o H') X.xe s
def tNoPart : TO := fun _ H Q => Q none H
def tPart (t : TE) : TO := fun σ H Q => t σ H fun x H1 => ∃ i, x = .int i ∧ Q (some i) H1

theorem intsAre_of {ns : List Int} : ∀ {us : List Value}, Vals (ns.map V.int) us → IntsAre us ns := by
  induction ns with
  | nil => intro us r; rw [List.map_nil] at r; cases r; exact .nil
  | cons n ns ih =>
    intro us r
    rw [List.map_cons] at r
    cases r with
    | cons r1 r2 =>
      obtain ⟨t, e⟩ := r1
      subst e
      exact .cons n t (ih r2)

section
variable {X : Cx} {e : Expr} {te : TE} {lo hi : Option Expr} {tl th : TO} {pos p2 : Pos}

theorem po_none : PO X none tNoPart := by
  intro pins s σ H Q I h
  rw [evalPart_none]
  exact wpAny_pure ⟨none, H, I, .none, h⟩
theorem po_some (h : PE X e te) : PO X (some e) (tPart te) := by
  intro pins s σ H Q I hw
  rw [evalPart_some]
  refine thn (h pins s σ H _ I hw) fun u s1 ⟨x, H1, I1, r1, q1⟩ => ?_
  obtain ⟨i, rfl, q⟩ := q1
  obtain ⟨t, rfl⟩ := r1
  exact ⟨some i, H1, I1, .int i t, q⟩

def SlR (X : Cx) (r : V → Option Int → Option Int → Hp → VK → Prop) : Prop :=
  ∀ (pins : List (Addr × Obj)) (s : Shared) (σ : St) (H : Hp) (x : V) (v vl vu : Value) (lo hi : Option Int) (sl : Addr) (Q : VK), Inv X pins σ H s → RelV x v → s.heap.IsSliceOf sl vl vu .none → IsPart vl lo → IsPart vu hi → r x lo hi H Q →
    ∃ T id, typeLookup (.type T) "__getitem__" = pure (some (.builtin id)) ∧ s.TypeIs v T ∧ wpAny (model X.prog X.w) X.A (getItem v (.ref sl)) (EP X pins σ Q) X.xe s
def tSl (r : V → Option Int → Option Int → Hp → VK → Prop) (te : TE) (tl th : TO) : TE := fun σ H Q => te σ H fun x H1 => tl σ H1 fun l H2 => th σ H2 fun u H3 => r x l u H3 Q
theorem pe_slice {r : V → Option Int → Option Int → Hp → VK → Prop} (hr : SlR X r) (he : PE X e te) (hl : PO X lo tl) (hu : PO X hi th) : PE X (.Subscript e (.Slice lo hi none p2) pos) (tSl r te tl th) := by
  intro pins s σ H Q I h
  refine Subscript_ (thn (he pins s σ H _ I h) fun v s1 ⟨x, H1, I1, r1, q1⟩ => ?_)
  refine wpAny_Slice (thn (hl pins s1 σ H1 _ I1 q1) fun vl s2 ⟨l, H2, I2, pl, q2⟩ => thn (hu pins s2 σ H2 _ I2 q2) fun vu s3 ⟨u, H3, I3, pu, q3⟩ => ?_)
  rw [evalPart_none]
  refine wpAny_pure ?_
  have I4 : Inv X pins σ H3 { s3 with heap := s3.heap.push { cls := .type "slice", data := .fields #[vl, vu, .none] } } := I3.kept (t' := s3.toks) fun b ob q => Heap.get?_push_of_some _ q
  obtain ⟨T, id, hT, ht, hg⟩ := hr pins { s3 with heap := s3.heap.push { cls := .type "slice", data := .fields #[vl, vu, .none] } } σ H3 x v vl vu l u s3.heap.objs.size Q I4 r1 (Heap.IsSliceOf.new ..) pl pu q3
  show wpAny (model X.prog X.w) X.A (subscriptTail e (.Slice lo hi none p2) v (.ref s3.heap.objs.size)) (EP X pins σ Q) X.xe { s3 with heap := s3.heap.push { cls := .type "slice", data := .fields #[vl, vu, .none] } }
  exact tail_any (ops := [.ref s3.heap.objs.size, v]) ht hT hg (by with_unfolding_all rfl)

def cutV (xs : List V) (lo hi : Option Int) : List V := (xs.drop (HT.sIx xs.length 0 lo)).take (HT.sIx xs.length xs.length hi - HT.sIx xs.length 0 lo)
theorem cutV_length (xs : List V) (lo hi : Option Int) : (cutV xs lo hi).length ≤ xs.length := by
  unfold cutV
  rw [List.length_take, List.length_drop]
  omega
def rLtT (K : PySem.W.Frag) : R2 := fun x y H Q => ∃ a b ns ms, x = .ref a ∧ y = .ref b ∧ SqT K H a (ns.map V.int) ∧ SqT K H b (ms.map V.int) ∧ Q (.bl (HT.lexLt ns ms)) H
theorem op_ltT (hu : X.A.units < cLine) : OpR X (compareOp .Lt) (rLtT X.K) := by
  intro pins s σ H x y v u Q I rx ry h
  obtain ⟨a, b, ns, ms, rfl, rfl, ha, hb, q⟩ := h
  cases rx
  cases ry
  obtain ⟨its, r1, p1, _⟩ := I.tuple ha
  obtain ⟨its2, r2, p2, _⟩ := I.tuple hb
  have i1 : IntsAre its.toArray.toList ns := intsAre_of r1
  have i2 : IntsAre its2.toArray.toList ms := intsAre_of r2
  exact HT.lt_tupInts p1 p2 i1 i2 hu ⟨.bl (HT.lexLt ns ms), H, I, rfl, q⟩
end
end L2

namespace L2
open PySem PySem.Spec PyProof.Rows

def ixN (n : Nat) (i : Int) : Option Nat := if 0 ≤ i then (if i < n then some i.toNat else none) else if -(n : Int) ≤ i then some (i + n).toNat else none
def atI {α : Type} (xs : List α) (i : Int) : Option α := (ixN xs.length i).bind fun j => xs[j]?
theorem ixN_seq {n : Nat} {i : Int} {j : Nat} (h : ixN n i = some j) : seqIndex? i n = some j ∧ j < n ∧ -(n : Int) ≤ i ∧ i < n := by
  unfold ixN at h
  by_cases h0 : 0 ≤ i
  · rw [if_pos h0] at h
    by_cases h1 : i < n
    · rw [if_pos h1] at h
      have e : i.toNat = j := Option.some.inj h
      exact ⟨by rw [seqIndex_of h0 h1, e], by omega, by omega, h1⟩
    · rw [if_neg h1] at h; cases h
  · rw [if_neg h0] at h
    by_cases h1 : -(n : Int) ≤ i
    · rw [if_pos h1] at h
      have e : (i + n).toNat = j := Option.some.inj h
      exact ⟨by rw [seqIndex_neg (by omega) h1, e], by omega, h1, by omega⟩
    · rw [if_neg h1] at h; cases h
theorem atI_get {α : Type} {xs : List α} {i : Int} {v : α} (h : atI xs i = some v) : ∃ j, seqIndex? i xs.length = some j ∧ xs[j]? = some v ∧ j < xs.length ∧ -(xs.length : Int) ≤ i ∧ i < xs.length := by
  unfold atI at h
  cases e : ixN xs.length i with
  | none => rw [e] at h; cases h
  | some j =>
    rw [e] at h
    obtain ⟨h1, h2, h3, h4⟩ := ixN_seq e
    exact ⟨j, h1, h, h2, h3, h4⟩
theorem atI_nat {α : Type} {xs : List α} {j : Nat} {v : α} (h : xs[j]? = some v) : atI xs (j : Int) = some v := by
  have hj : j < xs.length := (List.getElem?_eq_some_iff.mp h).1
  have e : ixN xs.length (j : Int) = some j := by
    unfold ixN
    rw [if_pos (by omega), if_pos (by omega)]; simp
  unfold atI; rw [e]; exact h
def PlainIx (b : Expr) : Prop := ∀ o i, subscripted b false o i = operate [o, i] (getItem o i)
def IxR (X : Cx) (r : R2) : Prop :=
  ∀ (value slice : Expr) (pins : List (Addr × Obj)) (s : Shared) (σ : St) (H : Hp) (x y : V) (v u : Value) (Q : VK), Inv X pins σ H s → RelV x v → RelV y u → r x y H Q →
    subscripted slice false v u = operate [v, u] (getItem v u) → wpAny (model X.prog X.w) X.A (subscriptTail value slice v u) (EP X pins σ Q) X.xe s
def MtR (X : Cx) (id : String) (r : V → List V → Hp → VK → Prop) : Prop :=
  ∀ (pins : List (Addr × Obj)) (s : Shared) (σ : St) (H : Hp) (x : V) (xs : List V) (v : Value) (us : List Value) (Q : VK), Inv X pins σ H s → RelV x v → Vals xs us → r x xs H Q →
    wpAny (model X.prog X.w) X.A (call (.builtin id) (v :: us)) (EP X pins σ Q) X.xe s
section
variable {X : Cx} {a b : Expr} {ta tb : TE} {pos : Pos}
theorem pe_ix {r : R2} (hr : IxR X r) (ha : PE X a ta) (hb : PE X b tb) (hs : PlainIx b) : PE X (.Subscript a b pos) (tOp r ta tb) := by
  intro pins s σ H Q I h
  exact Subscript_ (binT ha hb I h fun v u s2 x y H2 I2 rx ry q => hr a b pins s2 σ H2 x y v u Q I2 rx ry q (hs _ _))

def rIxL (K : PySem.W.Frag) : R2 := fun x y H Q => ∃ p xs i v, x = .ref p ∧ y = .int i ∧ SqL K H p xs ∧ atI xs i = some v ∧ Q v H
def rIxT (K : PySem.W.Frag) : R2 := fun x y H Q => ∃ p xs i v, x = .ref p ∧ y = .int i ∧ SqT K H p xs ∧ atI xs i = some v ∧ Q v H
def rIxS : R2 := fun x y H Q => ∃ z i c, x = .str z ∧ y = .int i ∧ z.length ≤ sizeLine ∧ atI z.cps.toList i = some c ∧ Q (.str ⟨#[c]⟩) H
theorem ix_list : IxR X (rIxL X.K) := by
  intro value slice pins s σ H x y v u Q I rx ry h hs
  obtain ⟨p, xs, i, z, rfl, rfl, hq, he, q⟩ := h
  cases rx
  obtain ⟨t, rfl⟩ := ry
  obtain ⟨its, r, pl, hz⟩ := I.list hq
  obtain ⟨j, h1, h2, h3, h4, h5⟩ := atI_get he
  obtain ⟨w, ew, rw'⟩ := r.get h2
  have hl := r.length
  have hn := line63
  have fin : EP X pins σ Q w s := ⟨z, H, I, rw', q⟩
  by_cases h0 : 0 ≤ i
  · have hj : i.toNat = j := by
      rw [seqIndex_of h0 h5] at h1
      exact Option.some.inj h1
    exact item_listR pl.isList h0 (by omega) (by rw [hj]; simpa using ew) fin hs
  · have hj : (i + (its.toArray.size : Int)).toNat = j := by
      rw [seqIndex_neg (by omega) h4] at h1
      rw [List.size_toArray, ← hl]
      exact Option.some.inj h1
    exact subscriptTail_builtinR (x := w) pl.isList.typeIs slot_list_getitem.lookup
      (wpAny_getItem_list_neg (Q := fun r s' => r = w ∧ EP X pins σ Q r s') pl.isList (by omega) (by rw [List.size_toArray] <;> omega) (by omega) (by rw [hj]; simpa using ew) ⟨rfl, fin⟩) hs
theorem ix_tup : IxR X (rIxT X.K) := by
  intro value slice pins s σ H x y v u Q I rx ry h hs
  obtain ⟨p, xs, i, z, rfl, rfl, hq, he, q⟩ := h
  cases rx
  obtain ⟨t, rfl⟩ := ry
  obtain ⟨its, r, pl, hz⟩ := I.tuple hq
  obtain ⟨j, h1, h2, h3, h4, h5⟩ := atI_get he
  obtain ⟨w, ew, rw'⟩ := r.get h2
  have hl := r.length
  have hn := line63
  have fin : EP X pins σ Q w s := ⟨z, H, I, rw', q⟩
  exact subscriptTail_builtinR (x := w) pl.typeIs slot_tuple_getitem.lookup
    (getItem_tuple (j := j) (Q := fun r s' => r = w ∧ EP X pins σ Q r s') pl (by omega) (by omega) (by rw [List.size_toArray, ← hl]; exact h1) (by simpa using ew) ⟨rfl, fin⟩) hs
theorem ix_str : IxR X rIxS := by
  intro value slice pins s σ H x y v u Q I rx ry h hs
  obtain ⟨z, i, c, rfl, rfl, hz, he, q⟩ := h
  obtain ⟨t, rfl⟩ := rx
  obtain ⟨t', rfl⟩ := ry
  obtain ⟨j, h1, h2, h3, h4, h5⟩ := atI_get he
  have hl : z.cps.toList.length = z.length := by simp [Str.length]
  rw [hl] at h1 h4 h5
  have hn := line63
  exact tail_any (typeIs_str s z t) slot_str_getitem.lookup (getItem_str (c := c) (by
    have e1 : decide (i < -(2 ^ 63 : Int)) = false := decide_eq_false (by omega)
    have e2 : decide (i ≥ 2 ^ 63) = false := decide_eq_false (by omega)
    rw [e1, e2, Bool.or_false]) (by rw [h1]; simpa using h2) ⟨.str ⟨#[c]⟩, H, I.tok _, ⟨_, rfl⟩, q⟩) hs
theorem mapSeq_set (its : List Value) (n j : Nat) (u : Value) : Obj.mapSeq (·.setIfInBounds j u) { cls := .type "list", data := .seq its.toArray n } = { cls := .type "list", data := .seq (its.set j u).toArray n } := by
  simp [Obj.mapSeq]
theorem Inv.lst {pins : List (Addr × Obj)} {σ : St} {H : Hp} {s : Shared} {p : Addr} {xs : List V} (I : Inv X pins σ H s) (h : H p = some (.lst xs)) :
    ∃ (its : List Value) (n : Nat), Vals xs its ∧ s.heap.get? p = some { cls := .type "list", data := .seq its.toArray n } ∧ xs.length ≤ sizeLine := by
  obtain ⟨z, its, n, r, e⟩ := I.hok p _ h
  exact ⟨its, n, r, e, z⟩
theorem Inv.lstUpd {pins : List (Addr × Obj)} {σ : St} {H : Hp} {s : Shared} {p : Addr} {xs ys : List V} {its its' : List Value} {n n' : Nat} {f : Obj → Obj} (I : Inv X pins σ H s) (h : H p = some (.lst xs))
    (ho : s.heap.get? p = some { cls := .type "list", data := .seq its.toArray n }) (hf : f { cls := .type "list", data := .seq its.toArray n } = { cls := .type "list", data := .seq its'.toArray n' }) (r : Vals ys its') (hz : ys.length ≤ sizeLine) (t : Nat) :
    Inv X pins σ (upd H p (.lst ys)) { s with heap := s.heap.update p f, toks := t } := by
  have e : (s.heap.update p f).get? p = some { cls := .type "list", data := .seq its'.toArray n' } := by
    rw [Heap.get?_update_self f ho (by rw [hf] <;> rfl), hf]
  refine I.write (x := p) (e := p) (by rw [h]; trivial) (.inl rfl) (fun b u hb q => (Heap.get?_update_other _ _ (Ne.symm hb)).trans q) ⟨_, e⟩ ?_
  exact ⟨hz, its', n', r, e⟩
def rSetL : V → V → V → Hp → (Hp → Prop) → Prop := fun o i v H Q => ∃ p xs k j, o = .ref p ∧ i = .int k ∧ H p = some (.lst xs) ∧ ixN xs.length k = some j ∧ Q (upd H p (.lst (xs.set j v)))
theorem set_list : PSet X rSetL := by
  intro pins s σ H o i v ov iv u Q I ro ri rv h
  obtain ⟨p, xs, k, j, rfl, rfl, hp, hj, q⟩ := h
  cases ro
  obtain ⟨t, rfl⟩ := ri
  obtain ⟨its, n, r, ho, hz⟩ := I.lst hp
  obtain ⟨h1, h2, h3, h4⟩ := ixN_seq hj
  have hl := r.length
  have hn := line63
  have I' : Inv X pins σ (upd H p (.lst (xs.set j v))) { s with heap := s.heap.update p (Obj.mapSeq (·.setIfInBounds j u)) } :=
    I.lstUpd hp ho (mapSeq_set its n j u) (r.set rv j) (by rw [List.length_set]; exact hz) s.toks
  by_cases h0 : 0 ≤ k
  · have hk : k.toNat = j := by
      rw [seqIndex_of h0 h4] at h1
      exact Option.some.inj h1
    exact PySem.W.ki_setAt ho h0 (by omega) (by rw [List.size_toArray, ← hl]; exact h4) (by rw [hk]; exact ⟨_, I', q⟩)
  · have hk : (k + (its.toArray.size : Int)).toNat = j := by
      rw [seqIndex_neg (by omega) h3] at h1
      rw [List.size_toArray, ← hl]
      exact Option.some.inj h1
    exact PySem.W.ki_setBack ho (by omega) (by rw [List.size_toArray, ← hl]; exact h3) (by omega) (by rw [hk]; exact ⟨_, I', q⟩)

theorem slice_bounds (lo hi : Option Int) (n : Nat) : (sliceBounds lo hi none n).1 = ((HT.sIx n 0 lo : Nat) : Int) ∧ (sliceBounds lo hi none n).2.1 = ((HT.sIx n n hi : Nat) : Int) ∧ (sliceBounds lo hi none n).2.2 = 1 := by
  refine ⟨?_, ?_, rfl⟩
  · cases lo with
    | none => simp [sliceBounds, HT.sIx]
    | some i =>
      simp only [sliceBounds, HT.sIx, Option.getD_none, show (1 : Int) > 0 by decide, if_true]
      by_cases h : i < 0
      · simp only [h, if_true] <;> omega
      · simp only [h, if_false] <;> omega
  · cases hi with
    | none => simp [sliceBounds, HT.sIx]
    | some i =>
      simp only [sliceBounds, HT.sIx, Option.getD_none, show (1 : Int) > 0 by decide, if_true]
      by_cases h : i < 0
      · simp only [h, if_true] <;> omega
      · simp only [h, if_false] <;> omega
theorem slicePick_cut (its : List Value) (lo hi : Option Int) : slicePick its.toArray lo hi none = ((its.drop (HT.sIx its.length 0 lo)).take (HT.sIx its.length its.length hi - HT.sIx its.length 0 lo)).toArray := by
  obtain ⟨h1, h2, h3⟩ := slice_bounds lo hi its.toArray.size
  unfold slicePick
  rw [h1, h2, h3]
  simp only [sliceRange_one, pick_run, List.size_toArray] <;> rfl
def rSlL (K : PySem.W.Frag) : V → Option Int → Option Int → Hp → VK → Prop := fun x lo hi H Q => ∃ a xs, x = .ref a ∧ SqL K H a xs ∧ ∀ p, H p = none → Q (.ref p) (upd H p (.lst (cutV xs lo hi)))
theorem sl_list : SlR X (rSlL X.K) := by
  intro pins s σ H x v vl vu lo hi sl Q I rx hs pl pu h
  obtain ⟨a, xs, rfl, hx, q⟩ := h
  cases rx
  obtain ⟨its, r, ht, hz⟩ := I.list hx
  have hlen := r.length
  refine ⟨"list", _, slot_list_getitem.lookup, ht.isList.typeIs, ?_⟩
  refine wpAny_getItem_list_slice ht.isList hs pl pu .none (by simp) ?_ (by rw [List.size_toArray] <;> omega)
  rw [slicePick_cut, ← hlen]
  refine ⟨.ref s.heap.objs.size, _, I.laid (t' := s.toks) (o := .lst (cutV xs lo hi)) (fun b ob q => Heap.get?_push_of_some _ q) (Nat.le_refl _) ?_, rfl, q _ (I.hok.fresh (Nat.le_refl _))⟩
  exact ⟨Nat.le_trans (cutV_length xs lo hi) hz, _, 0, (r.drop (HT.sIx xs.length 0 lo)).take (HT.sIx xs.length xs.length hi - HT.sIx xs.length 0 lo), Heap.get?_push_size _ rfl⟩

def flatV : V → Bool
  | .non => true
  | .bl _ => true
  | .int _ => true
  | .str _ => true
  | _ => false
def eqV : V → V → Bool
  | .non, .non => true
  | .bl a, .bl b => a == b
  | .bl a, .int b => (if a then 1 else 0) == b
  | .int a, .bl b => a == (if b then 1 else 0)
  | .int a, .int b => a == b
  | .str a, .str b => a == b
  | _, _ => false
theorem eqAt_V {A : Around} {s : Shared} {y x : V} {u v : Value} (ry : RelV y u) (rx : RelV x v) (fy : flatV y = true) (fx : flatV x = true) : SeqAt.EqAt A s u v (eqV y x) := by
  cases y with
  | non =>
    cases ry
    cases x with
    | non => cases rx; exact SeqAt.EqAt.same _
    | bl b => cases rx; exact SeqAt.EqAt.none_bool b
    | int b => obtain ⟨t, rfl⟩ := rx; exact SeqAt.EqAt.none_int b t
    | str b => obtain ⟨t, rfl⟩ := rx; exact SeqAt.EqAt.none_str b t
    | _ => exact absurd (show false = true from fx) Bool.false_ne_true
  | bl a =>
    cases ry
    cases x with
    | non => cases rx; exact SeqAt.EqAt.bool_none a
    | bl b => cases rx; exact SeqAt.EqAt.bool_bool a b
    | int b => obtain ⟨t, rfl⟩ := rx; exact SeqAt.EqAt.bool_int a b t
    | str b => obtain ⟨t, rfl⟩ := rx; exact SeqAt.EqAt.bool_str a b t
    | _ => exact absurd (show false = true from fx) Bool.false_ne_true
  | int a =>
    obtain ⟨t', rfl⟩ := ry
    cases x with
    | non => cases rx; exact SeqAt.EqAt.int_none a t'
    | bl b => cases rx; exact SeqAt.EqAt.int_bool a t' b
    | int b => obtain ⟨t, rfl⟩ := rx; exact SeqAt.EqAt.int_int a t' b t
    | str b => obtain ⟨t, rfl⟩ := rx; exact SeqAt.EqAt.int_str a t' b t
    | _ => exact absurd (show false = true from fx) Bool.false_ne_true
  | str a =>
    obtain ⟨t', rfl⟩ := ry
    cases x with
    | non => cases rx; exact SeqAt.EqAt.str_none a t'
    | bl b => cases rx; exact SeqAt.EqAt.str_bool a t' b
    | int b => obtain ⟨t, rfl⟩ := rx; exact SeqAt.EqAt.str_int a t' b t
    | str b => obtain ⟨t, rfl⟩ := rx; exact SeqAt.EqAt.str_str a t' b t
    | _ => exact absurd (show false = true from fx) Bool.false_ne_true
  | _ => exact absurd (show false = true from fy) Bool.false_ne_true
theorem op_notIn_str : OpR X (compareOp .NotIn) (fun x y H Q => ∃ i j, x = .str i ∧ y = .str j ∧ Q (.bl (!(!(Builtin.Str.occurrences j i 0 j.length 1).isEmpty))) H) := by
  intro pins s σ H x y v u Q I rx ry h
  obtain ⟨i, j, rfl, rfl, q⟩ := h
  obtain ⟨t, rfl⟩ := rx
  obtain ⟨t', rfl⟩ := ry
  exact notIn_str ⟨.bl _, H, I, rfl, q⟩

theorem call_len_seq : CallR X (.builtin "len") (fun xs H Q => ∃ p ys, xs = [.ref p] ∧ (SqL X.K H p ys ∨ SqT X.K H p ys) ∧ Q (.int ys.length) H) := by
  intro pins s σ H xs us Q I r h
  obtain ⟨p, ys, rfl, hq, q⟩ := h
  obtain ⟨u, rfl, rx⟩ := vals1 r
  cases rx
  have hn := line63
  rcases hq with hq | hq
  · obtain ⟨its, r', pl, hz⟩ := I.list hq
    have hlen := r'.length
    exact Calls.call_len_list pl.isList (by simp only [List.size_toArray] <;> omega) ⟨.int ys.length, H, I.tok _, ⟨s.toks + 1, by rw [List.size_toArray, hlen]⟩, q⟩
  · obtain ⟨its, r', pl, hz⟩ := I.tuple hq
    have hlen := r'.length
    exact len_tuple pl (by simp only [List.size_toArray] <;> omega) ⟨.int ys.length, H, I.tok _, ⟨s.toks + 1, by rw [List.size_toArray, hlen]⟩, q⟩
theorem call_len_str : CallR X (.builtin "len") (fun xs H Q => ∃ z, xs = [.str z] ∧ z.length ≤ sizeLine ∧ Q (.int z.length) H) := by
  intro pins s σ H xs us Q I r h
  obtain ⟨z, rfl, hz, q⟩ := h
  obtain ⟨u, rfl, t, rfl⟩ := vals1 r
  have hn := line63
  exact len_str (by omega) ⟨.int z.length, H, I.tok _, ⟨_, rfl⟩, q⟩
theorem call_list_of : CallR X (.type "list") (fun xs H Q => ∃ p ys, xs = [.ref p] ∧ (SqL X.K H p ys ∨ SqT X.K H p ys) ∧ ∀ l, H l = none → Q (.ref l) (upd H l (.lst ys))) := by
  intro pins s σ H xs us Q I r h
  obtain ⟨p, ys, rfl, hq, q⟩ := h
  obtain ⟨u, rfl, rx⟩ := vals1 r
  cases rx
  have fin : ∀ (its : List Value), Vals ys its → ys.length ≤ sizeLine → ∀ (h' : Heap) (c' : Nat), (∀ b o', s.heap.get? b = some o' → h'.get? b = some o') →
      h'.get? s.heap.objs.size = some { cls := .type "list", dict := none, data := .seq its.toArray c', slots := #[] } → EP X pins σ Q (.ref s.heap.objs.size) { s with heap := h' } := fun its r' hz h' c' kp e =>
    ⟨.ref s.heap.objs.size, _, I.laid (t' := s.toks) kp (Nat.le_refl _) (show ObjOk X.prog X.w _ h' _ (.lst ys) from ⟨hz, its, c', r', e⟩), rfl, q _ (I.hok.fresh (Nat.le_refl _))⟩
  rcases hq with hq | hq
  · obtain ⟨its, r', pl, hz⟩ := I.list hq
    have hlen := r'.length
    obtain ⟨o, ho, hc, n, hd⟩ := pl.isList
    exact call_list_seq p (.inl rfl) ho hc hd (fun h' c' kp e => fin its r' hz h' c' kp e) (by simp only [List.size_toArray] <;> omega)
  · obtain ⟨its, r', pl, hz⟩ := I.tuple hq
    have hlen := r'.length
    obtain ⟨o, ho, hc, n, hd⟩ := pl
    exact call_list_seq p (.inr rfl) ho hc hd (fun h' c' kp e => fin its r' hz h' c' kp e) (by simp only [List.size_toArray] <;> omega)
theorem call_tuple_of : CallR X (.type "tuple") (fun xs H Q => ∃ p ys, xs = [.ref p] ∧ ((SqL X.K H p ys ∧ ∀ l, H l = none → Q (.ref l) (upd H l (.tup ys))) ∨ (SqT X.K H p ys ∧ Q (.ref p) H))) := by
  intro pins s σ H xs us Q I r h
  obtain ⟨p, ys, rfl, h⟩ := h
  obtain ⟨u, rfl, rx⟩ := vals1 r
  cases rx
  rcases h with ⟨hq, q⟩ | ⟨hq, q⟩
  · obtain ⟨its, r', pl, hz⟩ := I.list hq
    have hlen := r'.length
    refine call_tuple_list pl.isList (fun h' kp => ?_) (by simp only [List.size_toArray] <;> omega)
    have I1 : Inv X pins σ H { s with heap := h' } := I.kept (t' := s.toks) kp
    have I2 : Inv X pins σ (upd H h'.objs.size (.tup ys)) { s with heap := h'.push { cls := .type "tuple", data := .seq its.toArray } } :=
      I1.laid (t' := s.toks) (fun b o e => Heap.get?_push_of_some _ e) (Nat.le_refl _) (show ObjOk X.prog X.w _ _ _ (.tup ys) from ⟨hz, its, r', IsTup.new _ _⟩)
    exact ⟨.ref h'.objs.size, _, I2, rfl, q _ (I1.hok.fresh (Nat.le_refl _))⟩
  · obtain ⟨its, r', pl, hz⟩ := I.tuple hq
    exact call_tuple_same pl ⟨.ref p, H, I, rfl, q⟩

def tyV (K : PySem.W.Frag) (T : String) (x : V) (H : Hp) : Prop := match x with
  | .str _ => T = "str"
  | .int _ => T = "int"
  | .ref p => (T = "list" ∧ ∃ xs, SqL K H p xs) ∨ (T = "tuple" ∧ ∃ o, K.lookup p = some o ∧ o.cls = .type "tuple" ∧ o.dict = none) ∨
      (T = "dict" ∧ ((∃ kvs, H p = some (.dK kvs)) ∨ ∃ kvs, H p = some (.dT kvs))) ∨ (T = "set" ∧ ∃ S n, H p = some (.set S n))
  | _ => False
theorem tyV_is {pins : List (Addr × Obj)} {σ : St} {H : Hp} {s : Shared} {T : String} {x : V} {v : Value} (I : Inv X pins σ H s) (r : RelV x v) (ty : tyV X.K T x H) :
    s.TypeIs v T ∧ ∀ a, v = .ref a → ∃ ob, s.heap.get? a = some ob ∧ ob.dict = none := by
  cases x with
  | str z =>
    obtain ⟨t, rfl⟩ := r
    cases (show T = "str" from ty)
    exact ⟨typeIs_str s z t, fun _ e => nomatch e⟩
  | int i =>
    obtain ⟨t, rfl⟩ := r
    cases (show T = "int" from ty)
    exact ⟨typeIs_int s i t, fun _ e => nomatch e⟩
  | ref p =>
    cases r
    rcases ty with ⟨rfl, xs, hq⟩ | ⟨rfl, o, hk, hc, hd⟩ | ⟨rfl, hk⟩ | ⟨rfl, S, n, hk⟩
    · obtain ⟨its, _, pl, _⟩ := I.list hq
      refine ⟨pl.isList.typeIs, fun a e => ?_⟩
      cases e
      obtain ⟨o, n, e, c, hd, _⟩ := pl
      exact ⟨o, e, hd⟩
    · refine ⟨⟨o, I.kIn p o hk, hc⟩, fun a e => ?_⟩
      cases e
      exact ⟨o, I.kIn _ o hk, hd⟩
    · have z : ∃ o, s.heap.get? p = some o ∧ o.ExactDict := by
        rcases hk with ⟨kvs, hk⟩ | ⟨kvs, hk⟩
        · obtain ⟨_, _, _, _, o, _, _, e, ex, _⟩ := I.hok p _ hk
          exact ⟨o, e, ex⟩
        · obtain ⟨_, _, _, _, o, _, _, e, ex, _⟩ := I.hok p _ hk
          exact ⟨o, e, ex⟩
      obtain ⟨o, e, ex⟩ := z
      refine ⟨⟨o, e, ex.1⟩, fun a e2 => ?_⟩
      cases e2
      exact ⟨o, e, ex.2.1⟩
    · obtain ⟨o, _, _, _, e, ex, _⟩ := I.hok p _ hk
      refine ⟨⟨o, e, ex.1⟩, fun a e2 => ?_⟩
      cases e2
      exact ⟨o, e, ex.2.1⟩
  | _ => exact False.elim ty
def tBM0 (K : PySem.W.Frag) (T : String) (r : V → List V → Hp → VK → Prop) (to : TE) : TE := fun σ H Q => to σ H fun x H1 => tyV K T x H1 ∧ r x [] H1 Q
def tBM (K : PySem.W.Frag) (T : String) (r : V → List V → Hp → VK → Prop) (to : TE) (t : TA) : TE := fun σ H Q => to σ H fun x H1 => tyV K T x H1 ∧ t σ H1 fun xs H2 => r x xs H2 Q
variable {o e : Expr} {es : List Expr} {to : TE} {t : TA} {name : Str} {apos cpos : Pos} {T id : String} {r : V → List V → Hp → VK → Prop}
theorem pe_bm0 (pa : PlainAttrs T) (slot : Slot T name id) (hty : typeOf (.builtin id) = pure (.type "method_descriptor")) (hm : MtR X id r) (ho : PE X o to)
    (hbase : attributeBase o name X.env (eval o X.env) = eval o X.env := by rfl) (hline : (apos.endLine == cpos.line) = true := by rfl) : PE X (.Call (.Attribute o name apos) [] [] cpos) (tBM0 X.K T r to) := by
  intro pins s σ H Q I h
  refine wpAny_Call_method0_late hbase hline (thn (ho pins s σ H _ I h) fun v s1 ⟨x, H1, I1, r1, ty, q1⟩ => ?_)
  obtain ⟨h1, h2⟩ := tyV_is I1 r1 ty
  exact ⟨T, id, pa, slot, hty, h1, h2, Calls.callWith_builtin rfl (PySem.evalArgs_none (hm pins s1 σ H1 x [] v [] Q I1 r1 .nil q1))⟩
theorem pe_bm (pa : PlainAttrs T) (slot : Slot T name id) (hty : typeOf (.builtin id) = pure (.type "method_descriptor")) (hm : MtR X id r) (ho : PE X o to) (ha : PA X (e :: es) t)
    (hbase : attributeBase o name X.env (eval o X.env) = eval o X.env := by rfl)
    (hfew : ((backTo cpos (starEach (e :: es) X.env)).all (fun x => !x.1) && (backToKw cpos (keywordEach [] X.env)).all (fun x => x.1.isSome)
      && decide ((e :: es).length + ([] : List Keyword).length + (if ([] : List Keyword).isEmpty then 0 else 1) < 30)) = true := by rfl)
    (hline : (apos.endLine == cpos.line) = true := by rfl) (hs : starEach (e :: es) X.env = (false, eval e X.env) :: starEach es X.env := by rfl) (hplain : (backTo cpos (starEach es X.env)).any (·.1) = false := by rfl) :
    PE X (.Call (.Attribute o name apos) (e :: es) [] cpos) (tBM X.K T r to t) := by
  intro pins s σ H Q I h
  refine wpAny_Call_method_late hbase hfew hline rfl (thn (ho pins s σ H _ I h) fun v s1 ⟨x, H1, I1, r1, ty, q1⟩ => ?_)
  obtain ⟨h1, h2⟩ := tyV_is I1 r1 ty
  refine ⟨T, id, pa, slot, hty, h1, h2, ?_⟩
  have hA := ha cpos pins s1 σ H1 _ I1 q1
  rw [hs] at hA ⊢
  refine Calls.callWith_builtin (by show (false || (backTo cpos (starEach es X.env)).any (·.1)) = false; rw [hplain] <;> rfl) (Calls.evalArgs_plain ?_)
  exact thn hA fun us s2 ⟨vs, H2, I2, r2, q2⟩ => hm pins s2 σ H2 x vs v us Q I2 r1 r2 q2
end
end L2

namespace L2
open PySem PySem.Spec PyProof.Rows

def MtM (X : Cx) (id : String) (r : V → List V → Hp → VK → Prop) : Prop :=
  ∀ (pins : List (Addr × Obj)) (s : Shared) (σ : St) (H : Hp) (x : V) (xs : List V) (v : Value) (us : List Value) (Q : VK), Inv X pins σ H s → RelV x v → Vals xs us → r x xs H Q →
    wpAny (model X.prog X.w) X.A (call (.builtin id) (v :: us)) (EP X pins σ Q) X.xe s

theorem Vals.one : ∀ {x : V} {us : List Value}, Vals [x] us → ∃ u, us = [u] ∧ RelV x u
  | _, _, .cons r .nil => ⟨_, rfl, r⟩
section
variable {X : Cx} {pins : List (Addr × Obj)} {σ : St} {H : Hp} {s : Shared} {l b : Addr} {xs ys zs : List V}

theorem Inv.lset {its its' : List Value} {n : Nat} {f : Array Value → Array Value} {t' : Nat} (I : Inv X pins σ H s) (hH : H l = some (.lst xs))
    (e : s.heap.get? l = some { cls := .type "list", data := .seq its.toArray n }) (hf : f its.toArray = its'.toArray) (hv : Vals ys its') (hz : ys.length ≤ sizeLine) :
    Inv X pins σ (upd H l (.lst ys)) { s with heap := s.heap.update l (Obj.mapSeq f), toks := t' } := by
  have q := PySem.IsL.update e f
  rw [hf] at q
  refine I.write (x := l) (e := l) (by rw [hH]; exact trivial) (.inl rfl) (fun b' u hb hu => (Heap.get?_update_other s.heap (Obj.mapSeq f) (Ne.symm hb)).trans hu) ⟨_, q⟩ ?_
  exact ⟨hz, its', _, hv, q⟩
theorem Inv.lnew {its : List Value} {t' : Nat} (I : Inv X pins σ H s) (hv : Vals ys its) (hz : ys.length ≤ sizeLine) :
    Inv X pins σ (upd H s.heap.objs.size (.lst ys)) { s with heap := s.heap.push { cls := .type "list", data := .seq its.toArray }, toks := t' } :=
  I.laid (fun _ _ q => Heap.get?_push_of_some _ q) (Nat.le_refl _) ⟨hz, its, 0, hv, Heap.get?_push_size _ rfl⟩
theorem Inv.fresh (I : Inv X pins σ H s) : H s.heap.objs.size = none := I.hok.fresh (Nat.le_refl _)
theorem Inv.lstM (I : Inv X pins σ H s) (hH : H l = some (.lst xs)) : xs.length ≤ sizeLine ∧ ∃ (its : List Value) (n : Nat), Vals xs its ∧ xs.length = its.length ∧ s.heap.get? l = some { cls := .type "list", data := .seq its.toArray n } := by
  obtain ⟨z, its, n, r, e⟩ := I.hok l _ hH
  exact ⟨z, its, n, r, r.length, e⟩

theorem notLongL {n : Nat} (h : n ≤ sizeLine) : Builtin.List.listTooLong n = false := by
  unfold Builtin.List.listTooLong
  exact decide_eq_false (by omega)
end

section
variable {X : Cx}

def rAppend : V → List V → Hp → VK → Prop := fun x vs H Q => ∃ l xs y, x = .ref l ∧ vs = [y] ∧ H l = some (.lst xs) ∧ xs.length < sizeLine ∧ Q .non (upd H l (.lst (xs ++ [y])))
theorem mt_append : MtM X "list.append" rAppend := by
  intro pins s σ H x vs v us Q I rx rv h
  obtain ⟨l, xs, y, rfl, rfl, hH, hz, q⟩ := h
  cases rx
  obtain ⟨u, rfl, ru⟩ := rv.one
  obtain ⟨z, its, n, r, hl, e⟩ := I.lstM hH
  refine call_meets F.slot_list_append ⟨_, e, rfl⟩ F.entry_list_append (F.args_list_append_2 _ _) (PySem.list_append l its.toArray n u (by rw [List.size_toArray]; omega)) ⟨e, ?_⟩
  refine ⟨.non, _, I.lset (its' := its ++ [u]) hH e (by simp) (r.append (.cons ru .nil)) ?_, rfl, q⟩
  rw [List.length_append, List.length_singleton]
  omega

def rExtend : V → List V → Hp → VK → Prop := fun x vs H Q => ∃ l b xs zs, x = .ref l ∧ vs = [.ref b] ∧ H l = some (.lst xs) ∧ H b = some (.lst zs) ∧ xs.length + zs.length ≤ sizeLine ∧ Q .non (upd H l (.lst (xs ++ zs)))
theorem mt_extend : MtM X "list.extend" rExtend := by
  intro pins s σ H x vs v us Q I rx rv h
  obtain ⟨l, b, xs, zs, rfl, rfl, hH, hB, hz, q⟩ := h
  cases rx
  obtain ⟨u, rfl, ru⟩ := rv.one
  cases ru
  obtain ⟨z, its, n, r, hl, e⟩ := I.lstM hH
  obtain ⟨z2, its2, n2, r2, hl2, e2⟩ := I.lstM hB
  have hsz : its.toArray.size + its2.toArray.size ≤ sizeLine := by rw [List.size_toArray, List.size_toArray]; omega
  have hlong : ¬ (!its.toArray.isEmpty && Builtin.List.listTooLong (its.toArray.size + its2.toArray.size)) = true := by
    rw [notLongL hsz, Bool.and_false]
    exact Bool.false_ne_true
  refine call_meets F.slot_list_extend ⟨_, e, rfl⟩ F.entry_list_extend (F.args_list_extend_2 _ _)
    (AutoSeq1.list_extend_list_list_0 l its.toArray n b its2.toArray n2 hlong (by rw [List.size_toArray]; omega) (by omega)) ⟨e, e2, ?_⟩
  refine ⟨.non, _, I.lset (its' := its ++ its2) hH e (by simp) (r.append r2) ?_, rfl, q⟩
  rw [List.length_append]
  omega

def rCat : R2 := fun x y H Q => ∃ l b xs zs, x = .ref l ∧ y = .ref b ∧ H l = some (.lst xs) ∧ H b = some (.lst zs) ∧ xs.length + zs.length ≤ sizeLine ∧ ∀ p, H p = none → Q (.ref p) (upd H p (.lst (xs ++ zs)))
theorem op_cat : OpR X (binaryOp .Add) rCat := by
  intro pins s σ H x y v u Q I rx ry h
  obtain ⟨l, b, xs, zs, rfl, rfl, hH, hB, hz, q⟩ := h
  cases rx
  cases ry
  obtain ⟨z, its, n, r, hl, e⟩ := I.lstM hH
  obtain ⟨z2, its2, n2, r2, hl2, e2⟩ := I.lstM hB
  refine PySem.P.add_list e e2 ?_ (by rw [List.size_toArray, List.size_toArray]; omega)
  have ea : its.toArray ++ its2.toArray = (its ++ its2).toArray := by simp
  rw [ea]
  exact ⟨.ref _, _, I.lnew (t' := s.toks) (r.append r2) (by rw [List.length_append]; omega), rfl, q _ I.fresh⟩
end

section
variable {prog : Program} {w : World} {A : Around} {E : Value → Shared → Prop} {s : Shared}
set_option maxRecDepth 100000 in
end

section
variable {X : Cx}
end
end L2

namespace L2
open PySem PySem.Spec PyProof.Rows

section
variable {κ : Type} [DecidableEq κ]
def valV (kvs : List (κ × V)) (k : κ) : Option V := (kvs.find? fun kv => decide (kv.1 = k)).map (·.2)
def putK (kvs : List (κ × V)) (k : κ) (v : V) : List (κ × V) :=
  if (kvs.any fun kv => decide (kv.1 = k)) = true then kvs.map (fun kv => if kv.1 = k then (kv.1, v) else kv) else kvs ++ [(k, v)]
theorem valV_pos {p : κ × V} {r : List (κ × V)} {k : κ} (e : p.1 = k) : valV (p :: r) k = some p.2 := by simp [valV, List.find?_cons, e]
theorem valV_neg {p : κ × V} {r : List (κ × V)} {k : κ} (e : ¬ p.1 = k) : valV (p :: r) k = valV r k := by simp [valV, List.find?_cons, e]
theorem valV_any (k : κ) : ∀ kvs : List (κ × V), (kvs.any fun kv => decide (kv.1 = k)) = (valV kvs k).isSome
  | [] => rfl
  | p :: r => by
    rw [List.any_cons]
    by_cases e : p.1 = k
    · simp only [valV_pos e, decide_eq_true e, Bool.true_or, Option.isSome_some]
    · rw [valV_neg e, decide_eq_false e, Bool.false_or]; exact valV_any k r
theorem length_putK (kvs : List (κ × V)) (k : κ) (v : V) : (putK kvs k v).length ≤ kvs.length + 1 := by
  unfold putK
  split
  · rw [List.length_map]; omega
  · rw [List.length_append, List.length_cons, List.length_nil]; omega
theorem putK_new {kvs : List (κ × V)} {k : κ} (v : V) (h : valV kvs k = none) : putK kvs k v = kvs ++ [(k, v)] := by
  unfold putK
  rw [valV_any, h]
  exact if_neg (by decide)

theorem RelO.isSome_eq {o : Option V} {u : Option Value} (r : RelO o u) : o.isSome = u.isSome := by
  cases o with
  | none => cases u with
    | none => rfl
    | some _ => exact (show False from r).elim
  | some _ => cases u with
    | none => exact (show False from r).elim
    | some _ => rfl
theorem KV.any {kvs : List (κ × V)} {vs : List (κ × Value)} (r : KV kvs vs) (k : κ) : (kvs.any fun kv => decide (kv.1 = k)) = vs.any fun kv => decide (kv.1 = k) := by
  unfold KV at r
  induction r with
  | nil => rfl
  | cons h t ih => rw [List.any_cons, List.any_cons, ih, h.1]
theorem KV.repl {kvs : List (κ × V)} {vs : List (κ × Value)} (r : KV kvs vs) (k : κ) {y : V} {u : Value} (ry : RelV y u) :
    KV (kvs.map fun kv => if kv.1 = k then (kv.1, y) else kv) (vs.map fun kv => if kv.1 = k then (kv.1, u) else kv) := by
  unfold KV at r ⊢
  induction r with
  | nil => exact .nil
  | @cons p q ps qs h t ih =>
    rw [List.map_cons, List.map_cons]
    refine .cons ?_ ih
    obtain ⟨h1, h2⟩ := h
    by_cases e : p.1 = k
    · rw [if_pos e, if_pos (h1.symm.trans e)]; exact ⟨h1, ry⟩
    · rw [if_neg e, if_neg (fun z => e (h1.trans z))]; exact ⟨h1, h2⟩
theorem KV.put {kvs : List (κ × V)} {vs : List (κ × Value)} (r : KV kvs vs) (k : κ) {y : V} {u : Value} (ry : RelV y u) : KV (putK kvs k y) (stored vs k u) := by
  unfold putK stored
  rw [r.any k]
  by_cases e : (vs.any fun kv => decide (kv.1 = k)) = true
  · rw [if_pos e, if_pos e]; exact r.repl k ry
  · rw [if_neg e, if_neg e]; exact Paired.snoc r ⟨rfl, ry⟩
theorem KV.length {kvs : List (κ × V)} {vs : List (κ × Value)} (r : KV kvs vs) : kvs.length = vs.length := Paired.length r
end


theorem kV_is {P : Program} {w : World} {k : Key} {u : Value} (r : RelV (kV k) u) : (mixKind P w).is k u = true := by
  cases k with
  | inl i => obtain ⟨t, e⟩ := (show ∃ t, u = Value.int i t from r); subst e; exact mixKind_int P w i t
  | inr x => obtain ⟨t, e⟩ := (show ∃ t, u = Value.str x t from r); subst e; exact mixKind_str P w x t
theorem items_are {P : Program} {w : World} : ∀ {ks : List Key} {us : List Value}, Vals (ks.map kV) us → ItemsAre (mixKind P w) ks us
  | [], _, r => by rw [List.map_nil] at r; cases r; exact .nil
  | k :: ks, _, r => by
    rw [List.map_cons] at r
    cases r with
    | cons h t => exact .cons (kV_is h) (items_are t)

abbrev KT (H : Hp) : List (List Key × V) → List (List Key × Addr × Value) → Prop := Paired fun p q => p.1 = q.1 ∧ H q.2.1 = some (.tup (p.1.map kV)) ∧ RelV p.2 q.2.2
theorem KT.val {H : Hp} {kvs : List (List Key × V)} {xs : List (List Key × Addr × Value)} (r : KT H kvs xs) (k : List Key) : RelO (valV kvs k) ((atKey xs k).map (·.2)) := by
  induction r with
  | nil => exact True.intro
  | @cons p q ps qs h t ih =>
    obtain ⟨h1, _, h2⟩ := h
    by_cases e : p.1 = k
    · have e' : q.1 = k := h1.symm.trans e
      have b : atKey (q :: qs) k = some q.2 := by simp [atKey, List.find?_cons, e']
      rw [valV_pos e, b]; exact h2
    · have e' : ¬ q.1 = k := fun z => e (h1.trans z)
      have b : atKey (q :: qs) k = atKey qs k := by simp [atKey, List.find?_cons, e']
      rw [valV_neg e, b]; exact ih
theorem KT.repl {H : Hp} {kvs : List (List Key × V)} {xs : List (List Key × Addr × Value)} (r : KT H kvs xs) (k : List Key) {y : V} {u : Value} (ry : RelV y u) :
    KT H (kvs.map fun kv => if kv.1 = k then (kv.1, y) else kv) (xs.map (putAt k u)) := by
  induction r with
  | nil => exact .nil
  | @cons p q ps qs h t ih =>
    rw [List.map_cons, List.map_cons]
    refine .cons ?_ ih
    obtain ⟨h1, h2, h3⟩ := h
    unfold putAt
    by_cases e : p.1 = k
    · rw [if_pos e, if_pos (h1.symm.trans e)]; exact ⟨h1, h2, ry⟩
    · rw [if_neg e, if_neg (fun z => e (h1.trans z))]; exact ⟨h1, h2, h3⟩
theorem KT.put {H : Hp} {kvs : List (List Key × V)} {xs : List (List Key × Addr × Value)} (r : KT H kvs xs) (k : List Key) {b : Addr} {y : V} {u : Value} (hb : H b = some (.tup (k.map kV))) (ry : RelV y u) :
    KT H (putK kvs k y) (storedH xs k b u) := by
  have e : (kvs.any fun kv => decide (kv.1 = k)) = (atKey xs k).isSome := by
    rw [valV_any, (r.val k).isSome_eq, Option.isSome_map]
  unfold putK storedH
  rw [e]
  by_cases q : (atKey xs k).isSome = true
  · rw [if_pos q, if_pos q]; exact r.repl k ry
  · rw [if_neg q, if_neg q]; exact Paired.snoc r ⟨rfl, hb, ry⟩
theorem KT.keeps {H H' : Hp} {kvs : List (List Key × V)} {xs : List (List Key × Addr × Value)} (r : KT H kvs xs) (ht : ∀ b ys, H b = some (.tup ys) → H' b = some (.tup ys)) : KT H' kvs xs :=
  Paired.mapP r fun _ _ z => ⟨z.1, ht _ _ z.2.1, z.2.2⟩

section
variable {P : Program} {w : World} {H : Hp} {h : Heap} {a : Addr}
theorem rd_of {u : HO} (ok : HOk P w H h) (e : Rd H a u) : ObjOk P w H h a u := e.ok ok
theorem dk_rd {kvs : List (Key × V)} (ok : HOk P w H h) (e : Rd H a (.dK kvs)) : kvs.length ≤ sizeLine ∧ (a == sysModules) = false ∧ ∃ vs, KV kvs vs ∧ h.DictOf (mixKind P w) a vs :=
  show ObjOk P w H h a (.dK kvs) from rd_of ok e
theorem dk_of {kvs : List (Key × V)} (ok : HOk P w H h) (e : H a = some (.dK kvs)) : kvs.length ≤ sizeLine ∧ (a == sysModules) = false ∧ ∃ vs, KV kvs vs ∧ h.DictOf (mixKind P w) a vs := dk_rd ok (.inl e)
theorem key_of {ks : List Key} (ok : HOk P w H h) (e : H a = some (.tup (ks.map kV))) : (tupleKind (mixKind P w)).is h ks a := by
  obtain ⟨_, its, r, o, h1, h2, n, h3⟩ := (show ObjOk P w H h a (.tup (ks.map kV)) from ok a _ e)
  exact ⟨o, its.toArray, n, h1, h2, h3, by simpa using items_are r⟩
theorem dt_rd {kvs : List (List Key × V)} (ok : HOk P w H h) (e : Rd H a (.dT kvs)) : kvs.length ≤ sizeLine ∧ (a == sysModules) = false ∧
    ∃ xs, KT H kvs xs ∧ h.DictOfH (tupleKind (mixKind P w)) a xs := by
  obtain ⟨z, y, xs, r, o, es, ep, h1, h2, h3, h4, h5⟩ := (show ObjOk P w H h a (.dT kvs) from rd_of ok e)
  refine ⟨z, y, xs, r, o, es, ep, h1, h2, h3, h4, fun x hx => ?_, h5⟩
  have all : ∀ {l : List (List Key × V)} {m : List (List Key × Addr × Value)}, KT H l m → ∀ x ∈ m, (tupleKind (mixKind P w)).is h x.1 x.2.1 := by
    intro l m q
    induction q with
    | nil => intro x hx; exact nomatch hx
    | @cons p q ps qs hq t ih =>
      intro x hx
      rcases List.mem_cons.mp hx with e | hx
      · subst e
        exact key_of ok (by rw [← hq.1]; exact hq.2.1)
      · exact ih x hx
  exact all r x hx
theorem dt_of {kvs : List (List Key × V)} (ok : HOk P w H h) (e : H a = some (.dT kvs)) : kvs.length ≤ sizeLine ∧ (a == sysModules) = false ∧
    ∃ xs, KT H kvs xs ∧ h.DictOfH (tupleKind (mixKind P w)) a xs := dt_rd ok (.inl e)
end

def DPut (H : Hp) (a : Addr) (y v : V) (H' : Hp) : Prop :=
  (∃ kvs k, H a = some (.dK kvs) ∧ y = kV k ∧ kvs.length < sizeLine ∧ H' = upd H a (.dK (putK kvs k v))) ∨
  ∃ kvs k b, H a = some (.dT kvs) ∧ y = .ref b ∧ H b = some (.tup (k.map kV)) ∧ kvs.length < sizeLine ∧ H' = upd H a (.dT (putK kvs k v))
theorem DPut.t {H : Hp} {a b : Addr} {kvs : List (List Key × V)} {k : List Key} {v : V} (e : H a = some (.dT kvs)) (eb : H b = some (.tup (k.map kV))) (hl : kvs.length < sizeLine) :
    DPut H a (.ref b) v (upd H a (.dT (putK kvs k v))) := .inr ⟨kvs, k, b, e, rfl, eb, hl, rfl⟩


section
variable {X : Cx} {pins : List (Addr × Obj)} {σ : St} {H : Hp} {s : Shared} {a : Addr} {y v : V} {u r : Value} {o : Option V} {A : Around} {E : Value → Shared → Prop}

theorem Inv.big (I : Inv X pins σ H s) : sysModules < s.heap.objs.size := by
  have h : mainGlobals < s.heap.objs.size := (I.mod.glob.keeps I.bk).lt
  exact Nat.lt_trans (by decide) h

theorem d_write {h' : Heap} {t' : Nat} {ob : HO} (I : Inv X pins σ H s) (mu : Mut (H a)) (hs : Heap.SameBut a s.heap h') (he : ∃ q, h'.get? a = some q) (new : ObjOk X.prog X.w (upd H a ob) h' a ob) :
    Inv X pins σ (upd H a ob) { s with heap := h', toks := t' } :=
  I.write (x := a) (e := a) mu (.inl rfl) (fun b q hb z => (hs.2 b hb).trans z) he new
theorem dk_new {P : Program} {w : World} {H' : Hp} {h' : Heap} {kvs : List (Key × V)} {vs : List (Key × Value)} (z : kvs.length ≤ sizeLine) (hd : (a == sysModules) = false) (rel : KV kvs vs) (dd : h'.DictOf (mixKind P w) a vs) :
    ObjOk P w H' h' a (.dK kvs) := ⟨z, hd, vs, rel, dd⟩
theorem d_setItem {H' : Hp} {Q : Unit → Shared → Prop} (hu : A.units + 1 < cLine) (I : Inv X pins σ H s) (g : DPut H a y v H') (ry : RelV y u) (rv : RelV v r) (h : ∀ s', Inv X pins σ H' s' → Q () s') :
    wpAny (model X.prog X.w) A (setItem (.ref a) u r) Q E s := by
  rcases g with ⟨kvs, k, e, ey, l, eH⟩ | ⟨kvs, k, b, e, ey, eb, l, eH⟩
  · subst ey eH
    obtain ⟨z, hd, vs, rel, dd⟩ := dk_of I.hok e
    have hz : vs.length ≤ sizeLine := by rw [← rel.length]; exact z
    have hl : (putK kvs k v).length ≤ sizeLine := by have := length_putK kvs k v; omega
    refine wpAny_setItem_pairs (hsz := hz) (kV_is ry) dd fun h' dd' hs => h _ ?_
    have he : ∃ q, h'.get? a = some q := let ⟨q, _, _, hq, _⟩ := dd'; ⟨q, hq⟩
    exact d_write I (by rw [e]; exact True.intro) hs he (dk_new hl hd (rel.put k rv) dd')
  · subst ey eH
    cases (show u = Value.ref b from ry)
    obtain ⟨z, hd, xs, rel, dd⟩ := dt_of I.hok e
    have hz : xs.length ≤ sizeLine := by rw [← Paired.length rel]; exact z
    have hl : (putK kvs k v).length ≤ sizeLine := by have := length_putK kvs k v; omega
    refine wpAny_setItem_heap (hsz := hz) (tupleKind_room_in1 hu) (key_of I.hok eb) dd fun h' dd' hs => h _ ?_
    obtain ⟨q, es, ep, hq, h2, h3, h4, _, h5⟩ := dd'
    refine d_write I (by rw [e]; exact True.intro) hs ⟨q, hq⟩ ⟨hl, hd, _, (rel.put k eb rv).keeps fun c ys ec => ?_, q, es, ep, hq, h2, h3, h4, h5⟩
    rw [upd_ne (ne_of ec e (fun z => nomatch z))]
    exact ec
end

section
variable {X : Cx} {pins : List (Addr × Obj)} {σ : St} {H : Hp} {s : Shared} {a : Addr} {kvs : List (Key × V)} {k : Key} {u : Value} {A : Around} {E : Value → Shared → Prop}
end


def sDPut (td ty tv : TE) : TS := fun D σ H => tv σ H fun v H1 => td σ H1 fun x H2 => ty σ H2 fun y H3 => ∃ a H4, x = .ref a ∧ DPut H3 a y v H4 ∧ D.nx σ H4
section
variable {X : Cx} {o i e value : Expr} {pos pos' tpos : Pos} {td ty tv : TE}
theorem ps_dput (hu : X.A.units + 1 < cLine) (ho : PE X o td) (hi : PE X i ty) (hv : PE X value tv) (hs : swapsWith value (some (.Subscript o i pos')) pos.line X.env = pure false) :
    PS X (.Assign [.Subscript o i pos'] value pos) (sDPut td ty tv) := by
  intro pins s σ H D I h
  refine wpAny_Assign_Subscript (thn (hv pins s σ H _ I h) fun r s1 ⟨v, H1, I1, rv, q1⟩ => thn (ho pins s1 σ H1 _ I1 q1) fun u s2 ⟨x, H2, I2, rx, q2⟩ => thn (hi pins s2 σ H2 _ I2 q2) fun iv s3 ⟨y, H3, I3, ry, a, H4, ex, g, q3⟩ => ?_) hs
  subst ex
  obtain rfl : u = Value.ref a := rx
  exact d_setItem hu I3 g ry rv fun s4 I4 => ⟨σ, H4, I4, q3⟩
end


theorem dk_empty {P : Program} {w : World} {H : Hp} (h : Heap) (hb : sysModules < h.objs.size) : ObjOk P w H (h.push { cls := .type "dict", data := .dict #[] }) h.objs.size (.dK []) :=
  ⟨Nat.zero_le _, beq_eq_false_iff_ne.mpr (Ne.symm (Nat.ne_of_lt hb)), [], .nil, Heap.DictOf.new h⟩
theorem dt_empty {P : Program} {w : World} {H : Hp} (h : Heap) (hb : sysModules < h.objs.size) : ObjOk P w H (h.push { cls := .type "dict", data := .dict #[] }) h.objs.size (.dT []) :=
  ⟨Nat.zero_le _, beq_eq_false_iff_ne.mpr (Ne.symm (Nat.ne_of_lt hb)), [], .nil, _, #[], 0, Heap.get?_push_size _ rfl, ⟨rfl, rfl, rfl⟩, rfl, rfl, List.nodup_nil⟩
def tDNewK : TE := fun _ H Q => ∀ p, H p = none → Q (.ref p) (upd H p (.dK []))
def tDNewT : TE := fun _ H Q => ∀ p, H p = none → Q (.ref p) (upd H p (.dT []))
section
variable {X : Cx} {pos : Pos}
theorem pe_dnewK : PE X (.Dict [] [] pos) tDNewK := fun pins s σ H Q I h =>
  wpAny_Dict_empty ⟨.ref s.heap.objs.size, _, I.laid (a := s.heap.objs.size) (o := .dK []) (t' := s.toks) (fun _ _ q => Heap.get?_push_of_some _ q) (Nat.le_refl _) (dk_empty s.heap I.big), rfl, h _ (I.hok.fresh (Nat.le_refl _))⟩
theorem pe_dnewT : PE X (.Dict [] [] pos) tDNewT := fun pins s σ H Q I h =>
  wpAny_Dict_empty ⟨.ref s.heap.objs.size, _, I.laid (a := s.heap.objs.size) (o := .dT []) (t' := s.toks) (fun _ _ q => Heap.get?_push_of_some _ q) (Nat.le_refl _) (dt_empty s.heap I.big), rfl, h _ (I.hok.fresh (Nat.le_refl _))⟩
end

section
variable {X : Cx} {pins : List (Addr × Obj)} {σ : St} {H : Hp} {s : Shared} {a : Addr} {y d : V} {u r : Value} {o : Option V} {A : Around} {E : Value → Shared → Prop}
end

section
variable {X : Cx} {o e f : Expr} {apos cpos : Pos} {td ty tx : TE}
end

section
variable {X : Cx} {pins : List (Addr × Obj)} {σ : St} {H : Hp} {s : Shared} {a : Addr} {kvs : List (Key × V)} {A : Around} {E : Value → Shared → Prop}
end


section
variable {X : Cx} {pins : List (Addr × Obj)} {σ : St} {H : Hp} {s : Shared} {a : Addr} {y : V} {u : Value} {A : Around} {E : Value → Shared → Prop}
end
end L2

namespace Att
open PySem PySem.W PySem.Calls PyProof.Rows

theorem ints_of_wellAll {P : Params} {h : Heap} : ∀ (ns : List Int) (vs : List Value), WellAll P h vs (ns.map WData.int) → IntsAre vs ns := by
  intro ns
  induction ns with
  | nil =>
    intro vs w
    rw [List.map_nil] at w
    cases w
    exact .nil
  | cons n ns ih =>
    intro vs w
    rw [List.map_cons] at w
    cases w with
    | cons a b =>
      cases a
      exact .cons _ _ (ih _ b)

theorem script_of {l : OpenLaw} {n : Nat} (hn : l.most = some n) {P : Params} {h : Heap} {args : List WData} {vals : List Value}
    (hpre : l.row.toRowW.claim.pre args = true) (hwl : WellAll P h vals args) :
    ∃ a vs ns, vals = [Value.ref a] ∧ args = [WData.list (ns.map WData.int)] ∧ h.get? a = some { cls := .type "list", data := .seq vs.toArray } ∧ IntsAre vs ns ∧ ns.length ≤ n := by
  have hsh : WShape.hasAll [] args [.list .int] = true := (pre_splitW hpre).1
  have hc : l.pre.holds [] { args := args } = true := (pre_splitW hpre).2
  obtain ⟨d, r, rfl, h1, h2⟩ := hasAllW_cons hsh
  obtain rfl := hasAllW_nil h2
  obtain ⟨xs, rfl, h3⟩ := hasW_list h1
  obtain ⟨ns, rfl⟩ := items_int h3
  have hlen : ns.length ≤ n := by
    unfold OpenLaw.pre at hc
    have h4 : (WTm.not (.lt (.lit (.int (n : Int))) (.len (.arg 0)))).holds [] { args := [.list (ns.map .int)] } = true := by
      have h4 := (holds_andW hc).1
      rw [hn] at h4
      exact h4
    have h5 := condW_of h4 (w_not (w_lt w_lit (w_len_list (w_arg rfl))))
    rw [List.length_map] at h5
    refine Nat.le_of_not_lt fun q => ?_
    have q' : (n : Int) < ((ns.length : Nat) : Int) := by omega
    first
      | (rw [decide_eq_true q'] at h5; exact absurd h5 (by decide))
      | (simp at h5; omega)
  cases hwl with
  | cons w1 w2 =>
    cases w2
    cases w1 with
    | list ho hall => exact ⟨_, _, ns, rfl, rfl, ho, ints_of_wellAll ns _ hall, hlen⟩

theorem post_true (l : OpenLaw) (args : List WData) : l.row.toRowW.claim.post args (.bool true) args = true :=
  postW_of (r := l.row.toRowW) (X := (true == true))
    (show WShape.has [] (.bool true) .bool = true by first | rfl | decide | simp [WShape.has, WShape.arms, WShape.armsAll])
    (show (WTm.eq .res (.lit (.bool true))).value [] { args := args, res := some (.bool true), after := args } = some (.bool (true == true)) from w_eq_bool (w_res rfl) w_lit) rfl

theorem attach_call {l : OpenLaw} {n : Nat} {q : Program} {loose : List Str} {XP : (Str → Option Value) → Heap → Prop} {YP : World → Heap → Prop} {d : DefRec}
    (hn : l.most = some n) (hdf : d.params.defaults = [])
    (call : ∀ (w : World) (s₀ s₁ : Shared) (mg mb : Str → Option Value) (fa : Addr) (o : Obj) (pm cd doc : Value) (a : Addr) (vs : List Value) (ns : List Int),
      Ground q loose [] XP w s₀ mg mb s₁.heap → YP w s₁.heap →
      s₁.heap.get? fa = some o → o.data = .func (docDef d.name d.params d.body d.scope pm cd doc) → s₁.heap.CodeRec cd d.name → mg d.name = some (.ref fa) →
      s₁.heap.get? a = some { cls := .type "list", data := .seq vs.toArray } → IntsAre vs ns → ns.length ≤ n → s₁.gens = #[] →
      codeAny (model l.prog w) callerA (.call (.ref fa) ⟨[.ref a], []⟩) (fun r s' => r = .ok (.ret (.bool true)) ∧ OldK s₁.heap s'.heap ∧ s'.os = s₁.os ∧ AllBare s'.gens) s₁) :
    WalkO q loose XP YP l.row.toRowW d [] (fun f vs => PySem.call f vs) := by
  intro w s₀ s₁ mg mb G Y fa o pm cd doc dV kV ho hd hcd hD hmg hg args vals as hpre hlay hrd hwl hlo
  obtain rfl : dV = .none := Dflts.none hD hdf
  obtain rfl : kV = .none := Dflts.noKw hD
  obtain ⟨a, vs, ns, rfl, rfl, hobj, hints, hlen⟩ := script_of hn hpre hwl
  refine enter_call (codeAny_mono (call w s₀ s₁ mg mb fa o pm cd doc a vs ns G Y ho (fd_plain hd) hcd hmg hobj hints hlen hg) fun r s' hq => ?_)
  obtain ⟨rfl, h2, h3, h4⟩ := hq
  exact ⟨.inl ⟨.bool true, .bool true, [], rfl, fun _ => rfl, .bool true, post_true l _, fun _ => ⟨List.Pairwise.nil, fun _ hm => (nomatch hm)⟩⟩, h2, h3, h4⟩

section
variable {prog : Program} {w : World} {A : Around} {E : Value → Shared → Prop} {s : Shared} {K : Frag}

end
end Att

namespace L2
open PySem PySem.Spec PyProof.Rows

theorem vals_ints : ∀ {vs : List Value} {ns : List Int}, IntsAre vs ns → Vals (ns.map V.int) vs
  | _, _, .nil => .nil
  | _, _, .cons n t h => .cons ⟨t, rfl⟩ (vals_ints h)

def Only (H : Hp) : Prop := ∀ b, H b = none ∨ ∃ o xs, H b = some (.frz o (.lst xs))

theorem law_call {P : Program} {w : World} {K : PySem.W.Frag} {mg mb : Str → Option Value} {CX : CXT} {k : Nat} {fa a : Addr} {fd : FuncData} {x : Str} {sp : Sp} {s₁ : Shared} {vs : List Value} {ns : List Int}
    (KX : K.In s₁.heap) (hns : s₁.heap.Ns mainGlobals mg) (hb : s₁.heap.Ns builtinsNs mb) (hbb : ∀ x : Str, x ≠ "__name__" → mb x = bootBuiltins x) (hlim : s₁.heap.NoLimit) (hg : s₁.gens = #[])
    (ha : s₁.heap.get? a = some { cls := .type "list", data := .seq vs.toArray }) (hi : IntsAre vs ns) (hl : ns.length ≤ sizeLine) (hr : Room k callerA)
    (F : ∀ base : Heap, K.In base → base.Ns mainGlobals mg → FnOk P w K mg base CX k fa fd [x] sp) (hbind : ∀ (s : Shared) (u : Value), BindsTo s fd ⟨[u], []⟩ [(x, u)])
    (hsp : ∀ H : Hp, Only H → SqL K H a (ns.map V.int) → sp [.ref a] H (fun v _ => v = .bl true) fun _ _ _ => False)
    (hCX : ∀ H e s', CX [] H s₁ (fun _ _ _ => False) e s' → False) :
    codeAny (model P w) callerA (.call (.ref fa) ⟨[.ref a], []⟩) (fun r s' => r = .ok (.ret (.bool true)) ∧ OldK s₁.heap s'.heap ∧ s'.os = s₁.os ∧ AllBare s'.gens) s₁ := by
  have rv := vals_ints hi
  have lenV := hi.length
  -- from an abstract heap in which nothing but the script may be tracked
  have core : ∀ H : Hp, Only H → SqL K H a (ns.map V.int) → HOk P w H s₁.heap → (∀ b, H b ≠ none → b = a) → (H a ≠ none → K.lookup a = none) →
      codeAny (model P w) callerA (.call (.ref fa) ⟨[.ref a], []⟩) (fun r s' => r = .ok (.ret (.bool true)) ∧ OldK s₁.heap s'.heap ∧ s'.os = s₁.os ∧ AllBare s'.gens) s₁ := by
    intro H hO hS hok hA hK
    have base_of : ∀ {b : Addr} {o : Obj}, s₁.heap.get? b = some o → H b = none → (hidT s₁.heap H).get? b = some o := fun e n => hidT_get e n
    have noA : ∀ {b : Addr} {o : Obj} {es : Array DictEntry} {ep : Nat}, s₁.heap.get? b = some o → o.data = .dict es ep → H b = none := fun {b o es ep} e d => by
      cases q : H b with
      | none => rfl
      | some u =>
        have e' : b = a := hA b (by rw [q]; simp)
        subst e'
        rw [ha] at e; cases e
        have d' : Data.seq vs.toArray _ = Data.dict es ep := d
        cases d'
    have nsK : ∀ {b : Addr} {m : Str → Option Value}, s₁.heap.Ns b m → (hidT s₁.heap H).Ns b m := fun {b m} ⟨o, es, ep, e, d, r⟩ => ⟨o, es, ep, base_of e (noA e d), d, r⟩
    have hKb : K.In (hidT s₁.heap H) := fun b o e => base_of (KX b o e) (by
      cases q : H b with
      | none => rfl
      | some u =>
        have e' : b = a := hA b (by rw [q]; simp)
        subst e'
        rw [hK (by rw [q]; simp)] at e; cases e)
    have hM : Mod K mg (hidT s₁.heap H) := ⟨hKb, nsK hns, ⟨mb, nsK hb, hbb⟩, let ⟨mc, h1, h2⟩ := hlim; ⟨mc, nsK h1, h2⟩⟩
    have e0 : Env0 P w K mg (hidT s₁.heap H) callerA [] s₁ H := ⟨rfl, hM, fun b o e => of_hidT e, Nat.le_of_eq (hidT_size _ _), trivial, fun b hb => absurd (show b ∈ ([] : List Addr) from hb) (by simp), hok, .of_eq hg⟩
    refine codeAny_mono ((F _ hKb (nsK hns)).run callerA [] s₁ H ⟨[.ref a], []⟩ [.ref a] [.ref a] _ _ hr e0 (hbind s₁ (.ref a)) (.cons rfl .nil) (hsp H hO hS)) fun r s' h => ?_
    cases r with
    | error e => exact (hCX H e s' h).elim
    | ok fl =>
      cases fl with
      | next => exact False.elim h
      | brk => exact False.elim h
      | cont => exact False.elim h
      | ret u =>
        obtain ⟨v, H', os, bare, un, hok', r', q⟩ := h
        have q' : v = .bl true := q
        subst q'
        obtain rfl : u = Value.bool true := r'
        refine ⟨rfl, OldK.of_keep fun b o e => ?_, os, bare⟩
        cases q : H b with
        | none => exact un.keep b o e q (by intro z; exact absurd (show b ∈ ([] : List Addr) from z) (by simp)) (by simp)
        | some u =>
          rcases hO b with z | ⟨ob, xs, z⟩
          · rw [q] at z; cases z
          · have z2 := un.frzs b ob _ z
            obtain ⟨e1, _⟩ := hok b _ z
            obtain ⟨e2, _⟩ := hok' b _ z2
            rw [e] at e1; cases e1
            exact e2
  cases hk : K.lookup a with
  | some o =>
    -- the script is one of the module's own objects
    have e := KX a o hk
    rw [ha] at e
    cases e
    refine core (fun _ => none) (fun _ => .inl rfl) (.inr ⟨_, vs.toArray, _, hk, rfl, rfl, rfl, by rw [List.size_toArray, lenV]; exact hl, by simpa using rv⟩) (fun b u z => by have z' : (none : Option HO) = some u := z; cases z') (fun b z => absurd rfl z) fun z => absurd rfl z
  | none =>
    refine core (fun b => if b = a then some (.frz { cls := .type "list", data := .seq vs.toArray } (.lst (ns.map V.int))) else none) (fun b => ?_) (.inl (.inr ⟨{ cls := .type "list", data := .seq vs.toArray }, if_pos rfl⟩)) (fun b u z => ?_) (fun b z => ?_) fun _ => hk
    · by_cases hb : b = a
      · exact .inr ⟨_, _, if_pos hb⟩
      · exact .inl (if_neg hb)
    · by_cases hb : b = a
      · have z' := (if_pos hb).symm.trans z
        cases z'
        subst hb
        exact ⟨ha, by rw [List.length_map]; exact hl, vs, _, rv, ha⟩
      · have z' := (if_neg hb).symm.trans z
        cases z'
    · by_cases hb : b = a
      · exact hb
      · exact absurd (if_neg hb) z
end L2

namespace L2
open PySem PySem.Spec PyProof.Rows

theorem walk_of {l : PySem.W.OpenLaw} {n k : Nat} {q : Program} {loose : List Str} {XP : (Str → Option Value) → Heap → Prop} {YP : World → Heap → Prop} {d : DefRec} {K : Params → PySem.W.Frag} {CX : World → CXT} {sp : World → Sp} {x : Str}
    (hn : l.most = some n) (hn2 : n ≤ sizeLine) (hdf : d.params.defaults = []) (hr : Room k callerA)
    (hY : ∀ (w : World) (h : Heap), YP w h → (K w.params).In h)
    (F : ∀ (w : World) (mg : Str → Option Value) (fa : Addr) (h : Heap), (K w.params).In h → h.Ns mainGlobals mg → mg d.name = some (.ref fa) →
      ∃ fd : FuncData, (∀ (s : Shared) (u : Value), BindsTo s fd ⟨[u], []⟩ [(x, u)]) ∧
        ∀ base : Heap, (K w.params).In base → base.Ns mainGlobals mg → FnOk l.prog w (K w.params) mg base (CX w) k fa fd [x] (sp w))
    (hsp : ∀ (w : World) (H : Hp) (a : Addr) (ns : List Int), ns.length ≤ n → Only H → SqL (K w.params) H a (ns.map V.int) → sp w [.ref a] H (fun v _ => v = .bl true) fun _ _ _ => False)
    (hCX : ∀ (w : World) (H : Hp) (s : Shared) (e : Value) (s' : Shared), CX w [] H s (fun _ _ _ => False) e s' → False) :
    PySem.W.WalkO q loose XP YP l.row.toRowW d [] (fun f vs => PySem.call f vs) := by
  refine Att.attach_call hn hdf fun w s₀ s₁ mg mb fa o pm cd doc a vs ns G Y ho hd hcd hmg hobj hints hlen hg => ?_
  have KX := hY w _ Y
  obtain ⟨fd, hb, hF⟩ := F w mg fa _ KX G.T.g hmg
  exact law_call KX G.T.g G.T.b G.T.builtins G.T.nolimit hg hobj hints (Nat.le_trans hlen hn2) hr hF hb (fun H hO hS => hsp w H a ns hlen hO hS) fun H e s' => hCX w H s₁ e s'
end L2


namespace L2
open PySem PySem.Spec PyProof.Rows

def defArgs (s : Stmt) : Arguments := match s with
  | .FunctionDef _ a _ _ _ _ _ _ _ _ => a
  | _ => { posonlyargs := [], args := [], vararg := none, kwonlyargs := [], kw_defaults := [], kwarg := none, defaults := [] }
def defBody (s : Stmt) : List Stmt := match s with
  | .FunctionDef _ _ b _ _ _ _ _ _ _ => b
  | _ => []
def defScope (s : Stmt) : Scope := match s with
  | .FunctionDef _ _ _ _ _ _ sc _ _ _ => sc
  | _ => { kind := .function, names := [], isGenerator := false, isCoroutine := false }

abbrev CX0 : CXT := fun _ _ _ _ _ _ => False
abbrev E0 : XK := fun _ _ _ => False
theorem pass0 {X : Cx} : Passes CX0 X E0 := fun _ _ _ _ _ _ _ h => h.elim

structure Fun (K : PySem.W.Frag) (x qual : Str) (st : Stmt) (f : Addr) (fd : FuncData) : Prop where
  ex : ∃ (oc : Value) (od : Option Addr) (kV doc pm : Value) (an : Option Addr) (cdv ct : Value) (osl : Array (Option Value)),
    fd = PySem.W.fnOf x qual (defArgs st) (defBody st) (defScope st) .none kV doc pm an cdv ct ∧ K.lookup f = some ⟨oc, od, .func fd, osl⟩ ∧ PySem.W.codeIn K cdv qual = true
  kp : PySem.W.keepIn K (.ref f) = true
section
variable {P : Program} {w : World} {K : PySem.W.Frag} {mg : Str → Option Value} {base : Heap}
theorem Fun.ok {x qual : Str} {st : Stmt} {f : Addr} {fd : FuncData} {N ps : List Str} {k : Nat} {sp : Sp} (F : Fun K x qual st f fd) (S : FnScope N ps (defScope st)) (len : ∀ vs H Q E, sp vs H Q E → vs.length = ps.length)
    (hbody : ∀ (cdv : Value) (A : Around) (outer : List Env) (s : Shared) (H : Hp) (vs : List V) (Q : VK) (E : XK), Room k (A.deeper (envOfC qual (defScope st) s.heap.objs.size f cdv)) → sp vs H Q E →
      ∃ t, PSs (cxOf CX0 P w K mg base N qual (defScope st) f cdv A outer s H E).nox (defBody st) t ∧ t { nx := fun _ H' => Q .non H', rt := Q } (start N vs) H) : FnOk P w K mg base CX0 (k + 1) f fd ps sp := by
  obtain ⟨oc, od, kV, doc, pm, an, cdv, ct, osl, rfl, lk, hcd⟩ := F.ex
  refine fn_of lk hcd S len fun A outer s H vs Q E hr hsp => ?_
  obtain ⟨t, h, q⟩ := hbody cdv A outer s H vs Q E hr hsp
  exact ⟨t, h.nox, q⟩
theorem Fun.binds {x qual : Str} {st : Stmt} {f : Addr} {fd : FuncData} {ps : List Str} (F : Fun K x qual st f fd)
    (h : ∀ (kV doc pm : Value) (an : Option Addr) (cdv ct : Value) (us : List Value), us.length = ps.length → bindArgs (PySem.W.fnOf x qual (defArgs st) (defBody st) (defScope st) .none kV doc pm an cdv ct) ⟨us, []⟩ = pure (ps.zip us)) : Binds K fd ps [] := by
  obtain ⟨oc, od, kV, doc, pm, an, cdv, ct, osl, rfl, lk, hcd⟩ := F.ex
  exact .all (h kV doc pm an cdv ct)
theorem fun_mk {x qual : Str} {st : Stmt} {f : Addr} {oc : Value} {od an : Option Addr} {osl : Array (Option Value)} {kV doc pm cdv ct : Value} (l : K.lookup f = some ⟨oc, od, .func (PySem.W.fnOf x qual (defArgs st) (defBody st) (defScope st) .none kV doc pm an cdv ct), osl⟩)
    (c : PySem.W.codeIn K cdv qual = true) (k : PySem.W.keepIn K (.ref f) = true) : Fun K x qual st f (PySem.W.fnOf x qual (defArgs st) (defBody st) (defScope st) .none kV doc pm an cdv ct) := ⟨⟨oc, od, kV, doc, pm, an, cdv, ct, osl, rfl, l, c⟩, k⟩
end
theorem hu_of {A : Around} {k : Nat} (hr : Room k A) : A.units + 1 < cLine := Nat.lt_of_le_of_lt (Nat.add_le_add_left (by decide : 1 ≤ 64) _) hr.units
theorem small1000 {n : Nat} (h : n ≤ 1000) : n < sizeLine := Nat.lt_of_le_of_lt h (by decide)

section
variable {X : Cx}
theorem pv (i : Nat) {x : Str} {pos : Pos} (hN : X.N[i]? = some x := by rfl) (hv : Vis X.env.scope x := by first | exact Or.inl rfl | exact Or.inr (Or.inl rfl) | exact Or.inr (Or.inr rfl)) (hd : (x == ("__debug__" : Str)) = false := by decide)
    (hcd : (x == ("__classdict__" : Str)) = false := by decide) : PE X (.Name x pos) (tVar i) := pe_var hN hv hd hcd
end

theorem iteF {A B : Prop} (h : B) : if false = true then A else B := by
  rw [if_neg Bool.false_ne_true]
  exact h
theorem iteT {A B : Prop} (h : A) : if true = true then A else B := by
  rw [if_pos rfl]
  exact h
theorem ite2 {c A B : Prop} [Decidable c] (h1 : c → A) (h2 : ¬ c → B) : if c then A else B := by
  by_cases h : c
  · rw [if_pos h]
    exact h1 h
  · rw [if_neg h]
    exact h2 h
def Same (H H' : Hp) : Prop := ∀ b o, H b = some o → H' b = some o
theorem Same.refl (H : Hp) : Same H H := fun _ _ h => h
theorem Same.trans {H H1 H2 : Hp} (a : Same H H1) (b : Same H1 H2) : Same H H2 := fun c o h => b c o (a c o h)
theorem Same.seq {K : PySem.W.Frag} {H H' : Hp} {a : Addr} {xs : List V} (e : Same H H') (h : SqL K H a xs) : SqL K H' a xs := by
  rcases h with (h | ⟨o, h⟩) | h
  · exact .inl (.inl (e _ _ h))
  · exact .inl (.inr ⟨o, e _ _ h⟩)
  · exact .inr h

section
variable {κ : Type} [DecidableEq κ]
end
end L2


namespace L2
open PySem PySem.Spec PyProof.Rows
section
variable {prog : Program} {w : World} {A : Around} {R : Result → Shared → Prop}
theorem lc_loop {elt tg iter : Expr} {ifs : List Expr} {scope : Scope} {pos : Pos} {itv accv : Value} {ce : Env} (J : Nat → Shared → Prop)
    (step : ∀ k t, J k t → wpAny (model prog w) A (pyNext itv) (fun r t1 => match r with
      | none => R (.ok .next) t1
      | some v => wpAny (model prog w) A (letOwnedTupleGo tg itv v) (fun _ t2 => wpAny (model prog w) A (assign tg ce v) (fun _ t3 =>
          wpAny (model prog w) A (forIn ifs true fun c r => if r = true then do let ok ← isTrue c ce (eval c ce); pure (ForInStep.yield ok) else pure (ForInStep.yield r)) (fun ok t4 =>
            if ok = true then wpAny (model prog w) A (eval elt ce) (fun x t5 =>
              wpAny (model prog w) A (call (.builtin "list.append") [accv, x]) (fun _ t6 => ∃ j, j < k ∧ J j t6) (fun _ _ => False) t5) (fun _ _ => False) t4
            else ∃ j, j < k ∧ J j t4) (fun _ _ => False) t3) (fun _ _ => False) t2) (fun _ _ => False) t1) (fun _ _ => False) t)
    (n : Nat) {s : Shared} (h : J n s) :
    codeAny (model prog w) A (.compLoop (.ListComp elt [⟨tg, iter, ifs, 0⟩] scope pos) 0 itv accv ce) R s := by
  refine codeAny_loop rfl J (fun k t hJ => ?_) n h
  show wpAny _ A ((compTurn (.ListComp elt [⟨tg, iter, ifs, 0⟩] scope pos) 0 itv accv ce).onRaise (fun x => do noteFrame x ce; theTreesLotGoes x)) _ _ t
  refine wpAny_noted ?_
  rw [compTurn_list]
  refine wpAny_bind (wpAny_standAt (wpAny_bind (wpAny_mono (step k t hJ) (fun r t1 h1 => ?_) fun _ _ z => z.elim)))
  cases r with
  | none => exact wpAny_pure h1
  | some v =>
    refine wpAny_bind (wpAny_mono h1 (fun _ t2 h2 => ?_) fun _ _ z => z.elim)
    refine wpAny_bind (wpAny_mono h2 (fun _ t3 h3 => wpAny_bind (wpAny_mono h3 (fun ok t4 h4 => ?_) fun _ _ z => z.elim)) fun _ _ z => z.elim)
    cases ok with
    | false => exact wpAny_pure ⟨rfl, h4⟩
    | true =>
      exact wpAny_bind (wpAny_bind (wpAny_mono h4 (fun x t5 h5 => wpAny_bind (wpAny_mono h5 (fun _ t6 h6 => wpAny_pure (wpAny_pure ⟨rfl, h6⟩)) fun _ _ z => z.elim)) fun _ _ z => z.elim))
end

def cxLc (X : Cx) (N : List Str) (scope : Scope) (cl : List (Str × Addr)) (C : Addr) (s : Shared) (H : Hp) (fp : List Addr) : Cx where
  prog := X.prog
  w := X.w
  K := X.K
  mg := X.mg
  base := X.base
  A := X.A
  N := N
  s₀ := s
  H₀ := H
  env := compEnvC scope cl C X.env
  outer := X.stack
  stack := X.stack
  ex := fp
  fn := fun _ => false
  calm := X.calm
  pn := []
  xe := fun _ _ => False

def CapsIn (env : Env) : List (Str × Addr) → Prop
  | [] => True
  | p :: r => (env.kindOf p.1 = some .cell ∧ env.cells.lookup p.1 = some p.2) ∧ CapsIn env r
theorem CapsIn.get {env : Env} : ∀ {cl : List (Str × Addr)}, CapsIn env cl → ∀ x c, cl.lookup x = some c → env.kindOf x = some .cell ∧ env.cells.lookup x = some c
  | [], _, _, _, e => by simp at e
  | (n, a) :: r, h, x, c, e => by
    by_cases hx : x = n
    · subst hx
      simp only [List.lookup_cons, beq_self_eq_true] at e
      cases e
      exact h.1
    · have hb : (x == n) = false := by simpa using hx
      simp only [List.lookup_cons, hb] at e
      exact CapsIn.get h.2 x c e
structure LcOk (X : Cx) (N : List Str) (src : List (Option Nat)) (scope : Scope) (cl : List (Str × Addr)) : Prop where
  clos : closureFor scope X.env = pure cl
  kind : scope.kind = .function
  nocell : scope.names.all (fun y => !(y.2 == .cell)) = true
  names : scope.names.all (fun y => !(y.2 == .local) || scope.names.lookup y.1 == some .local) = true
  caps : CapsIn X.env cl
  has : (relabel scope X.env).names.all (fun y => !(y.2 == .cell || y.2 == .free) || (cl.lookup y.1).isSome) = true
  len : N.length = src.length
  srcs : (N.zip src).all (fun p => match p.2 with | none => true | some i => X.N[i]? == some p.1 && !((relabel scope X.env).names.lookup p.1 == some .local)) = true
def capS (src : List (Option Nat)) (σ : St) : St := src.map fun o => match o with | none => none | some i => (σ[i]?).join
def GOwn (g : TG) (src : List (Option Nat)) : Prop :=
  ∀ x σ H Q, g x σ H Q → g x σ H fun σ2 H2 => Q σ2 H2 ∧ σ2.length = σ.length ∧ ∀ k : Nat, src[k]? ≠ some none → σ2[k]? = σ[k]?
theorem gown_name {i : Nat} {src : List (Option Nat)} (h : src[i]? = some none) : GOwn (gName i) src := fun x σ H Q q =>
  ⟨q, by simp, fun k hk => by
    have : i ≠ k := fun e => hk (by rw [← e]; exact h)
    rw [List.getElem?_set_ne this]⟩
theorem gown_pair {K : PySem.W.Frag} {i j n : Nat} {src : List (Option Nat)} (h : src[i]? = some none) (h' : src[j]? = some none) : GOwn (gTup K n (gCons (gName i) (gCons (gName j) gNil))) src := by
  intro x σ H Q q
  obtain ⟨a, xs, e1, e2, e3, v, r, e4, v2, r2, e5, e6, q⟩ := q
  refine ⟨a, xs, e1, e2, e3, v, r, e4, v2, r2, e5, e6, q, by simp, fun k hk => ?_⟩
  have n1 : i ≠ k := fun e => hk (by rw [← e]; exact h)
  have n2 : j ≠ k := fun e => hk (by rw [← e]; exact h')
  rw [List.getElem?_set_ne n2, List.getElem?_set_ne n1]
theorem capS_len (src : List (Option Nat)) (σ : St) : (capS src σ).length = src.length := by simp [capS]
theorem capS_get {src : List (Option Nat)} {σ : St} {k : Nat} {v : V} (h : (capS src σ)[k]? = some (some v)) : ∃ i, src[k]? = some (some i) ∧ σ[i]? = some (some v) := by
  unfold capS at h
  rw [List.getElem?_map] at h
  cases e : src[k]? with
  | none => rw [e] at h; cases h
  | some o =>
    rw [e] at h
    cases o with
    | none => cases h
    | some i =>
      refine ⟨i, rfl, ?_⟩
      have h : some ((σ[i]?).join) = some (some v) := h
      have h := Option.some.inj h
      cases q : σ[i]? with
      | none => rw [q] at h; cases h
      | some z => rw [q] at h; have h : z = some v := h; rw [h]
def PIfs (X : Cx) (ifs : List Expr) (t : TT) : Prop :=
  ∀ (pins : List (Addr × Obj)) (s : Shared) (σ : St) (H : Hp) (Q : Bool → Hp → Prop), Inv X pins σ H s → t σ H Q →
    wpAny (model X.prog X.w) X.A (forIn ifs true fun c r => if r = true then do let ok ← isTrue c X.env (eval c X.env); pure (ForInStep.yield ok) else pure (ForInStep.yield r)) (TP X pins σ Q) X.xe s
def tYes : TT := fun _ H Q => Q true H
theorem pifs_nil {X : Cx} : PIfs X [] tYes := fun _ _ _ H _ I h => wpAny_tests_nil ⟨H, I, h⟩
theorem pifs_one {X : Cx} {c : Expr} {t : TT} (h : PT X c t) : PIfs X [c] t := fun pins s σ H Q I q => wpAny_tests_one (h pins s σ H Q I q)
def tLc (wi : TI) (src : List (Option Nat)) (g : TG) (tc : TT) (te : TE) : TE := fun σ H Q => wi σ H fun J H1 =>
  ∃ W : Nat → Nat → List V → Hp → Prop, (∃ m, W 0 m [] H1) ∧ ∀ i m ys H, W i m ys H →
    (J.stop i H ∧ ys.length ≤ sizeLine ∧ ∀ p, H p = none → Q (.ref p) (upd H p (.lst ys))) ∨
    (J.go i H ∧ ys.length ≤ sizeLine ∧ ∀ x H', J.yld i H x H' → g x (capS src σ) H' fun σ2 H2 => tc σ2 H2 fun b H3 =>
      if b = true then te σ2 H3 fun y H4 => ∃ m', m' < m ∧ W (i + 1) m' (ys ++ [y]) H4 else ∃ m', m' < m ∧ W (i + 1) m' ys H3)

section
variable {X : Cx} {N : List Str} {src : List (Option Nat)} {scope : Scope} {cl : List (Str × Addr)} {pins : List (Addr × Obj)} {σ : St} {H : Hp} {s : Shared}
theorem LcOk.cellAt (ok : LcOk X N src scope cl) : ∀ x, ((relabel scope X.env).names.lookup x = some .cell ∨ (relabel scope X.env).names.lookup x = some .free) → ∃ c, cl.lookup x = some c := by
  intro x hx
  have key : ∀ k : NameKind, (k == .cell || k == .free) = true → (relabel scope X.env).names.lookup x = some k → ∃ c, cl.lookup x = some c := by
    intro k hk e
    have m := PySem.mem_of_lookup e
    have q := List.all_eq_true.mp ok.has _ m
    rw [hk] at q
    simp only [Bool.not_true, Bool.false_or] at q
    exact Option.isSome_iff_exists.mp q
  rcases hx with e | e
  · exact key _ rfl e
  · exact key _ rfl e
theorem LcOk.enter (ok : LcOk X N src scope cl) (I : Inv X pins σ H s) {fp : List Addr} (hfp : ∀ b ∈ fp, FpOk X pins H b) (hlt : ∀ b ∈ fp, b < s.heap.objs.size) {C : Addr} (hC : s.heap.objs.size ≤ C)
    {t : Shared} {m : Str → Option Value} (ho : t.os = s.os) (hg : t.gens = s.gens) (hk : ∀ b o, s.heap.get? b = some o → t.heap.get? b = some o) (hn : t.heap.Ns C m)
    {pl : List (Addr × Obj)} (hpl : ∀ p ∈ pl, t.heap.get? p.1 = some p.2 ∧ H p.1 = none ∧ p.1 ≠ C ∧ p.1 ∉ frs X.stack ∧ ∀ v, p.2.data ≠ .cell v) :
    Inv (cxLc X N scope cl C s H fp) pl (capS src σ) H t := by
  have cg := ok.caps.get
  have okX : (cxLc X N scope cl C s H fp).Ok := by
    refine ⟨I.ok.mod, ok.kind, I.ok.glob, I.ok.blt, hC, fun x y c h1 h2 => ?_, fun x hx => ok.cellAt x hx, (fun x c z _ => nomatch z), I.ok.hd, I.ok.frames, .inl rfl, fun b hb => ?_, I.bs, Nat.le_trans I.ok.bsz I.sz, fun b o e hb => ?_, fun b hb z => ?_, I.stack, I.stkFree⟩
    · exact I.ok.inj x y c (cg x c h1).2 (cg y c h2).2
    · refine ⟨fun e => ?_, fun x c e => ?_⟩
      · have e : b = C := e
        have := hlt b hb
        rw [e] at this
        exact absurd (Nat.lt_of_lt_of_le this hC) (Nat.lt_irrefl _)
      · exact (hfp b hb).2.2.2.2.1 x c (cg x c e).2
    · rcases (hfp b hb).2.2.2.1 with z | z
      · exact I.ok.noex b o e z
      · exact absurd (Nat.lt_of_lt_of_le (Heap.lt_size e) (Nat.le_trans I.ok.bsz z)) (Nat.lt_irrefl _)
    · rcases List.mem_cons.mp (I.stkSub b z) with e | e
      · exact (hfp b hb).2.1 e
      · exact (hfp b hb).2.2.1 e
  obtain ⟨mX, hnX, hlX⟩ := I.loc
  refine ⟨okX, ho, by rw [hg]; exact I.bare, Un.kept hk, ⟨m, hn, fun j x v e1 e2 e3 => ?_⟩, fun x c e => ?_, I.hok.fresh hC, fun x c e => I.freeC x c (cg x c e).2, fun p hp => hpl p hp, I.hok.kept hk, ?_⟩
  · obtain ⟨i, e4, e5⟩ := capS_get e2
    have hz : (N.zip src)[j]? = some (x, some i) := by
      rw [List.getElem?_zip_eq_some]
      exact ⟨e1, e4⟩
    have q := List.all_eq_true.mp ok.srcs _ (List.mem_of_getElem? hz)
    have q : (X.N[i]? == some x && !((relabel scope X.env).names.lookup x == some .local)) = true := q
    rw [Bool.and_eq_true] at q
    have q1 : X.N[i]? = some x := by simpa using q.1
    have q2 : ¬ (relabel scope X.env).names.lookup x = some .local := by
      intro z
      rw [z] at q
      exact absurd q.2 (by decide)
    have e3 : (relabel scope X.env).names.lookup x = some .local ∨ (relabel scope X.env).names.lookup x = some .cell ∨ (relabel scope X.env).names.lookup x = some .free := e3
    have e6 : (relabel scope X.env).names.lookup x = some .cell ∨ (relabel scope X.env).names.lookup x = some .free := e3.resolve_left q2
    obtain ⟨c, hc⟩ := ok.cellAt x e6
    obtain ⟨k1, k2⟩ := cg x c hc
    obtain ⟨u, r, l⟩ := hlX i x v q1 e5 (.inr (.inl k1))
    refine ⟨u, r, .inr ⟨e6, c, hc, ?_⟩⟩
    rcases l with ⟨z, _⟩ | ⟨_, c', z1, z2⟩
    · rw [k1] at z; cases z
    · rw [k2] at z1
      cases z1
      obtain ⟨o, ho', hd⟩ := z2
      exact ⟨o, hk _ o ho', hd⟩
  · obtain ⟨v, o, ho', hd⟩ := I.cell x c (cg x c e).2
    exact ⟨v, o, hk _ o ho', hd⟩
  · rw [capS_len]
    exact ok.len.symm
theorem lc_leave (I : Inv X pins σ H s) {fp : List Addr} (hfp : ∀ b ∈ fp, FpOk X pins H b) {C D : Addr} (hD : s.heap.objs.size ≤ D) (hC : s.heap.objs.size ≤ C)
    {σ' : St} {H' : Hp} {t : Shared} {pl : List (Addr × Obj)} (J : Inv (cxLc X N scope cl C s H fp) pl σ' H' t) {ys : List V} {its : List Value} {n : Nat} (hy : ys.length ≤ sizeLine) (rv : Vals ys its)
    (hd : t.heap.get? D = some { cls := .type "list", data := .seq its.toArray n }) (hn : H' D = none) (hDC : D ≠ C) {h' : Heap} (hs : Heap.SameBut C t.heap h') : Inv X pins σ (upd H' D (.lst ys)) { t with heap := h' } := by
  have neC : ∀ b o, s.heap.get? b = some o → b ≠ C := fun b o e => Nat.ne_of_lt (Nat.lt_of_lt_of_le (Heap.lt_size e) hC)
  have neD : ∀ b o, s.heap.get? b = some o → b ≠ D := fun b o e => Nat.ne_of_lt (Nat.lt_of_lt_of_le (Heap.lt_size e) hD)
  have B : Un (frs X.stack) fp H H' s.heap t.heap := J.base
  have fC : H' C = none := J.free
  refine I.call' (s' := { t with heap := h' }) (ch := fp) J.os ?_ ?_ J.bare fun b hb => ⟨(hfp b hb).2.2.2.1, (hfp b hb).2.1, (hfp b hb).2.2.2.2.1, (hfp b hb).2.2.2.2.2⟩
  · refine ⟨fun b o e q hb hx => (hs.2 b (neC b o e)).trans (B.keep b o e q hb hx), fun b o e q hb hx => ?_, fun b o e q hx => ?_, fun b o e hx => ?_, fun b xs e => ?_, fun b o u e => ?_, fun b ps e => ?_⟩
    · obtain ⟨sl, z⟩ := B.slot b o e q hb hx
      exact ⟨sl, (hs.2 b (neC b o e)).trans z⟩
    · rw [upd_ne (neD b o e)]
      exact B.free b o e q hx
    · obtain ⟨o', z⟩ := B.there b o e hx
      exact ⟨o', (hs.2 b (neC b o e)).trans z⟩
    · have z := B.tups b xs e
      rw [upd_ne (ne_of_none z hn)]
      exact z
    · have z := B.frzs b o u e
      rw [upd_ne (ne_of_none z hn)]
      exact z
    · obtain ⟨more, z⟩ := B.tbls b ps e
      exact ⟨more, by rw [upd_ne (ne_of_none z hn)]; exact z⟩
  · intro b u e
    by_cases hb : b = D
    · subst hb
      rw [upd_same] at e
      cases e
      exact ⟨hy, its, n, rv, (hs.2 b hDC).trans hd⟩
    · rw [upd_ne hb] at e
      refine (J.hok b u e).stay (fun c v hc q => (hs.2 c ?_).trans q) (fun c q => ?_) fun c xs q => ?_
      · rintro rfl
        rcases hc with z | z
        · rw [← z, fC] at e; cases e
        · rw [fC] at z; cases z
      · rw [upd_ne (ne_of_none q hn)]; exact q
      · rw [upd_ne (ne_of_none q hn)]; exact q

theorem lc_block {elt tg iter : Expr} {ifs : List Expr} {pos : Pos} {te : TE} {tc : TT} {g : TG} {it : Addr} {fp : List Addr} {tn : Nat → Heap → Prop} {J : It} {E : Value → Shared → Prop} {RR : Value → Addr → Result → Shared → Prop} {Qr : List V → Hp → Prop}
    (hc : X.calm = true) (ok : LcOk X N src scope cl) (hgo : GOwn g src)
    (hb : ∀ C, PG (cxLc X N scope cl C s H fp) tg g ∧ PIfs (cxLc X N scope cl C s H fp) ifs tc ∧ PE (cxLc X N scope cl C s H fp) elt te)
    (I : Inv X pins σ H s) (T : Turn X.prog X.w X.K tg J fp it tn) (st : tn 0 s.heap) (hfp : ∀ b ∈ fp, FpOk X pins H b)
    (W : Nat → Nat → List V → Hp → Prop) (w0 : ∃ m, W 0 m [] H)
    (turn : ∀ i m ys H, W i m ys H → (J.stop i H ∧ ys.length ≤ sizeLine ∧ Qr ys H) ∨ (J.go i H ∧ ys.length ≤ sizeLine ∧ ∀ x H', J.yld i H x H' → g x (capS src σ) H' fun σ2 H2 => tc σ2 H2 fun b H3 =>
      if b = true then te σ2 H3 fun y H4 => ∃ m', m' < m ∧ W (i + 1) m' (ys ++ [y]) H4 else ∃ m', m' < m ∧ W (i + 1) m' ys H3))
    (fin : ∀ D C t ys H', s.heap.objs.size ≤ D → s.heap.objs.size ≤ C → D ≠ C → H' D = none → H' C = none → (∃ m, t.heap.Ns C m) → Qr ys H' → (∀ h', Heap.SameBut C t.heap h' → Inv X pins σ (upd H' D (.lst ys)) { t with heap := h' }) →
      RR (.ref D) C (.ok .next) t) :
    wpAny (model X.prog X.w) X.A (newList []) (fun acc s₃ => wpAny (model X.prog X.w) X.A (newFunctionEnv scope X.env.globals cl [] X.env.qual none .none (some X.env)) (fun cenv s₄ =>
      codeAny (model X.prog X.w) X.A (.compStart (.ListComp elt [⟨tg, iter, ifs, 0⟩] scope pos) 0 (.ref it) acc { cenv with scope := relabel scope X.env }) (RR acc cenv.locals) s₄) E s₃) E s := by
  have noc : ∀ y ∈ scope.names, y.2 ≠ .cell := fun y hy z => by
    have q := List.all_eq_true.mp ok.nocell y hy
    rw [z] at q
    exact absurd q (by decide)
  obtain ⟨m0, w0⟩ := w0
  refine wpAny_newList (wpAny_newFunctionEnv noc (by intro y hy; simp at hy) (fun h1 hns hsb => ?_) ok.kind) (by show 0 ≤ sizeLine; exact Nat.zero_le _)
  dsimp only at hns hsb ⊢
  generalize hp1 : s.heap.push { cls := .type "list", data := .seq ([] : List Value).toArray } = hD at hns hsb ⊢
  have eC : hD.objs.size = s.heap.objs.size + 1 := by rw [← hp1, Heap.size_push]
  have nDC : s.heap.objs.size ≠ hD.objs.size := by rw [eC]; exact Nat.ne_of_lt (Nat.lt_succ_self _)
  have leC : s.heap.objs.size ≤ hD.objs.size := by rw [eC]; exact Nat.le_succ _
  have kept : ∀ b o, s.heap.get? b = some o → h1.get? b = some o := fun b o e =>
    hsb.extBut b o (Nat.ne_of_lt (Nat.lt_of_lt_of_le (Heap.lt_size e) leC)) (Heap.get?_push_of_some _ (hp1 ▸ Heap.get?_push_of_some _ e))
  have atD : h1.get? s.heap.objs.size = some { cls := .type "list", data := .seq ([] : List Value).toArray } := hsb.extBut _ _ nDC (Heap.get?_push_of_some _ (hp1 ▸ Heap.get?_push_size _ rfl))
  have ltf : ∀ b ∈ fp, b < s.heap.objs.size := fun b hb => by
    obtain ⟨o, e, _⟩ := T.obj 0 _ st b hb
    exact Heap.lt_size e
  have nstk : s.heap.objs.size ∉ frs X.stack := fun z => by
    rcases List.mem_cons.mp (I.stkSub _ z) with e | e
    · exact absurd (Nat.lt_of_lt_of_le I.lt (Nat.le_of_eq e)) (Nat.lt_irrefl _)
    · exact I.nofs (Nat.le_refl _) e
  have ncl : ∀ x c, cl.lookup x = some c → c ≠ s.heap.objs.size := fun x c e z => by
    obtain ⟨v, q⟩ := I.cell x c (ok.caps.get x c e).2
    exact absurd q.lt (by rw [z]; exact Nat.lt_irrefl _)
  -- what stays true of the iterator's records
  have stat : ∀ {H' : Hp} {its : List Value} {k : Nat}, (∀ b ∈ fp, H' b = none) → ∀ b ∈ fp, FpOk (cxLc X N scope cl hD.objs.size s H fp) [(s.heap.objs.size, { cls := .type "list", data := .seq its.toArray k })] H' b := fun fr b hb => by
    refine ⟨fr b hb, fun z => ?_, fun z => ?_, .inl hb, fun x c e => (hfp b hb).2.2.2.2.1 x c (ok.caps.get x c e).2, fun p hp z => ?_⟩
    · have z : b = hD.objs.size := z
      exact absurd (Nat.lt_of_lt_of_le (ltf b hb) (by rw [z]; exact leC)) (Nat.lt_irrefl _)
    · rcases List.mem_cons.mp (I.stkSub b z) with e | e
      · exact (hfp b hb).2.1 e
      · exact (hfp b hb).2.2.1 e
    · have hp : p ∈ ([] : List (Addr × Obj)) ++ [(s.heap.objs.size, { cls := .type "list", data := .seq _ _ })] := hp
      rw [List.nil_append, List.mem_singleton] at hp
      rw [hp] at z
      exact absurd (ltf b hb) (by rw [← z]; exact Nat.lt_irrefl _)
  have loop : ∀ t : Shared, t = { s with heap := h1, toks := s.toks + ([] : List (Str × Value)).length } →
      codeAny (model X.prog X.w) X.A (.compLoop (.ListComp elt [⟨tg, iter, ifs, 0⟩] scope pos) 0 (.ref it) (.ref s.heap.objs.size) (compEnvC scope cl hD.objs.size X.env)) (RR (.ref s.heap.objs.size) hD.objs.size) t := by
    rintro t rfl
    refine lc_loop (fun n t => ∃ i ys its k H', Inv (cxLc X N scope cl hD.objs.size s H fp) [(s.heap.objs.size, { cls := .type "list", data := .seq its.toArray k })] (capS src σ) H' t ∧ Vals ys its ∧ tn i t.heap ∧ (∀ b ∈ fp, H' b = none) ∧ W i n ys H') ?_ m0
      ⟨0, [], [], 0, H, ok.enter (t := { s with heap := h1, toks := s.toks + ([] : List (Str × Value)).length }) I hfp ltf leC rfl rfl kept hns ?_, .nil, T.keep 0 _ _ st fun b _ o e => kept b o e, fun b hb => (hfp b hb).1, w0⟩
    · rintro n t ⟨i, ys, its, k, H', Iy, rv, stt, fr, wv⟩
      rcases turn i n ys H' wv with ⟨stop, hy, q⟩ | ⟨go, hy, body⟩
      · refine wpAny_mono (T.done (cxLc X N scope cl hD.objs.size s H fp) rfl rfl rfl hc i _ t _ H' (fun _ _ => False) Iy (stat fr) stt stop) (fun r t1 hr => ?_) fun _ _ z => z
        obtain ⟨hr, I1⟩ := hr
        subst hr
        have p := I1.pin (s.heap.objs.size, _) (List.mem_append_right _ List.mem_cons_self)
        obtain ⟨m, hnC, _⟩ := id I1.loc
        exact fin _ _ t1 ys H' (Nat.le_refl _) leC nDC p.2.1 I1.free ⟨m, hnC⟩ q fun h' hs => lc_leave I hfp (Nat.le_refl _) leC I1 hy rv p.1 p.2.1 nDC hs
      · refine wpAny_mono (T.item (cxLc X N scope cl hD.objs.size s H fp) rfl rfl rfl hc i _ t _ H' (fun _ _ => False) Iy (stat fr) stt go) (fun r t1 hr => ?_) fun _ _ z => z
        obtain ⟨u, hr, h4⟩ := hr
        subst hr
        refine wpAny_mono h4 (fun _ t2 h5 => ?_) fun _ _ z => z
        obtain ⟨x, H5, I5, r5, y5, st5, fr5⟩ := h5
        have I5' := I5.pinned (stat fr5) (T.obj _ _ st5)
        obtain ⟨pg, pi, pe⟩ := hb hD.objs.size
        refine wpAny_mono (pg _ t2 _ H5 x u _ I5' r5 (hgo _ _ _ _ (body x H5 y5))) (fun _ t3 h6 => ?_) fun _ _ z => z
        obtain ⟨σ6, H6, I6, q6, len6, keep6⟩ := h6
        refine wpAny_mono (pi _ t3 σ6 H6 _ I6 q6) (fun b t4 h7 => ?_) fun _ _ z => z
        obtain ⟨H7, I7, q7⟩ := h7
        have wk : ∀ {pl : List (Addr × Obj)} {Hz : Hp} {tz : Shared}, Inv (cxLc X N scope cl hD.objs.size s H fp) pl σ6 Hz tz → Inv (cxLc X N scope cl hD.objs.size s H fp) pl (capS src σ) Hz tz := fun Iz =>
          Iz.weak len6.symm fun j v e => by
            obtain ⟨a, ea, _⟩ := capS_get e
            rw [keep6 j (by rw [ea]; simp)]
            exact e
        have held : ∀ {Hz : Hp} {tz : Shared} {pl : List (Addr × Obj)}, Inv (cxLc X N scope cl hD.objs.size s H fp) (pl ++ pinsAt fp t2.heap) σ6 Hz tz → (∀ b ∈ fp, ∀ o, t2.heap.get? b = some o → tz.heap.get? b = some o) ∧ ∀ b ∈ fp, Hz b = none := fun Iz =>
          ⟨fun b hb o e => (Iz.pin (b, o) (List.mem_append_right _ (List.mem_append_right _ (mem_pinsAt hb e)))).1, fun b hb => by
            obtain ⟨o, e, _⟩ := T.obj _ _ st5 b hb
            exact (Iz.pin (b, o) (List.mem_append_right _ (List.mem_append_right _ (mem_pinsAt hb e)))).2.1⟩
        cases b with
        | false =>
          rw [if_neg Bool.false_ne_true] at q7 ⊢
          obtain ⟨m', hm, w'⟩ := q7
          exact ⟨m', hm, i + 1, ys, its, k, H7, wk I7.unpinned, rv, T.keep _ _ _ st5 (held I7).1, (held I7).2, w'⟩
        | true =>
          rw [if_pos rfl] at q7 ⊢
          refine wpAny_mono (pe _ t4 σ6 H7 _ I7 q7) (fun v t5 h8 => ?_) fun _ _ z => z
          obtain ⟨y, H8, I8, r8, m', hm, w'⟩ := h8
          have p := I8.pin (s.heap.objs.size, _) (List.mem_append_right _ (List.mem_append_left _ List.mem_cons_self))
          have hl : its.toArray.size ≤ sizeLine := by rw [List.size_toArray, ← rv.length]; exact hy
          refine wpAny_list_append_plain (items := its.toArray) ⟨k, p.1⟩ (fun h' hpl hs => ?_) hl
          obtain ⟨k', ek⟩ := hpl
          have ek : h'.get? s.heap.objs.size = some { cls := .type "list", data := .seq (its ++ [v]).toArray k' } := by
            rw [ek]
            simp
          have I9 : Inv (cxLc X N scope cl hD.objs.size s H fp) (pinsAt fp t2.heap) σ6 H8 t5 := I8.pins_of fun a ha => I8.pin a (List.mem_append_right _ (List.mem_append_right _ ha))
          have I10 : Inv (cxLc X N scope cl hD.objs.size s H fp) (pinsAt fp t2.heap) σ6 H8 { t5 with heap := h' } := I9.turned (it := s.heap.objs.size) (t' := t5.toks) (fun b o hb e => hs.extBut b o hb e) p.2.1 nDC (.inr (Nat.le_refl _)) (fun x c e => ncl x c e) fun a ha z => by
            have ha : a ∈ ([] : List (Addr × Obj)) ++ pinsAt fp t2.heap := ha
            rw [List.nil_append] at ha
            exact absurd (ltf a.1 (of_pinsAt ha).1) (by rw [z]; exact Nat.lt_irrefl _)
          have hld := held (pl := []) (show Inv (cxLc X N scope cl hD.objs.size s H fp) ([] ++ pinsAt fp t2.heap) σ6 H8 { t5 with heap := h' } from I10)
          refine ⟨m', hm, i + 1, ys ++ [y], its ++ [v], k', H8, (wk I10).pins_of fun a ha => ?_, rv.append (.cons r8 .nil), T.keep _ _ _ st5 hld.1, hld.2, w'⟩
          rw [List.mem_singleton] at ha
          subst ha
          exact ⟨ek, p.2.1, nDC, nstk, fun _ z => nomatch z⟩
    · intro a ha
      rw [List.mem_singleton] at ha
      subst ha
      exact ⟨atD, I.hok.fresh (Nat.le_refl _), nDC, nstk, fun _ z => nomatch z⟩
  exact codeAny_compStart_list (loop _ rfl) (T.self _ 0 _ _ _ (T.keep 0 _ _ st fun b _ o e => kept b o e) (loop _ rfl))
theorem pe_lc {elt tg iter : Expr} {ifs : List Expr} {pos : Pos} {te : TE} {tc : TT} {g : TG} {wi : TI} (hc : X.calm = true) (ok : LcOk X N src scope cl) (hgo : GOwn g src) (hi : PI X tg iter wi)
    (hb : ∀ C s H fp, PG (cxLc X N scope cl C s H fp) tg g ∧ PIfs (cxLc X N scope cl C s H fp) ifs tc ∧ PE (cxLc X N scope cl C s H fp) elt te)
    (hs : ∀ x, foldedSetIterable iter X.env x = pure x := by intro _; rfl) : PE X (.ListComp elt [⟨tg, iter, ifs, 0⟩] scope pos) (tLc wi src g tc te) := by
  intro pins s σ H Q I h
  have nms : ∀ y ∈ scope.names, y.2 = .local → scope.names.lookup y.1 = some .local := fun y hy z => by
    have q := List.all_eq_true.mp ok.names y hy
    rw [z] at q
    simpa using q
  rw [eval_ListComp]
  refine wpAny_comprehension_free (use := none) rfl hs ok.clos ok.kind nms (thn (hi pins s σ H _ I h) fun v s1 h1 => thn h1 fun itv s2 h2 => ?_)
  obtain ⟨it, fp, tn, J, H2, e, I2, T, st2, f2, W, w0, turn⟩ := h2
  subst e
  refine lc_block (RR := fun acc C => compPost (model X.prog X.w) X.A X.xe none (EP X pins σ Q) acc C) (Qr := fun ys H => ∀ p, H p = none → Q (.ref p) (upd H p (.lst ys))) hc ok hgo (fun C => hb C s2 H2 fp) I2 T st2 f2 W w0 turn ?_
  intro D C t ys H' hD hC nDC n1 n2 hn q inv
  obtain ⟨m, hn⟩ := hn
  exact ⟨m, hn, fun h' hs => ⟨.ref D, _, inv h' hs, rfl, q D n1⟩⟩
end
end L2

namespace L2
open PySem
structure ZAp (z TI TO i1 i2 : Addr) (f1 f2 : List Addr) : Prop where
  a1 : TI ≠ z
  a2 : TO ≠ z
  a3 : i1 ≠ z
  a4 : i2 ≠ z
  a5 : TI ≠ TO
  a6 : TI ≠ i1
  a7 : TI ≠ i2
  a8 : TO ≠ i1
  a9 : TO ≠ i2
  b1 : i1 ≠ i2
  b2 : z ∉ f1
  b3 : z ∉ f2
  b4 : TO ∉ f1
  b5 : TO ∉ f2
  b6 : i1 ∉ f2
  b7 : i2 ∉ f1
section
variable {prog : Program} {w : World} {z TI TO i1 i2 : Addr} {f1 f2 : List Addr} {n1 n2 : Nat} {P1 P2 : Nat → Value → Prop} {S1 S2 : Nat → Heap → Prop}
def ZSt (z TI TO i1 i2 : Addr) (S1 S2 : Nat → Heap → Prop) (i : Nat) (h : Heap) : Prop := IsZip h z TI TO .none ∧ IsPair h TI (.ref i1) (.ref i2) ∧ (∃ a b, IsPair h TO a b) ∧ S1 i h ∧ S2 i h
theorem zip_item {A : Around} {E : Value → Shared → Prop} {s : Shared} {k : Nat} {Q : Value → Shared → Prop} (D : ZAp z TI TO i1 i2 f1 f2) (d1 : Draws prog w A i1 f1 n1 P1 S1) (d2 : Draws prog w A i2 f2 n2 P2 S2) (l1 : k < n1) (l2 : k < n2)
    (st : ZSt z TI TO i1 i2 S1 S2 k s.heap)
    (q : ∀ x y h' tk, P1 k x → P2 k y → IsZip h' z TI TO (rawInt s.heap.objs.size) → IsPair h' TO x y → IsPair h' TI (.ref i1) (.ref i2) → S1 (k + 1) h' → S2 (k + 1) h' → IsPair h' s.heap.objs.size x y → h'.objs.size = s.heap.objs.size + 1 →
      (∀ c o, c ≠ z → c ≠ TO → c ≠ i1 → c ≠ i2 → s.heap.get? c = some o → h'.get? c = some o) → Q (.ref s.heap.objs.size) { s with heap := h', toks := tk }) :
    wpAny (model prog w) A (Builtin.«zip.__next__» ⟨[.ref z], []⟩) (fun fin t => ∃ v, fin = .done (.ret v) ∧ Q v t) E s := by
  obtain ⟨hz, hTI, ⟨a, b, hTO⟩, s1, s2⟩ := st
  show wpAny (model prog w) _ (field (.ref z) 2 >>= _) _ _ _
  refine wpAny_bind (wpAny_field hz rfl (x := .bool false) rfl ?_)
  show wpAny (model prog w) _ (field (.ref z) 3 >>= _) _ _ _
  refine wpAny_bind (wpAny_field hz rfl (x := .ref TI) rfl ?_)
  refine wpAny_bind (wpAny_seqItems hTI rfl ?_)
  show wpAny (model prog w) _ (Builtin.SmallTypes.ownedTupleIsFree (.ref z) >>= _) _ _ _
  refine wpAny_bind ?_
  unfold Builtin.SmallTypes.ownedTupleIsFree
  refine wpAny_bind (wpAny_field hz rfl (x := .none) rfl (wpAny_pure ?_))
  simp only [if_true]
  refine wpAny_bind (wpAny_rule ?_)
  refine wpAny_bind (wpAny_field hz rfl (x := .ref TO) rfl ?_)
  refine wpAny_bind (wpAny_setField_rec hz (by simp) fun g1 z1 e1 => ?_)
  replace z1 : IsZip g1 z TI TO .ellipsis := z1
  refine wpAny_bind ?_
  simp only [List.zipIdx_cons, List.zipIdx_nil, List.forIn_cons, List.forIn_nil]
  refine wpAny_bind (wpAny_bind (wpAny_onRaise ?_))
  show wpAny (model prog w) _ (Builtin.SmallTypes.nextOf (.ref i1) >>= _) _ _ _
  have s1a : S1 k g1 := d1.frame _ _ _ s1 fun c hc o e => e1.extBut _ _ (fun x => D.b2 (x ▸ hc)) e
  have s2a : S2 k g1 := d2.frame _ _ _ s2 fun c hc o e => e1.extBut _ _ (fun x => D.b3 (x ▸ hc)) e
  refine wpAny_bind (d1.item k _ _ _ l1 s1a fun x g2 tk2 p1 s1b e2 => wpAny_pure ?_)
  have t2 : IsPair g2 TO a b := e2.extBut _ _ D.a8 (e1.extBut _ _ D.a2 hTO)
  refine wpAny_bind (wpAny_seqItems t2 rfl ?_)
  refine wpAny_bind (wpAny_updateSeq_pair t2 fun g3 t3 e3 => ?_)
  replace t3 : IsPair g3 TO x b := t3
  refine wpAny_bind (wpAny_letGo (wpAny_pure ?_))
  refine wpAny_bind (wpAny_bind (wpAny_onRaise ?_))
  show wpAny (model prog w) _ (Builtin.SmallTypes.nextOf (.ref i2) >>= _) _ _ _
  have s2b : S2 k g3 := d2.frame _ _ _ s2a fun c hc o e => e3.extBut _ _ (fun x => D.b5 (x ▸ hc)) (e2.extBut _ _ (fun x => D.b6 (x ▸ hc)) e)
  have s1c : S1 (k + 1) g3 := d1.frame _ _ _ s1b fun c hc o e => e3.extBut _ _ (fun x => D.b4 (x ▸ hc)) e
  refine wpAny_bind (d2.item k _ _ _ l2 s2b fun y g4 tk4 p2 s2c e4 => wpAny_pure ?_)
  have t4 : IsPair g4 TO x b := e4.extBut _ _ D.a9 t3
  refine wpAny_bind (wpAny_seqItems t4 rfl ?_)
  refine wpAny_bind (wpAny_updateSeq_pair t4 fun g5 t5 e5 => ?_)
  replace t5 : IsPair g5 TO x y := t5
  refine wpAny_bind (wpAny_letGo (wpAny_pure (wpAny_pure ?_)))
  refine wpAny_bind (wpAny_seqItems t5 rfl ?_)
  refine wpAny_bind (wpAny_newTuple ?_)
  have sz : g5.objs.size = s.heap.objs.size := by rw [e5.1, e4.1, e3.1, e2.1, e1.1]
  have z5 : IsZip g5 z TI TO .ellipsis := e5.extBut _ _ D.a2.symm (e4.extBut _ _ D.a4.symm (e3.extBut _ _ D.a2.symm (e2.extBut _ _ D.a3.symm z1)))
  have kp : ∀ c o, c ≠ z → c ≠ TO → c ≠ i1 → c ≠ i2 → s.heap.get? c = some o → g5.get? c = some o := fun c o c1 c2 c3 c4 e =>
    e5.extBut _ _ c2 (e4.extBut _ _ c4 (e3.extBut _ _ c2 (e2.extBut _ _ c3 (e1.extBut _ _ c1 e))))
  have s1d : S1 (k + 1) g5 := d1.frame _ _ _ s1c fun c hc o e => e5.extBut _ _ (fun x => D.b4 (x ▸ hc)) (e4.extBut _ _ (fun x => D.b7 (x ▸ hc)) e)
  have s2d : S2 (k + 1) g5 := d2.frame _ _ _ s2c fun c hc o e => e5.extBut _ _ (fun x => D.b5 (x ▸ hc)) e
  have zlt : z < g5.objs.size := Heap.lt_size z5
  show wpAny (model prog w) _ (Builtin.SmallTypes.ownedTupleHandOut (.ref z) (.ref g5.objs.size) >>= _) _ _ _
  refine wpAny_bind ?_
  unfold Builtin.SmallTypes.ownedTupleHandOut
  have z6 : IsZip (g5.push { cls := .type "tuple", data := .seq #[x, y] }) z TI TO .ellipsis := Heap.get?_push_of_some _ z5
  refine wpAny_bind (wpAny_setField_rec z6 (by simp) fun g7 z7 e7 => ?_)
  replace z7 : IsZip g7 z TI TO (rawInt g5.objs.size) := z7
  refine wpAny_setField_rec z7 (by simp) fun g8 z8 e8 => ?_
  replace z8 : IsZip g8 z TI TO (rawInt g5.objs.size) := z8
  have up : ∀ c o, c ≠ z → g5.get? c = some o → g8.get? c = some o := fun c o c1 e => e8.extBut _ _ c1 (e7.extBut _ _ c1 (Heap.get?_push_of_some _ e))
  have t8 : IsPair g8 g5.objs.size x y := e8.extBut _ _ (Nat.ne_of_gt zlt) (e7.extBut _ _ (Nat.ne_of_gt zlt) (Heap.get?_push_size _ rfl))
  have sz8 : g8.objs.size = g5.objs.size + 1 := by rw [e8.1, e7.1, Heap.size_push]
  rw [sz] at z8 t8 sz8
  refine wpAny_pure ⟨_, rfl, ?_⟩
  show Q (.ref g5.objs.size) _
  rw [sz]
  exact q x y g8 tk4 p1 p2 z8 (up _ _ D.a2 t5) (up _ _ D.a1 (kp _ _ D.a1 D.a5 D.a6 D.a7 hTI)) (d1.frame _ _ _ s1d fun c hc o e => up c o (fun x => D.b2 (x ▸ hc)) e) (d2.frame _ _ _ s2d fun c hc o e => up c o (fun x => D.b3 (x ▸ hc)) e) t8 sz8
    fun c o c1 c2 c3 c4 e => up c o c1 (kp c o c1 c2 c3 c4 e)

theorem zip_stop {A : Around} {E : Value → Shared → Prop} {s : Shared} {k : Nat} {Q : Fin → Shared → Prop} (D : ZAp z TI TO i1 i2 f1 f2) (d1 : Draws prog w A i1 f1 n1 P1 S1) (d2 : Draws prog w A i2 f2 n2 P2 S2) (hk : k = n1 ∨ (k < n1 ∧ k = n2))
    (st : ZSt z TI TO i1 i2 S1 S2 k s.heap)
    (q : ∀ h' e tk, (∀ c o, c ≠ z → c ≠ TO → c ≠ i1 → c ≠ i2 → s.heap.get? c = some o → h'.get? c = some o) → (∃ o, h'.get? e = some o ∧ o.cls = .type "StopIteration") → E (.ref e) { s with heap := h', toks := tk }) :
    wpAny (model prog w) A (Builtin.«zip.__next__» ⟨[.ref z], []⟩) Q E s := by
  obtain ⟨hz, hTI, ⟨a, b, hTO⟩, s1, s2⟩ := st
  show wpAny (model prog w) _ (field (.ref z) 2 >>= _) _ _ _
  refine wpAny_bind (wpAny_field hz rfl (x := .bool false) rfl ?_)
  show wpAny (model prog w) _ (field (.ref z) 3 >>= _) _ _ _
  refine wpAny_bind (wpAny_field hz rfl (x := .ref TI) rfl ?_)
  refine wpAny_bind (wpAny_seqItems hTI rfl ?_)
  show wpAny (model prog w) _ (Builtin.SmallTypes.ownedTupleIsFree (.ref z) >>= _) _ _ _
  refine wpAny_bind ?_
  unfold Builtin.SmallTypes.ownedTupleIsFree
  refine wpAny_bind (wpAny_field hz rfl (x := .none) rfl (wpAny_pure ?_))
  simp only [if_true]
  refine wpAny_bind (wpAny_rule ?_)
  refine wpAny_bind (wpAny_field hz rfl (x := .ref TO) rfl ?_)
  refine wpAny_bind (wpAny_setField_rec hz (by simp) fun g1 z1 e1 => ?_)
  replace z1 : IsZip g1 z TI TO .ellipsis := z1
  refine wpAny_bind ?_
  simp only [List.zipIdx_cons, List.zipIdx_nil, List.forIn_cons, List.forIn_nil]
  refine wpAny_bind (wpAny_bind (wpAny_onRaise ?_))
  show wpAny (model prog w) _ (Builtin.SmallTypes.nextOf (.ref i1) >>= _) _ _ _
  have s1a : S1 k g1 := d1.frame _ _ _ s1 fun c hc o e => e1.extBut _ _ (fun x => D.b2 (x ▸ hc)) e
  have s2a : S2 k g1 := d2.frame _ _ _ s2 fun c hc o e => e1.extBut _ _ (fun x => D.b3 (x ▸ hc)) e
  rcases hk with rfl | ⟨l1, rfl⟩
  · refine wpAny_bind (d1.done _ _ _ s1a fun g2 x e2 hx => ?_)
    obtain ⟨ox, hox, hcx⟩ := hx
    have z2 : IsZip g2 z TI TO .ellipsis := e2 _ _ D.a3.symm z1
    have nz : x ≠ z := fun r => by subst r; rw [z2] at hox; cases hox; simp at hcx
    exact wpAny_setField_rec z2 (by simp) fun g3 _ e3 => q g3 x _ (fun c o c1 _ c3 _ y => e3.extBut _ _ c1 (e2 _ _ c3 (e1.extBut _ _ c1 y))) ⟨ox, e3.extBut _ _ nz hox, hcx⟩
  · refine wpAny_bind (d1.item _ _ _ _ l1 s1a fun x g2 tk2 p1 s1b e2 => wpAny_pure ?_)
    have t2 : IsPair g2 TO a b := e2.extBut _ _ D.a8 (e1.extBut _ _ D.a2 hTO)
    refine wpAny_bind (wpAny_seqItems t2 rfl ?_)
    refine wpAny_bind (wpAny_updateSeq_pair t2 fun g3 t3 e3 => ?_)
    refine wpAny_bind (wpAny_letGo (wpAny_pure ?_))
    refine wpAny_bind (wpAny_bind (wpAny_onRaise ?_))
    show wpAny (model prog w) _ (Builtin.SmallTypes.nextOf (.ref i2) >>= _) _ _ _
    have s2b : S2 k g3 := d2.frame _ _ _ s2a fun c hc o e => e3.extBut _ _ (fun x => D.b5 (x ▸ hc)) (e2.extBut _ _ (fun x => D.b6 (x ▸ hc)) e)
    refine wpAny_bind (d2.done _ _ _ s2b fun g4 y e4 hy => ?_)
    obtain ⟨oy, hoy, hcy⟩ := hy
    have z4 : IsZip g4 z TI TO .ellipsis := e4 _ _ D.a4.symm (e3.extBut _ _ D.a2.symm (e2.extBut _ _ D.a3.symm z1))
    have nz : y ≠ z := fun r => by subst r; rw [z4] at hoy; cases hoy; simp at hcy
    exact wpAny_setField_rec z4 (by simp) fun g5 _ e5 => q g5 y _ (fun c o c1 c2 c3 c4 r => e5.extBut _ _ c1 (e4 _ _ c4 (e3.extBut _ _ c2 (e2.extBut _ _ c3 (e1.extBut _ _ c1 r))))) ⟨oy, e5.extBut _ _ nz hoy, hcy⟩
theorem zip_pyNext {A : Around} {E : Value → Shared → Prop} {s : Shared} {k : Nat} {Q : Option Value → Shared → Prop} (D : ZAp z TI TO i1 i2 f1 f2) (d1 : Draws prog w A.in1 i1 f1 n1 P1 S1) (d2 : Draws prog w A.in1 i2 f2 n2 P2 S2) (l1 : k < n1) (l2 : k < n2)
    (st : ZSt z TI TO i1 i2 S1 S2 k s.heap)
    (q : ∀ x y h' tk, P1 k x → P2 k y → IsZip h' z TI TO (rawInt s.heap.objs.size) → IsPair h' TO x y → IsPair h' TI (.ref i1) (.ref i2) → S1 (k + 1) h' → S2 (k + 1) h' → IsPair h' s.heap.objs.size x y → h'.objs.size = s.heap.objs.size + 1 →
      (∀ c o, c ≠ z → c ≠ TO → c ≠ i1 → c ≠ i2 → s.heap.get? c = some o → h'.get? c = some o) → Q (some (.ref s.heap.objs.size)) { s with heap := h', toks := tk }) :
    wpAny (model prog w) A (pyNext (.ref z)) Q E s := by
  have hT : s.TypeIs (.ref z) "zip" := ⟨_, st.1, rfl⟩
  unfold pyNext
  exact wpAny_bind (wpAny_attempt (wpAny_callSpecial?_slot (name := Str.ofString "__next__") hT F.slot_zip_next
    (wpAny_call_entry F.slot_zip_next hT F.entry_zip_next
      (zip_item D d1 d2 l1 l2 st fun x y h' tk c1 c2 c3 c4 c5 c6 c7 c8 c9 c10 => wpAny_pure (q x y h' tk c1 c2 c3 c4 c5 c6 c7 c8 c9 c10)) (F.args_zip_next_1 _))))
theorem zip_pyNext_end {A : Around} {E : Value → Shared → Prop} {s : Shared} {k : Nat} {Q : Option Value → Shared → Prop} (D : ZAp z TI TO i1 i2 f1 f2) (d1 : Draws prog w A.in1 i1 f1 n1 P1 S1) (d2 : Draws prog w A.in1 i2 f2 n2 P2 S2)
    (hk : k = n1 ∨ (k < n1 ∧ k = n2)) (st : ZSt z TI TO i1 i2 S1 S2 k s.heap)
    (q : ∀ h' tk, (∀ c o, c ≠ z → c ≠ TO → c ≠ i1 → c ≠ i2 → s.heap.get? c = some o → h'.get? c = some o) → Q none { s with heap := h', toks := tk }) : wpAny (model prog w) A (pyNext (.ref z)) Q E s := by
  have hT : s.TypeIs (.ref z) "zip" := ⟨_, st.1, rfl⟩
  unfold pyNext
  refine wpAny_bind (wpAny_attempt (wpAny_callSpecial?_slot (name := Str.ofString "__next__") hT F.slot_zip_next
    (wpAny_call_entry F.slot_zip_next hT F.entry_zip_next (zip_stop D d1 d2 hk st fun h' e tk kp he => ?_) (F.args_zip_next_1 _))))
  obtain ⟨o, ho, hc⟩ := he
  refine wpAny_bind (wpAny_isInstance (T := "StopIteration") (b := true) ⟨o, ho, hc⟩ isSubtype_stop ?_)
  exact wpAny_pure (q _ _ kp)
end

end L2

namespace L2
open PySem PySem.Spec PyProof.Rows
theorem boot_zip : bootBuiltins "zip" = some (.type "zip") := by decide +kernel
theorem nne (n a b : Nat) (h : a ≠ b) : n + a ≠ n + b := by omega
theorem nne0 (n b : Nat) (h : 0 < b) : n ≠ n + b := by omega
theorem vals2' {x y : V} {us : List Value} (r : Vals [x, y] us) : ∃ u v, us = [u, v] ∧ RelV x u ∧ RelV y v := by
  cases r with
  | cons p q =>
    cases q with
    | cons p' q' =>
      cases q'
      exact ⟨_, _, rfl, p, p'⟩
section
variable {X : Cx} {pins : List (Addr × Obj)} {σ : St} {H : Hp} {s : Shared} {h' : Heap}
theorem Inv.turnedL {t' : Nat} {l : List Addr} (I : Inv X pins σ H s) (k : ∀ b o, b ∉ l → s.heap.get? b = some o → h'.get? b = some o) (hf : ∀ b ∈ l, FpOk X pins H b) : Inv X pins σ H { s with heap := h', toks := t' } := by
  have nl : ∀ b u, H b = some u → b ∉ l := fun b u e z => by rw [(hf b z).1] at e; cases e
  refine I.step (g' := s.gens) (d' := s.drawn) (ch := l) (fun b hb => ⟨(hf b hb).2.2.2.1, (hf b hb).2.1, (hf b hb).2.2.2.2.1, (hf b hb).2.2.2.2.2⟩) (fun b o _ _ hc e _ => k b o hc e) (fun b o _ _ hc e _ => ⟨o.slots, k b o hc e⟩) (fun _ _ _ _ n => n)
    (fun b o hc e => ⟨o, k b o hc e⟩) (fun _ _ e => e) (fun _ _ _ e => e) (fun b ps e => ⟨#[], by rw [e]; simp⟩) (fun m hm => ?_) (fun b u e => ?_) I.bare
  · obtain ⟨o, es, ep, ho, r⟩ := hm
    exact ⟨o, es, ep, k _ o (fun z => (hf _ z).2.1 rfl) ho, r⟩
  · refine (I.hok b u e).stay (fun c v hc q => k c v ?_ q) (fun _ q => q) fun _ _ q => q
    rcases hc with z | z
    · rw [z]; exact nl b u e
    · exact nl c _ z
theorem Inv.adopt {p : Addr} {o : HO} (I : Inv X pins σ H s) (hf : FpOk X pins H p) (new : ObjOk X.prog X.w (upd H p o) s.heap p o) : Inv X pins σ (upd H p o) s := by
  have e0 : ({ s with heap := s.heap, gens := s.gens, drawn := s.drawn, toks := s.toks } : Shared) = s := rfl
  rw [← e0]
  refine I.step (H' := upd H p o) (h' := s.heap) (g' := s.gens) (d' := s.drawn) (t' := s.toks) (ch := [p]) (fun b hb => ?_) (fun b u _ _ _ e _ => e) (fun b u _ _ _ e _ => ⟨u.slots, e⟩) (fun b u hc e n => ?_) (fun b u _ e => ⟨u, e⟩)
    (fun b xs e => ?_) (fun b u v e => ?_) (fun b ps e => ⟨#[], ?_⟩) (fun m hm => hm) (fun b u e => ?_) I.bare
  · rw [List.mem_singleton] at hb
    subst hb
    exact ⟨hf.2.2.2.1, hf.2.1, hf.2.2.2.2.1, hf.2.2.2.2.2⟩
  · rw [upd_ne fun z => hc (by rw [z]; exact List.mem_singleton_self _)]
    exact n
  · rw [upd_ne (ne_of_none e hf.1)]; exact e
  · rw [upd_ne (ne_of_none e hf.1)]; exact e
  · rw [upd_ne (ne_of_none e hf.1), e]; simp
  · by_cases hb : b = p
    · subst hb
      rw [upd_same] at e
      cases e
      exact new
    · rw [upd_ne hb] at e
      exact (I.hok b u e).stay (fun c v hc q => q) (fun c q => by rw [upd_ne (ne_of_none q hf.1)]; exact q) fun c xs q => by rw [upd_ne (ne_of_none q hf.1)]; exact q
end
section
variable {X : Cx} {es : List Expr} {kt : Nat} {tp : Pos}
end
end L2

namespace L2
open PySem PySem.Spec PyProof.Rows
theorem Same.upd {H : Hp} {p : Addr} {o : HO} (h : H p = none) : Same H (upd H p o) := fun b u e => by
  rw [upd_ne (ne_of_none e h)]
  exact e
def SameBut (p : Addr) (H H' : Hp) : Prop := ∀ b o, b ≠ p → H b = some o → H' b = some o
theorem Same.but {p : Addr} {H H' : Hp} (h : Same H H') : SameBut p H H' := fun b o _ e => h b o e
theorem SameBut.trans {p : Addr} {H H1 H2 : Hp} (a : SameBut p H H1) (b : SameBut p H1 H2) : SameBut p H H2 := fun c o n e => b c o n (a c o n e)
theorem SameBut.upd {p : Addr} {H : Hp} {o : HO} : SameBut p H (upd H p o) := fun b u n e => by rw [upd_ne n]; exact e
section
variable {X : Cx}
theorem call_all_bl (hc : X.calm = true) : CallR X (.builtin "all") (fun xs H Q => ∃ (p : Addr) (bs : List Bool), xs = [.ref p] ∧ SqL X.K H p (bs.map V.bl) ∧ Q (.bl (bs.all id)) H) := by
  intro pins s σ H xs us Q I r h
  obtain ⟨p, bs, rfl, hq, q⟩ := h
  obtain ⟨u, rfl, ru⟩ := vals1 r
  cases ru
  obtain ⟨its, rv, pl, hz⟩ := I.list hq
  have hlen : its.toArray.size = bs.length := by rw [List.size_toArray, ← rv.length, List.length_map]
  have hne : p ≠ s.heap.objs.size := by
    obtain ⟨o, n, e, _⟩ := pl
    exact Nat.ne_of_lt (Heap.lt_size e)
  refine call_all_walk (wpAny_pyIter_list pl.isList ?_)
  refine ⟨s.heap.objs.size, _, _, its.toArray.size, _, _, fun i => bs.getD i false, rfl, Walks.list (A := X.A.in1) (I.ok.hd hc) s.heap.objs.size p hne its.toArray, ⟨⟨_, Heap.get?_push_size _ rfl, rfl, rfl⟩, pl.isList.push _⟩, fun i v t Q' E' hv hQ' => ?_, fun h' tk kp => ?_⟩
  · have hv : its[i]? = some v := by simpa using hv
    have hi : i < bs.length := by
      have := (List.getElem?_eq_some_iff.mp hv).1
      rw [← rv.length, List.length_map] at this
      exact this
    obtain ⟨u, e1, e2⟩ := rv.get (i := i) (x := V.bl bs[i]) (by simp [hi])
    rw [hv] at e1
    cases e1
    have e2 : v = Value.bool bs[i] := e2
    subst e2
    have e3 : bs.getD i false = bs[i] := by simp [hi]
    rw [← e3]
    exact wpAny_truthy_bool hQ'
  · have e : (List.range its.toArray.size).all (fun i => bs.getD i false) = bs.all id := by
      rw [hlen, Bool.eq_iff_iff, List.all_eq_true, List.all_eq_true]
      constructor
      · intro h b hb
        obtain ⟨i, hi, rfl⟩ := List.mem_iff_getElem.mp hb
        have := h i (by simpa using hi)
        simpa [hi] using this
      · intro h i hi
        have hi : i < bs.length := by simpa using hi
        have := h bs[i] (List.getElem_mem hi)
        simpa [hi] using this
    rw [e]
    exact ⟨.bl (bs.all id), H, I.kept (t' := tk) fun b o eb => kp b o (fun z => by
      have z : b = s.heap.objs.size := by simpa using z
      exact absurd (Heap.lt_size eb) (by rw [z]; exact Nat.lt_irrefl _)) (Heap.get?_push_of_some _ eb), rfl, q⟩
theorem call_isinst : CallR X (.builtin "isinstance") (fun xs H Q => ∃ x T t b, xs = [x, .ty T] ∧ TyOf X.K H x t ∧ PySem.W.kitOne X.K t (.type T) = some b ∧ Q (.bl b) H) := by
  intro pins s σ H xs us Q I r h
  obtain ⟨x, T, t, b, rfl, ty, e, q⟩ := h
  obtain ⟨u, v, rfl, ru, rv⟩ := vals2 r
  have rv : v = Value.type T := rv
  subst rv
  exact isinst_ok I ru ty e fun tk => ⟨.bl b, H, I.tok tk, rfl, q⟩
def rNeNil (K : PySem.W.Frag) : R2 := fun x y H Q => ∃ a b xs, x = .ref a ∧ y = .ref b ∧ SqL K H a xs ∧ SqL K H b [] ∧ Q (.bl (!xs.isEmpty)) H
theorem op_neNil (hu : X.A.units < cLine) : OpR X (compareOp .NotEq) (rNeNil X.K) := by
  intro pins s σ H x y v u Q I rx ry h
  obtain ⟨a, b, xs, rfl, rfl, ha, hb, q⟩ := h
  cases rx
  cases ry
  obtain ⟨its, r1, p1, _⟩ := I.list ha
  obtain ⟨its2, r2, p2, _⟩ := I.list hb
  cases r2
  by_cases hx : xs = []
  · subst hx
    cases r1
    exact SeqAt.RcNeAt.lists (e := fun _ => true) p1.isList p2.isList rfl hu (fun j h1 _ => absurd h1 (by simp)) _ _ _ _ ⟨.bl false, H, I, by simp; rfl, q⟩
  · have e : xs.isEmpty = false := by cases xs with
      | nil => exact absurd rfl hx
      | cons _ _ => rfl
    rw [e] at q
    refine SeqAt.RcNeAt.lists_lengths p1.isList p2.isList ?_ hu _ _ _ _ ⟨.bl true, H, I, rfl, q⟩
    have h0 : its.length ≠ 0 := by
      rw [← r1.length]
      exact fun z => hx (List.length_eq_zero_iff.mp z)
    simpa using h0
end
end L2

namespace L2
open PySem PySem.Spec PyProof.Rows
structure Kn (P : Program) (w : World) (K : PySem.W.Frag) (mg : Str → Option Value) (base : Heap) (k : Nat) (x : Str) (ps : List Str) (sp : Sp) : Prop where
  ex : ∃ (f : Addr) (fd : FuncData), FnOk P w K mg base CX0 k f fd ps sp ∧ mg x = some (.ref f) ∧ PySem.W.keepIn K (.ref f) = true ∧ Binds K fd ps []
theorem pe_kn {X : Cx} {k : Nat} {x : Str} {ps : List Str} {sp : Sp} {p pos : Pos} {e : Expr} {es : List Expr} {t : TA} (h : Kn X.prog X.w X.K X.mg X.base k x ps sp) (hr : Room k X.A) (ha : PA X (e :: es) t) (hg : Gl X x := by rfl)
    (hdb : (x == ("__debug__" : Str)) = false := by decide) (he : starEach (e :: es) X.env = (false, eval e X.env) :: starEach es X.env := by rfl) (hpl : (backTo pos (starEach es X.env)).any (·.1) = false := by rfl) :
    PE X (.Call (.Name x p) (e :: es) [] pos) (tCall sp [] E0 t) := by
  obtain ⟨f, fd, F, hm, hk, hb⟩ := h.ex
  exact pe_call F hr hg hm hk hb .nil pass0 ha hdb he hpl
theorem pt_call {X : Cx} {f : Expr} {es : List Expr} {ks : List Keyword} {pos : Pos} {t : TE} (h : PE X (.Call f es ks pos) t) : PT X (.Call f es ks pos) (tB t) := pt_val h
structure DefAt (K : PySem.W.Frag) (mg : Str → Option Value) (x : Str) (st : Stmt) (ps : List Str) : Prop where
  ex : ∃ (f : Addr) (fd : FuncData), Fun K x x st f fd ∧ mg x = some (.ref f) ∧ Binds K fd ps []
theorem DefAt.kn {P : Program} {w : World} {K : PySem.W.Frag} {mg : Str → Option Value} {base : Heap} {k : Nat} {x : Str} {st : Stmt} {N ps : List Str} {sp : Sp} (D : DefAt K mg x st ps) (S : FnScope N ps (defScope st)) (len : ∀ vs H Q E, sp vs H Q E → vs.length = ps.length)
    (hbody : ∀ (f : Addr) (cdv : Value) (A : Around) (outer : List Env) (s : Shared) (H : Hp) (vs : List V) (Q : VK) (E : XK), Room k (A.deeper (envOfC x (defScope st) s.heap.objs.size f cdv)) → sp vs H Q E →
      ∃ t, PSs (cxOf CX0 P w K mg base N x (defScope st) f cdv A outer s H E).nox (defBody st) t ∧ t { nx := fun _ H' => Q .non H', rt := Q } (start N vs) H) : Kn P w K mg base (k + 1) x ps sp := by
  obtain ⟨f, fd, F, hm, hb⟩ := D.ex
  exact ⟨f, fd, F.ok S len fun cdv A outer s H vs Q E hr h => hbody f cdv A outer s H vs Q E hr h, hm, F.kp, hb⟩
def Free (mg : Str → Option Value) (l : List Str) : Prop := ∀ x ∈ l, mg x = none

inductive Dat (H : Hp) : V → String → Prop where
  | non : Dat H .non "NoneType"
  | bl (b : Bool) : Dat H (.bl b) "bool"
  | int (i : Int) : Dat H (.int i) "int"
  | str (x : Str) : Dat H (.str x) "str"
  | lst {a : Addr} {xs : List V} (h : H a = some (.lst xs)) : Dat H (.ref a) "list"
  | tup {a : Addr} {xs : List V} (h : H a = some (.tup xs)) : Dat H (.ref a) "tuple"
  | dK {a : Addr} {kvs : List (Key × V)} (h : H a = some (.dK kvs)) : Dat H (.ref a) "dict"
theorem Dat.ty {K : PySem.W.Frag} {H : Hp} {x : V} {T : String} (h : Dat H x T) : TyOf K H x (.type T) := by
  cases h with
  | non => exact .non
  | bl b => exact .bl b
  | int i => exact .int i
  | str z => exact .str z
  | lst e => exact .lst e
  | tup e => exact .tup e
  | dK e => exact .dK e
theorem Dat.mem {H : Hp} {x : V} {T : String} (h : Dat H x T) : T ∈ ["NoneType", "bool", "int", "str", "list", "tuple", "dict"] := by
  cases h <;> simp
def kitB (t T : String) : Bool := t == T || (t == "bool" && T == "int")
theorem kit_of (K : PySem.W.Frag) {t T : String} (h : t ∈ ["NoneType", "bool", "int", "str", "list", "tuple", "dict"]) (h' : T ∈ ["int", "bool", "tuple", "list", "str", "dict"]) : PySem.W.kitOne K (.type t) (.type T) = some (kitB t T) := by
  simp only [List.mem_cons, List.not_mem_nil, or_false] at h h'
  rcases h with rfl | rfl | rfl | rfl | rfl | rfl | rfl <;> rcases h' with rfl | rfl | rfl | rfl | rfl | rfl <;> kernel_rfl
theorem call_isi {X : Cx} : CallR X (.builtin "isinstance") (fun xs H Q => ∃ x T T', xs = [x, .ty T] ∧ Dat H x T' ∧ T ∈ ["int", "bool", "tuple", "list", "str", "dict"] ∧ Q (.bl (kitB T' T)) H) := by
  intro pins s σ H xs us Q I r h
  obtain ⟨x, T, T', e, d, m, q⟩ := h
  exact call_isinst pins s σ H xs us Q I r ⟨x, T, .type T', _, e, d.ty, kit_of X.K d.mem m, q⟩
theorem boot_isi : bootBuiltins "isinstance" = some (.builtin "isinstance") := by decide +kernel
theorem boot_tint : bootBuiltins "int" = some (.type "int") := by decide +kernel
theorem boot_tbool : bootBuiltins "bool" = some (.type "bool") := by decide +kernel
theorem boot_ttuple : bootBuiltins "tuple" = some (.type "tuple") := by decide +kernel
theorem boot_tlist : bootBuiltins "list" = some (.type "list") := by decide +kernel
theorem boot_fall : bootBuiltins "all" = some (.builtin "all") := by decide +kernel
theorem boot_fmax : bootBuiltins "max" = some (.builtin "max") := by decide +kernel
theorem boot_fsorted : bootBuiltins "sorted" = some (.builtin "sorted") := by decide +kernel
def Ars (H : Hp) : List V → List (Int × Int) → Prop := Paired fun v p => ∃ q, v = V.ref q ∧ H q = some (.tup [.int p.1, .int p.2])
theorem Ars.mono {H H' : Hp} {vs : List V} {ars : List (Int × Int)} (s : Same H H') (h : Ars H vs ars) : Ars H' vs ars := Paired.mapP h fun _ _ ⟨q, e, z⟩ => ⟨q, e, s _ _ z⟩
structure Web (H : Hp) (a t : Addr) (m : Int) (vs : List V) (ars : List (Int × Int)) : Prop where
  top : H a = some (.tup [.int m, .ref t])
  arr : H t = some (.tup vs)
  ars : Ars H vs ars
  len : vs.length ≤ 1000
  mb : 0 ≤ m ∧ m ≤ 1000
theorem Paired.get' {α β : Type} {F : α → β → Prop} : ∀ {l : List α} {r : List β} {i : Nat} {x : α}, Paired F l r → l[i]? = some x → ∃ y, r[i]? = some y ∧ F x y
  | _, _, _, _, .nil, e => by simp at e
  | _, _, 0, _, .cons h _, e => by
    simp at e
    subst e
    exact ⟨_, rfl, h⟩
  | _, _, i + 1, x, .cons _ t, e => by
    obtain ⟨y, h1, h2⟩ := Paired.get' (i := i) (x := x) t (by simpa using e)
    exact ⟨y, by simpa using h1, h2⟩
def isI : V → Bool
  | .int _ => true
  | _ => false
def plG (m : Int) : V → Bool
  | .int n => decide (0 ≤ n) && decide (n < m)
  | _ => false
end L2

namespace L2
open PySem PySem.Spec PyProof.Rows
def Wn (n : Nat) (Pv : Nat → List V → Hp → Prop) (i m : Nat) (zs : List V) (H : Hp) : Prop := m = n - i ∧ i ≤ n ∧ Pv i zs H
theorem nx {n i : Nat} {Pv : Nat → List V → Hp → Prop} {zs : List V} {H : Hp} (hi : i < n) (h : Pv (i + 1) zs H) : ∃ m', m' < n - i ∧ Wn n Pv (i + 1) m' zs H := ⟨n - (i + 1), by omega, rfl, hi, h⟩
section
variable {K : PySem.W.Frag} {g : TG} {tc : TT} {te : TE} {σ : St} {H : Hp} {R : List V → Hp → Prop}
theorem lc_by {J : It} (n : Nat) (Pv : Nat → List V → Hp → Prop) (h0 : Pv 0 [] H) (stop : ∀ zs H, Pv n zs H → J.stop n H ∧ zs.length ≤ sizeLine ∧ R zs H)
    (go : ∀ i zs H, i < n → Pv i zs H → J.go i H ∧ zs.length ≤ sizeLine ∧ ∀ x H', J.yld i H x H' → g x σ H' fun σ2 H2 => tc σ2 H2 fun b H3 =>
      if b = true then te σ2 H3 fun y H4 => ∃ m', m' < n - i ∧ Wn n Pv (i + 1) m' (zs ++ [y]) H4 else ∃ m', m' < n - i ∧ Wn n Pv (i + 1) m' zs H3) :
    ∃ W : Nat → Nat → List V → Hp → Prop, (∃ m, W 0 m [] H) ∧ ∀ i m ys H, W i m ys H → (J.stop i H ∧ ys.length ≤ sizeLine ∧ R ys H) ∨
      (J.go i H ∧ ys.length ≤ sizeLine ∧ ∀ x H', J.yld i H x H' → g x σ H' fun σ2 H2 => tc σ2 H2 fun b H3 =>
        if b = true then te σ2 H3 fun y H4 => ∃ m', m' < m ∧ W (i + 1) m' (ys ++ [y]) H4 else ∃ m', m' < m ∧ W (i + 1) m' ys H3) := by
  refine ⟨Wn n Pv, ⟨n, rfl, Nat.zero_le _, h0⟩, ?_⟩
  rintro i m ys H ⟨rfl, hi, p⟩
  by_cases hlt : i < n
  · exact .inr (go i ys H hlt p)
  · have e : i = n := by omega
    subst e
    exact .inl (stop ys H p)
theorem lc_list {a : Addr} {xs : List V} (Pv : Nat → List V → Hp → Prop) (h0 : Pv 0 [] H) (hl : ∀ i zs H, i ≤ xs.length → Pv i zs H → SqL K H a xs ∧ zs.length ≤ sizeLine) (hd : ∀ zs H, Pv xs.length zs H → R zs H)
    (hs : ∀ i x zs H, xs[i]? = some x → i < xs.length → Pv i zs H → g x σ H fun σ2 H2 => tc σ2 H2 fun b H3 =>
      if b = true then te σ2 H3 fun y H4 => ∃ m', m' < xs.length - i ∧ Wn xs.length Pv (i + 1) m' (zs ++ [y]) H4 else ∃ m', m' < xs.length - i ∧ Wn xs.length Pv (i + 1) m' zs H3) :
    ∃ W : Nat → Nat → List V → Hp → Prop, (∃ m, W 0 m [] H) ∧ ∀ i m ys H, W i m ys H → ((Itl K a).stop i H ∧ ys.length ≤ sizeLine ∧ R ys H) ∨
      ((Itl K a).go i H ∧ ys.length ≤ sizeLine ∧ ∀ x H', (Itl K a).yld i H x H' → g x σ H' fun σ2 H2 => tc σ2 H2 fun b H3 =>
        if b = true then te σ2 H3 fun y H4 => ∃ m', m' < m ∧ W (i + 1) m' (ys ++ [y]) H4 else ∃ m', m' < m ∧ W (i + 1) m' ys H3) := by
  refine lc_by xs.length Pv h0 (fun zs H p => ?_) (fun i zs H hi p => ?_)
  · obtain ⟨q, z⟩ := hl _ zs H (Nat.le_refl _) p
    exact ⟨⟨xs, q, Nat.le_refl _⟩, z, hd zs H p⟩
  · obtain ⟨q, z⟩ := hl i zs H (Nat.le_of_lt hi) p
    refine ⟨⟨xs, xs[i], q, by simp [hi]⟩, z, fun x H' y => ?_⟩
    obtain ⟨e, y⟩ := y
    subst e
    exact hs i x zs _ (y xs q) hi p
theorem lc_range {lo : Int} {n : Nat} (Pv : Nat → List V → Hp → Prop) (h0 : Pv 0 [] H) (hl : ∀ i zs H, i ≤ n → Pv i zs H → zs.length ≤ sizeLine) (hd : ∀ zs H, Pv n zs H → R zs H)
    (hs : ∀ i zs H, i < n → Pv i zs H → g (.int (lo + i)) σ H fun σ2 H2 => tc σ2 H2 fun b H3 =>
      if b = true then te σ2 H3 fun y H4 => ∃ m', m' < n - i ∧ Wn n Pv (i + 1) m' (zs ++ [y]) H4 else ∃ m', m' < n - i ∧ Wn n Pv (i + 1) m' zs H3) :
    ∃ W : Nat → Nat → List V → Hp → Prop, (∃ m, W 0 m [] H) ∧ ∀ i m ys H, W i m ys H → ((Itr lo n).stop i H ∧ ys.length ≤ sizeLine ∧ R ys H) ∨
      ((Itr lo n).go i H ∧ ys.length ≤ sizeLine ∧ ∀ x H', (Itr lo n).yld i H x H' → g x σ H' fun σ2 H2 => tc σ2 H2 fun b H3 =>
        if b = true then te σ2 H3 fun y H4 => ∃ m', m' < m ∧ W (i + 1) m' (ys ++ [y]) H4 else ∃ m', m' < m ∧ W (i + 1) m' ys H3) := by
  refine lc_by n Pv h0 (fun zs H p => ⟨Nat.le_refl _, hl _ zs H (Nat.le_refl _) p, hd zs H p⟩) (fun i zs H hi p => ⟨hi, hl i zs H (Nat.le_of_lt hi) p, fun x H' y => ?_⟩)
  obtain ⟨e, y⟩ := y
  subst e y
  exact hs i zs _ hi p
end
section
variable {K : PySem.W.Frag} {g : TG} {te : TE} {σ : St} {H : Hp} {R : List V → Hp → Prop}
theorem lc_list0 {a : Addr} {xs : List V} (Pv : Nat → List V → Hp → Prop) (h0 : Pv 0 [] H) (hl : ∀ i zs H, i ≤ xs.length → Pv i zs H → SqL K H a xs ∧ zs.length ≤ sizeLine) (hd : ∀ zs H, Pv xs.length zs H → R zs H)
    (hs : ∀ i x zs H, xs[i]? = some x → i < xs.length → Pv i zs H → g x σ H fun σ2 H2 => te σ2 H2 fun y H4 => ∃ m', m' < xs.length - i ∧ Wn xs.length Pv (i + 1) m' (zs ++ [y]) H4) :
    ∃ W : Nat → Nat → List V → Hp → Prop, (∃ m, W 0 m [] H) ∧ ∀ i m ys H, W i m ys H → ((Itl K a).stop i H ∧ ys.length ≤ sizeLine ∧ R ys H) ∨
      ((Itl K a).go i H ∧ ys.length ≤ sizeLine ∧ ∀ x H', (Itl K a).yld i H x H' → g x σ H' fun σ2 H2 => tYes σ2 H2 fun b H3 =>
        if b = true then te σ2 H3 fun y H4 => ∃ m', m' < m ∧ W (i + 1) m' (ys ++ [y]) H4 else ∃ m', m' < m ∧ W (i + 1) m' ys H3) := lc_list (tc := tYes) Pv h0 hl hd hs
end
theorem take_snoc {α : Type} (l : List α) (i : Nat) (x : α) (h : l[i]? = some x) : l.take (i + 1) = l.take i ++ [x] := by
  rw [List.take_add_one, h]
  rfl
end L2

namespace L2
open PySem PySem.Calls PySem.Spec PyProof.Rows
def RawD (h : Heap) (d : Addr) (es : Array DictEntry) (ep : Nat) : Prop := ∃ o, h.get? d = some o ∧ o.ExactDict ∧ o.data = .dict es ep
section
variable {prog : Program} {w : World} {A : Around} {E : Value → Shared → Prop} {s : Shared} {d it : Addr} {es : Array DictEntry} {ep i : Nat}
theorem RawD.ty (h : RawD s.heap d es ep) : s.TypeIs (.ref d) "dict" := let ⟨o, a, b, _⟩ := h; ⟨o, a, b.1⟩
theorem raw_iter {Q : Value → Shared → Prop} (hd : (d == sysModules) = false) (hm : RawD s.heap d es ep)
    (q : Q (.ref s.heap.objs.size) { s with heap := s.heap.push { cls := .type "dict_keyiterator", data := .fields #[.ref d, .int 0 0, .int es.size 0, .int ep 0] } }) :
    wpAny (model prog w) A (pyIter (.ref d)) Q E s := by
  have hT := hm.ty
  obtain ⟨o, h1, h2, h3⟩ := id hm
  refine wpAny_pyIter_slot hT F.slot_dict_iter (wpAny_call_entry F.slot_dict_iter hT F.entry_dict_iter ?_ (F.args_dict_iter_1 _))
  unfold Builtin.«dict.__iter__»
  refine wpAny_bind ?_
  unfold Builtin.Dict.dictSlotNone
  refine wpAny_bind (wpAny_notOrdered_dict hT ?_)
  show wpAny (model prog w) _ (pure (Value.ref d)) _ _ s
  refine wpAny_pure ?_
  show wpAny (model prog w) _ (Builtin.Dict.showsAll d >>= _) _ _ s
  unfold Builtin.Dict.showsAll
  rw [if_neg (by rw [hd]; exact Bool.false_ne_true)]
  refine wpAny_bind (wpAny_pure ?_)
  refine wpAny_bind (wpAny_dictEntries h1 h3 ?_)
  refine wpAny_bind (wpAny_dictEpoch h1 h3 ?_)
  exact wpAny_bind (wpAny_newObj_type (wpAny_pure ⟨_, rfl, "dict_keyiterator", _, ⟨_, Heap.get?_push_size _ rfl, rfl⟩, F.slot_dict_keyiterator_next.lookup, q⟩))
theorem raw_next {Q : Option Value → Shared → Prop} (hi : s.heap.IsKeyIter it d i es.size ep) (hm : RawD s.heap d es ep) (hx : i < es.size)
    (q : ∀ h', h'.IsKeyIter it d (i + 1) es.size ep → Heap.SameBut it s.heap h' → Q (some es[i].key) { s with heap := h' }) : wpAny (model prog w) A (pyNext (.ref it)) Q E s := by
  obtain ⟨o, a1, a2, a3⟩ := id hi
  obtain ⟨od, b1, b2, b3⟩ := id hm
  unfold pyNext
  refine wpAny_bind (wpAny_attempt (wpAny_callSpecial?_slot (name := Str.ofString "__next__") hi.typeIs F.slot_dict_keyiterator_next
    (wpAny_call_entry F.slot_dict_keyiterator_next hi.typeIs F.entry_dict_keyiterator_next ?_ (F.args_dict_keyiterator_next_1 _))))
  refine wpAny_bind (wpAny_pure ?_)
  refine wpAny_bind ?_
  refine wpAny_bind ?_
  first | refine wpAny_bind (wpAny_typeNameOfWhole_keyiter hi.typeIs (wpAny_pure ?_)) | refine wpAny_bind (wpAny_typeNameOf_keyiter hi.typeIs (wpAny_pure ?_))
  refine wpAny_bind (wpAny_fieldsOf a1 a3 ?_)
  have own : Builtin.Dict_items.ownsTuple "dict_keyiterator" = false := by decide
  simp only [own, Bool.false_eq_true, if_false]
  show wpAny (model prog w) _ (if (Value.ref d == Value.none) = true then _ else _) _ _ s
  rw [if_neg (show ¬ (Value.ref d == Value.none) = true from Bool.false_ne_true)]
  refine wpAny_bind (wpAny_pure ?_)
  refine wpAny_bind (wpAny_dictEntries b1 b3 ?_)
  rw [if_neg (by simp)]
  refine wpAny_bind (wpAny_pure ?_)
  refine wpAny_bind (wpAny_dictEpoch b1 b3 ?_)
  rw [if_neg (by simp)]
  refine wpAny_pure ?_
  simp only [show ¬ ((i : Int) < 0) from by omega, if_false, Int.toNat_natCast, Array.getElem?_eq_getElem hx]
  refine wpAny_bind ?_
  first | refine wpAny_bind (wpAny_typeNameOfWhole_keyiter hi.typeIs (wpAny_pure ?_)) | refine wpAny_bind (wpAny_typeNameOf_keyiter hi.typeIs (wpAny_pure ?_))
  refine wpAny_bind (wpAny_isOneOf_keyiter hi.typeIs ?_)
  show wpAny (model prog w) _ (setField (.ref it) 1 (rawInt ((i : Int) + 1)) >>= _) _ _ s
  refine wpAny_bind (wpAny_setField a1 a3 (by simp) ?_)
  have nxt : (s.heap.update it (Obj.mapFields (·.setIfInBounds 1 (rawInt ((i : Int) + 1))))).IsKeyIter it d (i + 1) es.size ep :=
    ⟨_, Heap.get?_update_self _ a1 (Obj.isFreed_of_fields (Obj.data_mapFields a3 _)), (Obj.cls_mapFields ..).trans a2, by rw [Obj.data_mapFields a3]; simp [rawInt]⟩
  refine wpAny_bind (wpAny_holding ?_)
  refine wpAny_bind (wpAny_isOneOf_keyiter (s := { s with heap := s.heap.update it (Obj.mapFields (·.setIfInBounds 1 (rawInt ((i : Int) + 1)))) }) nxt.typeIs ?_)
  show wpAny (model prog w) _ (pure es[i].key) _ _ _
  exact wpAny_pure (wpAny_pure ⟨_, rfl, wpAny_pure (q _ nxt (Heap.SameBut.update ..))⟩)
theorem raw_end {Q : Option Value → Shared → Prop} (hh : A.handled = none) (hi : s.heap.IsKeyIter it d es.size es.size ep) (hm : RawD s.heap d es ep)
    (q : ∀ h', Heap.ExtBut it s.heap h' → Q none { s with heap := h' }) : wpAny (model prog w) A (pyNext (.ref it)) Q E s := by
  obtain ⟨o, a1, a2, a3⟩ := id hi
  obtain ⟨od, b1, b2, b3⟩ := id hm
  unfold pyNext
  refine wpAny_bind (wpAny_attempt (wpAny_callSpecial?_slot (name := Str.ofString "__next__") hi.typeIs F.slot_dict_keyiterator_next
    (wpAny_call_entry F.slot_dict_keyiterator_next hi.typeIs F.entry_dict_keyiterator_next ?_ (F.args_dict_keyiterator_next_1 _))))
  refine wpAny_bind (wpAny_pure ?_)
  refine wpAny_bind ?_
  refine wpAny_bind ?_
  first | refine wpAny_bind (wpAny_typeNameOfWhole_keyiter hi.typeIs (wpAny_pure ?_)) | refine wpAny_bind (wpAny_typeNameOf_keyiter hi.typeIs (wpAny_pure ?_))
  refine wpAny_bind (wpAny_fieldsOf a1 a3 ?_)
  have own : Builtin.Dict_items.ownsTuple "dict_keyiterator" = false := by decide
  simp only [own, Bool.false_eq_true, if_false]
  show wpAny (model prog w) _ (if (Value.ref d == Value.none) = true then _ else _) _ _ s
  rw [if_neg (show ¬ (Value.ref d == Value.none) = true from Bool.false_ne_true)]
  refine wpAny_bind (wpAny_pure ?_)
  refine wpAny_bind (wpAny_dictEntries b1 b3 ?_)
  rw [if_neg (by simp)]
  refine wpAny_bind (wpAny_pure ?_)
  refine wpAny_bind (wpAny_dictEpoch b1 b3 ?_)
  rw [if_neg (by simp)]
  refine wpAny_pure ?_
  simp only [show ¬ ((es.size : Int) < 0) from by omega, if_false, Int.toNat_natCast, Array.getElem?_eq_none (Nat.le_refl es.size)]
  refine wpAny_bind ?_
  first | refine wpAny_bind (wpAny_typeNameOfWhole_keyiter hi.typeIs (wpAny_pure ?_)) | refine wpAny_bind (wpAny_typeNameOf_keyiter hi.typeIs (wpAny_pure ?_))
  show wpAny (model prog w) _ (setField (.ref it) 0 .none >>= _) _ _ s
  refine wpAny_bind (wpAny_setField a1 a3 (by simp) ?_)
  show wpAny (model prog w) _ (newExc (.type "StopIteration") [] >>= _) _ _ _
  refine wpAny_bind ?_
  simp only [newExc, newTuple]
  refine wpAny_bind (wpAny_newObj_type ?_ (by size_fits))
  refine wpAny_bind (m := firstArgMember _ _) (wpAny_of_eq (a := Value.none) (by first | rfl | (simp only [firstArgMember]; rfl)) ?_)
  refine wpAny_newObj_type ?_ (by size_fits)
  simp only [raiseNew]
  refine wpAny_bind (wpAny_handled ?_)
  rw [show A.in1.handled = none from hh]
  refine wpAny_bind (wpAny_pure (wpAny_throw ?_))
  refine wpAny_bind (wpAny_isInstance (T := "StopIteration") (b := true) ⟨_, Heap.get?_push_size _ rfl, rfl⟩ isSubtype_stop ?_)
  exact wpAny_pure (q _ (((Heap.SameBut.update ..).extBut.push _).push _))
theorem raw_walks (hh : A.handled = none) (it d : Addr) (hne : d ≠ it) (es : Array DictEntry) (ep : Nat) :
    Walks prog w A it [it, d] [it] es.size (fun i v => ∃ e, es[i]? = some e ∧ v = e.key) (fun i h => h.IsKeyIter it d i es.size ep ∧ RawD h d es ep) where
  sub := fun b hb => by simp at hb; simp [hb]
  frame := fun _ _ _ st hk => ⟨st.1.at fun o e => hk it (by simp) o e, let ⟨o, a, r⟩ := st.2; ⟨o, hk d (by simp) o a, r⟩⟩
  item := fun i s Q E hi st hQ => by
    refine raw_next st.1 st.2 hi fun h' a b => ?_
    exact hQ _ h' s.toks ⟨es[i], by simp [hi], rfl⟩ ⟨a, let ⟨o, x, r⟩ := st.2; ⟨o, b.extBut d o hne x, r⟩⟩ fun c o hc e => b.extBut c o (fun z => hc (by simp [z])) e
  done := fun s Q E st hQ => raw_end hh st.1 st.2 fun h' x => hQ h' s.toks fun b o hb e => x b o (fun z => hb (by simp [z])) e
  self := fun _ _ _ _ st hQ => wpAny_pyIter_keyiter st.1 hQ
theorem raw_src (hd : (d == sysModules) = false) (es : Array DictEntry) (ep : Nat) : PySem.W.KdlSrc prog w "dict" d d es.size (fun i v => ∃ e, es[i]? = some e ∧ v = e.key) (fun h => RawD h d es ep) where
  type := fun _ hm => hm.ty
  there := fun _ hm => let ⟨_, a, _⟩ := hm; ⟨Heap.lt_size a, Heap.lt_size a⟩
  keep := fun _ _ hm hk => let ⟨o, a, r⟩ := hm; ⟨o, hk d (.inl rfl) o a, r⟩
  notList := by decide
  notTuple := by decide
  hint := fun _ _ _ _ hm hq => PySem.W.kdl_hint_dict hm.ty hq
  iter := fun _ _ hh hm => ⟨_, _, (fun _ _ hq => raw_iter hd hm hq), raw_walks hh _ d (let ⟨_, a, _⟩ := hm; Nat.ne_of_lt (Heap.lt_size a)) es ep, ⟨⟨_, Heap.get?_push_size _ rfl, rfl, rfl⟩, let ⟨o, a, r⟩ := hm; ⟨o, Heap.get?_push_of_some _ a, r⟩⟩⟩
end
end L2

namespace Tim
open PySem PyProof.Rows
structure Ok (κ : SortKind) (a0 : Array Keyed) (st : SortSt) : Prop where
  kind : kindOf st = κ
  fail : failedOf st = none
  perm : (arrOf st).Perm a0
def gallop' : Bool → Keyed → Array Keyed → Nat → Nat → Nat → StateT SortSt Sem (Option Nat) := sortPriv% PySem.Builtin.gallop
def mergeLo' : Array Keyed → Array Keyed → StateT SortSt Sem (Array Keyed) := sortPriv% PySem.Builtin.mergeLo
def mergeHi' : Array Keyed → Array Keyed → StateT SortSt Sem (Array Keyed) := sortPriv% PySem.Builtin.mergeHi
section
variable {prog : Program} {w : World} {A : Around} {E : Value → Shared → Prop} {s : Shared} {κ : SortKind} {a0 : Array Keyed}
theorem elem_ok {arr : Array Keyed} {i : Nat} {st : SortSt} {Q : Keyed → SortSt → Prop} (h : i < arr.size) (q : Q arr[i] st) : wpS (model prog w) A E s (elem' arr i) Q st := by
  rw [elem'_eq, Array.getElem?_eq_getElem h]
  exact wpS_pure q
def In (a0 arr : Array Keyed) : Prop := ∀ x ∈ arr, x ∈ a0
def PL (a b out : Array Keyed) (ia ib : Nat) : Prop := (out.toList ++ (a.toList.drop ia ++ b.toList.drop ib)).Perm (a.toList ++ b.toList)
theorem drop_ex (a : Array Keyed) (i k : Nat) (h : i ≤ k) : a.toList.drop i = (a.extract i k).toList ++ a.toList.drop k := by
  rw [Array.toList_extract, List.extract_eq_take_drop]
  have e : a.toList.drop k = (a.toList.drop i).drop (k - i) := by
    rw [List.drop_drop]
    congr 1
    omega
  rw [e, List.take_append_drop]
theorem ext_all (a : Array Keyed) (i : Nat) : (a.extract i a.size).toList = a.toList.drop i := by
  rw [Array.toList_extract, List.extract_eq_take_drop]
  exact List.take_of_length_le (by simp)
section
variable {a b out : Array Keyed} {ia ib : Nat}
theorem PL.takeA (h : PL a b out ia ib) (k : Nat) : PL a b (out ++ a.extract ia (ia + k)) (ia + k) ib := by
  unfold PL at h ⊢
  rw [drop_ex a ia (ia + k) (by omega)] at h
  simpa using h
theorem PL.takeB (h : PL a b out ia ib) (k : Nat) : PL a b (out ++ b.extract ib (ib + k)) ia (ib + k) := by
  unfold PL at h ⊢
  rw [drop_ex b ib (ib + k) (by omega)] at h
  refine List.Perm.trans ?_ h
  simp only [Array.toList_append, List.append_assoc]
  refine List.Perm.append_left _ ?_
  rw [← List.append_assoc, ← List.append_assoc]
  exact List.Perm.append_right _ List.perm_append_comm
theorem PL.pushA (h : PL a b out ia ib) (hi : ia < a.size) : PL a b (out.push a[ia]) (ia + 1) ib := by
  unfold PL at h ⊢
  rw [List.drop_eq_getElem_cons (by simpa using hi)] at h
  simpa using h
theorem PL.pushB (h : PL a b out ia ib) (hi : ib < b.size) : PL a b (out.push b[ib]) ia (ib + 1) := by
  unfold PL at h ⊢
  rw [List.drop_eq_getElem_cons (l := b.toList) (by simpa using hi)] at h
  refine List.Perm.trans ?_ h
  simp only [Array.toList_push, List.append_assoc, List.singleton_append]
  refine List.Perm.append_left _ ?_
  simpa using List.perm_middle.symm
theorem PL.done (h : PL a b out ia ib) : (out ++ a.extract ia a.size ++ b.extract ib b.size).Perm (a ++ b) := by
  unfold PL at h
  rw [Array.perm_iff_toList_perm]
  simp only [Array.toList_append, ext_all, List.append_assoc]
  exact h
theorem PL.last (h : PL a b out ia ib) : (out ++ b.extract ib b.size ++ a.extract ia a.size).Perm (a ++ b) := by
  unfold PL at h
  rw [Array.perm_iff_toList_perm]
  simp only [Array.toList_append, ext_all, List.append_assoc]
  exact (List.Perm.append_left _ List.perm_append_comm).trans h
end
structure SI (κ : SortKind) (a0 : Array Keyed) (st st' : SortSt) : Prop where
  ok : Ok κ a0 st'
  pend : pendingOf st' = pendingOf st
  arr : arrOf st' = arrOf st
def PH (a b out : Array Keyed) (na nb : Nat) : Prop := ((a.toList.take na ++ b.toList.take nb) ++ out.toList.reverse).Perm (a.toList ++ b.toList)
theorem take_ex (a : Array Keyed) (i k : Nat) (h : i ≤ k) : a.toList.take k = a.toList.take i ++ (a.extract i k).toList := by
  rw [Array.toList_extract, List.extract_eq_take_drop]
  have e : k = i + (k - i) := by omega
  conv => lhs; rw [e, List.take_add]
theorem take_last (a : Array Keyed) (n : Nat) (h0 : 0 < n) (h : n - 1 < a.size) : a.toList.take n = a.toList.take (n - 1) ++ [a[n - 1]] := by
  have e : n = (n - 1) + 1 := by omega
  conv => lhs; rw [e, List.take_add_one]
  rw [Array.getElem?_toList, Array.getElem?_eq_getElem h]
  rfl
theorem ext_zero (a : Array Keyed) (n : Nat) : (a.extract 0 n).toList = a.toList.take n := by
  rw [Array.toList_extract, List.extract_eq_take_drop]
  simp
section
variable {a b out : Array Keyed} {na nb : Nat}
theorem PH.downA (h : PH a b out na nb) (h0 : 0 < na) (hi : na - 1 < a.size) : PH a b (out.push a[na - 1]) (na - 1) nb := by
  unfold PH at h ⊢
  rw [take_last a na h0 hi] at h
  refine List.Perm.trans ?_ h
  simp only [Array.toList_push, List.reverse_append, List.reverse_singleton, List.append_assoc, List.singleton_append]
  exact List.Perm.append_left _ List.perm_middle
theorem PH.downB (h : PH a b out na nb) (h0 : 0 < nb) (hi : nb - 1 < b.size) : PH a b (out.push b[nb - 1]) na (nb - 1) := by
  unfold PH at h ⊢
  rw [take_last b nb h0 hi] at h
  simpa using h
theorem PH.takeA (h : PH a b out na nb) {k : Nat} (hk : k ≤ na) : PH a b (out ++ (a.extract k na).reverse) k nb := by
  unfold PH at h ⊢
  rw [take_ex a k na hk] at h
  refine List.Perm.trans ?_ h
  simp only [Array.toList_append, Array.toList_reverse, List.reverse_append, List.reverse_reverse, List.append_assoc]
  refine List.Perm.append_left _ ?_
  rw [← List.append_assoc, ← List.append_assoc]
  exact List.Perm.append_right _ List.perm_append_comm
theorem PH.takeB (h : PH a b out na nb) {k : Nat} (hk : k ≤ nb) : PH a b (out ++ (b.extract k nb).reverse) na k := by
  unfold PH at h ⊢
  rw [take_ex b k nb hk] at h
  simpa using h
theorem PH.done (h : PH a b out na nb) : (a.extract 0 na ++ b.extract 0 nb ++ out.reverse).Perm (a ++ b) := by
  unfold PH at h
  rw [Array.perm_iff_toList_perm]
  simp only [Array.toList_append, ext_zero, Array.toList_reverse]
  exact h
theorem PH.first (h : PH a b out na nb) : (b.extract 0 nb ++ a.extract 0 na ++ out.reverse).Perm (a ++ b) := by
  unfold PH at h
  rw [Array.perm_iff_toList_perm]
  simp only [Array.toList_append, ext_zero, Array.toList_reverse]
  exact (List.Perm.append_right _ List.perm_append_comm).trans h
end
theorem wpS_set {M : Model} {σ : Type} {x : σ} {Q : PUnit → σ → Prop} {st : σ} (h : Q ⟨⟩ x) : wpS M A E s (set x : StateT σ Sem PUnit) Q st := by
  unfold wpS
  rw [StateT.run_set]
  exact wpAny_pure ⟨rfl, h⟩
def Chain : List (Nat × Nat × Nat) → Nat → Nat → Prop
  | [], b, e => b = e
  | r :: rest, b, e => r.1 = b ∧ 1 ≤ r.2.1 ∧ Chain rest (b + r.2.1) e
theorem Chain.le : ∀ {l : List (Nat × Nat × Nat)} {b e : Nat}, Chain l b e → b ≤ e
  | [], _, _, h => Nat.le_of_eq h
  | _ :: _, _, _, h => Nat.le_trans (Nat.le_add_right _ _) h.2.2.le
theorem Chain.merge : ∀ {l : List (Nat × Nat × Nat)} {b e i : Nat} {x y : Nat × Nat × Nat}, Chain l b e → l[i]? = some x → l[i + 1]? = some y →
    y.1 = x.1 + x.2.1 ∧ 1 ≤ x.2.1 ∧ 1 ≤ y.2.1 ∧ y.1 + y.2.1 ≤ e ∧ Chain ((l.set i (x.1, x.2.1 + y.2.1, x.2.2)).eraseIdx (i + 1)) b e
  | [], _, _, _, _, _, _, h, _ => by simp at h
  | r :: rest, b, e, 0, x, y, h, h1, h2 => by
    obtain rfl : r = x := by simpa using h1
    cases rest with
    | nil => simp at h2
    | cons r2 rest =>
      obtain rfl : r2 = y := by simpa using h2
      have e1 : r.1 = b := h.1
      have n1 : 1 ≤ r.2.1 := h.2.1
      have e2 : r2.1 = b + r.2.1 := h.2.2.1
      have n2 : 1 ≤ r2.2.1 := h.2.2.2.1
      have c : Chain rest (b + r.2.1 + r2.2.1) e := h.2.2.2.2
      have := c.le
      refine ⟨by omega, n1, n2, by omega, ?_⟩
      show Chain ((r.1, r.2.1 + r2.2.1, r.2.2) :: rest) b e
      refine ⟨e1, Nat.le_trans n1 (Nat.le_add_right _ _), ?_⟩
      show Chain rest (b + (r.2.1 + r2.2.1)) e
      rw [← Nat.add_assoc]
      exact c
  | r :: rest, b, e, i + 1, x, y, h, h1, h2 => by
    obtain ⟨e1, n1, c⟩ := h
    obtain ⟨g1, g2, g3, g4, g5⟩ := Chain.merge (i := i) c (by simpa using h1) (by simpa using h2)
    refine ⟨g1, g2, g3, g4, ?_⟩
    show Chain (r :: (rest.set i _).eraseIdx (i + 1)) b e
    exact ⟨e1, n1, g5⟩
theorem Chain.snoc : ∀ {l : List (Nat × Nat × Nat)} {b e n p : Nat}, Chain l b e → 1 ≤ n → Chain (l ++ [(e, n, p)]) b (e + n)
  | [], _, _, _, _, h, hn => ⟨h.symm, hn, by show _ + _ = _; rw [h]⟩
  | _ :: _, _, _, _, _, h, hn => ⟨h.1, h.2.1, h.2.2.snoc hn⟩
theorem Chain.mod : ∀ {l : List (Nat × Nat × Nat)} {b e : Nat} (i pw : Nat), Chain l b e → Chain (l.modify i fun x => (x.1, x.2.1, pw)) b e
  | [], _, _, i, _, h => by cases i <;> exact h
  | _ :: _, _, _, 0, _, h => h
  | _ :: _, _, _, i + 1, pw, h => ⟨h.1, h.2.1, h.2.2.mod i pw⟩
theorem put_all (sa : Nat) : ∀ (l : List Keyed) (arr : Array Keyed) (j : Nat), sa + j + l.length ≤ arr.size →
    ((l.zipIdx j).foldl (fun a (x : Keyed × Nat) => a.setIfInBounds (sa + x.2) x.1) arr).toList = arr.toList.take (sa + j) ++ (l ++ arr.toList.drop (sa + j + l.length))
  | [], arr, j, h => by simp
  | x :: r, arr, j, h => by
    rw [List.length_cons] at h
    rw [List.zipIdx_cons, List.foldl_cons, put_all sa r _ (j + 1) (by rw [Array.size_setIfInBounds]; omega)]
    have hl : sa + j < arr.toList.length := by rw [Array.length_toList]; omega
    rw [Array.toList_setIfInBounds, List.length_cons]
    have e1 : sa + (j + 1) = sa + j + 1 := by omega
    rw [e1, List.take_set, List.drop_set_of_lt (by omega), List.take_add_one, List.getElem?_eq_getElem hl]
    have e2 : sa + j + 1 + r.length = sa + j + (r.length + 1) := by omega
    rw [e2]
    have hlen : (arr.toList.take (sa + j)).length = sa + j := by rw [List.length_take]; omega
    rw [List.set_append_right _ _ (by rw [hlen]; exact Nat.le_refl _), hlen]
    simp
theorem ite_lt {c : Prop} [Decidable c] {x y n : Nat} (h1 : x + 1 < n) (h2 : y + 1 < n) : (if c then x else y) + 1 < n := by
  split
  · exact h1
  · exact h2
end
end Tim

namespace L2
open PySem PySem.Calls PySem.Spec PyProof.Rows
section
variable {prog : Program} {w : World} {A : Around} {E : Value → Shared → Prop} {s : Shared}
theorem sort_list {a : Addr} {vs : List Value} {n : Nat} {P : PySem.Fin → Shared → Prop} {Out : List Value → Prop} (ho : s.heap.get? a = some (seqObj "list" vs.toArray n)) (hz : vs.length ≤ 1000000)
    (h1 : vs.length < 2 → Out vs) (hlen : ∀ o, Out o → o.length = vs.length)
    (hrun : 2 ≤ vs.length → ∀ t : Shared, (∀ b o, b ≠ a → s.heap.get? b = some o → t.heap.get? b = some o) → wpAny (model prog w) A (keyKind' vs.toArray) (fun κ t' => t' = t ∧
      wpAny (model prog w) A ((sortRuns').run (SortSt.mk' κ (vs.toArray.zip vs.toArray) #[] 7 none)) (fun r t2 => t2 = t ∧ failedOf r.2 = none ∧ Out ((arrOf r.2).map (·.2)).toList) (fun _ _ => False) t) (fun _ _ => False) t)
    (q : ∀ out : Array Value, Out out.toList → P (.done (.ret .none)) { s with heap := sortedHeap s.heap a vs out }) : wpAny (model prog w) A (Builtin.«list.sort» ⟨[.ref a], []⟩) P E s := by
  have sl : (1000000 : Nat) < sizeLine := by decide
  have hza : vs.toArray.size ≤ sizeLine := by rw [List.size_toArray]; omega
  have lta : a < s.heap.objs.size := Heap.lt_size ho
  rw [list_sort_plain]
  refine wpAny_bind (listItems_at ho rfl ?_)
  refine wpAny_bind (listUpdate_at ho rfl ?_ hza (Nat.zero_le _))
  obtain ⟨e1, ho1⟩ : ∃ e1, (s.heap.update a (Obj.mapSeq fun _ => (#[] : Array Value))).get? a = some (seqObj "list" #[] e1) := ⟨_, get?_update_seq ho fun _ => #[]⟩
  refine wpAny_bind (seqEpoch_at ho1 rfl ?_)
  refine wpAny_bind (wpAny_newTuple ?_ (by show vs.length ≤ sizeLine; omega))
  refine wpAny_bind (wpAny_newList ?_ (Nat.zero_le _))
  refine wpAny_holding ?_
  show wpAny (model prog w) A _ P E { s with heap := ((s.heap.update a (Obj.mapSeq fun _ => (#[] : Array Value))).push (seqObj "tuple" vs.toArray 0)).push (seqObj "list" #[] 0) }
  have ho6 : (((s.heap.update a (Obj.mapSeq fun _ => (#[] : Array Value))).push (seqObj "tuple" vs.toArray 0)).push (seqObj "list" #[] 0)).get? a = some (seqObj "list" #[] e1) := Heap.get?_push_of_some _ (Heap.get?_push_of_some _ ho1)
  have kp : ∀ b o, b ≠ a → s.heap.get? b = some o → (((s.heap.update a (Obj.mapSeq fun _ => (#[] : Array Value))).push (seqObj "tuple" vs.toArray 0)).push (seqObj "list" #[] 0)).get? b = some o := fun b o hb e =>
    Heap.get?_push_of_some _ (Heap.get?_push_of_some _ ((Heap.SameBut.update s.heap a (Obj.mapSeq fun _ => (#[] : Array Value))).extBut b o hb e))
  dsimp only
  by_cases h2 : vs.toArray.size < 2
  · rw [if_pos h2, if_pos h2]
    refine wpAny_bind (wpAny_pure ?_)
    rw [StateT.run_pure]
    refine wpAny_bind (wpAny_pure ?_)
    dsimp only
    have eo : Array.map (·.2) (vs.toArray.zip vs.toArray) = vs.toArray := by
      apply Array.toList_inj.mp
      simp [List.map_snd_zip]
    have h2' : vs.length < 2 := by rw [List.size_toArray] at h2; exact h2
    refine wpAny_bind (seqEpoch_at ho6 rfl ?_)
    refine wpAny_bind (listUpdate_at ho6 rfl ?_ (Nat.zero_le _) (by show (Array.map (·.2) (vs.toArray.zip vs.toArray)).size ≤ sizeLine + 1; rw [eo]; omega))
    simp only [bne_self_eq_false, Bool.false_eq_true, if_false]
    refine wpAny_pure ?_
    show P _ { s with heap := sortedHeap s.heap a vs (Array.map (·.2) (vs.toArray.zip vs.toArray)) }
    exact q _ (by rw [eo]; exact h1 h2')
  · rw [if_neg h2, if_neg h2]
    have h2' : 2 ≤ vs.length := by rw [List.size_toArray] at h2; omega
    refine wpAny_bind (wpAny_mono (hrun h2' { s with heap := ((s.heap.update a (Obj.mapSeq fun _ => (#[] : Array Value))).push (seqObj "tuple" vs.toArray 0)).push (seqObj "list" #[] 0) } kp) (fun κ t' hk => ?_) fun _ _ z => z.elim)
    obtain ⟨rfl, hk⟩ := hk
    refine wpAny_bind (wpAny_mono hk (fun r t2 hr => ?_) fun _ _ z => z.elim)
    obtain ⟨⟨⟩, st⟩ := r
    obtain ⟨rfl, hf, hout⟩ := hr
    dsimp only
    have ol : ((arrOf st).map (·.2)).size = vs.length := by
      have := hlen _ hout
      rw [Array.length_toList] at this
      exact this
    refine wpAny_bind (seqEpoch_at ho6 rfl ?_)
    refine wpAny_bind (listUpdate_at ho6 rfl ?_ (Nat.zero_le _) (by show ((arrOf st).map (·.2)).size ≤ sizeLine + 1; rw [ol]; omega))
    have hf : failedOf st = none := hf
    rw [hf]
    simp only [bne_self_eq_false, Bool.false_eq_true, if_false]
    exact wpAny_pure (q _ hout)
theorem sorted_src {T : String} {r d : Addr} {n : Nat} {Pi : Nat → Value → Prop} {OK : Heap → Prop} {Q : Value → Shared → Prop} {Out : List Value → List Value → Prop} (K : PySem.W.KdlSrc prog w T r d n Pi OK) (hh : A.handled = none) (hok : OK s.heap) (hn : n ≤ 1000000)
    (h1 : ∀ vs : List Value, vs.length < 2 → Out vs vs) (hlen : ∀ vs o : List Value, Out vs o → o.length = vs.length)
    (hrun : ∀ (B : Around) (vs : List Value), vs.length = n → (∀ (j : Nat) (v : Value), vs[j]? = some v → Pi j v) → 2 ≤ n → ∀ t : Shared, (∀ b o, s.heap.get? b = some o → t.heap.get? b = some o) → wpAny (model prog w) B (keyKind' vs.toArray) (fun κ t' => t' = t ∧
      wpAny (model prog w) B ((sortRuns').run (SortSt.mk' κ (vs.toArray.zip vs.toArray) #[] 7 none)) (fun r t2 => t2 = t ∧ failedOf r.2 = none ∧ Out vs ((arrOf r.2).map (·.2)).toList) (fun _ _ => False) t) (fun _ _ => False) t)
    (q : ∀ (D : Addr) (h' : Heap) (tk : Nat) (vs : List Value) (out : Array Value) (c : Nat), (∀ b o, s.heap.get? b = some o → b < D) → (∀ b o, s.heap.get? b = some o → h'.get? b = some o) → vs.length = n → (∀ (j : Nat) (v : Value), vs[j]? = some v → Pi j v) → Out vs out.toList →
      h'.get? D = some (seqObj "list" out c) → Q (.ref D) { s with heap := h', toks := tk }) :
    wpAny (model prog w) A (call (.builtin "sorted") [.ref r]) Q E s := by
  have sl : (1000000 : Nat) < sizeLine := by decide
  refine call_function_entry kind_sorted plain_sorted entry_sorted (args_sorted1 _) ?_
  unfold Builtin.«sorted»
  refine wpAny_bind (m := checkCount "sorted" 1 1 _) (wpAny_pure ?_)
  refine wpAny_bind (PySem.W.kdu_collect (A := A.in1) K hh hok (by omega) fun h' tk acc hk hacc => ?_)
  have la : acc.toList.length = n := by rw [Array.length_toList]; exact hacc.1
  have pa : ∀ (j : Nat) (v : Value), acc.toList[j]? = some v → Pi j v := fun j v e => hacc.2 j v (by rw [← Array.getElem?_toList]; exact e)
  refine wpAny_bind (wpAny_newList ?_ (by rw [la]; omega))
  have hoL : (h'.push (seqObj "list" acc.toList.toArray 0)).get? h'.objs.size = some (seqObj "list" acc.toList.toArray 0) := Heap.get?_push_size _ rfl
  show wpAny (model prog w) _ _ _ _ { s with heap := h'.push (seqObj "list" acc.toList.toArray 0), toks := tk }
  refine wpAny_bind (wpAny_holding (wpAny_call_entry slot_list_sort ⟨_, hoL, rfl⟩ entry_list_sort (sort_list (Out := Out acc.toList) hoL (by rw [la]; exact hn) (h1 _) (hlen _) (fun h2 t kp => hrun _ acc.toList la pa (by omega) t fun b o e => kp b o ?_ (Heap.get?_push_of_some _ (hk b o e))) fun out ho => ⟨_, rfl, ?_⟩) (args_list_sort _)))
  · exact Nat.ne_of_lt (Heap.lt_size (hk b o e))
  · refine wpAny_pure ⟨_, rfl, ?_⟩
    obtain ⟨c, hc⟩ := sortedHeap_at (vs := acc.toList) (out := out) hoL
    refine q h'.objs.size _ tk acc.toList out c (fun b o e => Heap.lt_size (hk b o e)) (fun b o e => ?_) la pa ho hc
    · rw [sortedHeap_old (Nat.ne_of_lt (Heap.lt_size (hk b o e))) (by rw [size_push']; exact Nat.lt_succ_of_lt (Heap.lt_size (hk b o e)))]
      exact Heap.get?_push_of_some _ (hk b o e)
end
def IsPr (h : Heap) (v : Value) (q : Int × Int) : Prop := ∃ a o t u n, v = .ref a ∧ h.get? a = some o ∧ o.cls = .type "tuple" ∧ o.data = .seq #[.int q.1 t, .int q.2 u] n
section
variable {prog : Program} {w : World} {A : Around} {E : Value → Shared → Prop} {s : Shared}
theorem pr_tups : ∀ {vs : List Value} {ps : List (Int × Int)}, Paired (IsPr s.heap) vs ps → ∃ fs, PySem.W.KatTups s.heap vs fs ∧ fs.length = vs.length ∧ ∀ v ∈ fs, ∃ i t, v = Value.int i t
  | _, _, .nil => ⟨[], PySem.W.KatTups.nil, rfl, fun v hv => by cases hv⟩
  | _, _, .cons h r => by
    obtain ⟨fs, k, l, z⟩ := pr_tups r
    obtain ⟨a, o, t, u, n, rfl, h1, h2, h3⟩ := h
    refine ⟨_, PySem.W.KatTups.cons h1 h2 h3 rfl k, by simp [l], fun v hv => ?_⟩
    rcases List.mem_cons.mp hv with rfl | hv
    · exact ⟨_, _, rfl⟩
    · exact z v hv
def Reord (vs o : List Value) : Prop := ∃ p : List Nat, p.Perm (List.range vs.length) ∧ o = p.map fun i => vs.getD i Value.none
theorem Reord.refl (vs : List Value) : Reord vs vs := ⟨List.range vs.length, .refl _, by
  apply List.ext_getElem
  · simp
  · intro i h1 h2
    simp [h1]⟩
theorem perm_map_back {α β : Type} {f : α → β} : ∀ {o v : List β}, o.Perm v → ∀ l : List α, v = l.map f → ∃ l' : List α, l'.Perm l ∧ o = l'.map f := by
  intro o v h
  induction h with
  | nil =>
    intro l e
    exact ⟨l, .refl _, e⟩
  | cons x _ ih =>
    intro l e
    cases l with
    | nil => cases e
    | cons y r =>
      rw [List.map_cons] at e
      obtain ⟨e1, e2⟩ := List.cons.inj e
      obtain ⟨l', p, q⟩ := ih r e2
      exact ⟨y :: l', .cons y p, by rw [List.map_cons, ← e1, ← q]⟩
  | swap x y t =>
    intro l e
    match l, e with
    | [], e => cases e
    | [_], e => cases (List.cons.inj e).2
    | a :: b :: r, e =>
      rw [List.map_cons, List.map_cons] at e
      obtain ⟨e1, e2⟩ := List.cons.inj e
      obtain ⟨e3, e4⟩ := List.cons.inj e2
      exact ⟨b :: a :: r, .swap a b r, by rw [List.map_cons, List.map_cons, ← e1, ← e3, ← e4]⟩
  | trans _ _ ih1 ih2 =>
    intro l e
    obtain ⟨l1, p1, e1⟩ := ih2 l e
    obtain ⟨l2, p2, e2⟩ := ih1 l1 e1
    exact ⟨l2, p2.trans p1, e2⟩
theorem Reord.of_perm {vs o : List Value} (h : o.Perm vs) : Reord vs o := by
  obtain ⟨_, _, e⟩ := Reord.refl vs
  obtain ⟨p, hp, eo⟩ := perm_map_back (f := fun i => vs.getD i Value.none) h (List.range vs.length) (by
    apply List.ext_getElem
    · simp
    · intro i h1 h2
      simp [h1])
  exact ⟨p, hp, eo⟩
end
theorem ObjOk.there {P : Program} {w : World} {H : Hp} {h : Heap} {a : Addr} {o : HO} (x : ObjOk P w H h a o) : ∃ ob, h.get? a = some ob := by
  cases o with
  | lst xs => obtain ⟨_, _, _, _, e⟩ := x; exact ⟨_, e⟩
  | tup xs => obtain ⟨_, _, _, ob, e, _⟩ := x; exact ⟨_, e⟩
  | dK kvs => obtain ⟨_, _, _, _, ob, _, _, e, _⟩ := x; exact ⟨_, e⟩
  | dT kvs => obtain ⟨_, _, _, _, ob, _, _, e, _⟩ := x; exact ⟨_, e⟩
  | set S n => obtain ⟨ob, _, _, _, e, _⟩ := x; exact ⟨_, e⟩
  | ins C dx fs => obtain ⟨_, _, _, e, _⟩ := x; exact ⟨_, e⟩
  | own y => exact x
  | xd fs => obtain ⟨_, ⟨_, _, _, e, _⟩, _⟩ := x; exact ⟨_, e⟩
  | rng lo hi => obtain ⟨_, _, _, e⟩ := x; exact ⟨_, e⟩
  | frz ob u => exact ⟨_, x.1⟩
  | tbl ps => exact ⟨_, x⟩
  | met f y => exact ⟨_, x⟩
  | ext φ => exact x.2.1
theorem Paired.of_get {α β : Type} {F : α → β → Prop} : ∀ {l : List α} {r : List β}, l.length = r.length → (∀ (j : Nat) (x : α) (y : β), l[j]? = some x → r[j]? = some y → F x y) → Paired F l r
  | [], [], _, _ => .nil
  | x :: l, y :: r, h, f => .cons (f 0 x y rfl rfl) (Paired.of_get (by simpa using h) fun j a b e1 e2 => f (j + 1) a b (by simpa using e1) (by simpa using e2))
  | [], _ :: _, h, _ => by cases h
  | _ :: _, [], h, _ => by cases h
theorem Paired.of_map {α β γ : Type} {F : α → β → Prop} {f : γ → α} {g : γ → β} : ∀ {l : List γ}, (∀ c ∈ l, F (f c) (g c)) → Paired F (l.map f) (l.map g)
  | [], _ => .nil
  | c :: r, h => .cons (h c List.mem_cons_self) (Paired.of_map fun d hd => h d (List.mem_cons_of_mem _ hd))
def prKey (q : Int × Int) : List Key := [Sum.inl q.1, Sum.inl q.2]
section
variable {X : Cx}
theorem Inv.newFp {pins : List (Addr × Obj)} {σ : St} {H : Hp} {s : Shared} (I : Inv X pins σ H s) {D : Addr} (hD : ∀ b o, s.heap.get? b = some o → b < D) : FpOk X pins H D := by
  obtain ⟨m, ⟨oL, _, _, eL, _⟩, _⟩ := id I.loc
  have hL := hD _ _ eL
  refine ⟨?_, Nat.ne_of_gt hL, fun z => ?_, .inr (Nat.le_of_lt (Nat.lt_of_le_of_lt I.ok.above hL)), fun x c e z => ?_, fun p hp z => ?_⟩
  · cases e : H D with
    | none => rfl
    | some u =>
      obtain ⟨ob, eo⟩ := (I.hok D u e).there
      exact absurd (hD _ _ eo) (Nat.lt_irrefl _)
  · obtain ⟨_, o, ho, _⟩ := I.ok.funs.mem z
    obtain ⟨o', ho'⟩ := I.base.there D o ho fun q => I.ok.exfs D q z
    exact absurd (hD _ _ ho') (Nat.lt_irrefl _)
  · obtain ⟨v, o, ho, _⟩ := I.cell x c e
    exact absurd (hD _ _ ho) (by rw [z]; exact Nat.lt_irrefl _)
  · exact absurd (hD _ _ (I.pin p hp).1) (by rw [z]; exact Nat.lt_irrefl _)
end
end L2

namespace L2
open PySem PySem.Calls PySem.Spec PyProof.Rows
section
variable {X : Cx}
theorem call_rng1 : CallR X (.type "range") (fun xs H Q => ∃ j : Int, xs = [.int j] ∧ ∀ p, H p = none → Q (.ref p) (upd H p (.rng 0 j))) := by
  intro pins s σ H xs us Q I r h
  obtain ⟨j, rfl, q⟩ := h
  obtain ⟨u, rfl, ru⟩ := vals1 r
  obtain ⟨t, rfl⟩ := ru
  refine call_range_1 ?_
  exact ⟨.ref s.heap.objs.size, _, I.laid (o := .rng 0 j) (fun b o e => Heap.get?_push_of_some _ e) (Nat.le_refl _) ⟨_, _, _, Heap.get?_push_size _ rfl⟩, rfl, q _ (I.hok.fresh (Nat.le_refl _))⟩
end
end L2

namespace L2
open PySem PySem.Spec PyProof.Rows PySem.AutoSeq1
section
variable {X : Cx} {es : List Expr} {kt : Nat} {tp : Pos}
theorem boot_enum : bootBuiltins "enumerate" = some (.type "enumerate") := by decide +kernel
end
section
variable {K : PySem.W.Frag} {g : TG} {tc : TT} {te : TE} {σ : St} {H : Hp} {R : List V → Hp → Prop}
end
end L2

namespace L2
open PySem PySem.Calls PySem.Spec PyProof.Rows
section
variable {X : Cx}
end
end L2

namespace L2
open PySem PySem.Calls PySem.Spec PyProof.Rows
section
variable {X : Cx}
theorem fm_congr {α β : Type} {f g : α → Option β} : ∀ {l : List α}, (∀ a ∈ l, f a = g a) → l.filterMap f = l.filterMap g
  | [], _ => rfl
  | a :: r, h => by
    rw [List.filterMap_cons, List.filterMap_cons, h a (by simp), fm_congr (l := r) fun b hb => h b (by simp [hb])]
theorem pick_rev (xs : List Value) : (List.range xs.length).filterMap (fun (k : Nat) => xs[(((xs.length : Nat) : Int) - 1 + (k : Int) * (-1)).toNat]?) = xs.reverse := by
  have e : ∀ k ∈ List.range xs.length, xs[(((xs.length : Nat) : Int) - 1 + (k : Int) * (-1)).toNat]? = some (xs.reverse.getD k .none) := by
    intro k hk
    have hk := List.mem_range.mp hk
    have e1 : (((xs.length : Nat) : Int) - 1 + (k : Int) * (-1)).toNat = xs.length - 1 - k := by omega
    rw [e1, List.getD_eq_getElem?_getD, List.getElem?_reverse hk, List.getElem?_eq_getElem (by omega)]
    rfl
  rw [fm_congr e]
  have e2 : (List.range xs.length).filterMap (fun k => some (xs.reverse.getD k .none)) = (List.range xs.length).map fun k => xs.reverse.getD k .none := by
    rw [← List.filterMap_eq_map]
    rfl
  rw [e2]
  apply List.ext_getElem
  · simp
  · intro i h1 h2
    rw [List.getElem_map, List.getElem_range, List.getD_eq_getElem?_getD, List.getElem?_eq_getElem h2]
    rfl
theorem Vals.rev {xs : List V} {us : List Value} (r : Vals xs us) : Vals xs.reverse us.reverse := by
  induction r with
  | nil => exact .nil
  | cons a _ ih =>
    rw [List.reverse_cons, List.reverse_cons]
    exact Paired.snoc ih a
end
end L2

namespace L2
open PySem PySem.Calls PySem.Spec PyProof.Rows
section
variable {prog : Program} {w : World} {A : Around} {E : Value → Shared → Prop} {s : Shared}
end
section
variable {X : Cx}
end
end L2

namespace L2
open PySem PySem.Calls PySem.Spec PyProof.Rows
section
variable {X : Cx}
end
end L2

namespace L2
open PySem PySem.Calls PySem.Spec PyProof.Rows PySem.W
abbrev excObj (C t : Addr) : Obj := { cls := .ref C, data := .fields #[.ref t, .none, .none, .none, .bool false, .none] }
abbrev argsTup (rest : List Value) : Obj := { cls := .type "tuple", data := .seq rest.toArray }
structure XCls (h : Heap) (C : Addr) (bm : List Value) : Prop where
  ex : ∃ nm q N bs hdct sn sub ab col dd k0 k1 k2 k3 k5, h.get? C = some (excClassObj nm q C N bs bm hdct sn sub ab col dd k0 k1 k2 k3 k5 "ValueError.__new__")
  hasV : bm.contains (.type "ValueError") = true
  hasE : bm.contains (.type "BaseException") = true
  noA : bm.contains (.type "AttributeError") = false
  noN : bm.contains (.type "NameError") = false
section
variable {prog : Program} {w : World} {A : Around} {R : Result → Shared → Prop} {h : Heap} {g : Array GenState} {d : Drawn} {t : Nat} {os : OsState} {C f : Addr} {bm : List Value}
theorem cont_cons {a : Addr} {l : List Value} {T : String} {b : Bool} (h : l.contains (.type T) = b) : (Value.ref a :: l).contains (.type T) = b := by
  rw [List.contains_cons, h]
  rfl
theorem exc_new {rest : List Value} (X : XCls h C bm) (hz : rest.length ≤ sizeLine) (q : R (.ok (.ret (.ref (h.objs.size + 1)))) ⟨(h.push (argsTup rest)).push (excObj C h.objs.size), g, d, t, os⟩) :
    codeAny (model prog w) A (.call (.builtin "ValueError.__new__") ⟨.ref C :: rest, []⟩) R ⟨h, g, d, t, os⟩ := by
  have F := PySem.F.excBase_ValueError
  obtain ⟨⟨nm, qn, N, bs, hd, sn, sub, ab, col, dd, k0, k1, k2, k3, k5, hC⟩, a1, a2, a3, a4⟩ := X
  have hV := cont_cons (a := C) a1
  have hA := cont_cons (a := C) a3
  have hN := cont_cons (a := C) a4
  have hstar := F.noStar
  have hends := F.ends
  have chk : ∀ {M : Model} {A : Around} {E : Value → Shared → Prop} {Q : Unit → Shared → Prop}, Q () ⟨h, g, d, t, os⟩ → wpAny M A (checkBuiltinCall "ValueError.__new__" ⟨.ref C :: rest, []⟩) Q E ⟨h, g, d, t, os⟩ := by
    intro M A E Q hq
    simp only [checkBuiltinCall, F.newKind, F.newSplit, F.newRow]
    repeat
      first
        | refine wpAny_loadPart_at hC ?_
        | (refine wpAny_isSubtype_exc hC ?_; rw [hV])
        | refine wpAny_staticBase_exc hC ?_
        | refine wpAny_madeBy_exc hC ?_
        | simp only [bne_self_eq_false, Bool.false_eq_true, if_false]
        | wp_step
    exact hq
  refine codeAny_call_builtin_code (Code.quiet_builtin _ F.quiet) (chk ?_)
  refine codeAny_builtinAt F.entry ?_
  unfold Builtin.«BaseException.__new__»
  refine PySem.wpAt_bind ?_
  show PySem.wpAt _ _ _ (stack >>= _) _ _ _
  refine PySem.wpAt_bind (PySem.wpAt_stack fun p below => PySem.wpAt_of_wpAny ?_)
  wp_walk
  refine PySem.wpAt_of_wpAny ?_
  rw [F.owner]
  repeat
    first
      | with_reducible refine wpAny_madeHere_exc F.canon hC ?_
      | with_reducible refine wpAny_loadPart_at hC ?_
      | (with_reducible refine wpAny_isSubtype_exc hC ?_; first | rw [hV] | rw [hA] | rw [hN])
      | wp_step
  show R _ _
  rw [Heap.size_push]
  exact q
theorem exc_make {rest : List Value} (X : XCls h C bm) (hz : rest.length ≤ sizeLine) (hi : Looks (model prog w) h (typeLookup (.ref C) "__init__") (some (.ref f))) (hb : ∀ self, Looks (model prog w) h (bindSpecial (.ref f) self) (.ref f, [self]))
    (q : codeAny (model prog w) (A.under (.builtin "type.__call__" ⟨.ref C :: rest, []⟩)) (.call (.ref f) ⟨.ref (h.objs.size + 1) :: rest, []⟩) (InitBack (h.objs.size + 1) R) ⟨(h.push (argsTup rest)).push (excObj C h.objs.size), g, d, t, os⟩) :
    codeAny (model prog w) A (.call (.ref C) ⟨rest, []⟩) R ⟨h, g, d, t, os⟩ := by
  have X' := X
  obtain ⟨⟨nm, qn, N, bs, hd, sn, sub, ab, col, dd, k0, k1, k2, k3, k5, hC⟩, a1, a2, a3, a4⟩ := X
  have f1 := tc_lookup
  have f2 := tc_bind (.ref C)
  have hT : (⟨h, g, d, t, os⟩ : Shared).TypeIs (.ref C) "type" := ⟨_, hC, rfl⟩
  refine codeAny_of_tree ?_
  show wpAny _ _ (callAny (.ref C) _) _ _ _
  repeat (any_goals (first | assumption | with_reducible refine wpAny_loadPart_at hC ?_ | wp_step))
  refine ⟨rfl, ?_⟩
  refine codeAny_call_builtin_at (Code.quiet_builtin _ (by decide +kernel)) entry_typeCall (wpAny_check_type_call_sub hC ?_)
  repeat
    first
      | with_reducible refine wpAny_loadPart_at hC ?_
      | with_reducible refine wpAny_madeBy_exc hC ?_
      | wp_step
  refine exc_new (rest := rest) X' hz ?_
  have k : ∀ b o, h.get? b = some o → ((h.push (argsTup rest)).push (excObj C h.objs.size)).get? b = some o := fun b o e => Heap.get?_push_of_some _ (Heap.get?_push_of_some _ e)
  have hx : ((h.push (argsTup rest)).push (excObj C h.objs.size)).get? (h.objs.size + 1) = some (excObj C h.objs.size) := by heap_get
  have t1 : Looks (model prog w) ((h.push (argsTup rest)).push (excObj C h.objs.size)) (typeOf (.ref (h.objs.size + 1))) (.ref C) := (Looks.ld hx).andThen .now
  have s1 : Looks (model prog w) ((h.push (argsTup rest)).push (excObj C h.objs.size)) (isSubtype (.ref C) (.ref C)) true := fun A Q E s kk hq => by
    obtain ⟨hh, g, d, t, os⟩ := s
    refine wpAny_isSubtype_exc (kk _ _ (k _ _ hC)) ?_
    rw [show (Value.ref C :: bm).contains (Value.ref C) = true by simp]
    exact hq
  have i1 := hi.keeps k
  have b1 := (hb (.ref (h.objs.size + 1))).keeps k
  show wpAny _ _ _ _ _ _
  unfold isInstance callSpecial? specialOf
  repeat (first | with_reducible refine wpAny_call ?_ | lk)
  refine codeAny_mono q fun r s' z => ?_
  rcases r with e | (v | _ | _ | _) <;> first | exact z | exact z.elim | skip
  obtain ⟨rfl, z⟩ := z
  exact wpAny_pure (wpAny_pure z)
theorem exc_init (X : XCls h C bm) {e t0 : Addr} {rest : List Value} {Q : Value → Shared → Prop} {E : Value → Shared → Prop} (he : h.get? e = some (excObj C t0)) (hz : rest.length ≤ sizeLine)
    (q : ∀ h', h'.get? e = some (excObj C h.objs.size) → (∀ b o, b ≠ e → h.get? b = some o → h'.get? b = some o) → Q .none ⟨h', g, d, t, os⟩) :
    wpAny (model prog w) A (call (.builtin "ValueError.__init__") (.ref e :: rest)) Q E ⟨h, g, d, t, os⟩ := by
  have F := PySem.F.excBase_ValueError
  obtain ⟨⟨nm, qn, N, bs, hd, sn, sub, ab, col, dd, k0, k1, k2, k3, k5, hC⟩, a1, a2, a3, a4⟩ := X
  have hV := cont_cons (a := C) a1
  have hshort := F.noStar
  have chk : ∀ {M : Model} {A : Around} {E : Value → Shared → Prop} {Q : Unit → Shared → Prop}, Q () ⟨h, g, d, t, os⟩ → wpAny M A (checkBuiltinCall "ValueError.__init__" ⟨.ref e :: rest, []⟩) Q E ⟨h, g, d, t, os⟩ := by
    intro M A E Q hq
    simp only [checkBuiltinCall, F.initKind, F.initSplit, F.initRow]
    repeat
      first
        | with_reducible refine wpAny_loadPart_at he ?_
        | with_reducible refine wpAny_loadPart_at hC ?_
        | (with_reducible refine wpAny_isSubtype_exc hC ?_; rw [hV])
        | wp_step
    refine wpAny_onRaise ?_
    rw [show ∀ (a b : String) (n : Nat), Bind.check ⟨.positional, "*", "ValueError", .self, [⟨"args", .varPos, false⟩]⟩ a b n (List.map (fun x => x.fst) ({ pos := Value.ref e :: rest } : Args).kw) = pure () from
      fun a b n => check_star_args _ _ _ _ _ _]
    exact wpAny_pure hq
  refine wpAny_call (codeAny_call_builtin F.init.plain F.initEntry (chk ?_))
  wp_walk
  show Q .none _
  have hp : (h.push { cls := Value.type "tuple", data := Data.seq rest.toArray }).get? e = some (excObj C t0) := Heap.get?_push_of_some _ he
  refine q _ ?_ fun b o hb ho => ?_
  · rw [Heap.get?_update_self _ hp rfl]
    rfl
  · rw [Heap.get?_update_other _ _ (Ne.symm hb)]
    exact Heap.get?_push_of_some _ ho
end
end L2

namespace L2
open PySem PySem.Calls PySem.Spec PyProof.Rows PySem.W
structure XIn (K : Frag) (C : Addr) (bm : List Value) : Prop where
  ex : ∃ nm q N bs hdct sn sub ab col dd k0 k1 k2 k3 k5, K.lookup C = some (excClassObj nm q C N bs bm hdct sn sub ab col dd k0 k1 k2 k3 k5 "ValueError.__new__")
  hasV : bm.contains (.type "ValueError") = true
  hasE : bm.contains (.type "BaseException") = true
  noA : bm.contains (.type "AttributeError") = false
  noN : bm.contains (.type "NameError") = false
theorem XIn.at {K : Frag} {C : Addr} {bm : List Value} {h : Heap} (x : XIn K C bm) (k : K.In h) : XCls h C bm := by
  obtain ⟨⟨nm, q, N, bs, hd, sn, sub, ab, col, dd, k0, k1, k2, k3, k5, e⟩, a1, a2, a3, a4⟩ := x
  exact ⟨⟨nm, q, N, bs, hd, sn, sub, ab, col, dd, k0, k1, k2, k3, k5, k _ _ e⟩, a1, a2, a3, a4⟩
def isX (C x : Addr) : HO := .ext fun h => ∃ t, h.get? x = some (excObj C t)
theorem isX_ok {P : Program} {w : World} {H : Hp} {h : Heap} {C x t : Addr} (e : h.get? x = some (excObj C t)) : ObjOk P w H h x (isX C x) := ⟨⟨t, e⟩, ⟨_, e⟩, fun _ _ ⟨t, e⟩ k => ⟨t, k _ e⟩⟩
section
variable {X : Cx} {pins : List (Addr × Obj)} {σ : St} {H : Hp} {s : Shared}
theorem Inv.isX (I : Inv X pins σ H s) {C x : Addr} (e : H x = some (L2.isX C x)) : ∃ t, s.heap.get? x = some (excObj C t) := (I.hok x _ e).1
theorem boot_VE : bootBuiltins "ValueError" = some (.type "ValueError") := by decide +kernel
theorem upd_id {H : Hp} {a : Addr} {o : HO} (e : H a = some o) : upd H a o = H := by
  funext b
  by_cases h : b = a
  · subst h
    rw [upd_same, e]
  · rw [upd_ne h]
variable {e : Expr} {es : List Expr} {p apos pos : Pos} {t : TA} {C : Addr} {bm : List Value} {pl : Sem Bool}
theorem pe_vinit (hg : Gl X "ValueError") (hm : X.mg "ValueError" = none) (hC : XIn X.K C bm) (ha : PA X (e :: es) t) (hs : starEach (e :: es) X.env = (false, eval e X.env) :: starEach es X.env := by rfl) (hpl : (backTo pos (starEach es X.env)).any (·.1) = false := by rfl)
    (ht : eval (.Call (.Attribute (.Name "ValueError" p) "__init__" apos) (e :: es) [] pos) X.env = (do
      let ov ← eval (.Name "ValueError" p) X.env
      standAt apos.atName
      let (f, first) ← holding [ov] (getMethod ov "__init__" pl)
      callWith pos f first (backTo pos (starEach (e :: es) X.env)) (backToKw pos (keywordEach [] X.env))) := by rfl) :
    PE X (.Call (.Attribute (.Name "ValueError" p) "__init__" apos) (e :: es) [] pos) (fun σ H Q => t σ H fun vs H1 => ∃ (x : Addr) (us : List V), vs = .ref x :: us ∧ us.length ≤ 1000 ∧ H1 x = some (L2.isX C x) ∧ Q .non H1) := by
  intro pins s σ H Q I h
  refine methodCall_KW (pl := pl) (ld_blt I hg hm boot_VE ?_) ht
  obtain ⟨m, F⟩ := I.fr
  refine method_type (K := X.K) (T := "ValueError") (v := .builtin "ValueError.__init__") F I.ok.mod.kin ?_ ?_ ?_ ?_ ?_
  · rfl
  · decide +kernel
  · rfl
  · rfl
  refine PyProof.Rows.callWith_builtin1 (thn (ha pos pins _ σ H _ (I.tok _) h) fun us s1 ⟨vs, H1, I1, r, q⟩ => ?_) hs hpl
  obtain ⟨x, ws, rfl, hl, hx, q⟩ := q
  cases r with
  | cons r rr =>
    cases r
    obtain ⟨t0, he⟩ := I1.isX hx
    obtain ⟨hp, g, d, tk, os⟩ := s1
    refine exc_init (hC.at I1.kIn) he (Nat.le_of_lt (small1000 (by rw [← rr.length]; exact hl))) fun h' e' k => ?_
    have I2 := I1.write (x := x) (e := x) (o := L2.isX C x) (t' := tk) (by rw [hx]; trivial) (.inl rfl) k ⟨_, e'⟩ (isX_ok e')
    rw [upd_id hx] at I2
    exact ⟨.non, _, I2, rfl, q⟩
variable {CX : CXT} {k : Nat} {f : Addr} {fd : FuncData} {ps : List Str} {sp : Sp} {E : XK} {x : Str}
structure CMeth (K : Frag) (C : Addr) (m : Str) (f : Addr) : Prop where
  ga : specialIn K (.ref C) "__getattribute__" = some (some (.builtin "type.__getattribute__"))
  rd : readsIn K C (.type "type") = true
  fc : findCls K (.ref C) (.type "type") m = some (.val (.ref f))
  kp : keepIn K (.ref f) = true
theorem pe_cmeth {m : Str} (hg : Gl X x) (hm : X.mg x = some (.ref C)) (M : CMeth X.K C m f) (F : FnOk X.prog X.w X.K X.mg X.base CX k f fd ps sp) (hr : Room k X.A) (hb : Binds X.K fd ps []) (hx : Passes CX X E) (ha : PA X (e :: es) t)
    (hd : (x == ("__debug__" : Str)) = false := by decide) (hs : starEach (e :: es) X.env = (false, eval e X.env) :: starEach es X.env := by rfl) (hpl : (backTo pos (starEach es X.env)).any (·.1) = false := by rfl)
    (ht : eval (.Call (.Attribute (.Name x p) m apos) (e :: es) [] pos) X.env = (do
      let ov ← eval (.Name x p) X.env
      standAt apos.atName
      let (f, first) ← holding [ov] (getMethod ov m pl)
      callWith pos f first (backTo pos (starEach (e :: es) X.env)) (backToKw pos (keywordEach [] X.env))) := by rfl) :
    PE X (.Call (.Attribute (.Name x p) m apos) (e :: es) [] pos) (tCall sp [] E t) := by
  intro pins s σ H Q I h
  refine methodCall_KW (pl := pl) (ld_glob I hg hm ?_ hd) ht
  refine method_cls (K := X.K) I.kIn M.ga (cls_value (K := X.K) I.kIn M.rd M.fc rfl ?_)
  refine callWith_K (h₀ := X.base) (K := X.K) I.ok.mod.kin M.kp (thn (ha pos pins _ σ H _ (I.tok _) h) fun us s1 ⟨vs, H1, I1, r, q⟩ => ⟨I1.kIn, ?_⟩) hs hpl
  exact run_fn (us := us) (vs := vs) F hr hb .nil hx I1 r q
end
end L2

namespace L2
open PySem PySem.Calls PySem.Spec PyProof.Rows PySem.W
section
variable {X : Cx} {pins : List (Addr × Obj)} {σ : St} {H : Hp} {s : Shared} {CX : CXT} {k : Nat} {f C : Addr} {fd : FuncData} {ps : List Str} {sp : Sp} {E : XK} {x : Str} {p pos : Pos} {e : Expr} {es : List Expr} {t : TA} {bm : List Value}
structure XMk (K : Frag) (C f : Addr) (bm : List Value) : Prop extends XIn K C bm where
  init : findIn K (.ref C) "__init__" = some (some (.ref f))
  fn : isFn K (.ref f) = true
  kp : keepIn K (.ref C) = true
def tXMake (n : Nat) (C : Addr) (sp : Sp) (E : XK) (t : TA) : TE := fun σ H Q => t σ H fun vs H1 => vs.length ≤ 1000 ∧ ∀ y, H1 y = none → n ≤ y → sp (.ref y :: vs) (upd H1 y (isX C y)) (fun v H2 => v = .non ∧ Q (.ref y) H2) E
theorem run_xmake {Q : VK} {us : List Value} {vs : List V} (M : XMk X.K C f bm) (F : FnOk X.prog X.w X.K X.mg X.base CX k f fd ps sp) (hr : Room (k + 1) X.A) (hb : Binds X.K fd ps []) (hx : Passes CX X E) (I : Inv X pins σ H s) (r : Vals vs us) (hl : vs.length ≤ 1000)
    (h : ∀ y, H y = none → X.s₀.heap.objs.size ≤ y → sp (.ref y :: vs) (upd H y (isX C y)) (fun v H2 => v = .non ∧ Q (.ref y) H2) E) : wpAny (model X.prog X.w) X.A (call (.ref C) us) (EP X pins σ Q) X.xe s := by
  have hq := h (s.heap.objs.size + 1) (I.hok.fresh (Nat.le_succ _)) (Nat.le_succ_of_le I.sz)
  have k2 : ∀ b o, s.heap.get? b = some o → ((s.heap.push (argsTup us)).push (excObj C s.heap.objs.size)).get? b = some o := fun b o e => Heap.get?_push_of_some _ (Heap.get?_push_of_some _ e)
  have hx2 : ((s.heap.push (argsTup us)).push (excObj C s.heap.objs.size)).get? (s.heap.objs.size + 1) = some (excObj C s.heap.objs.size) := by heap_get
  have I2 : Inv X pins σ (upd H (s.heap.objs.size + 1) (isX C (s.heap.objs.size + 1))) { s with heap := (s.heap.push (argsTup us)).push (excObj C s.heap.objs.size) } := I.laid (t' := s.toks) k2 (Nat.le_succ _) (isX_ok hx2)
  have r2 : Vals (V.ref (s.heap.objs.size + 1) :: vs) (Value.ref (s.heap.objs.size + 1) :: us) := .cons rfl r
  have hl2 : (Value.ref (s.heap.objs.size + 1) :: us).length = ps.length := by
    have e := r2.length
    rw [F.len _ _ _ _ hq] at e
    exact e.symm
  have hl3 : ((Value.ref (s.heap.objs.size + 1) :: us) ++ ([] : List Value)).length = ps.length := by
    rw [List.append_nil]
    exact hl2
  have hb2 := hb _ (Value.ref (s.heap.objs.size + 1) :: us) I2.kIn hl3
  rw [List.append_nil] at hb2
  have run := F.run _ X.stack _ _ ⟨Value.ref (s.heap.objs.size + 1) :: us, []⟩ (Value.ref (s.heap.objs.size + 1) :: us) _ _ E (hr.make C us []) (I2.env0.make C us []) hb2 r2 hq
  obtain ⟨hp, g, d, tk, os⟩ := s
  refine wpAny_call (exc_make (M.toXIn.at I.kIn) (Nat.le_of_lt (small1000 (by rw [← r.length]; exact hl))) (looks_findIn I.kIn M.init) (fun self => bind_fn I.kIn self (beq_iff_eq.mp M.fn)) (codeAny_mono run fun r s' hq' => ?_))
  cases r with
  | error e => exact hx pins σ _ _ e s' I2 hq'
  | ok fl =>
    cases fl with
    | ret u =>
      obtain ⟨v, H', I3, rv, ev, q3⟩ := I2.after hq'
      subst ev
      exact ⟨rv, ⟨V.ref (hp.objs.size + 1), H', I3, rfl, q3⟩⟩
    | next => exact False.elim hq'
    | brk => exact False.elim hq'
    | cont => exact False.elim hq'
theorem pe_xmake (M : XMk X.K C f bm) (F : FnOk X.prog X.w X.K X.mg X.base CX k f fd ps sp) (hr : Room (k + 1) X.A) (hg : Gl X x) (hm : X.mg x = some (.ref C)) (hb : Binds X.K fd ps []) (hx : Passes CX X E)
    (ha : PA X (e :: es) t) (hdb : (x == ("__debug__" : Str)) = false := by decide) (he : starEach (e :: es) X.env = (false, eval e X.env) :: starEach es X.env := by rfl) (hpl : (backTo pos (starEach es X.env)).any (·.1) = false := by rfl) :
    PE X (.Call (.Name x p) (e :: es) [] pos) (tXMake X.s₀.heap.objs.size C sp E t) := by
  intro pins s σ H Q I h
  refine wpAny_Call_Name_kw (ld_glob I hg hm ?_ hdb)
  refine callWith_K (h₀ := X.base) I.ok.mod.kin M.kp (thn (ha pos pins s σ H _ I h) fun us s1 ⟨vs, H1, I1, r, hl, q⟩ => ⟨I1.kIn, ?_⟩) he hpl
  exact run_xmake M F hr hb hx I1 r hl q
end
end L2

namespace L2
open PySem PySem.Calls PySem.Spec PyProof.Rows PySem.W
def fld2 (o : Obj) : Option Value := match o.data with | .fields vs => vs[2]? | _ => none
def KD {α : Type} : Sem α → Prop
  | .pure _ => True
  | .raise _ => True
  | .unsupported _ => True
  | .finish _ => True
  | .rule _ k => KD (k ())
  | .at _ k => KD (k ())
  | .load _ _ k => ∀ o, KD (k o)
  | .update _ _ f k => (∀ o : Obj, (f o).cls = o.cls ∧ (f o).dict = o.dict ∧ (f o).isFreed = o.isFreed ∧ fld2 (f o) = fld2 o) ∧ KD (k ())
  | .loadIfAlive _ k => ∀ o, KD (k o)
  | .point _ k => KD (k ())
  | .alloc _ k => ∀ a, KD (k a)
  | .fresh k => ∀ t, KD (k t)
  | .ask k => ∀ t, KD (k t)
  | .stack k => ∀ l, KD (k l)
  | .handled _ k => ∀ v, KD (k v)
  | .register _ _ => False
  | .choose _ _ _ => False
  | .os _ _ _ => False
  | .call _ _ _ _ _ => False
  | .newGen _ _ => False
  | .genState _ _ => False
  | .resume _ _ _ _ => False
  | .yield _ _ _ _ => False
  | .fork _ _ => False
  | .thread _ => False
  | .await _ _ _ _ _ => False
def KeepD (h h' : Heap) : Prop := ∀ b o, h.get? b = some o → ∃ o', h'.get? b = some o' ∧ o'.cls = o.cls ∧ o'.dict = o.dict ∧ fld2 o' = fld2 o
theorem KeepD.refl (h : Heap) : KeepD h h := fun _ o e => ⟨o, e, rfl, rfl, rfl⟩
theorem KeepD.trans {h1 h2 h3 : Heap} (x : KeepD h1 h2) (y : KeepD h2 h3) : KeepD h1 h3 := fun b o e => by
  obtain ⟨o1, e1, a1, a2, a3⟩ := x b o e
  obtain ⟨o2, e2, b1, b2, b3⟩ := y b o1 e1
  exact ⟨o2, e2, b1.trans a1, b2.trans a2, b3.trans a3⟩
theorem KeepD.push {h : Heap} (o : Obj) : KeepD h (h.push o) := fun _ u e => ⟨u, Heap.get?_push_of_some o e, rfl, rfl, rfl⟩
theorem KeepD.upd {h : Heap} {a : Addr} {f : Obj → Obj} (hf : ∀ o : Obj, (f o).cls = o.cls ∧ (f o).dict = o.dict ∧ (f o).isFreed = o.isFreed ∧ fld2 (f o) = fld2 o) : KeepD h (h.update a f) := fun b o e => by
  by_cases hb : b = a
  · subst hb
    exact ⟨f o, Heap.get?_update_self f e ((hf o).2.2.1.trans (Heap.get?_some_iff.mp e).2), (hf o).1, (hf o).2.1, (hf o).2.2.2⟩
  · exact ⟨o, (Heap.get?_update_other _ _ (Ne.symm hb)).trans e, rfl, rfl, rfl⟩
theorem kd_wp {α : Type} {M : Model} {Γ : PySem.Ctx} {h0 : Heap} {Q : α → Pos → Shared → Prop} {E : Value → Pos → Shared → Prop} (t : Sem α) : KD t → ∀ p s, KeepD h0 s.heap → Sem.wp M Γ t Q E p s → Sem.wp M Γ t (fun a p' s' => Q a p' s' ∧ KeepD h0 s'.heap) E p s := by
  induction t with
  | pure a =>
    intro _ p s k h
    rw [Sem.wp] at h ⊢
    exact ⟨h, k⟩
  | raise e =>
    intro _ p s k h
    rw [Sem.wp] at h ⊢
    exact h
  | unsupported w =>
    intro _ p s k h
    rw [Sem.wp] at h
    exact h.elim
  | finish w =>
    intro _ p s k h
    rw [Sem.wp] at h
    exact h.elim
  | rule tg k ih =>
    intro kd p s kk h
    rw [Sem.wp] at h ⊢
    exact ih () kd p s kk h
  | «at» p' k ih =>
    intro kd p s kk h
    rw [Sem.wp] at h ⊢
    exact ih () kd p' s kk h
  | load a part k ih =>
    intro kd p s kk h
    rw [Sem.wp] at h ⊢
    obtain ⟨o, e, h⟩ := h
    exact ⟨o, e, ih o (kd o) p s kk h⟩
  | update a part f k ih =>
    intro kd p s kk h
    rw [Sem.wp] at h ⊢
    exact ⟨h.1, ih () kd.2 p _ (kk.trans (KeepD.upd kd.1)) h.2⟩
  | alloc o k ih =>
    intro kd p s kk h
    rw [Sem.wp] at h ⊢
    exact ih _ (kd _) p _ (kk.trans (KeepD.push o)) h
  | loadIfAlive a k ih =>
    intro kd p s kk h
    rw [Sem.wp] at h ⊢
    exact ih _ (kd _) p s kk h
  | point l k ih =>
    intro kd p s kk h
    rw [Sem.wp] at h ⊢
    exact ih () kd p s kk h
  | fresh k ih =>
    intro kd p s kk h
    rw [Sem.wp] at h ⊢
    exact ih _ (kd _) p _ kk h
  | ask k ih =>
    intro kd p s kk h
    rw [Sem.wp] at h ⊢
    exact ih _ (kd _) p s kk h
  | stack k ih =>
    intro kd p s kk h
    rw [Sem.wp] at h ⊢
    exact ih _ (kd _) p s kk h
  | handled own k ih =>
    intro kd p s kk h
    rw [Sem.wp] at h ⊢
    exact ih _ (kd _) p s kk h
  | _ => intro kd; exact kd.elim
theorem wpAny_kd {α : Type} {M : Model} {A : Around} {t : Sem α} {Q : α → Shared → Prop} {E : Value → Shared → Prop} {s : Shared} (kd : KD t) (h : wpAny M A t Q E s) : wpAny M A t (fun a s' => Q a s' ∧ KeepD s.heap s'.heap) E s :=
  fun Γ p hΓ => kd_wp t kd p s (KeepD.refl _) (h Γ p hΓ)
theorem kd_bind {α β : Type} (m : Sem α) {f : α → Sem β} (hf : ∀ a, KD (f a)) : KD m → KD (m >>= f) := by
  show KD m → KD (Sem.bind m f)
  induction m with
  | pure a => intro _; exact hf a
  | raise e => intro _; trivial
  | unsupported w => intro _; trivial
  | finish w => intro _; trivial
  | rule tg k ih => intro kd; exact ih () kd
  | «at» p' k ih => intro kd; exact ih () kd
  | load a part k ih => intro kd o; exact ih o (kd o)
  | update a part f k ih => intro kd; exact ⟨kd.1, ih () kd.2⟩
  | alloc o k ih => intro kd a; exact ih a (kd a)
  | loadIfAlive a k ih => intro kd o; exact ih o (kd o)
  | point l k ih => intro kd; exact ih () kd
  | fresh k ih => intro kd o; exact ih o (kd o)
  | ask k ih => intro kd o; exact ih o (kd o)
  | stack k ih => intro kd o; exact ih o (kd o)
  | handled own k ih => intro kd o; exact ih o (kd o)
  | _ => intro kd; exact kd.elim
theorem kd_un {α : Type} (x : String) : KD (unsupported x : Sem α) := trivial
theorem kd_load (a : Addr) : KD (load a) := fun _ => trivial
theorem kd_map (f : Array Value → Array Value) (hf : ∀ vs, (f vs)[2]? = vs[2]?) (o : Obj) : (Obj.mapFields f o).cls = o.cls ∧ (Obj.mapFields f o).dict = o.dict ∧ (Obj.mapFields f o).isFreed = o.isFreed ∧ fld2 (Obj.mapFields f o) = fld2 o := by
  obtain ⟨c, d, dt, sl⟩ := o
  cases dt <;> first | exact ⟨rfl, rfl, rfl, rfl⟩ | exact ⟨rfl, rfl, rfl, hf _⟩
theorem kd_updateField (a : Addr) (i : Nat) (v : Value) (hi : i ≠ 2) : KD (updateField a i v) := by
  unfold updateField
  refine kd_bind _ (fun o => ?_) (kd_load a)
  split
  · split
    · exact ⟨kd_map _ fun vs => by simp [hi], trivial⟩
    · exact kd_un _
  · exact kd_un _
theorem kd_setField (v : Value) (i : Nat) (x : Value) (hi : i ≠ 2 := by decide) : KD (setField v i x) := by
  unfold setField
  split
  · exact kd_updateField _ _ _ hi
  · exact kd_un _
theorem kd_fieldsOf (v : Value) : KD (fieldsOf v) := by
  unfold fieldsOf
  split
  · refine kd_bind _ (fun o => ?_) (kd_load _)
    split
    · trivial
    · exact kd_un _
  · exact kd_un _
theorem kd_field (v : Value) (i : Nat) : KD (field v i) := by
  unfold field
  refine kd_bind _ (fun o => ?_) (kd_fieldsOf v)
  split
  · trivial
  · exact kd_un _
theorem kd_setFlight (e : Value) (f : Option Addr) : KD (setFlight e f) := by
  unfold setFlight
  refine kd_bind _ (fun o => ?_) (kd_field e 1)
  split
  · exact kd_setField _ _ _
  · trivial
theorem kd_stack : KD stack := fun _ => trivial
theorem kd_place (f : Addr) (b : Bool) : KD (entryPlaceOf f b) := by
  unfold entryPlaceOf
  refine kd_bind _ (fun o => ?_) kd_stack
  split <;> trivial
theorem kd_frameEnvs : KD frameEnvs := kd_bind _ (fun _ => trivial) kd_stack
theorem kd_under : KD underTheClaimsCaller := kd_bind _ (fun _ => trivial) kd_stack
theorem kd_import (env : Env) (outer : List Env) : KD (behindIsImport env outer) := by
  unfold behindIsImport
  split
  · trivial
  · split
    · trivial
    · exact kd_bind _ (fun _ => trivial) (kd_field _ _)
theorem kd_kept (env : Env) (b : Bool) (outer : List Env) : KD (keptBack env b outer) := by
  unfold keptBack
  split
  · split
    · trivial
    · exact kd_bind _ (fun _ => by split <;> trivial) kd_under
  · trivial
theorem kd_ready : ∀ l, KD (readyFrames l)
  | [] => trivial
  | env :: outer => by
    unfold readyFrames
    split
    · refine kd_bind _ (fun o => ?_) (kd_load _)
      split
      · trivial
      · refine kd_bind _ (fun b => ?_) (kd_import _ _)
        refine kd_bind _ (fun v => ?_) (kd_kept _ _ _)
        exact ⟨fun o => ⟨rfl, rfl, by obtain ⟨c, d, dt, sl⟩ := o; cases dt <;> rfl, rfl⟩, kd_ready outer⟩
    · exact kd_un _
theorem kd_frameOf (env : Env) : KD (PySem.frameOf env) := by
  unfold PySem.frameOf
  refine kd_bind _ (fun l => ?_) kd_frameEnvs
  refine kd_bind _ (fun r => ?_) ?_
  · split
    · trivial
    · exact kd_un _
  · unfold frameObject
    split
    · trivial
    · exact kd_bind _ (fun _ => trivial) (kd_ready _)
theorem kd_asIs (T : String) (d : Data) : KD (newObjAsIs (.type T) d) := fun _ => trivial
theorem kd_newEntry (a b c d e : Value) (l : List Value) : KD (EntryCells.newEntry a b c d e l) := by
  unfold EntryCells.newEntry newFields newObj
  dsimp only
  repeat' split
  all_goals first | exact kd_asIs _ _ | exact kd_bind _ (fun _ => kd_asIs _ _) (kd_un _)
theorem kd_note (e : Value) (env : Env) : KD (noteFrame e env) := by
  unfold noteFrame
  split
  · refine kd_bind _ (fun hd => ?_) (kd_field e 1)
    split
    · refine kd_bind _ (fun x => ?_) (kd_field _ _)
      split
      · trivial
      · refine kd_bind _ (fun _ => ?_) (kd_setField _ _ _)
        exact kd_bind _ (fun fr => kd_bind _ (fun pl => kd_bind _ (fun en => kd_setField _ _ _) (kd_newEntry _ _ _ _ _ _)) (kd_place _ _)) (kd_frameOf _)
    · exact kd_bind _ (fun fr => kd_bind _ (fun pl => kd_bind _ (fun en => kd_setField _ _ _) (kd_newEntry _ _ _ _ _ _)) (kd_place _ _)) (kd_frameOf _)
  · exact kd_un _
theorem kd_leaving (env : Env) (e : Value) : KD (leaving env e) := kd_bind _ (fun _ => kd_setFlight _ _) (kd_note _ _)
end L2

namespace L2
open PySem PySem.Calls PySem.Spec PyProof.Rows PySem.W
def isXo (C x : Addr) (dct : Option Addr) : HO := .ext fun h => ∃ t, h.get? x = some { cls := .ref C, dict := dct, data := .fields #[.ref t, .none, .none, .none, .bool false, .none] }
theorem isXo_ok {P : Program} {w : World} {H : Hp} {h : Heap} {C x t : Addr} {dct : Option Addr} (e : h.get? x = some { cls := .ref C, dict := dct, data := .fields #[.ref t, .none, .none, .none, .bool false, .none] }) : ObjOk P w H h x (isXo C x dct) := ⟨⟨t, e⟩, ⟨_, e⟩, fun _ _ ⟨t, e⟩ k => ⟨t, k _ e⟩⟩
theorem Inv.isXo {X : Cx} {pins : List (Addr × Obj)} {σ : St} {H : Hp} {s : Shared} (I : Inv X pins σ H s) {C x : Addr} {dct : Option Addr} (e : H x = some (L2.isXo C x dct)) : ∃ t, s.heap.get? x = some { cls := .ref C, dict := dct, data := .fields #[.ref t, .none, .none, .none, .bool false, .none] } := (I.hok x _ e).1
structure FlyX (P : Program) (w : World) (outer : List Env) (H H' : Hp) (s s' : Shared) (y : Addr) (cls : Value) (dct : Option Addr) : Prop where
  dict : ∃ oe, s'.heap.get? y = some oe ∧ oe.dict = dct ∧ fld2 oe = some .none
  os : s'.os = s.os
  bare : AllBare s'.gens
  new : s.heap.objs.size ≤ y
  ex : ∃ (B : Heap) (a0 : Value), Heap.FlyingW B outer y cls a0 s'.heap ∧ HOk P w H' B ∧ (∀ b o, s.heap.get? b = some o → H b = none → b ∉ frs outer → B.get? b = some o) ∧ ∀ b o, s.heap.get? b = some o → b ∉ frs outer → b ≠ y → ∃ o', B.get? b = some o'
  slot : ∀ b o, s.heap.get? b = some o → H b = none → b ∈ frs outer → ∃ sl, s'.heap.get? b = some { o with slots := sl }
  free : ∀ b o, s.heap.get? b = some o → H b = none → H' b = none
  tups : ∀ b xs, H b = some (.tup xs) → H' b = some (.tup xs)
  frzs : ∀ b o u, H b = some (.frz o u) → H' b = some (.frz o u)
  tbls : ∀ b ps, H b = some (.tbl ps) → ∃ more, H' b = some (.tbl (ps ++ more))
section
variable {P : Program} {w : World} {outer : List Env} {H H' : Hp} {s s' : Shared} {y : Addr} {cls : Value} {dct : Option Addr}
theorem FlyX.there (x : FlyX P w outer H H' s s' y cls dct) (b : Addr) (o : Obj) (e : s.heap.get? b = some o) : ∃ o', s'.heap.get? b = some o' := by
  obtain ⟨B, a0, ⟨f1, f2, f3, f4⟩, hok, kb, cov⟩ := x.ex
  by_cases hf : b ∈ frs outer
  · obtain ⟨_, o', e2, _⟩ := f3.mem hf
    exact ⟨o', e2⟩
  · by_cases hy : b = y
    · subst hy
      obtain ⟨oe, _, _, _, _, eo, _⟩ := f4
      exact ⟨oe, eo⟩
    · obtain ⟨o', e2⟩ := cov b o e hf hy
      exact ⟨o', f1 b o' e2⟩
theorem FlyX.un (x : FlyX P w outer H H' s s' y cls dct) : Un (frs outer) [] H H' s.heap s'.heap := by
  obtain ⟨B, a0, fl, hok, kb, _⟩ := x.ex
  exact ⟨fun b o e n hb _ => fl.1 b o (kb b o e n hb), fun b o e n hb _ => x.slot b o e n hb, fun b o e n _ => x.free b o e n, fun b o e _ => x.there b o e, x.tups, x.frzs, x.tbls⟩
theorem FlyX.hok (x : FlyX P w outer H H' s s' y cls dct) : HOk P w H' s'.heap := by
  obtain ⟨B, a0, fl, hok, kb, _⟩ := x.ex
  exact hok.kept fl.1
theorem FlyX.gone (x : FlyX P w outer H H' s s' y cls dct) : H' y = none := by
  obtain ⟨B, a0, fl, hok, kb, _⟩ := x.ex
  cases e : H' y with
  | none => rfl
  | some o =>
    obtain ⟨ob, eo⟩ := (hok y o e).there
    rw [fl.2.1] at eo
    cases eo
end
def CXr (P : Program) (w : World) : CXT := fun outer H s E e s' => ∃ (y : Addr) (cls : Value) (dct : Option Addr) (H' : Hp), e = .ref y ∧ FlyX P w outer H H' s s' y cls dct ∧ E cls dct H'
def hole (H : Hp) (y : Addr) : Hp := fun b => if b = y then none else H b
theorem hole_ne {H : Hp} {y b : Addr} (h : b ≠ y) : hole H y b = H b := by unfold hole; rw [if_neg h]
theorem hole_at {H : Hp} {y : Addr} : hole H y y = none := by unfold hole; rw [if_pos rfl]
section
variable {P : Program} {w : World} {K : Frag} {mg : Str → Option Value} {base : Heap} {N : List Str} {qual : Str} {scope : Scope} {f : Addr} {cd : Value} {A : Around} {outer : List Env} {s : Shared} {H : Hp} {E : XK}
variable {pins : List (Addr × Obj)} {σ : St} {H1 : Hp} {s1 : Shared} {y C : Addr} {dct : Option Addr}
theorem raise_out (I : Inv (cxOf (CXr P w) P w K mg base N qual scope f cd A outer s H E) pins σ H1 s1) (hy : H1 y = some (isXo C y dct)) (hn : s.heap.objs.size ≤ y) (hE : E (.ref C) dct (hole H1 y)) :
    (cxOf (CXr P w) P w K mg base N qual scope f cd A outer s H E).xe (.ref y) s1 := by
  obtain ⟨t, he⟩ := I.isXo hy
  have stk := I.stkFree
  have hB : ∀ b, H1 b ≠ none → b ≠ y → b ∉ y :: frs (envOfC qual scope s.heap.objs.size f cd :: outer) := fun b hb hn hm => by
    rcases List.mem_cons.mp hm with z | z
    · exact hn z
    · exact hb (stk b z)
  refine wpAny_mono (wpAny_kd (kd_leaving _ _) (wpAny_leaving_firstW (Q := fun _ s' => ∃ h', s' = { s1 with heap := h' } ∧ Heap.LeftW (hideAll s1.heap (y :: frs (envOfC qual scope s.heap.objs.size f cd :: outer))) (envOfC qual scope s.heap.objs.size f cd :: outer) y (.ref C) (.ref t) s1.heap h') (base := hideAll s1.heap (y :: frs (envOfC qual scope s.heap.objs.size f cd :: outer))) (L := s.heap.objs.size) (a0 := .ref t) I.ok.frames (funFrames_hide I.stack fun env he a ha => List.mem_cons_of_mem _ (List.mem_filterMap.mpr ⟨env, he, ha⟩)) rfl he (fun b o e => of_hideAll _ e) (hideAll_none _ (.head _)) rfl rfl rfl fun h' hL => ⟨h', rfl, hL⟩)) (fun _ s' z => ?_) fun _ _ z => z
  obtain ⟨⟨h', rfl, hL⟩, kd⟩ := z
  have hdct : ∃ oe, h'.get? y = some oe ∧ oe.dict = dct ∧ fld2 oe = some .none := by
    obtain ⟨oe, e1, _, e2, e3⟩ := kd _ _ he
    exact ⟨oe, e1, e2, e3⟩
  obtain ⟨k1, ⟨_, _, k2⟩, k3, k4⟩ := hL
  have nfs : ∀ b o, s.heap.get? b = some o → b ≠ s.heap.objs.size := fun b o e => Nat.ne_of_lt (Heap.lt_size e)
  refine ⟨y, .ref C, dct, hole H1 y, rfl, ⟨hdct, I.os, I.bare, hn, ⟨_, _, ⟨k1, hideAll_none _ (.head _), k2, k3⟩, fun a o e => ?_, fun b o e n hb => ?_, fun b o e hb hn => ?_⟩, fun b o e n hb => ?_, fun b o e n => ?_, fun b xs e => ?_, fun b o u e => ?_, fun b ps e => ?_⟩, hE⟩
  · have ha : a ≠ y := fun z => by
      rw [z, hole_at] at e
      cases e
    rw [hole_ne ha] at e
    refine (I.hok a o e).stay (fun b u hb eu => hideAll_get _ eu (hB b ?_ ?_)) (fun b hb => ?_) fun b xs hb => ?_
    · rcases hb with rfl | hb
      · rw [e]
        exact fun z => nomatch z
      · rw [hb]
        exact fun z => nomatch z
    · rcases hb with rfl | hb
      · exact ha
      · exact fun z => by
          rw [z, hy] at hb
          cases hb
    · rw [hole_ne fun z => by rw [z, hy] at hb; cases hb]
      exact hb
    · rw [hole_ne fun z => by rw [z, hy] at hb; cases hb]
      exact hb
  · have e1 := I.base.keep b o e n hb (List.not_mem_nil)
    have n1 : H1 b = none := I.base.free b o e n (List.not_mem_nil)
    refine hideAll_get _ e1 fun hm => ?_
    rcases List.mem_cons.mp hm with z | z
    · rw [z, hy] at n1
      cases n1
    · rcases List.mem_cons.mp (show b ∈ s.heap.objs.size :: frs outer from z) with z | z
      · exact nfs b o e z
      · exact hb z
  · obtain ⟨o1, e1⟩ := I.base.there b o e (List.not_mem_nil)
    refine ⟨o1, hideAll_get _ e1 fun hm => ?_⟩
    rcases List.mem_cons.mp hm with z | z
    · exact hn z
    · rcases List.mem_cons.mp (show b ∈ s.heap.objs.size :: frs outer from z) with z | z
      · exact nfs b o e z
      · exact hb z
  · obtain ⟨sl, e1⟩ := I.base.slot b o e n hb (List.not_mem_nil)
    obtain ⟨_, o', e2, nf⟩ := I.stack.mem (show b ∈ frs (envOfC qual scope s.heap.objs.size f cd :: outer) from List.mem_cons_of_mem _ hb)
    rw [e1] at e2
    cases e2
    obtain ⟨sl', e3⟩ := k4 b _ e1 nf
    exact ⟨sl', e3⟩
  · by_cases z : b = y
    · rw [z, hole_at]
    · rw [hole_ne z]
      exact I.base.free b o e n (List.not_mem_nil)
  · have e1 := I.base.tups b xs e
    rw [hole_ne fun z => by rw [z, hy] at e1; cases e1]
    exact e1
  · have e1 := I.base.frzs b o u e
    rw [hole_ne fun z => by rw [z, hy] at e1; cases e1]
    exact e1
  · obtain ⟨more, e1⟩ := I.base.tbls b ps e
    refine ⟨more, ?_⟩
    rw [hole_ne fun z => by rw [z, hy] at e1; cases e1]
    exact e1
end
end L2

namespace L2
open PySem PySem.Calls PySem.Spec PyProof.Rows PySem.W
theorem raise_madeD {M : Model} {A : Around} {E : Value → Shared → Prop} {env : Env} {s : Shared} {x : Sem Value} {C : Addr} {bm : List Value} {Q : Flow → Shared → Prop} (hbase : bm.contains (.type "BaseException") = true) (hh : A.handled = none)
    (h : wpAny M A x (fun v s1 => ∃ e o, v = .ref e ∧ (∃ nm q N bs hdct sn sub ab col dd k0 k1 k2 k3 k5, s1.heap.get? C = some (excClassObj nm q C N bs bm hdct sn sub ab col dd k0 k1 k2 k3 k5 "ValueError.__new__")) ∧ s1.heap.get? e = some o ∧ (o.cls = .ref C ∧ ∃ t : Addr, o.data = .fields #[.ref t, .none, .none, .none, .bool false, .none]) ∧ E (.ref e) s1) E s) :
    wpAny M A (raiseStmt env (some x) none) Q E s := by
  have hB : (Value.ref C :: bm).contains (.type "BaseException") = true := cont_cons hbase
  unfold raiseStmt
  refine wpAny_bind (wpAny_mono h (fun v s1 z => ?_) fun _ _ z => z)
  obtain ⟨e, o, rfl, ⟨nm, q, N, bs, hd, sn, sub, ab, col, dd, k0, k1, k2, k3, k5, hC⟩, he, ⟨hc, t, hvs⟩, hE⟩ := z
  obtain ⟨hp, g, d, tk, os⟩ := s1
  obtain ⟨oc, od, odt, osl⟩ := o
  dsimp only at hc hvs
  subst hc hvs
  repeat (first | with_reducible refine wpAny_loadPart_at he ?_ | with_reducible refine wpAny_loadPart_at hC ?_ | (with_reducible refine wpAny_isSubtype_exc hC ?_; rw [hB]) | wp_step)
  exact wpAny_raiseNew_none hh hE
section
variable {P : Program} {w : World} {K : Frag} {mg : Str → Option Value} {base : Heap} {N : List Str} {qual : Str} {scope : Scope} {f : Addr} {cd : Value} {A : Around} {outer : List Env} {s : Shared} {H : Hp} {E : XK}
variable {C : Addr} {bm : List Value} {e : Expr} {te : TE} {pos : Pos}
def tRaiseD (n : Nat) (C : Addr) (E : XK) (te : TE) : TS := fun _ σ H => te σ H fun v H1 => ∃ y dct, v = .ref y ∧ H1 y = some (isXo C y dct) ∧ n ≤ y ∧ E (.ref C) dct (hole H1 y)
theorem ps_raiseD (hC : XIn K C bm) (he : PE (cxOf (CXr P w) P w K mg base N qual scope f cd A outer s H E) e te) : PS (cxOf (CXr P w) P w K mg base N qual scope f cd A outer s H E) (.Raise (some e) none pos) (tRaiseD s.heap.objs.size C E te) := by
  intro pins s0 σ H0 D I h
  obtain ⟨⟨nm, q, N', bs, hd, sn, sub, ab, col, dd, k0, k1, k2, k3, k5, hl⟩, a1, a2, a3, a4⟩ := hC
  rw [arm_exec_Raise]
  refine wpAny_bind (wpAny_standAt (raise_madeD (C := C) a2 (I.ok.hd rfl) ?_))
  refine wpAny_bind (thn (he pins s0 σ H0 _ I h) fun v s1 ⟨x, H1, I1, rx, y, dct, ex, hy, hn, hE⟩ => wpAny_bind (wpAny_standAt (wpAny_pure ?_)))
  subst ex
  obtain rfl : v = Value.ref y := rx
  obtain ⟨t, et⟩ := I1.isXo hy
  exact ⟨y, _, rfl, ⟨nm, q, N', bs, hd, sn, sub, ab, col, dd, k0, k1, k2, k3, k5, I1.kIn _ _ hl⟩, et, ⟨rfl, _, rfl⟩, raise_out I1 hy hn hE⟩
end
structure KnX (P : Program) (w : World) (K : Frag) (mg : Str → Option Value) (base : Heap) (k : Nat) (x : Str) (ps : List Str) (sp : Sp) : Prop where
  ex : ∃ (f : Addr) (fd : FuncData), FnOk P w K mg base (CXr P w) k f fd ps sp ∧ mg x = some (.ref f) ∧ keepIn K (.ref f) = true ∧ Binds K fd ps []
theorem Fun.okX {P : Program} {w : World} {K : Frag} {mg : Str → Option Value} {base : Heap} {x qual : Str} {st : Stmt} {f : Addr} {fd : FuncData} {N ps : List Str} {sp : Sp} {k : Nat} (F : Fun K x qual st f fd) (S : FnScope N ps (defScope st)) (len : ∀ vs H Q E, sp vs H Q E → vs.length = ps.length)
    (hbody : ∀ (cdv : Value) (A : Around) (outer : List Env) (s : Shared) (H : Hp) (vs : List V) (Q : VK) (E : XK), Room k (A.deeper (envOfC qual (defScope st) s.heap.objs.size f cdv)) → sp vs H Q E →
      ∃ t, PSs (cxOf (CXr P w) P w K mg base N qual (defScope st) f cdv A outer s H E) (defBody st) t ∧ t { nx := fun _ H' => Q .non H', rt := Q } (start N vs) H) : FnOk P w K mg base (CXr P w) (k + 1) f fd ps sp := by
  obtain ⟨oc, od, kV, doc, pm, an, cdv, ct, osl, rfl, lk, hcd⟩ := F.ex
  exact fn_of lk hcd S len fun A outer s H vs Q E hr hsp => hbody cdv A outer s H vs Q E hr hsp
theorem DefAt.knx {P : Program} {w : World} {K : Frag} {mg : Str → Option Value} {base : Heap} {k : Nat} {x : Str} {st : Stmt} {N ps : List Str} {sp : Sp} (D : DefAt K mg x st ps) (S : FnScope N ps (defScope st)) (len : ∀ vs H Q E, sp vs H Q E → vs.length = ps.length)
    (hbody : ∀ (f : Addr) (cdv : Value) (A : Around) (outer : List Env) (s : Shared) (H : Hp) (vs : List V) (Q : VK) (E : XK), Room k (A.deeper (envOfC x (defScope st) s.heap.objs.size f cdv)) → sp vs H Q E →
      ∃ t, PSs (cxOf (CXr P w) P w K mg base N x (defScope st) f cdv A outer s H E) (defBody st) t ∧ t { nx := fun _ H' => Q .non H', rt := Q } (start N vs) H) : KnX P w K mg base (k + 1) x ps sp := by
  obtain ⟨f, fd, F, hm, hb⟩ := D.ex
  exact ⟨f, fd, F.okX S len fun cdv A outer s H vs Q E hr h => hbody f cdv A outer s H vs Q E hr h, hm, F.kp, hb⟩
end L2

namespace L2
open PySem PySem.Calls PySem.Spec PyProof.Rows PySem.W
structure XIs (K : Frag) (C : Addr) : Prop where
  ga : findIn K (.ref C) "__getattribute__" = some (some (.builtin "BaseException.__getattribute__"))
  gh : findIn K (.ref C) "__getattr__" = some none
  sb : subIn K (.ref C) (.type "BaseException") = some true
  ca : findIn K (.ref C) "__class__" = some (some (.builtin "object.__class__"))
  sp : specialIn K (.builtin "object.__class__") "__get__" = some (some (.builtin "getset_descriptor.__get__"))
  tk : takesIn K (.builtin "object.__class__") = some true
  ob : mroIn K C (.type "object") = some true
  cl : (clsIn K C).isSome = true
section
variable {prog : Program} {w : World} {A : Around} {E : Value → Shared → Prop} {s : Shared} {K : Frag} {y C : Addr}
theorem exc_ga_check {M : Model} {h : Heap} {g : Array GenState} {d : Drawn} {t : Nat} {os : OsState} {nameV : Value} {Q : Unit → Shared → Prop} (L0 : Looks M h (typeOf (.ref y)) (.ref C)) (L1 : Looks M h (isSubtype (.ref C) (.type "BaseException")) true)
    (hq : Q () ⟨h, g, d, t, os⟩) : wpAny M A (checkBuiltinCall "BaseException.__getattribute__" ⟨[.ref y, nameV], []⟩) Q E ⟨h, g, d, t, os⟩ := by
  have hk : builtinKind "BaseException.__getattribute__" = some .slot := by decide +kernel
  have hsplit : splitId "BaseException.__getattribute__" = some ("BaseException", "__getattribute__") := by decide +kernel
  have ha := PySem.F.args_bexc_ga (.ref y) nameV
  simp only [checkBuiltinCall, hk, hsplit]
  refine wpAny_bind ?_
  unfold isInstance
  repeat (first | lk | wp_step)
  exact hq
theorem looks_find_data {M : Model} {h : Heap} {x C : Addr} {name : Str} {a g : Value} (X : K.In h) (ha : findIn K (.ref C) name = some (some a)) (hg : specialIn K a "__get__" = some (some g)) (hd : takesIn K a = some true) :
    Looks M h (Builtin.ObjectAttr.find (.ref x) (.ref C) name) (.bind g a) := by
  have L1 := looks_findIn (M := M) X ha
  have L2 : Looks M h (Builtin.ObjectAttr.getOf (some a)) (some g) := looks_specialIn X hg
  have L3 := looks_takesIn (M := M) X hd
  exact L1.andThen (L2.andThen ((show Looks M h (Builtin.ObjectAttr.dataDescriptor? (some a) (some g)) (some (g, a)) from L3.andThen .now).andThen (Looks.tag .now)))
theorem class_getx {R : Result → Shared → Prop} {tp : Value} (X : K.In s.heap) (L0 : Looks (model prog w) s.heap (typeOf (.ref y)) (.ref C)) (hm : mroIn K C (.type "object") = some true)
    (h : R (.ok (.ret (.ref C))) s) : codeAny (model prog w) A (.call (.builtin "getset_descriptor.__get__") ⟨[.builtin "object.__class__", .ref y, tp], []⟩) R s := by
  obtain ⟨hh, g, dr, t, os⟩ := s
  have L1 := looks_mroIn (M := model prog w) X hm
  refine codeAny_call_builtin KF.slot_gs.plain KF.entry_gs (KF.slot_gs.check _ _ _ _ _ _ _ _ KF.type_class (KF.args_gs _ _ _) ?_)
  unfold Builtin.«getset_descriptor.__get__» Builtin.Getset_descriptor.descrGet
  rw [dga_obj]
  refine wpAny_bind (wpAny_pure ?_)
  unfold Builtin.Getset_descriptor.descrGetter Builtin.Getset_descriptor.descrCheckInstance Builtin.Getset_descriptor.descrNameAndClass isInstance
  simp only [KF.owner_class]
  repeat lk
  refine ⟨Code.quiet_builtin _ (by decide +kernel), codeAny_builtin KF.entry_class ?_⟩
  unfold Builtin.«object.__class__» shownTypeOf
  repeat lk
  exact h
theorem exc_class {Q : Option Value → Shared → Prop} (F : XIs K C) (X : K.In s.heap) (L0 : Looks (model prog w) s.heap (typeOf (.ref y)) (.ref C)) (h : Q (some (.ref C)) { s with toks := s.toks + 1 }) : wpAny (model prog w) A (getAttr? (.ref y) "__class__") Q E s := by
  obtain ⟨hh, g, d, t, os⟩ := s
  have L1 := looks_findIn (M := model prog w) X F.ga
  have L2 := looks_find_data (M := model prog w) (x := y) X F.ca F.sp F.tk
  have L3 := looks_findIn (M := model prog w) X F.gh
  have L4 : Looks (model prog w) hh (isSubtype (.ref C) (.type "BaseException")) true := looks_subIn X F.sb
  have B1 := PySem.F.excAttr_ValueError.ga.bind (.ref y)
  unfold getAttr? getAttrBy? getAttrBy
  refine wpAny_bind (wpAny_mkText (wpAny_bind (wpAny_attempt (wpAny_holding (wpAny_bind (L0.at (wpAny_bind (L1.at ?_))))))))
  show wpAny _ _ (getAttrByItsOwn _ _ _ _ _ _) _ _ _
  unfold getAttrByItsOwn hookBefore
  refine wpAny_bind (L3.at ?_)
  refine wpAny_bind (wpAny_attempt (wpAny_holding ?_))
  show wpAny _ _ (boundAndCalled _ _ _) _ _ _
  unfold boundAndCalled
  refine wpAny_bind (wpAny_of_eq B1 ?_)
  refine wpAny_call (codeAny_call_builtin PySem.F.excAttr_ValueError.ga.plain PySem.F.entry_bexc_ga (exc_ga_check L0 L4 ?_))
  unfold Builtin.«object.__getattribute__»
  refine wpAny_bind (wpAny_pure ?_)
  refine wpAny_bind ?_
  repeat (first | with_reducible refine wpAny_call ?_ | lk | wp_step)
  refine class_getx (s := ⟨hh, g, d, t + 1, os⟩) X L0 F.ob ?_
  show wpAny _ _ _ _ _ _
  repeat (first | lk | wp_step)
  exact h
theorem kitx_exc (F : XIs K C) : KitX K (.ref y) (.ref C) (fun h => ∃ ob, h.get? y = some ob ∧ ob.cls = .ref C) where
  ty := fun _ _ _ ⟨_, h1, h2⟩ => h2 ▸ (Looks.ld h1).andThen .now
  it := fun _ _ X _ => by
    obtain ⟨cdD, hcD⟩ := Option.isSome_iff_exists.mp F.cl
    unfold clsIn at hcD
    split at hcD
    · rename_i c' d' cd' sl' ho
      intro A' Q' E' s' k q
      unfold isType loadHead
      exact wpAny_bind (wpAny_loadPart (k _ _ (X _ _ ho)) (wpAny_pure q))
    · cases hcD
  ne := fun h tp dd its n sl X htp => by
    obtain ⟨cdD, hcD⟩ := Option.isSome_iff_exists.mp F.cl
    refine Bool.eq_false_iff.mpr fun q => ?_
    have e : C = tp := Value.ref.inj (beq_iff_eq.mp q)
    subst e
    unfold clsIn at hcD
    split at hcD
    · rename_i c' d' cd' sl' ho
      have z := (X _ _ ho).symm.trans htp
      cases z
    · cases hcD
  ca := fun X ⟨_, h1, h2⟩ k => exc_class F X (h2 ▸ (Looks.ld h1).andThen .now) k
end
def isL (C y : Addr) (dct : Option Addr := none) : HO := .ext fun h => ∃ ob, h.get? y = some ob ∧ ob.cls = .ref C ∧ ob.dict = dct ∧ (∃ vs, ob.data = .fields vs) ∧ fld2 ob = some .none
theorem isL_ok {P : Program} {w : World} {H : Hp} {h : Heap} {C y : Addr} {dct : Option Addr} {ob : Obj} (e : h.get? y = some ob) (hc : ob.cls = .ref C) (hd : ob.dict = dct) (hv : ∃ vs, ob.data = .fields vs) (h2 : fld2 ob = some .none) : ObjOk P w H h y (isL C y dct) := ⟨⟨ob, e, hc, hd, hv, h2⟩, ⟨_, e⟩, fun _ _ ⟨o, e, c⟩ k => ⟨o, k _ e, c⟩⟩
theorem isL_cls {P : Program} {w : World} {H : Hp} {h : Heap} {C y : Addr} {dct : Option Addr} (x : ObjOk P w H h y (isL C y dct)) : ∃ ob, h.get? y = some ob ∧ ob.cls = .ref C := let ⟨⟨ob, e, c, _⟩, _⟩ := x; ⟨ob, e, c⟩
theorem call_isx {X : Cx} : CallR X (.builtin "isinstance") (fun xs H Q => ∃ y C c b, xs = [.ref y, c] ∧ (∃ dct, H y = some (isL C y dct)) ∧ XIs X.K C ∧ (∃ T, (c = .ref T ∧ kitOne X.K (.ref C) (.ref T) = some b)) ∧ Q (.bl b) H) := by
  intro pins s σ H xs us Q I r h
  obtain ⟨y, C, c, b, rfl, ⟨dct, hy⟩, F, ⟨T, rfl, e⟩, q⟩ := h
  obtain ⟨u, v, rfl, ru, rv⟩ := vals2 r
  cases ru
  cases rv
  exact kia_one (kitx_exc F) I.kIn (isL_cls (I.hok y _ hy)) e (fun z => nomatch z) fun tk => ⟨.bl b, H, I.tok tk, rfl, q⟩
theorem call_isxT {X : Cx} : CallR X (.builtin "isinstance") (fun xs H Q => ∃ y C T b, xs = [.ref y, .ty T] ∧ (∃ dct, H y = some (isL C y dct)) ∧ XIs X.K C ∧ kitOne X.K (.ref C) (.type T) = some b ∧ Q (.bl b) H) := by
  intro pins s σ H xs us Q I r h
  obtain ⟨y, C, T, b, rfl, ⟨dct, hy⟩, F, e, q⟩ := h
  obtain ⟨u, v, rfl, ru, rv⟩ := vals2 r
  cases ru
  have rv : v = Value.type T := rv
  subst rv
  exact kia_one (kitx_exc F) I.kIn (isL_cls (I.hok y _ hy)) e (fun z => nomatch z) fun tk => ⟨.bl b, H, I.tok tk, rfl, q⟩
section
variable {X : Cx}
theorem eqB_at {A : Around} {s : Shared} {xs : List V} {us : List Value} {x : V} {u : Value} {b : Bool} (hx : x = .bl b) (r : Vals xs us) (rx : RelV x u) (fx : ∀ y ∈ xs, ∃ c, y = .bl c) : ∀ y ∈ us.toArray, SeqAt.EqAt A s y u (decide (y = .bool b)) := by
  intro y hy
  have hy' : y ∈ us := by simpa using hy
  obtain ⟨j, hj, rfl⟩ := List.mem_iff_getElem.mp hy'
  have hj' : j < xs.length := by rw [r.length]; exact hj
  obtain ⟨v, e1, e2⟩ := r.get (i := j) (x := xs[j]) (by simp [hj'])
  have e1 : us[j] = v := by simpa [hj] using e1
  obtain ⟨c, ec⟩ := fx xs[j] (List.getElem_mem hj')
  have := eqAt_V (A := A) (s := s) e2 rx (by rw [ec]; rfl) (by rw [hx]; rfl)
  rw [e1]
  rw [ec] at e2 this
  subst hx
  cases e2
  have e : eqV (.bl c) (.bl b) = decide (Value.bool c = Value.bool b) := by
    show (c == b) = _
    cases c <;> cases b <;> rfl
  rw [e] at this
  exact this
theorem bools_rel : ∀ {bs : List Bool} {us : List Value}, Vals (bs.map V.bl) us → us = bs.map Value.bool
  | [], _, .nil => rfl
  | _ :: _, _, .cons r t => by
    cases r
    rw [List.map_cons, bools_rel t]
theorem mt_countB : MtR X "list.count" (fun x vs H Q => ∃ (l : Addr) (bs : List Bool) (b : Bool), x = .ref l ∧ vs = [.bl b] ∧ H l = some (.lst (bs.map V.bl)) ∧ Q (.int ((bs.count b : Nat) : Int)) H) := by
  intro pins s σ H x vs v us Q I rx rv h
  obtain ⟨l, bs, b, rfl, rfl, hl, q⟩ := h
  cases rx
  obtain ⟨u, rfl, ru⟩ := vals1 rv
  obtain ⟨its, r1, p1, _⟩ := I.list (SqL.of hl)
  obtain ⟨⟨cls, dd, data, sl⟩, ho, hc, n, hd⟩ := id p1.isList
  simp only at hc hd
  subst hc hd
  refine call_meets PySem.F.slot_list_count ⟨_, ho, rfl⟩ PySem.F.entry_list_count (PySem.F.args_list_count_2 _ _) (SeqAt.list_countAt l its.toArray n dd sl u (fun y => decide (y = .bool b))) ⟨ho, eqB_at rfl r1 ru (fun y hy => by obtain ⟨c, _, rfl⟩ := List.mem_map.mp hy; exact ⟨c, rfl⟩), ?_⟩
  have e : (its.toArray.toList.countP fun y => decide (y = Value.bool b)) = bs.count b := by
    rw [bools_rel r1]
    show List.countP _ (bs.map Value.bool) = _
    rw [List.countP_map]
    unfold List.count
    congr 1
    funext c
    show decide (Value.bool c = Value.bool b) = (c == b)
    cases c <;> cases b <;> rfl
  rw [e]
  exact ⟨.int _, H, I.tok _, ⟨_, rfl⟩, q⟩
theorem mt_indexB : MtR X "list.index" (fun x vs H Q => ∃ (l : Addr) (bs : List Bool) (b : Bool) (j : Nat), x = .ref l ∧ vs = [.bl b] ∧ H l = some (.lst (bs.map V.bl)) ∧ bs[j]? = some b ∧ (∀ k, k < j → bs[k]? = some (!b)) ∧ j < 1000 ∧ Q (.int (j : Int)) H) := by
  intro pins s σ H x vs v us Q I rx rv h
  obtain ⟨l, bs, b, j, rfl, rfl, hl, hj, hno, hs, q⟩ := h
  cases rx
  obtain ⟨u, rfl, ru⟩ := vals1 rv
  obtain ⟨its, r1, p1, _⟩ := I.list (SqL.of hl)
  obtain ⟨⟨cls, dd, data, sl⟩, ho, hc, n, hd⟩ := id p1.isList
  simp only at hc hd
  subst hc hd
  have ei := bools_rel r1
  have hlen : its.length = bs.length := by rw [ei, List.length_map]
  have hjl : j < bs.length := (List.getElem?_eq_some_iff.mp hj).1
  refine call_meets PySem.F.slot_list_index ⟨_, ho, rfl⟩ PySem.F.entry_list_index (PySem.F.args_list_index_2 _ _) (SeqAt.list_indexAt l its.toArray n dd sl u (fun y => decide (y = .bool b)) j (by simpa [hlen] using hjl) (by omega) ?_ ?_) ⟨ho, eqB_at rfl r1 ru (fun y hy => by obtain ⟨c, _, rfl⟩ := List.mem_map.mp hy; exact ⟨c, rfl⟩), ?_⟩
  · have : bs[j] = b := (List.getElem?_eq_some_iff.mp hj).2
    simp [ei, this]
  · intro m hm hmj
    have h1 := hno m hmj
    have h2 : m < bs.length := (List.getElem?_eq_some_iff.mp h1).1
    have : bs[m] = !b := (List.getElem?_eq_some_iff.mp h1).2
    simp only [ei, List.getElem_toArray, List.getElem_map, this]
    cases b <;> rfl
  · exact ⟨.int _, H, I.tok _, ⟨_, rfl⟩, q⟩
end
end L2

namespace L2
open PySem PySem.Calls PySem.Spec PyProof.Rows PySem.W
section
variable {X : Cx} {pins : List (Addr × Obj)} {σ : St} {H H' : Hp} {s s' : Shared} {y : Addr} {cls : Value} {dct : Option Addr}
def hX (X : Cx) (y : Addr) : Cx := { X with A := X.A.mark (some (.ref y)), calm := false, xe := fun _ _ => False }
theorem Inv.hand (I : Inv X pins σ H s) (y : Addr) : Inv (hX X y) pins σ H s :=
  ⟨⟨I.ok.mod, I.ok.kind, I.ok.glob, I.ok.blt, I.ok.above, I.ok.inj, I.ok.has, I.ok.cab, fun z => (nomatch z), I.ok.frames, I.ok.stk, I.ok.exf, I.ok.bs, I.ok.bsz, I.ok.noex, I.ok.exfs, I.ok.funs, I.ok.frf⟩, I.os, I.bare, I.base, I.loc, I.cell, I.free, I.freeC, I.pin, I.hok, I.len⟩
theorem Inv.unhand (ok : X.Ok) (I : Inv (hX X y) pins σ H s) : Inv X pins σ H s := ⟨ok, I.os, I.bare, I.base, I.loc, I.cell, I.free, I.freeC, I.pin, I.hok, I.len⟩
theorem fly_inv {s1 : Shared} {H1 : Hp} (I : Inv X pins σ H1 s1) (fl : FlyX X.prog X.w X.stack H1 H' s1 s' y cls dct) : Inv X pins σ H' s' := by
  obtain ⟨v, H2, I2, _, e⟩ := I.after (Q := fun _ H2 => H2 = H') (u := .none) ⟨.non, H', fl.os, fl.bare, fl.un, fl.hok, rfl, rfl⟩
  subst e
  exact I2
theorem FlyX.slots {P : Program} {w : World} {outer : List Env} (fl : FlyX P w outer H H' s s' y cls dct) :
    ∃ B a0, Heap.FlyingW B outer y cls a0 s'.heap ∧ ∀ h6, Heap.FlyingW B outer y cls a0 h6 → s'.heap.UpToSlots h6 → KeepD s'.heap h6 → FlyX P w outer H H' s { s' with heap := h6 } y cls dct := by
  obtain ⟨B, a0, hf, hok, kb, cov⟩ := fl.ex
  have hdk : ∀ h6, KeepD s'.heap h6 → ∃ oe, h6.get? y = some oe ∧ oe.dict = dct ∧ fld2 oe = some .none := fun h6 kd => by
    obtain ⟨o0, e0, ed, ef⟩ := fl.dict
    obtain ⟨oe, e1, _, e2, e3⟩ := kd _ _ e0
    exact ⟨oe, e1, e2.trans ed, e3.trans ef⟩
  refine ⟨B, a0, hf, fun h6 hf6 up kd => ⟨hdk h6 kd, fl.os, fl.bare, fl.new, ⟨B, a0, hf6, hok, kb, cov⟩, fun b o e n hb => ?_, fl.free, fl.tups, fl.frzs, fl.tbls⟩⟩
  obtain ⟨sl2, e2⟩ := fl.slot b o e n hb
  obtain ⟨_, o', e3, nf⟩ := hf.2.2.1.mem hb
  rw [e2] at e3
  cases e3
  obtain ⟨sl3, e4⟩ := up b _ e2 nf
  exact ⟨sl3, e4⟩
def XL (X : Cx) (pins : List (Addr × Obj)) (σ : St) (E : XK) : Value → Shared → Prop := fun e s' => ∃ H1 s1, Inv X pins σ H1 s1 ∧ CXr X.prog X.w X.stack H1 s1 E e s'
def PEx (X : Cx) (e : Expr) (t : XK → TE) : Prop :=
  ∀ (E : XK) (pins : List (Addr × Obj)) (s : Shared) (σ : St) (H : Hp) (Q : VK), Inv X pins σ H s → t E σ H Q → wpAny (model X.prog X.w) X.A (eval e X.env) (EP X pins σ Q) (XL X pins σ E) s
def PSx (X : Cx) (st : Stmt) (t : XK → TS) : Prop :=
  ∀ (E : XK) (pins : List (Addr × Obj)) (s : Shared) (σ : St) (H : Hp) (D : Ends), Inv X pins σ H s → t E D σ H → wpAny (model X.prog X.w) X.A (exec st X.env) (SP X pins D) (XL X pins σ E) s
variable {k : Nat} {x : Str} {ps : List Str} {sp : Sp} {p pos : Pos} {e : Expr} {es : List Expr} {t : TA} {te : XK → TE}
theorem pex_kn (h : KnX X.prog X.w X.K X.mg X.base k x ps sp) (hr : Room k X.A) (ha : PA X.nox (e :: es) t) (hg : Gl X x := by rfl)
    (hdb : (x == ("__debug__" : Str)) = false := by decide) (he : starEach (e :: es) X.env = (false, eval e X.env) :: starEach es X.env := by rfl) (hpl : (backTo pos (starEach es X.env)).any (·.1) = false := by rfl) :
    PEx X (.Call (.Name x p) (e :: es) [] pos) (fun E => tCall sp [] E t) := by
  obtain ⟨f, fd, F, hm, hk, hb⟩ := h.ex
  intro E pins s σ H Q I h
  refine wpAny_Call_Name_kw (ld_glob I hg hm ?_ hdb)
  refine callWith_K (h₀ := X.base) I.ok.mod.kin hk (wpAny_mono (ha pos pins s σ H _ (I.wish _) h) (fun us s1 z => ?_) fun _ _ z => z.elim) he hpl
  obtain ⟨vs, H1, I1w, r, q⟩ := z
  have I1 : Inv X pins σ H1 s1 := I1w.unwish
  refine ⟨I1.kIn, ?_⟩
  have r2 : Vals (vs ++ []) (us ++ []) := r.append .nil
  have hl : (us ++ ([] : List Value)).length = ps.length := by rw [← r2.length]; exact F.len _ _ _ _ q
  refine wpAny_call (codeAny_mono (F.run X.A X.stack s1 H1 ⟨us, []⟩ (us ++ []) (vs ++ []) Q E hr I1.env0 (hb s1 us I1.kIn hl) r2 q) fun r s' hq => ?_)
  cases r with
  | error e => exact ⟨H1, s1, I1, hq⟩
  | ok fl =>
    cases fl with
    | ret u => exact I1.after hq
    | next => exact False.elim hq
    | brk => exact False.elim hq
    | cont => exact False.elim hq
theorem psx_expr (he : PEx X e te) (hs : swapsWith e none pos.line X.env = pure false := by rfl) : PSx X (.Expr e pos) (fun E => tDrop (te E)) := by
  intro E pins s σ H D I h
  exact wpAny_Expr_any (thn (he E pins s σ H _ I h) fun v s1 ⟨x, H1, I1, r1, q1⟩ => ⟨σ, H1, I1, q1⟩) I.quiet hs
theorem name_gone {M : Model} {A : Around} {E : Value → Shared → Prop} {i : Nat} {n : Str} {pos : Pos} {Q : Unit → Shared → Prop} (I : Inv X pins σ H s) (hN : X.N.Nodup) (hi : X.N[i]? = some n) (hk : X.env.scope.names.lookup n = some .local)
    (h : ∀ s', Inv X pins (σ.set i none) H s' → Q () s') : wpAny M A (do bindName X.env n .none; unbindBehindTheSuite X.env n pos) Q E s := by
  obtain ⟨m, hn, hl⟩ := id I.loc
  have hcls : (X.env.scope.kind == .class || (X.env.scope.kind == .module && X.env.locals != X.env.globals)) = false := by rw [I.ok.kind]; rfl
  have hiσ : i < σ.length := by rw [I.len]; exact (List.getElem?_eq_some_iff.mp hi).1
  have cne := I.cne
  obtain ⟨oL, _, _, hoL, _⟩ := id hn
  refine wpAny_nameGoes_keeps hk hn hcls fun h' v hn' hs => ?_
  have low : ∀ b o, X.s₀.heap.get? b = some o → b ≠ X.env.locals := fun b o e => Nat.ne_of_lt (Nat.lt_of_lt_of_le (Heap.lt_size e) I.ok.above)
  refine h _ ⟨I.ok, I.os, I.bare, ⟨fun b o e n hb hx => ?_, fun b o e n hb hx => ?_, I.base.free, fun b o e hx => ?_, I.base.tups, I.base.frzs, I.base.tbls⟩, ⟨_, hn', fun j z v' e1 e2 e3 => ?_⟩, fun z c e => ?_, I.free, I.freeC, fun p hp => ?_, fun b ob e => ?_, by simpa using I.len⟩
  · exact (hs.2 b (low b o e)).trans (I.base.keep b o e n hb hx)
  · obtain ⟨sl, e1⟩ := I.base.slot b o e n hb hx
    exact ⟨sl, (hs.2 b (low b o e)).trans e1⟩
  · obtain ⟨o', e1⟩ := I.base.there b o e hx
    exact ⟨o', (hs.2 b (low b o e)).trans e1⟩
  · by_cases hj : j = i
    · subst hj
      rw [List.getElem?_set_self hiσ] at e2
      cases e2
    · rw [List.getElem?_set_ne (Ne.symm hj)] at e2
      obtain ⟨u', r', q⟩ := hl j z v' e1 e2 e3
      refine ⟨u', r', ?_⟩
      rcases q with ⟨k, e⟩ | ⟨k, c, e, w⟩
      · refine .inl ⟨k, ?_⟩
        have : z ≠ n := fun e => hj (nodup_ix hN e1 (e ▸ hi))
        simp [this, e]
      · exact .inr ⟨k, c, e, w.sameBut hs (cne z c e)⟩
  · obtain ⟨w', z⟩ := I.cell z c e
    exact ⟨w', z.sameBut hs (cne _ c e)⟩
  · obtain ⟨e, n, ne, nf, d⟩ := I.pin p hp
    exact ⟨(hs.2 p.1 ne).trans e, n, ne, nf, d⟩
  · refine (I.hok b ob e).stay (fun c w' hc q => (hs.2 c ?_).trans q) (fun _ q => q) fun _ _ q => q
    rintro rfl
    rcases hc with z | hc
    · rw [← z, I.free] at e; cases e
    · rw [I.free] at hc; cases hc
variable {st b₀ : Stmt} {suite : List Stmt} {i : Nat} {n c : Str} {pc hpos : Pos} {W : Addr} {tb : XK → TS} {th : TS}
def tTry (K : Frag) (W : Addr) (i : Nat) (tb : XK → TS) (th : TS) : TS := fun D σ H => tb (fun cls dct H' => ∃ C, cls = .ref C ∧ exmOne K (.ref C) (.ref W) = some true ∧ ∀ y, H' y = none →
  th { nx := fun σ2 H2 => D.nx (σ2.set i none) H2, rt := D.rt, bk := fun σ2 H2 => D.bk (σ2.set i none) H2, ct := fun σ2 H2 => D.ct (σ2.set i none) H2 } (σ.set i (some (.ref y))) (upd H' y (isL C y dct))) D σ H
end
end L2

namespace L2
open PySem PySem.Calls PySem.Spec PyProof.Rows PySem.W
structure RoomH (k : Nat) (A : Around) : Prop where
  dp : A.depth + 3 * k + 5 < recursionLimit
  un : A.units + 16 * k + 200 < cLine
theorem Room.toH {k : Nat} {A : Around} (r : Room k A) (h : Option Value) : RoomH k (A.mark h) := ⟨r.dp, r.un⟩
theorem RoomH.mono {j k : Nat} {A : Around} (r : RoomH k A) (h : j ≤ k) : RoomH j A := ⟨by have := r.dp; omega, by have := r.un; omega⟩
theorem RoomH.deeper {k : Nat} {A : Around} (r : RoomH (k + 1) A) (env : Env) : RoomH k (A.deeper env) :=
  ⟨by have := r.dp; show A.depth + 1 + 3 * k + 5 < _; omega, by have := r.un; show A.units + 3 + 16 * k + 200 < _; omega⟩
def cxH (P : Program) (w : World) (K : Frag) (mg : Str → Option Value) (base : Heap) (N : List Str) (qual : Str) (scope : Scope) (f : Addr) (cd : Value) (A : Around) (outer : List Env) (s : Shared) (H : Hp) : Cx :=
  { cxOf CX0 P w K mg base N qual scope f cd A outer s H E0 with calm := false, xe := fun _ _ => False }
structure FnOkH (P : Program) (w : World) (K : Frag) (mg : Str → Option Value) (base : Heap) (k : Nat) (f : Addr) (fd : FuncData) (ps : List Str) (sp : Sp) : Prop where
  len : ∀ vs H Q E, sp vs H Q E → vs.length = ps.length
  run : ∀ (A : Around) (outer : List Env) (s : Shared) (H : Hp) (args : Args) (us : List Value) (vs : List V) (Q : VK), RoomH k A → Env0 P w K mg base A outer s H → BindsTo s fd args (ps.zip us) → Vals vs us → sp vs H Q E0 →
    codeAny (model P w) A (.call (.ref f) args) (CR CX0 outer P w H s Q E0) s
theorem inv_startH {P : Program} {w : World} {K : Frag} {mg : Str → Option Value} {base : Heap} {N ps : List Str} {qual : Str} {scope : Scope} {f : Addr} {cd : Value} {A : Around} {outer : List Env} {s s1 : Shared} {H : Hp} {us : List Value} {vs : List V}
    (S : FnScope N ps scope) (e0 : Env0 P w K mg base A outer s H) (hl : vs.length = ps.length) (r : Vals vs us)
    (x : InCallC s s.heap.objs.size (bindL (envOfC qual scope s.heap.objs.size f cd).kindOf (ps.zip us) fun _ => none) (cellsFrom (s.heap.objs.size + 1) scope.names []) (bindC (envOfC qual scope s.heap.objs.size f cd).kindOf (ps.zip us) fun _ => none) s1) :
    Inv (cxH P w K mg base N qual scope f cd A outer s H) [] (start N vs) H s1 := by
  have e0' : Env0 P w K mg base { A with handled := none } outer s H := ⟨e0.frames, e0.mod, e0.bs, e0.bsz, e0.funs, e0.frf, e0.hok, e0.bare⟩
  have I := inv_start (CX := CX0) (A := { A with handled := none }) (E := E0) (qual := qual) (f := f) (cd := cd) S rfl e0' hl r x
  exact ⟨⟨I.ok.mod, I.ok.kind, I.ok.glob, I.ok.blt, I.ok.above, I.ok.inj, I.ok.has, I.ok.cab, fun z => (nomatch z), I.ok.frames, I.ok.stk, I.ok.exf, I.ok.bs, I.ok.bsz, I.ok.noex, I.ok.exfs, I.ok.funs, I.ok.frf⟩, I.os, I.bare, I.base, I.loc, I.cell, I.free, I.freeC, I.pin, I.hok, I.len⟩
theorem fn_ofH {P : Program} {w : World} {K : Frag} {mg : Str → Option Value} {base : Heap} {k : Nat} {f : Addr} {name qual : Str} {params : Arguments} {body : List Stmt} {scope : Scope} {dV kV doc pm cdv ct oc : Value} {an od : Option Addr}
    {osl : Array (Option Value)} {N ps : List Str} {sp : Sp} (lk : K.lookup f = some ⟨oc, od, .func (fnOf name qual params body scope dV kV doc pm an cdv ct), osl⟩) (hcd : codeIn K cdv qual = true) (S : FnScope N ps scope)
    (len : ∀ vs H Q E, sp vs H Q E → vs.length = ps.length)
    (hbody : ∀ (A : Around) (outer : List Env) (s : Shared) (H : Hp) (vs : List V) (Q : VK), RoomH k (A.deeper (envOfC qual scope s.heap.objs.size f cdv)) → sp vs H Q E0 →
      ∃ t, PSs (cxH P w K mg base N qual scope f cdv A outer s H) body t ∧ t { nx := fun _ H' => Q .non H', rt := Q } (start N vs) H) :
    FnOkH P w K mg base (k + 1) f (fnOf name qual params body scope dV kV doc pm an cdv ct) ps sp := by
  refine ⟨len, fun A outer s H args us vs Q hr e0 hb r hsp => ?_⟩
  have hl := len _ _ _ _ hsp
  have KX : K.In s.heap := e0.mod.kin.keeps fun b o e => (e0.bs b o e).1
  have lim : s.heap.NoLimit := e0.mod.nolimit.keeps fun b o e => (e0.bs b o e).1
  have hkind : ∀ y ∈ ps.zip us, scope.names.lookup y.1 = some .local ∨ (scope.names.lookup y.1 = some .cell ∧ ((cellsFrom (s.heap.objs.size + 1) scope.names []).lookup y.1).isSome = true) := fun ⟨n, v⟩ hy => by
    rcases S.par n (List.of_mem_zip hy).1 with q | q
    · exact .inl q
    · exact .inr ⟨q, cellsFrom_some _ _ _ (.inl q)⟩
  have hdepth : A.depth < recursionLimit := by have := hr.dp; omega
  refine codeAny_call_function hdepth (KX _ _ lk) rfl S.co S.gen rfl (codeRec_of KX hcd) (hb _ _ _ _ ?_)
  refine wpAny_newFunctionEnv_cells S.kind hkind fun env he s1 x => ?_
  subst he
  refine ⟨lim.keeps x.toInCall.keep, codeAny_func ?_⟩
  obtain ⟨t, ht, hq⟩ := hbody A outer s H vs Q (hr.deeper _) hsp
  have I : Inv (cxH P w K mg base N qual scope f cdv A outer s H) [] (start N vs) H s1 := inv_startH S e0 hl r x
  refine wpAny_mono (ht [] s1 (start N vs) H _ I hq) (fun fl s' hs => ?_) fun e s' hs => hs.elim
  have fin : ∀ {σ' : St} {H' : Hp} {v : V} {u : Value}, Inv (cxH P w K mg base N qual scope f cdv A outer s H) [] σ' H' s' → RelV v u → Q v H' → CE outer P w H s Q u s' :=
    fun {σ' H' v u} J rv q => ⟨v, H', J.os, J.bare, J.base, J.hok, rv, q⟩
  cases fl with
  | ret u =>
    obtain ⟨v, σ', H', J, rv, q⟩ := hs
    exact fin J rv q
  | next =>
    obtain ⟨σ', H', J, q⟩ := hs
    exact fin (v := V.non) (u := Value.none) J rfl q
  | brk =>
    obtain ⟨_, _, _, q⟩ := hs
    exact False.elim q
  | cont =>
    obtain ⟨_, _, _, q⟩ := hs
    exact False.elim q
structure KnH (P : Program) (w : World) (K : Frag) (mg : Str → Option Value) (base : Heap) (k : Nat) (x : Str) (ps : List Str) (sp : Sp) : Prop where
  ex : ∃ (f : Addr) (fd : FuncData), FnOkH P w K mg base k f fd ps sp ∧ mg x = some (.ref f) ∧ keepIn K (.ref f) = true ∧ Binds K fd ps []
theorem DefAt.knH {P : Program} {w : World} {K : Frag} {mg : Str → Option Value} {base : Heap} {k : Nat} {x : Str} {st : Stmt} {N ps : List Str} {sp : Sp} (D : DefAt K mg x st ps) (S : FnScope N ps (defScope st)) (len : ∀ vs H Q E, sp vs H Q E → vs.length = ps.length)
    (hbody : ∀ (f : Addr) (cdv : Value) (A : Around) (outer : List Env) (s : Shared) (H : Hp) (vs : List V) (Q : VK), RoomH k (A.deeper (envOfC x (defScope st) s.heap.objs.size f cdv)) → sp vs H Q E0 →
      ∃ t, PSs (cxH P w K mg base N x (defScope st) f cdv A outer s H) (defBody st) t ∧ t { nx := fun _ H' => Q .non H', rt := Q } (start N vs) H) : KnH P w K mg base (k + 1) x ps sp := by
  obtain ⟨f, fd, F, hm, hb⟩ := D.ex
  obtain ⟨oc, od, kV, doc, pm, an, cdv, ct, osl, rfl, lk, hcd⟩ := F.ex
  exact ⟨f, _, fn_ofH lk hcd S len fun A outer s H vs Q hr h => hbody f cdv A outer s H vs Q hr h, hm, F.kp, hb⟩
section
variable {X : Cx} {k : Nat} {x : Str} {ps : List Str} {sp : Sp} {p pos : Pos} {e : Expr} {es : List Expr} {t : TA}
theorem pe_knH (h : KnH X.prog X.w X.K X.mg X.base k x ps sp) (hr : RoomH k X.A) (ha : PA X (e :: es) t) (hg : Gl X x := by rfl)
    (hdb : (x == ("__debug__" : Str)) = false := by decide) (he : starEach (e :: es) X.env = (false, eval e X.env) :: starEach es X.env := by rfl) (hpl : (backTo pos (starEach es X.env)).any (·.1) = false := by rfl) :
    PE X (.Call (.Name x p) (e :: es) [] pos) (tCall sp [] E0 t) := by
  obtain ⟨f, fd, F, hm, hk, hb⟩ := h.ex
  intro pins s σ H Q I h
  refine wpAny_Call_Name_kw (ld_glob I hg hm ?_ hdb)
  refine callWith_K (h₀ := X.base) I.ok.mod.kin hk (thn (ha pos pins s σ H _ I h) fun us s1 ⟨vs, H1, I1, r, q⟩ => ⟨I1.kIn, ?_⟩) he hpl
  have r2 : Vals (vs ++ []) (us ++ []) := r.append .nil
  have hl : (us ++ ([] : List Value)).length = ps.length := by rw [← r2.length]; exact F.len _ _ _ _ q
  refine wpAny_call (codeAny_mono (F.run X.A X.stack s1 H1 ⟨us, []⟩ (us ++ []) (vs ++ []) Q hr I1.env0 (hb s1 us I1.kIn hl) r2 q) fun r s' hq => ?_)
  cases r with
  | error e => exact hq.elim
  | ok fl =>
    cases fl with
    | ret u => exact I1.after hq
    | next => exact False.elim hq
    | brk => exact False.elim hq
    | cont => exact False.elim hq
end
end L2

namespace L2
open PySem PySem.Calls PySem.Spec PyProof.Rows PySem.W PySem.Builtin PySem.Builtin.ObjectAttr
def isN (D : Addr) (fs : List (Str × V)) : HO := .ext fun h => ∃ mA, h.Ns1 D mA ∧ ∀ f, RelO (fs.lookup f) (mA f)
theorem isN_ok {P : Program} {w : World} {H : Hp} {h : Heap} {D : Addr} {fs : List (Str × V)} {mA : Str → Option Value} (n : h.Ns1 D mA) (r : ∀ f, RelO (fs.lookup f) (mA f)) : ObjOk P w H h D (isN D fs) :=
  ⟨⟨mA, n, r⟩, let ⟨o, _, _, e, _⟩ := n; ⟨o, e⟩, fun _ _ ⟨m, n, r⟩ k => ⟨m, n.at k, r⟩⟩
def onlyVE : List Value → Bool
  | .ref _ :: r => onlyVE r
  | l => l == [.type "ValueError", .type "Exception", .type "BaseException", .type "object"]
def veOver (K : Frag) (C : Addr) : Bool := (clsIn K C).any fun cd => onlyVE cd.mro
theorem VE_of : ∀ {l : List Value}, onlyVE l = true → (∃ c r, l = .ref c :: r ∧ onlyVE r = true) ∨ l = [.type "ValueError", .type "Exception", .type "BaseException", .type "object"] := by
  intro l e
  unfold onlyVE at e
  split at e
  · exact .inl ⟨_, _, rfl, e⟩
  · exact .inr (beq_iff_eq.mp e)
theorem refuse_VE (self : Value) : ∀ (l : List Value), onlyVE l = true → refuseLoop self "__setattr__" l = pure ()
  | [], e => by cases e
  | a :: r, e => by
    rcases VE_of e with ⟨c, r', q, e'⟩ | q
    · cases q
      rw [refuseLoop_ref]
      exact refuse_VE self r e'
    · rw [q]
      exact PySem.F.store_ValueError.passes self
theorem VE_has : ∀ (l : List Value), onlyVE l = true → l.contains (.type "object") = true
  | [], e => by cases e
  | a :: r, e => by
    rcases VE_of e with ⟨c, r', q, e'⟩ | q
    · cases q
      rw [List.contains_cons, VE_has r e', Bool.or_true]
    · rw [q]
      decide
structure XSet (K : Frag) (C : Addr) : Prop where
  sa : findIn K (.ref C) "__setattr__" = some (some (.builtin "object.__setattr__"))
  hd : hasDictIn K C = true
  ov : veOver K C = true
section
variable {prog : Program} {w : World} {A : Around} {E : Value → Shared → Prop} {s : Shared} {K : Frag} {x C : Addr} {ox : Obj} {od : Option Obj} {name : Str} {v : Value} {Q : Unit → Shared → Prop}
theorem setattr_x (F : XSet K C) (X : K.In s.heap) (J : InstAt s.heap x ox C od) (hn : findIn K (.ref C) name = some none)
    (h : wpAny (model prog w) A.in1 (storeInOwnDict (.ref x) (.ref C) (.str name s.toks) name v false) (fun fin s' => match fin with | .done (.ret _) => Q () s' | _ => False) E { s with toks := s.toks + 1 }) :
    wpAny (model prog w) A (setAttr (.ref x) name v) Q E s := by
  have SF := PySem.F.store_object
  obtain ⟨cd, hc, ho⟩ := any_some F.ov
  have ne : cd.mro.isEmpty = false := by
    cases q : cd.mro with
    | nil => rw [q] at ho; cases ho
    | cons _ _ => rfl
  have sub : Looks (model prog w) s.heap (isInstance (.ref x) (.type "object")) true := J.type.andThen (looks_mroIn X (by unfold mroIn; rw [hc, Option.bind_some, if_neg (by rw [ne]; decide), VE_has _ ho]))
  have hm : Looks (model prog w) s.heap (mroOf (.ref C)) cd.mro := (looks_clsIn X hc).andThen .now
  have J2 : Looks (model prog w) s.heap (typeOf (.ref x)) (.ref C) := J.type
  have L2 := looks_findIn (M := model prog w) X hn
  refine set_plain X J F.sa ?_
  refine codeAny_call_builtin SF.slot.plain SF.entry (@check_slot (model prog w) _ _ { s with toks := s.toks + 1 } "object.__setattr__" "object" "__setattr__" (.ref x) [.str name s.toks, v] [] _ SF.kind SF.split sub (SF.args (.ref x) (.str name s.toks) v) ?_)
  rw [osa_eq, refuse_eq]
  refine wpAny_bind (wpAny_bind (Looks.here (s := { s with toks := s.toks + 1 }) J2 (wpAny_bind (Looks.here (s := { s with toks := s.toks + 1 }) hm ?_))))
  rw [refuse_VE _ _ ho]
  refine wpAny_pure (wpAny_bind (Looks.here (s := { s with toks := s.toks + 1 }) J2 (wpAny_bind (Looks.here (s := { s with toks := s.toks + 1 }) L2 (wpAny_bind (wpAny_pure ?_))))))
  refine wpAny_mono h (fun fin s' z => ?_) fun e s' z => z
  rcases fin with (_ | _ | _ | _) | _ <;> first | exact z | exact z.elim
end
section
variable {X : Cx} {pins : List (Addr × Obj)} {σ : St} {H : Hp} {s : Shared} {y C D : Addr} {fs : List (Str × V)} {f : Str} {v : V} {u : Value} {A : Around} {E : Value → Shared → Prop} {Q : Unit → Shared → Prop}
theorem relO_put {mA : Str → Option Value} (r : ∀ f, RelO (fs.lookup f) (mA f)) (ru : RelV v u) (g : Str) : RelO ((putF f v fs).lookup g) (if g = f then some u else mA g) := by
  rw [lookup_putF]
  by_cases q : g = f
  · rw [if_pos q, if_pos q]; exact ru
  · rw [if_neg q, if_neg q]; exact r g
theorem setx0 (I : Inv X pins σ H s) (hy : H y = some (isXo C y none)) (F : XSet X.K C) (n : NoAttr X.K C f) (ru : RelV v u)
    (h : ∀ D s', H D = none → D ≠ y → Inv X pins σ (upd (upd H D (isN D [(f, v)])) y (isXo C y (some D))) s' → Q () s') : wpAny (model X.prog X.w) A (setAttr (.ref y) f u) Q E s := by
  obtain ⟨t, hx⟩ := I.isXo hy
  obtain ⟨cd, hc, hd'⟩ := any_some F.hd
  refine setattr_x F I.kIn (od := none) ⟨hx, rfl, rfl, trivial⟩ n ?_
  have hx1 : (s.heap.push emptyDict).get? y = some { cls := .ref C, dict := none, data := .fields #[.ref t, .none, .none, .none, .bool false, .none] } := Heap.get?_push_of_some _ hx
  have hys : y ≠ s.heap.objs.size := Nat.ne_of_lt (Heap.lt_size hx)
  have hDn : H s.heap.objs.size = none := I.hok.fresh (Nat.le_refl _)
  have hx2 : ((s.heap.push emptyDict).update y fun o => { o with dict := some s.heap.objs.size }).get? y = some { cls := .ref C, dict := some s.heap.objs.size, data := .fields #[.ref t, .none, .none, .none, .bool false, .none] } := Heap.get?_update_self _ hx1 rfl
  have hD1 : (s.heap.push emptyDict).get? s.heap.objs.size = some emptyDict := Heap.get?_push_size s.heap rfl
  have e3 : (s.heap.push emptyDict).Ns s.heap.objs.size (fun _ => none) := ⟨emptyDict, #[], _, hD1, rfl, (fun e he => absurd he (by simp)), fun _ => rfl⟩
  have I1 : Inv X pins σ (upd H s.heap.objs.size (isN s.heap.objs.size [])) { s with heap := s.heap.push emptyDict } := I.laid (t' := s.toks) (fun b o q => Heap.get?_push_of_some _ q) (Nat.le_refl _) (isN_ok (Heap.Ns1.of_empty e3) fun _ => True.intro)
  have hy1 : upd H s.heap.objs.size (isN s.heap.objs.size []) y = some (isXo C y none) := by rw [upd_ne hys]; exact hy
  have I2 : Inv X pins σ (upd (upd H s.heap.objs.size (isN s.heap.objs.size [])) y (isXo C y (some s.heap.objs.size))) { s with heap := (s.heap.push emptyDict).update y fun o => { o with dict := some s.heap.objs.size }, toks := s.toks + 1 } :=
    I1.write (x := y) (e := y) (by rw [hy1]; trivial) (.inl rfl) (fun b o hb q => (Heap.get?_update_other _ _ (Ne.symm hb)).trans q) ⟨_, hx2⟩ (isXo_ok hx2)
  have hD2 : ((s.heap.push emptyDict).update y fun o => { o with dict := some s.heap.objs.size }).Ns1 s.heap.objs.size (fun _ => none) := (Heap.Ns1.of_empty e3).at fun o q => (Heap.get?_update_other _ _ hys).trans q
  refine wpAny_bind (wpAny_pure (wpAny_bind (wpAny_bind (wpAny_loadPart (s := { s with toks := s.toks + 1 }) hx (wpAny_bind (Looks.here (s := { s with toks := s.toks + 1 }) (looks_clsIn I.kIn hc) ?_))))))
  rw [hd']
  refine wpAny_bind (wpAny_alloc (s := { s with toks := s.toks + 1 }) ?_)
  refine wpAny_bind (wpAny_update (s := { s with heap := s.heap.push emptyDict, toks := s.toks + 1 }) hx1 ?_)
  refine wpAny_pure (a := some s.heap.objs.size) (wpAny_bind (wpAny_pure (wpAny_bind ?_)))
  refine wpAny_nsSet1 (s := { s with heap := (s.heap.push emptyDict).update y fun o => { o with dict := some s.heap.objs.size }, toks := s.toks + 1 }) hD2 fun h' hn2 hs2 => ?_
  obtain ⟨oD, esD, epD, hoD, hdD, hcD⟩ := hn2.count (PySem.Within.cons f u PySem.Within.nil)
  refine wpAny_bind (wpAny_lookBehind hoD (by rw [hdD]; exact pastItsLine_dict (Nat.le_trans hcD (by rw [List.length_cons, List.length_nil, sizeLine_eq]; omega))) ?_)
  have mu : Mut (upd (upd H s.heap.objs.size (isN s.heap.objs.size [])) y (isXo C y (some s.heap.objs.size)) s.heap.objs.size) := by rw [upd_ne (Ne.symm hys), upd_same]; trivial
  have I3 := I2.write (x := s.heap.objs.size) (e := s.heap.objs.size) (o := isN s.heap.objs.size [(f, v)]) (h' := h') (t' := s.toks + 1 + 1) mu (.inl rfl) (fun b o hb q => (hs2.2 b hb).trans q) ⟨_, hoD⟩ (isN_ok hn2 fun g => relO_put (fs := []) (mA := fun _ => none) (fun _ => True.intro) ru g)
  refine wpAny_pure (h _ _ hDn (Ne.symm hys) ?_)
  have eH : upd (upd (upd H s.heap.objs.size (isN s.heap.objs.size [])) y (isXo C y (some s.heap.objs.size))) s.heap.objs.size (isN s.heap.objs.size [(f, v)]) = upd (upd H s.heap.objs.size (isN s.heap.objs.size [(f, v)])) y (isXo C y (some s.heap.objs.size)) := by
    funext b
    by_cases h1 : b = s.heap.objs.size
    · subst h1
      rw [upd_same, upd_ne (Ne.symm hys), upd_same]
    · rw [upd_ne h1]
      by_cases h2 : b = y
      · subst h2
        rw [upd_same, upd_same]
      · rw [upd_ne h2, upd_ne h1, upd_ne h2, upd_ne h1]
  rw [eH] at I3
  exact I3
theorem setx1 (I : Inv X pins σ H s) (hy : H y = some (isXo C y (some D))) (hD : H D = some (isN D fs)) (F : XSet X.K C) (n : NoAttr X.K C f) (hl : fs.length < 1000) (ru : RelV v u)
    (h : ∀ s', Inv X pins σ (upd H D (isN D (putF f v fs))) s' → Q () s') : wpAny (model X.prog X.w) A (setAttr (.ref y) f u) Q E s := by
  obtain ⟨t, hx⟩ := I.isXo hy
  obtain ⟨mA, hns, hr⟩ := (I.hok D _ hD).1
  obtain ⟨cd, hc, hd'⟩ := any_some F.hd
  obtain ⟨oD, esD, epD, hoD, _⟩ := id hns
  have wi : PySem.Within mA (fs.map (·.1)) := fun g hg => by
    by_cases q : g ∈ fs.map (·.1)
    · exact q
    · refine absurd ?_ hg
      have : fs.lookup g = none := by
        rw [List.lookup_eq_none_iff]
        intro p hp
        simp only [bne_iff_ne, ne_eq, beq_eq_false_iff_ne]
        exact fun e => q (List.mem_map.mpr ⟨p, hp, e.symm⟩)
      exact RelO.none_of (by rw [← this]; exact hr g)
  refine setattr_x F I.kIn (od := some oD) ⟨hx, rfl, rfl, hoD⟩ n ?_
  refine wpAny_bind (wpAny_pure (wpAny_bind (wpAny_bind (wpAny_loadPart (s := { s with toks := s.toks + 1 }) hx (wpAny_bind (Looks.here (s := { s with toks := s.toks + 1 }) (looks_clsIn I.kIn hc) ?_))))))
  rw [hd']
  refine wpAny_pure (a := some D) (wpAny_bind (wpAny_pure (wpAny_bind ?_)))
  refine wpAny_nsSet1 (s := { s with toks := s.toks + 1 }) hns fun h' hn2 hs2 => ?_
  obtain ⟨oE, esE, epE, hoE, hdE, hcE⟩ := hn2.count (PySem.Within.cons f u wi)
  refine wpAny_bind (wpAny_lookBehind hoE (by rw [hdE]; exact pastItsLine_dict (Nat.le_trans hcE (by rw [List.length_cons, List.length_map, sizeLine_eq]; omega))) ?_)
  exact wpAny_pure (h _ (I.write (x := D) (e := D) (by rw [hD]; trivial) (.inl rfl) (fun b o hb q => (hs2.2 b hb).trans q) ⟨_, hoE⟩ (isN_ok hn2 fun g => relO_put hr ru g)))
end
def sXf (K : Frag) (ta tv : TE) (f : Str) : TS := fun D σ H => tv σ H fun v H1 => ta σ H1 fun x H2 => ∃ y C, x = .ref y ∧ XSet K C ∧ NoAttr K C f ∧
  ((H2 y = some (isXo C y none) ∧ ∀ d, H2 d = none → d ≠ y → D.nx σ (upd (upd H2 d (isN d [(f, v)])) y (isXo C y (some d)))) ∨ ∃ d fs, H2 y = some (isXo C y (some d)) ∧ H2 d = some (isN d fs) ∧ fs.length < 1000 ∧ D.nx σ (upd H2 d (isN d (putF f v fs))))
theorem ps_xfld {X : Cx} {o value : Expr} {f : Str} {pos pos' : Pos} {ta tv : TE} (ha : PE X o ta) (hv : PE X value tv) (hs : swapsWith value (some (.Attribute o f pos')) pos.line X.env = pure false := by rfl) : PS X (.Assign [.Attribute o f pos'] value pos) (sXf X.K ta tv f) := by
  intro pins s σ H D I h
  refine plainObj_wpAny_Assign_Attribute (thn (hv pins s σ H _ I h) fun u s1 ⟨v, H1, I1, ru, q⟩ => thn (ha pins s1 σ H1 _ I1 q) fun ov s2 ⟨x, H2, I2, rx, y, C, ex, F, n, q2⟩ => ?_) hs
  subst ex
  obtain rfl : ov = Value.ref y := rx
  rcases q2 with ⟨hy, q2⟩ | ⟨d, fs, hy, hd, hl, q2⟩
  · exact setx0 I2 hy F n ru fun D' s3 n1 n2 I3 => ⟨σ, _, I3, q2 D' n1 n2⟩
  · exact setx1 I2 hy hd F n hl ru fun s3 I3 => ⟨σ, _, I3, q2⟩
end L2

namespace L2
open PySem PySem.Calls PySem.Spec PyProof.Rows PySem.W PySem.Builtin PySem.Builtin.ObjectAttr
section
variable {prog : Program} {w : World} {A : Around} {E : Value → Shared → Prop} {s : Shared} {K : Frag} {y C : Addr} {ox : Obj} {od : Obj} {name : Str} {v : Value} {Q : Value → Shared → Prop} {expr : Bool}
theorem exc_field (F : XIs K C) (hh : hasDictIn K C = true) (X : K.In s.heap) (J : InstAt s.heap y ox C (some od)) (hn : findIn K (.ref C) name = some none) (hl : lookIn name od = some (some v)) (hv : handedIn v = true)
    (h : Q v { s with toks := s.toks + 1 }) : wpAny (model prog w) A (getAttr (.ref y) name expr) Q E s := by
  obtain ⟨hp, g, d, t, os⟩ := s
  have L0 := J.type (M := model prog w)
  have L1 := looks_findIn (M := model prog w) X F.ga
  have L2 := looks_find (M := model prog w) X J (findObj_own hh hn rfl hl)
  have L3 := looks_findIn (M := model prog w) X F.gh
  have L4 : Looks (model prog w) hp (isSubtype (.ref C) (.type "BaseException")) true := looks_subIn X F.sb
  have B1 := PySem.F.excAttr_ValueError.ga.bind (.ref y)
  have ho := handedOut_of hv
  unfold getAttr getAttrBy
  refine wpAny_bind (wpAny_mkText (wpAny_holding (wpAny_bind (L0.at (wpAny_bind (L1.at ?_))))))
  show wpAny _ _ (getAttrByItsOwn _ _ _ _ _ _) _ _ _
  unfold getAttrByItsOwn hookBefore
  refine wpAny_bind (L3.at ?_)
  refine wpAny_bind (wpAny_attempt (wpAny_holding ?_))
  have e0 : (expr && onTheHeap (Value.builtin "BaseException.__getattribute__")) = false := by cases expr <;> rfl
  unfold callGetattribute
  rw [e0]
  show wpAny _ _ (boundAndCalled _ _ _) _ _ _
  unfold boundAndCalled
  refine wpAny_bind (wpAny_of_eq B1 ?_)
  refine wpAny_call (codeAny_call_builtin PySem.F.excAttr_ValueError.ga.plain PySem.F.entry_bexc_ga (exc_ga_check L0 L4 ?_))
  unfold Builtin.«object.__getattribute__»
  refine wpAny_bind (wpAny_pure ?_)
  refine wpAny_bind (wpAny_pure (wpAny_bind (L0.at (wpAny_bind (L2.at ?_)))))
  refine wpAny_pure ?_
  show wpAny _ _ (handedOut v) _ _ _
  rw [ho]
  exact wpAny_pure h
end
def tXf (K : Frag) (ta : TE) (f : Str) : TE := fun σ H Q => ta σ H fun x H1 => ∃ y C d fs v, x = .ref y ∧ H1 y = some (isL C y (some d)) ∧ H1 d = some (isN d fs) ∧ XIs K C ∧ hasDictIn K C = true ∧ NoAttr K C f ∧ fs.lookup f = some v ∧ Q v H1
theorem pe_xfld {X : Cx} {e : Expr} {f : Str} {pos : Pos} {ta : TE} (he : PE X e ta) (hb : attributeBase e f X.env (eval e X.env) = eval e X.env := by rfl) : PE X (.Attribute e f pos) (tXf X.K ta f) := by
  intro pins s σ H Q I h
  refine attr_of hb (thn (he pins s σ H _ I h) fun u s1 ⟨x, H1, I1, rx, y, C, d, fs, v, ex, hy, hd, F, hh, n, hl, q⟩ => ?_)
  subst ex
  obtain rfl : u = Value.ref y := rx
  obtain ⟨⟨ob, e1, e2, e3, ⟨vs, e4⟩, _⟩, _⟩ := I1.hok y _ hy
  obtain ⟨mA, hns, hr⟩ := (I1.hok d _ hd).1
  obtain ⟨od, hod, hlk⟩ := lookIn_ns hns
  obtain ⟨u', hu, ru⟩ := RelO.some_of (v := v) (o := mA f) (by rw [← hl]; exact hr f)
  obtain ⟨oc, odi, oda, osl⟩ := ob
  dsimp only at e2 e3 e4
  subst e2 e3 e4
  exact exc_field F hh I1.kIn (od := od) ⟨e1, rfl, rfl, hod⟩ n (by rw [hlk, hu]) (handed_of ru) ⟨v, H1, I1.tok _, ru, q⟩
section
variable {X : Cx} {e : Expr} {pos : Pos} {te : TE}
theorem pe_fv (he : PE X e te) : PE X (.FormattedValue e (-1) none pos) (fun σ H Q => te σ H fun v H1 => ∃ i : Int, v = .int i ∧ i.natAbs.log2 < 1920 ∧ ∀ x : Str, x.length ≤ 2000 → Q (.str x) H1) := by
  intro pins s σ H Q I h
  refine PyProof.Rows.FormattedValue_plain (thn (he pins s σ H _ I h) fun u s1 ⟨v, H1, I1, rv, i, ev, hi, q⟩ => ?_)
  subst ev
  obtain ⟨t, rfl⟩ := rv
  refine PyProof.Rows.formatField_int_small hi ⟨.str (Str.ofString (toString i)), H1, I1.tok _, ⟨_, rfl⟩, q _ ?_⟩
  have := int_text_length_le (a := i) (k := 1920) (by decide) hi
  rw [PySem.ofString_length]
  omega
def PJ (X : Cx) (es : List Expr) (t : Str → TE) : Prop := ∀ (out : Str) (pins : List (Addr × Obj)) (s : Shared) (σ : St) (H : Hp) (Q : VK), Inv X pins σ H s → out.length ≤ sizeLine → t out σ H Q → wpAny (model X.prog X.w) X.A (joinParts out (evalEach es X.env)) (EP X pins σ Q) X.xe s
theorem pj_nil : PJ X [] (fun out _ H Q => Q (.str out) H) := by
  intro out pins s σ H Q I hz h
  exact PyProof.Rows.joinParts_nil (s := s) ⟨.str out, H, I.tok _, ⟨_, rfl⟩, h⟩ hz
theorem pj_cons {es : List Expr} {t : Str → TE} (he : PE X e te) (hs : PJ X es t) : PJ X (e :: es) (fun out σ H Q => te σ H fun v H1 => ∃ x : Str, v = .str x ∧ (out ++ x).length ≤ sizeLine ∧ t (out ++ x) σ H1 Q) := by
  intro out pins s σ H Q I hz h
  refine PyProof.Rows.joinParts_cons (x := eval e X.env) (rest := evalEach es X.env) (thn (he pins s σ H _ I h) fun u s1 ⟨v, H1, I1, rv, x, ev, hx, q⟩ => ?_)
  subst ev
  obtain ⟨t', rfl⟩ := rv
  exact ⟨hx, hs _ pins s1 σ H1 Q I1 hx q⟩
theorem pe_fstr {e2 : Expr} {es : List Expr} {t : Str → TE} (h : PJ X (e :: e2 :: es) t) : PE X (.JoinedStr (e :: e2 :: es) pos) (t Str.empty) := by
  intro pins s σ H Q I q
  exact PyProof.Rows.JoinedStr_many (h Str.empty pins s σ H Q I (Nat.zero_le _) q)
end
end L2

namespace L2
open PySem PySem.Spec PyProof.Rows
section
variable {X : Cx}
def CDivW (_ j : Int) : Prop := 0 < j ∧ j.natAbs.log2 < 9000
theorem op_fdivW : OpR X (binaryOp .FloorDiv) (rI CDivW fun i j => .int (i / j)) := opI fun i j _ _ _ _ _ hc q => by
  have h1 : (0 : Int) < j := hc.1
  have e := Int.fdiv_eq_ediv_of_nonneg i (Int.le_of_lt h1)
  exact floordiv_int (Int.ne_of_gt h1) (e ▸ q) (.inl (PyProof.noPylong_of_log2 hc.2))
theorem slicePick_rev (its : List Value) : slicePick its.toArray none none (some (-1)) = its.reverse.toArray := by
  unfold slicePick
  have e1 : (sliceBounds none none (some (-1)) its.toArray.size).1 = (its.length : Int) - 1 := by simp [sliceBounds]
  have e2 : (sliceBounds none none (some (-1)) its.toArray.size).2.1 = -1 := by simp [sliceBounds]
  have e3 : (sliceBounds none none (some (-1)) its.toArray.size).2.2 = -1 := by simp [sliceBounds]
  rw [e1, e2, e3]
  have e4 : sliceRange ((its.length : Int) - 1) (-1) (-1) = (List.range its.length).map fun (k : Nat) => (((its.length : Nat) : Int) - 1 + (k : Int) * (-1)).toNat := by
    unfold sliceRange
    have c : (if ((its.length : Int) - 1) > -1 then (((its.length : Int) - 1) - (-1) - (-1) - 1) / (-(-1)) else 0) = (its.length : Int) := by
      have : -(-1 : Int) = 1 := by decide
      rw [this, Int.ediv_one]
      split <;> omega
    have d : ¬ ((-1 : Int) > 0) := by decide
    simp only [d, if_false, c, Int.toNat_natCast]
    refine List.map_congr_left fun k _ => ?_
    rw [Int.mul_comm]
  rw [e4, List.filterMap_map, ← pick_rev]
  congr 1
  exact fm_congr fun k _ => by simp
def tRevL (te : TE) (K : PySem.W.Frag) : TE := fun σ H Q => te σ H fun x H1 => ∃ a xs, x = .ref a ∧ SqL K H1 a xs ∧ ∀ p, H1 p = none → Q (.ref p) (upd H1 p (.lst xs.reverse))
theorem pe_revL {e : Expr} {te : TE} {j : Nat} {p2 p3 p4 pos : Pos} (he : PE X e te) : PE X (.Subscript e (.Slice none none (some (.UnaryOp .USub (.Constant (.int 1) j p3) p4)) p2) pos) (tRevL te X.K) := by
  intro pins s σ H Q I h
  refine Subscript_ (thn (he pins s σ H _ I h) fun v s1 ⟨x, H1, I1, r1, q1⟩ => ?_)
  obtain ⟨a, xs, rfl, ha, q⟩ := q1
  cases r1
  refine wpAny_Slice ?_
  rw [evalPart_none]
  refine wpAny_pure (wpAny_pure ?_)
  rw [evalPart_some]
  refine thn (pe_un (X := X) (pos := p4) un_neg (pe_int (i := 1) (j := j) (pos := p3)) pins s1 σ H1 (fun y H' => y = .int (-1) ∧ H' = H1) I1 ⟨1, rfl, rfl, rfl⟩) fun vu s3 ⟨y, H3, I3, ry, ey, eh⟩ => ?_
  subst ey eh
  obtain ⟨tk, rfl⟩ := ry
  have I4 : Inv X pins σ H3 { s3 with heap := s3.heap.push { cls := .type "slice", data := .fields #[.none, .none, .int (-1) tk] } } := I3.kept (t' := s3.toks) fun b ob q => Heap.get?_push_of_some _ q
  obtain ⟨its, r, ht, hz⟩ := I4.list ha
  refine tail_any (ops := [.ref a, .ref s3.heap.objs.size]) ht.isList.typeIs slot_list_getitem.lookup ?_ (by with_unfolding_all rfl)
  have hlen : its.toArray.size = xs.length := by rw [List.size_toArray]; exact r.length.symm
  refine wpAny_getItem_list_slice ht.isList (Heap.IsSliceOf.new ..) .none .none (.int (-1) tk) (by decide) ?_ (by rw [hlen]; exact hz)
  rw [slicePick_rev]
  refine ⟨.ref _, _, I4.laid (t' := s3.toks) (o := .lst xs.reverse) (fun b ob q => Heap.get?_push_of_some _ q) (Nat.le_refl _) ?_, rfl, q _ (I4.hok.fresh (Nat.le_refl _))⟩
  exact ⟨by rw [List.length_reverse]; exact hz, _, 0, r.rev, Heap.get?_push_size _ rfl⟩
end
end L2

namespace L2
open PySem PySem.Spec PyProof.Rows PySem.AutoSeq1
section
variable {X : Cx} {es : List Expr} {kt : Nat} {tp : Pos}
end
section
variable {K : PySem.W.Frag} {g : TG} {tc : TT} {te : TE} {σ : St} {H : Hp} {R : List V → Hp → Prop}
end
end L2

namespace L2
open PySem PySem.Spec PyProof.Rows
section
variable {X : Cx}
end
end L2

namespace L2
open PySem PySem.Spec PyProof.Rows PySem.AutoSeq1
end L2
namespace L2
open PySem PySem.Spec PyProof.Rows
section
variable {X : Cx} {es : List Expr} {kt : Nat} {tp : Pos}
end
section
variable {K : PySem.W.Frag} {g : TG} {tc : TT} {te : TE} {σ : St} {H : Hp} {R : List V → Hp → Prop}
end
end L2

namespace L2
open PySem PySem.Spec PyProof.Rows
section
variable {prog : Program} {w : World} {A : Around} {R : Result → Shared → Prop} {it B : Addr} {fp wr : List Addr} {n : Nat} {P : Nat → Value → Prop} {St : Nat → Heap → Prop} {bt : Nat → Nat → Bool} {dn : Str} {dv : Value}
end
section
variable {X : Cx}
end
end L2

namespace L2
open PySem PySem.Spec PyProof.Rows
section
variable {X : Cx}
end
end L2

namespace L2
open PySem PySem.Spec PyProof.Rows
section
variable {X : Cx}
theorem call_rng2 : CallR X (.type "range") (fun xs H Q => ∃ i j : Int, xs = [.int i, .int j] ∧ ∀ p, H p = none → Q (.ref p) (upd H p (.rng i j))) := by
  intro pins s σ H xs us Q I r h
  obtain ⟨i, j, rfl, q⟩ := h
  cases r with
  | cons ru r2 =>
    obtain ⟨u2, rfl, ru2⟩ := vals1 r2
    obtain ⟨t, rfl⟩ := ru
    obtain ⟨t2, rfl⟩ := ru2
    refine call_range_2 ?_
    exact ⟨.ref s.heap.objs.size, _, I.laid (o := .rng i j) (fun b o e => Heap.get?_push_of_some _ e) (Nat.le_refl _) ⟨_, _, _, Heap.get?_push_size _ rfl⟩, rfl, q _ (I.hok.fresh (Nat.le_refl _))⟩
theorem place_in (a b i : Int) : (Builtin.Range.rangePlace? a b 1 i).isSome = (decide (a ≤ i) && decide (i < b)) := by
  unfold Builtin.Range.rangePlace?
  simp only [show (1 : Int) > 0 from by decide, if_true, Int.emod_one]
  by_cases h1 : a ≤ i <;> by_cases h2 : i < b <;> simp [h1, h2]
theorem rng_has {P : Program} {w : World} {A : Around} {E : Value → Shared → Prop} {s : Shared} {p : Addr} {a b i : Int} {t u v k : Tok} {Q : Value → Shared → Prop}
    (e : s.heap.get? p = some { cls := .type "range", data := .fields #[.int a t, .int b u, .int 1 v] }) (h : Q (.bool (decide (a ≤ i) && decide (i < b))) s) :
    wpAny (model P w) A (call (.builtin "range.__contains__") [.ref p, .int i k]) Q E s := by
  have hT : s.TypeIs (.ref p) "range" := ⟨_, e, rfl⟩
  refine wpAny_call_entry F.slot_range_contains hT F.entry_range_contains ?_ (F.args_range_contains_2 _ _)
  show wpAny _ _ (Builtin.Range.rangeFields (.ref p) >>= _) _ _ s
  refine wpAny_bind ?_
  unfold Builtin.Range.rangeFields
  refine wpAny_bind (wpAny_field e rfl (x := .int a t) rfl ?_)
  refine wpAny_bind (wpAny_of_eq (show asInt? (.int a t) = pure (some a) from rfl) ?_)
  refine wpAny_bind (wpAny_field e rfl (x := .int b u) rfl ?_)
  refine wpAny_bind (wpAny_of_eq (show asInt? (.int b u) = pure (some b) from rfl) ?_)
  refine wpAny_bind (wpAny_field e rfl (x := .int 1 v) rfl ?_)
  refine wpAny_bind (wpAny_of_eq (show asInt? (.int 1 v) = pure (some 1) from rfl) ?_)
  refine wpAny_pure (wpAny_pure ?_)
  rw [place_in]
  exact ⟨_, rfl, h⟩
def rInRng (neg : Bool) : R2 := fun x y H Q => ∃ (i a b : Int) (p : Addr), x = .int i ∧ y = .ref p ∧ H p = some (.rng a b) ∧ Q (.bl (if neg then !(decide (a ≤ i) && decide (i < b)) else (decide (a ≤ i) && decide (i < b)))) H
theorem op_notInRng : OpR X (compareOp .NotIn) (rInRng true) := by
  intro pins s σ H x y v u Q I rx ry h
  obtain ⟨i, a, b, p, rfl, rfl, hp, q⟩ := h
  cases ry
  obtain ⟨t, rfl⟩ := rx
  obtain ⟨t1, t2, t3, e⟩ := (show ObjOk X.prog X.w H s.heap p (.rng a b) from I.hok p _ hp)
  refine NotIn_slot (T := "range") ⟨_, e, rfl⟩ F.slot_range_contains (rng_has e (wpAny_truthy_bool ?_))
  exact ⟨.bl _, H, I, rfl, q⟩
end
end L2

namespace Tim
open PySem PyProof.Rows
structure Ordr (L : Keyed → Keyed → Bool) : Prop where
  asym : ∀ x y, L x y = true → L y x = false
  tr : ∀ x y z, L y x = false → L z y = false → L z x = false
abbrev Sd (L : Keyed → Keyed → Bool) (l : List Keyed) : Prop := l.Pairwise fun x y => L y x = false
section
variable {L : Keyed → Keyed → Bool}
theorem Sd.split {o m r1 r2 : List Keyed} (h1 : Sd L (o ++ (m ++ r1))) (h2 : Sd L (o ++ r2)) (c : ∀ x ∈ m, ∀ y ∈ r2, L y x = false) : Sd L ((o ++ m) ++ r1) ∧ Sd L ((o ++ m) ++ r2) := by
  refine ⟨by rw [List.append_assoc]; exact h1, ?_⟩
  obtain ⟨a1, a2, a3⟩ := List.pairwise_append.mp h1
  obtain ⟨b1, b2, b3⟩ := List.pairwise_append.mp h2
  obtain ⟨c1, c2, c3⟩ := List.pairwise_append.mp a2
  rw [List.append_assoc]
  refine List.pairwise_append.mpr ⟨a1, List.pairwise_append.mpr ⟨c1, b2, c⟩, fun x hx y hy => ?_⟩
  rcases List.mem_append.mp hy with z | z
  · exact a3 x hx y (List.mem_append_left _ z)
  · exact b3 x hx y z
theorem Sd.splitR {o m l1 l2 : List Keyed} (h1 : Sd L ((l1 ++ m) ++ o)) (h2 : Sd L (l2 ++ o)) (c : ∀ y ∈ l2, ∀ x ∈ m, L x y = false) : Sd L (l1 ++ (m ++ o)) ∧ Sd L (l2 ++ (m ++ o)) := by
  rw [List.append_assoc] at h1
  refine ⟨h1, ?_⟩
  obtain ⟨a1, a2, a3⟩ := List.pairwise_append.mp h1
  obtain ⟨b1, b2, b3⟩ := List.pairwise_append.mp h2
  refine List.pairwise_append.mpr ⟨b1, a2, fun y hy x hx => ?_⟩
  rcases List.mem_append.mp hx with z | z
  · exact c y hy x z
  · exact b3 y hy x z
end
section
variable {prog : Program} {w : World} {A : Around} {E : Value → Shared → Prop} {s : Shared} {κ : SortKind} {a0 : Array Keyed} {L : Keyed → Keyed → Bool}
def CmpL (prog : Program) (w : World) (A : Around) (s : Shared) (κ : SortKind) (a0 : Array Keyed) (L : Keyed → Keyed → Bool) : Prop :=
  ∀ x y, x ∈ a0 → y ∈ a0 → ∀ (E : Value → Shared → Prop) (Q : Bool → Shared → Prop), Q (L x y) s → wpAny (model prog w) A (keyLt' κ x.1 y.1) Q E s
theorem lt_L (hc : CmpL prog w A s κ a0 L) {x y : Keyed} {st : SortSt} {Q : Option Bool → SortSt → Prop} (hk : kindOf st = κ) (hx : x ∈ a0) (hy : y ∈ a0) (q : Q (some (L x y)) st) :
    wpS (model prog w) A E s (lt' x y) Q st := by
  rw [lt'_eq]
  refine wpS_bind (wpS_get ?_)
  rw [hk]
  refine wpS_bind (wpS_lift (wpAny_attempt (hc x y hx hy _ _ ⟨rfl, ?_⟩)))
  exact wpS_pure q
def bk (L : Keyed → Keyed → Bool) (left : Bool) (key x : Keyed) : Bool := if left = true then L x key else !L key x
theorem bk_mono (o : Ordr L) {left : Bool} {key x y : Keyed} (h : L y x = false) (hy : bk L left key y = true) : bk L left key x = true := by
  unfold bk at hy ⊢
  cases left with
  | true =>
    rw [if_pos rfl] at hy ⊢
    cases e : L x key with
    | true => rfl
    | false =>
      have := o.tr key x y e h
      rw [this] at hy
      cases hy
  | false =>
    rw [if_neg Bool.false_ne_true] at hy ⊢
    have hy : L key y = false := by simpa using hy
    rw [o.tr x y key h hy]
    rfl
theorem gallop_L (o : Ordr L) (hc : CmpL prog w A s κ a0 L) {left : Bool} {key : Keyed} {arr : Array Keyed} {lo n hint : Nat} {st : SortSt} {Q : Option Nat → SortSt → Prop} (hk : kindOf st = κ) (hkey : key ∈ a0) (hin : In a0 arr) (hn : lo + n ≤ arr.size) (hh : hint < n)
    (sd : Sd L ((arr.toList.drop lo).take n))
    (q : ∀ k, k ≤ n → (∀ x ∈ ((arr.toList.drop lo).take n).take k, bk L left key x = true) → (∀ x ∈ ((arr.toList.drop lo).take n).drop k, bk L left key x = false) → Q (some k) st) : wpS (model prog w) A E s (gallop' left key arr lo n hint) Q st := by
  have len : ((arr.toList.drop lo).take n).length = n := by rw [List.length_take, List.length_drop, Array.length_toList]; omega
  have eg : ∀ i, i < n → arr[lo + i]? = ((arr.toList.drop lo).take n)[i]? := fun i hi => by
    rw [List.getElem?_take, if_pos hi, List.getElem?_drop, Array.getElem?_toList]
  generalize (arr.toList.drop lo).take n = l at sd q len eg
  subst len
  have eg : ∀ i (hi : i < l.length), arr[lo + i]'(by omega) = l[i] := fun i hi => by
    have := eg i hi
    rw [Array.getElem?_eq_getElem (by omega), List.getElem?_eq_getElem hi] at this
    exact Option.some.inj this
  have mono : ∀ i j (hij : i ≤ j) (hj : j < l.length), bk L left key l[j] = true → bk L left key (l[i]'(by omega)) = true := fun i j hij hj h => by
    by_cases e : i = j
    · subst e; exact h
    · exact bk_mono o (List.pairwise_iff_getElem.mp sd i j (by omega) hj (by omega)) h
  have bey : ∀ (i : Nat) (R : Option Bool → SortSt → Prop) (hi : i < l.length), R (some (bk L left key l[i])) st → wpS (model prog w) A E s (do
      let x ← elem' arr (lo + i)
      if left = true then lt' x key else do
        let r ← lt' key x
        pure (r.map (!·))) R st := fun i R hi hR => by
    refine wpS_bind (elem_ok (by omega) ?_)
    have hm : arr[lo + i]'(by omega) ∈ a0 := hin _ (Array.getElem_mem _)
    rw [eg i hi] at hm ⊢
    unfold bk at hR
    cases left with
    | true =>
      rw [if_pos rfl] at hR
      exact lt_L hc hk hm hkey hR
    | false =>
      rw [if_neg Bool.false_ne_true] at hR
      exact wpS_bind (lt_L hc hk hkey hm (wpS_pure hR))
  -- by places
  have T : ∀ k, k ≤ l.length → (∀ i (hi : i < l.length), i < k → bk L left key l[i] = true) → ∀ x ∈ l.take k, bk L left key x = true := fun k hk h x hx => by
    obtain ⟨i, hi, rfl⟩ := List.mem_iff_getElem.mp hx
    rw [List.length_take] at hi
    rw [List.getElem_take]
    exact h i (by omega) (by omega)
  have F : ∀ k, (∀ i (hi : i < l.length), k ≤ i → bk L left key l[i] = false) → ∀ x ∈ l.drop k, bk L left key x = false := fun k h x hx => by
    obtain ⟨i, hi, rfl⟩ := List.mem_iff_getElem.mp hx
    rw [List.length_drop] at hi
    rw [List.getElem_drop]
    exact h (k + i) (by omega) (by omega)
  refine wpS_bind (wpS_mono (bey hint (fun r st' => r = some (bk L left key l[hint]) ∧ st' = st) hh ⟨rfl, rfl⟩) ?_)
  rintro r st' ⟨rfl, rfl⟩
  dsimp only
  cases hb : bk L left key l[hint]
  case' true =>
    rw [if_pos rfl]
    refine wpS_bind (wpS_mono (wpS_forRange (I := fun i c st2 => c.1 = none ∧ (c.2.1 < c.2.2 ∧ i + 1 ≤ c.2.2 ∧ ∃ h : hint + c.2.1 < l.length, bk L left key l[hint + c.2.1] = true) ∧ st2 = st')
      (Q := fun c st2 => c.1 = none ∧ (c.2.1 < c.2.2 ∧ (∃ h : hint + c.2.1 < l.length, bk L left key l[hint + c.2.1] = true) ∧ (l.length - hint ≤ c.2.2 ∨ ∃ h : hint + c.2.2 < l.length, bk L left key l[hint + c.2.2] = false)) ∧ st2 = st') ?step ?fin ⟨rfl, ⟨by decide, by decide, hh, hb⟩, rfl⟩) ?post)
    case fin =>
      rintro ⟨c1, la, ofs⟩ st2 ⟨h1, ⟨h2, h3, h4⟩, h5⟩
      dsimp only at h1 h2 h3 h4 ⊢
      rw [Nat.zero_max] at h3
      exact ⟨h1, ⟨h2, h4, .inl (by omega)⟩, h5⟩
    case step =>
      rintro i ⟨_, la, ofs⟩ st2 _ _ ⟨h, ⟨h2, h3, h4⟩, rfl⟩
      dsimp only at h h2 h3 h4 ⊢
      by_cases hm : ofs ≥ l.length - hint
      · rw [if_pos hm]
        exact wpS_pure ⟨rfl, ⟨h2, h4, .inl hm⟩, rfl⟩
      · rw [if_neg hm]
        refine wpS_bind (bey (hint + ofs) _ (by omega) ?_)
        cases e : bk L left key (l[hint + ofs]'(by omega))
        · exact wpS_pure ⟨rfl, ⟨h2, h4, .inr ⟨by dsimp only; omega, e⟩⟩, rfl⟩
        · exact wpS_pure ⟨rfl, ⟨by dsimp only; omega, by dsimp only; omega, by dsimp only; omega, e⟩, rfl⟩
  case' false =>
    rw [if_neg Bool.false_ne_true]
    refine wpS_bind (wpS_mono (wpS_forRange (I := fun i c st2 => c.1 = none ∧ (c.2.1 < c.2.2 ∧ i + 1 ≤ c.2.2 ∧ c.2.1 ≤ hint ∧ ∃ h : hint - c.2.1 < l.length, bk L left key l[hint - c.2.1] = false) ∧ st2 = st')
      (Q := fun c st2 => c.1 = none ∧ (c.2.1 < c.2.2 ∧ (c.2.1 ≤ hint ∧ ∃ h : hint - c.2.1 < l.length, bk L left key l[hint - c.2.1] = false) ∧ (hint + 1 ≤ c.2.2 ∨ ∃ h : hint - c.2.2 < l.length, bk L left key l[hint - c.2.2] = true)) ∧ st2 = st') ?step ?fin ⟨rfl, ⟨by decide, by decide, Nat.zero_le _, hh, hb⟩, rfl⟩) ?post)
    case fin =>
      rintro ⟨c1, la, ofs⟩ st2 ⟨h1, ⟨h2, h3, h4⟩, h5⟩
      dsimp only at h1 h2 h3 h4 ⊢
      rw [Nat.zero_max] at h3
      exact ⟨h1, ⟨h2, h4, .inl (by omega)⟩, h5⟩
    case step =>
      rintro i ⟨_, la, ofs⟩ st2 _ _ ⟨h, ⟨h2, h3, h4⟩, rfl⟩
      dsimp only at h h2 h3 h4 ⊢
      by_cases hm : ofs ≥ hint + 1
      · rw [if_pos hm]
        exact wpS_pure ⟨rfl, ⟨h2, h4, .inl hm⟩, rfl⟩
      · rw [if_neg hm]
        refine wpS_bind (bey (hint - ofs) _ (by omega) ?_)
        cases e : bk L left key (l[hint - ofs]'(by omega))
        · exact wpS_pure ⟨rfl, ⟨by dsimp only; omega, by dsimp only; omega, by dsimp only; omega, by dsimp only; omega, e⟩, rfl⟩
        · exact wpS_pure ⟨rfl, ⟨h2, h4, .inr ⟨by dsimp only; omega, e⟩⟩, rfl⟩
  case' true =>
    rintro ⟨c1, la, ofs⟩ st2 ⟨h, ⟨g1, ⟨g2, g3⟩, g4⟩, rfl⟩
    dsimp only at h g1 g2 g3 g4 ⊢
    subst h
    dsimp only
    have B : (hint + la + 1 ≤ hint + min ofs (l.length - hint) ∧ hint + min ofs (l.length - hint) ≤ l.length ∧ (∀ i (hi : i < l.length), i < hint + la + 1 → bk L left key l[i] = true) ∧ (∀ i (hi : i < l.length), hint + min ofs (l.length - hint) ≤ i → bk L left key l[i] = false)) := by
      refine ⟨by omega, by omega, fun i hi h => mono i (hint + la) (by omega) g2 g3, fun i hi h => ?_⟩
      rcases g4 with z | ⟨z, e⟩
      · omega
      · cases e2 : bk L left key l[i] with
        | false => rfl
        | true => rw [mono (hint + ofs) i (by omega) hi e2] at e; cases e
    generalize hint + la + 1 = l0 at B
    generalize hint + min ofs (l.length - hint) = h0 at B
  case' false =>
    rintro ⟨c1, la, ofs⟩ st2 ⟨h, ⟨g1, ⟨g0, g2, g3⟩, g4⟩, rfl⟩
    dsimp only at h g0 g1 g2 g3 g4 ⊢
    subst h
    dsimp only
    have B : (hint + 1 - min ofs (hint + 1) ≤ hint - la ∧ hint - la ≤ l.length ∧ (∀ i (hi : i < l.length), i < hint + 1 - min ofs (hint + 1) → bk L left key l[i] = true) ∧ (∀ i (hi : i < l.length), hint - la ≤ i → bk L left key l[i] = false)) := by
      refine ⟨by omega, by omega, fun i hi h => ?_, fun i hi h => ?_⟩
      · rcases g4 with z | ⟨z, e⟩
        · omega
        · exact mono i (hint - ofs) (by omega) z e
      · cases e2 : bk L left key l[i] with
        | false => rfl
        | true => rw [mono (hint - la) i h hi e2] at g3; cases g3
    generalize hint + 1 - min ofs (hint + 1) = l0 at B
    generalize hint - la = h0 at B
  all_goals
    refine wpS_bind (wpS_mono (wpS_forRange (I := fun j c st3 => c.1 = none ∧ (c.2.1 ≤ c.2.2 ∧ c.2.2 ≤ l.length ∧ (∀ i (hi : i < l.length), i < c.2.1 → bk L left key l[i] = true) ∧ (∀ i (hi : i < l.length), c.2.2 ≤ i → bk L left key l[i] = false)) ∧ c.2.2 - c.2.1 ≤ l.length - j ∧ st3 = st2)
      (Q := fun c st3 => c.1 = none ∧ (c.2.1 ≤ c.2.2 ∧ c.2.2 ≤ l.length ∧ (∀ i (hi : i < l.length), i < c.2.1 → bk L left key l[i] = true) ∧ (∀ i (hi : i < l.length), c.2.2 ≤ i → bk L left key l[i] = false)) ∧ c.2.2 ≤ c.2.1 ∧ st3 = st2) ?_ ?_ ⟨rfl, B, by dsimp only; omega, rfl⟩) ?_)
    · rintro j ⟨c1, l1, h1⟩ st3 _ _ ⟨e1, ⟨b1, b2, b3, b4⟩, e3, rfl⟩
      dsimp only at e1 b1 b2 b3 b4 e3 ⊢
      subst e1
      by_cases hm : l1 ≥ h1
      · rw [if_pos hm]
        exact wpS_pure ⟨rfl, ⟨b1, b2, b3, b4⟩, hm, rfl⟩
      · rw [if_neg hm]
        refine wpS_bind (bey (l1 + (h1 - l1) / 2) _ (by omega) ?_)
        cases e : bk L left key (l[l1 + (h1 - l1) / 2]'(by omega))
        · exact wpS_pure ⟨rfl, ⟨by dsimp only; omega, by dsimp only; omega, b3, fun i hi h => by
            cases e2 : bk L left key l[i] with
            | false => rfl
            | true => rw [mono _ i h hi e2] at e; cases e⟩, by dsimp only; omega, rfl⟩
        · exact wpS_pure ⟨rfl, ⟨by dsimp only; omega, b2, fun i hi h => mono i _ (by dsimp only at h; omega) (by omega) e, b4⟩, by dsimp only; omega, rfl⟩
    · rintro ⟨c1, l1, h1⟩ st3 ⟨e1, b, e3, e4⟩
      dsimp only at e1 b e3 ⊢
      rw [Nat.zero_max] at e3
      exact ⟨e1, b, by omega, e4⟩
    · rintro ⟨c1, l1, h1⟩ st3 ⟨e1, ⟨b1, b2, b3, b4⟩, e3, rfl⟩
      dsimp only at e1 b1 b2 b3 b4 e3 ⊢
      subst e1
      have e : l1 = h1 := by omega
      subst e
      exact wpS_pure (q _ b2 (T _ b2 b3) (F _ b4))
end
end Tim
namespace Tim
open PySem PyProof.Rows
section
variable {L : Keyed → Keyed → Bool}
theorem Ordr.irr (o : Ordr L) (x : Keyed) : L x x = false := by
  cases e : L x x with
  | false => rfl
  | true => rw [← o.asym x x e]; exact e.symm
theorem Sd.drop {l : List Keyed} (h : Sd L l) (i : Nat) : Sd L (l.drop i) := List.Pairwise.sublist (List.drop_sublist i l) h
theorem Sd.take {l : List Keyed} (h : Sd L l) (i : Nat) : Sd L (l.take i) := List.Pairwise.sublist (List.take_sublist i l) h
theorem Sd.head (o : Ordr L) {a : Array Keyed} (h : Sd L a.toList) {i : Nat} (hi : i < a.size) : ∀ y ∈ a.toList.drop i, L y a[i] = false := fun y hy => by
  rw [List.drop_eq_getElem_cons (by simpa using hi)] at hy
  have h2 := h.drop i
  rw [List.drop_eq_getElem_cons (by simpa using hi)] at h2
  rcases List.mem_cons.mp hy with z | z
  · rw [z]
    simp only [Array.getElem_toList]
    exact o.irr _
  · have := List.rel_of_pairwise_cons h2 z
    simpa using this
theorem Sd.lastL (o : Ordr L) {a : Array Keyed} (h : Sd L a.toList) {n : Nat} (h0 : 0 < n) (hi : n - 1 < a.size) : ∀ y ∈ a.toList.take n, L a[n - 1] y = false := fun y hy => by
  have h2 := h.take n
  rw [take_last a n h0 hi] at hy h2
  rcases List.mem_append.mp hy with z | z
  · exact (List.pairwise_append.mp h2).2.2 y z _ (List.mem_singleton.mpr rfl)
  · rw [List.mem_singleton.mp z]
    exact o.irr _
structure SL (L : Keyed → Keyed → Bool) (a b out : Array Keyed) (ia ib : Nat) : Prop where
  A : Sd L (out.toList ++ a.toList.drop ia)
  B : Sd L (out.toList ++ b.toList.drop ib)
variable {a b out : Array Keyed} {ia ib : Nat}
theorem SL.pushA (h : SL L a b out ia ib) (hi : ia < a.size) (c : ∀ y ∈ b.toList.drop ib, L y a[ia] = false) : SL L a b (out.push a[ia]) (ia + 1) ib := by
  have h1 := h.A
  rw [List.drop_eq_getElem_cons (by simpa using hi), Array.getElem_toList] at h1
  obtain ⟨x, y⟩ := Sd.split (m := [a[ia]]) h1 h.B (fun x hx y hy => by rw [List.mem_singleton.mp hx]; exact c y hy)
  exact ⟨by rw [Array.toList_push]; exact x, by rw [Array.toList_push]; exact y⟩
theorem SL.pushB (h : SL L a b out ia ib) (hi : ib < b.size) (c : ∀ y ∈ a.toList.drop ia, L y b[ib] = false) : SL L a b (out.push b[ib]) ia (ib + 1) := by
  have h1 := h.B
  rw [List.drop_eq_getElem_cons (by simpa using hi), Array.getElem_toList] at h1
  obtain ⟨x, y⟩ := Sd.split (m := [b[ib]]) h1 h.A (fun x hx y hy => by rw [List.mem_singleton.mp hx]; exact c y hy)
  exact ⟨by rw [Array.toList_push]; exact y, by rw [Array.toList_push]; exact x⟩
theorem SL.takeA (h : SL L a b out ia ib) {k : Nat} (c : ∀ x ∈ (a.extract ia (ia + k)).toList, ∀ y ∈ b.toList.drop ib, L y x = false) : SL L a b (out ++ a.extract ia (ia + k)) (ia + k) ib := by
  have h1 := h.A
  rw [drop_ex a ia (ia + k) (by omega)] at h1
  obtain ⟨x, y⟩ := Sd.split h1 h.B c
  exact ⟨by rw [Array.toList_append]; exact x, by rw [Array.toList_append]; exact y⟩
theorem SL.takeB (h : SL L a b out ia ib) {k : Nat} (c : ∀ x ∈ (b.extract ib (ib + k)).toList, ∀ y ∈ a.toList.drop ia, L y x = false) : SL L a b (out ++ b.extract ib (ib + k)) ia (ib + k) := by
  have h1 := h.B
  rw [drop_ex b ib (ib + k) (by omega)] at h1
  obtain ⟨x, y⟩ := Sd.split h1 h.A c
  exact ⟨by rw [Array.toList_append]; exact y, by rw [Array.toList_append]; exact x⟩
theorem SL.doneB (h : SL L a b out ia ib) (hb : b.size ≤ ib) : Sd L (out ++ a.extract ia a.size ++ b.extract ib b.size).toList := by
  rw [Array.toList_append, Array.toList_append, ext_all, ext_all, List.drop_of_length_le (l := b.toList) (by simpa using hb), List.append_nil]
  exact h.A
theorem SL.doneA (h : SL L a b out ia ib) (ha : a.size ≤ ia) : Sd L (out ++ a.extract ia a.size ++ b.extract ib b.size).toList := by
  rw [Array.toList_append, Array.toList_append, ext_all, ext_all, List.drop_of_length_le (l := a.toList) (by simpa using ha), List.append_nil]
  exact h.B
theorem SL.last (h : SL L a b out ia ib) (ha : ia + 1 = a.size) (hl : ∀ y ∈ b.toList, L a[ia] y = false) : Sd L (out ++ b.extract ib b.size ++ a.extract ia a.size).toList := by
  have hi : ia < a.size := by omega
  have h1 := h.A
  have e : a.toList.drop ia = [a[ia]] := by
    rw [List.drop_eq_getElem_cons (by simpa using hi), List.drop_of_length_le (by simp; omega), Array.getElem_toList]
  rw [e] at h1
  rw [Array.toList_append, Array.toList_append, ext_all, ext_all, e]
  refine List.pairwise_append.mpr ⟨h.B, List.pairwise_singleton _ _, fun x hx y hy => ?_⟩
  rw [List.mem_singleton.mp hy]
  rcases List.mem_append.mp hx with z | z
  · exact (List.pairwise_append.mp h1).2.2 x z _ (List.mem_singleton.mpr rfl)
  · exact hl x (List.mem_of_mem_drop z)
end
section
variable {prog : Program} {w : World} {A : Around} {E : Value → Shared → Prop} {s : Shared} {κ : SortKind} {a0 : Array Keyed} {L : Keyed → Keyed → Bool}
theorem gallop_all (o : Ordr L) (hc : CmpL prog w A s κ a0 L) {left : Bool} {key : Keyed} {arr : Array Keyed} {lo hint : Nat} {st : SortSt} {Q : Option Nat → SortSt → Prop} (hk : kindOf st = κ) (hkey : key ∈ a0) (hin : In a0 arr) (hn : lo ≤ arr.size) (hh : hint < arr.size - lo)
    (sd : Sd L arr.toList)
    (q : ∀ k, k ≤ arr.size - lo → (∀ x ∈ (arr.extract lo (lo + k)).toList, bk L left key x = true) → (∀ x ∈ arr.toList.drop (lo + k), bk L left key x = false) → Q (some k) st) : wpS (model prog w) A E s (gallop' left key arr lo (arr.size - lo) hint) Q st := by
  have e : (arr.toList.drop lo).take (arr.size - lo) = arr.toList.drop lo := List.take_of_length_le (by simp)
  refine gallop_L o hc hk hkey hin (by omega) hh (by rw [e]; exact sd.drop lo) fun k hk t f => q k hk (fun x hx => t x ?_) (fun x hx => f x ?_)
  · rw [e]
    rw [Array.toList_extract, List.extract_eq_take_drop, show lo + k - lo = k by omega] at hx
    exact hx
  · rw [e, List.drop_drop]
    exact hx
theorem gallop_to (o : Ordr L) (hc : CmpL prog w A s κ a0 L) {left : Bool} {key : Keyed} {arr : Array Keyed} {n hint : Nat} {st : SortSt} {Q : Option Nat → SortSt → Prop} (hk : kindOf st = κ) (hkey : key ∈ a0) (hin : In a0 arr) (hn : n ≤ arr.size) (hh : hint < n)
    (sd : Sd L arr.toList)
    (q : ∀ k, k ≤ n → (∀ x ∈ arr.toList.take k, bk L left key x = true) → (∀ x ∈ (arr.extract k n).toList, bk L left key x = false) → Q (some k) st) : wpS (model prog w) A E s (gallop' left key arr 0 n hint) Q st := by
  refine gallop_L o hc hk hkey hin (by omega) hh (by rw [List.drop_zero]; exact sd.take n) fun k hk t f => q k hk (fun x hx => t x ?_) (fun x hx => f x ?_)
  · rw [List.drop_zero, List.take_take, Nat.min_eq_left hk]
    exact hx
  · rw [List.drop_zero]
    rw [Array.toList_extract, List.extract_eq_take_drop] at hx
    rw [List.drop_take]
    exact hx
theorem bkR {key x : Keyed} (h : bk L false key x = true) : L key x = false := by
  unfold bk at h
  simpa using h
theorem bkR' {key x : Keyed} (h : bk L false key x = false) : L key x = true := by
  unfold bk at h
  simpa using h
theorem mergeLo_L (o : Ordr L) (hc : CmpL prog w A s κ a0 L) {a b : Array Keyed} {st : SortSt} {Q : Array Keyed → SortSt → Prop} (hk : Ok κ a0 st) (ha : In a0 a) (hb : In a0 b) (a1 : 1 ≤ a.size) (b1 : 1 ≤ b.size)
    (sda : Sd L a.toList) (sdb : Sd L b.toList) (hf : ∀ x ∈ a.toList, L x b[0] = false) (hl : ∀ (i : Nat) (hi : i < a.size), i + 1 = a.size → ∀ y ∈ b.toList, L a[i] y = false)
    (q : ∀ out st', out.Perm (a ++ b) → Sd L out.toList → SI κ a0 st st' → Q out st') : wpS (model prog w) A E s (mergeLo' a b) Q st := by
  have P0 : PL a b #[b[0]] 0 1 := by
    have : PL a b #[] 0 0 := by
      unfold PL
      simp
    exact this.pushB (by omega)
  have S0 : SL L a b #[b[0]] 0 1 := by
    have : SL L a b #[] 0 0 := ⟨by simpa using sda, by simpa using sdb⟩
    exact this.pushB (by omega) (by simpa using hf)
  have hdb := fun (i : Nat) (hi : i < b.size) => sdb.head o hi
  have hda := fun (i : Nat) (hi : i < a.size) => sda.head o hi
  refine wpS_bind (wpS_lift (wpAny_rule ⟨rfl, ?_⟩))
  dsimp only
  refine wpS_bind (elem_ok (by omega) ?_)
  by_cases c1 : (1 == b.size) = true
  · rw [if_pos c1]
    simp only [beq_iff_eq] at c1
    exact wpS_pure (q _ _ P0.done (S0.doneB (by omega)) ⟨hk, rfl, rfl⟩)
  rw [if_neg c1]
  by_cases c2 : (0 + 1 == a.size) = true
  · rw [if_pos c2]
    simp only [beq_iff_eq] at c2
    exact wpS_pure (q _ _ P0.last (S0.last (by omega) (hl 0 (by omega) (by omega))) ⟨hk, rfl, rfl⟩)
  rw [if_neg c2]
  simp only [beq_iff_eq] at c1 c2
  refine wpS_bind (wpS_get ?_)
  refine wpS_bind (wpS_mono (wpS_forRange (I := fun i c st' => SI κ a0 st st' ∧ ∃ (out : Array Keyed) (ia ib g : Nat), c = (none, out, ia, ib, g) ∧ (PL a b out ia ib ∧ SL L a b out ia ib) ∧ ia + 1 < a.size ∧ ib < b.size ∧ i + 1 ≤ ia + ib)
    (Q := fun c st' => SI κ a0 st st' ∧ ∃ r : Array Keyed, c.1 = some r ∧ r.Perm (a ++ b) ∧ Sd L r.toList) ?step ?fin ⟨⟨hk, rfl, rfl⟩, _, _, _, _, rfl, ⟨P0, S0⟩, by omega, by omega, by omega⟩) ?post)
  case fin =>
    rintro c st' ⟨_, out, ia, ib, g, _, _, h1, h2, h3⟩
    rw [Nat.zero_max] at h3
    omega
  case post =>
    rintro ⟨c, r4⟩ st' ⟨S, r, h, hp⟩
    dsimp only at h ⊢
    subst h
    exact wpS_pure (q _ _ hp.1 hp.2 S)
  case step =>
    rintro i c st1 _ hi ⟨S1, out, ia, ib, g, rfl, P, h1, h2, h3⟩
    dsimp only
    refine wpS_bind (wpS_mono (wpS_forRange (I := fun j c st' => SI κ a0 st st' ∧ ∃ (out : Array Keyed) (ia' ib' x y : Nat), c = (none, out, ia', ib', x, y) ∧ (PL a b out ia' ib' ∧ SL L a b out ia' ib') ∧ ia' + 1 < a.size ∧ ib' < b.size ∧ ia + ib + j ≤ ia' + ib')
      (Q := fun c st' => SI κ a0 st st' ∧ ((∃ r : Array Keyed, c.1 = some r ∧ r.Perm (a ++ b) ∧ Sd L r.toList) ∨ ∃ (out : Array Keyed) (ia' ib' x y : Nat), c = (none, out, ia', ib', x, y) ∧ (PL a b out ia' ib' ∧ SL L a b out ia' ib') ∧ ia' + 1 < a.size ∧ ib' < b.size ∧ ia + ib + 1 ≤ ia' + ib')) ?step1 ?fin1 ⟨S1, _, _, _, _, _, rfl, P, h1, h2, by omega⟩) ?post1)
    case fin1 =>
      rintro c st' ⟨S, out, ia', ib', x, y, rfl, P, h1, h2, h3⟩
      rw [Nat.zero_max] at h3
      exact ⟨S, .inr ⟨out, ia', ib', x, y, rfl, P, h1, h2, by omega⟩⟩
    case step1 =>
      rintro j c st2 _ hj ⟨S2, out, ia', ib', x, y, rfl, P2, h1', h2', h3'⟩
      dsimp only
      refine wpS_bind (elem_ok h2' (wpS_bind (elem_ok (by omega) (wpS_bind (lt_L hc S2.ok.kind (hb _ (Array.getElem_mem _)) (ha _ (Array.getElem_mem _)) ?_)))))
      dsimp only
      cases bw : L (b[ib']'h2') (a[ia']'(by omega)) with
      | true =>
        rw [if_pos rfl]
        refine wpS_bind (elem_ok h2' ?_)
        have P3 := P2.1.pushB h2'
        have S3 := P2.2.pushB h2' fun y hy => o.tr _ a[ia'] _ (o.asym _ _ bw) (hda ia' (by omega) y hy)
        by_cases d1 : (ib' + 1 == b.size) = true
        · rw [if_pos d1]
          simp only [beq_iff_eq] at d1
          exact wpS_pure ⟨S2, .inl ⟨_, rfl, P3.done, S3.doneB (by omega)⟩⟩
        rw [if_neg d1]
        simp only [beq_iff_eq] at d1
        split
        · exact wpS_pure ⟨S2, .inr ⟨_, _, _, _, _, rfl, ⟨P3, S3⟩, h1', by omega, by omega⟩⟩
        · exact wpS_pure ⟨S2, _, _, _, _, _, rfl, ⟨P3, S3⟩, h1', by omega, by omega⟩
      | false =>
        rw [if_neg Bool.false_ne_true]
        refine wpS_bind (elem_ok (by omega) ?_)
        have P3 := P2.1.pushA (by omega)
        have S3 := P2.2.pushA (by omega) fun y hy => o.tr _ b[ib'] _ bw (hdb ib' h2' y hy)
        by_cases d1 : (ia' + 1 + 1 == a.size) = true
        · rw [if_pos d1]
          simp only [beq_iff_eq] at d1
          exact wpS_pure ⟨S2, .inl ⟨_, rfl, P3.last, S3.last (by omega) (hl _ (by omega) (by omega))⟩⟩
        rw [if_neg d1]
        simp only [beq_iff_eq] at d1
        split
        · exact wpS_pure ⟨S2, .inr ⟨_, _, _, _, _, rfl, ⟨P3, S3⟩, by omega, h2', by omega⟩⟩
        · exact wpS_pure ⟨S2, _, _, _, _, _, rfl, ⟨P3, S3⟩, by omega, h2', by omega⟩
    case post1 =>
      rintro c st2 ⟨S2, ⟨r, h, hp⟩ | ⟨out, ia', ib', x, y, rfl, P2, h1', h2', h3'⟩⟩
      · obtain ⟨c1, cr⟩ := c
        dsimp only at h ⊢
        subst h
        exact wpS_pure ⟨S2, r, rfl, hp⟩
      dsimp only
      refine wpS_bind (wpS_lift (wpAny_rule ⟨rfl, ?_⟩))
      refine wpS_bind (wpS_mono (wpS_forRange (I := fun j c st' => SI κ a0 st st' ∧ ∃ (out : Array Keyed) (ia' ib' g x y : Nat), c = (none, out, ia', ib', g, x, y) ∧ (PL a b out ia' ib' ∧ SL L a b out ia' ib') ∧ ia' + 1 < a.size ∧ ib' < b.size ∧ ia + ib + 1 ≤ ia' + ib')
        (Q := fun c st' => SI κ a0 st st' ∧ ((∃ r : Array Keyed, c.1 = some r ∧ r.Perm (a ++ b) ∧ Sd L r.toList) ∨ ∃ (out : Array Keyed) (ia' ib' g x y : Nat), c = (none, out, ia', ib', g, x, y) ∧ (PL a b out ia' ib' ∧ SL L a b out ia' ib') ∧ ia' + 1 < a.size ∧ ib' < b.size ∧ ia + ib + 1 ≤ ia' + ib')) ?step2 ?fin2 ⟨S2, _, _, _, _, _, _, rfl, P2, h1', h2', h3'⟩) ?post2)
      case fin2 =>
        rintro c st' ⟨S, out, ia', ib', g, x, y, r⟩
        exact ⟨S, .inr ⟨out, ia', ib', g, x, y, r⟩⟩
      case post2 =>
        rintro c st3 ⟨S3, ⟨r, h, hp⟩ | ⟨out, ia', ib', g, x, y, rfl, P3, h1', h2', h3'⟩⟩
        · obtain ⟨c1, cr⟩ := c
          dsimp only at h ⊢
          subst h
          exact wpS_pure ⟨S3, r, rfl, hp⟩
        dsimp only
        refine wpS_bind (wpS_modify (wpS_pure ⟨⟨⟨S3.ok.kind, S3.ok.fail, S3.ok.perm⟩, S3.pend, S3.arr⟩, _, _, _, _, rfl, P3, h1', h2', by omega⟩))
      case step2 =>
        rintro j c st3 _ hj ⟨S3, out, ia', ib', g, x, y, rfl, ⟨P3, Z3⟩, h1', h2', h3'⟩
        dsimp only
        by_cases hg : g > 1
        case' pos => rw [if_pos hg]
        case' neg => rw [if_neg hg]
        all_goals
          refine wpS_bind (wpS_modify ?_)
          refine wpS_bind (elem_ok h2' ?_)
          refine wpS_bind (gallop_all o hc S3.ok.kind (hb _ (Array.getElem_mem _)) ha (by omega) (by omega) sda fun k hk kt kf => ?_)
          dsimp only
          have kt : ∀ x ∈ (a.extract ia' (ia' + k)).toList, ∀ y ∈ b.toList.drop ib', L y x = false := fun x hx y hy => o.tr x b[ib'] y (bkR (kt x hx)) (hdb ib' h2' y hy)
          have kf : ∀ x ∈ a.toList.drop (ia' + k), L x b[ib'] = false := fun x hx => o.asym _ _ (bkR' (kf x hx))
          by_cases hk0 : k > 0
          case' pos =>
            rw [if_pos hk0]
            have P4 := P3.takeA k
            have Z4 := Z3.takeA kt
            by_cases d1 : (ia' + k + 1 == a.size) = true
            · rw [if_pos d1]
              simp only [beq_iff_eq] at d1
              exact wpS_pure ⟨⟨⟨S3.ok.kind, S3.ok.fail, S3.ok.perm⟩, S3.pend, S3.arr⟩, .inl ⟨_, rfl, P4.last, Z4.last (by omega) (hl _ (by omega) (by omega))⟩⟩
            rw [if_neg d1]
            by_cases d2 : (ia' + k == a.size) = true
            · rw [if_pos d2]
              simp only [beq_iff_eq] at d2
              exact wpS_pure ⟨⟨⟨S3.ok.kind, S3.ok.fail, S3.ok.perm⟩, S3.pend, S3.arr⟩, .inl ⟨_, rfl, P4.done, Z4.doneA (by omega)⟩⟩
            rw [if_neg d2]
            simp only [beq_iff_eq] at d1 d2
            have hI : ia' + k + 1 < a.size := by omega
            have hJ : ia + ib + 1 ≤ ia' + k + ib' := by omega
            generalize out ++ a.extract ia' (ia' + k) = OUT at P4 Z4
            generalize ia' + k = IA at P4 Z4 hI hJ kf
          case' neg =>
            rw [if_neg hk0]
            have P4 := P3
            have Z4 := Z3
            have hI := h1'
            have hJ := h3'
            have kf : ∀ x ∈ a.toList.drop ia', L x b[ib'] = false := by
              have e : ia' + k = ia' := by omega
              rw [e] at kf
              exact kf
            generalize out = OUT at P4 Z4
            generalize ia' = IA at P4 Z4 hI hJ kf
          all_goals
            refine wpS_bind (elem_ok h2' ?_)
            have P5 := P4.pushB h2'
            have Z5 := Z4.pushB h2' kf
            by_cases d3 : (ib' + 1 == b.size) = true
            · rw [if_pos d3]
              simp only [beq_iff_eq] at d3
              exact wpS_pure ⟨⟨⟨S3.ok.kind, S3.ok.fail, S3.ok.perm⟩, S3.pend, S3.arr⟩, .inl ⟨_, rfl, P5.done, Z5.doneB (by omega)⟩⟩
            rw [if_neg d3]
            simp only [beq_iff_eq] at d3
            refine wpS_bind (elem_ok (by omega) ?_)
            refine wpS_bind (gallop_all o hc S3.ok.kind (ha _ (Array.getElem_mem _)) hb (by omega) (by omega) sdb fun k2 hk2 kt2 kf2 => ?_)
            dsimp only
            have kt2 : ∀ x ∈ (b.extract (ib' + 1) (ib' + 1 + k2)).toList, ∀ y ∈ a.toList.drop IA, L y x = false := fun x hx y hy => o.tr x (a[IA]'(by omega)) y (o.asym _ _ (show L x (a[IA]'(by omega)) = true from kt2 x hx)) (hda IA (by omega) y hy)
            have kf2 : ∀ x ∈ b.toList.drop (ib' + 1 + k2), L x (a[IA]'(by omega)) = false := fun x hx => kf2 x hx
            by_cases hk3 : k2 > 0
            case' pos =>
              rw [if_pos hk3]
              have P6 := P5.takeB k2
              have Z6 := Z5.takeB kt2
              by_cases d4 : (ib' + 1 + k2 == b.size) = true
              · rw [if_pos d4]
                simp only [beq_iff_eq] at d4
                exact wpS_pure ⟨⟨⟨S3.ok.kind, S3.ok.fail, S3.ok.perm⟩, S3.pend, S3.arr⟩, .inl ⟨_, rfl, P6.done, Z6.doneB (by omega)⟩⟩
              rw [if_neg d4]
              simp only [beq_iff_eq] at d4
              have hB : ib' + 1 + k2 < b.size := by omega
              have hC : ia + ib + 1 ≤ IA + (ib' + 1 + k2) := by omega
            case' neg =>
              rw [if_neg hk3]
              have P6 := P5
              have Z6 := Z5
              have kf2 : ∀ x ∈ b.toList.drop (ib' + 1), L x (a[IA]'(by omega)) = false := by
                have e : ib' + 1 + k2 = ib' + 1 := by omega
                rw [e] at kf2
                exact kf2
              have hB : ib' + 1 < b.size := by omega
              have hC : ia + ib + 1 ≤ IA + (ib' + 1) := by omega
            all_goals
              refine wpS_bind (elem_ok (by omega) ?_)
              have P7 := P6.pushA (by omega)
              have Z7 := Z6.pushA (by omega) kf2
              by_cases d5 : (IA + 1 + 1 == a.size) = true
              · rw [if_pos d5]
                simp only [beq_iff_eq] at d5
                exact wpS_pure ⟨⟨⟨S3.ok.kind, S3.ok.fail, S3.ok.perm⟩, S3.pend, S3.arr⟩, .inl ⟨_, rfl, P7.last, Z7.last (by omega) (hl _ (by omega) (by omega))⟩⟩
              rw [if_neg d5]
              simp only [beq_iff_eq] at d5
              by_cases d6 : (decide (k < 7) && decide (k2 < 7)) = true
              · rw [if_pos d6]
                exact wpS_pure ⟨⟨⟨S3.ok.kind, S3.ok.fail, S3.ok.perm⟩, S3.pend, S3.arr⟩, .inr ⟨_, _, _, _, _, _, rfl, ⟨P7, Z7⟩, by omega, hB, by omega⟩⟩
              · rw [if_neg d6]
                exact wpS_pure ⟨⟨⟨S3.ok.kind, S3.ok.fail, S3.ok.perm⟩, S3.pend, S3.arr⟩, _, _, _, _, _, _, rfl, ⟨P7, Z7⟩, by omega, hB, by omega⟩
end
end Tim
namespace Tim
open PySem PyProof.Rows
section
variable {L : Keyed → Keyed → Bool}
structure SH (L : Keyed → Keyed → Bool) (a b out : Array Keyed) (na nb : Nat) : Prop where
  A : Sd L (a.toList.take na ++ out.toList.reverse)
  B : Sd L (b.toList.take nb ++ out.toList.reverse)
variable {a b out : Array Keyed} {na nb : Nat}
theorem SH.downA (h : SH L a b out na nb) (h0 : 0 < na) (hi : na - 1 < a.size) (c : ∀ y ∈ b.toList.take nb, L a[na - 1] y = false) : SH L a b (out.push a[na - 1]) (na - 1) nb := by
  have h1 := h.A
  rw [take_last a na h0 hi] at h1
  obtain ⟨x, y⟩ := Sd.splitR h1 h.B (fun y hy x hx => by rw [List.mem_singleton.mp hx]; exact c y hy)
  have e : (out.push a[na - 1]).toList.reverse = [a[na - 1]] ++ out.toList.reverse := by simp
  exact ⟨by rw [e]; exact x, by rw [e]; exact y⟩
theorem SH.downB (h : SH L a b out na nb) (h0 : 0 < nb) (hi : nb - 1 < b.size) (c : ∀ y ∈ a.toList.take na, L b[nb - 1] y = false) : SH L a b (out.push b[nb - 1]) na (nb - 1) := by
  have h1 := h.B
  rw [take_last b nb h0 hi] at h1
  obtain ⟨x, y⟩ := Sd.splitR h1 h.A (fun y hy x hx => by rw [List.mem_singleton.mp hx]; exact c y hy)
  have e : (out.push b[nb - 1]).toList.reverse = [b[nb - 1]] ++ out.toList.reverse := by simp
  exact ⟨by rw [e]; exact y, by rw [e]; exact x⟩
theorem SH.takeA (h : SH L a b out na nb) {k : Nat} (hk : k ≤ na) (c : ∀ y ∈ b.toList.take nb, ∀ x ∈ (a.extract k na).toList, L x y = false) : SH L a b (out ++ (a.extract k na).reverse) k nb := by
  have h1 := h.A
  rw [take_ex a k na hk] at h1
  obtain ⟨x, y⟩ := Sd.splitR h1 h.B c
  have e : (out ++ (a.extract k na).reverse).toList.reverse = (a.extract k na).toList ++ out.toList.reverse := by
    simp only [Array.toList_append, Array.toList_reverse, List.reverse_append, List.reverse_reverse]
  exact ⟨by rw [e]; exact x, by rw [e]; exact y⟩
theorem SH.takeB (h : SH L a b out na nb) {k : Nat} (hk : k ≤ nb) (c : ∀ y ∈ a.toList.take na, ∀ x ∈ (b.extract k nb).toList, L x y = false) : SH L a b (out ++ (b.extract k nb).reverse) na k := by
  have h1 := h.B
  rw [take_ex b k nb hk] at h1
  obtain ⟨x, y⟩ := Sd.splitR h1 h.A c
  have e : (out ++ (b.extract k nb).reverse).toList.reverse = (b.extract k nb).toList ++ out.toList.reverse := by
    simp only [Array.toList_append, Array.toList_reverse, List.reverse_append, List.reverse_reverse]
  exact ⟨by rw [e]; exact y, by rw [e]; exact x⟩
theorem SH.doneA (h : SH L a b out na nb) (hn : na = 0) : Sd L (a.extract 0 na ++ b.extract 0 nb ++ out.reverse).toList := by
  subst hn
  rw [Array.toList_append, Array.toList_append, ext_zero, ext_zero, Array.toList_reverse, List.take_zero, List.nil_append]
  exact h.B
theorem SH.doneB (h : SH L a b out na nb) (hn : nb = 0) : Sd L (a.extract 0 na ++ b.extract 0 nb ++ out.reverse).toList := by
  subst hn
  rw [Array.toList_append, Array.toList_append, ext_zero, ext_zero, Array.toList_reverse, List.take_zero, List.append_nil]
  exact h.A
theorem SH.first (h : SH L a b out na nb) (b1 : 1 ≤ b.size) (hn : nb = 1) (hf : ∀ x ∈ a.toList, L x b[0] = false) : Sd L (b.extract 0 nb ++ a.extract 0 na ++ out.reverse).toList := by
  subst hn
  rw [Array.toList_append, Array.toList_append, ext_zero, ext_zero, Array.toList_reverse, List.append_assoc]
  have e : b.toList.take 1 = [b[0]] := by
    have := take_last b 1 (by omega) (by omega)
    simpa using this
  have h2 := h.B
  rw [e] at h2 ⊢
  refine List.pairwise_append.mpr ⟨List.pairwise_singleton _ _, h.A, fun x hx y hy => ?_⟩
  rw [List.mem_singleton.mp hx]
  rcases List.mem_append.mp hy with z | z
  · exact hf y (List.mem_of_mem_take z)
  · exact (List.pairwise_append.mp h2).2.2 _ (List.mem_singleton.mpr rfl) y z
end
section
variable {prog : Program} {w : World} {A : Around} {E : Value → Shared → Prop} {s : Shared} {κ : SortKind} {a0 : Array Keyed} {L : Keyed → Keyed → Bool}
theorem mergeHi_L (o : Ordr L) (hc : CmpL prog w A s κ a0 L) {a b : Array Keyed} {st : SortSt} {Q : Array Keyed → SortSt → Prop} (hk : Ok κ a0 st) (ha : In a0 a) (hb : In a0 b) (a1 : 1 ≤ a.size) (b1 : 1 ≤ b.size)
    (sda : Sd L a.toList) (sdb : Sd L b.toList) (hf : ∀ x ∈ a.toList, L x b[0] = false) (hl : ∀ y ∈ b.toList, L (a[a.size - 1]'(by omega)) y = false)
    (q : ∀ out st', out.Perm (a ++ b) → Sd L out.toList → SI κ a0 st st' → Q out st') : wpS (model prog w) A E s (mergeHi' a b) Q st := by
  have P0 : PH a b #[a[a.size - 1]] (a.size - 1) b.size := by
    have : PH a b #[] a.size b.size := by
      unfold PH
      rw [List.take_of_length_le (by simp), List.take_of_length_le (by simp)]
      simp
    exact this.downA (by omega) (by omega)
  have S0 : SH L a b #[a[a.size - 1]] (a.size - 1) b.size := by
    have : SH L a b #[] a.size b.size := by
      constructor
      · rw [List.take_of_length_le (by simp)]
        simpa using sda
      · rw [List.take_of_length_le (by simp)]
        simpa using sdb
    exact this.downA (by omega) (by omega) fun y hy => hl y (List.mem_of_mem_take hy)
  have ldb := fun (n : Nat) (h0 : 0 < n) (hi : n - 1 < b.size) => sdb.lastL o h0 hi
  have lda := fun (n : Nat) (h0 : 0 < n) (hi : n - 1 < a.size) => sda.lastL o h0 hi
  refine wpS_bind (wpS_lift (wpAny_rule ⟨rfl, ?_⟩))
  dsimp only
  refine wpS_bind (elem_ok (by omega) ?_)
  by_cases c1 : (a.size - 1 == 0) = true
  · rw [if_pos c1]
    simp only [beq_iff_eq] at c1
    exact wpS_pure (q _ _ P0.done (S0.doneA (by omega)) ⟨hk, rfl, rfl⟩)
  rw [if_neg c1]
  by_cases c2 : (b.size == 1) = true
  · rw [if_pos c2]
    simp only [beq_iff_eq] at c2
    exact wpS_pure (q _ _ P0.first (S0.first b1 (by omega) hf) ⟨hk, rfl, rfl⟩)
  rw [if_neg c2]
  simp only [beq_iff_eq] at c1 c2
  refine wpS_bind (wpS_get ?_)
  refine wpS_bind (wpS_mono (wpS_forRange (I := fun i c st' => SI κ a0 st st' ∧ ∃ (out : Array Keyed) (na nb g : Nat), c = (none, na, nb, out, g) ∧ (PH a b out na nb ∧ SH L a b out na nb) ∧ 1 ≤ na ∧ na ≤ a.size ∧ 2 ≤ nb ∧ nb ≤ b.size ∧ na + nb + i + 1 ≤ a.size + b.size)
    (Q := fun c st' => SI κ a0 st st' ∧ ∃ r : Array Keyed, c.1 = some r ∧ r.Perm (a ++ b) ∧ Sd L r.toList) ?step ?fin ⟨⟨hk, rfl, rfl⟩, _, _, _, _, rfl, ⟨P0, S0⟩, by omega, by omega, by omega, by omega, by omega⟩) ?post)
  case fin =>
    rintro c st' ⟨_, out, na, nb, g, _, _, h1, h1b, h2, h2b, h3⟩
    rw [Nat.zero_max] at h3
    omega
  case post =>
    rintro ⟨c, r4⟩ st' ⟨S, r, h, hp⟩
    dsimp only at h ⊢
    subst h
    exact wpS_pure (q _ _ hp.1 hp.2 S)
  case step =>
    rintro i c st1 _ hi ⟨S1, out, na, nb, g, rfl, P, h1, h1b, h2, h2b, h3⟩
    dsimp only
    refine wpS_bind (wpS_mono (wpS_forRange (I := fun j c st' => SI κ a0 st st' ∧ ∃ (out : Array Keyed) (ma mb x y : Nat), c = (none, ma, mb, out, x, y) ∧ (PH a b out ma mb ∧ SH L a b out ma mb) ∧ 1 ≤ ma ∧ ma ≤ a.size ∧ 2 ≤ mb ∧ mb ≤ b.size ∧ ma + mb + j ≤ na + nb)
      (Q := fun c st' => SI κ a0 st st' ∧ ((∃ r : Array Keyed, c.1 = some r ∧ r.Perm (a ++ b) ∧ Sd L r.toList) ∨ ∃ (out : Array Keyed) (ma mb x y : Nat), c = (none, ma, mb, out, x, y) ∧ (PH a b out ma mb ∧ SH L a b out ma mb) ∧ 1 ≤ ma ∧ ma ≤ a.size ∧ 2 ≤ mb ∧ mb ≤ b.size ∧ ma + mb + 1 ≤ na + nb)) ?step1 ?fin1 ⟨S1, _, _, _, _, _, rfl, P, h1, h1b, h2, h2b, by omega⟩) ?post1)
    case fin1 =>
      rintro c st' ⟨S, out, ma, mb, x, y, rfl, P, h1, h1b, h2, h2b, h3⟩
      rw [Nat.zero_max] at h3
      exact ⟨S, .inr ⟨out, ma, mb, x, y, rfl, P, h1, h1b, h2, h2b, by omega⟩⟩
    case step1 =>
      rintro j c st2 _ hj ⟨S2, out, ma, mb, x, y, rfl, P2, h1', h1b', h2', h2b', h3'⟩
      dsimp only
      refine wpS_bind (elem_ok (by omega) (wpS_bind (elem_ok (by omega) (wpS_bind (lt_L hc S2.ok.kind (hb _ (Array.getElem_mem _)) (ha _ (Array.getElem_mem _)) ?_)))))
      dsimp only
      cases bw : L (b[mb - 1]'(by omega)) (a[ma - 1]'(by omega)) with
      | true =>
        rw [if_pos rfl]
        refine wpS_bind (elem_ok (by omega) ?_)
        have P3 := P2.1.downA (by omega) (by omega)
        have Z3 := P2.2.downA (by omega) (by omega) fun y hy => o.tr y b[mb - 1] _ (ldb mb (by omega) (by omega) y hy) (o.asym _ _ bw)
        by_cases d1 : (ma - 1 == 0) = true
        · rw [if_pos d1]
          simp only [beq_iff_eq] at d1
          exact wpS_pure ⟨S2, .inl ⟨_, rfl, P3.done, Z3.doneA (by omega)⟩⟩
        rw [if_neg d1]
        simp only [beq_iff_eq] at d1
        split
        · exact wpS_pure ⟨S2, .inr ⟨_, _, _, _, _, rfl, ⟨P3, Z3⟩, by omega, by omega, by omega, by omega, by omega⟩⟩
        · exact wpS_pure ⟨S2, _, _, _, _, _, rfl, ⟨P3, Z3⟩, by omega, by omega, by omega, by omega, by omega⟩
      | false =>
        rw [if_neg Bool.false_ne_true]
        refine wpS_bind (elem_ok (by omega) ?_)
        have P3 := P2.1.downB (by omega) (by omega)
        have Z3 := P2.2.downB (by omega) (by omega) fun y hy => o.tr y a[ma - 1] _ (lda ma (by omega) (by omega) y hy) bw
        by_cases d1 : (mb - 1 == 1) = true
        · rw [if_pos d1]
          simp only [beq_iff_eq] at d1
          exact wpS_pure ⟨S2, .inl ⟨_, rfl, P3.first, Z3.first b1 (by omega) hf⟩⟩
        rw [if_neg d1]
        simp only [beq_iff_eq] at d1
        split
        · exact wpS_pure ⟨S2, .inr ⟨_, _, _, _, _, rfl, ⟨P3, Z3⟩, by omega, by omega, by omega, by omega, by omega⟩⟩
        · exact wpS_pure ⟨S2, _, _, _, _, _, rfl, ⟨P3, Z3⟩, by omega, by omega, by omega, by omega, by omega⟩
    case post1 =>
      rintro c st2 ⟨S2, ⟨r, h, hp⟩ | ⟨out, ma, mb, x, y, rfl, P2, h1', h1b', h2', h2b', h3'⟩⟩
      · obtain ⟨c1, cr⟩ := c
        dsimp only at h ⊢
        subst h
        exact wpS_pure ⟨S2, r, rfl, hp⟩
      dsimp only
      refine wpS_bind (wpS_lift (wpAny_rule ⟨rfl, ?_⟩))
      refine wpS_bind (wpS_mono (wpS_forRange (I := fun j c st' => SI κ a0 st st' ∧ ∃ (out : Array Keyed) (ma mb g x y : Nat), c = (none, ma, mb, out, g, x, y) ∧ (PH a b out ma mb ∧ SH L a b out ma mb) ∧ 1 ≤ ma ∧ ma ≤ a.size ∧ 2 ≤ mb ∧ mb ≤ b.size ∧ ma + mb + 1 ≤ na + nb)
        (Q := fun c st' => SI κ a0 st st' ∧ ((∃ r : Array Keyed, c.1 = some r ∧ r.Perm (a ++ b) ∧ Sd L r.toList) ∨ ∃ (out : Array Keyed) (ma mb g x y : Nat), c = (none, ma, mb, out, g, x, y) ∧ (PH a b out ma mb ∧ SH L a b out ma mb) ∧ 1 ≤ ma ∧ ma ≤ a.size ∧ 2 ≤ mb ∧ mb ≤ b.size ∧ ma + mb + 1 ≤ na + nb)) ?step2 ?fin2 ⟨S2, _, _, _, _, _, _, rfl, P2, h1', h1b', h2', h2b', h3'⟩) ?post2)
      case fin2 =>
        rintro c st' ⟨S, out, ma, mb, g, x, y, r⟩
        exact ⟨S, .inr ⟨out, ma, mb, g, x, y, r⟩⟩
      case post2 =>
        rintro c st3 ⟨S3, ⟨r, h, hp⟩ | ⟨out, ma, mb, g, x, y, rfl, P3, h1', h1b', h2', h2b', h3'⟩⟩
        · obtain ⟨c1, cr⟩ := c
          dsimp only at h ⊢
          subst h
          exact wpS_pure ⟨S3, r, rfl, hp⟩
        dsimp only
        refine wpS_bind (wpS_modify (wpS_pure ⟨⟨⟨S3.ok.kind, S3.ok.fail, S3.ok.perm⟩, S3.pend, S3.arr⟩, _, _, _, _, rfl, P3, by omega, by omega, by omega, by omega, by omega⟩))
      case step2 =>
        rintro j c st3 _ hj ⟨S3, out, ma, mb, g, x, y, rfl, ⟨P3, Z3⟩, h1', h1b', h2', h2b', h3'⟩
        dsimp only
        by_cases hg : g > 1
        case' pos => rw [if_pos hg]
        case' neg => rw [if_neg hg]
        all_goals
          refine wpS_bind (wpS_modify ?_)
          refine wpS_bind (elem_ok (by omega) ?_)
          refine wpS_bind (gallop_to o hc S3.ok.kind (hb _ (Array.getElem_mem _)) ha (by omega) (by omega) sda fun k hk kt kf => ?_)
          dsimp only
          have kf : ∀ y ∈ b.toList.take mb, ∀ x ∈ (a.extract k ma).toList, L x y = false := fun y hy x hx => o.tr y (b[mb - 1]'(by omega)) x (ldb mb (by omega) (by omega) y hy) (o.asym _ _ (bkR' (kf x hx)))
          have kt : ∀ x ∈ a.toList.take k, L (b[mb - 1]'(by omega)) x = false := fun x hx => bkR (kt x hx)
          by_cases hk0 : ma - k > 0
          case' pos =>
            rw [if_pos hk0]
            have P4 := P3.takeA hk
            have Z4 := Z3.takeA hk kf
            by_cases d1 : (k == 0) = true
            · rw [if_pos d1]
              simp only [beq_iff_eq] at d1
              exact wpS_pure ⟨⟨⟨S3.ok.kind, S3.ok.fail, S3.ok.perm⟩, S3.pend, S3.arr⟩, .inl ⟨_, rfl, P4.done, Z4.doneA (by omega)⟩⟩
            rw [if_neg d1]
            simp only [beq_iff_eq] at d1
            have hI : 1 ≤ k ∧ k ≤ a.size := by omega
            have hJ : k + mb + 1 ≤ na + nb := by omega
            generalize hX : ma - k = X
            generalize out ++ (a.extract k ma).reverse = OUT at P4 Z4
            clear hk0 hX hk kf
            generalize k = M at *
          case' neg =>
            rw [if_neg hk0]
            have P4 := P3
            have Z4 := Z3
            have ek : k = ma := by omega
            rw [ek] at kt
            have hI : 1 ≤ ma ∧ ma ≤ a.size := by omega
            have hJ : ma + mb + 1 ≤ na + nb := by omega
            generalize hX : ma - k = X
            generalize out = OUT at P4 Z4
            clear hk0 hX hk P3 Z3 h1' h1b' h3' kf ek
            generalize ma = M at *
          all_goals
            refine wpS_bind (elem_ok (by omega) ?_)
            have P5 := P4.downB (by omega) (by omega)
            have Z5 := Z4.downB (by omega) (by omega) kt
            by_cases d3 : (mb - 1 == 1) = true
            · rw [if_pos d3]
              simp only [beq_iff_eq] at d3
              exact wpS_pure ⟨⟨⟨S3.ok.kind, S3.ok.fail, S3.ok.perm⟩, S3.pend, S3.arr⟩, .inl ⟨_, rfl, P5.first, Z5.first b1 (by omega) hf⟩⟩
            rw [if_neg d3]
            simp only [beq_iff_eq] at d3
            refine wpS_bind (elem_ok (by omega) ?_)
            refine wpS_bind (gallop_to o hc S3.ok.kind (ha _ (Array.getElem_mem _)) hb (by omega) (by omega) sdb fun k2 hk2 kt2 kf2 => ?_)
            dsimp only
            have kf2 : ∀ y ∈ a.toList.take M, ∀ x ∈ (b.extract k2 (mb - 1)).toList, L x y = false := fun y hy x hx => o.tr y (a[M - 1]'(by omega)) x (lda M (by omega) (by omega) y hy) (show L x (a[M - 1]'(by omega)) = false from kf2 x hx)
            have kt2 : ∀ x ∈ b.toList.take k2, L (a[M - 1]'(by omega)) x = false := fun x hx => o.asym _ _ (show L x (a[M - 1]'(by omega)) = true from kt2 x hx)
            by_cases hk3 : mb - 1 - k2 > 0
            case' pos =>
              rw [if_pos hk3]
              have P6 := P5.takeB hk2
              have Z6 := Z5.takeB hk2 kf2
              by_cases d4 : (k2 == 1) = true
              · rw [if_pos d4]
                simp only [beq_iff_eq] at d4
                exact wpS_pure ⟨⟨⟨S3.ok.kind, S3.ok.fail, S3.ok.perm⟩, S3.pend, S3.arr⟩, .inl ⟨_, rfl, P6.first, Z6.first b1 (by omega) hf⟩⟩
              rw [if_neg d4]
              by_cases d5 : (k2 == 0) = true
              · rw [if_pos d5]
                simp only [beq_iff_eq] at d5
                exact wpS_pure ⟨⟨⟨S3.ok.kind, S3.ok.fail, S3.ok.perm⟩, S3.pend, S3.arr⟩, .inl ⟨_, rfl, P6.done, Z6.doneB (by omega)⟩⟩
              rw [if_neg d5]
              simp only [beq_iff_eq] at d4 d5
            case' neg =>
              rw [if_neg hk3]
              have P6 := P5
              have Z6 := Z5
              have ek2 : k2 = mb - 1 := by omega
              rw [ek2] at kt2
            all_goals
              refine wpS_bind (elem_ok (by omega) ?_)
              have P7 := P6.downA (by omega) (by omega)
              have Z7 := Z6.downA (by omega) (by omega) kt2
              by_cases d6 : (M - 1 == 0) = true
              · rw [if_pos d6]
                simp only [beq_iff_eq] at d6
                exact wpS_pure ⟨⟨⟨S3.ok.kind, S3.ok.fail, S3.ok.perm⟩, S3.pend, S3.arr⟩, .inl ⟨_, rfl, P7.done, Z7.doneA (by omega)⟩⟩
              rw [if_neg d6]
              simp only [beq_iff_eq] at d6
              split
              · exact wpS_pure ⟨⟨⟨S3.ok.kind, S3.ok.fail, S3.ok.perm⟩, S3.pend, S3.arr⟩, .inr ⟨_, _, _, _, _, _, rfl, ⟨P7, Z7⟩, by omega, by omega, by omega, by omega, by omega⟩⟩
              · exact wpS_pure ⟨⟨⟨S3.ok.kind, S3.ok.fail, S3.ok.perm⟩, S3.pend, S3.arr⟩, _, _, _, _, _, _, rfl, ⟨P7, Z7⟩, by omega, by omega, by omega, by omega, by omega⟩
end
end Tim
namespace Tim
open PySem PyProof.Rows
section
variable {L : Keyed → Keyed → Bool}
def RS (L : Keyed → Keyed → Bool) : List (Nat × Nat × Nat) → List Keyed → Prop
  | [], _ => True
  | r :: rest, l => Sd L (l.take r.2.1) ∧ RS L rest (l.drop r.2.1)
theorem Chain.ge : ∀ {rs : List (Nat × Nat × Nat)} {b e i : Nat} {x : Nat × Nat × Nat}, Chain rs b e → rs[i]? = some x → b ≤ x.1 ∧ x.1 + x.2.1 ≤ e
  | [], _, _, _, _, _, h => by simp at h
  | r :: rest, b, e, 0, x, h, h1 => by
    obtain rfl : r = x := by simpa using h1
    have := h.2.2.le
    have := h.1
    omega
  | r :: rest, b, e, i + 1, x, h, h1 => by
    have := h.2.2.ge (i := i) (by simpa using h1)
    omega
theorem RS.at : ∀ {rs : List (Nat × Nat × Nat)} {b e i : Nat} {x : Nat × Nat × Nat} {l : List Keyed}, Chain rs b e → RS L rs l → rs[i]? = some x → Sd L ((l.drop (x.1 - b)).take x.2.1)
  | [], _, _, _, _, _, _, _, h => by simp at h
  | r :: rest, b, e, 0, x, l, c, h, h1 => by
    obtain rfl : r = x := by simpa using h1
    rw [show r.1 - b = 0 by have := c.1; omega, List.drop_zero]
    exact h.1
  | r :: rest, b, e, i + 1, x, l, c, h, h1 => by
    have h1 : rest[i]? = some x := by simpa using h1
    have g := c.2.2.ge h1
    have := RS.at c.2.2 h.2 h1
    rw [List.drop_drop, show r.2.1 + (x.1 - (b + r.2.1)) = x.1 - b by omega] at this
    exact this
theorem RS.put : ∀ {rs : List (Nat × Nat × Nat)} {b e i : Nat} {x y : Nat × Nat × Nat} {l M : List Keyed}, Chain rs b e → RS L rs l → e - b ≤ l.length → rs[i]? = some x → rs[i + 1]? = some y → M.length = x.2.1 + y.2.1 → Sd L M →
    RS L ((rs.set i (x.1, x.2.1 + y.2.1, x.2.2)).eraseIdx (i + 1)) (l.take (x.1 - b) ++ (M ++ l.drop (x.1 - b + (x.2.1 + y.2.1))))
  | [], _, _, _, _, _, _, _, _, _, _, h, _, _, _ => by simp at h
  | r :: rest, b, e, 0, x, y, l, M, c, h, hl, h1, h2, hM, sM => by
    obtain rfl : r = x := by simpa using h1
    cases rest with
    | nil => simp at h2
    | cons r2 rest =>
      obtain rfl : r2 = y := by simpa using h2
      rw [show r.1 - b = 0 by have := c.1; omega, List.take_zero, List.nil_append, show 0 + (r.2.1 + r2.2.1) = r.2.1 + r2.2.1 from Nat.zero_add _]
      show Sd L ((M ++ l.drop (r.2.1 + r2.2.1)).take (r.2.1 + r2.2.1)) ∧ RS L rest ((M ++ l.drop (r.2.1 + r2.2.1)).drop (r.2.1 + r2.2.1))
      rw [← hM, List.take_left', List.drop_left', hM]
      · refine ⟨sM, ?_⟩
        have := h.2.2
        rw [List.drop_drop] at this
        exact this
      · rfl
      · rfl
  | r :: rest, b, e, i + 1, x, y, l, M, c, h, hl, h1, h2, hM, sM => by
    have h1 : rest[i]? = some x := by simpa using h1
    have h2 : rest[i + 1]? = some y := by simpa using h2
    have g := c.2.2.ge h1
    have g2 := c.2.2.ge h2
    have hl2 : e - (b + r.2.1) ≤ (l.drop r.2.1).length := by rw [List.length_drop]; omega
    have ih := RS.put c.2.2 h.2 hl2 h1 h2 hM sM
    have e1 : x.1 - b = r.2.1 + (x.1 - (b + r.2.1)) := by omega
    rw [List.drop_drop] at ih
    show RS L (r :: (rest.set i _).eraseIdx (i + 1)) _
    refine ⟨?_, ?_⟩
    · rw [List.take_append_of_le_length (by rw [List.length_take]; omega), List.take_take, Nat.min_eq_left (by omega)]
      exact h.1
    · have e2 : (l.take (x.1 - b) ++ (M ++ l.drop (x.1 - b + (x.2.1 + y.2.1)))).drop r.2.1 = (l.drop r.2.1).take (x.1 - (b + r.2.1)) ++ (M ++ l.drop (r.2.1 + (x.1 - (b + r.2.1) + (x.2.1 + y.2.1)))) := by
        rw [List.drop_append_of_le_length (by rw [List.length_take]; omega), List.drop_take, show x.1 - b - r.2.1 = x.1 - (b + r.2.1) by omega, show x.1 - b + (x.2.1 + y.2.1) = r.2.1 + (x.1 - (b + r.2.1) + (x.2.1 + y.2.1)) by omega]
      rw [e2]
      exact ih
theorem RS.snoc : ∀ {rs : List (Nat × Nat × Nat)} {b e n p : Nat} {l : List Keyed}, Chain rs b e → RS L rs l → Sd L ((l.drop (e - b)).take n) → RS L (rs ++ [(e, n, p)]) l
  | [], b, e, n, p, l, c, _, h => by
    have c : b = e := c
    rw [show e - b = 0 by omega, List.drop_zero] at h
    exact ⟨h, trivial⟩
  | r :: rest, b, e, n, p, l, c, h, hs => by
    have := c.2.2.le
    refine ⟨h.1, RS.snoc c.2.2 h.2 ?_⟩
    rw [List.drop_drop, show r.2.1 + (e - (b + r.2.1)) = e - b by omega]
    exact hs
theorem RS.mod : ∀ {rs : List (Nat × Nat × Nat)} {l : List Keyed} (i pw : Nat), RS L rs l → RS L (rs.modify i fun x => (x.1, x.2.1, pw)) l
  | [], _, i, _, h => by cases i <;> exact h
  | _ :: _, _, 0, _, h => h
  | _ :: _, _, i + 1, pw, h => ⟨h.1, h.2.mod i pw⟩
theorem RS.same : ∀ {rs : List (Nat × Nat × Nat)} {b e : Nat} {l l' : List Keyed}, Chain rs b e → RS L rs l → l'.take (e - b) = l.take (e - b) → RS L rs l'
  | [], _, _, _, _, _, _, _ => trivial
  | r :: rest, b, e, l, l', c, h, hs => by
    have := c.2.2.le
    refine ⟨?_, RS.same c.2.2 h.2 ?_⟩
    · have := congrArg (List.take r.2.1) hs
      rw [List.take_take, List.take_take, Nat.min_eq_left (by omega)] at this
      rw [this]
      exact h.1
    · have := congrArg (List.drop r.2.1) hs
      rw [List.drop_take, List.drop_take] at this
      rw [show e - (b + r.2.1) = e - b - r.2.1 by omega]
      exact this
theorem merged (o : Ordr L) {A B out : List Keyed} {k k2 : Nat} {b0 al : Keyed} (sA : Sd L A) (sB : Sd L B) (hb : ∀ y ∈ B, L y b0 = false) (hal : ∀ x ∈ A, L al x = false)
    (t1 : ∀ x ∈ A.take k, L b0 x = false) (f2 : ∀ x ∈ B.drop k2, L x al = false) (so : Sd L out) (hp : out.Perm (A.drop k ++ B.take k2)) : Sd L (A.take k ++ (out ++ B.drop k2)) := by
  have sA2 : Sd L (A.take k ++ A.drop k) := by rw [List.take_append_drop]; exact sA
  have sB2 : Sd L (B.take k2 ++ B.drop k2) := by rw [List.take_append_drop]; exact sB
  obtain ⟨a1, a2, a3⟩ := List.pairwise_append.mp sA2
  obtain ⟨b1, b2, b3⟩ := List.pairwise_append.mp sB2
  have om : ∀ x ∈ out, x ∈ A.drop k ∨ x ∈ B.take k2 := fun x hx => List.mem_append.mp (hp.mem_iff.mp hx)
  refine List.pairwise_append.mpr ⟨a1, List.pairwise_append.mpr ⟨so, b2, fun x hx y hy => ?_⟩, fun x hx y hy => ?_⟩
  · rcases om x hx with z | z
    · exact o.tr x al y (hal x (List.mem_of_mem_drop z)) (f2 y hy)
    · exact b3 x z y hy
  · have inB : y ∈ B → L y x = false := fun z => o.tr x b0 y (t1 x hx) (hb y z)
    rcases List.mem_append.mp hy with z | z
    · rcases om y z with z | z
      · exact a3 x hx y z
      · exact inB (List.mem_of_mem_take z)
    · exact inB (List.mem_of_mem_drop z)
end
section
variable {prog : Program} {w : World} {A : Around} {E : Value → Shared → Prop} {s : Shared} {κ : SortKind} {a0 : Array Keyed} {L : Keyed → Keyed → Bool}
theorem mergeAt_L (o : Ordr L) (hc : CmpL prog w A s κ a0 L) {i lo : Nat} {st : SortSt} {Q : Bool → SortSt → Prop} (ok : Ok κ a0 st) (hr : Chain (pendingOf st).toList 0 lo) (hs : RS L (pendingOf st).toList (arrOf st).toList) (hlo : lo ≤ a0.size) (hi : i + 1 < (pendingOf st).size)
    (q : ∀ st', Ok κ a0 st' → Chain (pendingOf st').toList 0 lo → RS L (pendingOf st').toList (arrOf st').toList → (arrOf st').toList.drop lo = (arrOf st).toList.drop lo → (pendingOf st').size + 1 = (pendingOf st).size → Q true st') : wpS (model prog w) A E s (mergeAt' i) Q st := by
  have e1 : (pendingOf st)[i]? = some (pendingOf st)[i] := Array.getElem?_eq_getElem (by omega)
  have e2 : (pendingOf st)[i + 1]? = some (pendingOf st)[i + 1] := Array.getElem?_eq_getElem hi
  generalize (pendingOf st)[i] = x at e1
  generalize (pendingOf st)[i + 1] = y at e2
  have el1 : (pendingOf st).toList[i]? = some x := by rw [Array.getElem?_toList]; exact e1
  have el2 : (pendingOf st).toList[i + 1]? = some y := by rw [Array.getElem?_toList]; exact e2
  obtain ⟨g1, g2, g3, g4, g5⟩ := hr.merge el1 el2
  have hsz : (arrOf st).size = a0.size := ok.perm.size_eq
  have sA := RS.at hr hs el1
  have sB := RS.at hr hs el2
  have put := fun (M : List Keyed) => RS.put (M := M) hr hs (by rw [Array.length_toList]; omega) el1 el2
  obtain ⟨sa, na, pw⟩ := x
  obtain ⟨sb, nb, pw2⟩ := y
  dsimp only at g1 g2 g3 g4 g5 sA sB put
  rw [Nat.sub_zero] at sA sB
  simp only [Nat.sub_zero] at put
  have hin : In a0 (arrOf st) := fun z hz => ok.perm.mem_iff.mp hz
  refine wpS_bind (wpS_get ?_)
  show wpS _ _ _ _ (match ((pendingOf st)[i]?, (pendingOf st)[i + 1]?) with | _ => _) Q st
  rw [e1, e2]
  dsimp only
  have pe : ((((pendingOf st).setIfInBounds i (sa, na + nb, pw)).eraseIdxIfInBounds (i + 1)).toList) = ((pendingOf st).toList.set i (sa, na + nb, pw)).eraseIdx (i + 1) := by
    rw [Array.eraseIdxIfInBounds_eq]
    simp [hi]
  have ps : (((pendingOf st).setIfInBounds i (sa, na + nb, pw)).eraseIdxIfInBounds (i + 1)).size + 1 = (pendingOf st).size := by
    have := congrArg List.length pe
    rw [Array.length_toList, List.length_eraseIdx_of_lt (by simpa using hi), List.length_set, Array.length_toList] at this
    omega
  have okn : ∀ (pp : Array (Nat × Nat × Nat)) (g : Nat), Ok κ a0 (SortSt.mk' (kindOf st) (arrOf st) pp g (failedOf st)) := fun _ _ => ⟨ok.kind, ok.fail, ok.perm⟩
  refine wpS_bind (wpS_set ?_)
  -- the two runs, as lists
  have lA : (((arrOf st).toList.drop sa).take na).length = na := by rw [List.length_take, List.length_drop, Array.length_toList]; omega
  have lB : (((arrOf st).toList.drop sb).take nb).length = nb := by rw [List.length_take, List.length_drop, Array.length_toList]; omega
  have whole : (arrOf st).toList = (arrOf st).toList.take sa ++ ((((arrOf st).toList.drop sa).take na ++ ((arrOf st).toList.drop sb).take nb) ++ (arrOf st).toList.drop (sa + (na + nb))) := by
    have t1 : (arrOf st).toList.drop sa = ((arrOf st).toList.drop sa).take na ++ (arrOf st).toList.drop sb := by
      conv => lhs; rw [← List.take_append_drop na ((arrOf st).toList.drop sa), List.drop_drop]
      rw [g1]
    have t2 : (arrOf st).toList.drop sb = ((arrOf st).toList.drop sb).take nb ++ (arrOf st).toList.drop (sa + (na + nb)) := by
      conv => lhs; rw [← List.take_append_drop nb ((arrOf st).toList.drop sb), List.drop_drop]
      rw [show sb + nb = sa + (na + nb) by omega]
    rw [List.append_assoc, ← t2, ← t1, List.take_append_drop]
  have headB : ∀ y ∈ ((arrOf st).toList.drop sb).take nb, L y ((arrOf st)[sb]'(by omega)) = false := fun y hy => by
    obtain ⟨j, hj, rfl⟩ := List.mem_iff_getElem.mp hy
    rw [lB] at hj
    have e0 : (arrOf st)[sb]'(by omega) = (((arrOf st).toList.drop sb).take nb)[0]'(by omega) := by
      rw [List.getElem_take, List.getElem_drop, Array.getElem_toList]
      rfl
    rw [e0]
    by_cases z : j = 0
    · subst z; exact o.irr _
    · exact List.pairwise_iff_getElem.mp sB 0 j (by omega) (by omega) (by omega)
  have leaf : Sd L (((arrOf st).toList.drop sa).take na ++ ((arrOf st).toList.drop sb).take nb) → Q true (SortSt.mk' (kindOf st) (arrOf st) (((pendingOf st).setIfInBounds i (sa, na + nb, pw)).eraseIdxIfInBounds (i + 1)) (gallopOf st) (failedOf st)) := fun sM => by
    refine q _ (okn _ _) (by show Chain (Array.toList _) 0 lo; rw [pe]; exact g5) ?_ rfl ps
    have := put _ (by rw [List.length_append, lA, lB]) sM
    rw [← whole] at this
    show RS L (Array.toList _) _
    rw [pe]
    exact this
  refine wpS_bind (elem_ok (show sb < (arrOf st).size by omega) ?_)
  refine wpS_bind (gallop_L o hc ok.kind (hin _ (Array.getElem_mem _)) hin (show sa + na ≤ (arrOf st).size by omega) (by omega) sA fun k hk kt kf => ?_)
  dsimp only
  have kt : ∀ x ∈ (((arrOf st).toList.drop sa).take na).take k, L ((arrOf st)[sb]'(by omega)) x = false := fun x hx => bkR (kt x hx)
  have kf : ∀ x ∈ (((arrOf st).toList.drop sa).take na).drop k, L ((arrOf st)[sb]'(by omega)) x = true := fun x hx => bkR' (kf x hx)
  by_cases d1 : (na - k == 0) = true
  · rw [if_pos d1]
    simp only [beq_iff_eq] at d1
    refine wpS_pure (leaf (List.pairwise_append.mpr ⟨sA, sB, fun x hx y hy => ?_⟩))
    rw [List.take_of_length_le (by omega)] at kt
    exact o.tr x _ y (kt x hx) (headB y hy)
  rw [if_neg d1]
  simp only [beq_iff_eq] at d1
  have ila : sa + k + (na - k) - 1 < (arrOf st).size := by omega
  have lastA : ∀ y ∈ ((arrOf st).toList.drop sa).take na, L ((arrOf st)[sa + k + (na - k) - 1]'ila) y = false := fun y hy => by
    obtain ⟨j, hj, rfl⟩ := List.mem_iff_getElem.mp hy
    rw [lA] at hj
    have e0 : (arrOf st)[sa + k + (na - k) - 1]'ila = (((arrOf st).toList.drop sa).take na)[na - 1]'(by omega) := by
      rw [List.getElem_take, List.getElem_drop, Array.getElem_toList]
      congr 1
      omega
    rw [e0]
    by_cases z : j = na - 1
    · subst z; exact o.irr _
    · exact List.pairwise_iff_getElem.mp sA j (na - 1) (by omega) (by omega) (by omega)
  refine wpS_bind (elem_ok ila ?_)
  refine wpS_bind (gallop_L o hc ok.kind (hin _ (Array.getElem_mem _)) hin (show sb + nb ≤ (arrOf st).size by omega) (by omega) sB fun k2 hk2 kt2 kf2 => ?_)
  dsimp only
  have kt2 : ∀ x ∈ (((arrOf st).toList.drop sb).take nb).take k2, L x ((arrOf st)[sa + k + (na - k) - 1]'ila) = true := fun x hx => kt2 x hx
  have kf2 : ∀ x ∈ (((arrOf st).toList.drop sb).take nb).drop k2, L x ((arrOf st)[sa + k + (na - k) - 1]'ila) = false := fun x hx => kf2 x hx
  by_cases d2 : (k2 == 0) = true
  · rw [if_pos d2]
    simp only [beq_iff_eq] at d2
    refine wpS_pure (leaf (List.pairwise_append.mpr ⟨sA, sB, fun x hx y hy => ?_⟩))
    rw [d2, List.drop_zero] at kf2
    exact o.tr x _ y (lastA x hx) (kf2 y hy)
  rw [if_neg d2]
  simp only [beq_iff_eq] at d2
  have xs : ((arrOf st).extract (sa + k) sb).size = na - k := by rw [Array.size_extract]; omega
  have ys : ((arrOf st).extract sb (sb + k2)).size = k2 := by rw [Array.size_extract]; omega
  have xl : ((arrOf st).extract (sa + k) sb).toList = (((arrOf st).toList.drop sa).take na).drop k := by
    rw [Array.toList_extract, List.extract_eq_take_drop, List.drop_take, List.drop_drop]
    congr 1
    omega
  have yl : ((arrOf st).extract sb (sb + k2)).toList = (((arrOf st).toList.drop sb).take nb).take k2 := by
    rw [Array.toList_extract, List.extract_eq_take_drop, List.take_take, Nat.min_eq_left hk2]
    congr 1
    omega
  have inx : In a0 ((arrOf st).extract (sa + k) sb) := fun z hz => hin z (by
    rw [← Array.mem_toList_iff] at hz ⊢
    rw [Array.toList_extract, List.extract_eq_take_drop] at hz
    exact List.mem_of_mem_drop (List.mem_of_mem_take hz))
  have iny : In a0 ((arrOf st).extract sb (sb + k2)) := fun z hz => hin z (by
    rw [← Array.mem_toList_iff] at hz ⊢
    rw [Array.toList_extract, List.extract_eq_take_drop] at hz
    exact List.mem_of_mem_drop (List.mem_of_mem_take hz))
  have sdx : Sd L ((arrOf st).extract (sa + k) sb).toList := by rw [xl]; exact sA.drop k
  have sdy : Sd L ((arrOf st).extract sb (sb + k2)).toList := by rw [yl]; exact sB.take k2
  have y0 : ∀ h : 0 < ((arrOf st).extract sb (sb + k2)).size, ((arrOf st).extract sb (sb + k2))[0] = (arrOf st)[sb]'(by omega) := fun h => by
    rw [Array.getElem_extract]
    rfl
  have xla : ∀ (j : Nat) (h : j < ((arrOf st).extract (sa + k) sb).size), j + 1 = ((arrOf st).extract (sa + k) sb).size → ((arrOf st).extract (sa + k) sb)[j] = (arrOf st)[sa + k + (na - k) - 1]'ila := fun j h e => by
    rw [Array.getElem_extract]
    congr 1
    omega
  have fin : ∀ (out : Array Keyed) (st' : SortSt), out.Perm ((arrOf st).extract (sa + k) sb ++ (arrOf st).extract sb (sb + k2)) → Sd L out.toList → SI κ a0 (SortSt.mk' (kindOf st) (arrOf st) (((pendingOf st).setIfInBounds i (sa, na + nb, pw)).eraseIdxIfInBounds (i + 1)) (gallopOf st) (failedOf st)) st' →
      Q true (SortSt.mk' (kindOf st') ((out.toList.zipIdx).foldl (fun a (x : Keyed × Nat) => a.setIfInBounds (sa + k + x.2) x.1) (arrOf st')) (pendingOf st') (gallopOf st') (failedOf st')) := by
    intro out st' hp so S
    have ea : arrOf st' = arrOf st := S.arr
    have ep : pendingOf st' = ((pendingOf st).setIfInBounds i (sa, na + nb, pw)).eraseIdxIfInBounds (i + 1) := S.pend
    have ol : out.toList.length = na - k + k2 := by
      rw [Array.length_toList, hp.size_eq, Array.size_append, xs, ys]
    have pa := put_all (sa + k) out.toList (arrOf st) 0 (by rw [ol]; omega)
    rw [Nat.add_zero] at pa
    have e4 : sa + k + out.toList.length = sb + k2 := by omega
    have hpl : out.toList.Perm ((((arrOf st).toList.drop sa).take na).drop k ++ (((arrOf st).toList.drop sb).take nb).take k2) := by
      have := Array.perm_iff_toList_perm.mp hp
      rw [Array.toList_append, xl, yl] at this
      exact this
    have sM := merged o sA sB headB lastA kt kf2 so hpl
    -- what lies now
    have now : ((out.toList.zipIdx).foldl (fun a (x : Keyed × Nat) => a.setIfInBounds (sa + k + x.2) x.1) (arrOf st)).toList = (arrOf st).toList.take sa ++ (((((arrOf st).toList.drop sa).take na).take k ++ (out.toList ++ (((arrOf st).toList.drop sb).take nb).drop k2)) ++ (arrOf st).toList.drop (sa + (na + nb))) := by
      rw [pa, e4]
      have t1 : (arrOf st).toList.take (sa + k) = (arrOf st).toList.take sa ++ (((arrOf st).toList.drop sa).take na).take k := by
        rw [List.take_add, List.take_take, Nat.min_eq_left hk]
      have t2 : (arrOf st).toList.drop (sb + k2) = (((arrOf st).toList.drop sb).take nb).drop k2 ++ (arrOf st).toList.drop (sa + (na + nb)) := by
        rw [List.drop_take, List.drop_drop]
        conv => lhs; rw [← List.take_append_drop (nb - k2) ((arrOf st).toList.drop (sb + k2)), List.drop_drop]
        rw [show sb + k2 + (nb - k2) = sa + (na + nb) by omega]
      rw [t1, t2]
      simp only [List.append_assoc]
    refine q _ ⟨S.ok.kind, S.ok.fail, ?_⟩ ?_ ?_ ?_ ?_
    · show Array.Perm (List.foldl _ _ _) a0
      refine Array.Perm.trans ?_ ok.perm
      rw [Array.perm_iff_toList_perm, ea, now]
      conv => rhs; rw [whole]
      refine List.Perm.append_left _ (List.Perm.append_right _ ?_)
      have t3 : (((arrOf st).toList.drop sa).take na) ++ ((arrOf st).toList.drop sb).take nb = (((arrOf st).toList.drop sa).take na).take k ++ (((((arrOf st).toList.drop sa).take na).drop k ++ (((arrOf st).toList.drop sb).take nb).take k2) ++ (((arrOf st).toList.drop sb).take nb).drop k2) := by
        rw [List.append_assoc, List.take_append_drop, ← List.append_assoc, List.take_append_drop]
      rw [t3]
      exact List.Perm.append_left _ (List.Perm.append_right _ hpl)
    · show Chain (pendingOf st').toList 0 lo
      rw [ep, pe]
      exact g5
    · show RS L (pendingOf st').toList (Array.toList (List.foldl _ _ _))
      rw [ep, pe, ea, now]
      refine put _ ?_ sM
      rw [List.length_append, List.length_append, List.length_take, lA, ol, List.length_drop, lB]
      omega
    · show (Array.toList (List.foldl _ _ _)).drop lo = _
      rw [ea, pa, e4, ← List.append_assoc, List.drop_append]
      have l1 : ((arrOf st).toList.take (sa + k) ++ out.toList).length = sb + k2 := by
        rw [List.length_append, List.length_take, ol, Array.length_toList]
        omega
      rw [List.drop_of_length_le (by rw [l1]; omega), l1, List.nil_append, List.drop_drop]
      congr 1
      omega
    · show (pendingOf st').size + 1 = _
      rw [ep]
      exact ps
  have hf : ∀ x ∈ ((arrOf st).extract (sa + k) sb).toList, L x (((arrOf st).extract sb (sb + k2))[0]'(by omega)) = false := fun x hx => by
    rw [y0, xl] at *
    exact o.asym _ _ (kf x hx)
  have hl : ∀ (j : Nat) (h : j < ((arrOf st).extract (sa + k) sb).size), j + 1 = ((arrOf st).extract (sa + k) sb).size → ∀ y ∈ ((arrOf st).extract sb (sb + k2)).toList, L ((arrOf st).extract (sa + k) sb)[j] y = false := fun j h e y hy => by
    rw [xla j h e]
    rw [yl] at hy
    exact o.asym _ _ (kt2 y hy)
  have hl' := hl (((arrOf st).extract (sa + k) sb).size - 1) (by omega) (by omega)
  by_cases d3 : na - k ≤ k2
  · rw [if_pos d3]
    refine wpS_bind (mergeLo_L o hc (okn _ _) inx iny (show 1 ≤ ((arrOf st).extract (sa + k) sb).size by omega) (show 1 ≤ ((arrOf st).extract sb (sb + k2)).size by omega) sdx sdy hf hl fun out st' hp so S => ?_)
    refine wpS_bind (wpS_modify (wpS_bind (wpS_get (wpS_pure ?_))))
    have := S.ok.fail
    show Q (failedOf st').isNone _
    rw [this]
    exact fin out st' hp so S
  · rw [if_neg d3]
    refine wpS_bind (mergeHi_L o hc (okn _ _) inx iny (show 1 ≤ ((arrOf st).extract (sa + k) sb).size by omega) (show 1 ≤ ((arrOf st).extract sb (sb + k2)).size by omega) sdx sdy hf hl' fun out st' hp so S => ?_)
    refine wpS_bind (wpS_modify (wpS_bind (wpS_get (wpS_pure ?_))))
    have := S.ok.fail
    show Q (failedOf st').isNone _
    rw [this]
    exact fin out st' hp so S
end
end Tim
namespace Tim
open PySem PyProof.Rows
def G (arr : Array Keyed) (i : Nat) : Keyed := arr[i]?.getD (Value.none, Value.none)
theorem G_congr {a b : Array Keyed} {i j : Nat} (h : a[i]? = b[j]?) : G a i = G b j := by unfold G; rw [h]
theorem G_at {a : Array Keyed} {i : Nat} (h : i < a.size) : a[i] = G a i := by unfold G; rw [Array.getElem?_eq_getElem h]; rfl
section
variable {L : Keyed → Keyed → Bool}
def Srt (L : Keyed → Keyed → Bool) (arr : Array Keyed) (lo n : Nat) : Prop := ∀ i j, lo ≤ i → i ≤ j → j < lo + n → L (G arr j) (G arr i) = false
def Dsc (L : Keyed → Keyed → Bool) (arr : Array Keyed) (lo n : Nat) : Prop := ∀ i j, lo ≤ i → i ≤ j → j < lo + n → L (G arr i) (G arr j) = false
def Alk (L : Keyed → Keyed → Bool) (arr : Array Keyed) (i j : Nat) : Prop := ∀ p q, i ≤ p → p < j → i ≤ q → q < j → L (G arr p) (G arr q) = false
theorem Srt.one (o : Ordr L) {arr : Array Keyed} {lo : Nat} : Srt L arr lo 1 := fun i j h1 h2 h3 => by
  have : i = j := by omega
  subst this
  exact o.irr _
theorem Srt.snoc (o : Ordr L) {arr : Array Keyed} {lo n : Nat} (h1 : 1 ≤ n) (h : Srt L arr lo n) (hl : L (G arr (lo + n)) (G arr (lo + n - 1)) = false) : Srt L arr lo (n + 1) := fun i j a b c => by
  by_cases e : j < lo + n
  · exact h i j a b e
  · have ej : j = lo + n := by omega
    subst ej
    by_cases e2 : i = lo + n
    · rw [e2]; exact o.irr _
    · exact o.tr _ _ _ (h i (lo + n - 1) a (by omega) (by omega)) hl
theorem Dsc.snoc (o : Ordr L) {arr : Array Keyed} {lo n : Nat} (h1 : 1 ≤ n) (h : Dsc L arr lo n) (hl : L (G arr (lo + n - 1)) (G arr (lo + n)) = false) : Dsc L arr lo (n + 1) := fun i j a b c => by
  by_cases e : j < lo + n
  · exact h i j a b e
  · have ej : j = lo + n := by omega
    subst ej
    by_cases e2 : i = lo + n
    · rw [e2]; exact o.irr _
    · exact o.tr _ _ _ hl (h i (lo + n - 1) a (by omega) (by omega))
theorem G_mir {arr : Array Keyed} {i j : Nat} (hj : j ≤ arr.size) (k : Nat) : G (mirror arr i j ((j - i) / 2)) k = if i ≤ k ∧ k < j then G arr (i + j - 1 - k) else G arr k := by
  have e := getElem?_mirror_all (i := i) hj k
  by_cases h1 : i ≤ k ∧ k < j
  · rw [if_pos h1] at e ⊢; exact G_congr e
  · rw [if_neg h1] at e ⊢; exact G_congr e
theorem Alk.mir (o : Ordr L) {arr : Array Keyed} {i j : Nat} (hj : j ≤ arr.size) (h : Alk L arr i j) (k : Nat) : L (G (mirror arr i j ((j - i) / 2)) k) (G arr k) = false ∧ L (G arr k) (G (mirror arr i j ((j - i) / 2)) k) = false := by
  rw [G_mir hj]
  split
  · rename_i c
    exact ⟨h _ _ (by omega) (by omega) c.1 c.2, h _ _ c.1 c.2 (by omega) (by omega)⟩
  · exact ⟨o.irr _, o.irr _⟩
theorem Dsc.like (o : Ordr L) {a b : Array Keyed} {lo n : Nat} (h : Dsc L a lo n) (e : ∀ k, L (G b k) (G a k) = false ∧ L (G a k) (G b k) = false) : Dsc L b lo n := fun i j x y z =>
  o.tr _ _ _ (e j).2 (o.tr _ _ _ (h i j x y z) (e i).1)
theorem Dsc.rev {arr : Array Keyed} {lo n : Nat} (hj : lo + n ≤ arr.size) (h : Dsc L arr lo n) : Srt L (mirror arr lo (lo + n) ((lo + n - lo) / 2)) lo n := fun i j a b c => by
  rw [G_mir hj, G_mir hj, if_pos (by omega), if_pos (by omega)]
  exact h _ _ (by omega) (by omega) (by omega)
theorem Srt.sd {arr : Array Keyed} {lo n : Nat} (hn : lo + n ≤ arr.size) (h : Srt L arr lo n) : Sd L ((arr.toList.drop lo).take n) := by
  refine List.pairwise_iff_getElem.mpr fun i j hi hj hij => ?_
  rw [List.length_take] at hi hj
  rw [List.getElem_take, List.getElem_take, List.getElem_drop, List.getElem_drop, Array.getElem_toList, Array.getElem_toList, G_at, G_at]
  exact h _ _ (by omega) (by omega) (by omega)
end
def Low (lo : Nat) (a b : Array Keyed) : Prop := ∀ p, p < lo → b[p]? = a[p]?
theorem Low.refl (lo : Nat) (a : Array Keyed) : Low lo a a := fun _ _ => rfl
theorem Low.trans {lo : Nat} {a b c : Array Keyed} (x : Low lo a b) (y : Low lo b c) : Low lo a c := fun p hp => (y p hp).trans (x p hp)
theorem Low.mir {lo i j : Nat} {a : Array Keyed} (hi : lo ≤ i) (hj : j ≤ a.size) : Low lo a (mirror a i j ((j - i) / 2)) := fun p hp => by
  rw [getElem?_mirror_all hj, if_neg (by omega)]
theorem Low.take {lo : Nat} {a b : Array Keyed} (h : Low lo a b) : b.toList.take lo = a.toList.take lo := by
  apply List.ext_getElem?
  intro i
  rw [List.getElem?_take, List.getElem?_take]
  split
  · rename_i c
    rw [Array.getElem?_toList, Array.getElem?_toList]
    exact h i c
  · rfl
section
variable {prog : Program} {w : World} {A : Around} {E : Value → Shared → Prop} {s : Shared} {κ : SortKind} {a0 : Array Keyed} {L : Keyed → Keyed → Bool}
theorem ltAt_L (hc : CmpL prog w A s κ a0 L) {i j : Nat} {st : SortSt} {Q : Option Bool → SortSt → Prop} (ok : Ok κ a0 st) (hi : i < a0.size) (hj : j < a0.size) (q : Q (some (L (G (arrOf st) i) (G (arrOf st) j))) st) : wpS (model prog w) A E s (ltAt' i j) Q st := by
  rw [ltAt'_eq]
  refine wpS_bind (wpS_get ?_)
  have h1 : i < (arrOf st).size := by rw [ok.perm.size_eq]; exact hi
  have h2 : j < (arrOf st).size := by rw [ok.perm.size_eq]; exact hj
  refine wpS_bind (elem_ok h1 (wpS_bind (elem_ok h2 ?_)))
  refine lt_L hc ok.kind (ok.perm.mem_iff.mp (Array.getElem_mem h1)) (ok.perm.mem_iff.mp (Array.getElem_mem h2)) ?_
  rw [G_at h1, G_at h2]
  exact q
theorem rev_L {i j : Nat} {st : SortSt} {Q : Unit → SortSt → Prop} (ok : Ok κ a0 st) (q : ∀ st', Ok κ a0 st' → pendingOf st' = pendingOf st → arrOf st' = mirror (arrOf st) i j ((j - i) / 2) → Q () st') : wpS (model prog w) A E s (reverseSlice' i j) Q st := by
  rw [reverseSlice'_eq]
  exact wpS_modify (q _ ⟨ok.kind, ok.fail, (mirror_perm _ _ _ _).trans ok.perm⟩ rfl rfl)
theorem bin_L (o : Ordr L) (hc : CmpL prog w A s κ a0 L) {lo n k0 : Nat} {st : SortSt} {Q : Bool → SortSt → Prop} (ok : Ok κ a0 st) (hn : lo + n ≤ a0.size) (hk0 : k0 ≤ n) (sr : Srt L (arrOf st) lo k0)
    (q : ∀ st', Ok κ a0 st' → pendingOf st' = pendingOf st → Srt L (arrOf st') lo n → Low lo (arrOf st) (arrOf st') → Q true st') : wpS (model prog w) A E s (binarySort' lo n k0) Q st := by
  rw [binarySort'_eq]
  refine wpS_bind (wpS_mono (wpS_forRange (I := fun k c st' => c.1 = none ∧ Ok κ a0 st' ∧ pendingOf st' = pendingOf st ∧ Srt L (arrOf st') lo (min k n) ∧ Low lo (arrOf st) (arrOf st')) (Q := fun c st' => c.1 = none ∧ Ok κ a0 st' ∧ pendingOf st' = pendingOf st ∧ Srt L (arrOf st') lo n ∧ Low lo (arrOf st) (arrOf st')) ?step ?fin ⟨rfl, ok, rfl, ?init, Low.refl _ _⟩) ?post)
  case init =>
    by_cases h : k0 = 0
    · intro i j a b c
      have : i = j := by omega
      subst this
      exact o.irr _
    · rw [show min (max k0 1) n = k0 by omega]
      exact sr
  case fin =>
    rintro c st' ⟨h, ok', hp, sr', lw⟩
    rw [show min (max (max k0 1) n) n = n by omega] at sr'
    exact ⟨h, ok', hp, sr', lw⟩
  case post =>
    rintro ⟨c, u⟩ st' ⟨h, ok', hp, sr', lw⟩
    dsimp only at h ⊢
    subst h
    exact wpS_pure (q _ ok' hp sr' lw)
  case step =>
    rintro k c st1 hk1 hk ⟨_, ok1, hp1, sr1, lw1⟩
    rw [show min k n = k by omega] at sr1
    dsimp only
    refine wpS_bind (wpS_mono (wpS_forRange (I := fun x c st' => c.1 = none ∧ (c.2.1 ≤ c.2.2 ∧ c.2.2 ≤ k ∧ c.2.2 - c.2.1 ≤ k - x ∧ (∀ i, i < c.2.1 → L (G (arrOf st1) (lo + k)) (G (arrOf st1) (lo + i)) = false) ∧ (∀ i, c.2.2 ≤ i → i < k → L (G (arrOf st1) (lo + k)) (G (arrOf st1) (lo + i)) = true)) ∧ st' = st1)
      (Q := fun c st' => c.1 = none ∧ (c.2.1 ≤ k ∧ (∀ i, i < c.2.1 → L (G (arrOf st1) (lo + k)) (G (arrOf st1) (lo + i)) = false) ∧ (∀ i, c.2.1 ≤ i → i < k → L (G (arrOf st1) (lo + k)) (G (arrOf st1) (lo + i)) = true)) ∧ st' = st1) ?step1 ?fin1 ⟨rfl, ⟨Nat.zero_le _, Nat.le_refl _, Nat.le_refl _, fun i h => absurd h (Nat.not_lt_zero _), fun i h1 h2 => by dsimp only at h1; omega⟩, rfl⟩) ?post1)
    case fin1 =>
      rintro ⟨c, l, r⟩ st2 ⟨h, ⟨h1, h2, h3, h4, h5⟩, rfl⟩
      dsimp only at h h1 h2 h3 h4 h5 ⊢
      rw [Nat.zero_max] at h3
      have e : l = r := by omega
      subst e
      exact ⟨h, ⟨h2, h4, h5⟩, rfl⟩
    case step1 =>
      rintro j ⟨c, l, r⟩ st2 _ _ ⟨h, ⟨h1, h2, h3, h4, h5⟩, rfl⟩
      dsimp only at h h1 h2 h3 h4 h5 ⊢
      split
      · rename_i ge
        have e : l = r := by omega
        subst e
        exact wpS_pure ⟨rfl, ⟨h2, h4, h5⟩, rfl⟩
      · refine wpS_bind (ltAt_L hc ok1 (by omega) (by omega) ?_)
        cases e : L (G (arrOf st2) (lo + k)) (G (arrOf st2) (lo + (l + r) / 2))
        · exact wpS_pure ⟨rfl, ⟨by dsimp only; omega, h2, by dsimp only; omega, fun i hi => o.tr _ _ _ (sr1 (lo + i) (lo + (l + r) / 2) (by omega) (by dsimp only at hi; omega) (by omega)) e, h5⟩, rfl⟩
        · exact wpS_pure ⟨rfl, ⟨by dsimp only; omega, by dsimp only; omega, by dsimp only; omega, h4, fun i hi1 hi2 => by
            cases e2 : L (G (arrOf st2) (lo + k)) (G (arrOf st2) (lo + i)) with
            | true => rfl
            | false =>
              have := o.tr _ _ _ (sr1 (lo + (l + r) / 2) (lo + i) (by omega) (by dsimp only at hi1; omega) (by omega)) e2
              rw [this] at e
              cases e⟩, rfl⟩
    case post1 =>
      rintro ⟨c, l, r⟩ st2 ⟨h, ⟨h1, h2, h3⟩, rfl⟩
      dsimp only at h h1 h2 h3 ⊢
      subst h
      show wpS _ _ _ _ (do moveDown' (lo + k) (lo + l); pure (ForInStep.yield (none, ()))) _ _
      rw [moveDown'_eq]
      have hks : lo + k < (arrOf st2).size := by rw [ok1.perm.size_eq]; omega
      have gb := fun x => getElem?_bubble hks (lo + k - (lo + l)) (by omega) x
      refine wpS_bind (wpS_modify (wpS_pure ⟨rfl, ⟨ok1.kind, ok1.fail, (bubble_perm _ _ _).trans ok1.perm⟩, hp1, ?_, ?_⟩))
      · rw [show min (k + 1) n = k + 1 by omega]
        have Gb : ∀ x, G (bubble (arrOf st2) (lo + k) (lo + k - (lo + l))) x = if x = lo + l then G (arrOf st2) (lo + k) else if lo + l < x ∧ x ≤ lo + k then G (arrOf st2) (x - 1) else G (arrOf st2) x := fun x => by
          have := gb x
          rw [show lo + k - (lo + k - (lo + l)) = lo + l by omega] at this
          by_cases c1 : x = lo + l
          · rw [if_pos c1] at this ⊢; exact G_congr this
          · rw [if_neg c1] at this ⊢
            by_cases c2 : lo + l < x ∧ x ≤ lo + k
            · rw [if_pos c2] at this ⊢; exact G_congr this
            · rw [if_neg c2] at this ⊢; exact G_congr this
        intro i j ai aij aj
        show L (G (bubble (arrOf st2) (lo + k) (lo + k - (lo + l))) j) (G (bubble (arrOf st2) (lo + k) (lo + k - (lo + l))) i) = false
        rw [Gb, Gb]
        by_cases ci : i = lo + l
        · rw [if_pos ci]
          by_cases cj : j = lo + l
          · rw [if_pos cj]; exact o.irr _
          · rw [if_neg cj, if_pos (by omega)]
            have := h3 (j - 1 - lo) (by omega) (by omega)
            rw [show lo + (j - 1 - lo) = j - 1 by omega] at this
            exact o.asym _ _ this
        · rw [if_neg ci]
          by_cases ci2 : lo + l < i ∧ i ≤ lo + k
          · rw [if_pos ci2, if_neg (by omega), if_pos (by omega)]
            exact sr1 _ _ (by omega) (by omega) (by omega)
          · rw [if_neg ci2]
            by_cases cj : j = lo + l
            · rw [if_pos cj]
              have := h2 (i - lo) (by omega)
              rw [show lo + (i - lo) = i by omega] at this
              exact this
            · rw [if_neg cj]
              by_cases cj2 : lo + l < j ∧ j ≤ lo + k
              · rw [if_pos cj2]
                exact sr1 _ _ ai (by omega) (by omega)
              · rw [if_neg cj2]
                exact sr1 _ _ ai aij (by omega)
      · refine lw1.trans fun p hp => ?_
        show (bubble (arrOf st2) (lo + k) (lo + k - (lo + l)))[p]? = _
        rw [gb p, if_neg (by omega), if_neg (by omega)]
theorem count_L (o : Ordr L) (hc : CmpL prog w A s κ a0 L) {lo m : Nat} {st : SortSt} {Q : Option Nat → SortSt → Prop} (ok : Ok κ a0 st) (h1 : 1 ≤ m) (h2 : lo + m ≤ a0.size)
    (q : ∀ n st', 1 ≤ n → n ≤ m → Ok κ a0 st' → pendingOf st' = pendingOf st → Srt L (arrOf st') lo n → Low lo (arrOf st) (arrOf st') → Q (some n) st') : wpS (model prog w) A E s (countRun' lo m) Q st := by
  rw [countRun'_eq]
  dsimp only
  have sz : ∀ {st' : SortSt}, Ok κ a0 st' → (arrOf st').size = a0.size := fun ok => ok.perm.size_eq
  refine wpS_bind (wpS_mono (wpS_forRange (I := fun i c st' => c.1 = none ∧ (c.2 = i ∧ 1 ≤ c.2 ∧ Srt L (arrOf st) lo c.2) ∧ st' = st) (Q := fun c st' => c.1 = none ∧ (1 ≤ c.2 ∧ c.2 ≤ m ∧ Srt L (arrOf st) lo c.2 ∧ (c.2 = m ∨ L (G (arrOf st) (lo + c.2)) (G (arrOf st) (lo + c.2 - 1)) = true)) ∧ st' = st) ?step ?fin ⟨rfl, ⟨rfl, Nat.le_refl _, Srt.one o⟩, rfl⟩) ?post)
  case fin =>
    rintro ⟨c, n⟩ st' ⟨h, ⟨a, b, d⟩, rfl⟩
    dsimp only at h a b d ⊢
    exact ⟨h, ⟨b, by omega, d, .inl (by omega)⟩, rfl⟩
  case step =>
    rintro i ⟨c, n⟩ st' _ hi ⟨h, ⟨a, b, d⟩, rfl⟩
    dsimp only at h a b d ⊢
    subst a
    refine wpS_bind (ltAt_L hc ok (by omega) (by omega) ?_)
    cases e : L (G (arrOf st') (lo + n)) (G (arrOf st') (lo + n - 1))
    · exact wpS_pure ⟨rfl, ⟨rfl, by dsimp only; omega, d.snoc o b e⟩, rfl⟩
    · exact wpS_pure ⟨rfl, ⟨b, by dsimp only; omega, d, .inr e⟩, rfl⟩
  case post =>
    rintro ⟨c, n⟩ st1 ⟨h, ⟨a, b, d, dl⟩, rfl⟩
    dsimp only at h a b d dl ⊢
    subst h
    dsimp only
    by_cases d1 : (n == m) = true
    · rw [if_pos d1]
      exact wpS_pure (q _ _ a b ok rfl d (Low.refl _ _))
    rw [if_neg d1]
    simp only [beq_iff_eq] at d1
    have dl := dl.resolve_left d1
    obtain ⟨st0, hst0⟩ : ∃ st0, st0 = st1 := ⟨_, rfl⟩
    by_cases d2 : n > 1
    case' pos =>
      rw [if_pos d2]
      refine wpS_bind (ltAt_L hc ok (by omega) (by omega) ?_)
      cases er : L (G (arrOf st1) lo) (G (arrOf st1) (lo + n - 1))
      case' true => exact wpS_pure (q _ _ a b ok rfl d (Low.refl _ _))
      refine wpS_bind (rev_L ok fun st2 ok2 hp2 ea2 => ?_)
      have alk : Alk L (arrOf st1) lo (lo + n) := fun p r p1 p2 r1 r2 => o.tr _ _ _ (d r (lo + n - 1) r1 (by omega) (by omega)) (o.tr _ _ _ er (d lo p (Nat.le_refl _) p1 p2))
      have dsc2 : Dsc L (arrOf st2) lo (n + 1) := by
        have d0 : Dsc L (arrOf st1) lo n := fun i j a b c => alk i j a (by omega) (by omega) c
        have d1' : Dsc L (arrOf st1) lo (n + 1) := d0.snoc o a (o.asym _ _ dl)
        rw [ea2]
        exact d1'.like o (alk.mir o (by rw [sz ok]; omega))
      have lw2 : Low lo (arrOf st1) (arrOf st2) := by
        rw [ea2]
        exact Low.mir (Nat.le_refl _) (by rw [sz ok]; omega)
    case' neg =>
      rw [if_neg d2]
      have ok2 := ok
      have hn1 : n = 1 := by omega
      have dsc2 : Dsc L (arrOf st1) lo (n + 1) := by
        refine Dsc.snoc o a (fun i j x y z => ?_) (o.asym _ _ dl)
        have : i = j := by omega
        subst this
        exact o.irr _
      have lw2 : Low lo (arrOf st1) (arrOf st1) := Low.refl _ _
      generalize hst2 : st1 = st2 at ok2 dsc2
      have hp2 : pendingOf st2 = pendingOf st1 := by rw [hst2]
      have lw2 : Low lo (arrOf st1) (arrOf st2) := by rw [hst2]; exact Low.refl _ _
    all_goals
      refine wpS_bind (wpS_lift (wpAny_rule ⟨rfl, ?_⟩))
      refine wpS_bind (wpS_mono (wpS_forRange (I := fun i c st' => c.1 = none ∧ (c.2.1 = i ∧ 1 ≤ c.2.1 ∧ c.2.2 + 1 ≤ c.2.1 ∧ Dsc L (arrOf st') lo c.2.1 ∧ Alk L (arrOf st') (lo + c.2.1 - (c.2.2 + 1)) (lo + c.2.1)) ∧ Ok κ a0 st' ∧ pendingOf st' = pendingOf st1 ∧ Low lo (arrOf st1) (arrOf st'))
        (Q := fun c st' => c.1 = none ∧ (1 ≤ c.2.1 ∧ c.2.1 ≤ m ∧ c.2.2 + 1 ≤ c.2.1 ∧ Dsc L (arrOf st') lo c.2.1 ∧ Alk L (arrOf st') (lo + c.2.1 - (c.2.2 + 1)) (lo + c.2.1)) ∧ Ok κ a0 st' ∧ pendingOf st' = pendingOf st1 ∧ Low lo (arrOf st1) (arrOf st')) ?step2 ?fin2 ⟨rfl, ⟨rfl, by dsimp only; omega, by dsimp only; omega, dsc2, fun p r p1 p2 r1 r2 => by
          dsimp only at p1 p2 r1 r2
          have : p = r := by omega
          subst this
          exact o.irr _⟩, ok2, hp2, lw2⟩) ?post2)
      case fin2 =>
        rintro ⟨c, k, neq⟩ st' ⟨h, ⟨e1, e2, e3, e4⟩, r⟩
        dsimp only at h e1 e2 e3 e4 ⊢
        exact ⟨h, ⟨e2, by omega, e3, e4⟩, r⟩
      case step2 =>
        rintro i ⟨c, k, neq⟩ st' _ hi ⟨h, ⟨e1, e2, e3, e4, e5⟩, ok3, hp3, lw3⟩
        dsimp only at h e1 e2 e3 e4 e5 ⊢
        subst e1
        have one : ∀ (ar : Array Keyed) (x : Nat), Alk L ar (lo + (x + 1) - (0 + 1)) (lo + (x + 1)) := fun ar x p r p1 p2 r1 r2 => by
          have : p = r := by omega
          subst this
          exact o.irr _
        refine wpS_bind (ltAt_L hc ok3 (by omega) (by omega) ?_)
        cases es : L (G (arrOf st') (lo + k)) (G (arrOf st') (lo + k - 1))
        · refine wpS_bind (ltAt_L hc ok3 (by omega) (by omega) ?_)
          cases el : L (G (arrOf st') (lo + k - 1)) (G (arrOf st') (lo + k))
          · refine wpS_pure ⟨rfl, ⟨rfl, by dsimp only; omega, by dsimp only; omega, e4.snoc o e2 el, fun p r p1 p2 r1 r2 => ?_⟩, ok3, hp3, lw3⟩
            dsimp only at p1 p2 r1 r2
            have low : ∀ x, lo + k - (neq + 1) ≤ x → x < lo + k → L (G (arrOf st') x) (G (arrOf st') (lo + k)) = false ∧ L (G (arrOf st') (lo + k)) (G (arrOf st') x) = false := fun x x1 x2 =>
              ⟨o.tr _ _ _ el (e5 x (lo + k - 1) x1 x2 (by omega) (by omega)), o.tr _ _ _ (e5 (lo + k - 1) x (by omega) (by omega) x1 x2) es⟩
            by_cases c1 : p = lo + k
            · by_cases c2 : r = lo + k
              · rw [c1, c2]; exact o.irr _
              · rw [c1]; exact (low r (by omega) (by omega)).2
            · by_cases c2 : r = lo + k
              · rw [c2]; exact (low p (by omega) (by omega)).1
              · exact e5 p r (by omega) (by omega) (by omega) (by omega)
          · exact wpS_pure ⟨rfl, ⟨e2, by dsimp only; omega, e3, e4, e5⟩, ok3, hp3, lw3⟩
        · dsimp only
          rw [if_pos rfl]
          have e6 : Dsc L (arrOf st') lo (k + 1) := e4.snoc o e2 (o.asym _ _ es)
          split
          · refine wpS_bind (rev_L ok3 fun st4 ok4 hp4 ea4 => wpS_pure ⟨rfl, ⟨rfl, by dsimp only; omega, by dsimp only; omega, ?_, one _ _⟩, ok4, hp4.trans hp3, ?_⟩)
            · dsimp only
              rw [ea4]
              exact e6.like o (e5.mir o (by rw [sz ok3]; omega))
            · rw [ea4]
              exact lw3.trans (Low.mir (by omega) (by rw [sz ok3]; omega))
          · exact wpS_pure ⟨rfl, ⟨rfl, by dsimp only; omega, by dsimp only; omega, e6, one _ _⟩, ok3, hp3, lw3⟩
      case post2 =>
        rintro ⟨c, k, neq⟩ st' ⟨h, ⟨e1, e2, e3, e4, e5⟩, ok3, hp3, lw3⟩
        dsimp only at h e1 e2 e3 e4 e5 ⊢
        subst h
        dsimp only
        by_cases d3 : neq > 0
        case' pos =>
          rw [if_pos d3]
          refine wpS_bind (rev_L ok3 fun st4 ok4 hp4 ea4 => ?_)
          have hp4 := hp4.trans hp3
          have dsc4 : Dsc L (arrOf st4) lo k := by
            rw [ea4]
            exact e4.like o (e5.mir o (by rw [sz ok3]; omega))
          have lw4 : Low lo (arrOf st1) (arrOf st4) := by
            rw [ea4]
            exact lw3.trans (Low.mir (by omega) (by rw [sz ok3]; omega))
        case' neg =>
          rw [if_neg d3]
          have ok4 := ok3
          have hp4 := hp3
          have dsc4 := e4
          have lw4 := lw3
        all_goals
          refine wpS_bind (rev_L ok4 fun st5 ok5 hp5 ea5 => ?_)
          have srt5 : Srt L (arrOf st5) lo k := by
            rw [ea5]
            exact dsc4.rev (by rw [sz ok4]; omega)
          have lw5 : Low lo (arrOf st1) (arrOf st5) := by
            rw [ea5]
            exact lw4.trans (Low.mir (Nat.le_refl _) (by rw [sz ok4]; omega))
          refine wpS_bind (wpS_mono (wpS_forRange (I := fun i c st' => c.1 = none ∧ (c.2 = i ∧ 1 ≤ c.2 ∧ Srt L (arrOf st5) lo c.2) ∧ st' = st5) (Q := fun c st' => c.1 = none ∧ (1 ≤ c.2 ∧ c.2 ≤ m ∧ Srt L (arrOf st5) lo c.2) ∧ st' = st5) ?step3 ?fin3 ⟨rfl, ⟨rfl, e1, srt5⟩, rfl⟩) ?post3)
          case fin3 =>
            rintro ⟨c, n⟩ st' ⟨h, ⟨a, b, d⟩, rfl⟩
            dsimp only at h a b d ⊢
            exact ⟨h, ⟨b, by omega, d⟩, rfl⟩
          case step3 =>
            rintro i ⟨c, n⟩ st' _ hi ⟨h, ⟨a, b, d⟩, rfl⟩
            dsimp only at h a b d ⊢
            subst a
            refine wpS_bind (ltAt_L hc ok5 (by omega) (by omega) ?_)
            cases e : L (G (arrOf st') (lo + n)) (G (arrOf st') (lo + n - 1))
            · exact wpS_pure ⟨rfl, ⟨rfl, by dsimp only; omega, d.snoc o b e⟩, rfl⟩
            · exact wpS_pure ⟨rfl, ⟨b, by dsimp only; omega, d⟩, rfl⟩
          case post3 =>
            rintro ⟨c, n⟩ st6 ⟨h, ⟨a, b, d⟩, rfl⟩
            dsimp only at h a b d ⊢
            subst h
            exact wpS_pure (q _ _ a b ok5 (hp5.trans hp4) d lw5)
end
end Tim
namespace Tim
open PySem PyProof.Rows
theorem Chain.len : ∀ {l : List (Nat × Nat × Nat)} {b e : Nat}, Chain l b e → l.length + b ≤ e
  | [], _, _, h => by have : _ = _ := h; simp; omega
  | r :: rest, b, e, h => by
    have := h.2.2.len
    have := h.2.1
    rw [List.length_cons]
    omega
section
variable {prog : Program} {w : World} {A : Around} {E : Value → Shared → Prop} {s : Shared} {κ : SortKind} {a0 : Array Keyed} {L : Keyed → Keyed → Bool}
theorem runs_L (o : Ordr L) (hc : CmpL prog w A s κ a0 L) {st : SortSt} {Q : Unit → SortSt → Prop} (ok : Ok κ a0 st) (hp : pendingOf st = #[]) (q : ∀ st', Ok κ a0 st' → Sd L (arrOf st').toList → Q () st') : wpS (model prog w) A E s sortRuns' Q st := by
  rw [sortRuns'_eq]
  refine wpS_bind (wpS_get ?_)
  have hs : (arrOf st).size = a0.size := ok.perm.size_eq
  rw [hs]
  generalize minRun' a0.size a0.size 0 = mr
  dsimp only
  refine wpS_bind (wpS_mono (wpS_forRange (I := fun i c st' => c.1 = none ∧ (c.2 ≤ a0.size ∧ i ≤ c.2) ∧ Ok κ a0 st' ∧ Chain (pendingOf st').toList 0 c.2 ∧ RS L (pendingOf st').toList (arrOf st').toList)
    (Q := fun c st' => c.1 = none ∧ c.2 = a0.size ∧ Ok κ a0 st' ∧ Chain (pendingOf st').toList 0 c.2 ∧ RS L (pendingOf st').toList (arrOf st').toList) ?step ?fin ⟨rfl, ⟨Nat.zero_le _, Nat.zero_le _⟩, ok, by rw [hp]; rfl, by rw [hp]; trivial⟩) ?post)
  case fin =>
    rintro ⟨c, lo⟩ st1 ⟨h, ⟨h1, h2⟩, r⟩
    dsimp only at h h1 h2 ⊢
    rw [Nat.zero_max] at h2
    exact ⟨h, by omega, r⟩
  case step =>
    rintro i ⟨c, lo⟩ st1 _ hi ⟨h, ⟨hlo, hil⟩, ok1, ch1, rs1⟩
    dsimp only at h hlo hil ch1 ⊢
    by_cases d1 : lo ≥ a0.size
    · rw [if_pos d1]
      exact wpS_pure ⟨rfl, by dsimp only; omega, ok1, ch1, rs1⟩
    rw [if_neg d1]
    refine wpS_bind (count_L o hc ok1 (by omega) (by omega) fun n st2 n1 n2 ok2 hp2 sr2 lw2 => ?_)
    dsimp only
    rw [← hp2] at ch1 rs1
    have rs2 : RS L (pendingOf st2).toList (arrOf st2).toList := rs1.same ch1 (by rw [Nat.sub_zero]; exact lw2.take)
    by_cases d2 : n < minRun' a0.size a0.size 0
    case' pos =>
      rw [if_pos d2]
      refine wpS_bind (wpS_lift (wpAny_rule ⟨rfl, ?_⟩))
      refine wpS_bind (bin_L o hc ok2 (by omega) (by omega) sr2 fun st3 ok3 hp3 sr3 lw3 => ?_)
      rw [if_neg (by decide)]
      have N1 : 1 ≤ min (a0.size - lo) (minRun' a0.size a0.size 0) := by omega
      have N2 : lo + min (a0.size - lo) (minRun' a0.size a0.size 0) ≤ a0.size := by omega
      have rs3 : RS L (pendingOf st3).toList (arrOf st3).toList := by
        rw [hp3]
        exact rs2.same ch1 (by rw [Nat.sub_zero]; exact lw3.take)
      have ch3 : Chain (pendingOf st3).toList 0 lo := by rw [hp3]; exact ch1
      generalize min (a0.size - lo) (minRun' a0.size a0.size 0) = N at N1 N2 sr3
    case' neg =>
      rw [if_neg d2]
      have N1 := n1
      have N2 : lo + n ≤ a0.size := by omega
      have ok3 := ok2
      have ch3 := ch1
      have rs3 := rs2
      have sr3 := sr2
      clear rs2 sr2 rs1 ch1 lw2 hp2
      generalize n = N at N1 N2 sr3
      generalize st2 = st3 at ok3 ch3 rs3 sr3
    all_goals
      have sd3 : Sd L (((arrOf st3).toList.drop lo).take N) := sr3.sd (by rw [ok3.perm.size_eq]; exact N2)
      refine wpS_bind (wpS_get ?_)
      cases hb : (pendingOf st3).back? with
      | none =>
        dsimp only
        refine wpS_bind (wpS_modify (wpS_pure ⟨rfl, ⟨N2, by dsimp only; omega⟩, ⟨ok3.kind, ok3.fail, ok3.perm⟩, ?_, ?_⟩))
        · show Chain (Array.toList ((pendingOf st3).push (lo, N, 0))) 0 (lo + N)
          rw [Array.toList_push]
          exact ch3.snoc N1
        · show RS L (Array.toList ((pendingOf st3).push (lo, N, 0))) (arrOf st3).toList
          rw [Array.toList_push]
          exact rs3.snoc ch3 (by rw [Nat.sub_zero]; exact sd3)
      | some r =>
        obtain ⟨s1, m1, z1⟩ := r
        dsimp only
        refine wpS_bind (wpS_mono (wpS_forRange (I := fun _ c st' => c.1 = none ∧ Ok κ a0 st' ∧ Chain (pendingOf st').toList 0 lo ∧ RS L (pendingOf st').toList (arrOf st').toList ∧ (arrOf st').toList.drop lo = (arrOf st3).toList.drop lo) (Q := fun c st' => c.1 = none ∧ Ok κ a0 st' ∧ Chain (pendingOf st').toList 0 lo ∧ RS L (pendingOf st').toList (arrOf st').toList ∧ (arrOf st').toList.drop lo = (arrOf st3).toList.drop lo) ?step2 (fun _ _ h => h) ⟨rfl, ok3, ch3, rs3, rfl⟩) ?post2)
        case step2 =>
          rintro j ⟨c, u⟩ st4 _ hj ⟨h, ok4, ch4, rs4, dr4⟩
          dsimp only at h ⊢
          refine wpS_bind (wpS_get ?_)
          by_cases d3 : (pendingOf st4).size > 1
          · rw [if_pos d3, Array.getElem?_eq_getElem (by omega)]
            generalize (pendingOf st4)[(pendingOf st4).size - 2] = y
            obtain ⟨y1, y2, y3⟩ := y
            dsimp only
            split
            · exact wpS_pure ⟨rfl, ok4, ch4, rs4, dr4⟩
            · refine wpS_bind (mergeAt_L o hc ok4 ch4 rs4 hlo (by omega) fun st5 ok5 ch5 rs5 dr5 _ => ?_)
              exact wpS_pure ⟨rfl, ok5, ch5, rs5, dr5.trans dr4⟩
          · rw [if_neg d3]
            exact wpS_pure ⟨rfl, ok4, ch4, rs4, dr4⟩
        case post2 =>
          rintro ⟨c, u⟩ st4 ⟨h, ok4, ch4, rs4, dr4⟩
          dsimp only at h ⊢
          subst h
          dsimp only
          refine wpS_bind (wpS_modify (wpS_bind (wpS_modify (wpS_pure ⟨rfl, ⟨N2, by dsimp only; omega⟩, ⟨ok4.kind, ok4.fail, ok4.perm⟩, ?_, ?_⟩))))
          · show Chain (Array.toList (Array.push (Array.modify (pendingOf st4) _ _) (lo, N, 0))) 0 (lo + N)
            rw [Array.toList_push, Array.toList_modify]
            exact (ch4.mod _ _).snoc N1
          · show RS L (Array.toList (Array.push (Array.modify (pendingOf st4) _ _) (lo, N, 0))) (arrOf st4).toList
            rw [Array.toList_push, Array.toList_modify]
            refine (rs4.mod _ _).snoc (ch4.mod _ _) ?_
            rw [Nat.sub_zero, dr4]
            exact sd3
  case post =>
    rintro ⟨c, lo⟩ st1 ⟨h, hlo, ok1, ch1, rs1⟩
    dsimp only at h hlo ch1 ⊢
    subst h
    dsimp only
    subst hlo
    have pl := ch1.len
    rw [Array.length_toList] at pl
    refine wpS_bind (wpS_mono (wpS_forRange (I := fun j c st' => c.1 = none ∧ Ok κ a0 st' ∧ Chain (pendingOf st').toList 0 a0.size ∧ RS L (pendingOf st').toList (arrOf st').toList ∧ (pendingOf st').size + j ≤ a0.size)
      (Q := fun c st' => c.1 = none ∧ Ok κ a0 st' ∧ Chain (pendingOf st').toList 0 a0.size ∧ RS L (pendingOf st').toList (arrOf st').toList ∧ (pendingOf st').size ≤ 1) ?step3 ?fin3 ⟨rfl, ok1, ch1, rs1, by omega⟩) ?post3)
    case fin3 =>
      rintro ⟨c, u⟩ st4 ⟨h, ok4, ch4, rs4, z⟩
      rw [Nat.zero_max] at z
      exact ⟨h, ok4, ch4, rs4, by omega⟩
    case step3 =>
      rintro j ⟨c, u⟩ st4 _ hj ⟨h, ok4, ch4, rs4, z⟩
      dsimp only at h ⊢
      refine wpS_bind (wpS_get ?_)
      by_cases d3 : (pendingOf st4).size ≤ 1
      · rw [if_pos d3]
        exact wpS_pure ⟨rfl, ok4, ch4, rs4, d3⟩
      · rw [if_neg d3]
        refine wpS_bind (mergeAt_L o hc ok4 ch4 rs4 (Nat.le_refl _) ?_ fun st5 ok5 ch5 rs5 _ z5 => ?_)
        · exact ite_lt (by omega) (by omega)
        · exact wpS_pure ⟨rfl, ok5, ch5, rs5, by omega⟩
    case post3 =>
      rintro ⟨c, u⟩ st4 ⟨h, ok4, ch4, rs4, z⟩
      dsimp only at h ⊢
      subst h
      refine wpS_pure (q _ ok4 ?_)
      have lz : (pendingOf st4).toList.length ≤ 1 := by rw [Array.length_toList]; exact z
      have la : (arrOf st4).toList.length = a0.size := by rw [Array.length_toList, ok4.perm.size_eq]
      generalize (pendingOf st4).toList = rs at ch4 rs4 lz
      match rs, ch4, rs4, lz with
      | [], c, _, _ =>
        have c : 0 = a0.size := c
        have : (arrOf st4).toList = [] := List.length_eq_zero_iff.mp (by omega)
        rw [this]
        exact List.Pairwise.nil
      | [r], c, rs, _ =>
        have c2 : 0 + r.2.1 = a0.size := c.2.2
        have := rs.1
        rw [List.take_of_length_le (by omega)] at this
        exact this
      | _ :: _ :: _, _, _, l => simp at l
end
end Tim

namespace L2
open PySem PySem.Calls PySem.Spec PyProof.Rows
def lexB (p q : Int × Int) : Bool := decide (p.1 < q.1) || (decide (p.1 = q.1) && decide (p.2 < q.2))
theorem lexB_iff {p q : Int × Int} : lexB p q = true ↔ p.1 < q.1 ∨ (p.1 = q.1 ∧ p.2 < q.2) := by
  unfold lexB
  simp
theorem lexB_not {p q : Int × Int} : lexB p q = false ↔ q.1 < p.1 ∨ (p.1 = q.1 ∧ q.2 ≤ p.2) := by
  rw [← Bool.not_eq_true, lexB_iff]
  omega
abbrev Ris (l : List (Int × Int)) : Prop := l.Pairwise fun x y => lexB y x = false
section
variable {prog : Program} {w : World} {A : Around} {E : Value → Shared → Prop} {s : Shared}
theorem pr_ltS {x y : Value} {p q : Int × Int} {C : Bool → Shared → Prop} (hx : IsPr s.heap x p) (hy : IsPr s.heap y q) (h : C (lexB p q) s) : wpAny (model prog w) A (keyLt' (tuples' true) x y) C E s := by
  obtain ⟨a, o, t, u, n, rfl, h1, h2, h3⟩ := hx
  obtain ⟨a', o', t', u', n', rfl, h1', h2', h3'⟩ := hy
  refine PySem.W.kat_lt h1 h3 h1' h3' ?_
  show PySem.W.KatLex prog w A true _ C [(Value.int p.1 t, Value.int q.1 t'), (Value.int p.2 u, Value.int q.2 u')] 0 s
  refine PySem.W.kat_cons (SeqAt.EqAt.int_int _ _ _ _ prog w _ _ (PySem.W.kat_go (fun e => PySem.W.kat_yes ?_) fun e => PySem.W.kat_no (oneLt_int ?_)))
  · have e : p.1 = q.1 := by simpa using e
    refine PySem.W.kat_cons (SeqAt.EqAt.int_int _ _ _ _ prog w _ _ (PySem.W.kat_go (fun e2 => PySem.W.kat_yes (PySem.W.kat_nil ?_)) fun e2 => PySem.W.kat_no ?_))
    · have e2 : p.2 = q.2 := by simpa using e2
      have : lexB p q = false := lexB_not.mpr (by omega)
      rw [this] at h
      exact h
    · refine PySem.W.kat_one _ _ (lt_int (show PySem.W.BoolBack C (.bool _) s from ?_))
      have : lexB p q = decide (p.2 < q.2) := by
        unfold lexB
        rw [decide_eq_true e, decide_eq_false (show ¬ p.1 < q.1 by omega)]
        rfl
      rw [this] at h
      exact h
  · have e : ¬ p.1 = q.1 := by simpa using e
    have : lexB p q = decide (p.1 < q.1) := by
      unfold lexB
      rw [decide_eq_false e]
      simp
    rw [this] at h
    exact h
theorem IsPr.uniq {h : Heap} {v : Value} {p q : Int × Int} (x : IsPr h v p) (y : IsPr h v q) : p = q := by
  obtain ⟨a, o, t, u, n, rfl, h1, h2, h3⟩ := x
  obtain ⟨a', o', t', u', n', e, h1', h2', h3'⟩ := y
  cases e
  rw [h1] at h1'
  cases h1'
  rw [h3] at h3'
  injection h3' with e1 _
  have e1 := congrArg Array.toList e1
  have e2 : p.1 = q.1 ∧ p.2 = q.2 := by
    simp at e1
    exact ⟨e1.1.1, e1.2.1⟩
  exact Prod.ext e2.1 e2.2
theorem prOf_ex (h : Heap) : ∃ key : Value → Int × Int, ∀ v q, IsPr h v q → key v = q := by
  classical
  refine ⟨fun v => if x : ∃ q, IsPr h v q then x.choose else (0, 0), fun v q x => ?_⟩
  have z : ∃ q, IsPr h v q := ⟨q, x⟩
  dsimp only
  rw [dif_pos z]
  exact z.choose_spec.uniq x
def keyLt (key : Value → Int × Int) (x y : Keyed) : Bool := lexB (key x.1) (key y.1)
theorem keyLt_ord (key : Value → Int × Int) : Tim.Ordr (keyLt key) := by
  constructor
  · intro x y e
    unfold keyLt at e ⊢
    rw [lexB_iff] at e
    rw [lexB_not]
    omega
  · intro x y z e1 e2
    unfold keyLt at e1 e2 ⊢
    rw [lexB_not] at e1 e2 ⊢
    omega
def OutS (ps : List (Int × Int)) (vs o : List Value) : Prop := ∃ p : List Nat, p.Perm (List.range vs.length) ∧ o = p.map (fun i => vs.getD i Value.none) ∧ Ris (p.map fun i => ps.getD i (0, 0))
theorem OutS.len {ps : List (Int × Int)} {vs o : List Value} (h : OutS ps vs o) : o.length = vs.length := by
  obtain ⟨p, hp, rfl, _⟩ := h
  rw [List.length_map, hp.length_eq, List.length_range]
theorem OutS.small {ps : List (Int × Int)} {vs : List Value} (h : vs.length < 2) : OutS ps vs vs := by
  obtain ⟨p, hp, e⟩ := Reord.refl vs
  refine ⟨p, hp, e, ?_⟩
  have l : (p.map fun i => ps.getD i (0, 0)).length < 2 := by rw [List.length_map, hp.length_eq, List.length_range]; exact h
  generalize (p.map fun i => ps.getD i (0, 0)) = l' at l
  match l', l with
  | [], _ => exact List.Pairwise.nil
  | [_], _ => exact List.pairwise_singleton _ _
  | _ :: _ :: _, l => exact absurd l (by simp)
theorem pr_runS {vs : List Value} {ps : List (Int × Int)} (hp : Paired (IsPr s.heap) vs ps) (h2 : 2 ≤ vs.length) :
    wpAny (model prog w) A (keyKind' vs.toArray) (fun κ t' => t' = s ∧
      wpAny (model prog w) A ((sortRuns').run (SortSt.mk' κ (vs.toArray.zip vs.toArray) #[] 7 none)) (fun r t2 => t2 = s ∧ failedOf r.2 = none ∧ OutS ps vs ((arrOf r.2).map (·.2)).toList) (fun _ _ => False) s) (fun _ _ => False) s := by
  obtain ⟨fs, kt, lf, hf⟩ := pr_tups hp
  obtain ⟨key, hkey⟩ := prOf_ex s.heap
  refine PySem.W.kat_kind (T := .type "int") kt (by omega) (fun v hv => ?_) (by decide) ⟨rfl, ?_⟩
  · obtain ⟨i, t, rfl⟩ := hf v hv
    exact .now
  · have mem : ∀ x : Keyed, x ∈ vs.toArray.zip vs.toArray → x.1 = x.2 ∧ ∃ q, IsPr s.heap x.1 q := fun x hx => by
      have hx' : x ∈ vs.zip vs := by
        have := Array.mem_toList_iff.mpr hx
        simpa using this
      obtain ⟨e1, e2⟩ := mem_zip_self hx'
      obtain ⟨k, hk, e3⟩ := List.getElem_of_mem e2
      obtain ⟨y, _, z⟩ := Paired.get' (i := k) (x := x.1) hp (by rw [List.getElem?_eq_getElem hk, e3])
      exact ⟨e1, y, z⟩
    have hc : Tim.CmpL prog w A s (tuples' true) (vs.toArray.zip vs.toArray) (keyLt key) := fun x y hx hy E Q q => by
      obtain ⟨_, p1, z1⟩ := mem x hx
      obtain ⟨_, p2, z2⟩ := mem y hy
      unfold keyLt at q
      rw [hkey _ _ z1, hkey _ _ z2] at q
      exact pr_ltS z1 z2 q
    refine Tim.runs_L (st := SortSt.mk' (tuples' true) (vs.toArray.zip vs.toArray) #[] 7 none) (Q := fun _ st => failedOf st = none ∧ OutS ps vs ((arrOf st).map (·.2)).toList) (keyLt_ord key) hc ⟨rfl, rfl, Array.Perm.refl _⟩ rfl fun st' ok sd => ⟨ok.fail, ?_⟩
    have pm : ((arrOf st').map (·.2)).toList.Perm vs := by
      have := (Array.perm_iff_toList_perm.mp ok.perm).map (·.2)
      rw [Array.toList_map]
      refine this.trans (List.Perm.of_eq ?_)
      simp [List.map_snd_zip]
    obtain ⟨p, hpp, eo⟩ := Reord.of_perm pm
    refine ⟨p, hpp, eo, ?_⟩
    -- the pairs of what lies now
    have s1 : (((arrOf st').map (·.2)).toList.map (key)).Pairwise fun x y => lexB y x = false := by
      rw [Array.toList_map, List.map_map]
      refine List.pairwise_map.mpr ?_
      refine List.Pairwise.imp_of_mem (fun {x y} hx hy h => ?_) sd
      have m1 := (mem x (ok.perm.mem_iff.mp (Array.mem_toList_iff.mp hx))).1
      have m2 := (mem y (ok.perm.mem_iff.mp (Array.mem_toList_iff.mp hy))).1
      unfold keyLt at h
      show lexB (key y.2) (key x.2) = false
      rw [← m1, ← m2]
      exact h
    have e2 : ((arrOf st').map (·.2)).toList.map (key) = p.map fun i => ps.getD i (0, 0) := by
      rw [eo, List.map_map]
      refine List.map_congr_left fun i hi => ?_
      have hi' : i < vs.length := by
        have := hpp.mem_iff.mp hi
        simpa using this
      obtain ⟨y, hy, z⟩ := Paired.get' (i := i) (x := vs[i]) hp (List.getElem?_eq_getElem hi')
      show key (vs.getD i Value.none) = _
      rw [List.getD_eq_getElem?_getD, List.getElem?_eq_getElem hi', List.getD_eq_getElem?_getD, hy]
      exact hkey _ _ z
    rw [e2] at s1
    exact s1
end
section
variable {X : Cx}
theorem ris_strict : ∀ {l : List (Int × Int)}, Ris l → l.Nodup → l.Pairwise fun x y => lexB x y = true
  | [], _, _ => List.Pairwise.nil
  | a :: r, h, n => by
    obtain ⟨h1, h2⟩ := List.pairwise_cons.mp h
    obtain ⟨n1, n2⟩ := List.pairwise_cons.mp n
    refine List.pairwise_cons.mpr ⟨fun b hb => ?_, ris_strict h2 n2⟩
    have e1 := h1 b hb
    have e2 := n1 b hb
    rw [lexB_not] at e1
    rw [lexB_iff]
    have : ¬ (a.1 = b.1 ∧ a.2 = b.2) := fun z => e2 (Prod.ext z.1 z.2)
    omega

end
end L2

namespace L2
open PySem PySem.Calls PySem.Spec PyProof.Rows
section
variable {X : Cx}
theorem call_sorted_prsDS (hc : X.calm = true) : CallR X (.builtin "sorted") (fun xs H Q => ∃ (d : Addr) (kvs : List (List Key × V)) (prs : List (Int × Int)), xs = [.ref d] ∧ H d = some (.dT kvs) ∧ kvs.map (·.1) = prs.map prKey ∧ kvs.length ≤ 1000 ∧
    ∀ (D : Addr) (ws : List V) (prs' : List (Int × Int)) (H' : Hp), Same H H' → H' D = some (.lst ws) → Ars H' ws prs' → prs'.Perm prs → Ris prs' → prs.Nodup → Q (.ref D) H') := by
  intro pins s σ H xs us Q I r h
  obtain ⟨d, kvs, prs, rfl, hd, hk, hl, q⟩ := h
  obtain ⟨u, rfl, ru⟩ := vals1 r
  cases ru
  obtain ⟨z, hsys, xs', rel, o, es, ep, e1, e2, e3, e4, nd⟩ := (show ObjOk X.prog X.w H s.heap d (.dT kvs) from I.hok d _ hd)
  have l1 : kvs.length = xs'.length := Paired.length rel
  have l2 : es.size = kvs.length := by
    have := congrArg List.length e4
    rw [Array.length_toList, List.length_map] at this
    omega
  have l3 : prs.length = kvs.length := by
    have := congrArg List.length hk
    rw [List.length_map, List.length_map] at this
    exact this.symm
  -- the j-th key
  have key : ∀ (j : Nat) (v : Value), (∃ e, es[j]? = some e ∧ v = e.key) → ∃ a q, v = .ref a ∧ prs[j]? = some q ∧ H a = some (.tup [.int q.1, .int q.2]) := by
    rintro j v ⟨e, he, rfl⟩
    have he' : es.toList[j]? = some e := by simpa using he
    rw [e4, List.getElem?_map] at he'
    obtain ⟨x, hx, rfl⟩ := Option.map_eq_some_iff.mp he'
    have hj : j < kvs.length := by
      have := (List.getElem?_eq_some_iff.mp hx).1
      omega
    obtain ⟨y, hy, hy1, hy2, _⟩ := Paired.get' (i := j) (x := kvs[j]) rel (by simp [hj])
    rw [hx] at hy
    cases hy
    have hq : prs[j]? = some prs[j] := by simp [l3, hj]
    have ek : (kvs.map (·.1))[j]? = (prs.map prKey)[j]? := by rw [hk]
    rw [List.getElem?_map, List.getElem?_map, hq] at ek
    have ek : kvs[j].1 = prKey prs[j] := by simpa [hj] using ek
    refine ⟨x.2.1, prs[j], rfl, hq, ?_⟩
    rw [hy2, ek]
    rfl
  have isp : ∀ {t : Shared}, (∀ b o, s.heap.get? b = some o → t.heap.get? b = some o) → ∀ {vs : List Value}, vs.length = es.size → (∀ (j : Nat) (v : Value), vs[j]? = some v → ∃ e, es[j]? = some e ∧ v = e.key) → Paired (IsPr t.heap) vs prs := by
    intro t kp vs lv pv
    refine Paired.of_get (by omega) fun j v y hv hy => ?_
    obtain ⟨a, q', rfl, hq, ha⟩ := key j v (pv j v hv)
    rw [hy] at hq
    cases hq
    obtain ⟨its, rv, ⟨ot, g1, g2, n, g3⟩, _⟩ := I.tuple (SqT.of ha)
    obtain ⟨u1, u2, rfl, ⟨t1, rfl⟩, ⟨t2, rfl⟩⟩ := vals2' rv
    exact ⟨a, ot, t1, t2, n, rfl, kp _ _ g1, g2, g3⟩
  refine sorted_src (Out := OutS prs) (raw_src hsys es ep) (I.ok.hd hc) ⟨o, e1, e2, e3⟩ (by omega) (fun vs h2 => OutS.small h2) (fun _ _ h => h.len) (fun B vs lv pv h2 t kp => pr_runS (isp kp lv pv) (by omega)) ?_
  intro D h' tk vs out c hD kp lv pv ho hDo
  obtain ⟨p, hp, eo, ris⟩ := ho
  have ek : ∀ {l : List (List Key × V)} {r : List (List Key × Addr × Value)}, Paired (fun (p : List Key × V) (q : List Key × Addr × Value) => p.1 = q.1 ∧ H q.2.1 = some (.tup (p.1.map kV)) ∧ RelV p.2 q.2.2) l r → l.map (·.1) = r.map (·.1) := by
    intro l r h
    induction h with
    | nil => rfl
    | cons a _ ih => rw [List.map_cons, List.map_cons, ih, a.1]
  rw [← ek rel, hk] at nd
  have nd' : prs.Nodup := List.Pairwise.of_map prKey (fun a b h e => h (by rw [e])) nd
  have I1 : Inv X pins σ H { s with heap := h', toks := tk } := I.kept kp
  have fp := I.newFp hD
  have lt : ∀ i ∈ p, i < vs.length := fun i hi => by
    have := hp.mem_iff.mp hi
    simpa using this
  -- the addresses by places
  have addr : ∀ i, ∃ a : Addr, i < vs.length → vs.getD i Value.none = .ref a ∧ H a = some (.tup [.int (prs.getD i (0, 0)).1, .int (prs.getD i (0, 0)).2]) := fun i => by
    by_cases hi : i < vs.length
    · obtain ⟨a, q', ea, hq, ha⟩ := key i vs[i] (pv i _ (by simp [hi]))
      refine ⟨a, fun _ => ⟨?_, ?_⟩⟩
      · rw [← ea]
        simp [hi]
      · have e : prs.getD i (0, 0) = q' := by
          rw [List.getD_eq_getElem?_getD, hq]
          rfl
        rw [e]
        exact ha
    · exact ⟨0, fun z => absurd z hi⟩
  obtain ⟨f, hf⟩ := Classical.axiomOfChoice addr
  have vals : Vals (p.map fun i => V.ref (f i)) out.toList := by
    rw [eo]
    exact Paired.of_map fun i hi => (hf i (lt i hi)).1
  have new : ObjOk X.prog X.w (upd H D (.lst (p.map fun i => V.ref (f i)))) h' D (.lst (p.map fun i => V.ref (f i))) := by
    refine ⟨?_, out.toList, c, vals, by simpa using hDo⟩
    rw [List.length_map, hp.length_eq, List.length_range]
    exact Nat.le_of_lt (small1000 (by omega))
  refine ⟨.ref D, _, I1.adopt fp new, rfl, q D _ (p.map fun i => prs.getD i (0, 0)) _ (Same.upd fp.1) upd_same (Paired.of_map fun i hi => ⟨f i, rfl, ?_⟩) ?_ ris nd'⟩
  · have ha := (hf i (lt i hi)).2
    rw [upd_ne (ne_of_none ha fp.1)]
    exact ha
  · have e : (List.range vs.length).map (fun i => prs.getD i (0, 0)) = prs := by
      apply List.ext_getElem
      · simp
        omega
      · intro i h1 h2
        simp [h2]
    have := hp.map fun i => prs.getD i (0, 0)
    rw [e] at this
    exact this
end
end L2

namespace L2
open PySem PySem.Calls PySem.Spec PyProof.Rows PySem.W
section
variable {X : Cx} {k i : Nat} {x : Str} {ps : List Str} {sp : Sp} {p pos : Pos} {e : Expr} {es : List Expr} {t : TA} {f : Addr} {fd : FuncData}
end
end L2

namespace L2
open PySem PySem.Calls PySem.Spec PyProof.Rows
section
variable {X : Cx} {A : Around}
end
end L2

namespace L2
open PySem PySem.Calls PySem.Spec PyProof.Rows
section
variable {X : Cx}
end
end L2

namespace L2
open PySem PySem.Spec PyProof.Rows
end L2

namespace L2
open PySem PySem.Calls PySem.Spec PyProof.Rows PySem.W
section
variable {X : Cx} {pos : Pos}
end
end L2

namespace Hk
open PySem L2 PySem.W
structure FldsOf (K : Frag) (C : Addr) (fs : List Str) : Prop where
  xs : XSet K C
  no : ∀ f ∈ fs, NoAttr K C f
def EX (C : Addr) (fs : List (Str × V)) (H : Hp) (E : XK) : Prop := ∀ D H', Same H H' → H D = none → H' D = some (isN D fs) → E (.ref C) (some D) H'
theorem EX.fly {C y D : Addr} {fs : List (Str × V)} {H H2 : Hp} {o : HO} {E : XK} (h : EX C fs H E) (hy : H y = none) (hD : upd H y o D = none) (hne : D ≠ y) (h2 : H2 D = some (isN D fs)) (same : ∀ b, b ≠ y → b ≠ D → H2 b = upd H y o b) : E (.ref C) (some D) (hole H2 y) := by
  rw [upd_ne hne] at hD
  refine h D _ (fun b u e => ?_) hD (by rw [hole_ne hne]; exact h2)
  have n1 : b ≠ y := fun z => by rw [z, hy] at e; cases e
  have n2 : b ≠ D := fun z => by rw [z, hD] at e; cases e
  rw [hole_ne n1, same b n1 n2, upd_ne n1]
  exact e
theorem pe_xf {X : Cx} (K : Frag) {e : Expr} {f : Str} {pos : Pos} {ta : TE} (he : PE X e ta) (hK : X.K = K := by rfl) (hb : attributeBase e f X.env (eval e X.env) = eval e X.env := by rfl) : PE X (.Attribute e f pos) (tXf K ta f) := by
  subst hK
  exact pe_xfld he hb
end Hk

namespace L2
open PySem PySem.Calls PySem.Spec PyProof.Rows PySem.W
section
variable {X : Cx} {e : Expr} {es : List Expr} {pos : Pos}
end
section
variable {X : Cx} {A : Around}
end
end L2

namespace L2
open PySem PySem.Spec PyProof.Rows
section
variable {X : Cx} {tg : Expr}
end
section
variable {g : TG} {tc : TT} {te : TE} {σ : St} {H : Hp} {R : List V → Hp → Prop}
end
end L2

namespace L2
open PySem PySem.Calls PySem.Spec PyProof.Rows
section
variable {X : Cx}
end
end L2

namespace L2
open PySem PySem.Calls PySem.Spec PyProof.Rows
section
variable {X : Cx} {tg : Expr}
end
end L2

namespace L2
open PySem PySem.Calls PySem.Spec PyProof.Rows
section
variable {prog : Program} {w : World} {A : Around} {E : Value → Shared → Prop} {s : Shared}
end
section
variable {X : Cx}
end
end L2

namespace L2
open PySem PySem.Spec PyProof.Rows
section
variable {X : Cx} {tg : Expr}
end
end L2

namespace L2
open PySem PySem.Spec PyProof.Rows
section
variable {X : Cx} {N : List Str} {src : List (Option Nat)} {scope : Scope} {cl : List (Str × Addr)} {z : Str} {pins : List (Addr × Obj)} {σ : St} {H : Hp} {s : Shared}
end
end L2

namespace L2
open PySem PySem.Calls PySem.Spec PyProof.Rows
end L2

namespace L2
open PySem PySem.Calls PySem.Spec PyProof.Rows PySem.W
section
variable {X : Cx} {pos : Pos}
def PSSx (X : Cx) (sts : List Stmt) (t : XK → TS) : Prop := ∀ (E : XK) (pins : List (Addr × Obj)) (s : Shared) (σ : St) (H : Hp) (D : Ends), Inv X pins σ H s → t E D σ H → wpAny (model X.prog X.w) X.A (execs sts X.env) (SP X pins D) (XL X pins σ E) s
theorem pssx_one {st : Stmt} {t : XK → TS} (h : PSx X st t) : PSSx X [st] t := by
  intro E pins s σ H D I q
  refine wpAny_execs_cons (thn (h E pins s σ H _ I q) fun f s2 q2 => ?_)
  cases f with
  | next => exact wpAny_execs_nil q2
  | ret u => exact q2
  | brk => exact q2
  | cont => exact q2
variable {b₀ : Stmt} {sts suite : List Stmt} {i : Nat} {n c : Str} {pc hpos : Pos} {W : Addr} {tb : XK → TS} {th : TS}
theorem ps_tryS (hb : PSSx X sts tb) (hg : Gl X c) (hm : X.mg c = some (.ref W)) (hN : X.N.Nodup) (hi : X.N[i]? = some n) (hn : X.env.scope.names.lookup n = some .local) (hh : ∀ y, PSs (hX X y) (b₀ :: suite) th)
    (hstk : X.stack = X.env :: X.outer) (hfr : X.env.frame = some X.env.locals) (hdb : (c == ("__debug__" : Str)) = false := by decide) :
    PS X (.Try sts [.ExceptHandler (some (.Name c pc)) (some n) (b₀ :: suite) hpos] [] [] pos) (tTry X.K W i tb th) := by
  intro pins s σ H D I h
  refine wpAny_Try_except ?_
  refine wpAny_mono (hb _ pins s σ H D I h) (Q := SP X pins D) (fun f s1 q => ?_) (fun e s1 q => ?_)
  · cases f with
    | next => exact wpAny_execs_nil q
    | ret u => exact q
    | brk => exact q
    | cont => exact q
  · obtain ⟨H1, s0, I1, y, cls, dct, H', rfl, fl, C, rfl, hx, hq⟩ := q
    obtain ⟨B, a0, hf, mv⟩ := fl.slots
    rw [hstk] at hf
    refine wpAny_mono (wpAny_kd (kd_note _ _) (wpAny_looks_onW (Q := fun _ s2 => ∃ h4, s2 = { s1 with heap := h4 } ∧ Heap.HeldW B (X.env :: X.outer) y (.ref C) a0 X.env.locals h4 ∧ s1.heap.UpToSlots h4) (L := X.env.locals) (I.ok.frames.trans (by rw [hstk])) hfr hf fun h4 hh4 sm4 => ⟨h4, rfl, hh4, sm4⟩)) (fun _ s2 z => ?_) fun _ _ z => z
    obtain ⟨⟨h4, rfl, hh4, sm4⟩, kd4⟩ := z
    refine wpAny_mono (wpAny_kd (kd_setFlight _ _) (wpAny_landsW (s := { s1 with heap := h4 }) (Q := fun _ s2 => ∃ h5, s2 = { s1 with heap := h5 } ∧ Heap.FlyingW B (X.env :: X.outer) y (.ref C) a0 h5 ∧ h4.UpToSlots h5) hh4 fun h5 hf5 sm5 => ⟨h5, rfl, hf5, sm5⟩)) (fun _ s2 z => ?_) fun _ _ z => z
    obtain ⟨⟨h5, rfl, hf5, sm5⟩, kd5⟩ := z
    have I5 := fly_inv I1 (mv h5 (by rw [hstk]; exact hf5) (sm4.trans sm5) (kd4.trans kd5))
    refine wpAny_handleBy_cons (codeAny_handlers_test ?_) (by intro q; cases q)
    refine ld_glob (X := hX X y) (I5.hand y) hg hm ?_ hdb
    obtain ⟨ob5, eo5, ec5⟩ := hf5.there
    have LT : Looks (model X.prog X.w) h5 (typeOf (.ref y)) (.ref C) := ec5 ▸ (Looks.ld eo5).andThen .now
    refine (exm_one I5.kIn LT hx).here ?_
    refine codeAny_handlers_suite_as ?_
    refine wpAny_mono (wpAny_kd (kd_setFlight _ _) (lands_againW (s := { s1 with heap := h5 }) (Q := fun _ s2 => ∃ h6, s2 = { s1 with heap := h6 } ∧ Heap.FlyingW B (X.env :: X.outer) y (.ref C) a0 h6 ∧ h5.UpToSlots h6) hf5 fun h6 hf6 sm6 => ⟨h6, rfl, hf6, sm6⟩)) (fun _ s2 z => ?_) fun _ _ z => z
    obtain ⟨⟨h6, rfl, hf6, sm6⟩, kd6⟩ := z
    have fl6 := mv h6 (by rw [hstk]; exact hf6) ((sm4.trans sm5).trans sm6) ((kd4.trans kd5).trans kd6)
    have I6 := fly_inv I1 fl6
    obtain ⟨ob6, eo6, ed6, e26⟩ := fl6.dict
    obtain ⟨ob7, vs7, eo7, ec7, ev7, _⟩ := hf6.first
    obtain rfl : ob7 = ob6 := Option.some.inj (eo7.symm.trans eo6)
    have I7 := I6.adopt (p := y) (o := isL C y dct) (I1.fpOk fl.new fl.gone) (isL_ok eo6 ec7 ed6 ⟨_, ev7⟩ e26)
    refine store_ok (X := X) I7 hN hi (Or.inl hn) (v := .ref y) rfl (fun s8 I8 => ?_) (Or.inr hn)
    refine wpAny_mono (hh y pins s8 _ _ _ (I8.hand y) (hq y fl.gone)) (fun f s9 q9 => ?_) fun _ _ z => z.elim
    have ok := I.ok
    cases f with
    | next =>
      obtain ⟨σ2, H2, J, q⟩ := q9
      exact name_gone (J.unhand ok) hN hi hn fun s' J' => ⟨_, H2, J', q⟩
    | brk =>
      obtain ⟨σ2, H2, J, q⟩ := q9
      exact name_gone (J.unhand ok) hN hi hn fun s' J' => ⟨_, H2, J', q⟩
    | cont =>
      obtain ⟨σ2, H2, J, q⟩ := q9
      exact name_gone (J.unhand ok) hN hi hn fun s' J' => ⟨_, H2, J', q⟩
    | ret u =>
      obtain ⟨v, σ2, H2, J, rv, q⟩ := q9
      exact name_gone (J.unhand ok) hN hi hn fun s' J' => ⟨v, _, H2, J', rv, q⟩
end
section
variable {X : Cx}
end
end L2

namespace L2
open PySem PySem.Calls PySem.Spec PyProof.Rows
section
variable {X : Cx}
end
end L2

namespace PySem.SeqAt
open AutoSeq1 (wpAny_loadPart')
open MeetsSeq
section
variable {A : Around} {s : Shared}
end
end PySem.SeqAt
namespace L2
open PySem PySem.Calls PySem.Spec PyProof.Rows
section
variable {X : Cx}
end
end L2

namespace L2
open PySem PySem.Calls PySem.Spec PyProof.Rows
inductive Tr where
  | non | int (i : Int) | str (x : Str) | tup (l : List Tr) | lst (l : List Tr)
section
variable {X : Cx} {pins : List (Addr × Obj)} {s : Shared} {σ : St} {H : Hp} {A : Around} {R : V → Tr → Prop}
section
variable (hu : A.units < cLine) (I : Inv X pins σ H s) (hR : ∀ x y t t' v u, R x t → R y t' → RelV x v → RelV y u → ∃ b, (b = true ↔ t = t') ∧ SeqAt.EqAt A.in1 s v u b) (hF : ∀ x t t', R x t → R x t' → t = t')
include hu I hR hF
end
end
section
variable {X : Cx}
end
end L2

namespace L2
open PySem PySem.Calls PySem.Spec PyProof.Rows
section
variable {X : Cx}
end
end L2
namespace PySem
open PySem.Spec PyProof.Rows
section
variable {prog : Program} {w : World} {A : Around} {E : Value → Shared → Prop} {s : Shared}
end
end PySem
namespace L2
open PySem PySem.Calls PySem.Spec PyProof.Rows
section
variable {X : Cx}
end
end L2

namespace L2
open PySem PySem.Calls PySem.Spec PyProof.Rows
section
variable {X : Cx}
theorem boot_trng : bootBuiltins "range" = some (.type "range") := by decide +kernel
end
end L2

namespace L2
open PySem PySem.Calls PySem.Spec PyProof.Rows
section
variable {X : Cx}
end
end L2

namespace L2
open PySem PySem.Calls PySem.Spec PyProof.Rows PySem.W
section
variable {X : Cx} {e : Expr} {pos : Pos} {te : TE}
end
end L2

namespace PySem
section
variable {prog : Program} {w : World} {A : Around} {R : Result → Shared → Prop} {I : Addr} {fp wr : List Addr} {G : Array GenState → Array GenState → Prop} {n : Nat} {P : Nat → Value → Prop} {St : Nat → Shared → Prop}
variable {K : Type} [DecidableEq K] {knd : KeyKind prog w K}
end
section
variable {prog : Program} {w : World} {A : Around} {E : Value → Shared → Prop} {s : Shared}
variable {K : Type} [DecidableEq K] {knd : KeyKind prog w K}
end
end PySem
namespace L2
open PySem PySem.Calls PySem.Spec PyProof.Rows PySem.W
section
variable {X : Cx}
end
end L2

namespace PySem
section
variable {prog : Program} {w : World} {A : Around} {R : Result → Shared → Prop} {I : Addr} {fp wr : List Addr} {G : Array GenState → Array GenState → Prop} {n : Nat} {P : Nat → Value → Prop} {St : Nat → Shared → Prop}
variable {K : Type} [DecidableEq K] {knd : KeyKind prog w K}
end
section
variable {prog : Program} {w : World} {A : Around} {E : Value → Shared → Prop} {s : Shared}
variable {K : Type} [DecidableEq K] {knd : KeyKind prog w K}
end
end PySem
namespace L2
open PySem PySem.Calls PySem.Spec PyProof.Rows PySem.W
section
variable {X : Cx}
end
end L2

namespace L2
open PySem PySem.Spec PyProof.Rows
section
variable {X : Cx} {es : List Expr} {kt : Nat} {tp : Pos}
end
section
variable {X : Cx}
end
end L2

namespace L2
open PySem PySem.Calls PySem.Spec PyProof.Rows PySem.W
section
variable {prog : Program} {w : World} {A : Around} {E : Value → Shared → Prop} {s : Shared}
end
end L2

namespace L2
open PySem PySem.Calls PySem.Spec PyProof.Rows PySem.W
section
variable {X : Cx} {pins : List (Addr × Obj)} {σ : St} {H : Hp} {s : Shared}
end
end L2
namespace L2.Hd
open L2 PySem PySem.Calls PySem.Spec PyProof.Rows PySem.W
section
variable {X : Cx} {tg : Expr}
end
section
variable {X : Cx} {N : List Str} {src : List (Option Nat)} {scope : Scope} {cl : List (Str × Addr)} {pins : List (Addr × Obj)} {σ : St} {H : Hp} {s : Shared}
end
end L2.Hd

namespace L2
open PySem PySem.Calls PySem.Spec PyProof.Rows PySem.W
section
variable {prog : Program} {w : World} {A : Around} {y : Addr} {ob : Obj}
end
section
variable {X : Cx}
end
end L2
namespace PySem
open PySem.Spec PyProof.Rows
section
variable {prog : Program} {w : World} {A : Around} {E : Value → Shared → Prop} {s : Shared} {y : Addr} {ob : Obj}
end
end PySem
namespace L2
open PySem PySem.Calls PySem.Spec PyProof.Rows PySem.W
section
variable {X : Cx}
end
section
variable {X : Cx} {k : Nat} {x : Str} {ps : List Str} {sp : Sp} {p pos : Pos} {e : Expr} {es : List Expr} {t : TA}
end
end L2

namespace L2
open PySem
section
variable {prog : Program} {w : World} {z TI TO i1 i2 : Addr} {f1 f2 : List Addr} {n1 n2 : Nat} {P1 P2 : Nat → Value → Prop} {S1 S2 : Nat → Heap → Prop}
end
section
open PySem.Spec PyProof.Rows
variable {X : Cx} {nm : Str} {tp : Pos}
end
end L2

namespace L2
open PySem PySem.Spec PyProof.Rows
section
variable {prog : Program} {w : World} {A : Around} {R : Result → Shared → Prop} {it B : Addr} {fp wr : List Addr} {n : Nat} {P : Nat → Value → Prop} {St : Nat → Heap → Prop} {dn : Str} {dv : Value} {kf : Nat → Nat} {Ok : Heap → Prop}
end
section
variable {X : Cx}
end
end L2

namespace L2
open PySem PySem.Spec PyProof.Rows
section
variable {X : Cx}
end
end L2

namespace L2
open PySem
end L2

namespace L2
open PySem PySem.Calls PySem.Spec PyProof.Rows
section
variable {prog : Program} {w : World} {A : Around} {E : Value → Shared → Prop} {s : Shared} {d it : Addr} {es : Array (Int × Value)} {ep i slot : Nat} {t : SetTable}
end
end L2

namespace L2
open PySem PySem.Calls PySem.Spec PyProof.Rows
section
variable {prog : Program} {w : World} {K : Type} [DecidableEq K] {knd : KeyKind prog w K} {Sm : K → Prop} {A : Around} {E : Value → Shared → Prop} {s : Shared}
end
end L2

namespace L2
open PySem PySem.Calls PySem.Spec PyProof.Rows
section
variable {prog : Program} {w : World} {A : Around} {E : Value → Shared → Prop} {s : Shared} {d it : Addr} {es : Array (Int × Value)} {ep i slot : Nat} {t : SetTable}
end
end L2

namespace L2
open PySem PySem.Calls PySem.Spec PyProof.Rows
section
variable {prog : Program} {w : World} {K : Type} [DecidableEq K] {knd : KeyKind prog w K} {Sm : K → Prop} {A : Around} {E : Value → Shared → Prop} {s : Shared}
end
end L2

namespace L2
open PySem PySem.Calls PySem.Spec PyProof.Rows
section
variable {prog : Program} {w : World} {K : Type} [DecidableEq K] {knd : KeyKind prog w K} {Sm : K → Prop} {A : Around} {E : Value → Shared → Prop} {s : Shared}
end
end L2

namespace L2
open PySem PySem.Calls PySem.Spec PyProof.Rows
section
variable {prog : Program} {w : World} {K : Type} [DecidableEq K] {knd : KeyKind prog w K} {Sm : K → Prop} {A : Around} {E : Value → Shared → Prop} {s : Shared}
end
section
variable {X : Cx}
end
end L2

namespace L2
open PySem PySem.Calls PySem.Spec PyProof.Rows
section
variable {prog : Program} {w : World} {A : Around} {E : Value → Shared → Prop} {s : Shared}
end
section
variable {prog : Program} {w : World} {A : Around} {E : Value → Shared → Prop} {s : Shared}
end
section
variable {X : Cx}
end
end L2

namespace L2
open PySem PySem.Calls PySem.Spec PyProof.Rows Builtin Builtin.Str
section
variable {prog : Program} {w : World} {A : Around} {E : Value → Shared → Prop} {s : Shared} {x y : Str} {t u : Tok}
theorem split_at {Q : Value → Shared → Prop} (hy : (y.length == 0) = false) (hx : x.length ≤ sizeLine) (hn : (Txt.split x y).length ≤ sizeLine)
    (q : ∀ (l : List (Str × Tok)) (k : Nat), l.map (·.1) = Txt.split x y → Q (.ref s.heap.objs.size) { s with heap := s.heap.push { cls := .type "list", data := .seq (strValues l).toArray }, toks := k }) :
    wpAny (model prog w) A (call (.builtin "str.split") [.str x t, .str y u]) Q E s := by
  cases h1 : (decide (x.length < y.length) || decide (strKind x < strKind y)) with
  | true => exact call_meets PySem.F.slot_str_split (typeIs_str _ _ _) PySem.F.entry_str_split (PySem.F.args_str_split_2 _ _) (meets_str_split_cannot_occur x y t u h1) (q [(x, t)] s.toks (if_pos h1).symm)
  | false =>
    cases hf : (occurrences x y 0 x.length (x.length + 1)).isEmpty with
    | true => exact call_meets PySem.F.slot_str_split (typeIs_str _ _ _) PySem.F.entry_str_split (PySem.F.args_str_split_2 _ _) (meets_str_split_not_found x y t u h1 hy hf) (q [(x, t)] s.toks ((if_neg (ne_true_of_eq_false h1)).trans (if_pos hf)).symm)
    | false =>
      have es : Txt.split x y = partsBetween x (occurrences x y 0 x.length (x.length + 1)) y.length := (if_neg (ne_true_of_eq_false h1)).trans (if_neg (ne_true_of_eq_false hf))
      rw [es] at hn
      refine call_meets PySem.F.slot_str_split (typeIs_str _ _ _) PySem.F.entry_str_split (PySem.F.args_str_split_2 _ _) (meets_str_split_sep x y t u h1 hy hf hx hn) ?_
      have := q (numbered s.toks (partsBetween x (occurrences x y 0 x.length (x.length + 1)) y.length)) (s.toks + (partsBetween x (occurrences x y 0 x.length (x.length + 1)) y.length).length) ((numbered_texts _ _).trans es.symm)
      rw [← strsFrom_eq] at this
      exact this
end
theorem vals_strs : ∀ {l : List (Str × Tok)} {ts : List Str}, l.map (·.1) = ts → Vals (ts.map V.str) (strValues l)
  | [], _, h => by subst h; exact .nil
  | p :: r, _, h => by
    subst h
    exact .cons ⟨p.2, rfl⟩ (vals_strs rfl)
theorem strs_vals : ∀ {ts : List Str} {us : List Value}, Vals (ts.map V.str) us → ∃ l : List (Str × Tok), us = strValues l ∧ l.map (·.1) = ts
  | [], _, h => by cases h; exact ⟨[], rfl, rfl⟩
  | z :: r, _, h => by
    cases h with
    | cons a b =>
      obtain ⟨t, rfl⟩ := a
      obtain ⟨l, rfl, e⟩ := strs_vals b
      exact ⟨(z, t) :: l, rfl, by rw [List.map_cons, e]⟩
section
variable {X : Cx}
theorem mt_split : MtR X "str.split" (fun x vs H Q => ∃ (z y : Str), x = .str z ∧ vs = [.str y] ∧ (y.length == 0) = false ∧ z.length ≤ sizeLine ∧ (Txt.split z y).length ≤ sizeLine ∧
    ∀ (D : Addr) (H' : Hp), Same H H' → H D = none → H' D = some (.lst ((Txt.split z y).map V.str)) → Q (.ref D) H') := by
  intro pins s σ H x xs v us Q I rx r h
  obtain ⟨z, y, rfl, rfl, hy, hz, hn, q⟩ := h
  obtain ⟨t, rfl⟩ := rx
  obtain ⟨u, rfl, ru⟩ := vals1 r
  obtain ⟨t', rfl⟩ := ru
  refine split_at hy hz hn fun l k e => ?_
  have I1 : Inv X pins σ H { s with heap := s.heap.push { cls := .type "list", data := .seq (strValues l).toArray }, toks := k } := I.kept fun b o e => Heap.get?_push_of_some _ e
  have fp : FpOk X pins H s.heap.objs.size := I.newFp fun b o e => Heap.lt_size e
  refine ⟨.ref s.heap.objs.size, _, I1.adopt (o := .lst ((Txt.split z y).map V.str)) fp ⟨by rw [List.length_map]; exact hn, strValues l, 0, vals_strs e, Heap.get?_push_size _ rfl⟩, rfl, q _ _ (Same.upd fp.1) fp.1 upd_same⟩
theorem mt_join : MtR X "str.join" (fun x vs H Q => ∃ (z : Str) (l : Addr) (ts : List Str), x = .str z ∧ vs = [.ref l] ∧ SqL X.K H l (ts.map V.str) ∧ JoinOk z ts = true ∧ Q (.str (Txt.join z ts)) H) := by
  intro pins s σ H x xs v us Q I rx r h
  obtain ⟨z, l, ts, rfl, rfl, hl, hok, q⟩ := h
  obtain ⟨t, rfl⟩ := rx
  obtain ⟨u, rfl, ru⟩ := vals1 r
  cases ru
  obtain ⟨its, rv, pl, hz⟩ := I.list hl
  obtain ⟨sl, rfl, e⟩ := strs_vals rv
  exact SC.join pl.isList e hok fun t' k => ⟨.str (Txt.join z ts), H, I.tok _, ⟨t', rfl⟩, q⟩
theorem call_int_text : CallR X (.type "int") (fun xs H Q => ∃ (z : Str) (n : Int), xs = [.str z] ∧ PySem.intText? z = some n ∧ z.length ≤ 640 ∧ Q (.int n) H) := by
  intro pins s σ H xs us Q I r h
  obtain ⟨z, n, rfl, hn, hl, q⟩ := h
  obtain ⟨u, rfl, ru⟩ := vals1 r
  obtain ⟨t, rfl⟩ := ru
  exact PySem.W.KIN.call_text hn hl ⟨.int n, H, I.tok _, ⟨_, rfl⟩, q⟩
end
def Its (z : Str) : It := ⟨fun i _ => i < z.cps.size, fun i H v H' => H' = H ∧ ∃ c, z.cps[i]? = some c ∧ v = .str ⟨#[c]⟩, fun i _ => z.cps.size ≤ i⟩
theorem turn_str {P : Program} {w : World} {K : PySem.W.Frag} {tg : Expr} (it : Addr) (z : Str) (t : Tok) : Turn P w K tg (Its z) [it] it (fun i h => h.IsStrIter it "str_ascii_iterator" z t i) where
  mem := by simp
  obj := fun i h st b hb => by
    have e : b = it := by simpa using hb
    subst e
    obtain ⟨o, e, c, d⟩ := st
    exact ⟨o, e, fun v z => by rw [d] at z; cases z⟩
  keep := fun i h h' st k => let ⟨o, e, r⟩ := st; ⟨o, k it (by simp) o e, r⟩
  item := by
    intro X hP hw hK hc i pins s σ H E I hf st hg
    subst hP hw hK
    obtain ⟨f0, f1, f2, f3, f4, f5⟩ := hf it (by simp)
    have hi : i < z.cps.size := hg
    refine wpAny_pyNext_ascii_item st (c := z.cps[i]) (by simp [hi]) fun h' st' sb => ?_
    have I1 : Inv X pins σ H { s with heap := h', toks := s.toks + 1 } := I.turned (fun b o hb e => (sb.2 b hb).trans e) f0 f1 f3 f4 f5
    obtain ⟨o, e, c, d⟩ := id st'
    exact ⟨_, rfl, go_of (s := { s with heap := h', toks := s.toks + 1 }) e c d (by decide) ⟨.str ⟨#[z.cps[i]]⟩, H, I1, ⟨_, rfl⟩, ⟨rfl, z.cps[i], by simp [hi], rfl⟩, st', fun b hb => (hf b hb).1⟩⟩
  done := by
    intro X hP hw hK hc i pins s σ H E I hf st hg
    subst hP hw hK
    obtain ⟨f0, f1, f2, f3, f4, f5⟩ := hf it (by simp)
    have hi : z.cps.size ≤ i := hg
    exact wpAny_pyNext_ascii_end (I.ok.hd hc) st (by simp; omega) fun h' eb => ⟨rfl, I.turned (t' := s.toks) (fun b o hb e => eb b o hb e) f0 f1 f3 f4 f5⟩
  self := fun _ _ _ _ _ st h => wpAny_pyIter_striter_ascii st h
section
variable {X : Cx} {tg : Expr}
def iStr (tl : TE) : TI := fun σ H R => tl σ H fun x H1 => ∃ z : Str, x = .str z ∧ z.cps.all (· < 128) = true ∧ R (Its z) H1
theorem pi_str {l : Expr} {tl : TE} (hl : PE X l tl) : PI X tg l (iStr tl) := by
  intro pins s σ H R I h
  refine thn (hl pins s σ H _ I h) fun v s1 ⟨x, H1, I1, r1, q1⟩ => ?_
  obtain ⟨z, e, ha, q⟩ := q1
  subst e
  obtain ⟨t, rfl⟩ := r1
  refine wpAny_pyIter_ascii ha ?_
  refine ⟨s1.heap.objs.size, [s1.heap.objs.size], _, _, H1, rfl, I1.kept (t' := s1.toks) fun b o e => Heap.get?_push_of_some _ e, turn_str _ z t, ⟨_, Heap.get?_push_size _ rfl, rfl, rfl⟩, fun b hb => ?_, q⟩
  have e : b = s1.heap.objs.size := by simpa using hb
  subst e
  exact I1.fpOk (Nat.le_refl _) (I1.hok.fresh (Nat.le_refl _))
end
end L2

namespace PySem
open PySem.Calls PySem.Spec PyProof.Rows
theorem F.typeCall_enumerate_k (a b : Value) : checkTypeCall "enumerate" ⟨[a], [("start", b)]⟩ = pure () := by kernel_rfl
theorem F.newCall_enumerate_k (a b : Value) : checkBuiltinCall "enumerate.__new__" ⟨[.type "enumerate", a], [("start", b)]⟩ = pure () := by kernel_rfl
theorem F.args_object_init_k (o a b : Value) : argsOk "object.__init__" ⟨[o, a], [("start", b)]⟩ := by unfold argsOk; kernel_rfl
theorem meets_enum_k (l : Addr) (items : Array Value) (n : Nat) (dct : Option Addr) (sl : Array (Option Value)) (t : Tok) :
    Meets (Builtin.«enumerate.__new__» ⟨[.type "enumerate", .ref l], [("start", .int 2 t)]⟩) (fun _ R s => s.heap.get? l = some { cls := .type "list", dict := dct, data := .seq items n, slots := sl } ∧
      R (.ok (.ret (.ref (s.heap.push { cls := .type "list_iterator", data := .fields #[.ref l, .int 0 0] }).objs.size)))
        { s with heap := (s.heap.push { cls := .type "list_iterator", data := .fields #[.ref l, .int 0 0] }).push { cls := .type "enumerate", data := .fields #[.none, .bool false, .ref s.heap.objs.size, rawInt 2, .none, .none] } }) :=
  .of_wp fun prog w A R s h => by
    obtain ⟨hp, g, d, tk, os⟩ := s
    obtain ⟨hl, h⟩ := h
    have hsub := sub_enumerate
    have hL : Heap.IsList (Shared.heap ⟨hp, g, d, tk, os⟩) l items := ⟨_, hl, rfl, n, rfl⟩
    wp_walk using wpAny_loadPart' hl
    refine wpAny_stack_any fun st => wpAny_pure ?_
    split
    · rename_i c _ _ _ _ _
      cases (c == Value.type "enumerate")
      · wp_walk using wpAny_loadPart' hl, wpAny_pyIter_list hL
        exact ⟨_, rfl, h⟩
      · wp_walk using wpAny_loadPart' hl, wpAny_pyIter_list hL
        exact ⟨_, rfl, h⟩
    · wp_walk using wpAny_loadPart' hl, wpAny_pyIter_list hL
      exact ⟨_, rfl, h⟩
section
variable {prog : Program} {w : World} {A : Around} {E : Value → Shared → Prop} {s : Shared}
theorem init_meets_k {self a b : Value} : Meets (Builtin.«object.__init__» ⟨[self, a], [("start", b)]⟩) (fun _ R s => s.TypeIs self "enumerate" ∧ R (.ok (.ret .none)) s) := by
  refine Meets.of_wp fun prog w A R s hs => ?_
  obtain ⟨hT, hq⟩ := hs
  have hl := F.called_enumerate.init.lookup
  have hm := F.called_enumerate.made
  have hne : (some "enumerate.__new__" != some "object.__new__") = true := by decide
  repeat (any_goals (first | assumption | wp_step))
  all_goals exact ⟨_, rfl, hq⟩
theorem call_enum_k {l : Addr} {items : Array Value} {t : Tok} {Q : Value → Shared → Prop} (hL : s.heap.IsList l items)
    (h : ∀ h', IsEnum h' (s.heap.objs.size + 1) s.heap.objs.size 2 .none → h'.IsListIter s.heap.objs.size l 0 → h'.objs.size = s.heap.objs.size + 2 →
      (∀ b o, s.heap.get? b = some o → h'.get? b = some o) → Q (.ref (s.heap.objs.size + 1)) { s with heap := h' }) :
    wpAny (model prog w) A (call (.type "enumerate") [.ref l] [("start", .int 2 t)]) Q E s := by
  obtain ⟨⟨c, dct, dt, sl⟩, hl, hc, n, hd⟩ := hL
  replace hc : c = .type "list" := hc
  replace hd : dt = .seq items n := hd
  subst hc hd
  have ft := F.called_enumerate
  obtain ⟨c, tl, hmro⟩ := ft.mro
  have mk1 := ft.made
  have mk2 := ft.sub
  refine wpAny_call (codeAny_of_tree (show wpAny _ _ (callAny (.type "enumerate") _) _ _ _ from ?_))
  refine wpAny_pure ⟨Code.quiet_builtin _ (by decide +kernel), codeAny_builtin F.entry_type_call ?_⟩
  rw [Around.under_plain (weight_type_call_type "enumerate" [.ref l] [("start", .int 2 t)]) (units_type_call_type "enumerate" [.ref l] [("start", .int 2 t)])]
  have mk3 := ft.notType
  have mk4 := ft.canCreate
  have mk5 := F.typeCall_enumerate_k (.ref l) (.int 2 t)
  repeat (any_goals (first | assumption | wp_step))
  have hz : (s.heap.push { cls := .type "list_iterator", data := .fields #[.ref l, .int 0 0] }).objs.size = s.heap.objs.size + 1 := Heap.size_push ..
  have he : IsEnum ((s.heap.push { cls := .type "list_iterator", data := .fields #[.ref l, .int 0 0] }).push { cls := .type "enumerate", data := .fields #[.none, .bool false, .ref s.heap.objs.size, rawInt 2, .none, .none] }) (s.heap.objs.size + 1) s.heap.objs.size 2 .none := by
    have := Heap.get?_push_size (s.heap.push { cls := .type "list_iterator", data := .fields #[.ref l, .int 0 0] }) (o := { cls := .type "enumerate", data := .fields #[.none, .bool false, .ref s.heap.objs.size, rawInt 2, .none, .none] }) rfl
    rw [hz] at this
    exact this
  refine codeAny_mono (codeAny_call_builtin ft.plain F.entry_enumerate_new (wpAny_of_eq (F.newCall_enumerate_k (.ref l) (.int 2 t)) (meets_enum_k l items n dct sl t prog w A.in1
    (wants (fun ob t1 => ob = .ref (s.heap.objs.size + 1) ∧ t1 = { s with heap := (s.heap.push { cls := .type "list_iterator", data := .fields #[.ref l, .int 0 0] }).push { cls := .type "enumerate", data := .fields #[.none, .bool false, .ref s.heap.objs.size, rawInt 2, .none, .none] } }) E) s ⟨hl, by rw [hz]; exact ⟨rfl, rfl⟩⟩))) fun r s₁ hr => ?_
  cases r with
  | error e => exact hr
  | ok fl =>
    cases fl with
    | ret obj =>
      obtain ⟨rfl, rfl⟩ := hr
      have hT : Shared.TypeIs { s with heap := (s.heap.push { cls := .type "list_iterator", data := .fields #[.ref l, .int 0 0] }).push { cls := .type "enumerate", data := .fields #[.none, .bool false, .ref s.heap.objs.size, rawInt 2, .none, .none] } } (.ref (s.heap.objs.size + 1)) "enumerate" := ⟨_, he, rfl⟩
      have ini1 := ft.init.lookup
      have ini2 := ft.init.bind (.ref (s.heap.objs.size + 1))
      repeat (any_goals (first | assumption | wp_step))
      refine codeAny_mono (codeAny_call_builtin ft.init.plain F.entry_object_init (ft.init.check _ _ _ _ _ _ _ _ hT (F.args_object_init_k _ _ _) (init_meets_k prog w A.in1 (wants (fun r s₂ => r = .none ∧ s₂ = { s with heap := (s.heap.push { cls := .type "list_iterator", data := .fields #[.ref l, .int 0 0] }).push { cls := .type "enumerate", data := .fields #[.none, .bool false, .ref s.heap.objs.size, rawInt 2, .none, .none] } }) E) _ ⟨hT, rfl, rfl⟩))) fun r₂ s₂ hr₂ => ?_
      cases r₂ with
      | error e => exact hr₂
      | ok fl₂ =>
        cases fl₂ with
        | ret r =>
          obtain ⟨rfl, rfl⟩ := hr₂
          repeat (any_goals (first | assumption | wp_step))
          exact h _ he ⟨_, Heap.get?_push_of_some _ (Heap.get?_push_size _ rfl), rfl, rfl⟩ (by rw [Heap.size_push, hz]) fun b o x => Heap.get?_push_of_some _ (Heap.get?_push_of_some _ x)
        | _ => exact hr₂.elim
    | _ => exact hr.elim
end
end PySem

namespace PySem
theorem draws_two {prog : Program} {w : World} {A : Around} {it : Addr} {fp : List Addr} {n : Nat} {P : Nat → Value → Prop} {St : Nat → Heap → Prop} (D : Draws prog w A it fp n P St) : Draws prog w A it fp (n + 2) (fun i v => P (i - 2) v) (fun i h => ∃ j, i = j + 2 ∧ St j h) where
  live := fun i h ⟨j, _, st⟩ => D.live j h st
  frame := fun i h h' ⟨j, e, st⟩ k => ⟨j, e, D.frame j h h' st k⟩
  item := fun i s Q E hi ⟨j, e, st⟩ hQ => by
    subst e
    refine D.item j s Q E (by omega) st fun x h' tk px st' sb => hQ x h' tk ?_ ⟨j + 1, rfl, st'⟩ sb
    exact px
  done := fun s Q E ⟨j, e, st⟩ hE => by
    have : n = j := by omega
    subst this
    exact D.done s Q E st hE
end PySem
namespace L2
open PySem PySem.Calls PySem.Spec PyProof.Rows PySem.AutoSeq1
def ItzM (a b : Addr) : It := ⟨fun i H => ∃ xs ys, H a = some (.lst xs) ∧ H b = some (.lst ys) ∧ i < xs.length ∧ i < ys.length,
  fun i H x H' => ∃ p v w, x = .ref p ∧ H p = none ∧ H' = upd H p (.tup [v, w]) ∧ ∀ xs ys, H a = some (.lst xs) → H b = some (.lst ys) → xs[i]? = some v ∧ ys[i]? = some w,
  fun i H => ∃ xs ys, H a = some (.lst xs) ∧ H b = some (.lst ys) ∧ (i = xs.length ∨ (i < xs.length ∧ i = ys.length))⟩
theorem turn_zipM {P : Program} {w : World} {K : PySem.W.Frag} {es : List Expr} {kt : Nat} {tp : Pos} (a b z TI TO i1 i2 : Addr) (d1 : TI ≠ z) (d2 : TO ≠ z) (d3 : i1 ≠ z) (d4 : i2 ≠ z) (d5 : TI ≠ TO) (d6 : TI ≠ i1) (d7 : TI ≠ i2) (d8 : TO ≠ i1) (d9 : TO ≠ i2) (d0 : i1 ≠ i2) :
    Turn P w K (.Tuple es kt tp) (ItzM a b) [z, TI, TO, i1, i2] z (fun i h => IsZip h z TI TO .none ∧ IsPair h TI (.ref i1) (.ref i2) ∧ (∃ x y, IsPair h TO x y) ∧ h.IsListIter i1 a i ∧ h.IsListIter i2 b i) where
  mem := by simp
  obj := fun i h st c hc => by
    obtain ⟨s1, s2, ⟨x, y, s3⟩, ⟨o4, s4, _, q4⟩, ⟨o5, s5, _, q5⟩⟩ := st
    simp only [List.mem_cons, List.not_mem_nil, or_false] at hc
    rcases hc with rfl | rfl | rfl | rfl | rfl
    · exact ⟨_, s1, fun v => by intro q; cases q⟩
    · exact ⟨_, s2, fun v => by intro q; cases q⟩
    · exact ⟨_, s3, fun v => by intro q; cases q⟩
    · exact ⟨_, s4, fun v => by intro q; rw [q4] at q; cases q⟩
    · exact ⟨_, s5, fun v => by intro q; rw [q5] at q; cases q⟩
  keep := fun i h h' st kp => by
    obtain ⟨s1, s2, ⟨x, y, s3⟩, ⟨o4, s4, r4⟩, ⟨o5, s5, r5⟩⟩ := st
    exact ⟨kp z (by simp) _ s1, kp TI (by simp) _ s2, ⟨x, y, kp TO (by simp) _ s3⟩, ⟨o4, kp i1 (by simp) _ s4, r4⟩, ⟨o5, kp i2 (by simp) _ s5, r5⟩⟩
  item := by
    intro X hP hw hK hc i pins s σ H E I hf st hg
    subst hP hw hK
    obtain ⟨xs, ys, ha, hb, l1, l2⟩ := hg
    obtain ⟨s1, s2, s3, s4, s5⟩ := st
    have nf : ∀ {c : Addr} {o : HO}, H c = some o → ∀ e ∈ [z, TI, TO, i1, i2], c ≠ e := fun hcc e he q => by rw [q, (hf e he).1] at hcc; cases hcc
    obtain ⟨its, r1, t1, _⟩ := I.list (SqL.of ha)
    obtain ⟨its2, r2, t2, _⟩ := I.list (SqL.of hb)
    have D : ZAp z TI TO i1 i2 [i1, a] [i2, b] := by
      refine ⟨d1, d2, d3, d4, d5, d6, d7, d8, d9, d0, ?_, ?_, ?_, ?_, ?_, ?_⟩ <;> simp only [List.mem_cons, List.not_mem_nil, or_false, not_or]
      · exact ⟨d3.symm, (nf ha z (by simp)).symm⟩
      · exact ⟨d4.symm, (nf hb z (by simp)).symm⟩
      · exact ⟨d8, (nf ha TO (by simp)).symm⟩
      · exact ⟨d9, (nf hb TO (by simp)).symm⟩
      · exact ⟨d0, (nf hb i1 (by simp)).symm⟩
      · exact ⟨d0.symm, (nf ha i2 (by simp)).symm⟩
    have hh : X.A.in1.handled = none := I.ok.hd hc
    have e1 : its.toArray.size = xs.length := by rw [List.size_toArray, ← r1.length]
    have e2 : its2.toArray.size = ys.length := by rw [List.size_toArray, ← r2.length]
    refine zip_pyNext D (Draws.list hh i1 a (nf ha i1 (by simp)) its.toArray) (Draws.list hh i2 b (nf hb i2 (by simp)) its2.toArray) (by omega) (by omega) ⟨s1, s2, s3, ⟨s4, t1.isList⟩, ⟨s5, t2.isList⟩⟩ fun x y g tk p1 p2 z1 z2 z3 z4 z5 z6 z7 kp => ⟨_, rfl, ?_⟩
    have p1 : its[i]? = some x := by simpa using p1
    have p2 : its2[i]? = some y := by simpa using p2
    obtain ⟨vx, hx⟩ : ∃ v, xs[i]? = some v := ⟨xs[i], by simp [l1]⟩
    obtain ⟨vy, hy⟩ : ∃ v, ys[i]? = some v := ⟨ys[i], by simp [l2]⟩
    obtain ⟨x', q1, rx⟩ := r1.get hx
    rw [p1] at q1; cases q1
    obtain ⟨y', q2, ry⟩ := r2.get hy
    rw [p2] at q2; cases q2
    refine wpAny_letOwnedTupleGo_zip z1 fun g2 zz hs => ?_
    have fr : H s.heap.objs.size = none := I.hok.fresh (Nat.le_refl _)
    have I1 : Inv X pins σ H { s with heap := g2, toks := tk } := I.turnedL (l := [z, TO, i1, i2]) (t' := tk) (fun c o hc e => by
      simp only [List.mem_cons, List.not_mem_nil, or_false, not_or] at hc
      exact hs.extBut _ _ hc.1 (kp c o hc.1 hc.2.1 hc.2.2.1 hc.2.2.2 e)) fun c hc => hf c (by
        simp only [List.mem_cons, List.not_mem_nil, or_false] at hc ⊢
        rcases hc with h | h | h | h <;> simp [h])
    have fp := I.fpOk (H' := H) (Nat.le_refl _) fr
    have nz : ∀ e ∈ [z, TI, TO, i1, i2], e ≠ s.heap.objs.size := fun e he q => by
      obtain ⟨o, ho⟩ : ∃ o, s.heap.get? e = some o := by
        obtain ⟨x3, y3, s3⟩ := s3
        obtain ⟨o4, s4, _⟩ := s4
        obtain ⟨o5, s5, _⟩ := s5
        simp only [List.mem_cons, List.not_mem_nil, or_false] at he
        rcases he with rfl | rfl | rfl | rfl | rfl
        · exact ⟨_, s1⟩
        · exact ⟨_, s2⟩
        · exact ⟨_, s3⟩
        · exact ⟨_, s4⟩
        · exact ⟨_, s5⟩
      exact absurd (Heap.lt_size ho) (by rw [q]; exact Nat.lt_irrefl _)
    have at2 : g2.get? s.heap.objs.size = some { cls := .type "tuple", data := .seq #[x, y] } := hs.extBut _ _ (nz z (by simp)).symm z6
    refine ⟨.ref s.heap.objs.size, upd H s.heap.objs.size (.tup [vx, vy]), I1.adopt fp ⟨?_, [x, y], .cons rx (.cons ry .nil), ⟨_, at2, rfl, _, rfl⟩⟩, rfl, ⟨_, vx, vy, rfl, fr, rfl, fun xs' ys' q1 q2 => ?_⟩,
      ⟨zz, hs.extBut _ _ d1 z3, ⟨_, _, hs.extBut _ _ d2 z2⟩, z4.1.extBut hs.extBut d3, z5.1.extBut hs.extBut d4⟩, fun c hc => ?_⟩
    · show 2 ≤ sizeLine
      decide
    · rw [ha] at q1; cases q1
      rw [hb] at q2; cases q2
      exact ⟨hx, hy⟩
    · rw [upd_ne (nz c hc)]
      exact (hf c hc).1
  done := by
    intro X hP hw hK hc i pins s σ H E I hf st hg
    subst hP hw hK
    obtain ⟨xs, ys, ha, hb, hl⟩ := hg
    obtain ⟨s1, s2, s3, s4, s5⟩ := st
    have nf : ∀ {c : Addr} {o : HO}, H c = some o → ∀ e ∈ [z, TI, TO, i1, i2], c ≠ e := fun hcc e he q => by rw [q, (hf e he).1] at hcc; cases hcc
    obtain ⟨its, r1, t1, _⟩ := I.list (SqL.of ha)
    obtain ⟨its2, r2, t2, _⟩ := I.list (SqL.of hb)
    have D : ZAp z TI TO i1 i2 [i1, a] [i2, b] := by
      refine ⟨d1, d2, d3, d4, d5, d6, d7, d8, d9, d0, ?_, ?_, ?_, ?_, ?_, ?_⟩ <;> simp only [List.mem_cons, List.not_mem_nil, or_false, not_or]
      · exact ⟨d3.symm, (nf ha z (by simp)).symm⟩
      · exact ⟨d4.symm, (nf hb z (by simp)).symm⟩
      · exact ⟨d8, (nf ha TO (by simp)).symm⟩
      · exact ⟨d9, (nf hb TO (by simp)).symm⟩
      · exact ⟨d0, (nf hb i1 (by simp)).symm⟩
      · exact ⟨d0.symm, (nf ha i2 (by simp)).symm⟩
    have hh : X.A.in1.handled = none := I.ok.hd hc
    have e1 : its.toArray.size = xs.length := by rw [List.size_toArray, ← r1.length]
    have e2 : its2.toArray.size = ys.length := by rw [List.size_toArray, ← r2.length]
    refine zip_pyNext_end D (Draws.list hh i1 a (nf ha i1 (by simp)) its.toArray) (Draws.list hh i2 b (nf hb i2 (by simp)) its2.toArray) (by rcases hl with h | ⟨h, h2⟩ <;> omega) ⟨s1, s2, s3, ⟨s4, t1.isList⟩, ⟨s5, t2.isList⟩⟩ fun g tk kp => ⟨rfl, ?_⟩
    exact I.turnedL (l := [z, TO, i1, i2]) (t' := tk) (fun c o hc e => by
      simp only [List.mem_cons, List.not_mem_nil, or_false, not_or] at hc
      exact kp c o hc.1 hc.2.1 hc.2.2.1 hc.2.2.2 e) fun c hc => hf c (by
        simp only [List.mem_cons, List.not_mem_nil, or_false] at hc ⊢
        rcases hc with h | h | h | h <;> simp [h])
  self := fun _ _ _ _ _ st h => wpAny_pyIter_zip st.1 h
section
variable {X : Cx} {es : List Expr} {kt : Nat} {tp : Pos}
def iZipM (ta : TA) : TI := fun σ H R => ta σ H fun vs H1 => ∃ a b xs ys, vs = [.ref a, .ref b] ∧ H1 a = some (.lst xs) ∧ H1 b = some (.lst ys) ∧ R (ItzM a b) H1
theorem pi_zipM {a b : Expr} {ta : TA} {p pos : Pos} (hg : Gl X "zip") (hm : X.mg "zip" = none) (ha : PA X [a, b] ta) (hs : starEach [a, b] X.env = [(false, eval a X.env), (false, eval b X.env)] := by rfl) (hs2 : starEach [b] X.env = [(false, eval b X.env)] := by rfl) :
    PI X (.Tuple es kt tp) (.Call (.Name "zip" p) [a, b] [] pos) (iZipM ta) := by
  intro pins s σ H R I h
  refine Call_ (ld_blt I hg hm boot_zip (PyProof.Rows.callWith_type1 (thn (ha pos pins s σ H _ I h) fun us s1 h1 => ?_) (by rw [hs, hs2]) (by rw [hs2]; rfl)))
  obtain ⟨vs, H1, I1, r1, a, b, xs, ys, e, ha, hb, q⟩ := h1
  subst e
  obtain ⟨u, v, rfl, ru, rv⟩ := vals2' r1
  cases ru
  cases rv
  obtain ⟨its, _, t1, _⟩ := I1.list (SqL.of ha)
  obtain ⟨its2, _, t2, _⟩ := I1.list (SqL.of hb)
  refine call_zip_2 t1.isList t2.isList fun h' z1 z2 z3 z4 z5 _ kp => wpAny_pyIter_zip z1 ?_
  have I2 : Inv X pins σ H1 { s1 with heap := h' } := I1.kept (t' := s1.toks) kp
  have fr : ∀ k : Nat, H1 (s1.heap.objs.size + k) = none := fun k => I1.hok.fresh (Nat.le_add_right _ _)
  refine ⟨s1.heap.objs.size + 4, _, _, ItzM a b, H1, rfl, I2, turn_zipM a b (s1.heap.objs.size + 4) (s1.heap.objs.size + 2) (s1.heap.objs.size + 3) s1.heap.objs.size (s1.heap.objs.size + 1)
    (nne _ 2 4 (by decide)) (nne _ 3 4 (by decide)) (nne0 _ 4 (by decide)) (nne _ 1 4 (by decide)) (nne _ 2 3 (by decide)) (nne0 _ 2 (by decide)).symm (nne _ 2 1 (by decide)) (nne0 _ 3 (by decide)).symm (nne _ 3 1 (by decide)) (nne0 _ 1 (by decide)), ⟨z1, z2, ⟨_, _, z3⟩, z4, z5⟩, fun c hc => ?_, q⟩
  simp only [List.mem_cons, List.not_mem_nil, or_false] at hc
  rcases hc with rfl | rfl | rfl | rfl | rfl
  · exact I1.fpOk (Nat.le_add_right _ _) (fr 4)
  · exact I1.fpOk (Nat.le_add_right _ _) (fr 2)
  · exact I1.fpOk (Nat.le_add_right _ _) (fr 3)
  · exact I1.fpOk (Nat.le_refl _) (fr 0)
  · exact I1.fpOk (Nat.le_add_right _ _) (fr 1)
end
section
variable {K : PySem.W.Frag} {g : TG} {tc : TT} {te : TE} {σ : St} {H : Hp} {R : List V → Hp → Prop}
theorem lc_zipM {a b : Addr} {xs ys : List V} (hxy : ys.length + 1 = xs.length ∨ (xs.length = 0 ∧ ys.length = 0) ∨ ys.length = xs.length) (Pv : Nat → List V → Hp → Prop) (h0 : Pv 0 [] H)
    (hl : ∀ i zs H, i ≤ ys.length → Pv i zs H → H a = some (.lst xs) ∧ H b = some (.lst ys) ∧ zs.length ≤ sizeLine) (hd : ∀ zs H, Pv ys.length zs H → R zs H)
    (hs : ∀ i v w zs H p, xs[i]? = some v → ys[i]? = some w → i < ys.length → Pv i zs H → H p = none → g (.ref p) σ (upd H p (.tup [v, w])) fun σ2 H2 => tc σ2 H2 fun b H3 =>
      if b = true then te σ2 H3 fun y H4 => ∃ m', m' < ys.length - i ∧ Wn ys.length Pv (i + 1) m' (zs ++ [y]) H4 else ∃ m', m' < ys.length - i ∧ Wn ys.length Pv (i + 1) m' zs H3) :
    ∃ W : Nat → Nat → List V → Hp → Prop, (∃ m, W 0 m [] H) ∧ ∀ i m ys H, W i m ys H → ((ItzM a b).stop i H ∧ ys.length ≤ sizeLine ∧ R ys H) ∨
      ((ItzM a b).go i H ∧ ys.length ≤ sizeLine ∧ ∀ x H', (ItzM a b).yld i H x H' → g x σ H' fun σ2 H2 => tc σ2 H2 fun b H3 =>
        if b = true then te σ2 H3 fun y H4 => ∃ m', m' < m ∧ W (i + 1) m' (ys ++ [y]) H4 else ∃ m', m' < m ∧ W (i + 1) m' ys H3) := by
  refine lc_by ys.length Pv h0 (fun zs H p => ?_) (fun i zs H hi p => ?_)
  · obtain ⟨q1, q2, z⟩ := hl _ zs H (Nat.le_refl _) p
    exact ⟨⟨xs, ys, q1, q2, by omega⟩, z, hd zs H p⟩
  · obtain ⟨q1, q2, z⟩ := hl i zs H (Nat.le_of_lt hi) p
    refine ⟨⟨xs, ys, q1, q2, by omega, hi⟩, z, fun x H' y => ?_⟩
    obtain ⟨p', v, w, e1, e2, e3, y⟩ := y
    subst e1 e3
    obtain ⟨y1, y2⟩ := y xs ys q1 q2
    exact hs i v w zs H p' y1 y2 hi p e2
theorem lc_zipM0 {a b : Addr} {xs ys : List V} (hxy : ys.length + 1 = xs.length ∨ (xs.length = 0 ∧ ys.length = 0) ∨ ys.length = xs.length) (Pv : Nat → List V → Hp → Prop) (h0 : Pv 0 [] H)
    (hl : ∀ i zs H, i ≤ ys.length → Pv i zs H → H a = some (.lst xs) ∧ H b = some (.lst ys) ∧ zs.length ≤ sizeLine) (hd : ∀ zs H, Pv ys.length zs H → R zs H)
    (hs : ∀ i v w zs H p, xs[i]? = some v → ys[i]? = some w → i < ys.length → Pv i zs H → H p = none → g (.ref p) σ (upd H p (.tup [v, w])) fun σ2 H2 => te σ2 H2 fun y H4 => ∃ m', m' < ys.length - i ∧ Wn ys.length Pv (i + 1) m' (zs ++ [y]) H4) :
    ∃ W : Nat → Nat → List V → Hp → Prop, (∃ m, W 0 m [] H) ∧ ∀ i m ys H, W i m ys H → ((ItzM a b).stop i H ∧ ys.length ≤ sizeLine ∧ R ys H) ∨
      ((ItzM a b).go i H ∧ ys.length ≤ sizeLine ∧ ∀ x H', (ItzM a b).yld i H x H' → g x σ H' fun σ2 H2 => tYes σ2 H2 fun b H3 =>
        if b = true then te σ2 H3 fun y H4 => ∃ m', m' < m ∧ W (i + 1) m' (ys ++ [y]) H4 else ∃ m', m' < m ∧ W (i + 1) m' ys H3) := lc_zipM (tc := tYes) hxy Pv h0 hl hd hs
end
def IteS (a : Addr) : It := ⟨fun i H => ∃ xs, H a = some (.lst xs) ∧ i < xs.length,
  fun i H x H' => ∃ p v, x = .ref p ∧ H p = none ∧ H' = upd H p (.tup [.int ((i + 2 : Nat) : Int), v]) ∧ ∀ xs, H a = some (.lst xs) → xs[i]? = some v,
  fun i H => ∃ xs, H a = some (.lst xs) ∧ i = xs.length⟩
theorem turn_enumS {P : Program} {w : World} {K : PySem.W.Frag} {es : List Expr} {kt : Nat} {tp : Pos} (a e it : Addr) (d1 : e ≠ it) :
    Turn P w K (.Tuple es kt tp) (IteS a) [e, it] e (fun i h => (∃ old, IsEnum h e it ((i + 2 : Nat) : Int) old) ∧ h.IsListIter it a i) where
  mem := by simp
  obj := fun i h st c hc => by
    obtain ⟨⟨old, s1⟩, ⟨o2, s2, _, q2⟩⟩ := st
    simp only [List.mem_cons, List.not_mem_nil, or_false] at hc
    rcases hc with rfl | rfl
    · exact ⟨_, s1, fun v => by intro q; cases q⟩
    · exact ⟨_, s2, fun v => by intro q; rw [q2] at q; cases q⟩
  keep := fun i h h' st kp => by
    obtain ⟨⟨old, s1⟩, ⟨o2, s2, r2⟩⟩ := st
    exact ⟨⟨old, kp e (by simp) _ s1⟩, ⟨o2, kp it (by simp) _ s2, r2⟩⟩
  item := by
    intro X hP hw hK hc i pins s σ H E I hf st hg
    subst hP hw hK
    obtain ⟨xs, ha, l1⟩ := hg
    obtain ⟨⟨old, s1⟩, s2⟩ := st
    have nf : ∀ {c : Addr} {o : HO}, H c = some o → ∀ b ∈ [e, it], c ≠ b := fun hcc b hb q => by rw [q, (hf b hb).1] at hcc; cases hcc
    obtain ⟨its, r1, t1, _⟩ := I.list (SqL.of ha)
    have hh : X.A.in1.handled = none := I.ok.hd hc
    have e1 : its.toArray.size = xs.length := by rw [List.size_toArray, ← r1.length]
    have nef : e ∉ [it, a] := by
      simp only [List.mem_cons, List.not_mem_nil, or_false, not_or]
      exact ⟨d1, (nf ha e (by simp)).symm⟩
    refine wpAny_pyNext_enum_itemD (draws_two (Draws.list hh it a (nf ha it (by simp)) its.toArray)) s1 ⟨i, rfl, s2, t1.isList⟩ (by omega) d1 nef fun x h' tk px z1 z2 z3 z4 kp => ⟨_, rfl, ?_⟩
    have px : its[i]? = some x := by simpa using px
    obtain ⟨j2, e2, z2⟩ := z2
    obtain rfl : j2 = i + 1 := by omega
    obtain ⟨vx, hx⟩ : ∃ v, xs[i]? = some v := ⟨xs[i], by simp [l1]⟩
    obtain ⟨x', q1, rx⟩ := r1.get hx
    rw [px] at q1; cases q1
    refine wpAny_letOwnedTupleGo_enum z1 fun g2 zz hs => ?_
    have fr : H s.heap.objs.size = none := I.hok.fresh (Nat.le_refl _)
    have I1 : Inv X pins σ H { s with heap := g2, toks := tk + 1 } := I.turnedL (l := [e, it]) (t' := tk + 1) (fun c o hc e => by
      simp only [List.mem_cons, List.not_mem_nil, or_false, not_or] at hc
      exact hs.extBut _ _ hc.1 (kp c o hc.1 hc.2 e)) fun c hc => hf c hc
    have fp := I.fpOk (H' := H) (Nat.le_refl _) fr
    have nz : ∀ b ∈ [e, it], b ≠ s.heap.objs.size := fun b hb q => by
      obtain ⟨o, ho⟩ : ∃ o, s.heap.get? b = some o := by
        obtain ⟨o2, s2, _⟩ := s2
        simp only [List.mem_cons, List.not_mem_nil, or_false] at hb
        rcases hb with rfl | rfl
        · exact ⟨_, s1⟩
        · exact ⟨_, s2⟩
      exact absurd (Heap.lt_size ho) (by rw [q]; exact Nat.lt_irrefl _)
    have at2 : g2.get? s.heap.objs.size = some { cls := .type "tuple", data := .seq #[.int ((i + 2 : Nat) : Int) tk, x] } := hs.extBut _ _ (nz e (by simp)).symm z3
    refine ⟨.ref s.heap.objs.size, upd H s.heap.objs.size (.tup [.int ((i + 2 : Nat) : Int), vx]), I1.adopt fp ⟨?_, [.int ((i + 2 : Nat) : Int) tk, x], .cons ⟨_, rfl⟩ (.cons rx .nil), ⟨_, at2, rfl, _, rfl⟩⟩, rfl, ⟨_, vx, rfl, fr, rfl, fun xs' q1 => ?_⟩,
      ⟨⟨_, zz⟩, z2.1.extBut hs.extBut d1.symm⟩, fun c hc => ?_⟩
    · show 2 ≤ sizeLine
      decide
    · rw [ha] at q1; cases q1
      exact hx
    · rw [upd_ne (nz c hc)]
      exact (hf c hc).1
  done := by
    intro X hP hw hK hc i pins s σ H E I hf st hg
    subst hP hw hK
    obtain ⟨xs, ha, hl⟩ := hg
    obtain ⟨⟨old, s1⟩, s2⟩ := st
    have nf : ∀ {c : Addr} {o : HO}, H c = some o → ∀ b ∈ [e, it], c ≠ b := fun hcc b hb q => by rw [q, (hf b hb).1] at hcc; cases hcc
    obtain ⟨its, r1, t1, _⟩ := I.list (SqL.of ha)
    have hh : X.A.in1.handled = none := I.ok.hd hc
    have e1 : its.toArray.size = i := by rw [List.size_toArray, ← r1.length, hl]
    subst e1
    refine wpAny_pyNext_enum_endD (draws_two (Draws.list hh it a (nf ha it (by simp)) its.toArray)) s1 ⟨its.toArray.size, rfl, s2, t1.isList⟩ fun h' eb => ⟨rfl, ?_⟩
    exact I.turnedL (l := [e, it]) (t' := s.toks) (fun c o hc e => by
      simp only [List.mem_cons, List.not_mem_nil, or_false, not_or] at hc
      exact eb c o hc.2 e) fun c hc => hf c hc
  self := fun _ _ _ _ _ st h => by
    obtain ⟨⟨old, s1⟩, _⟩ := st
    exact wpAny_pyIter_enum s1 h
section
variable {X : Cx} {es : List Expr} {kt : Nat} {tp : Pos}
def iEnumS (ta tk : TA) : TI := fun σ H R => ta σ H fun vs H1 => tk σ H1 fun ds H2 => ∃ a xs, vs = [.ref a] ∧ ds = [.int 2] ∧ H2 a = some (.lst xs) ∧ R (IteS a) H2
theorem callWith_tkw {M : Model} {A : Around} {E : Value → Shared → Prop} {s : Shared} {env : Env} {pos : Pos} {T : String} {e : Expr} {rest : List Expr} {kws : List Keyword} {Q : Value → Shared → Prop}
    (h : wpAny M A (spliced (backTo pos (starEach (e :: rest) env))) (fun vs s₁ => wpAny M A (evalAll ((backToKw pos (keywordEach kws env)).map (·.2)))
      (fun kvs s₂ => wpAny M A (call (.type T) vs (((backToKw pos (keywordEach kws env)).filterMap (·.1)).zip kvs)) Q E s₂) E s₁) E s)
    (he : backTo pos (starEach (e :: rest) env) = (false, eval e env) :: backTo pos (starEach rest env)) (hplain : (backTo pos (starEach (e :: rest) env)).any (·.1) = false)
    (hall : (backToKw pos (keywordEach kws env)).all (·.1.isSome) = true) (hkw : (backToKw pos (keywordEach kws env)).any (·.1.isNone) = false) :
    wpAny M A (callWith pos (.type T) [] (backTo pos (starEach (e :: rest) env)) (backToKw pos (keywordEach kws env))) Q E s := by
  have key : wpAny M A (evalArgs (.type T) true (backTo pos (starEach (e :: rest) env)) (backToKw pos (keywordEach kws env))) (fun a s₁ => wpAny M A (call (.type T) ([] ++ a.pos) a.kw) Q E s₁) E s := by
    rw [he] at h ⊢
    exact PyProof.Rows.evalArgs_kwB hall h
  unfold callWith
  refine wpAny_bind (wpAny_holding (wpAny_mono key (fun a s₁ h₁ => wpAny_bind (wpAny_standAt ?_)) fun _ _ x => x))
  simp only [hplain, hkw, Bool.or_false]
  refine wpAny_bind (wpAny_pure (wpAny_bind (wpAny_mono h₁ (fun r s₂ hr => wpAny_bind (wpAny_holding (wpAny_point (wpAny_pure hr)))) fun _ _ x => x)))
theorem pi_enumS {a d : Expr} {ta : TA} {tk : TA} {p pos kpos : Pos} (hg : Gl X "enumerate") (hm : X.mg "enumerate" = none) (ha : PA X [a] ta) (hd : PK X [⟨some (Str.ofString "start"), d, kpos⟩] tk)
    (hks : (backToKw pos (keywordEach [⟨some (Str.ofString "start"), d, kpos⟩] X.env)).filterMap (·.1) = [Str.ofString "start"] := by rfl)
    (h1 : backTo pos (starEach [a] X.env) = (false, eval a X.env) :: backTo pos (starEach [] X.env) := by rfl) (h2 : (backTo pos (starEach [a] X.env)).any (·.1) = false := by rfl)
    (h3 : (backToKw pos (keywordEach [⟨some (Str.ofString "start"), d, kpos⟩] X.env)).all (·.1.isSome) = true := by rfl) (h4 : (backToKw pos (keywordEach [⟨some (Str.ofString "start"), d, kpos⟩] X.env)).any (·.1.isNone) = false := by rfl) :
    PI X (.Tuple es kt tp) (.Call (.Name "enumerate" p) [a] [⟨some (Str.ofString "start"), d, kpos⟩] pos) (iEnumS ta tk) := by
  intro pins s σ H R I h
  refine wpAny_Call_Name_kw (ld_blt I hg hm boot_enum ?_)
  refine callWith_tkw (thn (ha pos pins s σ H _ I h) fun us s0 ⟨vs, H0, I0, r1, q1⟩ => ?_) h1 h2 h3 h4
  refine thn (hd pos pins s0 σ H0 _ I0 q1) fun ws s1 ⟨ds, H1, I1, r2, a, xs, ev, ed, ha, q⟩ => ?_
  subst ed ev
  obtain ⟨u, rfl, ru⟩ := vals1 r1
  cases ru
  obtain ⟨dv, rfl, rd⟩ := vals1 r2
  obtain ⟨tk0, rfl⟩ := rd
  rw [hks]
  obtain ⟨its, _, t1, _⟩ := I1.list (SqL.of ha)
  refine PySem.call_enum_k t1.isList ?_
  intro h' z1 z2 _ kp
  refine wpAny_pyIter_enum z1 ?_
  have I2 : Inv X pins σ H1 { s1 with heap := h' } := I1.kept (t' := s1.toks) kp
  have fr : ∀ k : Nat, H1 (s1.heap.objs.size + k) = none := fun k => I1.hok.fresh (Nat.le_add_right _ _)
  refine ⟨s1.heap.objs.size + 1, _, _, IteS a, H1, rfl, I2, turn_enumS a (s1.heap.objs.size + 1) s1.heap.objs.size (Nat.succ_ne_self _), ⟨⟨_, z1⟩, z2⟩, fun c hc => ?_, q⟩
  simp only [List.mem_cons, List.not_mem_nil, or_false] at hc
  rcases hc with rfl | rfl
  · exact I1.fpOk (Nat.le_add_right _ _) (fr 1)
  · exact I1.fpOk (Nat.le_refl _) (fr 0)
end
section
variable {K : PySem.W.Frag} {g : TG} {tc : TT} {te : TE} {σ : St} {H : Hp} {R : List V → Hp → Prop}
end
section
variable {X : Cx} {e : Expr} {pos : Pos} {te : TE}
end
section
variable {K : PySem.W.Frag} {g : TG} {tc : TT} {te : TE} {σ : St} {H : Hp} {R : List V → Hp → Prop}
theorem lc_str0 {z : Str} (Pv : Nat → List V → Hp → Prop) (h0 : Pv 0 [] H) (hl : ∀ i zs H, i ≤ z.cps.size → Pv i zs H → zs.length ≤ sizeLine) (hd : ∀ zs H, Pv z.cps.size zs H → R zs H)
    (hs : ∀ i c zs H, z.cps[i]? = some c → i < z.cps.size → Pv i zs H → g (.str ⟨#[c]⟩) σ H fun σ2 H2 => te σ2 H2 fun y H4 => ∃ m', m' < z.cps.size - i ∧ Wn z.cps.size Pv (i + 1) m' (zs ++ [y]) H4) :
    ∃ W : Nat → Nat → List V → Hp → Prop, (∃ m, W 0 m [] H) ∧ ∀ i m ys H, W i m ys H → ((Its z).stop i H ∧ ys.length ≤ sizeLine ∧ R ys H) ∨
      ((Its z).go i H ∧ ys.length ≤ sizeLine ∧ ∀ x H', (Its z).yld i H x H' → g x σ H' fun σ2 H2 => tYes σ2 H2 fun b H3 =>
        if b = true then te σ2 H3 fun y H4 => ∃ m', m' < m ∧ W (i + 1) m' (ys ++ [y]) H4 else ∃ m', m' < m ∧ W (i + 1) m' ys H3) := by
  refine lc_by (tc := tYes) z.cps.size Pv h0 (fun zs H p => ⟨Nat.le_refl _, hl _ zs H (Nat.le_refl _) p, hd zs H p⟩) (fun i zs H hi p => ⟨hi, hl i zs H (Nat.le_of_lt hi) p, fun x H' y => ?_⟩)
  obtain ⟨e, c, y1, y2⟩ := y
  subst e y2
  exact hs i c zs _ y1 hi p
end
theorem for_enumS {a : Addr} {xs : List V} {g : TG} {tb : TS} {D : Ends} {σ : St} {H : Hp} (Pv : Nat → St → Hp → Prop) (h0 : Pv 0 σ H) (hl : ∀ i σ H, i ≤ xs.length → Pv i σ H → H a = some (.lst xs))
    (hs : ∀ (i : Nat) v σ H p, xs[i]? = some v → Pv i σ H → H p = none → g (.ref p) σ (upd H p (.tup [.int ((i + 2 : Nat) : Int), v])) fun σ2 H2 => tb { D with nx := Pv (i + 1), ct := Pv (i + 1), bk := D.nx } σ2 H2) (hd : ∀ σ H, Pv xs.length σ H → D.nx σ H) :
    ∃ W : Nat → Nat → St → Hp → Prop, (∃ m, W 0 m σ H) ∧ ∀ i m σ H, W i m σ H →
      ((IteS a).stop i H ∧ D.nx σ H) ∨ ((IteS a).go i H ∧ ∃ N : St → Hp → Prop, (∀ σ' H', N σ' H' → ∃ m', m' < m ∧ W (i + 1) m' σ' H') ∧ ∀ x H', (IteS a).yld i H x H' → g x σ H' fun σ2 H2 => tb { D with nx := N, ct := N, bk := D.nx } σ2 H2) := by
  refine ⟨fun i m σ H => m = xs.length - i ∧ i ≤ xs.length ∧ Pv i σ H, ⟨xs.length, by simp, Nat.zero_le _, h0⟩, ?_⟩
  rintro i m σ H ⟨rfl, hi, p⟩
  have q := hl i σ H hi p
  by_cases hlt : i < xs.length
  · refine .inr ⟨⟨xs, q, hlt⟩, Pv (i + 1), fun σ' H' p' => ⟨xs.length - (i + 1), by omega, rfl, hlt, p'⟩, fun x H' y => ?_⟩
    obtain ⟨p', v, e1, e2, e3, y⟩ := y
    subst e1 e3
    exact hs i v σ H p' (y xs q) p e2
  · have e : i = xs.length := by omega
    subst e
    exact .inl ⟨⟨xs, q, rfl⟩, hd σ H p⟩
end L2

namespace L2
open PySem PySem.Calls PySem.Spec PyProof.Rows
section
variable {X : Cx} {e o : Expr} {es : List Expr} {te to : TE} {t : TA}
theorem mt_upper : MtR X "str.upper" (fun x vs H Q => ∃ z : Str, x = .str z ∧ vs = [] ∧ (Txt.upper z).length ≤ 1000000 ∧ Q (.str (Txt.upper z)) H) := by
  intro pins s σ H x xs v us Q I rx r h
  obtain ⟨z, rfl, rfl, hz, q⟩ := h
  obtain ⟨t, rfl⟩ := rx
  cases r
  have hl : Builtin.Str.tooLong (Txt.upper z).length = false := by
    unfold Builtin.Str.tooLong
    have := sizeLine_eq
    simp
    omega
  exact SC.upper hl ⟨.str (Txt.upper z), H, I.tok _, ⟨_, rfl⟩, q⟩
def PE1 (X : Cx) (e : Expr) (t : TE) : Prop :=
  ∀ (pins : List (Addr × Obj)) (s : Shared) (σ : St) (H : Hp) (Q : VK), Inv X pins σ H s → s.toks ≠ 0 → t σ H Q → wpAny (model X.prog X.w) X.A (eval e X.env) (EP X pins σ Q) X.xe s
def PA1 (X : Cx) (es : List Expr) (t : TA) : Prop :=
  ∀ (pos : Pos) (pins : List (Addr × Obj)) (s : Shared) (σ : St) (H : Hp) (Q : List V → Hp → Prop), Inv X pins σ H s → s.toks ≠ 0 → t σ H Q → wpAny (model X.prog X.w) X.A (spliced (backTo pos (starEach es X.env))) (AP X pins σ Q) X.xe s
theorem PE.one (h : PE X e te) : PE1 X e te := fun pins s σ H Q I _ q => h pins s σ H Q I q
theorem pa1_nil : PA1 X [] tNil := fun pos pins s σ H Q I _ q => pa_nil pos pins s σ H Q I q
theorem pa1_cons (ha : PE1 X e te) (hr : PA1 X es t) (hs : starEach (e :: es) X.env = (false, eval e X.env) :: starEach es X.env := by rfl) : PA1 X (e :: es) (tCons te t) := by
  intro pos pins s σ H Q I hk h
  rw [hs]
  show wpAny _ _ (spliced ((false, eval e X.env) :: backTo pos (starEach es X.env))) _ _ s
  refine Calls.spliced_cons (wpAny_mono (wpAny_toks (ha pins s σ H _ I hk h)) (fun u s1 ⟨le, x, H1, I1, r1, q1⟩ => ?_) fun _ _ z => z.2)
  have hk1 : s1.toks ≠ 0 := by omega
  exact thn (hr pos pins s1 σ H1 _ I1 hk1 q1) fun us s2 ⟨xs, H2, I2, r2, q2⟩ => ⟨x :: xs, H2, I2, .cons r1 r2, q2⟩
theorem pa_str1 {x : Str} {j : Nat} {p : Pos} (hr : PA1 X es t) (hs : starEach (.Constant (.str x) j p :: es) X.env = (false, eval (.Constant (.str x) j p) X.env) :: starEach es X.env := by rfl) : PA X (.Constant (.str x) j p :: es) (tCons (tC (.str x)) t) := by
  intro pos pins s σ H Q I h
  rw [hs]
  show wpAny _ _ (spliced ((false, eval (.Constant (.str x) j p) X.env) :: backTo pos (starEach es X.env))) _ _ s
  refine Calls.spliced_cons (Calls.Constant_str ?_)
  exact thn (hr pos pins _ σ H _ (I.tok _) (Nat.succ_ne_zero _) h) fun us s2 ⟨xs, H2, I2, r2, q2⟩ => ⟨.str x :: xs, H2, I2, .cons ⟨_, rfl⟩ r2, q2⟩
def tRepl (a b : Str) (to : TE) : TE := fun σ H Q => to σ H fun x H1 => ∃ z : Str, x = .str z ∧ z.length ≤ 1048576 ∧ Q (.str (Txt.replace z a b)) H1
theorem pe1_repl {a b : Str} {j1 j2 : Nat} {p1 p2 apos cpos : Pos} (ho : PE X o to) (hab : (a == b) = false) (hb : b.length ≤ 14)
    (hbase : attributeBase o "replace" X.env (eval o X.env) = eval o X.env := by rfl)
    (hfew : ((backTo cpos (starEach [.Constant (.str a) j1 p1, .Constant (.str b) j2 p2] X.env)).all (fun x => !x.1) && (backToKw cpos (keywordEach [] X.env)).all (fun x => x.1.isSome)
      && decide (([.Constant (.str a) j1 p1, .Constant (.str b) j2 p2] : List Expr).length + ([] : List Keyword).length + (if ([] : List Keyword).isEmpty then 0 else 1) < 30)) = true := by rfl)
    (hline : (apos.endLine == cpos.line) = true := by rfl)
    (hs : starEach [.Constant (.str a) j1 p1, .Constant (.str b) j2 p2] X.env = (false, eval (.Constant (.str a) j1 p1) X.env) :: starEach [.Constant (.str b) j2 p2] X.env := by rfl)
    (hs2 : starEach [.Constant (.str b) j2 p2] X.env = (false, eval (.Constant (.str b) j2 p2) X.env) :: starEach [] X.env := by rfl)
    (hplain : (backTo cpos (starEach [.Constant (.str b) j2 p2] X.env)).any (·.1) = false := by rfl) :
    PE1 X (.Call (.Attribute o "replace" apos) [.Constant (.str a) j1 p1, .Constant (.str b) j2 p2] [] cpos) (tRepl a b to) := by
  intro pins s σ H Q I hk h
  refine wpAny_Call_method_late hbase hfew hline rfl (wpAny_mono (wpAny_toks (ho pins s σ H _ I h)) (fun v s1 ⟨le, x, H1, I1, r1, z, ez, hz, q⟩ => ?_) fun _ _ z => z.2)
  subst ez
  obtain ⟨t, rfl⟩ := r1
  have hk1 : s1.toks ≠ 0 := by omega
  refine ⟨"str", "str.replace", PySem.F.plainAttrs_str, PySem.F.slot_str_replace, PySem.F.type_str_replace, typeIs_str _ _ _, (fun _ e => nomatch e), ?_⟩
  rw [hs]
  refine Calls.callWith_builtin (by show (false || (backTo cpos (starEach [.Constant (.str b) j2 p2] X.env)).any (·.1)) = false; rw [hplain] <;> rfl) (Calls.evalArgs_plain ?_)
  show wpAny _ _ (spliced ((false, eval (.Constant (.str a) j1 p1) X.env) :: backTo cpos (starEach [.Constant (.str b) j2 p2] X.env))) _ _ _
  refine Calls.spliced_cons (Calls.Constant_str ?_)
  rw [hs2]
  show wpAny _ _ (spliced ((false, eval (.Constant (.str b) j2 p2) X.env) :: backTo cpos (starEach [] X.env))) _ _ _
  refine Calls.spliced_cons (Calls.Constant_str (Calls.spliced_nil ?_))
  exact SC.replaceW hk1 (Nat.succ_ne_zero _) (Nat.ne_of_lt (Nat.lt_succ_self _)) hab hz hb fun t' k => ⟨.str (Txt.replace z a b), H1, I1.tok _, ⟨_, rfl⟩, q⟩
end
end L2

namespace L2
open PySem PySem.Spec PyProof.Rows
theorem entry_rcl : entryFor table "range.__contains__.loop" = some Builtin.«range.__contains__.loop» := entryFor_of_tree (by kernel_rfl)
theorem plain_rcl : plainId "range.__contains__.loop" = true := by decide +kernel
section
variable {P : Program} {w : World} {A : Around} {p : Addr} {a b : Int} {t u v : Tok}
theorem rng_fields {E : Value → Shared → Prop} {s : Shared} {Q : Int × Int × Int → Shared → Prop} (e : s.heap.get? p = some { cls := .type "range", data := .fields #[.int a t, .int b u, .int 1 v] }) (h : Q (a, b, 1) s) :
    wpAny (model P w) A (Builtin.Range.rangeFields (.ref p)) Q E s := by
  unfold Builtin.Range.rangeFields
  refine wpAny_bind (wpAny_field e rfl (x := .int a t) rfl ?_)
  refine wpAny_bind (wpAny_of_eq (show asInt? (.int a t) = pure (some a) from rfl) ?_)
  refine wpAny_bind (wpAny_field e rfl (x := .int b u) rfl ?_)
  refine wpAny_bind (wpAny_of_eq (show asInt? (.int b u) = pure (some b) from rfl) ?_)
  refine wpAny_bind (wpAny_field e rfl (x := .int 1 v) rfl ?_)
  refine wpAny_bind (wpAny_of_eq (show asInt? (.int 1 v) = pure (some 1) from rfl) ?_)
  exact wpAny_pure h
theorem rng_size (a b : Int) : Builtin.Range.rangeSize a b 1 = ((b - a).toNat : Int) := by
  unfold Builtin.Range.rangeSize
  rw [if_pos (by decide)]
  by_cases h : a < b
  · rw [if_pos h, Int.ediv_one]
    omega
  · rw [if_neg h]
    omega
theorem rcl_none {R : Result → Shared → Prop} : ∀ (k i : Nat) (s : Shared), s.heap.get? p = some { cls := .type "range", data := .fields #[.int a t, .int b u, .int 1 v] } → (b - a).toNat = i + k →
    (∀ tk, R (.ok (.ret (.bool false))) { s with toks := tk }) → codeAny (model P w) A (.builtin "range.__contains__.loop" ⟨[.ref p, .none, rawInt i], []⟩) R s := by
  intro k
  induction k with
  | zero =>
    intro i s e hk h
    refine codeAny_builtin entry_rcl ?_
    rw [Around.under_plainId plain_rcl _]
    show wpAny _ A.in1 (Builtin.Range.rangeFields (.ref p) >>= _) _ _ s
    refine wpAny_bind (rng_fields e ?_)
    show wpAny _ A.in1 (if ((i : Nat) : Int) ≥ Builtin.Range.rangeSize a b 1 then _ else _) _ _ s
    rw [if_pos (by rw [rng_size]; omega)]
    exact wpAny_pure (h s.toks)
  | succ k ih =>
    intro i s e hk h
    refine codeAny_builtin entry_rcl ?_
    rw [Around.under_plainId plain_rcl _]
    show wpAny _ A.in1 (Builtin.Range.rangeFields (.ref p) >>= _) _ _ s
    refine wpAny_bind (rng_fields e ?_)
    show wpAny _ A.in1 (if ((i : Nat) : Int) ≥ Builtin.Range.rangeSize a b 1 then _ else _) _ _ s
    rw [if_neg (by rw [rng_size]; omega)]
    refine wpAny_bind (wpAny_mkInt ?_)
    refine wpAny_bind (eqAt_V (y := .int (a + ((i : Nat) : Int) * 1)) (x := .non) ⟨_, rfl⟩ rfl rfl rfl P w _ _ ?_)
    show wpAny _ A.in1 (if false = true then _ else _) _ _ _
    rw [if_neg Bool.false_ne_true]
    exact wpAny_pure ⟨plainId_quiet plain_rcl _, ih (i + 1) _ e (by omega) fun tk => h tk⟩
theorem meets_rngN : Meets (Builtin.«range.__contains__» ⟨[.ref p, .none], []⟩) (fun _ R s => s.heap.get? p = some { cls := .type "range", data := .fields #[.int a t, .int b u, .int 1 v] } ∧ ∀ tk, R (.ok (.ret (.bool false))) { s with toks := tk }) := by
  intro prog w A R s ⟨e, h⟩
  show wpAny _ A.in1 (rule "range.contains.searched" >>= _) _ _ s
  refine wpAny_bind (wpAny_rule ?_)
  exact wpAny_pure ⟨plainId_quiet plain_rcl _, rcl_none _ 0 s e (Nat.zero_add _).symm h⟩
theorem rng_hasN {E : Value → Shared → Prop} {s : Shared} {Q : Value → Shared → Prop} (e : s.heap.get? p = some { cls := .type "range", data := .fields #[.int a t, .int b u, .int 1 v] }) (h : ∀ tk, Q (.bool false) { s with toks := tk }) :
    wpAny (model P w) A (call (.builtin "range.__contains__") [.ref p, .none]) Q E s :=
  call_meets F.slot_range_contains ⟨_, e, rfl⟩ F.entry_range_contains (F.args_range_contains_2 _ _) meets_rngN ⟨e, h⟩
end
section
variable {X : Cx}
def inRV (a b : Int) : V → Bool
  | .int i => decide (a ≤ i) && decide (i < b)
  | _ => false
def rNotInRngN : R2 := fun x y H Q => ∃ (a b : Int) (p : Addr), (x = .non ∨ ∃ i, x = .int i) ∧ y = .ref p ∧ H p = some (.rng a b) ∧ Q (.bl (!(inRV a b x))) H
theorem op_notInRngN : OpR X (compareOp .NotIn) rNotInRngN := by
  intro pins s σ H x y v u Q I rx ry h
  obtain ⟨a, b, p, hx, rfl, hp, q⟩ := h
  cases ry
  obtain ⟨t1, t2, t3, e⟩ := (show ObjOk X.prog X.w H s.heap p (.rng a b) from I.hok p _ hp)
  rcases hx with rfl | ⟨i, rfl⟩
  · cases rx
    refine NotIn_slot (T := "range") ⟨_, e, rfl⟩ F.slot_range_contains (rng_hasN e fun tk => wpAny_truthy_bool ?_)
    exact ⟨.bl _, H, I.tok _, rfl, q⟩
  · obtain ⟨t, rfl⟩ := rx
    refine NotIn_slot (T := "range") ⟨_, e, rfl⟩ F.slot_range_contains (rng_has e (wpAny_truthy_bool ?_))
    exact ⟨.bl _, H, I, rfl, q⟩
def strRep (z : Str) (n : Int) : Str := ⟨(List.replicate n.toNat z.cps).foldl (· ++ ·) #[]⟩
theorem op_mulStr : OpR X (binaryOp .Mult) (fun x y H Q => ∃ (z : Str) (n : Int), x = .str z ∧ y = .int n ∧ 2 ≤ n ∧ n ≤ 1000 ∧ 1 ≤ z.length ∧ z.length ≤ 1000 ∧ (strRep z n).length ≤ sizeLine ∧ Q (.str (strRep z n)) H) := by
  intro pins s σ H x y v u Q I rx ry h
  obtain ⟨z, n, rfl, rfl, h1, h2, h3, h4, h5, q⟩ := h
  obtain ⟨t, rfl⟩ := rx
  obtain ⟨t', rfl⟩ := ry
  have c1 : (n == 1 || z.length == 0) = false := by
    rw [Bool.or_eq_false_iff]
    exact ⟨by simp; omega, by simp; omega⟩
  refine PySem.P.mul_str ?_ (fun _ _ => ?_) (fun _ _ => ?_) ?_
  · rw [Bool.or_eq_false_iff]
    exact ⟨decide_eq_false (by omega), decide_eq_false (by omega)⟩
  · have : (z.length : Int) * n ≤ 1000 * 1000 := Int.mul_le_mul (by omega) h2 (by omega) (by omega)
    have k : (z.length : Int) ≤ (2 ^ 63 - 1) / n := (Int.le_ediv_iff_mul_le (by omega)).mpr (by omega)
    omega
  · have : z.length * n.toNat ≤ 1000 * 1000 := Nat.mul_le_mul h4 (by omega)
    unfold Builtin.Str.tooLong
    have := sizeLine_eq
    simp
    omega
  · rw [if_neg (by omega), c1, if_neg Bool.false_ne_true]
    exact ⟨h5, .str (strRep z n), H, I.tok _, ⟨_, rfl⟩, q⟩
end
end L2

namespace L2
open PySem PySem.Spec PyProof.Rows
section
open PySem.SeqAt
open PySem.AutoSeq1 (wpAny_loadPart')
open PySem.MeetsSeq PySem.MeetsSeq2 PySem.MeetsSeq3
def leP (a b c d : Int) : Bool := if a = c then decide (b ≤ d) else decide (a ≤ c)
theorem rcLe_int (A : Around) (s : Shared) (a : Int) (t : Tok) (c : Int) (u : Tok) (prog : Program) (w : World) (E : Value → Shared → Prop) (Q : Value → Shared → Prop) (h : Q (.bool (decide (a ≤ c))) s) :
    wpAny (model prog w) A (richCompare .LtE (.int a t) (.int c u)) Q E s :=
  (PyProof.Rows.le_int h : wpAny (model prog w) A (compareOp .LtE (.int a t) (.int c u)) Q E s)
theorem tuple_le_two (l r : Addr) (a b c d : Int) (t1 t2 t3 t4 : Tok) (n n2 : Nat) (dd dd2 : Option Addr) (sl sl2 : Array (Option Value)) :
    Meets (Builtin.«tuple.__le__» ⟨[.ref l, .ref r], []⟩)
      (fun _ R s => s.heap.get? l = some { cls := .type "tuple", dict := dd, data := .seq #[.int a t1, .int b t2] n, slots := sl } ∧ s.heap.get? r = some { cls := .type "tuple", dict := dd2, data := .seq #[.int c t3, .int d t4] n2, slots := sl2 } ∧
        R (.ok (.ret (.bool (leP a b c d)))) s) :=
  .of_wp fun prog w A R s h => by
    obtain ⟨hp, g, dr, tk, os⟩ := s; obtain ⟨hl, hb, h⟩ := h
    have f2 := AutoSeq1.sub_tuple_tuple
    wp_walk using wpAny_loadPart' hl, wpAny_loadPart' hb, wpAny_forIn_list _ (fun rest st s' => st.1 = none ∧ s' = ⟨hp, g, dr, tk, os⟩ ∧
      (rest = [(.int a t1, .int c t3), (.int b t2, .int d t4)] ∨ (a = c ∧ rest = [(.int b t2, .int d t4)]) ∨ (a = c ∧ b = d ∧ rest = []))) _
    case turn =>
      rintro ⟨y, x⟩ rest st s' ⟨hb', rfl, hR⟩
      rcases hR with e | ⟨e0, e⟩ | ⟨_, _, e⟩
      · injection e with e1 e2
        injection e1 with e1 e3
        subst e1 e3
        obtain ⟨q, he, hiff⟩ := HT.eqAt_int A.in1 ⟨hp, g, dr, tk, os⟩ a t1 c t3
        refine wpAny_bind (he prog w _ _ ?_)
        cases q with
        | true =>
          have hac := hiff.mp rfl
          wp_walk
          exact ⟨rfl, rfl, .inr (.inl ⟨hac, e2⟩)⟩
        | false =>
          have hac : ¬ a = c := fun z => absurd (hiff.mpr z) Bool.false_ne_true
          have hri := rcLe_int A.in1 ⟨hp, g, dr, tk, os⟩ a t1 c t3 prog w
          unfold leP at h
          rw [if_neg hac] at h
          wp_walk using hri
          exact ⟨_, rfl, by simpa using h⟩
      · injection e with e1 e2
        injection e1 with e1 e3
        subst e1 e3
        obtain ⟨q, he, hiff⟩ := HT.eqAt_int A.in1 ⟨hp, g, dr, tk, os⟩ b t2 d t4
        refine wpAny_bind (he prog w _ _ ?_)
        unfold leP at h
        rw [if_pos e0] at h
        cases q with
        | true =>
          have hac := hiff.mp rfl
          wp_walk
          exact ⟨rfl, rfl, .inr (.inr ⟨e0, hac, e2⟩)⟩
        | false =>
          have hri := rcLe_int A.in1 ⟨hp, g, dr, tk, os⟩ b t2 d t4 prog w
          wp_walk using hri
          exact ⟨_, rfl, by simpa using h⟩
      · cases e
    case fin =>
      rintro ⟨b1, b2⟩ s' ⟨hb', rfl, hR⟩
      simp only at hb'
      subst hb'
      rcases hR with e | ⟨e0, e⟩ | ⟨e0, e1, e⟩
      · cases e
      · cases e
      · unfold leP at h
        rw [if_pos e0, decide_eq_true (by omega)] at h
        wp_walk
        exact ⟨_, rfl, by simpa [Builtin.Tuple.tupleCompareSizes] using h⟩
    case h =>
      exact ⟨rfl, rfl, .inl rfl⟩
end
section
variable {X : Cx}
def rLeP (K : PySem.W.Frag) : R2 := fun x y H Q => ∃ (p q : Addr) (a b c d : Int), x = .ref p ∧ y = .ref q ∧ SqT K H p [.int a, .int b] ∧ SqT K H q [.int c, .int d] ∧ Q (.bl (leP a b c d)) H
theorem op_leP (hu : X.A.units < cLine) : OpR X (compareOp .LtE) (rLeP X.K) := by
  intro pins s σ H x y v u Q I rx ry h
  obtain ⟨p, q, a, b, c, d, rfl, rfl, ha, hb, k⟩ := h
  cases rx
  cases ry
  obtain ⟨its, r1, p1, _⟩ := I.tuple ha
  obtain ⟨its2, r2, p2, _⟩ := I.tuple hb
  cases r1 with
  | cons z1 r1 =>
    obtain ⟨w1, rfl, z2⟩ := vals1 r1
    obtain ⟨t1, rfl⟩ := z1
    obtain ⟨t2, rfl⟩ := z2
    cases r2 with
    | cons z3 r2 =>
      obtain ⟨w2, rfl, z4⟩ := vals1 r2
      obtain ⟨t3, rfl⟩ := z3
      obtain ⟨t4, rfl⟩ := z4
      obtain ⟨⟨cls, dd, data, sl⟩, ho, hc, n, hd⟩ := p1
      obtain ⟨⟨cls2, dd2, data2, sl2⟩, ho2, hc2, n2, hd2⟩ := p2
      simp only at hc hd hc2 hd2
      subst hc hd hc2 hd2
      exact richCompare_meets_room (op := .LtE) ⟨_, ho, rfl⟩ ⟨_, ho2, rfl⟩ PySem.F.slot_tuple_le PySem.F.entry_tuple_le (PySem.F.args_tuple_le_2 _ _) (tuple_le_two p q a b c d t1 t2 t3 t4 n n2 dd dd2 sl sl2)
        ⟨ho, ho2, show Value.bool (leP a b c d) ≠ Value.notImplemented ∧ EP X pins σ Q (.bool (leP a b c d)) s from ⟨(fun x => nomatch x), .bl (leP a b c d), H, I, rfl, k⟩⟩ hu
end
end L2

namespace Hk
open PySem L2
def top (i : Nat) : Stmt := PySem.Challenge.pw_holdsets_k71_texts_that_write_none.main.body.getD i (.Pass ⟨0, 0, 0, 0⟩)
def inCls (s : Stmt) (i : Nat) : Stmt := match s with
  | .ClassDef _ _ _ b _ _ _ _ _ _ _ => b.getD i (.Pass ⟨0, 0, 0, 0⟩)
  | _ => .Pass ⟨0, 0, 0, 0⟩
abbrev s_WebError_init : Stmt := inCls (top 1) 0
abbrev s_NoText_init : Stmt := inCls (top 9) 0
abbrev s_whole_good : Stmt := top 14
abbrev s_place_good : Stmt := top 15
abbrev s_rises : Stmt := top 16
abbrev s_pair_good : Stmt := top 17
abbrev s_many_good : Stmt := top 18
abbrev s_number_read : Stmt := top 22
abbrev s_row_read : Stmt := top 23
abbrev s_many_told : Stmt := top 24
abbrev s_arrow_told : Stmt := top 25
abbrev s_web_read : Stmt := top 26
abbrev s_law_cell_at : Stmt := top 28
abbrev s_law_next : Stmt := top 29
abbrev s_law_pen_of : Stmt := top 30
abbrev s_law_draw : Stmt := top 31
abbrev s_law_whole : Stmt := top 32
abbrev s_law_kind_of : Stmt := top 33
abbrev s_law_web_by : Stmt := top 34
abbrev s_law_text_of : Stmt := top 35
abbrev s_law_value : Stmt := top 36
abbrev s_law_told : Stmt := top 37
abbrev s_law_due : Stmt := top 38
abbrev s_law_odd_row : Stmt := top 39
abbrev s_law_spoilt_of : Stmt := top 40
abbrev s_law : Stmt := top 41
end Hk

namespace Hk
open PySem L2 PySem.W
section
variable {P : Program} {w : World} {K : Frag} {mg : Str → Option Value} {base : Heap}
structure FunD (K : Frag) (x qual : Str) (st : Stmt) (f : Addr) (fd : FuncData) : Prop where
  ex : ∃ (oc : Value) (od : Option Addr) (dV kV doc pm : Value) (an : Option Addr) (cdv ct : Value) (osl : Array (Option Value)),
    fd = fnOf x qual (defArgs st) (defBody st) (defScope st) dV kV doc pm an cdv ct ∧ K.lookup f = some ⟨oc, od, .func fd, osl⟩ ∧ codeIn K cdv qual = true
theorem FunD.ok {x qual : Str} {st : Stmt} {f : Addr} {fd : FuncData} {N ps : List Str} {k : Nat} {sp : Sp} (F : FunD K x qual st f fd) (S : FnScope N ps (defScope st)) (len : ∀ vs H Q E, sp vs H Q E → vs.length = ps.length)
    (hbody : ∀ (cdv : Value) (A : Around) (outer : List Env) (s : Shared) (H : Hp) (vs : List V) (Q : VK) (E : XK), Room k (A.deeper (PyProof.Rows.envOfC qual (defScope st) s.heap.objs.size f cdv)) → sp vs H Q E →
      ∃ t, PSs (cxOf CX0 P w K mg base N qual (defScope st) f cdv A outer s H E).nox (defBody st) t ∧ t { nx := fun _ H' => Q .non H', rt := Q } (start N vs) H) : FnOk P w K mg base CX0 (k + 1) f fd ps sp := by
  obtain ⟨oc, od, dV, kV, doc, pm, an, cdv, ct, osl, rfl, lk, hcd⟩ := F.ex
  refine fn_of lk hcd S len fun A outer s H vs Q E hr hsp => ?_
  obtain ⟨t, h, q⟩ := hbody cdv A outer s H vs Q E hr hsp
  exact ⟨t, h.nox, q⟩
def spInitW (K : Frag) : Sp := fun vs H Q _ => ∃ C bm y wd, vs = [.ref y, wd] ∧ XIn K C bm ∧ H y = some (isX C y) ∧ Q .non H
theorem ok_initW {f : Addr} {fd : FuncData} (F : FunD K "__init__" "WebError.__init__" s_WebError_init f fd) (fr : Free mg ["ValueError"]) : FnOk P w K mg base CX0 1 f fd ["self", "words"] (spInitW K) := by
  have sc : FnScope ["self", "words"] ["self", "words"] (defScope s_WebError_init) := ⟨rfl, rfl, rfl, by decide +kernel, rfl, by decide +kernel, by decide +kernel⟩
  refine F.ok (N := ["self", "words"]) sc (fun vs H Q E h => ?_) (fun cdv A outer s H vs Q E hr h => ?_)
  · obtain ⟨C, bm, y, wd, rfl, _⟩ := h
    rfl
  · obtain ⟨C, bm, y, wd, rfl, hC, hy, q⟩ := h
    have m1 := fr "ValueError" (by simp)
    refine ⟨_, pss_one (ps_expr (pe_vinit rfl m1 hC (pa_cons (pv 0) (pa_cons (pv 1) pa_nil)))), ?_⟩
    exact ⟨_, rfl, _, rfl, y, [wd], rfl, (by show 1 ≤ 1000; decide), hy, q⟩
end
end Hk

namespace Hk
open PySem L2 PySem.W
section
variable {P : Program} {w : World} {K : Frag} {mg : Str → Option Value} {base : Heap}
structure Kinds (mg : Str → Option Value) (c0 c1 c2 c3 c4 c5 c6 c7 c8 : Addr) : Prop where
  m0 : mg "NoPlace" = some (.ref c0)
  m1 : mg "NoHold" = some (.ref c1)
  m2 : mg "NoArrow" = some (.ref c2)
  m3 : mg "NoNumber" = some (.ref c3)
  m4 : mg "NoRow" = some (.ref c4)
  m5 : mg "NoWeb" = some (.ref c5)
  m6 : mg "Ringed" = some (.ref c6)
  m7 : mg "NoText" = some (.ref c7)
  m8 : mg "TooGreat" = some (.ref c8)
structure KindOf (K : Frag) (C c0 c1 c2 c3 c4 c5 c6 c7 c8 : Addr) (j : Nat) : Prop where
  xi : XIs K C
  v : kitOne K (.ref C) (.type "ValueError") = some true
  k0 : kitOne K (.ref C) (.ref c0) = some (decide (j = 0))
  k1 : kitOne K (.ref C) (.ref c1) = some (decide (j = 1))
  k2 : kitOne K (.ref C) (.ref c2) = some (decide (j = 2))
  k3 : kitOne K (.ref C) (.ref c3) = some (decide (j = 3))
  k4 : kitOne K (.ref C) (.ref c4) = some (decide (j = 4))
  k5 : kitOne K (.ref C) (.ref c5) = some (decide (j = 5))
  k6 : kitOne K (.ref C) (.ref c6) = some (decide (j = 6))
  k7 : kitOne K (.ref C) (.ref c7) = some (decide (j = 7))
  k8 : kitOne K (.ref C) (.ref c8) = some (decide (j = 8))
def kindWords : List Str := ["place", "hold", "arrow", "number", "row", "web", "ringed", "text", "great"]
def spKind (K : Frag) (c0 c1 c2 c3 c4 c5 c6 c7 c8 : Addr) : Sp := fun vs H Q _ => ∃ (y C : Addr) (j : Nat), vs = [.ref y] ∧ (∃ dct, H y = some (isL C y dct)) ∧ KindOf K C c0 c1 c2 c3 c4 c5 c6 c7 c8 j ∧ j < 9 ∧ ∀ H', Same H H' → Q (.str (kindWords.getD j "")) H'
theorem knH_kind {c0 c1 c2 c3 c4 c5 c6 c7 c8 : Addr} (D : DefAt K mg "_law_kind_of" s_law_kind_of ["e"]) (fr : Free mg ["isinstance", "ValueError"]) (M : Kinds mg c0 c1 c2 c3 c4 c5 c6 c7 c8) : KnH P w K mg base 1 "_law_kind_of" ["e"] (spKind K c0 c1 c2 c3 c4 c5 c6 c7 c8) := by
  have sc : FnScope ["e", "marks", "words"] ["e"] (defScope s_law_kind_of) := ⟨rfl, rfl, rfl, by decide +kernel, rfl, by decide +kernel, by decide +kernel⟩
  refine D.knH (N := ["e", "marks", "words"]) sc (fun vs H Q E h => ?_) (fun f cdv A outer s H vs Q hr h => ?_)
  · obtain ⟨y, C, j, rfl, _⟩ := h
    rfl
  · obtain ⟨y, C, j, rfl, ⟨dct, hy⟩, F, hj, k⟩ := h
    have m1 := fr "isinstance" (by simp)
    have m2 := fr "ValueError" (by simp)
    have b4 : 4 ≤ sizeLine := by decide
    have b9 : 9 ≤ sizeLine := by decide
    refine ⟨_, pss_cons (ps_set (i := 1) sc.nd rfl (Or.inl rfl) (pe_lst (pa_cons (pe_callB call_isx rfl m1 boot_isi (pa_cons (pv 0) (pa_cons (pe_glob (v := .ref c0) rfl M.m0 rfl) pa_nil))) (pa_cons (pe_callB call_isx rfl m1 boot_isi (pa_cons (pv 0) (pa_cons (pe_glob (v := .ref c1) rfl M.m1 rfl) pa_nil))) (pa_cons (pe_callB call_isx rfl m1 boot_isi (pa_cons (pv 0) (pa_cons (pe_glob (v := .ref c2) rfl M.m2 rfl) pa_nil))) (pa_cons (pe_callB call_isx rfl m1 boot_isi (pa_cons (pv 0) (pa_cons (pe_glob (v := .ref c3) rfl M.m3 rfl) pa_nil))) pa_nil))))))
      (pss_cons (ps_set (i := 1) sc.nd rfl (Or.inl rfl) (pe_op op_cat (pv 1) (pe_lst (pa_cons (pe_callB call_isx rfl m1 boot_isi (pa_cons (pv 0) (pa_cons (pe_glob (v := .ref c4) rfl M.m4 rfl) pa_nil))) (pa_cons (pe_callB call_isx rfl m1 boot_isi (pa_cons (pv 0) (pa_cons (pe_glob (v := .ref c5) rfl M.m5 rfl) pa_nil))) (pa_cons (pe_callB call_isx rfl m1 boot_isi (pa_cons (pv 0) (pa_cons (pe_glob (v := .ref c6) rfl M.m6 rfl) pa_nil))) (pa_cons (pe_callB call_isx rfl m1 boot_isi (pa_cons (pv 0) (pa_cons (pe_glob (v := .ref c7) rfl M.m7 rfl) pa_nil))) pa_nil)))))))
      (pss_cons (ps_expr (pe_bm PySem.F.plainAttrs_list PySem.F.slot_list_append PySem.F.type_list_append mt_append (pv 1) (pa_cons (pe_callB call_isx rfl m1 boot_isi (pa_cons (pv 0) (pa_cons (pe_glob (v := .ref c8) rfl M.m8 rfl) pa_nil))) pa_nil)))
      (pss_cons (ps_if (PW.pt (pw_or (pt_not (pt_call (pe_callB call_isxT rfl m1 boot_isi (pa_cons (pv 0) (pa_cons (pe_bltn (v := .ty "ValueError") rfl m2 boot_VE rfl) pa_nil))))) (pw_or1 (pt_cmpR op_ne (pe_bm PySem.F.plainAttrs_list PySem.F.slot_list_count PySem.F.type_list_count mt_countB (pv 1) (pa_cons pe_bl pa_nil)) pe_int (nomark _))))) (pss_one (ps_ret pe_str)) pss_nil)
      (pss_cons (ps_set (i := 2) sc.nd rfl (Or.inl rfl) (pe_lst (pa_cons pe_str (pa_cons pe_str (pa_cons pe_str (pa_cons pe_str (pa_cons pe_str (pa_cons pe_str (pa_cons pe_str (pa_cons pe_str (pa_cons pe_str pa_nil)))))))))))
      (pss_one (ps_ret (pe_ix ix_list (pv 2) (pe_bm PySem.F.plainAttrs_list PySem.F.slot_list_index PySem.F.type_list_index mt_indexB (pv 1) (pa_cons pe_bl pa_nil)) (fun _ _ => rfl)))))))), ?_⟩
    refine ⟨_, rfl, y, C, _, _, rfl, ⟨dct, hy⟩, F.xi, ⟨c0, rfl, F.k0⟩, _, rfl, y, C, _, _, rfl, ⟨dct, hy⟩, F.xi, ⟨c1, rfl, F.k1⟩, _, rfl, y, C, _, _, rfl, ⟨dct, hy⟩, F.xi, ⟨c2, rfl, F.k2⟩, _, rfl, y, C, _, _, rfl, ⟨dct, hy⟩, F.xi, ⟨c3, rfl, F.k3⟩, b4, fun l1 hl1 => ?_⟩
    have s1 := Same.upd (o := .lst [.bl (decide (j = 0)), .bl (decide (j = 1)), .bl (decide (j = 2)), .bl (decide (j = 3))]) hl1
    have hy1 := s1 _ _ hy
    refine ⟨_, rfl, _, rfl, y, C, _, _, rfl, ⟨dct, hy1⟩, F.xi, ⟨c4, rfl, F.k4⟩, _, rfl, y, C, _, _, rfl, ⟨dct, hy1⟩, F.xi, ⟨c5, rfl, F.k5⟩, _, rfl, y, C, _, _, rfl, ⟨dct, hy1⟩, F.xi, ⟨c6, rfl, F.k6⟩, _, rfl, y, C, _, _, rfl, ⟨dct, hy1⟩, F.xi, ⟨c7, rfl, F.k7⟩, b4, fun l2 hl2 => ?_⟩
    have s2 := s1.trans (Same.upd (o := .lst [.bl (decide (j = 4)), .bl (decide (j = 5)), .bl (decide (j = 6)), .bl (decide (j = 7))]) hl2)
    refine ⟨l1, l2, _, _, rfl, rfl, Same.upd hl2 _ _ upd_same, upd_same, (by show 8 ≤ sizeLine; decide), fun l3 hl3 => ?_⟩
    have s3 := s2.trans (Same.upd (o := .lst ([.bl (decide (j = 0)), .bl (decide (j = 1)), .bl (decide (j = 2)), .bl (decide (j = 3))] ++ [.bl (decide (j = 4)), .bl (decide (j = 5)), .bl (decide (j = 6)), .bl (decide (j = 7))])) hl3)
    refine ⟨_, rfl, .inl ⟨rfl, _, SqL.of upd_same⟩, _, rfl, y, C, _, _, rfl, ⟨dct, s3 _ _ hy⟩, F.xi, ⟨c8, rfl, F.k8⟩, l3, _, _, rfl, rfl, upd_same, (by show 8 < sizeLine; decide), ?_⟩
    have n3 : H l3 = none := by
      cases e : H l3 with
      | none => rfl
      | some o =>
        rw [s2 _ _ e] at hl3
        cases hl3
    have s4 : Same H (upd (upd (upd (upd H l1 (.lst [.bl (decide (j = 0)), .bl (decide (j = 1)), .bl (decide (j = 2)), .bl (decide (j = 3))])) l2 (.lst [.bl (decide (j = 4)), .bl (decide (j = 5)), .bl (decide (j = 6)), .bl (decide (j = 7))])) l3 (.lst ([.bl (decide (j = 0)), .bl (decide (j = 1)), .bl (decide (j = 2)), .bl (decide (j = 3))] ++ [.bl (decide (j = 4)), .bl (decide (j = 5)), .bl (decide (j = 6)), .bl (decide (j = 7))]))) l3 (.lst (([.bl (decide (j = 0)), .bl (decide (j = 1)), .bl (decide (j = 2)), .bl (decide (j = 3))] ++ [.bl (decide (j = 4)), .bl (decide (j = 5)), .bl (decide (j = 6)), .bl (decide (j = 7))]) ++ [.bl (decide (j = 8))]))) := fun b o e => by
      rw [upd_ne (ne_of_none e n3)]
      exact s3 _ _ e
    have hl4 : (upd (upd (upd (upd H l1 (.lst [.bl (decide (j = 0)), .bl (decide (j = 1)), .bl (decide (j = 2)), .bl (decide (j = 3))])) l2 (.lst [.bl (decide (j = 4)), .bl (decide (j = 5)), .bl (decide (j = 6)), .bl (decide (j = 7))])) l3 (.lst ([.bl (decide (j = 0)), .bl (decide (j = 1)), .bl (decide (j = 2)), .bl (decide (j = 3))] ++ [.bl (decide (j = 4)), .bl (decide (j = 5)), .bl (decide (j = 6)), .bl (decide (j = 7))]))) l3 (.lst (([.bl (decide (j = 0)), .bl (decide (j = 1)), .bl (decide (j = 2)), .bl (decide (j = 3))] ++ [.bl (decide (j = 4)), .bl (decide (j = 5)), .bl (decide (j = 6)), .bl (decide (j = 7))]) ++ [.bl (decide (j = 8))]))) l3 = some (.lst (((List.range 9).map fun i => decide (j = i)).map V.bl)) := upd_same
    generalize upd (upd (upd (upd H l1 _) l2 _) l3 _) l3 _ = H4 at s4 hl4
    refine ⟨_, rfl, y, C, "ValueError", true, rfl, ⟨dct, s4 _ _ hy⟩, F.xi, F.v, _, rfl, iteF ?_⟩
    have cnt : ((List.range 9).map fun i => decide (j = i)).count true = 1 := by
      have : j = 0 ∨ j = 1 ∨ j = 2 ∨ j = 3 ∨ j = 4 ∨ j = 5 ∨ j = 6 ∨ j = 7 ∨ j = 8 := by omega
      rcases this with rfl | rfl | rfl | rfl | rfl | rfl | rfl | rfl | rfl <;> rfl
    refine ⟨_, rfl, .inl ⟨rfl, _, SqL.of hl4⟩, l3, _, true, rfl, rfl, hl4, rfl, _, rfl, ?_⟩
    rw [cnt]
    refine iteF ⟨b9, fun l5 hl5 => ?_⟩
    have s5 := s4.trans (Same.upd (o := .lst [.str "place", .str "hold", .str "arrow", .str "number", .str "row", .str "web", .str "ringed", .str "text", .str "great"]) hl5)
    have hl45 := Same.upd (o := .lst [.str "place", .str "hold", .str "arrow", .str "number", .str "row", .str "web", .str "ringed", .str "text", .str "great"]) hl5 _ _ hl4
    have jl : ((List.range 9).map fun i => decide (j = i))[j]? = some true := by
      rw [List.getElem?_map, List.getElem?_range hj]
      simp
    have jn : ∀ i, i < j → ((List.range 9).map fun i => decide (j = i))[i]? = some (!true) := fun i hi => by
      rw [List.getElem?_map, List.getElem?_range (by omega)]
      have : ¬ j = i := by omega
      simp [this]
    refine ⟨_, rfl, _, rfl, .inl ⟨rfl, _, SqL.of hl45⟩, l3, _, true, j, rfl, rfl, hl45, jl, jn, by omega, ?_⟩
    refine ⟨l5, _, (j : Int), .str (kindWords.getD j ""), rfl, rfl, SqL.of upd_same, atI_nat ?_, k _ s5⟩
    have : j = 0 ∨ j = 1 ∨ j = 2 ∨ j = 3 ∨ j = 4 ∨ j = 5 ∨ j = 6 ∨ j = 7 ∨ j = 8 := by omega
    rcases this with rfl | rfl | rfl | rfl | rfl | rfl | rfl | rfl | rfl <;> rfl
end
end Hk

namespace Hk
open PySem L2
section
variable {P : Program} {w : World} {K : PySem.W.Frag} {mg : Str → Option Value} {base : Heap}
def spCell (K : PySem.W.Frag) : Sp := fun vs H Q _ => ∃ (a : Addr) (ns : List Int) (k : Nat), vs = [.ref a, .int k] ∧ SqL K H a (ns.map V.int) ∧ ∀ n : Int, Q (.int n) H
theorem kn_cell (D : DefAt K mg "_law_cell_at" s_law_cell_at ["script", "k"]) (fr : Free mg ["len"]) : Kn P w K mg base 1 "_law_cell_at" ["script", "k"] (spCell K) := by
  have sc : FnScope ["script", "k"] ["script", "k"] (defScope s_law_cell_at) := ⟨rfl, rfl, rfl, by decide +kernel, rfl, by decide +kernel, by decide +kernel⟩
  refine D.kn (N := ["script", "k"]) sc (fun vs H Q E h => ?_) (fun f cdv A outer s H vs Q E hr h => ?_)
  · obtain ⟨a, ns, k, rfl, _⟩ := h
    rfl
  · obtain ⟨a, ns, k, rfl, hq, kk⟩ := h
    have m1 := fr "len" (by simp)
    refine ⟨_, pss_cons (ps_if (pt_cmpR op_lt (pv 1) (pe_callB call_len_seq rfl m1 PySem.boot_len (pa_cons (pv 0) pa_nil)) (nomark _)) (pss_one (ps_ret (pe_ix ix_list (pv 0) (pv 1) (fun _ _ => rfl)))) pss_nil) (pss_one (ps_ret pe_int)), ?_⟩
    refine ⟨_, rfl, _, rfl, a, _, rfl, .inl hq, _, _, rfl, rfl, _, rfl, ite2 (fun h1 => ?_) (fun h1 => ?_)⟩
    · have h2 : k < ns.length := by
        have := of_decide_eq_true h1
        rw [List.length_map] at this
        omega
      exact ⟨_, rfl, _, rfl, a, _, _, V.int ns[k], rfl, rfl, hq, atI_nat (by simp [h2]), kk _⟩
    · exact kk 0
def spNext : Sp := fun vs H Q _ => ∃ n : Int, vs = [.int n] ∧ ∀ r : Int, Q (.int r) H
theorem kn_next (D : DefAt K mg "_law_next" s_law_next ["seed"]) : Kn P w K mg base 1 "_law_next" ["seed"] spNext := by
  have sc : FnScope ["seed"] ["seed"] (defScope s_law_next) := ⟨rfl, rfl, rfl, by decide +kernel, rfl, by decide +kernel, by decide +kernel⟩
  refine D.kn (N := ["seed"]) sc (fun vs H Q E h => ?_) (fun f cdv A outer s H vs Q E hr h => ?_)
  · obtain ⟨n, rfl, _⟩ := h
    rfl
  · obtain ⟨n, rfl, kk⟩ := h
    refine ⟨_, pss_cons (ps_set (i := 0) sc.nd rfl (Or.inl rfl) (pe_op op_mod (pe_op op_add (pv 0) pe_int) pe_int))
      (pss_one (ps_ret (pe_op op_mod (pe_op op_add (pe_op op_add (pe_op op_mul (pv 0) (pv 0)) (pe_op op_mul pe_int (pv 0))) pe_int) pe_int))), ?_⟩
    refine ⟨_, rfl, _, _, rfl, rfl, _, _, rfl, rfl, (by show (0 : Int) < 2147483647; decide), ?_⟩
    have b1 : 0 ≤ (n + 7919) % 2147483647 := Int.emod_nonneg _ (by decide)
    have b2 : (n + 7919) % 2147483647 < 2147483647 := Int.emod_lt_of_pos _ (by decide)
    refine ⟨_, rfl, _, rfl, _, _, rfl, rfl, .inl ⟨by omega, by omega⟩, _, rfl, _, _, rfl, rfl, .inl ⟨by decide, by decide⟩, _, _, rfl, rfl, _, _, rfl, rfl, _, _, rfl, rfl, (by show (0 : Int) < 2147483629; decide), kk _⟩
def PenAt (H : Hp) (p : Addr) : Prop := ∃ a b c : Int, H p = some (.lst [.int a, .int b, .int c])
def spPen : Sp := fun vs H Q _ => ∃ n : Int, vs = [.int n] ∧ ∀ (p : Addr) (H' : Hp), Same H H' → H p = none → PenAt H' p → Q (.ref p) H'
theorem kn_pen (D : DefAt K mg "_law_pen_of" s_law_pen_of ["cell"]) (fr : Free mg ["max", "int"]) : Kn P w K mg base 1 "_law_pen_of" ["cell"] spPen := by
  have sc : FnScope ["cell", "left"] ["cell"] (defScope s_law_pen_of) := ⟨rfl, rfl, rfl, by decide +kernel, rfl, by decide +kernel, by decide +kernel⟩
  refine D.kn (N := ["cell", "left"]) sc (fun vs H Q E h => ?_) (fun f cdv A outer s H vs Q E hr h => ?_)
  · obtain ⟨n, rfl, _⟩ := h
    rfl
  · obtain ⟨n, rfl, kk⟩ := h
    have m1 := fr "max" (by simp)
    have m2 := fr "int" (by simp)
    refine ⟨_, pss_cons (ps_set (i := 1) sc.nd rfl (Or.inl rfl) (pe_callB (call_max2 rfl) rfl m1 boot_fmax (pa_cons (pv 0) (pa_cons (pe_op op_sub pe_int (pv 0)) pa_nil))))
      (pss_one (ps_ret (pe_lst (pa_cons (pv 1) (pa_cons (pe_callTy call_int1 rfl m2 boot_tint (pa_cons (pe_cmpR op_ge (pv 1) (pe_op op_pow pe_int pe_int) (nomark _)) pa_nil)) (pa_cons (pe_op op_mod (pv 1) pe_int) pa_nil)))))), ?_⟩
    refine ⟨_, rfl, _, rfl, _, _, rfl, rfl, _, _, rfl, ?_⟩
    refine ⟨_, rfl, _, rfl, _, _, rfl, rfl, ⟨by decide, by decide, by decide⟩, _, _, rfl, rfl, .inr ⟨_, rfl, ?_⟩⟩
    refine ⟨_, rfl, _, _, rfl, rfl, (by show (0 : Int) < 1000003; decide), ?_, fun p hp => ?_⟩
    · show 3 ≤ sizeLine
      decide
    · exact kk p _ (Same.upd hp) hp ⟨_, _, _, upd_same⟩
theorem log_small {m : Int} (h0 : 0 < m) (h1 : m ≤ 1000000000000000000000000000000000000000000000000000000000000) : m.natAbs.log2 < 9000 := by
  have h2 : m.natAbs < 2 ^ 200 := by
    have : (2 : Nat) ^ 200 = 1606938044258990275541962092341162602522202993782792835301376 := by decide +kernel
    rw [this]
    omega
  have := (Nat.log2_lt (n := m.natAbs) (k := 200) (by omega)).mpr h2
  omega
def spDraw : Sp := fun vs H Q _ => ∃ (p : Addr) (m : Int), vs = [.ref p, .int m] ∧ PenAt H p ∧ 0 < m ∧ m ≤ 1000000000000000000000000000000000000000000000000000000000000 ∧ ∀ (r : Int) (H' : Hp), 0 ≤ r → r < m → SameBut p H H' → PenAt H' p → Q (.int r) H'
theorem kn_draw (D : DefAt K mg "_law_draw" s_law_draw ["pen", "many"]) (kx : Kn P w K mg base 1 "_law_next" ["seed"] spNext) : Kn P w K mg base 2 "_law_draw" ["pen", "many"] spDraw := by
  have sc : FnScope ["pen", "many", "found"] ["pen", "many"] (defScope s_law_draw) := ⟨rfl, rfl, rfl, by decide +kernel, rfl, by decide +kernel, by decide +kernel⟩
  refine D.kn (N := ["pen", "many", "found"]) sc (fun vs H Q E h => ?_) (fun f cdv A outer s H vs Q E hr h => ?_)
  · obtain ⟨p, m, rfl, _⟩ := h
    rfl
  · obtain ⟨p, m, rfl, ⟨a, b, c, hp⟩, h0, h1, kk⟩ := h
    have lg := log_small h0 h1
    refine ⟨_, pss_cons (ps_if (pt_cmpR op_eq (pe_ix ix_list (pv 0) pe_int (fun _ _ => rfl)) pe_int (nomark _))
        (pss_cons (ps_set (i := 2) sc.nd rfl (Or.inl rfl) (pe_op op_mod (pe_ix ix_list (pv 0) pe_int (fun _ _ => rfl)) (pv 1)))
        (pss_cons (ps_asg (pe_op op_fdivW (pe_ix ix_list (pv 0) pe_int (fun _ _ => rfl)) (pv 1)) (pg_sub (pv 0) pe_int set_list)) (pss_one (ps_ret (pv 2))))) pss_nil)
      (pss_cons (ps_asg (pe_kn kx hr (pa_cons (pe_op op_add (pe_kn kx hr (pa_cons (pe_ix ix_list (pv 0) pe_int (fun _ _ => rfl)) pa_nil)) pe_int) pa_nil)) (pg_sub (pv 0) pe_int set_list))
      (pss_one (ps_ret (pe_op op_mod (pe_op op_fdiv (pe_ix ix_list (pv 0) pe_int (fun _ _ => rfl)) pe_int) (pv 1))))), ?_⟩
    refine ⟨_, rfl, p, _, _, _, rfl, rfl, SqL.of hp, rfl, rfl, _, rfl, ite2 (fun h2 => ?_) (fun h2 => ?_)⟩
    · refine ⟨_, rfl, p, _, _, _, rfl, rfl, SqL.of hp, rfl, _, rfl, _, _, rfl, rfl, h0, ?_⟩
      refine ⟨_, rfl, p, _, _, _, rfl, rfl, SqL.of hp, rfl, _, rfl, _, _, rfl, rfl, ⟨h0, lg⟩, ?_⟩
      refine ⟨_, rfl, p, _, _, 0, rfl, rfl, hp, rfl, ?_⟩
      refine ⟨_, rfl, kk _ _ (Int.emod_nonneg _ (by omega)) (Int.emod_lt_of_pos _ h0) SameBut.upd ⟨_, _, _, upd_same⟩⟩
    · refine ⟨_, rfl, p, _, _, _, rfl, rfl, SqL.of hp, rfl, _, rfl, fun r1 => ?_⟩
      refine ⟨_, _, rfl, rfl, _, rfl, fun r2 => ?_⟩
      refine ⟨_, rfl, p, _, _, 2, rfl, rfl, hp, rfl, ?_⟩
      refine ⟨_, rfl, p, _, _, _, rfl, rfl, SqL.of upd_same, rfl, _, _, rfl, rfl, ⟨by decide, by decide⟩, _, rfl, _, _, rfl, rfl, h0, ?_⟩
      exact kk _ _ (Int.emod_nonneg _ (by omega)) (Int.emod_lt_of_pos _ h0) SameBut.upd ⟨_, _, _, upd_same⟩
end
end Hk

namespace Hk
open PySem L2
theorem arsLen {H : Hp} {us : List V} {ars : List (Int × Int)} (h : Ars H us ars) : us.length = ars.length := Paired.length h
end Hk

namespace Hk
open PySem L2
section
variable {P : Program} {w : World} {K : PySem.W.Frag} {mg : Str → Option Value} {base : Heap}
theorem PenAt.mono {H H' : Hp} {p : Addr} (s : Same H H') (h : PenAt H p) : PenAt H' p := by
  obtain ⟨x, y, z, e⟩ := h
  exact ⟨x, y, z, s _ _ e⟩
def GoodA (m : Int) (prs : List (Int × Int)) : Prop := ∀ q ∈ prs, 0 ≤ q.1 ∧ q.1 < m ∧ 0 ≤ q.2 ∧ q.2 < m ∧ q.1 ≠ q.2
def DT (H : Hp) (d : Addr) (m : Int) (n : Nat) : Prop := ∃ (kvs : List (List Key × V)) (prs : List (Int × Int)), H d = some (.dT kvs) ∧ kvs.map (·.1) = prs.map prKey ∧ GoodA m prs ∧ kvs.length ≤ n
theorem DT.put {H : Hp} {d b : Addr} {m : Int} {n : Nat} {x y : Int} (h : DT H d m n) (hb : H b = none) (hn : n ≤ 1000) (g : 0 ≤ x ∧ x < m ∧ 0 ≤ y ∧ y < m ∧ x ≠ y) (v : V) :
    ∃ H4, DPut (upd H b (.tup [.int x, .int y])) d (.ref b) v H4 ∧ DT H4 d m (n + 1) ∧ ∀ c o, c ≠ d → H c = some o → H4 c = some o := by
  obtain ⟨kvs, prs, e1, e2, e3, e4⟩ := h
  have ne : d ≠ b := ne_of_none e1 hb
  have ed : (upd H b (.tup [.int x, .int y])) d = some (.dT kvs) := by rw [upd_ne ne]; exact e1
  have eb : (upd H b (.tup [.int x, .int y])) b = some (.tup ((prKey (x, y)).map kV)) := upd_same
  refine ⟨_, DPut.t (k := prKey (x, y)) ed eb (small1000 (by omega)), ?_, fun c o hc e => ?_⟩
  · by_cases hv : valV kvs (prKey (x, y)) = none
    · refine ⟨_, prs ++ [(x, y)], upd_same, ?_, fun q hq => ?_, ?_⟩
      · rw [putK_new v hv, List.map_append, List.map_append, e2]
        rfl
      · rcases List.mem_append.mp hq with h | h
        · exact e3 q h
        · rw [List.mem_singleton] at h
          subst h
          exact g
      · exact Nat.le_trans (length_putK _ _ _) (Nat.succ_le_succ e4)
    · refine ⟨_, prs, upd_same, ?_, e3, Nat.le_trans (length_putK _ _ _) (Nat.succ_le_succ e4)⟩
      have ha : (kvs.any fun kv => decide (kv.1 = prKey (x, y))) = true := by
        rw [valV_any]
        cases q : valV kvs (prKey (x, y)) with
        | none => exact absurd q hv
        | some _ => rfl
      unfold putK
      rw [if_pos ha, List.map_map, ← e2]
      refine List.map_congr_left fun kv _ => ?_
      show (if kv.1 = prKey (x, y) then (kv.1, v) else kv).1 = kv.1
      split <;> rfl
  · rw [upd_ne hc, upd_ne (ne_of_none e hb)]
    exact e
theorem DT.keep {H H' : Hp} {d p : Addr} {m : Int} {n : Nat} (h : DT H d m n) (hp : PenAt H p) (s : SameBut p H H') : DT H' d m n := by
  obtain ⟨kvs, prs, e1, r⟩ := h
  obtain ⟨a, b, c, e⟩ := hp
  exact ⟨kvs, prs, s _ _ (ne_of e1 e (by intro z; cases z)) e1, r⟩
theorem DT.mono {H : Hp} {d : Addr} {m : Int} {n k : Nat} (h : DT H d m n) (hk : n ≤ k) : DT H d m k := by
  obtain ⟨kvs, prs, e1, e2, e3, e4⟩ := h
  exact ⟨kvs, prs, e1, e2, e3, Nat.le_trans e4 hk⟩
theorem cut200 {xs : List V} (h : xs.length ≤ 200) : cutV xs none (some 200) = xs := by
  unfold cutV
  show (xs.drop 0).take (min 200 xs.length - 0) = xs
  rw [List.drop_zero]
  exact List.take_of_length_le (by omega)
theorem gname_in {i : Nat} {v : V} {σ : St} {H : Hp} {Q : St → Hp → Prop} (h : Q (σ.set i (some v)) H) : gName i v σ H Q := h
theorem seq_inv {a R : TS} {D : Ends} {σ : St} {H : Hp} (Inv : St → Hp → Prop) (h : ∀ D' : Ends, (∀ σ H, Inv σ H → D'.nx σ H) → a D' σ H) (hk : ∀ σ H, Inv σ H → R D σ H) : tSeq a R D σ H := h _ hk
end
end Hk

namespace Hk
open PySem L2
section
variable {P : Program} {w : World} {K : PySem.W.Frag} {mg : Str → Option Value} {base : Heap}
def spWebBy200S : Sp := fun vs H Q _ => ∃ (p : Addr) (most : Int), vs = [.ref p, .int most] ∧ PenAt H p ∧ 1 ≤ most ∧ most ≤ 40 ∧
  ∀ (a t : Addr) (m : Int) (us : List V) (ars : List (Int × Int)) (H' : Hp), SameBut p H H' → PenAt H' p → Web H' a t m us ars → 1 ≤ m → m ≤ most → GoodA m ars → us.length ≤ 200 → (ars.Pairwise fun x y => lexB x y = true) → Q (.ref a) H'
theorem kn_webby200S (D : DefAt K mg "_law_web_by" s_law_web_by ["pen", "most"]) (fr : Free mg ["range", "tuple", "sorted"]) (kd : Kn P w K mg base 2 "_law_draw" ["pen", "many"] spDraw) : Kn P w K mg base 3 "_law_web_by" ["pen", "most"] spWebBy200S := by
  have sc : FnScope ["pen", "most", "many", "way", "arrows", "place", "turn", "a", "b"] ["pen", "most"] (defScope s_law_web_by) := ⟨rfl, rfl, rfl, by decide +kernel, rfl, by decide +kernel, by decide +kernel⟩
  refine D.kn (N := ["pen", "most", "many", "way", "arrows", "place", "turn", "a", "b"]) sc (fun vs H Q E h => ?_) (fun f cdv A outer s H vs Q E hr h => ?_)
  · obtain ⟨p, m, rfl, _⟩ := h
    rfl
  · obtain ⟨p, most, rfl, hp, h1, h2, kk⟩ := h
    have hu := hu_of hr
    have m1 := fr "range" (by simp)
    have m2 := fr "tuple" (by simp)
    have m3 := fr "sorted" (by simp)
    refine ⟨_, pss_cons (ps_set (i := 2) sc.nd rfl (Or.inl rfl) (pe_op op_add pe_int (pe_kn kd hr (pa_cons (pv 0) (pa_cons (pv 1) pa_nil)))))
      (pss_cons (ps_set (i := 3) sc.nd rfl (Or.inl rfl) (pe_kn kd hr (pa_cons (pv 0) (pa_cons pe_int pa_nil))))
      (pss_cons (ps_set (i := 4) sc.nd rfl (Or.inl rfl) pe_dnewT)
      (pss_cons (ps_if (pt_cmpR op_eq (pv 3) pe_int (nomark _)) (pss_one (ps_for PassesOwn.never rfl (pi_range1 rfl m1 (pa_cons (pv 2) pa_nil)) (pg_name (i := 5) sc.nd rfl (Or.inl rfl))
          (pss_one (ps_if (pt_cmpR op_gt (pv 2) pe_int (nomark _)) (pss_one (ps_dput hu (pv 4) (pe_tup (pa_cons (pv 5) (pa_cons (pe_op op_mod (pe_op op_add (pv 5) pe_int) (pv 2)) pa_nil))) pe_bl rfl)) pss_nil)))) pss_nil)
      (pss_cons (ps_for PassesOwn.never rfl (pi_range1 rfl m1 (pa_cons (pe_ix ix_list (pe_lst (pa_cons (pe_op op_fdiv (pv 2) pe_int) (pa_cons (pv 2) (pa_cons (pv 2) (pa_cons (pe_op op_mul pe_int (pv 2)) (pa_cons (pe_op op_mul pe_int (pv 2)) (pa_cons (pv 2) pa_nil))))))) (pv 3) (fun _ _ => rfl)) pa_nil)) (pg_name (i := 6) sc.nd rfl (Or.inl rfl))
        (pss_cons (ps_set (i := 7) sc.nd rfl (Or.inl rfl) (pe_kn kd hr (pa_cons (pv 0) (pa_cons (pv 2) pa_nil))))
        (pss_cons (ps_set (i := 8) sc.nd rfl (Or.inl rfl) (pe_kn kd hr (pa_cons (pv 0) (pa_cons (pv 2) pa_nil))))
        (pss_cons (ps_if (PW.pt (pw_and (pt_cmpR op_eq (pv 3) pe_int (nomark _)) (pw_and1 (pt_cmpR op_lt (pv 7) (pv 8) (nomark _))))) (pss_one (ps_par (i := 7) (j := 8) rfl sc.nd rfl rfl (by decide) rfl rfl (pa_cons (pv 8) (pa_cons (pv 7) pa_nil)) rfl)) pss_nil)
        (pss_one (ps_if (pt_cmpR op_ne (pv 7) (pv 8) (nomark _)) (pss_one (ps_dput hu (pv 4) (pe_tup (pa_cons (pv 7) (pa_cons (pv 8) pa_nil))) pe_bl rfl)) pss_nil))))))
      (pss_one (ps_ret (pe_tup (pa_cons (pv 2) (pa_cons (pe_callTy call_tuple_of rfl m2 boot_ttuple (pa_cons (pe_slice sl_list (pe_callB (call_sorted_prsDS rfl) rfl m3 boot_fsorted (pa_cons (pv 4) pa_nil)) po_none (po_some pe_int)) pa_nil)) pa_nil))))))))), ?_⟩
    refine ⟨_, rfl, _, rfl, p, most, rfl, hp, by omega, by omega, fun r H1 r0 r1 s1 hp1 => ?_⟩
    refine ⟨_, _, rfl, rfl, ?_⟩
    refine ⟨_, rfl, p, 6, rfl, hp1, by decide, by decide, fun way H2 w0 w1 s2 hp2 => ?_⟩
    intro d hd
    have hm1 : 1 ≤ 1 + r ∧ 1 + r ≤ 40 ∧ 1 + r ≤ most := by omega
    generalize hm : 1 + r = m at hm1
    refine gname_in ?_
    dsimp only
    refine seq_inv (a := tIfS _ _ _) (fun σ H3 => ∃ (v5 : Option V) (n0 : Nat), σ = [some (.ref p), some (.int most), some (.int m), some (.int way), some (.ref d), v5, none, none, none] ∧ SameBut p H2 H3 ∧ PenAt H3 p ∧ DT H3 d m n0 ∧ n0 ≤ (if way = 0 then 40 else 0)) (fun D' hk => ?_) ?_
    · rw [hm]
      have z0 : SameBut p H2 (upd H2 d (.dT [])) := (Same.upd hd).but
      have pd : p ≠ d := by
        obtain ⟨_, _, _, e⟩ := hp2
        exact ne_of_none e hd
      have z1 : PenAt (upd H2 d (.dT [])) p := by
        obtain ⟨a, b, c, e⟩ := hp2
        exact ⟨a, b, c, by rw [upd_ne pd]; exact e⟩
      have z2 : DT (upd H2 d (.dT [])) d m 0 := ⟨[], [], upd_same, rfl, fun q hq => (nomatch hq), Nat.le_refl _⟩
      refine ⟨_, rfl, rfl, _, rfl, ite2 (fun hw => ?_) (fun hw => ?_)⟩
      · have hw' : way = 0 := by
          have := of_decide_eq_true hw
          exact V.int.inj this
        refine ⟨_, rfl, m, rfl, by omega, by omega, for_range (fun i σ H3 => ∃ (v5 : Option V), σ = [some (.ref p), some (.int most), some (.int m), some (.int way), some (.ref d), v5, none, none, none] ∧ SameBut p H2 H3 ∧ PenAt H3 p ∧ DT H3 d m i) ?_ ?_ ?_⟩
        · exact ⟨none, rfl, z0, z1, z2⟩
        · rintro i σ H3 hi ⟨v5, rfl, s3, hp3, hd3⟩
          refine ⟨_, rfl, _, _, rfl, rfl, _, rfl, ite2 (fun hg => ?_) (fun hg => ?_)⟩
          · have hg' : 1 < m := of_decide_eq_true hg
            refine ⟨_, rfl, _, rfl, _, rfl, _, _, rfl, rfl, _, rfl, _, _, rfl, rfl, (by show (0 : Int) < m; omega), (by show 2 ≤ sizeLine; decide), fun b hb => ?_⟩
            have b1 : (0 + (i : Int) + 1) % m < m := Int.emod_lt_of_pos _ (by omega)
            have b2 : 0 ≤ (0 + (i : Int) + 1) % m := Int.emod_nonneg _ (by omega)
            have b3 : (0 + (i : Int)) ≠ (0 + (i : Int) + 1) % m := by
              by_cases h : (i : Int) + 1 < m
              · rw [Int.emod_eq_of_lt (by omega) (by omega)]
                omega
              · have : (0 + (i : Int) + 1) = m := by omega
                rw [this, Int.emod_self]
                omega
            obtain ⟨H4, g1, g2, g3⟩ := hd3.put hb (by omega) (x := 0 + i) (y := (0 + i + 1) % m) ⟨by omega, by omega, b2, b1, b3⟩ (.bl true)
            refine ⟨d, H4, rfl, g1, _, rfl, ?_, ?_, g2⟩
            · intro c o hc e
              by_cases hcd : c = d
              · subst hcd
                rw [hd] at e
                cases e
              · exact g3 c o hcd (s3 c o hc e)
            · obtain ⟨x, y, z, e⟩ := hp3
              exact ⟨x, y, z, g3 _ _ pd e⟩
          · exact ⟨_, rfl, s3, hp3, hd3.mono (Nat.le_succ _)⟩
        · rintro σ H3 ⟨v5, rfl, s3, hp3, hd3⟩
          exact hk _ _ ⟨v5, m.toNat, rfl, s3, hp3, hd3, by rw [if_pos hw']; omega⟩
      · exact hk _ _ ⟨none, 0, rfl, z0, z1, z2, Nat.zero_le _⟩
    · rintro σ H3 ⟨v5, n0, rfl, s3, hp3, hd3, hn⟩
      have pd : p ≠ d := by
        obtain ⟨_, _, _, e⟩ := hp2
        exact ne_of_none e hd
      refine ⟨_, rfl, _, _, rfl, rfl, ⟨by decide, by decide⟩, _, rfl, _, rfl, _, rfl, _, _, rfl, rfl, .inl ⟨by decide, by decide⟩, _, rfl, _, _, rfl, rfl, .inl ⟨by decide, by decide⟩, _, rfl, (by show 6 ≤ sizeLine; decide), fun l hl => ?_⟩
      have ix : ∃ k : Int, atI [V.int (m / 2), V.int m, V.int m, V.int (2 * m), V.int (3 * m), V.int m] way = some (V.int k) ∧ 0 ≤ k ∧ n0 + k.toNat ≤ 130 := by
        have hw : way = 0 ∨ way = 1 ∨ way = 2 ∨ way = 3 ∨ way = 4 ∨ way = 5 := by omega
        rcases hw with rfl | rfl | rfl | rfl | rfl | rfl
        · rw [if_pos rfl] at hn
          exact ⟨m / 2, rfl, by omega, by omega⟩
        all_goals rw [if_neg (by decide)] at hn
        · exact ⟨m, rfl, by omega, by omega⟩
        · exact ⟨m, rfl, by omega, by omega⟩
        · exact ⟨2 * m, rfl, by omega, by omega⟩
        · exact ⟨3 * m, rfl, by omega, by omega⟩
        · exact ⟨m, rfl, by omega, by omega⟩
      obtain ⟨k, hk1, hk2, hk3⟩ := ix
      have z0 : SameBut p H2 (upd H3 l (.lst [V.int (m / 2), V.int m, V.int m, V.int (2 * m), V.int (3 * m), V.int m])) := s3.trans (Same.upd hl).but
      have z1 : PenAt (upd H3 l (.lst [V.int (m / 2), V.int m, V.int m, V.int (2 * m), V.int (3 * m), V.int m])) p := by
        obtain ⟨a, b, c, e⟩ := hp3
        exact ⟨a, b, c, Same.upd hl _ _ e⟩
      have z2 : DT (upd H3 l (.lst [V.int (m / 2), V.int m, V.int m, V.int (2 * m), V.int (3 * m), V.int m])) d m (n0 + 0) := hd3.keep hp3 (Same.upd hl).but
      refine ⟨_, rfl, l, _, way, _, rfl, rfl, SqL.of upd_same, hk1, k, rfl, by omega, by omega, for_range (fun i σ H4 => ∃ v6 v7 v8 : Option V, σ = [some (.ref p), some (.int most), some (.int m), some (.int way), some (.ref d), v5, v6, v7, v8] ∧ SameBut p H2 H4 ∧ PenAt H4 p ∧ DT H4 d m (n0 + i)) ⟨none, none, none, rfl, z0, z1, z2⟩ ?_ ?_⟩
      · rintro i σ H4 hi ⟨v6, v7, v8, rfl, s4, hp4, hd4⟩
        refine ⟨_, rfl, _, rfl, p, m, rfl, hp4, by omega, by omega, fun a H5 a0 a1 s5 hp5 => ?_⟩
        refine ⟨_, rfl, _, rfl, p, m, rfl, hp5, by omega, by omega, fun b H6 b0 b1 s6 hp6 => ?_⟩
        refine gname_in ?_
        dsimp only
        have s46 := s5.trans s6
        refine seq_inv (a := tIfS _ _ _) (fun σ H7 => H7 = H6 ∧ ∃ (x y : Int), σ = [some (.ref p), some (.int most), some (.int m), some (.int way), some (.ref d), v5, some (.int (0 + i)), some (.int x), some (.int y)] ∧ 0 ≤ x ∧ x < m ∧ 0 ≤ y ∧ y < m) (fun D' hk => ?_) ?_
        · refine ⟨_, rfl, rfl, _, rfl, ite2 (fun hg => ?_) (fun hg => ?_)⟩
          · refine ⟨_, rfl, _, rfl, _, _, rfl, rfl, _, rfl, ite2 (fun hh => ?_) (fun hh => ?_)⟩
            · exact ⟨_, rfl, _, rfl, _, _, rfl, hk _ _ ⟨rfl, b, a, rfl, b0, b1, a0, a1⟩⟩
            · exact hk _ _ ⟨rfl, a, b, rfl, a0, a1, b0, b1⟩
          · exact hk _ _ ⟨rfl, a, b, rfl, a0, a1, b0, b1⟩
        · rintro σ H7 ⟨rfl, x, y, rfl, x0, x1, y0, y1⟩
          have hd6 := hd4.keep hp4 s46
          refine ⟨_, rfl, _, rfl, rfl, _, rfl, ite2 (fun hg => ?_) (fun hg => ?_)⟩
          · have hxy : x ≠ y := by
              intro z
              subst z
              simp at hg
            refine ⟨_, rfl, _, rfl, _, rfl, (by show 2 ≤ sizeLine; decide), fun c hc => ?_⟩
            obtain ⟨H8, g1, g2, g3⟩ := hd6.put hc (by omega) (x := x) (y := y) ⟨x0, x1, y0, y1, hxy⟩ (.bl true)
            refine ⟨d, H8, rfl, g1, _, _, _, rfl, ?_, ?_, g2⟩
            · intro e o he ee
              by_cases hed : e = d
              · subst hed
                rw [hd] at ee
                cases ee
              · exact g3 e o hed ((s4.trans s46) e o he ee)
            · obtain ⟨x, y, z, e⟩ := hp6
              exact ⟨x, y, z, g3 _ _ pd e⟩
          · exact ⟨_, _, _, rfl, s4.trans s46, hp6, hd6.mono (Nat.le_succ _)⟩
      · rintro σ H4 ⟨v6, v7, v8, rfl, s4, hp4, hd4⟩
        obtain ⟨kvs, prs, e1, e2, e3, e4⟩ := hd4
        refine ⟨_, rfl, _, rfl, d, kvs, prs, rfl, e1, e2, by omega, fun L ws prs' H5 s5 hL ha hpm ris ndp => ?_⟩
        have lw : ws.length ≤ 130 := by
          have q1 := arsLen ha
          have q2 := hpm.length_eq
          have q3 : kvs.length = prs.length := by
            have := congrArg List.length e2
            rwa [List.length_map, List.length_map] at this
          omega
        refine ⟨200, rfl, L, ws, rfl, SqL.of hL, fun q hq => ?_⟩
        rw [cut200 (by omega)]
        refine ⟨q, _, rfl, .inl ⟨SqL.of upd_same, fun t ht => ⟨(by show 2 ≤ sizeLine; decide), fun g hg => ?_⟩⟩⟩
        have s6 : Same H5 _ := ((Same.upd (o := .lst ws) hq).trans (Same.upd (o := .tup ws) ht)).trans (Same.upd (o := .tup [.int m, .ref t]) hg)
        refine kk g t m ws prs' _ (((s1.trans s2).trans s4).trans (s5.trans s6).but) ?_ ⟨upd_same, ?_, ha.mono s6, by omega, by omega, by omega⟩ (by omega) (by omega) (fun z hz => e3 z (hpm.mem_iff.mp hz)) (by omega) (ris_strict ris (hpm.symm.nodup ndp))
        · obtain ⟨x, y, z, e⟩ := hp4
          exact ⟨x, y, z, s6 _ _ (s5 _ _ e)⟩
        · exact Same.upd hg _ _ upd_same
end
end Hk

namespace Hk
open PySem L2
theorem newp {H : Hp} {p q : Addr} (hp : PenAt H p) (hq : H q = none) : q ≠ p := fun e => by
  obtain ⟨_, _, _, z⟩ := hp
  rw [e, z] at hq
  cases hq
end Hk

namespace Hk
open PySem L2
section
variable {P : Program} {w : World} {K : PySem.W.Frag} {mg : Str → Option Value} {base : Heap}
end
end Hk

namespace Hk
open PySem L2
section
variable {P : Program} {w : World} {K : PySem.W.Frag} {mg : Str → Option Value} {base : Heap}
def spWhole : Sp := fun vs H Q _ => ∃ x T, vs = [x] ∧ Dat H x T ∧ Q (.bl (isI x)) H
theorem kn_whole (D : DefAt K mg "whole_good" s_whole_good ["thing"]) (fr : Free mg ["isinstance", "int", "bool"]) : Kn P w K mg base 1 "whole_good" ["thing"] spWhole := by
  refine D.kn (N := ["thing"]) ⟨rfl, rfl, rfl, by decide +kernel, rfl, by decide +kernel, by decide +kernel⟩ (fun vs H Q E h => ?_) (fun f cdv A outer s H vs Q E hr h => ?_)
  · obtain ⟨x, T, rfl, _⟩ := h
    rfl
  · obtain ⟨x, T, rfl, d, k⟩ := h
    have m1 := fr "isinstance" (by simp)
    have m2 := fr "int" (by simp)
    have m3 := fr "bool" (by simp)
    refine ⟨_, pss_one (ps_ret (pe_and (pe_callB call_isi rfl m1 boot_isi (pa_cons (pv 0) (pa_cons (pe_bltn (v := .ty "int") rfl m2 boot_tint rfl) pa_nil)))
      (pe_one (pe_not (pe_callB call_isi rfl m1 boot_isi (pa_cons (pv 0) (pa_cons (pe_bltn (v := .ty "bool") rfl m3 boot_tbool rfl) pa_nil))))))), ?_⟩
    refine ⟨x, rfl, x, "int", T, rfl, d, by simp, _, rfl, ite2 (fun h1 => ?_) (fun h1 => ?_)⟩
    · refine ⟨x, rfl, x, "bool", T, rfl, d, by simp, _, rfl, ?_⟩
      cases d <;> first | exact k | exact absurd h1 (by decide)
    · cases d <;> first | exact k | exact absurd (by decide) h1
def spPlace : Sp := fun vs H Q _ => ∃ a m y x T, vs = [.ref a, x] ∧ H a = some (.tup [.int m, y]) ∧ Dat H x T ∧ Q (.bl (plG m x)) H
theorem kn_place (D : DefAt K mg "place_good" s_place_good ["web", "thing"]) (kw : Kn P w K mg base 1 "whole_good" ["thing"] spWhole) : Kn P w K mg base 2 "place_good" ["web", "thing"] spPlace := by
  refine D.kn (N := ["web", "thing"]) ⟨rfl, rfl, rfl, by decide +kernel, rfl, by decide +kernel, by decide +kernel⟩ (fun vs H Q E h => ?_) (fun f cdv A outer s H vs Q E hr h => ?_)
  · obtain ⟨a, m, y, x, T, rfl, _⟩ := h
    rfl
  · obtain ⟨a, m, y, x, T, rfl, ha, d, k⟩ := h
    refine ⟨_, pss_one (ps_ret (pe_and (pe_kn kw hr (pa_cons (pv 1) pa_nil)) (pe_one (pe_chain op_le op_lt pe_int (pv 1) (pe_ix ix_tup (pv 0) pe_int (fun _ _ => rfl)))))), ?_⟩
    refine ⟨x, rfl, x, T, rfl, d, _, rfl, ?_⟩
    cases d with
    | int i =>
      refine iteT ?_
      refine ⟨_, rfl, _, _, rfl, rfl, _, rfl, ite2 (fun h1 => ?_) (fun h1 => ?_)⟩
      · refine ⟨_, rfl, a, _, _, _, rfl, rfl, SqT.of ha, rfl, _, _, rfl, rfl, ?_⟩
        have e : plG m (.int i) = decide (i < m) := by simp [plG, of_decide_eq_true h1]
        rw [e] at k
        exact k
      · have e : plG m (.int i) = false := by
          have h1 : ¬ 0 ≤ i := by simpa using h1
          simp [plG, h1]
        rw [e] at k
        exact k
    | _ => exact iteF k
end
end Hk

namespace Hk
open PySem L2
section
variable {P : Program} {w : World} {K : PySem.W.Frag} {mg : Str → Option Value} {base : Heap}
end
end Hk

namespace Hk
open PySem L2
structure GlobI (mg : Str → Option Value) (x : Str) (n : Int) : Prop where
  ex : ∃ t, mg x = some (.int n t)
end Hk

namespace Hk
open PySem L2
structure GlobS (mg : Str → Option Value) (x z : Str) : Prop where
  ex : ∃ t, mg x = some (.str z t)
theorem boot_tstr : bootBuiltins "str" = some (.type "str") := by decide +kernel
end Hk

namespace L2
open PySem PySem.Spec
end L2
namespace Hk
open PySem L2 Builtin.Str
def jl (c : Nat) : List (List Nat) → List Nat
  | [] => []
  | [x] => x
  | x :: y :: r => x ++ c :: jl c (y :: r)
theorem join_cps (c : Nat) : ∀ ts : List Str, (Str.join ⟨#[c]⟩ ts).cps.toList = jl c (ts.map fun z => z.cps.toList)
  | [] => rfl
  | [x] => rfl
  | x :: y :: r => by
    have ih := join_cps c (y :: r)
    show ((x ++ ⟨#[c]⟩ ++ Str.join ⟨#[c]⟩ (y :: r)) : Str).cps.toList = x.cps.toList ++ c :: jl c ((y :: r).map fun z => z.cps.toList)
    rw [← ih]
    show ((x.cps ++ #[c]) ++ (Str.join ⟨#[c]⟩ (y :: r)).cps).toList = _
    simp
theorem cut_eq {c : Nat} : ∀ {a b x y : List Nat}, c ∉ a → c ∉ b → a ++ c :: x = b ++ c :: y → a = b ∧ x = y
  | [], [], x, y, _, _, h => by simpa using h
  | [], b :: bs, x, y, _, hb, h => by
    simp at h
    exact absurd (by simp [h.1]) hb
  | a :: as, [], x, y, ha, _, h => by
    simp at h
    exact absurd (by simp [h.1]) ha
  | a :: as, b :: bs, x, y, ha, hb, h => by
    simp at h
    obtain ⟨e1, e2⟩ := h
    have := cut_eq (a := as) (b := bs) (fun z => ha (List.mem_cons_of_mem _ z)) (fun z => hb (List.mem_cons_of_mem _ z)) e2
    exact ⟨by rw [e1, this.1], this.2⟩
theorem jl_inj {c : Nat} : ∀ {p q : List (List Nat)}, p ≠ [] → q ≠ [] → (∀ z ∈ p, c ∉ z) → (∀ z ∈ q, c ∉ z) → jl c p = jl c q → p = q
  | [], _, h, _, _, _, _ => absurd rfl h
  | _, [], _, h, _, _, _ => absurd rfl h
  | [x], [y], _, _, _, _, h => by
    have : x = y := h
    rw [this]
  | [x], y :: y' :: r, _, _, hp, _, h => by
    have h : x = y ++ c :: jl c (y' :: r) := h
    exact absurd (by rw [h]; simp) (hp x (by simp))
  | x :: x' :: r, [y], _, _, _, hq, h => by
    have h : x ++ c :: jl c (x' :: r) = y := h
    exact absurd (by rw [← h]; simp) (hq y (by simp))
  | x :: x' :: r, y :: y' :: r', _, _, hp, hq, h => by
    obtain ⟨e1, e2⟩ := cut_eq (hp x (by simp)) (hq y (by simp)) h
    have := jl_inj (p := x' :: r) (q := y' :: r') (by simp) (by simp) (fun z hz => hp z (List.mem_cons_of_mem _ hz)) (fun z hz => hq z (List.mem_cons_of_mem _ hz)) e2
    rw [e1, this]
theorem map_cps : ∀ {p q : List Str}, (p.map fun z => z.cps.toList) = (q.map fun z => z.cps.toList) → p = q
  | [], [], _ => rfl
  | [], _ :: _, h => by simp at h
  | _ :: _, [], h => by simp at h
  | ⟨⟨a⟩⟩ :: p, ⟨⟨b⟩⟩ :: q, h => by
    rw [List.map_cons, List.map_cons, List.cons.injEq] at h
    obtain ⟨e, h⟩ := h
    have e : a = b := e
    rw [e, map_cps h]
theorem split_ne (x y : Str) : Txt.split x y ≠ [] := by
  unfold Txt.split
  split
  · simp
  · split
    · simp
    · rw [PySem.StrLaws.partsBetween_eq]
      obtain ⟨p, r, e⟩ := PySem.StrLaws.partsFrom_ne x y.length 0 (occurrences x y 0 x.length (x.length + 1))
      rw [e]
      simp
theorem split_join {c : Nat} {ts : List Str} (h0 : ts ≠ []) (hf : ∀ z ∈ ts, c ∉ z.cps.toList) : Txt.split (Str.join ⟨#[c]⟩ ts) ⟨#[c]⟩ = ts := by
  have e := PySem.StrLaws.join_split (Str.join ⟨#[c]⟩ ts) ⟨#[c]⟩
  have fr := PySem.StrLaws.split_free (Str.join ⟨#[c]⟩ ts) c
  have k := congrArg (fun z : Str => z.cps.toList) e
  simp only [join_cps] at k
  have := jl_inj (c := c) (by intro z; exact split_ne _ _ (List.map_eq_nil_iff.mp z)) (by intro z; exact h0 (List.map_eq_nil_iff.mp z)) (fun z hz => by
    obtain ⟨u, hu, rfl⟩ := List.mem_map.mp hz
    exact fr u hu) (fun z hz => by
    obtain ⟨u, hu, rfl⟩ := List.mem_map.mp hz
    exact hf u hu) k
  exact map_cps this
def numS (n : Int) : Str := Str.ofString (toString n)
theorem num_cps (m : Nat) : (numS (m : Int)).cps.toList = (Nat.toDigits 10 m).map Char.toNat := PySem.W.KIN.signs_num m
theorem num_facts : ∀ m < 41, 1 ≤ ((Nat.toDigits 10 m).map Char.toNat).length ∧ ((Nat.toDigits 10 m).map Char.toNat).length ≤ 2 ∧ (∀ c ∈ (Nat.toDigits 10 m).map Char.toNat, 48 ≤ c ∧ c ≤ 57) ∧ (((Nat.toDigits 10 m).map Char.toNat)[0]? = some 48 → (Nat.toDigits 10 m).map Char.toNat = [48]) := by
  decide +kernel
def nrB (z : Str) : Bool := decide (1 ≤ z.length) && decide (z.length ≤ 60) && (z.cps.toList.all fun c => decide (48 ≤ c) && decide (c ≤ 57)) && !(decide (z.cps.toList[0]? = some 48) && decide (z ≠ Str.ofString "0"))
def nrV (z : Str) : V := if nrB z = true then .int (PySem.NumText.digitsVal z.cps.toList : Nat) else .non
theorem num_pos {n : Int} (h0 : 0 ≤ n) (h1 : n ≤ 40) : ∃ m : Nat, n = m ∧ m < 41 := ⟨n.toNat, by omega, by omega⟩
theorem len_cps (z : Str) : z.length = z.cps.toList.length := by simp [Str.length]
theorem num_nr {n : Int} (h0 : 0 ≤ n) (h1 : n ≤ 40) : nrV (numS n) = .int n := by
  obtain ⟨m, rfl, hm⟩ := num_pos h0 h1
  obtain ⟨f1, f2, f3, f4⟩ := num_facts m hm
  have e := num_cps m
  have hB : nrB (numS m) = true := by
    unfold nrB
    rw [len_cps, e]
    have q : (((Nat.toDigits 10 m).map Char.toNat).all fun c => decide (48 ≤ c) && decide (c ≤ 57)) = true := List.all_eq_true.mpr fun c hc => by simp [f3 c hc]
    rw [q, decide_eq_true f1, decide_eq_true (Nat.le_trans f2 (by decide))]
    by_cases h : ((Nat.toDigits 10 m).map Char.toNat)[0]? = some 48
    · have z : numS m = Str.ofString "0" := by
        have g := f4 h
        rw [← e] at g
        have : [numS m].map (fun z => z.cps.toList) = [Str.ofString "0"].map (fun z => z.cps.toList) := by
          rw [List.map_cons, List.map_cons, g]
          decide +kernel
        have := map_cps this
        simpa using this
      rw [z]
      simp
    · rw [decide_eq_false h]
      simp
  unfold nrV
  rw [if_pos hB, e, PySem.W.KIN.val_back]
theorem num_len {n : Int} (h0 : 0 ≤ n) (h1 : n ≤ 40) : (numS n).length ≤ 2 := by
  obtain ⟨m, rfl, hm⟩ := num_pos h0 h1
  rw [len_cps, num_cps m]
  exact (num_facts m hm).2.1
theorem num_sign {n : Int} (h0 : 0 ≤ n) (h1 : n ≤ 40) : ∀ c ∈ (numS n).cps.toList, 48 ≤ c ∧ c ≤ 57 := by
  obtain ⟨m, rfl, hm⟩ := num_pos h0 h1
  rw [num_cps m]
  exact (num_facts m hm).2.2.1
def row0 (m : Int) : Str := Str.ofString "web " ++ numS m
def rowA (q : Int × Int) : Str := ((Str.ofString "arrow " ++ numS q.1) ++ Str.ofString " ") ++ numS q.2
def rowsOf (m : Int) (ars : List (Int × Int)) : List Str := row0 m :: ars.map rowA
def textOf (m : Int) (ars : List (Int × Int)) : Str := Str.join ⟨#[10]⟩ (rowsOf m ars)
theorem cat_cps (a b : Str) : (a ++ b).cps.toList = a.cps.toList ++ b.cps.toList := by
  show (a.cps ++ b.cps).toList = _
  simp
theorem ext_cps {a b : Str} (h : a.cps.toList = b.cps.toList) : a = b := by
  have := map_cps (p := [a]) (q := [b]) (by rw [List.map_cons, List.map_cons, h])
  simpa using this
theorem web_cps : (Str.ofString "web ").cps.toList = [119, 101, 98, 32] := by decide +kernel
theorem web1_cps : (Str.ofString "web").cps.toList = [119, 101, 98] := by decide +kernel
theorem arrow_cps : (Str.ofString "arrow ").cps.toList = [97, 114, 114, 111, 119, 32] := by decide +kernel
theorem arrow1_cps : (Str.ofString "arrow").cps.toList = [97, 114, 114, 111, 119] := by decide +kernel
theorem blank_cps : (Str.ofString " ").cps.toList = [32] := by decide +kernel
theorem row0_join (m : Int) : row0 m = Str.join ⟨#[32]⟩ [Str.ofString "web", numS m] := by
  apply ext_cps
  rw [join_cps]
  show (Str.ofString "web " ++ numS m).cps.toList = (Str.ofString "web").cps.toList ++ 32 :: (numS m).cps.toList
  rw [cat_cps, web_cps, web1_cps]
  rfl
theorem rowA_join (q : Int × Int) : rowA q = Str.join ⟨#[32]⟩ [Str.ofString "arrow", numS q.1, numS q.2] := by
  apply ext_cps
  rw [join_cps]
  show (((Str.ofString "arrow " ++ numS q.1) ++ Str.ofString " ") ++ numS q.2).cps.toList = (Str.ofString "arrow").cps.toList ++ 32 :: ((numS q.1).cps.toList ++ 32 :: (numS q.2).cps.toList)
  rw [cat_cps, cat_cps, cat_cps, arrow_cps, arrow1_cps, blank_cps]
  simp
theorem not_sign {n : Int} (h0 : 0 ≤ n) (h1 : n ≤ 40) {c : Nat} (hc : c < 48) : c ∉ (numS n).cps.toList := fun h => by
  have := num_sign h0 h1 c h
  omega
theorem row0_split {m : Int} (h0 : 0 ≤ m) (h1 : m ≤ 40) : Txt.split (row0 m) ⟨#[32]⟩ = Str.ofString "web" :: [m].map numS := by
  rw [row0_join, split_join (by simp)]
  · rfl
  · intro z hz
    simp only [List.mem_cons, List.not_mem_nil, or_false] at hz
    rcases hz with rfl | rfl
    · rw [web1_cps]; decide
    · exact not_sign h0 h1 (by decide)
theorem rowA_split {q : Int × Int} (h0 : 0 ≤ q.1) (h1 : q.1 ≤ 40) (h2 : 0 ≤ q.2) (h3 : q.2 ≤ 40) : Txt.split (rowA q) ⟨#[32]⟩ = Str.ofString "arrow" :: [q.1, q.2].map numS := by
  rw [rowA_join, split_join (by simp)]
  · rfl
  · intro z hz
    simp only [List.mem_cons, List.not_mem_nil, or_false] at hz
    rcases hz with rfl | rfl | rfl
    · rw [arrow1_cps]; decide
    · exact not_sign h0 h1 (by decide)
    · exact not_sign h2 h3 (by decide)
theorem row0_len {m : Int} (h0 : 0 ≤ m) (h1 : m ≤ 40) : (row0 m).length ≤ 20 := by
  have := num_len h0 h1
  rw [len_cps] at this ⊢
  unfold row0
  rw [cat_cps, List.length_append, web_cps]
  simp only [List.length_cons, List.length_nil]
  omega
theorem rowA_len {q : Int × Int} (h0 : 0 ≤ q.1) (h1 : q.1 ≤ 40) (h2 : 0 ≤ q.2) (h3 : q.2 ≤ 40) : (rowA q).length ≤ 20 := by
  have a := num_len h0 h1
  have b := num_len h2 h3
  rw [len_cps] at a b ⊢
  unfold rowA
  rw [cat_cps, cat_cps, cat_cps, List.length_append, List.length_append, List.length_append, arrow_cps, blank_cps]
  simp only [List.length_cons, List.length_nil]
  omega
theorem row0_free {m : Int} (h0 : 0 ≤ m) (h1 : m ≤ 40) : 10 ∉ (row0 m).cps.toList := by
  unfold row0
  rw [cat_cps, web_cps, List.mem_append]
  rintro (h | h)
  · exact absurd h (by decide)
  · exact not_sign h0 h1 (by decide) h
theorem rowA_free {q : Int × Int} (h0 : 0 ≤ q.1) (h1 : q.1 ≤ 40) (h2 : 0 ≤ q.2) (h3 : q.2 ≤ 40) : 10 ∉ (rowA q).cps.toList := by
  unfold rowA
  rw [cat_cps, cat_cps, cat_cps, arrow_cps, blank_cps]
  simp only [List.mem_append]
  rintro (((h | h) | h) | h)
  · exact absurd h (by decide)
  · exact not_sign h0 h1 (by decide) h
  · exact absurd h (by decide)
  · exact not_sign h2 h3 (by decide) h
theorem text_split {m : Int} {ars : List (Int × Int)} (h0 : 0 ≤ m) (h1 : m ≤ 40) (ha : ∀ q ∈ ars, 0 ≤ q.1 ∧ q.1 ≤ 40 ∧ 0 ≤ q.2 ∧ q.2 ≤ 40) : Txt.split (textOf m ars) ⟨#[10]⟩ = rowsOf m ars := by
  refine split_join (by simp [rowsOf]) fun z hz => ?_
  rcases List.mem_cons.mp hz with rfl | hz
  · exact row0_free h0 h1
  · obtain ⟨q, hq, rfl⟩ := List.mem_map.mp hz
    obtain ⟨a, b, c, d⟩ := ha q hq
    exact rowA_free a b c d
theorem rows_len {m : Int} {ars : List (Int × Int)} (h0 : 0 ≤ m) (h1 : m ≤ 40) (ha : ∀ q ∈ ars, 0 ≤ q.1 ∧ q.1 ≤ 40 ∧ 0 ≤ q.2 ∧ q.2 ≤ 40) : ∀ z ∈ rowsOf m ars, z.length ≤ 20 := fun z hz => by
  rcases List.mem_cons.mp hz with rfl | hz
  · exact row0_len h0 h1
  · obtain ⟨q, hq, rfl⟩ := List.mem_map.mp hz
    obtain ⟨a, b, c, d⟩ := ha q hq
    exact rowA_len a b c d
theorem rows_ok {m : Int} {ars : List (Int × Int)} (h0 : 0 ≤ m) (h1 : m ≤ 40) (ha : ∀ q ∈ ars, 0 ≤ q.1 ∧ q.1 ≤ 40 ∧ 0 ≤ q.2 ∧ q.2 ≤ 40) (hl : ars.length ≤ 200) : JoinOk ⟨#[10]⟩ (rowsOf m ars) = true := by
  refine PyProof.Rows.joinOk_of_weight ?_ (by decide)
  have := PySem.StrLaws.sumLen_le (B := 20) (rowsOf m ars) (rows_len h0 h1 ha)
  have e : (rowsOf m ars).length = ars.length + 1 := by simp [rowsOf]
  rw [e] at this ⊢
  omega
end Hk

namespace Hk
open PySem L2 PySem.W
section
variable {P : Program} {w : World} {K : Frag} {mg : Str → Option Value} {base : Heap}
theorem small100k {n : Nat} (h : n ≤ 100000) : n < sizeLine := Nat.lt_of_le_of_lt h (by decide)
def spNumR : Sp := fun vs H Q _ => ∃ z : Str, vs = [.str z] ∧ z.cps.all (· < 128) = true ∧ z.length ≤ 100000 ∧ ∀ H', Same H H' → Q (nrV z) H'
theorem fig_in (c : Nat) : (!(Builtin.Str.occurrences ("0123456789" : Str) ⟨#[c]⟩ 0 ("0123456789" : Str).length 1).isEmpty) = (decide (48 ≤ c) && decide (c ≤ 57)) := by
  rw [PySem.StrLaws.found_one]
  have e : ("0123456789" : Str).cps.toList = [48, 49, 50, 51, 52, 53, 54, 55, 56, 57] := by decide +kernel
  rw [e, Bool.eq_iff_iff]
  simp
  omega
theorem kn_numr (D : DefAt K mg "number_read" s_number_read ["word"]) (fr : Free mg ["all", "int", "len"]) (G1 : GlobI mg "MOST_FIGURES" 60) (G2 : GlobS mg "FIGURES" "0123456789") : Kn P w K mg base 1 "number_read" ["word"] spNumR := by
  have sc : FnScope ["word"] ["word"] (defScope s_number_read) := ⟨rfl, rfl, rfl, by decide +kernel, rfl, by decide +kernel, by decide +kernel⟩
  refine D.kn (N := ["word"]) sc (fun vs H Q E h => ?_) (fun f cdv A outer s H vs Q E hr h => ?_)
  · obtain ⟨z, rfl, _⟩ := h
    rfl
  · obtain ⟨z, rfl, hz, lz, kk⟩ := h
    obtain ⟨tk1, hg_MOST_FIGURES⟩ := G1.ex
    obtain ⟨tk2, hg_FIGURES⟩ := G2.ex
    have m_all := fr "all" (by simp)
    have m_int := fr "int" (by simp)
    have m_len := fr "len" (by simp)
    have nd0 : (["sign"] : List Str).Nodup := by decide +kernel
    have nd1 : (["sign"] : List Str).Nodup := by decide +kernel
    refine ⟨_, (pss_cons (ps_if (PW.pt (pw_or (pt_not (pt_chain op_le op_le pe_int (pe_callB call_len_str rfl m_len PySem.boot_len (pa_cons (pv 0) pa_nil)) (pe_glob (v := .int 60) rfl hg_MOST_FIGURES ⟨_, rfl⟩))) (pw_or1 (pt_not (pt_call (pe_callB (call_all_bl rfl) rfl m_all boot_fall (pa_cons (pe_lc (N := ["sign"]) (src := [none]) (cl := []) rfl ⟨rfl, rfl, rfl, rfl, trivial, rfl, rfl, rfl⟩ (gown_name (i := 0) rfl) (pi_str (pv 0)) (fun C s H fp => ⟨(pg_name (i := 0) nd1 rfl (Or.inl rfl)), pifs_nil, (pe_cmpR op_in_str (pv 0) (pe_glob (v := .str "0123456789") rfl hg_FIGURES ⟨_, rfl⟩) rfl)⟩)) pa_nil))))))) (pss_one (ps_ret pe_non)) pss_nil) (pss_cons (ps_if (PW.pt (pw_and (pt_cmpR op_eq (pe_ix ix_str (pv 0) pe_int (fun _ _ => rfl)) pe_str (nomark _)) (pw_and1 (pt_cmpR op_ne (pv 0) pe_str (nomark _))))) (pss_one (ps_ret pe_non)) pss_nil) (pss_one (ps_ret (pe_callTy call_int_text rfl m_int boot_tint (pa_cons (pv 0) pa_nil)))))), ?_⟩
    have lz' := Nat.le_of_lt (small100k lz)
    have none_ : nrB z = false → nrV z = .non := fun h => by unfold nrV; rw [h]; rfl
    refine ⟨_, rfl, z, rfl, lz', _, _, rfl, rfl, _, rfl, ite2 (fun c1 => ?_) (fun c1 => ?_)⟩
    · have c1 : 1 ≤ z.length := by have := of_decide_eq_true c1; omega
      refine ⟨_, _, rfl, rfl, _, rfl, ite2 (fun c2 => ?_) (fun c2 => ?_)⟩
      · have c2 : ¬ z.length ≤ 60 := by
          intro h
          have : ((z.length : Nat) : Int) ≤ 60 := by omega
          rw [decide_eq_true this] at c2
          exact absurd c2 (by decide)
        rw [none_ (by unfold nrB; rw [decide_eq_false c2]; simp)] at kk
        exact iteT (kk _ (Same.refl _))
      have c2 : z.length ≤ 60 := by
        by_cases h : z.length ≤ 60
        · exact h
        · have : ¬ ((z.length : Nat) : Int) ≤ 60 := by omega
          rw [decide_eq_false this] at c2
          exact absurd rfl c2
      refine ⟨_, rfl, z, rfl, hz, lc_str0 (z := z) (fun i zs H' => Same H H' ∧ zs = ((z.cps.toList.take i).map fun c => V.bl (decide (48 ≤ c) && decide (c ≤ 57)))) ⟨Same.refl _, rfl⟩ ?_ ?_ ?_⟩
      · rintro i zs H' hi ⟨s5, rfl⟩
        rw [List.length_map, List.length_take]
        have := len_cps z
        omega
      · rintro zs H' ⟨s5, rfl⟩ l hl
        have s6 := s5.trans (Same.upd (o := .lst ((z.cps.toList.take z.cps.size).map fun c => V.bl (decide (48 ≤ c) && decide (c ≤ 57)))) hl)
        refine ⟨l, z.cps.toList.map fun c => decide (48 ≤ c) && decide (c ≤ 57), rfl, SqL.of ?_, ?_⟩
        · rw [upd_same, List.take_of_length_le (Nat.le_of_eq (by simp)), List.map_map]
          rfl
        rw [List.all_map]
        refine ⟨_, rfl, ite2 (fun c3 => ?_) (fun c3 => ?_)⟩
        · have c3 : (z.cps.toList.all (id ∘ fun c => decide (48 ≤ c) && decide (c ≤ 57))) = false := by simpa using c3
          have c3 : (z.cps.toList.all fun c => decide (48 ≤ c) && decide (c ≤ 57)) = false := c3
          rw [none_ (by unfold nrB; rw [c3]; simp)] at kk
          exact kk _ s6
        have c3 : (z.cps.toList.all fun c => decide (48 ≤ c) && decide (c ≤ 57)) = true := by
          cases h : (z.cps.toList.all fun c => decide (48 ≤ c) && decide (c ≤ 57)) with
          | true => rfl
          | false => exact absurd (by rw [show (z.cps.toList.all (id ∘ fun c => decide (48 ≤ c) && decide (c ≤ 57))) = false from h]; rfl) c3
        have h0 : 0 < z.cps.toList.length := by rw [← len_cps]; omega
        obtain ⟨c, cs, ec⟩ : ∃ c cs, z.cps.toList = c :: cs := match z.cps.toList, h0 with | c :: cs, _ => ⟨c, cs, rfl⟩
        have hat : atI z.cps.toList 0 = some c := atI_nat (j := 0) (by rw [ec]; rfl)
        have hd : PySem.NumText.AllDigits z.cps.toList := fun d hd => by
          have := List.all_eq_true.mp c3 d hd
          simpa using this
        have hn : PySem.intText? z = some ((PySem.NumText.digitsVal z.cps.toList : Nat) : Int) := PySem.intText_digits hd (by rw [ec]; simp) (by omega)
        have eq0 : decide (V.str ⟨#[c]⟩ = V.str (Str.ofString "0")) = decide (z.cps.toList[0]? = some 48) := by
          rw [ec]
          have e0 : Str.ofString "0" = ⟨#[48]⟩ := by decide +kernel
          rw [e0, Bool.eq_iff_iff]
          simp
        have eq1 : (!decide (V.str z = V.str (Str.ofString "0"))) = decide (z ≠ Str.ofString "0") := by
          rw [Bool.eq_iff_iff]
          simp
        have hB : nrB z = !(decide (z.cps.toList[0]? = some 48) && decide (z ≠ Str.ofString "0")) := by
          unfold nrB
          rw [decide_eq_true c1, decide_eq_true c2, c3]
          rfl
        have yes : nrB z = true → nrV z = .int (PySem.NumText.digitsVal z.cps.toList : Nat) := fun h => by unfold nrV; rw [h]; rfl
        refine ⟨_, rfl, z, 0, c, rfl, rfl, lz', hat, rfl, _, rfl, ?_⟩
        rw [eq0]
        refine ite2 (fun c4 => ?_) (fun c4 => ?_)
        · refine ⟨_, rfl, rfl, _, rfl, ?_⟩
          rw [eq1]
          refine ite2 (fun c5 => ?_) (fun c5 => ?_)
          · rw [none_ (by rw [hB, c4, c5]; rfl)] at kk
            exact kk _ s6
          · rw [yes (by rw [hB, Bool.eq_false_iff.mpr c5]; simp)] at kk
            exact ⟨_, rfl, z, _, rfl, hn, by omega, kk _ s6⟩
        · rw [yes (by rw [hB, Bool.eq_false_iff.mpr c4]; simp)] at kk
          exact ⟨_, rfl, z, _, rfl, hn, by omega, kk _ s6⟩
      · rintro i c zs H' h1 hi ⟨s5, rfl⟩
        refine ⟨_, rfl, _, _, rfl, rfl, nx hi ⟨s5, ?_⟩⟩
        rw [fig_in, take_snoc _ _ c (by rw [← h1]; simp), List.map_append]
        rfl
    · have c1 : ¬ 1 ≤ z.length := by
        intro h
        have : (1 : Int) ≤ ((z.length : Nat) : Int) := by omega
        rw [decide_eq_true this] at c1
        exact c1 rfl
      rw [none_ (by unfold nrB; rw [decide_eq_false c1]; simp)] at kk
      exact ⟨_, rfl, iteT (kk _ (Same.refl _))⟩
theorem cut1W (us : List V) : cutV us (some 1) none = us.drop 1 := by
  unfold cutV
  have : HT.sIx us.length 0 (some 1) = min 1 us.length := HT.sIx_nat _ _ 1
  rw [this, HT.sIx_none]
  by_cases h : 1 ≤ us.length
  · rw [Nat.min_eq_left h]
    exact List.take_of_length_le (by rw [List.length_drop]; omega)
  · have e : us = [] := List.length_eq_zero_iff.mp (by omega)
    subst e
    rfl
def spRowR : Sp := fun vs H Q _ => ∃ (z w0 : Str) (r : List Str), vs = [.str z] ∧ z.length ≤ 100000 ∧ Txt.split z ⟨#[32]⟩ = w0 :: r ∧ r.length ≤ 99999 ∧ (∀ u ∈ r, u.cps.all (· < 128) = true ∧ u.length ≤ 100000) ∧
  ∀ (a t : Addr) (H' : Hp), Same H H' → H' a = some (.tup [.str w0, .ref t]) → H' t = some (.tup (r.map nrV)) → Q (.ref a) H'
theorem kn_rowr (D : DefAt K mg "row_read" s_row_read ["row"]) (fr : Free mg ["tuple"]) (kn : Kn P w K mg base 1 "number_read" ["word"] spNumR) : Kn P w K mg base 2 "row_read" ["row"] spRowR := by
  have sc : FnScope ["row", "words"] ["row"] (defScope s_row_read) := ⟨rfl, rfl, rfl, by decide +kernel, rfl, by decide +kernel, by decide +kernel⟩
  refine D.kn (N := ["row", "words"]) sc (fun vs H Q E h => ?_) (fun f cdv A outer s H vs Q E hr h => ?_)
  · obtain ⟨z, w0, r, rfl, _⟩ := h
    rfl
  · obtain ⟨z, w0, r, rfl, lz, es, lr, hr', kk⟩ := h
    have m_tuple := fr "tuple" (by simp)
    have nd0 : (["word"] : List Str).Nodup := by decide +kernel
    have nd1 : (["word"] : List Str).Nodup := by decide +kernel
    have nd2 : (["word"] : List Str).Nodup := by decide +kernel
    have nd3 : (["word"] : List Str).Nodup := by decide +kernel
    refine ⟨_, (pss_cons (ps_set (i := 1) sc.nd rfl (Or.inl rfl) (pe_bm PySem.F.plainAttrs_str PySem.F.slot_str_split PySem.F.type_str_split mt_split (pv 0) (pa_cons pe_str pa_nil))) (pss_one (ps_ret (pe_tup (pa_cons (pe_ix ix_list (pv 1) pe_int (fun _ _ => rfl)) (pa_cons (pe_callTy call_tuple_of rfl m_tuple boot_ttuple (pa_cons (pe_lc (N := ["word"]) (src := [none]) (cl := []) rfl ⟨rfl, rfl, rfl, rfl, trivial, rfl, rfl, rfl⟩ (gown_name (i := 0) rfl) (pi_list (pe_slice sl_list (pv 1) (po_some pe_int) po_none)) (fun C s H fp => ⟨(pg_name (i := 0) nd3 rfl (Or.inl rfl)), pifs_nil, (pe_kn kn hr (pa_cons (pv 0) pa_nil))⟩)) pa_nil)) pa_nil)))))), ?_⟩
    have lz' := Nat.le_of_lt (small100k lz)
    have e32 : Str.ofString " " = ⟨#[32]⟩ := by decide +kernel
    refine ⟨_, rfl, rfl, z, _, rfl, rfl, rfl, lz', ?_, fun D H1 s1 hD hD1 => ?_⟩
    · rw [e32, es]
      exact Nat.le_of_lt (small100k (by rw [List.length_cons]; omega))
    rw [e32, es] at hD1
    have hD1 : H1 D = some (.lst ((w0 :: r).map V.str)) := hD1
    refine gname_in ?_
    dsimp only
    refine ⟨_, rfl, D, _, 0, _, rfl, rfl, SqL.of hD1, (atI_nat (j := 0) rfl), ?_⟩
    refine ⟨_, rfl, _, rfl, D, _, rfl, SqL.of hD1, fun p hp => ?_⟩
    rw [cut1W]
    have s2 := s1.trans (Same.upd (o := .lst (((w0 :: r).map V.str).drop 1)) hp)
    have hp2 : upd H1 p (.lst (((w0 :: r).map V.str).drop 1)) p = some (.lst (r.map V.str)) := upd_same
    generalize upd H1 p (.lst (((w0 :: r).map V.str).drop 1)) = H2 at s2 hp2
    refine ⟨p, rfl, ⟨_, SqL.of hp2⟩, lc_list0 (xs := r.map V.str) (fun i zs H' => Same H2 H' ∧ zs = (r.take i).map nrV) ⟨Same.refl _, rfl⟩ ?_ ?_ ?_⟩
    · rintro i zs H' hi ⟨s5, rfl⟩
      refine ⟨SqL.of (s5 _ _ hp2), ?_⟩
      rw [List.length_map, List.length_take]
      exact Nat.le_of_lt (small100k (by omega))
    · rintro zs H' ⟨s5, rfl⟩ l hl
      rw [List.length_map, List.take_of_length_le (Nat.le_refl _)]
      refine ⟨l, _, rfl, .inl ⟨SqL.of upd_same, fun t ht => ⟨(by show 2 ≤ sizeLine; decide), fun a ha => ?_⟩⟩⟩
      have sA := Same.upd (o := .lst (r.map nrV)) hl
      have sB := Same.upd (o := .tup (r.map nrV)) ht
      have sC := Same.upd (o := .tup [.str w0, .ref t]) ha
      exact kk a t _ ((((s2.trans s5).trans sA).trans sB).trans sC) upd_same (sC _ _ upd_same)
    · rintro i x zs H' h1 hi ⟨s5, rfl⟩
      rw [List.getElem?_map] at h1
      obtain ⟨u, e1, rfl⟩ := Option.map_eq_some_iff.mp h1
      obtain ⟨a1, a2⟩ := hr' u (List.mem_of_getElem? e1)
      refine ⟨_, rfl, u, rfl, a1, a2, fun H5 s6 => nx hi ⟨s5.trans s6, ?_⟩⟩
      rw [take_snoc _ _ u e1, List.map_append]
      rfl
def NI (y : V) : Prop := y = .non ∨ ∃ i : Int, y = .int i
theorem NI.dat {H : Hp} {y : V} (h : NI y) : ∃ T, Dat H y T := by
  rcases h with rfl | ⟨i, rfl⟩
  · exact ⟨_, .non⟩
  · exact ⟨_, .int i⟩
theorem nr_NI (z : Str) : NI (nrV z) := by
  unfold nrV
  split
  · exact .inr ⟨_, rfl⟩
  · exact .inl rfl
def mnV : V → Bool
  | .int n => decide (1 ≤ n) && decide (n ≤ 40)
  | _ => false
def gdB (m : Int) (q : Int × Int) : Bool := (plG m (.int q.1) && plG m (.int q.2)) && !decide (V.int q.1 = V.int q.2)
def prI : List V → Option (Int × Int)
  | [.int a, .int b] => some (a, b)
  | _ => none
def pgL (m : Int) (ys : List V) : Bool := match prI ys with
  | some q => gdB m q
  | none => false
theorem prI_len {ys : List V} (h : ys.length ≠ 2) : prI ys = none := by
  match ys, h with
  | [], _ => rfl
  | [_], _ => simp [prI]
  | [_, _], h => exact absurd rfl h
  | _ :: _ :: _ :: _, _ => simp [prI]
def spManyV : Sp := fun vs H Q _ => ∃ x : V, vs = [x] ∧ NI x ∧ Q (.bl (mnV x)) H
theorem kn_manyV (D : DefAt K mg "many_good" s_many_good ["thing"]) (G : GlobI mg "MOST_PLACES" 40) (kw : Kn P w K mg base 1 "whole_good" ["thing"] spWhole) : Kn P w K mg base 2 "many_good" ["thing"] spManyV := by
  refine D.kn (N := ["thing"]) ⟨rfl, rfl, rfl, by decide +kernel, rfl, by decide +kernel, by decide +kernel⟩ (fun vs H Q E h => ?_) (fun f cdv A outer s H vs Q E hr h => ?_)
  · obtain ⟨x, rfl, _⟩ := h
    rfl
  · obtain ⟨x, rfl, ni, k⟩ := h
    obtain ⟨tk, hg⟩ := G.ex
    refine ⟨_, pss_one (ps_ret (pe_and (pe_kn kw hr (pa_cons (pv 0) pa_nil)) (pe_one (pe_chain op_le op_le pe_int (pv 0) (pe_glob (v := .int 40) rfl hg ⟨_, rfl⟩))))), ?_⟩
    rcases ni with rfl | ⟨i, rfl⟩
    · exact ⟨_, rfl, _, _, rfl, .non, _, rfl, iteF k⟩
    · refine ⟨_, rfl, _, _, rfl, .int i, _, rfl, iteT ?_⟩
      refine ⟨_, rfl, _, _, rfl, rfl, _, rfl, ite2 (fun h1 => ?_) (fun h1 => ?_)⟩
      · refine ⟨_, _, rfl, rfl, ?_⟩
        have e : mnV (.int i) = decide (i ≤ 40) := by simp [mnV, of_decide_eq_true h1]
        rw [e] at k
        exact k
      · have e : mnV (.int i) = false := by
          have h1 : ¬ 1 ≤ i := by simpa using h1
          simp [mnV, h1]
        rw [e] at k
        exact k
def spPairV : Sp := fun vs H Q _ => ∃ (a q : Addr) (m : Int) (y : V) (ys : List V), vs = [.ref a, .ref q] ∧ H a = some (.tup [.int m, y]) ∧ H q = some (.tup ys) ∧ (∀ y ∈ ys, NI y) ∧ Q (.bl (pgL m ys)) H
theorem kn_pairV (D : DefAt K mg "pair_good" s_pair_good ["web", "thing"]) (fr : Free mg ["isinstance", "tuple", "len"]) (kp : Kn P w K mg base 2 "place_good" ["web", "thing"] spPlace) : Kn P w K mg base 3 "pair_good" ["web", "thing"] spPairV := by
  have sc : FnScope ["web", "thing"] ["web", "thing"] (defScope s_pair_good) := ⟨rfl, rfl, rfl, by decide +kernel, rfl, by decide +kernel, by decide +kernel⟩
  refine D.kn (N := ["web", "thing"]) sc (fun vs H Q E h => ?_) (fun f cdv A outer s H vs Q E hr h => ?_)
  · obtain ⟨a, q, m, y, ys, rfl, _⟩ := h
    rfl
  · obtain ⟨a, q, m, y, ys, rfl, ha, hq, ni, kk⟩ := h
    have m1 := fr "isinstance" (by simp)
    have m2 := fr "tuple" (by simp)
    have m3 := fr "len" (by simp)
    refine ⟨_, pss_cons (ps_if (PW.pt (pw_or (pt_not (pt_call (pe_callB call_isi rfl m1 boot_isi (pa_cons (pv 1) (pa_cons (pe_bltn (v := .ty "tuple") rfl m2 boot_ttuple rfl) pa_nil))))) (pw_or1 (pt_cmpR op_ne (pe_callB call_len_seq rfl m3 PySem.boot_len (pa_cons (pv 1) pa_nil)) pe_int (nomark _))))) (pss_one (ps_ret pe_bl)) pss_nil)
      (pss_one (ps_ret (pe_and (pe_kn kp hr (pa_cons (pv 0) (pa_cons (pe_ix ix_tup (pv 1) pe_int (fun _ _ => rfl)) pa_nil))) (pe_and (pe_kn kp hr (pa_cons (pv 0) (pa_cons (pe_ix ix_tup (pv 1) pe_int (fun _ _ => rfl)) pa_nil))) (pe_one (pe_cmpR op_ne (pe_ix ix_tup (pv 1) pe_int (fun _ _ => rfl)) (pe_ix ix_tup (pv 1) pe_int (fun _ _ => rfl)) (nomark _))))))), ?_⟩
    refine ⟨_, rfl, _, "tuple", _, rfl, .tup hq, by simp, _, rfl, iteF ?_⟩
    refine ⟨_, rfl, q, _, rfl, .inr (SqT.of hq), rfl, _, rfl, ite2 (fun c => ?_) (fun c => ?_)⟩
    · have : pgL m ys = false := by
        unfold pgL
        rw [prI_len]
        intro z2
        rw [z2] at c
        exact absurd c (by decide)
      rw [this] at kk
      exact kk
    have l2 : ys.length = 2 := by
      by_cases e : ys.length = 2
      · exact e
      · exact absurd (show _ = true by simp; omega) c
    obtain ⟨x1, x2, rfl⟩ : ∃ x1 x2, ys = [x1, x2] := match ys, l2 with | [x1, x2], _ => ⟨x1, x2, rfl⟩
    have n1 := ni x1 (by simp)
    have n2 := ni x2 (by simp)
    obtain ⟨T1, d1⟩ := n1.dat (H := H)
    obtain ⟨T2, d2⟩ := n2.dat (H := H)
    refine ⟨_, rfl, _, rfl, q, _, _, _, rfl, rfl, SqT.of hq, rfl, a, m, y, x1, T1, rfl, ha, d1, _, rfl, ?_⟩
    rcases n1 with rfl | ⟨i, rfl⟩
    · exact iteF kk
    cases h1 : plG m (.int i) with
    | false =>
      have : pgL m [.int i, x2] = false := by
        unfold pgL prI
        rcases n2 with rfl | ⟨j, rfl⟩
        · rfl
        · show gdB m (i, j) = false
          unfold gdB
          rw [h1]
          rfl
      rw [this] at kk
      exact iteF kk
    | true =>
      refine iteT ⟨_, rfl, _, rfl, q, _, _, _, rfl, rfl, SqT.of hq, rfl, a, m, y, x2, T2, rfl, ha, d2, _, rfl, ?_⟩
      rcases n2 with rfl | ⟨j, rfl⟩
      · exact iteF kk
      have e : pgL m [.int i, .int j] = (plG m (.int j) && !decide (V.int i = V.int j)) := by
        show gdB m (i, j) = _
        unfold gdB
        rw [h1, Bool.true_and]
      rw [e] at kk
      cases h2 : plG m (.int j) with
      | false =>
        rw [h2] at kk
        exact iteF kk
      | true =>
        rw [h2, Bool.true_and] at kk
        exact iteT ⟨_, rfl, q, _, _, _, rfl, rfl, SqT.of hq, rfl, _, rfl, q, _, _, _, rfl, rfl, SqT.of hq, rfl, rfl, kk⟩
def ltQ (x y : Int × Int) : Bool := HT.lexLt [x.1, x.2] [y.1, y.2]
def risQ (l : List (Int × Int)) : Bool := ((l.zip (l.drop 1)).map fun q => ltQ q.1 q.2).all id
theorem ltQ_of (x y : Int × Int) : ltQ x y = lexB x y := by
  unfold ltQ lexB
  rw [HT.lexLt_cons, HT.lexLt_cons, HT.lexLt_nil_nil]
  by_cases e : x.1 = y.1
  · rw [if_pos e]
    by_cases f : x.2 = y.2
    · rw [if_pos f, Bool.eq_iff_iff]
      simp
      omega
    · rw [if_neg f, Bool.eq_iff_iff]
      simp
      omega
  · rw [if_neg e, Bool.eq_iff_iff]
    simp
    omega
def spRisL : Sp := fun vs H Q _ => ∃ (a : Addr) (us : List V) (prs : List (Int × Int)), vs = [.ref a] ∧ H a = some (.lst us) ∧ Ars H us prs ∧ us.length ≤ 1000 ∧ ∀ H', Same H H' → Q (.bl (risQ prs)) H'
theorem kn_risL (D : DefAt K mg "rises" s_rises ["things"]) (fr : Free mg ["all", "zip"]) : Kn P w K mg base 1 "rises" ["things"] spRisL := by
  have sc : FnScope ["things"] ["things"] (defScope s_rises) := ⟨rfl, rfl, rfl, by decide +kernel, rfl, by decide +kernel, by decide +kernel⟩
  refine D.kn (N := ["things"]) sc (fun vs H Q E h => ?_) (fun f cdv A outer s H vs Q E hr h => ?_)
  · obtain ⟨a, us, prs, rfl, _⟩ := h
    rfl
  · obtain ⟨a, us, prs, rfl, ha, ars, hl, k⟩ := h
    have hu := hu_of hr
    have m_all := fr "all" (by simp)
    have m_zip := fr "zip" (by simp)
    have nd0 : (["ahead", "behind"] : List Str).Nodup := by decide +kernel
    have nd1 : (["ahead", "behind"] : List Str).Nodup := by decide +kernel
    refine ⟨_, (pss_one (ps_ret (pe_callB (call_all_bl rfl) rfl m_all boot_fall (pa_cons (pe_lc (N := ["ahead", "behind"]) (src := [none, none]) (cl := []) rfl ⟨rfl, rfl, rfl, rfl, trivial, rfl, rfl, rfl⟩ (gown_pair (i := 0) (j := 1) rfl rfl) (pi_zipM rfl m_zip (pa_cons (pv 0) (pa_cons (pe_slice sl_list (pv 0) (po_some pe_int) po_none) pa_nil))) (fun C s H fp => ⟨(pg_tup (n := 2) rfl (pgs_cons (pg_name (i := 0) nd1 rfl (Or.inl rfl)) (pgs_cons (pg_name (i := 1) nd1 rfl (Or.inl rfl)) pgs_nil))), pifs_nil, (pe_cmpR (r := rLtT K) (op_ltT (Nat.lt_of_succ_lt hu)) (pv 0) (pv 1) (nomark _))⟩)) pa_nil)))), ?_⟩
    have len := arsLen ars
    refine ⟨_, rfl, _, rfl, _, rfl, a, _, rfl, SqL.of ha, fun p hp => ?_⟩
    rw [cut1W]
    have s1 := Same.upd (o := .lst (us.drop 1)) hp
    have hp1 : upd H p (.lst (us.drop 1)) p = some (.lst (us.drop 1)) := upd_same
    generalize upd H p (.lst (us.drop 1)) = H1 at s1 hp1
    refine ⟨a, p, _, _, rfl, s1 _ _ ha, hp1, lc_zipM0 (xs := us) (ys := us.drop 1) ?_ (fun i zs H' => Same H1 H' ∧ zs = ((prs.zip (prs.drop 1)).take i).map fun q => V.bl (ltQ q.1 q.2)) ⟨Same.refl _, rfl⟩ ?_ ?_ ?_⟩
    · rw [List.length_drop]
      omega
    · rintro i zs H' hi ⟨s2, rfl⟩
      refine ⟨s2 _ _ (s1 _ _ ha), s2 _ _ hp1, ?_⟩
      rw [List.length_map, List.length_take, List.length_zip]
      exact Nat.le_of_lt (small1000 (by omega))
    · rintro zs H' ⟨s2, rfl⟩ l hl
      refine ⟨l, ((prs.zip (prs.drop 1)).map fun (q : (Int × Int) × Int × Int) => ltQ q.1 q.2), rfl, SqL.of ?_, k _ ((s1.trans s2).trans (Same.upd hl))⟩
      rw [upd_same, List.take_of_length_le (by rw [List.length_zip, List.length_drop, List.length_drop]; omega), List.map_map]
      rfl
    · rintro i v u zs H' q h1 h2 hi ⟨s2, rfl⟩ hq
      have sq := s2.trans (Same.upd (o := .tup [v, u]) hq)
      obtain ⟨x, e1, rx, rfl, hx⟩ := Paired.get' ((ars.mono s1).mono sq) h1
      rw [List.getElem?_drop] at h2
      obtain ⟨y, e2, ry, rfl, hy⟩ := Paired.get' ((ars.mono s1).mono sq) h2
      refine ⟨q, _, rfl, SqT.of upd_same, rfl, _, _, rfl, _, _, rfl, rfl, ?_⟩
      refine ⟨_, rfl, _, rfl, rx, ry, [x.1, x.2], [y.1, y.2], rfl, rfl, SqT.of hx, SqT.of hy, nx hi ⟨sq, ?_⟩⟩
      rw [take_snoc (prs.zip (prs.drop 1)) i (x, y) (by rw [List.getElem?_zip_eq_some, List.getElem?_drop]; exact ⟨e1, e2⟩), List.map_append]
      rfl
end
end Hk

namespace Hk
open PySem L2 PySem.W
section
variable {P : Program} {w : World} {K : Frag} {mg : Str → Option Value} {base : Heap}
def RowOk (z w0 : Str) (r : List Str) : Prop := z.length ≤ 100000 ∧ Txt.split z ⟨#[32]⟩ = w0 :: r ∧ r.length ≤ 99999 ∧ ∀ u ∈ r, u.cps.all (· < 128) = true ∧ u.length ≤ 100000
def mtV (w0 : Str) : List Str → V
  | [u] => if (decide (V.str w0 = V.str (Str.ofString "web")) && mnV (nrV u)) = true then nrV u else .non
  | _ => .non
def spMT : Sp := fun vs H Q _ => ∃ (z w0 : Str) (r : List Str), vs = [.str z] ∧ RowOk z w0 r ∧ ∀ H' : Hp, Same H H' → Q (mtV w0 r) H'
theorem mtV_w {w0 : Str} {r : List Str} (h : decide (V.str w0 = V.str (Str.ofString "web")) = false) : mtV w0 r = .non := by
  unfold mtV
  split
  · rw [h]
    rfl
  · rfl
theorem mtV_l {w0 : Str} {r : List Str} (h : r.length ≠ 1) : mtV w0 r = .non := by
  unfold mtV
  split
  · exact absurd rfl h
  · rfl
theorem kn_mt (D : DefAt K mg "many_told" s_many_told ["row"]) (fr : Free mg ["len"]) (kr : Kn P w K mg base 2 "row_read" ["row"] spRowR) (km : Kn P w K mg base 2 "many_good" ["thing"] spManyV) : Kn P w K mg base 3 "many_told" ["row"] spMT := by
  have sc : FnScope ["row", "found"] ["row"] (defScope s_many_told) := ⟨rfl, rfl, rfl, by decide +kernel, rfl, by decide +kernel, by decide +kernel⟩
  refine D.kn (N := ["row", "found"]) sc (fun vs H Q E h => ?_) (fun f cdv A outer s H vs Q E hr h => ?_)
  · obtain ⟨z, w0, r, rfl, _⟩ := h
    rfl
  · obtain ⟨z, w0, r, rfl, ⟨lz, es, lr, hr'⟩, kk⟩ := h
    have r2 := hr.mono (j := 2) (by decide)
    have m_len := fr "len" (by simp)
    refine ⟨_, (pss_cons (ps_set (i := 1) sc.nd rfl (Or.inl rfl) (pe_kn kr r2 (pa_cons (pv 0) pa_nil))) (pss_cons (ps_if (PW.pt (pw_or (pt_cmpR op_ne (pe_ix ix_tup (pv 1) pe_int (fun _ _ => rfl)) pe_str (nomark _)) (pw_or (pt_cmpR op_ne (pe_callB call_len_seq rfl m_len PySem.boot_len (pa_cons (pe_ix ix_tup (pv 1) pe_int (fun _ _ => rfl)) pa_nil)) pe_int (nomark _)) (pw_or1 (pt_not (pt_call (pe_kn km r2 (pa_cons (pe_ix ix_tup (pe_ix ix_tup (pv 1) pe_int (fun _ _ => rfl)) pe_int (fun _ _ => rfl)) pa_nil)))))))) (pss_one (ps_ret pe_non)) pss_nil) (pss_one (ps_ret (pe_ix ix_tup (pe_ix ix_tup (pv 1) pe_int (fun _ _ => rfl)) pe_int (fun _ _ => rfl)))))), ?_⟩
    refine ⟨_, rfl, z, w0, r, rfl, lz, es, lr, hr', fun a t H1 s1 ha ht => ?_⟩
    refine gname_in ?_
    dsimp only
    refine ⟨_, rfl, a, _, 0, _, rfl, rfl, SqT.of ha, rfl, rfl, _, rfl, ite2 (fun c => ?_) (fun c => ?_)⟩
    · rw [mtV_w (by simpa using c)] at kk
      exact kk _ s1
    have cw : decide (V.str w0 = V.str (Str.ofString "web")) = true := by simpa using c
    refine ⟨_, rfl, a, _, 1, _, rfl, rfl, SqT.of ha, rfl, t, _, rfl, .inr (SqT.of ht), rfl, _, rfl, ite2 (fun c => ?_) (fun c => ?_)⟩
    · rw [mtV_l (by
        intro z2
        rw [List.length_map, z2] at c
        exact absurd c (by decide))] at kk
      exact kk _ s1
    have l1 : r.length = 1 := by
      by_cases e : r.length = 1
      · exact e
      · exact absurd (show _ = true by rw [List.length_map]; simp; omega) c
    obtain ⟨u, rfl⟩ : ∃ u, r = [u] := match r, l1 with | [u], _ => ⟨u, rfl⟩
    refine ⟨_, rfl, a, _, 1, _, rfl, rfl, SqT.of ha, rfl, t, _, 0, _, rfl, rfl, SqT.of ht, rfl, _, rfl, nr_NI u, _, rfl, ?_⟩
    have e : mtV w0 [u] = if mnV (nrV u) = true then nrV u else .non := by
      unfold mtV
      rw [cw]
      rfl
    rw [e] at kk
    refine ite2 (fun c => ?_) (fun c => ?_)
    · rw [if_neg (by intro z2; rw [z2] at c; exact absurd c (by decide))] at kk
      exact kk _ s1
    · have c2 : mnV (nrV u) = true := by
        cases h : mnV (nrV u) with
        | true => rfl
        | false => exact absurd (by rw [h]; rfl) c
      rw [if_pos c2] at kk
      exact ⟨_, rfl, a, _, 1, _, rfl, rfl, SqT.of ha, rfl, t, _, 0, _, rfl, rfl, SqT.of ht, rfl, kk _ s1⟩
theorem prI_eq {ys : List V} {q : Int × Int} (h : prI ys = some q) : ys = [.int q.1, .int q.2] := by
  unfold prI at h
  split at h
  · cases h
    rfl
  · cases h
def atO (m : Int) (w0 : Str) (r : List Str) : Option (Int × Int) := if decide (V.str w0 = V.str (Str.ofString "arrow")) = true then (match prI (r.map nrV) with
    | some q => if gdB m q = true then some q else none
    | none => none) else none
theorem pgL_none (m : Int) {ys : List V} (h : prI ys = none) : pgL m ys = false := by
  unfold pgL
  rw [h]
theorem pgL_some (m : Int) {ys : List V} {q : Int × Int} (h : prI ys = some q) : pgL m ys = gdB m q := by
  unfold pgL
  rw [h]
theorem atO_none (m : Int) {w0 : Str} {r : List Str} (cw : decide (V.str w0 = V.str (Str.ofString "arrow")) = true) (h : prI (r.map nrV) = none) : atO m w0 r = none := by
  unfold atO
  rw [if_pos cw, h]
theorem atO_some (m : Int) {w0 : Str} {r : List Str} {q : Int × Int} (cw : decide (V.str w0 = V.str (Str.ofString "arrow")) = true) (h : prI (r.map nrV) = some q) : atO m w0 r = if gdB m q = true then some q else none := by
  unfold atO
  rw [if_pos cw, h]
def spAT : Sp := fun vs H Q _ => ∃ (m : Int) (z w0 : Str) (r : List Str), vs = [.int m, .str z] ∧ RowOk z w0 r ∧ (∀ H' : Hp, atO m w0 r = none → Same H H' → Q .non H') ∧ ∀ (q : Int × Int) (t : Addr) (H' : Hp), atO m w0 r = some q → Same H H' → H' t = some (.tup [.int q.1, .int q.2]) → Q (.ref t) H'
theorem kn_at (D : DefAt K mg "arrow_told" s_arrow_told ["many", "row"])  (kr : Kn P w K mg base 2 "row_read" ["row"] spRowR) (kp : Kn P w K mg base 3 "pair_good" ["web", "thing"] spPairV) : Kn P w K mg base 4 "arrow_told" ["many", "row"] spAT := by
  have sc : FnScope ["many", "row", "found"] ["many", "row"] (defScope s_arrow_told) := ⟨rfl, rfl, rfl, by decide +kernel, rfl, by decide +kernel, by decide +kernel⟩
  refine D.kn (N := ["many", "row", "found"]) sc (fun vs H Q E h => ?_) (fun f cdv A outer s H vs Q E hr h => ?_)
  · obtain ⟨m, z, w0, r, rfl, _⟩ := h
    rfl
  · obtain ⟨m, z, w0, r, rfl, ⟨lz, es, lr, hr'⟩, kN, kk⟩ := h
    have r2 := hr.mono (j := 2) (by decide)
    have r3 := hr.mono (j := 3) (by decide)
    
    refine ⟨_, (pss_cons (ps_set (i := 2) sc.nd rfl (Or.inl rfl) (pe_kn kr r2 (pa_cons (pv 1) pa_nil))) (pss_cons (ps_if (PW.pt (pw_or (pt_cmpR op_ne (pe_ix ix_tup (pv 2) pe_int (fun _ _ => rfl)) pe_str (nomark _)) (pw_or1 (pt_not (pt_call (pe_kn kp r3 (pa_cons (pe_tup (pa_cons (pv 0) (pa_cons (pe_tup pa_nil) pa_nil))) (pa_cons (pe_ix ix_tup (pv 2) pe_int (fun _ _ => rfl)) pa_nil)))))))) (pss_one (ps_ret pe_non)) pss_nil) (pss_one (ps_ret (pe_ix ix_tup (pv 2) pe_int (fun _ _ => rfl)))))), ?_⟩
    refine ⟨_, rfl, z, w0, r, rfl, lz, es, lr, hr', fun a t H1 s1 ha ht => ?_⟩
    refine gname_in ?_
    dsimp only
    refine ⟨_, rfl, a, _, 0, _, rfl, rfl, SqT.of ha, rfl, rfl, _, rfl, ite2 (fun c => ?_) (fun c => ?_)⟩
    · have : atO m w0 r = none := by
        unfold atO
        rw [if_neg (by intro h; rw [h] at c; exact absurd c (by decide))]
      exact kN _ this s1
    have cw : decide (V.str w0 = V.str (Str.ofString "arrow")) = true := by simpa using c
    refine ⟨_, rfl, (by show 0 ≤ sizeLine; decide), fun e0 he0 => ⟨(by show 2 ≤ sizeLine; decide), fun b hb => ?_⟩⟩
    have s2 := s1.trans (Same.upd (o := .tup []) he0)
    have s3 := Same.upd (o := .tup [.int m, .ref e0]) hb
    have s4 := s2.trans s3
    have ha2 := s3 _ _ (Same.upd (o := .tup []) he0 _ _ ha)
    have ht2 := s3 _ _ (Same.upd (o := .tup []) he0 _ _ ht)
    have hb2 : upd (upd H1 e0 (.tup [])) b (.tup [.int m, .ref e0]) b = some (.tup [.int m, .ref e0]) := upd_same
    generalize upd (upd H1 e0 (.tup [])) b (.tup [.int m, .ref e0]) = H2 at s3 s4 ha2 ht2 hb2
    have ni : ∀ y ∈ r.map nrV, NI y := fun y hy => by
      obtain ⟨u, _, rfl⟩ := List.mem_map.mp hy
      exact nr_NI u
    refine ⟨_, rfl, a, _, 1, _, rfl, rfl, SqT.of ha2, rfl, b, t, m, _, _, rfl, hb2, ht2, ni, _, rfl, ite2 (fun c => ?_) (fun c => ?_)⟩
    · refine kN _ ?_ s4
      cases hq : prI (r.map nrV) with
      | none => exact atO_none m cw hq
      | some q =>
        rw [pgL_some m hq] at c
        rw [atO_some m cw hq]
        exact if_neg fun z => by rw [z] at c; exact absurd c (by decide)
    · cases hq : prI (r.map nrV) with
      | none =>
        rw [pgL_none m hq] at c
        exact absurd rfl c
      | some q =>
        rw [pgL_some m hq] at c
        have gd : gdB m q = true := by
          cases h : gdB m q with
          | true => rfl
          | false => exact absurd (by rw [h]; rfl) c
        have e := atO_some m cw hq
        rw [if_pos gd] at e
        have er := prI_eq hq
        rw [er] at ht2
        exact ⟨_, rfl, a, _, 1, _, rfl, rfl, SqT.of ha2, rfl, kk q t _ e s4 ht2⟩
end
end Hk

namespace Hk
open PySem L2 PySem.W
section
variable {P : Program} {w : World} {K : Frag} {mg : Str → Option Value} {base : Heap}
def rowF (i : Int) : List (Str × V) := [("row", .int i)]
def spInitNT (K : Frag) : Sp := fun vs H Q _ => ∃ C bm y i, vs = [.ref y, .int i] ∧ XIn K C bm ∧ FldsOf K C ["row"] ∧ H y = some (isX C y) ∧ i.natAbs.log2 < 1920 ∧
  ∀ D H2, H D = none → D ≠ y → H2 y = some (isXo C y (some D)) → H2 D = some (isN D (rowF i)) → (∀ b, b ≠ y → b ≠ D → H2 b = H b) → Q .non H2
theorem ok_init_NoText {f fW CW : Addr} {fd fdW : FuncData} (F : FunD K "__init__" "NoText.__init__" s_NoText_init f fd) (hW : mg "WebError" = some (.ref CW)) (M : CMeth K CW "__init__" fW) (okW : FnOk P w K mg base CX0 1 fW fdW ["self", "words"] (spInitW K)) (bW : Binds K fdW ["self", "words"] []) :
    FnOk P w K mg base CX0 2 f fd ["self", "row"] (spInitNT K) := by
  have sc : FnScope ["self", "row"] ["self", "row"] (defScope s_NoText_init) := ⟨rfl, rfl, rfl, by decide +kernel, rfl, by decide +kernel, by decide +kernel⟩
  refine F.ok (N := ["self", "row"]) sc (fun vs H Q E h => ?_) (fun cdv A outer s H vs Q E hr h => ?_)
  · obtain ⟨C, bm, y, i, rfl, _⟩ := h
    rfl
  · obtain ⟨C, bm, y, i, rfl, hC, T, hy, hi, q⟩ := h
    refine ⟨_, pss_cons (ps_expr (pe_cmeth rfl hW M okW hr bW pass0 (pa_cons (pv 0) (pa_cons (pe_fstr (pj_cons pe_str (pj_cons (pe_fv (pv 1)) pj_nil))) pa_nil)))) (pss_one (ps_xfld (pv 0) (pv 1))), ?_⟩
    have n1 := T.no "row" (by simp)
    have l2 : ∀ x : Str, (Str.empty ++ x).length = x.length := fun x => by rw [strLen_append]; show 0 + _ = _; omega
    have e1 : (Str.ofString "this text writes no web: row ").length ≤ 100 := by decide
    refine ⟨_, rfl, _, rfl, ?_, _, rfl, i, rfl, hi, fun x hx => ⟨x, rfl, ?_, C, bm, y, _, rfl, hC, hy, ?_⟩⟩
    · rw [l2, sizeLine_eq]; omega
    · rw [strLen_append, l2, sizeLine_eq]; omega
    · refine ⟨_, rfl, _, rfl, y, C, rfl, T.xs, n1, .inl ⟨hy, fun D hD hne => ?_⟩⟩
      refine q D _ hD hne upd_same ?_ fun b h1 h2 => ?_
      · rw [upd_ne hne]
        exact upd_same
      · rw [upd_ne h1, upd_ne h2]
end
end Hk

namespace Hk
open PySem L2 Builtin.Str
theorem jl_mem {c : Nat} : ∀ {p : List (List Nat)} {z : List Nat}, z ∈ p → ∀ x ∈ z, x ∈ jl c p
  | [], _, h, _, _ => nomatch h
  | [y], z, h, x, hx => by
    rw [List.mem_singleton] at h
    subst h
    exact hx
  | y :: y' :: r, z, h, x, hx => by
    show x ∈ y ++ c :: jl c (y' :: r)
    rcases List.mem_cons.mp h with rfl | h
    · exact List.mem_append_left _ hx
    · exact List.mem_append_right _ (List.mem_cons_of_mem _ (jl_mem h x hx))
theorem jl_part {c : Nat} : ∀ {p : List (List Nat)} {z : List Nat}, z ∈ p → z.length ≤ (jl c p).length
  | [], _, h => nomatch h
  | [y], z, h => by
    rw [List.mem_singleton] at h
    subst h
    exact Nat.le_refl _
  | y :: y' :: r, z, h => by
    show z.length ≤ (y ++ c :: jl c (y' :: r)).length
    rw [List.length_append, List.length_cons]
    rcases List.mem_cons.mp h with rfl | h
    · omega
    · have := jl_part (c := c) h
      omega
theorem jl_many {c : Nat} : ∀ (p : List (List Nat)), p.length ≤ (jl c p).length + 1
  | [] => by simp
  | [y] => by simp
  | y :: y' :: r => by
    show (y :: y' :: r).length ≤ (y ++ c :: jl c (y' :: r)).length + 1
    have := jl_many (c := c) (y' :: r)
    simp only [List.length_append, List.length_cons] at this ⊢
    omega
theorem split_cps (x : Str) (c : Nat) : jl c ((Txt.split x ⟨#[c]⟩).map fun z => z.cps.toList) = x.cps.toList := by
  rw [← join_cps, PySem.StrLaws.join_split]
theorem split_len (x : Str) (c : Nat) : (Txt.split x ⟨#[c]⟩).length ≤ x.length + 1 := by
  have := jl_many (c := c) ((Txt.split x ⟨#[c]⟩).map fun z => z.cps.toList)
  rw [split_cps, List.length_map, ← len_cps] at this
  exact this
def Asc (z : Str) : Prop := z.cps.all (· < 128) = true
theorem asc_iff {z : Str} : Asc z ↔ ∀ c ∈ z.cps.toList, c < 128 := by
  unfold Asc
  rw [← Array.all_toList, List.all_eq_true]
  exact ⟨fun h c hc => of_decide_eq_true (h c hc), fun h c hc => decide_eq_true (h c hc)⟩
theorem split_asc {x u : Str} {c : Nat} (h : Asc x) (hu : u ∈ Txt.split x ⟨#[c]⟩) : Asc u := by
  rw [asc_iff] at h ⊢
  intro d hd
  refine h d ?_
  rw [← split_cps x c]
  exact jl_mem (List.mem_map.mpr ⟨u, hu, rfl⟩) d hd
theorem split_part {x u : Str} {c : Nat} (hu : u ∈ Txt.split x ⟨#[c]⟩) : u.length ≤ x.length := by
  rw [len_cps, len_cps x, ← split_cps x c]
  exact jl_part (List.mem_map.mpr ⟨u, hu, rfl⟩)
def wdsOf (z : Str) : List Str := Txt.split z ⟨#[32]⟩
def hdW (z : Str) : Str := (wdsOf z).headD Str.empty
def tlW (z : Str) : List Str := (wdsOf z).tail
theorem wds_eq (z : Str) : Txt.split z ⟨#[32]⟩ = hdW z :: tlW z := by
  unfold hdW tlW wdsOf
  cases h : Txt.split z ⟨#[32]⟩ with
  | nil => exact absurd h (split_ne _ _)
  | cons a b => rfl
theorem row_ok {z : Str} (ha : Asc z) (hl : z.length ≤ 90000) : RowOk z (hdW z) (tlW z) := by
  have e := wds_eq z
  refine ⟨by omega, e, ?_, fun u hu => ?_⟩
  · have := split_len z 32
    rw [e, List.length_cons] at this
    omega
  · have hm : u ∈ Txt.split z ⟨#[32]⟩ := by rw [e]; exact List.mem_cons_of_mem _ hu
    exact ⟨split_asc ha hm, Nat.le_trans (split_part hm) (by omega)⟩
def rowM (z : Str) : V := mtV (hdW z) (tlW z)
def rowT (m : Int) (z : Str) : Option (Int × Int) := atO m (hdW z) (tlW z)
def okQ (acc : List (Int × Int)) (q : Int × Int) : Bool := risQ (acc.drop (acc.length - 1) ++ [q]) && !decide (acc.length = 200)
def wkD (m : Int) : List Str → List (Int × Int) → Nat → Option Nat
  | [], _, _ => none
  | r :: rs, acc, n => (rowT m r).elim (some n) fun q => if okQ acc q = true then wkD m rs (acc ++ [q]) (n + 1) else some n
def rowsT (z : Str) : List Str := Txt.split z ⟨#[10]⟩
def dueT (z : Str) : Option Nat := match rowM ((rowsT z).headD Str.empty) with
  | .int m => wkD m (rowsT z).tail [] 2
  | _ => some 1
theorem rowM_NI (z : Str) : rowM z = .non ∨ ∃ m : Int, rowM z = .int m ∧ 1 ≤ m ∧ m ≤ 40 := by
  unfold rowM mtV
  split
  · next u _ =>
    by_cases h : (decide (V.str (hdW z) = V.str (Str.ofString "web")) && mnV (nrV u)) = true
    · rw [if_pos h]
      rw [Bool.and_eq_true] at h
      rcases nr_NI u with e | ⟨i, e⟩
      · rw [e] at h
        exact absurd h.2 (by decide)
      · rw [e] at h ⊢
        have h2 : (decide (1 ≤ i) && decide (i ≤ 40)) = true := h.2
        rw [Bool.and_eq_true] at h2
        exact .inr ⟨i, rfl, of_decide_eq_true h2.1, of_decide_eq_true h2.2⟩
    · rw [if_neg h]
      exact .inl rfl
  · exact .inl rfl
theorem dueT_non {z : Str} (h : rowM ((rowsT z).headD Str.empty) = .non) : dueT z = some 1 := by
  unfold dueT
  rw [h]
theorem dueT_int {z : Str} {m : Int} (h : rowM ((rowsT z).headD Str.empty) = .int m) : dueT z = wkD m (rowsT z).tail [] 2 := by
  unfold dueT
  rw [h]
theorem rowsT_eq (z : Str) : rowsT z = (rowsT z).headD Str.empty :: (rowsT z).tail := by
  unfold rowsT
  cases h : Txt.split z ⟨#[10]⟩ with
  | nil => exact absurd h (split_ne _ _)
  | cons a b => rfl
end Hk

namespace Hk
open PySem L2 PySem.W
section
variable {P : Program} {w : World} {K : Frag} {mg : Str → Option Value} {base : Heap}
theorem pr_app {α β : Type} {F : α → β → Prop} : ∀ {l l' : List α} {r r' : List β}, Paired F l r → Paired F l' r' → Paired F (l ++ l') (r ++ r')
  | _, _, _, _, .nil, h => h
  | _, _, _, _, .cons a b, h => .cons a (pr_app b h)
theorem pr_drop {α β : Type} {F : α → β → Prop} : ∀ {l : List α} {r : List β} (n : Nat), Paired F l r → Paired F (l.drop n) (r.drop n)
  | _, _, 0, h => h
  | _, _, _ + 1, .nil => .nil
  | _, _, n + 1, .cons _ b => pr_drop n b
theorem cutL1 (us : List V) : cutV us (some (-1)) none = us.drop (us.length - 1) := by
  unfold cutV
  have : HT.sIx us.length 0 (some (-1)) = us.length - 1 := by
    unfold HT.sIx
    simp
    omega
  rw [this, HT.sIx_none]
  exact List.take_of_length_le (by rw [List.length_drop]; omega)
theorem n10 : Str.ofString "\n" = ⟨#[10]⟩ := by decide +kernel
def TxtOk (z : Str) : Prop := Asc z ∧ z.length ≤ 90000
def spWRX (CT : Addr) : Sp := fun vs H Q E => ∃ x : V, vs = [x] ∧ ((∃ T, Dat H x T ∧ T ≠ "str" ∧ ∀ H', Same H H' → EX CT (rowF 0) H' E) ∨
  ∃ z : Str, x = .str z ∧ TxtOk z ∧ (∀ (n : Nat) (H' : Hp), dueT z = some n → Same H H' → EX CT (rowF (n : Int)) H' E) ∧ (dueT z = none → ∀ v H', Same H H' → Q v H'))
theorem small90k (i : Int) (h0 : 0 ≤ i) (h1 : i ≤ 100000) : i.natAbs.log2 < 1920 := by
  by_cases z : i.natAbs = 0
  · rw [z]
    decide
  · have h2 : i.natAbs ≤ 100000 := by omega
    exact (Nat.log2_lt z).mpr (Nat.lt_of_le_of_lt h2 (by decide))
theorem wkD_cons (m : Int) (r : Str) (rs : List Str) (acc : List (Int × Int)) (n : Nat) : wkD m (r :: rs) acc n = (rowT m r).elim (some n) fun q => if okQ acc q = true then wkD m rs (acc ++ [q]) (n + 1) else some n := rfl
theorem drop_at {α : Type} {l : List α} {i : Nat} {x : α} (h : l[i]? = some x) : l.drop i = x :: l.drop (i + 1) := by
  obtain ⟨hi, e⟩ := List.getElem?_eq_some_iff.mp h
  rw [List.drop_eq_getElem_cons hi, e]
theorem knx_wr {CT fN : Addr} {bm : List Value} {fdN : FuncData} (D : DefAt K mg "web_read" s_web_read ["text"]) (fr : Free mg ["enumerate", "isinstance", "len", "str", "tuple"]) (G : GlobI mg "MOST_ARROWS" 200) (km : Kn P w K mg base 3 "many_told" ["row"] spMT) (ka : Kn P w K mg base 4 "arrow_told" ["many", "row"] spAT) (kr : Kn P w K mg base 1 "rises" ["things"] spRisL)
    (M : XMk K CT fN bm) (hN : mg "NoText" = some (.ref CT)) (okN : FnOk P w K mg base CX0 2 fN fdN ["self", "row"] (spInitNT K)) (bN : Binds K fdN ["self", "row"] []) (T : FldsOf K CT ["row"]) : KnX P w K mg base 5 "web_read" ["text"] (spWRX CT) := by
  have sc : FnScope ["text", "rows", "many", "arrows", "number", "row", "arrow"] ["text"] (defScope s_web_read) := ⟨rfl, rfl, rfl, by decide +kernel, rfl, by decide +kernel, by decide +kernel⟩
  refine D.knx (N := ["text", "rows", "many", "arrows", "number", "row", "arrow"]) sc (fun vs H Q E h => ?_) (fun f cdv A outer s H vs Q E hr h => ?_)
  · obtain ⟨x, rfl, _⟩ := h
    rfl
  · obtain ⟨x, rfl, h⟩ := h
    have r1 := hr.mono (j := 1) (by decide)
    have r2 := hr.mono (j := 2) (by decide)
    have r3 := hr.mono (j := 3) (by decide)
    have r4 := hr.mono (j := 4) (by decide)
    obtain ⟨tk1, hg_MOST_ARROWS⟩ := G.ex
    have m_enumerate := fr "enumerate" (by simp)
    have m_isinstance := fr "isinstance" (by simp)
    have m_len := fr "len" (by simp)
    have m_str := fr "str" (by simp)
    have m_tuple := fr "tuple" (by simp)
    refine ⟨_, (pss_cons (ps_if (pt_not (pt_call (pe_callB call_isi rfl m_isinstance boot_isi (pa_cons (pv 0) (pa_cons (pe_bltn (v := .ty "str") rfl m_str boot_tstr rfl) pa_nil))))) (pss_one (ps_raiseD M.toXIn (pe_xmake M okN r3 rfl hN bN pass0 (pa_cons pe_int pa_nil)))) pss_nil) (pss_cons (ps_set (i := 1) sc.nd rfl (Or.inl rfl) (pe_bm PySem.F.plainAttrs_str PySem.F.slot_str_split PySem.F.type_str_split mt_split (pv 0) (pa_cons pe_str pa_nil))) (pss_cons (ps_set (i := 2) sc.nd rfl (Or.inl rfl) (pe_kn km r3 (pa_cons (pe_ix ix_list (pv 1) pe_int (fun _ _ => rfl)) pa_nil))) (pss_cons (ps_if (pt_cmpR op_isN (pv 2) pe_non (nomark _)) (pss_one (ps_raiseD M.toXIn (pe_xmake M okN r3 rfl hN bN pass0 (pa_cons pe_int pa_nil)))) pss_nil) (pss_cons (ps_set (i := 3) sc.nd rfl (Or.inl rfl) (pe_lst pa_nil)) (pss_cons (ps_for PassesOwn.leaving rfl (pi_enumS rfl m_enumerate (pa_cons (pe_slice sl_list (pv 1) (po_some pe_int) po_none) pa_nil) (pk_cons pe_int pk_nil)) (pg_tup (n := 2) rfl (pgs_cons (pg_name (i := 4) sc.nd rfl (Or.inl rfl)) (pgs_cons (pg_name (i := 5) sc.nd rfl (Or.inl rfl)) pgs_nil))) (pss_cons (ps_set (i := 6) sc.nd rfl (Or.inl rfl) (pe_kn ka r4 (pa_cons (pv 2) (pa_cons (pv 5) pa_nil)))) (pss_cons (ps_if (PW.pt (pw_or (pt_cmpR op_isN (pv 6) pe_non (nomark _)) (pw_or (pt_not (pt_call (pe_kn kr r1 (pa_cons (pe_op op_cat (pe_slice sl_list (pv 3) (po_some (pe_un un_neg pe_int)) po_none) (pe_lst (pa_cons (pv 6) pa_nil))) pa_nil)))) (pw_or1 (pt_cmpR op_eq (pe_callB call_len_seq rfl m_len PySem.boot_len (pa_cons (pv 3) pa_nil)) (pe_glob (v := .int 200) rfl hg_MOST_ARROWS ⟨_, rfl⟩) (nomark _)))))) (pss_one (ps_raiseD M.toXIn (pe_xmake M okN r3 rfl hN bN pass0 (pa_cons (pv 4) pa_nil)))) pss_nil) (pss_one (ps_expr (pe_bm PySem.F.plainAttrs_list PySem.F.slot_list_append PySem.F.type_list_append mt_append (pv 3) (pa_cons (pv 6) pa_nil))))))) (pss_one (ps_ret (pe_tup (pa_cons (pv 2) (pa_cons (pe_callTy call_tuple_of rfl m_tuple boot_ttuple (pa_cons (pv 3) pa_nil)) pa_nil))))))))))), ?_⟩
    rcases h with ⟨T0, dx, nT, kk⟩ | ⟨z, rfl, ⟨az, lz⟩, kx, kq⟩
    · refine ⟨_, rfl, x, "str", T0, rfl, dx, by simp, _, rfl, ?_⟩
      have kf : kitB T0 "str" = false := by
        cases dx <;> first | exact absurd rfl nT | decide
      rw [kf]
      exact iteT ⟨(by show 1 ≤ 1000; decide), fun y hy hn => ⟨CT, bm, y, 0, rfl, M.toXIn, T, upd_same, by decide, fun D' H2 hD hne h1 h2 same => ⟨rfl, y, some D', rfl, h1, hn, (kk H (Same.refl _)).fly hy hD hne h2 same⟩⟩⟩
    have esp : Txt.split z (Str.ofString "\n") = rowsT z := by
      rw [n10]
      rfl
    have lrow : (rowsT z).length ≤ z.length + 1 := split_len z 10
    have rok : ∀ u ∈ rowsT z, RowOk u (hdW u) (tlW u) := fun u hu => row_ok (split_asc az hu) (Nat.le_trans (split_part hu) lz)
    obtain ⟨r0, rs, er⟩ : ∃ r0 rs, rowsT z = r0 :: rs := ⟨_, _, rowsT_eq z⟩
    have e0 : (rowsT z).headD Str.empty = r0 := by rw [er]; rfl
    have e1 : (rowsT z).tail = rs := by rw [er]; rfl
    refine ⟨_, rfl, _, "str", _, rfl, .str _, by simp, _, rfl, iteF ?_⟩
    refine ⟨_, rfl, rfl, z, _, rfl, rfl, (by rw [n10]; rfl), Nat.le_of_lt (small100k (by omega)), ?_, fun D H1 s1 hD hD1 => ?_⟩
    · rw [esp]
      exact Nat.le_of_lt (small100k (by omega))
    rw [esp, er] at hD1
    have hD1 : H1 D = some (.lst (V.str r0 :: rs.map V.str)) := hD1
    refine gname_in ?_
    dsimp only
    refine ⟨_, rfl, D, _, 0, _, rfl, rfl, SqL.of hD1, atI_nat (j := 0) rfl, r0, _, _, rfl, rok r0 (by rw [er]; simp), fun H2 s2 => ?_⟩
    refine gname_in ?_
    dsimp only
    rcases rowM_NI r0 with hm | ⟨m, hm, m1, m2⟩
    · have hm' : mtV (hdW r0) (tlW r0) = .non := hm
      rw [hm']
      refine ⟨_, rfl, rfl, _, rfl, iteT ?_⟩
      have du : dueT z = some 1 := dueT_non (by rw [e0]; exact hm)
      exact ⟨(by show 1 ≤ 1000; decide), fun y hy hn => ⟨CT, bm, y, 1, rfl, M.toXIn, T, upd_same, by decide, fun D' H3 hD hne h1 h2 same => ⟨rfl, y, some D', rfl, h1, hn, (kx 1 H2 du (s1.trans s2)).fly hy hD hne h2 same⟩⟩⟩
    have hm' : mtV (hdW r0) (tlW r0) = .int m := hm
    rw [hm']
    have du : dueT z = wkD m rs [] 2 := by
      rw [dueT_int (by rw [e0]; exact hm), e1]
    refine ⟨_, rfl, rfl, _, rfl, iteF ?_⟩
    refine ⟨(by show 0 ≤ sizeLine; decide), fun l hl => ?_⟩
    refine gname_in ?_
    dsimp only
    have s3 := Same.upd (o := .lst []) hl
    have hl3 : upd H2 l (.lst []) l = some (.lst []) := upd_same
    have hD3 := s3 _ _ (s2 _ _ hD1)
    have s13 := (s1.trans s2).trans s3
    have nl : H l = none := by
      cases e : H l with
      | none => rfl
      | some o =>
        have := s2 _ _ (s1 _ _ e)
        rw [hl] at this
        cases this
    generalize upd H2 l (.lst []) = H3 at s3 hl3 hD3 s13
    refine ⟨_, rfl, _, rfl, D, _, rfl, SqL.of hD3, fun p hp => ?_⟩
    rw [cut1W]
    have s4 := Same.upd (o := .lst ((V.str r0 :: rs.map V.str).drop 1)) hp
    have hp4 : upd H3 p (.lst ((V.str r0 :: rs.map V.str).drop 1)) p = some (.lst (rs.map V.str)) := upd_same
    have s14 := s13.trans s4
    have hl4 := s4 _ _ hl3
    have npl : p ≠ l := fun e => by
      rw [e, hl3] at hp
      cases hp
    generalize upd H3 p (.lst ((V.str r0 :: rs.map V.str).drop 1)) = H4 at s4 hp4 s14 hl4
    have lrs : rs.length ≤ 90000 := by
      rw [er, List.length_cons] at lrow
      omega
    refine ⟨p, _, rfl, rfl, hp4, for_enumS (xs := rs.map V.str) (fun i σ H5 => ∃ v4 v5 v6 us acc, σ = [some (.str z), some (.ref D), some (.int m), some (.ref l), v4, v5, v6] ∧ Same H H5 ∧ H5 p = some (.lst (rs.map V.str)) ∧ H5 l = some (.lst us) ∧ Ars H5 us acc ∧ acc.length = i ∧ acc.length ≤ 200 ∧ dueT z = wkD m (rs.drop i) acc (i + 2))
      ⟨none, none, none, [], [], rfl, s14, hp4, hl4, .nil, rfl, Nat.zero_le _, du⟩ (fun i σ H5 _ ⟨_, _, _, _, _, _, _, h, _⟩ => h) ?_ ?_⟩
    · rintro i y σ H5 pr hi ⟨v4, v5, v6, us, acc, rfl, s5, hp5, hl5, ar, la, l2, hw⟩ hpr
      rw [List.getElem?_map] at hi
      obtain ⟨row, e1, rfl⟩ := Option.map_eq_some_iff.mp hi
      have il : i < rs.length := (List.getElem?_eq_some_iff.mp e1).1
      rw [drop_at e1, wkD_cons] at hw
      have lut : us.length = acc.length := arsLen ar
      have s6 := Same.upd (o := .tup [.int ((i + 2 : Nat) : Int), .str row]) hpr
      have hpr6 : upd H5 pr (.tup [.int ((i + 2 : Nat) : Int), .str row]) pr = some (.tup [.int ((i + 2 : Nat) : Int), .str row]) := upd_same
      have hp6 := s6 _ _ hp5
      have hl6 := s6 _ _ hl5
      have ar6 := ar.mono s6
      have s56 := s5.trans s6
      generalize upd H5 pr (.tup [.int ((i + 2 : Nat) : Int), .str row]) = H6 at s6 hpr6 hp6 hl6 ar6 s56
      refine ⟨pr, _, rfl, SqT.of hpr6, rfl, _, _, rfl, _, _, rfl, rfl, ?_⟩
      refine ⟨_, rfl, _, rfl, m, row, _, _, rfl, rok row (by rw [er]; exact List.mem_cons_of_mem _ (List.mem_of_getElem? e1)), fun H7 e s7 => ?_, fun q t H7 e s7 ht => ?_⟩
      · have e : rowT m row = none := e
        rw [e] at hw
        have hw : dueT z = some (i + 2) := hw
        refine gname_in ?_
        dsimp only
        refine ⟨_, rfl, rfl, _, rfl, iteT ?_⟩
        exact ⟨_, rfl, (by show 1 ≤ 1000; decide), fun y hy hn => ⟨CT, bm, y, ((i + 2 : Nat) : Int), rfl, M.toXIn, T, upd_same, small90k _ (by omega) (by omega), fun D' H8 hD hne h1 h2 same => ⟨rfl, y, some D', rfl, h1, hn, (kx (i + 2) H7 hw (s56.trans s7)).fly hy hD hne h2 same⟩⟩⟩
      have e : rowT m row = some q := e
      rw [e] at hw
      have hw : dueT z = if okQ acc q = true then wkD m (rs.drop (i + 1)) (acc ++ [q]) (i + 2 + 1) else some (i + 2) := hw
      have hl7 := s7 _ _ hl6
      have ar7 := ar6.mono s7
      refine gname_in ?_
      dsimp only
      refine ⟨_, rfl, rfl, _, rfl, iteF ?_⟩
      refine ⟨_, rfl, _, rfl, _, rfl, l, us, rfl, SqL.of hl7, fun p1 hp1 => ?_⟩
      rw [cutL1]
      have s8 := Same.upd (o := .lst (us.drop (us.length - 1))) hp1
      refine ⟨_, rfl, (by show 1 ≤ sizeLine; decide), fun p2 hp2 => ?_⟩
      have s9 := Same.upd (o := .lst [.ref t]) hp2
      refine ⟨p1, p2, _, _, rfl, rfl, s9 _ _ upd_same, upd_same, ?_, fun p3 hp3 => ?_⟩
      · rw [List.length_drop]
        exact Nat.le_of_lt (small1000 (by simp only [List.length_cons, List.length_nil]; omega))
      have s10 := Same.upd (o := .lst (us.drop (us.length - 1) ++ [.ref t])) hp3
      have sA := (s8.trans s9).trans s10
      have arX := pr_app (l' := [V.ref t]) (r' := [q]) (pr_drop (us.length - 1) (ar7.mono sA)) (.cons ⟨t, rfl, sA _ _ ht⟩ .nil)
      refine ⟨p3, _, acc.drop (acc.length - 1) ++ [q], rfl, upd_same, (by rw [← lut]; exact arX), ?_, fun H8 s11 => ?_⟩
      · rw [List.length_append, List.length_drop, List.length_cons, List.length_nil]
        omega
      have sB := sA.trans s11
      have sC := (s56.trans s7).trans sB
      cases er2 : risQ (acc.drop (acc.length - 1) ++ [q]) with
      | false =>
        have ok0 : okQ acc q = false := by
          unfold okQ
          rw [er2]
          rfl
        rw [if_neg (by rw [ok0]; exact Bool.false_ne_true)] at hw
        refine ⟨_, rfl, iteT ?_⟩
        exact ⟨_, rfl, (by show 1 ≤ 1000; decide), fun y hy hn => ⟨CT, bm, y, ((i + 2 : Nat) : Int), rfl, M.toXIn, T, upd_same, small90k _ (by omega) (by omega), fun D' H9 hD hne h1 h2 same => ⟨rfl, y, some D', rfl, h1, hn, (kx (i + 2) H8 hw sC).fly hy hD hne h2 same⟩⟩⟩
      | true =>
        refine ⟨_, rfl, iteF ?_⟩
        have hl8 := sB _ _ hl7
        refine ⟨_, rfl, l, _, rfl, .inl (SqL.of hl8), rfl, _, rfl, ite2 (fun c => ?_) (fun c => ?_)⟩
        · have c := of_decide_eq_true c
          have c : (us.length : Int) = 200 := by injection c
          have ok0 : okQ acc q = false := by
            unfold okQ
            rw [decide_eq_true (by omega : acc.length = 200), er2]
            rfl
          rw [if_neg (by rw [ok0]; exact Bool.false_ne_true)] at hw
          exact ⟨_, rfl, (by show 1 ≤ 1000; decide), fun y hy hn => ⟨CT, bm, y, ((i + 2 : Nat) : Int), rfl, M.toXIn, T, upd_same, small90k _ (by omega) (by omega), fun D' H9 hD hne h1 h2 same => ⟨rfl, y, some D', rfl, h1, hn, (kx (i + 2) H8 hw sC).fly hy hD hne h2 same⟩⟩⟩
        · have c : ¬ us.length = 200 := fun z2 => c (decide_eq_true (by rw [z2]; rfl))
          have ok1 : okQ acc q = true := by
            unfold okQ
            rw [decide_eq_false (by omega : ¬ acc.length = 200), er2]
            rfl
          rw [if_pos ok1] at hw
          refine ⟨_, rfl, .inl ⟨rfl, _, SqL.of hl8⟩, _, rfl, l, _, _, rfl, rfl, hl8, small1000 (by omega), ?_⟩
          have arB := ar7.mono sB
          refine ⟨_, _, _, us ++ [.ref t], acc ++ [q], rfl, fun b o hb => ?_, ?_, upd_same, ?_, by rw [List.length_append, la]; rfl, by rw [List.length_append, List.length_singleton]; omega, hw⟩
          · rw [upd_ne (ne_of_none hb nl)]
            exact sC _ _ hb
          · rw [upd_ne npl]
            exact sB _ _ (s7 _ _ hp6)
          · refine Paired.snoc (Paired.mapP arB fun v z ⟨b, e, h⟩ => ⟨b, e, ?_⟩) ⟨t, rfl, ?_⟩
            · rw [upd_ne (ne_of h hl8 (by intro z; cases z))]
              exact h
            · have ht8 := sB _ _ ht
              rw [upd_ne (ne_of ht8 hl8 (by intro z; cases z))]
              exact ht8
    · rintro σ H5 ⟨v4, v5, v6, us, acc, rfl, s5, hp5, hl5, ar, la, l2, hw⟩
      rw [List.drop_eq_nil_of_le (by rw [List.length_map]; exact Nat.le_refl _)] at hw
      have lu := arsLen ar
      refine ⟨_, rfl, _, rfl, l, _, rfl, .inl ⟨SqL.of hl5, fun t ht => ⟨(by show 2 ≤ sizeLine; decide), fun a ha => ?_⟩⟩⟩
      have s6 := Same.upd (o := .tup us) ht
      have s7 := Same.upd (o := .tup [.int m, .ref t]) ha
      exact kq hw _ _ ((s5.trans s6).trans s7)
end
end Hk

namespace L2
open PySem PySem.Spec PyProof.Rows
section
variable {K : PySem.W.Frag} {g : TG} {tc : TT} {te : TE} {σ : St} {H : Hp} {R : List V → Hp → Prop}
theorem lc_strT {z : Str} (Pv : Nat → List V → Hp → Prop) (h0 : Pv 0 [] H) (hl : ∀ i zs H, i ≤ z.cps.size → Pv i zs H → zs.length ≤ sizeLine) (hd : ∀ zs H, Pv z.cps.size zs H → R zs H)
    (hs : ∀ i c zs H, z.cps[i]? = some c → i < z.cps.size → Pv i zs H → g (.str ⟨#[c]⟩) σ H fun σ2 H2 => tc σ2 H2 fun b H3 =>
      if b = true then te σ2 H3 fun y H4 => ∃ m', m' < z.cps.size - i ∧ Wn z.cps.size Pv (i + 1) m' (zs ++ [y]) H4 else ∃ m', m' < z.cps.size - i ∧ Wn z.cps.size Pv (i + 1) m' zs H3) :
    ∃ W : Nat → Nat → List V → Hp → Prop, (∃ m, W 0 m [] H) ∧ ∀ i m ys H, W i m ys H → ((Its z).stop i H ∧ ys.length ≤ sizeLine ∧ R ys H) ∨
      ((Its z).go i H ∧ ys.length ≤ sizeLine ∧ ∀ x H', (Its z).yld i H x H' → g x σ H' fun σ2 H2 => tc σ2 H2 fun b H3 =>
        if b = true then te σ2 H3 fun y H4 => ∃ m', m' < m ∧ W (i + 1) m' (ys ++ [y]) H4 else ∃ m', m' < m ∧ W (i + 1) m' ys H3) := by
  refine lc_by z.cps.size Pv h0 (fun zs H p => ⟨Nat.le_refl _, hl _ zs H (Nat.le_refl _) p, hd zs H p⟩) (fun i zs H hi p => ⟨hi, hl i zs H (Nat.le_of_lt hi) p, fun x H' y => ?_⟩)
  obtain ⟨e, c, y1, y2⟩ := y
  subst e y2
  exact hs i c zs _ y1 hi p
end
end L2
namespace Hk
open PySem L2 PySem.W
section
variable {P : Program} {w : World} {K : Frag} {mg : Str → Option Value} {base : Heap}
theorem fig_out (c : Nat) : (!(!(Builtin.Str.occurrences (Str.ofString "0123456789") ⟨#[c]⟩ 0 (Str.ofString "0123456789").length 1).isEmpty)) = !(decide (48 ≤ c) && decide (c ≤ 57)) := by
  have := fig_in c
  rw [show ("0123456789" : Str) = Str.ofString "0123456789" from rfl] at this
  rw [this]
theorem kn_value (D : DefAt K mg "_law_value" s_law_value ["word"]) (fr : Free mg ["int", "len", "range"]) : Kn P w K mg base 1 "_law_value" ["word"] spNumR := by
  have sc : FnScope ["word"] ["word"] (defScope s_law_value) := ⟨rfl, rfl, rfl, by decide +kernel, rfl, by decide +kernel, by decide +kernel⟩
  refine D.kn (N := ["word"]) sc (fun vs H Q E h => ?_) (fun f cdv A outer s H vs Q E hr h => ?_)
  · obtain ⟨z, rfl, _⟩ := h
    rfl
  · obtain ⟨z, rfl, hz, lz, kk⟩ := h
    have hu := hu_of hr
    have m_int := fr "int" (by simp)
    have m_len := fr "len" (by simp)
    have m_range := fr "range" (by simp)
    have nd0 : (["sign"] : List Str).Nodup := by decide +kernel
    refine ⟨_, (pss_cons (ps_if (PW.pt (pw_or (pt_cmpR op_notInRng (pe_callB call_len_str rfl m_len PySem.boot_len (pa_cons (pv 0) pa_nil)) (pe_callTy call_rng2 rfl m_range boot_trng (pa_cons pe_int (pa_cons pe_int pa_nil))) rfl) (pw_or1 (pt_cmpR (op_neNil (Nat.lt_of_succ_lt hu)) (pe_lc (N := ["sign"]) (src := [none]) (cl := []) rfl ⟨rfl, rfl, rfl, rfl, trivial, rfl, rfl, rfl⟩ (gown_name (i := 0) rfl) (pi_str (pv 0)) (fun C s H fp => ⟨(pg_name (i := 0) nd0 rfl (Or.inl rfl)), (pifs_one (pt_cmpR op_notIn_str (pv 0) pe_str rfl)), (pv 0)⟩)) (pe_lst pa_nil) (nomark _))))) (pss_one (ps_ret pe_non)) pss_nil) (pss_cons (ps_if (PW.pt (pw_and (pt_cmpR op_eq (pe_ix ix_str (pv 0) pe_int (fun _ _ => rfl)) pe_str (nomark _)) (pw_and1 (pt_cmpR op_ne (pv 0) pe_str (nomark _))))) (pss_one (ps_ret pe_non)) pss_nil) (pss_one (ps_ret (pe_callTy call_int_text rfl m_int boot_tint (pa_cons (pv 0) pa_nil)))))), ?_⟩
    have lz' := Nat.le_of_lt (small100k lz)
    have none_ : nrB z = false → nrV z = .non := fun h => by unfold nrV; rw [h]; rfl
    refine ⟨_, rfl, z, rfl, lz', 1, 61, rfl, fun p hp => ?_⟩
    have s1 := Same.upd (o := .rng 1 61) hp
    have hp1 : upd H p (.rng 1 61) p = some (.rng 1 61) := upd_same
    generalize upd H p (.rng 1 61) = H1 at s1 hp1
    refine ⟨_, 1, 61, p, rfl, rfl, hp1, _, rfl, ite2 (fun c1 => ?_) (fun c1 => ?_)⟩
    · have c1 : ¬ (1 ≤ z.length ∧ z.length ≤ 60) := fun hh => by
        have d1 : (1 : Int) ≤ ((z.length : Nat) : Int) := by omega
        have d2 : ((z.length : Nat) : Int) < 61 := by omega
        have c1 : (!(decide ((1 : Int) ≤ ((z.length : Nat) : Int)) && decide (((z.length : Nat) : Int) < 61))) = true := c1
        rw [decide_eq_true d1, decide_eq_true d2] at c1
        exact absurd c1 (by decide)
      rw [none_ (by
        unfold nrB
        by_cases d1 : 1 ≤ z.length
        · rw [decide_eq_false (fun d2 => c1 ⟨d1, d2⟩)]
          simp
        · rw [decide_eq_false d1]
          simp)] at kk
      exact kk _ s1
    have c2 : 1 ≤ z.length ∧ z.length ≤ 60 := by
      by_cases hh : 1 ≤ z.length ∧ z.length ≤ 60
      · exact hh
      · refine absurd (show (!(decide ((1 : Int) ≤ ((z.length : Nat) : Int)) && decide (((z.length : Nat) : Int) < 61))) = true from ?_) c1
        rw [Bool.not_eq_true', Bool.and_eq_false_iff]
        by_cases d1 : 1 ≤ z.length
        · exact .inr (decide_eq_false (by omega))
        · exact .inl (decide_eq_false (by omega))
    obtain ⟨c1, c2⟩ := c2
    refine ⟨_, rfl, z, rfl, hz, lc_strT (z := z) (fun i zs H' => Same H1 H' ∧ zs = ((z.cps.toList.take i).filter fun c => !(decide (48 ≤ c) && decide (c ≤ 57))).map fun c => V.str ⟨#[c]⟩) ⟨Same.refl _, rfl⟩ ?_ ?_ ?_⟩
    · rintro i zs H' hi ⟨s5, rfl⟩
      have := List.length_filter_le (fun c => !(decide (48 ≤ c) && decide (c ≤ 57))) (z.cps.toList.take i)
      rw [List.length_take] at this
      rw [List.length_map]
      have := len_cps z
      omega
    · rintro zs H' ⟨s5, rfl⟩ l hl
      rw [List.take_of_length_le (Nat.le_of_eq (by simp))]
      have s6 := (s1.trans s5).trans (Same.upd (o := .lst ((z.cps.toList.filter fun c => !(decide (48 ≤ c) && decide (c ≤ 57))).map fun c => V.str ⟨#[c]⟩)) hl)
      have hl6 : upd H' l (.lst ((z.cps.toList.filter fun c => !(decide (48 ≤ c) && decide (c ≤ 57))).map fun c => V.str ⟨#[c]⟩)) l = some (.lst ((z.cps.toList.filter fun c => !(decide (48 ≤ c) && decide (c ≤ 57))).map fun c => V.str ⟨#[c]⟩)) := upd_same
      generalize upd H' l (.lst ((z.cps.toList.filter fun c => !(decide (48 ≤ c) && decide (c ≤ 57))).map fun c => V.str ⟨#[c]⟩)) = H6 at s6 hl6
      refine ⟨(by show 0 ≤ sizeLine; decide), fun l2 hl2 => ?_⟩
      have s7 := Same.upd (o := .lst []) hl2
      have s67 := s6.trans s7
      refine ⟨l, l2, _, rfl, rfl, SqL.of (s7 _ _ hl6), SqL.of upd_same, _, rfl, ?_⟩
      have ee : ((z.cps.toList.filter fun c => !(decide (48 ≤ c) && decide (c ≤ 57))).map fun c => V.str ⟨#[c]⟩) = [] ↔ (z.cps.toList.all fun c => decide (48 ≤ c) && decide (c ≤ 57)) = true := by
        rw [List.map_eq_nil_iff, List.filter_eq_nil_iff, List.all_eq_true]
        exact ⟨fun h c hc => by simpa using h c hc, fun h c hc => by rw [h c hc]; decide⟩
      refine ite2 (fun c3 => ?_) (fun c3 => ?_)
      · have c3 : (z.cps.toList.all fun c => decide (48 ≤ c) && decide (c ≤ 57)) = false := by
          cases h : (z.cps.toList.all fun c => decide (48 ≤ c) && decide (c ≤ 57)) with
          | false => rfl
          | true =>
            rw [ee.mpr h] at c3
            exact absurd c3 (by decide)
        rw [none_ (by unfold nrB; rw [c3]; simp)] at kk
        exact kk _ s67
      have c3 : (z.cps.toList.all fun c => decide (48 ≤ c) && decide (c ≤ 57)) = true := by
        cases h : (z.cps.toList.all fun c => decide (48 ≤ c) && decide (c ≤ 57)) with
        | true => rfl
        | false =>
          by_cases he : ((z.cps.toList.filter fun c => !(decide (48 ≤ c) && decide (c ≤ 57))).map fun c => V.str ⟨#[c]⟩) = []
          · have := ee.mp he
            rw [h] at this
            cases this
          · exact absurd (by rw [List.isEmpty_eq_false_iff.mpr he]; rfl) c3
      have h0 : 0 < z.cps.toList.length := by rw [← len_cps]; omega
      obtain ⟨c, cs, ec⟩ : ∃ c cs, z.cps.toList = c :: cs := match z.cps.toList, h0 with | c :: cs, _ => ⟨c, cs, rfl⟩
      have hat : atI z.cps.toList 0 = some c := atI_nat (j := 0) (by rw [ec]; rfl)
      have hd : PySem.NumText.AllDigits z.cps.toList := fun d hd => by
        have := List.all_eq_true.mp c3 d hd
        simpa using this
      have hn : PySem.intText? z = some ((PySem.NumText.digitsVal z.cps.toList : Nat) : Int) := PySem.intText_digits hd (by rw [ec]; simp) (by omega)
      have eq0 : decide (V.str ⟨#[c]⟩ = V.str (Str.ofString "0")) = decide (z.cps.toList[0]? = some 48) := by
        rw [ec]
        have e0 : Str.ofString "0" = ⟨#[48]⟩ := by decide +kernel
        rw [e0, Bool.eq_iff_iff]
        simp
      have eq1 : (!decide (V.str z = V.str (Str.ofString "0"))) = decide (z ≠ Str.ofString "0") := by
        rw [Bool.eq_iff_iff]
        simp
      have hB : nrB z = !(decide (z.cps.toList[0]? = some 48) && decide (z ≠ Str.ofString "0")) := by
        unfold nrB
        rw [decide_eq_true c1, decide_eq_true c2, c3]
        rfl
      have yes : nrB z = true → nrV z = .int (PySem.NumText.digitsVal z.cps.toList : Nat) := fun h => by unfold nrV; rw [h]; rfl
      refine ⟨_, rfl, z, 0, c, rfl, rfl, lz', hat, rfl, _, rfl, ?_⟩
      rw [eq0]
      refine ite2 (fun c4 => ?_) (fun c4 => ?_)
      · refine ⟨_, rfl, rfl, _, rfl, ?_⟩
        rw [eq1]
        refine ite2 (fun c5 => ?_) (fun c5 => ?_)
        · rw [none_ (by rw [hB, c4, c5]; rfl)] at kk
          exact kk _ s67
        · rw [yes (by rw [hB, Bool.eq_false_iff.mpr c5]; simp)] at kk
          exact ⟨_, rfl, z, _, rfl, hn, by omega, kk _ s67⟩
      · rw [yes (by rw [hB, Bool.eq_false_iff.mpr c4]; simp)] at kk
        exact ⟨_, rfl, z, _, rfl, hn, by omega, kk _ s67⟩
    · rintro i c zs H' h1 hi ⟨s5, rfl⟩
      refine ⟨_, rfl, _, _, rfl, rfl, _, rfl, ?_⟩
      rw [fig_out]
      have e1 : z.cps.toList[i]? = some c := by rw [← h1]; simp
      have ts := take_snoc _ _ c e1
      refine ite2 (fun q => ?_) (fun q => ?_)
      · refine ⟨_, rfl, nx hi ⟨s5, ?_⟩⟩
        rw [ts, List.filter_append, List.map_append]
        have : ([c].filter fun c => !(decide (48 ≤ c) && decide (c ≤ 57))) = [c] := by rw [List.filter_cons, if_pos q]; rfl
        rw [this]
        rfl
      · refine nx hi ⟨s5, ?_⟩
        rw [ts, List.filter_append]
        have : ([c].filter fun c => !(decide (48 ≤ c) && decide (c ≤ 57))) = [] := by rw [List.filter_cons, if_neg q]; rfl
        rw [this, List.append_nil]
end
end Hk

namespace Hk
open PySem L2 PySem.W
def lastOk (acc : List (Int × Int)) (l : Int × Int) : Prop := (acc = [] ∧ l = (-1, -1)) ∨ ∃ a', acc = a' ++ [l]
theorem ris_le {acc : List (Int × Int)} {l q : Int × Int} (h : lastOk acc l) (h0 : 0 ≤ q.1) : risQ (acc.drop (acc.length - 1) ++ [q]) = !leP q.1 q.2 l.1 l.2 := by
  rcases h with ⟨rfl, rfl⟩ | ⟨a', rfl⟩
  · have : leP q.1 q.2 (-1) (-1) = false := by
      unfold leP
      rw [if_neg (by omega), decide_eq_false (by omega)]
    show true = !leP q.1 q.2 (-1) (-1)
    rw [this]
    rfl
  · have e : (a' ++ [l]).drop ((a' ++ [l]).length - 1) = [l] := by
      rw [List.length_append, List.length_cons, List.length_nil, Nat.add_sub_cancel]
      rw [List.drop_append_of_le_length (Nat.le_refl _), List.drop_length]
      rfl
    rw [e]
    show (ltQ l q && true) = _
    rw [ltQ_of, Bool.and_true]
    unfold lexB leP
    by_cases c : q.1 = l.1
    · rw [if_pos c, decide_eq_false (by omega), decide_eq_true (by omega : l.1 = q.1), Bool.false_or, Bool.true_and]
      by_cases d : l.2 < q.2
      · rw [decide_eq_true d, decide_eq_false (by omega)]; rfl
      · rw [decide_eq_false d, decide_eq_true (by omega)]; rfl
    · rw [if_neg c]
      by_cases d : l.1 < q.1
      · rw [decide_eq_true d, decide_eq_false (by omega : ¬ q.1 ≤ l.1)]; rfl
      · rw [decide_eq_false d, decide_eq_false (by omega : ¬ l.1 = q.1), decide_eq_true (by omega : q.1 ≤ l.1)]; rfl
theorem rowT_w {m : Int} {z : Str} (h : decide (V.str (hdW z) = V.str (Str.ofString "arrow")) = false) : rowT m z = none := by
  unfold rowT atO
  rw [if_neg (by rw [h]; exact Bool.false_ne_true)]
theorem rowT_l {m : Int} {z : Str} (h : (tlW z).length ≠ 2) : rowT m z = none := by
  cases c : decide (V.str (hdW z) = V.str (Str.ofString "arrow")) with
  | false => exact rowT_w c
  | true => exact atO_none m c (prI_len (by rw [List.length_map]; exact h))
theorem rowT_r {m : Int} {z u1 u2 : Str} (h : tlW z = [u1, u2]) (hr : inRV 0 m (nrV u1) = false ∨ inRV 0 m (nrV u2) = false ∨ nrV u1 = nrV u2) : rowT m z = none := by
  cases c : decide (V.str (hdW z) = V.str (Str.ofString "arrow")) with
  | false => exact rowT_w c
  | true =>
    cases hq : prI ((tlW z).map nrV) with
    | none => exact atO_none m c hq
    | some q =>
      have e := prI_eq hq
      rw [h] at e
      injection e with e1 e2
      injection e2 with e2 _
      have := atO_some m c hq
      unfold rowT
      rw [this]
      refine if_neg fun g => ?_
      have g : ((plG m (.int q.1) && plG m (.int q.2)) && !decide (V.int q.1 = V.int q.2)) = true := g
      rw [Bool.and_eq_true, Bool.and_eq_true] at g
      rw [e1, e2] at hr
      rcases hr with hr | hr | hr
      · have : plG m (.int q.1) = inRV 0 m (.int q.1) := rfl
        rw [this, hr] at g
        exact Bool.false_ne_true g.1.1
      · have : plG m (.int q.2) = inRV 0 m (.int q.2) := rfl
        rw [this, hr] at g
        exact Bool.false_ne_true g.1.2
      · rw [decide_eq_true hr] at g
        exact Bool.false_ne_true g.2
theorem rowT_s {m : Int} {z u1 u2 : Str} {a b : Int} (hw : decide (V.str (hdW z) = V.str (Str.ofString "arrow")) = true) (h : tlW z = [u1, u2]) (e1 : nrV u1 = .int a) (e2 : nrV u2 = .int b) (h1 : inRV 0 m (.int a) = true) (h2 : inRV 0 m (.int b) = true) (ne : a ≠ b) : rowT m z = some (a, b) := by
  have hq : prI ((tlW z).map nrV) = some (a, b) := by
    rw [h, List.map_cons, List.map_cons, List.map_nil, e1, e2]
    rfl
  unfold rowT
  rw [atO_some m hw hq]
  refine if_pos ?_
  show ((plG m (.int a) && plG m (.int b)) && !decide (V.int a = V.int b)) = true
  have p1 : plG m (.int a) = inRV 0 m (.int a) := rfl
  have p2 : plG m (.int b) = inRV 0 m (.int b) := rfl
  rw [p1, p2, h1, h2, decide_eq_false (fun e => ne (by injection e))]
  rfl
theorem wk_none {m : Int} {z : Str} {rs : List Str} {acc : List (Int × Int)} {n : Nat} (h : rowT m z = none) : wkD m (z :: rs) acc n = some n := by
  rw [wkD_cons, h]
  rfl
theorem wk_bad {m : Int} {z : Str} {rs : List Str} {acc : List (Int × Int)} {n : Nat} {q : Int × Int} (h : rowT m z = some q) (hk : okQ acc q = false) : wkD m (z :: rs) acc n = some n := by
  rw [wkD_cons, h]
  exact if_neg (by rw [hk]; exact Bool.false_ne_true)
theorem wk_ok {m : Int} {z : Str} {rs : List Str} {acc : List (Int × Int)} {n : Nat} {q : Int × Int} (h : rowT m z = some q) (hk : okQ acc q = true) : wkD m (z :: rs) acc n = wkD m rs (acc ++ [q]) (n + 1) := by
  rw [wkD_cons, h]
  exact if_pos hk
theorem wk_200 {m : Int} {z : Str} {rs : List Str} {acc : List (Int × Int)} {n : Nat} (h : acc.length = 200) : wkD m (z :: rs) acc n = some n := by
  cases e : rowT m z with
  | none => exact wk_none e
  | some q => exact wk_bad e (by unfold okQ; rw [decide_eq_true h]; simp)
theorem mn_in (x : V) (h : NI x) : mnV x = inRV 1 41 x := by
  rcases h with rfl | ⟨i, rfl⟩
  · rfl
  · show (decide (1 ≤ i) && decide (i ≤ 40)) = (decide (1 ≤ i) && decide (i < 41))
    rw [Bool.eq_iff_iff]
    simp
    omega
def dueV (z : Str) : V := match dueT z with
  | some n => .int (n : Int)
  | none => .non
theorem dueV_some {z : Str} {n : Nat} (h : dueT z = some n) : dueV z = .int (n : Int) := by unfold dueV; rw [h]
theorem dueV_none {z : Str} (h : dueT z = none) : dueV z = .non := by unfold dueV; rw [h]
section
variable {P : Program} {w : World} {K : Frag} {mg : Str → Option Value} {base : Heap}
def spDue : Sp := fun vs H Q _ => ∃ z : Str, vs = [.str z] ∧ TxtOk z ∧ ∀ H', Same H H' → Q (dueV z) H'
theorem kn_due (D : DefAt K mg "_law_due" s_law_due ["text"]) (fr : Free mg ["len", "range"]) (kv : Kn P w K mg base 1 "_law_value" ["word"] spNumR) : Kn P w K mg base 2 "_law_due" ["text"] spDue := by
  have sc : FnScope ["text", "rows", "words", "many", "last", "k", "pair"] ["text"] (defScope s_law_due) := ⟨rfl, rfl, rfl, by decide +kernel, rfl, by decide +kernel, by decide +kernel⟩
  refine D.kn (N := ["text", "rows", "words", "many", "last", "k", "pair"]) sc (fun vs H Q E h => ?_) (fun f cdv A outer s H vs Q E hr h => ?_)
  · obtain ⟨z, rfl, _⟩ := h
    rfl
  · obtain ⟨z, rfl, ⟨az, lz⟩, kk⟩ := h
    have hu := hu_of hr
    have r1 := hr.mono (j := 1) (by decide)
    have m_len := fr "len" (by simp)
    have m_range := fr "range" (by simp)
    refine ⟨_, (pss_cons (ps_set (i := 1) sc.nd rfl (Or.inl rfl) (pe_bm PySem.F.plainAttrs_str PySem.F.slot_str_split PySem.F.type_str_split mt_split (pv 0) (pa_cons pe_str pa_nil))) (pss_cons (ps_set (i := 2) sc.nd rfl (Or.inl rfl) (pe_bm PySem.F.plainAttrs_str PySem.F.slot_str_split PySem.F.type_str_split mt_split (pe_ix ix_list (pv 1) pe_int (fun _ _ => rfl)) (pa_cons pe_str pa_nil))) (pss_cons (ps_if (PW.pt (pw_or (pt_cmpR op_ne (pe_callB call_len_seq rfl m_len PySem.boot_len (pa_cons (pv 2) pa_nil)) pe_int (nomark _)) (pw_or (pt_cmpR op_ne (pe_ix ix_list (pv 2) pe_int (fun _ _ => rfl)) pe_str (nomark _)) (pw_or1 (pt_cmpR op_notInRngN (pe_kn kv r1 (pa_cons (pe_ix ix_list (pv 2) pe_int (fun _ _ => rfl)) pa_nil)) (pe_callTy call_rng2 rfl m_range boot_trng (pa_cons pe_int (pa_cons pe_int pa_nil))) rfl))))) (pss_one (ps_ret pe_int)) pss_nil) (pss_cons (ps_set (i := 3) sc.nd rfl (Or.inl rfl) (pe_kn kv r1 (pa_cons (pe_ix ix_list (pv 2) pe_int (fun _ _ => rfl)) pa_nil))) (pss_cons (ps_set (i := 4) sc.nd rfl (Or.inl rfl) (pe_tup (pa_cons (pe_un un_neg pe_int) (pa_cons (pe_un un_neg pe_int) pa_nil)))) (pss_cons (ps_for PassesOwn.never rfl (pi_range2 rfl m_range (pa_cons pe_int (pa_cons (pe_callB call_len_seq rfl m_len PySem.boot_len (pa_cons (pv 1) pa_nil)) pa_nil))) (pg_name (i := 5) sc.nd rfl (Or.inl rfl)) (pss_cons (ps_set (i := 2) sc.nd rfl (Or.inl rfl) (pe_bm PySem.F.plainAttrs_str PySem.F.slot_str_split PySem.F.type_str_split mt_split (pe_ix ix_list (pv 1) (pv 5) (fun _ _ => rfl)) (pa_cons pe_str pa_nil))) (pss_cons (ps_if (PW.pt (pw_or (pt_cmpR op_ne (pe_callB call_len_seq rfl m_len PySem.boot_len (pa_cons (pv 2) pa_nil)) pe_int (nomark _)) (pw_or (pt_cmpR op_ne (pe_ix ix_list (pv 2) pe_int (fun _ _ => rfl)) pe_str (nomark _)) (pw_or1 (pt_cmpR op_gt (pv 5) pe_int (nomark _)))))) (pss_one (ps_ret (pe_op op_add (pv 5) pe_int))) pss_nil) (pss_cons (ps_set (i := 6) sc.nd rfl (Or.inl rfl) (pe_tup (pa_cons (pe_kn kv r1 (pa_cons (pe_ix ix_list (pv 2) pe_int (fun _ _ => rfl)) pa_nil)) (pa_cons (pe_kn kv r1 (pa_cons (pe_ix ix_list (pv 2) pe_int (fun _ _ => rfl)) pa_nil)) pa_nil)))) (pss_cons (ps_if (PW.pt (pw_or (pt_cmpR op_notInRngN (pe_ix ix_tup (pv 6) pe_int (fun _ _ => rfl)) (pe_callTy call_rng1 rfl m_range boot_trng (pa_cons (pv 3) pa_nil)) rfl) (pw_or (pt_cmpR op_notInRngN (pe_ix ix_tup (pv 6) pe_int (fun _ _ => rfl)) (pe_callTy call_rng1 rfl m_range boot_trng (pa_cons (pv 3) pa_nil)) rfl) (pw_or (pt_cmpR op_eq (pe_ix ix_tup (pv 6) pe_int (fun _ _ => rfl)) (pe_ix ix_tup (pv 6) pe_int (fun _ _ => rfl)) (nomark _)) (pw_or1 (pt_cmpR (op_leP (Nat.lt_of_succ_lt hu)) (pv 6) (pv 4) (nomark _))))))) (pss_one (ps_ret (pe_op op_add (pv 5) pe_int))) pss_nil) (pss_one (ps_set (i := 4) sc.nd rfl (Or.inl rfl) (pv 6)))))))) (pss_one (ps_ret pe_non)))))))), ?_⟩
    have esp : Txt.split z (Str.ofString "\n") = rowsT z := by
      rw [n10]
      rfl
    have e32 : Str.ofString " " = ⟨#[32]⟩ := by decide +kernel
    have lrow : (rowsT z).length ≤ z.length + 1 := split_len z 10
    have rok : ∀ u ∈ rowsT z, RowOk u (hdW u) (tlW u) := fun u hu => row_ok (split_asc az hu) (Nat.le_trans (split_part hu) lz)
    obtain ⟨r0, rs, er⟩ : ∃ r0 rs, rowsT z = r0 :: rs := ⟨_, _, rowsT_eq z⟩
    have e0 : (rowsT z).headD Str.empty = r0 := by rw [er]; rfl
    have e1 : (rowsT z).tail = rs := by rw [er]; rfl
    refine ⟨_, rfl, rfl, z, _, rfl, rfl, (by rw [n10]; rfl), Nat.le_of_lt (small100k (by omega)), ?_, fun D H1 s1 hD hD1 => ?_⟩
    · rw [esp]
      exact Nat.le_of_lt (small100k (by omega))
    rw [esp, er] at hD1
    have hD1 : H1 D = some (.lst (V.str r0 :: rs.map V.str)) := hD1
    refine gname_in ?_
    dsimp only
    have k0 := rok r0 (by rw [er]; simp)
    have l0 : (Txt.split r0 ⟨#[32]⟩).length ≤ 100000 := by
      rw [k0.2.1, List.length_cons]
      have := k0.2.2.1
      omega
    refine ⟨_, rfl, D, _, 0, _, rfl, rfl, SqL.of hD1, atI_nat (j := 0) rfl, rfl, r0, _, rfl, rfl, (by rw [e32]; rfl), Nat.le_of_lt (small100k k0.1), (by rw [e32]; exact Nat.le_of_lt (small100k l0)), fun W H2 s2 hW hW2 => ?_⟩
    rw [e32, k0.2.1] at hW2
    have hW2 : H2 W = some (.lst (V.str (hdW r0) :: (tlW r0).map V.str)) := hW2
    refine gname_in ?_
    dsimp only
    have s12 := s1.trans s2
    have bad : mtV (hdW r0) (tlW r0) = .non → ∀ H', Same H H' → Q (.int 1) H' := fun h H' s' => by
      have := kk H' s'
      rw [dueV_some (dueT_non (by rw [e0]; exact h))] at this
      exact this
    refine ⟨_, rfl, W, _, rfl, .inl (SqL.of hW2), rfl, _, rfl, ite2 (fun c => ?_) (fun c => ?_)⟩
    · refine bad (mtV_l fun z2 => ?_) _ s12
      rw [List.length_cons, List.length_map, z2] at c
      exact absurd c (by decide)
    have l1 : (tlW r0).length = 1 := by
      by_cases e : (tlW r0).length = 1
      · exact e
      · exact absurd (show _ = true by rw [List.length_cons, List.length_map]; simp; omega) c
    obtain ⟨u, eu⟩ : ∃ u, tlW r0 = [u] := match tlW r0, l1 with | [u], _ => ⟨u, rfl⟩
    rw [eu] at hW2
    refine ⟨_, rfl, W, _, 0, _, rfl, rfl, SqL.of hW2, atI_nat (j := 0) rfl, rfl, _, rfl, ite2 (fun c => ?_) (fun c => ?_)⟩
    · exact bad (mtV_w (by simpa using c)) _ s12
    have cw : decide (V.str (hdW r0) = V.str (Str.ofString "web")) = true := by simpa using c
    have ku := k0.2.2.2 u (by rw [eu]; simp)
    have emt : mtV (hdW r0) (tlW r0) = if inRV 1 41 (nrV u) = true then nrV u else .non := by
      rw [eu, ← mn_in _ (nr_NI u)]
      show (if (decide (V.str (hdW r0) = V.str (Str.ofString "web")) && mnV (nrV u)) = true then nrV u else .non) = _
      rw [cw, Bool.true_and]
    refine ⟨_, rfl, W, _, 1, _, rfl, rfl, SqL.of hW2, atI_nat (j := 1) rfl, u, rfl, ku.1, ku.2, fun H3 s3 => ?_⟩
    refine ⟨1, 41, rfl, fun p hp => ?_⟩
    have s4 := Same.upd (o := .rng 1 41) hp
    have hp4 : upd H3 p (.rng 1 41) p = some (.rng 1 41) := upd_same
    generalize upd H3 p (.rng 1 41) = H4 at s4 hp4
    have s14 := (s12.trans s3).trans s4
    refine ⟨1, 41, p, nr_NI u, rfl, hp4, _, rfl, ite2 (fun c => ?_) (fun c => ?_)⟩
    · refine bad ?_ _ s14
      rw [emt]
      exact if_neg fun z2 => by rw [z2] at c; exact absurd c (by decide)
    have cr : inRV 1 41 (nrV u) = true := by
      cases h : inRV 1 41 (nrV u) with
      | true => rfl
      | false => exact absurd (by rw [h]; rfl) c
    rw [if_pos cr] at emt
    obtain ⟨m, em⟩ : ∃ m : Int, nrV u = .int m := by
      rcases nr_NI u with h | h
      · rw [h] at cr
        exact absurd cr (by decide)
      · exact h
    rw [em] at cr emt
    have cr : (decide ((1 : Int) ≤ m) && decide (m < 41)) = true := cr
    rw [Bool.and_eq_true] at cr
    have m1 := of_decide_eq_true cr.1
    have m2 := of_decide_eq_true cr.2
    have du : dueT z = wkD m rs [] 2 := by
      rw [dueT_int (by rw [e0]; exact emt), e1]
    refine ⟨_, rfl, W, _, 1, _, rfl, rfl, SqL.of (s4 _ _ (s3 _ _ hW2)), atI_nat (j := 1) rfl, u, rfl, ku.1, ku.2, fun H5 s5 => ?_⟩
    rw [em]
    refine gname_in ?_
    dsimp only
    refine ⟨1, rfl, 1, rfl, (by show 2 ≤ sizeLine; decide), fun la hla => ?_⟩
    refine gname_in ?_
    dsimp only
    have s6 := Same.upd (o := .tup [.int (-1), .int (-1)]) hla
    have hla6 : upd H5 la (.tup [.int (-1), .int (-1)]) la = some (.tup [.int (-1), .int (-1)]) := upd_same
    have s16 := (s14.trans s5).trans s6
    have hD6 := s6 _ _ (s5 _ _ (s4 _ _ (s3 _ _ (s2 _ _ hD1))))
    change tSeq _ _ _ _ (upd H5 la (.tup [.int (-1), .int (-1)]))
    generalize upd H5 la (.tup [.int (-1), .int (-1)]) = H6 at s6 hla6 s16 hD6
    have lrs : rs.length ≤ 90000 := by
      rw [er, List.length_cons] at lrow
      omega
    refine ⟨_, rfl, D, _, rfl, .inl (SqL.of hD6), ?_⟩
    have ln : (V.str r0 :: rs.map V.str).length = rs.length + 1 := by simp
    refine ⟨1, _, rfl, ⟨by decide, by decide, by omega, by rw [ln]; omega⟩, ?_⟩
    rw [show ((((V.str r0 :: rs.map V.str).length : Nat) : Int) - 1).toNat = rs.length by rw [ln]; omega]
    refine for_range (lo := 1) (n := rs.length) (fun j σ H7 => ∃ (vw vk vp : Option V) (lp : Addr) (l : Int × Int) (acc : List (Int × Int)), σ = [some (.str z), some (.ref D), vw, some (.int m), some (.ref lp), vk, vp] ∧ Same H H7 ∧ H7 D = some (.lst (V.str r0 :: rs.map V.str)) ∧ H7 lp = some (.tup [.int l.1, .int l.2]) ∧ lastOk acc l ∧ acc.length = j ∧ acc.length ≤ 200 ∧ dueT z = wkD m (rs.drop j) acc (j + 2))
      ⟨_, _, _, la, (-1, -1), [], rfl, s16, hD6, hla6, .inl ⟨rfl, rfl⟩, rfl, Nat.zero_le _, du⟩ ?_ ?_
    · rintro j σ H7 hj ⟨vw, vk, vp, lp, l, acc, rfl, s7, hD7, hlp7, lo, lacc, l200, hw⟩
      obtain ⟨row, e2⟩ : ∃ row, rs[j]? = some row := ⟨rs[j], by simp [hj]⟩
      rw [drop_at e2] at hw
      have kR := rok row (by rw [er]; exact List.mem_cons_of_mem _ (List.mem_of_getElem? e2))
      have lR : (Txt.split row ⟨#[32]⟩).length ≤ 100000 := by
        rw [kR.2.1, List.length_cons]
        have := kR.2.2.1
        omega
      have ret : dueT z = some (j + 2) → ∀ H', Same H H' → Q (.int (1 + (j : Int) + 1)) H' := fun h H' s' => by
        have := kk H' s'
        rw [dueV_some h] at this
        have e : (1 + (j : Int) + 1) = ((j + 2 : Nat) : Int) := by omega
        rw [e]
        exact this
      have hat : atI (V.str r0 :: rs.map V.str) (1 + (j : Int)) = some (V.str row) := by
        have e : (1 + (j : Int)) = ((j + 1 : Nat) : Int) := by omega
        rw [e]
        refine atI_nat ?_
        rw [List.getElem?_cons_succ, List.getElem?_map, e2]
        rfl
      refine gname_in ?_
      dsimp only
      refine ⟨_, rfl, _, rfl, D, _, _, _, rfl, rfl, SqL.of hD7, hat, rfl, row, _, rfl, rfl, (by rw [e32]; rfl), Nat.le_of_lt (small100k kR.1), (by rw [e32]; exact Nat.le_of_lt (small100k lR)), fun W2 H8 s8 hW hW8 => ?_⟩
      rw [e32, kR.2.1] at hW8
      have hW8 : H8 W2 = some (.lst (V.str (hdW row) :: (tlW row).map V.str)) := hW8
      have s78 := s7.trans s8
      refine gname_in ?_
      dsimp only
      refine ⟨_, rfl, W2, _, rfl, .inl (SqL.of hW8), rfl, _, rfl, ite2 (fun c => ?_) (fun c => ?_)⟩
      · refine ⟨_, rfl, _, _, rfl, rfl, ret ?_ _ s78⟩
        rw [hw]
        refine wk_none (rowT_l fun z2 => ?_)
        rw [List.length_cons, List.length_map, z2] at c
        exact absurd c (by decide)
      have l2 : (tlW row).length = 2 := by
        by_cases e : (tlW row).length = 2
        · exact e
        · exact absurd (show _ = true by rw [List.length_cons, List.length_map]; simp; omega) c
      obtain ⟨u1, u2, eu2⟩ : ∃ u1 u2, tlW row = [u1, u2] := match tlW row, l2 with | [u1, u2], _ => ⟨u1, u2, rfl⟩
      rw [eu2] at hW8
      refine ⟨_, rfl, W2, _, 0, _, rfl, rfl, SqL.of hW8, atI_nat (j := 0) rfl, rfl, _, rfl, ite2 (fun c => ?_) (fun c => ?_)⟩
      · refine ⟨_, rfl, _, _, rfl, rfl, ret ?_ _ s78⟩
        rw [hw]
        exact wk_none (rowT_w (by simpa using c))
      have ca : decide (V.str (hdW row) = V.str (Str.ofString "arrow")) = true := by simpa using c
      refine ⟨_, rfl, _, _, rfl, rfl, _, rfl, ite2 (fun c => ?_) (fun c => ?_)⟩
      · refine ⟨_, rfl, _, _, rfl, rfl, ret ?_ _ s78⟩
        rw [hw]
        have c : (1 : Int) + (j : Int) > 200 := of_decide_eq_true c
        exact wk_200 (by omega)
      have c200 : acc.length < 200 := by
        have c : ¬ ((1 : Int) + (j : Int) > 200) := fun z2 => c (decide_eq_true z2)
        omega
      have k1 := kR.2.2.2 u1 (by rw [eu2]; simp)
      have k2 := kR.2.2.2 u2 (by rw [eu2]; simp)
      refine ⟨_, rfl, W2, _, 1, _, rfl, rfl, SqL.of hW8, atI_nat (j := 1) rfl, u1, rfl, k1.1, k1.2, fun H9 s9 => ?_⟩
      refine ⟨_, rfl, W2, _, 2, _, rfl, rfl, SqL.of (s9 _ _ hW8), atI_nat (j := 2) rfl, u2, rfl, k2.1, k2.2, fun H10 s10 => ?_⟩
      refine ⟨(by show 2 ≤ sizeLine; decide), fun pp hpp => ?_⟩
      refine gname_in ?_
      dsimp only
      have s11 := Same.upd (o := .tup [nrV u1, nrV u2]) hpp
      have hp11 : upd H10 pp (.tup [nrV u1, nrV u2]) pp = some (.tup [nrV u1, nrV u2]) := upd_same
      have sA := (s9.trans s10).trans s11
      have s711 := s78.trans sA
      have hD11 := sA _ _ (s8 _ _ hD7)
      have hlp11 := sA _ _ (s8 _ _ hlp7)
      change tSeq _ _ _ _ (upd H10 pp (.tup [nrV u1, nrV u2]))
      generalize upd H10 pp (.tup [nrV u1, nrV u2]) = H11 at s11 hp11 sA s711 hD11 hlp11
      refine ⟨_, rfl, pp, _, 0, _, rfl, rfl, SqT.of hp11, rfl, _, rfl, m, rfl, fun p1 hp1 => ?_⟩
      have s12' := Same.upd (o := .rng 0 m) hp1
      refine ⟨0, m, p1, nr_NI u1, rfl, upd_same, _, rfl, ite2 (fun c => ?_) (fun c => ?_)⟩
      · refine ⟨_, rfl, _, _, rfl, rfl, ret ?_ _ (s711.trans s12')⟩
        rw [hw]
        refine wk_none (rowT_r eu2 (.inl ?_))
        simpa using c
      have i1 : inRV 0 m (nrV u1) = true := by simpa using c
      have hp12 := s12' _ _ hp11
      have hD12 := s12' _ _ hD11
      have hlp12 := s12' _ _ hlp11
      have s712 := s711.trans s12'
      generalize upd H11 p1 (.rng 0 m) = H12 at s12' hp12 hD12 hlp12 s712
      refine ⟨_, rfl, pp, _, 1, _, rfl, rfl, SqT.of hp12, rfl, _, rfl, m, rfl, fun p2 hp2 => ?_⟩
      have s13 := Same.upd (o := .rng 0 m) hp2
      refine ⟨0, m, p2, nr_NI u2, rfl, upd_same, _, rfl, ite2 (fun c => ?_) (fun c => ?_)⟩
      · refine ⟨_, rfl, _, _, rfl, rfl, ret ?_ _ (s712.trans s13)⟩
        rw [hw]
        refine wk_none (rowT_r eu2 (.inr (.inl ?_)))
        simpa using c
      have i2 : inRV 0 m (nrV u2) = true := by simpa using c
      have hp13 := s13 _ _ hp12
      have hD13 := s13 _ _ hD12
      have hlp13 := s13 _ _ hlp12
      have s713 := s712.trans s13
      generalize upd H12 p2 (.rng 0 m) = H13 at s13 hp13 hD13 hlp13 s713
      obtain ⟨a, ea⟩ : ∃ a : Int, nrV u1 = .int a := by
        rcases nr_NI u1 with h | h
        · rw [h] at i1
          exact absurd i1 Bool.false_ne_true
        · exact h
      obtain ⟨b, eb⟩ : ∃ b : Int, nrV u2 = .int b := by
        rcases nr_NI u2 with h | h
        · rw [h] at i2
          exact absurd i2 Bool.false_ne_true
        · exact h
      rw [ea, eb] at hp13
      refine ⟨_, rfl, pp, _, 0, _, rfl, rfl, SqT.of hp13, rfl, _, rfl, pp, _, 1, _, rfl, rfl, SqT.of hp13, rfl, rfl, _, rfl, ite2 (fun c => ?_) (fun c => ?_)⟩
      · refine ⟨_, rfl, _, _, rfl, rfl, ret ?_ _ s713⟩
        rw [hw]
        refine wk_none (rowT_r eu2 (.inr (.inr ?_)))
        rw [ea, eb]
        exact of_decide_eq_true c
      have nab : a ≠ b := fun z2 => c (decide_eq_true (by rw [z2]))
      rw [ea] at i1
      rw [eb] at i2
      have rT := rowT_s (m := m) ca eu2 ea eb i1 i2 nab
      have a0 : 0 ≤ a := by
        have : (decide ((0 : Int) ≤ a) && decide (a < m)) = true := i1
        rw [Bool.and_eq_true] at this
        exact of_decide_eq_true this.1
      have rl := ris_le (q := (a, b)) lo a0
      refine ⟨_, rfl, _, rfl, pp, lp, a, b, l.1, l.2, rfl, rfl, SqT.of hp13, SqT.of hlp13, _, rfl, ite2 (fun c => ?_) (fun c => ?_)⟩
      · refine ⟨_, rfl, _, _, rfl, rfl, ret ?_ _ s713⟩
        rw [hw]
        refine wk_bad rT ?_
        unfold okQ
        rw [rl]
        show (!leP a b l.1 l.2 && _) = false
        rw [c]
        rfl
      have ok1 : okQ acc (a, b) = true := by
        unfold okQ
        rw [rl, decide_eq_false (by omega)]
        show (!leP a b l.1 l.2 && !false) = true
        rw [Bool.eq_false_iff.mpr c]
        rfl
      rw [wk_ok rT ok1] at hw
      refine ⟨_, rfl, ?_⟩
      exact ⟨_, _, _, pp, (a, b), acc ++ [(a, b)], rfl, s713, hD13, hp13, .inr ⟨acc, rfl⟩, by rw [List.length_append, lacc]; rfl, by rw [List.length_append, List.length_singleton]; omega, hw⟩
    · rintro σ H7 ⟨vw, vk, vp, lp, l, acc, rfl, s7, hD7, hlp7, lo, lacc, l200, hw⟩
      rw [List.drop_eq_nil_of_le (Nat.le_refl _)] at hw
      have := kk _ s7
      rw [dueV_none hw] at this
      exact this
end
end Hk

namespace Hk
open PySem L2 PySem.W
section
variable {P : Program} {w : World} {K : Frag} {mg : Str → Option Value} {base : Heap}
def spTold : Sp := fun vs H Q _ => ∃ x : V, vs = [x] ∧ ((∃ T, Dat H x T ∧ T ≠ "str" ∧ ∀ H', Same H H' → Q (.int 0) H') ∨ ∃ z : Str, x = .str z ∧ TxtOk z ∧ ∀ H', Same H H' → Q (dueV z) H')
theorem kn_told {CN CW c0 c1 c2 c3 c4 c5 c6 c7 c8 : Addr} (D : DefAt K mg "_law_told" s_law_told ["thing"]) (kw : KnX P w K mg base 5 "web_read" ["text"] (spWRX CN)) (kk : KnH P w K mg base 1 "_law_kind_of" ["e"] (spKind K c0 c1 c2 c3 c4 c5 c6 c7 c8)) (kh : KnH P w K mg base 1 "_law_whole" ["found"] spWhole)
    (hW : mg "WebError" = some (.ref CW)) (hx : exmOne K (.ref CN) (.ref CW) = some true) (F : KindOf K CN c0 c1 c2 c3 c4 c5 c6 c7 c8 7) (T : FldsOf K CN ["row"]) : Kn P w K mg base 6 "_law_told" ["thing"] spTold := by
  have sc : FnScope ["thing", "e"] ["thing"] (defScope s_law_told) := ⟨rfl, rfl, rfl, by decide +kernel, rfl, by decide +kernel, by decide +kernel⟩
  refine D.kn (N := ["thing", "e"]) sc (fun vs H Q E h => ?_) (fun f cdv A outer s H vs Q E hr h => ?_)
  · obtain ⟨x, rfl, _⟩ := h
    rfl
  · obtain ⟨x, rfl, h⟩ := h
    have n1 := T.no "row" (by simp)
    refine ⟨_, (pss_cons (ps_tryS (i := 1) (pssx_one (psx_expr (pex_kn kw hr (pa_cons (pv 0) pa_nil)))) rfl hW sc.nd rfl rfl (fun y => (pss_cons (ps_if (PW.pt (pw_or (pt_cmpR op_ne (pe_knH kk ((hr.toH _).mono (by decide)) (pa_cons (pv 1) pa_nil)) pe_str (nomark _)) (pw_or1 (pt_not (pt_call (pe_knH kh ((hr.toH _).mono (by decide)) (pa_cons (pe_xf K (pv 1)) pa_nil))))))) (pss_one (ps_ret (pe_un un_neg pe_int))) pss_nil) (pss_one (ps_ret (pe_xf K (pv 1)))))) rfl rfl) (pss_one (ps_ret pe_non))), ?_⟩
    rcases h with ⟨T0, dx, nT, k⟩ | ⟨z, rfl, ok, k⟩
    · refine ⟨_, rfl, x, rfl, .inl ⟨T0, dx, nT, fun H3 s3 D2 H4 s4 hD hD4 => ?_⟩⟩
      refine ⟨CN, rfl, hx, fun y hy => ?_⟩
      have sy := Same.upd (o := isL CN y (some D2)) hy
      refine ⟨_, rfl, y, CN, 7, rfl, ⟨_, upd_same⟩, F, by decide, fun H5 s5 => ⟨rfl, _, rfl, iteF ?_⟩⟩
      have hy5 := s5 _ _ (upd_same (H := H4) (a := y) (o := isL CN y (some D2)))
      have hD5 := s5 _ _ (sy _ _ hD4)
      refine ⟨_, rfl, y, CN, D2, _, .int 0, rfl, hy5, hD5, F.xi, T.xs.hd, n1, rfl, .int 0, "int", rfl, .int _, _, rfl, iteF ?_⟩
      exact ⟨_, rfl, y, CN, D2, _, .int 0, rfl, hy5, hD5, F.xi, T.xs.hd, n1, rfl, k _ (s3.trans (s4.trans (sy.trans s5)))⟩
    · refine ⟨_, rfl, .str z, rfl, .inr ⟨z, rfl, ok, fun n H3 hd s3 D2 H4 s4 hD hD4 => ?_, fun hd v H3 s3 => ?_⟩⟩
      · refine ⟨CN, rfl, hx, fun y hy => ?_⟩
        have sy := Same.upd (o := isL CN y (some D2)) hy
        refine ⟨_, rfl, y, CN, 7, rfl, ⟨_, upd_same⟩, F, by decide, fun H5 s5 => ⟨rfl, _, rfl, iteF ?_⟩⟩
        have hy5 := s5 _ _ (upd_same (H := H4) (a := y) (o := isL CN y (some D2)))
        have hD5 := s5 _ _ (sy _ _ hD4)
        refine ⟨_, rfl, y, CN, D2, _, .int (n : Int), rfl, hy5, hD5, F.xi, T.xs.hd, n1, rfl, .int (n : Int), "int", rfl, .int _, _, rfl, iteF ?_⟩
        have kz := k _ (s3.trans (s4.trans (sy.trans s5)))
        rw [dueV_some hd] at kz
        exact ⟨_, rfl, y, CN, D2, _, .int (n : Int), rfl, hy5, hD5, F.xi, T.xs.hd, n1, rfl, kz⟩
      · have kz := k _ s3
        rw [dueV_none hd] at kz
        exact kz
end
end Hk

namespace Hk
open PySem L2 Builtin.Str
theorem asc_cat {a b : Str} (ha : Asc a) (hb : Asc b) : Asc (a ++ b) := by
  rw [asc_iff] at ha hb ⊢
  intro c hc
  rw [cat_cps, List.mem_append] at hc
  exact hc.elim (ha c) (hb c)
theorem len_cat (a b : Str) : (a ++ b).length = a.length + b.length := by
  rw [len_cps, cat_cps, List.length_append, ← len_cps, ← len_cps]
theorem asc_empty : Asc Str.empty := by
  rw [asc_iff]
  intro c hc
  have : c ∈ ([] : List Nat) := hc
  cases this
theorem asc_join {z : Str} (hz : Asc z) : ∀ {ps : List Str}, (∀ u ∈ ps, Asc u) → Asc (Str.join z ps)
  | [], _ => asc_empty
  | [x], h => h x (by simp)
  | x :: y :: r, h => by
    show Asc (x ++ z ++ Str.join z (y :: r))
    exact asc_cat (asc_cat (h x (by simp)) hz) (asc_join hz fun u hu => h u (List.mem_cons_of_mem _ hu))
theorem len_join {z : Str} {B : Nat} : ∀ {ps : List Str}, (∀ u ∈ ps, u.length ≤ B) → (Str.join z ps).length ≤ ps.length * (B + z.length)
  | [], _ => by show 0 ≤ _; omega
  | [x], h => by
    have := h x (by simp)
    show x.length ≤ 1 * (B + z.length)
    omega
  | x :: y :: r, h => by
    have h1 := h x (by simp)
    have h2 := len_join (z := z) (ps := y :: r) fun u hu => h u (List.mem_cons_of_mem _ hu)
    show (x ++ z ++ Str.join z (y :: r)).length ≤ (y :: r).length.succ * (B + z.length)
    rw [len_cat, len_cat, Nat.succ_mul]
    omega
theorem asc_sub {x : Str} (h : Asc x) (i j : Nat) : Asc (strSub x i j) := by
  rw [asc_iff] at h ⊢
  intro c hc
  rw [PySem.StrLaws.strSub_toList] at hc
  exact h c (List.mem_of_mem_drop (List.mem_of_mem_take hc))
theorem asc_parts {x : Str} (h : Asc x) (w : Nat) : ∀ (cuts : List Nat) (a : Nat), ∀ u ∈ PySem.StrLaws.partsFrom x w a cuts, Asc u
  | [], a, u, hu => by
    have : u = strSub x a x.length := List.mem_singleton.mp hu
    rw [this]
    exact asc_sub h _ _
  | c :: r, a, u, hu => by
    rcases List.mem_cons.mp hu with rfl | hu
    · exact asc_sub h _ _
    · exact asc_parts h w r _ u hu
theorem asc_repl {x z : Str} (y : Str) (hx : Asc x) (hz : Asc z) : Asc (Txt.replace x y z) := by
  unfold Txt.replace
  split
  · exact hx
  · rw [PySem.StrLaws.glued_eq_join, PySem.StrLaws.partsBetween_eq]
    exact asc_join hz (asc_parts hx _ _ _)
theorem len_repl (x y z : Str) : (Txt.replace x y z).length ≤ x.length + (x.length + 1) * z.length := by
  unfold Txt.replace
  split
  · omega
  · have h1 := PySem.StrLaws.occ_length_le x y 0 x.length (x.length + 1)
    have hy : (glued y (partsBetween x (occurrences x y 0 x.length (x.length + 1)) y.length)).length = x.length := by rw [PySem.StrLaws.glued_between_self]
    rw [size_glued, length_partsBetween, Nat.add_sub_cancel] at hy
    rw [size_glued, length_partsBetween, Nat.add_sub_cancel]
    have h2 : (occurrences x y 0 x.length (x.length + 1)).length * z.length ≤ (x.length + 1) * z.length := Nat.mul_le_mul_right _ h1
    omega
theorem up_ascii : ∀ c < 128, (Unicode.upperOf c).length = 1 ∧ ∀ d ∈ Unicode.upperOf c, d < 128 := by decide +kernel
theorem mapIdx_no {α β : Type} (f : α → β) (l : List α) : l.mapIdx (fun _ c => f c) = l.map f := by
  apply List.ext_getElem?
  intro i
  simp
theorem upper_cps (x : Str) : (Txt.upper x).cps.toList = x.cps.toList.flatMap Unicode.upperOf := by
  show (PySem.placed x fun _ c => Unicode.upperOf c).toList = _
  unfold PySem.placed
  rw [Array.toList_flatten]
  rw [Array.toList_mapIdx]
  show (List.map Array.toList (List.mapIdx (fun _ c => (Unicode.upperOf c).toArray) x.cps.toList)).flatten = _
  rw [mapIdx_no (fun c => (Unicode.upperOf c).toArray), List.map_map]
  rfl
theorem asc_upper {x : Str} (h : Asc x) : Asc (Txt.upper x) := by
  rw [asc_iff] at h ⊢
  intro c hc
  rw [upper_cps, List.mem_flatMap] at hc
  obtain ⟨d, hd, hc⟩ := hc
  exact (up_ascii d (h d hd)).2 c hc
theorem len_fm : ∀ {l : List Nat}, (∀ c ∈ l, c < 128) → (l.flatMap Unicode.upperOf).length = l.length
  | [], _ => rfl
  | c :: r, h => by
    rw [List.flatMap_cons, List.length_append, (up_ascii c (h c (by simp))).1, len_fm fun d hd => h d (List.mem_cons_of_mem _ hd), List.length_cons]
    omega
theorem len_upper {x : Str} (h : Asc x) : (Txt.upper x).length = x.length := by
  rw [len_cps, upper_cps, len_fm (asc_iff.mp h), ← len_cps]
end Hk

namespace L2
open PySem PySem.Spec PyProof.Rows
theorem pa_cs {X : Cx} {x : Str} {j : Nat} {p : Pos} {es : List Expr} {t : TA} (hr : PA X es t) : PA X (.Constant (.str x) j p :: es) (tCons (tC (.str x)) t) := pa_cons pe_str hr (by rfl)
def rMulS : R2 := fun x y H Q => ∃ (z : Str) (n : Int), x = .str z ∧ y = .int n ∧ 2 ≤ n ∧ n ≤ 1000 ∧ 1 ≤ z.length ∧ z.length ≤ 1000 ∧ (strRep z n).length ≤ sizeLine ∧ Q (.str (strRep z n)) H
theorem op_mulS {X : Cx} : OpR X (binaryOp .Mult) rMulS := op_mulStr
end L2
namespace Hk
open PySem L2 PySem.W
def litO : Expr := .List [.Constant (.str (Str.ofString "")) 0 ⟨180, 11, 180, 13⟩, .Constant (.str (Str.ofString "0")) 0 ⟨180, 15, 180, 18⟩, .Constant (.str (Str.ofString "00")) 0 ⟨180, 20, 180, 24⟩, .Constant (.str (Str.ofString "-1")) 0 ⟨180, 26, 180, 30⟩, .Constant (.str (Str.ofString "+1")) 0 ⟨180, 32, 180, 36⟩, .Constant (.str (Str.ofString "1.0")) 0 ⟨180, 38, 180, 43⟩, .Constant (.str (Str.ofString "a")) 0 ⟨180, 45, 180, 48⟩, .Constant (.str (Str.ofString "40")) 0 ⟨180, 50, 180, 54⟩, .Constant (.str (Str.ofString "41")) 0 ⟨180, 56, 180, 60⟩, .BinOp (.Constant (.str (Str.ofString "9")) 0 ⟨180, 62, 180, 65⟩) .Mult (.Constant (.int 61) 0 ⟨180, 68, 180, 70⟩) ⟨180, 62, 180, 70⟩, .Constant (.str (Str.ofString "web")) 0 ⟨180, 72, 180, 77⟩, .Constant (.str (Str.ofString "arrow")) 0 ⟨180, 79, 180, 86⟩, .Constant (.str (Str.ofString "Web")) 0 ⟨180, 88, 180, 93⟩, .Constant (.str (Str.ofString "1")) 0 ⟨180, 95, 180, 98⟩] ⟨180, 10, 180, 99⟩
theorem pe_litO {X : Cx} : PE X litO (tLst (tCons (tC (.str (Str.ofString ""))) (tCons (tC (.str (Str.ofString "0"))) (tCons (tC (.str (Str.ofString "00"))) (tCons (tC (.str (Str.ofString "-1"))) (tCons (tC (.str (Str.ofString "+1"))) (tCons (tC (.str (Str.ofString "1.0"))) (tCons (tC (.str (Str.ofString "a"))) (tCons (tC (.str (Str.ofString "40"))) (tCons (tC (.str (Str.ofString "41"))) (tCons (tOp rMulS (tC (.str (Str.ofString "9"))) (tC (.int 61))) (tCons (tC (.str (Str.ofString "web"))) (tCons (tC (.str (Str.ofString "arrow"))) (tCons (tC (.str (Str.ofString "Web"))) (tCons (tC (.str (Str.ofString "1"))) tNil))))))))))))))) := by
  unfold litO
  refine pe_lst ?_
  refine pa_cs ?_
  refine pa_cs ?_
  refine pa_cs ?_
  refine pa_cs ?_
  refine pa_cs ?_
  refine pa_cs ?_
  refine pa_cs ?_
  refine pa_cs ?_
  refine pa_cs ?_
  refine pa_cons (pe_op op_mulS pe_str pe_int) ?_
  refine pa_cs ?_
  refine pa_cs ?_
  refine pa_cs ?_
  refine pa_cs ?_
  exact pa_nil
def st_litO : Stmt := .Assign [.Name (Str.ofString "odd") ⟨180, 4, 180, 7⟩] litO ⟨180, 4, 180, 99⟩
theorem swap_litO (tg : Option Expr) (l : Nat) (env : Env) : swapsWith litO tg l env = pure false := by
  unfold litO
  rfl
theorem ps_litO {X : Cx} (hN : X.N.Nodup) (hi : X.N[4]? = some (Str.ofString "odd")) (hx : Loc X.env.scope (Str.ofString "odd")) (hf : X.fn (Str.ofString "odd") = true ∨ X.env.scope.names.lookup (Str.ofString "odd") = some .local) : PS X st_litO (tAsg (tLst (tCons (tC (.str (Str.ofString ""))) (tCons (tC (.str (Str.ofString "0"))) (tCons (tC (.str (Str.ofString "00"))) (tCons (tC (.str (Str.ofString "-1"))) (tCons (tC (.str (Str.ofString "+1"))) (tCons (tC (.str (Str.ofString "1.0"))) (tCons (tC (.str (Str.ofString "a"))) (tCons (tC (.str (Str.ofString "40"))) (tCons (tC (.str (Str.ofString "41"))) (tCons (tOp rMulS (tC (.str (Str.ofString "9"))) (tC (.int 61))) (tCons (tC (.str (Str.ofString "web"))) (tCons (tC (.str (Str.ofString "arrow"))) (tCons (tC (.str (Str.ofString "Web"))) (tCons (tC (.str (Str.ofString "1"))) tNil))))))))))))))) (gName 4)) := by
  unfold st_litO
  exact @ps_set X ⟨180, 4, 180, 99⟩ 4 (Str.ofString "odd") litO _ ⟨180, 4, 180, 7⟩ hN hi hx (@pe_litO X) (swap_litO _ _ _) hf
@[irreducible] def oddS : Stmt := match defBody s_law_odd_row with
  | _ :: _ :: s :: _ => s
  | _ => .Pass ⟨0, 0, 0, 0⟩
theorem oddS_eq : oddS = st_litO := by kernel_rfl
theorem body_eqO : defBody s_law_odd_row = (defBody s_law_odd_row).take 2 ++ oddS :: (defBody s_law_odd_row).drop 3 := by kernel_rfl
theorem ps_oddS {X : Cx} (hN : X.N.Nodup) (hi : X.N[4]? = some (Str.ofString "odd")) (hx : Loc X.env.scope (Str.ofString "odd")) (hf : X.fn (Str.ofString "odd") = true ∨ X.env.scope.names.lookup (Str.ofString "odd") = some .local) : PS X oddS (tAsg (tLst (tCons (tC (.str (Str.ofString ""))) (tCons (tC (.str (Str.ofString "0"))) (tCons (tC (.str (Str.ofString "00"))) (tCons (tC (.str (Str.ofString "-1"))) (tCons (tC (.str (Str.ofString "+1"))) (tCons (tC (.str (Str.ofString "1.0"))) (tCons (tC (.str (Str.ofString "a"))) (tCons (tC (.str (Str.ofString "40"))) (tCons (tC (.str (Str.ofString "41"))) (tCons (tOp rMulS (tC (.str (Str.ofString "9"))) (tC (.int 61))) (tCons (tC (.str (Str.ofString "web"))) (tCons (tC (.str (Str.ofString "arrow"))) (tCons (tC (.str (Str.ofString "Web"))) (tCons (tC (.str (Str.ofString "1"))) tNil))))))))))))))) (gName 4)) := by
  rw [oddS_eq]
  exact @ps_litO X hN hi hx hf
end Hk

namespace Hk
open PySem L2 PySem.W
def AllB (ts : List Str) (B : Nat) : Prop := ∀ u ∈ ts, Asc u ∧ u.length ≤ B
theorem AllB.app {ts us : List Str} {B : Nat} (h : AllB ts B) (g : AllB us B) : AllB (ts ++ us) B := fun u hu => (List.mem_append.mp hu).elim (h u) (g u)
def cutT (ts : List Str) (lo hi : Option Int) : List Str := (ts.drop (HT.sIx ts.length 0 lo)).take (HT.sIx ts.length ts.length hi - HT.sIx ts.length 0 lo)
theorem cutS (ts : List Str) (lo hi : Option Int) : cutV (ts.map V.str) lo hi = (cutT ts lo hi).map V.str := by
  unfold cutV cutT
  rw [List.length_map, List.map_take, List.map_drop]
theorem cutT_mem {ts : List Str} {lo hi : Option Int} {u : Str} (h : u ∈ cutT ts lo hi) : u ∈ ts := List.mem_of_mem_drop (List.mem_of_mem_take h)
theorem cutT_len (ts : List Str) (lo hi : Option Int) : (cutT ts lo hi).length ≤ ts.length := by
  unfold cutT
  rw [List.length_take, List.length_drop]
  omega
theorem AllB.cut {ts : List Str} {B : Nat} (h : AllB ts B) (lo hi : Option Int) : AllB (cutT ts lo hi) B := fun u hu => h u (cutT_mem hu)
theorem at_str (ts : List Str) {r : Int} (h0 : 0 ≤ r) (h1 : r < (ts.length : Int)) : ∃ u, u ∈ ts ∧ atI (ts.map V.str) r = some (V.str u) := by
  have hi : r.toNat < ts.length := by omega
  refine ⟨ts[r.toNat], List.getElem_mem hi, ?_⟩
  obtain ⟨n, rfl⟩ := Int.eq_ofNat_of_zero_le h0
  refine atI_nat ?_
  rw [List.getElem?_map]
  simp at hi ⊢
  try simp [hi]
def oddL : List Str := [Str.ofString "", Str.ofString "0", Str.ofString "00", Str.ofString "-1", Str.ofString "+1", Str.ofString "1.0", Str.ofString "a", Str.ofString "40", Str.ofString "41", strRep (Str.ofString "9") 61, Str.ofString "web", Str.ofString "arrow", Str.ofString "Web", Str.ofString "1"]
theorem oddL_ok0 : (oddL.all fun u => u.cps.all (· < 128) && decide (u.length ≤ 100)) = true := by decide +kernel
theorem oddL_ok : AllB oddL 100 := fun u hu => by
  have := List.all_eq_true.mp oddL_ok0 u hu
  rw [Bool.and_eq_true] at this
  exact ⟨this.1, of_decide_eq_true this.2⟩
theorem asc_lit {x : Str} (h : (x.cps.toList.all fun c => decide (c < 128)) = true) : Asc x := asc_iff.mpr fun c hc => of_decide_eq_true (List.all_eq_true.mp h c hc)
theorem join_okB {ts : List Str} (h : AllB ts 100) (hl : ts.length ≤ 1000) : JoinOk (Str.ofString " ") ts = true := by
  refine PyProof.Rows.joinOk_of_weight ?_ (by decide +kernel)
  have := PySem.StrLaws.sumLen_le (B := 100) ts fun u hu => (h u hu).2
  omega
theorem join_B {ts : List Str} (h : AllB ts 100) (hl : ts.length ≤ 198) : Asc (Txt.join (Str.ofString " ") ts) ∧ (Txt.join (Str.ofString " ") ts).length ≤ 20000 := by
  have e : Txt.join (Str.ofString " ") ts = Str.join (Str.ofString " ") ts := PySem.StrLaws.glued_eq_join _ _
  rw [e]
  refine ⟨asc_join (asc_lit (by decide +kernel)) fun u hu => (h u hu).1, ?_⟩
  have := len_join (z := Str.ofString " ") fun u hu => (h u hu).2
  have l1 : (Str.ofString " ").length = 1 := by decide +kernel
  rw [l1] at this
  omega
section
variable {P : Program} {w : World} {K : Frag} {mg : Str → Option Value} {base : Heap}
def spOR : Sp := fun vs H Q _ => ∃ (p : Addr) (z : Str), vs = [.ref p, .str z] ∧ PenAt H p ∧ Asc z ∧ z.length ≤ 90 ∧ ∀ (z' : Str) (H' : Hp), SameBut p H H' → PenAt H' p → Asc z' → z'.length ≤ 20000 → Q (.str z') H'
theorem kn_oddrow (D : DefAt K mg "_law_odd_row" s_law_odd_row ["pen", "row"]) (fr : Free mg ["len"]) (kd : Kn P w K mg base 2 "_law_draw" ["pen", "many"] spDraw) : Kn P w K mg base 3 "_law_odd_row" ["pen", "row"] spOR := by
  have sc : FnScope ["pen", "row", "words", "spot", "odd", "one", "some", "way"] ["pen", "row"] (defScope s_law_odd_row) := ⟨rfl, rfl, rfl, by decide +kernel, rfl, by decide +kernel, by decide +kernel⟩
  refine D.kn (N := ["pen", "row", "words", "spot", "odd", "one", "some", "way"]) sc (fun vs H Q E h => ?_) (fun f cdv A outer s H vs Q E hr h => ?_)
  · obtain ⟨p, z, rfl, _⟩ := h
    rfl
  · obtain ⟨p, z, rfl, hp, az, lz, kk⟩ := h
    have r2 := hr.mono (j := 2) (by decide)
    have m_len := fr "len" (by simp)
    rw [body_eqO]
    refine ⟨_, (pss_cons (ps_set (i := 2) sc.nd rfl (Or.inl rfl) (pe_bm PySem.F.plainAttrs_str PySem.F.slot_str_split PySem.F.type_str_split mt_split (pv 1) (pa_cons pe_str pa_nil))) (pss_cons (ps_set (i := 3) sc.nd rfl (Or.inl rfl) (pe_kn kd r2 (pa_cons (pv 0) (pa_cons (pe_callB call_len_seq rfl m_len PySem.boot_len (pa_cons (pv 2) pa_nil)) pa_nil)))) (pss_cons (@ps_oddS (cxOf CX0 P w K mg base ["pen", "row", "words", "spot", "odd", "one", "some", "way"] "_law_odd_row" (defScope s_law_odd_row) f cdv A outer s H E).nox sc.nd rfl (Or.inl rfl) (Or.inr rfl)) (pss_cons (ps_set (i := 5) sc.nd rfl (Or.inl rfl) (pe_op op_cat (pe_op op_cat (pe_slice sl_list (pv 2) po_none (po_some (pv 3))) (pe_lst (pa_cons (pe_ix ix_list (pv 4) (pe_kn kd r2 (pa_cons (pv 0) (pa_cons pe_int pa_nil))) (fun _ _ => rfl)) pa_nil))) (pe_slice sl_list (pv 2) (po_some (pe_op op_add (pv 3) pe_int)) po_none))) (pss_cons (ps_set (i := 6) sc.nd rfl (Or.inl rfl) (pe_lst (pa_str1 (pa1_cons (PE.one (pe_op op_add_str pe_str (pv 1))) (pa1_cons (PE.one (pe_op op_add_str (pv 1) pe_str)) (pa1_cons (pe1_repl (pv 1) (by decide +kernel) (by decide +kernel)) pa1_nil)))))) (pss_cons (ps_set (i := 6) sc.nd rfl (Or.inl rfl) (pe_op op_cat (pv 6) (pe_lst (pa_cons (pe_bm PySem.F.plainAttrs_str PySem.F.slot_str_join PySem.F.type_str_join mt_join pe_str (pa_cons (pe_slice sl_list (pv 2) po_none (po_some (pe_un un_neg pe_int))) pa_nil)) (pa_cons (pe_op op_add_str (pv 1) pe_str) (pa_cons (pe_op op_add_str (pv 1) pe_str) (pa_cons (pe_bm0 PySem.F.plainAttrs_str PySem.F.slot_str_upper PySem.F.type_str_upper mt_upper (pv 1)) pa_nil))))))) (pss_cons (ps_set (i := 7) sc.nd rfl (Or.inl rfl) (pe_kn kd r2 (pa_cons (pv 0) (pa_cons pe_int pa_nil)))) (pss_cons (ps_if (pt_cmpR op_lt (pv 7) pe_int (nomark _)) (pss_one (ps_ret (pe_ix ix_list (pv 6) (pv 7) (fun _ _ => rfl)))) pss_nil) (pss_one (ps_ret (pe_bm PySem.F.plainAttrs_str PySem.F.slot_str_join PySem.F.type_str_join mt_join pe_str (pa_cons (pv 5) pa_nil)))))))))))), ?_⟩
    have e32 : Str.ofString " " = ⟨#[32]⟩ := by decide +kernel
    have aS : Asc (Str.ofString " ") := asc_lit (by decide +kernel)
    obtain ⟨ts, ets⟩ : ∃ ts, Txt.split z ⟨#[32]⟩ = ts := ⟨_, rfl⟩
    have lts := split_len z 32
    have nts := split_ne z ⟨#[32]⟩
    have bts : AllB (Txt.split z ⟨#[32]⟩) 100 := fun u hu => ⟨split_asc az hu, Nat.le_trans (split_part hu) (by omega)⟩
    rw [ets] at lts nts bts
    have pts : 0 < ts.length := List.length_pos_iff.mpr nts
    refine ⟨_, rfl, rfl, z, _, rfl, rfl, (by rw [e32]; rfl), Nat.le_of_lt (small1000 (by omega)), (by rw [e32, ets]; exact Nat.le_of_lt (small1000 (by omega))), fun W H1 s1 hW hW1 => ?_⟩
    rw [e32, ets] at hW1
    refine gname_in ?_
    dsimp only
    have nWp : W ≠ p := newp hp hW
    refine ⟨_, rfl, _, rfl, W, _, rfl, .inl (SqL.of hW1), p, _, rfl, hp.mono s1, by rw [List.length_map]; omega, by rw [List.length_map]; omega, fun spot H2 r0 r1 s2 hp2 => ?_⟩
    have hW2 := s2 _ _ nWp hW1
    have k2 := s1.but.trans s2
    refine gname_in ?_
    dsimp only
    refine ⟨_, _, rfl, rfl, by decide, by decide, by decide +kernel, by decide +kernel, Nat.le_of_lt (small1000 (by decide +kernel)), (by show 14 ≤ sizeLine; decide), fun O hO => ?_⟩
    have nOp : O ≠ p := newp hp2 hO
    have s3 := Same.upd (o := .lst (oddL.map V.str)) hO
    have hO3 : upd H2 O (.lst (oddL.map V.str)) O = some (.lst (oddL.map V.str)) := upd_same
    have hW3 := s3 _ _ hW2
    have k3 := k2.trans s3.but
    have hp3 := hp2.mono s3
    refine gname_in ?_
    dsimp only
    change tSeq _ _ _ _ (upd H2 O (.lst (oddL.map V.str)))
    generalize upd H2 O (.lst (oddL.map V.str)) = H3 at s3 hO3 hW3 k3 hp3
    refine ⟨_, rfl, _, rfl, _, rfl, W, _, rfl, SqL.of hW3, fun l1 hl1 => ?_⟩
    rw [cutS]
    have s4 := Same.upd (o := .lst ((cutT ts none (some spot)).map V.str)) hl1
    have hl4 : upd H3 l1 (.lst ((cutT ts none (some spot)).map V.str)) l1 = some (.lst ((cutT ts none (some spot)).map V.str)) := upd_same
    have n1p : l1 ≠ p := newp hp3 hl1
    generalize upd H3 l1 (.lst ((cutT ts none (some spot)).map V.str)) = H4 at s4 hl4
    have hO4 := s4 _ _ hO3
    have hW4 := s4 _ _ hW3
    have hp4 := hp3.mono s4
    have k4 := k3.trans s4.but
    have c1 := cutT_len ts none (some spot)
    refine ⟨_, rfl, _, rfl, p, 14, rfl, hp4, by decide, by decide, fun r H5 q0 q1 s5 hp5 => ?_⟩
    obtain ⟨u, hu, eu⟩ := at_str oddL (r := r) q0 q1
    have hO5 := s5 _ _ nOp hO4
    have hW5 := s5 _ _ nWp hW4
    have hl5 := s5 _ _ n1p hl4
    have k5 := k4.trans s5
    refine ⟨O, _, r, _, rfl, rfl, SqL.of hO5, eu, (by show 1 ≤ sizeLine; decide), fun l2 hl2 => ?_⟩
    have s6 := Same.upd (o := .lst [.str u]) hl2
    refine ⟨l1, l2, _, _, rfl, rfl, s6 _ _ hl5, upd_same, Nat.le_of_lt (small1000 (by rw [List.length_map, List.length_singleton]; omega)), fun l3 hl3 => ?_⟩
    have s7 := Same.upd (o := .lst ((cutT ts none (some spot)).map V.str ++ [.str u])) hl3
    have s67 := s6.trans s7
    have hl7 : upd (upd H5 l2 (.lst [.str u])) l3 (.lst ((cutT ts none (some spot)).map V.str ++ [.str u])) l3 = some (.lst ((cutT ts none (some spot) ++ [u]).map V.str)) := by
      rw [upd_same, List.map_append]
      rfl
    generalize upd (upd H5 l2 (.lst [.str u])) l3 (.lst ((cutT ts none (some spot)).map V.str ++ [.str u])) = H7 at s7 s67 hl7
    have hW7 := s67 _ _ hW5
    have hp7 := hp5.mono s67
    have k7 := k5.trans s67.but
    have c2 := cutT_len ts (some (spot + 1)) none
    refine ⟨_, rfl, _, rfl, _, _, rfl, rfl, _, rfl, W, _, rfl, SqL.of hW7, fun l4 hl4' => ?_⟩
    rw [cutS]
    have s8 := Same.upd (o := .lst ((cutT ts (some (spot + 1)) none).map V.str)) hl4'
    refine ⟨l3, l4, _, _, rfl, rfl, s8 _ _ hl7, upd_same, Nat.le_of_lt (small1000 (by rw [List.length_map, List.length_map, List.length_append, List.length_singleton]; omega)), fun l5 hl5' => ?_⟩
    have s9 := Same.upd (o := .lst ((cutT ts none (some spot) ++ [u]).map V.str ++ (cutT ts (some (spot + 1)) none).map V.str)) hl5'
    have s89 := s8.trans s9
    have hone : upd (upd H7 l4 (.lst ((cutT ts (some (spot + 1)) none).map V.str))) l5 (.lst ((cutT ts none (some spot) ++ [u]).map V.str ++ (cutT ts (some (spot + 1)) none).map V.str)) l5 = some (.lst (((cutT ts none (some spot) ++ [u]) ++ cutT ts (some (spot + 1)) none).map V.str)) := by
      rw [upd_same, List.map_append (l₁ := cutT ts none (some spot) ++ [u])]
    refine gname_in ?_
    dsimp only
    change tSeq _ _ _ _ (upd (upd H7 l4 (.lst ((cutT ts (some (spot + 1)) none).map V.str))) l5 (.lst ((cutT ts none (some spot) ++ [u]).map V.str ++ (cutT ts (some (spot + 1)) none).map V.str)))
    have n5p : l5 ≠ p := newp (hp7.mono s8) hl5'
    generalize upd (upd H7 l4 (.lst ((cutT ts (some (spot + 1)) none).map V.str))) l5 (.lst ((cutT ts none (some spot) ++ [u]).map V.str ++ (cutT ts (some (spot + 1)) none).map V.str)) = H9 at s9 s89 hone
    have bone : AllB ((cutT ts none (some spot) ++ [u]) ++ cutT ts (some (spot + 1)) none) 100 := ((bts.cut _ _).app fun v hv => by
      rw [List.mem_singleton] at hv
      subst hv
      exact oddL_ok v hu).app (bts.cut _ _)
    have lone : ((cutT ts none (some spot) ++ [u]) ++ cutT ts (some (spot + 1)) none).length ≤ 198 := by
      rw [List.length_append, List.length_append, List.length_singleton]
      omega
    generalize (cutT ts none (some spot) ++ [u]) ++ cutT ts (some (spot + 1)) none = one at hone bone lone
    have hW9 := s89 _ _ hW7
    have hp9 := hp7.mono s89
    have k9 := k7.trans s89.but
    have a0 : Asc (Str.ofString "0") := asc_lit (by decide +kernel)
    have aS0 : Asc (Str.ofString " 0") := asc_lit (by decide +kernel)
    have aSS : Asc (Str.ofString "  ") := asc_lit (by decide +kernel)
    have l_S : (Str.ofString " ").length = 1 := by decide +kernel
    have l_0 : (Str.ofString "0").length = 1 := by decide +kernel
    have l_S0 : (Str.ofString " 0").length = 2 := by decide +kernel
    have l_SS : (Str.ofString "  ").length = 2 := by decide +kernel
    have sm : ∀ n : Nat, n ≤ 1000 → n ≤ sizeLine := fun n h => Nat.le_of_lt (small1000 h)
    refine ⟨_, rfl, _, _, rfl, rfl, sm _ (by omega), _, rfl, _, _, rfl, rfl, sm _ (by omega), _, rfl, z, rfl, by omega, (by show 4 ≤ sizeLine; decide), fun S hS => ?_⟩
    refine gname_in ?_
    dsimp only
    have s10 := Same.upd (o := .lst ([Str.ofString "", Str.ofString " " ++ z, z ++ Str.ofString " ", Txt.replace z (Str.ofString " ") (Str.ofString "  ")].map V.str)) hS
    have hS10 : upd H9 S (.lst ([Str.ofString "", Str.ofString " " ++ z, z ++ Str.ofString " ", Txt.replace z (Str.ofString " ") (Str.ofString "  ")].map V.str)) S = some (.lst ([Str.ofString "", Str.ofString " " ++ z, z ++ Str.ofString " ", Txt.replace z (Str.ofString " ") (Str.ofString "  ")].map V.str)) := upd_same
    change tSeq _ _ _ _ (upd H9 S (.lst ([Str.ofString "", Str.ofString " " ++ z, z ++ Str.ofString " ", Txt.replace z (Str.ofString " ") (Str.ofString "  ")].map V.str)))
    generalize upd H9 S (.lst ([Str.ofString "", Str.ofString " " ++ z, z ++ Str.ofString " ", Txt.replace z (Str.ofString " ") (Str.ofString "  ")].map V.str)) = H10 at s10 hS10
    have hW10 := s10 _ _ hW9
    have hone10 := s10 _ _ hone
    have hp10 := hp9.mono s10
    have k10 := k9.trans s10.but
    have c3 := cutT_len ts none (some (-1))
    refine ⟨_, rfl, rfl, _, rfl, _, rfl, _, rfl, W, _, rfl, SqL.of hW10, fun c1' hc1 => ?_⟩
    rw [cutS]
    have s11 := Same.upd (o := .lst ((cutT ts none (some (-1))).map V.str)) hc1
    have hc11 : upd H10 c1' (.lst ((cutT ts none (some (-1))).map V.str)) c1' = some (.lst ((cutT ts none (some (-1))).map V.str)) := upd_same
    generalize upd H10 c1' (.lst ((cutT ts none (some (-1))).map V.str)) = H11 at s11 hc11
    refine ⟨_, c1', cutT ts none (some (-1)), rfl, rfl, SqL.of hc11, join_okB (bts.cut _ _) (by omega), ?_⟩
    refine ⟨_, rfl, _, _, rfl, rfl, sm _ (by omega), _, rfl, _, _, rfl, rfl, sm _ (by omega), _, rfl, rfl, z, rfl, rfl, (by rw [len_upper az]; omega), (by show 4 ≤ sizeLine; decide), fun S2 hS2 => ?_⟩
    have s12 := Same.upd (o := .lst ([Txt.join (Str.ofString " ") (cutT ts none (some (-1))), z ++ Str.ofString " 0", z ++ Str.ofString "0", Txt.upper z].map V.str)) hS2
    refine ⟨S, S2, _, _, rfl, rfl, s12 _ _ (s11 _ _ hS10), upd_same, (by show 8 ≤ sizeLine; decide), fun S3 hS3 => ?_⟩
    have s13 := Same.upd (o := .lst ([Str.ofString "", Str.ofString " " ++ z, z ++ Str.ofString " ", Txt.replace z (Str.ofString " ") (Str.ofString "  "), Txt.join (Str.ofString " ") (cutT ts none (some (-1))), z ++ Str.ofString " 0", z ++ Str.ofString "0", Txt.upper z].map V.str)) hS3
    have s1013 : Same H10 (upd (upd H11 S2 (.lst ([Txt.join (Str.ofString " ") (cutT ts none (some (-1))), z ++ Str.ofString " 0", z ++ Str.ofString "0", Txt.upper z].map V.str))) S3 (.lst ([Str.ofString "", Str.ofString " " ++ z, z ++ Str.ofString " ", Txt.replace z (Str.ofString " ") (Str.ofString "  "), Txt.join (Str.ofString " ") (cutT ts none (some (-1))), z ++ Str.ofString " 0", z ++ Str.ofString "0", Txt.upper z].map V.str))) := (s11.trans s12).trans s13
    have n3p : S3 ≠ p := newp ((hp10.mono s11).mono s12) hS3
    have hS13 : upd (upd H11 S2 (.lst ([Txt.join (Str.ofString " ") (cutT ts none (some (-1))), z ++ Str.ofString " 0", z ++ Str.ofString "0", Txt.upper z].map V.str))) S3 (.lst ([Str.ofString "", Str.ofString " " ++ z, z ++ Str.ofString " ", Txt.replace z (Str.ofString " ") (Str.ofString "  "), Txt.join (Str.ofString " ") (cutT ts none (some (-1))), z ++ Str.ofString " 0", z ++ Str.ofString "0", Txt.upper z].map V.str)) S3 = some (.lst ([Str.ofString "", Str.ofString " " ++ z, z ++ Str.ofString " ", Txt.replace z (Str.ofString " ") (Str.ofString "  "), Txt.join (Str.ofString " ") (cutT ts none (some (-1))), z ++ Str.ofString " 0", z ++ Str.ofString "0", Txt.upper z].map V.str)) := upd_same
    refine gname_in ?_
    dsimp only
    change tSeq _ _ _ _ (upd (upd H11 S2 (.lst ([Txt.join (Str.ofString " ") (cutT ts none (some (-1))), z ++ Str.ofString " 0", z ++ Str.ofString "0", Txt.upper z].map V.str))) S3 (.lst ([Str.ofString "", Str.ofString " " ++ z, z ++ Str.ofString " ", Txt.replace z (Str.ofString " ") (Str.ofString "  "), Txt.join (Str.ofString " ") (cutT ts none (some (-1))), z ++ Str.ofString " 0", z ++ Str.ofString "0", Txt.upper z].map V.str)))
    generalize upd (upd H11 S2 (.lst ([Txt.join (Str.ofString " ") (cutT ts none (some (-1))), z ++ Str.ofString " 0", z ++ Str.ofString "0", Txt.upper z].map V.str))) S3 (.lst ([Str.ofString "", Str.ofString " " ++ z, z ++ Str.ofString " ", Txt.replace z (Str.ofString " ") (Str.ofString "  "), Txt.join (Str.ofString " ") (cutT ts none (some (-1))), z ++ Str.ofString " 0", z ++ Str.ofString "0", Txt.upper z].map V.str)) = H13 at s1013 hS13
    have hone13 := s1013 _ _ hone10
    have hp13 := hp10.mono s1013
    have k13 := k10.trans s1013.but
    have bsome : AllB [Str.ofString "", Str.ofString " " ++ z, z ++ Str.ofString " ", Txt.replace z (Str.ofString " ") (Str.ofString "  "), Txt.join (Str.ofString " ") (cutT ts none (some (-1))), z ++ Str.ofString " 0", z ++ Str.ofString "0", Txt.upper z] 20000 := fun v hv => by
      simp only [List.mem_cons, List.not_mem_nil, or_false] at hv
      rcases hv with rfl | rfl | rfl | rfl | rfl | rfl | rfl | rfl
      · exact ⟨asc_lit (by decide +kernel), by decide +kernel⟩
      · exact ⟨asc_cat aS az, by rw [len_cat]; omega⟩
      · exact ⟨asc_cat az aS, by rw [len_cat]; omega⟩
      · refine ⟨asc_repl _ az aSS, ?_⟩
        have := len_repl z (Str.ofString " ") (Str.ofString "  ")
        rw [l_SS] at this
        omega
      · exact join_B (bts.cut _ _) (by omega)
      · exact ⟨asc_cat az aS0, by rw [len_cat]; omega⟩
      · exact ⟨asc_cat az a0, by rw [len_cat]; omega⟩
      · exact ⟨asc_upper az, by rw [len_upper az]; omega⟩
    refine ⟨_, rfl, p, 16, rfl, hp13, by decide, by decide, fun way H14 q2 q3 s14 hp14 => ?_⟩
    have hS14 := s14 _ _ n3p hS13
    have hone14 := s14 _ _ n5p hone13
    have k14 := k13.trans s14
    refine gname_in ?_
    dsimp only
    refine ⟨_, rfl, _, _, rfl, rfl, _, rfl, ite2 (fun c => ?_) (fun c => ?_)⟩
    · have c : way < 8 := of_decide_eq_true c
      obtain ⟨v, hv, ev⟩ := at_str [Str.ofString "", Str.ofString " " ++ z, z ++ Str.ofString " ", Txt.replace z (Str.ofString " ") (Str.ofString "  "), Txt.join (Str.ofString " ") (cutT ts none (some (-1))), z ++ Str.ofString " 0", z ++ Str.ofString "0", Txt.upper z] (r := way) q2 c
      obtain ⟨b1, b2⟩ := bsome v hv
      exact ⟨_, rfl, _, rfl, S3, _, way, _, rfl, rfl, SqL.of hS14, ev, kk v _ k14 hp14 b1 b2⟩
    · obtain ⟨b1, b2⟩ := join_B bone (by omega)
      exact ⟨rfl, _, rfl, _, l5, one, rfl, rfl, SqL.of hone14, join_okB bone (by omega), kk _ _ k14 hp14 b1 b2⟩
end
end Hk

namespace Hk
open PySem L2 PySem.W
section
variable {P : Program} {w : World} {K : Frag} {mg : Str → Option Value} {base : Heap}
theorem map_set (ts : List Str) (j : Nat) (u : Str) : (ts.map V.str).set j (V.str u) = (ts.set j u).map V.str := by rw [List.map_set]
theorem ixN_in {n : Nat} {r : Int} (h0 : 0 ≤ r) (h1 : r < (n : Int)) : ixN n r = some r.toNat := by
  unfold ixN
  rw [if_pos h0, if_pos h1]
def SmT (ts : List Str) : Prop := (∀ u ∈ ts, Asc u) ∧ (ts.map (·.length)).sum ≤ 60000
theorem AllB.smT {ts : List Str} (h : AllB ts 90) (hl : ts.length ≤ 602) : SmT ts := ⟨fun u hu => (h u hu).1, by
  have := PySem.StrLaws.sumLen_le (B := 90) ts fun u hu => (h u hu).2
  omega⟩
theorem sum_set : ∀ (ts : List Str) (j : Nat) (u : Str), ((ts.set j u).map (·.length)).sum ≤ (ts.map (·.length)).sum + u.length
  | [], _, _ => by simp
  | y :: r, 0, u => by
    simp only [List.set_cons_zero, List.map_cons, List.sum_cons]
    omega
  | y :: r, j + 1, u => by
    have := sum_set r j u
    simp only [List.set_cons_succ, List.map_cons, List.sum_cons]
    omega
theorem AllB.smS {ts : List Str} (h : AllB ts 90) (hl : ts.length ≤ 300) {u : Str} (hu : Asc u ∧ u.length ≤ 20000) (j : Nat) : SmT (ts.set j u) := ⟨fun v hv => (List.mem_or_eq_of_mem_set hv).elim (fun k => (h v k).1) fun e => e ▸ hu.1, by
  have := PySem.StrLaws.sumLen_le (B := 90) ts fun u hu => (h u hu).2
  have := sum_set ts j u
  have := hu.2
  omega⟩
def spSp : Sp := fun vs H Q _ => ∃ (p l : Addr) (ts : List Str), vs = [.ref p, .ref l] ∧ PenAt H p ∧ H l = some (.lst (ts.map V.str)) ∧ l ≠ p ∧ 0 < ts.length ∧ ts.length ≤ 300 ∧ AllB ts 90 ∧
  ∀ (l' : Addr) (ts' : List Str) (H' : Hp), SameBut p H H' → PenAt H' p → H' l' = some (.lst (ts'.map V.str)) → SmT ts' → ts'.length ≤ 700 → Q (.ref l') H'
theorem kn_spoilt (D : DefAt K mg "_law_spoilt_of" s_law_spoilt_of ["pen", "rows"]) (fr : Free mg ["len", "list"]) (kd : Kn P w K mg base 2 "_law_draw" ["pen", "many"] spDraw) (ko : Kn P w K mg base 3 "_law_odd_row" ["pen", "row"] spOR) : Kn P w K mg base 4 "_law_spoilt_of" ["pen", "rows"] spSp := by
  have sc : FnScope ["pen", "rows", "spot", "other", "found", "way"] ["pen", "rows"] (defScope s_law_spoilt_of) := ⟨rfl, rfl, rfl, by decide +kernel, rfl, by decide +kernel, by decide +kernel⟩
  refine D.kn (N := ["pen", "rows", "spot", "other", "found", "way"]) sc (fun vs H Q E h => ?_) (fun f cdv A outer s H vs Q E hr h => ?_)
  · obtain ⟨p, l, ts, rfl, _⟩ := h
    rfl
  · obtain ⟨p, l, ts, rfl, hp, hl, nlp, pos, lts, bts, kk⟩ := h
    have r2 := hr.mono (j := 2) (by decide)
    have r3 := hr.mono (j := 3) (by decide)
    have m_len := fr "len" (by simp)
    have m_list := fr "list" (by simp)
    refine ⟨_, (pss_cons (ps_set (i := 2) sc.nd rfl (Or.inl rfl) (pe_kn kd r2 (pa_cons (pv 0) (pa_cons (pe_callB call_len_seq rfl m_len PySem.boot_len (pa_cons (pv 1) pa_nil)) pa_nil)))) (pss_cons (ps_set (i := 3) sc.nd rfl (Or.inl rfl) (pe_kn kd r2 (pa_cons (pv 0) (pa_cons (pe_callB call_len_seq rfl m_len PySem.boot_len (pa_cons (pv 1) pa_nil)) pa_nil)))) (pss_cons (ps_set (i := 4) sc.nd rfl (Or.inl rfl) (pe_callTy call_list_of rfl m_list boot_tlist (pa_cons (pv 1) pa_nil))) (pss_cons (ps_set (i := 5) sc.nd rfl (Or.inl rfl) (pe_kn kd r2 (pa_cons (pv 0) (pa_cons pe_int pa_nil)))) (pss_cons (ps_if (pt_cmpR op_eq (pv 5) pe_int (nomark _)) (pss_one (ps_ret (pe_op op_cat (pe_slice sl_list (pv 4) po_none (po_some (pv 2))) (pe_slice sl_list (pv 4) (po_some (pe_op op_add (pv 2) pe_int)) po_none)))) pss_nil) (pss_cons (ps_if (pt_cmpR op_eq (pv 5) pe_int (nomark _)) (pss_one (ps_ret (pe_op op_cat (pe_slice sl_list (pv 4) po_none (po_some (pe_op op_add (pv 2) pe_int))) (pe_slice sl_list (pv 4) (po_some (pv 2)) po_none)))) pss_nil) (pss_cons (ps_if (pt_cmpR op_eq (pv 5) pe_int (nomark _)) (pss_one (ps_asg (pe_ix ix_list (pv 1) (pv 3) (fun _ _ => rfl)) (pg_sub (pv 4) (pv 2) set_list))) (pss_one (ps_if (pt_cmpR op_eq (pv 5) pe_int (nomark _)) (pss_one (ps_ret (pe_revL (pv 1)))) (pss_one (ps_asg (pe_kn ko r3 (pa_cons (pv 0) (pa_cons (pe_ix ix_list (pv 1) (pv 2) (fun _ _ => rfl)) pa_nil))) (pg_sub (pv 4) (pv 2) set_list)))))) (pss_one (ps_ret (pv 4)))))))))), ?_⟩
    have sm : ∀ n : Nat, n ≤ 1000 → n ≤ sizeLine := fun n h => Nat.le_of_lt (small1000 h)
    refine ⟨_, rfl, _, rfl, l, _, rfl, .inl (SqL.of hl), p, _, rfl, hp, by rw [List.length_map]; omega, by rw [List.length_map]; omega, fun spot H1 a0 a1 s1 hp1 => ?_⟩
    rw [List.length_map] at a1
    refine gname_in ?_
    dsimp only
    have hl1 := s1 _ _ nlp hl
    refine ⟨_, rfl, _, rfl, l, _, rfl, .inl (SqL.of hl1), p, _, rfl, hp1, by rw [List.length_map]; omega, by rw [List.length_map]; omega, fun other H2 b0 b1 s2 hp2 => ?_⟩
    rw [List.length_map] at b1
    refine gname_in ?_
    dsimp only
    have hl2 := s2 _ _ nlp hl1
    refine ⟨_, rfl, l, _, rfl, .inl (SqL.of hl2), fun F hF => ?_⟩
    have nFp : F ≠ p := newp hp2 hF
    have s3 := Same.upd (o := .lst (ts.map V.str)) hF
    have hF3 : upd H2 F (.lst (ts.map V.str)) F = some (.lst (ts.map V.str)) := upd_same
    have nFH : H F = none := by
      cases e : H F with
      | none => rfl
      | some o =>
        have := s2 _ _ nFp (s1 _ _ nFp e)
        rw [hF] at this
        cases this
    refine gname_in ?_
    dsimp only
    change tSeq _ _ _ _ (upd H2 F (.lst (ts.map V.str)))
    generalize upd H2 F (.lst (ts.map V.str)) = H3 at s3 hF3
    have hl3 := s3 _ _ hl2
    have hp3 := hp2.mono s3
    have k3 := (s1.trans s2).trans s3.but
    refine ⟨_, rfl, p, 7, rfl, hp3, by decide, by decide, fun way H4 d0 d1 s4 hp4 => ?_⟩
    refine gname_in ?_
    dsimp only
    have hl4 := s4 _ _ nlp hl3
    have hF4 := s4 _ _ nFp hF3
    have k4 := k3.trans s4
    refine ⟨_, rfl, rfl, _, rfl, ite2 (fun c => ?_) (fun c => ?_)⟩
    · refine ⟨_, rfl, _, rfl, _, rfl, F, _, rfl, SqL.of hF4, fun x1 hx1 => ?_⟩
      rw [cutS]
      have t1 := Same.upd (o := .lst ((cutT ts none (some spot)).map V.str)) hx1
      refine ⟨_, rfl, _, rfl, _, _, rfl, rfl, _, rfl, F, _, rfl, SqL.of (t1 _ _ hF4), fun x2 hx2 => ?_⟩
      rw [cutS]
      have t2 := Same.upd (o := .lst ((cutT ts (some (spot + 1)) none).map V.str)) hx2
      have e1 := cutT_len ts none (some spot)
      have e2 := cutT_len ts (some (spot + 1)) none
      refine ⟨x1, x2, _, _, rfl, rfl, t2 _ _ upd_same, upd_same, sm _ (by rw [List.length_map, List.length_map]; omega), fun x3 hx3 => ?_⟩
      have t3 := Same.upd (o := .lst ((cutT ts none (some spot)).map V.str ++ (cutT ts (some (spot + 1)) none).map V.str)) hx3
      have t := (t1.trans t2).trans t3
      exact kk x3 (cutT ts none (some spot) ++ cutT ts (some (spot + 1)) none) _ (k4.trans t.but) (hp4.mono t) (by rw [upd_same, List.map_append]) (AllB.smT ((bts.cut _ _).app (bts.cut _ _)) (by rw [List.length_append]; omega)) (by rw [List.length_append]; omega)
    refine ⟨_, rfl, rfl, _, rfl, ite2 (fun c => ?_) (fun c => ?_)⟩
    · refine ⟨_, rfl, _, rfl, _, _, rfl, rfl, _, rfl, F, _, rfl, SqL.of hF4, fun x1 hx1 => ?_⟩
      rw [cutS]
      have t1 := Same.upd (o := .lst ((cutT ts none (some (spot + 1))).map V.str)) hx1
      refine ⟨_, rfl, _, rfl, _, rfl, F, _, rfl, SqL.of (t1 _ _ hF4), fun x2 hx2 => ?_⟩
      rw [cutS]
      have t2 := Same.upd (o := .lst ((cutT ts (some spot) none).map V.str)) hx2
      have e1 := cutT_len ts none (some (spot + 1))
      have e2 := cutT_len ts (some spot) none
      refine ⟨x1, x2, _, _, rfl, rfl, t2 _ _ upd_same, upd_same, sm _ (by rw [List.length_map, List.length_map]; omega), fun x3 hx3 => ?_⟩
      have t3 := Same.upd (o := .lst ((cutT ts none (some (spot + 1))).map V.str ++ (cutT ts (some spot) none).map V.str)) hx3
      have t := (t1.trans t2).trans t3
      exact kk x3 (cutT ts none (some (spot + 1)) ++ cutT ts (some spot) none) _ (k4.trans t.but) (hp4.mono t) (by rw [upd_same, List.map_append]) (AllB.smT ((bts.cut _ _).app (bts.cut _ _)) (by rw [List.length_append]; omega)) (by rw [List.length_append]; omega)
    have hix : ixN (ts.map V.str).length spot = some spot.toNat := by
      rw [List.length_map]
      exact ixN_in a0 a1
    refine ⟨_, rfl, rfl, _, rfl, ite2 (fun c => ?_) (fun c => ?_)⟩
    · obtain ⟨u, hu, eu⟩ := at_str ts (r := other) b0 b1
      refine ⟨_, rfl, _, rfl, l, _, other, _, rfl, rfl, SqL.of hl4, eu, _, rfl, _, rfl, F, _, spot, _, rfl, rfl, hF4, hix, ?_⟩
      rw [map_set]
      refine ⟨_, rfl, kk F (ts.set spot.toNat u) _ (fun b o nb e => ?_) ?_ upd_same (bts.smS lts ⟨(bts u hu).1, Nat.le_trans (bts u hu).2 (by decide)⟩ _) (by rw [List.length_set]; omega)⟩
      · rw [upd_ne (ne_of_none e nFH)]
        exact k4 _ _ nb e
      · obtain ⟨x, y, q, e⟩ := hp4
        exact ⟨x, y, q, by rw [upd_ne (Ne.symm nFp)]; exact e⟩
    refine ⟨_, rfl, rfl, _, rfl, ite2 (fun c => ?_) (fun c => ?_)⟩
    · refine ⟨_, rfl, l, _, rfl, SqL.of hl4, fun x1 hx1 => ?_⟩
      have t1 := Same.upd (o := .lst (ts.map V.str).reverse) hx1
      exact kk x1 ts.reverse _ (k4.trans t1.but) (hp4.mono t1) (by rw [upd_same, List.map_reverse]) (AllB.smT (fun v hv => bts v (List.mem_reverse.mp hv)) (by rw [List.length_reverse]; omega)) (by rw [List.length_reverse]; omega)
    · obtain ⟨u, hu, eu⟩ := at_str ts (r := spot) a0 a1
      refine ⟨_, rfl, _, rfl, _, rfl, l, _, spot, _, rfl, rfl, SqL.of hl4, eu, p, u, rfl, hp4, (bts u hu).1, (bts u hu).2, fun z' H5 s5 hp5 az' lz' => ?_⟩
      have hF5 := s5 _ _ nFp hF4
      refine ⟨_, rfl, _, rfl, F, _, spot, _, rfl, rfl, hF5, hix, ?_⟩
      rw [map_set]
      refine ⟨_, rfl, kk F (ts.set spot.toNat z') _ (fun b o nb e => ?_) ?_ upd_same (bts.smS lts ⟨az', lz'⟩ _) (by rw [List.length_set]; omega)⟩
      · rw [upd_ne (ne_of_none e nFH)]
        exact s5 _ _ nb (k4 _ _ nb e)
      · obtain ⟨x, y, q, e⟩ := hp5
        exact ⟨x, y, q, by rw [upd_ne (Ne.symm nFp)]; exact e⟩
end
end Hk

namespace Hk
open PySem L2 Builtin.Str
theorem hd_tl {z w0 : Str} {r : List Str} (h : Txt.split z ⟨#[32]⟩ = w0 :: r) : hdW z = w0 ∧ tlW z = r := by
  have := wds_eq z
  rw [h] at this
  injection this with a b
  exact ⟨a.symm, b.symm⟩
theorem rowT_rowA {m : Int} {q : Int × Int} (hm : m ≤ 40) (h : 0 ≤ q.1 ∧ q.1 < m ∧ 0 ≤ q.2 ∧ q.2 < m ∧ q.1 ≠ q.2) : rowT m (rowA q) = some q := by
  obtain ⟨a0, a1, b0, b1, ne⟩ := h
  obtain ⟨e1, e2⟩ := hd_tl (rowA_split a0 (by omega) b0 (by omega))
  have r1 : ∀ x : Int, 0 ≤ x → x < m → inRV 0 m (.int x) = true := fun x h0 h1 => by
    show (decide (0 ≤ x) && decide (x < m)) = true
    rw [decide_eq_true h0, decide_eq_true h1]
    rfl
  exact rowT_s (by rw [e1]; exact decide_eq_true rfl) e2 (num_nr a0 (by omega)) (num_nr b0 (by omega)) (r1 _ a0 a1) (r1 _ b0 b1) ne
theorem rowM_row0 {m : Int} (h0 : 1 ≤ m) (h1 : m ≤ 40) : rowM (row0 m) = .int m := by
  obtain ⟨e1, e2⟩ := hd_tl (row0_split (m := m) (by omega) h1)
  have k : mnV (.int m) = true := by simp [mnV, h0, h1]
  unfold rowM
  rw [e1, e2]
  show (if (decide (V.str (Str.ofString "web") = V.str (Str.ofString "web")) && mnV (nrV (numS m))) = true then nrV (numS m) else .non) = _
  rw [num_nr (by omega) h1, decide_eq_true rfl, k]
  rfl
theorem ris_in {acc : List (Int × Int)} {q : Int × Int} (h : ∀ l ∈ acc, lexB l q = true) : risQ (acc.drop (acc.length - 1) ++ [q]) = true := by
  rcases List.eq_nil_or_concat acc with rfl | ⟨a', l, rfl⟩
  · rfl
  · have e : (a' ++ [l]).drop ((a' ++ [l]).length - 1) = [l] := by
      rw [List.length_append, List.length_cons, List.length_nil, Nat.add_sub_cancel]
      rw [List.drop_append_of_le_length (Nat.le_refl _), List.drop_length]
      rfl
    rw [List.concat_eq_append, e]
    show (ltQ l q && true) = true
    rw [ltQ_of, h l (by simp)]
    rfl
theorem wk_good {m : Int} (hm : m ≤ 40) : ∀ (ars acc : List (Int × Int)) (n : Nat), GoodA m ars → ((acc ++ ars).Pairwise fun x y => lexB x y = true) → (acc ++ ars).length ≤ 200 → wkD m (ars.map rowA) acc n = none
  | [], _, _, _, _, _ => rfl
  | q :: r, acc, n, g, st, hl => by
    have gq := g q (by simp)
    have ok : okQ acc q = true := by
      unfold okQ
      rw [ris_in fun l hl => (List.pairwise_append.mp st).2.2 l hl q (by simp), decide_eq_false (by rw [List.length_append, List.length_cons] at hl; omega)]
      rfl
    rw [List.map_cons, wk_ok (rowT_rowA hm gq) ok]
    refine wk_good hm r (acc ++ [q]) (n + 1) (fun x hx => g x (List.mem_cons_of_mem _ hx)) ?_ ?_
    · rw [List.append_assoc]
      exact st
    · rw [List.append_assoc]
      exact hl
theorem wk_over {m : Int} (hm : m ≤ 40) : ∀ (ars acc : List (Int × Int)) (n : Nat), GoodA m ars → ((acc ++ ars).Pairwise fun x y => lexB x y = true) → acc.length ≤ 200 → 200 < (acc ++ ars).length → wkD m (ars.map rowA) acc n = some (n + (200 - acc.length))
  | [], acc, n, _, _, h1, h2 => by
    rw [List.append_nil] at h2
    omega
  | q :: r, acc, n, g, st, h1, h2 => by
    by_cases e : acc.length = 200
    · rw [List.map_cons, wk_200 e, e]
      rfl
    · have gq := g q (by simp)
      have ok : okQ acc q = true := by
        unfold okQ
        rw [ris_in fun l hl => (List.pairwise_append.mp st).2.2 l hl q (by simp), decide_eq_false e]
        rfl
      rw [List.map_cons, wk_ok (rowT_rowA hm gq) ok, wk_over hm r (acc ++ [q]) (n + 1) (fun x hx => g x (List.mem_cons_of_mem _ hx)) (by rw [List.append_assoc]; exact st) (by rw [List.length_append, List.length_singleton]; omega) (by rw [List.append_assoc]; exact h2), List.length_append, List.length_singleton]
      congr 1
      omega
theorem due_text {m : Int} {ars : List (Int × Int)} (h0 : 1 ≤ m) (h1 : m ≤ 40) (g : GoodA m ars) : dueT (textOf m ars) = wkD m (ars.map rowA) [] 2 := by
  have ai : ∀ q ∈ ars, 0 ≤ q.1 ∧ q.1 ≤ 40 ∧ 0 ≤ q.2 ∧ q.2 ≤ 40 := fun q hq => by
    obtain ⟨a, b, c, d, _⟩ := g q hq
    exact ⟨a, by omega, c, by omega⟩
  have e : rowsT (textOf m ars) = row0 m :: ars.map rowA := text_split (by omega) h1 ai
  rw [dueT_int (m := m) (by rw [e]; exact rowM_row0 h0 h1), e]
  rfl
end Hk

namespace Hk
open PySem L2 PySem.W
theorem pa_ct {X : Cx} {es' : List Expr} {k : Nat} {p : Pos} {es : List Expr} {te : TE} {t : TA} (ha : PE X (.Tuple es' k p) te) (hr : PA X es t) : PA X (.Tuple es' k p :: es) (tCons te t) := pa_cons ha hr (by rfl)
theorem pa_ci {X : Cx} {i : Int} {j : Nat} {p : Pos} {es : List Expr} {t : TA} (hr : PA X es t) : PA X (.Constant (.int i) j p :: es) (tCons (tC (.int i)) t) := pa_cons pe_int hr (by rfl)
theorem pa_cn {X : Cx} {j : Nat} {p : Pos} {es : List Expr} {t : TA} (hr : PA X es t) : PA X (.Constant .none j p :: es) (tCons (tC .non) t) := pa_cons pe_non hr (by rfl)
theorem pa_cb {X : Cx} {b : Bool} {j : Nat} {p : Pos} {es : List Expr} {t : TA} (hr : PA X es t) : PA X (.Constant (.bool b) j p :: es) (tCons (tC (.bl b)) t) := pa_cons pe_bl hr (by rfl)
theorem pa_cl {X : Cx} {es' : List Expr} {p : Pos} {es : List Expr} {te : TE} {t : TA} (ha : PE X (.List es' p) te) (hr : PA X es t) : PA X (.List es' p :: es) (tCons te t) := pa_cons ha hr (by rfl)
theorem pa_cd {X : Cx} {p : Pos} {es : List Expr} {t : TA} (hr : PA X es t) : PA X (.Dict [] [] p :: es) (tCons tDNewK t) := pa_cons pe_dnewK hr (by rfl)
def litA : Expr := .List [.Constant .none 0 ⟨205, 18, 205, 22⟩, .Constant (.int 0) 0 ⟨205, 24, 205, 25⟩, .Constant (.bool true) 0 ⟨205, 27, 205, 31⟩, .List [.Constant (.str (Str.ofString "web 1")) 0 ⟨205, 34, 205, 41⟩] ⟨205, 33, 205, 42⟩, .Tuple [.Constant (.str (Str.ofString "web 1")) 0 ⟨205, 45, 205, 52⟩] 0 ⟨205, 44, 205, 54⟩, .Dict [] [] ⟨205, 56, 205, 58⟩] ⟨205, 17, 205, 59⟩
theorem pe_litA {X : Cx} : PE X litA (tLst (tCons (tC .non) (tCons (tC (.int 0)) (tCons (tC (.bl true)) (tCons (tLst (tCons (tC (.str (Str.ofString "web 1"))) tNil)) (tCons (tTup (tCons (tC (.str (Str.ofString "web 1"))) tNil)) (tCons tDNewK tNil))))))) := by
  unfold litA
  refine pe_lst ?_
  refine pa_cn ?_
  refine pa_ci ?_
  refine pa_cb ?_
  refine pa_cl ?_ ?_
  · refine pe_lst ?_
    refine pa_cs ?_
    exact pa_nil
  refine pa_ct ?_ ?_
  · refine pe_tup ?_
    refine pa_cs ?_
    exact pa_nil
  refine pa_cd ?_
  exact pa_nil
def litB : Expr := .List [.Constant (.str (Str.ofString "")) 0 ⟨211, 17, 211, 19⟩, .Constant (.str (Str.ofString "web 1")) 0 ⟨211, 21, 211, 28⟩, .Constant (.str (Str.ofString "web 0")) 0 ⟨211, 30, 211, 37⟩, .Constant (.str (Str.ofString "web 41")) 0 ⟨211, 39, 211, 47⟩, .Constant (.str (Str.ofString "web 40")) 0 ⟨211, 49, 211, 57⟩, .Constant (.str (Str.ofString "web 2\narrow 1 0\narrow 0 1")) 0 ⟨211, 59, 211, 88⟩, .Constant (.str (Str.ofString "web 2\n")) 0 ⟨211, 90, 211, 99⟩, .Constant (.str (Str.ofString "\n")) 0 ⟨211, 101, 211, 105⟩, .Constant (.str (Str.ofString "web 2 ")) 0 ⟨211, 107, 211, 115⟩] ⟨211, 16, 211, 116⟩
theorem pe_litB {X : Cx} : PE X litB (tLst (tCons (tC (.str (Str.ofString ""))) (tCons (tC (.str (Str.ofString "web 1"))) (tCons (tC (.str (Str.ofString "web 0"))) (tCons (tC (.str (Str.ofString "web 41"))) (tCons (tC (.str (Str.ofString "web 40"))) (tCons (tC (.str (Str.ofString "web 2\narrow 1 0\narrow 0 1"))) (tCons (tC (.str (Str.ofString "web 2\n"))) (tCons (tC (.str (Str.ofString "\n"))) (tCons (tC (.str (Str.ofString "web 2 "))) tNil)))))))))) := by
  unfold litB
  refine pe_lst ?_
  refine pa_cs ?_
  refine pa_cs ?_
  refine pa_cs ?_
  refine pa_cs ?_
  refine pa_cs ?_
  refine pa_cs ?_
  refine pa_cs ?_
  refine pa_cs ?_
  refine pa_cs ?_
  exact pa_nil
def forWith : Stmt → Expr → Stmt
  | .For t _ b o p, e => .For t e b o p
  | s, _ => s
def st0 : Stmt := match defBody s_law with
  | s :: _ => s
  | _ => .Pass ⟨0, 0, 0, 0⟩
def st3 : Stmt := match defBody s_law with
  | _ :: _ :: _ :: s :: _ => s
  | _ => .Pass ⟨0, 0, 0, 0⟩
@[irreducible] def it0 : Expr := match defBody s_law with
  | .For _ e _ _ _ :: _ => e
  | _ => .Constant .none 0 ⟨0, 0, 0, 0⟩
@[irreducible] def it3 : Expr := match defBody s_law with
  | _ :: _ :: _ :: .For _ e _ _ _ :: _ => e
  | _ => .Constant .none 0 ⟨0, 0, 0, 0⟩
theorem it0_eq : it0 = litA := by kernel_rfl
theorem it3_eq : it3 = litB := by kernel_rfl
theorem body_eq : defBody s_law = forWith st0 it0 :: ((defBody s_law).drop 1).take 2 ++ forWith st3 it3 :: (defBody s_law).drop 4 := by kernel_rfl
theorem ps_forF {X : Cx} {tg iter : Expr} {body : List Stmt} {wi : TI} {g : TG} {tb : TS} {pos : Pos} (hs : ∀ x, foldedSetIterable iter X.env x = pure x) (hp : PassesOwn (model X.prog X.w) X.A X.env X.xe) (hc : X.calm = true) (hi : PI X tg iter wi) (hg : PG X tg g) (hb : PSs X body tb) : PS X (.For tg iter body [] pos) (tFor wi g tb) := ps_for hp hc hi hg hb hs
theorem fold0 (env : Env) (v : Value) : foldedSetIterable it0 env v = pure v := by
  rw [it0_eq]
  rfl
theorem fold3 (env : Env) (v : Value) : foldedSetIterable it3 env v = pure v := by
  rw [it3_eq]
  rfl
theorem pe_it0 {X : Cx} : PE X it0 (tLst (tCons (tC .non) (tCons (tC (.int 0)) (tCons (tC (.bl true)) (tCons (tLst (tCons (tC (.str (Str.ofString "web 1"))) tNil)) (tCons (tTup (tCons (tC (.str (Str.ofString "web 1"))) tNil)) (tCons tDNewK tNil))))))) := by
  rw [it0_eq]
  exact pe_litA
theorem pe_it3 {X : Cx} : PE X it3 (tLst (tCons (tC (.str (Str.ofString ""))) (tCons (tC (.str (Str.ofString "web 1"))) (tCons (tC (.str (Str.ofString "web 0"))) (tCons (tC (.str (Str.ofString "web 41"))) (tCons (tC (.str (Str.ofString "web 40"))) (tCons (tC (.str (Str.ofString "web 2\narrow 1 0\narrow 0 1"))) (tCons (tC (.str (Str.ofString "web 2\n"))) (tCons (tC (.str (Str.ofString "\n"))) (tCons (tC (.str (Str.ofString "web 2 "))) tNil)))))))))) := by
  rw [it3_eq]
  exact pe_litB
end Hk

namespace Hk
open PySem L2 PySem.W
section
variable {P : Program} {w : World} {K : Frag} {mg : Str → Option Value} {base : Heap}
def ArIn (ars : List (Int × Int)) : Prop := ∀ q ∈ ars, 0 ≤ q.1 ∧ q.1 ≤ 40 ∧ 0 ≤ q.2 ∧ q.2 ≤ 40
theorem nlog {n : Int} (h0 : 0 ≤ n) (h1 : n ≤ 40) : n.natAbs.log2 < 1920 := by
  have : n.natAbs ≤ 40 := by omega
  rcases Nat.eq_zero_or_pos n.natAbs with h | h
  · rw [h]; decide
  · exact Nat.lt_of_le_of_lt (Nat.log2_le_self _) (by omega)
theorem cat_le (a b : Str) : a.length ≤ (a ++ b).length := by
  rw [len_cps, len_cps, cat_cps, List.length_append]
  omega
def spWS : Sp := fun vs H Q _ => ∃ (a t : Addr) (m : Int) (us : List V) (ars : List (Int × Int)), vs = [.ref a] ∧ Web H a t m us ars ∧ 0 ≤ m ∧ m ≤ 40 ∧ ArIn ars ∧ us.length ≤ 200 ∧ ∀ H', Same H H' → Q (.str (textOf m ars)) H'
theorem kn_ltextof (D : DefAt K mg "_law_text_of" s_law_text_of ["web"]) (fr : Free mg ["str"]) : Kn P w K mg base 1 "_law_text_of" ["web"] spWS := by
  have sc : FnScope ["web", "rows", "a", "b"] ["web"] (defScope s_law_text_of) := ⟨rfl, rfl, rfl, by decide +kernel, rfl, by decide +kernel, by decide +kernel⟩
  refine D.kn (N := ["web", "rows", "a", "b"]) sc (fun vs H Q E h => ?_) (fun f cdv A outer s H vs Q E hr h => ?_)
  · obtain ⟨a, t, m, us, ars, rfl, _⟩ := h
    rfl
  · obtain ⟨a, t, m, us, ars, rfl, W, m0, m1, ai, lu, kk⟩ := h
    have la := arsLen W.ars
    have m_str := fr "str" (by simp)
    refine ⟨_, (pss_cons (ps_set (i := 1) sc.nd rfl (Or.inl rfl) (pe_lst (pa_cons (pe_op op_add_str pe_str (pe_callTy call_str_int rfl m_str boot_tstr (pa_cons (pe_ix ix_tup (pv 0) pe_int (fun _ _ => rfl)) pa_nil))) pa_nil))) (pss_cons (ps_for PassesOwn.never rfl (pi_tup (pe_ix ix_tup (pv 0) pe_int (fun _ _ => rfl))) (pg_tup (n := 2) rfl (pgs_cons (pg_name (i := 2) sc.nd rfl (Or.inl rfl)) (pgs_cons (pg_name (i := 3) sc.nd rfl (Or.inl rfl)) pgs_nil))) (pss_one (ps_expr (pe_bm PySem.F.plainAttrs_list PySem.F.slot_list_append PySem.F.type_list_append mt_append (pv 1) (pa_cons (pe_op op_add_str (pe_op op_add_str (pe_op op_add_str pe_str (pe_callTy call_str_int rfl m_str boot_tstr (pa_cons (pv 2) pa_nil))) pe_str) (pe_callTy call_str_int rfl m_str boot_tstr (pa_cons (pv 3) pa_nil))) pa_nil))))) (pss_one (ps_ret (pe_bm PySem.F.plainAttrs_str PySem.F.slot_str_join PySem.F.type_str_join mt_join pe_str (pa_cons (pv 1) pa_nil)))))), ?_⟩
    have l20 : ∀ z : Str, z.length ≤ 20 → z.length ≤ sizeLine := fun z h => Nat.le_of_lt (small1000 (by omega))
    have fit : ∀ a b : Str, (a ++ b).length ≤ 20 → a.length + b.length ≤ sizeLine := fun a b h => by
      rw [len_cps, cat_cps, List.length_append] at h
      rw [len_cps, len_cps]
      exact Nat.le_of_lt (small1000 (by omega))
    have k1 : (Str.ofString "web " ++ numS m).length ≤ 20 := row0_len m0 m1
    refine ⟨_, rfl, a, _, 0, _, rfl, rfl, SqT.of W.top, rfl, m, rfl, nlog m0 m1, _, _, rfl, rfl, fit _ _ k1, (by show 1 ≤ sizeLine; decide), fun l hl => ?_⟩
    refine gname_in ?_
    dsimp only
    have s1 := Same.upd (o := .lst [.str (row0 m)]) hl
    have hl1 : upd H l (.lst [.str (row0 m)]) l = some (.lst [.str (row0 m)]) := upd_same
    change tSeq _ _ _ _ (upd H l (.lst [.str (row0 m)]))
    have Hl := hl
    refine ⟨_, rfl, a, _, 1, _, rfl, rfl, SqT.of (s1 _ _ W.top), rfl, t, rfl, ⟨_, SqT.of (s1 _ _ W.arr)⟩, for_tup (K := K) (xs := us) (fun i σ H2 => ∃ v v', σ = [some (.ref a), some (.ref l), v, v'] ∧ Same H H2 ∧ H2 l = some (.lst (V.str (row0 m) :: (ars.take i).map fun q => V.str (rowA q))))
      ⟨none, none, rfl, s1, hl1⟩ (fun i σ H2 _ ⟨_, _, _, s2, _⟩ => SqT.of (s2 _ _ W.arr)) ?_ ?_⟩
    · rintro i y σ H2 hi ⟨v, v', rfl, s2, hl2⟩
      obtain ⟨q, e1, p, rfl, hp⟩ := Paired.get' (W.ars.mono s2) hi
      obtain ⟨a0, a1, b0, b1⟩ := ai q (List.mem_of_getElem? e1)
      have il : i < ars.length := (List.getElem?_eq_some_iff.mp e1).1
      have z4 : ((((Str.ofString "arrow ") ++ numS q.1) ++ Str.ofString " ") ++ numS q.2).length ≤ 20 := rowA_len a0 a1 b0 b1
      have z3 : (((Str.ofString "arrow ") ++ numS q.1) ++ Str.ofString " ").length ≤ 20 := Nat.le_trans (cat_le _ _) z4
      have z2 : ((Str.ofString "arrow ") ++ numS q.1).length ≤ 20 := Nat.le_trans (cat_le _ _) z3
      refine ⟨p, _, rfl, SqT.of hp, rfl, _, _, rfl, _, _, rfl, rfl, ?_⟩
      refine ⟨_, rfl, .inl ⟨rfl, _, SqL.of hl2⟩, _, rfl, q.1, rfl, nlog a0 a1, _, _, rfl, rfl, fit _ _ z2, _, _, rfl, rfl, fit _ _ z3, _, rfl, q.2, rfl, nlog b0 b1, _, _, rfl, rfl, fit _ _ z4, ?_⟩
      refine ⟨l, _, _, rfl, rfl, hl2, ?_, ?_⟩
      · rw [List.length_cons, List.length_map, List.length_take]
        exact small1000 (by omega)
      · refine ⟨_, _, rfl, ?_, ?_⟩
        · exact fun b o hb => by
            rw [upd_ne (ne_of_none hb hl)]
            exact s2 _ _ hb
        · rw [upd_same, take_snoc _ _ q e1, List.map_append]
          rfl
    · rintro σ H2 ⟨v, v', rfl, s2, hl2⟩
      rw [List.take_of_length_le (by omega)] at hl2
      refine ⟨rfl, _, rfl, _, l, rowsOf m ars, rfl, rfl, SqL.of ?_, ?_, ?_⟩
      · rw [hl2]
        unfold rowsOf
        rw [List.map_cons, List.map_map]
        rfl
      · rw [n10]
        exact rows_ok m0 m1 ai (by omega)
      · have e : Txt.join (Str.ofString "\n") (rowsOf m ars) = textOf m ars := by
          rw [n10]
          exact PySem.StrLaws.glued_eq_join _ _
        rw [e]
        exact kk _ s2
end
end Hk

namespace Hk
open PySem L2 PySem.W
section
variable {P : Program} {w : World} {K : Frag} {mg : Str → Option Value} {base : Heap}
theorem knH_lawWhole (D : DefAt K mg "_law_whole" s_law_whole ["found"]) (fr : Free mg ["isinstance", "int", "bool"]) : KnH P w K mg base 1 "_law_whole" ["found"] spWhole := by
  refine D.knH (N := ["found"]) ⟨rfl, rfl, rfl, by decide +kernel, rfl, by decide +kernel, by decide +kernel⟩ (fun vs H Q E h => ?_) (fun f cdv A outer s H vs Q hr h => ?_)
  · obtain ⟨x, T, rfl, _⟩ := h
    rfl
  · obtain ⟨x, T, rfl, d, k⟩ := h
    have m1 := fr "isinstance" (by simp)
    have m2 := fr "int" (by simp)
    have m3 := fr "bool" (by simp)
    refine ⟨_, pss_one (ps_ret (pe_and (pe_callB call_isi rfl m1 boot_isi (pa_cons (pv 0) (pa_cons (pe_bltn (v := .ty "int") rfl m2 boot_tint rfl) pa_nil)))
      (pe_one (pe_not (pe_callB call_isi rfl m1 boot_isi (pa_cons (pv 0) (pa_cons (pe_bltn (v := .ty "bool") rfl m3 boot_tbool rfl) pa_nil))))))), ?_⟩
    refine ⟨x, rfl, x, "int", T, rfl, d, by simp, _, rfl, ite2 (fun h1 => ?_) (fun h1 => ?_)⟩
    · refine ⟨x, rfl, x, "bool", T, rfl, d, by simp, _, rfl, ?_⟩
      cases d <;> first | exact k | exact absurd h1 (by decide)
    · cases d <;> first | exact k | exact absurd (by decide) h1
end
end Hk

namespace Hk
open PySem L2 PySem.W
section
variable {P : Program} {w : World} {K : Frag} {mg : Str → Option Value} {base : Heap}
theorem scal_due (z : Str) : scal (dueV z) (dueV z) = true := by
  cases h : dueT z with
  | none => rw [dueV_none h]; rfl
  | some n => rw [dueV_some h]; rfl
def pq (x : Int) (i : Nat) : List (Int × Int) := ((List.range i).filter fun (y : Nat) => !decide (V.int ((0 : Int) + (y : Int)) = V.int x)).map fun (y : Nat) => (x, (0 : Int) + (y : Int))
def p20 (n : Nat) : List (Int × Int) := (List.range n).flatMap fun (k : Nat) => pq ((0 : Int) + (k : Int)) 20
theorem pq_len (x : Int) (i : Nat) : (pq x i).length ≤ i := by
  unfold pq
  rw [List.length_map]
  exact Nat.le_trans (List.length_filter_le _ _) (by rw [List.length_range]; exact Nat.le_refl _)
theorem pq_succ (x : Int) (i : Nat) : pq x (i + 1) = if (!decide (V.int ((0 : Int) + (i : Int)) = V.int x)) = true then pq x i ++ [(x, (0 : Int) + (i : Int))] else pq x i := by
  unfold pq
  rw [List.range_succ, List.filter_append, List.map_append]
  split
  · next h => rw [List.filter_cons, if_pos h]; rfl
  · next h => rw [List.filter_cons, if_neg h]; simp
theorem p20_succ (n : Nat) : p20 (n + 1) = p20 n ++ pq ((0 : Int) + (n : Int)) 20 := by
  unfold p20
  rw [List.range_succ, List.flatMap_append]
  simp
theorem p20_len (n : Nat) : (p20 n).length ≤ n * 20 := by
  induction n with
  | zero => simp [p20]
  | succ k ih =>
    rw [p20_succ, List.length_append]
    have := pq_len ((0 : Int) + (k : Int)) 20
    omega
def nine : List Str := [Str.ofString "", Str.ofString "web 1", Str.ofString "web 0", Str.ofString "web 41", Str.ofString "web 40", Str.ofString "web 2\narrow 1 0\narrow 0 1", Str.ofString "web 2\n", Str.ofString "\n", Str.ofString "web 2 "]
theorem nine_ok0 : (nine.all fun u => u.cps.all (· < 128) && decide (u.length ≤ 90000)) = true := by decide +kernel
theorem nine_ok (u : Str) (hu : u ∈ nine) : TxtOk u := by
  have := List.all_eq_true.mp nine_ok0 u hu
  rw [Bool.and_eq_true] at this
  exact ⟨this.1, of_decide_eq_true this.2⟩
theorem p20_all : (p20 20).length = 380 ∧ ((p20 20).all fun q => decide (0 ≤ q.1) && decide (q.1 < 20) && decide (0 ≤ q.2) && decide (q.2 < 20) && decide (q.1 ≠ q.2)) = true ∧ (p20 20).Pairwise fun x y => lexB x y = true := by decide +kernel
theorem p20_good : GoodA 20 (p20 20) := fun q hq => by
  have := List.all_eq_true.mp p20_all.2.1 q hq
  simp only [Bool.and_eq_true, decide_eq_true_eq] at this
  exact ⟨this.1.1.1.1, this.1.1.1.2, this.1.1.2, this.1.2, this.2⟩
theorem cut_take (xs : List V) (n : Nat) (h : n ≤ xs.length) : cutV xs none (some (n : Int)) = xs.take n := by
  unfold cutV
  rw [HT.sIx_none, HT.sIx_nat, Nat.min_eq_left h, Nat.sub_zero, List.drop_zero]
theorem due_200 : dueT (textOf 20 ((p20 20).take 200)) = none := by
  rw [due_text (by decide) (by decide) fun q hq => p20_good q (List.mem_of_mem_take hq)]
  exact wk_good (by decide) _ [] 2 (fun q hq => p20_good q (List.mem_of_mem_take hq)) (p20_all.2.2.sublist (List.take_sublist _ _)) (by rw [List.nil_append, List.length_take]; omega)
theorem due_201 : dueT (textOf 20 ((p20 20).take 201)) = some 202 := by
  rw [due_text (by decide) (by decide) fun q hq => p20_good q (List.mem_of_mem_take hq)]
  exact wk_over (by decide) _ [] 2 (fun q hq => p20_good q (List.mem_of_mem_take hq)) (p20_all.2.2.sublist (List.take_sublist _ _)) (by decide) (by rw [List.nil_append, List.length_take, p20_all.1]; decide)
theorem web20 : Str.ofString "web 20" = row0 20 := by decide +kernel
theorem asc_num {n : Int} (h0 : 0 ≤ n) (h1 : n ≤ 40) : Asc (numS n) := asc_iff.mpr fun c hc => by
  have := num_sign h0 h1 c hc
  omega
theorem asc_row0 {m : Int} (h0 : 0 ≤ m) (h1 : m ≤ 40) : Asc (row0 m) := asc_cat (by unfold Asc; decide +kernel) (asc_num h0 h1)
theorem asc_rowA {q : Int × Int} (h0 : 0 ≤ q.1) (h1 : q.1 ≤ 40) (h2 : 0 ≤ q.2) (h3 : q.2 ≤ 40) : Asc (rowA q) := asc_cat (asc_cat (asc_cat (by unfold Asc; decide +kernel) (asc_num h0 h1)) (by unfold Asc; decide +kernel)) (asc_num h2 h3)
theorem asc_rows {m : Int} {ars : List (Int × Int)} (h0 : 0 ≤ m) (h1 : m ≤ 40) (ai : ArIn ars) : ∀ z ∈ rowsOf m ars, Asc z := fun z hz => by
  rcases List.mem_cons.mp hz with rfl | hz
  · exact asc_row0 h0 h1
  · obtain ⟨q, hq, rfl⟩ := List.mem_map.mp hz
    obtain ⟨a, b, c, d⟩ := ai q hq
    exact asc_rowA a b c d
theorem asc10 : Asc ⟨#[10]⟩ := by unfold Asc; decide +kernel
theorem txt_ok {m : Int} {ars : List (Int × Int)} (h0 : 0 ≤ m) (h1 : m ≤ 40) (ai : ArIn ars) (hl : ars.length ≤ 400) : TxtOk (textOf m ars) := by
  refine ⟨asc_join asc10 (asc_rows h0 h1 ai), ?_⟩
  have := len_join (z := ⟨#[10]⟩) (B := 20) (ps := rowsOf m ars) (rows_len h0 h1 ai)
  have e : (rowsOf m ars).length = ars.length + 1 := by simp [rowsOf]
  have e2 : (⟨#[10]⟩ : Str).length = 1 := rfl
  rw [e, e2] at this
  unfold textOf
  omega
theorem rows_okL {m : Int} {ars : List (Int × Int)} (h0 : 0 ≤ m) (h1 : m ≤ 40) (ai : ArIn ars) (hl : ars.length ≤ 400) : JoinOk (Str.ofString "\n") (rowsOf m ars) = true := by
  rw [n10]
  refine PyProof.Rows.joinOk_of_weight ?_ (by decide)
  have := PySem.StrLaws.sumLen_le (B := 20) (rowsOf m ars) (rows_len h0 h1 ai)
  have e : (rowsOf m ars).length = ars.length + 1 := by simp [rowsOf]
  rw [e] at this ⊢
  omega
theorem len_joinS : ∀ (ps : List Str), (Str.join ⟨#[10]⟩ ps).length ≤ (ps.map (·.length)).sum + ps.length
  | [] => by show 0 ≤ _; omega
  | [x] => by
    show x.length ≤ _
    simp only [List.map_cons, List.sum_cons, List.length_cons]
    omega
  | x :: y :: r => by
    have h2 := len_joinS (y :: r)
    show (x ++ ⟨#[10]⟩ ++ Str.join ⟨#[10]⟩ (y :: r)).length ≤ _
    rw [len_cat, len_cat]
    have e2 : (⟨#[10]⟩ : Str).length = 1 := rfl
    rw [e2]
    simp only [List.map_cons, List.sum_cons, List.length_cons] at h2 ⊢
    omega
theorem sm_join {ts : List Str} (h : SmT ts) (hl : ts.length ≤ 700) : JoinOk (Str.ofString "\n") ts = true ∧ TxtOk (Txt.join (Str.ofString "\n") ts) := by
  have e : Txt.join (Str.ofString "\n") ts = Str.join ⟨#[10]⟩ ts := by
    rw [n10]
    exact PySem.StrLaws.glued_eq_join _ _
  rw [e, n10]
  have := h.2
  refine ⟨PyProof.Rows.joinOk_of_weight (by omega) (by decide), asc_join asc10 h.1, ?_⟩
  have := len_joinS ts
  omega
def spLaw (K : Frag) : Sp := fun vs H Q _ => ∃ (a : Addr) (ns : List Int), vs = [.ref a] ∧ SqL K H a (ns.map V.int) ∧ ns.length ≤ 63 ∧ ∀ H', Q (.bl true) H'
theorem ok_law {fl : Addr} {fd : FuncData} (F : Fun K "law" "law" s_law fl fd) (fr : Free mg ["range", "str"])
    (kc : Kn P w K mg base 1 "_law_cell_at" ["script", "k"] (spCell K)) (kp : Kn P w K mg base 1 "_law_pen_of" ["cell"] spPen) (kw : Kn P w K mg base 3 "_law_web_by" ["pen", "most"] spWebBy200S)
    (kx : Kn P w K mg base 1 "_law_text_of" ["web"] spWS) (ks : Kn P w K mg base 4 "_law_spoilt_of" ["pen", "rows"] spSp) (kt : Kn P w K mg base 6 "_law_told" ["thing"] spTold) (ke : Kn P w K mg base 2 "_law_due" ["text"] spDue) :
    FnOk P w K mg base CX0 7 fl fd ["script"] (spLaw K) := by
  have sc : FnScope ["script", "thing", "arrows", "a", "text", "many", "cell", "pen", "turn", "spoilt"] ["script"] (defScope s_law) := ⟨rfl, rfl, rfl, by decide +kernel, rfl, by decide +kernel, by decide +kernel⟩
  refine F.ok (N := ["script", "thing", "arrows", "a", "text", "many", "cell", "pen", "turn", "spoilt"]) sc (fun vs H Q E h => ?_) (fun cdv A outer s H vs Q E hr h => ?_)
  · obtain ⟨a, ns, rfl, _⟩ := h
    rfl
  · obtain ⟨a, ns, rfl, ha, hn, kk⟩ := h
    have r1 := hr.mono (j := 1) (by decide)
    have r2 := hr.mono (j := 2) (by decide)
    have r3 := hr.mono (j := 3) (by decide)
    have r4 := hr.mono (j := 4) (by decide)
    have m_range := fr "range" (by simp)
    have m_str := fr "str" (by simp)
    have nd0 : (["b", "a"] : List Str).Nodup := by decide +kernel
    rw [body_eq]
    refine ⟨_, (pss_cons (ps_forF (fold0 _) PassesOwn.never rfl (pi_list (@pe_it0 (cxOf CX0 P w K mg base ["script", "thing", "arrows", "a", "text", "many", "cell", "pen", "turn", "spoilt"] "law" (defScope s_law) fl cdv A outer s H E).nox)) (pg_name (i := 1) sc.nd rfl (Or.inl rfl)) (pss_one (ps_if (pt_cmpR op_ne (pe_kn kt hr (pa_cons (pv 1) pa_nil)) pe_int (nomark _)) (pss_one (ps_ret pe_bl)) pss_nil))) (pss_cons (ps_set (i := 2) sc.nd rfl (Or.inl rfl) (pe_lst pa_nil)) (pss_cons (ps_for PassesOwn.never rfl (pi_range1 rfl m_range (pa_cons pe_int pa_nil)) (pg_name (i := 3) sc.nd rfl (Or.inr rfl)) (pss_one (ps_expr (pe_bm PySem.F.plainAttrs_list PySem.F.slot_list_extend PySem.F.type_list_extend mt_extend (pv 2) (pa_cons (pe_lc (N := ["b", "a"]) (src := [none, some 3]) rfl ⟨rfl, rfl, rfl, rfl, ⟨⟨rfl, rfl⟩, trivial⟩, rfl, rfl, rfl⟩ (gown_name (i := 0) rfl) (pi_range1 rfl m_range (pa_cons pe_int pa_nil)) (fun C s H fp => ⟨(pg_name (i := 0) nd0 rfl (Or.inl rfl)), (pifs_one (pt_cmpR op_ne (pv 0) (pv 1) (nomark _))), (pe_op op_add_str (pe_op op_add_str (pe_op op_add_str pe_str (pe_callTy call_str_int rfl m_str boot_tstr (pa_cons (pv 1) pa_nil))) pe_str) (pe_callTy call_str_int rfl m_str boot_tstr (pa_cons (pv 0) pa_nil)))⟩)) pa_nil))))) (pss_cons (ps_forF (fold3 _) PassesOwn.never rfl (pi_list (@pe_it3 (cxOf CX0 P w K mg base ["script", "thing", "arrows", "a", "text", "many", "cell", "pen", "turn", "spoilt"] "law" (defScope s_law) fl cdv A outer s H E).nox)) (pg_name (i := 4) sc.nd rfl (Or.inl rfl)) (pss_one (ps_if (pt_cmpR op_ne (pe_kn kt hr (pa_cons (pv 4) pa_nil)) (pe_kn ke r2 (pa_cons (pv 4) pa_nil)) (nomark _)) (pss_one (ps_ret pe_bl)) pss_nil))) (pss_cons (ps_for PassesOwn.never rfl (pi_list (pe_lst (pa_cons pe_int (pa_cons pe_int pa_nil)))) (pg_name (i := 5) sc.nd rfl (Or.inl rfl)) (pss_one (ps_if (pt_cmpR op_ne (pe_kn kt hr (pa_cons (pe_bm PySem.F.plainAttrs_str PySem.F.slot_str_join PySem.F.type_str_join mt_join pe_str (pa_cons (pe_op op_cat (pe_lst (pa_cons pe_str pa_nil)) (pe_slice sl_list (pv 2) po_none (po_some (pv 5)))) pa_nil)) pa_nil)) (pe_ix ix_list (pe_lst (pa_cons pe_non (pa_cons pe_int pa_nil))) (pe_op op_sub (pv 5) pe_int) (fun _ _ => rfl)) (nomark _)) (pss_one (ps_ret pe_bl)) pss_nil))) (pss_cons (ps_for PassesOwn.never rfl (pi_list (pe_op op_cat (pe_lst (pa_cons (pe_kn kc r1 (pa_cons (pv 0) (pa_cons pe_int pa_nil))) pa_nil)) (pe_slice sl_list (pv 0) (po_some pe_int) (po_some pe_int)))) (pg_name (i := 6) sc.nd rfl (Or.inl rfl)) (pss_cons (ps_set (i := 7) sc.nd rfl (Or.inl rfl) (pe_kn kp r1 (pa_cons (pv 6) pa_nil))) (pss_cons (ps_set (i := 4) sc.nd rfl (Or.inl rfl) (pe_kn kx r1 (pa_cons (pe_kn kw r3 (pa_cons (pv 7) (pa_cons pe_int pa_nil))) pa_nil))) (pss_cons (ps_for PassesOwn.never rfl (pi_range1 rfl m_range (pa_cons pe_int pa_nil)) (pg_name (i := 8) sc.nd rfl (Or.inl rfl)) (pss_cons (ps_set (i := 9) sc.nd rfl (Or.inl rfl) (pe_bm PySem.F.plainAttrs_str PySem.F.slot_str_join PySem.F.type_str_join mt_join pe_str (pa_cons (pe_kn ks r4 (pa_cons (pv 7) (pa_cons (pe_bm PySem.F.plainAttrs_str PySem.F.slot_str_split PySem.F.type_str_split mt_split (pv 4) (pa_cons pe_str pa_nil)) pa_nil))) pa_nil))) (pss_one (ps_if (pt_cmpR op_ne (pe_kn kt hr (pa_cons (pv 9) pa_nil)) (pe_kn ke r2 (pa_cons (pv 9) pa_nil)) (nomark _)) (pss_one (ps_ret pe_bl)) pss_nil)))) (pss_one (ps_if (pt_cmpR op_notN (pe_kn kt hr (pa_cons (pv 4) pa_nil)) pe_non (nomark _)) (pss_one (ps_ret pe_bl)) pss_nil)))))) (pss_one (ps_ret pe_bl)))))))), ?_⟩
    have c0 : 0 ≤ sizeLine := by decide
    have c1 : 1 ≤ sizeLine := by decide
    have c2 : 2 ≤ sizeLine := by decide
    have c6 : 6 ≤ sizeLine := by decide
    refine ⟨c1, fun w1 hw1 => ⟨c1, fun w2 hw2 => fun d hd => ⟨c6, fun L hL => ?_⟩⟩⟩
    have q1 := Same.upd (o := .lst [.str (Str.ofString "web 1")]) hw1
    have q2 := Same.upd (o := .tup [.str (Str.ofString "web 1")]) hw2
    have q3 := Same.upd (o := .dK []) hd
    have q4 := Same.upd (o := .lst [.non, .int 0, .bl true, .ref w1, .ref w2, .ref d]) hL
    have k3 := q3.trans q4
    have k2 := q2.trans k3
    have k1 := q1.trans k2
    have d1 := k2 _ _ (upd_same (H := H) (a := w1) (o := .lst [.str (Str.ofString "web 1")]))
    have d2 := k3 _ _ (upd_same (H := upd H w1 (.lst [.str (Str.ofString "web 1")])) (a := w2) (o := .tup [.str (Str.ofString "web 1")]))
    have d3 := q4 _ _ (upd_same (H := upd (upd H w1 (.lst [.str (Str.ofString "web 1")])) w2 (.tup [.str (Str.ofString "web 1")])) (a := d) (o := .dK []))
    have hL4 := upd_same (H := upd (upd (upd H w1 (.lst [.str (Str.ofString "web 1")])) w2 (.tup [.str (Str.ofString "web 1")])) d (.dK [])) (a := L) (o := .lst [.non, .int 0, .bl true, .ref w1, .ref w2, .ref d])
    have ha4 := k1.seq ha
    clear q1 q2 q3 q4 k3 k2
    generalize upd (upd (upd (upd H w1 (.lst [.str (Str.ofString "web 1")])) w2 (.tup [.str (Str.ofString "web 1")])) d (.dK [])) L (.lst [.non, .int 0, .bl true, .ref w1, .ref w2, .ref d]) = H1 at k1 d1 d2 d3 hL4 ha4
    refine ⟨L, rfl, ⟨_, SqL.of hL4⟩, for_list (K := K) (xs := [.non, .int 0, .bl true, .ref w1, .ref w2, .ref d]) (fun i σ H2 => ∃ v1 : Option V, σ = [some (.ref a), v1, none, none, none, none, none, none, none, none] ∧ Same H1 H2) ⟨_, rfl, Same.refl _⟩ (fun i σ H2 _ ⟨_, _, s2⟩ => SqL.of (s2 _ _ hL4)) ?_ ?_⟩
    · rintro i y σ H2 hi ⟨v1, rfl, s2⟩
      have dy : ∃ T, Dat H2 y T ∧ T ≠ "str" := by
        have hm := List.mem_of_getElem? hi
        simp only [List.mem_cons, List.not_mem_nil, or_false] at hm
        rcases hm with rfl | rfl | rfl | rfl | rfl | rfl
        · exact ⟨_, .non, by decide⟩
        · exact ⟨_, .int 0, by decide⟩
        · exact ⟨_, .bl true, by decide⟩
        · exact ⟨_, .lst (s2 _ _ d1), by decide⟩
        · exact ⟨_, .tup (s2 _ _ d2), by decide⟩
        · exact ⟨_, .dK (s2 _ _ d3), by decide⟩
      obtain ⟨T, dt, nT⟩ := dy
      refine gname_in ?_
      dsimp only
      refine ⟨_, rfl, y, rfl, .inl ⟨T, dt, nT, fun H3 s3 => ?_⟩⟩
      exact ⟨rfl, _, rfl, iteF ⟨_, rfl, s2.trans s3⟩⟩
    rintro σ H2 ⟨v1, rfl, s2⟩
    have ha2 := s2.seq ha4
    clear hL4 d1 d2 d3
    refine ⟨c0, fun ar har => ?_⟩
    have q1 := Same.upd (o := .lst []) har
    have har1 : upd H2 ar (.lst []) ar = some (.lst ([] : List V)) := upd_same
    have narH : H1 ar = none := by
      cases e : H1 ar with
      | none => rfl
      | some o =>
        have := s2 _ _ e
        rw [har] at this
        cases this
    refine gname_in ?_
    dsimp only
    change tSeq _ _ _ _ (upd H2 ar (.lst []))
    have s12 := s2.trans q1
    generalize upd H2 ar (.lst []) = H3 at q1 har1 s12
    refine ⟨20, rfl, by decide, by decide, for_range (lo := 0) (n := 20) (fun n σ H4 => ∃ va : Option V, σ = [some (.ref a), v1, some (.ref ar), va, none, none, none, none, none, none] ∧ Same H1 H4 ∧ H4 ar = some (.lst ((p20 n).map fun q => V.str (rowA q)))) ⟨_, rfl, s12, har1⟩ ?_ ?_⟩
    · rintro n σ H4 hn2 ⟨va, rfl, s4, har4⟩
      refine gname_in ?_
      dsimp only
      refine ⟨_, rfl, .inl ⟨rfl, _, SqL.of har4⟩, 20, rfl, by decide, by decide, lc_range (lo := 0) (n := 20) (fun i zs H5 => Same H4 H5 ∧ zs = (pq ((0 : Int) + (n : Int)) i).map fun q => V.str (rowA q)) ⟨Same.refl _, rfl⟩ ?_ ?_ ?_⟩
      · rintro i zs H5 hi ⟨s5, rfl⟩
        have := pq_len ((0 : Int) + (n : Int)) i
        rw [List.length_map]
        exact Nat.le_of_lt (small1000 (by omega))
      · rintro zs H5 ⟨s5, rfl⟩ l hl
        have sl := Same.upd (o := .lst ((pq ((0 : Int) + (n : Int)) 20).map fun q => V.str (rowA q))) hl
        have lp := p20_len n
        have lq := pq_len ((0 : Int) + (n : Int)) 20
        refine ⟨ar, l, _, _, rfl, rfl, sl _ _ (s5 _ _ har4), upd_same, Nat.le_of_lt (small1000 (by rw [List.length_map, List.length_map]; omega)), ?_⟩
        refine ⟨_, rfl, fun b o e => ?_, ?_⟩
        · rw [upd_ne (ne_of_none e narH)]
          exact sl _ _ (s5 _ _ (s4 _ _ e))
        · rw [upd_same, p20_succ, List.map_append]
      · rintro i zs H5 hi ⟨s5, rfl⟩
        have a0 : (0 : Int) ≤ (0 : Int) + (n : Int) := by omega
        have a1 : (0 : Int) + (n : Int) ≤ 40 := by omega
        have b0 : (0 : Int) ≤ (0 : Int) + (i : Int) := by omega
        have b1 : (0 : Int) + (i : Int) ≤ 40 := by omega
        have fit : ∀ a b : Str, (a ++ b).length ≤ 20 → a.length + b.length ≤ sizeLine := fun a b h => by
          rw [len_cat] at h
          exact Nat.le_of_lt (small1000 (by omega))
        have z4 : ((((Str.ofString "arrow ") ++ numS ((0 : Int) + (n : Int))) ++ Str.ofString " ") ++ numS ((0 : Int) + (i : Int))).length ≤ 20 := rowA_len (q := ((0 : Int) + (n : Int), (0 : Int) + (i : Int))) a0 a1 b0 b1
        have z3 : (((Str.ofString "arrow ") ++ numS ((0 : Int) + (n : Int))) ++ Str.ofString " ").length ≤ 20 := Nat.le_trans (cat_le _ _) z4
        have z2 : ((Str.ofString "arrow ") ++ numS ((0 : Int) + (n : Int))).length ≤ 20 := Nat.le_trans (cat_le _ _) z3
        refine ⟨_, rfl, _, rfl, rfl, _, rfl, ite2 (fun c => ?_) (fun c => ?_)⟩
        · refine ⟨_, rfl, _, rfl, nlog a0 a1, _, _, rfl, rfl, fit _ _ z2, _, _, rfl, rfl, fit _ _ z3, _, rfl, _, rfl, nlog b0 b1, _, _, rfl, rfl, fit _ _ z4, ?_⟩
          refine nx hi ⟨s5, ?_⟩
          rw [pq_succ, if_pos c, List.map_append]
          rfl
        · refine nx hi ⟨s5, ?_⟩
          rw [pq_succ, if_neg c]
    rintro σ H4 ⟨va, rfl, s4, har4⟩
    refine ⟨(by show 9 ≤ sizeLine; decide), fun T hT => ?_⟩
    have q5 := Same.upd (o := .lst (nine.map V.str)) hT
    have hT5 : upd H4 T (.lst (nine.map V.str)) T = some (.lst (nine.map V.str)) := upd_same
    have s5 := s4.trans q5
    have har5 := q5 _ _ har4
    refine (?_ : ∃ a_1, V.ref T = V.ref a_1 ∧ _)
    refine ⟨T, rfl, ⟨_, SqL.of hT5⟩, for_list (K := K) (xs := nine.map V.str) (fun i σ H6 => ∃ v4 : Option V, σ = [some (.ref a), v1, some (.ref ar), va, v4, none, none, none, none, none] ∧ Same (upd H4 T (.lst (nine.map V.str))) H6) ⟨_, rfl, Same.refl _⟩ (fun i σ H6 _ ⟨_, _, s6⟩ => SqL.of (s6 _ _ hT5)) ?_ ?_⟩
    · rintro i y σ H6 hi ⟨v4, rfl, s6⟩
      rw [List.getElem?_map] at hi
      obtain ⟨u, e1, rfl⟩ := Option.map_eq_some_iff.mp hi
      have ok := nine_ok u (List.mem_of_getElem? e1)
      refine gname_in ?_
      dsimp only
      refine ⟨_, rfl, .str u, rfl, .inr ⟨u, rfl, ok, fun H7 s7 => ⟨_, rfl, u, rfl, ok, fun H8 s8 => ⟨scal_due u, _, rfl, ?_⟩⟩⟩⟩
      rw [decide_eq_true rfl]
      exact iteF ⟨_, rfl, (s6.trans s7).trans s8⟩
    rintro σ H6 ⟨v4, rfl, s6⟩
    have s16 := s5.trans s6
    have har6 := s6 _ _ har5
    have ha6 := s16.seq ha4
    refine ⟨c2, fun M hM => ?_⟩
    have q7 := Same.upd (o := .lst [.int 200, .int 201]) hM
    have hM7 : upd H6 M (.lst [.int 200, .int 201]) M = some (.lst [.int 200, .int 201]) := upd_same
    have s17 := s16.trans q7
    have har7 := q7 _ _ har6
    refine (?_ : ∃ a_1, V.ref M = V.ref a_1 ∧ _)
    generalize upd H6 M (.lst [.int 200, .int 201]) = H7 at q7 hM7 s17 har7
    refine ⟨M, rfl, ⟨_, SqL.of hM7⟩, for_list (K := K) (xs := [.int 200, .int 201]) (fun i σ H8 => ∃ v5 : Option V, σ = [some (.ref a), v1, some (.ref ar), va, v4, v5, none, none, none, none] ∧ Same H7 H8) ⟨_, rfl, Same.refl _⟩ (fun i σ H8 _ ⟨_, _, s8⟩ => SqL.of (s8 _ _ hM7)) ?_ ?_⟩
    · rintro i y σ H8 hi ⟨v5, rfl, s8⟩
      have hy : ∃ n : Nat, y = .int (n : Int) ∧ ((n = 200 ∧ dueV (textOf 20 ((p20 20).take n)) = .non) ∨ (n = 201 ∧ dueV (textOf 20 ((p20 20).take n)) = .int 202)) := by
        have hm := List.mem_of_getElem? hi
        simp only [List.mem_cons, List.not_mem_nil, or_false] at hm
        rcases hm with rfl | rfl
        · exact ⟨200, rfl, .inl ⟨rfl, dueV_none due_200⟩⟩
        · exact ⟨201, rfl, .inr ⟨rfl, dueV_some due_201⟩⟩
      obtain ⟨n, rfl, hd⟩ := hy
      have nl : n ≤ 201 := by rcases hd with ⟨e, _⟩ | ⟨e, _⟩ <;> omega
      have har8 := s8 _ _ har7
      refine gname_in ?_
      dsimp only
      refine ⟨rfl, c1, fun x1 hx1 => ?_⟩
      have t1 := Same.upd (o := .lst [.str (Str.ofString "web 20")]) hx1
      refine ⟨_, rfl, _, rfl, _, rfl, ar, _, rfl, SqL.of (t1 _ _ har8), fun x2 hx2 => ?_⟩
      rw [cut_take _ n (by rw [List.length_map, p20_all.1]; omega)]
      have t2 := Same.upd (o := .lst (((p20 20).map fun q => V.str (rowA q)).take n)) hx2
      refine ⟨x1, x2, _, _, rfl, rfl, t2 _ _ upd_same, upd_same, Nat.le_of_lt (small1000 (by rw [List.length_take, List.length_singleton]; omega)), fun x3 hx3 => ?_⟩
      have t3 := Same.upd (o := .lst ([.str (Str.ofString "web 20")] ++ ((p20 20).map fun q => V.str (rowA q)).take n)) hx3
      have gq : GoodA 20 ((p20 20).take n) := fun q hq => p20_good q (List.mem_of_mem_take hq)
      have ai : ArIn ((p20 20).take n) := fun q hq => by
        obtain ⟨a, b, c, d, _⟩ := gq q hq
        exact ⟨a, by omega, c, by omega⟩
      have lt : ((p20 20).take n).length ≤ 201 := by rw [List.length_take]; omega
      have e3 : [V.str (Str.ofString "web 20")] ++ ((p20 20).map fun q => V.str (rowA q)).take n = (rowsOf 20 ((p20 20).take n)).map V.str := by
        rw [web20, ← List.map_take]
        unfold rowsOf
        rw [List.map_cons, List.map_map]
        rfl
      have ej : Txt.join (Str.ofString "\n") (rowsOf 20 ((p20 20).take n)) = textOf 20 ((p20 20).take n) := by
        rw [n10]
        exact PySem.StrLaws.glued_eq_join _ _
      refine ⟨_, x3, rowsOf 20 ((p20 20).take n), rfl, rfl, SqL.of (by rw [upd_same, e3]), rows_okL (by decide) (by decide) ai (by omega), ?_⟩
      rw [ej]
      refine ⟨_, rfl, .inr ⟨textOf 20 ((p20 20).take n), rfl, txt_ok (by decide) (by decide) ai (by omega), fun H9 s9 => ?_⟩⟩
      have t9 := ((t1.trans t2).trans t3).trans s9
      refine ⟨c2, fun x4 hx4 => ?_⟩
      have t4 := Same.upd (o := .lst [.non, .int 202]) hx4
      rcases hd with ⟨rfl, e⟩ | ⟨rfl, e⟩
      · refine ⟨_, rfl, _, _, rfl, rfl, x4, _, 0, _, rfl, rfl, SqL.of upd_same, rfl, ?_⟩
        rw [e]
        exact ⟨rfl, _, rfl, iteF ⟨_, rfl, (s8.trans t9).trans t4⟩⟩
      · refine ⟨_, rfl, _, _, rfl, rfl, x4, _, 1, _, rfl, rfl, SqL.of upd_same, rfl, ?_⟩
        rw [e]
        exact ⟨rfl, _, rfl, iteF ⟨_, rfl, (s8.trans t9).trans t4⟩⟩
    rintro σ H8 ⟨v5, rfl, s8⟩
    have ha := (s17.trans s8).seq ha4
    refine ⟨_, rfl, a, ns, 0, rfl, ha, fun n0 => ⟨c1, fun l1 hl1 => ?_⟩⟩
    have ha3 : SqL K _ a (ns.map V.int) := (Same.upd (o := .lst [.int n0]) hl1).seq ha
    refine ⟨_, rfl, 1, rfl, 6, rfl, a, _, rfl, ha3, fun l2 hl2 => ?_⟩
    refine ⟨l1, l2, _, _, rfl, rfl, Same.upd hl2 _ _ upd_same, upd_same, ?_, fun M2 hM2 => ?_⟩
    · have := cutV_length (ns.map V.int) (some 1) (some 6)
      rw [List.length_map] at this
      show 1 + _ ≤ sizeLine
      exact Nat.le_of_lt (small1000 (by omega))
    have allInt : ∀ v ∈ [V.int n0] ++ cutV (ns.map V.int) (some 1) (some 6), ∃ n : Int, v = .int n := by
      intro v hv
      rcases List.mem_append.mp hv with z | z
      · exact ⟨n0, by simpa using z⟩
      · unfold cutV at z
        obtain ⟨n, _, rfl⟩ := List.mem_map.mp (List.mem_of_mem_drop (List.mem_of_mem_take z))
        exact ⟨n, rfl⟩
    have hM3 : (upd (upd (upd H8 l1 (.lst [.int n0])) l2 (.lst (cutV (ns.map V.int) (some 1) (some 6)))) M2 (.lst ([V.int n0] ++ cutV (ns.map V.int) (some 1) (some 6)))) M2 = some (.lst ([V.int n0] ++ cutV (ns.map V.int) (some 1) (some 6))) := upd_same
    generalize upd (upd (upd H8 l1 (.lst [.int n0])) l2 (.lst (cutV (ns.map V.int) (some 1) (some 6)))) M2 (.lst ([V.int n0] ++ cutV (ns.map V.int) (some 1) (some 6))) = HF at hM3
    generalize [V.int n0] ++ cutV (ns.map V.int) (some 1) (some 6) = CS at hM3 allInt
    refine ⟨M2, rfl, ⟨_, SqL.of hM3⟩, for_list (K := K) (xs := CS) (fun i σ H9 => ∃ (u4 u6 u7 u8 u9 : Option V), σ = [some (.ref a), v1, some (.ref ar), va, u4, v5, u6, u7, u8, u9] ∧ H9 M2 = some (.lst CS)) ⟨_, _, _, _, _, rfl, hM3⟩ (fun i σ H2 _ ⟨_, _, _, _, _, _, h⟩ => SqL.of h) ?_ ?_⟩
    · rintro i y σ H9 hi ⟨u4, u6, u7, u8, u9, rfl, hM9⟩
      obtain ⟨n, rfl⟩ := allInt y (List.mem_of_getElem? hi)
      refine gname_in ?_
      dsimp only
      refine ⟨_, rfl, n, rfl, fun p H10 s10 hp9 hp10 => ?_⟩
      refine gname_in ?_
      dsimp only
      have nMp : M2 ≠ p := ne_of_none hM9 hp9
      refine ⟨_, rfl, p, 10, rfl, hp10, by decide, by decide, fun wa t m us ars H11 s11 hp11 W m1 m10 ga lu st => ?_⟩
      have hM11 := s11 _ _ nMp (s10 _ _ hM9)
      have ai : ArIn ars := fun q hq => by
        obtain ⟨a, b, c, d, _⟩ := ga q hq
        exact ⟨a, by omega, c, by omega⟩
      have la := arsLen W.ars
      have ll : ars.length ≤ 200 := by omega
      refine ⟨wa, t, m, us, ars, rfl, W, by omega, by omega, ai, lu, fun H12 s12 => ?_⟩
      refine gname_in ?_
      dsimp only
      have hp12 := hp11.mono s12
      have hM12 := s12 _ _ hM11
      have tok := txt_ok (m := m) (by omega) (by omega) ai (by omega)
      refine ⟨5, rfl, by decide, by decide, for_range (lo := 0) (n := 5) (fun k σ H13 => ∃ (w8 w9 : Option V), σ = [some (.ref a), v1, some (.ref ar), va, some (.str (textOf m ars)), v5, some (.int n), some (.ref p), w8, w9] ∧ H13 M2 = some (.lst CS) ∧ PenAt H13 p) ⟨_, _, rfl, hM12, hp12⟩ ?_ ?_⟩
      · rintro k σ H13 hk ⟨w8, w9, rfl, hM13, hp13⟩
        refine gname_in ?_
        dsimp only
        have esp : Txt.split (textOf m ars) (Str.ofString "\n") = rowsOf m ars := by
          rw [n10]
          exact text_split (by omega) (by omega) ai
        have lr : (rowsOf m ars).length = ars.length + 1 := by simp [rowsOf]
        refine ⟨rfl, _, rfl, _, rfl, rfl, textOf m ars, _, rfl, rfl, (by rw [n10]; rfl), Nat.le_trans tok.2 (by decide), (by rw [esp, lr]; exact Nat.le_of_lt (small1000 (by omega))), fun D H14 s14 nD hD => ?_⟩
        rw [esp] at hD
        have nDp : D ≠ p := newp hp13 nD
        refine ⟨p, D, rowsOf m ars, rfl, hp13.mono s14, hD, nDp, by omega, by omega, fun u hu => ⟨asc_rows (by omega) (by omega) ai u hu, Nat.le_trans (rows_len (by omega) (by omega) ai u hu) (by decide)⟩, fun l' ts' H15 s15 hp15 hl' sm lt' => ?_⟩
        obtain ⟨jok, tok'⟩ := sm_join sm lt'
        refine ⟨_, l', ts', rfl, rfl, SqL.of hl', jok, ?_⟩
        refine gname_in ?_
        dsimp only
        generalize Txt.join (Str.ofString "\n") ts' = z at tok'
        refine ⟨_, rfl, .str z, rfl, .inr ⟨z, rfl, tok', fun H16 s16 => ⟨_, rfl, z, rfl, tok', fun H17 s17 => ⟨scal_due z, _, rfl, ?_⟩⟩⟩⟩
        rw [decide_eq_true rfl]
        exact iteF ⟨_, _, rfl, s17 _ _ (s16 _ _ (s15 _ _ nMp (s14 _ _ hM13))), ((hp15.mono s16).mono s17)⟩
      · rintro σ H13 ⟨w8, w9, rfl, hM13, hp13⟩
        refine ⟨_, rfl, .str (textOf m ars), rfl, .inr ⟨_, rfl, tok, fun H14 s14 => ?_⟩⟩
        have dn : dueV (textOf m ars) = .non := dueV_none (by
          rw [due_text m1 (by omega) ga]
          exact wk_good (by omega) _ [] 2 ga st (by rw [List.nil_append]; omega))
        rw [dn]
        exact ⟨rfl, _, rfl, iteF ⟨_, _, _, _, _, rfl, s14 _ _ hM13⟩⟩
    · rintro σ H9 ⟨u4, u6, u7, u8, u9, rfl, hM9⟩
      exact kk _
end
end Hk

namespace Hk
open PySem L2
structure DF (K : PySem.W.Frag) (x : Str) (st : Stmt) : Prop where
  ex : ∃ (f : Addr) (oc : Value) (od an : Option Addr) (osl : Array (Option Value)) (kV doc pm cdv ct : Value), PySem.W.nsIn K mainGlobals x = some (some (.ref f)) ∧
    K.lookup f = some ⟨oc, od, .func (PySem.W.fnOf x x (defArgs st) (defBody st) (defScope st) .none kV doc pm an cdv ct), osl⟩ ∧ PySem.W.codeIn K cdv x = true ∧ PySem.W.keepIn K (.ref f) = true
theorem DF.of {K : PySem.W.Frag} {x : Str} {st : Stmt} {f : Addr} {oc : Value} {od an : Option Addr} {osl : Array (Option Value)} {kV doc pm cdv ct : Value} (a : PySem.W.nsIn K mainGlobals x = some (some (.ref f)))
    (l : K.lookup f = some ⟨oc, od, .func (PySem.W.fnOf x x (defArgs st) (defBody st) (defScope st) .none kV doc pm an cdv ct), osl⟩) (c : PySem.W.codeIn K cdv x = true) (k : PySem.W.keepIn K (.ref f) = true) : DF K x st := ⟨⟨f, oc, od, an, osl, kV, doc, pm, cdv, ct, a, l, c, k⟩⟩
theorem DF.at {K : PySem.W.Frag} {h : Heap} {mg : Str → Option Value} {x : Str} {st : Stmt} {ps : List Str} (D : DF K x st) (X : K.In h) (G : h.Ns mainGlobals mg)
    (hb : ∀ (kV doc pm : Value) (an : Option Addr) (cdv ct : Value) (us : List Value), us.length = ps.length → bindArgs (PySem.W.fnOf x x (defArgs st) (defBody st) (defScope st) .none kV doc pm an cdv ct) ⟨us, []⟩ = pure (ps.zip us)) : DefAt K mg x st ps := by
  obtain ⟨f, oc, od, an, osl, kV, doc, pm, cdv, ct, a, l, c, k⟩ := D.ex
  exact ⟨f, _, fun_mk l c k, PySem.W.mg_of X G a, (fun_mk l c k).binds hb⟩
theorem all_mk {P : Program} {w : World} {K : PySem.W.Frag} {h : Heap} {mg : Str → Option Value} {fa : Addr} (X : K.In h) (G : h.Ns mainGlobals mg) (hfa : mg "law" = some (.ref fa))
    {CW fW : Addr} {TW : Addr} {ocD xD : Value} {odD : Option Addr} {nD : Nat} {oslD : Array (Option Value)} {ocW kVW docW pmW cdvW ctW : Value} {odW anW : Option Addr} {oslW : Array (Option Value)} {c0 : Addr} {c1 : Addr} {c2 : Addr} {c3 : Addr} {c4 : Addr} {c5 : Addr} {c6 : Addr} {c7 : Addr} {c8 : Addr} {fNoText NNoText : Addr} {nmNoText qNoText : Str} {bsNoText bmNoText subNoText : List Value} {hdNoText abNoText : Bool} {snNoText : List Str} {colNoText : Option Bool} {ddNoText : Option Addr} {k0NoText k1NoText k2NoText k3NoText k5NoText : Option Value} {ocNoText kVNoText docNoText pmNoText cdvNoText ctNoText : Value} {odNoText anNoText : Option Addr} {oslNoText : Array (Option Value)} {tGMOST_PLACES : Tok} {tGMOST_ARROWS : Tok} {tGMOST_FIGURES : Tok} {tGFIGURES : Tok} (aW : PySem.W.nsIn K mainGlobals "WebError" = some (some (.ref CW))) (mW1 : PySem.W.specialIn K (.ref CW) "__getattribute__" = some (some (.builtin "type.__getattribute__"))) (mW2 : PySem.W.readsIn K CW (.type "type") = true) (mW3 : PySem.W.findCls K (.ref CW) (.type "type") "__init__" = some (.val (.ref fW))) (mW4 : PySem.W.keepIn K (.ref fW) = true) (lfW : K.lookup fW = some ⟨ocW, odW, .func (PySem.W.fnOf "__init__" "WebError.__init__" (defArgs s_WebError_init) (defBody s_WebError_init) (defScope s_WebError_init) (.ref TW) kVW docW pmW anW cdvW ctW), oslW⟩) (cfW : PySem.W.codeIn K cdvW "WebError.__init__" = true) (dW : K.lookup TW = some ⟨ocD, odD, .seq #[xD] nD, oslD⟩) (ac0 : PySem.W.nsIn K mainGlobals "NoPlace" = some (some (.ref c0))) (ac1 : PySem.W.nsIn K mainGlobals "NoHold" = some (some (.ref c1))) (ac2 : PySem.W.nsIn K mainGlobals "NoArrow" = some (some (.ref c2))) (ac3 : PySem.W.nsIn K mainGlobals "NoNumber" = some (some (.ref c3))) (ac4 : PySem.W.nsIn K mainGlobals "NoRow" = some (some (.ref c4))) (ac5 : PySem.W.nsIn K mainGlobals "NoWeb" = some (some (.ref c5))) (ac6 : PySem.W.nsIn K mainGlobals "Ringed" = some (some (.ref c6))) (ac7 : PySem.W.nsIn K mainGlobals "NoText" = some (some (.ref c7))) (ac8 : PySem.W.nsIn K mainGlobals "TooGreat" = some (some (.ref c8))) (gsp : PySem.W.specialIn K (.builtin "object.__class__") "__get__" = some (some (.builtin "getset_descriptor.__get__"))) (gtk : PySem.W.takesIn K (.builtin "object.__class__") = some true) (lNoText : K.lookup c7 = some (excClassObj nmNoText qNoText c7 NNoText bsNoText bmNoText hdNoText snNoText subNoText abNoText colNoText ddNoText k0NoText k1NoText k2NoText k3NoText k5NoText "ValueError.__new__")) (v0NoText : bmNoText.contains (.type "ValueError") = true) (v1NoText : bmNoText.contains (.type "BaseException") = true) (v2NoText : bmNoText.contains (.type "AttributeError") = false) (v3NoText : bmNoText.contains (.type "NameError") = false) (i1NoText : PySem.W.findIn K (.ref c7) "__init__" = some (some (.ref fNoText))) (i2NoText : PySem.W.isFn K (.ref fNoText) = true) (i3NoText : PySem.W.keepIn K (.ref c7) = true) (g1NoText : PySem.W.findIn K (.ref c7) "__getattribute__" = some (some (.builtin "BaseException.__getattribute__"))) (g2NoText : PySem.W.findIn K (.ref c7) "__getattr__" = some none) (g3NoText : PySem.W.subIn K (.ref c7) (.type "BaseException") = some true) (g4NoText : PySem.W.findIn K (.ref c7) "__class__" = some (some (.builtin "object.__class__"))) (g5NoText : PySem.W.mroIn K c7 (.type "object") = some true) (lfNoText : K.lookup fNoText = some ⟨ocNoText, odNoText, .func (PySem.W.fnOf "__init__" "NoText.__init__" (defArgs s_NoText_init) (defBody s_NoText_init) (defScope s_NoText_init) .none kVNoText docNoText pmNoText anNoText cdvNoText ctNoText), oslNoText⟩) (cfNoText : PySem.W.codeIn K cdvNoText "NoText.__init__" = true) (exNoText : PySem.W.exmOne K (.ref c7) (.ref CW) = some true) (kvNoText : PySem.W.kitOne K (.ref c7) (.type "ValueError") = some true) (xaNoText : PySem.W.findIn K (.ref c7) "__setattr__" = some (some (.builtin "object.__setattr__"))) (xhNoText : PySem.W.hasDictIn K c7 = true) (xoNoText : onlyVE (.ref c7 :: bmNoText) = true) (xn0NoText : PySem.W.findIn K (.ref c7) "row" = some none) (kk0NoText : PySem.W.kitOne K (.ref c7) (.ref c0) = some false) (kk1NoText : PySem.W.kitOne K (.ref c7) (.ref c1) = some false) (kk2NoText : PySem.W.kitOne K (.ref c7) (.ref c2) = some false) (kk3NoText : PySem.W.kitOne K (.ref c7) (.ref c3) = some false) (kk4NoText : PySem.W.kitOne K (.ref c7) (.ref c4) = some false) (kk5NoText : PySem.W.kitOne K (.ref c7) (.ref c5) = some false) (kk6NoText : PySem.W.kitOne K (.ref c7) (.ref c6) = some false) (kk7NoText : PySem.W.kitOne K (.ref c7) (.ref c7) = some true) (kk8NoText : PySem.W.kitOne K (.ref c7) (.ref c8) = some false) (gnMOST_PLACES : PySem.W.nsIn K mainGlobals "MOST_PLACES" = some (some (.int 40 tGMOST_PLACES))) (gnMOST_ARROWS : PySem.W.nsIn K mainGlobals "MOST_ARROWS" = some (some (.int 200 tGMOST_ARROWS))) (gnMOST_FIGURES : PySem.W.nsIn K mainGlobals "MOST_FIGURES" = some (some (.int 60 tGMOST_FIGURES))) (gnFIGURES : PySem.W.nsIn K mainGlobals "FIGURES" = some (some (.str "0123456789" tGFIGURES)))
    (d0 : DF K "whole_good" s_whole_good) (d1 : DF K "place_good" s_place_good) (d2 : DF K "rises" s_rises) (d3 : DF K "pair_good" s_pair_good) (d4 : DF K "many_good" s_many_good) (d5 : DF K "number_read" s_number_read) (d6 : DF K "row_read" s_row_read) (d7 : DF K "many_told" s_many_told) (d8 : DF K "arrow_told" s_arrow_told) (d9 : DF K "web_read" s_web_read) (d10 : DF K "_law_cell_at" s_law_cell_at) (d11 : DF K "_law_next" s_law_next) (d12 : DF K "_law_pen_of" s_law_pen_of) (d13 : DF K "_law_draw" s_law_draw) (d14 : DF K "_law_whole" s_law_whole) (d15 : DF K "_law_kind_of" s_law_kind_of) (d16 : DF K "_law_web_by" s_law_web_by) (d17 : DF K "_law_text_of" s_law_text_of) (d18 : DF K "_law_value" s_law_value) (d19 : DF K "_law_told" s_law_told) (d20 : DF K "_law_due" s_law_due) (d21 : DF K "_law_odd_row" s_law_odd_row) (d22 : DF K "_law_spoilt_of" s_law_spoilt_of) (d23 : DF K "law" s_law)
    (z0 : PySem.W.nsIn K mainGlobals "ValueError" = some none) (z1 : PySem.W.nsIn K mainGlobals "all" = some none) (z2 : PySem.W.nsIn K mainGlobals "bool" = some none) (z3 : PySem.W.nsIn K mainGlobals "enumerate" = some none) (z4 : PySem.W.nsIn K mainGlobals "int" = some none) (z5 : PySem.W.nsIn K mainGlobals "isinstance" = some none) (z6 : PySem.W.nsIn K mainGlobals "len" = some none) (z7 : PySem.W.nsIn K mainGlobals "list" = some none) (z8 : PySem.W.nsIn K mainGlobals "max" = some none) (z9 : PySem.W.nsIn K mainGlobals "range" = some none) (z10 : PySem.W.nsIn K mainGlobals "sorted" = some none) (z11 : PySem.W.nsIn K mainGlobals "str" = some none) (z12 : PySem.W.nsIn K mainGlobals "tuple" = some none) (z13 : PySem.W.nsIn K mainGlobals "zip" = some none) :
    ∃ fd : FuncData, (∀ (s : Shared) (v : Value), BindsTo s fd ⟨[v], []⟩ [("script", v)]) ∧ ∀ base : Heap, K.In base → base.Ns mainGlobals mg → FnOk P w K mg base CX0 7 fa fd ["script"] (spLaw K) := by
  have D0 := d0.at (ps := ["thing"]) X G fun _ _ _ _ _ _ us hl => match us, hl with | [_], _ => rfl
  have D1 := d1.at (ps := ["web", "thing"]) X G fun _ _ _ _ _ _ us hl => match us, hl with | [_, _], _ => rfl
  have D2 := d2.at (ps := ["things"]) X G fun _ _ _ _ _ _ us hl => match us, hl with | [_], _ => rfl
  have D3 := d3.at (ps := ["web", "thing"]) X G fun _ _ _ _ _ _ us hl => match us, hl with | [_, _], _ => rfl
  have D4 := d4.at (ps := ["thing"]) X G fun _ _ _ _ _ _ us hl => match us, hl with | [_], _ => rfl
  have D5 := d5.at (ps := ["word"]) X G fun _ _ _ _ _ _ us hl => match us, hl with | [_], _ => rfl
  have D6 := d6.at (ps := ["row"]) X G fun _ _ _ _ _ _ us hl => match us, hl with | [_], _ => rfl
  have D7 := d7.at (ps := ["row"]) X G fun _ _ _ _ _ _ us hl => match us, hl with | [_], _ => rfl
  have D8 := d8.at (ps := ["many", "row"]) X G fun _ _ _ _ _ _ us hl => match us, hl with | [_, _], _ => rfl
  have D9 := d9.at (ps := ["text"]) X G fun _ _ _ _ _ _ us hl => match us, hl with | [_], _ => rfl
  have D10 := d10.at (ps := ["script", "k"]) X G fun _ _ _ _ _ _ us hl => match us, hl with | [_, _], _ => rfl
  have D11 := d11.at (ps := ["seed"]) X G fun _ _ _ _ _ _ us hl => match us, hl with | [_], _ => rfl
  have D12 := d12.at (ps := ["cell"]) X G fun _ _ _ _ _ _ us hl => match us, hl with | [_], _ => rfl
  have D13 := d13.at (ps := ["pen", "many"]) X G fun _ _ _ _ _ _ us hl => match us, hl with | [_, _], _ => rfl
  have D14 := d14.at (ps := ["found"]) X G fun _ _ _ _ _ _ us hl => match us, hl with | [_], _ => rfl
  have D15 := d15.at (ps := ["e"]) X G fun _ _ _ _ _ _ us hl => match us, hl with | [_], _ => rfl
  have D16 := d16.at (ps := ["pen", "most"]) X G fun _ _ _ _ _ _ us hl => match us, hl with | [_, _], _ => rfl
  have D17 := d17.at (ps := ["web"]) X G fun _ _ _ _ _ _ us hl => match us, hl with | [_], _ => rfl
  have D18 := d18.at (ps := ["word"]) X G fun _ _ _ _ _ _ us hl => match us, hl with | [_], _ => rfl
  have D19 := d19.at (ps := ["thing"]) X G fun _ _ _ _ _ _ us hl => match us, hl with | [_], _ => rfl
  have D20 := d20.at (ps := ["text"]) X G fun _ _ _ _ _ _ us hl => match us, hl with | [_], _ => rfl
  have D21 := d21.at (ps := ["pen", "row"]) X G fun _ _ _ _ _ _ us hl => match us, hl with | [_, _], _ => rfl
  have D22 := d22.at (ps := ["pen", "rows"]) X G fun _ _ _ _ _ _ us hl => match us, hl with | [_, _], _ => rfl
  obtain ⟨f, oc, od, an, osl, kV, doc, pm, cdv, ct, a, l, c, k⟩ := d23.ex
  have e := hfa.symm.trans (PySem.W.mg_of X G a)
  cases e
  have F := fun_mk (st := s_law) l c k
  have y0 := PySem.W.mg_none_of X G z0
  have y1 := PySem.W.mg_none_of X G z1
  have y2 := PySem.W.mg_none_of X G z2
  have y3 := PySem.W.mg_none_of X G z3
  have y4 := PySem.W.mg_none_of X G z4
  have y5 := PySem.W.mg_none_of X G z5
  have y6 := PySem.W.mg_none_of X G z6
  have y7 := PySem.W.mg_none_of X G z7
  have y8 := PySem.W.mg_none_of X G z8
  have y9 := PySem.W.mg_none_of X G z9
  have y10 := PySem.W.mg_none_of X G z10
  have y11 := PySem.W.mg_none_of X G z11
  have y12 := PySem.W.mg_none_of X G z12
  have y13 := PySem.W.mg_none_of X G z13
  have G_MOST_PLACES : GlobI mg "MOST_PLACES" 40 := ⟨⟨_, PySem.W.mg_of X G gnMOST_PLACES⟩⟩
  have G_MOST_ARROWS : GlobI mg "MOST_ARROWS" 200 := ⟨⟨_, PySem.W.mg_of X G gnMOST_ARROWS⟩⟩
  have G_MOST_FIGURES : GlobI mg "MOST_FIGURES" 60 := ⟨⟨_, PySem.W.mg_of X G gnMOST_FIGURES⟩⟩
  have G_FIGURES : GlobS mg "FIGURES" "0123456789" := ⟨⟨_, PySem.W.mg_of X G gnFIGURES⟩⟩
  have hW := PySem.W.mg_of X G aW
  have MW : CMeth K CW "__init__" fW := ⟨mW1, mW2, mW3, mW4⟩
  have hc0 := PySem.W.mg_of X G ac0
  have hc1 := PySem.W.mg_of X G ac1
  have hc2 := PySem.W.mg_of X G ac2
  have hc3 := PySem.W.mg_of X G ac3
  have hc4 := PySem.W.mg_of X G ac4
  have hc5 := PySem.W.mg_of X G ac5
  have hc6 := PySem.W.mg_of X G ac6
  have hc7 := PySem.W.mg_of X G ac7
  have hc8 := PySem.W.mg_of X G ac8
  have kinds : Kinds mg c0 c1 c2 c3 c4 c5 c6 c7 c8 := ⟨hc0, hc1, hc2, hc3, hc4, hc5, hc6, hc7, hc8⟩
  have M_NoText : XMk K c7 fNoText bmNoText := ⟨⟨⟨_, _, _, _, _, _, _, _, _, _, _, _, _, _, _, lNoText⟩, v0NoText, v1NoText, v2NoText, v3NoText⟩, i1NoText, i2NoText, i3NoText⟩
  have XI_NoText : XIs K c7 := ⟨g1NoText, g2NoText, g3NoText, g4NoText, gsp, gtk, g5NoText, by unfold PySem.W.clsIn; rw [lNoText]; rfl⟩
  have T_NoText : FldsOf K c7 ["row"] := ⟨⟨xaNoText, xhNoText, by unfold veOver PySem.W.clsIn; rw [lNoText]; exact xoNoText⟩, fun f hf => by
    simp only [List.mem_cons, List.not_mem_nil, or_false] at hf
    rcases hf with rfl
    · exact xn0NoText⟩
  have kd_NoText : KindOf K c7 c0 c1 c2 c3 c4 c5 c6 c7 c8 7 := ⟨XI_NoText, kvNoText, kk0NoText, kk1NoText, kk2NoText, kk3NoText, kk4NoText, kk5NoText, kk6NoText, kk7NoText, kk8NoText⟩
  refine ⟨PySem.W.fnOf "law" "law" (defArgs s_law) (defBody s_law) (defScope s_law) .none kV doc pm an cdv ct, fun s v => .of_eq rfl, fun base _ _ => ?_⟩
  have okW := ok_initW (P := P) (w := w) (base := base) (mg := mg) (f := fW) ⟨_, _, _, _, _, _, _, _, _, _, rfl, lfW, cfW⟩ (fun z hz => by
      simp only [List.mem_cons, List.not_mem_nil, or_false] at hz
      rcases hz with rfl
      · exact y0)
  have bW : Binds K (PySem.W.fnOf "__init__" "WebError.__init__" (defArgs s_WebError_init) (defBody s_WebError_init) (defScope s_WebError_init) (.ref TW) kVW docW pmW anW cdvW ctW) ["self", "words"] [] := fun s us KX hl => by
    rw [List.append_nil] at hl ⊢
    exact match us, hl with | [_, _], _ => .of_defaults rfl (KX _ _ dW) rfl rfl rfl
  have ok_NoText := ok_init_NoText (P := P) (w := w) (base := base) (mg := mg) (f := fNoText) ⟨_, _, _, _, _, _, _, _, _, _, rfl, lfNoText, cfNoText⟩ hW MW okW bW
  have b_NoText : Binds K (PySem.W.fnOf "__init__" "NoText.__init__" (defArgs s_NoText_init) (defBody s_NoText_init) (defScope s_NoText_init) .none kVNoText docNoText pmNoText anNoText cdvNoText ctNoText) ["self", "row"] [] := Binds.all fun us hl => match us, hl with | [_, _], _ => rfl
  have h_NoText := hc7
  have ex_NoText := exNoText
  have K0 := kn_whole (P := P) (w := w) (base := base) D0 (fun z hz => by
      simp only [List.mem_cons, List.not_mem_nil, or_false] at hz
      rcases hz with rfl | rfl | rfl
      · exact y5
      · exact y4
      · exact y2) 
  have K1 := kn_place (P := P) (w := w) (base := base) D1  K0
  have K2 := kn_risL (P := P) (w := w) (base := base) D2 (fun z hz => by
      simp only [List.mem_cons, List.not_mem_nil, or_false] at hz
      rcases hz with rfl | rfl
      · exact y1
      · exact y13) 
  have K3 := kn_pairV (P := P) (w := w) (base := base) D3 (fun z hz => by
      simp only [List.mem_cons, List.not_mem_nil, or_false] at hz
      rcases hz with rfl | rfl | rfl
      · exact y5
      · exact y12
      · exact y6) K1
  have K4 := kn_manyV (P := P) (w := w) (base := base) D4  G_MOST_PLACES K0
  have K5 := kn_numr (P := P) (w := w) (base := base) D5 (fun z hz => by
      simp only [List.mem_cons, List.not_mem_nil, or_false] at hz
      rcases hz with rfl | rfl | rfl
      · exact y1
      · exact y4
      · exact y6) G_MOST_FIGURES G_FIGURES
  have K6 := kn_rowr (P := P) (w := w) (base := base) D6 (fun z hz => by
      simp only [List.mem_cons, List.not_mem_nil, or_false] at hz
      rcases hz with rfl
      · exact y12) K5
  have K7 := kn_mt (P := P) (w := w) (base := base) D7 (fun z hz => by
      simp only [List.mem_cons, List.not_mem_nil, or_false] at hz
      rcases hz with rfl
      · exact y6) K6 K4
  have K8 := kn_at (P := P) (w := w) (base := base) D8  K6 K3
  have K9 := knx_wr (P := P) (w := w) (base := base) D9 (fun z hz => by
      simp only [List.mem_cons, List.not_mem_nil, or_false] at hz
      rcases hz with rfl | rfl | rfl | rfl | rfl
      · exact y3
      · exact y5
      · exact y6
      · exact y11
      · exact y12) G_MOST_ARROWS K7 K8 K2 M_NoText h_NoText ok_NoText b_NoText T_NoText
  have K10 := kn_cell (P := P) (w := w) (base := base) D10 (fun z hz => by
      simp only [List.mem_cons, List.not_mem_nil, or_false] at hz
      rcases hz with rfl
      · exact y6) 
  have K11 := kn_next (P := P) (w := w) (base := base) D11  
  have K12 := kn_pen (P := P) (w := w) (base := base) D12 (fun z hz => by
      simp only [List.mem_cons, List.not_mem_nil, or_false] at hz
      rcases hz with rfl | rfl
      · exact y8
      · exact y4) 
  have K13 := kn_draw (P := P) (w := w) (base := base) D13  K11
  have K14 := knH_lawWhole (P := P) (w := w) (base := base) D14 (fun z hz => by
      simp only [List.mem_cons, List.not_mem_nil, or_false] at hz
      rcases hz with rfl | rfl | rfl
      · exact y5
      · exact y4
      · exact y2) 
  have K15 := knH_kind (P := P) (w := w) (base := base) D15 (fun z hz => by
      simp only [List.mem_cons, List.not_mem_nil, or_false] at hz
      rcases hz with rfl | rfl
      · exact y5
      · exact y0) kinds
  have K16 := kn_webby200S (P := P) (w := w) (base := base) D16 (fun z hz => by
      simp only [List.mem_cons, List.not_mem_nil, or_false] at hz
      rcases hz with rfl | rfl | rfl
      · exact y9
      · exact y12
      · exact y10) K13
  have K17 := kn_ltextof (P := P) (w := w) (base := base) D17 (fun z hz => by
      simp only [List.mem_cons, List.not_mem_nil, or_false] at hz
      rcases hz with rfl
      · exact y11) 
  have K18 := kn_value (P := P) (w := w) (base := base) D18 (fun z hz => by
      simp only [List.mem_cons, List.not_mem_nil, or_false] at hz
      rcases hz with rfl | rfl | rfl
      · exact y4
      · exact y6
      · exact y9) 
  have K19 := kn_told (P := P) (w := w) (base := base) D19  K9 K15 K14 hW ex_NoText kd_NoText T_NoText
  have K20 := kn_due (P := P) (w := w) (base := base) D20 (fun z hz => by
      simp only [List.mem_cons, List.not_mem_nil, or_false] at hz
      rcases hz with rfl | rfl
      · exact y6
      · exact y9) K18
  have K21 := kn_oddrow (P := P) (w := w) (base := base) D21 (fun z hz => by
      simp only [List.mem_cons, List.not_mem_nil, or_false] at hz
      rcases hz with rfl
      · exact y6) K13
  have K22 := kn_spoilt (P := P) (w := w) (base := base) D22 (fun z hz => by
      simp only [List.mem_cons, List.not_mem_nil, or_false] at hz
      rcases hz with rfl | rfl
      · exact y6
      · exact y7) K13 K21
  exact ok_law F (fun z hz => by
      simp only [List.mem_cons, List.not_mem_nil, or_false] at hz
      rcases hz with rfl | rfl
      · exact y9
      · exact y11) K10 K12 K16 K17 K22 K19 K20
theorem walk {l : PySem.W.OpenLaw} {q : Program} {loose : List Str} {XP : (Str → Option Value) → Heap → Prop} {YP : World → Heap → Prop} {d : DefRec} {K : Params → PySem.W.Frag} (hn : l.most = some 63) (hdf : d.params.defaults = [])
    (hY : ∀ (w : World) (h : Heap), YP w h → (K w.params).In h)
    (F : ∀ (w : World) (mg : Str → Option Value) (fa : Addr) (h : Heap), (K w.params).In h → h.Ns mainGlobals mg → mg d.name = some (.ref fa) →
      ∃ fd : FuncData, (∀ (s : Shared) (u : Value), BindsTo s fd ⟨[u], []⟩ [("script", u)]) ∧ ∀ base : Heap, (K w.params).In base → base.Ns mainGlobals mg → FnOk l.prog w (K w.params) mg base CX0 7 fa fd ["script"] (spLaw (K w.params))) :
    PySem.W.WalkO q loose XP YP l.row.toRowW d [] (fun f vs => PySem.call f vs) :=
  L2.walk_of (n := 63) (k := 7) (x := "script") (CX := fun _ => CX0) (sp := fun w => spLaw (K w.params)) hn (by decide) hdf ⟨rfl, by decide, by decide, rfl⟩ hY F (fun _ _ a ns hl _ hS => ⟨a, ns, rfl, hS, hl, fun _ => rfl⟩) fun _ _ _ _ _ z => z
end Hk
open PySem PySem.W PyProof.Rows
set_option maxRecDepth 100000 in
set_option maxHeartbeats 0 in
theorem PySem.Challenge.cw_holdsets_k71_texts_that_write_none_holds : PySem.Challenge.rw_holdsets_k71_texts_that_write_none.Holds := by
  w_on; o_law; k_head; (case hw => w_witness2)
  k_fill
  refine Hk.walk (l := PySem.Challenge.rw_holdsets_k71_texts_that_write_none) rfl rfl (fun w h Y => PySem.W.kIn_of Y) ?F
  case F =>
    intro w mg fa h KX G hmg
    refine' Hk.all_mk KX G hmg ?aW ?mW1 ?mW2 ?mW3 ?mW4 ?lfW ?cfW ?dW ?ac0 ?ac1 ?ac2 ?ac3 ?ac4 ?ac5 ?ac6 ?ac7 ?ac8 ?gsp ?gtk ?lNoText ?v0NoText ?v1NoText ?v2NoText ?v3NoText ?i1NoText ?i2NoText ?i3NoText ?g1NoText ?g2NoText ?g3NoText ?g4NoText ?g5NoText ?lfNoText ?cfNoText ?exNoText ?kvNoText ?xaNoText ?xhNoText ?xoNoText ?xn0NoText ?kk0NoText ?kk1NoText ?kk2NoText ?kk3NoText ?kk4NoText ?kk5NoText ?kk6NoText ?kk7NoText ?kk8NoText ?gnMOST_PLACES ?gnMOST_ARROWS ?gnMOST_FIGURES ?gnFIGURES ?d0 ?d1 ?d2 ?d3 ?d4 ?d5 ?d6 ?d7 ?d8 ?d9 ?d10 ?d11 ?d12 ?d13 ?d14 ?d15 ?d16 ?d17 ?d18 ?d19 ?d20 ?d21 ?d22 ?d23 ?z0 ?z1 ?z2 ?z3 ?z4 ?z5 ?z6 ?z7 ?z8 ?z9 ?z10 ?z11 ?z12 ?z13
    (case aW => k_is)
    (case mW1 => k_is)
    (case mW2 => k_is)
    (case mW3 => k_is)
    (case mW4 => k_is)
    (case lfW => k_is)
    (case cfW => k_is)
    (case dW => k_is)
    (case ac0 => k_is)
    (case ac1 => k_is)
    (case ac2 => k_is)
    (case ac3 => k_is)
    (case ac4 => k_is)
    (case ac5 => k_is)
    (case ac6 => k_is)
    (case ac7 => k_is)
    (case ac8 => k_is)
    (case gsp => k_is)
    (case gtk => k_is)
    (case lNoText => k_is)
    (case v0NoText => decide +kernel)
    (case v1NoText => decide +kernel)
    (case v2NoText => decide +kernel)
    (case v3NoText => decide +kernel)
    (case i1NoText => k_is)
    (case i2NoText => k_is)
    (case i3NoText => k_is)
    (case g1NoText => k_is)
    (case g2NoText => k_is)
    (case g3NoText => k_is)
    (case g4NoText => k_is)
    (case g5NoText => k_is)
    (case lfNoText => k_is)
    (case cfNoText => k_is)
    (case exNoText => kts_exm)
    (case kvNoText => kit_is)
    (case xaNoText => k_is)
    (case xhNoText => k_is)
    (case xoNoText => decide +kernel)
    (case xn0NoText => k_is)
    (case kk0NoText => kit_is)
    (case kk1NoText => kit_is)
    (case kk2NoText => kit_is)
    (case kk3NoText => kit_is)
    (case kk4NoText => kit_is)
    (case kk5NoText => kit_is)
    (case kk6NoText => kit_is)
    (case kk7NoText => kit_is)
    (case kk8NoText => kit_is)
    (case gnMOST_PLACES => k_is)
    (case gnMOST_ARROWS => k_is)
    (case gnMOST_FIGURES => k_is)
    (case gnFIGURES => k_is)
    (case d0 => refine' Hk.DF.of ?a ?l ?c ?k; (case a => k_is); (case l => k_is); (case c => k_is); (case k => k_is))
    (case d1 => refine' Hk.DF.of ?a ?l ?c ?k; (case a => k_is); (case l => k_is); (case c => k_is); (case k => k_is))
    (case d2 => refine' Hk.DF.of ?a ?l ?c ?k; (case a => k_is); (case l => k_is); (case c => k_is); (case k => k_is))
    (case d3 => refine' Hk.DF.of ?a ?l ?c ?k; (case a => k_is); (case l => k_is); (case c => k_is); (case k => k_is))
    (case d4 => refine' Hk.DF.of ?a ?l ?c ?k; (case a => k_is); (case l => k_is); (case c => k_is); (case k => k_is))
    (case d5 => refine' Hk.DF.of ?a ?l ?c ?k; (case a => k_is); (case l => k_is); (case c => k_is); (case k => k_is))
    (case d6 => refine' Hk.DF.of ?a ?l ?c ?k; (case a => k_is); (case l => k_is); (case c => k_is); (case k => k_is))
    (case d7 => refine' Hk.DF.of ?a ?l ?c ?k; (case a => k_is); (case l => k_is); (case c => k_is); (case k => k_is))
    (case d8 => refine' Hk.DF.of ?a ?l ?c ?k; (case a => k_is); (case l => k_is); (case c => k_is); (case k => k_is))
    (case d9 => refine' Hk.DF.of ?a ?l ?c ?k; (case a => k_is); (case l => k_is); (case c => k_is); (case k => k_is))
    (case d10 => refine' Hk.DF.of ?a ?l ?c ?k; (case a => k_is); (case l => k_is); (case c => k_is); (case k => k_is))
    (case d11 => refine' Hk.DF.of ?a ?l ?c ?k; (case a => k_is); (case l => k_is); (case c => k_is); (case k => k_is))
    (case d12 => refine' Hk.DF.of ?a ?l ?c ?k; (case a => k_is); (case l => k_is); (case c => k_is); (case k => k_is))
    (case d13 => refine' Hk.DF.of ?a ?l ?c ?k; (case a => k_is); (case l => k_is); (case c => k_is); (case k => k_is))
    (case d14 => refine' Hk.DF.of ?a ?l ?c ?k; (case a => k_is); (case l => k_is); (case c => k_is); (case k => k_is))
    (case d15 => refine' Hk.DF.of ?a ?l ?c ?k; (case a => k_is); (case l => k_is); (case c => k_is); (case k => k_is))
    (case d16 => refine' Hk.DF.of ?a ?l ?c ?k; (case a => k_is); (case l => k_is); (case c => k_is); (case k => k_is))
    (case d17 => refine' Hk.DF.of ?a ?l ?c ?k; (case a => k_is); (case l => k_is); (case c => k_is); (case k => k_is))
    (case d18 => refine' Hk.DF.of ?a ?l ?c ?k; (case a => k_is); (case l => k_is); (case c => k_is); (case k => k_is))
    (case d19 => refine' Hk.DF.of ?a ?l ?c ?k; (case a => k_is); (case l => k_is); (case c => k_is); (case k => k_is))
    (case d20 => refine' Hk.DF.of ?a ?l ?c ?k; (case a => k_is); (case l => k_is); (case c => k_is); (case k => k_is))
    (case d21 => refine' Hk.DF.of ?a ?l ?c ?k; (case a => k_is); (case l => k_is); (case c => k_is); (case k => k_is))
    (case d22 => refine' Hk.DF.of ?a ?l ?c ?k; (case a => k_is); (case l => k_is); (case c => k_is); (case k => k_is))
    (case d23 => refine' Hk.DF.of ?a ?l ?c ?k; (case a => k_is); (case l => k_is); (case c => k_is); (case k => k_is))
    (case z0 => k_is)
    (case z1 => k_is)
    (case z2 => k_is)
    (case z3 => k_is)
    (case z4 => k_is)
    (case z5 => k_is)
    (case z6 => k_is)
    (case z7 => k_is)
    (case z8 => k_is)
    (case z9 => k_is)
    (case z10 => k_is)
    (case z11 => k_is)
    (case z12 => k_is)
    (case z13 => k_is)


