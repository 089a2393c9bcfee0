import PyProof.Rows.All
import Wide.All
import OpenK.AllK
import Wide.FinOn
import Lean
import PyProof.EqAt
import PyProof.EqKinds
import PyProof.TupleCall
import PySem.Challenge.RW_holdsets_k28_cases_by_anybody
import PyProof.NeKinds
import KE.KSortTup
import KE.KDictSum
import PyProof.Draws
import PyProof.EnumFor
import PyProof.EnumMake
import PyProof.ListRange
import PyProof.TupleOfStr
import OpenK.KMake
import OpenK.KOwn
import OpenK.KRaise
import OpenK.KMore
import KE.KTryMore
import KE.KTryOn
import PyProof.NsDelKeeps
import PyProof.Rows.SumAny
import KE.BitLaws
import KE.KMinKey
import PyProof.Rows.CallKwBuiltin
import PyProof.WalksMore
import PyProof.Rows.TupIter
import PyProof.RangeFor
import PyProof.Rows.SeqRoads
import PyProof.Rows.SeqRange
import PyProof.Rows.FStr
import PyProof.DictWalks
import PyProof.Rows.Range3
import PyProof.Rows.TupIn
import PyProof.ReprRoads
import PyProof.ReprLen
import PyProof.FitsInt
import PyProof.AttrMissHeap
import PyProof.AttrMiss
import PyProof.DictUpdate
import PyProof.CollectWalk
import KE.KDictOf
import PyProof.Walks
import PyProof.WalksS
set_option Elab.async false
set_option linter.all false
set_option maxRecDepth 100000
set_option maxHeartbeats 4000000
def PySem.W.Fast.tw7686476323288015926:Unit:=()
def PySem.W.Fast.tw3185046259818050490:Unit:=()
def PySem.W.Fast.tw9770530326307317776:Unit:=()
def PySem.W.Fast.tw3764953628512833983:Unit:=()
def PySem.W.Fast.tw14388716210384311711:Unit:=()
def PySem.W.Fast.tw803487317095964600:Unit:=()
def PySem.W.Fast.tw14304230429375572970:Unit:=()
def PySem.W.Fast.tw13769324580779126535:Unit:=()
def PySem.W.Fast.tw17362494953982896973:Unit:=()
def PySem.W.Fast.tw1487182644294618885:Unit:=()
def PySem.W.Fast.tw5135890904102075235:Unit:=()
def PySem.W.Fast.tw7838716089528043123:Unit:=()
def PySem.W.Fast.tw12026325378933856592:Unit:=()
def PySem.W.Fast.tw5064470956958656642:Unit:=()
def PySem.W.Fast.tw1766454214679785024:Unit:=()
def PySem.W.Fast.tw9650806023969365858:Unit:=()
def PySem.W.Fast.tw698121679066687:Unit:=()
def PySem.W.Fast.tw14202178896320596110:Unit:=()
def PySem.W.Fast.tw10455364706768767962:Unit:=()
def PySem.W.Fast.tw5444718995161077784:Unit:=()
def PySem.W.Fast.tw5100644719824266083:Unit:=()
def PySem.W.Fast.tw15126395365899008273:Unit:=()
def PySem.W.Fast.tw72222300160499178:Unit:=()
def PySem.W.Fast.tw12340500491825425437:Unit:=()
def PySem.W.Fast.tw1031089439058755742:Unit:=()
def PySem.W.Fast.tw10478218848091297265:Unit:=()
def PySem.W.Fast.tw15949759626003128891:Unit:=()
def PySem.W.Fast.tw4946057230937267316:Unit:=()
def PySem.W.Fast.tw5708292129022144040:Unit:=()
def PySem.W.Fast.tw8718102839041991473:Unit:=()
def PySem.W.Fast.tw16977698376624501823:Unit:=()
def PySem.W.Fast.tw10430244881210061976:Unit:=()
def PySem.W.Fast.tw10319646970414949056:Unit:=()
def PySem.W.Fast.tw16367396227476629863:Unit:=()
def PySem.W.Fast.tw3408138270001923442:Unit:=()
def PySem.W.Fast.tw17957024040248994987:Unit:=()
def PySem.W.Fast.tw11498962100517282954:Unit:=()
def PySem.W.Fast.tw12940565753350425900:Unit:=()
def PySem.W.Fast.tw16226178352727109199:Unit:=()
def PySem.W.Fast.tw6547462250158003723:Unit:=()
def PySem.W.Fast.tw1729063617296474185:Unit:=()
def PySem.W.Fast.tw333792433706986180:Unit:=()
def PySem.W.Fast.tw1381150213256319496:Unit:=()
def PySem.W.Fast.tw1134018184893098881:Unit:=()
def PySem.W.Fast.tw15576438667936202924:Unit:=()
def PySem.W.Fast.tw17363796362518657175:Unit:=()
def PySem.W.Fast.tw8026306557543875902:Unit:=()
def PySem.W.Fast.tw7173216858962794671:Unit:=()
def PySem.W.Fast.tw5665993391587750326:Unit:=()
def PySem.W.Fast.tw3539048343531637588:Unit:=()
def PySem.W.Fast.tw5339064582111958371:Unit:=()
def PySem.W.Fast.tw858181456387140395:Unit:=()
def PySem.W.Fast.tw10401799961052905165:Unit:=()
def PySem.W.Fast.tw15753735660144564392:Unit:=()
def PySem.W.Fast.tw9412935085758574270:Unit:=()
def PySem.W.Fast.tw12001001944791483927:Unit:=()
def PySem.W.Fast.tw1570311135710517122:Unit:=()
def PySem.W.Fast.tw6861018689334776229:Unit:=()
def PySem.W.Fast.tw8733283496882643976:Unit:=()
def PySem.W.Fast.tw14617562206373558868:Unit:=()
def PySem.W.Fast.tw8328441397581357992:Unit:=()
def PySem.W.Fast.tw6547316072038405406:Unit:=()
def PySem.W.Fast.tw5283568102095315380:Unit:=()
def PySem.W.Fast.tw9549882914930551950:Unit:=()
def PySem.W.Fast.tw6067337095492090170:Unit:=()
def PySem.W.Fast.tw15573989195048274102:Unit:=()
def PySem.W.Fast.tw10138274155016735837:Unit:=()
def PySem.W.Fast.tw7478882831563365455:Unit:=()
def PySem.W.Fast.tw15924250348192385833:Unit:=()
def PySem.W.Fast.tw10184982631681906601:Unit:=()
def PySem.W.Fast.tw12652661194690229623:Unit:=()
def PySem.W.Fast.tw10852864735542135535:Unit:=()
def PySem.W.Fast.tw15162231560260317796:Unit:=()
def PySem.W.Fast.tw7116960965736460550:Unit:=()
def PySem.W.Fast.tw8988970894379097614:Unit:=()
def PySem.W.Fast.tw10200129719250430976:Unit:=()
def PySem.W.Fast.tw17099332630544648326:Unit:=()
def PySem.W.Fast.tw16568380444691887234:Unit:=()
def PySem.W.Fast.tw2036348321740136696:Unit:=()
def PySem.W.Fast.tw11363937517919280034:Unit:=()
def PySem.W.Fast.tw15953849172774496429:Unit:=()
def PySem.W.Fast.tw9654953932621631264:Unit:=()
def PySem.W.Fast.tw8687899850853846684:Unit:=()
def PySem.W.Fast.tw17348704823404998894:Unit:=()
def PySem.W.Fast.tw15779612708775912510:Unit:=()
def PySem.W.Fast.tw14433328794109390619:Unit:=()
def PySem.W.Fast.tw18318638609310672573:Unit:=()
def PySem.W.Fast.tw6916277506618470396:Unit:=()
def PySem.W.Fast.tw1491276459331035089:Unit:=()
def PySem.W.Fast.tw838877447968981309:Unit:=()
def PySem.W.Fast.tw2059971731734649114:Unit:=()
def PySem.W.Fast.tw5345625343450518161:Unit:=()
def PySem.W.Fast.tw15280420216034560737:Unit:=()
def PySem.W.Fast.tw8488775635354471779:Unit:=()
def PySem.W.Fast.tw3255526484233827077:Unit:=()
def PySem.W.Fast.tw17335133066162957929:Unit:=()
def PySem.W.Fast.tw6524235991645275299:Unit:=()
def PySem.W.Fast.tw15704832763769943361:Unit:=()
def PySem.W.Fast.tw18110208102441149320:Unit:=()
def PySem.W.Fast.tw16090225506995997997:Unit:=()
def PySem.W.Fast.tw9738403150078389471:Unit:=()
def PySem.W.Fast.tw12122720062972540185:Unit:=()
def PySem.W.Fast.tw11490419956253440059:Unit:=()
def PySem.W.Fast.tw7980402574279103094:Unit:=()
def PySem.W.Fast.tw18100787464317514495:Unit:=()
def PySem.W.Fast.tw16323923539392984185:Unit:=()
def PySem.W.Fast.tw13265690899447583503:Unit:=()
def PySem.W.Fast.tw5412395789989472275:Unit:=()
def PySem.W.Fast.tw16229942291759167270:Unit:=()
def PySem.W.Fast.tw1457040056899258651:Unit:=()
namespace L2
open PySem PySem.Spec PyProof.Rows
abbrev Key:=Sum Int Str
def keyIs:Key→Value→Bool
 | .inl k,v=>Value.isInt k v
 | .inr x,v=>Value.isStrOf x v
def keyH (w:World):Key→Int
 | .inl k=>hashInt k
 | .inr x=>hashStr w x
theorem keyIs_shape:∀ {k:Key} {v:Value},keyIs k v=true→(∃ i t,k=Sum.inl i∧v=Value.int i t)∨(∃ x t,k=Sum.inr x∧v=Value.str x t)
 | .inl i,v,h=>by
  obtain ⟨t,e⟩:=Value.isInt_shape (k:=i) (v:=v) h
  exact .inl ⟨i,t,rfl,e⟩
 | .inr x,v,h=>by
  obtain ⟨t,e⟩:=Value.isStrOf_shape (x:=x) (v:=v) h
  exact .inr ⟨x,t,rfl,e⟩
theorem keyIs_int (i:Int) (t:Tok):keyIs (.inl i) (.int i t)=true:=by simp [keyIs,Value.isInt]
theorem keyIs_str (x:Str) (t:Tok):keyIs (.inr x) (.str x t)=true:=by simp [keyIs,Value.isStrOf]
theorem key_ll (a b:Int):decide ((Sum.inl a:Key)=Sum.inl b)=(a == b):=by
 by_cases e:a=b
 ·subst e; simp
 ·have h:¬ (Sum.inl a:Key)=Sum.inl b:=fun q=>e (Sum.inl.inj q)
  rw [decide_eq_false h]
  exact (beq_eq_false_iff_ne.mpr e).symm
theorem key_rr (a b:Str):decide ((Sum.inr a:Key)=Sum.inr b)=decide (a=b):=by
 by_cases e:a=b
 ·subst e; simp
 ·have h:¬ (Sum.inr a:Key)=Sum.inr b:=fun q=>e (Sum.inr.inj q)
  rw [decide_eq_false h,decide_eq_false e]
theorem key_lr (a:Int) (b:Str):decide ((Sum.inl a:Key)=Sum.inr b)=false:=decide_eq_false (fun q=>nomatch q)
theorem key_rl (a:Str) (b:Int):decide ((Sum.inr a:Key)=Sum.inl b)=false:=decide_eq_false (fun q=>nomatch q)
def mixKind (prog:Program) (w:World):PySem.KeyKind prog w Key where
 is:=keyIs
 hash:=keyH w
 inj:=fun v a b ha hb=>by
  rcases keyIs_shape ha with ⟨i,t,rfl,rfl⟩ | ⟨x,t,rfl,rfl⟩
  ·rcases keyIs_shape hb with ⟨j,u,rfl,e⟩ | ⟨y,u,rfl,e⟩
   ·injection e with e1 _; rw [e1]
   ·exact nomatch e
  ·rcases keyIs_shape hb with ⟨j,u,rfl,e⟩ | ⟨y,u,rfl,e⟩
   ·exact nomatch e
   ·injection e with e1 _; rw [e1]
 byValue:=fun k v h=>by
  rcases keyIs_shape h with ⟨i,t,rfl,rfl⟩ | ⟨x,t,rfl,rfl⟩ <;> rfl
 pyHash:=fun hv h=>by
  rcases keyIs_shape hv with ⟨i,t,rfl,rfl⟩ | ⟨x,t,rfl,rfl⟩
  ·exact wpAny_pyHash_int h
  ·exact wpAny_pyHash_str h
 eqBool:=fun hu hv h=>by
  rcases keyIs_shape hu with ⟨i,t,rfl,rfl⟩ | ⟨x,t,rfl,rfl⟩
  ·rcases keyIs_shape hv with ⟨j,u,rfl,rfl⟩ | ⟨y,u,rfl,rfl⟩
   ·rw [key_ll] at h; exact wpAny_eqBool_int h
   ·rw [key_lr] at h; exact SeqAt.EqAt.int_str i t y u _ _ _ _ h
  ·rcases keyIs_shape hv with ⟨j,u,rfl,rfl⟩ | ⟨y,u,rfl,rfl⟩
   ·rw [key_rl] at h; exact SeqAt.EqAt.str_int x t j u _ _ _ _ h
   ·rw [key_rr] at h; exact wpAny_eqBool_str h
 «strs»:=fun k x t v h=>by
  rcases keyIs_shape h with ⟨i,u,rfl,e⟩ | ⟨y,u,rfl,e⟩
  ·exact nomatch e
  ·injection e with e1 _
   subst e1
   cases v <;> rfl
theorem mixKind_int (prog:Program) (w:World) (i:Int) (t:Tok):(mixKind prog w).is (.inl i) (.int i t)=true:=keyIs_int i t
theorem mixKind_str (prog:Program) (w:World) (x:Str) (t:Tok):(mixKind prog w).is (.inr x) (.str x t)=true:=keyIs_str x t
end L2
namespace L2
open PySem PySem.Spec PyProof.Rows
inductive V where
 | non | bl (b:Bool) | int (i:Int) | str (x:Str) | byt (b:Array UInt8) | flt (b:UInt64) | ref (a:Addr) | ty (n:String)
 deriving DecidableEq
def RelV:V→Value→Prop
 | .non,u=>u=Value.none
 | .bl b,u=>u=Value.bool b
 | .int i,u=>∃ t,u=Value.int i t
 | .str x,u=>∃ t,u=Value.str x t
 | .byt b,u=>∃ t,u=Value.bytes b t
 | .flt b,u=>∃ t,u=Value.float b t
 | .ref a,u=>u=Value.ref a
 | .ty n,u=>u=Value.type n
abbrev Vals:List V→List Value→Prop:=Paired RelV
theorem Vals.length {xs:List V} {us:List Value} (r:Vals xs us):xs.length=us.length:=Paired.length r
theorem Vals.get:∀ {xs:List V} {us:List Value} {i:Nat} {x:V},Vals xs us→xs[i]?=some x→∃ u,us[i]?=some u∧RelV x u
 | _,_,_,_,.nil,e=>by simp at e
 | _,_,0,_,.cons r _,e=>by simp at e; subst e; exact ⟨_,rfl,r⟩
 | _,_,i + 1,x,.cons _ t,e=>by
  obtain ⟨u,h1,h2⟩:=Vals.get (i:=i) (x:=x) t (by simpa using e)
  exact ⟨u,by simpa using h1,h2⟩
theorem Vals.set {x:V} {u:Value} (r:RelV x u):∀ {xs:List V} {us:List Value} (i:Nat),Vals xs us→Vals (xs.set i x) (us.set i u)
 | _,_,_,.nil=>.nil
 | _,_,0,.cons _ t=>.cons r t
 | _,_,i + 1,.cons q t=>.cons q (Vals.set r i t)
theorem Vals.append:∀ {xs ys:List V} {us ws:List Value},Vals xs us→Vals ys ws→Vals (xs++ys) (us++ws)
 | _,_,_,_,.nil,s=>s
 | _,_,_,_,.cons r t,s=>.cons r (Vals.append t s)
theorem Vals.take:∀ {xs:List V} {us:List Value} (n:Nat),Vals xs us→Vals (xs.take n) (us.take n)
 | _,_,0,_=>.nil
 | _,_,_ + 1,.nil=>.nil
 | _,_,n + 1,.cons r t=>.cons r (Vals.take n t)
theorem Vals.drop:∀ {xs:List V} {us:List Value} (n:Nat),Vals xs us→Vals (xs.drop n) (us.drop n)
 | _,_,0,r=>r
 | _,_,_ + 1,.nil=>.nil
 | _,_,n + 1,.cons _ t=>Vals.drop n t
def RelO:Option V→Option Value→Prop
 | some v,some u=>RelV v u
 | none,none=>True
 | _,_=>False
def KV {κ:Type}:List (κ×V)→List (κ×Value)→Prop:=Paired fun (p:κ×V) (q:κ×Value)=>p.1=q.1∧RelV p.2 q.2
def kV:Key→V
 | .inl i=>.int i
 | .inr x=>.str x
inductive HO where
 /-- a list -/
 | lst (xs:List V)
 /-- a tuple (never changes) -/
 | tup (xs:List V)
 /-- a dict whose keys are ints and texts; one whose keys are tuples of ints and texts (the empty one is both) -/
 | dK (kvs:List (Key×V)) | dT (kvs:List (List Key×V))
 /-- a set of ints: its members,its size -/
 | set (S:Int→Bool) (n:Nat)
 /-- an instance of the class at C,its dict at dx,its attributes -/
 | ins (C dx:Addr) (fs:List (Str×V))
 /-- the dict of the instance at x -/
 | own (x:Addr)
 /-- the dict of an exception -/
 | xd (fs:List (Str×V))
 /-- a bound method,f of x -/
 | met (f x:Addr)
 /-- a range object lo,lo + 1,.. below hi -/
 | rng (lo hi:Int)
 /-- a thing that is known to the object (the script; a dict while a loop walks it): read,never written while it is so -/
 | frz (o:Obj) (u:HO)
 /-- a code object's table -/
 | tbl (ps:Array Value)
 /-- any other thing,by what is true of its one object (a def of one's own: SetO a S n:=HO.ext fun h=>..) -/
 | ext (φ:Heap→Prop)
abbrev Hp:=Addr→Option HO
def upd (H:Hp) (a:Addr) (o:HO):Hp:=fun b=>if b=a then some o else H b
theorem upd_same {H:Hp} {a:Addr} {o:HO}:upd H a o a=some o:=by unfold upd; rw [if_pos rfl]
theorem upd_ne {H:Hp} {a b:Addr} {o:HO} (h:b≠a):upd H a o b=H b:=by unfold upd; rw [if_neg h]
theorem ne_of {H:Hp} {a b:Addr} {o u:HO} (h:H a=some o) (h':H b=some u) (d:o≠u):a≠b:=by
 intro e; subst e; rw [h] at h'; exact d (Option.some.inj h')
theorem ne_of_none {H:Hp} {a b:Addr} {o:HO} (h:H a=some o) (h':H b=none):a≠b:=by
 intro e; subst e; rw [h] at h'; cases h'
section
variable (P:Program) (w:World)
def ObjOk (H:Hp) (h:Heap) (a:Addr):HO→Prop
 | .lst xs=>xs.length≤sizeLine∧∃ (its:List Value) (n:Nat),Vals xs its∧h.get? a=some { cls:=.type "list",data:=.seq its.toArray n }
 | .tup xs=>xs.length≤sizeLine∧∃ its:List Value,Vals xs its∧IsTup h a its.toArray
 | .dK kvs=>kvs.length≤sizeLine∧(a == sysModules)=false∧∃ vs,KV kvs vs∧h.DictOf (mixKind P w) a vs
 | .dT kvs=>kvs.length≤sizeLine∧(a == sysModules)=false∧∃ xs:List (List Key×Addr×Value),
   Paired (fun (p:List Key×V) (q:List Key×Addr×Value)=>p.1=q.1∧H q.2.1=some (.tup (p.1.map kV))∧RelV p.2 q.2.2) kvs xs ∧
   ∃ o es ep,h.get? a=some o∧o.ExactDict∧o.data=.dict es ep∧es.toList=xs.map (entryOfKey (tupleKind (mixKind P w)))∧(xs.map (·.1)).Nodup
 | .set S n=>h.SetOf (intKind P w) a S n
 | .ins C dx fs=>H dx=some (.own a)∧fs.length≤1000∧dx≠a∧h.get? a=some (PySem.W.instObj C dx) ∧
   ∃ mA,h.Ns1 dx mA∧(∀ f,RelO (fs.lookup f) (mA f))∧PySem.Within mA (fs.map (·.1))
 | .own _=>∃ o,h.get? a=some o
 | .xd fs=>∃ mA,h.Ns1 a mA∧∀ f,RelO (fs.lookup f) (mA f)
 | .rng lo hi=>∃ t u v,h.get? a=some { cls:=.type "range",data:=.fields #[.int lo t,.int hi u,.int 1 v] }
 | .frz o u=>h.get? a=some o∧ObjOk H h a u
 | .tbl ps=>h.get? a=some { cls:=.none,data:=.fields ps }
 | .met f x=>h.get? a=some (PySem.W.methodObj (.ref f) (.ref x))
 | .ext φ=>φ h∧(∃ o,h.get? a=some o)∧∀ h1 h2:Heap,φ h1→(∀ o,h1.get? a=some o→h2.get? a=some o)→φ h2
def HOk (H:Hp) (h:Heap):Prop:=∀ a o,H a=some o→ObjOk P w H h a o
end
section
variable {P:Program} {w:World} {H H':Hp} {h h':Heap} {a:Addr} {o:HO}
theorem ObjOk.lt (x:ObjOk P w H h a o):a < h.objs.size:=by
 cases o with
 | lst xs=>obtain ⟨_,_,_,_,e⟩:=x; exact Heap.lt_size e
 | tup xs=>obtain ⟨_,_,_,p⟩:=x; exact p.lt
 | dK kvs=>obtain ⟨_,_,_,_,o,_,_,e,_⟩:=x; exact Heap.lt_size e
 | dT kvs=>obtain ⟨_,_,_,_,o,_,_,e,_⟩:=x; exact Heap.lt_size e
 | set S n=>obtain ⟨o,_,_,_,e,_⟩:=x; exact Heap.lt_size e
 | ins C dx fs=>obtain ⟨_,_,_,e,_⟩:=x; exact Heap.lt_size e
 | own y=>obtain ⟨_,e⟩:=x; exact Heap.lt_size e
 | xd fs=>obtain ⟨_,⟨_,_,_,e,_⟩,_⟩:=x; exact Heap.lt_size e
 | rng lo hi=>obtain ⟨_,_,_,e⟩:=x; exact Heap.lt_size e
 | frz ob u=>obtain ⟨e,_⟩:=x; exact Heap.lt_size e
 | tbl ps=>exact Heap.lt_size (show h.get? a=some _ from x)
 | met f y=>exact Heap.lt_size (show h.get? a=some _ from x)
 | ext φ=>obtain ⟨_,⟨_,e⟩,_⟩:=x; exact Heap.lt_size e
theorem Paired.mapP {α β:Type} {F G:α→β→Prop}:∀ {l₁:List α} {l₂:List β},Paired F l₁ l₂→(∀ a b,F a b→G a b)→Paired G l₁ l₂
 | _,_,.nil,_=>.nil
 | _,_,.cons r t,f=>.cons (f _ _ r) (Paired.mapP t f)
theorem ObjOk.stay (x:ObjOk P w H h a o) (k:∀ b u,(b=a∨H b=some (.own a))→h.get? b=some u→h'.get? b=some u)
  (ho:∀ b,H b=some (.own a)→H' b=some (.own a)) (ht:∀ b xs,H b=some (.tup xs)→H' b=some (.tup xs)):ObjOk P w H' h' a o:=by
 induction o with
 | lst xs=>obtain ⟨z,its,n,r,e⟩:=x; exact ⟨z,its,n,r,k _ _ (.inl rfl) e⟩
 | tup xs=>obtain ⟨z,its,r,ob,e,c⟩:=x; exact ⟨z,its,r,ob,k _ _ (.inl rfl) e,c⟩
 | dK kvs=>obtain ⟨z,y,vs,r,ob,es,ep,e,c⟩:=x; exact ⟨z,y,vs,r,ob,es,ep,k _ _ (.inl rfl) e,c⟩
 | dT kvs =>
  obtain ⟨z,y,xs,r,ob,es,ep,e,c⟩:=x
  exact ⟨z,y,xs,Paired.mapP r fun p q z=>⟨z.1,ht _ _ z.2.1,z.2.2⟩,ob,es,ep,k _ _ (.inl rfl) e,c⟩
 | set S n=>obtain ⟨ob,es,ep,t,e,c⟩:=x; exact ⟨ob,es,ep,t,k _ _ (.inl rfl) e,c⟩
 | ins C dx fs =>
  obtain ⟨d,z,ne,e,mA,⟨od,es,ep,e2,c⟩,r⟩:=x
  exact ⟨ho _ d,z,ne,k _ _ (.inl rfl) e,mA,⟨od,es,ep,k _ _ (.inr d) e2,c⟩,r⟩
 | own y=>obtain ⟨ob,e⟩:=x; exact ⟨ob,k _ _ (.inl rfl) e⟩
 | xd fs=>obtain ⟨mA,⟨od,es,ep,e,c⟩,r⟩:=x; exact ⟨mA,⟨od,es,ep,k _ _ (.inl rfl) e,c⟩,r⟩
 | rng lo hi=>obtain ⟨t,u,v,e⟩:=x; exact ⟨t,u,v,k _ _ (.inl rfl) e⟩
 | frz ob u ih=>obtain ⟨e,q⟩:=x; exact ⟨k _ _ (.inl rfl) e,ih q⟩
 | tbl ps =>
  have e:h.get? a=some { cls:=.none,data:=.fields ps }:=x
  show h'.get? a=some { cls:=.none,data:=.fields ps }
  exact k a _ (.inl rfl) e
 | met f y =>
  have e:h.get? a=some (PySem.W.methodObj (.ref f) (.ref y)):=x
  show h'.get? a=some (PySem.W.methodObj (.ref f) (.ref y))
  exact k a _ (.inl rfl) e
 | ext φ=>obtain ⟨p,⟨o,e⟩,st⟩:=x; exact ⟨st _ _ p fun o q=>k _ _ (.inl rfl) q,⟨o,k _ _ (.inl rfl) e⟩,st⟩
theorem HOk.lt (x:HOk P w H h) (e:H a=some o):a < h.objs.size:=(x a o e).lt
theorem HOk.fresh (x:HOk P w H h) (e:h.objs.size≤a):H a=none:=by
 cases q:H a with
 | none=>rfl
 | some u=>exact absurd (Nat.lt_of_lt_of_le (x.lt q) e) (Nat.lt_irrefl _)
theorem HOk.kept (x:HOk P w H h) (k:∀ b u,h.get? b=some u→h'.get? b=some u):HOk P w H h':=fun a o e =>
 (x a o e).stay (fun b u _ q=>k b u q) (fun _ q=>q) fun _ _ q=>q
theorem HOk.laid (x:HOk P w H h) (k:∀ b u,h.get? b=some u→h'.get? b=some u) (hp:h.objs.size≤a) (new:ObjOk P w (upd H a o) h' a o):HOk P w (upd H a o) h':=fun b u e=>by
 have hn:=x.fresh hp
 by_cases hb:b=a
 ·subst hb; rw [upd_same] at e; cases e; exact new
 ·rw [upd_ne hb] at e
  exact (x b u e).stay (fun c v _ q=>k c v q) (fun c q=>by rw [upd_ne (ne_of_none q hn)]; exact q) fun c xs q=>by rw [upd_ne (ne_of_none q hn)]; exact q
end
def Rd (H:Hp) (a:Addr) (u:HO):Prop:=H a=some u∨∃ o,H a=some (.frz o u)
theorem Rd.ok {P:Program} {w:World} {H:Hp} {h:Heap} {a:Addr} {u:HO} (r:Rd H a u) (x:HOk P w H h):ObjOk P w H h a u:=by
 rcases r with r | ⟨o,r⟩
 ·exact x a u r
 ·obtain ⟨_,q⟩:=x a _ r
  exact q
def Mut:Option HO→Prop
 | some (.lst _)=>True
 | some (.dK _)=>True
 | some (.dT _)=>True
 | some (.set _ _)=>True
 | some (.ins _ _ _)=>True
 | some (.ext _)=>True
 | _=>False
section
variable {P:Program} {w:World} {H:Hp} {h h':Heap} {x e:Addr} {o':HO}
theorem HOk.write (ok:HOk P w H h) (mu:Mut (H x)) (he:e=x∨H e=some (.own x)) (k:∀ b u,b≠e→h.get? b=some u→h'.get? b=some u) (heo:∃ u,h'.get? e=some u)
  (new:ObjOk P w (upd H x o') h' x o'):HOk P w (upd H x o') h':=fun b u q=>by
 have nown:∀ c y,H c=some (.own y)→c≠x:=fun c y r z=>by subst z; rw [r] at mu; exact mu
 have ntup:∀ c xs,H c=some (.tup xs)→c≠x:=fun c xs r z=>by subst z; rw [r] at mu; exact mu
 by_cases hb:b=x
 ·subst hb; rw [upd_same] at q; cases q; exact new
 ·rw [upd_ne hb] at q
  by_cases hbe:b=e
  ·have q':H b=some (.own x):=by
    rcases he with z | z
    ·exact absurd (hbe.trans z) hb
    ·rw [hbe]; exact z
   rw [q] at q'; cases q'
   obtain ⟨v,hv⟩:=heo
   exact ⟨v,by rw [hbe]; exact hv⟩
  ·refine (ok b u q).stay (fun c v hc r=>k c v ?_ r) (fun c r=>by rw [upd_ne (nown c b r)]; exact r) fun c xs r=>by rw [upd_ne (ntup c xs r)]; exact r
   rcases hc with rfl | hc
   ·exact hbe
   ·rintro rfl
    rcases he with z | z
    ·exact nown c b hc z
    ·rw [hc] at z; cases z; exact hb rfl
end
structure Un (fs ex:List Addr) (H H':Hp) (h h':Heap):Prop where
 keep:∀ b o,h.get? b=some o→H b=none→b ∉ fs→b ∉ ex→h'.get? b=some o
 slot:∀ b o,h.get? b=some o→H b=none→b∈fs→b ∉ ex→∃ sl,h'.get? b=some { o with slots:=sl }
 free:∀ b o,h.get? b=some o→H b=none→b ∉ ex→H' b=none
 there:∀ b o,h.get? b=some o→b ∉ ex→∃ o',h'.get? b=some o'
 tups:∀ b xs,H b=some (.tup xs)→H' b=some (.tup xs)
 frzs:∀ b o u,H b=some (.frz o u)→H' b=some (.frz o u)
 tbls:∀ b ps,H b=some (.tbl ps)→∃ more,H' b=some (.tbl (ps++more))
section
variable {fs fs' ex ex':List Addr} {H H1 H2:Hp} {h h1 h2 h':Heap} {a x e:Addr} {o:HO}
theorem Un.any (u:Un fs ex H H1 h h1) {b:Addr} {ob:Obj} (q:h.get? b=some ob) (n:H b=none) (hx:b ∉ ex):∃ sl,h1.get? b=some { ob with slots:=sl }:=by
 by_cases hb:b∈fs
 ·exact u.slot b ob q n hb hx
 ·exact ⟨ob.slots,u.keep b ob q n hb hx⟩
theorem Un.kept (k:∀ b u,h.get? b=some u→h'.get? b=some u):Un fs ex H H h h' :=
 ⟨fun b ob q _ _ _=>k b ob q,fun b ob q _ _ _=>⟨ob.slots,k b ob q⟩,fun _ _ _ n _=>n,fun b ob q _=>⟨ob,k b ob q⟩,fun _ _ q=>q,fun _ _ _ q=>q,fun _ ps q=>⟨#[],by rw [q]; simp⟩⟩
theorem Un.refl:Un fs ex H H h h:=Un.kept fun _ _ q=>q
theorem Un.laid (k:∀ b u,h.get? b=some u→h'.get? b=some u) (hp:h.objs.size≤a) (hn:H a=none):Un fs ex H (upd H a o) h h' where
 keep:=fun b u q _ _ _=>k b u q
 slot:=fun b u q _ _ _=>⟨u.slots,k b u q⟩
 free:=fun b u q n _=>by rw [upd_ne (Nat.ne_of_lt (Nat.lt_of_lt_of_le (Heap.lt_size q) hp))]; exact n
 there:=fun b u q _=>⟨u,k b u q⟩
 tups:=fun b xs q=>by rw [upd_ne (ne_of_none q hn)]; exact q
 frzs:=fun b u xs q=>by rw [upd_ne (ne_of_none q hn)]; exact q
 tbls:=fun b ps q=>⟨#[],by rw [upd_ne (ne_of_none q hn),q]; simp⟩
theorem Un.write (mu:Mut (H x)) (he:e=x∨H e=some (.own x)) (k:∀ b u,b≠e→h.get? b=some u→h'.get? b=some u) (heo:∃ u,h'.get? e=some u):Un fs ex H (upd H x o) h h':=by
 have hx:∀ b,H b=none→b≠x:=fun b n z=>by subst z; rw [n] at mu; exact mu
 have hb:∀ b,H b=none→b≠e:=fun b n z=>by
  subst z
  rcases he with r | r
  ·exact hx b n r
  ·rw [n] at r; cases r
 have hm:∀ b u,H b=some u→¬ Mut (some u)→b≠x:=fun b u q nm z=>by subst z; rw [q] at mu; exact nm mu
 refine ⟨fun b u q n _ _=>k b u (hb b n) q,fun b u q n _ _=>⟨u.slots,k b u (hb b n) q⟩,fun b u q n _=>by rw [upd_ne (hx b n)]; exact n,fun b u q _=>?_,
  fun b xs q=>by rw [upd_ne (hm b _ q fun z=>z)]; exact q,fun b u xs q=>by rw [upd_ne (hm b _ q fun z=>z)]; exact q,fun b ps q=>⟨#[],by rw [upd_ne (hm b _ q fun z=>z),q]; simp⟩⟩
 by_cases hbe:b=e
 ·subst hbe; exact heo
 ·exact ⟨u,k b u hbe q⟩
end
def trk (h:Heap) (H:Hp):List Addr:=(List.range h.objs.size).filter fun a=>(H a).isSome
def hidT (h:Heap) (H:Hp):Heap:=PySem.W.hideAll h (trk h H)
theorem hidT_size (h:Heap) (H:Hp):(hidT h H).objs.size=h.objs.size:=PySem.W.hideAll_size _ _
theorem hidT_get {h:Heap} {H:Hp} {b:Addr} {o:Obj} (e:h.get? b=some o) (n:H b=none):(hidT h H).get? b=some o :=
 PySem.W.hideAll_get _ e fun hm=>by
  have q:(H b).isSome=true:=(List.mem_filter.mp hm).2
  rw [n] at q; simp at q
theorem of_hidT {h:Heap} {H:Hp} {b:Addr} {o:Obj} (e:(hidT h H).get? b=some o):h.get? b=some o∧H b=none:=by
 have e':h.get? b=some o:=PySem.W.of_hideAll (trk h H) e
 refine ⟨e',?_⟩
 cases q:H b with
 | none=>rfl
 | some x =>
  have hm:b∈trk h H:=List.mem_filter.mpr ⟨List.mem_range.mpr (Heap.lt_size e'),by simp [q]⟩
  have z:(hidT h H).get? b=none:=PySem.W.hideAll_none (trk h H) hm
  rw [z] at e; cases e
end L2
namespace L2
open PySem PySem.Spec PyProof.Rows
structure Mod (K:PySem.W.Frag) (mg:Str→Option Value) (base:Heap):Prop where
 kin:K.In base
 glob:base.Ns mainGlobals mg
 blt:∃ mb,base.Ns builtinsNs mb∧∀ x:Str,x≠"__name__"→mb x=bootBuiltins x
 nolimit:base.NoLimit
structure Cx where
 prog:Program
 w:World
 K:PySem.W.Frag
 mg:Str→Option Value
 base:Heap
 A:Around
 N:List Str
 s₀:Shared
 H₀:Hp
 env:Env
 outer:List Env
 stack:List Env
 ex:List Addr
 fn:Str→Bool
 calm:Bool
 pn:List (Addr×Obj)
 xe:Value→Shared→Prop
def frs (l:List Env):List Addr:=l.filterMap (·.frame)
abbrev Cx.fs (X:Cx):List Addr:=frs X.outer
def Vis (sc:Scope) (x:Str):Prop:=sc.names.lookup x=some .local∨sc.names.lookup x=some .cell∨sc.names.lookup x=some .free
def Loc (sc:Scope) (x:Str):Prop:=sc.names.lookup x=some .local∨sc.names.lookup x=some .cell
def Look (env:Env) (h:Heap) (m:Str→Option Value) (x:Str) (u:Value):Prop :=
 (env.kindOf x=some .local∧m x=some u)∨((env.kindOf x=some .cell∨env.kindOf x=some .free)∧∃ c,env.cells.lookup x=some c∧h.IsCell c (some u))
structure Cx.Ok (X:Cx):Prop where
 mod:Mod X.K X.mg X.base
 kind:X.env.scope.kind=.function
 glob:X.env.globals=mainGlobals
 blt:X.env.builtins=builtinsNs
 above:X.s₀.heap.objs.size≤X.env.locals
 inj:∀ x y c,X.env.cells.lookup x=some c→X.env.cells.lookup y=some c→x=y
 has:∀ x,(X.env.kindOf x=some .cell∨X.env.kindOf x=some .free)→∃ c,X.env.cells.lookup x=some c
 cab:∀ x c,X.fn x=true→X.env.cells.lookup x=some c→X.s₀.heap.objs.size≤c
 hd:X.calm=true→X.A.handled=none
 frames:X.A.frames=some X.stack
 stk:X.stack=X.outer∨(X.stack=X.env::X.outer∧X.env.frame=some X.env.locals)
 exf:∀ b∈X.ex,b≠X.env.locals∧∀ x c,X.env.cells.lookup x=some c→c≠b
 bs:∀ b o,X.base.get? b=some o→X.s₀.heap.get? b=some o∧X.H₀ b=none
 bsz:X.base.objs.size≤X.s₀.heap.objs.size
 noex:∀ b o,X.base.get? b=some o→b ∉ X.ex
 exfs:∀ b∈X.ex,b ∉ X.fs
 funs:X.s₀.heap.FunFrames X.base X.outer
 frf:∀ b∈X.fs,X.H₀ b=none
structure Inv (X:Cx) (pins:List (Addr×Obj)) (σ:List (Option V)) (H:Hp) (s:Shared):Prop where
 ok:X.Ok
 os:s.os=X.s₀.os
 bare:AllBare s.gens
 base:Un X.fs X.ex X.H₀ H X.s₀.heap s.heap
 loc:∃ m,s.heap.Ns X.env.locals m∧∀ (i:Nat) (x:Str) (v:V),X.N[i]?=some x→σ[i]?=some (some v)→Vis X.env.scope x→∃ u,RelV v u∧Look X.env s.heap m x u
 cell:∀ x c,X.env.cells.lookup x=some c→∃ v,s.heap.IsCell c v
 free:H X.env.locals=none
 freeC:∀ x c,X.env.cells.lookup x=some c→H c=none
 pin:∀ p∈X.pn++pins,s.heap.get? p.1=some p.2∧H p.1=none∧p.1≠X.env.locals∧p.1 ∉ X.fs∧∀ v,p.2.data≠.cell v
 hok:HOk X.prog X.w H s.heap
 len:σ.length=X.N.length
section
variable {X:Cx} {pins:List (Addr×Obj)} {σ:List (Option V)} {H H':Hp} {s:Shared} {h':Heap}
theorem Cx.Ok.nofr (ok:X.Ok) {b:Addr} {o:Obj} (e:X.base.get? b=some o):b ∉ X.fs:=fun hb=>by
 have:=(ok.funs.mem hb).1
 rw [e] at this; cases this
theorem Inv.bs (I:Inv X pins σ H s):∀ b o,X.base.get? b=some o→s.heap.get? b=some o∧H b=none:=fun b o e =>
 ⟨I.base.keep b o (I.ok.bs b o e).1 (I.ok.bs b o e).2 (I.ok.nofr e) (I.ok.noex b o e),I.base.free b o (I.ok.bs b o e).1 (I.ok.bs b o e).2 (I.ok.noex b o e)⟩
theorem Inv.bk (I:Inv X pins σ H s):∀ b o,X.base.get? b=some o→s.heap.get? b=some o:=fun b o e=>(I.bs b o e).1
theorem Inv.mod (I:Inv X pins σ H s):Mod X.K X.mg X.base:=I.ok.mod
theorem Inv.kIn (I:Inv X pins σ H s):X.K.In s.heap:=I.ok.mod.kin.keeps I.bk
theorem Inv.fr (I:Inv X pins σ H s):∃ m,Fr X.base X.env.locals s.heap m :=
 let ⟨m,hn,_⟩:=I.loc
 ⟨m,hn,I.bk,Nat.le_trans I.ok.bsz I.ok.above⟩
theorem Inv.lt (I:Inv X pins σ H s):X.env.locals < s.heap.objs.size:=let ⟨_,hn,_⟩:=I.loc; hn.lt
theorem Inv.sz (I:Inv X pins σ H s):X.s₀.heap.objs.size≤s.heap.objs.size:=Nat.le_trans I.ok.above (Nat.le_of_lt I.lt)
theorem Inv.nofs (I:Inv X pins σ H s) {a:Addr} (h:s.heap.objs.size≤a):a ∉ X.fs:=fun hb=>by
 obtain ⟨_,o,ho,_⟩:=I.ok.funs.mem hb
 exact absurd (Nat.lt_of_lt_of_le (Heap.lt_size ho) (Nat.le_trans I.sz h)) (Nat.lt_irrefl _)
theorem Inv.cne (I:Inv X pins σ H s):∀ x c,X.env.cells.lookup x=some c→c≠X.env.locals:=fun x c e z=>by
 obtain ⟨v,o,ho,hd⟩:=I.cell x c e
 obtain ⟨m,⟨o',es,ep,ho',hd',_⟩,_⟩:=I.loc
 rw [z,ho'] at ho; cases ho; rw [hd'] at hd; cases hd
theorem Inv.funs (I:Inv X pins σ H s):s.heap.FunFrames X.base X.outer:=by
 have all:∀ (l:List Env),(∀ b∈frs l,b∈X.fs)→X.s₀.heap.FunFrames X.base l→s.heap.FunFrames X.base l:=by
  intro l
  induction l with
  | nil=>intro _ _; trivial
  | cons env r ih =>
   intro hs hl
   obtain ⟨hk,⟨L,o,hf,hn,ho,hd⟩,hr⟩:=hl
   have hL:L∈X.fs:=hs L (by unfold frs; rw [List.filterMap_cons,hf]; exact List.mem_cons_self)
   obtain ⟨sl,e⟩:=I.base.slot L o ho (I.ok.frf L hL) hL fun z=>I.ok.exfs L z hL
   exact ⟨hk,⟨L,_,hf,hn,e,hd⟩,ih (fun b hb=>hs b (by unfold frs; rw [List.filterMap_cons,hf]; exact List.mem_cons_of_mem _ hb)) hr⟩
 exact all X.outer (fun _ hb=>hb) I.ok.funs
theorem Inv.stack (I:Inv X pins σ H s):s.heap.FunFrames X.base X.stack:=by
 rcases I.ok.stk with e | ⟨e,hf⟩
 ·rw [e]; exact I.funs
 ·rw [e]
  obtain ⟨m,hn,_⟩:=I.loc
  refine .cons (by rw [I.ok.kind]; decide) hf hn ?_ I.funs
  exact Heap.get?_none_of_le (Nat.le_trans I.ok.bsz I.ok.above)
theorem Inv.stkSub (I:Inv X pins σ H s):∀ b∈frs X.stack,b∈X.env.locals::X.fs:=fun b hb=>by
 rcases I.ok.stk with e | ⟨e,hf⟩
 ·rw [e] at hb; exact List.mem_cons_of_mem _ hb
 ·rw [e] at hb
  unfold frs at hb
  rw [List.filterMap_cons,hf] at hb
  exact hb
theorem Inv.stkFree (I:Inv X pins σ H s):∀ b∈frs X.stack,H b=none:=fun b hb=>by
 rcases List.mem_cons.mp (I.stkSub b hb) with e | hb
 ·rw [e]; exact I.free
 ·obtain ⟨_,o,ho,_⟩:=I.ok.funs.mem hb
  exact I.base.free b o ho (I.ok.frf b hb) fun z=>I.ok.exfs b z hb
theorem Inv.step {g':Array GenState} {t':Nat} {d':Drawn} {ch:List Addr} (I:Inv X pins σ H s)
  (hch:∀ b∈ch,(b∈X.ex∨X.s₀.heap.objs.size≤b)∧b≠X.env.locals∧(∀ x c,X.env.cells.lookup x=some c→c≠b)∧∀ p∈X.pn++pins,p.1≠b)
  (keep:∀ b o,b≠X.env.locals→b ∉ X.fs→b ∉ ch→s.heap.get? b=some o→H b=none→h'.get? b=some o)
  (slot:∀ b o,b≠X.env.locals→b∈X.fs→b ∉ ch→s.heap.get? b=some o→H b=none→∃ sl,h'.get? b=some { o with slots:=sl }) (free:∀ b o,b ∉ ch→s.heap.get? b=some o→H b=none→H' b=none)
  (there:∀ b o,b ∉ ch→s.heap.get? b=some o→∃ o',h'.get? b=some o')
  (tups:∀ b xs,H b=some (.tup xs)→H' b=some (.tup xs)) (frzs:∀ b o u,H b=some (.frz o u)→H' b=some (.frz o u)) (tbls:∀ b ps,H b=some (.tbl ps)→∃ more,H' b=some (.tbl (ps++more)))
  (ns:∀ m,s.heap.Ns X.env.locals m→h'.Ns X.env.locals m) (hok:HOk X.prog X.w H' h') (hg:AllBare g') :
  Inv X pins σ H' { s with heap:=h',gens:=g',drawn:=d',toks:=t' }:=by
 have neL:∀ b o,X.s₀.heap.get? b=some o→b≠X.env.locals:=fun b o e=>Nat.ne_of_lt (Nat.lt_of_lt_of_le (Heap.lt_size e) I.ok.above)
 have neC:∀ b o,X.s₀.heap.get? b=some o→b ∉ X.ex→b ∉ ch:=fun b o e hx hb=>by
  rcases (hch b hb).1 with z | z
  ·exact hx z
  ·exact absurd (Nat.lt_of_lt_of_le (Heap.lt_size e) z) (Nat.lt_irrefl _)
 have cellK:∀ x c,X.env.cells.lookup x=some c→∀ v,s.heap.IsCell c v→h'.IsCell c v:=fun x c e v ⟨o,ho,hd⟩=>by
  have nch:c ∉ ch:=fun z=>(hch c z).2.2.1 x c e rfl
  by_cases hc:c∈X.fs
  ·obtain ⟨sl,q⟩:=slot c o (I.cne x c e) hc nch ho (I.freeC x c e)
   exact ⟨_,q,hd⟩
  ·exact ⟨o,keep c o (I.cne x c e) hc nch ho (I.freeC x c e),hd⟩
 refine ⟨I.ok,I.os,hg,⟨fun b o e n hb hx=>?_,fun b o e n hb hx=>?_,fun b o e n hx=>?_,fun b o e hx=>?_,fun b xs e=>tups b xs (I.base.tups b xs e),fun b o xs e=>frzs b o xs (I.base.frzs b o xs e),fun b ps e=>?_⟩,?_,fun x c e=>?_,?_,fun x c e=>?_,fun p hp=>?_,hok,I.len⟩
 ·exact keep b o (neL b o e) hb (neC b o e hx) (I.base.keep b o e n hb hx) (I.base.free b o e n hx)
 ·obtain ⟨sl,e1⟩:=I.base.slot b o e n hb hx
  obtain ⟨sl',e2⟩:=slot b _ (neL b o e) hb (neC b o e hx) e1 (I.base.free b o e n hx)
  exact ⟨sl',e2⟩
 ·obtain ⟨o',e1⟩:=I.base.there b o e hx
  exact free b o' (neC b o e hx) e1 (I.base.free b o e n hx)
 ·obtain ⟨o',e1⟩:=I.base.there b o e hx
  exact there b o' (neC b o e hx) e1
 ·obtain ⟨m1,e1⟩:=I.base.tbls b ps e
  obtain ⟨m2,e2⟩:=tbls b _ e1
  exact ⟨m1++m2,by rw [e2,Array.append_assoc]⟩
 ·obtain ⟨m,hn,hl⟩:=I.loc
  refine ⟨m,ns m hn,fun i x v e1 e2 e3=>?_⟩
  obtain ⟨u,r,l⟩:=hl i x v e1 e2 e3
  refine ⟨u,r,?_⟩
  rcases l with l | ⟨k,c,e,z⟩
  ·exact .inl l
  ·exact .inr ⟨k,c,e,cellK x c e _ z⟩
 ·obtain ⟨v,z⟩:=I.cell x c e
  exact ⟨v,cellK x c e v z⟩
 ·obtain ⟨m,⟨o,_,_,ho,_⟩,_⟩:=I.loc
  exact free _ o (fun z=>(hch _ z).2.1 rfl) ho I.free
 ·obtain ⟨v,o,ho,hd⟩:=I.cell x c e
  exact free c o (fun z=>(hch c z).2.2.1 x c e rfl) ho (I.freeC x c e)
 ·obtain ⟨e,n,ne,nf,d⟩:=I.pin p hp
  have nch:p.1 ∉ ch:=fun z=>(hch p.1 z).2.2.2 p hp rfl
  exact ⟨keep p.1 p.2 ne nf nch e n,free p.1 p.2 nch e n,ne,nf,d⟩
theorem Inv.un {t':Nat} (I:Inv X pins σ H s) (u:Un X.fs [] H H' s.heap h') (hok:HOk X.prog X.w H' h'):Inv X pins σ H' { s with heap:=h',toks:=t' }:=by
 obtain ⟨m,⟨o,es,ep,ho,r⟩,_⟩:=id I.loc
 obtain ⟨sl,hL⟩:=u.any ho I.free (by simp)
 exact I.step (g':=s.gens) (d':=s.drawn) (ch:=[]) (fun _ z=>nomatch z) (fun b o _ hb _ e n=>u.keep b o e n hb (by simp)) (fun b o _ hb _ e n=>u.slot b o e n hb (by simp)) (fun b o _ e n=>u.free b o e n (by simp)) (fun b o _ e=>u.there b o e (by simp)) u.tups u.frzs u.tbls (fun m' hm=>by
  obtain ⟨o',es',ep',ho',r'⟩:=hm
  rw [ho] at ho'; cases ho'
  exact ⟨_,es',ep',hL,r'⟩) hok I.bare
theorem Inv.call {g':Array GenState} {t':Nat} {d':Drawn} {ch:List Addr} (I:Inv X pins σ H s) (u:Un (frs X.stack) ch H H' s.heap h') (hok:HOk X.prog X.w H' h') (hg:AllBare g')
  (hch:∀ b∈ch,(b∈X.ex∨X.s₀.heap.objs.size≤b)∧b≠X.env.locals∧(∀ x c,X.env.cells.lookup x=some c→c≠b)∧∀ p∈X.pn++pins,p.1≠b) :
  Inv X pins σ H' { s with heap:=h',gens:=g',drawn:=d',toks:=t' }:=by
 obtain ⟨m,⟨o,es,ep,ho,r⟩,_⟩:=id I.loc
 obtain ⟨sl,hL⟩:=u.any ho I.free fun z=>(hch _ z).2.1 rfl
 exact I.step (ch:=ch) hch (fun b o hL hb hc e n=>u.keep b o e n (fun z=>(List.mem_cons.mp (I.stkSub b z)).elim hL hb) hc) (fun b o _ _ hc e n=>u.any e n hc) (fun b o hc e n=>u.free b o e n hc) (fun b o hc e=>u.there b o e hc) u.tups u.frzs u.tbls (fun m' hm=>by
  obtain ⟨o',es',ep',ho',r'⟩:=hm
  rw [ho] at ho'; cases ho'
  exact ⟨_,es',ep',hL,r'⟩) hok hg
theorem Inv.turned {t':Nat} {it:Addr} (I:Inv X pins σ H s) (k:∀ b o,b≠it→s.heap.get? b=some o→h'.get? b=some o) (hn:H it=none) (hL:it≠X.env.locals)
  (h1:it∈X.ex∨X.s₀.heap.objs.size≤it) (h2:∀ x c,X.env.cells.lookup x=some c→c≠it) (h3:∀ p∈X.pn++pins,p.1≠it):Inv X pins σ H { s with heap:=h',toks:=t' }:=by
 have nit:∀ b u,H b=some u→b≠it:=fun b u e z=>by rw [z,hn] at e; cases e
 refine I.step (g':=s.gens) (d':=s.drawn) (ch:=[it]) (fun b hb=>?_) (fun b o _ _ hc e _=>k b o (fun z=>hc (by simp [z])) e) (fun b o _ _ hc e _=>⟨o.slots,k b o (fun z=>hc (by simp [z])) e⟩) (fun _ _ _ _ n=>n)
  (fun b o hc e=>⟨o,k b o (fun z=>hc (by simp [z])) e⟩) (fun _ _ e=>e) (fun _ _ _ e=>e) (fun b ps e=>⟨#[],by rw [e]; simp⟩) (fun m hm=>?_) (fun b u e=>?_) I.bare
 ·have e:b=it:=by simpa using hb
  subst e
  exact ⟨h1,hL,h2,h3⟩
 ·obtain ⟨o,es,ep,ho,r⟩:=hm
  exact ⟨o,es,ep,k _ o (Ne.symm hL) ho,r⟩
 ·refine (I.hok b u e).stay (fun c v hc q=>k c v ?_ q) (fun _ q=>q) fun _ _ q=>q
  rcases hc with z | z
  ·rw [z]; exact nit b u e
  ·exact nit c _ z
theorem Inv.tok (I:Inv X pins σ H s) (t:Nat):Inv X pins σ H { s with toks:=t }:=I.un (h':=s.heap) (t':=t) Un.refl I.hok
theorem Inv.kept {t':Nat} (I:Inv X pins σ H s) (k:∀ b u,s.heap.get? b=some u→h'.get? b=some u):Inv X pins σ H { s with heap:=h',toks:=t' }:=I.un (Un.kept k) (I.hok.kept k)
theorem Inv.laid {a:Addr} {o:HO} {t':Nat} (I:Inv X pins σ H s) (k:∀ b u,s.heap.get? b=some u→h'.get? b=some u) (hp:s.heap.objs.size≤a) (new:ObjOk X.prog X.w (upd H a o) h' a o) :
  Inv X pins σ (upd H a o) { s with heap:=h',toks:=t' }:=I.un (Un.laid k hp (I.hok.fresh hp)) (I.hok.laid k hp new)
theorem Inv.write {x e:Addr} {o:HO} {t':Nat} (I:Inv X pins σ H s) (mu:Mut (H x)) (he:e=x∨H e=some (.own x)) (k:∀ b u,b≠e→s.heap.get? b=some u→h'.get? b=some u) (heo:∃ u,h'.get? e=some u)
  (new:ObjOk X.prog X.w (upd H x o) h' x o):Inv X pins σ (upd H x o) { s with heap:=h',toks:=t' }:=I.un (Un.write mu he k heo) (I.hok.write mu he k heo new)
theorem Inv.weak {σ':List (Option V)} (I:Inv X pins σ H s) (hl:σ'.length=σ.length) (w:∀ (i:Nat) v,σ'[i]?=some (some v)→σ[i]?=some (some v)):Inv X pins σ' H s :=
 ⟨I.ok,I.os,I.bare,I.base,let ⟨m,hn,hl'⟩:=I.loc; ⟨m,hn,fun i x v e1 e2 e3=>hl' i x v e1 (w i v e2) e3⟩,I.cell,I.free,I.freeC,I.pin,I.hok,hl.trans I.len⟩
theorem Inv.pins_of {pins':List (Addr×Obj)} (I:Inv X pins σ H s) (h:∀ p∈pins',s.heap.get? p.1=some p.2∧H p.1=none∧p.1≠X.env.locals∧p.1 ∉ X.fs∧∀ v,p.2.data≠.cell v):Inv X pins' σ H s :=
 ⟨I.ok,I.os,I.bare,I.base,I.loc,I.cell,I.free,I.freeC,fun p hp=>(List.mem_append.mp hp).elim (fun z=>I.pin p (List.mem_append_left _ z)) (h p),I.hok,I.len⟩
theorem nodup_ix {N:List Str} (hN:N.Nodup) {i j:Nat} {x:Str} (a:N[i]?=some x) (b:N[j]?=some x):i=j:=by
 obtain ⟨h1,e1⟩:=List.getElem?_eq_some_iff.mp a
 obtain ⟨h2,e2⟩:=List.getElem?_eq_some_iff.mp b
 exact (List.getElem_inj hN).mp (e1.trans e2.symm)
theorem store_ok2 {M:Model} {A:Around} {E:Value→Shared→Prop} {i:Nat} {x:Str} {v:V} {u:Value} {Q:Unit→Shared→Prop} (I:Inv X pins σ H s) (hN:X.N.Nodup) (hi:X.N[i]?=some x) (hx:Loc X.env.scope x) (r:RelV v u)
  (h:∀ s',Inv X pins (σ.set i (some v)) H s'→(∃ a,Heap.SameBut a s.heap s'.heap∧(a=X.env.locals∨X.env.cells.lookup x=some a))→Q () s') (hf:X.fn x=true∨X.env.scope.names.lookup x=some .local:=by first | exact .inl rfl | exact .inr rfl | assumption):wpAny M A (storeName X.env x u) Q E s:=by
 obtain ⟨m,hn,hl⟩:=id I.loc
 have hcls:(X.env.scope.kind == .class || (X.env.scope.kind == .module && X.env.locals != X.env.globals))=false:=by rw [I.ok.kind]; rfl
 have hiσ:i < σ.length:=by rw [I.len]; exact (List.getElem?_eq_some_iff.mp hi).1
 have cne:=I.cne
 have tracked:∀ {a:Addr} {h':Heap},(∃ o,s.heap.get? a=some o∧H a=none)→Heap.SameBut a s.heap h'→HOk X.prog X.w H h':=fun {a h'} ha hs b ob e=>by
  obtain ⟨_,_,hfree⟩:=ha
  refine (I.hok b ob e).stay (fun c w' hc q=>(hs.2 c ?_).trans q) (fun _ q=>q) fun _ _ q=>q
  rintro rfl
  rcases hc with rfl | hc
  ·rw [hfree] at e; cases e
  ·rw [hfree] at hc; cases hc
 rcases hx with hk | hk
 ·refine wpAny_storeName_local hk hn (fun h' hn' hs=>?_) hcls
  obtain ⟨oL,_,_,hoL,_⟩:=id hn
  refine h _ ⟨I.ok,I.os,I.bare,⟨fun b o e n hb hx=>?_,fun b o e n hb hx=>?_,I.base.free,fun b o e hx=>?_,I.base.tups,I.base.frzs,I.base.tbls⟩,⟨_,hn',fun j y v' e1 e2 e3=>?_⟩,fun y c e=>?_,I.free,I.freeC,fun p hp=>?_,tracked ⟨oL,hoL,I.free⟩ hs,by simpa using I.len⟩ ⟨_,hs,.inl rfl⟩
  ·exact (hs.2 b (Nat.ne_of_lt (Nat.lt_of_lt_of_le (Heap.lt_size e) I.ok.above))).trans (I.base.keep b o e n hb hx)
  ·obtain ⟨sl,e1⟩:=I.base.slot b o e n hb hx
   exact ⟨sl,(hs.2 b (Nat.ne_of_lt (Nat.lt_of_lt_of_le (Heap.lt_size e) I.ok.above))).trans e1⟩
  ·obtain ⟨o',e1⟩:=I.base.there b o e hx
   exact ⟨o',(hs.2 b (Nat.ne_of_lt (Nat.lt_of_lt_of_le (Heap.lt_size e) I.ok.above))).trans e1⟩
  ·by_cases hj:j=i
   ·subst hj
    rw [hi] at e1; cases e1
    rw [List.getElem?_set_self hiσ] at e2
    cases e2
    exact ⟨u,r,.inl ⟨hk,by simp⟩⟩
   ·rw [List.getElem?_set_ne (Ne.symm hj)] at e2
    obtain ⟨u',r',q⟩:=hl j y v' e1 e2 e3
    refine ⟨u',r',?_⟩
    rcases q with ⟨k,e⟩ | ⟨k,c,e,z⟩
    ·refine .inl ⟨k,?_⟩
     have:y≠x:=fun e=>hj (nodup_ix hN e1 (e ▸ hi))
     simp [this,e]
    ·exact .inr ⟨k,c,e,z.sameBut hs (cne y c e)⟩
  ·obtain ⟨w',z⟩:=I.cell y c e
   exact ⟨w',z.sameBut hs (cne y c e)⟩
  ·obtain ⟨e,n,ne,nf,d⟩:=I.pin p hp
   exact ⟨(hs.2 p.1 ne).trans e,n,ne,nf,d⟩
 ·have hfn:X.fn x=true:=by
   rcases hf with z | z
   ·exact z
   ·rw [z] at hk; cases hk
  obtain ⟨c,hc⟩:=I.ok.has x (.inl hk)
  obtain ⟨w',z⟩:=I.cell x c hc
  refine wpAny_storeName_cell I.ok.kind hk hc z (fun h' hc' hs=>?_)
  obtain ⟨oc,hoc,hocd⟩:=id z
  refine h { s with heap:=h' } ⟨I.ok,I.os,I.bare,⟨fun b o e n hb hx=>?_,fun b o e n hb hx=>?_,I.base.free,fun b o e hx=>?_,I.base.tups,I.base.frzs,I.base.tbls⟩,⟨m,hn.sameBut hs (Ne.symm (cne x c hc)),fun j y v' e1 e2 e3=>?_⟩,fun y c' e=>?_,I.free,I.freeC,fun p hp=>?_,tracked ⟨oc,hoc,I.freeC x c hc⟩ hs,by simpa using I.len⟩ ⟨c,hs,.inr hc⟩
  ·exact (hs.2 b (Nat.ne_of_lt (Nat.lt_of_lt_of_le (Heap.lt_size e) (I.ok.cab x c hfn hc)))).trans (I.base.keep b o e n hb hx)
  ·obtain ⟨sl,e1⟩:=I.base.slot b o e n hb hx
   exact ⟨sl,(hs.2 b (Nat.ne_of_lt (Nat.lt_of_lt_of_le (Heap.lt_size e) (I.ok.cab x c hfn hc)))).trans e1⟩
  ·obtain ⟨o',e1⟩:=I.base.there b o e hx
   exact ⟨o',(hs.2 b (Nat.ne_of_lt (Nat.lt_of_lt_of_le (Heap.lt_size e) (I.ok.cab x c hfn hc)))).trans e1⟩
  ·by_cases hj:j=i
   ·subst hj
    rw [hi] at e1; cases e1
    rw [List.getElem?_set_self hiσ] at e2
    cases e2
    exact ⟨u,r,.inr ⟨.inl hk,c,hc,hc'⟩⟩
   ·rw [List.getElem?_set_ne (Ne.symm hj)] at e2
    obtain ⟨u',r',q⟩:=hl j y v' e1 e2 e3
    refine ⟨u',r',?_⟩
    rcases q with q | ⟨k,c',e,z'⟩
    ·exact .inl q
    ·refine .inr ⟨k,c',e,z'.sameBut hs ?_⟩
     rintro rfl
     exact hj (nodup_ix hN e1 (I.ok.inj _ _ _ e hc ▸ hi))
  ·by_cases hcc:c'=c
   ·subst hcc; exact ⟨_,hc'⟩
   ·obtain ⟨w2,z2⟩:=I.cell y c' e
    exact ⟨w2,z2.sameBut hs hcc⟩
  ·obtain ⟨e,n,ne,nf,d⟩:=I.pin p hp
   refine ⟨(hs.2 p.1 ?_).trans e,n,ne,nf,d⟩
   intro q
   rw [q,hoc] at e
   have q':oc=p.2:=Option.some.inj e
   exact d w' (by rw [← q']; exact hocd)
theorem store_ok {M:Model} {A:Around} {E:Value→Shared→Prop} {i:Nat} {x:Str} {v:V} {u:Value} {Q:Unit→Shared→Prop} (I:Inv X pins σ H s) (hN:X.N.Nodup) (hi:X.N[i]?=some x) (hx:Loc X.env.scope x) (r:RelV v u)
  (h:∀ s',Inv X pins (σ.set i (some v)) H s'→Q () s') (hf:X.fn x=true∨X.env.scope.names.lookup x=some .local:=by first | exact .inl rfl | exact .inr rfl | assumption):wpAny M A (storeName X.env x u) Q E s :=
 store_ok2 I hN hi hx r (fun s' I' _=>h s' I') hf
theorem Inv.call' {s':Shared} {ch:List Addr} (I:Inv X pins σ H s) (ho:s'.os=s.os) (u:Un (frs X.stack) ch H H' s.heap s'.heap) (hok:HOk X.prog X.w H' s'.heap) (hg:AllBare s'.gens)
  (hch:∀ b∈ch,(b∈X.ex∨X.s₀.heap.objs.size≤b)∧b≠X.env.locals∧(∀ x c,X.env.cells.lookup x=some c→c≠b)∧∀ p∈X.pn++pins,p.1≠b):Inv X pins σ H' s':=by
 obtain ⟨h',g',d',t',o'⟩:=s'
 have e:o'=s.os:=ho
 subst e
 exact I.call (g':=g') (t':=t') (d':=d') u hok hg hch
end
abbrev XK:=Value→Option Addr→Hp→Prop
abbrev St:=List (Option V)
abbrev VK:=V→Hp→Prop
abbrev TE:=St→Hp→VK→Prop
abbrev TT:=St→Hp→(Bool→Hp→Prop)→Prop
abbrev TA:=St→Hp→(List V→Hp→Prop)→Prop
structure Ends where
 nx:St→Hp→Prop
 rt:VK
 bk:St→Hp→Prop:=fun _ _=>False
 ct:St→Hp→Prop:=fun _ _=>False
abbrev TS:=Ends→St→Hp→Prop
def EP (X:Cx) (pins:List (Addr×Obj)) (σ:St) (Q:VK) (u:Value) (s':Shared):Prop:=∃ v H',Inv X pins σ H' s'∧RelV v u∧Q v H'
def TP (X:Cx) (pins:List (Addr×Obj)) (σ:St) (Q:Bool→Hp→Prop) (b:Bool) (s':Shared):Prop:=∃ H',Inv X pins σ H' s'∧Q b H'
def AP (X:Cx) (pins:List (Addr×Obj)) (σ:St) (Q:List V→Hp→Prop) (us:List Value) (s':Shared):Prop:=∃ vs H',Inv X pins σ H' s'∧Vals vs us∧Q vs H'
def SP (X:Cx) (pins:List (Addr×Obj)) (D:Ends) (f:Flow) (s':Shared):Prop :=
 match f with
 | .next=>∃ σ' H',Inv X pins σ' H' s'∧D.nx σ' H'
 | .brk=>∃ σ' H',Inv X pins σ' H' s'∧D.bk σ' H'
 | .cont=>∃ σ' H',Inv X pins σ' H' s'∧D.ct σ' H'
 | .ret u=>∃ v σ' H',Inv X pins σ' H' s'∧RelV v u∧D.rt v H'
def PE (X:Cx) (e:Expr) (t:TE):Prop :=
 ∀ (pins:List (Addr×Obj)) (s:Shared) (σ:St) (H:Hp) (Q:VK),Inv X pins σ H s→t σ H Q→wpAny (model X.prog X.w) X.A (eval e X.env) (EP X pins σ Q) X.xe s
def PT (X:Cx) (e:Expr) (t:TT):Prop :=
 ∀ (pins:List (Addr×Obj)) (s:Shared) (σ:St) (H:Hp) (Q:Bool→Hp→Prop),Inv X pins σ H s→t σ H Q→wpAny (model X.prog X.w) X.A (isTrue e X.env (eval e X.env)) (TP X pins σ Q) X.xe s
def PW (X:Cx) (e:Expr) (t:TT):Prop :=
 ∀ (whole:Sem Value) (pins:List (Addr×Obj)) (s:Shared) (σ:St) (H:Hp) (Q:Bool→Hp→Prop),Inv X pins σ H s→t σ H Q→wpAny (model X.prog X.w) X.A (isTrue e X.env whole) (TP X pins σ Q) X.xe s
theorem PW.pt {X:Cx} {e:Expr} {t:TT} (h:PW X e t):PT X e t:=h _
def PA (X:Cx) (es:List Expr) (t:TA):Prop :=
 ∀ (pos:Pos) (pins:List (Addr×Obj)) (s:Shared) (σ:St) (H:Hp) (Q:List V→Hp→Prop),Inv X pins σ H s→t σ H Q→wpAny (model X.prog X.w) X.A (spliced (backTo pos (starEach es X.env))) (AP X pins σ Q) X.xe s
def PS (X:Cx) (st:Stmt) (t:TS):Prop :=
 ∀ (pins:List (Addr×Obj)) (s:Shared) (σ:St) (H:Hp) (D:Ends),Inv X pins σ H s→t D σ H→wpAny (model X.prog X.w) X.A (exec st X.env) (SP X pins D) X.xe s
def PSs (X:Cx) (st:List Stmt) (t:TS):Prop :=
 ∀ (pins:List (Addr×Obj)) (s:Shared) (σ:St) (H:Hp) (D:Ends),Inv X pins σ H s→t D σ H→wpAny (model X.prog X.w) X.A (execs st X.env) (SP X pins D) X.xe s
theorem thn {α:Type} {t:Sem α} {Q Q':α→Shared→Prop} {M:Model} {A:Around} {E:Value→Shared→Prop} {s:Shared} (h:wpAny M A t Q E s) (hQ:∀ a s,Q a s→Q' a s):wpAny M A t Q' E s:=wpAny_mono h hQ fun _ _ x=>x
end L2
namespace L2
open PySem PySem.Spec PyProof.Rows
section
variable {X:Cx}
def tVar (i:Nat):TE:=fun σ H Q=>∃ v,σ[i]?=some (some v)∧Q v H
def tC (v:V):TE:=fun _ H Q=>Q v H
theorem pe_var {i:Nat} {x:Str} {pos:Pos} (hN:X.N[i]?=some x) (hv:Vis X.env.scope x) (hd:(x == ("__debug__":Str))=false:=by decide) (hcd:(x == ("__classdict__":Str))=false:=by decide):PE X (.Name x pos) (tVar i):=by
 intro pins s σ H Q I h
 obtain ⟨v,e,h⟩:=h
 obtain ⟨m,hn,hl⟩:=I.loc
 obtain ⟨u,r,l⟩:=hl i x v hN e hv
 have fin:EP X pins σ Q u s:=⟨v,H,I,r,h⟩
 rcases l with ⟨hk,hm⟩ | ⟨hk,c,hc,hcell⟩
 ·exact wpAny_Name (wpAny_loadName_local I.ok.kind hk hn hm fin) hd
 ·rcases hk with hk | hk
  ·exact wpAny_Name (wpAny_loadName_cell I.ok.kind hk hc hcell fin) hd
  ·exact wpAny_Name (wpAny_loadName_free I.ok.kind hk hc hcell fin hcd) hd
theorem pe_int {i j pos}:PE X (.Constant (.int i) j pos) (tC (.int i)):=fun _ _ _ H _ I h=>wpAny_Constant_int ⟨.int i,H,I.tok _,⟨_,rfl⟩,h⟩
theorem pe_bl {b j pos}:PE X (.Constant (.bool b) j pos) (tC (.bl b)):=fun _ _ _ H _ I h=>Constant_bool ⟨.bl b,H,I,rfl,h⟩
theorem pe_non {j pos}:PE X (.Constant .none j pos) (tC .non):=fun _ _ _ H _ I h=>Constant_none ⟨.non,H,I,rfl,h⟩
theorem pe_str {x j pos}:PE X (.Constant (.str x) j pos) (tC (.str x)):=fun _ _ _ H _ I h=>Calls.Constant_str ⟨.str x,H,I.tok _,⟨_,rfl⟩,h⟩
def Gl (X:Cx) (x:Str):Prop:=X.env.kindOf x=some .globalImplicit
theorem ld_glob {E:Value→Shared→Prop} {pins:List (Addr×Obj)} {s:Shared} {σ:St} {H:Hp} {x:Str} {u:Value} {pos:Pos} {Q:Value→Shared→Prop} (I:Inv X pins σ H s) (hg:Gl X x) (hm:X.mg x=some u) (h:Q u s)
  (hd:(x == ("__debug__":Str))=false:=by decide):wpAny (model X.prog X.w) X.A (eval (.Name x pos) X.env) Q E s :=
 Calls.Name_function_global I.ok.kind hg (Calls.loadGlobal_global (by rw [I.ok.glob]; exact I.mod.glob.keeps I.bk) hm h) hd
theorem ld_blt {E:Value→Shared→Prop} {pins:List (Addr×Obj)} {s:Shared} {σ:St} {H:Hp} {x:Str} {u:Value} {pos:Pos} {Q:Value→Shared→Prop} (I:Inv X pins σ H s) (hg:Gl X x) (hm:X.mg x=none) (hv:bootBuiltins x=some u) (h:Q u s)
  (hn:x≠"__name__":=by decide) (hd:(x == ("__debug__":Str))=false:=by decide):wpAny (model X.prog X.w) X.A (eval (.Name x pos) X.env) Q E s:=by
 obtain ⟨mb,h1,h2⟩:=I.mod.blt
 exact Calls.Name_function_global I.ok.kind hg (Calls.loadGlobal_builtin (by rw [I.ok.glob]; exact I.mod.glob.keeps I.bk) hm (by rw [I.ok.blt]; exact h1.keeps I.bk) ((h2 x hn).trans hv) h) hd
theorem pe_glob {x:Str} {v:V} {u:Value} {pos:Pos} (hg:Gl X x) (hm:X.mg x=some u) (r:RelV v u) (hd:(x == ("__debug__":Str))=false:=by decide):PE X (.Name x pos) (tC v) :=
 fun _ _ _ H _ I h=>ld_glob I hg hm ⟨v,H,I,r,h⟩ hd
theorem pe_bltn {x:Str} {v:V} {u:Value} {pos:Pos} (hg:Gl X x) (hm:X.mg x=none) (hv:bootBuiltins x=some u) (r:RelV v u) (hn:x≠"__name__":=by decide) (hd:(x == ("__debug__":Str))=false:=by decide):PE X (.Name x pos) (tC v) :=
 fun _ _ _ H _ I h=>ld_blt I hg hm hv ⟨v,H,I,r,h⟩ hn hd
variable {a b:Expr} {ta tb:TE} {pos:Pos}
def PC (X:Cx) (op:CmpOp) (a b:Expr) (t:TE):Prop :=
 ∀ (pins:List (Addr×Obj)) (s:Shared) (σ:St) (H:Hp) (Q:VK),Inv X pins σ H s→t σ H Q →
  wpAny (model X.prog X.w) X.A (eval a X.env) (fun v s₁=>wpAny (model X.prog X.w) X.A (eval b X.env) (fun u s₂=>wpAny (model X.prog X.w) X.A (compareOp op v u) (EP X pins σ Q) X.xe s₂) X.xe s₁) X.xe s
def tB (t:TE):TT:=fun σ H Q=>t σ H fun x H1=>∃ c,x=.bl c∧Q c H1
theorem pe_cmp {op:CmpOp} {t:TE} (h:PC X op a b t) (h1:behindInMarks op b=false:=by first | exact nobehind _ (by decide) (by decide) | rfl):PE X (.Compare a [op] [b] pos) t:=fun pins s σ H Q I hw=>wpAny_Compare1 (h pins s σ H Q I hw) h1
theorem pt_cmp {op:CmpOp} {t:TE} (h:PC X op a b t) (h1:behindInMarks op b=false:=by first | exact nobehind _ (by decide) (by decide) | rfl):PT X (.Compare a [op] [b] pos) (tB t):=by
 intro pins s σ H Q I hw
 refine wpAny_isTrue_Compare1 (thn (h pins s σ H _ I hw) fun v s1 h1=>thn h1 fun u s2 h2=>thn h2 fun c s3 ⟨x,H1,I1,r1,q1⟩=>?_) h1
 obtain ⟨d,rfl,q⟩:=q1
 cases r1
 exact wpAny_truthy_bool ⟨H1,I1,q⟩
theorem pt_val {e:Expr} {t:TE} (h:PE X e t) (he:∀ whole,isTrue e X.env whole=(do let v ← whole; standAt e.pos; holding [v] (truthy v)):=by intro _; rfl):PT X e (tB t):=by
 intro pins s σ H Q I hw
 refine isTrue_plain (thn (h pins s σ H _ I hw) fun v s1 ⟨x,H1,I1,r1,q1⟩=>?_) (he _)
 obtain ⟨d,rfl,q⟩:=q1
 cases r1
 exact wpAny_truthy_bool ⟨H1,I1,q⟩
variable {tA tB':TT} {rest:List Expr}
def tAnd (t u:TT):TT:=fun σ H Q=>t σ H fun c H1=>if c=true then u σ H1 Q else Q false H1
def tOr (t u:TT):TT:=fun σ H Q=>t σ H fun c H1=>if c=true then Q true H1 else u σ H1 Q
def tNot (t:TT):TT:=fun σ H Q=>t σ H fun c H1=>Q (!c) H1
theorem pw_and1 (ha:PT X a tA):PW X (.BoolOp .And [a] pos) tA:=by
 intro wh pins s σ H Q I h
 refine isTrue_and (thn (ha pins s σ H Q I h) fun c s1 e=>?_)
 cases c with
 | true=>exact isTrue_and_nil e
 | false=>exact e
theorem pw_or1 (ha:PT X a tA):PW X (.BoolOp .Or [a] pos) tA:=by
 intro wh pins s σ H Q I h
 refine isTrue_or (thn (ha pins s σ H Q I h) fun c s1 e=>?_)
 cases c with
 | false=>exact isTrue_or_nil e
 | true=>exact e
theorem pw_and (ha:PT X a tA) (hb:PW X (.BoolOp .And (b::rest) pos) tB'):PW X (.BoolOp .And (a::b::rest) pos) (tAnd tA tB'):=by
 intro wh pins s σ H Q I h
 refine isTrue_and (thn (ha pins s σ H _ I h) fun c s1 ⟨H1,I1,q1⟩=>?_)
 cases c with
 | true=>exact hb wh pins s1 σ H1 Q I1 q1
 | false=>exact ⟨H1,I1,q1⟩
theorem pw_or (ha:PT X a tA) (hb:PW X (.BoolOp .Or (b::rest) pos) tB'):PW X (.BoolOp .Or (a::b::rest) pos) (tOr tA tB'):=by
 intro wh pins s σ H Q I h
 refine isTrue_or (thn (ha pins s σ H _ I h) fun c s1 ⟨H1,I1,q1⟩=>?_)
 cases c with
 | true=>exact ⟨H1,I1,q1⟩
 | false=>exact hb wh pins s1 σ H1 Q I1 q1
theorem pt_not (ha:PT X a tA):PT X (.UnaryOp .Not a pos) (tNot tA):=by
 intro pins s σ H Q I h
 exact isTrue_not (ha pins s σ H (fun c H1=>Q (!c) H1) I h)
def tAndV (ta tb:TE):TE:=fun σ H Q=>ta σ H fun x H1=>∃ c,x=.bl c∧if c=true then tb σ H1 Q else Q (.bl false) H1
def tNotV (ta:TE):TE:=fun σ H Q=>ta σ H fun x H1=>∃ c,x=.bl c∧Q (.bl (!c)) H1
theorem pe_one {op} {t:TE} (h:PE X a t):PE X (.BoolOp op [a] pos) t:=fun pins s σ H Q I hw=>BoolOp_one (h pins s σ H Q I hw)
theorem pe_and (ha:PE X a ta) (hb:PE X (.BoolOp .And (b::rest) pos) tb):PE X (.BoolOp .And (a::b::rest) pos) (tAndV ta tb):=by
 intro pins s σ H Q I h
 refine BoolOp_and (thn (ha pins s σ H _ I h) fun v s1 ⟨x,H1,I1,r1,q1⟩=>?_)
 obtain ⟨c,rfl,q1⟩:=q1
 cases r1
 refine wpAny_truthy_bool ?_
 cases c with
 | true=>exact hb pins s1 σ H1 Q I1 q1
 | false=>exact ⟨.bl false,H1,I1,rfl,q1⟩
theorem pe_not (ha:PE X a ta):PE X (.UnaryOp .Not a pos) (tNotV ta):=by
 intro pins s σ H Q I h
 refine UnaryOp_ (thn (ha pins s σ H _ I h) fun v s1 ⟨x,H1,I1,r1,q1⟩=>?_)
 obtain ⟨c,rfl,q1⟩:=q1
 cases r1
 exact not_of (wpAny_truthy_bool ⟨.bl (!c),H1,I1,rfl,q1⟩)
end
end L2
namespace L2
open PySem PySem.Spec PyProof.Rows
def SqL (K:PySem.W.Frag) (H:Hp) (a:Addr) (xs:List V):Prop :=
 Rd H a (.lst xs) ∨
  ∃ (o:Obj) (its:Array Value) (n:Nat),K.lookup a=some o∧o.cls=.type "list"∧o.dict=none∧o.data=.seq its n∧its.size≤sizeLine∧Vals xs its.toList
def SqT (K:PySem.W.Frag) (H:Hp) (a:Addr) (xs:List V):Prop :=
 Rd H a (.tup xs) ∨
  ∃ (o:Obj) (its:Array Value) (n:Nat),K.lookup a=some o∧o.cls=.type "tuple"∧o.data=.seq its n∧its.size≤sizeLine∧Vals xs its.toList
def absV:Value→Option V
 | .none=>some .non
 | .bool b=>some (.bl b)
 | .int i _=>some (.int i)
 | .str x _=>some (.str x)
 | .bytes b _=>some (.byt b)
 | .float b _=>some (.flt b)
 | .ref a=>some (.ref a)
 | .type n=>some (.ty n)
 | _=>none
theorem RelV.abs {x:V} {u:Value} (r:RelV x u):absV u=some x:=by
 cases x with
 | non=>cases r; rfl
 | bl _=>cases r; rfl
 | int _=>obtain ⟨t,rfl⟩:=r; rfl
 | str _=>obtain ⟨t,rfl⟩:=r; rfl
 | byt _=>obtain ⟨t,rfl⟩:=r; rfl
 | flt _=>obtain ⟨t,rfl⟩:=r; rfl
 | ref _=>cases r; rfl
 | ty _=>cases r; rfl
theorem RelV.inj {x y:V} {u:Value} (r:RelV x u) (q:RelV y u):x=y:=Option.some.inj (r.abs.symm.trans q.abs)
theorem Vals.inj:∀ {xs ys:List V} {us:List Value},Vals xs us→Vals ys us→xs=ys
 | _,_,_,.nil,.nil=>rfl
 | _,_,_,.cons r t,.cons r' t'=>by rw [r.inj r',Vals.inj t t']
section
variable {X:Cx} {pins:List (Addr×Obj)} {σ:St} {H:Hp} {s:Shared} {a:Addr} {xs ys:List V}
theorem SqL.of {K:PySem.W.Frag} (h:H a=some (.lst xs)):SqL K H a xs:=.inl (.inl h)
theorem SqT.of {K:PySem.W.Frag} (h:H a=some (.tup xs)):SqT K H a xs:=.inl (.inl h)
theorem Inv.list (I:Inv X pins σ H s) (h:SqL X.K H a xs):∃ its:List Value,Vals xs its∧PlainL s.heap a its.toArray∧xs.length≤sizeLine:=by
 rcases h with h | ⟨o,its,n,hk,hc,hd,hs,hz,r⟩
 ·obtain ⟨z,its,n,r,e⟩:=h.ok I.hok
  exact ⟨its,r,⟨_,n,e,rfl,rfl,rfl⟩,z⟩
 ·refine ⟨its.toList,r,⟨o,n,I.kIn a o hk,hc,hd,by simpa using hs⟩,?_⟩
  have e:=r.length
  simp only [Array.length_toList] at e
  omega
theorem Inv.tuple (I:Inv X pins σ H s) (h:SqT X.K H a xs):∃ its:List Value,Vals xs its∧IsTup s.heap a its.toArray∧xs.length≤sizeLine:=by
 rcases h with h | ⟨o,its,n,hk,hc,hs,hz,r⟩
 ·obtain ⟨z,its,r,p⟩:=h.ok I.hok
  exact ⟨its,r,p,z⟩
 ·refine ⟨its.toList,r,⟨o,I.kIn a o hk,hc,n,by simpa using hs⟩,?_⟩
  have e:=r.length
  simp only [Array.length_toList] at e
  omega
theorem Inv.list_inj (I:Inv X pins σ H s) (h:SqL X.K H a xs) (h':SqL X.K H a ys):xs=ys:=by
 obtain ⟨its,r,⟨o,n,e,_,_,d⟩,_⟩:=I.list h
 obtain ⟨its',r',⟨o',n',e',_,_,d'⟩,_⟩:=I.list h'
 rw [e] at e'; cases e'
 rw [d] at d'
 injection d' with d1 _
 have:its=its':=by simpa using congrArg Array.toList d1
 subst this
 exact r.inj r'
theorem Inv.tuple_inj (I:Inv X pins σ H s) (h:SqT X.K H a xs) (h':SqT X.K H a ys):xs=ys:=by
 obtain ⟨its,r,⟨o,e,_,n,d⟩,_⟩:=I.tuple h
 obtain ⟨its',r',⟨o',e',_,n',d'⟩,_⟩:=I.tuple h'
 rw [e] at e'; cases e'
 rw [d] at d'
 injection d' with d1 _
 have:its=its':=by simpa using congrArg Array.toList d1
 subst this
 exact r.inj r'
end
abbrev Cx.wish (X:Cx) (E:Value→Shared→Prop):Cx:={ X with xe:=E }
abbrev Cx.nox (X:Cx):Cx:=X.wish fun _ _=>False
theorem Cx.Ok.wish {X:Cx} (ok:X.Ok) (E:Value→Shared→Prop):(X.wish E).Ok :=
 ⟨ok.mod,ok.kind,ok.glob,ok.blt,ok.above,ok.inj,ok.has,ok.cab,ok.hd,ok.frames,ok.stk,ok.exf,ok.bs,ok.bsz,ok.noex,ok.exfs,ok.funs,ok.frf⟩
theorem Cx.Ok.unwish {X:Cx} {E:Value→Shared→Prop} (ok:(X.wish E).Ok):X.Ok :=
 ⟨ok.mod,ok.kind,ok.glob,ok.blt,ok.above,ok.inj,ok.has,ok.cab,ok.hd,ok.frames,ok.stk,ok.exf,ok.bs,ok.bsz,ok.noex,ok.exfs,ok.funs,ok.frf⟩
section
variable {X:Cx} {pins:List (Addr×Obj)} {σ:St} {H:Hp} {s:Shared} {E:Value→Shared→Prop}
theorem Inv.wish (I:Inv X pins σ H s) (E:Value→Shared→Prop):Inv (X.wish E) pins σ H s:=⟨I.ok.wish E,I.os,I.bare,I.base,I.loc,I.cell,I.free,I.freeC,I.pin,I.hok,I.len⟩
theorem Inv.unwish (I:Inv (X.wish E) pins σ H s):Inv X pins σ H s:=⟨I.ok.unwish,I.os,I.bare,I.base,I.loc,I.cell,I.free,I.freeC,I.pin,I.hok,I.len⟩
theorem SP.unwish {D:Ends} {f:Flow} {s':Shared} (h:SP (X.wish E) pins D f s'):SP X pins D f s':=by
 cases f with
 | next=>obtain ⟨σ',H',I,q⟩:=h; exact ⟨σ',H',I.unwish,q⟩
 | brk=>obtain ⟨σ',H',I,q⟩:=h; exact ⟨σ',H',I.unwish,q⟩
 | cont=>obtain ⟨σ',H',I,q⟩:=h; exact ⟨σ',H',I.unwish,q⟩
 | ret u=>obtain ⟨v,σ',H',I,r,q⟩:=h; exact ⟨v,σ',H',I.unwish,r,q⟩
theorem PSs.nox {st:List Stmt} {t:TS} (h:PSs X.nox st t):PSs X st t:=fun pins s σ H D I hw =>
 wpAny_mono (h pins s σ H D (I.wish _) hw) (fun _ _ q=>q.unwish) fun _ _ z=>False.elim z
end
section
variable {X:Cx} {st:Stmt} {rest:List Stmt} {t u:TS} {e:Expr} {te:TE} {pos:Pos}
def tNext:TS:=fun D σ H=>D.nx σ H
def tSeq (t u:TS):TS:=fun D σ H=>t { D with nx:=u D } σ H
theorem pss_nil:PSs X [] tNext:=fun _ _ σ H _ I h=>wpAny_execs_nil ⟨σ,H,I,h⟩
theorem pss_cons (h1:PS X st t) (h2:PSs X rest u):PSs X (st::rest) (tSeq t u):=by
 intro pins s σ H D I h
 refine wpAny_execs_cons (thn (h1 pins s σ H { D with nx:=u D } I h) fun f s1 q=>?_)
 cases f with
 | next =>
  obtain ⟨σ',H',I',q⟩:=q
  exact h2 pins s1 σ' H' D I' q
 | ret v=>exact q
 | brk=>exact q
 | cont=>exact q
theorem pss_one (h1:PS X st t):PSs X [st] t:=by
 intro pins s σ H D I h
 refine wpAny_execs_cons (thn (h1 pins s σ H D I h) fun f s1 q=>?_)
 cases f with
 | next=>exact wpAny_execs_nil q
 | ret v=>exact q
 | brk=>exact q
 | cont=>exact q
theorem Inv.quiet {pins:List (Addr×Obj)} {σ:St} {H:Hp} {s:Shared} (I:Inv X pins σ H s):interactive X.env=false:=by simp [interactive,I.ok.kind]
def tDrop (te:TE):TS:=fun D σ H=>te σ H fun _ H1=>D.nx σ H1
theorem ps_expr (he:PE X e te) (hs:swapsWith e none pos.line X.env=pure false:=by rfl):PS X (.Expr e pos) (tDrop te):=by
 intro pins s σ H D I h
 exact wpAny_Expr_any (thn (he pins s σ H _ I h) fun v s1 ⟨x,H1,I1,r1,q1⟩=>⟨σ,H1,I1,q1⟩) I.quiet hs
def tRet (te:TE):TS:=fun D σ H=>te σ H D.rt
theorem ps_ret (he:PE X e te):PS X (.Return (some e) pos) (tRet te):=by
 intro pins s σ H D I h
 exact wpAny_Return_some (thn (he pins s σ H _ I h) fun v s1 ⟨x,H1,I1,r1,q1⟩=>⟨x,σ,H1,I1,r1,q1⟩)
def tIfS (c:TT) (t u:TS):TS:=fun D σ H=>c σ H fun b H1=>if b=true then t D σ H1 else u D σ H1
theorem ps_if {c:Expr} {a b:List Stmt} {tc:TT} (hc:PT X c tc) (ha:PSs X a t) (hb:PSs X b u):PS X (.If c a b pos) (tIfS tc t u):=by
 intro pins s σ H D I h
 refine wpAny_If (thn (hc pins s σ H _ I h) fun d s1 ⟨H1,I1,q1⟩=>?_)
 cases d with
 | true=>exact ha pins s1 σ H1 D I1 q1
 | false=>exact hb pins s1 σ H1 D I1 q1
end
abbrev TG:=V→St→Hp→(St→Hp→Prop)→Prop
abbrev TGs:=List V→St→Hp→(St→Hp→Prop)→Prop
def PG (X:Cx) (target:Expr) (t:TG):Prop :=
 ∀ (pins:List (Addr×Obj)) (s:Shared) (σ:St) (H:Hp) (v:V) (u:Value) (Q:St→Hp→Prop),Inv X pins σ H s→RelV v u→t v σ H Q →
  wpAny (model X.prog X.w) X.A (assign target X.env u) (fun _ s'=>∃ σ' H',Inv X pins σ' H' s'∧Q σ' H') X.xe s
def PGs (X:Cx) (ts:List Expr) (t:TGs):Prop :=
 ∀ (pins:List (Addr×Obj)) (s:Shared) (σ:St) (H:Hp) (vs:List V) (us:List Value) (Q:St→Hp→Prop),Inv X pins σ H s→Vals vs us→t vs σ H Q →
  wpAny (model X.prog X.w) X.A (assignInOrder ((assignEach ts X.env).map (·.2)) us) (fun _ s'=>∃ σ' H',Inv X pins σ' H' s'∧Q σ' H') X.xe s
abbrev TSet:=V→V→V→Hp→(Hp→Prop)→Prop
def PSet (X:Cx) (t:TSet):Prop :=
 ∀ (pins:List (Addr×Obj)) (s:Shared) (σ:St) (H:Hp) (o i v:V) (ov iv u:Value) (Q:Hp→Prop),Inv X pins σ H s→RelV o ov→RelV i iv→RelV v u→t o i v H Q →
  wpAny (model X.prog X.w) X.A (setItem ov iv u) (fun _ s'=>∃ H',Inv X pins σ H' s'∧Q H') X.xe s
section
variable {X:Cx} {pos:Pos}
def gName (i:Nat):TG:=fun v σ H Q=>Q (σ.set i (some v)) H
theorem pg_name {i:Nat} {x:Str} (hN:X.N.Nodup) (hi:X.N[i]?=some x) (hx:Loc X.env.scope x) (hf:X.fn x=true∨X.env.scope.names.lookup x=some .local:=by first | exact .inl rfl | exact .inr rfl | assumption):PG X (.Name x pos) (gName i):=by
 intro pins s σ H v u Q I r h
 exact wpAny_assign_Name (store_ok I hN hi hx r (fun s' I'=>⟨_,H,I',h⟩) hf)
def gNil:TGs:=fun vs σ H Q=>vs=[]∧Q σ H
def gCons (t:TG) (u:TGs):TGs:=fun vs σ H Q=>∃ v r,vs=v::r∧t v σ H fun σ' H'=>u r σ' H' Q
theorem pgs_nil:PGs X [] gNil:=by
 intro pins s σ H vs us Q I r h
 obtain ⟨e,h⟩:=h
 subst e
 cases r
 exact assignInOrder_nil ⟨σ,H,I,h⟩
theorem pgs_cons {e:Expr} {es:List Expr} {t:TG} {u:TGs} (h1:PG X e t) (h2:PGs X es u)
  (hs:(assignEach (e::es) X.env).map (·.2)=assign e X.env::(assignEach es X.env).map (·.2):=by rfl):PGs X (e::es) (gCons t u):=by
 intro pins s σ H vs us Q I r h
 obtain ⟨v,vr,e1,h⟩:=h
 subst e1
 cases r with
 | cons r rr =>
  rw [hs]
  refine assignInOrder_cons (thn (h1 pins s σ H _ _ _ I r h) fun _ s1 ⟨σ1,H1,I1,q1⟩=>?_)
  exact h2 pins s1 σ1 H1 _ _ Q I1 rr q1
def gTup (K:PySem.W.Frag) (n:Nat) (t:TGs):TG:=fun v σ H Q=>∃ a xs,v=.ref a∧SqT K H a xs∧xs.length=n∧t xs σ H Q
theorem pg_tup {es:List Expr} {k:Nat} {t:TGs} {n:Nat} (hc:X.calm=true) (h:PGs X es t)
  (hn:(assignEach es X.env).length=n:=by rfl) (hst:(assignEach es X.env).findIdx? (·.1)=none:=by rfl):PG X (.Tuple es k pos) (gTup X.K n t):=by
 intro pins s σ H v u Q I r hw
 obtain ⟨a,xs,e1,hq,hl,hw⟩:=hw
 subst e1
 cases r
 obtain ⟨its,rv,ht,hz⟩:=I.tuple hq
 refine assign_Tuple_tuple (I.ok.hd hc) ht (by simp [hn,← hl,rv.length]) hst fun h' hx=>?_
 have I1:Inv X pins σ H { s with heap:=h' }:=I.kept (t':=s.toks) fun b o e=>hx b o (Nat.ne_of_lt (Heap.lt_size e)) e
 exact h pins _ σ H xs _ Q I1 (by simpa using rv) hw
def gSub (to ti:TE) (t:TSet):TG:=fun v σ H Q=>to σ H fun o H1=>ti σ H1 fun i H2=>t o i v H2 fun H3=>Q σ H3
theorem pg_sub {o i:Expr} {to ti:TE} {t:TSet} (ho:PE X o to) (hi:PE X i ti) (hs:PSet X t)
  (ha:∀ v,assign (.Subscript o i pos) X.env v=(do
   let ov ← holding [v] (eval o X.env)
   let iv ← holding [v,ov] (eval i X.env)
   standAt pos
   holding [v,ov,iv] (setItem ov iv v)
   release [v,ov,iv] []):=by intro _; rfl):PG X (.Subscript o i pos) (gSub to ti t):=by
 intro pins s σ H v u Q I r h
 rw [ha]
 refine wpAny_bind (wpAny_holding (thn (ho pins s σ H _ I h) fun ov s1 ⟨x,H1,I1,r1,q1⟩=>?_))
 refine wpAny_bind (wpAny_holding (thn (hi pins s1 σ H1 _ I1 q1) fun iv s2 ⟨y,H2,I2,r2,q2⟩=>?_))
 refine wpAny_bind (wpAny_standAt (wpAny_bind (wpAny_holding (thn (hs pins s2 σ H2 x y v ov iv u _ I2 r1 r2 r q2) fun _ s3 ⟨H3,I3,q3⟩=>?_))))
 exact wpAny_release ⟨σ,H3,I3,q3⟩
def tAsg (te:TE) (g:TG):TS:=fun D σ H=>te σ H fun x H1=>g x σ H1 D.nx
theorem ps_asg {tg e:Expr} {te:TE} {g:TG} (he:PE X e te) (hg:PG X tg g) (hs:swapsWithSole [tg] e pos.line X.env=pure false:=by rfl) (hw:swappedStores [tg] e X.env=pure none:=by rfl)
  (h1:(assignEach [tg] X.env).map (·.2)=[assign tg X.env]:=by rfl):PS X (.Assign [tg] e pos) (tAsg te g):=by
 intro pins s σ H D I h
 refine wpAny_Assign_stores (thn (he pins s σ H _ I h) fun v s1 ⟨x,H1,I1,r1,q1⟩=>?_) hs hw
 rw [h1]
 exact thn (hg pins s1 σ H1 x v _ I1 r1 q1) fun _ s2 q=>q
theorem ps_set {i:Nat} {x:Str} {e:Expr} {te:TE} {pos':Pos} (hN:X.N.Nodup) (hi:X.N[i]?=some x) (hx:Loc X.env.scope x) (he:PE X e te) (hs:swapsWith e (some (.Name x pos')) pos.line X.env=pure false:=by rfl) (hf:X.fn x=true∨X.env.scope.names.lookup x=some .local:=by first | exact .inl rfl | exact .inr rfl | assumption) :
  PS X (.Assign [.Name x pos'] e pos) (tAsg te (gName i)):=by
 intro pins s σ H D I h
 refine wpAny_Assign_Name (thn (he pins s σ H _ I h) fun v s1 ⟨y,H1,I1,r1,q1⟩=>?_) hs
 exact store_ok I1 hN hi hx r1 (fun s2 I2=>⟨_,H1,I2,q1⟩) hf
def tPar (i j:Nat) (ta:TA):TS:=fun D σ H=>ta σ H fun vs H1=>∃ v w,vs=[v,w]∧D.nx ((σ.set i (some v)).set j (some w)) H1
theorem ps_par {i j:Nat} {x y:Str} {a b:Expr} {ta:TA} {px py pt:Pos} {kt k2 pt2} (hc:X.calm=true) (hN:X.N.Nodup) (hi:X.N[i]?=some x) (hj:X.N[j]?=some y) (hij:i≠j)
  (hx:X.env.scope.names.lookup x=some .local) (hy:X.env.scope.names.lookup y=some .local) (ha:PA X [a,b] ta)
  (hw:swappedStores [.Tuple [.Name x px,.Name y py] kt pt] (.Tuple [a,b] k2 pt2) X.env=pure (some [x,y]))
  (hs:swapsWithSole [.Tuple [.Name x px,.Name y py] kt pt] (.Tuple [a,b] k2 pt2) pos.line X.env=pure false:=by rfl) :
  PS X (.Assign [.Tuple [.Name x px,.Name y py] kt pt] (.Tuple [a,b] k2 pt2) pos) (tPar i j ta):=by
 intro pins s σ H D I h
 rw [exec_Assign_arm]
 refine wpAny_bind (wpAny_standAt ?_)
 rw [hs]
 refine wpAny_bind (wpAny_pure ?_)
 rw [if_neg (by decide)]
 refine wpAny_bind (Tuple_ (thn (ha _ pins s σ H _ I h) fun us s1 ⟨vs,H1,I1,r1,q1⟩=>?_))
 obtain ⟨v,w,e1,q1⟩:=q1
 subst e1
 obtain ⟨u1,u2,rfl,rv,rw'⟩:∃ u1 u2,us=[u1,u2]∧RelV v u1∧RelV w u2:=by
  cases r1 with
  | cons p q =>
   cases q with
   | cons p' q' =>
    cases q'
    exact ⟨_,_,rfl,p,p'⟩
 refine wpAny_newObj_type ?_ (by show 2≤sizeLine; decide)
 have I2:Inv X pins σ H1 { s1 with heap:=s1.heap.push { cls:=.type "tuple",data:=.seq [u1,u2].toArray } }:=I1.kept (t':=s1.toks) fun b o e=>Heap.get?_push_of_some _ e
 rw [hw]
 refine wpAny_bind (wpAny_pure ?_)
 show wpAny (model X.prog X.w) X.A (do rule "assign.swapped-stores"; let items ← unpackItems (.ref s1.heap.objs.size) 2 none; assignInOrder [fun v=>bindName X.env y v,fun v=>bindName X.env x v] items.reverse; pure Flow.next) _ _ _
 refine wpAny_bind (wpAny_rule (wpAny_bind (unpackItems_tuple (items:=#[u1,u2]) (I.ok.hd hc) (IsTup.new s1.heap _) fun h' hx'=>?_)))
 have I3:=I2.kept (h':=h') (t':=s1.toks) fun b o e=>hx' b o (Nat.ne_of_lt (Heap.lt_size e)) e
 show wpAny _ _ (assignInOrder [fun v=>bindName X.env y v,fun v=>bindName X.env x v] [u2,u1] >>= fun _=>pure Flow.next) _ _ _
 refine wpAny_bind (assignInOrder_cons (wpAny_bindName (store_ok I3 hN hj (.inl hy) rw' (fun s2 I4=>?_) (.inr hy))))
 refine assignInOrder_cons (wpAny_bindName (store_ok I4 hN hi (.inl hx) rv (fun s3 I5=>assignInOrder_nil (wpAny_pure ?_)) (.inr hx)))
 rw [List.set_comm _ _ (Ne.symm hij)] at I5
 exact ⟨_,H1,I5,q1⟩
end
section
variable {X:Cx} {pos:Pos}
end
structure It where
 go:Nat→Hp→Prop
 yld:Nat→Hp→V→Hp→Prop
 stop:Nat→Hp→Prop
def FpOk (X:Cx) (pins:List (Addr×Obj)) (H:Hp) (b:Addr):Prop :=
 H b=none∧b≠X.env.locals∧b ∉ X.fs∧(b∈X.ex∨X.s₀.heap.objs.size≤b)∧(∀ x c,X.env.cells.lookup x=some c→c≠b)∧∀ p∈X.pn++pins,p.1≠b
theorem Inv.fpOk {X:Cx} {pins:List (Addr×Obj)} {σ:St} {H H':Hp} {s:Shared} {b:Addr} (I:Inv X pins σ H s) (hb:s.heap.objs.size≤b) (hn:H' b=none):FpOk X pins H' b:=by
 refine ⟨hn,Nat.ne_of_gt (Nat.lt_of_lt_of_le I.lt hb),I.nofs hb,.inr (Nat.le_trans I.sz hb),fun x c e z=>?_,fun p hp z=>?_⟩
 ·obtain ⟨v,q⟩:=I.cell x c e
  exact absurd (Nat.lt_of_lt_of_le q.lt (by rw [z]; exact hb)) (Nat.lt_irrefl _)
 ·exact absurd (Nat.lt_of_lt_of_le (Heap.lt_size (I.pin p hp).1) (by rw [z]; exact hb)) (Nat.lt_irrefl _)
structure Turn (P:Program) (w:World) (K:PySem.W.Frag) (tg:Expr) (J:It) (fp:List Addr) (it:Addr) (tn:Nat→Heap→Prop):Prop where
 mem:it∈fp
 obj:∀ i h,tn i h→∀ b∈fp,∃ o,h.get? b=some o∧∀ v,o.data≠.cell v
 keep:∀ i h h',tn i h→(∀ b∈fp,∀ o,h.get? b=some o→h'.get? b=some o)→tn i h'
 item:∀ (X:Cx),X.prog=P→X.w=w→X.K=K→X.calm=true→∀ (i:Nat) (pins:List (Addr×Obj)) (s:Shared) (σ:St) (H:Hp) (E:Value→Shared→Prop),Inv X pins σ H s→(∀ b∈fp,FpOk X pins H b)→tn i s.heap→J.go i H →
  wpAny (model P w) X.A (pyNext (.ref it)) (fun r s1=>∃ u,r=some u ∧
   wpAny (model P w) X.A (letOwnedTupleGo tg (.ref it) u) (fun _ s2=>∃ x H',Inv X pins σ H' s2∧RelV x u∧J.yld i H x H'∧tn (i + 1) s2.heap∧∀ b∈fp,H' b=none) E s1) E s
 done:∀ (X:Cx),X.prog=P→X.w=w→X.K=K→X.calm=true→∀ (i:Nat) (pins:List (Addr×Obj)) (s:Shared) (σ:St) (H:Hp) (E:Value→Shared→Prop),Inv X pins σ H s→(∀ b∈fp,FpOk X pins H b)→tn i s.heap→J.stop i H →
  wpAny (model P w) X.A (pyNext (.ref it)) (fun r s1=>r=none∧Inv X pins σ H s1) E s
 self:∀ (A:Around) (i:Nat) (s:Shared) (Q:Value→Shared→Prop) (E:Value→Shared→Prop),tn i s.heap→Q (.ref it) s→wpAny (model P w) A (pyIter (.ref it)) Q E s
abbrev TI:=St→Hp→(It→Hp→Prop)→Prop
def PIE (X:Cx) (pins:List (Addr×Obj)) (σ:St) (tg:Expr) (R:It→Hp→Prop) (itv:Value) (s2:Shared):Prop :=
 ∃ (it:Addr) (fp:List Addr) (tn:Nat→Heap→Prop) (J:It) (H':Hp),itv=.ref it∧Inv X pins σ H' s2∧Turn X.prog X.w X.K tg J fp it tn∧tn 0 s2.heap∧(∀ b∈fp,FpOk X pins H' b)∧R J H'
def PI (X:Cx) (tg iter:Expr) (wi:TI):Prop :=
 ∀ (pins:List (Addr×Obj)) (s:Shared) (σ:St) (H:Hp) (R:It→Hp→Prop),Inv X pins σ H s→wi σ H R →
  wpAny (model X.prog X.w) X.A (eval iter X.env) (fun v s1=>wpAny (model X.prog X.w) X.A (pyIter v) (PIE X pins σ tg R) X.xe s1) X.xe s
theorem go_of {M:Model} {A:Around} {E:Value→Shared→Prop} {s:Shared} {tg:Expr} {it:Addr} {u:Value} {o:Obj} {n:String} {vs:Array Value} {Q:Unit→Shared→Prop} (ho:s.heap.get? it=some o) (hc:o.cls=.type n) (hd:o.data=.fields vs)
  (hn:["enumerate","zip","dict_itemiterator","dict_reverseitemiterator","odict_iterator","itertools.zip_longest","itertools.pairwise"].contains n=false) (hQ:Q () s):wpAny M A (letOwnedTupleGo tg (.ref it) u) Q E s:=by
 unfold letOwnedTupleGo
 cases tg <;> first
  | exact wpAny_pure hQ
  | (cases u <;> first
    | exact wpAny_pure hQ
    | (refine wpAny_bind (wpAny_load ho ?_)
       rw [hc,hd]
       show wpAny M A (if (["enumerate","zip","dict_itemiterator","dict_reverseitemiterator","odict_iterator","itertools.zip_longest","itertools.pairwise"].contains n && vs[0]? == some (rawInt _))=true then _ else _) Q E s
       rw [if_neg (by intro h; rw [hn,Bool.false_and] at h; cases h)]
       exact wpAny_pure hQ))
def Itl (K:PySem.W.Frag) (a:Addr):It :=
 ⟨fun i H=>∃ xs x,SqL K H a xs∧xs[i]?=some x,fun i H x H'=>H'=H∧∀ xs,SqL K H a xs→xs[i]?=some x,fun i H=>∃ xs,SqL K H a xs∧xs.length≤i⟩
def Itt (K:PySem.W.Frag) (a:Addr):It :=
 ⟨fun i H=>∃ xs x,SqT K H a xs∧xs[i]?=some x,fun i H x H'=>H'=H∧∀ xs,SqT K H a xs→xs[i]?=some x,fun i H=>∃ xs,SqT K H a xs∧xs.length≤i⟩
def Itr (lo:Int) (n:Nat):It:=⟨fun i _=>i < n,fun i H x H'=>H'=H∧x=.int (lo + i),fun i _=>n≤i⟩
theorem turn_list {P:Program} {w:World} {K:PySem.W.Frag} {tg:Expr} (a it:Addr):Turn P w K tg (Itl K a) [it] it (fun i h=>h.IsListIter it a i) where
 mem:=by simp
 obj:=fun i h st b hb=>by
  have e:b=it:=by simpa using hb
  subst e
  obtain ⟨o,e,c,d⟩:=st
  exact ⟨o,e,fun v z=>by rw [d] at z; cases z⟩
 keep:=fun i h h' st k=>st.at fun o e=>k it (by simp) o e
 item:=by
  intro X hP hw hK hc i pins s σ H E I hf st hg
  subst hP hw hK
  obtain ⟨xs,x,hq,hx⟩:=hg
  obtain ⟨its,rv,p,hz⟩:=I.list hq
  obtain ⟨u,hu,ru⟩:=rv.get hx
  obtain ⟨f0,f1,f2,f3,f4,f5⟩:=hf it (by simp)
  refine wpAny_pyNext_list_item st p.isList (x:=u) (by simpa using hu) fun h' st' sb=>?_
  have I1:Inv X pins σ H { s with heap:=h' }:=I.turned (t':=s.toks) (fun b o hb e=>(sb.2 b hb).trans e) f0 f1 f3 f4 f5
  obtain ⟨o,e,c,d⟩:=id st'
  exact ⟨u,rfl,go_of (s:={ s with heap:=h' }) e c d (by decide) ⟨x,H,I1,ru,⟨rfl,fun ys hy=>by rw [I.list_inj hy hq]; exact hx⟩,st',fun b hb=>(hf b hb).1⟩⟩
 done:=by
  intro X hP hw hK hc i pins s σ H E I hf st hg
  subst hP hw hK
  obtain ⟨xs,hq,hx⟩:=hg
  obtain ⟨its,rv,p,hz⟩:=I.list hq
  obtain ⟨f0,f1,f2,f3,f4,f5⟩:=hf it (by simp)
  have hl:=rv.length
  exact wpAny_pyNext_list_end (I.ok.hd hc) st p.isList (by simp; omega) fun h' eb=>⟨rfl,I.turned (t':=s.toks) (fun b o hb e=>eb b o hb e) f0 f1 f3 f4 f5⟩
 self:=fun _ _ _ _ _ st h=>wpAny_pyIter_listiter st h
theorem turn_tuple {P:Program} {w:World} {K:PySem.W.Frag} {tg:Expr} (a it:Addr):Turn P w K tg (Itt K a) [it] it (fun i h=>h.IsTupleIter it a i) where
 mem:=by simp
 obj:=fun i h st b hb=>by
  have e:b=it:=by simpa using hb
  subst e
  obtain ⟨o,e,c,d⟩:=st
  exact ⟨o,e,fun v z=>by rw [d] at z; cases z⟩
 keep:=fun i h h' st k=>st.at fun o e=>k it (by simp) o e
 item:=by
  intro X hP hw hK hc i pins s σ H E I hf st hg
  subst hP hw hK
  obtain ⟨xs,x,hq,hx⟩:=hg
  obtain ⟨its,rv,p,hz⟩:=I.tuple hq
  obtain ⟨u,hu,ru⟩:=rv.get hx
  obtain ⟨f0,f1,f2,f3,f4,f5⟩:=hf it (by simp)
  refine wpAny_pyNext_tuple_item st (show s.heap.IsTuple a its.toArray from p) (x:=u) (by simpa using hu) fun h' st' sb=>?_
  have I1:Inv X pins σ H { s with heap:=h' }:=I.turned (t':=s.toks) (fun b o hb e=>(sb.2 b hb).trans e) f0 f1 f3 f4 f5
  obtain ⟨o,e,c,d⟩:=id st'
  exact ⟨u,rfl,go_of (s:={ s with heap:=h' }) e c d (by decide) ⟨x,H,I1,ru,⟨rfl,fun ys hy=>by rw [I.tuple_inj hy hq]; exact hx⟩,st',fun b hb=>(hf b hb).1⟩⟩
 done:=by
  intro X hP hw hK hc i pins s σ H E I hf st hg
  subst hP hw hK
  obtain ⟨xs,hq,hx⟩:=hg
  obtain ⟨its,rv,p,hz⟩:=I.tuple hq
  obtain ⟨f0,f1,f2,f3,f4,f5⟩:=hf it (by simp)
  have hl:=rv.length
  exact wpAny_pyNext_tuple_end (I.ok.hd hc) st (show s.heap.IsTuple a its.toArray from p) (by simp; omega) fun h' eb=>⟨rfl,I.turned (t':=s.toks) (fun b o hb e=>eb b o hb e) f0 f1 f3 f4 f5⟩
 self:=fun _ _ _ _ _ st h=>wpAny_pyIter_tupleiter st h
theorem turn_range {P:Program} {w:World} {K:PySem.W.Frag} {tg:Expr} (it:Addr) (lo:Int) (n:Nat):Turn P w K tg (Itr lo n) [it] it (fun i h=>IsRangeIter h it (lo + (i:Nat) * 1) ((n:Int) - (i:Nat)) 1) where
 mem:=by simp
 obj:=fun i h st b hb=>by
  have e:b=it:=by simpa using hb
  subst e
  exact ⟨_,st,fun v z=>by
   have z':Data.fields _=Data.cell v:=z
   cases z'⟩
 keep:=fun i h h' st k=>k it (by simp) _ st
 item:=by
  intro X hP hw hK hc i pins s σ H E I hf st hg
  subst hP hw hK
  obtain ⟨f0,f1,f2,f3,f4,f5⟩:=hf it (by simp)
  have W:=Walks.range (prog:=X.prog) (w:=X.w) (I.ok.hd hc) it lo 1 n
  refine W.item i s _ _ hg st fun v h' tk hv st' kk=>?_
  obtain ⟨t,rfl⟩:=hv
  have I1:Inv X pins σ H { s with heap:=h',toks:=tk }:=I.turned (fun b o hb e=>kk b o (by simpa using hb) e) f0 f1 f3 f4 f5
  refine ⟨_,rfl,go_of (s:={ s with heap:=h',toks:=tk }) (n:="range_iterator") st' rfl rfl (by decide) ⟨.int (lo + i),H,I1,⟨t,?_⟩,⟨rfl,rfl⟩,st',fun b hb=>(hf b hb).1⟩⟩
  rw [Int.mul_one]
 done:=by
  intro X hP hw hK hc i pins s σ H E I hf st hg
  subst hP hw hK
  obtain ⟨f0,f1,f2,f3,f4,f5⟩:=hf it (by simp)
  exact wpAny_pyNext_range_end (I.ok.hd hc) st (by have:n≤i:=hg; omega) fun h' eb=>⟨rfl,I.turned (t':=s.toks) (fun b o hb e=>eb b o hb e) f0 f1 f3 f4 f5⟩
 self:=fun _ _ _ _ _ st h=>wpAny_pyIter_rangeiter st h
end L2
namespace L2
open PySem PySem.Spec PyProof.Rows
section
variable {X:Cx} {tg:Expr}
def iList (K:PySem.W.Frag) (tl:TE):TI:=fun σ H R=>tl σ H fun x H1=>∃ a,x=.ref a∧(∃ xs,SqL K H1 a xs)∧R (Itl K a) H1
def iTup (K:PySem.W.Frag) (tl:TE):TI:=fun σ H R=>tl σ H fun x H1=>∃ a,x=.ref a∧(∃ xs,SqT K H1 a xs)∧R (Itt K a) H1
theorem pi_list {l:Expr} {tl:TE} (hl:PE X l tl):PI X tg l (iList X.K tl):=by
 intro pins s σ H R I h
 refine thn (hl pins s σ H _ I h) fun v s1 ⟨x,H1,I1,r1,q1⟩=>?_
 obtain ⟨a,e,⟨xs,hq⟩,q⟩:=q1
 subst e
 cases r1
 obtain ⟨its,rv,p,hz⟩:=I1.list hq
 refine wpAny_pyIter_list p.isList ?_
 refine ⟨s1.heap.objs.size,[s1.heap.objs.size],_,_,H1,rfl,I1.kept (t':=s1.toks) fun b o e=>Heap.get?_push_of_some _ e,turn_list a _,⟨_,Heap.get?_push_size _ rfl,rfl,rfl⟩,fun b hb=>?_,q⟩
 have e:b=s1.heap.objs.size:=by simpa using hb
 subst e
 exact I1.fpOk (Nat.le_refl _) (I1.hok.fresh (Nat.le_refl _))
theorem pi_tup {l:Expr} {tl:TE} (hl:PE X l tl):PI X tg l (iTup X.K tl):=by
 intro pins s σ H R I h
 refine thn (hl pins s σ H _ I h) fun v s1 ⟨x,H1,I1,r1,q1⟩=>?_
 obtain ⟨a,e,⟨xs,hq⟩,q⟩:=q1
 subst e
 cases r1
 obtain ⟨its,rv,p,hz⟩:=I1.tuple hq
 refine wpAny_pyIter_tuple (show s1.heap.IsTuple a its.toArray from p) ?_
 refine ⟨s1.heap.objs.size,[s1.heap.objs.size],_,_,H1,rfl,I1.kept (t':=s1.toks) fun b o e=>Heap.get?_push_of_some _ e,turn_tuple a _,⟨_,Heap.get?_push_size _ rfl,rfl,rfl⟩,fun b hb=>?_,q⟩
 have e:b=s1.heap.objs.size:=by simpa using hb
 subst e
 exact I1.fpOk (Nat.le_refl _) (I1.hok.fresh (Nat.le_refl _))
theorem range_it {pins:List (Addr×Obj)} {σ:St} {H:Hp} {s:Shared} {R:It→Hp→Prop} {E:Value→Shared→Prop} {lo hi:Int} {t u v:Tok} {tk:Nat} (I:Inv X pins σ H s) (h1:-(2 ^ 62)≤lo) (h2:lo < 2 ^ 62) (h3:-(2 ^ 62)≤hi) (h4:hi < 2 ^ 62)
  (q:R (Itr lo (hi - lo).toNat) H):wpAny (model X.prog X.w) X.A (pyIter (.ref s.heap.objs.size)) (PIE X pins σ tg R) E { s with heap:=s.heap.push { cls:=.type "range",data:=.fields #[.int lo t,.int hi u,.int 1 v] },toks:=tk }:=by
 refine wpAny_pyIter_range (IsRange.new ..) (small_one h1 h2 h3 h4) ?_
 have I1:Inv X pins σ H { s with heap:=s.heap.push { cls:=.type "range",data:=.fields #[.int lo t,.int hi u,.int 1 v] },toks:=tk }:=I.kept fun b o e=>Heap.get?_push_of_some _ e
 refine ⟨(s.heap.push { cls:=.type "range",data:=.fields #[.int lo t,.int hi u,.int 1 v] }).objs.size,[(s.heap.push { cls:=.type "range",data:=.fields #[.int lo t,.int hi u,.int 1 v] }).objs.size],_,_,H,rfl,
  I1.kept (t':=tk) fun b o e=>Heap.get?_push_of_some _ e,turn_range _ lo (hi - lo).toNat,?_,fun b hb=>?_,q⟩
 ·have e1:lo + ((0:Nat):Int) * 1=lo:=by simp
  have e2:(((hi - lo).toNat:Nat):Int) - ((0:Nat):Int)=Builtin.Range.rangeSize lo hi 1:=by rw [rangeSize_one]; split <;> omega
  show IsRangeIter _ _ (lo + ((0:Nat):Int) * 1) ((((hi - lo).toNat:Nat):Int) - ((0:Nat):Int)) 1
  rw [e1,e2]
  exact Heap.get?_push_size _ rfl
 ·have e:b=(s.heap.push { cls:=.type "range",data:=.fields #[.int lo t,.int hi u,.int 1 v] }).objs.size:=by simpa using hb
  subst e
  exact I1.fpOk (Nat.le_refl _) (I1.hok.fresh (Nat.le_refl _))
def iRng1 (ta:TA):TI:=fun σ H R=>ta σ H fun vs H1=>∃ j:Int,vs=[.int j]∧-(2 ^ 62)≤j∧j < 2 ^ 62∧R (Itr 0 j.toNat) H1
def iRng2 (ta:TA):TI:=fun σ H R=>ta σ H fun vs H1=>∃ i j:Int,vs=[.int i,.int j]∧(-(2 ^ 62)≤i∧i < 2 ^ 62∧-(2 ^ 62)≤j∧j < 2 ^ 62)∧R (Itr i (j - i).toNat) H1
theorem pi_range1 {a:Expr} {ta:TA} {p pos:Pos} (hg:Gl X "range") (hm:X.mg "range"=none) (ha:PA X [a] ta) (hs:starEach [a] X.env=[(false,eval a X.env)]:=by rfl):PI X tg (.Call (.Name "range" p) [a] [] pos) (iRng1 ta):=by
 intro pins s σ H R I h
 refine Call_ (ld_blt I hg hm boot_range (PyProof.Rows.callWith_type1 (thn (ha pos pins s σ H _ I h) fun us s1 ⟨vs,H1,I1,r1,q1⟩=>?_) hs rfl))
 obtain ⟨j,e,q1,q2,q⟩:=q1
 subst e
 cases r1 with
 | cons r rr =>
  cases rr
  obtain ⟨t,rfl⟩:=r
  exact call_range_1 (range_it I1 (by omega) (by omega) q1 q2 (by simpa using q))
theorem pi_range2 {a b:Expr} {ta:TA} {p pos:Pos} (hg:Gl X "range") (hm:X.mg "range"=none) (ha:PA X [a,b] ta) (hs:starEach [a,b] X.env=[(false,eval a X.env),(false,eval b X.env)]:=by rfl) (hs2:starEach [b] X.env=[(false,eval b X.env)]:=by rfl) :
  PI X tg (.Call (.Name "range" p) [a,b] [] pos) (iRng2 ta):=by
 intro pins s σ H R I h
 refine Call_ (ld_blt I hg hm boot_range (PyProof.Rows.callWith_type1 (thn (ha pos pins s σ H _ I h) fun us s1 ⟨vs,H1,I1,r1,q1⟩=>?_) (by rw [hs,hs2]) (by rw [hs2]; rfl)))
 obtain ⟨i,j,e,⟨q1,q2,q3,q4⟩,q⟩:=q1
 subst e
 cases r1 with
 | cons r rr =>
  cases rr with
  | cons r' rr =>
   cases rr
   obtain ⟨t,rfl⟩:=r
   obtain ⟨t',rfl⟩:=r'
   exact call_range_2 (range_it I1 q1 q2 q3 q4 q)
def tFor (wi:TI) (g:TG) (tb:TS):TS:=fun D σ H=>wi σ H fun J H1=>∃ W:Nat→Nat→St→Hp→Prop,(∃ m,W 0 m σ H1)∧∀ i m σ H,W i m σ H →
 (J.stop i H∧D.nx σ H)∨(J.go i H∧∃ N:St→Hp→Prop,(∀ σ' H',N σ' H'→∃ m',m' < m∧W (i + 1) m' σ' H')∧∀ x H',J.yld i H x H'→g x σ H' fun σ2 H2=>tb { D with nx:=N,ct:=N,bk:=D.nx } σ2 H2)
def pinsAt (fp:List Addr) (h:Heap):List (Addr×Obj):=fp.filterMap fun b=>(h.get? b).map fun o=>(b,o)
theorem mem_pinsAt {fp:List Addr} {h:Heap} {b:Addr} {o:Obj} (hb:b∈fp) (e:h.get? b=some o):(b,o)∈pinsAt fp h:=List.mem_filterMap.mpr ⟨b,hb,by rw [e]; rfl⟩
theorem of_pinsAt {fp:List Addr} {h:Heap} {p:Addr×Obj} (hp:p∈pinsAt fp h):p.1∈fp∧h.get? p.1=some p.2:=by
 obtain ⟨b,hb,e⟩:=List.mem_filterMap.mp hp
 cases q:h.get? b with
 | none=>rw [q] at e; cases e
 | some o =>
  rw [q] at e
  have e':(b,o)=p:=Option.some.inj e
  subst e'
  exact ⟨hb,q⟩
theorem Inv.pinned {pins:List (Addr×Obj)} {σ:St} {H:Hp} {s:Shared} {fp:List Addr} (I:Inv X pins σ H s) (hf:∀ b∈fp,FpOk X pins H b) (ho:∀ b∈fp,∃ o,s.heap.get? b=some o∧∀ v,o.data≠.cell v):Inv X (pins++pinsAt fp s.heap) σ H s :=
 I.pins_of fun p hp=>(List.mem_append.mp hp).elim (fun z=>I.pin p (List.mem_append_right _ z)) fun z=>by
  obtain ⟨hb,e⟩:=of_pinsAt z
  obtain ⟨f0,f1,f2,_⟩:=hf p.1 hb
  obtain ⟨o,e',d⟩:=ho p.1 hb
  rw [e] at e'; cases e'
  exact ⟨e,f0,f1,f2,d⟩
theorem Inv.unpinned {pins pl:List (Addr×Obj)} {σ:St} {H:Hp} {s:Shared} (I:Inv X (pins++pl) σ H s):Inv X pins σ H s:=I.pins_of fun p hp=>I.pin p (List.mem_append_right _ (List.mem_append_left _ hp))
theorem ps_for {iter:Expr} {body:List Stmt} {wi:TI} {g:TG} {tb:TS} {pos:Pos} (hp:PassesOwn (model X.prog X.w) X.A X.env X.xe) (hc:X.calm=true) (hi:PI X tg iter wi) (hg:PG X tg g) (hb:PSs X body tb)
  (hs:∀ x,foldedSetIterable iter X.env x=pure x:=by intro _; rfl):PS X (.For tg iter body [] pos) (tFor wi g tb):=by
 intro pins s σ H D I h
 refine wpAny_For (thn (hi pins s σ H _ I h) fun v s1 h1=>thn h1 fun itv s2 h2=>?_) hs
 obtain ⟨it,fp,tn,J,H2,e,I2,T,st2,f2,W,⟨m0,w0⟩,turn⟩:=h2
 subst e
 -- what stays true of the iterator's objects through the loop
 have stat:∀ {H':Hp},(∀ b∈fp,H' b=none)→∀ b∈fp,FpOk X pins H' b:=fun hn b hb=>⟨hn b hb,(f2 b hb).2⟩
 refine codeAny_forLoop_any (fun n s'=>∃ i σ' H',Inv X pins σ' H' s'∧tn i s'.heap∧(∀ b∈fp,H' b=none)∧W i n σ' H') ?_ m0 ⟨0,σ,H2,I2,st2,fun b hb=>(f2 b hb).1,w0⟩
 rintro n s3 ⟨i,σ3,H3,I3,st3,fr3,w3⟩
 rcases turn i n σ3 H3 w3 with ⟨stop,qn⟩ | ⟨go,N,hN,step⟩
 ·refine wpAny_passesOwn hp (thn (T.done X rfl rfl rfl hc i pins s3 σ3 H3 X.xe I3 (stat fr3) st3 stop) fun r s4 ⟨hr,I4⟩=>?_)
  subst hr
  exact wpAny_execs_nil ⟨σ3,H3,I4,qn⟩
 ·refine wpAny_passesOwn hp (thn (T.item X rfl rfl rfl hc i pins s3 σ3 H3 X.xe I3 (stat fr3) st3 go) fun r s4 ⟨u,hr,h4⟩=>?_)
  subst hr
  refine wpAny_passesOwn hp (thn h4 fun _ s5 ⟨x,H5,I5,r5,y5,st5,fr5⟩=>?_)
  have I5':=I5.pinned (stat fr5) (T.obj _ _ st5)
  refine wpAny_passesOwn hp (thn (hg _ s5 σ3 H5 x u _ I5' r5 (step x H5 y5)) fun _ s6 ⟨σ6,H6,I6,q6⟩=>?_)
  refine wpAny_passesOwn hp (thn (hb _ s6 σ6 H6 _ I6 q6) fun f s7 q7=>?_)
  have again:∀ {σ7:St} {H7:Hp},Inv X (pins++pinsAt fp s5.heap) σ7 H7 s7→N σ7 H7→∃ m,m < n∧∃ i σ' H',Inv X pins σ' H' s7∧tn i s7.heap∧(∀ b∈fp,H' b=none)∧W i m σ' H':=fun {σ7 H7} I7 n7=>by
   obtain ⟨m',hm,w7⟩:=hN σ7 H7 n7
   refine ⟨m',hm,i + 1,σ7,H7,I7.unpinned,T.keep _ _ _ st5 fun b hb o e=>(I7.pin (b,o) (List.mem_append_right _ (List.mem_append_right _ (mem_pinsAt hb e)))).1,fun b hb=>?_,w7⟩
   obtain ⟨o,e,d⟩:=T.obj _ _ st5 b hb
   exact (I7.pin (b,o) (List.mem_append_right _ (List.mem_append_right _ (mem_pinsAt hb e)))).2.1
  cases f with
  | next=>obtain ⟨σ7,H7,I7,n7⟩:=q7; exact again I7 n7
  | cont=>obtain ⟨σ7,H7,I7,n7⟩:=q7; exact again I7 n7
  | brk=>obtain ⟨σ7,H7,I7,q7⟩:=q7; exact ⟨σ7,H7,I7.unpinned,q7⟩
  | ret v=>obtain ⟨x7,σ7,H7,I7,r7,q7⟩:=q7; exact ⟨x7,σ7,H7,I7.unpinned,r7,q7⟩
end
theorem for_list {K:PySem.W.Frag} {a:Addr} {xs:List V} {g:TG} {tb:TS} {D:Ends} {σ:St} {H:Hp} (Pv:Nat→St→Hp→Prop) (h0:Pv 0 σ H) (hl:∀ i σ H,i≤xs.length→Pv i σ H→SqL K H a xs)
  (hs:∀ i x σ H,xs[i]?=some x→Pv i σ H→g x σ H fun σ2 H2=>tb { D with nx:=Pv (i + 1),ct:=Pv (i + 1),bk:=D.nx } σ2 H2) (hd:∀ σ H,Pv xs.length σ H→D.nx σ H) :
  ∃ W:Nat→Nat→St→Hp→Prop,(∃ m,W 0 m σ H)∧∀ i m σ H,W i m σ H →
   ((Itl K a).stop i H∧D.nx σ H)∨((Itl K a).go i H∧∃ N:St→Hp→Prop,(∀ σ' H',N σ' H'→∃ m',m' < m∧W (i + 1) m' σ' H')∧∀ x H',(Itl K a).yld i H x H'→g x σ H' fun σ2 H2=>tb { D with nx:=N,ct:=N,bk:=D.nx } σ2 H2):=by
 refine ⟨fun i m σ H=>m=xs.length - i∧i≤xs.length∧Pv i σ H,⟨xs.length,by simp,Nat.zero_le _,h0⟩,?_⟩
 rintro i m σ H ⟨rfl,hi,p⟩
 have q:=hl i σ H hi p
 by_cases hlt:i < xs.length
 ·refine .inr ⟨⟨xs,xs[i],q,by simp [hlt]⟩,Pv (i + 1),fun σ' H' p'=>⟨xs.length - (i + 1),by omega,rfl,hlt,p'⟩,fun x H' y=>?_⟩
  obtain ⟨e,y⟩:=y
  subst e
  exact hs i x σ _ (y xs q) p
 ·have e:i=xs.length:=by omega
  subst e
  exact .inl ⟨⟨xs,q,Nat.le_refl _⟩,hd σ H p⟩
theorem for_tup {K:PySem.W.Frag} {a:Addr} {xs:List V} {g:TG} {tb:TS} {D:Ends} {σ:St} {H:Hp} (Pv:Nat→St→Hp→Prop) (h0:Pv 0 σ H) (hl:∀ i σ H,i≤xs.length→Pv i σ H→SqT K H a xs)
  (hs:∀ i x σ H,xs[i]?=some x→Pv i σ H→g x σ H fun σ2 H2=>tb { D with nx:=Pv (i + 1),ct:=Pv (i + 1),bk:=D.nx } σ2 H2) (hd:∀ σ H,Pv xs.length σ H→D.nx σ H) :
  ∃ W:Nat→Nat→St→Hp→Prop,(∃ m,W 0 m σ H)∧∀ i m σ H,W i m σ H →
   ((Itt K a).stop i H∧D.nx σ H)∨((Itt K a).go i H∧∃ N:St→Hp→Prop,(∀ σ' H',N σ' H'→∃ m',m' < m∧W (i + 1) m' σ' H')∧∀ x H',(Itt K a).yld i H x H'→g x σ H' fun σ2 H2=>tb { D with nx:=N,ct:=N,bk:=D.nx } σ2 H2):=by
 refine ⟨fun i m σ H=>m=xs.length - i∧i≤xs.length∧Pv i σ H,⟨xs.length,by simp,Nat.zero_le _,h0⟩,?_⟩
 rintro i m σ H ⟨rfl,hi,p⟩
 have q:=hl i σ H hi p
 by_cases hlt:i < xs.length
 ·refine .inr ⟨⟨xs,xs[i],q,by simp [hlt]⟩,Pv (i + 1),fun σ' H' p'=>⟨xs.length - (i + 1),by omega,rfl,hlt,p'⟩,fun x H' y=>?_⟩
  obtain ⟨e,y⟩:=y
  subst e
  exact hs i x σ _ (y xs q) p
 ·have e:i=xs.length:=by omega
  subst e
  exact .inl ⟨⟨xs,q,Nat.le_refl _⟩,hd σ H p⟩
theorem for_range {lo:Int} {n:Nat} {g:TG} {tb:TS} {D:Ends} {σ:St} {H:Hp} (Pv:Nat→St→Hp→Prop) (h0:Pv 0 σ H)
  (hs:∀ i σ H,i < n→Pv i σ H→g (.int (lo + i)) σ H fun σ2 H2=>tb { D with nx:=Pv (i + 1),ct:=Pv (i + 1),bk:=D.nx } σ2 H2) (hd:∀ σ H,Pv n σ H→D.nx σ H) :
  ∃ W:Nat→Nat→St→Hp→Prop,(∃ m,W 0 m σ H)∧∀ i m σ H,W i m σ H →
   ((Itr lo n).stop i H∧D.nx σ H)∨((Itr lo n).go i H∧∃ N:St→Hp→Prop,(∀ σ' H',N σ' H'→∃ m',m' < m∧W (i + 1) m' σ' H')∧∀ x H',(Itr lo n).yld i H x H'→g x σ H' fun σ2 H2=>tb { D with nx:=N,ct:=N,bk:=D.nx } σ2 H2):=by
 refine ⟨fun i m σ H=>m=n - i∧i≤n∧Pv i σ H,⟨n,by simp,Nat.zero_le _,h0⟩,?_⟩
 rintro i m σ H ⟨rfl,hi,p⟩
 by_cases hlt:i < n
 ·refine .inr ⟨hlt,Pv (i + 1),fun σ' H' p'=>⟨n - (i + 1),by omega,rfl,hlt,p'⟩,fun x H' y=>?_⟩
  obtain ⟨e,y⟩:=y
  subst e y
  exact hs i σ _ hlt p
 ·have e:i=n:=by omega
  subst e
  exact .inl ⟨Nat.le_refl _,hd σ H p⟩
end L2
namespace L2
open PySem PySem.Spec PyProof.Rows
abbrev R2:=V→V→Hp→VK→Prop
def OpR (X:Cx) (f:Value→Value→Sem Value) (r:R2):Prop :=
 ∀ (pins:List (Addr×Obj)) (s:Shared) (σ:St) (H:Hp) (x y:V) (v u:Value) (Q:VK),Inv X pins σ H s→RelV x v→RelV y u→r x y H Q →
  wpAny (model X.prog X.w) X.A (f v u) (EP X pins σ Q) X.xe s
def UnR (X:Cx) (f:Value→Sem Value) (r:V→Hp→VK→Prop):Prop :=
 ∀ (pins:List (Addr×Obj)) (s:Shared) (σ:St) (H:Hp) (x:V) (v:Value) (Q:VK),Inv X pins σ H s→RelV x v→r x H Q →
  wpAny (model X.prog X.w) X.A (f v) (EP X pins σ Q) X.xe s
def CallR (X:Cx) (f:Value) (r:List V→Hp→VK→Prop):Prop :=
 ∀ (pins:List (Addr×Obj)) (s:Shared) (σ:St) (H:Hp) (xs:List V) (us:List Value) (Q:VK),Inv X pins σ H s→Vals xs us→r xs H Q →
  wpAny (model X.prog X.w) X.A (call f us) (EP X pins σ Q) X.xe s
def tOp (r:R2) (ta tb:TE):TE:=fun σ H Q=>ta σ H fun x H1=>tb σ H1 fun y H2=>r x y H2 Q
def tUn (r:V→Hp→VK→Prop) (ta:TE):TE:=fun σ H Q=>ta σ H fun x H1=>r x H1 Q
def rI (C:Int→Int→Prop) (g:Int→Int→V):R2:=fun x y H Q=>∃ i j,x=.int i∧y=.int j∧C i j∧Q (g i j) H
def rI0 (g:Int→Int→V):R2:=fun x y H Q=>∃ i j,x=.int i∧y=.int j∧Q (g i j) H
def rU (g:Int→V):V→Hp→VK→Prop:=fun x H Q=>∃ i,x=.int i∧Q (g i) H
section
variable {X:Cx} {a b c:Expr} {ta tb tc:TE} {pos:Pos}
theorem binT (ha:PE X a ta) (hb:PE X b tb) {pins:List (Addr×Obj)} {s:Shared} {σ:St} {H:Hp} {R:V→V→Hp→Prop} (I:Inv X pins σ H s)
  (h:ta σ H fun x H1=>tb σ H1 fun y H2=>R x y H2) {Q:Value→Shared→Prop} {f:Value→Value→Sem Value}
  (hf:∀ v u s2 x y H2,Inv X pins σ H2 s2→RelV x v→RelV y u→R x y H2→wpAny (model X.prog X.w) X.A (f v u) Q X.xe s2) :
  wpAny (model X.prog X.w) X.A (eval a X.env) (fun v s₁=>wpAny (model X.prog X.w) X.A (eval b X.env) (fun u s₂=>wpAny (model X.prog X.w) X.A (f v u) Q X.xe s₂) X.xe s₁) X.xe s:=by
 refine thn (ha pins s σ H _ I h) fun v s1 ⟨x,H1,I1,r1,q1⟩=>?_
 refine thn (hb pins s1 σ H1 _ I1 q1) fun u s2 ⟨y,H2,I2,r2,q2⟩=>?_
 exact hf v u s2 x y H2 I2 r1 r2 q2
theorem pe_op {op:Operator} {r:R2} (ho:OpR X (binaryOp op) r) (ha:PE X a ta) (hb:PE X b tb):PE X (.BinOp a op b pos) (tOp r ta tb):=by
 intro pins s σ H Q I h
 exact wpAny_BinOp (binT ha hb I h fun v u s2 x y H2 I2 rx ry q=>ho pins s2 σ H2 x y v u Q I2 rx ry q)
theorem pe_un {op:UnaryOp} {r:V→Hp→VK→Prop} (ho:UnR X (unaryOp op) r) (ha:PE X a ta):PE X (.UnaryOp op a pos) (tUn r ta):=by
 intro pins s σ H Q I h
 exact UnaryOp_ (thn (ha pins s σ H _ I h) fun v s1 ⟨x,H1,I1,r1,q1⟩=>ho pins s1 σ H1 x v Q I1 r1 q1)
theorem opI {f:Value→Value→Sem Value} {C:Int→Int→Prop} {g:Int→Int→Int}
  (rule:∀ (i j:Int) (t u:Tok) (s:Shared) (Q:Value→Shared→Prop) (E:Value→Shared→Prop),C i j→Q (.int (g i j) s.toks) { s with toks:=s.toks + 1 }→wpAny (model X.prog X.w) X.A (f (.int i t) (.int j u)) Q E s) :
  OpR X f (rI C fun i j=>.int (g i j)):=by
 intro pins s σ H x y v u Q I rx ry h
 obtain ⟨i,j,rfl,rfl,hc,q⟩:=h
 obtain ⟨t,rfl⟩:=rx
 obtain ⟨t',rfl⟩:=ry
 exact rule i j t t' s _ _ hc ⟨.int (g i j),H,I.tok _,⟨_,rfl⟩,q⟩
theorem opI0 {f:Value→Value→Sem Value} {g:Int→Int→Int}
  (rule:∀ (i j:Int) (t u:Tok) (s:Shared) (Q:Value→Shared→Prop) (E:Value→Shared→Prop),Q (.int (g i j) s.toks) { s with toks:=s.toks + 1 }→wpAny (model X.prog X.w) X.A (f (.int i t) (.int j u)) Q E s) :
  OpR X f (rI0 fun i j=>.int (g i j)):=by
 intro pins s σ H x y v u Q I rx ry h
 obtain ⟨i,j,rfl,rfl,q⟩:=h
 obtain ⟨t,rfl⟩:=rx
 obtain ⟨t',rfl⟩:=ry
 exact rule i j t t' s _ _ ⟨.int (g i j),H,I.tok _,⟨_,rfl⟩,q⟩
theorem opB0 {f:Value→Value→Sem Value} {g:Int→Int→Bool}
  (rule:∀ (i j:Int) (t u:Tok) (s:Shared) (Q:Value→Shared→Prop) (E:Value→Shared→Prop),Q (.bool (g i j)) s→wpAny (model X.prog X.w) X.A (f (.int i t) (.int j u)) Q E s) :
  OpR X f (rI0 fun i j=>.bl (g i j)):=by
 intro pins s σ H x y v u Q I rx ry h
 obtain ⟨i,j,rfl,rfl,q⟩:=h
 obtain ⟨t,rfl⟩:=rx
 obtain ⟨t',rfl⟩:=ry
 exact rule i j t t' s _ _ ⟨.bl (g i j),H,I,rfl,q⟩
def CDiv (i j:Int):Prop:=0 < j∧j < 1073741824
def CPow (i j:Int):Prop:=0≤j∧j≤1000000∧i.natAbs < 2 ^ 64
def CMul (i j:Int):Prop:=(-(2 ^ 64) < i∧i < 2 ^ 64)∨(-(2 ^ 64) < j∧j < 2 ^ 64)
theorem CMul.ok {i j:Int} (h:CMul i j):IntMulOk i j:=by
 rcases h with ⟨h1,h2⟩ | ⟨h1,h2⟩
 ·exact .of_left (intBits_le_64 h1 h2)
 ·exact .of_right (intBits_le_64 h1 h2)
theorem op_add:OpR X (binaryOp .Add) (rI0 fun i j=>.int (i + j)):=opI0 fun _ _ _ _ _ _ _ q=>add_int q
theorem op_sub:OpR X (binaryOp .Sub) (rI0 fun i j=>.int (i - j)):=opI0 fun _ _ _ _ _ _ _ q=>sub_int q
theorem op_mul:OpR X (binaryOp .Mult) (rI CMul fun i j=>.int (i * j)):=opI fun _ _ _ _ _ _ _ hc q=>mul_int q hc.ok
theorem op_fdiv:OpR X (binaryOp .FloorDiv) (rI CDiv fun i j=>.int (i / j)):=opI fun i j _ _ _ _ _ hc q=>by
 have h1:(0:Int) < j:=hc.1
 have h2:j < 1073741824:=hc.2
 exact floordiv_int (by omega) (by rw [Int.fdiv_eq_ediv_of_nonneg i (by omega)]; exact q) (.inl (PyProof.noPylong_small (by omega)))
theorem op_mod:OpR X (binaryOp .Mod) (rI (fun _ j=>0 < j) fun i j=>.int (i % j)):=opI fun i j _ _ _ _ _ hc q=>by
 have h1:(0:Int) < j:=hc
 exact mod_int' (by omega) (by rw [Int.fmod_eq_emod_of_nonneg i (by omega)]; exact q)
theorem op_pow:OpR X (binaryOp .Pow) (rI CPow fun i j=>.int (i ^ j.toNat)):=opI fun _ _ _ _ _ _ _ hc q=>pow_int_small hc.1 hc.2.1 hc.2.2 q
theorem unI {f:Value→Sem Value} {g:Int→Int}
  (rule:∀ (i:Int) (t:Tok) (s:Shared) (Q:Value→Shared→Prop) (E:Value→Shared→Prop),Q (.int (g i) s.toks) { s with toks:=s.toks + 1 }→wpAny (model X.prog X.w) X.A (f (.int i t)) Q E s) :
  UnR X f (rU fun i=>.int (g i)):=by
 intro pins s σ H x v Q I rx h
 obtain ⟨i,rfl,q⟩:=h
 obtain ⟨t,rfl⟩:=rx
 exact rule i t s _ _ ⟨.int (g i),H,I.tok _,⟨_,rfl⟩,q⟩
theorem un_neg:UnR X (unaryOp .USub) (rU fun i=>.int (-i)):=unI fun _ _ _ _ _ q=>neg_int q
end
def scal:V→V→Bool
 | .non,.non=>true | .non,.int _=>true | .int _,.non=>true | .non,.bl _=>true | .bl _,.non=>true | .non,.str _=>true | .str _,.non=>true
 | .int _,.int _=>true | .bl _,.bl _=>true | .str _,.str _=>true | .byt _,.byt _=>true
 | .int _,.str _=>true | .str _,.int _=>true | .bl _,.str _=>true | .str _,.bl _=>true
 | _,_=>false
def rEq:R2:=fun x y H Q=>scal x y=true∧Q (.bl (decide (x=y))) H
def rNe:R2:=fun x y H Q=>scal x y=true∧Q (.bl (!decide (x=y))) H
theorem dec_int {i j:Int}:decide (V.int i=V.int j)=(i == j):=by
 rw [Bool.eq_iff_iff]
 simp
theorem dec_bl {i j:Bool}:decide (V.bl i=V.bl j)=(i == j):=by
 rw [Bool.eq_iff_iff]
 simp
theorem dec_str {i j:Str}:decide (V.str i=V.str j)=(i == j):=by
 rw [Bool.eq_iff_iff]
 simp
theorem dec_byt {i j:Array UInt8}:decide (V.byt i=V.byt j)=(i.toList == j.toList):=by
 rw [Bool.eq_iff_iff]
 cases i
 cases j
 simp
section
variable {X:Cx} {a b c:Expr} {ta tb tc:TE} {pos:Pos}
theorem fin_bl {pins:List (Addr×Obj)} {σ:St} {H:Hp} {s:Shared} {Q:VK} {k k':Bool} (I:Inv X pins σ H s) (q:Q (.bl k) H) (e:k=k'):EP X pins σ Q (.bool k') s:=by
 subst e
 exact ⟨.bl k,H,I,rfl,q⟩
theorem op_eq:OpR X (compareOp .Eq) rEq:=by
 intro pins s σ H x y v u Q I rx ry h
 obtain ⟨hs,q⟩:=h
 cases x with
 | non =>
  cases rx
  cases y with
  | non=>cases ry; exact PySem.EqNone.eq_none_none (fin_bl I q (by simp))
  | bl j=>cases ry; exact PySem.EqNone.eq_none_bool (fin_bl I q (by simp))
  | int j=>obtain ⟨t',rfl⟩:=ry; exact PySem.EqNone.eq_none_int (fin_bl I q (by simp))
  | str j=>obtain ⟨t',rfl⟩:=ry; exact PySem.EqNone.eq_none_str (fin_bl I q (by simp))
  | _=>exact absurd (show false=true from hs) Bool.false_ne_true
 | bl i =>
  cases rx
  cases y with
  | non=>cases ry; exact PySem.EqNone.eq_bool_none (fin_bl I q (by simp))
  | bl j=>cases ry; exact eq_bool (fin_bl I q dec_bl)
  | str j=>obtain ⟨t',rfl⟩:=ry; exact PySem.EqMixed.eq_bool_str (fin_bl I q (by simp))
  | _=>exact absurd (show false=true from hs) Bool.false_ne_true
 | int i =>
  obtain ⟨t,rfl⟩:=rx
  cases y with
  | non=>cases ry; exact PySem.EqNone.eq_int_none (fin_bl I q (by simp))
  | int j=>obtain ⟨t',rfl⟩:=ry; exact eq_int (fin_bl I q dec_int)
  | str j=>obtain ⟨t',rfl⟩:=ry; exact PySem.EqMixed.eq_int_str (fin_bl I q (by simp))
  | _=>exact absurd (show false=true from hs) Bool.false_ne_true
 | str i =>
  obtain ⟨t,rfl⟩:=rx
  cases y with
  | non=>cases ry; exact PySem.EqNone.eq_str_none (fin_bl I q (by simp))
  | bl j=>cases ry; exact PySem.EqMixed.eq_str_bool (fin_bl I q (by simp))
  | int j=>obtain ⟨t',rfl⟩:=ry; exact PySem.EqMixed.eq_str_int (fin_bl I q (by simp))
  | str j=>obtain ⟨t',rfl⟩:=ry; exact eq_str (fin_bl I q dec_str)
  | _=>exact absurd (show false=true from hs) Bool.false_ne_true
 | byt i =>
  obtain ⟨t,rfl⟩:=rx
  cases y with
  | byt j=>obtain ⟨t',rfl⟩:=ry; exact PySem.W.eq_bytes (fin_bl I q dec_byt)
  | _=>exact absurd (show false=true from hs) Bool.false_ne_true
 | _=>cases y <;> exact absurd (show false=true from hs) Bool.false_ne_true
theorem op_ne:OpR X (compareOp .NotEq) rNe:=by
 intro pins s σ H x y v u Q I rx ry h
 obtain ⟨hs,q⟩:=h
 cases x with
 | non =>
  cases rx
  cases y with
  | non=>cases ry; exact PySem.EqNone.ne_none_none (fin_bl I q (by simp))
  | bl j=>cases ry; exact PySem.EqNone.ne_none_bool (fin_bl I q (by simp))
  | int j=>obtain ⟨t',rfl⟩:=ry; exact PySem.EqNone.ne_none_int (fin_bl I q (by simp))
  | str j=>obtain ⟨t',rfl⟩:=ry; exact PySem.EqNone.ne_none_str (fin_bl I q (by simp))
  | _=>exact absurd (show false=true from hs) Bool.false_ne_true
 | bl i =>
  cases rx
  cases y with
  | non=>cases ry; exact PySem.EqNone.ne_bool_none (fin_bl I q (by simp))
  | bl j=>cases ry; exact ne_bool (fin_bl I q (congrArg not dec_bl))
  | str j=>obtain ⟨t',rfl⟩:=ry; exact PySem.EqMixed.ne_bool_str (fin_bl I q (by simp))
  | _=>exact absurd (show false=true from hs) Bool.false_ne_true
 | int i =>
  obtain ⟨t,rfl⟩:=rx
  cases y with
  | non=>cases ry; exact PySem.EqNone.ne_int_none (fin_bl I q (by simp))
  | int j=>obtain ⟨t',rfl⟩:=ry; exact ne_int (fin_bl I q (congrArg not dec_int))
  | str j=>obtain ⟨t',rfl⟩:=ry; exact PySem.EqMixed.ne_int_str (fin_bl I q (by simp))
  | _=>exact absurd (show false=true from hs) Bool.false_ne_true
 | str i =>
  obtain ⟨t,rfl⟩:=rx
  cases y with
  | non=>cases ry; exact PySem.EqNone.ne_str_none (fin_bl I q (by simp))
  | bl j=>cases ry; exact PySem.EqMixed.ne_str_bool (fin_bl I q (by simp))
  | int j=>obtain ⟨t',rfl⟩:=ry; exact PySem.EqMixed.ne_str_int (fin_bl I q (by simp))
  | str j=>obtain ⟨t',rfl⟩:=ry; exact ne_str (fin_bl I q (congrArg not dec_str))
  | _=>exact absurd (show false=true from hs) Bool.false_ne_true
 | byt i =>
  obtain ⟨t,rfl⟩:=rx
  cases y with
  | byt j=>obtain ⟨t',rfl⟩:=ry; exact PySem.W.ne_bytes (fin_bl I q (congrArg not dec_byt))
  | _=>exact absurd (show false=true from hs) Bool.false_ne_true
 | _=>cases y <;> exact absurd (show false=true from hs) Bool.false_ne_true
theorem op_lt:OpR X (compareOp .Lt) (rI0 fun i j=>.bl (decide (i < j))):=opB0 fun _ _ _ _ _ _ _ q=>lt_int q
theorem op_le:OpR X (compareOp .LtE) (rI0 fun i j=>.bl (decide (i≤j))):=opB0 fun _ _ _ _ _ _ _ q=>le_int q
theorem op_gt:OpR X (compareOp .Gt) (rI0 fun i j=>.bl (decide (j < i))):=opB0 fun _ _ _ _ _ _ _ q=>gt_int q
theorem op_ge:OpR X (compareOp .GtE) (rI0 fun i j=>.bl (decide (j≤i))):=opB0 fun _ _ _ _ _ _ _ q=>ge_int q
theorem op_isN:OpR X (compareOp .Is) (fun x y H Q=>y=.non∧Q (.bl (decide (x=.non))) H):=by
 intro pins s σ H x y v u Q I rx ry h
 obtain ⟨rfl,q⟩:=h
 cases ry
 refine is_none_gen (fin_bl I q ?_)
 cases x <;> first
  | (cases rx; rfl)
  | (obtain ⟨t,rfl⟩:=rx; rfl)
theorem nomark (b:Expr) {op:CmpOp} (h:op≠.In:=by decide) (h2:op≠.NotIn:=by decide):behindInMarks op b=false:=by
 have e1:(op == CmpOp.In)=false:=by cases op <;> first | rfl | exact absurd rfl h
 have e2:(op == CmpOp.NotIn)=false:=by cases op <;> first | rfl | exact absurd rfl h2
 cases b <;> simp [behindInMarks,e1,e2]
theorem pe_cmpR {op:CmpOp} {r:R2} (ho:OpR X (compareOp op) r) (ha:PE X a ta) (hb:PE X b tb) (hm:behindInMarks op b=false):PE X (.Compare a [op] [b] pos) (tOp r ta tb):=by
 intro pins s σ H Q I h
 exact wpAny_Compare1 (binT ha hb I h fun v u s2 x y H2 I2 rx ry q=>ho pins s2 σ H2 x y v u Q I2 rx ry q) hm
def tTest (t:TE):TT:=fun σ H Q=>t σ H fun x H'=>∃ k,x=.bl k∧Q k H'
theorem pt_cmpR {op:CmpOp} {r:R2} (ho:OpR X (compareOp op) r) (ha:PE X a ta) (hb:PE X b tb) (hm:behindInMarks op b=false):PT X (.Compare a [op] [b] pos) (tTest (tOp r ta tb)):=by
 intro pins s σ H Q I h
 refine wpAny_isTrue_Compare1 (thn (ha pins s σ H _ I h) fun v s1 ⟨x,H1,I1,r1,q1⟩=>thn (hb pins s1 σ H1 _ I1 q1) fun u s2 ⟨y,H2,I2,r2,q2⟩ =>
  thn (ho pins s2 σ H2 x y v u _ I2 r1 r2 q2) fun c s3 ⟨z,H3,I3,r3,k,e,q3⟩=>?_) hm
 subst e
 cases r3
 exact wpAny_truthy_bool ⟨H3,I3,q3⟩
def tChain (r r':R2) (ta tb tc:TE):TE:=fun σ H Q=>ta σ H fun x H1=>tb σ H1 fun y H2=>r x y H2 fun z H3=>∃ k,z=.bl k ∧
 (if k=true then tc σ H3 fun w' H4=>r' y w' H4 Q else Q (.bl false) H3)
theorem pe_chain {op op':CmpOp} {r r':R2} (ho:OpR X (compareOp op) r) (ho':OpR X (compareOp op') r') (ha:PE X a ta) (hb:PE X b tb) (hc:PE X c tc)
  (hm:lastMarks [op,op'] [b,c]=false:=by with_unfolding_all rfl):PE X (.Compare a [op,op'] [b,c] pos) (tChain r r' ta tb tc):=by
 intro pins s σ H Q I h
 refine Compare_chain (thn (ha pins s σ H _ I h) fun v s1 ⟨x,H1,I1,r1,q1⟩=>chain_link (thn (hb pins s1 σ H1 _ I1 q1) fun u s2 ⟨y,H2,I2,r2,q2⟩ =>
  thn (ho pins s2 σ H2 x y v u _ I2 r1 r2 q2) fun d s3 ⟨z,H3,I3,r3,k,e,q3⟩=>?_)) hm
 subst e
 cases r3
 refine wpAny_truthy_bool ?_
 cases k with
 | false=>exact ite_ff ⟨.bl false,H3,I3,rfl,q3⟩
 | true=>exact ite_tt (chain_last (thn (hc pins s3 σ H3 _ I3 q3) fun w' s4 ⟨z',H4,I4,r4,q4⟩=>ho' pins s4 σ H4 y z' u w' Q I4 r2 r4 q4))
theorem line63:(sizeLine:Nat) < 2 ^ 63:=by rw [sizeLine_eq]; decide
theorem vals1 {x:V} {us:List Value} (r:Vals [x] us):∃ u,us=[u]∧RelV x u:=by
 cases r with
 | cons r1 r2=>cases r2; exact ⟨_,rfl,r1⟩
theorem vals2 {x y:V} {us:List Value} (r:Vals [x,y] us):∃ u w',us=[u,w']∧RelV x u∧RelV y w':=by
 cases r with
 | cons r1 r2 =>
  cases r2 with
  | cons r3 r4=>cases r4; exact ⟨_,_,rfl,r1,r3⟩
theorem call_max2 (hc:X.calm=true):CallR X (.builtin "max") (fun xs H Q=>∃ i j,xs=[.int i,.int j]∧Q (.int (if j > i then j else i)) H):=by
 intro pins s σ H xs us Q I r h
 obtain ⟨i,j,rfl,q⟩:=h
 obtain ⟨u,w',rfl,⟨t,rfl⟩,⟨t',rfl⟩⟩:=vals2 r
 refine max_two_ints (I.ok.hd hc) fun h' tk k=>⟨_,H,I.kept k,?_,q⟩
 by_cases hj:j > i
 ·rw [if_pos hj,if_pos hj]; exact ⟨_,rfl⟩
 ·rw [if_neg hj,if_neg hj]; exact ⟨_,rfl⟩
theorem call_int1:CallR X (.type "int") (fun xs H Q=>(∃ i,xs=[.int i]∧Q (.int i) H)∨∃ k,xs=[.bl k]∧Q (.int (if k then 1 else 0)) H):=by
 intro pins s σ H xs us Q I r h
 rcases h with ⟨i,rfl,q⟩ | ⟨k,rfl,q⟩
 ·obtain ⟨u,rfl,t,rfl⟩:=vals1 r
  exact call_int_int ⟨.int i,H,I,⟨_,rfl⟩,q⟩
 ·obtain ⟨u,rfl,r1⟩:=vals1 r
  cases r1
  exact call_int_bool ⟨.int (if k then 1 else 0),H,I.tok _,⟨_,rfl⟩,q⟩
end
end L2
namespace L2
open PySem PySem.Spec PyProof.Rows
structure ObjM (h:Heap) (x dx C:Addr) (mA:Str→Option Value):Prop where
 obj:h.get? x=some (PySem.W.instObj C dx)
 ns:h.Ns1 dx mA
 ne:dx≠x
theorem lookIn_ns {h:Heap} {dx:Addr} {mA:Str→Option Value} (n:h.Ns1 dx mA):∃ od,h.get? dx=some od∧∀ name,PySem.W.lookIn name od=some (mA name):=by
 obtain ⟨o,es,ep,ho,hd,hk,_,hm⟩:=n
 refine ⟨o,ho,fun name=>?_⟩
 have e:=hm name
 unfold nsFind findBy at e
 rw [← Array.find?_toList] at e
 unfold PySem.W.lookIn
 rw [hd]
 dsimp only
 split
 ·rename_i y q
  rw [q] at e
  exact congrArg some e
 ·rename_i q
  rw [q] at e
  have a:es.toList.any (·.refKey)=false:=by
   rw [List.any_eq_false]
   intro y hy
   obtain ⟨z,t,hkey⟩:=hk y (Array.mem_toList_iff.mp hy)
   simp [DictEntry.refKey,hkey]
  have a':¬ es.toList.any (·.refKey)=true:=by rw [a]; exact Bool.false_ne_true
  rw [if_neg a']
  exact congrArg some e
theorem ObjM.look {h:Heap} {x dx C:Addr} {mA:Str→Option Value} (I:ObjM h x dx C mA):∃ od,PySem.W.InstAt h x (PySem.W.instObj C dx) C (some od)∧∀ name,PySem.W.lookIn name od=some (mA name) :=
 let ⟨od,ho,hl⟩:=lookIn_ns I.ns
 ⟨od,⟨I.obj,rfl,rfl,ho⟩,hl⟩
section
variable {prog:Program} {w:World} {A:Around} {E:Value→Shared→Prop} {s:Shared} {K:PySem.W.Frag} {x dx C f:Addr} {mA:Str→Option Value} {name:Str} {v:Value}
end
section
variable {P:Program} {w:World} {H H':Hp} {h h':Heap} {a C dx:Addr} {fs fs':List (Str×V)}
theorem ins_get (hok:HOk P w H h) (e:H a=some (.ins C dx fs)):∃ mA,ObjM h a dx C mA∧(∀ f,RelO (fs.lookup f) (mA f))∧PySem.Within mA (fs.map (·.1))∧fs.length≤1000∧H dx=some (.own a):=by
 obtain ⟨d,z,ne,ob,mA,n,r,q⟩:=(show ObjOk P w H h a (.ins C dx fs) from hok a _ e)
 exact ⟨mA,⟨ob,n,ne⟩,r,q,z,d⟩
end
structure Cls (K:PySem.W.Frag) (C:Addr):Prop where
 pg:PySem.W.plainGet K C Str.empty=true
 hd:PySem.W.hasDictIn K C=true
 po:PySem.W.plainOver K C=true
 sa:PySem.W.findIn K (.ref C) "__setattr__"=some (some (.builtin "object.__setattr__"))
theorem Cls.get {K:PySem.W.Frag} {C:Addr} (c:Cls K C) (f:Str):PySem.W.plainGet K C f=true:=c.pg
section
variable {X:Cx} {pins:List (Addr×Obj)} {σ:St} {H:Hp} {s:Shared} {a C dx:Addr} {fs:List (Str×V)} {f:Str} {v:V} {A:Around} {E:Value→Shared→Prop}
end
section
variable {X:Cx} {o e value:Expr} {f:Str} {pos pos' tpos:Pos} {ta tv:TE}
end
section
variable {X:Cx} {pins:List (Addr×Obj)} {σ:St} {H:Hp} {s:Shared} {A:Around} {E:Value→Shared→Prop} {Q:Value→Shared→Prop} {c:Value} {b:Bool}
inductive TyOf (K:PySem.W.Frag) (H:Hp):V→Value→Prop where
 | non:TyOf K H .non (.type "NoneType")
 | bl (x:Bool):TyOf K H (.bl x) (.type "bool")
 | int (i:Int):TyOf K H (.int i) (.type "int")
 | str (x:Str):TyOf K H (.str x) (.type "str")
 | flt (x:UInt64):TyOf K H (.flt x) (.type "float")
 | lst {a:Addr} {xs:List V} (e:H a=some (.lst xs)):TyOf K H (.ref a) (.type "list")
 | frz {a:Addr} {o:Obj} {xs:List V} (e:H a=some (.frz o (.lst xs))):TyOf K H (.ref a) (.type "list")
 | tup {a:Addr} {xs:List V} (e:H a=some (.tup xs)):TyOf K H (.ref a) (.type "tuple")
 | dK {a:Addr} {kvs:List (Key×V)} (e:H a=some (.dK kvs)):TyOf K H (.ref a) (.type "dict")
 | dT {a:Addr} {kvs:List (List Key×V)} (e:H a=some (.dT kvs)):TyOf K H (.ref a) (.type "dict")
 | ins {a C dx:Addr} {fs:List (Str×V)} (e:H a=some (.ins C dx fs)) (cl:Cls K C) (ha:PySem.W.findIn K (.ref C) "__class__"=some (some (.builtin "object.__class__")))
   (hn:PySem.W.specialIn K (.builtin "object.__class__") "__get__"=some (some (.builtin "getset_descriptor.__get__"))) (htk:PySem.W.takesIn K (.builtin "object.__class__")=some true)
   (hm:PySem.W.mroIn K C (.type "object")=some true):TyOf K H (.ref a) (.ref C)
theorem isinst_ok {x:V} {u t:Value} (I:Inv X pins σ H s) (rx:RelV x u) (ty:TyOf X.K H x t) (e:PySem.W.kitOne X.K t c=some b) (h:∀ tk,Q (.bool b) { s with toks:=tk }) :
  wpAny (model X.prog X.w) A (call (.builtin "isinstance") [u,c]) Q E s:=by
 cases ty with
 | non=>cases (show u=Value.none from rx); exact PySem.W.kia_one PySem.W.kitx_none I.kIn True.intro e (fun z=>nomatch z) h
 | bl y=>cases (show u=Value.bool y from rx); exact PySem.W.kia_one PySem.W.kitx_bool I.kIn True.intro e (fun z=>nomatch z) h
 | int i=>obtain ⟨t,q⟩:=(show ∃ t,u=Value.int i t from rx); cases q; exact PySem.W.kia_one PySem.W.kitx_int I.kIn True.intro e (fun z=>nomatch z) h
 | str y=>obtain ⟨t,q⟩:=(show ∃ t,u=Value.str y t from rx); cases q; exact PySem.W.kia_one PySem.W.kitx_str I.kIn True.intro e (fun z=>nomatch z) h
 | flt y=>obtain ⟨t,q⟩:=(show ∃ t,u=Value.float y t from rx); cases q; exact PySem.W.kia_one PySem.W.kitx_float I.kIn True.intro e (fun z=>nomatch z) h
 | @lst a xs ea =>
  cases (show u=Value.ref a from rx)
  obtain ⟨_,_,n,_,h1⟩:=(show ObjOk X.prog X.w H s.heap a (.lst xs) from I.hok a _ ea)
  exact PySem.W.kia_one PySem.W.kitx_list I.kIn ⟨_,h1,rfl⟩ e (fun z=>nomatch z) h
 | @frz a ob xs ea =>
  cases (show u=Value.ref a from rx)
  obtain ⟨_,_,_,n,_,h1⟩:=(show ObjOk X.prog X.w H s.heap a (.frz ob (.lst xs)) from I.hok a _ ea)
  exact PySem.W.kia_one PySem.W.kitx_list I.kIn ⟨_,h1,rfl⟩ e (fun z=>nomatch z) h
 | @tup a xs ea =>
  cases (show u=Value.ref a from rx)
  obtain ⟨_,_,_,p⟩:=(show ObjOk X.prog X.w H s.heap a (.tup xs) from I.hok a _ ea)
  obtain ⟨o,h1,h2,_⟩:=p
  exact PySem.W.kia_one PySem.W.kitx_tuple I.kIn ⟨o,h1,h2⟩ e (fun z=>nomatch z) h
 | @dK a kvs ea =>
  cases (show u=Value.ref a from rx)
  obtain ⟨_,_,vs,_,p⟩:=(show ObjOk X.prog X.w H s.heap a (.dK kvs) from I.hok a _ ea)
  obtain ⟨o,es,ep,h1,h2,_⟩:=p
  exact PySem.W.kia_one PySem.W.kitx_dict I.kIn ⟨o,h1,h2.1⟩ e (fun z=>nomatch z) h
 | @dT a kvs ea =>
  cases (show u=Value.ref a from rx)
  obtain ⟨_,_,xs,_,o,es,ep,h1,h2,_⟩:=(show ObjOk X.prog X.w H s.heap a (.dT kvs) from I.hok a _ ea)
  exact PySem.W.kia_one PySem.W.kitx_dict I.kIn ⟨o,h1,h2.1⟩ e (fun z=>nomatch z) h
 | @ins a C dx fs ea cl ha hn htk hm =>
  cases (show u=Value.ref a from rx)
  obtain ⟨mA,O,_⟩:=ins_get I.hok ea
  obtain ⟨od,J,_⟩:=O.look
  exact PySem.W.kia_one (PySem.W.kitx_own (cl.get _) cl.hd ha hn htk hm) I.kIn J e (fun z=>nomatch z) h
end
end L2
namespace L2
open PySem PySem.Spec PyProof.Rows
structure Room (k:Nat) (A:Around):Prop where
 hd:A.handled=none
 dp:A.depth + 3 * k + 5 < recursionLimit
 un:A.units + 16 * k + 200 < cLine
 gd:A.guards=some []
theorem Room.mono {j k:Nat} {A:Around} (r:Room k A) (h:j≤k):Room j A:=⟨r.hd,by have:=r.dp; omega,by have:=r.un; omega,r.gd⟩
theorem Room.deeper {k:Nat} {A:Around} (r:Room (k + 1) A) (env:Env):Room k (A.deeper env) :=
 ⟨r.hd,by have:=r.dp; show A.depth + 1 + 3 * k + 5 < _; omega,by have:=r.un; show A.units + 3 + 16 * k + 200 < _; omega,r.gd⟩
theorem make_depth {A:Around} {C:Addr} {us:List Value} {kw:List (Str×Value)}:(A.under (.builtin "type.__call__" ⟨.ref C::us,kw⟩)).depth=A.depth + 1:=by
 first | rfl | simp [Around.under,Code.weight,Code.isCreation,Code.isGuard,Code.isCaller,Code.frames,Code.isFrame,guardIds]
theorem make_units {A:Around} {C:Addr} {us:List Value} {kw:List (Str×Value)}:(A.under (.builtin "type.__call__" ⟨.ref C::us,kw⟩)).units=A.units + 1:=by
 first | rfl | simp [Around.under,Code.cUnits,Code.frames,Code.isFrame]
theorem make_guards {A:Around} {C:Addr} {us:List Value} {kw:List (Str×Value)}:(A.under (.builtin "type.__call__" ⟨.ref C::us,kw⟩)).guards=A.guards:=by
 first | rfl | simp [Around.under,Code.guards,pushGuards,Code.isGuard,guardIds]
theorem Room.make {k:Nat} {A:Around} (r:Room (k + 1) A) (C:Addr) (us:List Value) (kw:List (Str×Value)):Room k (A.under (.builtin "type.__call__" ⟨.ref C::us,kw⟩)) :=
 ⟨r.hd,by have:=r.dp; rw [make_depth]; omega,by have:=r.un; rw [make_units]; omega,by rw [make_guards]; exact r.gd⟩
theorem Room.depth {k:Nat} {A:Around} (r:Room k A):A.depth < recursionLimit:=by have:=r.dp; omega
theorem Room.units {k:Nat} {A:Around} (r:Room k A):A.units + 64 < cLine:=by have:=r.un; omega
def tNil:TA:=fun _ H Q=>Q [] H
def tCons (ta:TE) (tr:TA):TA:=fun σ H Q=>ta σ H fun x H1=>tr σ H1 fun xs H2=>Q (x::xs) H2
section
variable {X:Cx} {e:Expr} {es:List Expr} {te:TE} {t:TA} {pos:Pos}
theorem pa_nil:PA X [] tNil:=fun _ _ _ _ H Q I h=>Calls.spliced_nil ⟨[],H,I,.nil,h⟩
theorem pa_cons (ha:PE X e te) (hr:PA X es t) (hs:starEach (e::es) X.env=(false,eval e X.env)::starEach es X.env:=by rfl):PA X (e::es) (tCons te t):=by
 intro pos pins s σ H Q I h
 rw [hs]
 show wpAny _ _ (spliced ((false,eval e X.env)::backTo pos (starEach es X.env))) _ _ s
 refine Calls.spliced_cons (thn (ha pins s σ H _ I h) fun u s1 ⟨x,H1,I1,r1,q1⟩=>?_)
 exact thn (hr pos pins s1 σ H1 _ I1 q1) fun us s2 ⟨xs,H2,I2,r2,q2⟩=>⟨x::xs,H2,I2,.cons r1 r2,q2⟩
def tTup (t:TA):TE:=fun σ H Q=>t σ H fun xs H1=>xs.length≤sizeLine∧∀ p,H1 p=none→Q (.ref p) (upd H1 p (.tup xs))
def tLst (t:TA):TE:=fun σ H Q=>t σ H fun xs H1=>xs.length≤sizeLine∧∀ p,H1 p=none→Q (.ref p) (upd H1 p (.lst xs))
theorem pe_tup {x1} (h:PA X es t):PE X (.Tuple es x1 pos) (tTup t):=by
 intro pins s σ H Q I hq
 refine wpAny_Tuple_spliced (thn (h pos pins s σ H _ I hq) fun us s1 ⟨xs,H1,I1,r,z,q⟩=>⟨by rw [← r.length]; exact z,?_⟩)
 have hf:H1 s1.heap.objs.size=none:=I1.hok.fresh (Nat.le_refl _)
 refine ⟨.ref s1.heap.objs.size,upd H1 s1.heap.objs.size (.tup xs),I1.laid (t':=s1.toks) (fun b u e=>Heap.get?_push_of_some _ e) (Nat.le_refl _) ?_,rfl,q _ hf⟩
 exact ⟨z,us,r,⟨_,Heap.get?_push_size _ rfl,rfl,_,rfl⟩⟩
theorem pe_lst (h:PA X es t):PE X (.List es pos) (tLst t):=by
 intro pins s σ H Q I hq
 refine wpAny_List_spliced (thn (h pos pins s σ H _ I hq) fun us s1 ⟨xs,H1,I1,r,z,q⟩=>⟨by rw [← r.length]; exact z,?_⟩)
 have hf:H1 s1.heap.objs.size=none:=I1.hok.fresh (Nat.le_refl _)
 refine ⟨.ref s1.heap.objs.size,upd H1 s1.heap.objs.size (.lst xs),I1.laid (t':=s1.toks) (fun b u e=>Heap.get?_push_of_some _ e) (Nat.le_refl _) ?_,rfl,q _ hf⟩
 exact ⟨z,us,0,r,Heap.get?_push_size _ rfl⟩
end
abbrev Sp:=List V→Hp→VK→XK→Prop
abbrev CXT:=List Env→Hp→Shared→XK→Value→Shared→Prop
structure Env0 (P:Program) (w:World) (K:PySem.W.Frag) (mg:Str→Option Value) (base:Heap) (A:Around) (outer:List Env) (s:Shared) (H:Hp):Prop where
 frames:A.frames=some outer
 mod:Mod K mg base
 bs:∀ b o,base.get? b=some o→s.heap.get? b=some o∧H b=none
 bsz:base.objs.size≤s.heap.objs.size
 funs:s.heap.FunFrames base outer
 frf:∀ b∈frs outer,H b=none
 hok:HOk P w H s.heap
 bare:AllBare s.gens
def CE (outer:List Env) (P:Program) (w:World) (H:Hp) (s:Shared) (Q:VK) (u:Value) (s':Shared):Prop :=
 ∃ v H',s'.os=s.os∧AllBare s'.gens∧Un (frs outer) [] H H' s.heap s'.heap∧HOk P w H' s'.heap∧RelV v u∧Q v H'
def CR (CX:CXT) (outer:List Env) (P:Program) (w:World) (H:Hp) (s:Shared) (Q:VK) (E:XK) (r:Result) (s':Shared):Prop :=
 match r with
 | .ok (.ret u)=>CE outer P w H s Q u s'
 | .ok _=>False
 | .error e=>CX outer H s E e s'
structure FnOk (P:Program) (w:World) (K:PySem.W.Frag) (mg:Str→Option Value) (base:Heap) (CX:CXT) (k:Nat) (f:Addr) (fd:FuncData) (ps:List Str) (sp:Sp):Prop where
 len:∀ vs H Q E,sp vs H Q E→vs.length=ps.length
 run:∀ (A:Around) (outer:List Env) (s:Shared) (H:Hp) (args:Args) (us:List Value) (vs:List V) (Q:VK) (E:XK),Room k A→Env0 P w K mg base A outer s H→BindsTo s fd args (ps.zip us)→Vals vs us→sp vs H Q E →
  codeAny (model P w) A (.call (.ref f) args) (CR CX outer P w H s Q E) s
theorem Env0.make {P:Program} {w:World} {K:PySem.W.Frag} {mg:Str→Option Value} {base:Heap} {A:Around} {outer:List Env} {s:Shared} {H:Hp} (e:Env0 P w K mg base A outer s H) (C:Addr) (us:List Value) (kw:List (Str×Value)) :
  Env0 P w K mg base (A.under (.builtin "type.__call__" ⟨.ref C::us,kw⟩)) outer s H:=⟨by first | exact e.frames | (simpa [Around.under,Code.envs,Code.isFrame,pushEnvs] using e.frames),e.mod,e.bs,e.bsz,e.funs,e.frf,e.hok,e.bare⟩
section
variable {X:Cx} {pins:List (Addr×Obj)} {σ:St} {H:Hp} {s s':Shared}
theorem Inv.env0 (I:Inv X pins σ H s):Env0 X.prog X.w X.K X.mg X.base X.A X.stack s H :=
 ⟨I.ok.frames,I.ok.mod,I.bs,Nat.le_trans I.ok.bsz I.sz,I.stack,I.stkFree,I.hok,I.bare⟩
theorem Inv.after {Q:VK} {u:Value} (I:Inv X pins σ H s) (h:CE X.stack X.prog X.w H s Q u s'):EP X pins σ Q u s':=by
 obtain ⟨v,H',os,bare,un,hok,r,q⟩:=h
 obtain ⟨hh,g,d,t,os'⟩:=s'
 obtain rfl:os'=s.os:=os
 exact ⟨v,H',I.call (h':=hh) (g':=g) (d':=d) (t':=t) (ch:=[]) un hok bare (fun b z=>absurd z (by simp)),r,q⟩
end
def tCall (sp:Sp) (dvs:List V) (E:XK) (t:TA):TE:=fun σ H Q=>t σ H fun vs H1=>sp (vs++dvs) H1 Q E
def Binds (K:PySem.W.Frag) (fd:FuncData) (ps:List Str) (ds:List Value):Prop :=
 ∀ (s:Shared) (us:List Value),K.In s.heap→(us++ds).length=ps.length→BindsTo s fd ⟨us,[]⟩ (ps.zip (us++ds))
theorem Binds.all {K:PySem.W.Frag} {fd:FuncData} {ps:List Str} (h:∀ us:List Value,us.length=ps.length→bindArgs fd ⟨us,[]⟩=pure (ps.zip us)):Binds K fd ps []:=fun s us _ hl=>by
 rw [List.append_nil] at hl ⊢
 exact .of_eq (h us hl)
def Passes (CX:CXT) (X:Cx) (E:XK):Prop:=∀ (pins:List (Addr×Obj)) (σ:St) (H:Hp) (s:Shared) (e:Value) (s':Shared),Inv X pins σ H s→CX X.stack H s E e s'→X.xe e s'
section
variable {X:Cx} {CX:CXT} {k:Nat} {f C:Addr} {fd:FuncData} {ps:List Str} {sp:Sp} {dvs:List V} {ds:List Value} {E:XK} {x m:Str} {p pos apos:Pos} {e o:Expr} {es:List Expr} {ta:TE} {t:TA}
theorem run_fn {pins:List (Addr×Obj)} {σ:St} {H:Hp} {s:Shared} {Q:VK} {us:List Value} {vs:List V} (F:FnOk X.prog X.w X.K X.mg X.base CX k f fd ps sp) (hr:Room k X.A) (hb:Binds X.K fd ps ds) (hd:Vals dvs ds) (hx:Passes CX X E)
  (I:Inv X pins σ H s) (r:Vals vs us) (h:sp (vs++dvs) H Q E):wpAny (model X.prog X.w) X.A (call (.ref f) us) (EP X pins σ Q) X.xe s:=by
 have r2:Vals (vs++dvs) (us++ds):=r.append hd
 have hl:(us++ds).length=ps.length:=by rw [← r2.length]; exact F.len _ _ _ _ h
 refine wpAny_call (codeAny_mono (F.run X.A X.stack s H ⟨us,[]⟩ (us++ds) (vs++dvs) Q E hr I.env0 (hb s us I.kIn hl) r2 h) fun r s' hq=>?_)
 cases r with
 | error e=>exact hx pins σ H s e s' I hq
 | ok fl =>
  cases fl with
  | ret u=>exact I.after hq
  | next=>exact False.elim hq
  | brk=>exact False.elim hq
  | cont=>exact False.elim hq
theorem pe_call (F:FnOk X.prog X.w X.K X.mg X.base CX k f fd ps sp) (hr:Room k X.A) (hg:Gl X x) (hm:X.mg x=some (.ref f)) (hk:PySem.W.keepIn X.K (.ref f)=true) (hb:Binds X.K fd ps ds) (hd:Vals dvs ds) (hx:Passes CX X E)
  (ha:PA X (e::es) t) (hdb:(x == ("__debug__":Str))=false:=by decide) (he:starEach (e::es) X.env=(false,eval e X.env)::starEach es X.env:=by rfl) (hpl:(backTo pos (starEach es X.env)).any (·.1)=false:=by rfl) :
  PE X (.Call (.Name x p) (e::es) [] pos) (tCall sp dvs E t):=by
 intro pins s σ H Q I h
 refine wpAny_Call_Name_kw (ld_glob I hg hm ?_ hdb)
 refine PySem.W.callWith_K (h₀:=X.base) I.ok.mod.kin hk (thn (ha pos pins s σ H _ I h) fun us s1 ⟨vs,H1,I1,r,q⟩=>⟨I1.kIn,?_⟩) he hpl
 exact run_fn F hr hb hd hx I1 r q
end
section
variable {X:Cx} {CX:CXT} {k:Nat} {f C:Addr} {fd:FuncData} {ps ks:List Str} {sp:Sp} {E:XK} {x m:Str} {p pos apos kpos:Pos} {e o:Expr} {es:List Expr} {kws:List Keyword} {te ta:TE} {t tk:TA} {nm:Option Str}
variable {g:List Value→List Value→List Value} {gV:List V→List V→List V}
end
structure FnScope (N P:List Str) (sc:Scope):Prop where
 kind:sc.kind=.function
 co:sc.isCoroutine=false
 gen:sc.isGenerator=false
 nd:N.Nodup
 pre:N.take P.length=P
 par:∀ x∈P,sc.names.lookup x=some .local∨sc.names.lookup x=some .cell
 nofree:∀ y∈sc.names,y.2≠.free
theorem bindL_out {kindOf:Str→Option NameKind} {x:Str}:∀ {binds:List (Str×Value)} {m:Str→Option Value},(∀ v,(x,v) ∉ binds)→bindL kindOf binds m x=m x
 | [],_,_=>rfl
 | (n,v)::r,m,h=>by
  unfold bindL
  rw [bindL_out fun w hw=>h w (List.mem_cons_of_mem _ hw)]
  split
  ·have:x≠n:=by rintro rfl; exact h v List.mem_cons_self
   simp [this]
  ·rfl
theorem bindC_out {kindOf:Str→Option NameKind} {x:Str}:∀ {binds:List (Str×Value)} {m:Str→Option Value},(∀ v,(x,v) ∉ binds)→bindC kindOf binds m x=m x
 | [],_,_=>rfl
 | (n,v)::r,m,h=>by
  unfold bindC
  rw [bindC_out fun w hw=>h w (List.mem_cons_of_mem _ hw)]
  split
  ·rfl
  ·have:x≠n:=by rintro rfl; exact h v List.mem_cons_self
   simp [this]
theorem bindL_get {kindOf:Str→Option NameKind} {x:Str} {v:Value}:∀ {P:List Str} {vs:List Value} {i:Nat} {m:Str→Option Value},P.Nodup→P[i]?=some x→vs[i]?=some v→kindOf x=some .local →
  bindL kindOf (P.zip vs) m x=some v
 | [],_,_,_,_,h,_,_=>by simp at h
 | _::_,[],_,_,_,_,h,_=>by simp at h
 | p::P,w::vs,0,m,nd,h1,h2,hk=>by
  simp at h1 h2; subst h1; subst h2
  show bindL kindOf ((p,w)::P.zip vs) m p=_
  unfold bindL
  rw [bindL_out fun v hv=>(List.nodup_cons.mp nd).1 (List.of_mem_zip hv).1,if_pos hk]
  simp
 | p::P,w::vs,i + 1,m,nd,h1,h2,hk=>by
  show bindL kindOf ((p,w)::P.zip vs) m x=_
  unfold bindL
  exact bindL_get (i:=i) (List.nodup_cons.mp nd).2 (by simpa using h1) (by simpa using h2) hk
theorem bindC_get {kindOf:Str→Option NameKind} {x:Str} {v:Value}:∀ {P:List Str} {vs:List Value} {i:Nat} {m:Str→Option Value},P.Nodup→P[i]?=some x→vs[i]?=some v→kindOf x≠some .local →
  bindC kindOf (P.zip vs) m x=some v
 | [],_,_,_,_,h,_,_=>by simp at h
 | _::_,[],_,_,_,_,h,_=>by simp at h
 | p::P,w::vs,0,m,nd,h1,h2,hk=>by
  simp at h1 h2; subst h1; subst h2
  show bindC kindOf ((p,w)::P.zip vs) m p=_
  unfold bindC
  rw [bindC_out fun v hv=>(List.nodup_cons.mp nd).1 (List.of_mem_zip hv).1,if_neg hk]
  simp
 | p::P,w::vs,i + 1,m,nd,h1,h2,hk=>by
  show bindC kindOf ((p,w)::P.zip vs) m x=_
  unfold bindC
  exact bindC_get (i:=i) (List.nodup_cons.mp nd).2 (by simpa using h1) (by simpa using h2) hk
def start (N:List Str) (vs:List V):St:=vs.map some++List.replicate (N.length - vs.length) none
def cxOf (CX:CXT) (P:Program) (w:World) (K:PySem.W.Frag) (mg:Str→Option Value) (base:Heap) (N:List Str) (qual:Str) (scope:Scope) (f:Addr) (cd:Value) (A:Around) (outer:List Env) (s:Shared) (H:Hp) (E:XK):Cx where
 prog:=P
 w:=w
 K:=K
 mg:=mg
 base:=base
 A:=A.deeper (envOfC qual scope s.heap.objs.size f cd)
 N:=N
 s₀:=s
 H₀:=H
 env:=envOfC qual scope s.heap.objs.size f cd
 outer:=outer
 stack:=envOfC qual scope s.heap.objs.size f cd::outer
 ex:=[]
 calm:=true
 fn:=fun _=>true
 pn:=[]
 xe:=fun e s'=>wpAny (model P w) (A.deeper (envOfC qual scope s.heap.objs.size f cd)) (leaving (envOfC qual scope s.heap.objs.size f cd) e) (fun _ s''=>CX outer H s E e s'') (fun e' s''=>CX outer H s E e' s'') s'
theorem cell_has {sc:Scope} {n:Nat} {x:Str} (h:sc.names.lookup x=some .cell):∃ c,(cellsFrom n sc.names []).lookup x=some c:=by
 have q:=PySem.W.cellsFrom_some sc.names n [] (.inl h)
 exact Option.isSome_iff_exists.mp q
theorem inv_start {CX:CXT} {P:Program} {w:World} {K:PySem.W.Frag} {mg:Str→Option Value} {base:Heap} {N ps:List Str} {qual:Str} {scope:Scope} {f:Addr} {cd:Value} {A:Around} {outer:List Env} {s s1:Shared} {H:Hp} {E:XK} {us:List Value} {vs:List V}
  (S:FnScope N ps scope) (hd:A.handled=none) (e0:Env0 P w K mg base A outer s H) (hl:vs.length=ps.length) (r:Vals vs us)
  (x:InCallC s s.heap.objs.size (bindL (envOfC qual scope s.heap.objs.size f cd).kindOf (ps.zip us) fun _=>none) (cellsFrom (s.heap.objs.size + 1) scope.names []) (bindC (envOfC qual scope s.heap.objs.size f cd).kindOf (ps.zip us) fun _=>none) s1) :
  Inv (cxOf CX P w K mg base N qual scope f cd A outer s H E) [] (start N vs) H s1:=by
 have hpl:ps.length≤N.length:=by have:=congrArg List.length S.pre; rw [List.length_take] at this; omega
 obtain ⟨h1,tk,rfl,hk⟩:=x.done
 have noA:∀ b:Addr,b ∉ (cxOf CX P w K mg base N qual scope f cd A outer s H E).ex:=fun b z=>absurd (show b∈([]:List Addr) from z) (by simp)
 refine ⟨⟨e0.mod,S.kind,rfl,rfl,Nat.le_refl _,fun y z c h1 h2=>?_,fun y hy=>?_,fun y c _ h=>?_,fun _=>hd,Around.frames_deeper e0.frames,.inr ⟨rfl,rfl⟩,fun b z=>absurd z (noA b),e0.bs,e0.bsz,fun b _ _=>noA b,fun b z=>absurd z (noA b),e0.funs,e0.frf⟩,
  rfl,e0.bare,Un.kept hk,⟨_,x.toInCall.ns,fun i y v h1 h2 h3=>?_⟩,fun y c h=>⟨_,x.cell y c h⟩,e0.hok.fresh (Nat.le_refl _),fun y c h=>?_,fun p hp=>absurd (show p∈([]:List (Addr×Obj)) from hp) (by simp),e0.hok.kept hk,?_⟩
 ·exact name_of_addr x.apart (PySem.mem_of_lookup h1) (PySem.mem_of_lookup h2)
 ·have hy:scope.names.lookup y=some .cell∨scope.names.lookup y=some .free:=hy
  rcases hy with hy | hy
  ·exact cell_has hy
  ·exact absurd rfl (S.nofree _ (PySem.mem_of_lookup hy))
 ·exact Nat.le_of_lt (x.above y c (PySem.mem_of_lookup h))
 ·have hi:i < vs.length:=by
   unfold start at h2
   by_cases hi:i < vs.length
   ·exact hi
   ·rw [List.getElem?_append_right (by simpa using hi)] at h2
    rw [List.getElem?_replicate] at h2
    split at h2 <;> cases h2
  have ha:vs[i]?=some v:=by
   unfold start at h2
   rw [List.getElem?_append_left (by simpa using hi),List.getElem?_map] at h2
   cases e:vs[i]? with
   | none=>rw [e] at h2; cases h2
   | some a=>rw [e] at h2; cases h2; rfl
  obtain ⟨u,hu,rv⟩:=r.get ha
  have hp:ps[i]?=some y:=by
   rw [← S.pre,List.getElem?_take_of_lt (by omega)]; exact h1
  have ndP:ps.Nodup:=by rw [← S.pre]; exact S.nd.sublist (List.take_sublist _ _)
  refine ⟨u,rv,?_⟩
  rcases S.par y (List.mem_of_getElem? hp) with k | k
  ·exact .inl ⟨k,bindL_get ndP hp hu k⟩
  ·obtain ⟨c,e⟩:=cell_has (n:=s.heap.objs.size + 1) k
   refine .inr ⟨.inl k,c,e,?_⟩
   have q:=x.cell y c e
   rw [bindC_get ndP hp hu (by show scope.names.lookup y≠_; rw [k]; decide)] at q
   exact q
 ·exact e0.hok.fresh (Nat.le_of_lt (x.above y c (PySem.mem_of_lookup h)))
 ·unfold start
  show _=N.length
  rw [List.length_append,List.length_map,List.length_replicate]
  omega
theorem fn_of {CX:CXT} {P:Program} {w:World} {K:PySem.W.Frag} {mg:Str→Option Value} {base:Heap} {k:Nat} {f:Addr} {name qual:Str} {params:Arguments} {body:List Stmt} {scope:Scope} {dV kV doc pm cdv ct oc:Value} {an od:Option Addr}
  {osl:Array (Option Value)} {N ps:List Str} {sp:Sp} (lk:K.lookup f=some ⟨oc,od,.func (PySem.W.fnOf name qual params body scope dV kV doc pm an cdv ct),osl⟩) (hcd:PySem.W.codeIn K cdv qual=true) (S:FnScope N ps scope)
  (len:∀ vs H Q E,sp vs H Q E→vs.length=ps.length)
  (hbody:∀ (A:Around) (outer:List Env) (s:Shared) (H:Hp) (vs:List V) (Q:VK) (E:XK),Room k (A.deeper (envOfC qual scope s.heap.objs.size f cdv))→sp vs H Q E →
   ∃ t,PSs (cxOf CX P w K mg base N qual scope f cdv A outer s H E) body t∧t { nx:=fun _ H'=>Q .non H',rt:=Q } (start N vs) H) :
  FnOk P w K mg base CX (k + 1) f (PySem.W.fnOf name qual params body scope dV kV doc pm an cdv ct) ps sp:=by
 refine ⟨len,fun A outer s H args us vs Q E hr e0 hb r hsp=>?_⟩
 have hl:=len _ _ _ _ hsp
 have KX:K.In s.heap:=e0.mod.kin.keeps fun b o e=>(e0.bs b o e).1
 have lim:s.heap.NoLimit:=e0.mod.nolimit.keeps fun b o e=>(e0.bs b o e).1
 have hkind:∀ y∈ps.zip us,scope.names.lookup y.1=some .local∨(scope.names.lookup y.1=some .cell∧((cellsFrom (s.heap.objs.size + 1) scope.names []).lookup y.1).isSome=true):=fun ⟨n,v⟩ hy=>by
  rcases S.par n (List.of_mem_zip hy).1 with q | q
  ·exact .inl q
  ·exact .inr ⟨q,PySem.W.cellsFrom_some _ _ _ (.inl q)⟩
 refine codeAny_call_function hr.depth (KX _ _ lk) rfl S.co S.gen rfl (PySem.W.codeRec_of KX hcd) (hb _ _ _ _ ?_)
 refine wpAny_newFunctionEnv_cells S.kind hkind fun env he s1 x=>?_
 subst he
 refine ⟨lim.keeps x.toInCall.keep,codeAny_func ?_⟩
 obtain ⟨t,ht,hq⟩:=hbody A outer s H vs Q E (hr.deeper _) hsp
 have I:Inv (cxOf CX P w K mg base N qual scope f cdv A outer s H E) [] (start N vs) H s1:=inv_start S hr.hd e0 hl r x
 refine wpAny_mono (ht [] s1 (start N vs) H _ I hq) (fun fl s' hs=>?_) fun e s' hs=>hs
 have fin:∀ {σ':St} {H':Hp} {v:V} {u:Value},Inv (cxOf CX P w K mg base N qual scope f cdv A outer s H E) [] σ' H' s'→RelV v u→Q v H'→CE outer P w H s Q u s' :=
  fun {σ' H' v u} J rv q=>⟨v,H',J.os,J.bare,J.base,J.hok,rv,q⟩
 cases fl with
 | ret u =>
  obtain ⟨v,σ',H',J,rv,q⟩:=hs
  exact fin J rv q
 | next =>
  obtain ⟨σ',H',J,q⟩:=hs
  exact fin (v:=V.non) (u:=Value.none) J rfl q
 | brk =>
  obtain ⟨_,_,_,q⟩:=hs
  exact False.elim q
 | cont =>
  obtain ⟨_,_,_,q⟩:=hs
  exact False.elim q
end L2
namespace L2
open PySem PySem.Spec PyProof.Rows
section
variable {X:Cx} {x:Str} {p pos:Pos} {e:Expr} {es:List Expr} {t:TA} {id T:String} {r:List V→Hp→VK→Prop}
def tCB (r:List V→Hp→VK→Prop) (t:TA):TE:=fun σ H Q=>t σ H fun vs H1=>r vs H1 Q
theorem pe_callB (hc:CallR X (.builtin id) r) (hg:Gl X x) (hm:X.mg x=none) (hv:bootBuiltins x=some (.builtin id)) (ha:PA X (e::es) t) (hn:x≠"__name__":=by decide) (hdb:(x == ("__debug__":Str))=false:=by decide)
  (he:starEach (e::es) X.env=(false,eval e X.env)::starEach es X.env:=by rfl) (hpl:(backTo pos (starEach es X.env)).any (·.1)=false:=by rfl):PE X (.Call (.Name x p) (e::es) [] pos) (tCB r t):=by
 intro pins s σ H Q I h
 refine wpAny_Call_Name_kw (ld_blt I hg hm hv ?_ hn hdb)
 exact PyProof.Rows.callWith_builtin1 (thn (ha pos pins s σ H _ I h) fun us s1 ⟨vs,H1,I1,r1,q1⟩=>hc pins s1 σ H1 vs us Q I1 r1 q1) he hpl
theorem pe_callTy (hc:CallR X (.type T) r) (hg:Gl X x) (hm:X.mg x=none) (hv:bootBuiltins x=some (.type T)) (ha:PA X (e::es) t) (hn:x≠"__name__":=by decide) (hdb:(x == ("__debug__":Str))=false:=by decide)
  (he:starEach (e::es) X.env=(false,eval e X.env)::starEach es X.env:=by rfl) (hpl:(backTo pos (starEach es X.env)).any (·.1)=false:=by rfl):PE X (.Call (.Name x p) (e::es) [] pos) (tCB r t):=by
 intro pins s σ H Q I h
 refine wpAny_Call_Name_kw (ld_blt I hg hm hv ?_ hn hdb)
 exact PyProof.Rows.callWith_type1 (thn (ha pos pins s σ H _ I h) fun us s1 ⟨vs,H1,I1,r1,q1⟩=>hc pins s1 σ H1 vs us Q I1 r1 q1) he hpl
end
end L2
namespace HT
open PySem PyProof.Rows
section
open PySem.SeqAt
open PySem.AutoSeq1 (wpAny_loadPart')
open PySem.MeetsSeq PySem.MeetsSeq2 PySem.MeetsSeq3
end
section
variable {prog:Program} {w:World} {A:Around} {E:Value→Shared→Prop} {s:Shared}
theorem cat_tup {t b:Addr} {vs ws:List Value} {Q:Value→Shared→Prop} (ht:IsTup s.heap t vs.toArray) (hb:IsTup s.heap b ws.toArray) (hv:vs≠[])
  (h1:ws=[]→Q (.ref t) s) (h2:ws≠[]→Q (.ref s.heap.objs.size) { s with heap:=s.heap.push { cls:=.type "tuple",data:=.seq (vs++ws).toArray } })
  (hsz:vs.length + ws.length≤sizeLine):wpAny (model prog w) A (binaryOp .Add (.ref t) (.ref b)) Q E s:=by
 obtain ⟨⟨cls,dd,data,sl⟩,ho,hc,n,hd⟩:=id ht
 obtain ⟨⟨cls2,dd2,data2,sl2⟩,ho2,hc2,n2,hd2⟩:=id hb
 simp only at hc hd hc2 hd2
 subst hc hd hc2 hd2
 have e:vs.toArray++ws.toArray=(vs++ws).toArray:=by simp
 by_cases hw:ws=[]
 ·exact concat_meets ⟨_,ho,rfl⟩ ⟨_,ho2,rfl⟩ noFill_tuple_add seq_tuple_add PySem.F.slot_tuple_add PySem.F.entry_tuple_add (PySem.F.args_tuple_add_2 _ _)
   (tuple_addW1 t b vs.toArray ws.toArray n n2 dd dd2 sl sl2 (by simpa using hv) (by simp [hw])) ⟨ho,ho2,h1 hw⟩
 ·refine concat_meets ⟨_,ho,rfl⟩ ⟨_,ho2,rfl⟩ noFill_tuple_add seq_tuple_add PySem.F.slot_tuple_add PySem.F.entry_tuple_add (PySem.F.args_tuple_add_2 _ _)
   (tuple_addW2 t b vs.toArray ws.toArray n n2 dd dd2 sl sl2 (by simpa using hv) (by simpa using hw) (by rw [List.size_toArray,List.size_toArray]; exact hsz)) ⟨ho,ho2,?_⟩
  rw [e]
  exact h2 hw
def sIx (n d:Nat):Option Int→Nat
 | none=>d
 | some v=>if v < 0 then (v + (n:Int)).toNat else min v.toNat n
theorem sIx_none (n d:Nat):sIx n d none=d:=rfl
theorem sIx_nat (n d k:Nat):sIx n d (some (k:Int))=min k n:=by
 show (if (k:Int) < 0 then ((k:Int) + (n:Int)).toNat else min (k:Int).toNat n)=min k n
 rw [if_neg (by omega),Int.toNat_natCast]
theorem sIx_le (n d:Nat) (hd:d≤n) (o:Option Int):sIx n d o≤n:=by
 cases o with
 | none=>exact hd
 | some v =>
  show (if v < 0 then (v + (n:Int)).toNat else min v.toNat n)≤n
  by_cases hv:v < 0
  ·rw [if_pos hv]; omega
  ·rw [if_neg hv]; exact Nat.min_le_right _ _
theorem clip_eq (v:Int) (n d:Nat):(if v < 0 then max (v + (n:Int)) 0 else min v (n:Int))=((sIx n d (some v):Nat):Int):=by
 show (if v < 0 then max (v + (n:Int)) 0 else min v (n:Int))=(((if v < 0 then (v + (n:Int)).toNat else min v.toNat n):Nat):Int)
 by_cases hv:v < 0
 ·simp only [if_pos hv]; omega
 ·simp only [if_neg hv]; omega
theorem adjust_gen (lo hi:Option Int) (n:Nat):Builtin.Slice.sliceAdjust lo hi 1 (n:Int)=(((sIx n 0 lo:Nat):Int),((sIx n n hi:Nat):Int)):=by
 have h1:¬ ((1:Int) < 0):=by omega
 unfold Builtin.Slice.sliceAdjust
 simp only [h1,if_false]
 refine Prod.ext ?_ ?_
 ·cases lo with
  | none=>rfl
  | some v=>exact clip_eq v n 0
 ·cases hi with
  | none=>rfl
  | some v=>exact clip_eq v n n
theorem places_gen (i j:Nat):Builtin.Slice.slicePlaces (i:Int) (j:Int) 1=j - i:=by
 unfold Builtin.Slice.slicePlaces
 have h1:(1:Int) > 0:=by omega
 simp only [h1,if_true,Int.ediv_one]
 split <;> omega
theorem slicePart_ {v:Value} {o:Option Int} {Q:Option Int→Shared→Prop} (p:IsPart v o) (h:Q o s):wpAny (model prog w) A (Builtin.Slice.slicePartIndex v) Q E s:=by
 cases p with
 | none=>exact slicePart_none h
 | int i t=>exact slicePart_int h
theorem sliceApplied_gen {sl:Addr} {vl vu:Value} {lo hi:Option Int} {n:Nat} {Q:Int×Int×Nat→Shared→Prop} (hs:s.heap.IsSliceOf sl vl vu .none) (pl:IsPart vl lo) (pu:IsPart vu hi)
  (h:Q (((sIx n 0 lo:Nat):Int),1,sIx n n hi - sIx n 0 lo) s):wpAny (model prog w) A (Builtin.Slice.sliceApplied (.ref sl) (pure (n:Int))) Q E s:=by
 obtain ⟨os,hos,hcs,hds⟩:=id hs
 unfold Builtin.Slice.sliceApplied Builtin.Slice.sliceFields
 refine wpAny_bind (wpAny_bind (wpAny_field hos hds (x:=vl) rfl (wpAny_bind (wpAny_field hos hds (x:=vu) rfl (wpAny_bind (wpAny_field hos hds (x:=.none) rfl (wpAny_pure ?_)))))))
 refine wpAny_bind (slicePart_none ?_)
 show wpAny _ _ (if ((1:Int) == 0)=true then _ else _) _ _ s
 rw [if_neg (by decide)]
 refine wpAny_bind (slicePart_ pl (wpAny_bind (slicePart_ pu (wpAny_bind (wpAny_pure ?_)))))
 show wpAny _ _ (match Builtin.Slice.sliceAdjust lo hi 1 (n:Int) with | (lo,hi)=>pure (lo,(1:Int),Builtin.Slice.slicePlaces lo hi 1)) _ _ s
 rw [adjust_gen lo hi n]
 show wpAny _ _ (pure (((sIx n 0 lo:Nat):Int),(1:Int),Builtin.Slice.slicePlaces ((sIx n 0 lo:Nat):Int) ((sIx n n hi:Nat):Int) 1)) _ _ s
 rw [places_gen]
 exact wpAny_pure h
theorem pick_gen (xs:Array Value) (i k:Nat):((List.range k).filterMap fun (m:Nat)=>xs[((i:Int) + (m:Int) * 1).toNat]?).toArray=((xs.toList.drop i).take k).toArray:=by
 have e:(fun (m:Nat)=>xs[((i:Int) + (m:Int) * 1).toNat]?)=fun m=>xs[i + m]?:=by
  funext m
  have:((i:Int) + (m:Int) * 1).toNat=i + m:=by omega
  rw [this]
 rw [e]
 have:=pick_run xs i k
 rw [List.filterMap_map] at this
 have e2:((fun x=>xs[x]?) ∘ fun x=>i + x)=fun m=>xs[i + m]?:=rfl
 rw [e2] at this
 rw [this]
theorem getItem_tuple_cut {t sl:Addr} {items:Array Value} {vl vu:Value} {lo hi:Option Int} {Q:Value→Shared→Prop} (ht:IsTup s.heap t items) (hs:s.heap.IsSliceOf sl vl vu .none) (pl:IsPart vl lo) (pu:IsPart vu hi)
  (hw:¬ (sIx items.size 0 lo=0∧sIx items.size items.size hi=items.size))
  (h:Q (.ref s.heap.objs.size) { s with heap:=s.heap.push { cls:=.type "tuple",data:=.seq ((items.toList.drop (sIx items.size 0 lo)).take (sIx items.size items.size hi - sIx items.size 0 lo)).toArray } })
  (hsz:items.size≤sizeLine):wpAny (model prog w) A (getItem (.ref t) (.ref sl)) Q E s:=by
 have htake:sizeOk (.seq ((items.toList.drop (sIx items.size 0 lo)).take (sIx items.size items.size hi - sIx items.size 0 lo)).toArray):=by
  show ((items.toList.drop (sIx items.size 0 lo)).take (sIx items.size items.size hi - sIx items.size 0 lo)).toArray.size≤sizeLine
  rw [List.size_toArray,List.length_take,List.length_drop,Array.length_toList]
  omega
 have hj:sIx items.size items.size hi≤items.size:=sIx_le _ _ (Nat.le_refl _) hi
 obtain ⟨os,hos,hcs,hds⟩:=id hs
 have hTs:s.TypeIs (.ref sl) "slice":=⟨os,hos,hcs⟩
 unfold getItem
 try with_reducible refine wpAny_holding ?_
 first | refine wpAny_bind (wpAny_pure ?_) | skip
 refine wpAny_bind (wpAny_sequenceKey ht.typeIs (by decide) ?_)
 refine wpAny_bind (wpAny_callSpecial?_slot (name:=Str.ofString "__getitem__") ht.typeIs PyProof.Rows.slot_tuple_getitem
  (wpAny_call_entry PyProof.Rows.slot_tuple_getitem ht.typeIs entry_tuple_getitem ?_ (args_tuple_getitem _ _)))
 show wpAny _ _ (Builtin.Tuple.tupleItemsOf (.ref t) >>= _) _ _ s
 refine wpAny_bind (tupleItemsOf_ ht ?_)
 refine wpAny_bind (wpAny_typeOf hTs ?_)
 rw [if_pos (by decide)]
 refine wpAny_bind (sliceApplied_gen hs pl pu ?_)
 have hno:¬ ((((sIx items.size 0 lo:Nat):Int) == 0 && (1:Int) == 1 && (sIx items.size items.size hi - sIx items.size 0 lo) == items.size)=true):=by
  intro q
  rw [Bool.and_eq_true,Bool.and_eq_true] at q
  have q1:((sIx items.size 0 lo:Nat):Int)=0:=eq_of_beq q.1.1
  have q2:sIx items.size items.size hi - sIx items.size 0 lo=items.size:=eq_of_beq q.2
  exact hw ⟨by omega,by omega⟩
 show wpAny _ _ (if (((sIx items.size 0 lo:Nat):Int) == 0 && (1:Int) == 1 && (sIx items.size items.size hi - sIx items.size 0 lo) == items.size)=true then _ else _) _ _ s
 rw [if_neg hno,pick_gen]
 first
  | exact wpAny_bind (m:=Builtin.Tuple.tupleExact _) (wpAny_newObj_type (wpAny_pure ⟨_,rfl,wpAny_pure h⟩) htake)
  | exact wpAny_bind (m:=Builtin.Tuple.tupleExact _) (wpAny_newObj_type (wpAny_bind (wpAny_pure (wpAny_pure ⟨_,rfl,wpAny_pure h⟩))) htake)
  | exact wpAny_bind (wpAny_bind (m:=Builtin.Tuple.tupleExact _) (wpAny_newObj_type (wpAny_pure (wpAny_pure ⟨_,rfl,wpAny_pure h⟩)) htake))
  | exact wpAny_bind (wpAny_bind (m:=Builtin.Tuple.tupleExact _) (wpAny_newObj_type (wpAny_pure ⟨_,rfl,wpAny_pure h⟩) htake))
end
end HT
namespace L2
open PySem PySem.Spec PyProof.Rows
abbrev TO:=St→Hp→(Option Int→Hp→Prop)→Prop
def PO (X:Cx) (e:Option Expr) (t:TO):Prop :=
 ∀ (pins:List (Addr×Obj)) (s:Shared) (σ:St) (H:Hp) (Q:Option Int→Hp→Prop),Inv X pins σ H s→t σ H Q →
  wpAny (model X.prog X.w) X.A (evalPart e X.env) (fun u s'=>∃ o H',Inv X pins σ H' s'∧IsPart u o∧Q o H') X.xe s
def tNoPart:TO:=fun _ H Q=>Q none H
def tPart (t:TE):TO:=fun σ H Q=>t σ H fun x H1=>∃ i,x=.int i∧Q (some i) H1
section
variable {X:Cx} {e:Expr} {te:TE} {lo hi:Option Expr} {tl th:TO} {pos p2:Pos}
theorem po_none:PO X none tNoPart:=by
 intro pins s σ H Q I h
 rw [evalPart_none]
 exact wpAny_pure ⟨none,H,I,.none,h⟩
theorem po_some (h:PE X e te):PO X (some e) (tPart te):=by
 intro pins s σ H Q I hw
 rw [evalPart_some]
 refine thn (h pins s σ H _ I hw) fun u s1 ⟨x,H1,I1,r1,q1⟩=>?_
 obtain ⟨i,rfl,q⟩:=q1
 obtain ⟨t,rfl⟩:=r1
 exact ⟨some i,H1,I1,.int i t,q⟩
def SlR (X:Cx) (r:V→Option Int→Option Int→Hp→VK→Prop):Prop :=
 ∀ (pins:List (Addr×Obj)) (s:Shared) (σ:St) (H:Hp) (x:V) (v vl vu:Value) (lo hi:Option Int) (sl:Addr) (Q:VK),Inv X pins σ H s→RelV x v→s.heap.IsSliceOf sl vl vu .none→IsPart vl lo→IsPart vu hi→r x lo hi H Q →
  ∃ T id,typeLookup (.type T) "__getitem__"=pure (some (.builtin id))∧s.TypeIs v T∧wpAny (model X.prog X.w) X.A (getItem v (.ref sl)) (EP X pins σ Q) X.xe s
def tSl (r:V→Option Int→Option Int→Hp→VK→Prop) (te:TE) (tl th:TO):TE:=fun σ H Q=>te σ H fun x H1=>tl σ H1 fun l H2=>th σ H2 fun u H3=>r x l u H3 Q
theorem pe_slice {r:V→Option Int→Option Int→Hp→VK→Prop} (hr:SlR X r) (he:PE X e te) (hl:PO X lo tl) (hu:PO X hi th):PE X (.Subscript e (.Slice lo hi none p2) pos) (tSl r te tl th):=by
 intro pins s σ H Q I h
 refine Subscript_ (thn (he pins s σ H _ I h) fun v s1 ⟨x,H1,I1,r1,q1⟩=>?_)
 refine wpAny_Slice (thn (hl pins s1 σ H1 _ I1 q1) fun vl s2 ⟨l,H2,I2,pl,q2⟩=>thn (hu pins s2 σ H2 _ I2 q2) fun vu s3 ⟨u,H3,I3,pu,q3⟩=>?_)
 rw [evalPart_none]
 refine wpAny_pure ?_
 have I4:Inv X pins σ H3 { s3 with heap:=s3.heap.push { cls:=.type "slice",data:=.fields #[vl,vu,.none] } }:=I3.kept (t':=s3.toks) fun b ob q=>Heap.get?_push_of_some _ q
 obtain ⟨T,id,hT,ht,hg⟩:=hr pins { s3 with heap:=s3.heap.push { cls:=.type "slice",data:=.fields #[vl,vu,.none] } } σ H3 x v vl vu l u s3.heap.objs.size Q I4 r1 (Heap.IsSliceOf.new ..) pl pu q3
 show wpAny (model X.prog X.w) X.A (subscriptTail e (.Slice lo hi none p2) v (.ref s3.heap.objs.size)) (EP X pins σ Q) X.xe { s3 with heap:=s3.heap.push { cls:=.type "slice",data:=.fields #[vl,vu,.none] } }
 exact tail_any (ops:=[.ref s3.heap.objs.size,v]) ht hT hg (by with_unfolding_all rfl)
def cutV (xs:List V) (lo hi:Option Int):List V:=(xs.drop (HT.sIx xs.length 0 lo)).take (HT.sIx xs.length xs.length hi - HT.sIx xs.length 0 lo)
theorem cutV_length (xs:List V) (lo hi:Option Int):(cutV xs lo hi).length≤xs.length:=by
 unfold cutV
 rw [List.length_take,List.length_drop]
 omega
def rSlT (K:PySem.W.Frag):V→Option Int→Option Int→Hp→VK→Prop:=fun x lo hi H Q=>∃ a xs,x=.ref a∧SqT K H a xs ∧
 ¬ (HT.sIx xs.length 0 lo=0∧HT.sIx xs.length xs.length hi=xs.length)∧∀ p,H p=none→Q (.ref p) (upd H p (.tup (cutV xs lo hi)))
theorem sl_tup:SlR X (rSlT X.K):=by
 intro pins s σ H x v vl vu lo hi sl Q I rx hs pl pu h
 obtain ⟨a,xs,rfl,hx,hw,q⟩:=h
 cases rx
 obtain ⟨its,r,ht,hz⟩:=I.tuple hx
 have hlen:its.toArray.size=xs.length:=by rw [List.size_toArray]; exact r.length.symm
 refine ⟨"tuple",_,PyProof.Rows.slot_tuple_getitem.lookup,ht.typeIs,?_⟩
 refine HT.getItem_tuple_cut ht hs pl pu (by rw [hlen]; exact hw) ?_ (by rw [hlen]; exact hz)
 rw [hlen]
 refine ⟨.ref s.heap.objs.size,_,I.laid (t':=s.toks) (o:=.tup (cutV xs lo hi)) (fun b ob q=>Heap.get?_push_of_some _ q) (Nat.le_refl _) ?_,rfl,q _ (I.hok.fresh (Nat.le_refl _))⟩
 exact ⟨Nat.le_trans (cutV_length xs lo hi) hz,_,(r.drop (HT.sIx xs.length 0 lo)).take (HT.sIx xs.length xs.length hi - HT.sIx xs.length 0 lo),IsTup.new _ _⟩
def rCatT (K:PySem.W.Frag):R2:=fun x y H Q=>∃ a b xs ys,x=.ref a∧y=.ref b∧SqT K H a xs∧SqT K H b ys∧xs≠[]∧xs.length + ys.length≤sizeLine ∧
 (ys=[]→Q (.ref a) H)∧(ys≠[]→∀ p,H p=none→Q (.ref p) (upd H p (.tup (xs++ys))))
theorem Vals.nil_iff {xs:List V} {us:List Value} (r:Vals xs us):us=[]↔xs=[]:=by
 cases r with
 | nil=>simp
 | cons _ _=>simp
theorem op_catT:OpR X (binaryOp .Add) (rCatT X.K):=by
 intro pins s σ H x y v u Q I rx ry h
 obtain ⟨a,b,xs,ys,rfl,rfl,ha,hb,hx,hz,q1,q2⟩:=h
 cases rx
 cases ry
 obtain ⟨its,r1,p1,_⟩:=I.tuple ha
 obtain ⟨its2,r2,p2,_⟩:=I.tuple hb
 refine HT.cat_tup p1 p2 (fun z=>hx (r1.nil_iff.mp z)) (fun z=>⟨.ref a,H,I,rfl,q1 (r2.nil_iff.mp z)⟩) (fun z=>?_) (by rw [← r1.length,← r2.length]; exact hz)
 refine ⟨.ref s.heap.objs.size,_,I.laid (t':=s.toks) (o:=.tup (xs++ys)) (fun b ob q=>Heap.get?_push_of_some _ q) (Nat.le_refl _) ?_,rfl,q2 (fun w=>z (r2.nil_iff.mpr w)) _ (I.hok.fresh (Nat.le_refl _))⟩
 exact ⟨by rw [List.length_append]; exact hz,_,r1.append r2,IsTup.new _ _⟩
end
end L2
namespace L2
open PySem PySem.Spec PyProof.Rows
def ixN (n:Nat) (i:Int):Option Nat:=if 0≤i then (if i < n then some i.toNat else none) else if -(n:Int)≤i then some (i + n).toNat else none
def atI {α:Type} (xs:List α) (i:Int):Option α:=(ixN xs.length i).bind fun j=>xs[j]?
theorem ixN_seq {n:Nat} {i:Int} {j:Nat} (h:ixN n i=some j):seqIndex? i n=some j∧j < n∧-(n:Int)≤i∧i < n:=by
 unfold ixN at h
 by_cases h0:0≤i
 ·rw [if_pos h0] at h
  by_cases h1:i < n
  ·rw [if_pos h1] at h
   have e:i.toNat=j:=Option.some.inj h
   exact ⟨by rw [seqIndex_of h0 h1,e],by omega,by omega,h1⟩
  ·rw [if_neg h1] at h; cases h
 ·rw [if_neg h0] at h
  by_cases h1:-(n:Int)≤i
  ·rw [if_pos h1] at h
   have e:(i + n).toNat=j:=Option.some.inj h
   exact ⟨by rw [seqIndex_neg (by omega) h1,e],by omega,h1,by omega⟩
  ·rw [if_neg h1] at h; cases h
theorem atI_get {α:Type} {xs:List α} {i:Int} {v:α} (h:atI xs i=some v):∃ j,seqIndex? i xs.length=some j∧xs[j]?=some v∧j < xs.length∧-(xs.length:Int)≤i∧i < xs.length:=by
 unfold atI at h
 cases e:ixN xs.length i with
 | none=>rw [e] at h; cases h
 | some j =>
  rw [e] at h
  obtain ⟨h1,h2,h3,h4⟩:=ixN_seq e
  exact ⟨j,h1,h,h2,h3,h4⟩
theorem atI_nat {α:Type} {xs:List α} {j:Nat} {v:α} (h:xs[j]?=some v):atI xs (j:Int)=some v:=by
 have hj:j < xs.length:=(List.getElem?_eq_some_iff.mp h).1
 have e:ixN xs.length (j:Int)=some j:=by
  unfold ixN
  rw [if_pos (by omega),if_pos (by omega)]; simp
 unfold atI; rw [e]; exact h
def PlainIx (b:Expr):Prop:=∀ o i,subscripted b false o i=operate [o,i] (getItem o i)
def IxR (X:Cx) (r:R2):Prop :=
 ∀ (value slice:Expr) (pins:List (Addr×Obj)) (s:Shared) (σ:St) (H:Hp) (x y:V) (v u:Value) (Q:VK),Inv X pins σ H s→RelV x v→RelV y u→r x y H Q →
  subscripted slice false v u=operate [v,u] (getItem v u)→wpAny (model X.prog X.w) X.A (subscriptTail value slice v u) (EP X pins σ Q) X.xe s
def MtR (X:Cx) (id:String) (r:V→List V→Hp→VK→Prop):Prop :=
 ∀ (pins:List (Addr×Obj)) (s:Shared) (σ:St) (H:Hp) (x:V) (xs:List V) (v:Value) (us:List Value) (Q:VK),Inv X pins σ H s→RelV x v→Vals xs us→r x xs H Q →
  wpAny (model X.prog X.w) X.A (call (.builtin id) (v::us)) (EP X pins σ Q) X.xe s
section
variable {X:Cx} {a b:Expr} {ta tb:TE} {pos:Pos}
theorem pe_ix {r:R2} (hr:IxR X r) (ha:PE X a ta) (hb:PE X b tb) (hs:PlainIx b):PE X (.Subscript a b pos) (tOp r ta tb):=by
 intro pins s σ H Q I h
 exact Subscript_ (binT ha hb I h fun v u s2 x y H2 I2 rx ry q=>hr a b pins s2 σ H2 x y v u Q I2 rx ry q (hs _ _))
def rIxL (K:PySem.W.Frag):R2:=fun x y H Q=>∃ p xs i v,x=.ref p∧y=.int i∧SqL K H p xs∧atI xs i=some v∧Q v H
def rIxT (K:PySem.W.Frag):R2:=fun x y H Q=>∃ p xs i v,x=.ref p∧y=.int i∧SqT K H p xs∧atI xs i=some v∧Q v H
theorem ix_list:IxR X (rIxL X.K):=by
 intro value slice pins s σ H x y v u Q I rx ry h hs
 obtain ⟨p,xs,i,z,rfl,rfl,hq,he,q⟩:=h
 cases rx
 obtain ⟨t,rfl⟩:=ry
 obtain ⟨its,r,pl,hz⟩:=I.list hq
 obtain ⟨j,h1,h2,h3,h4,h5⟩:=atI_get he
 obtain ⟨w,ew,rw'⟩:=r.get h2
 have hl:=r.length
 have hn:=line63
 have fin:EP X pins σ Q w s:=⟨z,H,I,rw',q⟩
 by_cases h0:0≤i
 ·have hj:i.toNat=j:=by
   rw [seqIndex_of h0 h5] at h1
   exact Option.some.inj h1
  exact item_listR pl.isList h0 (by omega) (by rw [hj]; simpa using ew) fin hs
 ·have hj:(i + (its.toArray.size:Int)).toNat=j:=by
   rw [seqIndex_neg (by omega) h4] at h1
   rw [List.size_toArray,← hl]
   exact Option.some.inj h1
  exact subscriptTail_builtinR (x:=w) pl.isList.typeIs slot_list_getitem.lookup
   (wpAny_getItem_list_neg (Q:=fun r s'=>r=w∧EP X pins σ Q r s') pl.isList (by omega) (by rw [List.size_toArray] <;> omega) (by omega) (by rw [hj]; simpa using ew) ⟨rfl,fin⟩) hs
theorem ix_tup:IxR X (rIxT X.K):=by
 intro value slice pins s σ H x y v u Q I rx ry h hs
 obtain ⟨p,xs,i,z,rfl,rfl,hq,he,q⟩:=h
 cases rx
 obtain ⟨t,rfl⟩:=ry
 obtain ⟨its,r,pl,hz⟩:=I.tuple hq
 obtain ⟨j,h1,h2,h3,h4,h5⟩:=atI_get he
 obtain ⟨w,ew,rw'⟩:=r.get h2
 have hl:=r.length
 have hn:=line63
 have fin:EP X pins σ Q w s:=⟨z,H,I,rw',q⟩
 exact subscriptTail_builtinR (x:=w) pl.typeIs slot_tuple_getitem.lookup
  (getItem_tuple (j:=j) (Q:=fun r s'=>r=w∧EP X pins σ Q r s') pl (by omega) (by omega) (by rw [List.size_toArray,← hl]; exact h1) (by simpa using ew) ⟨rfl,fin⟩) hs
theorem mapSeq_set (its:List Value) (n j:Nat) (u:Value):Obj.mapSeq (·.setIfInBounds j u) { cls:=.type "list",data:=.seq its.toArray n }={ cls:=.type "list",data:=.seq (its.set j u).toArray n }:=by
 simp [Obj.mapSeq]
theorem Inv.lst {pins:List (Addr×Obj)} {σ:St} {H:Hp} {s:Shared} {p:Addr} {xs:List V} (I:Inv X pins σ H s) (h:H p=some (.lst xs)) :
  ∃ (its:List Value) (n:Nat),Vals xs its∧s.heap.get? p=some { cls:=.type "list",data:=.seq its.toArray n }∧xs.length≤sizeLine:=by
 obtain ⟨z,its,n,r,e⟩:=I.hok p _ h
 exact ⟨its,n,r,e,z⟩
theorem Inv.lstUpd {pins:List (Addr×Obj)} {σ:St} {H:Hp} {s:Shared} {p:Addr} {xs ys:List V} {its its':List Value} {n n':Nat} {f:Obj→Obj} (I:Inv X pins σ H s) (h:H p=some (.lst xs))
  (ho:s.heap.get? p=some { cls:=.type "list",data:=.seq its.toArray n }) (hf:f { cls:=.type "list",data:=.seq its.toArray n }={ cls:=.type "list",data:=.seq its'.toArray n' }) (r:Vals ys its') (hz:ys.length≤sizeLine) (t:Nat) :
  Inv X pins σ (upd H p (.lst ys)) { s with heap:=s.heap.update p f,toks:=t }:=by
 have e:(s.heap.update p f).get? p=some { cls:=.type "list",data:=.seq its'.toArray n' }:=by
  rw [Heap.get?_update_self f ho (by rw [hf] <;> rfl),hf]
 refine I.write (x:=p) (e:=p) (by rw [h]; trivial) (.inl rfl) (fun b u hb q=>(Heap.get?_update_other _ _ (Ne.symm hb)).trans q) ⟨_,e⟩ ?_
 exact ⟨hz,its',n',r,e⟩
def rSetL:V→V→V→Hp→(Hp→Prop)→Prop:=fun o i v H Q=>∃ p xs k j,o=.ref p∧i=.int k∧H p=some (.lst xs)∧ixN xs.length k=some j∧Q (upd H p (.lst (xs.set j v)))
theorem set_list:PSet X rSetL:=by
 intro pins s σ H o i v ov iv u Q I ro ri rv h
 obtain ⟨p,xs,k,j,rfl,rfl,hp,hj,q⟩:=h
 cases ro
 obtain ⟨t,rfl⟩:=ri
 obtain ⟨its,n,r,ho,hz⟩:=I.lst hp
 obtain ⟨h1,h2,h3,h4⟩:=ixN_seq hj
 have hl:=r.length
 have hn:=line63
 have I':Inv X pins σ (upd H p (.lst (xs.set j v))) { s with heap:=s.heap.update p (Obj.mapSeq (·.setIfInBounds j u)) } :=
  I.lstUpd hp ho (mapSeq_set its n j u) (r.set rv j) (by rw [List.length_set]; exact hz) s.toks
 by_cases h0:0≤k
 ·have hk:k.toNat=j:=by
   rw [seqIndex_of h0 h4] at h1
   exact Option.some.inj h1
  exact PySem.W.ki_setAt ho h0 (by omega) (by rw [List.size_toArray,← hl]; exact h4) (by rw [hk]; exact ⟨_,I',q⟩)
 ·have hk:(k + (its.toArray.size:Int)).toNat=j:=by
   rw [seqIndex_neg (by omega) h3] at h1
   rw [List.size_toArray,← hl]
   exact Option.some.inj h1
  exact PySem.W.ki_setBack ho (by omega) (by rw [List.size_toArray,← hl]; exact h3) (by omega) (by rw [hk]; exact ⟨_,I',q⟩)
theorem slice_bounds (lo hi:Option Int) (n:Nat):(sliceBounds lo hi none n).1=((HT.sIx n 0 lo:Nat):Int)∧(sliceBounds lo hi none n).2.1=((HT.sIx n n hi:Nat):Int)∧(sliceBounds lo hi none n).2.2=1:=by
 refine ⟨?_,?_,rfl⟩
 ·cases lo with
  | none=>simp [sliceBounds,HT.sIx]
  | some i =>
   simp only [sliceBounds,HT.sIx,Option.getD_none,show (1:Int) > 0 by decide,if_true]
   by_cases h:i < 0
   ·simp only [h,if_true] <;> omega
   ·simp only [h,if_false] <;> omega
 ·cases hi with
  | none=>simp [sliceBounds,HT.sIx]
  | some i =>
   simp only [sliceBounds,HT.sIx,Option.getD_none,show (1:Int) > 0 by decide,if_true]
   by_cases h:i < 0
   ·simp only [h,if_true] <;> omega
   ·simp only [h,if_false] <;> omega
theorem slicePick_cut (its:List Value) (lo hi:Option Int):slicePick its.toArray lo hi none=((its.drop (HT.sIx its.length 0 lo)).take (HT.sIx its.length its.length hi - HT.sIx its.length 0 lo)).toArray:=by
 obtain ⟨h1,h2,h3⟩:=slice_bounds lo hi its.toArray.size
 unfold slicePick
 rw [h1,h2,h3]
 simp only [sliceRange_one,pick_run,List.size_toArray] <;> rfl
def rSlL (K:PySem.W.Frag):V→Option Int→Option Int→Hp→VK→Prop:=fun x lo hi H Q=>∃ a xs,x=.ref a∧SqL K H a xs∧∀ p,H p=none→Q (.ref p) (upd H p (.lst (cutV xs lo hi)))
theorem sl_list:SlR X (rSlL X.K):=by
 intro pins s σ H x v vl vu lo hi sl Q I rx hs pl pu h
 obtain ⟨a,xs,rfl,hx,q⟩:=h
 cases rx
 obtain ⟨its,r,ht,hz⟩:=I.list hx
 have hlen:=r.length
 refine ⟨"list",_,slot_list_getitem.lookup,ht.isList.typeIs,?_⟩
 refine wpAny_getItem_list_slice ht.isList hs pl pu .none (by simp) ?_ (by rw [List.size_toArray] <;> omega)
 rw [slicePick_cut,← hlen]
 refine ⟨.ref s.heap.objs.size,_,I.laid (t':=s.toks) (o:=.lst (cutV xs lo hi)) (fun b ob q=>Heap.get?_push_of_some _ q) (Nat.le_refl _) ?_,rfl,q _ (I.hok.fresh (Nat.le_refl _))⟩
 exact ⟨Nat.le_trans (cutV_length xs lo hi) hz,_,0,(r.drop (HT.sIx xs.length 0 lo)).take (HT.sIx xs.length xs.length hi - HT.sIx xs.length 0 lo),Heap.get?_push_size _ rfl⟩
def flatV:V→Bool
 | .non=>true
 | .bl _=>true
 | .int _=>true
 | .str _=>true
 | _=>false
def eqV:V→V→Bool
 | .non,.non=>true
 | .bl a,.bl b=>a == b
 | .bl a,.int b=>(if a then 1 else 0) == b
 | .int a,.bl b=>a == (if b then 1 else 0)
 | .int a,.int b=>a == b
 | .str a,.str b=>a == b
 | _,_=>false
theorem eqAt_V {A:Around} {s:Shared} {y x:V} {u v:Value} (ry:RelV y u) (rx:RelV x v) (fy:flatV y=true) (fx:flatV x=true):SeqAt.EqAt A s u v (eqV y x):=by
 cases y with
 | non =>
  cases ry
  cases x with
  | non=>cases rx; exact SeqAt.EqAt.same _
  | bl b=>cases rx; exact SeqAt.EqAt.none_bool b
  | int b=>obtain ⟨t,rfl⟩:=rx; exact SeqAt.EqAt.none_int b t
  | str b=>obtain ⟨t,rfl⟩:=rx; exact SeqAt.EqAt.none_str b t
  | _=>exact absurd (show false=true from fx) Bool.false_ne_true
 | bl a =>
  cases ry
  cases x with
  | non=>cases rx; exact SeqAt.EqAt.bool_none a
  | bl b=>cases rx; exact SeqAt.EqAt.bool_bool a b
  | int b=>obtain ⟨t,rfl⟩:=rx; exact SeqAt.EqAt.bool_int a b t
  | str b=>obtain ⟨t,rfl⟩:=rx; exact SeqAt.EqAt.bool_str a b t
  | _=>exact absurd (show false=true from fx) Bool.false_ne_true
 | int a =>
  obtain ⟨t',rfl⟩:=ry
  cases x with
  | non=>cases rx; exact SeqAt.EqAt.int_none a t'
  | bl b=>cases rx; exact SeqAt.EqAt.int_bool a t' b
  | int b=>obtain ⟨t,rfl⟩:=rx; exact SeqAt.EqAt.int_int a t' b t
  | str b=>obtain ⟨t,rfl⟩:=rx; exact SeqAt.EqAt.int_str a t' b t
  | _=>exact absurd (show false=true from fx) Bool.false_ne_true
 | str a =>
  obtain ⟨t',rfl⟩:=ry
  cases x with
  | non=>cases rx; exact SeqAt.EqAt.str_none a t'
  | bl b=>cases rx; exact SeqAt.EqAt.str_bool a t' b
  | int b=>obtain ⟨t,rfl⟩:=rx; exact SeqAt.EqAt.str_int a t' b t
  | str b=>obtain ⟨t,rfl⟩:=rx; exact SeqAt.EqAt.str_str a t' b t
  | _=>exact absurd (show false=true from fx) Bool.false_ne_true
 | _=>exact absurd (show false=true from fy) Bool.false_ne_true
def eqU (x:V) (u:Value):Bool:=match u with
 | .none=>eqV .non x
 | .bool b=>eqV (.bl b) x
 | .int i _=>eqV (.int i) x
 | .str z _=>eqV (.str z) x
 | _=>false
theorem eqU_of {x y:V} {u:Value} (r:RelV y u) (f:flatV y=true):eqU x u=eqV y x:=by
 cases y with
 | non=>cases r; rfl
 | bl b=>cases r; rfl
 | int i=>obtain ⟨t,rfl⟩:=r; rfl
 | str z=>obtain ⟨t,rfl⟩:=r; rfl
 | _=>exact absurd (show false=true from f) Bool.false_ne_true
theorem any_eqU {x:V}:∀ {xs:List V} {us:List Value},Vals xs us→xs.all flatV=true→us.any (eqU x)=xs.any fun y=>eqV y x
 | _,_,.nil,_=>rfl
 | y::xs,u::us,.cons r t,f=>by
  rw [List.all_cons,Bool.and_eq_true] at f
  rw [List.any_cons,List.any_cons,eqU_of r f.1,any_eqU t f.2]
theorem mem_eqAt {A:Around} {s:Shared} {x:V} {v:Value} (rx:RelV x v) (fx:flatV x=true):∀ {xs:List V} {us:List Value},Vals xs us→xs.all flatV=true→∀ u∈us,SeqAt.EqAt A s u v (eqU x u)
 | _,_,.nil,_=>fun u hu=>by cases hu
 | y::xs,u::us,.cons r t,f=>fun u' hu=>by
  rw [List.all_cons,Bool.and_eq_true] at f
  rcases List.mem_cons.mp hu with rfl | hu
  ·rw [eqU_of r f.1]; exact eqAt_V r rx f.1 fx
  ·exact mem_eqAt rx fx t f.2 u' hu
def inV (x:V) (xs:List V):Bool:=xs.any fun y=>eqV y x
def rIn (K:PySem.W.Frag) (neg:Bool):R2:=fun x y H Q=>∃ p xs,y=.ref p∧(SqL K H p xs∨SqT K H p xs)∧flatV x=true∧xs.all flatV=true∧Q (.bl (if neg then !inV x xs else inV x xs)) H
theorem op_in_seq:OpR X (compareOp .In) (rIn X.K false):=by
 intro pins s σ H x y v u Q I rx ry h
 obtain ⟨p,xs,rfl,hq,fx,fs,q⟩:=h
 cases ry
 rcases hq with hq | hq
 ·obtain ⟨its,r,pl,hz⟩:=I.list hq
  refine SeqAt.in_listAt (eqU x) pl.isList (fun w hw=>mem_eqAt rx fx r fs w (by simpa using hw)) ⟨.bl _,H,I,rfl,?_⟩
  rw [show its.toArray.any (eqU x)=its.any (eqU x) by simp,any_eqU r fs]
  exact q
 ·obtain ⟨its,r,pl,hz⟩:=I.tuple hq
  refine SeqAt.in_tupleAt (eqU x) pl (fun w hw=>mem_eqAt rx fx r fs w (by simpa using hw)) ⟨.bl _,H,I,rfl,?_⟩
  rw [show its.toArray.any (eqU x)=its.any (eqU x) by simp,any_eqU r fs]
  exact q
theorem op_notIn_seq:OpR X (compareOp .NotIn) (rIn X.K true):=by
 intro pins s σ H x y v u Q I rx ry h
 obtain ⟨p,xs,rfl,hq,fx,fs,q⟩:=h
 cases ry
 rcases hq with hq | hq
 ·obtain ⟨its,r,pl,hz⟩:=I.list hq
  refine SeqAt.notIn_listAt (eqU x) pl.isList (fun w hw=>mem_eqAt rx fx r fs w (by simpa using hw)) ⟨.bl _,H,I,rfl,?_⟩
  rw [show its.toArray.any (eqU x)=its.any (eqU x) by simp,any_eqU r fs]
  exact q
 ·obtain ⟨its,r,pl,hz⟩:=I.tuple hq
  refine SeqAt.notIn_tupleAt (eqU x) pl (fun w hw=>mem_eqAt rx fx r fs w (by simpa using hw)) ⟨.bl _,H,I,rfl,?_⟩
  rw [show its.toArray.any (eqU x)=its.any (eqU x) by simp,any_eqU r fs]
  exact q
theorem call_len_seq:CallR X (.builtin "len") (fun xs H Q=>∃ p ys,xs=[.ref p]∧(SqL X.K H p ys∨SqT X.K H p ys)∧Q (.int ys.length) H):=by
 intro pins s σ H xs us Q I r h
 obtain ⟨p,ys,rfl,hq,q⟩:=h
 obtain ⟨u,rfl,rx⟩:=vals1 r
 cases rx
 have hn:=line63
 rcases hq with hq | hq
 ·obtain ⟨its,r',pl,hz⟩:=I.list hq
  have hlen:=r'.length
  exact Calls.call_len_list pl.isList (by simp only [List.size_toArray] <;> omega) ⟨.int ys.length,H,I.tok _,⟨s.toks + 1,by rw [List.size_toArray,hlen]⟩,q⟩
 ·obtain ⟨its,r',pl,hz⟩:=I.tuple hq
  have hlen:=r'.length
  exact len_tuple pl (by simp only [List.size_toArray] <;> omega) ⟨.int ys.length,H,I.tok _,⟨s.toks + 1,by rw [List.size_toArray,hlen]⟩,q⟩
theorem call_list_of:CallR X (.type "list") (fun xs H Q=>∃ p ys,xs=[.ref p]∧(SqL X.K H p ys∨SqT X.K H p ys)∧∀ l,H l=none→Q (.ref l) (upd H l (.lst ys))):=by
 intro pins s σ H xs us Q I r h
 obtain ⟨p,ys,rfl,hq,q⟩:=h
 obtain ⟨u,rfl,rx⟩:=vals1 r
 cases rx
 have fin:∀ (its:List Value),Vals ys its→ys.length≤sizeLine→∀ (h':Heap) (c':Nat),(∀ b o',s.heap.get? b=some o'→h'.get? b=some o') →
   h'.get? s.heap.objs.size=some { cls:=.type "list",dict:=none,data:=.seq its.toArray c',slots:=#[] }→EP X pins σ Q (.ref s.heap.objs.size) { s with heap:=h' }:=fun its r' hz h' c' kp e =>
  ⟨.ref s.heap.objs.size,_,I.laid (t':=s.toks) kp (Nat.le_refl _) (show ObjOk X.prog X.w _ h' _ (.lst ys) from ⟨hz,its,c',r',e⟩),rfl,q _ (I.hok.fresh (Nat.le_refl _))⟩
 rcases hq with hq | hq
 ·obtain ⟨its,r',pl,hz⟩:=I.list hq
  have hlen:=r'.length
  obtain ⟨o,ho,hc,n,hd⟩:=pl.isList
  exact call_list_seq p (.inl rfl) ho hc hd (fun h' c' kp e=>fin its r' hz h' c' kp e) (by simp only [List.size_toArray] <;> omega)
 ·obtain ⟨its,r',pl,hz⟩:=I.tuple hq
  have hlen:=r'.length
  obtain ⟨o,ho,hc,n,hd⟩:=pl
  exact call_list_seq p (.inr rfl) ho hc hd (fun h' c' kp e=>fin its r' hz h' c' kp e) (by simp only [List.size_toArray] <;> omega)
theorem call_tuple_of:CallR X (.type "tuple") (fun xs H Q=>∃ p ys,xs=[.ref p]∧((SqL X.K H p ys∧∀ l,H l=none→Q (.ref l) (upd H l (.tup ys)))∨(SqT X.K H p ys∧Q (.ref p) H))):=by
 intro pins s σ H xs us Q I r h
 obtain ⟨p,ys,rfl,h⟩:=h
 obtain ⟨u,rfl,rx⟩:=vals1 r
 cases rx
 rcases h with ⟨hq,q⟩ | ⟨hq,q⟩
 ·obtain ⟨its,r',pl,hz⟩:=I.list hq
  have hlen:=r'.length
  refine call_tuple_list pl.isList (fun h' kp=>?_) (by simp only [List.size_toArray] <;> omega)
  have I1:Inv X pins σ H { s with heap:=h' }:=I.kept (t':=s.toks) kp
  have I2:Inv X pins σ (upd H h'.objs.size (.tup ys)) { s with heap:=h'.push { cls:=.type "tuple",data:=.seq its.toArray } } :=
   I1.laid (t':=s.toks) (fun b o e=>Heap.get?_push_of_some _ e) (Nat.le_refl _) (show ObjOk X.prog X.w _ _ _ (.tup ys) from ⟨hz,its,r',IsTup.new _ _⟩)
  exact ⟨.ref h'.objs.size,_,I2,rfl,q _ (I1.hok.fresh (Nat.le_refl _))⟩
 ·obtain ⟨its,r',pl,hz⟩:=I.tuple hq
  exact call_tuple_same pl ⟨.ref p,H,I,rfl,q⟩
def tyV (K:PySem.W.Frag) (T:String) (x:V) (H:Hp):Prop:=match x with
 | .str _=>T="str"
 | .int _=>T="int"
 | .ref p=>(T="list"∧∃ xs,SqL K H p xs)∨(T="tuple"∧∃ o,K.lookup p=some o∧o.cls=.type "tuple"∧o.dict=none) ∨
   (T="dict"∧((∃ kvs,H p=some (.dK kvs))∨∃ kvs,H p=some (.dT kvs)))∨(T="set"∧∃ S n,H p=some (.set S n))
 | _=>False
theorem tyV_is {pins:List (Addr×Obj)} {σ:St} {H:Hp} {s:Shared} {T:String} {x:V} {v:Value} (I:Inv X pins σ H s) (r:RelV x v) (ty:tyV X.K T x H) :
  s.TypeIs v T∧∀ a,v=.ref a→∃ ob,s.heap.get? a=some ob∧ob.dict=none:=by
 cases x with
 | str z =>
  obtain ⟨t,rfl⟩:=r
  cases (show T="str" from ty)
  exact ⟨typeIs_str s z t,fun _ e=>nomatch e⟩
 | int i =>
  obtain ⟨t,rfl⟩:=r
  cases (show T="int" from ty)
  exact ⟨typeIs_int s i t,fun _ e=>nomatch e⟩
 | ref p =>
  cases r
  rcases ty with ⟨rfl,xs,hq⟩ | ⟨rfl,o,hk,hc,hd⟩ | ⟨rfl,hk⟩ | ⟨rfl,S,n,hk⟩
  ·obtain ⟨its,_,pl,_⟩:=I.list hq
   refine ⟨pl.isList.typeIs,fun a e=>?_⟩
   cases e
   obtain ⟨o,n,e,c,hd,_⟩:=pl
   exact ⟨o,e,hd⟩
  ·refine ⟨⟨o,I.kIn p o hk,hc⟩,fun a e=>?_⟩
   cases e
   exact ⟨o,I.kIn _ o hk,hd⟩
  ·have z:∃ o,s.heap.get? p=some o∧o.ExactDict:=by
    rcases hk with ⟨kvs,hk⟩ | ⟨kvs,hk⟩
    ·obtain ⟨_,_,_,_,o,_,_,e,ex,_⟩:=I.hok p _ hk
     exact ⟨o,e,ex⟩
    ·obtain ⟨_,_,_,_,o,_,_,e,ex,_⟩:=I.hok p _ hk
     exact ⟨o,e,ex⟩
   obtain ⟨o,e,ex⟩:=z
   refine ⟨⟨o,e,ex.1⟩,fun a e2=>?_⟩
   cases e2
   exact ⟨o,e,ex.2.1⟩
  ·obtain ⟨o,_,_,_,e,ex,_⟩:=I.hok p _ hk
   refine ⟨⟨o,e,ex.1⟩,fun a e2=>?_⟩
   cases e2
   exact ⟨o,e,ex.2.1⟩
 | _=>exact False.elim ty
def tBM (K:PySem.W.Frag) (T:String) (r:V→List V→Hp→VK→Prop) (to:TE) (t:TA):TE:=fun σ H Q=>to σ H fun x H1=>tyV K T x H1∧t σ H1 fun xs H2=>r x xs H2 Q
variable {o e:Expr} {es:List Expr} {to:TE} {t:TA} {name:Str} {apos cpos:Pos} {T id:String} {r:V→List V→Hp→VK→Prop}
theorem pe_bm (pa:PlainAttrs T) (slot:Slot T name id) (hty:typeOf (.builtin id)=pure (.type "method_descriptor")) (hm:MtR X id r) (ho:PE X o to) (ha:PA X (e::es) t)
  (hbase:attributeBase o name X.env (eval o X.env)=eval o X.env:=by rfl)
  (hfew:((backTo cpos (starEach (e::es) X.env)).all (fun x=>!x.1) && (backToKw cpos (keywordEach [] X.env)).all (fun x=>x.1.isSome)
   && decide ((e::es).length + ([]:List Keyword).length + (if ([]:List Keyword).isEmpty then 0 else 1) < 30))=true:=by rfl)
  (hline:(apos.endLine == cpos.line)=true:=by rfl) (hs:starEach (e::es) X.env=(false,eval e X.env)::starEach es X.env:=by rfl) (hplain:(backTo cpos (starEach es X.env)).any (·.1)=false:=by rfl) :
  PE X (.Call (.Attribute o name apos) (e::es) [] cpos) (tBM X.K T r to t):=by
 intro pins s σ H Q I h
 refine wpAny_Call_method_late hbase hfew hline rfl (thn (ho pins s σ H _ I h) fun v s1 ⟨x,H1,I1,r1,ty,q1⟩=>?_)
 obtain ⟨h1,h2⟩:=tyV_is I1 r1 ty
 refine ⟨T,id,pa,slot,hty,h1,h2,?_⟩
 have hA:=ha cpos pins s1 σ H1 _ I1 q1
 rw [hs] at hA ⊢
 refine Calls.callWith_builtin (by show (false || (backTo cpos (starEach es X.env)).any (·.1))=false; rw [hplain] <;> rfl) (Calls.evalArgs_plain ?_)
 exact thn hA fun us s2 ⟨vs,H2,I2,r2,q2⟩=>hm pins s2 σ H2 x vs v us Q I2 r1 r2 q2
end
end L2
namespace L2
open PySem PySem.Spec PyProof.Rows
def MtM (X:Cx) (id:String) (r:V→List V→Hp→VK→Prop):Prop :=
 ∀ (pins:List (Addr×Obj)) (s:Shared) (σ:St) (H:Hp) (x:V) (xs:List V) (v:Value) (us:List Value) (Q:VK),Inv X pins σ H s→RelV x v→Vals xs us→r x xs H Q →
  wpAny (model X.prog X.w) X.A (call (.builtin id) (v::us)) (EP X pins σ Q) X.xe s
theorem Vals.one:∀ {x:V} {us:List Value},Vals [x] us→∃ u,us=[u]∧RelV x u
 | _,_,.cons r .nil=>⟨_,rfl,r⟩
theorem Vals.rep {xs:List V} {us:List Value} (h:Vals xs us):∀ k:Nat,Vals (List.replicate k xs).flatten (List.replicate k us).flatten
 | 0=>.nil
 | k + 1=>by
  rw [List.replicate_succ,List.replicate_succ,List.flatten_cons,List.flatten_cons]
  exact Vals.append h (Vals.rep h k)
section
variable {X:Cx} {pins:List (Addr×Obj)} {σ:St} {H:Hp} {s:Shared} {l b:Addr} {xs ys zs:List V}
theorem Inv.lset {its its':List Value} {n:Nat} {f:Array Value→Array Value} {t':Nat} (I:Inv X pins σ H s) (hH:H l=some (.lst xs))
  (e:s.heap.get? l=some { cls:=.type "list",data:=.seq its.toArray n }) (hf:f its.toArray=its'.toArray) (hv:Vals ys its') (hz:ys.length≤sizeLine) :
  Inv X pins σ (upd H l (.lst ys)) { s with heap:=s.heap.update l (Obj.mapSeq f),toks:=t' }:=by
 have q:=PySem.IsL.update e f
 rw [hf] at q
 refine I.write (x:=l) (e:=l) (by rw [hH]; exact trivial) (.inl rfl) (fun b' u hb hu=>(Heap.get?_update_other s.heap (Obj.mapSeq f) (Ne.symm hb)).trans hu) ⟨_,q⟩ ?_
 exact ⟨hz,its',_,hv,q⟩
theorem Inv.lnew {its:List Value} {t':Nat} (I:Inv X pins σ H s) (hv:Vals ys its) (hz:ys.length≤sizeLine) :
  Inv X pins σ (upd H s.heap.objs.size (.lst ys)) { s with heap:=s.heap.push { cls:=.type "list",data:=.seq its.toArray },toks:=t' } :=
 I.laid (fun _ _ q=>Heap.get?_push_of_some _ q) (Nat.le_refl _) ⟨hz,its,0,hv,Heap.get?_push_size _ rfl⟩
theorem Inv.fresh (I:Inv X pins σ H s):H s.heap.objs.size=none:=I.hok.fresh (Nat.le_refl _)
theorem Inv.lstM (I:Inv X pins σ H s) (hH:H l=some (.lst xs)):xs.length≤sizeLine∧∃ (its:List Value) (n:Nat),Vals xs its∧xs.length=its.length∧s.heap.get? l=some { cls:=.type "list",data:=.seq its.toArray n }:=by
 obtain ⟨z,its,n,r,e⟩:=I.hok l _ hH
 exact ⟨z,its,n,r,r.length,e⟩
end
section
variable {X:Cx}
def rAppend:V→List V→Hp→VK→Prop:=fun x vs H Q=>∃ l xs y,x=.ref l∧vs=[y]∧H l=some (.lst xs)∧xs.length < sizeLine∧Q .non (upd H l (.lst (xs++[y])))
theorem mt_append:MtM X "list.append" rAppend:=by
 intro pins s σ H x vs v us Q I rx rv h
 obtain ⟨l,xs,y,rfl,rfl,hH,hz,q⟩:=h
 cases rx
 obtain ⟨u,rfl,ru⟩:=rv.one
 obtain ⟨z,its,n,r,hl,e⟩:=I.lstM hH
 refine call_meets F.slot_list_append ⟨_,e,rfl⟩ F.entry_list_append (F.args_list_append_2 _ _) (PySem.list_append l its.toArray n u (by rw [List.size_toArray]; omega)) ⟨e,?_⟩
 refine ⟨.non,_,I.lset (its':=its++[u]) hH e (by simp) (r.append (.cons ru .nil)) ?_,rfl,q⟩
 rw [List.length_append,List.length_singleton]
 omega
def rCat:R2:=fun x y H Q=>∃ l b xs zs,x=.ref l∧y=.ref b∧H l=some (.lst xs)∧H b=some (.lst zs)∧xs.length + zs.length≤sizeLine∧∀ p,H p=none→Q (.ref p) (upd H p (.lst (xs++zs)))
theorem op_cat:OpR X (binaryOp .Add) rCat:=by
 intro pins s σ H x y v u Q I rx ry h
 obtain ⟨l,b,xs,zs,rfl,rfl,hH,hB,hz,q⟩:=h
 cases rx
 cases ry
 obtain ⟨z,its,n,r,hl,e⟩:=I.lstM hH
 obtain ⟨z2,its2,n2,r2,hl2,e2⟩:=I.lstM hB
 refine PySem.P.add_list e e2 ?_ (by rw [List.size_toArray,List.size_toArray]; omega)
 have ea:its.toArray++its2.toArray=(its++its2).toArray:=by simp
 rw [ea]
 exact ⟨.ref _,_,I.lnew (t':=s.toks) (r.append r2) (by rw [List.length_append]; omega),rfl,q _ I.fresh⟩
end
section
variable {prog:Program} {w:World} {A:Around} {E:Value→Shared→Prop} {s:Shared}
set_option maxRecDepth 100000 in
end
section
variable {X:Cx}
end
end L2
namespace L2
open PySem PySem.Spec PyProof.Rows
section
variable {κ:Type} [DecidableEq κ]
def valV (kvs:List (κ×V)) (k:κ):Option V:=(kvs.find? fun kv=>decide (kv.1=k)).map (·.2)
def putK (kvs:List (κ×V)) (k:κ) (v:V):List (κ×V) :=
 if (kvs.any fun kv=>decide (kv.1=k))=true then kvs.map (fun kv=>if kv.1=k then (kv.1,v) else kv) else kvs++[(k,v)]
theorem valV_pos {p:κ×V} {r:List (κ×V)} {k:κ} (e:p.1=k):valV (p::r) k=some p.2:=by simp [valV,List.find?_cons,e]
theorem valV_neg {p:κ×V} {r:List (κ×V)} {k:κ} (e:¬ p.1=k):valV (p::r) k=valV r k:=by simp [valV,List.find?_cons,e]
theorem valV_any (k:κ):∀ kvs:List (κ×V),(kvs.any fun kv=>decide (kv.1=k))=(valV kvs k).isSome
 | []=>rfl
 | p::r=>by
  rw [List.any_cons]
  by_cases e:p.1=k
  ·simp only [valV_pos e,decide_eq_true e,Bool.true_or,Option.isSome_some]
  ·rw [valV_neg e,decide_eq_false e,Bool.false_or]; exact valV_any k r
theorem valV_map (k j:κ) (y:V):∀ kvs:List (κ×V),valV (kvs.map fun kv=>if kv.1=k then (kv.1,y) else kv) j=(valV kvs j).map fun x=>if j=k then y else x
 | []=>rfl
 | p::r=>by
  have ih:=valV_map k j y r
  rw [List.map_cons]
  by_cases h:p.1=k
  ·rw [if_pos h]
   by_cases e:p.1=j
   ·rw [valV_pos (p:=(p.1,y)) e,valV_pos e,Option.map_some,if_pos (e.symm.trans h)]
   ·rw [valV_neg (p:=(p.1,y)) e,valV_neg e,ih]
  ·rw [if_neg h]
   by_cases e:p.1=j
   ·rw [valV_pos (p:=p) e,valV_pos e,Option.map_some,if_neg (fun z=>h (e.trans z))]
   ·rw [valV_neg (p:=p) e,valV_neg e,ih]
theorem valV_snoc (k j:κ) (y:V):∀ kvs:List (κ×V),valV kvs k=none→valV (kvs++[(k,y)]) j=if j=k then some y else valV kvs j
 | [],_=>by
  by_cases e:k=j
  ·rw [if_pos e.symm]; exact valV_pos (p:=(k,y)) e
  ·rw [if_neg (fun z=>e z.symm)]; exact valV_neg (p:=(k,y)) e
 | p::r,hn=>by
  rw [List.cons_append]
  have hk:¬ p.1=k:=fun z=>by rw [valV_pos z] at hn; cases hn
  rw [valV_neg hk] at hn
  have ih:=valV_snoc k j y r hn
  by_cases e:p.1=j
  ·rw [valV_pos e,valV_pos e,if_neg (fun z=>hk (e.trans z))]
  ·rw [valV_neg e,valV_neg e,ih]
theorem valV_put (kvs:List (κ×V)) (k j:κ) (y:V):valV (putK kvs k y) j=if j=k then some y else valV kvs j:=by
 unfold putK
 by_cases a:(kvs.any fun kv=>decide (kv.1=k))=true
 ·rw [if_pos a,valV_map]
  rw [valV_any] at a
  by_cases e:j=k
  ·obtain ⟨x,hx⟩:=Option.isSome_iff_exists.mp a
   rw [if_pos e,e,hx,Option.map_some,if_pos rfl]
  ·rw [if_neg e]
   cases valV kvs j with
   | none=>rfl
   | some x=>rw [Option.map_some,if_neg e]
 ·rw [if_neg a]
  refine valV_snoc k j y kvs ?_
  rw [valV_any] at a
  cases q:valV kvs k with
  | none=>rfl
  | some x=>rw [q] at a; exact (a rfl).elim
theorem length_putK (kvs:List (κ×V)) (k:κ) (v:V):(putK kvs k v).length≤kvs.length + 1:=by
 unfold putK
 split
 ·rw [List.length_map]; omega
 ·rw [List.length_append,List.length_cons,List.length_nil]; omega
theorem putK_new {kvs:List (κ×V)} {k:κ} (v:V) (h:valV kvs k=none):putK kvs k v=kvs++[(k,v)]:=by
 unfold putK
 rw [valV_any,h]
 exact if_neg (by decide)
theorem RelO.isSome_eq {o:Option V} {u:Option Value} (r:RelO o u):o.isSome=u.isSome:=by
 cases o with
 | none=>cases u with
  | none=>rfl
  | some _=>exact (show False from r).elim
 | some _=>cases u with
  | none=>exact (show False from r).elim
  | some _=>rfl
theorem KV.val {kvs:List (κ×V)} {vs:List (κ×Value)} (r:KV kvs vs) (k:κ):RelO (valV kvs k) (valueAt vs k):=by
 unfold KV at r
 induction r with
 | nil=>exact True.intro
 | @cons p q ps qs h t ih =>
  obtain ⟨h1,h2⟩:=h
  by_cases e:p.1=k
  ·have e':q.1=k:=h1.symm.trans e
   have b:valueAt (q::qs) k=some q.2:=by simp [valueAt,List.find?_cons,e']
   rw [valV_pos e,b]; exact h2
  ·have e':¬ q.1=k:=fun z=>e (h1.trans z)
   have b:valueAt (q::qs) k=valueAt qs k:=by simp [valueAt,List.find?_cons,e']
   rw [valV_neg e,b]; exact ih
theorem KV.any {kvs:List (κ×V)} {vs:List (κ×Value)} (r:KV kvs vs) (k:κ):(kvs.any fun kv=>decide (kv.1=k))=vs.any fun kv=>decide (kv.1=k):=by
 unfold KV at r
 induction r with
 | nil=>rfl
 | cons h t ih=>rw [List.any_cons,List.any_cons,ih,h.1]
theorem KV.repl {kvs:List (κ×V)} {vs:List (κ×Value)} (r:KV kvs vs) (k:κ) {y:V} {u:Value} (ry:RelV y u) :
  KV (kvs.map fun kv=>if kv.1=k then (kv.1,y) else kv) (vs.map fun kv=>if kv.1=k then (kv.1,u) else kv):=by
 unfold KV at r ⊢
 induction r with
 | nil=>exact .nil
 | @cons p q ps qs h t ih =>
  rw [List.map_cons,List.map_cons]
  refine .cons ?_ ih
  obtain ⟨h1,h2⟩:=h
  by_cases e:p.1=k
  ·rw [if_pos e,if_pos (h1.symm.trans e)]; exact ⟨h1,ry⟩
  ·rw [if_neg e,if_neg (fun z=>e (h1.trans z))]; exact ⟨h1,h2⟩
theorem KV.put {kvs:List (κ×V)} {vs:List (κ×Value)} (r:KV kvs vs) (k:κ) {y:V} {u:Value} (ry:RelV y u):KV (putK kvs k y) (stored vs k u):=by
 unfold putK stored
 rw [r.any k]
 by_cases e:(vs.any fun kv=>decide (kv.1=k))=true
 ·rw [if_pos e,if_pos e]; exact r.repl k ry
 ·rw [if_neg e,if_neg e]; exact Paired.snoc r ⟨rfl,ry⟩
theorem KV.length {kvs:List (κ×V)} {vs:List (κ×Value)} (r:KV kvs vs):kvs.length=vs.length:=Paired.length r
end
theorem kV_is {P:Program} {w:World} {k:Key} {u:Value} (r:RelV (kV k) u):(mixKind P w).is k u=true:=by
 cases k with
 | inl i=>obtain ⟨t,e⟩:=(show ∃ t,u=Value.int i t from r); subst e; exact mixKind_int P w i t
 | inr x=>obtain ⟨t,e⟩:=(show ∃ t,u=Value.str x t from r); subst e; exact mixKind_str P w x t
theorem items_are {P:Program} {w:World}:∀ {ks:List Key} {us:List Value},Vals (ks.map kV) us→ItemsAre (mixKind P w) ks us
 | [],_,r=>by rw [List.map_nil] at r; cases r; exact .nil
 | k::ks,_,r=>by
  rw [List.map_cons] at r
  cases r with
  | cons h t=>exact .cons (kV_is h) (items_are t)
abbrev KT (H:Hp):List (List Key×V)→List (List Key×Addr×Value)→Prop:=Paired fun p q=>p.1=q.1∧H q.2.1=some (.tup (p.1.map kV))∧RelV p.2 q.2.2
theorem KT.val {H:Hp} {kvs:List (List Key×V)} {xs:List (List Key×Addr×Value)} (r:KT H kvs xs) (k:List Key):RelO (valV kvs k) ((atKey xs k).map (·.2)):=by
 induction r with
 | nil=>exact True.intro
 | @cons p q ps qs h t ih =>
  obtain ⟨h1,_,h2⟩:=h
  by_cases e:p.1=k
  ·have e':q.1=k:=h1.symm.trans e
   have b:atKey (q::qs) k=some q.2:=by simp [atKey,List.find?_cons,e']
   rw [valV_pos e,b]; exact h2
  ·have e':¬ q.1=k:=fun z=>e (h1.trans z)
   have b:atKey (q::qs) k=atKey qs k:=by simp [atKey,List.find?_cons,e']
   rw [valV_neg e,b]; exact ih
theorem KT.repl {H:Hp} {kvs:List (List Key×V)} {xs:List (List Key×Addr×Value)} (r:KT H kvs xs) (k:List Key) {y:V} {u:Value} (ry:RelV y u) :
  KT H (kvs.map fun kv=>if kv.1=k then (kv.1,y) else kv) (xs.map (putAt k u)):=by
 induction r with
 | nil=>exact .nil
 | @cons p q ps qs h t ih =>
  rw [List.map_cons,List.map_cons]
  refine .cons ?_ ih
  obtain ⟨h1,h2,h3⟩:=h
  unfold putAt
  by_cases e:p.1=k
  ·rw [if_pos e,if_pos (h1.symm.trans e)]; exact ⟨h1,h2,ry⟩
  ·rw [if_neg e,if_neg (fun z=>e (h1.trans z))]; exact ⟨h1,h2,h3⟩
theorem KT.put {H:Hp} {kvs:List (List Key×V)} {xs:List (List Key×Addr×Value)} (r:KT H kvs xs) (k:List Key) {b:Addr} {y:V} {u:Value} (hb:H b=some (.tup (k.map kV))) (ry:RelV y u) :
  KT H (putK kvs k y) (storedH xs k b u):=by
 have e:(kvs.any fun kv=>decide (kv.1=k))=(atKey xs k).isSome:=by
  rw [valV_any,(r.val k).isSome_eq,Option.isSome_map]
 unfold putK storedH
 rw [e]
 by_cases q:(atKey xs k).isSome=true
 ·rw [if_pos q,if_pos q]; exact r.repl k ry
 ·rw [if_neg q,if_neg q]; exact Paired.snoc r ⟨rfl,hb,ry⟩
theorem KT.keeps {H H':Hp} {kvs:List (List Key×V)} {xs:List (List Key×Addr×Value)} (r:KT H kvs xs) (ht:∀ b ys,H b=some (.tup ys)→H' b=some (.tup ys)):KT H' kvs xs :=
 Paired.mapP r fun _ _ z=>⟨z.1,ht _ _ z.2.1,z.2.2⟩
section
variable {P:Program} {w:World} {H:Hp} {h:Heap} {a:Addr}
theorem rd_of {u:HO} (ok:HOk P w H h) (e:Rd H a u):ObjOk P w H h a u:=e.ok ok
theorem dk_rd {kvs:List (Key×V)} (ok:HOk P w H h) (e:Rd H a (.dK kvs)):kvs.length≤sizeLine∧(a == sysModules)=false∧∃ vs,KV kvs vs∧h.DictOf (mixKind P w) a vs :=
 show ObjOk P w H h a (.dK kvs) from rd_of ok e
theorem dk_of {kvs:List (Key×V)} (ok:HOk P w H h) (e:H a=some (.dK kvs)):kvs.length≤sizeLine∧(a == sysModules)=false∧∃ vs,KV kvs vs∧h.DictOf (mixKind P w) a vs:=dk_rd ok (.inl e)
theorem key_of {ks:List Key} (ok:HOk P w H h) (e:H a=some (.tup (ks.map kV))):(tupleKind (mixKind P w)).is h ks a:=by
 obtain ⟨_,its,r,o,h1,h2,n,h3⟩:=(show ObjOk P w H h a (.tup (ks.map kV)) from ok a _ e)
 exact ⟨o,its.toArray,n,h1,h2,h3,by simpa using items_are r⟩
theorem dt_rd {kvs:List (List Key×V)} (ok:HOk P w H h) (e:Rd H a (.dT kvs)):kvs.length≤sizeLine∧(a == sysModules)=false ∧
  ∃ xs,KT H kvs xs∧h.DictOfH (tupleKind (mixKind P w)) a xs:=by
 obtain ⟨z,y,xs,r,o,es,ep,h1,h2,h3,h4,h5⟩:=(show ObjOk P w H h a (.dT kvs) from rd_of ok e)
 refine ⟨z,y,xs,r,o,es,ep,h1,h2,h3,h4,fun x hx=>?_,h5⟩
 have all:∀ {l:List (List Key×V)} {m:List (List Key×Addr×Value)},KT H l m→∀ x∈m,(tupleKind (mixKind P w)).is h x.1 x.2.1:=by
  intro l m q
  induction q with
  | nil=>intro x hx; exact nomatch hx
  | @cons p q ps qs hq t ih =>
   intro x hx
   rcases List.mem_cons.mp hx with e | hx
   ·subst e
    exact key_of ok (by rw [← hq.1]; exact hq.2.1)
   ·exact ih x hx
 exact all r x hx
theorem dt_of {kvs:List (List Key×V)} (ok:HOk P w H h) (e:H a=some (.dT kvs)):kvs.length≤sizeLine∧(a == sysModules)=false ∧
  ∃ xs,KT H kvs xs∧h.DictOfH (tupleKind (mixKind P w)) a xs:=dt_rd ok (.inl e)
end
def DGet (H:Hp) (a:Addr) (y:V) (r:Option V):Prop :=
 (∃ kvs k,Rd H a (.dK kvs)∧y=kV k∧r=valV kvs k)∨∃ kvs k b,Rd H a (.dT kvs)∧y=.ref b∧H b=some (.tup (k.map kV))∧r=valV kvs k
def DPut (H:Hp) (a:Addr) (y v:V) (H':Hp):Prop :=
 (∃ kvs k,H a=some (.dK kvs)∧y=kV k∧kvs.length < sizeLine∧H'=upd H a (.dK (putK kvs k v))) ∨
 ∃ kvs k b,H a=some (.dT kvs)∧y=.ref b∧H b=some (.tup (k.map kV))∧kvs.length < sizeLine∧H'=upd H a (.dT (putK kvs k v))
theorem DGet.k {H:Hp} {a:Addr} {kvs:List (Key×V)} {k:Key} (e:H a=some (.dK kvs)):DGet H a (kV k) (valV kvs k):=.inl ⟨kvs,k,.inl e,rfl,rfl⟩
theorem DPut.k {H:Hp} {a:Addr} {kvs:List (Key×V)} {k:Key} {v:V} (e:H a=some (.dK kvs)) (hl:kvs.length < sizeLine):DPut H a (kV k) v (upd H a (.dK (putK kvs k v))):=.inl ⟨kvs,k,e,rfl,hl,rfl⟩
theorem DPut.t {H:Hp} {a b:Addr} {kvs:List (List Key×V)} {k:List Key} {v:V} (e:H a=some (.dT kvs)) (eb:H b=some (.tup (k.map kV))) (hl:kvs.length < sizeLine) :
  DPut H a (.ref b) v (upd H a (.dT (putK kvs k v))):=.inr ⟨kvs,k,b,e,rfl,eb,hl,rfl⟩
section
variable {X:Cx} {pins:List (Addr×Obj)} {σ:St} {H:Hp} {s:Shared} {a:Addr} {y v:V} {u r:Value} {o:Option V} {A:Around} {E:Value→Shared→Prop}
theorem Inv.big (I:Inv X pins σ H s):sysModules < s.heap.objs.size:=by
 have h:mainGlobals < s.heap.objs.size:=(I.mod.glob.keeps I.bk).lt
 exact Nat.lt_trans (by decide) h
theorem d_in {Q:Value→Shared→Prop} (hu:A.units + 1 < cLine) (I:Inv X pins σ H s) (g:DGet H a y o) (ry:RelV y u) (h:∀ s',Inv X pins σ H s'→Q (.bool o.isSome) s') :
  wpAny (model X.prog X.w) A (compareOp .In u (.ref a)) Q E s:=by
 rcases g with ⟨kvs,k,e,ey,l⟩ | ⟨kvs,k,b,e,ey,eb,l⟩
 ·subst ey
  obtain ⟨z,hd,vs,rel,dd⟩:=dk_rd I.hok e
  refine wpAny_in_of (kV_is ry) hd dd.mapOf ?_
  rw [← (rel.val k).isSome_eq,← l]
  exact h _ (I.tok _)
 ·subst ey
  cases (show u=Value.ref b from ry)
  obtain ⟨z,hd,xs,rel,dd⟩:=dt_rd I.hok e
  refine wpAny_in_heap (tupleKind_room_in1 hu) (key_of I.hok eb) hd dd ?_
  have q:=(rel.val k).isSome_eq
  rw [Option.isSome_map] at q
  rw [← q,← l]
  exact h _ (I.tok _)
theorem d_write {h':Heap} {t':Nat} {ob:HO} (I:Inv X pins σ H s) (mu:Mut (H a)) (hs:Heap.SameBut a s.heap h') (he:∃ q,h'.get? a=some q) (new:ObjOk X.prog X.w (upd H a ob) h' a ob) :
  Inv X pins σ (upd H a ob) { s with heap:=h',toks:=t' } :=
 I.write (x:=a) (e:=a) mu (.inl rfl) (fun b q hb z=>(hs.2 b hb).trans z) he new
theorem dk_new {P:Program} {w:World} {H':Hp} {h':Heap} {kvs:List (Key×V)} {vs:List (Key×Value)} (z:kvs.length≤sizeLine) (hd:(a == sysModules)=false) (rel:KV kvs vs) (dd:h'.DictOf (mixKind P w) a vs) :
  ObjOk P w H' h' a (.dK kvs):=⟨z,hd,vs,rel,dd⟩
theorem d_setItem {H':Hp} {Q:Unit→Shared→Prop} (hu:A.units + 1 < cLine) (I:Inv X pins σ H s) (g:DPut H a y v H') (ry:RelV y u) (rv:RelV v r) (h:∀ s',Inv X pins σ H' s'→Q () s') :
  wpAny (model X.prog X.w) A (setItem (.ref a) u r) Q E s:=by
 rcases g with ⟨kvs,k,e,ey,l,eH⟩ | ⟨kvs,k,b,e,ey,eb,l,eH⟩
 ·subst ey eH
  obtain ⟨z,hd,vs,rel,dd⟩:=dk_of I.hok e
  have hz:vs.length≤sizeLine:=by rw [← rel.length]; exact z
  have hl:(putK kvs k v).length≤sizeLine:=by have:=length_putK kvs k v; omega
  refine wpAny_setItem_pairs (hsz:=hz) (kV_is ry) dd fun h' dd' hs=>h _ ?_
  have he:∃ q,h'.get? a=some q:=let ⟨q,_,_,hq,_⟩:=dd'; ⟨q,hq⟩
  exact d_write I (by rw [e]; exact True.intro) hs he (dk_new hl hd (rel.put k rv) dd')
 ·subst ey eH
  cases (show u=Value.ref b from ry)
  obtain ⟨z,hd,xs,rel,dd⟩:=dt_of I.hok e
  have hz:xs.length≤sizeLine:=by rw [← Paired.length rel]; exact z
  have hl:(putK kvs k v).length≤sizeLine:=by have:=length_putK kvs k v; omega
  refine wpAny_setItem_heap (hsz:=hz) (tupleKind_room_in1 hu) (key_of I.hok eb) dd fun h' dd' hs=>h _ ?_
  obtain ⟨q,es,ep,hq,h2,h3,h4,_,h5⟩:=dd'
  refine d_write I (by rw [e]; exact True.intro) hs ⟨q,hq⟩ ⟨hl,hd,_,(rel.put k eb rv).keeps fun c ys ec=>?_,q,es,ep,hq,h2,h3,h4,h5⟩
  rw [upd_ne (ne_of ec e (fun z=>nomatch z))]
  exact ec
end
section
variable {X:Cx} {pins:List (Addr×Obj)} {σ:St} {H:Hp} {s:Shared} {a:Addr} {kvs:List (Key×V)} {k:Key} {u:Value} {A:Around} {E:Value→Shared→Prop}
end
def tDIn (ty td:TE):TE:=fun σ H Q=>ty σ H fun y H1=>td σ H1 fun x H2=>∃ a o,x=.ref a∧DGet H2 a y o∧Q (.bl o.isSome) H2
def sDPut (td ty tv:TE):TS:=fun D σ H=>tv σ H fun v H1=>td σ H1 fun x H2=>ty σ H2 fun y H3=>∃ a H4,x=.ref a∧DPut H3 a y v H4∧D.nx σ H4
section
variable {X:Cx} {o i e value:Expr} {pos pos' tpos:Pos} {td ty tv:TE}
theorem pc_din (hu:X.A.units + 1 < cLine) (hi:PE X i ty) (ho:PE X o td):PC X .In i o (tDIn ty td):=by
 intro pins s σ H Q I h
 refine thn (hi pins s σ H _ I h) fun iv s1 ⟨y,H1,I1,ry,q1⟩=>thn (ho pins s1 σ H1 _ I1 q1) fun u s2 ⟨x,H2,I2,rx,a,ov,ex,g,q2⟩=>?_
 subst ex
 obtain rfl:u=Value.ref a:=rx
 exact d_in hu I2 g ry fun s3 I3=>⟨.bl ov.isSome,H2,I3,rfl,q2⟩
theorem ps_dput (hu:X.A.units + 1 < cLine) (ho:PE X o td) (hi:PE X i ty) (hv:PE X value tv) (hs:swapsWith value (some (.Subscript o i pos')) pos.line X.env=pure false) :
  PS X (.Assign [.Subscript o i pos'] value pos) (sDPut td ty tv):=by
 intro pins s σ H D I h
 refine wpAny_Assign_Subscript (thn (hv pins s σ H _ I h) fun r s1 ⟨v,H1,I1,rv,q1⟩=>thn (ho pins s1 σ H1 _ I1 q1) fun u s2 ⟨x,H2,I2,rx,q2⟩=>thn (hi pins s2 σ H2 _ I2 q2) fun iv s3 ⟨y,H3,I3,ry,a,H4,ex,g,q3⟩=>?_) hs
 subst ex
 obtain rfl:u=Value.ref a:=rx
 exact d_setItem hu I3 g ry rv fun s4 I4=>⟨σ,H4,I4,q3⟩
end
theorem dk_empty {P:Program} {w:World} {H:Hp} (h:Heap) (hb:sysModules < h.objs.size):ObjOk P w H (h.push { cls:=.type "dict",data:=.dict #[] }) h.objs.size (.dK []) :=
 ⟨Nat.zero_le _,beq_eq_false_iff_ne.mpr (Ne.symm (Nat.ne_of_lt hb)),[],.nil,Heap.DictOf.new h⟩
theorem dt_empty {P:Program} {w:World} {H:Hp} (h:Heap) (hb:sysModules < h.objs.size):ObjOk P w H (h.push { cls:=.type "dict",data:=.dict #[] }) h.objs.size (.dT []) :=
 ⟨Nat.zero_le _,beq_eq_false_iff_ne.mpr (Ne.symm (Nat.ne_of_lt hb)),[],.nil,_,#[],0,Heap.get?_push_size _ rfl,⟨rfl,rfl,rfl⟩,rfl,rfl,List.nodup_nil⟩
def tDNewK:TE:=fun _ H Q=>∀ p,H p=none→Q (.ref p) (upd H p (.dK []))
def tDNewT:TE:=fun _ H Q=>∀ p,H p=none→Q (.ref p) (upd H p (.dT []))
section
variable {X:Cx} {pos:Pos}
theorem pe_dnewK:PE X (.Dict [] [] pos) tDNewK:=fun pins s σ H Q I h =>
 wpAny_Dict_empty ⟨.ref s.heap.objs.size,_,I.laid (a:=s.heap.objs.size) (o:=.dK []) (t':=s.toks) (fun _ _ q=>Heap.get?_push_of_some _ q) (Nat.le_refl _) (dk_empty s.heap I.big),rfl,h _ (I.hok.fresh (Nat.le_refl _))⟩
theorem pe_dnewT:PE X (.Dict [] [] pos) tDNewT:=fun pins s σ H Q I h =>
 wpAny_Dict_empty ⟨.ref s.heap.objs.size,_,I.laid (a:=s.heap.objs.size) (o:=.dT []) (t':=s.toks) (fun _ _ q=>Heap.get?_push_of_some _ q) (Nat.le_refl _) (dt_empty s.heap I.big),rfl,h _ (I.hok.fresh (Nat.le_refl _))⟩
end
section
variable {X:Cx} {pins:List (Addr×Obj)} {σ:St} {H:Hp} {s:Shared} {a:Addr} {y d:V} {u r:Value} {o:Option V} {A:Around} {E:Value→Shared→Prop}
end
section
variable {X:Cx} {o e f:Expr} {apos cpos:Pos} {td ty tx:TE}
end
section
variable {X:Cx} {pins:List (Addr×Obj)} {σ:St} {H:Hp} {s:Shared} {a:Addr} {kvs:List (Key×V)} {A:Around} {E:Value→Shared→Prop}
end
section
variable {X:Cx} {pins:List (Addr×Obj)} {σ:St} {H:Hp} {s:Shared} {a:Addr} {y:V} {u:Value} {A:Around} {E:Value→Shared→Prop}
end
end L2
namespace Att
open PySem PySem.W PySem.Calls PyProof.Rows
theorem ints_of_wellAll {P:Params} {h:Heap}:∀ (ns:List Int) (vs:List Value),WellAll P h vs (ns.map WData.int)→IntsAre vs ns:=by
 intro ns
 induction ns with
 | nil =>
  intro vs w
  rw [List.map_nil] at w
  cases w
  exact .nil
 | cons n ns ih =>
  intro vs w
  rw [List.map_cons] at w
  cases w with
  | cons a b =>
   cases a
   exact .cons _ _ (ih _ b)
theorem script_of {l:OpenLaw} {n:Nat} (hn:l.most=some n) {P:Params} {h:Heap} {args:List WData} {vals:List Value}
  (hpre:l.row.toRowW.claim.pre args=true) (hwl:WellAll P h vals args) :
  ∃ a vs ns,vals=[Value.ref a]∧args=[WData.list (ns.map WData.int)]∧h.get? a=some { cls:=.type "list",data:=.seq vs.toArray }∧IntsAre vs ns∧ns.length≤n:=by
 have hsh:WShape.hasAll [] args [.list .int]=true:=(pre_splitW hpre).1
 have hc:l.pre.holds [] { args:=args }=true:=(pre_splitW hpre).2
 obtain ⟨d,r,rfl,h1,h2⟩:=hasAllW_cons hsh
 obtain rfl:=hasAllW_nil h2
 obtain ⟨xs,rfl,h3⟩:=hasW_list h1
 obtain ⟨ns,rfl⟩:=items_int h3
 have hlen:ns.length≤n:=by
  unfold OpenLaw.pre at hc
  have h4:(WTm.not (.lt (.lit (.int (n:Int))) (.len (.arg 0)))).holds [] { args:=[.list (ns.map .int)] }=true:=by
   have h4:=(holds_andW hc).1
   rw [hn] at h4
   exact h4
  have h5:=condW_of h4 (w_not (w_lt w_lit (w_len_list (w_arg rfl))))
  rw [List.length_map] at h5
  refine Nat.le_of_not_lt fun q=>?_
  have q':(n:Int) < ((ns.length:Nat):Int):=by omega
  first
   | (rw [decide_eq_true q'] at h5; exact absurd h5 (by decide))
   | (simp at h5; omega)
 cases hwl with
 | cons w1 w2 =>
  cases w2
  cases w1 with
  | list ho hall=>exact ⟨_,_,ns,rfl,rfl,ho,ints_of_wellAll ns _ hall,hlen⟩
theorem post_true (l:OpenLaw) (args:List WData):l.row.toRowW.claim.post args (.bool true) args=true :=
 postW_of (r:=l.row.toRowW) (X:=(true == true))
  (show WShape.has [] (.bool true) .bool=true by first | rfl | decide | simp [WShape.has,WShape.arms,WShape.armsAll])
  (show (WTm.eq .res (.lit (.bool true))).value [] { args:=args,res:=some (.bool true),after:=args }=some (.bool (true == true)) from w_eq_bool (w_res rfl) w_lit) rfl
theorem attach_call {l:OpenLaw} {n:Nat} {q:Program} {loose:List Str} {XP:(Str→Option Value)→Heap→Prop} {YP:World→Heap→Prop} {d:DefRec}
  (hn:l.most=some n) (hdf:d.params.defaults=[])
  (call:∀ (w:World) (s₀ s₁:Shared) (mg mb:Str→Option Value) (fa:Addr) (o:Obj) (pm cd doc:Value) (a:Addr) (vs:List Value) (ns:List Int),
   Ground q loose [] XP w s₀ mg mb s₁.heap→YP w s₁.heap →
   s₁.heap.get? fa=some o→o.data=.func (docDef d.name d.params d.body d.scope pm cd doc)→s₁.heap.CodeRec cd d.name→mg d.name=some (.ref fa) →
   s₁.heap.get? a=some { cls:=.type "list",data:=.seq vs.toArray }→IntsAre vs ns→ns.length≤n→s₁.gens=#[] →
   codeAny (model l.prog w) callerA (.call (.ref fa) ⟨[.ref a],[]⟩) (fun r s'=>r=.ok (.ret (.bool true))∧OldK s₁.heap s'.heap∧s'.os=s₁.os∧AllBare s'.gens) s₁) :
  WalkO q loose XP YP l.row.toRowW d [] (fun f vs=>PySem.call f vs):=by
 intro w s₀ s₁ mg mb G Y fa o pm cd doc dV kV ho hd hcd hD hmg hg args vals as hpre hlay hrd hwl hlo
 obtain rfl:dV=.none:=Dflts.none hD hdf
 obtain rfl:kV=.none:=Dflts.noKw hD
 obtain ⟨a,vs,ns,rfl,rfl,hobj,hints,hlen⟩:=script_of hn hpre hwl
 refine enter_call (codeAny_mono (call w s₀ s₁ mg mb fa o pm cd doc a vs ns G Y ho (fd_plain hd) hcd hmg hobj hints hlen hg) fun r s' hq=>?_)
 obtain ⟨rfl,h2,h3,h4⟩:=hq
 exact ⟨.inl ⟨.bool true,.bool true,[],rfl,fun _=>rfl,.bool true,post_true l _,fun _=>⟨List.Pairwise.nil,fun _ hm=>(nomatch hm)⟩⟩,h2,h3,h4⟩
section
variable {prog:Program} {w:World} {A:Around} {E:Value→Shared→Prop} {s:Shared} {K:Frag}
end
end Att
namespace L2
open PySem PySem.Spec PyProof.Rows
theorem vals_ints:∀ {vs:List Value} {ns:List Int},IntsAre vs ns→Vals (ns.map V.int) vs
 | _,_,.nil=>.nil
 | _,_,.cons n t h=>.cons ⟨t,rfl⟩ (vals_ints h)
def Only (H:Hp):Prop:=∀ b,H b=none∨∃ o xs,H b=some (.frz o (.lst xs))
theorem law_call {P:Program} {w:World} {K:PySem.W.Frag} {mg mb:Str→Option Value} {CX:CXT} {k:Nat} {fa a:Addr} {fd:FuncData} {x:Str} {sp:Sp} {s₁:Shared} {vs:List Value} {ns:List Int}
  (KX:K.In s₁.heap) (hns:s₁.heap.Ns mainGlobals mg) (hb:s₁.heap.Ns builtinsNs mb) (hbb:∀ x:Str,x≠"__name__"→mb x=bootBuiltins x) (hlim:s₁.heap.NoLimit) (hg:s₁.gens=#[])
  (ha:s₁.heap.get? a=some { cls:=.type "list",data:=.seq vs.toArray }) (hi:IntsAre vs ns) (hl:ns.length≤sizeLine) (hr:Room k callerA)
  (F:∀ base:Heap,K.In base→base.Ns mainGlobals mg→FnOk P w K mg base CX k fa fd [x] sp) (hbind:∀ (s:Shared) (u:Value),BindsTo s fd ⟨[u],[]⟩ [(x,u)])
  (hsp:∀ H:Hp,Only H→SqL K H a (ns.map V.int)→sp [.ref a] H (fun v _=>v=.bl true) fun _ _ _=>False)
  (hCX:∀ H e s',CX [] H s₁ (fun _ _ _=>False) e s'→False) :
  codeAny (model P w) callerA (.call (.ref fa) ⟨[.ref a],[]⟩) (fun r s'=>r=.ok (.ret (.bool true))∧OldK s₁.heap s'.heap∧s'.os=s₁.os∧AllBare s'.gens) s₁:=by
 have rv:=vals_ints hi
 have lenV:=hi.length
 -- from an abstract heap in which nothing but the script may be tracked
 have core:∀ H:Hp,Only H→SqL K H a (ns.map V.int)→HOk P w H s₁.heap→(∀ b,H b≠none→b=a)→(H a≠none→K.lookup a=none) →
   codeAny (model P w) callerA (.call (.ref fa) ⟨[.ref a],[]⟩) (fun r s'=>r=.ok (.ret (.bool true))∧OldK s₁.heap s'.heap∧s'.os=s₁.os∧AllBare s'.gens) s₁:=by
  intro H hO hS hok hA hK
  have base_of:∀ {b:Addr} {o:Obj},s₁.heap.get? b=some o→H b=none→(hidT s₁.heap H).get? b=some o:=fun e n=>hidT_get e n
  have noA:∀ {b:Addr} {o:Obj} {es:Array DictEntry} {ep:Nat},s₁.heap.get? b=some o→o.data=.dict es ep→H b=none:=fun {b o es ep} e d=>by
   cases q:H b with
   | none=>rfl
   | some u =>
    have e':b=a:=hA b (by rw [q]; simp)
    subst e'
    rw [ha] at e; cases e
    have d':Data.seq vs.toArray _=Data.dict es ep:=d
    cases d'
  have nsK:∀ {b:Addr} {m:Str→Option Value},s₁.heap.Ns b m→(hidT s₁.heap H).Ns b m:=fun {b m} ⟨o,es,ep,e,d,r⟩=>⟨o,es,ep,base_of e (noA e d),d,r⟩
  have hKb:K.In (hidT s₁.heap H):=fun b o e=>base_of (KX b o e) (by
   cases q:H b with
   | none=>rfl
   | some u =>
    have e':b=a:=hA b (by rw [q]; simp)
    subst e'
    rw [hK (by rw [q]; simp)] at e; cases e)
  have hM:Mod K mg (hidT s₁.heap H):=⟨hKb,nsK hns,⟨mb,nsK hb,hbb⟩,let ⟨mc,h1,h2⟩:=hlim; ⟨mc,nsK h1,h2⟩⟩
  have e0:Env0 P w K mg (hidT s₁.heap H) callerA [] s₁ H:=⟨rfl,hM,fun b o e=>of_hidT e,Nat.le_of_eq (hidT_size _ _),trivial,fun b hb=>absurd (show b∈([]:List Addr) from hb) (by simp),hok,.of_eq hg⟩
  refine codeAny_mono ((F _ hKb (nsK hns)).run callerA [] s₁ H ⟨[.ref a],[]⟩ [.ref a] [.ref a] _ _ hr e0 (hbind s₁ (.ref a)) (.cons rfl .nil) (hsp H hO hS)) fun r s' h=>?_
  cases r with
  | error e=>exact (hCX H e s' h).elim
  | ok fl =>
   cases fl with
   | next=>exact False.elim h
   | brk=>exact False.elim h
   | cont=>exact False.elim h
   | ret u =>
    obtain ⟨v,H',os,bare,un,hok',r',q⟩:=h
    have q':v=.bl true:=q
    subst q'
    obtain rfl:u=Value.bool true:=r'
    refine ⟨rfl,OldK.of_keep fun b o e=>?_,os,bare⟩
    cases q:H b with
    | none=>exact un.keep b o e q (by intro z; exact absurd (show b∈([]:List Addr) from z) (by simp)) (by simp)
    | some u =>
     rcases hO b with z | ⟨ob,xs,z⟩
     ·rw [q] at z; cases z
     ·have z2:=un.frzs b ob _ z
      obtain ⟨e1,_⟩:=hok b _ z
      obtain ⟨e2,_⟩:=hok' b _ z2
      rw [e] at e1; cases e1
      exact e2
 cases hk:K.lookup a with
 | some o =>
  -- the script is one of the module's own objects
  have e:=KX a o hk
  rw [ha] at e
  cases e
  refine core (fun _=>none) (fun _=>.inl rfl) (.inr ⟨_,vs.toArray,_,hk,rfl,rfl,rfl,by rw [List.size_toArray,lenV]; exact hl,by simpa using rv⟩) (fun b u z=>by have z':(none:Option HO)=some u:=z; cases z') (fun b z=>absurd rfl z) fun z=>absurd rfl z
 | none =>
  refine core (fun b=>if b=a then some (.frz { cls:=.type "list",data:=.seq vs.toArray } (.lst (ns.map V.int))) else none) (fun b=>?_) (.inl (.inr ⟨{ cls:=.type "list",data:=.seq vs.toArray },if_pos rfl⟩)) (fun b u z=>?_) (fun b z=>?_) fun _=>hk
  ·by_cases hb:b=a
   ·exact .inr ⟨_,_,if_pos hb⟩
   ·exact .inl (if_neg hb)
  ·by_cases hb:b=a
   ·have z':=(if_pos hb).symm.trans z
    cases z'
    subst hb
    exact ⟨ha,by rw [List.length_map]; exact hl,vs,_,rv,ha⟩
   ·have z':=(if_neg hb).symm.trans z
    cases z'
  ·by_cases hb:b=a
   ·exact hb
   ·exact absurd (if_neg hb) z
theorem walk_of {l:PySem.W.OpenLaw} {n k:Nat} {q:Program} {loose:List Str} {XP:(Str→Option Value)→Heap→Prop} {YP:World→Heap→Prop} {d:DefRec} {K:Params→PySem.W.Frag} {CX:World→CXT} {sp:World→Sp} {x:Str}
  (hn:l.most=some n) (hn2:n≤sizeLine) (hdf:d.params.defaults=[]) (hr:Room k callerA)
  (hY:∀ (w:World) (h:Heap),YP w h→(K w.params).In h)
  (F:∀ (w:World) (mg:Str→Option Value) (fa:Addr) (h:Heap),(K w.params).In h→h.Ns mainGlobals mg→mg d.name=some (.ref fa) →
   ∃ fd:FuncData,(∀ (s:Shared) (u:Value),BindsTo s fd ⟨[u],[]⟩ [(x,u)]) ∧
    ∀ base:Heap,(K w.params).In base→base.Ns mainGlobals mg→FnOk l.prog w (K w.params) mg base (CX w) k fa fd [x] (sp w))
  (hsp:∀ (w:World) (H:Hp) (a:Addr) (ns:List Int),ns.length≤n→Only H→SqL (K w.params) H a (ns.map V.int)→sp w [.ref a] H (fun v _=>v=.bl true) fun _ _ _=>False)
  (hCX:∀ (w:World) (H:Hp) (s:Shared) (e:Value) (s':Shared),CX w [] H s (fun _ _ _=>False) e s'→False) :
  PySem.W.WalkO q loose XP YP l.row.toRowW d [] (fun f vs=>PySem.call f vs):=by
 refine Att.attach_call hn hdf fun w s₀ s₁ mg mb fa o pm cd doc a vs ns G Y ho hd hcd hmg hobj hints hlen hg=>?_
 have KX:=hY w _ Y
 obtain ⟨fd,hb,hF⟩:=F w mg fa _ KX G.T.g hmg
 exact law_call KX G.T.g G.T.b G.T.builtins G.T.nolimit hg hobj hints (Nat.le_trans hlen hn2) hr hF hb (fun H hO hS=>hsp w H a ns hlen hO hS) fun H e s'=>hCX w H s₁ e s'
end L2
namespace L2
open PySem PySem.Spec PyProof.Rows
def defArgs (s:Stmt):Arguments:=match s with
 | .FunctionDef _ a _ _ _ _ _ _ _ _=>a
 | _=>{ posonlyargs:=[],args:=[],vararg:=none,kwonlyargs:=[],kw_defaults:=[],kwarg:=none,defaults:=[] }
def defBody (s:Stmt):List Stmt:=match s with
 | .FunctionDef _ _ b _ _ _ _ _ _ _=>b
 | _=>[]
def defScope (s:Stmt):Scope:=match s with
 | .FunctionDef _ _ _ _ _ _ sc _ _ _=>sc
 | _=>{ kind:=.function,names:=[],isGenerator:=false,isCoroutine:=false }
abbrev CX0:CXT:=fun _ _ _ _ _ _=>False
abbrev E0:XK:=fun _ _ _=>False
theorem pass0 {X:Cx}:Passes CX0 X E0:=fun _ _ _ _ _ _ _ h=>h.elim
structure Fun (K:PySem.W.Frag) (x qual:Str) (st:Stmt) (f:Addr) (fd:FuncData):Prop where
 ex:∃ (oc:Value) (od:Option Addr) (kV doc pm:Value) (an:Option Addr) (cdv ct:Value) (osl:Array (Option Value)),
  fd=PySem.W.fnOf x qual (defArgs st) (defBody st) (defScope st) .none kV doc pm an cdv ct∧K.lookup f=some ⟨oc,od,.func fd,osl⟩∧PySem.W.codeIn K cdv qual=true
 kp:PySem.W.keepIn K (.ref f)=true
section
variable {P:Program} {w:World} {K:PySem.W.Frag} {mg:Str→Option Value} {base:Heap}
theorem Fun.ok {x qual:Str} {st:Stmt} {f:Addr} {fd:FuncData} {N ps:List Str} {k:Nat} {sp:Sp} (F:Fun K x qual st f fd) (S:FnScope N ps (defScope st)) (len:∀ vs H Q E,sp vs H Q E→vs.length=ps.length)
  (hbody:∀ (cdv:Value) (A:Around) (outer:List Env) (s:Shared) (H:Hp) (vs:List V) (Q:VK) (E:XK),Room k (A.deeper (envOfC qual (defScope st) s.heap.objs.size f cdv))→sp vs H Q E →
   ∃ t,PSs (cxOf CX0 P w K mg base N qual (defScope st) f cdv A outer s H E).nox (defBody st) t∧t { nx:=fun _ H'=>Q .non H',rt:=Q } (start N vs) H):FnOk P w K mg base CX0 (k + 1) f fd ps sp:=by
 obtain ⟨oc,od,kV,doc,pm,an,cdv,ct,osl,rfl,lk,hcd⟩:=F.ex
 refine fn_of lk hcd S len fun A outer s H vs Q E hr hsp=>?_
 obtain ⟨t,h,q⟩:=hbody cdv A outer s H vs Q E hr hsp
 exact ⟨t,h.nox,q⟩
theorem Fun.binds {x qual:Str} {st:Stmt} {f:Addr} {fd:FuncData} {ps:List Str} (F:Fun K x qual st f fd)
  (h:∀ (kV doc pm:Value) (an:Option Addr) (cdv ct:Value) (us:List Value),us.length=ps.length→bindArgs (PySem.W.fnOf x qual (defArgs st) (defBody st) (defScope st) .none kV doc pm an cdv ct) ⟨us,[]⟩=pure (ps.zip us)):Binds K fd ps []:=by
 obtain ⟨oc,od,kV,doc,pm,an,cdv,ct,osl,rfl,lk,hcd⟩:=F.ex
 exact .all (h kV doc pm an cdv ct)
theorem fun_mk {x qual:Str} {st:Stmt} {f:Addr} {oc:Value} {od an:Option Addr} {osl:Array (Option Value)} {kV doc pm cdv ct:Value} (l:K.lookup f=some ⟨oc,od,.func (PySem.W.fnOf x qual (defArgs st) (defBody st) (defScope st) .none kV doc pm an cdv ct),osl⟩)
  (c:PySem.W.codeIn K cdv qual=true) (k:PySem.W.keepIn K (.ref f)=true):Fun K x qual st f (PySem.W.fnOf x qual (defArgs st) (defBody st) (defScope st) .none kV doc pm an cdv ct):=⟨⟨oc,od,kV,doc,pm,an,cdv,ct,osl,rfl,l,c⟩,k⟩
end
theorem hu_of {A:Around} {k:Nat} (hr:Room k A):A.units + 1 < cLine:=Nat.lt_of_le_of_lt (Nat.add_le_add_left (by decide:1≤64) _) hr.units
theorem small1000 {n:Nat} (h:n≤1000):n < sizeLine:=Nat.lt_of_le_of_lt h (by decide)
section
variable {X:Cx}
theorem pv (i:Nat) {x:Str} {pos:Pos} (hN:X.N[i]?=some x:=by rfl) (hv:Vis X.env.scope x:=by first | exact Or.inl rfl | exact Or.inr (Or.inl rfl) | exact Or.inr (Or.inr rfl)) (hd:(x == ("__debug__":Str))=false:=by decide)
  (hcd:(x == ("__classdict__":Str))=false:=by decide):PE X (.Name x pos) (tVar i):=pe_var hN hv hd hcd
end
theorem iteF {A B:Prop} (h:B):if false=true then A else B:=by
 rw [if_neg Bool.false_ne_true]
 exact h
theorem iteT {A B:Prop} (h:A):if true=true then A else B:=by
 rw [if_pos rfl]
 exact h
theorem ite2 {c A B:Prop} [Decidable c] (h1:c→A) (h2:¬ c→B):if c then A else B:=by
 by_cases h:c
 ·rw [if_pos h]
  exact h1 h
 ·rw [if_neg h]
  exact h2 h
def Same (H H':Hp):Prop:=∀ b o,H b=some o→H' b=some o
theorem Same.refl (H:Hp):Same H H:=fun _ _ h=>h
theorem Same.trans {H H1 H2:Hp} (a:Same H H1) (b:Same H1 H2):Same H H2:=fun c o h=>b c o (a c o h)
theorem Same.free {H H':Hp} (e:Same H H') {l:Addr} (h:H' l=Option.none):H l=Option.none:=by
 cases q:H l with
 | none=>rfl
 | some o =>
  rw [e l o q] at h
  cases h
theorem Same.seq {K:PySem.W.Frag} {H H':Hp} {a:Addr} {xs:List V} (e:Same H H') (h:SqL K H a xs):SqL K H' a xs:=by
 rcases h with (h | ⟨o,h⟩) | h
 ·exact .inl (.inl (e _ _ h))
 ·exact .inl (.inr ⟨o,e _ _ h⟩)
 ·exact .inr h
section
variable {κ:Type} [DecidableEq κ]
end
end L2
namespace L2
open PySem PySem.Spec PyProof.Rows
section
variable {prog:Program} {w:World} {A:Around} {R:Result→Shared→Prop}
theorem lc_loop {elt tg iter:Expr} {ifs:List Expr} {scope:Scope} {pos:Pos} {itv accv:Value} {ce:Env} (J:Nat→Shared→Prop)
  (step:∀ k t,J k t→wpAny (model prog w) A (pyNext itv) (fun r t1=>match r with
   | none=>R (.ok .next) t1
   | some v=>wpAny (model prog w) A (letOwnedTupleGo tg itv v) (fun _ t2=>wpAny (model prog w) A (assign tg ce v) (fun _ t3 =>
     wpAny (model prog w) A (forIn ifs true fun c r=>if r=true then do let ok ← isTrue c ce (eval c ce); pure (ForInStep.yield ok) else pure (ForInStep.yield r)) (fun ok t4 =>
      if ok=true then wpAny (model prog w) A (eval elt ce) (fun x t5 =>
       wpAny (model prog w) A (call (.builtin "list.append") [accv,x]) (fun _ t6=>∃ j,j < k∧J j t6) (fun _ _=>False) t5) (fun _ _=>False) t4
      else ∃ j,j < k∧J j t4) (fun _ _=>False) t3) (fun _ _=>False) t2) (fun _ _=>False) t1) (fun _ _=>False) t)
  (n:Nat) {s:Shared} (h:J n s) :
  codeAny (model prog w) A (.compLoop (.ListComp elt [⟨tg,iter,ifs,0⟩] scope pos) 0 itv accv ce) R s:=by
 refine codeAny_loop rfl J (fun k t hJ=>?_) n h
 show wpAny _ A ((compTurn (.ListComp elt [⟨tg,iter,ifs,0⟩] scope pos) 0 itv accv ce).onRaise (fun x=>do noteFrame x ce; theTreesLotGoes x)) _ _ t
 refine wpAny_noted ?_
 rw [compTurn_list]
 refine wpAny_bind (wpAny_standAt (wpAny_bind (wpAny_mono (step k t hJ) (fun r t1 h1=>?_) fun _ _ z=>z.elim)))
 cases r with
 | none=>exact wpAny_pure h1
 | some v =>
  refine wpAny_bind (wpAny_mono h1 (fun _ t2 h2=>?_) fun _ _ z=>z.elim)
  refine wpAny_bind (wpAny_mono h2 (fun _ t3 h3=>wpAny_bind (wpAny_mono h3 (fun ok t4 h4=>?_) fun _ _ z=>z.elim)) fun _ _ z=>z.elim)
  cases ok with
  | false=>exact wpAny_pure ⟨rfl,h4⟩
  | true =>
   exact wpAny_bind (wpAny_bind (wpAny_mono h4 (fun x t5 h5=>wpAny_bind (wpAny_mono h5 (fun _ t6 h6=>wpAny_pure (wpAny_pure ⟨rfl,h6⟩)) fun _ _ z=>z.elim)) fun _ _ z=>z.elim))
end
def cxLc (X:Cx) (N:List Str) (scope:Scope) (cl:List (Str×Addr)) (C:Addr) (s:Shared) (H:Hp) (fp:List Addr):Cx where
 prog:=X.prog
 w:=X.w
 K:=X.K
 mg:=X.mg
 base:=X.base
 A:=X.A
 N:=N
 s₀:=s
 H₀:=H
 env:=compEnvC scope cl C X.env
 outer:=X.stack
 stack:=X.stack
 ex:=fp
 fn:=fun _=>false
 calm:=X.calm
 pn:=[]
 xe:=fun _ _=>False
def CapsIn (env:Env):List (Str×Addr)→Prop
 | []=>True
 | p::r=>(env.kindOf p.1=some .cell∧env.cells.lookup p.1=some p.2)∧CapsIn env r
theorem CapsIn.get {env:Env}:∀ {cl:List (Str×Addr)},CapsIn env cl→∀ x c,cl.lookup x=some c→env.kindOf x=some .cell∧env.cells.lookup x=some c
 | [],_,_,_,e=>by simp at e
 | (n,a)::r,h,x,c,e=>by
  by_cases hx:x=n
  ·subst hx
   simp only [List.lookup_cons,beq_self_eq_true] at e
   cases e
   exact h.1
  ·have hb:(x == n)=false:=by simpa using hx
   simp only [List.lookup_cons,hb] at e
   exact CapsIn.get h.2 x c e
structure LcOk (X:Cx) (N:List Str) (src:List (Option Nat)) (scope:Scope) (cl:List (Str×Addr)):Prop where
 clos:closureFor scope X.env=pure cl
 kind:scope.kind=.function
 nocell:scope.names.all (fun y=>!(y.2 == .cell))=true
 names:scope.names.all (fun y=>!(y.2 == .local) || scope.names.lookup y.1 == some .local)=true
 caps:CapsIn X.env cl
 has:(relabel scope X.env).names.all (fun y=>!(y.2 == .cell || y.2 == .free) || (cl.lookup y.1).isSome)=true
 len:N.length=src.length
 srcs:(N.zip src).all (fun p=>match p.2 with | none=>true | some i=>X.N[i]? == some p.1 && !((relabel scope X.env).names.lookup p.1 == some .local))=true
def capS (src:List (Option Nat)) (σ:St):St:=src.map fun o=>match o with | none=>none | some i=>(σ[i]?).join
def GOwn (g:TG) (src:List (Option Nat)):Prop :=
 ∀ x σ H Q,g x σ H Q→g x σ H fun σ2 H2=>Q σ2 H2∧σ2.length=σ.length∧∀ k:Nat,src[k]?≠some none→σ2[k]?=σ[k]?
theorem gown_name {i:Nat} {src:List (Option Nat)} (h:src[i]?=some none):GOwn (gName i) src:=fun x σ H Q q =>
 ⟨q,by simp,fun k hk=>by
  have:i≠k:=fun e=>hk (by rw [← e]; exact h)
  rw [List.getElem?_set_ne this]⟩
theorem gown_pair {K:PySem.W.Frag} {i j n:Nat} {src:List (Option Nat)} (h:src[i]?=some none) (h':src[j]?=some none):GOwn (gTup K n (gCons (gName i) (gCons (gName j) gNil))) src:=by
 intro x σ H Q q
 obtain ⟨a,xs,e1,e2,e3,v,r,e4,v2,r2,e5,e6,q⟩:=q
 refine ⟨a,xs,e1,e2,e3,v,r,e4,v2,r2,e5,e6,q,by simp,fun k hk=>?_⟩
 have n1:i≠k:=fun e=>hk (by rw [← e]; exact h)
 have n2:j≠k:=fun e=>hk (by rw [← e]; exact h')
 rw [List.getElem?_set_ne n2,List.getElem?_set_ne n1]
theorem capS_len (src:List (Option Nat)) (σ:St):(capS src σ).length=src.length:=by simp [capS]
theorem capS_get {src:List (Option Nat)} {σ:St} {k:Nat} {v:V} (h:(capS src σ)[k]?=some (some v)):∃ i,src[k]?=some (some i)∧σ[i]?=some (some v):=by
 unfold capS at h
 rw [List.getElem?_map] at h
 cases e:src[k]? with
 | none=>rw [e] at h; cases h
 | some o =>
  rw [e] at h
  cases o with
  | none=>cases h
  | some i =>
   refine ⟨i,rfl,?_⟩
   have h:some ((σ[i]?).join)=some (some v):=h
   have h:=Option.some.inj h
   cases q:σ[i]? with
   | none=>rw [q] at h; cases h
   | some z=>rw [q] at h; have h:z=some v:=h; rw [h]
def PIfs (X:Cx) (ifs:List Expr) (t:TT):Prop :=
 ∀ (pins:List (Addr×Obj)) (s:Shared) (σ:St) (H:Hp) (Q:Bool→Hp→Prop),Inv X pins σ H s→t σ H Q →
  wpAny (model X.prog X.w) X.A (forIn ifs true fun c r=>if r=true then do let ok ← isTrue c X.env (eval c X.env); pure (ForInStep.yield ok) else pure (ForInStep.yield r)) (TP X pins σ Q) X.xe s
def tYes:TT:=fun _ H Q=>Q true H
theorem pifs_nil {X:Cx}:PIfs X [] tYes:=fun _ _ _ H _ I h=>wpAny_tests_nil ⟨H,I,h⟩
theorem pifs_one {X:Cx} {c:Expr} {t:TT} (h:PT X c t):PIfs X [c] t:=fun pins s σ H Q I q=>wpAny_tests_one (h pins s σ H Q I q)
def tLc (wi:TI) (src:List (Option Nat)) (g:TG) (tc:TT) (te:TE):TE:=fun σ H Q=>wi σ H fun J H1 =>
 ∃ W:Nat→Nat→List V→Hp→Prop,(∃ m,W 0 m [] H1)∧∀ i m ys H,W i m ys H →
  (J.stop i H∧ys.length≤sizeLine∧∀ p,H p=none→Q (.ref p) (upd H p (.lst ys))) ∨
  (J.go i H∧ys.length≤sizeLine∧∀ x H',J.yld i H x H'→g x (capS src σ) H' fun σ2 H2=>tc σ2 H2 fun b H3 =>
   if b=true then te σ2 H3 fun y H4=>∃ m',m' < m∧W (i + 1) m' (ys++[y]) H4 else ∃ m',m' < m∧W (i + 1) m' ys H3)
section
variable {X:Cx} {N:List Str} {src:List (Option Nat)} {scope:Scope} {cl:List (Str×Addr)} {pins:List (Addr×Obj)} {σ:St} {H:Hp} {s:Shared}
theorem LcOk.cellAt (ok:LcOk X N src scope cl):∀ x,((relabel scope X.env).names.lookup x=some .cell∨(relabel scope X.env).names.lookup x=some .free)→∃ c,cl.lookup x=some c:=by
 intro x hx
 have key:∀ k:NameKind,(k == .cell || k == .free)=true→(relabel scope X.env).names.lookup x=some k→∃ c,cl.lookup x=some c:=by
  intro k hk e
  have m:=PySem.mem_of_lookup e
  have q:=List.all_eq_true.mp ok.has _ m
  rw [hk] at q
  simp only [Bool.not_true,Bool.false_or] at q
  exact Option.isSome_iff_exists.mp q
 rcases hx with e | e
 ·exact key _ rfl e
 ·exact key _ rfl e
theorem LcOk.enter (ok:LcOk X N src scope cl) (I:Inv X pins σ H s) {fp:List Addr} (hfp:∀ b∈fp,FpOk X pins H b) (hlt:∀ b∈fp,b < s.heap.objs.size) {C:Addr} (hC:s.heap.objs.size≤C)
  {t:Shared} {m:Str→Option Value} (ho:t.os=s.os) (hg:t.gens=s.gens) (hk:∀ b o,s.heap.get? b=some o→t.heap.get? b=some o) (hn:t.heap.Ns C m)
  {pl:List (Addr×Obj)} (hpl:∀ p∈pl,t.heap.get? p.1=some p.2∧H p.1=none∧p.1≠C∧p.1 ∉ frs X.stack∧∀ v,p.2.data≠.cell v) :
  Inv (cxLc X N scope cl C s H fp) pl (capS src σ) H t:=by
 have cg:=ok.caps.get
 have okX:(cxLc X N scope cl C s H fp).Ok:=by
  refine ⟨I.ok.mod,ok.kind,I.ok.glob,I.ok.blt,hC,fun x y c h1 h2=>?_,fun x hx=>ok.cellAt x hx,(fun x c z _=>nomatch z),I.ok.hd,I.ok.frames,.inl rfl,fun b hb=>?_,I.bs,Nat.le_trans I.ok.bsz I.sz,fun b o e hb=>?_,fun b hb z=>?_,I.stack,I.stkFree⟩
  ·exact I.ok.inj x y c (cg x c h1).2 (cg y c h2).2
  ·refine ⟨fun e=>?_,fun x c e=>?_⟩
   ·have e:b=C:=e
    have:=hlt b hb
    rw [e] at this
    exact absurd (Nat.lt_of_lt_of_le this hC) (Nat.lt_irrefl _)
   ·exact (hfp b hb).2.2.2.2.1 x c (cg x c e).2
  ·rcases (hfp b hb).2.2.2.1 with z | z
   ·exact I.ok.noex b o e z
   ·exact absurd (Nat.lt_of_lt_of_le (Heap.lt_size e) (Nat.le_trans I.ok.bsz z)) (Nat.lt_irrefl _)
  ·rcases List.mem_cons.mp (I.stkSub b z) with e | e
   ·exact (hfp b hb).2.1 e
   ·exact (hfp b hb).2.2.1 e
 obtain ⟨mX,hnX,hlX⟩:=I.loc
 refine ⟨okX,ho,by rw [hg]; exact I.bare,Un.kept hk,⟨m,hn,fun j x v e1 e2 e3=>?_⟩,fun x c e=>?_,I.hok.fresh hC,fun x c e=>I.freeC x c (cg x c e).2,fun p hp=>hpl p hp,I.hok.kept hk,?_⟩
 ·obtain ⟨i,e4,e5⟩:=capS_get e2
  have hz:(N.zip src)[j]?=some (x,some i):=by
   rw [List.getElem?_zip_eq_some]
   exact ⟨e1,e4⟩
  have q:=List.all_eq_true.mp ok.srcs _ (List.mem_of_getElem? hz)
  have q:(X.N[i]? == some x && !((relabel scope X.env).names.lookup x == some .local))=true:=q
  rw [Bool.and_eq_true] at q
  have q1:X.N[i]?=some x:=by simpa using q.1
  have q2:¬ (relabel scope X.env).names.lookup x=some .local:=by
   intro z
   rw [z] at q
   exact absurd q.2 (by decide)
  have e3:(relabel scope X.env).names.lookup x=some .local∨(relabel scope X.env).names.lookup x=some .cell∨(relabel scope X.env).names.lookup x=some .free:=e3
  have e6:(relabel scope X.env).names.lookup x=some .cell∨(relabel scope X.env).names.lookup x=some .free:=e3.resolve_left q2
  obtain ⟨c,hc⟩:=ok.cellAt x e6
  obtain ⟨k1,k2⟩:=cg x c hc
  obtain ⟨u,r,l⟩:=hlX i x v q1 e5 (.inr (.inl k1))
  refine ⟨u,r,.inr ⟨e6,c,hc,?_⟩⟩
  rcases l with ⟨z,_⟩ | ⟨_,c',z1,z2⟩
  ·rw [k1] at z; cases z
  ·rw [k2] at z1
   cases z1
   obtain ⟨o,ho',hd⟩:=z2
   exact ⟨o,hk _ o ho',hd⟩
 ·obtain ⟨v,o,ho',hd⟩:=I.cell x c (cg x c e).2
  exact ⟨v,o,hk _ o ho',hd⟩
 ·rw [capS_len]
  exact ok.len.symm
theorem lc_leave (I:Inv X pins σ H s) {fp:List Addr} (hfp:∀ b∈fp,FpOk X pins H b) {C D:Addr} (hD:s.heap.objs.size≤D) (hC:s.heap.objs.size≤C)
  {σ':St} {H':Hp} {t:Shared} {pl:List (Addr×Obj)} (J:Inv (cxLc X N scope cl C s H fp) pl σ' H' t) {ys:List V} {its:List Value} {n:Nat} (hy:ys.length≤sizeLine) (rv:Vals ys its)
  (hd:t.heap.get? D=some { cls:=.type "list",data:=.seq its.toArray n }) (hn:H' D=none) (hDC:D≠C) {h':Heap} (hs:Heap.SameBut C t.heap h'):Inv X pins σ (upd H' D (.lst ys)) { t with heap:=h' }:=by
 have neC:∀ b o,s.heap.get? b=some o→b≠C:=fun b o e=>Nat.ne_of_lt (Nat.lt_of_lt_of_le (Heap.lt_size e) hC)
 have neD:∀ b o,s.heap.get? b=some o→b≠D:=fun b o e=>Nat.ne_of_lt (Nat.lt_of_lt_of_le (Heap.lt_size e) hD)
 have B:Un (frs X.stack) fp H H' s.heap t.heap:=J.base
 have fC:H' C=none:=J.free
 refine I.call' (s':={ t with heap:=h' }) (ch:=fp) J.os ?_ ?_ J.bare fun b hb=>⟨(hfp b hb).2.2.2.1,(hfp b hb).2.1,(hfp b hb).2.2.2.2.1,(hfp b hb).2.2.2.2.2⟩
 ·refine ⟨fun b o e q hb hx=>(hs.2 b (neC b o e)).trans (B.keep b o e q hb hx),fun b o e q hb hx=>?_,fun b o e q hx=>?_,fun b o e hx=>?_,fun b xs e=>?_,fun b o u e=>?_,fun b ps e=>?_⟩
  ·obtain ⟨sl,z⟩:=B.slot b o e q hb hx
   exact ⟨sl,(hs.2 b (neC b o e)).trans z⟩
  ·rw [upd_ne (neD b o e)]
   exact B.free b o e q hx
  ·obtain ⟨o',z⟩:=B.there b o e hx
   exact ⟨o',(hs.2 b (neC b o e)).trans z⟩
  ·have z:=B.tups b xs e
   rw [upd_ne (ne_of_none z hn)]
   exact z
  ·have z:=B.frzs b o u e
   rw [upd_ne (ne_of_none z hn)]
   exact z
  ·obtain ⟨more,z⟩:=B.tbls b ps e
   exact ⟨more,by rw [upd_ne (ne_of_none z hn)]; exact z⟩
 ·intro b u e
  by_cases hb:b=D
  ·subst hb
   rw [upd_same] at e
   cases e
   exact ⟨hy,its,n,rv,(hs.2 b hDC).trans hd⟩
  ·rw [upd_ne hb] at e
   refine (J.hok b u e).stay (fun c v hc q=>(hs.2 c ?_).trans q) (fun c q=>?_) fun c xs q=>?_
   ·rintro rfl
    rcases hc with z | z
    ·rw [← z,fC] at e; cases e
    ·rw [fC] at z; cases z
   ·rw [upd_ne (ne_of_none q hn)]; exact q
   ·rw [upd_ne (ne_of_none q hn)]; exact q
theorem lc_block {elt tg iter:Expr} {ifs:List Expr} {pos:Pos} {te:TE} {tc:TT} {g:TG} {it:Addr} {fp:List Addr} {tn:Nat→Heap→Prop} {J:It} {E:Value→Shared→Prop} {RR:Value→Addr→Result→Shared→Prop} {Qr:List V→Hp→Prop}
  (hc:X.calm=true) (ok:LcOk X N src scope cl) (hgo:GOwn g src)
  (hb:∀ C,PG (cxLc X N scope cl C s H fp) tg g∧PIfs (cxLc X N scope cl C s H fp) ifs tc∧PE (cxLc X N scope cl C s H fp) elt te)
  (I:Inv X pins σ H s) (T:Turn X.prog X.w X.K tg J fp it tn) (st:tn 0 s.heap) (hfp:∀ b∈fp,FpOk X pins H b)
  (W:Nat→Nat→List V→Hp→Prop) (w0:∃ m,W 0 m [] H)
  (turn:∀ i m ys H,W i m ys H→(J.stop i H∧ys.length≤sizeLine∧Qr ys H)∨(J.go i H∧ys.length≤sizeLine∧∀ x H',J.yld i H x H'→g x (capS src σ) H' fun σ2 H2=>tc σ2 H2 fun b H3 =>
   if b=true then te σ2 H3 fun y H4=>∃ m',m' < m∧W (i + 1) m' (ys++[y]) H4 else ∃ m',m' < m∧W (i + 1) m' ys H3))
  (fin:∀ D C t ys H',s.heap.objs.size≤D→s.heap.objs.size≤C→D≠C→H' D=none→H' C=none→(∃ m,t.heap.Ns C m)→Qr ys H'→(∀ h',Heap.SameBut C t.heap h'→Inv X pins σ (upd H' D (.lst ys)) { t with heap:=h' }) →
   RR (.ref D) C (.ok .next) t) :
  wpAny (model X.prog X.w) X.A (newList []) (fun acc s₃=>wpAny (model X.prog X.w) X.A (newFunctionEnv scope X.env.globals cl [] X.env.qual none .none (some X.env)) (fun cenv s₄ =>
   codeAny (model X.prog X.w) X.A (.compStart (.ListComp elt [⟨tg,iter,ifs,0⟩] scope pos) 0 (.ref it) acc { cenv with scope:=relabel scope X.env }) (RR acc cenv.locals) s₄) E s₃) E s:=by
 have noc:∀ y∈scope.names,y.2≠.cell:=fun y hy z=>by
  have q:=List.all_eq_true.mp ok.nocell y hy
  rw [z] at q
  exact absurd q (by decide)
 obtain ⟨m0,w0⟩:=w0
 refine wpAny_newList (wpAny_newFunctionEnv noc (by intro y hy; simp at hy) (fun h1 hns hsb=>?_) ok.kind) (by show 0≤sizeLine; exact Nat.zero_le _)
 dsimp only at hns hsb ⊢
 generalize hp1:s.heap.push { cls:=.type "list",data:=.seq ([]:List Value).toArray }=hD at hns hsb ⊢
 have eC:hD.objs.size=s.heap.objs.size + 1:=by rw [← hp1,Heap.size_push]
 have nDC:s.heap.objs.size≠hD.objs.size:=by rw [eC]; exact Nat.ne_of_lt (Nat.lt_succ_self _)
 have leC:s.heap.objs.size≤hD.objs.size:=by rw [eC]; exact Nat.le_succ _
 have kept:∀ b o,s.heap.get? b=some o→h1.get? b=some o:=fun b o e =>
  hsb.extBut b o (Nat.ne_of_lt (Nat.lt_of_lt_of_le (Heap.lt_size e) leC)) (Heap.get?_push_of_some _ (hp1 ▸ Heap.get?_push_of_some _ e))
 have atD:h1.get? s.heap.objs.size=some { cls:=.type "list",data:=.seq ([]:List Value).toArray }:=hsb.extBut _ _ nDC (Heap.get?_push_of_some _ (hp1 ▸ Heap.get?_push_size _ rfl))
 have ltf:∀ b∈fp,b < s.heap.objs.size:=fun b hb=>by
  obtain ⟨o,e,_⟩:=T.obj 0 _ st b hb
  exact Heap.lt_size e
 have nstk:s.heap.objs.size ∉ frs X.stack:=fun z=>by
  rcases List.mem_cons.mp (I.stkSub _ z) with e | e
  ·exact absurd (Nat.lt_of_lt_of_le I.lt (Nat.le_of_eq e)) (Nat.lt_irrefl _)
  ·exact I.nofs (Nat.le_refl _) e
 have ncl:∀ x c,cl.lookup x=some c→c≠s.heap.objs.size:=fun x c e z=>by
  obtain ⟨v,q⟩:=I.cell x c (ok.caps.get x c e).2
  exact absurd q.lt (by rw [z]; exact Nat.lt_irrefl _)
 -- what stays true of the iterator's records
 have stat:∀ {H':Hp} {its:List Value} {k:Nat},(∀ b∈fp,H' b=none)→∀ b∈fp,FpOk (cxLc X N scope cl hD.objs.size s H fp) [(s.heap.objs.size,{ cls:=.type "list",data:=.seq its.toArray k })] H' b:=fun fr b hb=>by
  refine ⟨fr b hb,fun z=>?_,fun z=>?_,.inl hb,fun x c e=>(hfp b hb).2.2.2.2.1 x c (ok.caps.get x c e).2,fun p hp z=>?_⟩
  ·have z:b=hD.objs.size:=z
   exact absurd (Nat.lt_of_lt_of_le (ltf b hb) (by rw [z]; exact leC)) (Nat.lt_irrefl _)
  ·rcases List.mem_cons.mp (I.stkSub b z) with e | e
   ·exact (hfp b hb).2.1 e
   ·exact (hfp b hb).2.2.1 e
  ·have hp:p∈([]:List (Addr×Obj))++[(s.heap.objs.size,{ cls:=.type "list",data:=.seq _ _ })]:=hp
   rw [List.nil_append,List.mem_singleton] at hp
   rw [hp] at z
   exact absurd (ltf b hb) (by rw [← z]; exact Nat.lt_irrefl _)
 have loop:∀ t:Shared,t={ s with heap:=h1,toks:=s.toks + ([]:List (Str×Value)).length } →
   codeAny (model X.prog X.w) X.A (.compLoop (.ListComp elt [⟨tg,iter,ifs,0⟩] scope pos) 0 (.ref it) (.ref s.heap.objs.size) (compEnvC scope cl hD.objs.size X.env)) (RR (.ref s.heap.objs.size) hD.objs.size) t:=by
  rintro t rfl
  refine lc_loop (fun n t=>∃ i ys its k H',Inv (cxLc X N scope cl hD.objs.size s H fp) [(s.heap.objs.size,{ cls:=.type "list",data:=.seq its.toArray k })] (capS src σ) H' t∧Vals ys its∧tn i t.heap∧(∀ b∈fp,H' b=none)∧W i n ys H') ?_ m0
   ⟨0,[],[],0,H,ok.enter (t:={ s with heap:=h1,toks:=s.toks + ([]:List (Str×Value)).length }) I hfp ltf leC rfl rfl kept hns ?_,.nil,T.keep 0 _ _ st fun b _ o e=>kept b o e,fun b hb=>(hfp b hb).1,w0⟩
  ·rintro n t ⟨i,ys,its,k,H',Iy,rv,stt,fr,wv⟩
   rcases turn i n ys H' wv with ⟨stop,hy,q⟩ | ⟨go,hy,body⟩
   ·refine wpAny_mono (T.done (cxLc X N scope cl hD.objs.size s H fp) rfl rfl rfl hc i _ t _ H' (fun _ _=>False) Iy (stat fr) stt stop) (fun r t1 hr=>?_) fun _ _ z=>z
    obtain ⟨hr,I1⟩:=hr
    subst hr
    have p:=I1.pin (s.heap.objs.size,_) (List.mem_append_right _ List.mem_cons_self)
    obtain ⟨m,hnC,_⟩:=id I1.loc
    exact fin _ _ t1 ys H' (Nat.le_refl _) leC nDC p.2.1 I1.free ⟨m,hnC⟩ q fun h' hs=>lc_leave I hfp (Nat.le_refl _) leC I1 hy rv p.1 p.2.1 nDC hs
   ·refine wpAny_mono (T.item (cxLc X N scope cl hD.objs.size s H fp) rfl rfl rfl hc i _ t _ H' (fun _ _=>False) Iy (stat fr) stt go) (fun r t1 hr=>?_) fun _ _ z=>z
    obtain ⟨u,hr,h4⟩:=hr
    subst hr
    refine wpAny_mono h4 (fun _ t2 h5=>?_) fun _ _ z=>z
    obtain ⟨x,H5,I5,r5,y5,st5,fr5⟩:=h5
    have I5':=I5.pinned (stat fr5) (T.obj _ _ st5)
    obtain ⟨pg,pi,pe⟩:=hb hD.objs.size
    refine wpAny_mono (pg _ t2 _ H5 x u _ I5' r5 (hgo _ _ _ _ (body x H5 y5))) (fun _ t3 h6=>?_) fun _ _ z=>z
    obtain ⟨σ6,H6,I6,q6,len6,keep6⟩:=h6
    refine wpAny_mono (pi _ t3 σ6 H6 _ I6 q6) (fun b t4 h7=>?_) fun _ _ z=>z
    obtain ⟨H7,I7,q7⟩:=h7
    have wk:∀ {pl:List (Addr×Obj)} {Hz:Hp} {tz:Shared},Inv (cxLc X N scope cl hD.objs.size s H fp) pl σ6 Hz tz→Inv (cxLc X N scope cl hD.objs.size s H fp) pl (capS src σ) Hz tz:=fun Iz =>
     Iz.weak len6.symm fun j v e=>by
      obtain ⟨a,ea,_⟩:=capS_get e
      rw [keep6 j (by rw [ea]; simp)]
      exact e
    have held:∀ {Hz:Hp} {tz:Shared} {pl:List (Addr×Obj)},Inv (cxLc X N scope cl hD.objs.size s H fp) (pl++pinsAt fp t2.heap) σ6 Hz tz→(∀ b∈fp,∀ o,t2.heap.get? b=some o→tz.heap.get? b=some o)∧∀ b∈fp,Hz b=none:=fun Iz =>
     ⟨fun b hb o e=>(Iz.pin (b,o) (List.mem_append_right _ (List.mem_append_right _ (mem_pinsAt hb e)))).1,fun b hb=>by
      obtain ⟨o,e,_⟩:=T.obj _ _ st5 b hb
      exact (Iz.pin (b,o) (List.mem_append_right _ (List.mem_append_right _ (mem_pinsAt hb e)))).2.1⟩
    cases b with
    | false =>
     rw [if_neg Bool.false_ne_true] at q7 ⊢
     obtain ⟨m',hm,w'⟩:=q7
     exact ⟨m',hm,i + 1,ys,its,k,H7,wk I7.unpinned,rv,T.keep _ _ _ st5 (held I7).1,(held I7).2,w'⟩
    | true =>
     rw [if_pos rfl] at q7 ⊢
     refine wpAny_mono (pe _ t4 σ6 H7 _ I7 q7) (fun v t5 h8=>?_) fun _ _ z=>z
     obtain ⟨y,H8,I8,r8,m',hm,w'⟩:=h8
     have p:=I8.pin (s.heap.objs.size,_) (List.mem_append_right _ (List.mem_append_left _ List.mem_cons_self))
     have hl:its.toArray.size≤sizeLine:=by rw [List.size_toArray,← rv.length]; exact hy
     refine wpAny_list_append_plain (items:=its.toArray) ⟨k,p.1⟩ (fun h' hpl hs=>?_) hl
     obtain ⟨k',ek⟩:=hpl
     have ek:h'.get? s.heap.objs.size=some { cls:=.type "list",data:=.seq (its++[v]).toArray k' }:=by
      rw [ek]
      simp
     have I9:Inv (cxLc X N scope cl hD.objs.size s H fp) (pinsAt fp t2.heap) σ6 H8 t5:=I8.pins_of fun a ha=>I8.pin a (List.mem_append_right _ (List.mem_append_right _ ha))
     have I10:Inv (cxLc X N scope cl hD.objs.size s H fp) (pinsAt fp t2.heap) σ6 H8 { t5 with heap:=h' }:=I9.turned (it:=s.heap.objs.size) (t':=t5.toks) (fun b o hb e=>hs.extBut b o hb e) p.2.1 nDC (.inr (Nat.le_refl _)) (fun x c e=>ncl x c e) fun a ha z=>by
      have ha:a∈([]:List (Addr×Obj))++pinsAt fp t2.heap:=ha
      rw [List.nil_append] at ha
      exact absurd (ltf a.1 (of_pinsAt ha).1) (by rw [z]; exact Nat.lt_irrefl _)
     have hld:=held (pl:=[]) (show Inv (cxLc X N scope cl hD.objs.size s H fp) ([]++pinsAt fp t2.heap) σ6 H8 { t5 with heap:=h' } from I10)
     refine ⟨m',hm,i + 1,ys++[y],its++[v],k',H8,(wk I10).pins_of fun a ha=>?_,rv.append (.cons r8 .nil),T.keep _ _ _ st5 hld.1,hld.2,w'⟩
     rw [List.mem_singleton] at ha
     subst ha
     exact ⟨ek,p.2.1,nDC,nstk,fun _ z=>nomatch z⟩
  ·intro a ha
   rw [List.mem_singleton] at ha
   subst ha
   exact ⟨atD,I.hok.fresh (Nat.le_refl _),nDC,nstk,fun _ z=>nomatch z⟩
 exact codeAny_compStart_list (loop _ rfl) (T.self _ 0 _ _ _ (T.keep 0 _ _ st fun b _ o e=>kept b o e) (loop _ rfl))
theorem pe_lc {elt tg iter:Expr} {ifs:List Expr} {pos:Pos} {te:TE} {tc:TT} {g:TG} {wi:TI} (hc:X.calm=true) (ok:LcOk X N src scope cl) (hgo:GOwn g src) (hi:PI X tg iter wi)
  (hb:∀ C s H fp,PG (cxLc X N scope cl C s H fp) tg g∧PIfs (cxLc X N scope cl C s H fp) ifs tc∧PE (cxLc X N scope cl C s H fp) elt te)
  (hs:∀ x,foldedSetIterable iter X.env x=pure x:=by intro _; rfl):PE X (.ListComp elt [⟨tg,iter,ifs,0⟩] scope pos) (tLc wi src g tc te):=by
 intro pins s σ H Q I h
 have nms:∀ y∈scope.names,y.2=.local→scope.names.lookup y.1=some .local:=fun y hy z=>by
  have q:=List.all_eq_true.mp ok.names y hy
  rw [z] at q
  simpa using q
 rw [eval_ListComp]
 refine wpAny_comprehension_free (use:=none) rfl hs ok.clos ok.kind nms (thn (hi pins s σ H _ I h) fun v s1 h1=>thn h1 fun itv s2 h2=>?_)
 obtain ⟨it,fp,tn,J,H2,e,I2,T,st2,f2,W,w0,turn⟩:=h2
 subst e
 refine lc_block (RR:=fun acc C=>compPost (model X.prog X.w) X.A X.xe none (EP X pins σ Q) acc C) (Qr:=fun ys H=>∀ p,H p=none→Q (.ref p) (upd H p (.lst ys))) hc ok hgo (fun C=>hb C s2 H2 fp) I2 T st2 f2 W w0 turn ?_
 intro D C t ys H' hD hC nDC n1 n2 hn q inv
 obtain ⟨m,hn⟩:=hn
 exact ⟨m,hn,fun h' hs=>⟨.ref D,_,inv h' hs,rfl,q D n1⟩⟩
theorem ps_setlc {elt tg iter:Expr} {ifs:List Expr} {pos pos' spos:Pos} {te:TE} {tc:TT} {g:TG} {wi:TI} {i:Nat} {x:Str} (hN:X.N.Nodup) (hx:X.N[i]?=some x) (hl:X.env.scope.names.lookup x=some .local)
  (hsw:swapsWith (.ListComp elt [⟨tg,iter,ifs,0⟩] scope pos) (some (.Name x pos')) spos.line X.env=pure true) (hc:X.calm=true) (ok:LcOk X N src scope cl) (hgo:GOwn g src) (hi:PI X tg iter wi)
  (hb:∀ C s H fp,PG (cxLc X N scope cl C s H fp) tg g∧PIfs (cxLc X N scope cl C s H fp) ifs tc∧PE (cxLc X N scope cl C s H fp) elt te)
  (hs:∀ x,foldedSetIterable iter X.env x=pure x:=by intro _; rfl):PS X (.Assign [.Name x pos'] (.ListComp elt [⟨tg,iter,ifs,0⟩] scope pos) spos) (tAsg (tLc wi src g tc te) (gName i)):=by
 intro pins s σ H DD I h
 have nms:∀ y∈scope.names,y.2=.local→scope.names.lookup y.1=some .local:=fun y hy z=>by
  have q:=List.all_eq_true.mp ok.names y hy
  rw [z] at q
  simpa using q
 rw [exec_Assign_Name_used _ _ _ _ hsw]
 refine wpAny_bind (wpAny_standAt (wpAny_bind ?_))
 show wpAny (model X.prog X.w) X.A (do let _ ← comprehension (.ListComp elt [⟨tg,iter,ifs,0⟩] scope pos) scope X.env _ (newList []) false (eval iter X.env) (some (assign (.Name x pos') X.env))) _ _ s
 refine wpAny_bind (wpAny_mono (wpAny_comprehension_free (use:=some (assign (.Name x pos') X.env)) (Q:=fun _ t=>SP X pins DD .next t) rfl hs ok.clos ok.kind nms
  (thn (hi pins s σ H _ I h) fun v s1 h1=>thn h1 fun itv s2 h2=>?_)) (fun _ t hq=>wpAny_pure (wpAny_pure hq)) fun _ _ e=>e)
 obtain ⟨it,fp,tn,J,H2,e,I2,T,st2,f2,W,w0,turn⟩:=h2
 subst e
 refine lc_block (RR:=fun acc C=>compPost (model X.prog X.w) X.A X.xe (some (assign (.Name x pos') X.env)) (fun _ t=>SP X pins DD .next t) acc C) (Qr:=fun ys H=>∀ p,H p=none→DD.nx (σ.set i (some (.ref p))) (upd H p (.lst ys))) hc ok hgo (fun C=>hb C s2 H2 fp) I2 T st2 f2 W w0 turn ?_
 intro D C t ys H' hD hC nDC n1 n2 hn q inv
 obtain ⟨m,hn⟩:=hn
 have I3:=inv t.heap (Heap.SameBut.refl ..)
 have neL:C≠X.env.locals:=Nat.ne_of_gt (Nat.lt_of_lt_of_le I2.lt hC)
 have neK:∀ y c,X.env.cells.lookup y=some c→c≠C:=fun y c e=>by
  obtain ⟨v,z⟩:=I2.cell y c e
  exact Nat.ne_of_lt (Nat.lt_of_lt_of_le z.lt hC)
 show wpAny (model X.prog X.w) X.A (assign (.Name x pos') X.env (.ref D)) _ X.xe t
 refine wpAny_assign_Name (store_ok2 (v:=.ref D) (s:={ t with heap:=t.heap }) I3 hN hx (.inl hl) rfl (fun t2 I4 hw=>?_) (.inr hl))
 obtain ⟨a,sb,ha⟩:=hw
 have naC:C≠a:=by
  rcases ha with e | e
  ·rw [e]; exact neL
  ·exact fun z=>neK _ _ e z.symm
 refine ⟨m,hn.sameBut sb naC,fun h' hs'=>?_⟩
 refine ⟨_,_,I4.turned (it:=C) (t':=t2.toks) (fun b o hb e=>hs'.extBut b o hb e) ?_ neL (.inr (Nat.le_trans I2.sz hC)) (fun y c e=>neK y c e) (fun p hp z=>?_),q D n1⟩
 ·rw [upd_ne (Ne.symm nDC)]
  exact n2
 ·have e:=(I2.pin p hp).1
  exact absurd (Nat.lt_of_lt_of_le (Heap.lt_size e) (by rw [z]; exact hC)) (Nat.lt_irrefl _)
end
end L2
namespace L2
open PySem
theorem nextOf_tup {prog:Program} {w:World} {A:Around} {E:Value→Shared→Prop} {s:Shared} {it t:Addr} {i:Nat} {its:Array Value} {x:Value} {Q:Value→Shared→Prop} (hi:s.heap.IsTupleIter it t i)
  (ht:s.heap.IsTuple t its) (hx:its[i]?=some x) (q:∀ h',h'.IsTupleIter it t (i + 1)→Heap.SameBut it s.heap h'→Q x { s with heap:=h' }) :
  wpAny (model prog w) A (Builtin.SmallTypes.nextOf (.ref it)) Q E s:=by
 obtain ⟨o,h1,h2,h3⟩:=id hi
 obtain ⟨o2,h4,_,n2,h5⟩:=ht
 unfold Builtin.SmallTypes.nextOf
 refine wpAny_bind (wpAny_callSpecial?_slot (name:=Str.ofString "__next__") hi.typeIs F.slot_tuple_iterator_next
  (wpAny_call_entry F.slot_tuple_iterator_next hi.typeIs F.entry_tuple_iterator_next ?_ (F.args_tuple_iterator_next_1 _)))
 show wpAny (model prog w) _ (field (.ref it) 0 >>= _) _ _ s
 refine wpAny_bind (wpAny_field h1 h3 (x:=.ref t) rfl ?_)
 show wpAny (model prog w) _ (if (Value.ref t == Value.none)=true then _ else _) _ _ s
 rw [if_neg (show ¬ (Value.ref t == Value.none)=true from Bool.false_ne_true)]
 show wpAny (model prog w) _ (field (.ref it) 1 >>= _) _ _ s
 refine wpAny_bind (wpAny_field h1 h3 (x:=.int i 0) rfl ?_)
 show wpAny (model prog w) _ (seqItems? (.ref t) >>= _) _ _ s
 refine wpAny_bind (wpAny_seqItems h4 h5 ?_)
 simp only [Int.toNat_natCast,hx]
 refine wpAny_bind (wpAny_setField h1 h3 (by simp) (wpAny_pure ⟨x,rfl,wpAny_pure (q _ ?_ (Heap.SameBut.update ..))⟩))
 exact ⟨_,Heap.get?_update_self _ h1 (Obj.isFreed_of_fields (Obj.data_mapFields h3 _)),(Obj.cls_mapFields ..).trans h2,by
  rw [Obj.data_mapFields h3]; simp [rawInt]⟩
theorem nextOf_tup_end {prog:Program} {w:World} {A:Around} {E:Value→Shared→Prop} {s:Shared} {it t:Addr} {i:Nat} {its:Array Value} {Q:Value→Shared→Prop} (hh:A.handled=none) (hi:s.heap.IsTupleIter it t i)
  (ht:s.heap.IsTuple t its) (hx:its[i]?=none) (q:∀ h' e,Heap.ExtBut it s.heap h'→(∃ o,h'.get? e=some o∧o.cls=.type "StopIteration")→E (.ref e) { s with heap:=h' }) :
  wpAny (model prog w) A (Builtin.SmallTypes.nextOf (.ref it)) Q E s:=by
 obtain ⟨o,h1,h2,h3⟩:=id hi
 obtain ⟨o2,h4,_,n2,h5⟩:=ht
 unfold Builtin.SmallTypes.nextOf
 refine wpAny_bind (wpAny_callSpecial?_slot (name:=Str.ofString "__next__") hi.typeIs F.slot_tuple_iterator_next
  (wpAny_call_entry F.slot_tuple_iterator_next hi.typeIs F.entry_tuple_iterator_next ?_ (F.args_tuple_iterator_next_1 _)))
 show wpAny (model prog w) _ (field (.ref it) 0 >>= _) _ _ s
 refine wpAny_bind (wpAny_field h1 h3 (x:=.ref t) rfl ?_)
 show wpAny (model prog w) _ (if (Value.ref t == Value.none)=true then _ else _) _ _ s
 rw [if_neg (show ¬ (Value.ref t == Value.none)=true from Bool.false_ne_true)]
 show wpAny (model prog w) _ (field (.ref it) 1 >>= _) _ _ s
 refine wpAny_bind (wpAny_field h1 h3 (x:=.int i 0) rfl ?_)
 show wpAny (model prog w) _ (seqItems? (.ref t) >>= _) _ _ s
 refine wpAny_bind (wpAny_seqItems h4 h5 ?_)
 simp only [Int.toNat_natCast,hx]
 refine wpAny_bind (wpAny_rule (wpAny_bind (wpAny_setField h1 h3 (by simp) ?_)))
 show wpAny (model prog w) _ (newExc (.type "StopIteration") [] >>= _) _ _ _
 refine wpAny_bind ?_
 simp only [newExc,newTuple]
 refine wpAny_bind (wpAny_newObj_type ?_ (by size_fits))
 refine wpAny_bind (m:=firstArgMember _ _) (wpAny_of_eq (a:=Value.none) (by first | rfl | (simp only [firstArgMember]; rfl)) ?_)
 refine wpAny_newObj_type ?_ (by size_fits)
 simp only [raiseNew]
 refine wpAny_bind (wpAny_handled ?_)
 first | rw [show A.in1.handled=none from hh] | rw [hh]
 refine wpAny_bind (wpAny_pure (wpAny_throw ?_))
 exact q _ _ (((Heap.SameBut.update ..).extBut.push _).push _) ⟨_,Heap.get?_push_size _ rfl,rfl⟩
theorem draws_tup {prog:Program} {w:World} {A:Around} (hh:A.handled=none) (it l:Addr) (hne:l≠it) (its:Array Value) :
  Draws prog w A it [it,l] its.size (fun i v=>its[i]?=some v) (fun i h=>h.IsTupleIter it l i∧h.IsTuple l its) where
 live:=fun _ _ st=>let ⟨o,ho,_⟩:=st.1; ⟨o,ho⟩
 frame:=fun _ _ _ st hk=>⟨let ⟨o,a,r⟩:=st.1; ⟨o,hk it (by simp) o a,r⟩,let ⟨o,a,r⟩:=st.2; ⟨o,hk l (by simp) o a,r⟩⟩
 item:=fun i s Q E hi st hQ=>by
  refine nextOf_tup st.1 st.2 (x:=its[i]) (by simp [hi]) fun h' a b=>?_
  exact hQ _ h' s.toks (by simp [hi]) ⟨a,st.2.extBut b.extBut hne⟩ b
 done:=fun s Q E st hE=>nextOf_tup_end hh st.1 st.2 (by simp) hE
section
variable {prog:Program} {w:World} {z TI TO i1 i2:Addr} {f1 f2:List Addr} {n1 n2:Nat} {P1 P2:Nat→Value→Prop} {S1 S2:Nat→Heap→Prop}
end
abbrev zpa (h:Heap) (l1:Addr):Heap:=h.push { cls:=.type "tuple_iterator",data:=.fields #[.ref l1,.int 0 0] }
end L2
namespace L2
open PySem PySem.Spec PyProof.Rows
theorem vals2' {x y:V} {us:List Value} (r:Vals [x,y] us):∃ u v,us=[u,v]∧RelV x u∧RelV y v:=by
 cases r with
 | cons p q =>
  cases q with
  | cons p' q' =>
   cases q'
   exact ⟨_,_,rfl,p,p'⟩
section
variable {X:Cx} {pins:List (Addr×Obj)} {σ:St} {H:Hp} {s:Shared} {h':Heap}
theorem Inv.turnedL {t':Nat} {l:List Addr} (I:Inv X pins σ H s) (k:∀ b o,b ∉ l→s.heap.get? b=some o→h'.get? b=some o) (hf:∀ b∈l,FpOk X pins H b):Inv X pins σ H { s with heap:=h',toks:=t' }:=by
 have nl:∀ b u,H b=some u→b ∉ l:=fun b u e z=>by rw [(hf b z).1] at e; cases e
 refine I.step (g':=s.gens) (d':=s.drawn) (ch:=l) (fun b hb=>⟨(hf b hb).2.2.2.1,(hf b hb).2.1,(hf b hb).2.2.2.2.1,(hf b hb).2.2.2.2.2⟩) (fun b o _ _ hc e _=>k b o hc e) (fun b o _ _ hc e _=>⟨o.slots,k b o hc e⟩) (fun _ _ _ _ n=>n)
  (fun b o hc e=>⟨o,k b o hc e⟩) (fun _ _ e=>e) (fun _ _ _ e=>e) (fun b ps e=>⟨#[],by rw [e]; simp⟩) (fun m hm=>?_) (fun b u e=>?_) I.bare
 ·obtain ⟨o,es,ep,ho,r⟩:=hm
  exact ⟨o,es,ep,k _ o (fun z=>(hf _ z).2.1 rfl) ho,r⟩
 ·refine (I.hok b u e).stay (fun c v hc q=>k c v ?_ q) (fun _ q=>q) fun _ _ q=>q
  rcases hc with z | z
  ·rw [z]; exact nl b u e
  ·exact nl c _ z
theorem Inv.adopt {p:Addr} {o:HO} (I:Inv X pins σ H s) (hf:FpOk X pins H p) (new:ObjOk X.prog X.w (upd H p o) s.heap p o):Inv X pins σ (upd H p o) s:=by
 have e0:({ s with heap:=s.heap,gens:=s.gens,drawn:=s.drawn,toks:=s.toks }:Shared)=s:=rfl
 rw [← e0]
 refine I.step (H':=upd H p o) (h':=s.heap) (g':=s.gens) (d':=s.drawn) (t':=s.toks) (ch:=[p]) (fun b hb=>?_) (fun b u _ _ _ e _=>e) (fun b u _ _ _ e _=>⟨u.slots,e⟩) (fun b u hc e n=>?_) (fun b u _ e=>⟨u,e⟩)
  (fun b xs e=>?_) (fun b u v e=>?_) (fun b ps e=>⟨#[],?_⟩) (fun m hm=>hm) (fun b u e=>?_) I.bare
 ·rw [List.mem_singleton] at hb
  subst hb
  exact ⟨hf.2.2.2.1,hf.2.1,hf.2.2.2.2.1,hf.2.2.2.2.2⟩
 ·rw [upd_ne fun z=>hc (by rw [z]; exact List.mem_singleton_self _)]
  exact n
 ·rw [upd_ne (ne_of_none e hf.1)]; exact e
 ·rw [upd_ne (ne_of_none e hf.1)]; exact e
 ·rw [upd_ne (ne_of_none e hf.1),e]; simp
 ·by_cases hb:b=p
  ·subst hb
   rw [upd_same] at e
   cases e
   exact new
  ·rw [upd_ne hb] at e
   exact (I.hok b u e).stay (fun c v hc q=>q) (fun c q=>by rw [upd_ne (ne_of_none q hf.1)]; exact q) fun c xs q=>by rw [upd_ne (ne_of_none q hf.1)]; exact q
end
section
variable {X:Cx} {es:List Expr} {kt:Nat} {tp:Pos}
end
end L2
namespace L2
open PySem PySem.Spec PyProof.Rows
theorem Same.upd {H:Hp} {p:Addr} {o:HO} (h:H p=none):Same H (upd H p o):=fun b u e=>by
 rw [upd_ne (ne_of_none e h)]
 exact e
def SameBut (p:Addr) (H H':Hp):Prop:=∀ b o,b≠p→H b=some o→H' b=some o
theorem Same.but {p:Addr} {H H':Hp} (h:Same H H'):SameBut p H H':=fun b o _ e=>h b o e
theorem SameBut.refl (p:Addr) (H:Hp):SameBut p H H:=fun _ _ _ e=>e
theorem SameBut.trans {p:Addr} {H H1 H2:Hp} (a:SameBut p H H1) (b:SameBut p H1 H2):SameBut p H H2:=fun c o n e=>b c o n (a c o n e)
theorem SameBut.upd {p:Addr} {H:Hp} {o:HO}:SameBut p H (upd H p o):=fun b u n e=>by rw [upd_ne n]; exact e
section
variable {X:Cx}
theorem call_all_bl (hc:X.calm=true):CallR X (.builtin "all") (fun xs H Q=>∃ (p:Addr) (bs:List Bool),xs=[.ref p]∧SqL X.K H p (bs.map V.bl)∧Q (.bl (bs.all id)) H):=by
 intro pins s σ H xs us Q I r h
 obtain ⟨p,bs,rfl,hq,q⟩:=h
 obtain ⟨u,rfl,ru⟩:=vals1 r
 cases ru
 obtain ⟨its,rv,pl,hz⟩:=I.list hq
 have hlen:its.toArray.size=bs.length:=by rw [List.size_toArray,← rv.length,List.length_map]
 have hne:p≠s.heap.objs.size:=by
  obtain ⟨o,n,e,_⟩:=pl
  exact Nat.ne_of_lt (Heap.lt_size e)
 refine call_all_walk (wpAny_pyIter_list pl.isList ?_)
 refine ⟨s.heap.objs.size,_,_,its.toArray.size,_,_,fun i=>bs.getD i false,rfl,Walks.list (A:=X.A.in1) (I.ok.hd hc) s.heap.objs.size p hne its.toArray,⟨⟨_,Heap.get?_push_size _ rfl,rfl,rfl⟩,pl.isList.push _⟩,fun i v t Q' E' hv hQ'=>?_,fun h' tk kp=>?_⟩
 ·have hv:its[i]?=some v:=by simpa using hv
  have hi:i < bs.length:=by
   have:=(List.getElem?_eq_some_iff.mp hv).1
   rw [← rv.length,List.length_map] at this
   exact this
  obtain ⟨u,e1,e2⟩:=rv.get (i:=i) (x:=V.bl bs[i]) (by simp [hi])
  rw [hv] at e1
  cases e1
  have e2:v=Value.bool bs[i]:=e2
  subst e2
  have e3:bs.getD i false=bs[i]:=by simp [hi]
  rw [← e3]
  exact wpAny_truthy_bool hQ'
 ·have e:(List.range its.toArray.size).all (fun i=>bs.getD i false)=bs.all id:=by
   rw [hlen,Bool.eq_iff_iff,List.all_eq_true,List.all_eq_true]
   constructor
   ·intro h b hb
    obtain ⟨i,hi,rfl⟩:=List.mem_iff_getElem.mp hb
    have:=h i (by simpa using hi)
    simpa [hi] using this
   ·intro h i hi
    have hi:i < bs.length:=by simpa using hi
    have:=h bs[i] (List.getElem_mem hi)
    simpa [hi] using this
  rw [e]
  exact ⟨.bl (bs.all id),H,I.kept (t':=tk) fun b o eb=>kp b o (fun z=>by
   have z:b=s.heap.objs.size:=by simpa using z
   exact absurd (Heap.lt_size eb) (by rw [z]; exact Nat.lt_irrefl _)) (Heap.get?_push_of_some _ eb),rfl,q⟩
theorem call_any_bl (hc:X.calm=true):CallR X (.builtin "any") (fun xs H Q=>∃ (p:Addr) (bs:List Bool),xs=[.ref p]∧SqL X.K H p (bs.map V.bl)∧Q (.bl (bs.any id)) H):=by
 intro pins s σ H xs us Q I r h
 obtain ⟨p,bs,rfl,hq,q⟩:=h
 obtain ⟨u,rfl,ru⟩:=vals1 r
 cases ru
 obtain ⟨its,rv,pl,hz⟩:=I.list hq
 have hlen:its.toArray.size=bs.length:=by rw [List.size_toArray,← rv.length,List.length_map]
 have hne:p≠s.heap.objs.size:=by
  obtain ⟨o,n,e,_⟩:=pl
  exact Nat.ne_of_lt (Heap.lt_size e)
 refine call_any_walk (wpAny_pyIter_list pl.isList ?_)
 refine ⟨s.heap.objs.size,_,_,its.toArray.size,_,_,fun i=>bs.getD i false,rfl,Walks.list (A:=X.A.in1) (I.ok.hd hc) s.heap.objs.size p hne its.toArray,⟨⟨_,Heap.get?_push_size _ rfl,rfl,rfl⟩,pl.isList.push _⟩,fun i v t Q' E' hv hQ'=>?_,fun h' tk kp=>?_⟩
 ·have hv:its[i]?=some v:=by simpa using hv
  have hi:i < bs.length:=by
   have:=(List.getElem?_eq_some_iff.mp hv).1
   rw [← rv.length,List.length_map] at this
   exact this
  obtain ⟨u,e1,e2⟩:=rv.get (i:=i) (x:=V.bl bs[i]) (by simp [hi])
  rw [hv] at e1
  cases e1
  have e2:v=Value.bool bs[i]:=e2
  subst e2
  have e3:bs.getD i false=bs[i]:=by simp [hi]
  rw [← e3]
  exact wpAny_truthy_bool hQ'
 ·have e:(List.range its.toArray.size).any (fun i=>bs.getD i false)=bs.any id:=by
   rw [hlen,Bool.eq_iff_iff,List.any_eq_true,List.any_eq_true]
   constructor
   ·rintro ⟨i,hi,h⟩
    have hi:i < bs.length:=by simpa using hi
    exact ⟨bs[i],List.getElem_mem hi,by simpa [hi] using h⟩
   ·rintro ⟨b,hb,h⟩
    obtain ⟨i,hi,rfl⟩:=List.mem_iff_getElem.mp hb
    exact ⟨i,by simpa using hi,by simpa [hi] using h⟩
  rw [e]
  exact ⟨.bl (bs.any id),H,I.kept (t':=tk) fun b o eb=>kp b o (fun z=>by
   have z:b=s.heap.objs.size:=by simpa using z
   exact absurd (Heap.lt_size eb) (by rw [z]; exact Nat.lt_irrefl _)) (Heap.get?_push_of_some _ eb),rfl,q⟩
theorem call_isinst:CallR X (.builtin "isinstance") (fun xs H Q=>∃ x T t b,xs=[x,.ty T]∧TyOf X.K H x t∧PySem.W.kitOne X.K t (.type T)=some b∧Q (.bl b) H):=by
 intro pins s σ H xs us Q I r h
 obtain ⟨x,T,t,b,rfl,ty,e,q⟩:=h
 obtain ⟨u,v,rfl,ru,rv⟩:=vals2 r
 have rv:v=Value.type T:=rv
 subst rv
 exact isinst_ok I ru ty e fun tk=>⟨.bl b,H,I.tok tk,rfl,q⟩
def rEqNil (K:PySem.W.Frag):R2:=fun x y H Q=>∃ a b xs,x=.ref a∧y=.ref b∧SqL K H a xs∧SqL K H b []∧Q (.bl xs.isEmpty) H
def rNeNil (K:PySem.W.Frag):R2:=fun x y H Q=>∃ a b xs,x=.ref a∧y=.ref b∧SqL K H a xs∧SqL K H b []∧Q (.bl (!xs.isEmpty)) H
theorem op_eqNil (hu:X.A.units < cLine):OpR X (compareOp .Eq) (rEqNil X.K):=by
 intro pins s σ H x y v u Q I rx ry h
 obtain ⟨a,b,xs,rfl,rfl,ha,hb,q⟩:=h
 cases rx
 cases ry
 obtain ⟨its,r1,p1,_⟩:=I.list ha
 obtain ⟨its2,r2,p2,_⟩:=I.list hb
 cases r2
 by_cases hx:xs=[]
 ·subst hx
  cases r1
  exact SeqAt.eq_listAt (e:=fun _=>true) p1.isList p2.isList rfl hu (fun j h1 _=>absurd h1 (by simp)) ⟨.bl true,H,I,by simp; rfl,q⟩
 ·have e:xs.isEmpty=false:=by cases xs with
   | nil=>exact absurd rfl hx
   | cons _ _=>rfl
  rw [e] at q
  refine SeqAt.eq_list_lengthsAt p1.isList p2.isList ?_ hu ⟨.bl false,H,I,rfl,q⟩
  have h0:its.length≠0:=by
   rw [← r1.length]
   exact fun z=>hx (List.length_eq_zero_iff.mp z)
  simpa using h0
theorem op_neNil (hu:X.A.units < cLine):OpR X (compareOp .NotEq) (rNeNil X.K):=by
 intro pins s σ H x y v u Q I rx ry h
 obtain ⟨a,b,xs,rfl,rfl,ha,hb,q⟩:=h
 cases rx
 cases ry
 obtain ⟨its,r1,p1,_⟩:=I.list ha
 obtain ⟨its2,r2,p2,_⟩:=I.list hb
 cases r2
 by_cases hx:xs=[]
 ·subst hx
  cases r1
  exact SeqAt.RcNeAt.lists (e:=fun _=>true) p1.isList p2.isList rfl hu (fun j h1 _=>absurd h1 (by simp)) _ _ _ _ ⟨.bl false,H,I,by simp; rfl,q⟩
 ·have e:xs.isEmpty=false:=by cases xs with
   | nil=>exact absurd rfl hx
   | cons _ _=>rfl
  rw [e] at q
  refine SeqAt.RcNeAt.lists_lengths p1.isList p2.isList ?_ hu _ _ _ _ ⟨.bl true,H,I,rfl,q⟩
  have h0:its.length≠0:=by
   rw [← r1.length]
   exact fun z=>hx (List.length_eq_zero_iff.mp z)
  simpa using h0
def rCat2:R2:=fun x y H Q=>∃ a b xs ys,x=.ref a∧y=.ref b∧H a=some (.tup xs)∧H b=some (.tup ys)∧xs.length + ys.length≤sizeLine∧∀ p H',Same H H'→H' p=some (.tup (xs++ys))→Q (.ref p) H'
theorem op_cat2:OpR X (binaryOp .Add) rCat2:=by
 intro pins s σ H x y v u Q I rx ry h
 obtain ⟨a,b,xs,ys,rfl,rfl,ha,hb,hz,q⟩:=h
 by_cases hx:xs=[]
 ·subst hx
  cases rx
  cases ry
  obtain ⟨its,r1,p1,_⟩:=I.tuple (SqT.of ha)
  obtain ⟨its2,r2,p2,_⟩:=I.tuple (SqT.of hb)
  cases r1
  obtain ⟨⟨cls,dd,data,sl⟩,ho,hc,n,hd⟩:=id p1
  obtain ⟨⟨cls2,dd2,data2,sl2⟩,ho2,hc2,n2,hd2⟩:=id p2
  simp only at hc hd hc2 hd2
  subst hc hd hc2 hd2
  exact concat_meets ⟨_,ho,rfl⟩ ⟨_,ho2,rfl⟩ noFill_tuple_add seq_tuple_add PySem.F.slot_tuple_add PySem.F.entry_tuple_add (PySem.F.args_tuple_add_2 _ _)
   (tuple_addW0 a b _ _ n n2 dd dd2 sl sl2 (by simp)) ⟨ho,ho2,⟨.ref b,H,I,rfl,q b H (Same.refl H) hb⟩⟩
 ·refine op_catT pins s σ H (.ref a) (.ref b) v u Q I rx ry ⟨a,b,xs,ys,rfl,rfl,SqT.of ha,SqT.of hb,hx,hz,fun e=>?_,fun _ p hp=>q p _ (Same.upd hp) upd_same⟩
  subst e
  exact q a H (Same.refl H) (by rw [List.append_nil]; exact ha)
def rSl2:V→Option Int→Option Int→Hp→VK→Prop:=fun x lo hi H Q=>∃ a xs,x=.ref a∧H a=some (.tup xs)∧∀ p H',Same H H'→H' p=some (.tup (cutV xs lo hi))→Q (.ref p) H'
theorem getItem_tuple_whole {prog:Program} {w:World} {A:Around} {E:Value→Shared→Prop} {s:Shared} {t sl:Addr} {items:Array Value} {vl vu:Value} {lo hi:Option Int} {Q:Value→Shared→Prop} (ht:IsTup s.heap t items) (hs:s.heap.IsSliceOf sl vl vu .none)
  (pl:IsPart vl lo) (pu:IsPart vu hi) (hw:HT.sIx items.size 0 lo=0∧HT.sIx items.size items.size hi=items.size) (h:Q (.ref t) s):wpAny (model prog w) A (getItem (.ref t) (.ref sl)) Q E s:=by
 obtain ⟨os,hos,hcs,hds⟩:=id hs
 have hTs:s.TypeIs (.ref sl) "slice":=⟨os,hos,hcs⟩
 unfold getItem
 try with_reducible refine wpAny_holding ?_
 first | refine wpAny_bind (wpAny_pure ?_) | skip
 refine wpAny_bind (wpAny_sequenceKey ht.typeIs (by decide) ?_)
 refine wpAny_bind (wpAny_callSpecial?_slot (name:=Str.ofString "__getitem__") ht.typeIs PyProof.Rows.slot_tuple_getitem
  (wpAny_call_entry PyProof.Rows.slot_tuple_getitem ht.typeIs entry_tuple_getitem ?_ (args_tuple_getitem _ _)))
 show wpAny (model prog w) _ (Builtin.Tuple.tupleItemsOf (.ref t) >>= _) _ _ s
 refine wpAny_bind (tupleItemsOf_ ht ?_)
 refine wpAny_bind (wpAny_typeOf hTs ?_)
 rw [if_pos (by decide)]
 refine wpAny_bind (HT.sliceApplied_gen hs pl pu ?_)
 have yes:(((HT.sIx items.size 0 lo:Nat):Int) == 0 && (1:Int) == 1 && (HT.sIx items.size items.size hi - HT.sIx items.size 0 lo) == items.size)=true:=by
  rw [hw.1,hw.2]
  simp
 show wpAny (model prog w) _ (if (((HT.sIx items.size 0 lo:Nat):Int) == 0 && (1:Int) == 1 && (HT.sIx items.size items.size hi - HT.sIx items.size 0 lo) == items.size)=true then _ else _) _ _ s
 rw [if_pos yes]
 have ex:wpAny (model prog w) A.in1 (Builtin.Tuple.tupleIsExact (.ref t)) (fun b t'=>b=true∧t'=s) E s:=by
  unfold Builtin.Tuple.tupleIsExact
  exact wpAny_bind (wpAny_typeOf ht.typeIs (wpAny_pure ⟨rfl,rfl⟩))
 refine wpAny_bind (wpAny_mono ex (fun b t' hb=>?_) fun _ _ z=>z)
 obtain ⟨rfl,rfl⟩:=hb
 rw [if_pos rfl]
 exact wpAny_bind (wpAny_rule (wpAny_pure ⟨_,rfl,wpAny_pure h⟩))
theorem sl_tup2:SlR X rSl2:=by
 intro pins s σ H x v vl vu lo hi sl Q I rx hs pl pu h
 obtain ⟨a,xs,rfl,hx,q⟩:=h
 by_cases hw:HT.sIx xs.length 0 lo=0∧HT.sIx xs.length xs.length hi=xs.length
 ·cases rx
  obtain ⟨its,r,ht,hz⟩:=I.tuple (SqT.of hx)
  have hlen:its.toArray.size=xs.length:=by rw [List.size_toArray]; exact r.length.symm
  refine ⟨"tuple",_,PyProof.Rows.slot_tuple_getitem.lookup,ht.typeIs,?_⟩
  refine getItem_tuple_whole ht hs pl pu (by rw [hlen]; exact hw) ⟨.ref a,H,I,rfl,q a H (Same.refl H) ?_⟩
  have e:cutV xs lo hi=xs:=by
   unfold cutV
   rw [hw.1,hw.2]
   simp
  rw [e]
  exact hx
 ·exact sl_tup pins s σ H (.ref a) v vl vu lo hi sl Q I rx hs pl pu ⟨a,xs,rfl,SqT.of hx,hw,fun p hp=>q p _ (Same.upd hp) upd_same⟩
end
end L2
namespace L2
open PySem PySem.Spec PyProof.Rows
structure Kn (P:Program) (w:World) (K:PySem.W.Frag) (mg:Str→Option Value) (base:Heap) (k:Nat) (x:Str) (ps:List Str) (sp:Sp):Prop where
 ex:∃ (f:Addr) (fd:FuncData),FnOk P w K mg base CX0 k f fd ps sp∧mg x=some (.ref f)∧PySem.W.keepIn K (.ref f)=true∧Binds K fd ps []
theorem pe_kn {X:Cx} {k:Nat} {x:Str} {ps:List Str} {sp:Sp} {p pos:Pos} {e:Expr} {es:List Expr} {t:TA} (h:Kn X.prog X.w X.K X.mg X.base k x ps sp) (hr:Room k X.A) (ha:PA X (e::es) t) (hg:Gl X x:=by rfl)
  (hdb:(x == ("__debug__":Str))=false:=by decide) (he:starEach (e::es) X.env=(false,eval e X.env)::starEach es X.env:=by rfl) (hpl:(backTo pos (starEach es X.env)).any (·.1)=false:=by rfl) :
  PE X (.Call (.Name x p) (e::es) [] pos) (tCall sp [] E0 t):=by
 obtain ⟨f,fd,F,hm,hk,hb⟩:=h.ex
 exact pe_call F hr hg hm hk hb .nil pass0 ha hdb he hpl
theorem pt_call {X:Cx} {f:Expr} {es:List Expr} {ks:List Keyword} {pos:Pos} {t:TE} (h:PE X (.Call f es ks pos) t):PT X (.Call f es ks pos) (tB t):=pt_val h
structure DefAt (K:PySem.W.Frag) (mg:Str→Option Value) (x:Str) (st:Stmt) (ps:List Str):Prop where
 ex:∃ (f:Addr) (fd:FuncData),Fun K x x st f fd∧mg x=some (.ref f)∧Binds K fd ps []
theorem DefAt.kn {P:Program} {w:World} {K:PySem.W.Frag} {mg:Str→Option Value} {base:Heap} {k:Nat} {x:Str} {st:Stmt} {N ps:List Str} {sp:Sp} (D:DefAt K mg x st ps) (S:FnScope N ps (defScope st)) (len:∀ vs H Q E,sp vs H Q E→vs.length=ps.length)
  (hbody:∀ (f:Addr) (cdv:Value) (A:Around) (outer:List Env) (s:Shared) (H:Hp) (vs:List V) (Q:VK) (E:XK),Room k (A.deeper (envOfC x (defScope st) s.heap.objs.size f cdv))→sp vs H Q E →
   ∃ t,PSs (cxOf CX0 P w K mg base N x (defScope st) f cdv A outer s H E).nox (defBody st) t∧t { nx:=fun _ H'=>Q .non H',rt:=Q } (start N vs) H):Kn P w K mg base (k + 1) x ps sp:=by
 obtain ⟨f,fd,F,hm,hb⟩:=D.ex
 exact ⟨f,fd,F.ok S len fun cdv A outer s H vs Q E hr h=>hbody f cdv A outer s H vs Q E hr h,hm,F.kp,hb⟩
def Free (mg:Str→Option Value) (l:List Str):Prop:=∀ x∈l,mg x=none
inductive Dat (H:Hp):V→String→Prop where
 | non:Dat H .non "NoneType"
 | bl (b:Bool):Dat H (.bl b) "bool"
 | int (i:Int):Dat H (.int i) "int"
 | str (x:Str):Dat H (.str x) "str"
 | lst {a:Addr} {xs:List V} (h:H a=some (.lst xs)):Dat H (.ref a) "list"
 | tup {a:Addr} {xs:List V} (h:H a=some (.tup xs)):Dat H (.ref a) "tuple"
 | dK {a:Addr} {kvs:List (Key×V)} (h:H a=some (.dK kvs)):Dat H (.ref a) "dict"
theorem Dat.mono {H H':Hp} {x:V} {T:String} (s:Same H H') (h:Dat H x T):Dat H' x T:=by
 cases h with
 | non=>exact .non
 | bl b=>exact .bl b
 | int i=>exact .int i
 | str z=>exact .str z
 | lst e=>exact .lst (s _ _ e)
 | tup e=>exact .tup (s _ _ e)
 | dK e=>exact .dK (s _ _ e)
theorem Dat.ty {K:PySem.W.Frag} {H:Hp} {x:V} {T:String} (h:Dat H x T):TyOf K H x (.type T):=by
 cases h with
 | non=>exact .non
 | bl b=>exact .bl b
 | int i=>exact .int i
 | str z=>exact .str z
 | lst e=>exact .lst e
 | tup e=>exact .tup e
 | dK e=>exact .dK e
theorem Dat.mem {H:Hp} {x:V} {T:String} (h:Dat H x T):T∈["NoneType","bool","int","str","list","tuple","dict"]:=by
 cases h <;> simp
def kitB (t T:String):Bool:=t == T || (t == "bool" && T == "int")
theorem kit_of (K:PySem.W.Frag) {t T:String} (h:t∈["NoneType","bool","int","str","list","tuple","dict"]) (h':T∈["int","bool","tuple","list","str","dict"]):PySem.W.kitOne K (.type t) (.type T)=some (kitB t T):=by
 simp only [List.mem_cons,List.not_mem_nil,or_false] at h h'
 rcases h with rfl | rfl | rfl | rfl | rfl | rfl | rfl <;> rcases h' with rfl | rfl | rfl | rfl | rfl | rfl <;> kernel_rfl
theorem call_isi {X:Cx}:CallR X (.builtin "isinstance") (fun xs H Q=>∃ x T T',xs=[x,.ty T]∧Dat H x T'∧T∈["int","bool","tuple","list","str","dict"]∧Q (.bl (kitB T' T)) H):=by
 intro pins s σ H xs us Q I r h
 obtain ⟨x,T,T',e,d,m,q⟩:=h
 exact call_isinst pins s σ H xs us Q I r ⟨x,T,.type T',_,e,d.ty,kit_of X.K d.mem m,q⟩
theorem boot_isi:bootBuiltins "isinstance"=some (.builtin "isinstance"):=by decide +kernel
theorem boot_tint:bootBuiltins "int"=some (.type "int"):=by decide +kernel
theorem boot_tbool:bootBuiltins "bool"=some (.type "bool"):=by decide +kernel
theorem boot_ttuple:bootBuiltins "tuple"=some (.type "tuple"):=by decide +kernel
theorem boot_tlist:bootBuiltins "list"=some (.type "list"):=by decide +kernel
theorem boot_fall:bootBuiltins "all"=some (.builtin "all"):=by decide +kernel
theorem boot_fany:bootBuiltins "any"=some (.builtin "any"):=by decide +kernel
theorem boot_fmax:bootBuiltins "max"=some (.builtin "max"):=by decide +kernel
theorem boot_fsorted:bootBuiltins "sorted"=some (.builtin "sorted"):=by decide +kernel
inductive Thing (H:Hp):V→Option (List V)→Prop where
 | tup {p:Addr} {ys:List V} (h:H p=some (.tup ys)) (ty:∀ y∈ys,∃ T,Dat H y T) (z:ys.length≤sizeLine):Thing H (.ref p) (some ys)
 | oth {x:V} {T:String} (h:Dat H x T) (n:T≠"tuple"):Thing H x none
theorem Thing.mono {H H':Hp} {x:V} {o:Option (List V)} (s:Same H H') (h:Thing H x o):Thing H' x o:=by
 cases h with
 | tup h ty z=>exact .tup (s _ _ h) (fun y hy=>(ty y hy).imp fun t q=>q.mono s) z
 | oth h n=>exact .oth (h.mono s) n
def Ars (H:Hp):List V→List (Int×Int)→Prop:=Paired fun v p=>∃ q,v=V.ref q∧H q=some (.tup [.int p.1,.int p.2])
theorem Ars.mono {H H':Hp} {vs:List V} {ars:List (Int×Int)} (s:Same H H') (h:Ars H vs ars):Ars H' vs ars:=Paired.mapP h fun _ _ ⟨q,e,z⟩=>⟨q,e,s _ _ z⟩
structure Web (H:Hp) (a t:Addr) (m:Int) (vs:List V) (ars:List (Int×Int)):Prop where
 top:H a=some (.tup [.int m,.ref t])
 arr:H t=some (.tup vs)
 ars:Ars H vs ars
 len:vs.length≤1000
 mb:0≤m∧m≤1000
theorem Web.mono {H H':Hp} {a t:Addr} {m:Int} {vs:List V} {ars:List (Int×Int)} (s:Same H H') (h:Web H a t m vs ars):Web H' a t m vs ars:=⟨s _ _ h.top,s _ _ h.arr,h.ars.mono s,h.len,h.mb⟩
theorem Paired.get' {α β:Type} {F:α→β→Prop}:∀ {l:List α} {r:List β} {i:Nat} {x:α},Paired F l r→l[i]?=some x→∃ y,r[i]?=some y∧F x y
 | _,_,_,_,.nil,e=>by simp at e
 | _,_,0,_,.cons h _,e=>by
  simp at e
  subst e
  exact ⟨_,rfl,h⟩
 | _,_,i + 1,x,.cons _ t,e=>by
  obtain ⟨y,h1,h2⟩:=Paired.get' (i:=i) (x:=x) t (by simpa using e)
  exact ⟨y,by simpa using h1,h2⟩
def isI:V→Bool
 | .int _=>true
 | _=>false
def plG (m:Int):V→Bool
 | .int n=>decide (0≤n) && decide (n < m)
 | _=>false
end L2
namespace L2
open PySem PySem.Spec PyProof.Rows
def Wn (n:Nat) (Pv:Nat→List V→Hp→Prop) (i m:Nat) (zs:List V) (H:Hp):Prop:=m=n - i∧i≤n∧Pv i zs H
theorem nx {n i:Nat} {Pv:Nat→List V→Hp→Prop} {zs:List V} {H:Hp} (hi:i < n) (h:Pv (i + 1) zs H):∃ m',m' < n - i∧Wn n Pv (i + 1) m' zs H:=⟨n - (i + 1),by omega,rfl,hi,h⟩
section
variable {K:PySem.W.Frag} {g:TG} {tc:TT} {te:TE} {σ:St} {H:Hp} {R:List V→Hp→Prop}
theorem lc_by {J:It} (n:Nat) (Pv:Nat→List V→Hp→Prop) (h0:Pv 0 [] H) (stop:∀ zs H,Pv n zs H→J.stop n H∧zs.length≤sizeLine∧R zs H)
  (go:∀ i zs H,i < n→Pv i zs H→J.go i H∧zs.length≤sizeLine∧∀ x H',J.yld i H x H'→g x σ H' fun σ2 H2=>tc σ2 H2 fun b H3 =>
   if b=true then te σ2 H3 fun y H4=>∃ m',m' < n - i∧Wn n Pv (i + 1) m' (zs++[y]) H4 else ∃ m',m' < n - i∧Wn n Pv (i + 1) m' zs H3) :
  ∃ W:Nat→Nat→List V→Hp→Prop,(∃ m,W 0 m [] H)∧∀ i m ys H,W i m ys H→(J.stop i H∧ys.length≤sizeLine∧R ys H) ∨
   (J.go i H∧ys.length≤sizeLine∧∀ x H',J.yld i H x H'→g x σ H' fun σ2 H2=>tc σ2 H2 fun b H3 =>
    if b=true then te σ2 H3 fun y H4=>∃ m',m' < m∧W (i + 1) m' (ys++[y]) H4 else ∃ m',m' < m∧W (i + 1) m' ys H3):=by
 refine ⟨Wn n Pv,⟨n,rfl,Nat.zero_le _,h0⟩,?_⟩
 rintro i m ys H ⟨rfl,hi,p⟩
 by_cases hlt:i < n
 ·exact .inr (go i ys H hlt p)
 ·have e:i=n:=by omega
  subst e
  exact .inl (stop ys H p)
theorem lc_tup {a:Addr} {xs:List V} (Pv:Nat→List V→Hp→Prop) (h0:Pv 0 [] H) (hl:∀ i zs H,i≤xs.length→Pv i zs H→SqT K H a xs∧zs.length≤sizeLine) (hd:∀ zs H,Pv xs.length zs H→R zs H)
  (hs:∀ i x zs H,xs[i]?=some x→i < xs.length→Pv i zs H→g x σ H fun σ2 H2=>tc σ2 H2 fun b H3 =>
   if b=true then te σ2 H3 fun y H4=>∃ m',m' < xs.length - i∧Wn xs.length Pv (i + 1) m' (zs++[y]) H4 else ∃ m',m' < xs.length - i∧Wn xs.length Pv (i + 1) m' zs H3) :
  ∃ W:Nat→Nat→List V→Hp→Prop,(∃ m,W 0 m [] H)∧∀ i m ys H,W i m ys H→((Itt K a).stop i H∧ys.length≤sizeLine∧R ys H) ∨
   ((Itt K a).go i H∧ys.length≤sizeLine∧∀ x H',(Itt K a).yld i H x H'→g x σ H' fun σ2 H2=>tc σ2 H2 fun b H3 =>
    if b=true then te σ2 H3 fun y H4=>∃ m',m' < m∧W (i + 1) m' (ys++[y]) H4 else ∃ m',m' < m∧W (i + 1) m' ys H3):=by
 refine lc_by xs.length Pv h0 (fun zs H p=>?_) (fun i zs H hi p=>?_)
 ·obtain ⟨q,z⟩:=hl _ zs H (Nat.le_refl _) p
  exact ⟨⟨xs,q,Nat.le_refl _⟩,z,hd zs H p⟩
 ·obtain ⟨q,z⟩:=hl i zs H (Nat.le_of_lt hi) p
  refine ⟨⟨xs,xs[i],q,by simp [hi]⟩,z,fun x H' y=>?_⟩
  obtain ⟨e,y⟩:=y
  subst e
  exact hs i x zs _ (y xs q) hi p
theorem lc_list {a:Addr} {xs:List V} (Pv:Nat→List V→Hp→Prop) (h0:Pv 0 [] H) (hl:∀ i zs H,i≤xs.length→Pv i zs H→SqL K H a xs∧zs.length≤sizeLine) (hd:∀ zs H,Pv xs.length zs H→R zs H)
  (hs:∀ i x zs H,xs[i]?=some x→i < xs.length→Pv i zs H→g x σ H fun σ2 H2=>tc σ2 H2 fun b H3 =>
   if b=true then te σ2 H3 fun y H4=>∃ m',m' < xs.length - i∧Wn xs.length Pv (i + 1) m' (zs++[y]) H4 else ∃ m',m' < xs.length - i∧Wn xs.length Pv (i + 1) m' zs H3) :
  ∃ W:Nat→Nat→List V→Hp→Prop,(∃ m,W 0 m [] H)∧∀ i m ys H,W i m ys H→((Itl K a).stop i H∧ys.length≤sizeLine∧R ys H) ∨
   ((Itl K a).go i H∧ys.length≤sizeLine∧∀ x H',(Itl K a).yld i H x H'→g x σ H' fun σ2 H2=>tc σ2 H2 fun b H3 =>
    if b=true then te σ2 H3 fun y H4=>∃ m',m' < m∧W (i + 1) m' (ys++[y]) H4 else ∃ m',m' < m∧W (i + 1) m' ys H3):=by
 refine lc_by xs.length Pv h0 (fun zs H p=>?_) (fun i zs H hi p=>?_)
 ·obtain ⟨q,z⟩:=hl _ zs H (Nat.le_refl _) p
  exact ⟨⟨xs,q,Nat.le_refl _⟩,z,hd zs H p⟩
 ·obtain ⟨q,z⟩:=hl i zs H (Nat.le_of_lt hi) p
  refine ⟨⟨xs,xs[i],q,by simp [hi]⟩,z,fun x H' y=>?_⟩
  obtain ⟨e,y⟩:=y
  subst e
  exact hs i x zs _ (y xs q) hi p
theorem lc_range {lo:Int} {n:Nat} (Pv:Nat→List V→Hp→Prop) (h0:Pv 0 [] H) (hl:∀ i zs H,i≤n→Pv i zs H→zs.length≤sizeLine) (hd:∀ zs H,Pv n zs H→R zs H)
  (hs:∀ i zs H,i < n→Pv i zs H→g (.int (lo + i)) σ H fun σ2 H2=>tc σ2 H2 fun b H3 =>
   if b=true then te σ2 H3 fun y H4=>∃ m',m' < n - i∧Wn n Pv (i + 1) m' (zs++[y]) H4 else ∃ m',m' < n - i∧Wn n Pv (i + 1) m' zs H3) :
  ∃ W:Nat→Nat→List V→Hp→Prop,(∃ m,W 0 m [] H)∧∀ i m ys H,W i m ys H→((Itr lo n).stop i H∧ys.length≤sizeLine∧R ys H) ∨
   ((Itr lo n).go i H∧ys.length≤sizeLine∧∀ x H',(Itr lo n).yld i H x H'→g x σ H' fun σ2 H2=>tc σ2 H2 fun b H3 =>
    if b=true then te σ2 H3 fun y H4=>∃ m',m' < m∧W (i + 1) m' (ys++[y]) H4 else ∃ m',m' < m∧W (i + 1) m' ys H3):=by
 refine lc_by n Pv h0 (fun zs H p=>⟨Nat.le_refl _,hl _ zs H (Nat.le_refl _) p,hd zs H p⟩) (fun i zs H hi p=>⟨hi,hl i zs H (Nat.le_of_lt hi) p,fun x H' y=>?_⟩)
 obtain ⟨e,y⟩:=y
 subst e y
 exact hs i zs _ hi p
end
section
variable {K:PySem.W.Frag} {g:TG} {te:TE} {σ:St} {H:Hp} {R:List V→Hp→Prop}
theorem lc_tup0 {a:Addr} {xs:List V} (Pv:Nat→List V→Hp→Prop) (h0:Pv 0 [] H) (hl:∀ i zs H,i≤xs.length→Pv i zs H→SqT K H a xs∧zs.length≤sizeLine) (hd:∀ zs H,Pv xs.length zs H→R zs H)
  (hs:∀ i x zs H,xs[i]?=some x→i < xs.length→Pv i zs H→g x σ H fun σ2 H2=>te σ2 H2 fun y H4=>∃ m',m' < xs.length - i∧Wn xs.length Pv (i + 1) m' (zs++[y]) H4) :
  ∃ W:Nat→Nat→List V→Hp→Prop,(∃ m,W 0 m [] H)∧∀ i m ys H,W i m ys H→((Itt K a).stop i H∧ys.length≤sizeLine∧R ys H) ∨
   ((Itt K a).go i H∧ys.length≤sizeLine∧∀ x H',(Itt K a).yld i H x H'→g x σ H' fun σ2 H2=>tYes σ2 H2 fun b H3 =>
    if b=true then te σ2 H3 fun y H4=>∃ m',m' < m∧W (i + 1) m' (ys++[y]) H4 else ∃ m',m' < m∧W (i + 1) m' ys H3):=lc_tup (tc:=tYes) Pv h0 hl hd hs
theorem lc_list0 {a:Addr} {xs:List V} (Pv:Nat→List V→Hp→Prop) (h0:Pv 0 [] H) (hl:∀ i zs H,i≤xs.length→Pv i zs H→SqL K H a xs∧zs.length≤sizeLine) (hd:∀ zs H,Pv xs.length zs H→R zs H)
  (hs:∀ i x zs H,xs[i]?=some x→i < xs.length→Pv i zs H→g x σ H fun σ2 H2=>te σ2 H2 fun y H4=>∃ m',m' < xs.length - i∧Wn xs.length Pv (i + 1) m' (zs++[y]) H4) :
  ∃ W:Nat→Nat→List V→Hp→Prop,(∃ m,W 0 m [] H)∧∀ i m ys H,W i m ys H→((Itl K a).stop i H∧ys.length≤sizeLine∧R ys H) ∨
   ((Itl K a).go i H∧ys.length≤sizeLine∧∀ x H',(Itl K a).yld i H x H'→g x σ H' fun σ2 H2=>tYes σ2 H2 fun b H3 =>
    if b=true then te σ2 H3 fun y H4=>∃ m',m' < m∧W (i + 1) m' (ys++[y]) H4 else ∃ m',m' < m∧W (i + 1) m' ys H3):=lc_list (tc:=tYes) Pv h0 hl hd hs
theorem lc_range0 {lo:Int} {n:Nat} (Pv:Nat→List V→Hp→Prop) (h0:Pv 0 [] H) (hl:∀ i zs H,i≤n→Pv i zs H→zs.length≤sizeLine) (hd:∀ zs H,Pv n zs H→R zs H)
  (hs:∀ i zs H,i < n→Pv i zs H→g (.int (lo + i)) σ H fun σ2 H2=>te σ2 H2 fun y H4=>∃ m',m' < n - i∧Wn n Pv (i + 1) m' (zs++[y]) H4) :
  ∃ W:Nat→Nat→List V→Hp→Prop,(∃ m,W 0 m [] H)∧∀ i m ys H,W i m ys H→((Itr lo n).stop i H∧ys.length≤sizeLine∧R ys H) ∨
   ((Itr lo n).go i H∧ys.length≤sizeLine∧∀ x H',(Itr lo n).yld i H x H'→g x σ H' fun σ2 H2=>tYes σ2 H2 fun b H3 =>
    if b=true then te σ2 H3 fun y H4=>∃ m',m' < m∧W (i + 1) m' (ys++[y]) H4 else ∃ m',m' < m∧W (i + 1) m' ys H3):=lc_range (tc:=tYes) Pv h0 hl hd hs
end
theorem take_snoc {α:Type} (l:List α) (i:Nat) (x:α) (h:l[i]?=some x):l.take (i + 1)=l.take i++[x]:=by
 rw [List.take_add_one,h]
 rfl
end L2
namespace L2
open PySem PySem.Calls PySem.Spec PyProof.Rows
def RawD (h:Heap) (d:Addr) (es:Array DictEntry) (ep:Nat):Prop:=∃ o,h.get? d=some o∧o.ExactDict∧o.data=.dict es ep
section
variable {prog:Program} {w:World} {A:Around} {E:Value→Shared→Prop} {s:Shared} {d it:Addr} {es:Array DictEntry} {ep i:Nat}
theorem RawD.ty (h:RawD s.heap d es ep):s.TypeIs (.ref d) "dict":=let ⟨o,a,b,_⟩:=h; ⟨o,a,b.1⟩
theorem raw_iter {Q:Value→Shared→Prop} (hd:(d == sysModules)=false) (hm:RawD s.heap d es ep)
  (q:Q (.ref s.heap.objs.size) { s with heap:=s.heap.push { cls:=.type "dict_keyiterator",data:=.fields #[.ref d,.int 0 0,.int es.size 0,.int ep 0] } }) :
  wpAny (model prog w) A (pyIter (.ref d)) Q E s:=by
 have hT:=hm.ty
 obtain ⟨o,h1,h2,h3⟩:=id hm
 refine wpAny_pyIter_slot hT F.slot_dict_iter (wpAny_call_entry F.slot_dict_iter hT F.entry_dict_iter ?_ (F.args_dict_iter_1 _))
 unfold Builtin.«dict.__iter__»
 refine wpAny_bind ?_
 unfold Builtin.Dict.dictSlotNone
 refine wpAny_bind (wpAny_notOrdered_dict hT ?_)
 show wpAny (model prog w) _ (pure (Value.ref d)) _ _ s
 refine wpAny_pure ?_
 show wpAny (model prog w) _ (Builtin.Dict.showsAll d >>= _) _ _ s
 unfold Builtin.Dict.showsAll
 rw [if_neg (by rw [hd]; exact Bool.false_ne_true)]
 refine wpAny_bind (wpAny_pure ?_)
 refine wpAny_bind (wpAny_dictEntries h1 h3 ?_)
 refine wpAny_bind (wpAny_dictEpoch h1 h3 ?_)
 exact wpAny_bind (wpAny_newObj_type (wpAny_pure ⟨_,rfl,"dict_keyiterator",_,⟨_,Heap.get?_push_size _ rfl,rfl⟩,F.slot_dict_keyiterator_next.lookup,q⟩))
theorem raw_next {Q:Option Value→Shared→Prop} (hi:s.heap.IsKeyIter it d i es.size ep) (hm:RawD s.heap d es ep) (hx:i < es.size)
  (q:∀ h',h'.IsKeyIter it d (i + 1) es.size ep→Heap.SameBut it s.heap h'→Q (some es[i].key) { s with heap:=h' }):wpAny (model prog w) A (pyNext (.ref it)) Q E s:=by
 obtain ⟨o,a1,a2,a3⟩:=id hi
 obtain ⟨od,b1,b2,b3⟩:=id hm
 unfold pyNext
 refine wpAny_bind (wpAny_attempt (wpAny_callSpecial?_slot (name:=Str.ofString "__next__") hi.typeIs F.slot_dict_keyiterator_next
  (wpAny_call_entry F.slot_dict_keyiterator_next hi.typeIs F.entry_dict_keyiterator_next ?_ (F.args_dict_keyiterator_next_1 _))))
 refine wpAny_bind (wpAny_pure ?_)
 refine wpAny_bind ?_
 refine wpAny_bind ?_
 first | refine wpAny_bind (wpAny_typeNameOfWhole_keyiter hi.typeIs (wpAny_pure ?_)) | refine wpAny_bind (wpAny_typeNameOf_keyiter hi.typeIs (wpAny_pure ?_))
 refine wpAny_bind (wpAny_fieldsOf a1 a3 ?_)
 have own:Builtin.Dict_items.ownsTuple "dict_keyiterator"=false:=by decide
 simp only [own,Bool.false_eq_true,if_false]
 show wpAny (model prog w) _ (if (Value.ref d == Value.none)=true then _ else _) _ _ s
 rw [if_neg (show ¬ (Value.ref d == Value.none)=true from Bool.false_ne_true)]
 refine wpAny_bind (wpAny_pure ?_)
 refine wpAny_bind (wpAny_dictEntries b1 b3 ?_)
 rw [if_neg (by simp)]
 refine wpAny_bind (wpAny_pure ?_)
 refine wpAny_bind (wpAny_dictEpoch b1 b3 ?_)
 rw [if_neg (by simp)]
 refine wpAny_pure ?_
 simp only [show ¬ ((i:Int) < 0) from by omega,if_false,Int.toNat_natCast,Array.getElem?_eq_getElem hx]
 refine wpAny_bind ?_
 first | refine wpAny_bind (wpAny_typeNameOfWhole_keyiter hi.typeIs (wpAny_pure ?_)) | refine wpAny_bind (wpAny_typeNameOf_keyiter hi.typeIs (wpAny_pure ?_))
 refine wpAny_bind (wpAny_isOneOf_keyiter hi.typeIs ?_)
 show wpAny (model prog w) _ (setField (.ref it) 1 (rawInt ((i:Int) + 1)) >>= _) _ _ s
 refine wpAny_bind (wpAny_setField a1 a3 (by simp) ?_)
 have nxt:(s.heap.update it (Obj.mapFields (·.setIfInBounds 1 (rawInt ((i:Int) + 1))))).IsKeyIter it d (i + 1) es.size ep :=
  ⟨_,Heap.get?_update_self _ a1 (Obj.isFreed_of_fields (Obj.data_mapFields a3 _)),(Obj.cls_mapFields ..).trans a2,by rw [Obj.data_mapFields a3]; simp [rawInt]⟩
 refine wpAny_bind (wpAny_holding ?_)
 refine wpAny_bind (wpAny_isOneOf_keyiter (s:={ s with heap:=s.heap.update it (Obj.mapFields (·.setIfInBounds 1 (rawInt ((i:Int) + 1)))) }) nxt.typeIs ?_)
 show wpAny (model prog w) _ (pure es[i].key) _ _ _
 exact wpAny_pure (wpAny_pure ⟨_,rfl,wpAny_pure (q _ nxt (Heap.SameBut.update ..))⟩)
theorem raw_end {Q:Option Value→Shared→Prop} (hh:A.handled=none) (hi:s.heap.IsKeyIter it d es.size es.size ep) (hm:RawD s.heap d es ep)
  (q:∀ h',Heap.ExtBut it s.heap h'→Q none { s with heap:=h' }):wpAny (model prog w) A (pyNext (.ref it)) Q E s:=by
 obtain ⟨o,a1,a2,a3⟩:=id hi
 obtain ⟨od,b1,b2,b3⟩:=id hm
 unfold pyNext
 refine wpAny_bind (wpAny_attempt (wpAny_callSpecial?_slot (name:=Str.ofString "__next__") hi.typeIs F.slot_dict_keyiterator_next
  (wpAny_call_entry F.slot_dict_keyiterator_next hi.typeIs F.entry_dict_keyiterator_next ?_ (F.args_dict_keyiterator_next_1 _))))
 refine wpAny_bind (wpAny_pure ?_)
 refine wpAny_bind ?_
 refine wpAny_bind ?_
 first | refine wpAny_bind (wpAny_typeNameOfWhole_keyiter hi.typeIs (wpAny_pure ?_)) | refine wpAny_bind (wpAny_typeNameOf_keyiter hi.typeIs (wpAny_pure ?_))
 refine wpAny_bind (wpAny_fieldsOf a1 a3 ?_)
 have own:Builtin.Dict_items.ownsTuple "dict_keyiterator"=false:=by decide
 simp only [own,Bool.false_eq_true,if_false]
 show wpAny (model prog w) _ (if (Value.ref d == Value.none)=true then _ else _) _ _ s
 rw [if_neg (show ¬ (Value.ref d == Value.none)=true from Bool.false_ne_true)]
 refine wpAny_bind (wpAny_pure ?_)
 refine wpAny_bind (wpAny_dictEntries b1 b3 ?_)
 rw [if_neg (by simp)]
 refine wpAny_bind (wpAny_pure ?_)
 refine wpAny_bind (wpAny_dictEpoch b1 b3 ?_)
 rw [if_neg (by simp)]
 refine wpAny_pure ?_
 simp only [show ¬ ((es.size:Int) < 0) from by omega,if_false,Int.toNat_natCast,Array.getElem?_eq_none (Nat.le_refl es.size)]
 refine wpAny_bind ?_
 first | refine wpAny_bind (wpAny_typeNameOfWhole_keyiter hi.typeIs (wpAny_pure ?_)) | refine wpAny_bind (wpAny_typeNameOf_keyiter hi.typeIs (wpAny_pure ?_))
 show wpAny (model prog w) _ (setField (.ref it) 0 .none >>= _) _ _ s
 refine wpAny_bind (wpAny_setField a1 a3 (by simp) ?_)
 show wpAny (model prog w) _ (newExc (.type "StopIteration") [] >>= _) _ _ _
 refine wpAny_bind ?_
 simp only [newExc,newTuple]
 refine wpAny_bind (wpAny_newObj_type ?_ (by size_fits))
 refine wpAny_bind (m:=firstArgMember _ _) (wpAny_of_eq (a:=Value.none) (by first | rfl | (simp only [firstArgMember]; rfl)) ?_)
 refine wpAny_newObj_type ?_ (by size_fits)
 simp only [raiseNew]
 refine wpAny_bind (wpAny_handled ?_)
 rw [show A.in1.handled=none from hh]
 refine wpAny_bind (wpAny_pure (wpAny_throw ?_))
 refine wpAny_bind (wpAny_isInstance (T:="StopIteration") (b:=true) ⟨_,Heap.get?_push_size _ rfl,rfl⟩ isSubtype_stop ?_)
 exact wpAny_pure (q _ (((Heap.SameBut.update ..).extBut.push _).push _))
theorem raw_walks (hh:A.handled=none) (it d:Addr) (hne:d≠it) (es:Array DictEntry) (ep:Nat) :
  Walks prog w A it [it,d] [it] es.size (fun i v=>∃ e,es[i]?=some e∧v=e.key) (fun i h=>h.IsKeyIter it d i es.size ep∧RawD h d es ep) where
 sub:=fun b hb=>by simp at hb; simp [hb]
 frame:=fun _ _ _ st hk=>⟨st.1.at fun o e=>hk it (by simp) o e,let ⟨o,a,r⟩:=st.2; ⟨o,hk d (by simp) o a,r⟩⟩
 item:=fun i s Q E hi st hQ=>by
  refine raw_next st.1 st.2 hi fun h' a b=>?_
  exact hQ _ h' s.toks ⟨es[i],by simp [hi],rfl⟩ ⟨a,let ⟨o,x,r⟩:=st.2; ⟨o,b.extBut d o hne x,r⟩⟩ fun c o hc e=>b.extBut c o (fun z=>hc (by simp [z])) e
 done:=fun s Q E st hQ=>raw_end hh st.1 st.2 fun h' x=>hQ h' s.toks fun b o hb e=>x b o (fun z=>hb (by simp [z])) e
 self:=fun _ _ _ _ st hQ=>wpAny_pyIter_keyiter st.1 hQ
theorem raw_src (hd:(d == sysModules)=false) (es:Array DictEntry) (ep:Nat):PySem.W.KdlSrc prog w "dict" d d es.size (fun i v=>∃ e,es[i]?=some e∧v=e.key) (fun h=>RawD h d es ep) where
 type:=fun _ hm=>hm.ty
 there:=fun _ hm=>let ⟨_,a,_⟩:=hm; ⟨Heap.lt_size a,Heap.lt_size a⟩
 keep:=fun _ _ hm hk=>let ⟨o,a,r⟩:=hm; ⟨o,hk d (.inl rfl) o a,r⟩
 notList:=by decide
 notTuple:=by decide
 hint:=fun _ _ _ _ hm hq=>PySem.W.kdl_hint_dict hm.ty hq
 iter:=fun _ _ hh hm=>⟨_,_,(fun _ _ hq=>raw_iter hd hm hq),raw_walks hh _ d (let ⟨_,a,_⟩:=hm; Nat.ne_of_lt (Heap.lt_size a)) es ep,⟨⟨_,Heap.get?_push_size _ rfl,rfl,rfl⟩,let ⟨o,a,r⟩:=hm; ⟨o,Heap.get?_push_of_some _ a,r⟩⟩⟩
end
end L2
namespace Tim
open PySem PyProof.Rows
structure Ok (κ:SortKind) (a0:Array Keyed) (st:SortSt):Prop where
 kind:kindOf st=κ
 fail:failedOf st=none
 perm:(arrOf st).Perm a0
def gallop':Bool→Keyed→Array Keyed→Nat→Nat→Nat→StateT SortSt Sem (Option Nat):=sortPriv% PySem.Builtin.gallop
def mergeLo':Array Keyed→Array Keyed→StateT SortSt Sem (Array Keyed):=sortPriv% PySem.Builtin.mergeLo
def mergeHi':Array Keyed→Array Keyed→StateT SortSt Sem (Array Keyed):=sortPriv% PySem.Builtin.mergeHi
section
variable {prog:Program} {w:World} {A:Around} {E:Value→Shared→Prop} {s:Shared} {κ:SortKind} {a0:Array Keyed}
theorem elem_ok {arr:Array Keyed} {i:Nat} {st:SortSt} {Q:Keyed→SortSt→Prop} (h:i < arr.size) (q:Q arr[i] st):wpS (model prog w) A E s (elem' arr i) Q st:=by
 rw [elem'_eq,Array.getElem?_eq_getElem h]
 exact wpS_pure q
def In (a0 arr:Array Keyed):Prop:=∀ x∈arr,x∈a0
def PL (a b out:Array Keyed) (ia ib:Nat):Prop:=(out.toList++(a.toList.drop ia++b.toList.drop ib)).Perm (a.toList++b.toList)
theorem drop_ex (a:Array Keyed) (i k:Nat) (h:i≤k):a.toList.drop i=(a.extract i k).toList++a.toList.drop k:=by
 rw [Array.toList_extract,List.extract_eq_take_drop]
 have e:a.toList.drop k=(a.toList.drop i).drop (k - i):=by
  rw [List.drop_drop]
  congr 1
  omega
 rw [e,List.take_append_drop]
theorem ext_all (a:Array Keyed) (i:Nat):(a.extract i a.size).toList=a.toList.drop i:=by
 rw [Array.toList_extract,List.extract_eq_take_drop]
 exact List.take_of_length_le (by simp)
section
variable {a b out:Array Keyed} {ia ib:Nat}
theorem PL.takeA (h:PL a b out ia ib) (k:Nat):PL a b (out++a.extract ia (ia + k)) (ia + k) ib:=by
 unfold PL at h ⊢
 rw [drop_ex a ia (ia + k) (by omega)] at h
 simpa using h
theorem PL.takeB (h:PL a b out ia ib) (k:Nat):PL a b (out++b.extract ib (ib + k)) ia (ib + k):=by
 unfold PL at h ⊢
 rw [drop_ex b ib (ib + k) (by omega)] at h
 refine List.Perm.trans ?_ h
 simp only [Array.toList_append,List.append_assoc]
 refine List.Perm.append_left _ ?_
 rw [← List.append_assoc,← List.append_assoc]
 exact List.Perm.append_right _ List.perm_append_comm
theorem PL.pushA (h:PL a b out ia ib) (hi:ia < a.size):PL a b (out.push a[ia]) (ia + 1) ib:=by
 unfold PL at h ⊢
 rw [List.drop_eq_getElem_cons (by simpa using hi)] at h
 simpa using h
theorem PL.pushB (h:PL a b out ia ib) (hi:ib < b.size):PL a b (out.push b[ib]) ia (ib + 1):=by
 unfold PL at h ⊢
 rw [List.drop_eq_getElem_cons (l:=b.toList) (by simpa using hi)] at h
 refine List.Perm.trans ?_ h
 simp only [Array.toList_push,List.append_assoc,List.singleton_append]
 refine List.Perm.append_left _ ?_
 simpa using List.perm_middle.symm
theorem PL.done (h:PL a b out ia ib):(out++a.extract ia a.size++b.extract ib b.size).Perm (a++b):=by
 unfold PL at h
 rw [Array.perm_iff_toList_perm]
 simp only [Array.toList_append,ext_all,List.append_assoc]
 exact h
theorem PL.last (h:PL a b out ia ib):(out++b.extract ib b.size++a.extract ia a.size).Perm (a++b):=by
 unfold PL at h
 rw [Array.perm_iff_toList_perm]
 simp only [Array.toList_append,ext_all,List.append_assoc]
 exact (List.Perm.append_left _ List.perm_append_comm).trans h
end
structure SI (κ:SortKind) (a0:Array Keyed) (st st':SortSt):Prop where
 ok:Ok κ a0 st'
 pend:pendingOf st'=pendingOf st
 arr:arrOf st'=arrOf st
def PH (a b out:Array Keyed) (na nb:Nat):Prop:=((a.toList.take na++b.toList.take nb)++out.toList.reverse).Perm (a.toList++b.toList)
theorem take_ex (a:Array Keyed) (i k:Nat) (h:i≤k):a.toList.take k=a.toList.take i++(a.extract i k).toList:=by
 rw [Array.toList_extract,List.extract_eq_take_drop]
 have e:k=i + (k - i):=by omega
 conv=>lhs; rw [e,List.take_add]
theorem take_last (a:Array Keyed) (n:Nat) (h0:0 < n) (h:n - 1 < a.size):a.toList.take n=a.toList.take (n - 1)++[a[n - 1]]:=by
 have e:n=(n - 1) + 1:=by omega
 conv=>lhs; rw [e,List.take_add_one]
 rw [Array.getElem?_toList,Array.getElem?_eq_getElem h]
 rfl
theorem ext_zero (a:Array Keyed) (n:Nat):(a.extract 0 n).toList=a.toList.take n:=by
 rw [Array.toList_extract,List.extract_eq_take_drop]
 simp
section
variable {a b out:Array Keyed} {na nb:Nat}
theorem PH.downA (h:PH a b out na nb) (h0:0 < na) (hi:na - 1 < a.size):PH a b (out.push a[na - 1]) (na - 1) nb:=by
 unfold PH at h ⊢
 rw [take_last a na h0 hi] at h
 refine List.Perm.trans ?_ h
 simp only [Array.toList_push,List.reverse_append,List.reverse_singleton,List.append_assoc,List.singleton_append]
 exact List.Perm.append_left _ List.perm_middle
theorem PH.downB (h:PH a b out na nb) (h0:0 < nb) (hi:nb - 1 < b.size):PH a b (out.push b[nb - 1]) na (nb - 1):=by
 unfold PH at h ⊢
 rw [take_last b nb h0 hi] at h
 simpa using h
theorem PH.takeA (h:PH a b out na nb) {k:Nat} (hk:k≤na):PH a b (out++(a.extract k na).reverse) k nb:=by
 unfold PH at h ⊢
 rw [take_ex a k na hk] at h
 refine List.Perm.trans ?_ h
 simp only [Array.toList_append,Array.toList_reverse,List.reverse_append,List.reverse_reverse,List.append_assoc]
 refine List.Perm.append_left _ ?_
 rw [← List.append_assoc,← List.append_assoc]
 exact List.Perm.append_right _ List.perm_append_comm
theorem PH.takeB (h:PH a b out na nb) {k:Nat} (hk:k≤nb):PH a b (out++(b.extract k nb).reverse) na k:=by
 unfold PH at h ⊢
 rw [take_ex b k nb hk] at h
 simpa using h
theorem PH.done (h:PH a b out na nb):(a.extract 0 na++b.extract 0 nb++out.reverse).Perm (a++b):=by
 unfold PH at h
 rw [Array.perm_iff_toList_perm]
 simp only [Array.toList_append,ext_zero,Array.toList_reverse]
 exact h
theorem PH.first (h:PH a b out na nb):(b.extract 0 nb++a.extract 0 na++out.reverse).Perm (a++b):=by
 unfold PH at h
 rw [Array.perm_iff_toList_perm]
 simp only [Array.toList_append,ext_zero,Array.toList_reverse]
 exact (List.Perm.append_right _ List.perm_append_comm).trans h
end
theorem wpS_set {M:Model} {σ:Type} {x:σ} {Q:PUnit→σ→Prop} {st:σ} (h:Q ⟨⟩ x):wpS M A E s (set x:StateT σ Sem PUnit) Q st:=by
 unfold wpS
 rw [StateT.run_set]
 exact wpAny_pure ⟨rfl,h⟩
def Chain:List (Nat×Nat×Nat)→Nat→Nat→Prop
 | [],b,e=>b=e
 | r::rest,b,e=>r.1=b∧1≤r.2.1∧Chain rest (b + r.2.1) e
theorem Chain.le:∀ {l:List (Nat×Nat×Nat)} {b e:Nat},Chain l b e→b≤e
 | [],_,_,h=>Nat.le_of_eq h
 | _::_,_,_,h=>Nat.le_trans (Nat.le_add_right _ _) h.2.2.le
theorem Chain.merge:∀ {l:List (Nat×Nat×Nat)} {b e i:Nat} {x y:Nat×Nat×Nat},Chain l b e→l[i]?=some x→l[i + 1]?=some y →
  y.1=x.1 + x.2.1∧1≤x.2.1∧1≤y.2.1∧y.1 + y.2.1≤e∧Chain ((l.set i (x.1,x.2.1 + y.2.1,x.2.2)).eraseIdx (i + 1)) b e
 | [],_,_,_,_,_,_,h,_=>by simp at h
 | r::rest,b,e,0,x,y,h,h1,h2=>by
  obtain rfl:r=x:=by simpa using h1
  cases rest with
  | nil=>simp at h2
  | cons r2 rest =>
   obtain rfl:r2=y:=by simpa using h2
   have e1:r.1=b:=h.1
   have n1:1≤r.2.1:=h.2.1
   have e2:r2.1=b + r.2.1:=h.2.2.1
   have n2:1≤r2.2.1:=h.2.2.2.1
   have c:Chain rest (b + r.2.1 + r2.2.1) e:=h.2.2.2.2
   have:=c.le
   refine ⟨by omega,n1,n2,by omega,?_⟩
   show Chain ((r.1,r.2.1 + r2.2.1,r.2.2)::rest) b e
   refine ⟨e1,Nat.le_trans n1 (Nat.le_add_right _ _),?_⟩
   show Chain rest (b + (r.2.1 + r2.2.1)) e
   rw [← Nat.add_assoc]
   exact c
 | r::rest,b,e,i + 1,x,y,h,h1,h2=>by
  obtain ⟨e1,n1,c⟩:=h
  obtain ⟨g1,g2,g3,g4,g5⟩:=Chain.merge (i:=i) c (by simpa using h1) (by simpa using h2)
  refine ⟨g1,g2,g3,g4,?_⟩
  show Chain (r::(rest.set i _).eraseIdx (i + 1)) b e
  exact ⟨e1,n1,g5⟩
theorem Chain.snoc:∀ {l:List (Nat×Nat×Nat)} {b e n p:Nat},Chain l b e→1≤n→Chain (l++[(e,n,p)]) b (e + n)
 | [],_,_,_,_,h,hn=>⟨h.symm,hn,by show _ + _=_; rw [h]⟩
 | _::_,_,_,_,_,h,hn=>⟨h.1,h.2.1,h.2.2.snoc hn⟩
theorem Chain.mod:∀ {l:List (Nat×Nat×Nat)} {b e:Nat} (i pw:Nat),Chain l b e→Chain (l.modify i fun x=>(x.1,x.2.1,pw)) b e
 | [],_,_,i,_,h=>by cases i <;> exact h
 | _::_,_,_,0,_,h=>h
 | _::_,_,_,i + 1,pw,h=>⟨h.1,h.2.1,h.2.2.mod i pw⟩
theorem put_all (sa:Nat):∀ (l:List Keyed) (arr:Array Keyed) (j:Nat),sa + j + l.length≤arr.size →
  ((l.zipIdx j).foldl (fun a (x:Keyed×Nat)=>a.setIfInBounds (sa + x.2) x.1) arr).toList=arr.toList.take (sa + j)++(l++arr.toList.drop (sa + j + l.length))
 | [],arr,j,h=>by simp
 | x::r,arr,j,h=>by
  rw [List.length_cons] at h
  rw [List.zipIdx_cons,List.foldl_cons,put_all sa r _ (j + 1) (by rw [Array.size_setIfInBounds]; omega)]
  have hl:sa + j < arr.toList.length:=by rw [Array.length_toList]; omega
  rw [Array.toList_setIfInBounds,List.length_cons]
  have e1:sa + (j + 1)=sa + j + 1:=by omega
  rw [e1,List.take_set,List.drop_set_of_lt (by omega),List.take_add_one,List.getElem?_eq_getElem hl]
  have e2:sa + j + 1 + r.length=sa + j + (r.length + 1):=by omega
  rw [e2]
  have hlen:(arr.toList.take (sa + j)).length=sa + j:=by rw [List.length_take]; omega
  rw [List.set_append_right _ _ (by rw [hlen]; exact Nat.le_refl _),hlen]
  simp
theorem ite_lt {c:Prop} [Decidable c] {x y n:Nat} (h1:x + 1 < n) (h2:y + 1 < n):(if c then x else y) + 1 < n:=by
 split
 ·exact h1
 ·exact h2
end
end Tim
namespace L2
open PySem PySem.Calls PySem.Spec PyProof.Rows
section
variable {prog:Program} {w:World} {A:Around} {E:Value→Shared→Prop} {s:Shared}
theorem sort_list {a:Addr} {vs:List Value} {n:Nat} {P:PySem.Fin→Shared→Prop} {Out:List Value→Prop} (ho:s.heap.get? a=some (seqObj "list" vs.toArray n)) (hz:vs.length≤1000000)
  (h1:vs.length < 2→Out vs) (hlen:∀ o,Out o→o.length=vs.length)
  (hrun:2≤vs.length→∀ t:Shared,(∀ b o,b≠a→s.heap.get? b=some o→t.heap.get? b=some o)→wpAny (model prog w) A (keyKind' vs.toArray) (fun κ t'=>t'=t ∧
   wpAny (model prog w) A ((sortRuns').run (SortSt.mk' κ (vs.toArray.zip vs.toArray) #[] 7 none)) (fun r t2=>t2=t∧failedOf r.2=none∧Out ((arrOf r.2).map (·.2)).toList) (fun _ _=>False) t) (fun _ _=>False) t)
  (q:∀ out:Array Value,Out out.toList→P (.done (.ret .none)) { s with heap:=sortedHeap s.heap a vs out }):wpAny (model prog w) A (Builtin.«list.sort» ⟨[.ref a],[]⟩) P E s:=by
 have sl:(1000000:Nat) < sizeLine:=by decide
 have hza:vs.toArray.size≤sizeLine:=by rw [List.size_toArray]; omega
 have lta:a < s.heap.objs.size:=Heap.lt_size ho
 rw [list_sort_plain]
 refine wpAny_bind (listItems_at ho rfl ?_)
 refine wpAny_bind (listUpdate_at ho rfl ?_ hza (Nat.zero_le _))
 obtain ⟨e1,ho1⟩:∃ e1,(s.heap.update a (Obj.mapSeq fun _=>(#[]:Array Value))).get? a=some (seqObj "list" #[] e1):=⟨_,get?_update_seq ho fun _=>#[]⟩
 refine wpAny_bind (seqEpoch_at ho1 rfl ?_)
 refine wpAny_bind (wpAny_newTuple ?_ (by show vs.length≤sizeLine; omega))
 refine wpAny_bind (wpAny_newList ?_ (Nat.zero_le _))
 refine wpAny_holding ?_
 show wpAny (model prog w) A _ P E { s with heap:=((s.heap.update a (Obj.mapSeq fun _=>(#[]:Array Value))).push (seqObj "tuple" vs.toArray 0)).push (seqObj "list" #[] 0) }
 have ho6:(((s.heap.update a (Obj.mapSeq fun _=>(#[]:Array Value))).push (seqObj "tuple" vs.toArray 0)).push (seqObj "list" #[] 0)).get? a=some (seqObj "list" #[] e1):=Heap.get?_push_of_some _ (Heap.get?_push_of_some _ ho1)
 have kp:∀ b o,b≠a→s.heap.get? b=some o→(((s.heap.update a (Obj.mapSeq fun _=>(#[]:Array Value))).push (seqObj "tuple" vs.toArray 0)).push (seqObj "list" #[] 0)).get? b=some o:=fun b o hb e =>
  Heap.get?_push_of_some _ (Heap.get?_push_of_some _ ((Heap.SameBut.update s.heap a (Obj.mapSeq fun _=>(#[]:Array Value))).extBut b o hb e))
 dsimp only
 by_cases h2:vs.toArray.size < 2
 ·rw [if_pos h2,if_pos h2]
  refine wpAny_bind (wpAny_pure ?_)
  rw [StateT.run_pure]
  refine wpAny_bind (wpAny_pure ?_)
  dsimp only
  have eo:Array.map (·.2) (vs.toArray.zip vs.toArray)=vs.toArray:=by
   apply Array.toList_inj.mp
   simp [List.map_snd_zip]
  have h2':vs.length < 2:=by rw [List.size_toArray] at h2; exact h2
  refine wpAny_bind (seqEpoch_at ho6 rfl ?_)
  refine wpAny_bind (listUpdate_at ho6 rfl ?_ (Nat.zero_le _) (by show (Array.map (·.2) (vs.toArray.zip vs.toArray)).size≤sizeLine + 1; rw [eo]; omega))
  simp only [bne_self_eq_false,Bool.false_eq_true,if_false]
  refine wpAny_pure ?_
  show P _ { s with heap:=sortedHeap s.heap a vs (Array.map (·.2) (vs.toArray.zip vs.toArray)) }
  exact q _ (by rw [eo]; exact h1 h2')
 ·rw [if_neg h2,if_neg h2]
  have h2':2≤vs.length:=by rw [List.size_toArray] at h2; omega
  refine wpAny_bind (wpAny_mono (hrun h2' { s with heap:=((s.heap.update a (Obj.mapSeq fun _=>(#[]:Array Value))).push (seqObj "tuple" vs.toArray 0)).push (seqObj "list" #[] 0) } kp) (fun κ t' hk=>?_) fun _ _ z=>z.elim)
  obtain ⟨rfl,hk⟩:=hk
  refine wpAny_bind (wpAny_mono hk (fun r t2 hr=>?_) fun _ _ z=>z.elim)
  obtain ⟨⟨⟩,st⟩:=r
  obtain ⟨rfl,hf,hout⟩:=hr
  dsimp only
  have ol:((arrOf st).map (·.2)).size=vs.length:=by
   have:=hlen _ hout
   rw [Array.length_toList] at this
   exact this
  refine wpAny_bind (seqEpoch_at ho6 rfl ?_)
  refine wpAny_bind (listUpdate_at ho6 rfl ?_ (Nat.zero_le _) (by show ((arrOf st).map (·.2)).size≤sizeLine + 1; rw [ol]; omega))
  have hf:failedOf st=none:=hf
  rw [hf]
  simp only [bne_self_eq_false,Bool.false_eq_true,if_false]
  exact wpAny_pure (q _ hout)
theorem sorted_src {T:String} {r d:Addr} {n:Nat} {Pi:Nat→Value→Prop} {OK:Heap→Prop} {Q:Value→Shared→Prop} {Out:List Value→List Value→Prop} (K:PySem.W.KdlSrc prog w T r d n Pi OK) (hh:A.handled=none) (hok:OK s.heap) (hn:n≤1000000)
  (h1:∀ vs:List Value,vs.length < 2→Out vs vs) (hlen:∀ vs o:List Value,Out vs o→o.length=vs.length)
  (hrun:∀ (B:Around) (vs:List Value),vs.length=n→(∀ (j:Nat) (v:Value),vs[j]?=some v→Pi j v)→2≤n→∀ t:Shared,(∀ b o,s.heap.get? b=some o→t.heap.get? b=some o)→wpAny (model prog w) B (keyKind' vs.toArray) (fun κ t'=>t'=t ∧
   wpAny (model prog w) B ((sortRuns').run (SortSt.mk' κ (vs.toArray.zip vs.toArray) #[] 7 none)) (fun r t2=>t2=t∧failedOf r.2=none∧Out vs ((arrOf r.2).map (·.2)).toList) (fun _ _=>False) t) (fun _ _=>False) t)
  (q:∀ (D:Addr) (h':Heap) (tk:Nat) (vs:List Value) (out:Array Value) (c:Nat),(∀ b o,s.heap.get? b=some o→b < D)→(∀ b o,s.heap.get? b=some o→h'.get? b=some o)→vs.length=n→(∀ (j:Nat) (v:Value),vs[j]?=some v→Pi j v)→Out vs out.toList →
   h'.get? D=some (seqObj "list" out c)→Q (.ref D) { s with heap:=h',toks:=tk }) :
  wpAny (model prog w) A (call (.builtin "sorted") [.ref r]) Q E s:=by
 have sl:(1000000:Nat) < sizeLine:=by decide
 refine call_function_entry kind_sorted plain_sorted entry_sorted (args_sorted1 _) ?_
 unfold Builtin.«sorted»
 refine wpAny_bind (m:=checkCount "sorted" 1 1 _) (wpAny_pure ?_)
 refine wpAny_bind (PySem.W.kdu_collect (A:=A.in1) K hh hok (by omega) fun h' tk acc hk hacc=>?_)
 have la:acc.toList.length=n:=by rw [Array.length_toList]; exact hacc.1
 have pa:∀ (j:Nat) (v:Value),acc.toList[j]?=some v→Pi j v:=fun j v e=>hacc.2 j v (by rw [← Array.getElem?_toList]; exact e)
 refine wpAny_bind (wpAny_newList ?_ (by rw [la]; omega))
 have hoL:(h'.push (seqObj "list" acc.toList.toArray 0)).get? h'.objs.size=some (seqObj "list" acc.toList.toArray 0):=Heap.get?_push_size _ rfl
 show wpAny (model prog w) _ _ _ _ { s with heap:=h'.push (seqObj "list" acc.toList.toArray 0),toks:=tk }
 refine wpAny_bind (wpAny_holding (wpAny_call_entry slot_list_sort ⟨_,hoL,rfl⟩ entry_list_sort (sort_list (Out:=Out acc.toList) hoL (by rw [la]; exact hn) (h1 _) (hlen _) (fun h2 t kp=>hrun _ acc.toList la pa (by omega) t fun b o e=>kp b o ?_ (Heap.get?_push_of_some _ (hk b o e))) fun out ho=>⟨_,rfl,?_⟩) (args_list_sort _)))
 ·exact Nat.ne_of_lt (Heap.lt_size (hk b o e))
 ·refine wpAny_pure ⟨_,rfl,?_⟩
  obtain ⟨c,hc⟩:=sortedHeap_at (vs:=acc.toList) (out:=out) hoL
  refine q h'.objs.size _ tk acc.toList out c (fun b o e=>Heap.lt_size (hk b o e)) (fun b o e=>?_) la pa ho hc
  ·rw [sortedHeap_old (Nat.ne_of_lt (Heap.lt_size (hk b o e))) (by rw [size_push']; exact Nat.lt_succ_of_lt (Heap.lt_size (hk b o e)))]
   exact Heap.get?_push_of_some _ (hk b o e)
end
def IsPr (h:Heap) (v:Value) (q:Int×Int):Prop:=∃ a o t u n,v=.ref a∧h.get? a=some o∧o.cls=.type "tuple"∧o.data=.seq #[.int q.1 t,.int q.2 u] n
section
variable {prog:Program} {w:World} {A:Around} {E:Value→Shared→Prop} {s:Shared}
theorem pr_tups:∀ {vs:List Value} {ps:List (Int×Int)},Paired (IsPr s.heap) vs ps→∃ fs,PySem.W.KatTups s.heap vs fs∧fs.length=vs.length∧∀ v∈fs,∃ i t,v=Value.int i t
 | _,_,.nil=>⟨[],PySem.W.KatTups.nil,rfl,fun v hv=>by cases hv⟩
 | _,_,.cons h r=>by
  obtain ⟨fs,k,l,z⟩:=pr_tups r
  obtain ⟨a,o,t,u,n,rfl,h1,h2,h3⟩:=h
  refine ⟨_,PySem.W.KatTups.cons h1 h2 h3 rfl k,by simp [l],fun v hv=>?_⟩
  rcases List.mem_cons.mp hv with rfl | hv
  ·exact ⟨_,_,rfl⟩
  ·exact z v hv
def Reord (vs o:List Value):Prop:=∃ p:List Nat,p.Perm (List.range vs.length)∧o=p.map fun i=>vs.getD i Value.none
theorem Reord.refl (vs:List Value):Reord vs vs:=⟨List.range vs.length,.refl _,by
 apply List.ext_getElem
 ·simp
 ·intro i h1 h2
  simp [h1]⟩
theorem perm_map_back {α β:Type} {f:α→β}:∀ {o v:List β},o.Perm v→∀ l:List α,v=l.map f→∃ l':List α,l'.Perm l∧o=l'.map f:=by
 intro o v h
 induction h with
 | nil =>
  intro l e
  exact ⟨l,.refl _,e⟩
 | cons x _ ih =>
  intro l e
  cases l with
  | nil=>cases e
  | cons y r =>
   rw [List.map_cons] at e
   obtain ⟨e1,e2⟩:=List.cons.inj e
   obtain ⟨l',p,q⟩:=ih r e2
   exact ⟨y::l',.cons y p,by rw [List.map_cons,← e1,← q]⟩
 | swap x y t =>
  intro l e
  match l,e with
  | [],e=>cases e
  | [_],e=>cases (List.cons.inj e).2
  | a::b::r,e =>
   rw [List.map_cons,List.map_cons] at e
   obtain ⟨e1,e2⟩:=List.cons.inj e
   obtain ⟨e3,e4⟩:=List.cons.inj e2
   exact ⟨b::a::r,.swap a b r,by rw [List.map_cons,List.map_cons,← e1,← e3,← e4]⟩
 | trans _ _ ih1 ih2 =>
  intro l e
  obtain ⟨l1,p1,e1⟩:=ih2 l e
  obtain ⟨l2,p2,e2⟩:=ih1 l1 e1
  exact ⟨l2,p2.trans p1,e2⟩
theorem Reord.of_perm {vs o:List Value} (h:o.Perm vs):Reord vs o:=by
 obtain ⟨_,_,e⟩:=Reord.refl vs
 obtain ⟨p,hp,eo⟩:=perm_map_back (f:=fun i=>vs.getD i Value.none) h (List.range vs.length) (by
  apply List.ext_getElem
  ·simp
  ·intro i h1 h2
   simp [h1])
 exact ⟨p,hp,eo⟩
end
theorem ObjOk.there {P:Program} {w:World} {H:Hp} {h:Heap} {a:Addr} {o:HO} (x:ObjOk P w H h a o):∃ ob,h.get? a=some ob:=by
 cases o with
 | lst xs=>obtain ⟨_,_,_,_,e⟩:=x; exact ⟨_,e⟩
 | tup xs=>obtain ⟨_,_,_,ob,e,_⟩:=x; exact ⟨_,e⟩
 | dK kvs=>obtain ⟨_,_,_,_,ob,_,_,e,_⟩:=x; exact ⟨_,e⟩
 | dT kvs=>obtain ⟨_,_,_,_,ob,_,_,e,_⟩:=x; exact ⟨_,e⟩
 | set S n=>obtain ⟨ob,_,_,_,e,_⟩:=x; exact ⟨_,e⟩
 | ins C dx fs=>obtain ⟨_,_,_,e,_⟩:=x; exact ⟨_,e⟩
 | own y=>exact x
 | xd fs=>obtain ⟨_,⟨_,_,_,e,_⟩,_⟩:=x; exact ⟨_,e⟩
 | rng lo hi=>obtain ⟨_,_,_,e⟩:=x; exact ⟨_,e⟩
 | frz ob u=>exact ⟨_,x.1⟩
 | tbl ps=>exact ⟨_,x⟩
 | met f y=>exact ⟨_,x⟩
 | ext φ=>exact x.2.1
theorem Paired.of_get {α β:Type} {F:α→β→Prop}:∀ {l:List α} {r:List β},l.length=r.length→(∀ (j:Nat) (x:α) (y:β),l[j]?=some x→r[j]?=some y→F x y)→Paired F l r
 | [],[],_,_=>.nil
 | x::l,y::r,h,f=>.cons (f 0 x y rfl rfl) (Paired.of_get (by simpa using h) fun j a b e1 e2=>f (j + 1) a b (by simpa using e1) (by simpa using e2))
 | [],_::_,h,_=>by cases h
 | _::_,[],h,_=>by cases h
theorem Paired.of_map {α β γ:Type} {F:α→β→Prop} {f:γ→α} {g:γ→β}:∀ {l:List γ},(∀ c∈l,F (f c) (g c))→Paired F (l.map f) (l.map g)
 | [],_=>.nil
 | c::r,h=>.cons (h c List.mem_cons_self) (Paired.of_map fun d hd=>h d (List.mem_cons_of_mem _ hd))
def prKey (q:Int×Int):List Key:=[Sum.inl q.1,Sum.inl q.2]
section
variable {X:Cx}
theorem Inv.newFp {pins:List (Addr×Obj)} {σ:St} {H:Hp} {s:Shared} (I:Inv X pins σ H s) {D:Addr} (hD:∀ b o,s.heap.get? b=some o→b < D):FpOk X pins H D:=by
 obtain ⟨m,⟨oL,_,_,eL,_⟩,_⟩:=id I.loc
 have hL:=hD _ _ eL
 refine ⟨?_,Nat.ne_of_gt hL,fun z=>?_,.inr (Nat.le_of_lt (Nat.lt_of_le_of_lt I.ok.above hL)),fun x c e z=>?_,fun p hp z=>?_⟩
 ·cases e:H D with
  | none=>rfl
  | some u =>
   obtain ⟨ob,eo⟩:=(I.hok D u e).there
   exact absurd (hD _ _ eo) (Nat.lt_irrefl _)
 ·obtain ⟨_,o,ho,_⟩:=I.ok.funs.mem z
  obtain ⟨o',ho'⟩:=I.base.there D o ho fun q=>I.ok.exfs D q z
  exact absurd (hD _ _ ho') (Nat.lt_irrefl _)
 ·obtain ⟨v,o,ho,_⟩:=I.cell x c e
  exact absurd (hD _ _ ho) (by rw [z]; exact Nat.lt_irrefl _)
 ·exact absurd (hD _ _ (I.pin p hp).1) (by rw [z]; exact Nat.lt_irrefl _)
end
end L2
namespace L2
open PySem PySem.Calls PySem.Spec PyProof.Rows
section
variable {X:Cx}
def rInPrs:R2:=fun x y H Q=>∃ (p t:Addr) (z:Int×Int) (us:List V) (ars:List (Int×Int)),x=.ref p∧y=.ref t∧H p=some (.tup [.int z.1,.int z.2])∧H t=some (.tup us)∧Ars H us ars∧Q (.bl (decide (z∈ars))) H
theorem op_inPrs (hu:X.A.units + 1 < cLine):OpR X (compareOp .In) rInPrs:=by
 intro pins s σ H x y v u Q I rx ry h
 obtain ⟨p,t,z,us,ars,rfl,rfl,hp,ht,ha,q⟩:=h
 cases rx
 cases ry
 obtain ⟨its,r1,p1,_⟩:=I.tuple (SqT.of hp)
 obtain ⟨its2,r2,p2,_⟩:=I.tuple (SqT.of ht)
 classical
 have pr:∀ {a:Addr} {c:Int×Int},H a=some (.tup [.int c.1,.int c.2])→SeqAt.EqAt X.A.in1 s (.ref a) (.ref p) (decide (c=z)):=by
  intro a c hc
  by_cases e:a=p
  ·subst e
   rw [hc] at hp
   have e1:c.1=z.1∧c.2=z.2:=by simpa using hp
   have e2:c=z:=Prod.ext e1.1 e1.2
   rw [decide_eq_true e2]
   exact SeqAt.EqAt.same _
  ·obtain ⟨jt,r3,p3,_⟩:=I.tuple (SqT.of hc)
   obtain ⟨x1,x2,rfl,⟨t1,rfl⟩,⟨t2,rfl⟩⟩:=vals2' r3
   obtain ⟨y1,y2,rfl,⟨w1,rfl⟩,⟨w2,rfl⟩⟩:=vals2' r1
   refine SeqAt.EqAt.of_refs e ?_
   have key:=SeqAt.RcAt.tuples (A:=X.A.in1) (s:=s) (e:=fun j=>if j=0 then c.1 == z.1 else c.2 == z.2) p3 p1 (show X.A.units + 1 < cLine from hu) (fun j h1 h2=>?_)
   ·have ev:((List.range (min (#[Value.int c.1 t1,Value.int c.2 t2]:Array Value).size (#[Value.int z.1 w1,Value.int z.2 w2]:Array Value).size)).all (fun j=>if j=0 then c.1 == z.1 else c.2 == z.2) && (#[Value.int c.1 t1,Value.int c.2 t2]:Array Value).size == (#[Value.int z.1 w1,Value.int z.2 w2]:Array Value).size)=decide (c=z):=by
     show ((List.range 2).all (fun j=>if j=0 then c.1 == z.1 else c.2 == z.2) && true)=decide (c=z)
     have:(List.range 2)=[0,1]:=by decide
     rw [this,Bool.eq_iff_iff]
     simp [Prod.ext_iff]
    rw [← ev]
    exact key
   ·have hj:j=0∨j=1:=by
     have:j < 2:=h1
     omega
    rcases hj with rfl | rfl
    ·exact SeqAt.EqAt.int_int _ _ _ _
    ·exact SeqAt.EqAt.int_int _ _ _ _
 -- the answer by the address of an item
 have ans:∀ y∈its2,∃ a c,y=Value.ref a∧c∈ars∧H a=some (.tup [.int c.1,.int c.2]):=fun y hy=>by
  obtain ⟨j,hj,rfl⟩:=List.mem_iff_getElem.mp hy
  have hj':j < us.length:=by rw [r2.length]; exact hj
  obtain ⟨c,e1,a,e2,e3⟩:=Paired.get' (i:=j) (x:=us[j]) ha (by simp [hj'])
  obtain ⟨w',e4,e5⟩:=r2.get (i:=j) (x:=us[j]) (by simp [hj'])
  have e6:its2[j]?=some its2[j]:=by simp [hj]
  rw [e6] at e4
  cases e4
  rw [e2] at e5
  exact ⟨a,c,e5,List.mem_of_getElem? e1,e3⟩
 let ev:Value→Bool:=fun y=>decide (∃ a,y=Value.ref a∧H a=some (.tup [.int z.1,.int z.2]))
 have hev:∀ y∈its2,SeqAt.EqAt X.A.in1 s y (.ref p) (ev y):=fun y hy=>by
  obtain ⟨a,c,rfl,_,hc⟩:=ans y hy
  have e:ev (.ref a)=decide (c=z):=by
   show decide (∃ a',Value.ref a=Value.ref a'∧H a'=some (.tup [.int z.1,.int z.2]))=decide (c=z)
   rw [decide_eq_decide]
   constructor
   ·rintro ⟨a',ea,h'⟩
    cases ea
    rw [hc] at h'
    have e1:c.1=z.1∧c.2=z.2:=by simpa using h'
    exact Prod.ext e1.1 e1.2
   ·rintro rfl
    exact ⟨a,rfl,hc⟩
  rw [e]
  exact pr hc
 refine SeqAt.in_tupleAt ev p2 (fun y hy=>hev y (by simpa using hy)) ⟨.bl _,H,I,rfl,?_⟩
 have e:its2.toArray.any ev=decide (z∈ars):=by
  rw [Bool.eq_iff_iff,decide_eq_true_iff]
  rw [show its2.toArray.any ev=its2.any ev by simp,List.any_eq_true]
  constructor
  ·rintro ⟨y,hy,he⟩
   obtain ⟨a,c,rfl,hm,hc⟩:=ans y hy
   obtain ⟨a',ea,h'⟩:=of_decide_eq_true he
   cases ea
   rw [hc] at h'
   have e1:c.1=z.1∧c.2=z.2:=by simpa using h'
   rw [← Prod.ext e1.1 e1.2]
   exact hm
  ·intro hz
   obtain ⟨j,hj,e0⟩:=List.mem_iff_getElem.mp hz
   have hj':j < us.length:=by rw [Paired.length ha]; exact hj
   have hj2:j < its2.length:=by rw [← r2.length]; exact hj'
   obtain ⟨c,e1,a,e2,e3⟩:=Paired.get' (i:=j) (x:=us[j]) ha (by simp [hj'])
   obtain ⟨w',e4,e5⟩:=r2.get (i:=j) (x:=us[j]) (by simp [hj'])
   rw [e2] at e5
   have e5:w'=Value.ref a:=e5
   have ec:c=z:=by
    rw [← e0]
    have:ars[j]?=some ars[j]:=by simp [hj]
    rw [this] at e1
    cases e1
    rfl
   refine ⟨w',List.mem_of_getElem? e4,decide_eq_true ⟨a,e5,?_⟩⟩
   rw [← ec]
   exact e3
 rw [e]
 exact q
end
end L2
namespace L2
open PySem PySem.Spec PyProof.Rows PySem.AutoSeq1
theorem enum_new_tup (l:Addr) (xs:Array Value) :
  Meets (Builtin.«enumerate.__new__» ⟨[.type "enumerate",.ref l],[]⟩) (fun _ R s=>s.heap.IsTuple l xs ∧
   R (.ok (.ret (.ref (zpa s.heap l).objs.size))) { s with heap:=(zpa s.heap l).push { cls:=.type "enumerate",data:=.fields #[.none,.bool false,.ref s.heap.objs.size,rawInt 0,.none,.none] } }) :=
 .of_wp fun prog w A R s h=>by
  obtain ⟨hp,g,d,tk,os⟩:=s; obtain ⟨t1,h⟩:=h
  have f0:=sub_enumerate
  have T1:Heap.IsTuple (Shared.heap ⟨hp,g,d,tk,os⟩) l xs:=t1
  obtain ⟨ob,hl,hcl,nn,hdl⟩:=id t1
  wp_walk using wpAny_loadPart' hl
  refine wpAny_stack_any fun st=>wpAny_pure ?_
  split
  ·rename_i c _ _ _ _ _
   cases (c == Value.type "enumerate")
   ·wp_walk using wpAny_loadPart' hl,wpAny_pyIter_tuple T1
    exact ⟨_,rfl,h⟩
   ·wp_walk using wpAny_loadPart' hl,wpAny_pyIter_tuple T1
    exact ⟨_,rfl,h⟩
  ·wp_walk using wpAny_loadPart' hl,wpAny_pyIter_tuple T1
   exact ⟨_,rfl,h⟩
theorem call_enum_tup {prog:Program} {w:World} {A:Around} {E:Value→Shared→Prop} {s:Shared} {l:Addr} {xs:Array Value} {Q:Value→Shared→Prop} (h1:s.heap.IsTuple l xs)
  (q:∀ h',IsEnum h' (s.heap.objs.size + 1) s.heap.objs.size 0 .none→h'.IsTupleIter s.heap.objs.size l 0→(∀ c o,s.heap.get? c=some o→h'.get? c=some o)→Q (.ref (s.heap.objs.size + 1)) { s with heap:=h' }) :
  wpAny (model prog w) A (call (.type "enumerate") [.ref l]) Q E s:=by
 refine callType_new F.called_enumerate (by decide) (F.typeCall_enumerate_1 _) (F.newCall_enumerate_1 _) (fun obj=>F.args_object_init_2 obj _) F.entry_enumerate_new (enum_new_tup l xs) ⟨h1,?_⟩
 have hz:(zpa s.heap l).objs.size=s.heap.objs.size + 1:=Heap.size_push ..
 show _∧_
 rw [hz]
 have he:IsEnum ((zpa s.heap l).push { cls:=.type "enumerate",data:=.fields #[.none,.bool false,.ref s.heap.objs.size,rawInt 0,.none,.none] }) (s.heap.objs.size + 1) s.heap.objs.size 0 .none:=by
  have:=Heap.get?_push_size (zpa s.heap l) (o:={ cls:=.type "enumerate",data:=.fields #[.none,.bool false,.ref s.heap.objs.size,rawInt 0,.none,.none] }) rfl
  rw [hz] at this
  exact this
 exact ⟨⟨_,he,rfl⟩,q _ he ⟨_,Heap.get?_push_of_some _ (Heap.get?_push_size _ rfl),rfl,rfl⟩ fun b o x=>Heap.get?_push_of_some _ (Heap.get?_push_of_some _ x)⟩
def Ite (a:Addr):It:=⟨fun i H=>∃ xs,H a=some (.tup xs)∧i < xs.length,
 fun i H x H'=>∃ p v,x=.ref p∧H p=none∧H'=upd H p (.tup [.int i,v])∧∀ xs,H a=some (.tup xs)→xs[i]?=some v,
 fun i H=>∃ xs,H a=some (.tup xs)∧i=xs.length⟩
theorem turn_enum {P:Program} {w:World} {K:PySem.W.Frag} {es:List Expr} {kt:Nat} {tp:Pos} (a e it:Addr) (d1:e≠it) :
  Turn P w K (.Tuple es kt tp) (Ite a) [e,it] e (fun i h=>(∃ old,IsEnum h e it i old)∧h.IsTupleIter it a i) where
 mem:=by simp
 obj:=fun i h st c hc=>by
  obtain ⟨⟨old,s1⟩,⟨o2,s2,_,q2⟩⟩:=st
  simp only [List.mem_cons,List.not_mem_nil,or_false] at hc
  rcases hc with rfl | rfl
  ·exact ⟨_,s1,fun v=>by intro q; cases q⟩
  ·exact ⟨_,s2,fun v=>by intro q; rw [q2] at q; cases q⟩
 keep:=fun i h h' st kp=>by
  obtain ⟨⟨old,s1⟩,⟨o2,s2,r2⟩⟩:=st
  exact ⟨⟨old,kp e (by simp) _ s1⟩,⟨o2,kp it (by simp) _ s2,r2⟩⟩
 item:=by
  intro X hP hw hK hc i pins s σ H E I hf st hg
  subst hP hw hK
  obtain ⟨xs,ha,l1⟩:=hg
  obtain ⟨⟨old,s1⟩,s2⟩:=st
  have nf:∀ {c:Addr} {o:HO},H c=some o→∀ b∈[e,it],c≠b:=fun hcc b hb q=>by rw [q,(hf b hb).1] at hcc; cases hcc
  obtain ⟨its,r1,t1,_⟩:=I.tuple (SqT.of ha)
  have hh:X.A.in1.handled=none:=I.ok.hd hc
  have e1:its.toArray.size=xs.length:=by rw [List.size_toArray,← r1.length]
  have nef:e ∉ [it,a]:=by
   simp only [List.mem_cons,List.not_mem_nil,or_false,not_or]
   exact ⟨d1,(nf ha e (by simp)).symm⟩
  refine wpAny_pyNext_enum_itemD (draws_tup hh it a (nf ha it (by simp)) its.toArray) s1 ⟨s2,t1⟩ (by omega) d1 nef fun x h' tk px z1 z2 z3 z4 kp=>⟨_,rfl,?_⟩
  have px:its[i]?=some x:=by simpa using px
  obtain ⟨vx,hx⟩:∃ v,xs[i]?=some v:=⟨xs[i],by simp [l1]⟩
  obtain ⟨x',q1,rx⟩:=r1.get hx
  rw [px] at q1; cases q1
  refine wpAny_letOwnedTupleGo_enum z1 fun g2 zz hs=>?_
  have fr:H s.heap.objs.size=none:=I.hok.fresh (Nat.le_refl _)
  have I1:Inv X pins σ H { s with heap:=g2,toks:=tk + 1 }:=I.turnedL (l:=[e,it]) (t':=tk + 1) (fun c o hc e=>by
   simp only [List.mem_cons,List.not_mem_nil,or_false,not_or] at hc
   exact hs.extBut _ _ hc.1 (kp c o hc.1 hc.2 e)) fun c hc=>hf c hc
  have fp:=I.fpOk (H':=H) (Nat.le_refl _) fr
  have nz:∀ b∈[e,it],b≠s.heap.objs.size:=fun b hb q=>by
   obtain ⟨o,ho⟩:∃ o,s.heap.get? b=some o:=by
    obtain ⟨o2,s2,_⟩:=s2
    simp only [List.mem_cons,List.not_mem_nil,or_false] at hb
    rcases hb with rfl | rfl
    ·exact ⟨_,s1⟩
    ·exact ⟨_,s2⟩
   exact absurd (Heap.lt_size ho) (by rw [q]; exact Nat.lt_irrefl _)
  have at2:g2.get? s.heap.objs.size=some { cls:=.type "tuple",data:=.seq #[.int i tk,x] }:=hs.extBut _ _ (nz e (by simp)).symm z3
  refine ⟨.ref s.heap.objs.size,upd H s.heap.objs.size (.tup [.int i,vx]),I1.adopt fp ⟨?_,[.int i tk,x],.cons ⟨_,rfl⟩ (.cons rx .nil),⟨_,at2,rfl,_,rfl⟩⟩,rfl,⟨_,vx,rfl,fr,rfl,fun xs' q1=>?_⟩,
   ⟨⟨_,zz⟩,z2.1.extBut hs.extBut d1.symm⟩,fun c hc=>?_⟩
  ·show 2≤sizeLine
   decide
  ·rw [ha] at q1; cases q1
   exact hx
  ·rw [upd_ne (nz c hc)]
   exact (hf c hc).1
 done:=by
  intro X hP hw hK hc i pins s σ H E I hf st hg
  subst hP hw hK
  obtain ⟨xs,ha,hl⟩:=hg
  obtain ⟨⟨old,s1⟩,s2⟩:=st
  have nf:∀ {c:Addr} {o:HO},H c=some o→∀ b∈[e,it],c≠b:=fun hcc b hb q=>by rw [q,(hf b hb).1] at hcc; cases hcc
  obtain ⟨its,r1,t1,_⟩:=I.tuple (SqT.of ha)
  have hh:X.A.in1.handled=none:=I.ok.hd hc
  have e1:its.toArray.size=i:=by rw [List.size_toArray,← r1.length,hl]
  subst e1
  refine wpAny_pyNext_enum_endD (draws_tup hh it a (nf ha it (by simp)) its.toArray) s1 ⟨s2,t1⟩ fun h' eb=>⟨rfl,?_⟩
  exact I.turnedL (l:=[e,it]) (t':=s.toks) (fun c o hc e=>by
   simp only [List.mem_cons,List.not_mem_nil,or_false,not_or] at hc
   exact eb c o hc.2 e) fun c hc=>hf c hc
 self:=fun _ _ _ _ _ st h=>by
  obtain ⟨⟨old,s1⟩,_⟩:=st
  exact wpAny_pyIter_enum s1 h
section
variable {X:Cx} {es:List Expr} {kt:Nat} {tp:Pos}
theorem boot_enum:bootBuiltins "enumerate"=some (.type "enumerate"):=by decide +kernel
def iEnum (ta:TA):TI:=fun σ H R=>ta σ H fun vs H1=>∃ a xs,vs=[.ref a]∧H1 a=some (.tup xs)∧R (Ite a) H1
theorem pi_enum {a:Expr} {ta:TA} {p pos:Pos} (hg:Gl X "enumerate") (hm:X.mg "enumerate"=none) (ha:PA X [a] ta) (hs:starEach [a] X.env=[(false,eval a X.env)]:=by rfl) :
  PI X (.Tuple es kt tp) (.Call (.Name "enumerate" p) [a] [] pos) (iEnum ta):=by
 intro pins s σ H R I h
 refine Call_ (ld_blt I hg hm boot_enum (PyProof.Rows.callWith_type1 (thn (ha pos pins s σ H _ I h) fun us s1 h1=>?_) hs rfl))
 obtain ⟨vs,H1,I1,r1,a,xs,e,ha,q⟩:=h1
 subst e
 obtain ⟨u,rfl,ru⟩:=vals1 r1
 cases ru
 obtain ⟨its,_,t1,_⟩:=I1.tuple (SqT.of ha)
 refine call_enum_tup t1 fun h' z1 z2 kp=>wpAny_pyIter_enum z1 ?_
 have I2:Inv X pins σ H1 { s1 with heap:=h' }:=I1.kept (t':=s1.toks) kp
 have fr:∀ k:Nat,H1 (s1.heap.objs.size + k)=none:=fun k=>I1.hok.fresh (Nat.le_add_right _ _)
 refine ⟨s1.heap.objs.size + 1,_,_,Ite a,H1,rfl,I2,turn_enum a (s1.heap.objs.size + 1) s1.heap.objs.size (Nat.succ_ne_self _),⟨⟨_,z1⟩,z2⟩,fun c hc=>?_,q⟩
 simp only [List.mem_cons,List.not_mem_nil,or_false] at hc
 rcases hc with rfl | rfl
 ·exact I1.fpOk (Nat.le_add_right _ _) (fr 1)
 ·exact I1.fpOk (Nat.le_refl _) (fr 0)
end
section
variable {K:PySem.W.Frag} {g:TG} {tc:TT} {te:TE} {σ:St} {H:Hp} {R:List V→Hp→Prop}
theorem lc_enum {a:Addr} {xs:List V} (Pv:Nat→List V→Hp→Prop) (h0:Pv 0 [] H)
  (hl:∀ i zs H,i≤xs.length→Pv i zs H→H a=some (.tup xs)∧zs.length≤sizeLine) (hd:∀ zs H,Pv xs.length zs H→R zs H)
  (hs:∀ (i:Nat) v zs H p,xs[i]?=some v→i < xs.length→Pv i zs H→H p=none→g (.ref p) σ (upd H p (.tup [.int i,v])) fun σ2 H2=>tc σ2 H2 fun b H3 =>
   if b=true then te σ2 H3 fun y H4=>∃ m',m' < xs.length - i∧Wn xs.length Pv (i + 1) m' (zs++[y]) H4 else ∃ m',m' < xs.length - i∧Wn xs.length Pv (i + 1) m' zs H3) :
  ∃ W:Nat→Nat→List V→Hp→Prop,(∃ m,W 0 m [] H)∧∀ i m ys H,W i m ys H→((Ite a).stop i H∧ys.length≤sizeLine∧R ys H) ∨
   ((Ite a).go i H∧ys.length≤sizeLine∧∀ x H',(Ite a).yld i H x H'→g x σ H' fun σ2 H2=>tc σ2 H2 fun b H3 =>
    if b=true then te σ2 H3 fun y H4=>∃ m',m' < m∧W (i + 1) m' (ys++[y]) H4 else ∃ m',m' < m∧W (i + 1) m' ys H3):=by
 refine lc_by xs.length Pv h0 (fun zs H p=>?_) (fun i zs H hi p=>?_)
 ·obtain ⟨q1,z⟩:=hl _ zs H (Nat.le_refl _) p
  exact ⟨⟨xs,q1,rfl⟩,z,hd zs H p⟩
 ·obtain ⟨q1,z⟩:=hl i zs H (Nat.le_of_lt hi) p
  refine ⟨⟨xs,q1,hi⟩,z,fun x H' y=>?_⟩
  obtain ⟨p',v,e1,e2,e3,y⟩:=y
  subst e1 e3
  exact hs i v zs H p' (y xs q1) hi p e2
end
end L2
namespace L2
open PySem PySem.Calls PySem.Spec PyProof.Rows
section
variable {X:Cx}
theorem op_isnotB:OpR X (compareOp .IsNot) (fun x y H Q=>∃ a b,x=.bl a∧y=.bl b∧Q (.bl (a != b)) H):=by
 intro pins s σ H x y v u Q I rx ry h
 obtain ⟨a,b,rfl,rfl,q⟩:=h
 cases rx
 cases ry
 exact isnot_bool ⟨.bl _,H,I,rfl,q⟩
end
end L2
namespace L2
open PySem PySem.Calls PySem.Spec PyProof.Rows
theorem noFill_tuple_mul:fillsNumberSlot (.type "tuple") "mul"=pure false :=
 PySem.fillsNumberSlot_seq (id:="tuple.__mul__") (r:=some (.builtin "tuple.__rmul__")) PySem.F.slot_tuple_mul.lookup (by decide +kernel) PySem.F.slot_tuple_rmul.lookup (by decide +kernel)
theorem repeat_tuple:seqRepeat? (.type "tuple")=pure (some (.builtin "tuple.__mul__")):=by
 unfold seqRepeat?
 rw [PySem.seqSlot_of (T:="tuple") (name:="__mul__") (id:="tuple.__mul__") PySem.F.slot_tuple_mul.lookup (by decide +kernel),PySem.seqSlot_of (T:="tuple") (name:="__rmul__") (id:="tuple.__rmul__") PySem.F.slot_tuple_rmul.lookup (by decide +kernel)]
 rfl
theorem int_rmul_tuple (a:Int) (t:Tok) (l:Addr) (items:Array Value) (n:Nat) (dd:Option Addr) (sl:Array (Option Value)) :
  Meets (Builtin.«int.__rmul__» ⟨[.int a t,.ref l],[]⟩) (fun _ R s=>s.heap.get? l=some { cls:=.type "tuple",dict:=dd,data:=.seq items n,slots:=sl }∧R (.ok (.ret Value.notImplemented)) s) :=
 .of_wp fun prog w A R s h=>by obtain ⟨hp,g,d,tk,os⟩:=s; obtain ⟨hl,h⟩:=h; wp_walk; exact ⟨_,rfl,h⟩
theorem tuple_mulW0 (l:Addr) (items:Array Value) (n:Nat) (dd:Option Addr) (sl:Array (Option Value)) (x:Int) (u:Tok) (h1:¬ (x < -(2 ^ 63) || x ≥ 2 ^ 63)=true) (hc:(items.isEmpty || x == 1)=true) :
  Meets (Builtin.«tuple.__mul__» ⟨[.ref l,.int x u],[]⟩) (fun _ R s=>s.heap.get? l=some { cls:=.type "tuple",dict:=dd,data:=.seq items n,slots:=sl }∧R (.ok (.ret (Value.ref l))) s) :=
 .of_wp fun prog w A R s h=>by obtain ⟨hp,g,d,tk,os⟩:=s; obtain ⟨hl,h⟩:=h; have f1:=AutoSeq1.idx_int; have f2:=AutoSeq1.sub_tuple_tuple; wp_walk using wpAny_loadPart' hl; refine wpAny_ite_false (decide_eq_false h1) ?_; wp_walk using wpAny_loadPart' hl; exact ⟨_,rfl,h⟩
theorem tuple_mulW1 (l:Addr) (items:Array Value) (n:Nat) (dd:Option Addr) (sl:Array (Option Value)) (x:Int) (u:Tok) (h1:¬ (x < -(2 ^ 63) || x ≥ 2 ^ 63)=true) (hc:¬ (items.isEmpty || x == 1)=true) (h2:¬ (x≤0 || items.isEmpty)=true) (h3:¬ items.size * x > (2 ^ 63 - 1) / 8)
  (h4:¬ Builtin.Tuple.tupleTooMany (items.size * x)=true) (hs:((List.replicate x.toNat items).foldl (·++·) #[]).size≤sizeLine) :
  Meets (Builtin.«tuple.__mul__» ⟨[.ref l,.int x u],[]⟩) (fun _ R s=>s.heap.get? l=some { cls:=.type "tuple",dict:=dd,data:=.seq items n,slots:=sl }∧R (.ok (.ret (Value.ref s.heap.objs.size))) { s with heap:=s.heap.push { cls:=Value.type "tuple",data:=Data.seq ((List.replicate x.toNat items).foldl (·++·) #[]) },toks:=s.toks }) :=
 .of_wp fun prog w A R s h=>by obtain ⟨hp,g,d,tk,os⟩:=s; obtain ⟨hl,h⟩:=h; have f1:=AutoSeq1.idx_int; have f2:=AutoSeq1.sub_tuple_tuple; wp_walk using wpAny_loadPart' hl; refine wpAny_ite_false (decide_eq_false h1) ?_; wp_walk using wpAny_loadPart' hl; refine wpAny_ite_false (decide_eq_false h3) ?_; wp_walk using wpAny_loadPart' hl; exact ⟨_,rfl,h⟩
theorem foldl_cat (xs:List Value):∀ (n:Nat) (acc:Array Value),((List.replicate n xs.toArray).foldl (·++·) acc).toList=acc.toList++(List.replicate n xs).flatten
 | 0,acc=>by simp
 | n + 1,acc=>by
  rw [List.replicate_succ,List.foldl_cons,foldl_cat xs n,List.replicate_succ,List.flatten_cons]
  simp
theorem rep_len {α:Type} (xs:List α):∀ n:Nat,(List.replicate n xs).flatten.length=n * xs.length
 | 0=>by simp
 | n + 1=>by
  rw [List.replicate_succ,List.flatten_cons,List.length_append,rep_len xs n,Nat.succ_mul]
  omega
section
variable {X:Cx}
def rMulT:R2:=fun x y H Q=>∃ a n xs,x=.ref a∧y=.int n∧H a=some (.tup xs)∧1≤n∧n≤1000∧xs.length≤1000∧∀ p H',Same H H'→H' p=some (.tup (List.replicate n.toNat xs).flatten)→Q (.ref p) H'
theorem op_mulT:OpR X (binaryOp .Mult) rMulT:=by
 intro pins s σ H x y v u Q I rx ry h
 obtain ⟨a,n,xs,rfl,rfl,ha,h1,h2,h3,q⟩:=h
 cases rx
 obtain ⟨tk,rfl⟩:=ry
 obtain ⟨its,r1,p1,_⟩:=I.tuple (SqT.of ha)
 have hlen:=r1.length
 obtain ⟨⟨cls,dd,data,sl⟩,ho,hc,k,hd⟩:=id p1
 simp only at hc hd
 subst hc hd
 have g1:¬ (decide (n < -(2 ^ 63)) || decide (n ≥ 2 ^ 63))=true:=by
  intro z
  rw [Bool.or_eq_true,decide_eq_true_iff,decide_eq_true_iff] at z
  omega
 refine wpAny_binaryOp_repeat_ref (T:="tuple") (U:="int") (by decide) ⟨_,ho,rfl⟩ (fun s'=>typeIs_int s' n tk) noFill_tuple_mul PySem.F.fills_int_mul PySem.F.slot_int_rmul repeat_tuple PySem.F.slot_int_index.lookup ?_
 refine call_meets PySem.F.slot_int_rmul (typeIs_int s n tk) PySem.F.entry_int_rmul (PySem.F.args_int_rmul_2 _ _) (int_rmul_tuple n tk a _ k dd sl) ⟨ho,rfl,⟨_,ho,rfl⟩,?_⟩
 by_cases hs:(its.toArray.isEmpty || n == 1)=true
 ·refine call_meets PySem.F.slot_tuple_mul ⟨_,ho,rfl⟩ PySem.F.entry_tuple_mul (PySem.F.args_tuple_mul_2 _ _) (tuple_mulW0 a _ k dd sl n tk g1 hs) ⟨ho,.ref a,H,I,rfl,q a H (Same.refl H) ?_⟩
  have e:(List.replicate n.toNat xs).flatten=xs:=by
   rw [Bool.or_eq_true] at hs
   rcases hs with z | z
   ·have:its=[]:=by simpa using z
    subst this
    have:xs=[]:=List.length_eq_zero_iff.mp hlen
    subst this
    exact List.length_eq_zero_iff.mp (by rw [rep_len]; simp)
   ·have:n=1:=by simpa using z
    subst this
    simp
  rw [e]
  exact ha
 ·have hs':its≠[]∧n≠1:=by
   constructor
   ·intro z
    subst z
    simp at hs
   ·intro z
    subst z
    simp at hs
  have hsz:((List.replicate n.toNat its.toArray).foldl (·++·) #[]).size=n.toNat * its.length:=by
   rw [← Array.length_toList,foldl_cat,List.nil_append,rep_len]
  have hb:n.toNat * its.length≤1000 * 1000:=Nat.mul_le_mul (by omega) (by omega)
  have hb2:((its.toArray.size:Int) * n)≤1000000:=by
   have:(its.toArray.size:Int) * n=((n.toNat * its.length:Nat):Int):=by
    rw [List.size_toArray,Int.mul_comm,Int.natCast_mul]
    congr 1
    omega
   rw [this]
   generalize n.toNat * its.length=z at hb
   omega
  refine call_meets PySem.F.slot_tuple_mul ⟨_,ho,rfl⟩ PySem.F.entry_tuple_mul (PySem.F.args_tuple_mul_2 _ _) (tuple_mulW1 a _ k dd sl n tk g1 hs ?_ ?_ ?_ ?_) ⟨ho,?_⟩
  ·rw [Bool.or_eq_true]
   rintro (z | z)
   ·have:=of_decide_eq_true z
    omega
   ·exact hs'.1 (by simpa using z)
  ·omega
  ·unfold Builtin.Tuple.tupleTooMany
   rw [decide_eq_true_iff]
   have:(1000000:Int)≤(sizeLine:Int):=by decide
   omega
  ·rw [hsz]
   exact Nat.le_trans hb (by decide)
  ·have e:(List.replicate n.toNat its.toArray).foldl (·++·) #[]=((List.replicate n.toNat its).flatten).toArray:=by
    rw [← Array.toArray_toList (xs:=(List.replicate n.toNat its.toArray).foldl (·++·) #[]),foldl_cat,List.nil_append]
   rw [e]
   refine ⟨.ref s.heap.objs.size,_,I.laid (t':=s.toks) (o:=.tup (List.replicate n.toNat xs).flatten) (fun b ob q=>Heap.get?_push_of_some _ q) (Nat.le_refl _) ?_,rfl,q _ _ (Same.upd (I.hok.fresh (Nat.le_refl _))) upd_same⟩
   refine ⟨?_,_,r1.rep n.toNat,IsTup.new _ _⟩
   rw [rep_len,hlen]
   exact Nat.le_trans hb (by decide)
end
end L2
namespace L2
open PySem PySem.Calls PySem.Spec PyProof.Rows
section
variable {prog:Program} {w:World} {A:Around} {E:Value→Shared→Prop} {s:Shared}
end
section
variable {X:Cx}
end
end L2
namespace L2
open PySem PySem.Calls PySem.Spec PyProof.Rows
section
variable {X:Cx}
theorem all_flat_ints (ns:List Int):(ns.map V.int).all flatV=true:=by
 rw [List.all_map]
 exact List.all_eq_true.mpr fun _ _=>rfl
end
end L2
namespace L2
open PySem PySem.Calls PySem.Spec PyProof.Rows PySem.W
abbrev excObj (C t:Addr):Obj:={ cls:=.ref C,data:=.fields #[.ref t,.none,.none,.none,.bool false,.none] }
abbrev argsTup (rest:List Value):Obj:={ cls:=.type "tuple",data:=.seq rest.toArray }
structure XCls (h:Heap) (C:Addr) (bm:List Value):Prop where
 ex:∃ nm q N bs hdct sn sub ab col dd k0 k1 k2 k3 k5,h.get? C=some (excClassObj nm q C N bs bm hdct sn sub ab col dd k0 k1 k2 k3 k5 "ValueError.__new__")
 hasV:bm.contains (.type "ValueError")=true
 hasE:bm.contains (.type "BaseException")=true
 noA:bm.contains (.type "AttributeError")=false
 noN:bm.contains (.type "NameError")=false
section
variable {prog:Program} {w:World} {A:Around} {R:Result→Shared→Prop} {h:Heap} {g:Array GenState} {d:Drawn} {t:Nat} {os:OsState} {C f:Addr} {bm:List Value}
theorem cont_cons {a:Addr} {l:List Value} {T:String} {b:Bool} (h:l.contains (.type T)=b):(Value.ref a::l).contains (.type T)=b:=by
 rw [List.contains_cons,h]
 rfl
theorem exc_new {rest:List Value} (X:XCls h C bm) (hz:rest.length≤sizeLine) (q:R (.ok (.ret (.ref (h.objs.size + 1)))) ⟨(h.push (argsTup rest)).push (excObj C h.objs.size),g,d,t,os⟩) :
  codeAny (model prog w) A (.call (.builtin "ValueError.__new__") ⟨.ref C::rest,[]⟩) R ⟨h,g,d,t,os⟩:=by
 have F:=PySem.F.excBase_ValueError
 obtain ⟨⟨nm,qn,N,bs,hd,sn,sub,ab,col,dd,k0,k1,k2,k3,k5,hC⟩,a1,a2,a3,a4⟩:=X
 have hV:=cont_cons (a:=C) a1
 have hA:=cont_cons (a:=C) a3
 have hN:=cont_cons (a:=C) a4
 have hstar:=F.noStar
 have hends:=F.ends
 have chk:∀ {M:Model} {A:Around} {E:Value→Shared→Prop} {Q:Unit→Shared→Prop},Q () ⟨h,g,d,t,os⟩→wpAny M A (checkBuiltinCall "ValueError.__new__" ⟨.ref C::rest,[]⟩) Q E ⟨h,g,d,t,os⟩:=by
  intro M A E Q hq
  simp only [checkBuiltinCall,F.newKind,F.newSplit,F.newRow]
  repeat
   first
    | refine wpAny_loadPart_at hC ?_
    | (refine wpAny_isSubtype_exc hC ?_; rw [hV])
    | refine wpAny_staticBase_exc hC ?_
    | refine wpAny_madeBy_exc hC ?_
    | simp only [bne_self_eq_false,Bool.false_eq_true,if_false]
    | wp_step
  exact hq
 refine codeAny_call_builtin_code (Code.quiet_builtin _ F.quiet) (chk ?_)
 refine codeAny_builtinAt F.entry ?_
 unfold Builtin.«BaseException.__new__»
 refine PySem.wpAt_bind ?_
 show PySem.wpAt _ _ _ (stack >>= _) _ _ _
 refine PySem.wpAt_bind (PySem.wpAt_stack fun p below=>PySem.wpAt_of_wpAny ?_)
 wp_walk
 refine PySem.wpAt_of_wpAny ?_
 rw [F.owner]
 repeat
  first
   | with_reducible refine wpAny_madeHere_exc F.canon hC ?_
   | with_reducible refine wpAny_loadPart_at hC ?_
   | (with_reducible refine wpAny_isSubtype_exc hC ?_; first | rw [hV] | rw [hA] | rw [hN])
   | wp_step
 show R _ _
 rw [Heap.size_push]
 exact q
theorem exc_make {rest:List Value} (X:XCls h C bm) (hz:rest.length≤sizeLine) (hi:Looks (model prog w) h (typeLookup (.ref C) "__init__") (some (.ref f))) (hb:∀ self,Looks (model prog w) h (bindSpecial (.ref f) self) (.ref f,[self]))
  (q:codeAny (model prog w) (A.under (.builtin "type.__call__" ⟨.ref C::rest,[]⟩)) (.call (.ref f) ⟨.ref (h.objs.size + 1)::rest,[]⟩) (InitBack (h.objs.size + 1) R) ⟨(h.push (argsTup rest)).push (excObj C h.objs.size),g,d,t,os⟩) :
  codeAny (model prog w) A (.call (.ref C) ⟨rest,[]⟩) R ⟨h,g,d,t,os⟩:=by
 have X':=X
 obtain ⟨⟨nm,qn,N,bs,hd,sn,sub,ab,col,dd,k0,k1,k2,k3,k5,hC⟩,a1,a2,a3,a4⟩:=X
 have f1:=tc_lookup
 have f2:=tc_bind (.ref C)
 have hT:(⟨h,g,d,t,os⟩:Shared).TypeIs (.ref C) "type":=⟨_,hC,rfl⟩
 refine codeAny_of_tree ?_
 show wpAny _ _ (callAny (.ref C) _) _ _ _
 repeat (any_goals (first | assumption | with_reducible refine wpAny_loadPart_at hC ?_ | wp_step))
 refine ⟨rfl,?_⟩
 refine codeAny_call_builtin_at (Code.quiet_builtin _ (by decide +kernel)) entry_typeCall (wpAny_check_type_call_sub hC ?_)
 repeat
  first
   | with_reducible refine wpAny_loadPart_at hC ?_
   | with_reducible refine wpAny_madeBy_exc hC ?_
   | wp_step
 refine exc_new (rest:=rest) X' hz ?_
 have k:∀ b o,h.get? b=some o→((h.push (argsTup rest)).push (excObj C h.objs.size)).get? b=some o:=fun b o e=>Heap.get?_push_of_some _ (Heap.get?_push_of_some _ e)
 have hx:((h.push (argsTup rest)).push (excObj C h.objs.size)).get? (h.objs.size + 1)=some (excObj C h.objs.size):=by heap_get
 have t1:Looks (model prog w) ((h.push (argsTup rest)).push (excObj C h.objs.size)) (typeOf (.ref (h.objs.size + 1))) (.ref C):=(Looks.ld hx).andThen .now
 have s1:Looks (model prog w) ((h.push (argsTup rest)).push (excObj C h.objs.size)) (isSubtype (.ref C) (.ref C)) true:=fun A Q E s kk hq=>by
  obtain ⟨hh,g,d,t,os⟩:=s
  refine wpAny_isSubtype_exc (kk _ _ (k _ _ hC)) ?_
  rw [show (Value.ref C::bm).contains (Value.ref C)=true by simp]
  exact hq
 have i1:=hi.keeps k
 have b1:=(hb (.ref (h.objs.size + 1))).keeps k
 show wpAny _ _ _ _ _ _
 unfold isInstance callSpecial? specialOf
 repeat (first | with_reducible refine wpAny_call ?_ | lk)
 refine codeAny_mono q fun r s' z=>?_
 rcases r with e | (v | _ | _ | _) <;> first | exact z | exact z.elim | skip
 obtain ⟨rfl,z⟩:=z
 exact wpAny_pure (wpAny_pure z)
theorem exc_init (X:XCls h C bm) {e t0:Addr} {rest:List Value} {Q:Value→Shared→Prop} {E:Value→Shared→Prop} (he:h.get? e=some (excObj C t0)) (hz:rest.length≤sizeLine)
  (q:∀ h',h'.get? e=some (excObj C h.objs.size)→(∀ b o,b≠e→h.get? b=some o→h'.get? b=some o)→Q .none ⟨h',g,d,t,os⟩) :
  wpAny (model prog w) A (call (.builtin "ValueError.__init__") (.ref e::rest)) Q E ⟨h,g,d,t,os⟩:=by
 have F:=PySem.F.excBase_ValueError
 obtain ⟨⟨nm,qn,N,bs,hd,sn,sub,ab,col,dd,k0,k1,k2,k3,k5,hC⟩,a1,a2,a3,a4⟩:=X
 have hV:=cont_cons (a:=C) a1
 have hshort:=F.noStar
 have chk:∀ {M:Model} {A:Around} {E:Value→Shared→Prop} {Q:Unit→Shared→Prop},Q () ⟨h,g,d,t,os⟩→wpAny M A (checkBuiltinCall "ValueError.__init__" ⟨.ref e::rest,[]⟩) Q E ⟨h,g,d,t,os⟩:=by
  intro M A E Q hq
  simp only [checkBuiltinCall,F.initKind,F.initSplit,F.initRow]
  repeat
   first
    | with_reducible refine wpAny_loadPart_at he ?_
    | with_reducible refine wpAny_loadPart_at hC ?_
    | (with_reducible refine wpAny_isSubtype_exc hC ?_; rw [hV])
    | wp_step
  refine wpAny_onRaise ?_
  rw [show ∀ (a b:String) (n:Nat),Bind.check ⟨.positional,"*","ValueError",.self,[⟨"args",.varPos,false⟩]⟩ a b n (List.map (fun x=>x.fst) ({ pos:=Value.ref e::rest }:Args).kw)=pure () from
   fun a b n=>check_star_args _ _ _ _ _ _]
  exact wpAny_pure hq
 refine wpAny_call (codeAny_call_builtin F.init.plain F.initEntry (chk ?_))
 wp_walk
 show Q .none _
 have hp:(h.push { cls:=Value.type "tuple",data:=Data.seq rest.toArray }).get? e=some (excObj C t0):=Heap.get?_push_of_some _ he
 refine q _ ?_ fun b o hb ho=>?_
 ·rw [Heap.get?_update_self _ hp rfl]
  rfl
 ·rw [Heap.get?_update_other _ _ (Ne.symm hb)]
  exact Heap.get?_push_of_some _ ho
end
end L2
namespace L2
open PySem PySem.Calls PySem.Spec PyProof.Rows PySem.W
structure XIn (K:Frag) (C:Addr) (bm:List Value):Prop where
 ex:∃ nm q N bs hdct sn sub ab col dd k0 k1 k2 k3 k5,K.lookup C=some (excClassObj nm q C N bs bm hdct sn sub ab col dd k0 k1 k2 k3 k5 "ValueError.__new__")
 hasV:bm.contains (.type "ValueError")=true
 hasE:bm.contains (.type "BaseException")=true
 noA:bm.contains (.type "AttributeError")=false
 noN:bm.contains (.type "NameError")=false
theorem XIn.at {K:Frag} {C:Addr} {bm:List Value} {h:Heap} (x:XIn K C bm) (k:K.In h):XCls h C bm:=by
 obtain ⟨⟨nm,q,N,bs,hd,sn,sub,ab,col,dd,k0,k1,k2,k3,k5,e⟩,a1,a2,a3,a4⟩:=x
 exact ⟨⟨nm,q,N,bs,hd,sn,sub,ab,col,dd,k0,k1,k2,k3,k5,k _ _ e⟩,a1,a2,a3,a4⟩
def isX (C x:Addr):HO:=.ext fun h=>∃ t,h.get? x=some (excObj C t)
theorem isX_ok {P:Program} {w:World} {H:Hp} {h:Heap} {C x t:Addr} (e:h.get? x=some (excObj C t)):ObjOk P w H h x (isX C x):=⟨⟨t,e⟩,⟨_,e⟩,fun _ _ ⟨t,e⟩ k=>⟨t,k _ e⟩⟩
section
variable {X:Cx} {pins:List (Addr×Obj)} {σ:St} {H:Hp} {s:Shared}
theorem Inv.isX (I:Inv X pins σ H s) {C x:Addr} (e:H x=some (L2.isX C x)):∃ t,s.heap.get? x=some (excObj C t):=(I.hok x _ e).1
theorem boot_VE:bootBuiltins "ValueError"=some (.type "ValueError"):=by decide +kernel
theorem upd_id {H:Hp} {a:Addr} {o:HO} (e:H a=some o):upd H a o=H:=by
 funext b
 by_cases h:b=a
 ·subst h
  rw [upd_same,e]
 ·rw [upd_ne h]
variable {e:Expr} {es:List Expr} {p apos pos:Pos} {t:TA} {C:Addr} {bm:List Value} {pl:Sem Bool}
theorem pe_vinit (hg:Gl X "ValueError") (hm:X.mg "ValueError"=none) (hC:XIn X.K C bm) (ha:PA X (e::es) t) (hs:starEach (e::es) X.env=(false,eval e X.env)::starEach es X.env:=by rfl) (hpl:(backTo pos (starEach es X.env)).any (·.1)=false:=by rfl)
  (ht:eval (.Call (.Attribute (.Name "ValueError" p) "__init__" apos) (e::es) [] pos) X.env=(do
   let ov ← eval (.Name "ValueError" p) X.env
   standAt apos.atName
   let (f,first) ← holding [ov] (getMethod ov "__init__" pl)
   callWith pos f first (backTo pos (starEach (e::es) X.env)) (backToKw pos (keywordEach [] X.env))):=by rfl) :
  PE X (.Call (.Attribute (.Name "ValueError" p) "__init__" apos) (e::es) [] pos) (fun σ H Q=>t σ H fun vs H1=>∃ (x:Addr) (us:List V),vs=.ref x::us∧us.length≤1000∧H1 x=some (L2.isX C x)∧Q .non H1):=by
 intro pins s σ H Q I h
 refine methodCall_KW (pl:=pl) (ld_blt I hg hm boot_VE ?_) ht
 obtain ⟨m,F⟩:=I.fr
 refine method_type (K:=X.K) (T:="ValueError") (v:=.builtin "ValueError.__init__") F I.ok.mod.kin ?_ ?_ ?_ ?_ ?_
 ·rfl
 ·decide +kernel
 ·rfl
 ·rfl
 refine PyProof.Rows.callWith_builtin1 (thn (ha pos pins _ σ H _ (I.tok _) h) fun us s1 ⟨vs,H1,I1,r,q⟩=>?_) hs hpl
 obtain ⟨x,ws,rfl,hl,hx,q⟩:=q
 cases r with
 | cons r rr =>
  cases r
  obtain ⟨t0,he⟩:=I1.isX hx
  obtain ⟨hp,g,d,tk,os⟩:=s1
  refine exc_init (hC.at I1.kIn) he (Nat.le_of_lt (small1000 (by rw [← rr.length]; exact hl))) fun h' e' k=>?_
  have I2:=I1.write (x:=x) (e:=x) (o:=L2.isX C x) (t':=tk) (by rw [hx]; trivial) (.inl rfl) k ⟨_,e'⟩ (isX_ok e')
  rw [upd_id hx] at I2
  exact ⟨.non,_,I2,rfl,q⟩
variable {CX:CXT} {k:Nat} {f:Addr} {fd:FuncData} {ps:List Str} {sp:Sp} {E:XK} {x:Str}
structure CMeth (K:Frag) (C:Addr) (m:Str) (f:Addr):Prop where
 ga:specialIn K (.ref C) "__getattribute__"=some (some (.builtin "type.__getattribute__"))
 rd:readsIn K C (.type "type")=true
 fc:findCls K (.ref C) (.type "type") m=some (.val (.ref f))
 kp:keepIn K (.ref f)=true
theorem pe_cmeth {m:Str} (hg:Gl X x) (hm:X.mg x=some (.ref C)) (M:CMeth X.K C m f) (F:FnOk X.prog X.w X.K X.mg X.base CX k f fd ps sp) (hr:Room k X.A) (hb:Binds X.K fd ps []) (hx:Passes CX X E) (ha:PA X (e::es) t)
  (hd:(x == ("__debug__":Str))=false:=by decide) (hs:starEach (e::es) X.env=(false,eval e X.env)::starEach es X.env:=by rfl) (hpl:(backTo pos (starEach es X.env)).any (·.1)=false:=by rfl)
  (ht:eval (.Call (.Attribute (.Name x p) m apos) (e::es) [] pos) X.env=(do
   let ov ← eval (.Name x p) X.env
   standAt apos.atName
   let (f,first) ← holding [ov] (getMethod ov m pl)
   callWith pos f first (backTo pos (starEach (e::es) X.env)) (backToKw pos (keywordEach [] X.env))):=by rfl) :
  PE X (.Call (.Attribute (.Name x p) m apos) (e::es) [] pos) (tCall sp [] E t):=by
 intro pins s σ H Q I h
 refine methodCall_KW (pl:=pl) (ld_glob I hg hm ?_ hd) ht
 refine method_cls (K:=X.K) I.kIn M.ga (cls_value (K:=X.K) I.kIn M.rd M.fc rfl ?_)
 refine callWith_K (h₀:=X.base) (K:=X.K) I.ok.mod.kin M.kp (thn (ha pos pins _ σ H _ (I.tok _) h) fun us s1 ⟨vs,H1,I1,r,q⟩=>⟨I1.kIn,?_⟩) hs hpl
 exact run_fn (us:=us) (vs:=vs) F hr hb .nil hx I1 r q
end
end L2
namespace L2
open PySem PySem.Calls PySem.Spec PyProof.Rows PySem.W
section
variable {X:Cx} {pins:List (Addr×Obj)} {σ:St} {H:Hp} {s:Shared} {CX:CXT} {k:Nat} {f C:Addr} {fd:FuncData} {ps:List Str} {sp:Sp} {E:XK} {x:Str} {p pos:Pos} {e:Expr} {es:List Expr} {t:TA} {bm:List Value}
structure XMk (K:Frag) (C f:Addr) (bm:List Value):Prop extends XIn K C bm where
 init:findIn K (.ref C) "__init__"=some (some (.ref f))
 fn:isFn K (.ref f)=true
 kp:keepIn K (.ref C)=true
def tXMake (n:Nat) (C:Addr) (sp:Sp) (E:XK) (t:TA):TE:=fun σ H Q=>t σ H fun vs H1=>vs.length≤1000∧∀ y,H1 y=none→n≤y→sp (.ref y::vs) (upd H1 y (isX C y)) (fun v H2=>v=.non∧Q (.ref y) H2) E
theorem run_xmake {Q:VK} {us:List Value} {vs:List V} (M:XMk X.K C f bm) (F:FnOk X.prog X.w X.K X.mg X.base CX k f fd ps sp) (hr:Room (k + 1) X.A) (hb:Binds X.K fd ps []) (hx:Passes CX X E) (I:Inv X pins σ H s) (r:Vals vs us) (hl:vs.length≤1000)
  (h:∀ y,H y=none→X.s₀.heap.objs.size≤y→sp (.ref y::vs) (upd H y (isX C y)) (fun v H2=>v=.non∧Q (.ref y) H2) E):wpAny (model X.prog X.w) X.A (call (.ref C) us) (EP X pins σ Q) X.xe s:=by
 have hq:=h (s.heap.objs.size + 1) (I.hok.fresh (Nat.le_succ _)) (Nat.le_succ_of_le I.sz)
 have k2:∀ b o,s.heap.get? b=some o→((s.heap.push (argsTup us)).push (excObj C s.heap.objs.size)).get? b=some o:=fun b o e=>Heap.get?_push_of_some _ (Heap.get?_push_of_some _ e)
 have hx2:((s.heap.push (argsTup us)).push (excObj C s.heap.objs.size)).get? (s.heap.objs.size + 1)=some (excObj C s.heap.objs.size):=by heap_get
 have I2:Inv X pins σ (upd H (s.heap.objs.size + 1) (isX C (s.heap.objs.size + 1))) { s with heap:=(s.heap.push (argsTup us)).push (excObj C s.heap.objs.size) }:=I.laid (t':=s.toks) k2 (Nat.le_succ _) (isX_ok hx2)
 have r2:Vals (V.ref (s.heap.objs.size + 1)::vs) (Value.ref (s.heap.objs.size + 1)::us):=.cons rfl r
 have hl2:(Value.ref (s.heap.objs.size + 1)::us).length=ps.length:=by
  have e:=r2.length
  rw [F.len _ _ _ _ hq] at e
  exact e.symm
 have hl3:((Value.ref (s.heap.objs.size + 1)::us)++([]:List Value)).length=ps.length:=by
  rw [List.append_nil]
  exact hl2
 have hb2:=hb _ (Value.ref (s.heap.objs.size + 1)::us) I2.kIn hl3
 rw [List.append_nil] at hb2
 have run:=F.run _ X.stack _ _ ⟨Value.ref (s.heap.objs.size + 1)::us,[]⟩ (Value.ref (s.heap.objs.size + 1)::us) _ _ E (hr.make C us []) (I2.env0.make C us []) hb2 r2 hq
 obtain ⟨hp,g,d,tk,os⟩:=s
 refine wpAny_call (exc_make (M.toXIn.at I.kIn) (Nat.le_of_lt (small1000 (by rw [← r.length]; exact hl))) (looks_findIn I.kIn M.init) (fun self=>bind_fn I.kIn self (beq_iff_eq.mp M.fn)) (codeAny_mono run fun r s' hq'=>?_))
 cases r with
 | error e=>exact hx pins σ _ _ e s' I2 hq'
 | ok fl =>
  cases fl with
  | ret u =>
   obtain ⟨v,H',I3,rv,ev,q3⟩:=I2.after hq'
   subst ev
   exact ⟨rv,⟨V.ref (hp.objs.size + 1),H',I3,rfl,q3⟩⟩
  | next=>exact False.elim hq'
  | brk=>exact False.elim hq'
  | cont=>exact False.elim hq'
theorem pe_xmake0 (M:XMk X.K C f bm) (F:FnOk X.prog X.w X.K X.mg X.base CX k f fd ps sp) (hr:Room (k + 1) X.A) (hg:Gl X x) (hm:X.mg x=some (.ref C)) (hb:Binds X.K fd ps []) (hx:Passes CX X E)
  (hdb:(x == ("__debug__":Str))=false:=by decide):PE X (.Call (.Name x p) [] [] pos) (tXMake X.s₀.heap.objs.size C sp E tNil):=by
 intro pins s σ H Q I h
 refine wpAny_Call_Name_kw (ld_glob I hg hm ?_ hdb)
 exact callWith_K0 I.kIn M.kp (run_xmake (us:=[]) (vs:=[]) M F hr hb hx I .nil (Nat.zero_le _) h.2)
end
end L2
namespace L2
open PySem PySem.Calls PySem.Spec PyProof.Rows PySem.W
def fld2 (o:Obj):Option Value:=match o.data with | .fields vs=>vs[2]? | _=>none
def KD {α:Type}:Sem α→Prop
 | .pure _=>True
 | .raise _=>True
 | .unsupported _=>True
 | .finish _=>True
 | .rule _ k=>KD (k ())
 | .at _ k=>KD (k ())
 | .load _ _ k=>∀ o,KD (k o)
 | .update _ _ f k=>(∀ o:Obj,(f o).cls=o.cls∧(f o).dict=o.dict∧(f o).isFreed=o.isFreed∧fld2 (f o)=fld2 o)∧KD (k ())
 | .loadIfAlive _ k=>∀ o,KD (k o)
 | .point _ k=>KD (k ())
 | .alloc _ k=>∀ a,KD (k a)
 | .fresh k=>∀ t,KD (k t)
 | .ask k=>∀ t,KD (k t)
 | .stack k=>∀ l,KD (k l)
 | .handled _ k=>∀ v,KD (k v)
 | .register _ _=>False
 | .choose _ _ _=>False
 | .os _ _ _=>False
 | .call _ _ _ _ _=>False
 | .newGen _ _=>False
 | .genState _ _=>False
 | .resume _ _ _ _=>False
 | .yield _ _ _ _=>False
 | .fork _ _=>False
 | .thread _=>False
 | .await _ _ _ _ _=>False
def KeepD (h h':Heap):Prop:=∀ b o,h.get? b=some o→∃ o',h'.get? b=some o'∧o'.cls=o.cls∧o'.dict=o.dict∧fld2 o'=fld2 o
theorem KeepD.refl (h:Heap):KeepD h h:=fun _ o e=>⟨o,e,rfl,rfl,rfl⟩
theorem KeepD.trans {h1 h2 h3:Heap} (x:KeepD h1 h2) (y:KeepD h2 h3):KeepD h1 h3:=fun b o e=>by
 obtain ⟨o1,e1,a1,a2,a3⟩:=x b o e
 obtain ⟨o2,e2,b1,b2,b3⟩:=y b o1 e1
 exact ⟨o2,e2,b1.trans a1,b2.trans a2,b3.trans a3⟩
theorem KeepD.push {h:Heap} (o:Obj):KeepD h (h.push o):=fun _ u e=>⟨u,Heap.get?_push_of_some o e,rfl,rfl,rfl⟩
theorem KeepD.upd {h:Heap} {a:Addr} {f:Obj→Obj} (hf:∀ o:Obj,(f o).cls=o.cls∧(f o).dict=o.dict∧(f o).isFreed=o.isFreed∧fld2 (f o)=fld2 o):KeepD h (h.update a f):=fun b o e=>by
 by_cases hb:b=a
 ·subst hb
  exact ⟨f o,Heap.get?_update_self f e ((hf o).2.2.1.trans (Heap.get?_some_iff.mp e).2),(hf o).1,(hf o).2.1,(hf o).2.2.2⟩
 ·exact ⟨o,(Heap.get?_update_other _ _ (Ne.symm hb)).trans e,rfl,rfl,rfl⟩
theorem kd_wp {α:Type} {M:Model} {Γ:PySem.Ctx} {h0:Heap} {Q:α→Pos→Shared→Prop} {E:Value→Pos→Shared→Prop} (t:Sem α):KD t→∀ p s,KeepD h0 s.heap→Sem.wp M Γ t Q E p s→Sem.wp M Γ t (fun a p' s'=>Q a p' s'∧KeepD h0 s'.heap) E p s:=by
 induction t with
 | pure a =>
  intro _ p s k h
  rw [Sem.wp] at h ⊢
  exact ⟨h,k⟩
 | raise e =>
  intro _ p s k h
  rw [Sem.wp] at h ⊢
  exact h
 | unsupported w =>
  intro _ p s k h
  rw [Sem.wp] at h
  exact h.elim
 | finish w =>
  intro _ p s k h
  rw [Sem.wp] at h
  exact h.elim
 | rule tg k ih =>
  intro kd p s kk h
  rw [Sem.wp] at h ⊢
  exact ih () kd p s kk h
 | «at» p' k ih =>
  intro kd p s kk h
  rw [Sem.wp] at h ⊢
  exact ih () kd p' s kk h
 | load a part k ih =>
  intro kd p s kk h
  rw [Sem.wp] at h ⊢
  obtain ⟨o,e,h⟩:=h
  exact ⟨o,e,ih o (kd o) p s kk h⟩
 | update a part f k ih =>
  intro kd p s kk h
  rw [Sem.wp] at h ⊢
  exact ⟨h.1,ih () kd.2 p _ (kk.trans (KeepD.upd kd.1)) h.2⟩
 | alloc o k ih =>
  intro kd p s kk h
  rw [Sem.wp] at h ⊢
  exact ih _ (kd _) p _ (kk.trans (KeepD.push o)) h
 | loadIfAlive a k ih =>
  intro kd p s kk h
  rw [Sem.wp] at h ⊢
  exact ih _ (kd _) p s kk h
 | point l k ih =>
  intro kd p s kk h
  rw [Sem.wp] at h ⊢
  exact ih () kd p s kk h
 | fresh k ih =>
  intro kd p s kk h
  rw [Sem.wp] at h ⊢
  exact ih _ (kd _) p _ kk h
 | ask k ih =>
  intro kd p s kk h
  rw [Sem.wp] at h ⊢
  exact ih _ (kd _) p s kk h
 | stack k ih =>
  intro kd p s kk h
  rw [Sem.wp] at h ⊢
  exact ih _ (kd _) p s kk h
 | handled own k ih =>
  intro kd p s kk h
  rw [Sem.wp] at h ⊢
  exact ih _ (kd _) p s kk h
 | _=>intro kd; exact kd.elim
theorem wpAny_kd {α:Type} {M:Model} {A:Around} {t:Sem α} {Q:α→Shared→Prop} {E:Value→Shared→Prop} {s:Shared} (kd:KD t) (h:wpAny M A t Q E s):wpAny M A t (fun a s'=>Q a s'∧KeepD s.heap s'.heap) E s :=
 fun Γ p hΓ=>kd_wp t kd p s (KeepD.refl _) (h Γ p hΓ)
theorem kd_bind {α β:Type} (m:Sem α) {f:α→Sem β} (hf:∀ a,KD (f a)):KD m→KD (m >>= f):=by
 show KD m→KD (Sem.bind m f)
 induction m with
 | pure a=>intro _; exact hf a
 | raise e=>intro _; trivial
 | unsupported w=>intro _; trivial
 | finish w=>intro _; trivial
 | rule tg k ih=>intro kd; exact ih () kd
 | «at» p' k ih=>intro kd; exact ih () kd
 | load a part k ih=>intro kd o; exact ih o (kd o)
 | update a part f k ih=>intro kd; exact ⟨kd.1,ih () kd.2⟩
 | alloc o k ih=>intro kd a; exact ih a (kd a)
 | loadIfAlive a k ih=>intro kd o; exact ih o (kd o)
 | point l k ih=>intro kd; exact ih () kd
 | fresh k ih=>intro kd o; exact ih o (kd o)
 | ask k ih=>intro kd o; exact ih o (kd o)
 | stack k ih=>intro kd o; exact ih o (kd o)
 | handled own k ih=>intro kd o; exact ih o (kd o)
 | _=>intro kd; exact kd.elim
theorem kd_un {α:Type} (x:String):KD (unsupported x:Sem α):=trivial
theorem kd_load (a:Addr):KD (load a):=fun _=>trivial
theorem kd_map (f:Array Value→Array Value) (hf:∀ vs,(f vs)[2]?=vs[2]?) (o:Obj):(Obj.mapFields f o).cls=o.cls∧(Obj.mapFields f o).dict=o.dict∧(Obj.mapFields f o).isFreed=o.isFreed∧fld2 (Obj.mapFields f o)=fld2 o:=by
 obtain ⟨c,d,dt,sl⟩:=o
 cases dt <;> first | exact ⟨rfl,rfl,rfl,rfl⟩ | exact ⟨rfl,rfl,rfl,hf _⟩
theorem kd_updateField (a:Addr) (i:Nat) (v:Value) (hi:i≠2):KD (updateField a i v):=by
 unfold updateField
 refine kd_bind _ (fun o=>?_) (kd_load a)
 split
 ·split
  ·exact ⟨kd_map _ fun vs=>by simp [hi],trivial⟩
  ·exact kd_un _
 ·exact kd_un _
theorem kd_setField (v:Value) (i:Nat) (x:Value) (hi:i≠2:=by decide):KD (setField v i x):=by
 unfold setField
 split
 ·exact kd_updateField _ _ _ hi
 ·exact kd_un _
theorem kd_fieldsOf (v:Value):KD (fieldsOf v):=by
 unfold fieldsOf
 split
 ·refine kd_bind _ (fun o=>?_) (kd_load _)
  split
  ·trivial
  ·exact kd_un _
 ·exact kd_un _
theorem kd_field (v:Value) (i:Nat):KD (field v i):=by
 unfold field
 refine kd_bind _ (fun o=>?_) (kd_fieldsOf v)
 split
 ·trivial
 ·exact kd_un _
theorem kd_setFlight (e:Value) (f:Option Addr):KD (setFlight e f):=by
 unfold setFlight
 refine kd_bind _ (fun o=>?_) (kd_field e 1)
 split
 ·exact kd_setField _ _ _
 ·trivial
theorem kd_stack:KD stack:=fun _=>trivial
theorem kd_place (f:Addr) (b:Bool):KD (entryPlaceOf f b):=by
 unfold entryPlaceOf
 refine kd_bind _ (fun o=>?_) kd_stack
 split <;> trivial
theorem kd_frameEnvs:KD frameEnvs:=kd_bind _ (fun _=>trivial) kd_stack
theorem kd_under:KD underTheClaimsCaller:=kd_bind _ (fun _=>trivial) kd_stack
theorem kd_import (env:Env) (outer:List Env):KD (behindIsImport env outer):=by
 unfold behindIsImport
 split
 ·trivial
 ·split
  ·trivial
  ·exact kd_bind _ (fun _=>trivial) (kd_field _ _)
theorem kd_kept (env:Env) (b:Bool) (outer:List Env):KD (keptBack env b outer):=by
 unfold keptBack
 split
 ·split
  ·trivial
  ·exact kd_bind _ (fun _=>by split <;> trivial) kd_under
 ·trivial
theorem kd_ready:∀ l,KD (readyFrames l)
 | []=>trivial
 | env::outer=>by
  unfold readyFrames
  split
  ·refine kd_bind _ (fun o=>?_) (kd_load _)
   split
   ·trivial
   ·refine kd_bind _ (fun b=>?_) (kd_import _ _)
    refine kd_bind _ (fun v=>?_) (kd_kept _ _ _)
    exact ⟨fun o=>⟨rfl,rfl,by obtain ⟨c,d,dt,sl⟩:=o; cases dt <;> rfl,rfl⟩,kd_ready outer⟩
  ·exact kd_un _
theorem kd_frameOf (env:Env):KD (PySem.frameOf env):=by
 unfold PySem.frameOf
 refine kd_bind _ (fun l=>?_) kd_frameEnvs
 refine kd_bind _ (fun r=>?_) ?_
 ·split
  ·trivial
  ·exact kd_un _
 ·unfold frameObject
  split
  ·trivial
  ·exact kd_bind _ (fun _=>trivial) (kd_ready _)
theorem kd_asIs (T:String) (d:Data):KD (newObjAsIs (.type T) d):=fun _=>trivial
theorem kd_newEntry (a b c d e:Value) (l:List Value):KD (EntryCells.newEntry a b c d e l):=by
 unfold EntryCells.newEntry newFields newObj
 dsimp only
 repeat' split
 all_goals first | exact kd_asIs _ _ | exact kd_bind _ (fun _=>kd_asIs _ _) (kd_un _)
theorem kd_note (e:Value) (env:Env):KD (noteFrame e env):=by
 unfold noteFrame
 split
 ·refine kd_bind _ (fun hd=>?_) (kd_field e 1)
  split
  ·refine kd_bind _ (fun x=>?_) (kd_field _ _)
   split
   ·trivial
   ·refine kd_bind _ (fun _=>?_) (kd_setField _ _ _)
    exact kd_bind _ (fun fr=>kd_bind _ (fun pl=>kd_bind _ (fun en=>kd_setField _ _ _) (kd_newEntry _ _ _ _ _ _)) (kd_place _ _)) (kd_frameOf _)
  ·exact kd_bind _ (fun fr=>kd_bind _ (fun pl=>kd_bind _ (fun en=>kd_setField _ _ _) (kd_newEntry _ _ _ _ _ _)) (kd_place _ _)) (kd_frameOf _)
 ·exact kd_un _
theorem kd_leaving (env:Env) (e:Value):KD (leaving env e):=kd_bind _ (fun _=>kd_setFlight _ _) (kd_note _ _)
end L2
namespace L2
open PySem PySem.Calls PySem.Spec PyProof.Rows PySem.W
def isXo (C x:Addr) (dct:Option Addr):HO:=.ext fun h=>∃ t,h.get? x=some { cls:=.ref C,dict:=dct,data:=.fields #[.ref t,.none,.none,.none,.bool false,.none] }
theorem Inv.isXo {X:Cx} {pins:List (Addr×Obj)} {σ:St} {H:Hp} {s:Shared} (I:Inv X pins σ H s) {C x:Addr} {dct:Option Addr} (e:H x=some (L2.isXo C x dct)):∃ t,s.heap.get? x=some { cls:=.ref C,dict:=dct,data:=.fields #[.ref t,.none,.none,.none,.bool false,.none] }:=(I.hok x _ e).1
structure FlyX (P:Program) (w:World) (outer:List Env) (H H':Hp) (s s':Shared) (y:Addr) (cls:Value) (dct:Option Addr):Prop where
 dict:∃ oe,s'.heap.get? y=some oe∧oe.dict=dct∧fld2 oe=some .none
 os:s'.os=s.os
 bare:AllBare s'.gens
 new:s.heap.objs.size≤y
 ex:∃ (B:Heap) (a0:Value),Heap.FlyingW B outer y cls a0 s'.heap∧HOk P w H' B∧(∀ b o,s.heap.get? b=some o→H b=none→b ∉ frs outer→B.get? b=some o)∧∀ b o,s.heap.get? b=some o→b ∉ frs outer→b≠y→∃ o',B.get? b=some o'
 slot:∀ b o,s.heap.get? b=some o→H b=none→b∈frs outer→∃ sl,s'.heap.get? b=some { o with slots:=sl }
 free:∀ b o,s.heap.get? b=some o→H b=none→H' b=none
 tups:∀ b xs,H b=some (.tup xs)→H' b=some (.tup xs)
 frzs:∀ b o u,H b=some (.frz o u)→H' b=some (.frz o u)
 tbls:∀ b ps,H b=some (.tbl ps)→∃ more,H' b=some (.tbl (ps++more))
section
variable {P:Program} {w:World} {outer:List Env} {H H':Hp} {s s':Shared} {y:Addr} {cls:Value} {dct:Option Addr}
theorem FlyX.there (x:FlyX P w outer H H' s s' y cls dct) (b:Addr) (o:Obj) (e:s.heap.get? b=some o):∃ o',s'.heap.get? b=some o':=by
 obtain ⟨B,a0,⟨f1,f2,f3,f4⟩,hok,kb,cov⟩:=x.ex
 by_cases hf:b∈frs outer
 ·obtain ⟨_,o',e2,_⟩:=f3.mem hf
  exact ⟨o',e2⟩
 ·by_cases hy:b=y
  ·subst hy
   obtain ⟨oe,_,_,_,_,eo,_⟩:=f4
   exact ⟨oe,eo⟩
  ·obtain ⟨o',e2⟩:=cov b o e hf hy
   exact ⟨o',f1 b o' e2⟩
theorem FlyX.un (x:FlyX P w outer H H' s s' y cls dct):Un (frs outer) [] H H' s.heap s'.heap:=by
 obtain ⟨B,a0,fl,hok,kb,_⟩:=x.ex
 exact ⟨fun b o e n hb _=>fl.1 b o (kb b o e n hb),fun b o e n hb _=>x.slot b o e n hb,fun b o e n _=>x.free b o e n,fun b o e _=>x.there b o e,x.tups,x.frzs,x.tbls⟩
theorem FlyX.hok (x:FlyX P w outer H H' s s' y cls dct):HOk P w H' s'.heap:=by
 obtain ⟨B,a0,fl,hok,kb,_⟩:=x.ex
 exact hok.kept fl.1
theorem FlyX.gone (x:FlyX P w outer H H' s s' y cls dct):H' y=none:=by
 obtain ⟨B,a0,fl,hok,kb,_⟩:=x.ex
 cases e:H' y with
 | none=>rfl
 | some o =>
  obtain ⟨ob,eo⟩:=(hok y o e).there
  rw [fl.2.1] at eo
  cases eo
end
def CXr (P:Program) (w:World):CXT:=fun outer H s E e s'=>∃ (y:Addr) (cls:Value) (dct:Option Addr) (H':Hp),e=.ref y∧FlyX P w outer H H' s s' y cls dct∧E cls dct H'
def hole (H:Hp) (y:Addr):Hp:=fun b=>if b=y then none else H b
theorem hole_ne {H:Hp} {y b:Addr} (h:b≠y):hole H y b=H b:=by unfold hole; rw [if_neg h]
theorem hole_at {H:Hp} {y:Addr}:hole H y y=none:=by unfold hole; rw [if_pos rfl]
section
variable {P:Program} {w:World} {K:Frag} {mg:Str→Option Value} {base:Heap} {N:List Str} {qual:Str} {scope:Scope} {f:Addr} {cd:Value} {A:Around} {outer:List Env} {s:Shared} {H:Hp} {E:XK}
variable {pins:List (Addr×Obj)} {σ:St} {H1:Hp} {s1:Shared} {y C:Addr} {dct:Option Addr}
theorem raise_out (I:Inv (cxOf (CXr P w) P w K mg base N qual scope f cd A outer s H E) pins σ H1 s1) (hy:H1 y=some (isXo C y dct)) (hn:s.heap.objs.size≤y) (hE:E (.ref C) dct (hole H1 y)) :
  (cxOf (CXr P w) P w K mg base N qual scope f cd A outer s H E).xe (.ref y) s1:=by
 obtain ⟨t,he⟩:=I.isXo hy
 have stk:=I.stkFree
 have hB:∀ b,H1 b≠none→b≠y→b ∉ y::frs (envOfC qual scope s.heap.objs.size f cd::outer):=fun b hb hn hm=>by
  rcases List.mem_cons.mp hm with z | z
  ·exact hn z
  ·exact hb (stk b z)
 refine wpAny_mono (wpAny_kd (kd_leaving _ _) (wpAny_leaving_firstW (Q:=fun _ s'=>∃ h',s'={ s1 with heap:=h' }∧Heap.LeftW (hideAll s1.heap (y::frs (envOfC qual scope s.heap.objs.size f cd::outer))) (envOfC qual scope s.heap.objs.size f cd::outer) y (.ref C) (.ref t) s1.heap h') (base:=hideAll s1.heap (y::frs (envOfC qual scope s.heap.objs.size f cd::outer))) (L:=s.heap.objs.size) (a0:=.ref t) I.ok.frames (funFrames_hide I.stack fun env he a ha=>List.mem_cons_of_mem _ (List.mem_filterMap.mpr ⟨env,he,ha⟩)) rfl he (fun b o e=>of_hideAll _ e) (hideAll_none _ (.head _)) rfl rfl rfl fun h' hL=>⟨h',rfl,hL⟩)) (fun _ s' z=>?_) fun _ _ z=>z
 obtain ⟨⟨h',rfl,hL⟩,kd⟩:=z
 have hdct:∃ oe,h'.get? y=some oe∧oe.dict=dct∧fld2 oe=some .none:=by
  obtain ⟨oe,e1,_,e2,e3⟩:=kd _ _ he
  exact ⟨oe,e1,e2,e3⟩
 obtain ⟨k1,⟨_,_,k2⟩,k3,k4⟩:=hL
 have nfs:∀ b o,s.heap.get? b=some o→b≠s.heap.objs.size:=fun b o e=>Nat.ne_of_lt (Heap.lt_size e)
 refine ⟨y,.ref C,dct,hole H1 y,rfl,⟨hdct,I.os,I.bare,hn,⟨_,_,⟨k1,hideAll_none _ (.head _),k2,k3⟩,fun a o e=>?_,fun b o e n hb=>?_,fun b o e hb hn=>?_⟩,fun b o e n hb=>?_,fun b o e n=>?_,fun b xs e=>?_,fun b o u e=>?_,fun b ps e=>?_⟩,hE⟩
 ·have ha:a≠y:=fun z=>by
   rw [z,hole_at] at e
   cases e
  rw [hole_ne ha] at e
  refine (I.hok a o e).stay (fun b u hb eu=>hideAll_get _ eu (hB b ?_ ?_)) (fun b hb=>?_) fun b xs hb=>?_
  ·rcases hb with rfl | hb
   ·rw [e]
    exact fun z=>nomatch z
   ·rw [hb]
    exact fun z=>nomatch z
  ·rcases hb with rfl | hb
   ·exact ha
   ·exact fun z=>by
     rw [z,hy] at hb
     cases hb
  ·rw [hole_ne fun z=>by rw [z,hy] at hb; cases hb]
   exact hb
  ·rw [hole_ne fun z=>by rw [z,hy] at hb; cases hb]
   exact hb
 ·have e1:=I.base.keep b o e n hb (List.not_mem_nil)
  have n1:H1 b=none:=I.base.free b o e n (List.not_mem_nil)
  refine hideAll_get _ e1 fun hm=>?_
  rcases List.mem_cons.mp hm with z | z
  ·rw [z,hy] at n1
   cases n1
  ·rcases List.mem_cons.mp (show b∈s.heap.objs.size::frs outer from z) with z | z
   ·exact nfs b o e z
   ·exact hb z
 ·obtain ⟨o1,e1⟩:=I.base.there b o e (List.not_mem_nil)
  refine ⟨o1,hideAll_get _ e1 fun hm=>?_⟩
  rcases List.mem_cons.mp hm with z | z
  ·exact hn z
  ·rcases List.mem_cons.mp (show b∈s.heap.objs.size::frs outer from z) with z | z
   ·exact nfs b o e z
   ·exact hb z
 ·obtain ⟨sl,e1⟩:=I.base.slot b o e n hb (List.not_mem_nil)
  obtain ⟨_,o',e2,nf⟩:=I.stack.mem (show b∈frs (envOfC qual scope s.heap.objs.size f cd::outer) from List.mem_cons_of_mem _ hb)
  rw [e1] at e2
  cases e2
  obtain ⟨sl',e3⟩:=k4 b _ e1 nf
  exact ⟨sl',e3⟩
 ·by_cases z:b=y
  ·rw [z,hole_at]
  ·rw [hole_ne z]
   exact I.base.free b o e n (List.not_mem_nil)
 ·have e1:=I.base.tups b xs e
  rw [hole_ne fun z=>by rw [z,hy] at e1; cases e1]
  exact e1
 ·have e1:=I.base.frzs b o u e
  rw [hole_ne fun z=>by rw [z,hy] at e1; cases e1]
  exact e1
 ·obtain ⟨more,e1⟩:=I.base.tbls b ps e
  refine ⟨more,?_⟩
  rw [hole_ne fun z=>by rw [z,hy] at e1; cases e1]
  exact e1
theorem passR:Passes (CXr P w) (cxOf (CXr P w) P w K mg base N qual scope f cd A outer s H E) E:=by
 rintro pins σ H1 s1 e s' I ⟨y,cls,dct,H',rfl,fl,hE⟩
 obtain ⟨B,a0,hf,hok,kb,cov⟩:=fl.ex
 refine wpAny_mono (wpAny_kd (kd_leaving _ _) (wpAny_leaves_onW (Q:=fun _ s2=>∃ h',s2={ s' with heap:=h' }∧Heap.FlyingW B outer y cls a0 h'∧s'.heap.UpToSlots h') (L:=s.heap.objs.size) I.ok.frames rfl hf fun h' hf' up=>⟨h',rfl,hf',up⟩)) (fun _ s2 z=>?_) fun _ _ z=>z
 obtain ⟨⟨h',rfl,hf',up⟩,kd⟩:=z
 have hdct:∃ oe,h'.get? y=some oe∧oe.dict=dct∧fld2 oe=some .none:=by
  obtain ⟨o0,e0,ed,ef⟩:=fl.dict
  obtain ⟨oe,e1,_,e2,e3⟩:=kd _ _ e0
  exact ⟨oe,e1,e2.trans ed,e3.trans ef⟩
 have nfs:∀ b o,s.heap.get? b=some o→b≠s.heap.objs.size:=fun b o e=>Nat.ne_of_lt (Heap.lt_size e)
 have out:∀ b o,s.heap.get? b=some o→b ∉ frs outer→b ∉ frs (cxOf (CXr P w) P w K mg base N qual scope f cd A outer s H E).stack:=fun b o e hb hm=>by
  rcases List.mem_cons.mp (show b∈s.heap.objs.size::frs outer from hm) with z | z
  ·exact nfs b o e z
  ·exact hb z
 refine ⟨y,cls,dct,H',rfl,⟨hdct,fl.os.trans I.os,fl.bare,Nat.le_trans I.sz fl.new,⟨B,a0,hf',hok,fun b o e n hb=>?_,fun b o e hb hn=>?_⟩,fun b o e n hb=>?_,fun b o e n=>?_,fun b xs e=>?_,fun b o u e=>?_,fun b ps e=>?_⟩,hE⟩
 ·exact kb b o (I.base.keep b o e n hb (List.not_mem_nil)) (I.base.free b o e n (List.not_mem_nil)) (out b o e hb)
 ·obtain ⟨o1,e1⟩:=I.base.there b o e (List.not_mem_nil)
  exact cov b o1 e1 (out b o e hb) hn
 ·obtain ⟨sl,e1⟩:=I.base.slot b o e n hb (List.not_mem_nil)
  obtain ⟨sl2,e2⟩:=fl.slot b _ e1 (I.base.free b o e n (List.not_mem_nil)) (List.mem_cons_of_mem _ hb)
  obtain ⟨_,o',e3,nf⟩:=hf.2.2.1.mem (show b∈frs (cxOf (CXr P w) P w K mg base N qual scope f cd A outer s H E).stack from List.mem_cons_of_mem _ hb)
  rw [e2] at e3
  cases e3
  obtain ⟨sl3,e4⟩:=up b _ e2 nf
  exact ⟨sl3,e4⟩
 ·exact fl.un.free b _ (I.base.there b o e (List.not_mem_nil)).choose_spec (I.base.free b o e n (List.not_mem_nil)) (List.not_mem_nil)
 ·exact fl.tups b xs (I.base.tups b xs e)
 ·exact fl.frzs b o u (I.base.frzs b o u e)
 ·obtain ⟨more,e1⟩:=I.base.tbls b ps e
  obtain ⟨more2,e2⟩:=fl.tbls b _ e1
  exact ⟨more++more2,by rw [← Array.append_assoc]; exact e2⟩
end
end L2
namespace L2
open PySem PySem.Calls PySem.Spec PyProof.Rows PySem.W
theorem raise_madeD {M:Model} {A:Around} {E:Value→Shared→Prop} {env:Env} {s:Shared} {x:Sem Value} {C:Addr} {bm:List Value} {Q:Flow→Shared→Prop} (hbase:bm.contains (.type "BaseException")=true) (hh:A.handled=none)
  (h:wpAny M A x (fun v s1=>∃ e o,v=.ref e∧(∃ nm q N bs hdct sn sub ab col dd k0 k1 k2 k3 k5,s1.heap.get? C=some (excClassObj nm q C N bs bm hdct sn sub ab col dd k0 k1 k2 k3 k5 "ValueError.__new__"))∧s1.heap.get? e=some o∧(o.cls=.ref C∧∃ t:Addr,o.data=.fields #[.ref t,.none,.none,.none,.bool false,.none])∧E (.ref e) s1) E s) :
  wpAny M A (raiseStmt env (some x) none) Q E s:=by
 have hB:(Value.ref C::bm).contains (.type "BaseException")=true:=cont_cons hbase
 unfold raiseStmt
 refine wpAny_bind (wpAny_mono h (fun v s1 z=>?_) fun _ _ z=>z)
 obtain ⟨e,o,rfl,⟨nm,q,N,bs,hd,sn,sub,ab,col,dd,k0,k1,k2,k3,k5,hC⟩,he,⟨hc,t,hvs⟩,hE⟩:=z
 obtain ⟨hp,g,d,tk,os⟩:=s1
 obtain ⟨oc,od,odt,osl⟩:=o
 dsimp only at hc hvs
 subst hc hvs
 repeat (first | with_reducible refine wpAny_loadPart_at he ?_ | with_reducible refine wpAny_loadPart_at hC ?_ | (with_reducible refine wpAny_isSubtype_exc hC ?_; rw [hB]) | wp_step)
 exact wpAny_raiseNew_none hh hE
section
variable {P:Program} {w:World} {K:Frag} {mg:Str→Option Value} {base:Heap} {N:List Str} {qual:Str} {scope:Scope} {f:Addr} {cd:Value} {A:Around} {outer:List Env} {s:Shared} {H:Hp} {E:XK}
variable {C:Addr} {bm:List Value} {e:Expr} {te:TE} {pos:Pos}
def tRaiseD (n:Nat) (C:Addr) (E:XK) (te:TE):TS:=fun _ σ H=>te σ H fun v H1=>∃ y dct,v=.ref y∧H1 y=some (isXo C y dct)∧n≤y∧E (.ref C) dct (hole H1 y)
theorem ps_raiseD (hC:XIn K C bm) (he:PE (cxOf (CXr P w) P w K mg base N qual scope f cd A outer s H E) e te):PS (cxOf (CXr P w) P w K mg base N qual scope f cd A outer s H E) (.Raise (some e) none pos) (tRaiseD s.heap.objs.size C E te):=by
 intro pins s0 σ H0 D I h
 obtain ⟨⟨nm,q,N',bs,hd,sn,sub,ab,col,dd,k0,k1,k2,k3,k5,hl⟩,a1,a2,a3,a4⟩:=hC
 rw [arm_exec_Raise]
 refine wpAny_bind (wpAny_standAt (raise_madeD (C:=C) a2 (I.ok.hd rfl) ?_))
 refine wpAny_bind (thn (he pins s0 σ H0 _ I h) fun v s1 ⟨x,H1,I1,rx,y,dct,ex,hy,hn,hE⟩=>wpAny_bind (wpAny_standAt (wpAny_pure ?_)))
 subst ex
 obtain rfl:v=Value.ref y:=rx
 obtain ⟨t,et⟩:=I1.isXo hy
 exact ⟨y,_,rfl,⟨nm,q,N',bs,hd,sn,sub,ab,col,dd,k0,k1,k2,k3,k5,I1.kIn _ _ hl⟩,et,⟨rfl,_,rfl⟩,raise_out I1 hy hn hE⟩
end
structure KnX (P:Program) (w:World) (K:Frag) (mg:Str→Option Value) (base:Heap) (k:Nat) (x:Str) (ps:List Str) (sp:Sp):Prop where
 ex:∃ (f:Addr) (fd:FuncData),FnOk P w K mg base (CXr P w) k f fd ps sp∧mg x=some (.ref f)∧keepIn K (.ref f)=true∧Binds K fd ps []
theorem pe_knx {X:Cx} {k:Nat} {x:Str} {ps:List Str} {sp:Sp} {E:XK} {p pos:Pos} {e:Expr} {es:List Expr} {t:TA} (h:KnX X.prog X.w X.K X.mg X.base k x ps sp) (hx:Passes (CXr X.prog X.w) X E) (hr:Room k X.A) (ha:PA X (e::es) t) (hg:Gl X x:=by rfl)
  (hdb:(x == ("__debug__":Str))=false:=by decide) (he:starEach (e::es) X.env=(false,eval e X.env)::starEach es X.env:=by rfl) (hpl:(backTo pos (starEach es X.env)).any (·.1)=false:=by rfl) :
  PE X (.Call (.Name x p) (e::es) [] pos) (tCall sp [] E t):=by
 obtain ⟨f,fd,F,hm,hk,hb⟩:=h.ex
 exact pe_call F hr hg hm hk hb .nil hx ha hdb he hpl
theorem Fun.okX {P:Program} {w:World} {K:Frag} {mg:Str→Option Value} {base:Heap} {x qual:Str} {st:Stmt} {f:Addr} {fd:FuncData} {N ps:List Str} {sp:Sp} {k:Nat} (F:Fun K x qual st f fd) (S:FnScope N ps (defScope st)) (len:∀ vs H Q E,sp vs H Q E→vs.length=ps.length)
  (hbody:∀ (cdv:Value) (A:Around) (outer:List Env) (s:Shared) (H:Hp) (vs:List V) (Q:VK) (E:XK),Room k (A.deeper (envOfC qual (defScope st) s.heap.objs.size f cdv))→sp vs H Q E →
   ∃ t,PSs (cxOf (CXr P w) P w K mg base N qual (defScope st) f cdv A outer s H E) (defBody st) t∧t { nx:=fun _ H'=>Q .non H',rt:=Q } (start N vs) H):FnOk P w K mg base (CXr P w) (k + 1) f fd ps sp:=by
 obtain ⟨oc,od,kV,doc,pm,an,cdv,ct,osl,rfl,lk,hcd⟩:=F.ex
 exact fn_of lk hcd S len fun A outer s H vs Q E hr hsp=>hbody cdv A outer s H vs Q E hr hsp
theorem DefAt.knx {P:Program} {w:World} {K:Frag} {mg:Str→Option Value} {base:Heap} {k:Nat} {x:Str} {st:Stmt} {N ps:List Str} {sp:Sp} (D:DefAt K mg x st ps) (S:FnScope N ps (defScope st)) (len:∀ vs H Q E,sp vs H Q E→vs.length=ps.length)
  (hbody:∀ (f:Addr) (cdv:Value) (A:Around) (outer:List Env) (s:Shared) (H:Hp) (vs:List V) (Q:VK) (E:XK),Room k (A.deeper (envOfC x (defScope st) s.heap.objs.size f cdv))→sp vs H Q E →
   ∃ t,PSs (cxOf (CXr P w) P w K mg base N x (defScope st) f cdv A outer s H E) (defBody st) t∧t { nx:=fun _ H'=>Q .non H',rt:=Q } (start N vs) H):KnX P w K mg base (k + 1) x ps sp:=by
 obtain ⟨f,fd,F,hm,hb⟩:=D.ex
 exact ⟨f,fd,F.okX S len fun cdv A outer s H vs Q E hr h=>hbody f cdv A outer s H vs Q E hr h,hm,F.kp,hb⟩
end L2
namespace L2
open PySem PySem.Calls PySem.Spec PyProof.Rows PySem.W
structure XIs (K:Frag) (C:Addr):Prop where
 ga:findIn K (.ref C) "__getattribute__"=some (some (.builtin "BaseException.__getattribute__"))
 gh:findIn K (.ref C) "__getattr__"=some none
 sb:subIn K (.ref C) (.type "BaseException")=some true
 ca:findIn K (.ref C) "__class__"=some (some (.builtin "object.__class__"))
 sp:specialIn K (.builtin "object.__class__") "__get__"=some (some (.builtin "getset_descriptor.__get__"))
 tk:takesIn K (.builtin "object.__class__")=some true
 ob:mroIn K C (.type "object")=some true
 cl:(clsIn K C).isSome=true
section
variable {prog:Program} {w:World} {A:Around} {E:Value→Shared→Prop} {s:Shared} {K:Frag} {y C:Addr}
theorem exc_ga_check {M:Model} {h:Heap} {g:Array GenState} {d:Drawn} {t:Nat} {os:OsState} {nameV:Value} {Q:Unit→Shared→Prop} (L0:Looks M h (typeOf (.ref y)) (.ref C)) (L1:Looks M h (isSubtype (.ref C) (.type "BaseException")) true)
  (hq:Q () ⟨h,g,d,t,os⟩):wpAny M A (checkBuiltinCall "BaseException.__getattribute__" ⟨[.ref y,nameV],[]⟩) Q E ⟨h,g,d,t,os⟩:=by
 have hk:builtinKind "BaseException.__getattribute__"=some .slot:=by decide +kernel
 have hsplit:splitId "BaseException.__getattribute__"=some ("BaseException","__getattribute__"):=by decide +kernel
 have ha:=PySem.F.args_bexc_ga (.ref y) nameV
 simp only [checkBuiltinCall,hk,hsplit]
 refine wpAny_bind ?_
 unfold isInstance
 repeat (first | lk | wp_step)
 exact hq
theorem looks_find_data {M:Model} {h:Heap} {x C:Addr} {name:Str} {a g:Value} (X:K.In h) (ha:findIn K (.ref C) name=some (some a)) (hg:specialIn K a "__get__"=some (some g)) (hd:takesIn K a=some true) :
  Looks M h (Builtin.ObjectAttr.find (.ref x) (.ref C) name) (.bind g a):=by
 have L1:=looks_findIn (M:=M) X ha
 have L2:Looks M h (Builtin.ObjectAttr.getOf (some a)) (some g):=looks_specialIn X hg
 have L3:=looks_takesIn (M:=M) X hd
 exact L1.andThen (L2.andThen ((show Looks M h (Builtin.ObjectAttr.dataDescriptor? (some a) (some g)) (some (g,a)) from L3.andThen .now).andThen (Looks.tag .now)))
theorem class_getx {R:Result→Shared→Prop} {tp:Value} (X:K.In s.heap) (L0:Looks (model prog w) s.heap (typeOf (.ref y)) (.ref C)) (hm:mroIn K C (.type "object")=some true)
  (h:R (.ok (.ret (.ref C))) s):codeAny (model prog w) A (.call (.builtin "getset_descriptor.__get__") ⟨[.builtin "object.__class__",.ref y,tp],[]⟩) R s:=by
 obtain ⟨hh,g,dr,t,os⟩:=s
 have L1:=looks_mroIn (M:=model prog w) X hm
 refine codeAny_call_builtin KF.slot_gs.plain KF.entry_gs (KF.slot_gs.check _ _ _ _ _ _ _ _ KF.type_class (KF.args_gs _ _ _) ?_)
 unfold Builtin.«getset_descriptor.__get__» Builtin.Getset_descriptor.descrGet
 rw [dga_obj]
 refine wpAny_bind (wpAny_pure ?_)
 unfold Builtin.Getset_descriptor.descrGetter Builtin.Getset_descriptor.descrCheckInstance Builtin.Getset_descriptor.descrNameAndClass isInstance
 simp only [KF.owner_class]
 repeat lk
 refine ⟨Code.quiet_builtin _ (by decide +kernel),codeAny_builtin KF.entry_class ?_⟩
 unfold Builtin.«object.__class__» shownTypeOf
 repeat lk
 exact h
theorem exc_class {Q:Option Value→Shared→Prop} (F:XIs K C) (X:K.In s.heap) (L0:Looks (model prog w) s.heap (typeOf (.ref y)) (.ref C)) (h:Q (some (.ref C)) { s with toks:=s.toks + 1 }):wpAny (model prog w) A (getAttr? (.ref y) "__class__") Q E s:=by
 obtain ⟨hh,g,d,t,os⟩:=s
 have L1:=looks_findIn (M:=model prog w) X F.ga
 have L2:=looks_find_data (M:=model prog w) (x:=y) X F.ca F.sp F.tk
 have L3:=looks_findIn (M:=model prog w) X F.gh
 have L4:Looks (model prog w) hh (isSubtype (.ref C) (.type "BaseException")) true:=looks_subIn X F.sb
 have B1:=PySem.F.excAttr_ValueError.ga.bind (.ref y)
 unfold getAttr? getAttrBy? getAttrBy
 refine wpAny_bind (wpAny_mkText (wpAny_bind (wpAny_attempt (wpAny_holding (wpAny_bind (L0.at (wpAny_bind (L1.at ?_))))))))
 show wpAny _ _ (getAttrByItsOwn _ _ _ _ _ _) _ _ _
 unfold getAttrByItsOwn hookBefore
 refine wpAny_bind (L3.at ?_)
 refine wpAny_bind (wpAny_attempt (wpAny_holding ?_))
 show wpAny _ _ (boundAndCalled _ _ _) _ _ _
 unfold boundAndCalled
 refine wpAny_bind (wpAny_of_eq B1 ?_)
 refine wpAny_call (codeAny_call_builtin PySem.F.excAttr_ValueError.ga.plain PySem.F.entry_bexc_ga (exc_ga_check L0 L4 ?_))
 unfold Builtin.«object.__getattribute__»
 refine wpAny_bind (wpAny_pure ?_)
 refine wpAny_bind ?_
 repeat (first | with_reducible refine wpAny_call ?_ | lk | wp_step)
 refine class_getx (s:=⟨hh,g,d,t + 1,os⟩) X L0 F.ob ?_
 show wpAny _ _ _ _ _ _
 repeat (first | lk | wp_step)
 exact h
theorem kitx_exc (F:XIs K C):KitX K (.ref y) (.ref C) (fun h=>∃ ob,h.get? y=some ob∧ob.cls=.ref C) where
 ty:=fun _ _ _ ⟨_,h1,h2⟩=>h2 ▸ (Looks.ld h1).andThen .now
 it:=fun _ _ X _=>by
  obtain ⟨cdD,hcD⟩:=Option.isSome_iff_exists.mp F.cl
  unfold clsIn at hcD
  split at hcD
  ·rename_i c' d' cd' sl' ho
   intro A' Q' E' s' k q
   unfold isType loadHead
   exact wpAny_bind (wpAny_loadPart (k _ _ (X _ _ ho)) (wpAny_pure q))
  ·cases hcD
 ne:=fun h tp dd its n sl X htp=>by
  obtain ⟨cdD,hcD⟩:=Option.isSome_iff_exists.mp F.cl
  refine Bool.eq_false_iff.mpr fun q=>?_
  have e:C=tp:=Value.ref.inj (beq_iff_eq.mp q)
  subst e
  unfold clsIn at hcD
  split at hcD
  ·rename_i c' d' cd' sl' ho
   have z:=(X _ _ ho).symm.trans htp
   cases z
  ·cases hcD
 ca:=fun X ⟨_,h1,h2⟩ k=>exc_class F X (h2 ▸ (Looks.ld h1).andThen .now) k
end
def isL (C y:Addr) (dct:Option Addr:=none):HO:=.ext fun h=>∃ ob,h.get? y=some ob∧ob.cls=.ref C∧ob.dict=dct∧(∃ vs,ob.data=.fields vs)∧fld2 ob=some .none
theorem isL_ok {P:Program} {w:World} {H:Hp} {h:Heap} {C y:Addr} {dct:Option Addr} {ob:Obj} (e:h.get? y=some ob) (hc:ob.cls=.ref C) (hd:ob.dict=dct) (hv:∃ vs,ob.data=.fields vs) (h2:fld2 ob=some .none):ObjOk P w H h y (isL C y dct):=⟨⟨ob,e,hc,hd,hv,h2⟩,⟨_,e⟩,fun _ _ ⟨o,e,c⟩ k=>⟨o,k _ e,c⟩⟩
theorem isL_cls {P:Program} {w:World} {H:Hp} {h:Heap} {C y:Addr} {dct:Option Addr} (x:ObjOk P w H h y (isL C y dct)):∃ ob,h.get? y=some ob∧ob.cls=.ref C:=let ⟨⟨ob,e,c,_⟩,_⟩:=x; ⟨ob,e,c⟩
theorem call_isx {X:Cx}:CallR X (.builtin "isinstance") (fun xs H Q=>∃ y C c b,xs=[.ref y,c]∧(∃ dct,H y=some (isL C y dct))∧XIs X.K C∧(∃ T,(c=.ref T∧kitOne X.K (.ref C) (.ref T)=some b))∧Q (.bl b) H):=by
 intro pins s σ H xs us Q I r h
 obtain ⟨y,C,c,b,rfl,⟨dct,hy⟩,F,⟨T,rfl,e⟩,q⟩:=h
 obtain ⟨u,v,rfl,ru,rv⟩:=vals2 r
 cases ru
 cases rv
 exact kia_one (kitx_exc F) I.kIn (isL_cls (I.hok y _ hy)) e (fun z=>nomatch z) fun tk=>⟨.bl b,H,I.tok tk,rfl,q⟩
theorem call_isxT {X:Cx}:CallR X (.builtin "isinstance") (fun xs H Q=>∃ y C T b,xs=[.ref y,.ty T]∧(∃ dct,H y=some (isL C y dct))∧XIs X.K C∧kitOne X.K (.ref C) (.type T)=some b∧Q (.bl b) H):=by
 intro pins s σ H xs us Q I r h
 obtain ⟨y,C,T,b,rfl,⟨dct,hy⟩,F,e,q⟩:=h
 obtain ⟨u,v,rfl,ru,rv⟩:=vals2 r
 cases ru
 have rv:v=Value.type T:=rv
 subst rv
 exact kia_one (kitx_exc F) I.kIn (isL_cls (I.hok y _ hy)) e (fun z=>nomatch z) fun tk=>⟨.bl b,H,I.tok tk,rfl,q⟩
section
variable {X:Cx}
theorem eqB_at {A:Around} {s:Shared} {xs:List V} {us:List Value} {x:V} {u:Value} {b:Bool} (hx:x=.bl b) (r:Vals xs us) (rx:RelV x u) (fx:∀ y∈xs,∃ c,y=.bl c):∀ y∈us.toArray,SeqAt.EqAt A s y u (decide (y=.bool b)):=by
 intro y hy
 have hy':y∈us:=by simpa using hy
 obtain ⟨j,hj,rfl⟩:=List.mem_iff_getElem.mp hy'
 have hj':j < xs.length:=by rw [r.length]; exact hj
 obtain ⟨v,e1,e2⟩:=r.get (i:=j) (x:=xs[j]) (by simp [hj'])
 have e1:us[j]=v:=by simpa [hj] using e1
 obtain ⟨c,ec⟩:=fx xs[j] (List.getElem_mem hj')
 have:=eqAt_V (A:=A) (s:=s) e2 rx (by rw [ec]; rfl) (by rw [hx]; rfl)
 rw [e1]
 rw [ec] at e2 this
 subst hx
 cases e2
 have e:eqV (.bl c) (.bl b)=decide (Value.bool c=Value.bool b):=by
  show (c == b)=_
  cases c <;> cases b <;> rfl
 rw [e] at this
 exact this
theorem bools_rel:∀ {bs:List Bool} {us:List Value},Vals (bs.map V.bl) us→us=bs.map Value.bool
 | [],_,.nil=>rfl
 | _::_,_,.cons r t=>by
  cases r
  rw [List.map_cons,bools_rel t]
theorem mt_countB:MtR X "list.count" (fun x vs H Q=>∃ (l:Addr) (bs:List Bool) (b:Bool),x=.ref l∧vs=[.bl b]∧H l=some (.lst (bs.map V.bl))∧Q (.int ((bs.count b:Nat):Int)) H):=by
 intro pins s σ H x vs v us Q I rx rv h
 obtain ⟨l,bs,b,rfl,rfl,hl,q⟩:=h
 cases rx
 obtain ⟨u,rfl,ru⟩:=vals1 rv
 obtain ⟨its,r1,p1,_⟩:=I.list (SqL.of hl)
 obtain ⟨⟨cls,dd,data,sl⟩,ho,hc,n,hd⟩:=id p1.isList
 simp only at hc hd
 subst hc hd
 refine call_meets PySem.F.slot_list_count ⟨_,ho,rfl⟩ PySem.F.entry_list_count (PySem.F.args_list_count_2 _ _) (SeqAt.list_countAt l its.toArray n dd sl u (fun y=>decide (y=.bool b))) ⟨ho,eqB_at rfl r1 ru (fun y hy=>by obtain ⟨c,_,rfl⟩:=List.mem_map.mp hy; exact ⟨c,rfl⟩),?_⟩
 have e:(its.toArray.toList.countP fun y=>decide (y=Value.bool b))=bs.count b:=by
  rw [bools_rel r1]
  show List.countP _ (bs.map Value.bool)=_
  rw [List.countP_map]
  unfold List.count
  congr 1
  funext c
  show decide (Value.bool c=Value.bool b)=(c == b)
  cases c <;> cases b <;> rfl
 rw [e]
 exact ⟨.int _,H,I.tok _,⟨_,rfl⟩,q⟩
theorem mt_indexB:MtR X "list.index" (fun x vs H Q=>∃ (l:Addr) (bs:List Bool) (b:Bool) (j:Nat),x=.ref l∧vs=[.bl b]∧H l=some (.lst (bs.map V.bl))∧bs[j]?=some b∧(∀ k,k < j→bs[k]?=some (!b))∧j < 1000∧Q (.int (j:Int)) H):=by
 intro pins s σ H x vs v us Q I rx rv h
 obtain ⟨l,bs,b,j,rfl,rfl,hl,hj,hno,hs,q⟩:=h
 cases rx
 obtain ⟨u,rfl,ru⟩:=vals1 rv
 obtain ⟨its,r1,p1,_⟩:=I.list (SqL.of hl)
 obtain ⟨⟨cls,dd,data,sl⟩,ho,hc,n,hd⟩:=id p1.isList
 simp only at hc hd
 subst hc hd
 have ei:=bools_rel r1
 have hlen:its.length=bs.length:=by rw [ei,List.length_map]
 have hjl:j < bs.length:=(List.getElem?_eq_some_iff.mp hj).1
 refine call_meets PySem.F.slot_list_index ⟨_,ho,rfl⟩ PySem.F.entry_list_index (PySem.F.args_list_index_2 _ _) (SeqAt.list_indexAt l its.toArray n dd sl u (fun y=>decide (y=.bool b)) j (by simpa [hlen] using hjl) (by omega) ?_ ?_) ⟨ho,eqB_at rfl r1 ru (fun y hy=>by obtain ⟨c,_,rfl⟩:=List.mem_map.mp hy; exact ⟨c,rfl⟩),?_⟩
 ·have:bs[j]=b:=(List.getElem?_eq_some_iff.mp hj).2
  simp [ei,this]
 ·intro m hm hmj
  have h1:=hno m hmj
  have h2:m < bs.length:=(List.getElem?_eq_some_iff.mp h1).1
  have:bs[m]=!b:=(List.getElem?_eq_some_iff.mp h1).2
  simp only [ei,List.getElem_toArray,List.getElem_map,this]
  cases b <;> rfl
 ·exact ⟨.int _,H,I.tok _,⟨_,rfl⟩,q⟩
end
end L2
namespace L2
open PySem PySem.Calls PySem.Spec PyProof.Rows PySem.W
section
variable {X:Cx} {pins:List (Addr×Obj)} {σ:St} {H H':Hp} {s s':Shared} {y:Addr} {cls:Value} {dct:Option Addr}
def hX (X:Cx) (y:Addr):Cx:={ X with A:=X.A.mark (some (.ref y)),calm:=false,xe:=fun _ _=>False }
theorem Inv.hand (I:Inv X pins σ H s) (y:Addr):Inv (hX X y) pins σ H s :=
 ⟨⟨I.ok.mod,I.ok.kind,I.ok.glob,I.ok.blt,I.ok.above,I.ok.inj,I.ok.has,I.ok.cab,fun z=>(nomatch z),I.ok.frames,I.ok.stk,I.ok.exf,I.ok.bs,I.ok.bsz,I.ok.noex,I.ok.exfs,I.ok.funs,I.ok.frf⟩,I.os,I.bare,I.base,I.loc,I.cell,I.free,I.freeC,I.pin,I.hok,I.len⟩
theorem Inv.unhand (ok:X.Ok) (I:Inv (hX X y) pins σ H s):Inv X pins σ H s:=⟨ok,I.os,I.bare,I.base,I.loc,I.cell,I.free,I.freeC,I.pin,I.hok,I.len⟩
theorem fly_inv {s1:Shared} {H1:Hp} (I:Inv X pins σ H1 s1) (fl:FlyX X.prog X.w X.stack H1 H' s1 s' y cls dct):Inv X pins σ H' s':=by
 obtain ⟨v,H2,I2,_,e⟩:=I.after (Q:=fun _ H2=>H2=H') (u:=.none) ⟨.non,H',fl.os,fl.bare,fl.un,fl.hok,rfl,rfl⟩
 subst e
 exact I2
theorem FlyX.slots {P:Program} {w:World} {outer:List Env} (fl:FlyX P w outer H H' s s' y cls dct) :
  ∃ B a0,Heap.FlyingW B outer y cls a0 s'.heap∧∀ h6,Heap.FlyingW B outer y cls a0 h6→s'.heap.UpToSlots h6→KeepD s'.heap h6→FlyX P w outer H H' s { s' with heap:=h6 } y cls dct:=by
 obtain ⟨B,a0,hf,hok,kb,cov⟩:=fl.ex
 have hdk:∀ h6,KeepD s'.heap h6→∃ oe,h6.get? y=some oe∧oe.dict=dct∧fld2 oe=some .none:=fun h6 kd=>by
  obtain ⟨o0,e0,ed,ef⟩:=fl.dict
  obtain ⟨oe,e1,_,e2,e3⟩:=kd _ _ e0
  exact ⟨oe,e1,e2.trans ed,e3.trans ef⟩
 refine ⟨B,a0,hf,fun h6 hf6 up kd=>⟨hdk h6 kd,fl.os,fl.bare,fl.new,⟨B,a0,hf6,hok,kb,cov⟩,fun b o e n hb=>?_,fl.free,fl.tups,fl.frzs,fl.tbls⟩⟩
 obtain ⟨sl2,e2⟩:=fl.slot b o e n hb
 obtain ⟨_,o',e3,nf⟩:=hf.2.2.1.mem hb
 rw [e2] at e3
 cases e3
 obtain ⟨sl3,e4⟩:=up b _ e2 nf
 exact ⟨sl3,e4⟩
def XL (X:Cx) (pins:List (Addr×Obj)) (σ:St) (E:XK):Value→Shared→Prop:=fun e s'=>∃ H1 s1,Inv X pins σ H1 s1∧CXr X.prog X.w X.stack H1 s1 E e s'
def PEx (X:Cx) (e:Expr) (t:XK→TE):Prop :=
 ∀ (E:XK) (pins:List (Addr×Obj)) (s:Shared) (σ:St) (H:Hp) (Q:VK),Inv X pins σ H s→t E σ H Q→wpAny (model X.prog X.w) X.A (eval e X.env) (EP X pins σ Q) (XL X pins σ E) s
def PSx (X:Cx) (st:Stmt) (t:XK→TS):Prop :=
 ∀ (E:XK) (pins:List (Addr×Obj)) (s:Shared) (σ:St) (H:Hp) (D:Ends),Inv X pins σ H s→t E D σ H→wpAny (model X.prog X.w) X.A (exec st X.env) (SP X pins D) (XL X pins σ E) s
variable {k:Nat} {x:Str} {ps:List Str} {sp:Sp} {p pos:Pos} {e:Expr} {es:List Expr} {t:TA} {te:XK→TE}
theorem pex_kn (h:KnX X.prog X.w X.K X.mg X.base k x ps sp) (hr:Room k X.A) (ha:PA X.nox (e::es) t) (hg:Gl X x:=by rfl)
  (hdb:(x == ("__debug__":Str))=false:=by decide) (he:starEach (e::es) X.env=(false,eval e X.env)::starEach es X.env:=by rfl) (hpl:(backTo pos (starEach es X.env)).any (·.1)=false:=by rfl) :
  PEx X (.Call (.Name x p) (e::es) [] pos) (fun E=>tCall sp [] E t):=by
 obtain ⟨f,fd,F,hm,hk,hb⟩:=h.ex
 intro E pins s σ H Q I h
 refine wpAny_Call_Name_kw (ld_glob I hg hm ?_ hdb)
 refine callWith_K (h₀:=X.base) I.ok.mod.kin hk (wpAny_mono (ha pos pins s σ H _ (I.wish _) h) (fun us s1 z=>?_) fun _ _ z=>z.elim) he hpl
 obtain ⟨vs,H1,I1w,r,q⟩:=z
 have I1:Inv X pins σ H1 s1:=I1w.unwish
 refine ⟨I1.kIn,?_⟩
 have r2:Vals (vs++[]) (us++[]):=r.append .nil
 have hl:(us++([]:List Value)).length=ps.length:=by rw [← r2.length]; exact F.len _ _ _ _ q
 refine wpAny_call (codeAny_mono (F.run X.A X.stack s1 H1 ⟨us,[]⟩ (us++[]) (vs++[]) Q E hr I1.env0 (hb s1 us I1.kIn hl) r2 q) fun r s' hq=>?_)
 cases r with
 | error e=>exact ⟨H1,s1,I1,hq⟩
 | ok fl =>
  cases fl with
  | ret u=>exact I1.after hq
  | next=>exact False.elim hq
  | brk=>exact False.elim hq
  | cont=>exact False.elim hq
theorem psx_expr (he:PEx X e te) (hs:swapsWith e none pos.line X.env=pure false:=by rfl):PSx X (.Expr e pos) (fun E=>tDrop (te E)):=by
 intro E pins s σ H D I h
 exact wpAny_Expr_any (thn (he E pins s σ H _ I h) fun v s1 ⟨x,H1,I1,r1,q1⟩=>⟨σ,H1,I1,q1⟩) I.quiet hs
theorem name_gone {M:Model} {A:Around} {E:Value→Shared→Prop} {i:Nat} {n:Str} {pos:Pos} {Q:Unit→Shared→Prop} (I:Inv X pins σ H s) (hN:X.N.Nodup) (hi:X.N[i]?=some n) (hk:X.env.scope.names.lookup n=some .local)
  (h:∀ s',Inv X pins (σ.set i none) H s'→Q () s'):wpAny M A (do bindName X.env n .none; unbindBehindTheSuite X.env n pos) Q E s:=by
 obtain ⟨m,hn,hl⟩:=id I.loc
 have hcls:(X.env.scope.kind == .class || (X.env.scope.kind == .module && X.env.locals != X.env.globals))=false:=by rw [I.ok.kind]; rfl
 have hiσ:i < σ.length:=by rw [I.len]; exact (List.getElem?_eq_some_iff.mp hi).1
 have cne:=I.cne
 obtain ⟨oL,_,_,hoL,_⟩:=id hn
 refine wpAny_nameGoes_keeps hk hn hcls fun h' v hn' hs=>?_
 have low:∀ b o,X.s₀.heap.get? b=some o→b≠X.env.locals:=fun b o e=>Nat.ne_of_lt (Nat.lt_of_lt_of_le (Heap.lt_size e) I.ok.above)
 refine h _ ⟨I.ok,I.os,I.bare,⟨fun b o e n hb hx=>?_,fun b o e n hb hx=>?_,I.base.free,fun b o e hx=>?_,I.base.tups,I.base.frzs,I.base.tbls⟩,⟨_,hn',fun j z v' e1 e2 e3=>?_⟩,fun z c e=>?_,I.free,I.freeC,fun p hp=>?_,fun b ob e=>?_,by simpa using I.len⟩
 ·exact (hs.2 b (low b o e)).trans (I.base.keep b o e n hb hx)
 ·obtain ⟨sl,e1⟩:=I.base.slot b o e n hb hx
  exact ⟨sl,(hs.2 b (low b o e)).trans e1⟩
 ·obtain ⟨o',e1⟩:=I.base.there b o e hx
  exact ⟨o',(hs.2 b (low b o e)).trans e1⟩
 ·by_cases hj:j=i
  ·subst hj
   rw [List.getElem?_set_self hiσ] at e2
   cases e2
  ·rw [List.getElem?_set_ne (Ne.symm hj)] at e2
   obtain ⟨u',r',q⟩:=hl j z v' e1 e2 e3
   refine ⟨u',r',?_⟩
   rcases q with ⟨k,e⟩ | ⟨k,c,e,w⟩
   ·refine .inl ⟨k,?_⟩
    have:z≠n:=fun e=>hj (nodup_ix hN e1 (e ▸ hi))
    simp [this,e]
   ·exact .inr ⟨k,c,e,w.sameBut hs (cne z c e)⟩
 ·obtain ⟨w',z⟩:=I.cell z c e
  exact ⟨w',z.sameBut hs (cne _ c e)⟩
 ·obtain ⟨e,n,ne,nf,d⟩:=I.pin p hp
  exact ⟨(hs.2 p.1 ne).trans e,n,ne,nf,d⟩
 ·refine (I.hok b ob e).stay (fun c w' hc q=>(hs.2 c ?_).trans q) (fun _ q=>q) fun _ _ q=>q
  rintro rfl
  rcases hc with z | hc
  ·rw [← z,I.free] at e; cases e
  ·rw [I.free] at hc; cases hc
variable {st b₀:Stmt} {suite:List Stmt} {i:Nat} {n c:Str} {pc hpos:Pos} {W:Addr} {tb:XK→TS} {th:TS}
def tTry (K:Frag) (W:Addr) (i:Nat) (tb:XK→TS) (th:TS):TS:=fun D σ H=>tb (fun cls dct H'=>∃ C,cls=.ref C∧exmOne K (.ref C) (.ref W)=some true∧∀ y,H' y=none →
 th { nx:=fun σ2 H2=>D.nx (σ2.set i none) H2,rt:=D.rt,bk:=fun σ2 H2=>D.bk (σ2.set i none) H2,ct:=fun σ2 H2=>D.ct (σ2.set i none) H2 } (σ.set i (some (.ref y))) (upd H' y (isL C y dct))) D σ H
theorem ps_try (hb:PSx X st tb) (hg:Gl X c) (hm:X.mg c=some (.ref W)) (hN:X.N.Nodup) (hi:X.N[i]?=some n) (hn:X.env.scope.names.lookup n=some .local) (hh:∀ y,PSs (hX X y) (b₀::suite) th)
  (hstk:X.stack=X.env::X.outer) (hfr:X.env.frame=some X.env.locals) (hdb:(c == ("__debug__":Str))=false:=by decide) :
  PS X (.Try [st] [.ExceptHandler (some (.Name c pc)) (some n) (b₀::suite) hpos] [] [] pos) (tTry X.K W i tb th):=by
 intro pins s σ H D I h
 refine wpAny_Try_except ?_
 refine wpAny_mono (wpAny_execs_cons (thn (hb _ pins s σ H D I h) fun f s1 q=>?_)) (Q:=SP X pins D) (fun f s1 q=>?_) (fun e s1 q=>?_)
 ·cases f with
  | next=>exact wpAny_execs_nil q
  | ret u=>exact q
  | brk=>exact q
  | cont=>exact q
 ·cases f with
  | next=>exact wpAny_execs_nil q
  | ret u=>exact q
  | brk=>exact q
  | cont=>exact q
 ·obtain ⟨H1,s0,I1,y,cls,dct,H',rfl,fl,C,rfl,hx,hq⟩:=q
  obtain ⟨B,a0,hf,mv⟩:=fl.slots
  rw [hstk] at hf
  refine wpAny_mono (wpAny_kd (kd_note _ _) (wpAny_looks_onW (Q:=fun _ s2=>∃ h4,s2={ s1 with heap:=h4 }∧Heap.HeldW B (X.env::X.outer) y (.ref C) a0 X.env.locals h4∧s1.heap.UpToSlots h4) (L:=X.env.locals) (I.ok.frames.trans (by rw [hstk])) hfr hf fun h4 hh4 sm4=>⟨h4,rfl,hh4,sm4⟩)) (fun _ s2 z=>?_) fun _ _ z=>z
  obtain ⟨⟨h4,rfl,hh4,sm4⟩,kd4⟩:=z
  refine wpAny_mono (wpAny_kd (kd_setFlight _ _) (wpAny_landsW (s:={ s1 with heap:=h4 }) (Q:=fun _ s2=>∃ h5,s2={ s1 with heap:=h5 }∧Heap.FlyingW B (X.env::X.outer) y (.ref C) a0 h5∧h4.UpToSlots h5) hh4 fun h5 hf5 sm5=>⟨h5,rfl,hf5,sm5⟩)) (fun _ s2 z=>?_) fun _ _ z=>z
  obtain ⟨⟨h5,rfl,hf5,sm5⟩,kd5⟩:=z
  have I5:=fly_inv I1 (mv h5 (by rw [hstk]; exact hf5) (sm4.trans sm5) (kd4.trans kd5))
  refine wpAny_handleBy_cons (codeAny_handlers_test ?_) (by intro q; cases q)
  refine ld_glob (X:=hX X y) (I5.hand y) hg hm ?_ hdb
  obtain ⟨ob5,eo5,ec5⟩:=hf5.there
  have LT:Looks (model X.prog X.w) h5 (typeOf (.ref y)) (.ref C):=ec5 ▸ (Looks.ld eo5).andThen .now
  refine (exm_one I5.kIn LT hx).here ?_
  refine codeAny_handlers_suite_as ?_
  refine wpAny_mono (wpAny_kd (kd_setFlight _ _) (lands_againW (s:={ s1 with heap:=h5 }) (Q:=fun _ s2=>∃ h6,s2={ s1 with heap:=h6 }∧Heap.FlyingW B (X.env::X.outer) y (.ref C) a0 h6∧h5.UpToSlots h6) hf5 fun h6 hf6 sm6=>⟨h6,rfl,hf6,sm6⟩)) (fun _ s2 z=>?_) fun _ _ z=>z
  obtain ⟨⟨h6,rfl,hf6,sm6⟩,kd6⟩:=z
  have fl6:=mv h6 (by rw [hstk]; exact hf6) ((sm4.trans sm5).trans sm6) ((kd4.trans kd5).trans kd6)
  have I6:=fly_inv I1 fl6
  obtain ⟨ob6,eo6,ed6,e26⟩:=fl6.dict
  obtain ⟨ob7,vs7,eo7,ec7,ev7,_⟩:=hf6.first
  obtain rfl:ob7=ob6:=Option.some.inj (eo7.symm.trans eo6)
  have I7:=I6.adopt (p:=y) (o:=isL C y dct) (I1.fpOk fl.new fl.gone) (isL_ok eo6 ec7 ed6 ⟨_,ev7⟩ e26)
  refine store_ok (X:=X) I7 hN hi (Or.inl hn) (v:=.ref y) rfl (fun s8 I8=>?_) (Or.inr hn)
  refine wpAny_mono (hh y pins s8 _ _ _ (I8.hand y) (hq y fl.gone)) (fun f s9 q9=>?_) fun _ _ z=>z.elim
  have ok:=I.ok
  cases f with
  | next =>
   obtain ⟨σ2,H2,J,q⟩:=q9
   exact name_gone (J.unhand ok) hN hi hn fun s' J'=>⟨_,H2,J',q⟩
  | brk =>
   obtain ⟨σ2,H2,J,q⟩:=q9
   exact name_gone (J.unhand ok) hN hi hn fun s' J'=>⟨_,H2,J',q⟩
  | cont =>
   obtain ⟨σ2,H2,J,q⟩:=q9
   exact name_gone (J.unhand ok) hN hi hn fun s' J'=>⟨_,H2,J',q⟩
  | ret u =>
   obtain ⟨v,σ2,H2,J,rv,q⟩:=q9
   exact name_gone (J.unhand ok) hN hi hn fun s' J'=>⟨v,_,H2,J',rv,q⟩
end
end L2
namespace L2
open PySem PySem.Calls PySem.Spec PyProof.Rows PySem.W
structure RoomH (k:Nat) (A:Around):Prop where
 dp:A.depth + 3 * k + 5 < recursionLimit
 un:A.units + 16 * k + 200 < cLine
theorem Room.toH {k:Nat} {A:Around} (r:Room k A) (h:Option Value):RoomH k (A.mark h):=⟨r.dp,r.un⟩
theorem RoomH.mono {j k:Nat} {A:Around} (r:RoomH k A) (h:j≤k):RoomH j A:=⟨by have:=r.dp; omega,by have:=r.un; omega⟩
theorem RoomH.deeper {k:Nat} {A:Around} (r:RoomH (k + 1) A) (env:Env):RoomH k (A.deeper env) :=
 ⟨by have:=r.dp; show A.depth + 1 + 3 * k + 5 < _; omega,by have:=r.un; show A.units + 3 + 16 * k + 200 < _; omega⟩
def cxH (P:Program) (w:World) (K:Frag) (mg:Str→Option Value) (base:Heap) (N:List Str) (qual:Str) (scope:Scope) (f:Addr) (cd:Value) (A:Around) (outer:List Env) (s:Shared) (H:Hp):Cx :=
 { cxOf CX0 P w K mg base N qual scope f cd A outer s H E0 with calm:=false,xe:=fun _ _=>False }
structure FnOkH (P:Program) (w:World) (K:Frag) (mg:Str→Option Value) (base:Heap) (k:Nat) (f:Addr) (fd:FuncData) (ps:List Str) (sp:Sp):Prop where
 len:∀ vs H Q E,sp vs H Q E→vs.length=ps.length
 run:∀ (A:Around) (outer:List Env) (s:Shared) (H:Hp) (args:Args) (us:List Value) (vs:List V) (Q:VK),RoomH k A→Env0 P w K mg base A outer s H→BindsTo s fd args (ps.zip us)→Vals vs us→sp vs H Q E0 →
  codeAny (model P w) A (.call (.ref f) args) (CR CX0 outer P w H s Q E0) s
theorem inv_startH {P:Program} {w:World} {K:Frag} {mg:Str→Option Value} {base:Heap} {N ps:List Str} {qual:Str} {scope:Scope} {f:Addr} {cd:Value} {A:Around} {outer:List Env} {s s1:Shared} {H:Hp} {us:List Value} {vs:List V}
  (S:FnScope N ps scope) (e0:Env0 P w K mg base A outer s H) (hl:vs.length=ps.length) (r:Vals vs us)
  (x:InCallC s s.heap.objs.size (bindL (envOfC qual scope s.heap.objs.size f cd).kindOf (ps.zip us) fun _=>none) (cellsFrom (s.heap.objs.size + 1) scope.names []) (bindC (envOfC qual scope s.heap.objs.size f cd).kindOf (ps.zip us) fun _=>none) s1) :
  Inv (cxH P w K mg base N qual scope f cd A outer s H) [] (start N vs) H s1:=by
 have e0':Env0 P w K mg base { A with handled:=none } outer s H:=⟨e0.frames,e0.mod,e0.bs,e0.bsz,e0.funs,e0.frf,e0.hok,e0.bare⟩
 have I:=inv_start (CX:=CX0) (A:={ A with handled:=none }) (E:=E0) (qual:=qual) (f:=f) (cd:=cd) S rfl e0' hl r x
 exact ⟨⟨I.ok.mod,I.ok.kind,I.ok.glob,I.ok.blt,I.ok.above,I.ok.inj,I.ok.has,I.ok.cab,fun z=>(nomatch z),I.ok.frames,I.ok.stk,I.ok.exf,I.ok.bs,I.ok.bsz,I.ok.noex,I.ok.exfs,I.ok.funs,I.ok.frf⟩,I.os,I.bare,I.base,I.loc,I.cell,I.free,I.freeC,I.pin,I.hok,I.len⟩
theorem fn_ofH {P:Program} {w:World} {K:Frag} {mg:Str→Option Value} {base:Heap} {k:Nat} {f:Addr} {name qual:Str} {params:Arguments} {body:List Stmt} {scope:Scope} {dV kV doc pm cdv ct oc:Value} {an od:Option Addr}
  {osl:Array (Option Value)} {N ps:List Str} {sp:Sp} (lk:K.lookup f=some ⟨oc,od,.func (fnOf name qual params body scope dV kV doc pm an cdv ct),osl⟩) (hcd:codeIn K cdv qual=true) (S:FnScope N ps scope)
  (len:∀ vs H Q E,sp vs H Q E→vs.length=ps.length)
  (hbody:∀ (A:Around) (outer:List Env) (s:Shared) (H:Hp) (vs:List V) (Q:VK),RoomH k (A.deeper (envOfC qual scope s.heap.objs.size f cdv))→sp vs H Q E0 →
   ∃ t,PSs (cxH P w K mg base N qual scope f cdv A outer s H) body t∧t { nx:=fun _ H'=>Q .non H',rt:=Q } (start N vs) H) :
  FnOkH P w K mg base (k + 1) f (fnOf name qual params body scope dV kV doc pm an cdv ct) ps sp:=by
 refine ⟨len,fun A outer s H args us vs Q hr e0 hb r hsp=>?_⟩
 have hl:=len _ _ _ _ hsp
 have KX:K.In s.heap:=e0.mod.kin.keeps fun b o e=>(e0.bs b o e).1
 have lim:s.heap.NoLimit:=e0.mod.nolimit.keeps fun b o e=>(e0.bs b o e).1
 have hkind:∀ y∈ps.zip us,scope.names.lookup y.1=some .local∨(scope.names.lookup y.1=some .cell∧((cellsFrom (s.heap.objs.size + 1) scope.names []).lookup y.1).isSome=true):=fun ⟨n,v⟩ hy=>by
  rcases S.par n (List.of_mem_zip hy).1 with q | q
  ·exact .inl q
  ·exact .inr ⟨q,cellsFrom_some _ _ _ (.inl q)⟩
 have hdepth:A.depth < recursionLimit:=by have:=hr.dp; omega
 refine codeAny_call_function hdepth (KX _ _ lk) rfl S.co S.gen rfl (codeRec_of KX hcd) (hb _ _ _ _ ?_)
 refine wpAny_newFunctionEnv_cells S.kind hkind fun env he s1 x=>?_
 subst he
 refine ⟨lim.keeps x.toInCall.keep,codeAny_func ?_⟩
 obtain ⟨t,ht,hq⟩:=hbody A outer s H vs Q (hr.deeper _) hsp
 have I:Inv (cxH P w K mg base N qual scope f cdv A outer s H) [] (start N vs) H s1:=inv_startH S e0 hl r x
 refine wpAny_mono (ht [] s1 (start N vs) H _ I hq) (fun fl s' hs=>?_) fun e s' hs=>hs.elim
 have fin:∀ {σ':St} {H':Hp} {v:V} {u:Value},Inv (cxH P w K mg base N qual scope f cdv A outer s H) [] σ' H' s'→RelV v u→Q v H'→CE outer P w H s Q u s' :=
  fun {σ' H' v u} J rv q=>⟨v,H',J.os,J.bare,J.base,J.hok,rv,q⟩
 cases fl with
 | ret u =>
  obtain ⟨v,σ',H',J,rv,q⟩:=hs
  exact fin J rv q
 | next =>
  obtain ⟨σ',H',J,q⟩:=hs
  exact fin (v:=V.non) (u:=Value.none) J rfl q
 | brk =>
  obtain ⟨_,_,_,q⟩:=hs
  exact False.elim q
 | cont =>
  obtain ⟨_,_,_,q⟩:=hs
  exact False.elim q
structure KnH (P:Program) (w:World) (K:Frag) (mg:Str→Option Value) (base:Heap) (k:Nat) (x:Str) (ps:List Str) (sp:Sp):Prop where
 ex:∃ (f:Addr) (fd:FuncData),FnOkH P w K mg base k f fd ps sp∧mg x=some (.ref f)∧keepIn K (.ref f)=true∧Binds K fd ps []
theorem DefAt.knH {P:Program} {w:World} {K:Frag} {mg:Str→Option Value} {base:Heap} {k:Nat} {x:Str} {st:Stmt} {N ps:List Str} {sp:Sp} (D:DefAt K mg x st ps) (S:FnScope N ps (defScope st)) (len:∀ vs H Q E,sp vs H Q E→vs.length=ps.length)
  (hbody:∀ (f:Addr) (cdv:Value) (A:Around) (outer:List Env) (s:Shared) (H:Hp) (vs:List V) (Q:VK),RoomH k (A.deeper (envOfC x (defScope st) s.heap.objs.size f cdv))→sp vs H Q E0 →
   ∃ t,PSs (cxH P w K mg base N x (defScope st) f cdv A outer s H) (defBody st) t∧t { nx:=fun _ H'=>Q .non H',rt:=Q } (start N vs) H):KnH P w K mg base (k + 1) x ps sp:=by
 obtain ⟨f,fd,F,hm,hb⟩:=D.ex
 obtain ⟨oc,od,kV,doc,pm,an,cdv,ct,osl,rfl,lk,hcd⟩:=F.ex
 exact ⟨f,_,fn_ofH lk hcd S len fun A outer s H vs Q hr h=>hbody f cdv A outer s H vs Q hr h,hm,F.kp,hb⟩
section
variable {X:Cx} {k:Nat} {x:Str} {ps:List Str} {sp:Sp} {p pos:Pos} {e:Expr} {es:List Expr} {t:TA}
theorem pe_knH (h:KnH X.prog X.w X.K X.mg X.base k x ps sp) (hr:RoomH k X.A) (ha:PA X (e::es) t) (hg:Gl X x:=by rfl)
  (hdb:(x == ("__debug__":Str))=false:=by decide) (he:starEach (e::es) X.env=(false,eval e X.env)::starEach es X.env:=by rfl) (hpl:(backTo pos (starEach es X.env)).any (·.1)=false:=by rfl) :
  PE X (.Call (.Name x p) (e::es) [] pos) (tCall sp [] E0 t):=by
 obtain ⟨f,fd,F,hm,hk,hb⟩:=h.ex
 intro pins s σ H Q I h
 refine wpAny_Call_Name_kw (ld_glob I hg hm ?_ hdb)
 refine callWith_K (h₀:=X.base) I.ok.mod.kin hk (thn (ha pos pins s σ H _ I h) fun us s1 ⟨vs,H1,I1,r,q⟩=>⟨I1.kIn,?_⟩) he hpl
 have r2:Vals (vs++[]) (us++[]):=r.append .nil
 have hl:(us++([]:List Value)).length=ps.length:=by rw [← r2.length]; exact F.len _ _ _ _ q
 refine wpAny_call (codeAny_mono (F.run X.A X.stack s1 H1 ⟨us,[]⟩ (us++[]) (vs++[]) Q hr I1.env0 (hb s1 us I1.kIn hl) r2 q) fun r s' hq=>?_)
 cases r with
 | error e=>exact hq.elim
 | ok fl =>
  cases fl with
  | ret u=>exact I1.after hq
  | next=>exact False.elim hq
  | brk=>exact False.elim hq
  | cont=>exact False.elim hq
end
end L2
namespace L2
open PySem PySem.Calls PySem.Spec PyProof.Rows PySem.W PySem.Builtin PySem.Builtin.ObjectAttr
section
variable {prog:Program} {w:World} {A:Around} {E:Value→Shared→Prop} {s:Shared} {K:Frag} {x C:Addr} {ox:Obj} {od:Option Obj} {name:Str} {v:Value} {Q:Unit→Shared→Prop}
end
section
variable {X:Cx} {pins:List (Addr×Obj)} {σ:St} {H:Hp} {s:Shared} {y C D:Addr} {fs:List (Str×V)} {f:Str} {v:V} {u:Value} {A:Around} {E:Value→Shared→Prop} {Q:Unit→Shared→Prop}
end
end L2
namespace L2
open PySem PySem.Calls PySem.Spec PyProof.Rows PySem.W PySem.Builtin PySem.Builtin.ObjectAttr
section
variable {prog:Program} {w:World} {A:Around} {E:Value→Shared→Prop} {s:Shared} {K:Frag} {y C:Addr} {ox:Obj} {od:Obj} {name:Str} {v:Value} {Q:Value→Shared→Prop} {expr:Bool}
end
section
variable {X:Cx} {e:Expr} {pos:Pos} {te:TE}
end
end L2
namespace L2
open PySem PySem.Spec PyProof.Rows
section
variable {X:Cx}
def CDivW (_ j:Int):Prop:=0 < j∧j.natAbs.log2 < 9000
theorem op_fdivW:OpR X (binaryOp .FloorDiv) (rI CDivW fun i j=>.int (i / j)):=opI fun i j _ _ _ _ _ hc q=>by
 have h1:(0:Int) < j:=hc.1
 have e:=Int.fdiv_eq_ediv_of_nonneg i (Int.le_of_lt h1)
 exact floordiv_int (Int.ne_of_gt h1) (e ▸ q) (.inl (PyProof.noPylong_of_log2 hc.2))
end
end L2
namespace L2
open PySem PySem.Spec PyProof.Rows PySem.AutoSeq1
section
variable {X:Cx} {es:List Expr} {kt:Nat} {tp:Pos}
end
section
variable {K:PySem.W.Frag} {g:TG} {tc:TT} {te:TE} {σ:St} {H:Hp} {R:List V→Hp→Prop}
end
end L2
namespace L2
open PySem PySem.Spec PyProof.Rows
section
variable {X:Cx}
end
end L2
namespace L2
open PySem PySem.Spec PyProof.Rows PySem.AutoSeq1
end L2
namespace L2
open PySem PySem.Spec PyProof.Rows
section
variable {X:Cx} {es:List Expr} {kt:Nat} {tp:Pos}
end
section
variable {K:PySem.W.Frag} {g:TG} {tc:TT} {te:TE} {σ:St} {H:Hp} {R:List V→Hp→Prop}
end
end L2
namespace L2
open PySem PySem.Spec PyProof.Rows
section
variable {prog:Program} {w:World} {A:Around} {R:Result→Shared→Prop} {it B:Addr} {fp wr:List Addr} {n:Nat} {P:Nat→Value→Prop} {St:Nat→Heap→Prop} {bt:Nat→Nat→Bool} {dn:Str} {dv:Value}
end
section
variable {X:Cx}
end
end L2
namespace L2
open PySem PySem.Spec PyProof.Rows
section
variable {X:Cx}
end
end L2
namespace Tim
open PySem PyProof.Rows
structure Ordr (L:Keyed→Keyed→Bool):Prop where
 asym:∀ x y,L x y=true→L y x=false
 tr:∀ x y z,L y x=false→L z y=false→L z x=false
abbrev Sd (L:Keyed→Keyed→Bool) (l:List Keyed):Prop:=l.Pairwise fun x y=>L y x=false
section
variable {L:Keyed→Keyed→Bool}
theorem Sd.split {o m r1 r2:List Keyed} (h1:Sd L (o++(m++r1))) (h2:Sd L (o++r2)) (c:∀ x∈m,∀ y∈r2,L y x=false):Sd L ((o++m)++r1)∧Sd L ((o++m)++r2):=by
 refine ⟨by rw [List.append_assoc]; exact h1,?_⟩
 obtain ⟨a1,a2,a3⟩:=List.pairwise_append.mp h1
 obtain ⟨b1,b2,b3⟩:=List.pairwise_append.mp h2
 obtain ⟨c1,c2,c3⟩:=List.pairwise_append.mp a2
 rw [List.append_assoc]
 refine List.pairwise_append.mpr ⟨a1,List.pairwise_append.mpr ⟨c1,b2,c⟩,fun x hx y hy=>?_⟩
 rcases List.mem_append.mp hy with z | z
 ·exact a3 x hx y (List.mem_append_left _ z)
 ·exact b3 x hx y z
theorem Sd.splitR {o m l1 l2:List Keyed} (h1:Sd L ((l1++m)++o)) (h2:Sd L (l2++o)) (c:∀ y∈l2,∀ x∈m,L x y=false):Sd L (l1++(m++o))∧Sd L (l2++(m++o)):=by
 rw [List.append_assoc] at h1
 refine ⟨h1,?_⟩
 obtain ⟨a1,a2,a3⟩:=List.pairwise_append.mp h1
 obtain ⟨b1,b2,b3⟩:=List.pairwise_append.mp h2
 refine List.pairwise_append.mpr ⟨b1,a2,fun y hy x hx=>?_⟩
 rcases List.mem_append.mp hx with z | z
 ·exact c y hy x z
 ·exact b3 y hy x z
end
section
variable {prog:Program} {w:World} {A:Around} {E:Value→Shared→Prop} {s:Shared} {κ:SortKind} {a0:Array Keyed} {L:Keyed→Keyed→Bool}
def CmpL (prog:Program) (w:World) (A:Around) (s:Shared) (κ:SortKind) (a0:Array Keyed) (L:Keyed→Keyed→Bool):Prop :=
 ∀ x y,x∈a0→y∈a0→∀ (E:Value→Shared→Prop) (Q:Bool→Shared→Prop),Q (L x y) s→wpAny (model prog w) A (keyLt' κ x.1 y.1) Q E s
theorem lt_L (hc:CmpL prog w A s κ a0 L) {x y:Keyed} {st:SortSt} {Q:Option Bool→SortSt→Prop} (hk:kindOf st=κ) (hx:x∈a0) (hy:y∈a0) (q:Q (some (L x y)) st) :
  wpS (model prog w) A E s (lt' x y) Q st:=by
 rw [lt'_eq]
 refine wpS_bind (wpS_get ?_)
 rw [hk]
 refine wpS_bind (wpS_lift (wpAny_attempt (hc x y hx hy _ _ ⟨rfl,?_⟩)))
 exact wpS_pure q
def bk (L:Keyed→Keyed→Bool) (left:Bool) (key x:Keyed):Bool:=if left=true then L x key else !L key x
theorem bk_mono (o:Ordr L) {left:Bool} {key x y:Keyed} (h:L y x=false) (hy:bk L left key y=true):bk L left key x=true:=by
 unfold bk at hy ⊢
 cases left with
 | true =>
  rw [if_pos rfl] at hy ⊢
  cases e:L x key with
  | true=>rfl
  | false =>
   have:=o.tr key x y e h
   rw [this] at hy
   cases hy
 | false =>
  rw [if_neg Bool.false_ne_true] at hy ⊢
  have hy:L key y=false:=by simpa using hy
  rw [o.tr x y key h hy]
  rfl
theorem gallop_L (o:Ordr L) (hc:CmpL prog w A s κ a0 L) {left:Bool} {key:Keyed} {arr:Array Keyed} {lo n hint:Nat} {st:SortSt} {Q:Option Nat→SortSt→Prop} (hk:kindOf st=κ) (hkey:key∈a0) (hin:In a0 arr) (hn:lo + n≤arr.size) (hh:hint < n)
  (sd:Sd L ((arr.toList.drop lo).take n))
  (q:∀ k,k≤n→(∀ x∈((arr.toList.drop lo).take n).take k,bk L left key x=true)→(∀ x∈((arr.toList.drop lo).take n).drop k,bk L left key x=false)→Q (some k) st):wpS (model prog w) A E s (gallop' left key arr lo n hint) Q st:=by
 have len:((arr.toList.drop lo).take n).length=n:=by rw [List.length_take,List.length_drop,Array.length_toList]; omega
 have eg:∀ i,i < n→arr[lo + i]?=((arr.toList.drop lo).take n)[i]?:=fun i hi=>by
  rw [List.getElem?_take,if_pos hi,List.getElem?_drop,Array.getElem?_toList]
 generalize (arr.toList.drop lo).take n=l at sd q len eg
 subst len
 have eg:∀ i (hi:i < l.length),arr[lo + i]'(by omega)=l[i]:=fun i hi=>by
  have:=eg i hi
  rw [Array.getElem?_eq_getElem (by omega),List.getElem?_eq_getElem hi] at this
  exact Option.some.inj this
 have mono:∀ i j (hij:i≤j) (hj:j < l.length),bk L left key l[j]=true→bk L left key (l[i]'(by omega))=true:=fun i j hij hj h=>by
  by_cases e:i=j
  ·subst e; exact h
  ·exact bk_mono o (List.pairwise_iff_getElem.mp sd i j (by omega) hj (by omega)) h
 have bey:∀ (i:Nat) (R:Option Bool→SortSt→Prop) (hi:i < l.length),R (some (bk L left key l[i])) st→wpS (model prog w) A E s (do
   let x ← elem' arr (lo + i)
   if left=true then lt' x key else do
    let r ← lt' key x
    pure (r.map (!·))) R st:=fun i R hi hR=>by
  refine wpS_bind (elem_ok (by omega) ?_)
  have hm:arr[lo + i]'(by omega)∈a0:=hin _ (Array.getElem_mem _)
  rw [eg i hi] at hm ⊢
  unfold bk at hR
  cases left with
  | true =>
   rw [if_pos rfl] at hR
   exact lt_L hc hk hm hkey hR
  | false =>
   rw [if_neg Bool.false_ne_true] at hR
   exact wpS_bind (lt_L hc hk hkey hm (wpS_pure hR))
 -- by places
 have T:∀ k,k≤l.length→(∀ i (hi:i < l.length),i < k→bk L left key l[i]=true)→∀ x∈l.take k,bk L left key x=true:=fun k hk h x hx=>by
  obtain ⟨i,hi,rfl⟩:=List.mem_iff_getElem.mp hx
  rw [List.length_take] at hi
  rw [List.getElem_take]
  exact h i (by omega) (by omega)
 have F:∀ k,(∀ i (hi:i < l.length),k≤i→bk L left key l[i]=false)→∀ x∈l.drop k,bk L left key x=false:=fun k h x hx=>by
  obtain ⟨i,hi,rfl⟩:=List.mem_iff_getElem.mp hx
  rw [List.length_drop] at hi
  rw [List.getElem_drop]
  exact h (k + i) (by omega) (by omega)
 refine wpS_bind (wpS_mono (bey hint (fun r st'=>r=some (bk L left key l[hint])∧st'=st) hh ⟨rfl,rfl⟩) ?_)
 rintro r st' ⟨rfl,rfl⟩
 dsimp only
 cases hb:bk L left key l[hint]
 case' true =>
  rw [if_pos rfl]
  refine wpS_bind (wpS_mono (wpS_forRange (I:=fun i c st2=>c.1=none∧(c.2.1 < c.2.2∧i + 1≤c.2.2∧∃ h:hint + c.2.1 < l.length,bk L left key l[hint + c.2.1]=true)∧st2=st')
   (Q:=fun c st2=>c.1=none∧(c.2.1 < c.2.2∧(∃ h:hint + c.2.1 < l.length,bk L left key l[hint + c.2.1]=true)∧(l.length - hint≤c.2.2∨∃ h:hint + c.2.2 < l.length,bk L left key l[hint + c.2.2]=false))∧st2=st') ?step ?fin ⟨rfl,⟨by decide,by decide,hh,hb⟩,rfl⟩) ?post)
  case fin =>
   rintro ⟨c1,la,ofs⟩ st2 ⟨h1,⟨h2,h3,h4⟩,h5⟩
   dsimp only at h1 h2 h3 h4 ⊢
   rw [Nat.zero_max] at h3
   exact ⟨h1,⟨h2,h4,.inl (by omega)⟩,h5⟩
  case step =>
   rintro i ⟨_,la,ofs⟩ st2 _ _ ⟨h,⟨h2,h3,h4⟩,rfl⟩
   dsimp only at h h2 h3 h4 ⊢
   by_cases hm:ofs ≥ l.length - hint
   ·rw [if_pos hm]
    exact wpS_pure ⟨rfl,⟨h2,h4,.inl hm⟩,rfl⟩
   ·rw [if_neg hm]
    refine wpS_bind (bey (hint + ofs) _ (by omega) ?_)
    cases e:bk L left key (l[hint + ofs]'(by omega))
    ·exact wpS_pure ⟨rfl,⟨h2,h4,.inr ⟨by dsimp only; omega,e⟩⟩,rfl⟩
    ·exact wpS_pure ⟨rfl,⟨by dsimp only; omega,by dsimp only; omega,by dsimp only; omega,e⟩,rfl⟩
 case' false =>
  rw [if_neg Bool.false_ne_true]
  refine wpS_bind (wpS_mono (wpS_forRange (I:=fun i c st2=>c.1=none∧(c.2.1 < c.2.2∧i + 1≤c.2.2∧c.2.1≤hint∧∃ h:hint - c.2.1 < l.length,bk L left key l[hint - c.2.1]=false)∧st2=st')
   (Q:=fun c st2=>c.1=none∧(c.2.1 < c.2.2∧(c.2.1≤hint∧∃ h:hint - c.2.1 < l.length,bk L left key l[hint - c.2.1]=false)∧(hint + 1≤c.2.2∨∃ h:hint - c.2.2 < l.length,bk L left key l[hint - c.2.2]=true))∧st2=st') ?step ?fin ⟨rfl,⟨by decide,by decide,Nat.zero_le _,hh,hb⟩,rfl⟩) ?post)
  case fin =>
   rintro ⟨c1,la,ofs⟩ st2 ⟨h1,⟨h2,h3,h4⟩,h5⟩
   dsimp only at h1 h2 h3 h4 ⊢
   rw [Nat.zero_max] at h3
   exact ⟨h1,⟨h2,h4,.inl (by omega)⟩,h5⟩
  case step =>
   rintro i ⟨_,la,ofs⟩ st2 _ _ ⟨h,⟨h2,h3,h4⟩,rfl⟩
   dsimp only at h h2 h3 h4 ⊢
   by_cases hm:ofs ≥ hint + 1
   ·rw [if_pos hm]
    exact wpS_pure ⟨rfl,⟨h2,h4,.inl hm⟩,rfl⟩
   ·rw [if_neg hm]
    refine wpS_bind (bey (hint - ofs) _ (by omega) ?_)
    cases e:bk L left key (l[hint - ofs]'(by omega))
    ·exact wpS_pure ⟨rfl,⟨by dsimp only; omega,by dsimp only; omega,by dsimp only; omega,by dsimp only; omega,e⟩,rfl⟩
    ·exact wpS_pure ⟨rfl,⟨h2,h4,.inr ⟨by dsimp only; omega,e⟩⟩,rfl⟩
 case' true =>
  rintro ⟨c1,la,ofs⟩ st2 ⟨h,⟨g1,⟨g2,g3⟩,g4⟩,rfl⟩
  dsimp only at h g1 g2 g3 g4 ⊢
  subst h
  dsimp only
  have B:(hint + la + 1≤hint + min ofs (l.length - hint)∧hint + min ofs (l.length - hint)≤l.length∧(∀ i (hi:i < l.length),i < hint + la + 1→bk L left key l[i]=true)∧(∀ i (hi:i < l.length),hint + min ofs (l.length - hint)≤i→bk L left key l[i]=false)):=by
   refine ⟨by omega,by omega,fun i hi h=>mono i (hint + la) (by omega) g2 g3,fun i hi h=>?_⟩
   rcases g4 with z | ⟨z,e⟩
   ·omega
   ·cases e2:bk L left key l[i] with
    | false=>rfl
    | true=>rw [mono (hint + ofs) i (by omega) hi e2] at e; cases e
  generalize hint + la + 1=l0 at B
  generalize hint + min ofs (l.length - hint)=h0 at B
 case' false =>
  rintro ⟨c1,la,ofs⟩ st2 ⟨h,⟨g1,⟨g0,g2,g3⟩,g4⟩,rfl⟩
  dsimp only at h g0 g1 g2 g3 g4 ⊢
  subst h
  dsimp only
  have B:(hint + 1 - min ofs (hint + 1)≤hint - la∧hint - la≤l.length∧(∀ i (hi:i < l.length),i < hint + 1 - min ofs (hint + 1)→bk L left key l[i]=true)∧(∀ i (hi:i < l.length),hint - la≤i→bk L left key l[i]=false)):=by
   refine ⟨by omega,by omega,fun i hi h=>?_,fun i hi h=>?_⟩
   ·rcases g4 with z | ⟨z,e⟩
    ·omega
    ·exact mono i (hint - ofs) (by omega) z e
   ·cases e2:bk L left key l[i] with
    | false=>rfl
    | true=>rw [mono (hint - la) i h hi e2] at g3; cases g3
  generalize hint + 1 - min ofs (hint + 1)=l0 at B
  generalize hint - la=h0 at B
 all_goals
  refine wpS_bind (wpS_mono (wpS_forRange (I:=fun j c st3=>c.1=none∧(c.2.1≤c.2.2∧c.2.2≤l.length∧(∀ i (hi:i < l.length),i < c.2.1→bk L left key l[i]=true)∧(∀ i (hi:i < l.length),c.2.2≤i→bk L left key l[i]=false))∧c.2.2 - c.2.1≤l.length - j∧st3=st2)
   (Q:=fun c st3=>c.1=none∧(c.2.1≤c.2.2∧c.2.2≤l.length∧(∀ i (hi:i < l.length),i < c.2.1→bk L left key l[i]=true)∧(∀ i (hi:i < l.length),c.2.2≤i→bk L left key l[i]=false))∧c.2.2≤c.2.1∧st3=st2) ?_ ?_ ⟨rfl,B,by dsimp only; omega,rfl⟩) ?_)
  ·rintro j ⟨c1,l1,h1⟩ st3 _ _ ⟨e1,⟨b1,b2,b3,b4⟩,e3,rfl⟩
   dsimp only at e1 b1 b2 b3 b4 e3 ⊢
   subst e1
   by_cases hm:l1 ≥ h1
   ·rw [if_pos hm]
    exact wpS_pure ⟨rfl,⟨b1,b2,b3,b4⟩,hm,rfl⟩
   ·rw [if_neg hm]
    refine wpS_bind (bey (l1 + (h1 - l1) / 2) _ (by omega) ?_)
    cases e:bk L left key (l[l1 + (h1 - l1) / 2]'(by omega))
    ·exact wpS_pure ⟨rfl,⟨by dsimp only; omega,by dsimp only; omega,b3,fun i hi h=>by
      cases e2:bk L left key l[i] with
      | false=>rfl
      | true=>rw [mono _ i h hi e2] at e; cases e⟩,by dsimp only; omega,rfl⟩
    ·exact wpS_pure ⟨rfl,⟨by dsimp only; omega,b2,fun i hi h=>mono i _ (by dsimp only at h; omega) (by omega) e,b4⟩,by dsimp only; omega,rfl⟩
  ·rintro ⟨c1,l1,h1⟩ st3 ⟨e1,b,e3,e4⟩
   dsimp only at e1 b e3 ⊢
   rw [Nat.zero_max] at e3
   exact ⟨e1,b,by omega,e4⟩
  ·rintro ⟨c1,l1,h1⟩ st3 ⟨e1,⟨b1,b2,b3,b4⟩,e3,rfl⟩
   dsimp only at e1 b1 b2 b3 b4 e3 ⊢
   subst e1
   have e:l1=h1:=by omega
   subst e
   exact wpS_pure (q _ b2 (T _ b2 b3) (F _ b4))
end
end Tim
namespace Tim
open PySem PyProof.Rows
section
variable {L:Keyed→Keyed→Bool}
theorem Ordr.irr (o:Ordr L) (x:Keyed):L x x=false:=by
 cases e:L x x with
 | false=>rfl
 | true=>rw [← o.asym x x e]; exact e.symm
theorem Sd.drop {l:List Keyed} (h:Sd L l) (i:Nat):Sd L (l.drop i):=List.Pairwise.sublist (List.drop_sublist i l) h
theorem Sd.take {l:List Keyed} (h:Sd L l) (i:Nat):Sd L (l.take i):=List.Pairwise.sublist (List.take_sublist i l) h
theorem Sd.head (o:Ordr L) {a:Array Keyed} (h:Sd L a.toList) {i:Nat} (hi:i < a.size):∀ y∈a.toList.drop i,L y a[i]=false:=fun y hy=>by
 rw [List.drop_eq_getElem_cons (by simpa using hi)] at hy
 have h2:=h.drop i
 rw [List.drop_eq_getElem_cons (by simpa using hi)] at h2
 rcases List.mem_cons.mp hy with z | z
 ·rw [z]
  simp only [Array.getElem_toList]
  exact o.irr _
 ·have:=List.rel_of_pairwise_cons h2 z
  simpa using this
theorem Sd.lastL (o:Ordr L) {a:Array Keyed} (h:Sd L a.toList) {n:Nat} (h0:0 < n) (hi:n - 1 < a.size):∀ y∈a.toList.take n,L a[n - 1] y=false:=fun y hy=>by
 have h2:=h.take n
 rw [take_last a n h0 hi] at hy h2
 rcases List.mem_append.mp hy with z | z
 ·exact (List.pairwise_append.mp h2).2.2 y z _ (List.mem_singleton.mpr rfl)
 ·rw [List.mem_singleton.mp z]
  exact o.irr _
structure SL (L:Keyed→Keyed→Bool) (a b out:Array Keyed) (ia ib:Nat):Prop where
 A:Sd L (out.toList++a.toList.drop ia)
 B:Sd L (out.toList++b.toList.drop ib)
variable {a b out:Array Keyed} {ia ib:Nat}
theorem SL.pushA (h:SL L a b out ia ib) (hi:ia < a.size) (c:∀ y∈b.toList.drop ib,L y a[ia]=false):SL L a b (out.push a[ia]) (ia + 1) ib:=by
 have h1:=h.A
 rw [List.drop_eq_getElem_cons (by simpa using hi),Array.getElem_toList] at h1
 obtain ⟨x,y⟩:=Sd.split (m:=[a[ia]]) h1 h.B (fun x hx y hy=>by rw [List.mem_singleton.mp hx]; exact c y hy)
 exact ⟨by rw [Array.toList_push]; exact x,by rw [Array.toList_push]; exact y⟩
theorem SL.pushB (h:SL L a b out ia ib) (hi:ib < b.size) (c:∀ y∈a.toList.drop ia,L y b[ib]=false):SL L a b (out.push b[ib]) ia (ib + 1):=by
 have h1:=h.B
 rw [List.drop_eq_getElem_cons (by simpa using hi),Array.getElem_toList] at h1
 obtain ⟨x,y⟩:=Sd.split (m:=[b[ib]]) h1 h.A (fun x hx y hy=>by rw [List.mem_singleton.mp hx]; exact c y hy)
 exact ⟨by rw [Array.toList_push]; exact y,by rw [Array.toList_push]; exact x⟩
theorem SL.takeA (h:SL L a b out ia ib) {k:Nat} (c:∀ x∈(a.extract ia (ia + k)).toList,∀ y∈b.toList.drop ib,L y x=false):SL L a b (out++a.extract ia (ia + k)) (ia + k) ib:=by
 have h1:=h.A
 rw [drop_ex a ia (ia + k) (by omega)] at h1
 obtain ⟨x,y⟩:=Sd.split h1 h.B c
 exact ⟨by rw [Array.toList_append]; exact x,by rw [Array.toList_append]; exact y⟩
theorem SL.takeB (h:SL L a b out ia ib) {k:Nat} (c:∀ x∈(b.extract ib (ib + k)).toList,∀ y∈a.toList.drop ia,L y x=false):SL L a b (out++b.extract ib (ib + k)) ia (ib + k):=by
 have h1:=h.B
 rw [drop_ex b ib (ib + k) (by omega)] at h1
 obtain ⟨x,y⟩:=Sd.split h1 h.A c
 exact ⟨by rw [Array.toList_append]; exact y,by rw [Array.toList_append]; exact x⟩
theorem SL.doneB (h:SL L a b out ia ib) (hb:b.size≤ib):Sd L (out++a.extract ia a.size++b.extract ib b.size).toList:=by
 rw [Array.toList_append,Array.toList_append,ext_all,ext_all,List.drop_of_length_le (l:=b.toList) (by simpa using hb),List.append_nil]
 exact h.A
theorem SL.doneA (h:SL L a b out ia ib) (ha:a.size≤ia):Sd L (out++a.extract ia a.size++b.extract ib b.size).toList:=by
 rw [Array.toList_append,Array.toList_append,ext_all,ext_all,List.drop_of_length_le (l:=a.toList) (by simpa using ha),List.append_nil]
 exact h.B
theorem SL.last (h:SL L a b out ia ib) (ha:ia + 1=a.size) (hl:∀ y∈b.toList,L a[ia] y=false):Sd L (out++b.extract ib b.size++a.extract ia a.size).toList:=by
 have hi:ia < a.size:=by omega
 have h1:=h.A
 have e:a.toList.drop ia=[a[ia]]:=by
  rw [List.drop_eq_getElem_cons (by simpa using hi),List.drop_of_length_le (by simp; omega),Array.getElem_toList]
 rw [e] at h1
 rw [Array.toList_append,Array.toList_append,ext_all,ext_all,e]
 refine List.pairwise_append.mpr ⟨h.B,List.pairwise_singleton _ _,fun x hx y hy=>?_⟩
 rw [List.mem_singleton.mp hy]
 rcases List.mem_append.mp hx with z | z
 ·exact (List.pairwise_append.mp h1).2.2 x z _ (List.mem_singleton.mpr rfl)
 ·exact hl x (List.mem_of_mem_drop z)
end
section
variable {prog:Program} {w:World} {A:Around} {E:Value→Shared→Prop} {s:Shared} {κ:SortKind} {a0:Array Keyed} {L:Keyed→Keyed→Bool}
theorem gallop_all (o:Ordr L) (hc:CmpL prog w A s κ a0 L) {left:Bool} {key:Keyed} {arr:Array Keyed} {lo hint:Nat} {st:SortSt} {Q:Option Nat→SortSt→Prop} (hk:kindOf st=κ) (hkey:key∈a0) (hin:In a0 arr) (hn:lo≤arr.size) (hh:hint < arr.size - lo)
  (sd:Sd L arr.toList)
  (q:∀ k,k≤arr.size - lo→(∀ x∈(arr.extract lo (lo + k)).toList,bk L left key x=true)→(∀ x∈arr.toList.drop (lo + k),bk L left key x=false)→Q (some k) st):wpS (model prog w) A E s (gallop' left key arr lo (arr.size - lo) hint) Q st:=by
 have e:(arr.toList.drop lo).take (arr.size - lo)=arr.toList.drop lo:=List.take_of_length_le (by simp)
 refine gallop_L o hc hk hkey hin (by omega) hh (by rw [e]; exact sd.drop lo) fun k hk t f=>q k hk (fun x hx=>t x ?_) (fun x hx=>f x ?_)
 ·rw [e]
  rw [Array.toList_extract,List.extract_eq_take_drop,show lo + k - lo=k by omega] at hx
  exact hx
 ·rw [e,List.drop_drop]
  exact hx
theorem gallop_to (o:Ordr L) (hc:CmpL prog w A s κ a0 L) {left:Bool} {key:Keyed} {arr:Array Keyed} {n hint:Nat} {st:SortSt} {Q:Option Nat→SortSt→Prop} (hk:kindOf st=κ) (hkey:key∈a0) (hin:In a0 arr) (hn:n≤arr.size) (hh:hint < n)
  (sd:Sd L arr.toList)
  (q:∀ k,k≤n→(∀ x∈arr.toList.take k,bk L left key x=true)→(∀ x∈(arr.extract k n).toList,bk L left key x=false)→Q (some k) st):wpS (model prog w) A E s (gallop' left key arr 0 n hint) Q st:=by
 refine gallop_L o hc hk hkey hin (by omega) hh (by rw [List.drop_zero]; exact sd.take n) fun k hk t f=>q k hk (fun x hx=>t x ?_) (fun x hx=>f x ?_)
 ·rw [List.drop_zero,List.take_take,Nat.min_eq_left hk]
  exact hx
 ·rw [List.drop_zero]
  rw [Array.toList_extract,List.extract_eq_take_drop] at hx
  rw [List.drop_take]
  exact hx
theorem bkR {key x:Keyed} (h:bk L false key x=true):L key x=false:=by
 unfold bk at h
 simpa using h
theorem bkR' {key x:Keyed} (h:bk L false key x=false):L key x=true:=by
 unfold bk at h
 simpa using h
theorem mergeLo_L (o:Ordr L) (hc:CmpL prog w A s κ a0 L) {a b:Array Keyed} {st:SortSt} {Q:Array Keyed→SortSt→Prop} (hk:Ok κ a0 st) (ha:In a0 a) (hb:In a0 b) (a1:1≤a.size) (b1:1≤b.size)
  (sda:Sd L a.toList) (sdb:Sd L b.toList) (hf:∀ x∈a.toList,L x b[0]=false) (hl:∀ (i:Nat) (hi:i < a.size),i + 1=a.size→∀ y∈b.toList,L a[i] y=false)
  (q:∀ out st',out.Perm (a++b)→Sd L out.toList→SI κ a0 st st'→Q out st'):wpS (model prog w) A E s (mergeLo' a b) Q st:=by
 have P0:PL a b #[b[0]] 0 1:=by
  have:PL a b #[] 0 0:=by
   unfold PL
   simp
  exact this.pushB (by omega)
 have S0:SL L a b #[b[0]] 0 1:=by
  have:SL L a b #[] 0 0:=⟨by simpa using sda,by simpa using sdb⟩
  exact this.pushB (by omega) (by simpa using hf)
 have hdb:=fun (i:Nat) (hi:i < b.size)=>sdb.head o hi
 have hda:=fun (i:Nat) (hi:i < a.size)=>sda.head o hi
 refine wpS_bind (wpS_lift (wpAny_rule ⟨rfl,?_⟩))
 dsimp only
 refine wpS_bind (elem_ok (by omega) ?_)
 by_cases c1:(1 == b.size)=true
 ·rw [if_pos c1]
  simp only [beq_iff_eq] at c1
  exact wpS_pure (q _ _ P0.done (S0.doneB (by omega)) ⟨hk,rfl,rfl⟩)
 rw [if_neg c1]
 by_cases c2:(0 + 1 == a.size)=true
 ·rw [if_pos c2]
  simp only [beq_iff_eq] at c2
  exact wpS_pure (q _ _ P0.last (S0.last (by omega) (hl 0 (by omega) (by omega))) ⟨hk,rfl,rfl⟩)
 rw [if_neg c2]
 simp only [beq_iff_eq] at c1 c2
 refine wpS_bind (wpS_get ?_)
 refine wpS_bind (wpS_mono (wpS_forRange (I:=fun i c st'=>SI κ a0 st st'∧∃ (out:Array Keyed) (ia ib g:Nat),c=(none,out,ia,ib,g)∧(PL a b out ia ib∧SL L a b out ia ib)∧ia + 1 < a.size∧ib < b.size∧i + 1≤ia + ib)
  (Q:=fun c st'=>SI κ a0 st st'∧∃ r:Array Keyed,c.1=some r∧r.Perm (a++b)∧Sd L r.toList) ?step ?fin ⟨⟨hk,rfl,rfl⟩,_,_,_,_,rfl,⟨P0,S0⟩,by omega,by omega,by omega⟩) ?post)
 case fin =>
  rintro c st' ⟨_,out,ia,ib,g,_,_,h1,h2,h3⟩
  rw [Nat.zero_max] at h3
  omega
 case post =>
  rintro ⟨c,r4⟩ st' ⟨S,r,h,hp⟩
  dsimp only at h ⊢
  subst h
  exact wpS_pure (q _ _ hp.1 hp.2 S)
 case step =>
  rintro i c st1 _ hi ⟨S1,out,ia,ib,g,rfl,P,h1,h2,h3⟩
  dsimp only
  refine wpS_bind (wpS_mono (wpS_forRange (I:=fun j c st'=>SI κ a0 st st'∧∃ (out:Array Keyed) (ia' ib' x y:Nat),c=(none,out,ia',ib',x,y)∧(PL a b out ia' ib'∧SL L a b out ia' ib')∧ia' + 1 < a.size∧ib' < b.size∧ia + ib + j≤ia' + ib')
   (Q:=fun c st'=>SI κ a0 st st'∧((∃ r:Array Keyed,c.1=some r∧r.Perm (a++b)∧Sd L r.toList)∨∃ (out:Array Keyed) (ia' ib' x y:Nat),c=(none,out,ia',ib',x,y)∧(PL a b out ia' ib'∧SL L a b out ia' ib')∧ia' + 1 < a.size∧ib' < b.size∧ia + ib + 1≤ia' + ib')) ?step1 ?fin1 ⟨S1,_,_,_,_,_,rfl,P,h1,h2,by omega⟩) ?post1)
  case fin1 =>
   rintro c st' ⟨S,out,ia',ib',x,y,rfl,P,h1,h2,h3⟩
   rw [Nat.zero_max] at h3
   exact ⟨S,.inr ⟨out,ia',ib',x,y,rfl,P,h1,h2,by omega⟩⟩
  case step1 =>
   rintro j c st2 _ hj ⟨S2,out,ia',ib',x,y,rfl,P2,h1',h2',h3'⟩
   dsimp only
   refine wpS_bind (elem_ok h2' (wpS_bind (elem_ok (by omega) (wpS_bind (lt_L hc S2.ok.kind (hb _ (Array.getElem_mem _)) (ha _ (Array.getElem_mem _)) ?_)))))
   dsimp only
   cases bw:L (b[ib']'h2') (a[ia']'(by omega)) with
   | true =>
    rw [if_pos rfl]
    refine wpS_bind (elem_ok h2' ?_)
    have P3:=P2.1.pushB h2'
    have S3:=P2.2.pushB h2' fun y hy=>o.tr _ a[ia'] _ (o.asym _ _ bw) (hda ia' (by omega) y hy)
    by_cases d1:(ib' + 1 == b.size)=true
    ·rw [if_pos d1]
     simp only [beq_iff_eq] at d1
     exact wpS_pure ⟨S2,.inl ⟨_,rfl,P3.done,S3.doneB (by omega)⟩⟩
    rw [if_neg d1]
    simp only [beq_iff_eq] at d1
    split
    ·exact wpS_pure ⟨S2,.inr ⟨_,_,_,_,_,rfl,⟨P3,S3⟩,h1',by omega,by omega⟩⟩
    ·exact wpS_pure ⟨S2,_,_,_,_,_,rfl,⟨P3,S3⟩,h1',by omega,by omega⟩
   | false =>
    rw [if_neg Bool.false_ne_true]
    refine wpS_bind (elem_ok (by omega) ?_)
    have P3:=P2.1.pushA (by omega)
    have S3:=P2.2.pushA (by omega) fun y hy=>o.tr _ b[ib'] _ bw (hdb ib' h2' y hy)
    by_cases d1:(ia' + 1 + 1 == a.size)=true
    ·rw [if_pos d1]
     simp only [beq_iff_eq] at d1
     exact wpS_pure ⟨S2,.inl ⟨_,rfl,P3.last,S3.last (by omega) (hl _ (by omega) (by omega))⟩⟩
    rw [if_neg d1]
    simp only [beq_iff_eq] at d1
    split
    ·exact wpS_pure ⟨S2,.inr ⟨_,_,_,_,_,rfl,⟨P3,S3⟩,by omega,h2',by omega⟩⟩
    ·exact wpS_pure ⟨S2,_,_,_,_,_,rfl,⟨P3,S3⟩,by omega,h2',by omega⟩
  case post1 =>
   rintro c st2 ⟨S2,⟨r,h,hp⟩ | ⟨out,ia',ib',x,y,rfl,P2,h1',h2',h3'⟩⟩
   ·obtain ⟨c1,cr⟩:=c
    dsimp only at h ⊢
    subst h
    exact wpS_pure ⟨S2,r,rfl,hp⟩
   dsimp only
   refine wpS_bind (wpS_lift (wpAny_rule ⟨rfl,?_⟩))
   refine wpS_bind (wpS_mono (wpS_forRange (I:=fun j c st'=>SI κ a0 st st'∧∃ (out:Array Keyed) (ia' ib' g x y:Nat),c=(none,out,ia',ib',g,x,y)∧(PL a b out ia' ib'∧SL L a b out ia' ib')∧ia' + 1 < a.size∧ib' < b.size∧ia + ib + 1≤ia' + ib')
    (Q:=fun c st'=>SI κ a0 st st'∧((∃ r:Array Keyed,c.1=some r∧r.Perm (a++b)∧Sd L r.toList)∨∃ (out:Array Keyed) (ia' ib' g x y:Nat),c=(none,out,ia',ib',g,x,y)∧(PL a b out ia' ib'∧SL L a b out ia' ib')∧ia' + 1 < a.size∧ib' < b.size∧ia + ib + 1≤ia' + ib')) ?step2 ?fin2 ⟨S2,_,_,_,_,_,_,rfl,P2,h1',h2',h3'⟩) ?post2)
   case fin2 =>
    rintro c st' ⟨S,out,ia',ib',g,x,y,r⟩
    exact ⟨S,.inr ⟨out,ia',ib',g,x,y,r⟩⟩
   case post2 =>
    rintro c st3 ⟨S3,⟨r,h,hp⟩ | ⟨out,ia',ib',g,x,y,rfl,P3,h1',h2',h3'⟩⟩
    ·obtain ⟨c1,cr⟩:=c
     dsimp only at h ⊢
     subst h
     exact wpS_pure ⟨S3,r,rfl,hp⟩
    dsimp only
    refine wpS_bind (wpS_modify (wpS_pure ⟨⟨⟨S3.ok.kind,S3.ok.fail,S3.ok.perm⟩,S3.pend,S3.arr⟩,_,_,_,_,rfl,P3,h1',h2',by omega⟩))
   case step2 =>
    rintro j c st3 _ hj ⟨S3,out,ia',ib',g,x,y,rfl,⟨P3,Z3⟩,h1',h2',h3'⟩
    dsimp only
    by_cases hg:g > 1
    case' pos=>rw [if_pos hg]
    case' neg=>rw [if_neg hg]
    all_goals
     refine wpS_bind (wpS_modify ?_)
     refine wpS_bind (elem_ok h2' ?_)
     refine wpS_bind (gallop_all o hc S3.ok.kind (hb _ (Array.getElem_mem _)) ha (by omega) (by omega) sda fun k hk kt kf=>?_)
     dsimp only
     have kt:∀ x∈(a.extract ia' (ia' + k)).toList,∀ y∈b.toList.drop ib',L y x=false:=fun x hx y hy=>o.tr x b[ib'] y (bkR (kt x hx)) (hdb ib' h2' y hy)
     have kf:∀ x∈a.toList.drop (ia' + k),L x b[ib']=false:=fun x hx=>o.asym _ _ (bkR' (kf x hx))
     by_cases hk0:k > 0
     case' pos =>
      rw [if_pos hk0]
      have P4:=P3.takeA k
      have Z4:=Z3.takeA kt
      by_cases d1:(ia' + k + 1 == a.size)=true
      ·rw [if_pos d1]
       simp only [beq_iff_eq] at d1
       exact wpS_pure ⟨⟨⟨S3.ok.kind,S3.ok.fail,S3.ok.perm⟩,S3.pend,S3.arr⟩,.inl ⟨_,rfl,P4.last,Z4.last (by omega) (hl _ (by omega) (by omega))⟩⟩
      rw [if_neg d1]
      by_cases d2:(ia' + k == a.size)=true
      ·rw [if_pos d2]
       simp only [beq_iff_eq] at d2
       exact wpS_pure ⟨⟨⟨S3.ok.kind,S3.ok.fail,S3.ok.perm⟩,S3.pend,S3.arr⟩,.inl ⟨_,rfl,P4.done,Z4.doneA (by omega)⟩⟩
      rw [if_neg d2]
      simp only [beq_iff_eq] at d1 d2
      have hI:ia' + k + 1 < a.size:=by omega
      have hJ:ia + ib + 1≤ia' + k + ib':=by omega
      generalize out++a.extract ia' (ia' + k)=OUT at P4 Z4
      generalize ia' + k=IA at P4 Z4 hI hJ kf
     case' neg =>
      rw [if_neg hk0]
      have P4:=P3
      have Z4:=Z3
      have hI:=h1'
      have hJ:=h3'
      have kf:∀ x∈a.toList.drop ia',L x b[ib']=false:=by
       have e:ia' + k=ia':=by omega
       rw [e] at kf
       exact kf
      generalize out=OUT at P4 Z4
      generalize ia'=IA at P4 Z4 hI hJ kf
     all_goals
      refine wpS_bind (elem_ok h2' ?_)
      have P5:=P4.pushB h2'
      have Z5:=Z4.pushB h2' kf
      by_cases d3:(ib' + 1 == b.size)=true
      ·rw [if_pos d3]
       simp only [beq_iff_eq] at d3
       exact wpS_pure ⟨⟨⟨S3.ok.kind,S3.ok.fail,S3.ok.perm⟩,S3.pend,S3.arr⟩,.inl ⟨_,rfl,P5.done,Z5.doneB (by omega)⟩⟩
      rw [if_neg d3]
      simp only [beq_iff_eq] at d3
      refine wpS_bind (elem_ok (by omega) ?_)
      refine wpS_bind (gallop_all o hc S3.ok.kind (ha _ (Array.getElem_mem _)) hb (by omega) (by omega) sdb fun k2 hk2 kt2 kf2=>?_)
      dsimp only
      have kt2:∀ x∈(b.extract (ib' + 1) (ib' + 1 + k2)).toList,∀ y∈a.toList.drop IA,L y x=false:=fun x hx y hy=>o.tr x (a[IA]'(by omega)) y (o.asym _ _ (show L x (a[IA]'(by omega))=true from kt2 x hx)) (hda IA (by omega) y hy)
      have kf2:∀ x∈b.toList.drop (ib' + 1 + k2),L x (a[IA]'(by omega))=false:=fun x hx=>kf2 x hx
      by_cases hk3:k2 > 0
      case' pos =>
       rw [if_pos hk3]
       have P6:=P5.takeB k2
       have Z6:=Z5.takeB kt2
       by_cases d4:(ib' + 1 + k2 == b.size)=true
       ·rw [if_pos d4]
        simp only [beq_iff_eq] at d4
        exact wpS_pure ⟨⟨⟨S3.ok.kind,S3.ok.fail,S3.ok.perm⟩,S3.pend,S3.arr⟩,.inl ⟨_,rfl,P6.done,Z6.doneB (by omega)⟩⟩
       rw [if_neg d4]
       simp only [beq_iff_eq] at d4
       have hB:ib' + 1 + k2 < b.size:=by omega
       have hC:ia + ib + 1≤IA + (ib' + 1 + k2):=by omega
      case' neg =>
       rw [if_neg hk3]
       have P6:=P5
       have Z6:=Z5
       have kf2:∀ x∈b.toList.drop (ib' + 1),L x (a[IA]'(by omega))=false:=by
        have e:ib' + 1 + k2=ib' + 1:=by omega
        rw [e] at kf2
        exact kf2
       have hB:ib' + 1 < b.size:=by omega
       have hC:ia + ib + 1≤IA + (ib' + 1):=by omega
      all_goals
       refine wpS_bind (elem_ok (by omega) ?_)
       have P7:=P6.pushA (by omega)
       have Z7:=Z6.pushA (by omega) kf2
       by_cases d5:(IA + 1 + 1 == a.size)=true
       ·rw [if_pos d5]
        simp only [beq_iff_eq] at d5
        exact wpS_pure ⟨⟨⟨S3.ok.kind,S3.ok.fail,S3.ok.perm⟩,S3.pend,S3.arr⟩,.inl ⟨_,rfl,P7.last,Z7.last (by omega) (hl _ (by omega) (by omega))⟩⟩
       rw [if_neg d5]
       simp only [beq_iff_eq] at d5
       by_cases d6:(decide (k < 7) && decide (k2 < 7))=true
       ·rw [if_pos d6]
        exact wpS_pure ⟨⟨⟨S3.ok.kind,S3.ok.fail,S3.ok.perm⟩,S3.pend,S3.arr⟩,.inr ⟨_,_,_,_,_,_,rfl,⟨P7,Z7⟩,by omega,hB,by omega⟩⟩
       ·rw [if_neg d6]
        exact wpS_pure ⟨⟨⟨S3.ok.kind,S3.ok.fail,S3.ok.perm⟩,S3.pend,S3.arr⟩,_,_,_,_,_,_,rfl,⟨P7,Z7⟩,by omega,hB,by omega⟩
end
end Tim
namespace Tim
open PySem PyProof.Rows
section
variable {L:Keyed→Keyed→Bool}
structure SH (L:Keyed→Keyed→Bool) (a b out:Array Keyed) (na nb:Nat):Prop where
 A:Sd L (a.toList.take na++out.toList.reverse)
 B:Sd L (b.toList.take nb++out.toList.reverse)
variable {a b out:Array Keyed} {na nb:Nat}
theorem SH.downA (h:SH L a b out na nb) (h0:0 < na) (hi:na - 1 < a.size) (c:∀ y∈b.toList.take nb,L a[na - 1] y=false):SH L a b (out.push a[na - 1]) (na - 1) nb:=by
 have h1:=h.A
 rw [take_last a na h0 hi] at h1
 obtain ⟨x,y⟩:=Sd.splitR h1 h.B (fun y hy x hx=>by rw [List.mem_singleton.mp hx]; exact c y hy)
 have e:(out.push a[na - 1]).toList.reverse=[a[na - 1]]++out.toList.reverse:=by simp
 exact ⟨by rw [e]; exact x,by rw [e]; exact y⟩
theorem SH.downB (h:SH L a b out na nb) (h0:0 < nb) (hi:nb - 1 < b.size) (c:∀ y∈a.toList.take na,L b[nb - 1] y=false):SH L a b (out.push b[nb - 1]) na (nb - 1):=by
 have h1:=h.B
 rw [take_last b nb h0 hi] at h1
 obtain ⟨x,y⟩:=Sd.splitR h1 h.A (fun y hy x hx=>by rw [List.mem_singleton.mp hx]; exact c y hy)
 have e:(out.push b[nb - 1]).toList.reverse=[b[nb - 1]]++out.toList.reverse:=by simp
 exact ⟨by rw [e]; exact y,by rw [e]; exact x⟩
theorem SH.takeA (h:SH L a b out na nb) {k:Nat} (hk:k≤na) (c:∀ y∈b.toList.take nb,∀ x∈(a.extract k na).toList,L x y=false):SH L a b (out++(a.extract k na).reverse) k nb:=by
 have h1:=h.A
 rw [take_ex a k na hk] at h1
 obtain ⟨x,y⟩:=Sd.splitR h1 h.B c
 have e:(out++(a.extract k na).reverse).toList.reverse=(a.extract k na).toList++out.toList.reverse:=by
  simp only [Array.toList_append,Array.toList_reverse,List.reverse_append,List.reverse_reverse]
 exact ⟨by rw [e]; exact x,by rw [e]; exact y⟩
theorem SH.takeB (h:SH L a b out na nb) {k:Nat} (hk:k≤nb) (c:∀ y∈a.toList.take na,∀ x∈(b.extract k nb).toList,L x y=false):SH L a b (out++(b.extract k nb).reverse) na k:=by
 have h1:=h.B
 rw [take_ex b k nb hk] at h1
 obtain ⟨x,y⟩:=Sd.splitR h1 h.A c
 have e:(out++(b.extract k nb).reverse).toList.reverse=(b.extract k nb).toList++out.toList.reverse:=by
  simp only [Array.toList_append,Array.toList_reverse,List.reverse_append,List.reverse_reverse]
 exact ⟨by rw [e]; exact y,by rw [e]; exact x⟩
theorem SH.doneA (h:SH L a b out na nb) (hn:na=0):Sd L (a.extract 0 na++b.extract 0 nb++out.reverse).toList:=by
 subst hn
 rw [Array.toList_append,Array.toList_append,ext_zero,ext_zero,Array.toList_reverse,List.take_zero,List.nil_append]
 exact h.B
theorem SH.doneB (h:SH L a b out na nb) (hn:nb=0):Sd L (a.extract 0 na++b.extract 0 nb++out.reverse).toList:=by
 subst hn
 rw [Array.toList_append,Array.toList_append,ext_zero,ext_zero,Array.toList_reverse,List.take_zero,List.append_nil]
 exact h.A
theorem SH.first (h:SH L a b out na nb) (b1:1≤b.size) (hn:nb=1) (hf:∀ x∈a.toList,L x b[0]=false):Sd L (b.extract 0 nb++a.extract 0 na++out.reverse).toList:=by
 subst hn
 rw [Array.toList_append,Array.toList_append,ext_zero,ext_zero,Array.toList_reverse,List.append_assoc]
 have e:b.toList.take 1=[b[0]]:=by
  have:=take_last b 1 (by omega) (by omega)
  simpa using this
 have h2:=h.B
 rw [e] at h2 ⊢
 refine List.pairwise_append.mpr ⟨List.pairwise_singleton _ _,h.A,fun x hx y hy=>?_⟩
 rw [List.mem_singleton.mp hx]
 rcases List.mem_append.mp hy with z | z
 ·exact hf y (List.mem_of_mem_take z)
 ·exact (List.pairwise_append.mp h2).2.2 _ (List.mem_singleton.mpr rfl) y z
end
section
variable {prog:Program} {w:World} {A:Around} {E:Value→Shared→Prop} {s:Shared} {κ:SortKind} {a0:Array Keyed} {L:Keyed→Keyed→Bool}
theorem mergeHi_L (o:Ordr L) (hc:CmpL prog w A s κ a0 L) {a b:Array Keyed} {st:SortSt} {Q:Array Keyed→SortSt→Prop} (hk:Ok κ a0 st) (ha:In a0 a) (hb:In a0 b) (a1:1≤a.size) (b1:1≤b.size)
  (sda:Sd L a.toList) (sdb:Sd L b.toList) (hf:∀ x∈a.toList,L x b[0]=false) (hl:∀ y∈b.toList,L (a[a.size - 1]'(by omega)) y=false)
  (q:∀ out st',out.Perm (a++b)→Sd L out.toList→SI κ a0 st st'→Q out st'):wpS (model prog w) A E s (mergeHi' a b) Q st:=by
 have P0:PH a b #[a[a.size - 1]] (a.size - 1) b.size:=by
  have:PH a b #[] a.size b.size:=by
   unfold PH
   rw [List.take_of_length_le (by simp),List.take_of_length_le (by simp)]
   simp
  exact this.downA (by omega) (by omega)
 have S0:SH L a b #[a[a.size - 1]] (a.size - 1) b.size:=by
  have:SH L a b #[] a.size b.size:=by
   constructor
   ·rw [List.take_of_length_le (by simp)]
    simpa using sda
   ·rw [List.take_of_length_le (by simp)]
    simpa using sdb
  exact this.downA (by omega) (by omega) fun y hy=>hl y (List.mem_of_mem_take hy)
 have ldb:=fun (n:Nat) (h0:0 < n) (hi:n - 1 < b.size)=>sdb.lastL o h0 hi
 have lda:=fun (n:Nat) (h0:0 < n) (hi:n - 1 < a.size)=>sda.lastL o h0 hi
 refine wpS_bind (wpS_lift (wpAny_rule ⟨rfl,?_⟩))
 dsimp only
 refine wpS_bind (elem_ok (by omega) ?_)
 by_cases c1:(a.size - 1 == 0)=true
 ·rw [if_pos c1]
  simp only [beq_iff_eq] at c1
  exact wpS_pure (q _ _ P0.done (S0.doneA (by omega)) ⟨hk,rfl,rfl⟩)
 rw [if_neg c1]
 by_cases c2:(b.size == 1)=true
 ·rw [if_pos c2]
  simp only [beq_iff_eq] at c2
  exact wpS_pure (q _ _ P0.first (S0.first b1 (by omega) hf) ⟨hk,rfl,rfl⟩)
 rw [if_neg c2]
 simp only [beq_iff_eq] at c1 c2
 refine wpS_bind (wpS_get ?_)
 refine wpS_bind (wpS_mono (wpS_forRange (I:=fun i c st'=>SI κ a0 st st'∧∃ (out:Array Keyed) (na nb g:Nat),c=(none,na,nb,out,g)∧(PH a b out na nb∧SH L a b out na nb)∧1≤na∧na≤a.size∧2≤nb∧nb≤b.size∧na + nb + i + 1≤a.size + b.size)
  (Q:=fun c st'=>SI κ a0 st st'∧∃ r:Array Keyed,c.1=some r∧r.Perm (a++b)∧Sd L r.toList) ?step ?fin ⟨⟨hk,rfl,rfl⟩,_,_,_,_,rfl,⟨P0,S0⟩,by omega,by omega,by omega,by omega,by omega⟩) ?post)
 case fin =>
  rintro c st' ⟨_,out,na,nb,g,_,_,h1,h1b,h2,h2b,h3⟩
  rw [Nat.zero_max] at h3
  omega
 case post =>
  rintro ⟨c,r4⟩ st' ⟨S,r,h,hp⟩
  dsimp only at h ⊢
  subst h
  exact wpS_pure (q _ _ hp.1 hp.2 S)
 case step =>
  rintro i c st1 _ hi ⟨S1,out,na,nb,g,rfl,P,h1,h1b,h2,h2b,h3⟩
  dsimp only
  refine wpS_bind (wpS_mono (wpS_forRange (I:=fun j c st'=>SI κ a0 st st'∧∃ (out:Array Keyed) (ma mb x y:Nat),c=(none,ma,mb,out,x,y)∧(PH a b out ma mb∧SH L a b out ma mb)∧1≤ma∧ma≤a.size∧2≤mb∧mb≤b.size∧ma + mb + j≤na + nb)
   (Q:=fun c st'=>SI κ a0 st st'∧((∃ r:Array Keyed,c.1=some r∧r.Perm (a++b)∧Sd L r.toList)∨∃ (out:Array Keyed) (ma mb x y:Nat),c=(none,ma,mb,out,x,y)∧(PH a b out ma mb∧SH L a b out ma mb)∧1≤ma∧ma≤a.size∧2≤mb∧mb≤b.size∧ma + mb + 1≤na + nb)) ?step1 ?fin1 ⟨S1,_,_,_,_,_,rfl,P,h1,h1b,h2,h2b,by omega⟩) ?post1)
  case fin1 =>
   rintro c st' ⟨S,out,ma,mb,x,y,rfl,P,h1,h1b,h2,h2b,h3⟩
   rw [Nat.zero_max] at h3
   exact ⟨S,.inr ⟨out,ma,mb,x,y,rfl,P,h1,h1b,h2,h2b,by omega⟩⟩
  case step1 =>
   rintro j c st2 _ hj ⟨S2,out,ma,mb,x,y,rfl,P2,h1',h1b',h2',h2b',h3'⟩
   dsimp only
   refine wpS_bind (elem_ok (by omega) (wpS_bind (elem_ok (by omega) (wpS_bind (lt_L hc S2.ok.kind (hb _ (Array.getElem_mem _)) (ha _ (Array.getElem_mem _)) ?_)))))
   dsimp only
   cases bw:L (b[mb - 1]'(by omega)) (a[ma - 1]'(by omega)) with
   | true =>
    rw [if_pos rfl]
    refine wpS_bind (elem_ok (by omega) ?_)
    have P3:=P2.1.downA (by omega) (by omega)
    have Z3:=P2.2.downA (by omega) (by omega) fun y hy=>o.tr y b[mb - 1] _ (ldb mb (by omega) (by omega) y hy) (o.asym _ _ bw)
    by_cases d1:(ma - 1 == 0)=true
    ·rw [if_pos d1]
     simp only [beq_iff_eq] at d1
     exact wpS_pure ⟨S2,.inl ⟨_,rfl,P3.done,Z3.doneA (by omega)⟩⟩
    rw [if_neg d1]
    simp only [beq_iff_eq] at d1
    split
    ·exact wpS_pure ⟨S2,.inr ⟨_,_,_,_,_,rfl,⟨P3,Z3⟩,by omega,by omega,by omega,by omega,by omega⟩⟩
    ·exact wpS_pure ⟨S2,_,_,_,_,_,rfl,⟨P3,Z3⟩,by omega,by omega,by omega,by omega,by omega⟩
   | false =>
    rw [if_neg Bool.false_ne_true]
    refine wpS_bind (elem_ok (by omega) ?_)
    have P3:=P2.1.downB (by omega) (by omega)
    have Z3:=P2.2.downB (by omega) (by omega) fun y hy=>o.tr y a[ma - 1] _ (lda ma (by omega) (by omega) y hy) bw
    by_cases d1:(mb - 1 == 1)=true
    ·rw [if_pos d1]
     simp only [beq_iff_eq] at d1
     exact wpS_pure ⟨S2,.inl ⟨_,rfl,P3.first,Z3.first b1 (by omega) hf⟩⟩
    rw [if_neg d1]
    simp only [beq_iff_eq] at d1
    split
    ·exact wpS_pure ⟨S2,.inr ⟨_,_,_,_,_,rfl,⟨P3,Z3⟩,by omega,by omega,by omega,by omega,by omega⟩⟩
    ·exact wpS_pure ⟨S2,_,_,_,_,_,rfl,⟨P3,Z3⟩,by omega,by omega,by omega,by omega,by omega⟩
  case post1 =>
   rintro c st2 ⟨S2,⟨r,h,hp⟩ | ⟨out,ma,mb,x,y,rfl,P2,h1',h1b',h2',h2b',h3'⟩⟩
   ·obtain ⟨c1,cr⟩:=c
    dsimp only at h ⊢
    subst h
    exact wpS_pure ⟨S2,r,rfl,hp⟩
   dsimp only
   refine wpS_bind (wpS_lift (wpAny_rule ⟨rfl,?_⟩))
   refine wpS_bind (wpS_mono (wpS_forRange (I:=fun j c st'=>SI κ a0 st st'∧∃ (out:Array Keyed) (ma mb g x y:Nat),c=(none,ma,mb,out,g,x,y)∧(PH a b out ma mb∧SH L a b out ma mb)∧1≤ma∧ma≤a.size∧2≤mb∧mb≤b.size∧ma + mb + 1≤na + nb)
    (Q:=fun c st'=>SI κ a0 st st'∧((∃ r:Array Keyed,c.1=some r∧r.Perm (a++b)∧Sd L r.toList)∨∃ (out:Array Keyed) (ma mb g x y:Nat),c=(none,ma,mb,out,g,x,y)∧(PH a b out ma mb∧SH L a b out ma mb)∧1≤ma∧ma≤a.size∧2≤mb∧mb≤b.size∧ma + mb + 1≤na + nb)) ?step2 ?fin2 ⟨S2,_,_,_,_,_,_,rfl,P2,h1',h1b',h2',h2b',h3'⟩) ?post2)
   case fin2 =>
    rintro c st' ⟨S,out,ma,mb,g,x,y,r⟩
    exact ⟨S,.inr ⟨out,ma,mb,g,x,y,r⟩⟩
   case post2 =>
    rintro c st3 ⟨S3,⟨r,h,hp⟩ | ⟨out,ma,mb,g,x,y,rfl,P3,h1',h1b',h2',h2b',h3'⟩⟩
    ·obtain ⟨c1,cr⟩:=c
     dsimp only at h ⊢
     subst h
     exact wpS_pure ⟨S3,r,rfl,hp⟩
    dsimp only
    refine wpS_bind (wpS_modify (wpS_pure ⟨⟨⟨S3.ok.kind,S3.ok.fail,S3.ok.perm⟩,S3.pend,S3.arr⟩,_,_,_,_,rfl,P3,by omega,by omega,by omega,by omega,by omega⟩))
   case step2 =>
    rintro j c st3 _ hj ⟨S3,out,ma,mb,g,x,y,rfl,⟨P3,Z3⟩,h1',h1b',h2',h2b',h3'⟩
    dsimp only
    by_cases hg:g > 1
    case' pos=>rw [if_pos hg]
    case' neg=>rw [if_neg hg]
    all_goals
     refine wpS_bind (wpS_modify ?_)
     refine wpS_bind (elem_ok (by omega) ?_)
     refine wpS_bind (gallop_to o hc S3.ok.kind (hb _ (Array.getElem_mem _)) ha (by omega) (by omega) sda fun k hk kt kf=>?_)
     dsimp only
     have kf:∀ y∈b.toList.take mb,∀ x∈(a.extract k ma).toList,L x y=false:=fun y hy x hx=>o.tr y (b[mb - 1]'(by omega)) x (ldb mb (by omega) (by omega) y hy) (o.asym _ _ (bkR' (kf x hx)))
     have kt:∀ x∈a.toList.take k,L (b[mb - 1]'(by omega)) x=false:=fun x hx=>bkR (kt x hx)
     by_cases hk0:ma - k > 0
     case' pos =>
      rw [if_pos hk0]
      have P4:=P3.takeA hk
      have Z4:=Z3.takeA hk kf
      by_cases d1:(k == 0)=true
      ·rw [if_pos d1]
       simp only [beq_iff_eq] at d1
       exact wpS_pure ⟨⟨⟨S3.ok.kind,S3.ok.fail,S3.ok.perm⟩,S3.pend,S3.arr⟩,.inl ⟨_,rfl,P4.done,Z4.doneA (by omega)⟩⟩
      rw [if_neg d1]
      simp only [beq_iff_eq] at d1
      have hI:1≤k∧k≤a.size:=by omega
      have hJ:k + mb + 1≤na + nb:=by omega
      generalize hX:ma - k=X
      generalize out++(a.extract k ma).reverse=OUT at P4 Z4
      clear hk0 hX hk kf
      generalize k=M at *
     case' neg =>
      rw [if_neg hk0]
      have P4:=P3
      have Z4:=Z3
      have ek:k=ma:=by omega
      rw [ek] at kt
      have hI:1≤ma∧ma≤a.size:=by omega
      have hJ:ma + mb + 1≤na + nb:=by omega
      generalize hX:ma - k=X
      generalize out=OUT at P4 Z4
      clear hk0 hX hk P3 Z3 h1' h1b' h3' kf ek
      generalize ma=M at *
     all_goals
      refine wpS_bind (elem_ok (by omega) ?_)
      have P5:=P4.downB (by omega) (by omega)
      have Z5:=Z4.downB (by omega) (by omega) kt
      by_cases d3:(mb - 1 == 1)=true
      ·rw [if_pos d3]
       simp only [beq_iff_eq] at d3
       exact wpS_pure ⟨⟨⟨S3.ok.kind,S3.ok.fail,S3.ok.perm⟩,S3.pend,S3.arr⟩,.inl ⟨_,rfl,P5.first,Z5.first b1 (by omega) hf⟩⟩
      rw [if_neg d3]
      simp only [beq_iff_eq] at d3
      refine wpS_bind (elem_ok (by omega) ?_)
      refine wpS_bind (gallop_to o hc S3.ok.kind (ha _ (Array.getElem_mem _)) hb (by omega) (by omega) sdb fun k2 hk2 kt2 kf2=>?_)
      dsimp only
      have kf2:∀ y∈a.toList.take M,∀ x∈(b.extract k2 (mb - 1)).toList,L x y=false:=fun y hy x hx=>o.tr y (a[M - 1]'(by omega)) x (lda M (by omega) (by omega) y hy) (show L x (a[M - 1]'(by omega))=false from kf2 x hx)
      have kt2:∀ x∈b.toList.take k2,L (a[M - 1]'(by omega)) x=false:=fun x hx=>o.asym _ _ (show L x (a[M - 1]'(by omega))=true from kt2 x hx)
      by_cases hk3:mb - 1 - k2 > 0
      case' pos =>
       rw [if_pos hk3]
       have P6:=P5.takeB hk2
       have Z6:=Z5.takeB hk2 kf2
       by_cases d4:(k2 == 1)=true
       ·rw [if_pos d4]
        simp only [beq_iff_eq] at d4
        exact wpS_pure ⟨⟨⟨S3.ok.kind,S3.ok.fail,S3.ok.perm⟩,S3.pend,S3.arr⟩,.inl ⟨_,rfl,P6.first,Z6.first b1 (by omega) hf⟩⟩
       rw [if_neg d4]
       by_cases d5:(k2 == 0)=true
       ·rw [if_pos d5]
        simp only [beq_iff_eq] at d5
        exact wpS_pure ⟨⟨⟨S3.ok.kind,S3.ok.fail,S3.ok.perm⟩,S3.pend,S3.arr⟩,.inl ⟨_,rfl,P6.done,Z6.doneB (by omega)⟩⟩
       rw [if_neg d5]
       simp only [beq_iff_eq] at d4 d5
      case' neg =>
       rw [if_neg hk3]
       have P6:=P5
       have Z6:=Z5
       have ek2:k2=mb - 1:=by omega
       rw [ek2] at kt2
      all_goals
       refine wpS_bind (elem_ok (by omega) ?_)
       have P7:=P6.downA (by omega) (by omega)
       have Z7:=Z6.downA (by omega) (by omega) kt2
       by_cases d6:(M - 1 == 0)=true
       ·rw [if_pos d6]
        simp only [beq_iff_eq] at d6
        exact wpS_pure ⟨⟨⟨S3.ok.kind,S3.ok.fail,S3.ok.perm⟩,S3.pend,S3.arr⟩,.inl ⟨_,rfl,P7.done,Z7.doneA (by omega)⟩⟩
       rw [if_neg d6]
       simp only [beq_iff_eq] at d6
       split
       ·exact wpS_pure ⟨⟨⟨S3.ok.kind,S3.ok.fail,S3.ok.perm⟩,S3.pend,S3.arr⟩,.inr ⟨_,_,_,_,_,_,rfl,⟨P7,Z7⟩,by omega,by omega,by omega,by omega,by omega⟩⟩
       ·exact wpS_pure ⟨⟨⟨S3.ok.kind,S3.ok.fail,S3.ok.perm⟩,S3.pend,S3.arr⟩,_,_,_,_,_,_,rfl,⟨P7,Z7⟩,by omega,by omega,by omega,by omega,by omega⟩
end
end Tim
namespace Tim
open PySem PyProof.Rows
section
variable {L:Keyed→Keyed→Bool}
def RS (L:Keyed→Keyed→Bool):List (Nat×Nat×Nat)→List Keyed→Prop
 | [],_=>True
 | r::rest,l=>Sd L (l.take r.2.1)∧RS L rest (l.drop r.2.1)
theorem Chain.ge:∀ {rs:List (Nat×Nat×Nat)} {b e i:Nat} {x:Nat×Nat×Nat},Chain rs b e→rs[i]?=some x→b≤x.1∧x.1 + x.2.1≤e
 | [],_,_,_,_,_,h=>by simp at h
 | r::rest,b,e,0,x,h,h1=>by
  obtain rfl:r=x:=by simpa using h1
  have:=h.2.2.le
  have:=h.1
  omega
 | r::rest,b,e,i + 1,x,h,h1=>by
  have:=h.2.2.ge (i:=i) (by simpa using h1)
  omega
theorem RS.at:∀ {rs:List (Nat×Nat×Nat)} {b e i:Nat} {x:Nat×Nat×Nat} {l:List Keyed},Chain rs b e→RS L rs l→rs[i]?=some x→Sd L ((l.drop (x.1 - b)).take x.2.1)
 | [],_,_,_,_,_,_,_,h=>by simp at h
 | r::rest,b,e,0,x,l,c,h,h1=>by
  obtain rfl:r=x:=by simpa using h1
  rw [show r.1 - b=0 by have:=c.1; omega,List.drop_zero]
  exact h.1
 | r::rest,b,e,i + 1,x,l,c,h,h1=>by
  have h1:rest[i]?=some x:=by simpa using h1
  have g:=c.2.2.ge h1
  have:=RS.at c.2.2 h.2 h1
  rw [List.drop_drop,show r.2.1 + (x.1 - (b + r.2.1))=x.1 - b by omega] at this
  exact this
theorem RS.put:∀ {rs:List (Nat×Nat×Nat)} {b e i:Nat} {x y:Nat×Nat×Nat} {l M:List Keyed},Chain rs b e→RS L rs l→e - b≤l.length→rs[i]?=some x→rs[i + 1]?=some y→M.length=x.2.1 + y.2.1→Sd L M →
  RS L ((rs.set i (x.1,x.2.1 + y.2.1,x.2.2)).eraseIdx (i + 1)) (l.take (x.1 - b)++(M++l.drop (x.1 - b + (x.2.1 + y.2.1))))
 | [],_,_,_,_,_,_,_,_,_,_,h,_,_,_=>by simp at h
 | r::rest,b,e,0,x,y,l,M,c,h,hl,h1,h2,hM,sM=>by
  obtain rfl:r=x:=by simpa using h1
  cases rest with
  | nil=>simp at h2
  | cons r2 rest =>
   obtain rfl:r2=y:=by simpa using h2
   rw [show r.1 - b=0 by have:=c.1; omega,List.take_zero,List.nil_append,show 0 + (r.2.1 + r2.2.1)=r.2.1 + r2.2.1 from Nat.zero_add _]
   show Sd L ((M++l.drop (r.2.1 + r2.2.1)).take (r.2.1 + r2.2.1))∧RS L rest ((M++l.drop (r.2.1 + r2.2.1)).drop (r.2.1 + r2.2.1))
   rw [← hM,List.take_left',List.drop_left',hM]
   ·refine ⟨sM,?_⟩
    have:=h.2.2
    rw [List.drop_drop] at this
    exact this
   ·rfl
   ·rfl
 | r::rest,b,e,i + 1,x,y,l,M,c,h,hl,h1,h2,hM,sM=>by
  have h1:rest[i]?=some x:=by simpa using h1
  have h2:rest[i + 1]?=some y:=by simpa using h2
  have g:=c.2.2.ge h1
  have g2:=c.2.2.ge h2
  have hl2:e - (b + r.2.1)≤(l.drop r.2.1).length:=by rw [List.length_drop]; omega
  have ih:=RS.put c.2.2 h.2 hl2 h1 h2 hM sM
  have e1:x.1 - b=r.2.1 + (x.1 - (b + r.2.1)):=by omega
  rw [List.drop_drop] at ih
  show RS L (r::(rest.set i _).eraseIdx (i + 1)) _
  refine ⟨?_,?_⟩
  ·rw [List.take_append_of_le_length (by rw [List.length_take]; omega),List.take_take,Nat.min_eq_left (by omega)]
   exact h.1
  ·have e2:(l.take (x.1 - b)++(M++l.drop (x.1 - b + (x.2.1 + y.2.1)))).drop r.2.1=(l.drop r.2.1).take (x.1 - (b + r.2.1))++(M++l.drop (r.2.1 + (x.1 - (b + r.2.1) + (x.2.1 + y.2.1)))):=by
    rw [List.drop_append_of_le_length (by rw [List.length_take]; omega),List.drop_take,show x.1 - b - r.2.1=x.1 - (b + r.2.1) by omega,show x.1 - b + (x.2.1 + y.2.1)=r.2.1 + (x.1 - (b + r.2.1) + (x.2.1 + y.2.1)) by omega]
   rw [e2]
   exact ih
theorem RS.snoc:∀ {rs:List (Nat×Nat×Nat)} {b e n p:Nat} {l:List Keyed},Chain rs b e→RS L rs l→Sd L ((l.drop (e - b)).take n)→RS L (rs++[(e,n,p)]) l
 | [],b,e,n,p,l,c,_,h=>by
  have c:b=e:=c
  rw [show e - b=0 by omega,List.drop_zero] at h
  exact ⟨h,trivial⟩
 | r::rest,b,e,n,p,l,c,h,hs=>by
  have:=c.2.2.le
  refine ⟨h.1,RS.snoc c.2.2 h.2 ?_⟩
  rw [List.drop_drop,show r.2.1 + (e - (b + r.2.1))=e - b by omega]
  exact hs
theorem RS.mod:∀ {rs:List (Nat×Nat×Nat)} {l:List Keyed} (i pw:Nat),RS L rs l→RS L (rs.modify i fun x=>(x.1,x.2.1,pw)) l
 | [],_,i,_,h=>by cases i <;> exact h
 | _::_,_,0,_,h=>h
 | _::_,_,i + 1,pw,h=>⟨h.1,h.2.mod i pw⟩
theorem RS.same:∀ {rs:List (Nat×Nat×Nat)} {b e:Nat} {l l':List Keyed},Chain rs b e→RS L rs l→l'.take (e - b)=l.take (e - b)→RS L rs l'
 | [],_,_,_,_,_,_,_=>trivial
 | r::rest,b,e,l,l',c,h,hs=>by
  have:=c.2.2.le
  refine ⟨?_,RS.same c.2.2 h.2 ?_⟩
  ·have:=congrArg (List.take r.2.1) hs
   rw [List.take_take,List.take_take,Nat.min_eq_left (by omega)] at this
   rw [this]
   exact h.1
  ·have:=congrArg (List.drop r.2.1) hs
   rw [List.drop_take,List.drop_take] at this
   rw [show e - (b + r.2.1)=e - b - r.2.1 by omega]
   exact this
theorem merged (o:Ordr L) {A B out:List Keyed} {k k2:Nat} {b0 al:Keyed} (sA:Sd L A) (sB:Sd L B) (hb:∀ y∈B,L y b0=false) (hal:∀ x∈A,L al x=false)
  (t1:∀ x∈A.take k,L b0 x=false) (f2:∀ x∈B.drop k2,L x al=false) (so:Sd L out) (hp:out.Perm (A.drop k++B.take k2)):Sd L (A.take k++(out++B.drop k2)):=by
 have sA2:Sd L (A.take k++A.drop k):=by rw [List.take_append_drop]; exact sA
 have sB2:Sd L (B.take k2++B.drop k2):=by rw [List.take_append_drop]; exact sB
 obtain ⟨a1,a2,a3⟩:=List.pairwise_append.mp sA2
 obtain ⟨b1,b2,b3⟩:=List.pairwise_append.mp sB2
 have om:∀ x∈out,x∈A.drop k∨x∈B.take k2:=fun x hx=>List.mem_append.mp (hp.mem_iff.mp hx)
 refine List.pairwise_append.mpr ⟨a1,List.pairwise_append.mpr ⟨so,b2,fun x hx y hy=>?_⟩,fun x hx y hy=>?_⟩
 ·rcases om x hx with z | z
  ·exact o.tr x al y (hal x (List.mem_of_mem_drop z)) (f2 y hy)
  ·exact b3 x z y hy
 ·have inB:y∈B→L y x=false:=fun z=>o.tr x b0 y (t1 x hx) (hb y z)
  rcases List.mem_append.mp hy with z | z
  ·rcases om y z with z | z
   ·exact a3 x hx y z
   ·exact inB (List.mem_of_mem_take z)
  ·exact inB (List.mem_of_mem_drop z)
end
section
variable {prog:Program} {w:World} {A:Around} {E:Value→Shared→Prop} {s:Shared} {κ:SortKind} {a0:Array Keyed} {L:Keyed→Keyed→Bool}
theorem mergeAt_L (o:Ordr L) (hc:CmpL prog w A s κ a0 L) {i lo:Nat} {st:SortSt} {Q:Bool→SortSt→Prop} (ok:Ok κ a0 st) (hr:Chain (pendingOf st).toList 0 lo) (hs:RS L (pendingOf st).toList (arrOf st).toList) (hlo:lo≤a0.size) (hi:i + 1 < (pendingOf st).size)
  (q:∀ st',Ok κ a0 st'→Chain (pendingOf st').toList 0 lo→RS L (pendingOf st').toList (arrOf st').toList→(arrOf st').toList.drop lo=(arrOf st).toList.drop lo→(pendingOf st').size + 1=(pendingOf st).size→Q true st'):wpS (model prog w) A E s (mergeAt' i) Q st:=by
 have e1:(pendingOf st)[i]?=some (pendingOf st)[i]:=Array.getElem?_eq_getElem (by omega)
 have e2:(pendingOf st)[i + 1]?=some (pendingOf st)[i + 1]:=Array.getElem?_eq_getElem hi
 generalize (pendingOf st)[i]=x at e1
 generalize (pendingOf st)[i + 1]=y at e2
 have el1:(pendingOf st).toList[i]?=some x:=by rw [Array.getElem?_toList]; exact e1
 have el2:(pendingOf st).toList[i + 1]?=some y:=by rw [Array.getElem?_toList]; exact e2
 obtain ⟨g1,g2,g3,g4,g5⟩:=hr.merge el1 el2
 have hsz:(arrOf st).size=a0.size:=ok.perm.size_eq
 have sA:=RS.at hr hs el1
 have sB:=RS.at hr hs el2
 have put:=fun (M:List Keyed)=>RS.put (M:=M) hr hs (by rw [Array.length_toList]; omega) el1 el2
 obtain ⟨sa,na,pw⟩:=x
 obtain ⟨sb,nb,pw2⟩:=y
 dsimp only at g1 g2 g3 g4 g5 sA sB put
 rw [Nat.sub_zero] at sA sB
 simp only [Nat.sub_zero] at put
 have hin:In a0 (arrOf st):=fun z hz=>ok.perm.mem_iff.mp hz
 refine wpS_bind (wpS_get ?_)
 show wpS _ _ _ _ (match ((pendingOf st)[i]?,(pendingOf st)[i + 1]?) with | _=>_) Q st
 rw [e1,e2]
 dsimp only
 have pe:((((pendingOf st).setIfInBounds i (sa,na + nb,pw)).eraseIdxIfInBounds (i + 1)).toList)=((pendingOf st).toList.set i (sa,na + nb,pw)).eraseIdx (i + 1):=by
  rw [Array.eraseIdxIfInBounds_eq]
  simp [hi]
 have ps:(((pendingOf st).setIfInBounds i (sa,na + nb,pw)).eraseIdxIfInBounds (i + 1)).size + 1=(pendingOf st).size:=by
  have:=congrArg List.length pe
  rw [Array.length_toList,List.length_eraseIdx_of_lt (by simpa using hi),List.length_set,Array.length_toList] at this
  omega
 have okn:∀ (pp:Array (Nat×Nat×Nat)) (g:Nat),Ok κ a0 (SortSt.mk' (kindOf st) (arrOf st) pp g (failedOf st)):=fun _ _=>⟨ok.kind,ok.fail,ok.perm⟩
 refine wpS_bind (wpS_set ?_)
 -- the two runs,as lists
 have lA:(((arrOf st).toList.drop sa).take na).length=na:=by rw [List.length_take,List.length_drop,Array.length_toList]; omega
 have lB:(((arrOf st).toList.drop sb).take nb).length=nb:=by rw [List.length_take,List.length_drop,Array.length_toList]; omega
 have whole:(arrOf st).toList=(arrOf st).toList.take sa++((((arrOf st).toList.drop sa).take na++((arrOf st).toList.drop sb).take nb)++(arrOf st).toList.drop (sa + (na + nb))):=by
  have t1:(arrOf st).toList.drop sa=((arrOf st).toList.drop sa).take na++(arrOf st).toList.drop sb:=by
   conv=>lhs; rw [← List.take_append_drop na ((arrOf st).toList.drop sa),List.drop_drop]
   rw [g1]
  have t2:(arrOf st).toList.drop sb=((arrOf st).toList.drop sb).take nb++(arrOf st).toList.drop (sa + (na + nb)):=by
   conv=>lhs; rw [← List.take_append_drop nb ((arrOf st).toList.drop sb),List.drop_drop]
   rw [show sb + nb=sa + (na + nb) by omega]
  rw [List.append_assoc,← t2,← t1,List.take_append_drop]
 have headB:∀ y∈((arrOf st).toList.drop sb).take nb,L y ((arrOf st)[sb]'(by omega))=false:=fun y hy=>by
  obtain ⟨j,hj,rfl⟩:=List.mem_iff_getElem.mp hy
  rw [lB] at hj
  have e0:(arrOf st)[sb]'(by omega)=(((arrOf st).toList.drop sb).take nb)[0]'(by omega):=by
   rw [List.getElem_take,List.getElem_drop,Array.getElem_toList]
   rfl
  rw [e0]
  by_cases z:j=0
  ·subst z; exact o.irr _
  ·exact List.pairwise_iff_getElem.mp sB 0 j (by omega) (by omega) (by omega)
 have leaf:Sd L (((arrOf st).toList.drop sa).take na++((arrOf st).toList.drop sb).take nb)→Q true (SortSt.mk' (kindOf st) (arrOf st) (((pendingOf st).setIfInBounds i (sa,na + nb,pw)).eraseIdxIfInBounds (i + 1)) (gallopOf st) (failedOf st)):=fun sM=>by
  refine q _ (okn _ _) (by show Chain (Array.toList _) 0 lo; rw [pe]; exact g5) ?_ rfl ps
  have:=put _ (by rw [List.length_append,lA,lB]) sM
  rw [← whole] at this
  show RS L (Array.toList _) _
  rw [pe]
  exact this
 refine wpS_bind (elem_ok (show sb < (arrOf st).size by omega) ?_)
 refine wpS_bind (gallop_L o hc ok.kind (hin _ (Array.getElem_mem _)) hin (show sa + na≤(arrOf st).size by omega) (by omega) sA fun k hk kt kf=>?_)
 dsimp only
 have kt:∀ x∈(((arrOf st).toList.drop sa).take na).take k,L ((arrOf st)[sb]'(by omega)) x=false:=fun x hx=>bkR (kt x hx)
 have kf:∀ x∈(((arrOf st).toList.drop sa).take na).drop k,L ((arrOf st)[sb]'(by omega)) x=true:=fun x hx=>bkR' (kf x hx)
 by_cases d1:(na - k == 0)=true
 ·rw [if_pos d1]
  simp only [beq_iff_eq] at d1
  refine wpS_pure (leaf (List.pairwise_append.mpr ⟨sA,sB,fun x hx y hy=>?_⟩))
  rw [List.take_of_length_le (by omega)] at kt
  exact o.tr x _ y (kt x hx) (headB y hy)
 rw [if_neg d1]
 simp only [beq_iff_eq] at d1
 have ila:sa + k + (na - k) - 1 < (arrOf st).size:=by omega
 have lastA:∀ y∈((arrOf st).toList.drop sa).take na,L ((arrOf st)[sa + k + (na - k) - 1]'ila) y=false:=fun y hy=>by
  obtain ⟨j,hj,rfl⟩:=List.mem_iff_getElem.mp hy
  rw [lA] at hj
  have e0:(arrOf st)[sa + k + (na - k) - 1]'ila=(((arrOf st).toList.drop sa).take na)[na - 1]'(by omega):=by
   rw [List.getElem_take,List.getElem_drop,Array.getElem_toList]
   congr 1
   omega
  rw [e0]
  by_cases z:j=na - 1
  ·subst z; exact o.irr _
  ·exact List.pairwise_iff_getElem.mp sA j (na - 1) (by omega) (by omega) (by omega)
 refine wpS_bind (elem_ok ila ?_)
 refine wpS_bind (gallop_L o hc ok.kind (hin _ (Array.getElem_mem _)) hin (show sb + nb≤(arrOf st).size by omega) (by omega) sB fun k2 hk2 kt2 kf2=>?_)
 dsimp only
 have kt2:∀ x∈(((arrOf st).toList.drop sb).take nb).take k2,L x ((arrOf st)[sa + k + (na - k) - 1]'ila)=true:=fun x hx=>kt2 x hx
 have kf2:∀ x∈(((arrOf st).toList.drop sb).take nb).drop k2,L x ((arrOf st)[sa + k + (na - k) - 1]'ila)=false:=fun x hx=>kf2 x hx
 by_cases d2:(k2 == 0)=true
 ·rw [if_pos d2]
  simp only [beq_iff_eq] at d2
  refine wpS_pure (leaf (List.pairwise_append.mpr ⟨sA,sB,fun x hx y hy=>?_⟩))
  rw [d2,List.drop_zero] at kf2
  exact o.tr x _ y (lastA x hx) (kf2 y hy)
 rw [if_neg d2]
 simp only [beq_iff_eq] at d2
 have xs:((arrOf st).extract (sa + k) sb).size=na - k:=by rw [Array.size_extract]; omega
 have ys:((arrOf st).extract sb (sb + k2)).size=k2:=by rw [Array.size_extract]; omega
 have xl:((arrOf st).extract (sa + k) sb).toList=(((arrOf st).toList.drop sa).take na).drop k:=by
  rw [Array.toList_extract,List.extract_eq_take_drop,List.drop_take,List.drop_drop]
  congr 1
  omega
 have yl:((arrOf st).extract sb (sb + k2)).toList=(((arrOf st).toList.drop sb).take nb).take k2:=by
  rw [Array.toList_extract,List.extract_eq_take_drop,List.take_take,Nat.min_eq_left hk2]
  congr 1
  omega
 have inx:In a0 ((arrOf st).extract (sa + k) sb):=fun z hz=>hin z (by
  rw [← Array.mem_toList_iff] at hz ⊢
  rw [Array.toList_extract,List.extract_eq_take_drop] at hz
  exact List.mem_of_mem_drop (List.mem_of_mem_take hz))
 have iny:In a0 ((arrOf st).extract sb (sb + k2)):=fun z hz=>hin z (by
  rw [← Array.mem_toList_iff] at hz ⊢
  rw [Array.toList_extract,List.extract_eq_take_drop] at hz
  exact List.mem_of_mem_drop (List.mem_of_mem_take hz))
 have sdx:Sd L ((arrOf st).extract (sa + k) sb).toList:=by rw [xl]; exact sA.drop k
 have sdy:Sd L ((arrOf st).extract sb (sb + k2)).toList:=by rw [yl]; exact sB.take k2
 have y0:∀ h:0 < ((arrOf st).extract sb (sb + k2)).size,((arrOf st).extract sb (sb + k2))[0]=(arrOf st)[sb]'(by omega):=fun h=>by
  rw [Array.getElem_extract]
  rfl
 have xla:∀ (j:Nat) (h:j < ((arrOf st).extract (sa + k) sb).size),j + 1=((arrOf st).extract (sa + k) sb).size→((arrOf st).extract (sa + k) sb)[j]=(arrOf st)[sa + k + (na - k) - 1]'ila:=fun j h e=>by
  rw [Array.getElem_extract]
  congr 1
  omega
 have fin:∀ (out:Array Keyed) (st':SortSt),out.Perm ((arrOf st).extract (sa + k) sb++(arrOf st).extract sb (sb + k2))→Sd L out.toList→SI κ a0 (SortSt.mk' (kindOf st) (arrOf st) (((pendingOf st).setIfInBounds i (sa,na + nb,pw)).eraseIdxIfInBounds (i + 1)) (gallopOf st) (failedOf st)) st' →
   Q true (SortSt.mk' (kindOf st') ((out.toList.zipIdx).foldl (fun a (x:Keyed×Nat)=>a.setIfInBounds (sa + k + x.2) x.1) (arrOf st')) (pendingOf st') (gallopOf st') (failedOf st')):=by
  intro out st' hp so S
  have ea:arrOf st'=arrOf st:=S.arr
  have ep:pendingOf st'=((pendingOf st).setIfInBounds i (sa,na + nb,pw)).eraseIdxIfInBounds (i + 1):=S.pend
  have ol:out.toList.length=na - k + k2:=by
   rw [Array.length_toList,hp.size_eq,Array.size_append,xs,ys]
  have pa:=put_all (sa + k) out.toList (arrOf st) 0 (by rw [ol]; omega)
  rw [Nat.add_zero] at pa
  have e4:sa + k + out.toList.length=sb + k2:=by omega
  have hpl:out.toList.Perm ((((arrOf st).toList.drop sa).take na).drop k++(((arrOf st).toList.drop sb).take nb).take k2):=by
   have:=Array.perm_iff_toList_perm.mp hp
   rw [Array.toList_append,xl,yl] at this
   exact this
  have sM:=merged o sA sB headB lastA kt kf2 so hpl
  -- what lies now
  have now:((out.toList.zipIdx).foldl (fun a (x:Keyed×Nat)=>a.setIfInBounds (sa + k + x.2) x.1) (arrOf st)).toList=(arrOf st).toList.take sa++(((((arrOf st).toList.drop sa).take na).take k++(out.toList++(((arrOf st).toList.drop sb).take nb).drop k2))++(arrOf st).toList.drop (sa + (na + nb))):=by
   rw [pa,e4]
   have t1:(arrOf st).toList.take (sa + k)=(arrOf st).toList.take sa++(((arrOf st).toList.drop sa).take na).take k:=by
    rw [List.take_add,List.take_take,Nat.min_eq_left hk]
   have t2:(arrOf st).toList.drop (sb + k2)=(((arrOf st).toList.drop sb).take nb).drop k2++(arrOf st).toList.drop (sa + (na + nb)):=by
    rw [List.drop_take,List.drop_drop]
    conv=>lhs; rw [← List.take_append_drop (nb - k2) ((arrOf st).toList.drop (sb + k2)),List.drop_drop]
    rw [show sb + k2 + (nb - k2)=sa + (na + nb) by omega]
   rw [t1,t2]
   simp only [List.append_assoc]
  refine q _ ⟨S.ok.kind,S.ok.fail,?_⟩ ?_ ?_ ?_ ?_
  ·show Array.Perm (List.foldl _ _ _) a0
   refine Array.Perm.trans ?_ ok.perm
   rw [Array.perm_iff_toList_perm,ea,now]
   conv=>rhs; rw [whole]
   refine List.Perm.append_left _ (List.Perm.append_right _ ?_)
   have t3:(((arrOf st).toList.drop sa).take na)++((arrOf st).toList.drop sb).take nb=(((arrOf st).toList.drop sa).take na).take k++(((((arrOf st).toList.drop sa).take na).drop k++(((arrOf st).toList.drop sb).take nb).take k2)++(((arrOf st).toList.drop sb).take nb).drop k2):=by
    rw [List.append_assoc,List.take_append_drop,← List.append_assoc,List.take_append_drop]
   rw [t3]
   exact List.Perm.append_left _ (List.Perm.append_right _ hpl)
  ·show Chain (pendingOf st').toList 0 lo
   rw [ep,pe]
   exact g5
  ·show RS L (pendingOf st').toList (Array.toList (List.foldl _ _ _))
   rw [ep,pe,ea,now]
   refine put _ ?_ sM
   rw [List.length_append,List.length_append,List.length_take,lA,ol,List.length_drop,lB]
   omega
  ·show (Array.toList (List.foldl _ _ _)).drop lo=_
   rw [ea,pa,e4,← List.append_assoc,List.drop_append]
   have l1:((arrOf st).toList.take (sa + k)++out.toList).length=sb + k2:=by
    rw [List.length_append,List.length_take,ol,Array.length_toList]
    omega
   rw [List.drop_of_length_le (by rw [l1]; omega),l1,List.nil_append,List.drop_drop]
   congr 1
   omega
  ·show (pendingOf st').size + 1=_
   rw [ep]
   exact ps
 have hf:∀ x∈((arrOf st).extract (sa + k) sb).toList,L x (((arrOf st).extract sb (sb + k2))[0]'(by omega))=false:=fun x hx=>by
  rw [y0,xl] at *
  exact o.asym _ _ (kf x hx)
 have hl:∀ (j:Nat) (h:j < ((arrOf st).extract (sa + k) sb).size),j + 1=((arrOf st).extract (sa + k) sb).size→∀ y∈((arrOf st).extract sb (sb + k2)).toList,L ((arrOf st).extract (sa + k) sb)[j] y=false:=fun j h e y hy=>by
  rw [xla j h e]
  rw [yl] at hy
  exact o.asym _ _ (kt2 y hy)
 have hl':=hl (((arrOf st).extract (sa + k) sb).size - 1) (by omega) (by omega)
 by_cases d3:na - k≤k2
 ·rw [if_pos d3]
  refine wpS_bind (mergeLo_L o hc (okn _ _) inx iny (show 1≤((arrOf st).extract (sa + k) sb).size by omega) (show 1≤((arrOf st).extract sb (sb + k2)).size by omega) sdx sdy hf hl fun out st' hp so S=>?_)
  refine wpS_bind (wpS_modify (wpS_bind (wpS_get (wpS_pure ?_))))
  have:=S.ok.fail
  show Q (failedOf st').isNone _
  rw [this]
  exact fin out st' hp so S
 ·rw [if_neg d3]
  refine wpS_bind (mergeHi_L o hc (okn _ _) inx iny (show 1≤((arrOf st).extract (sa + k) sb).size by omega) (show 1≤((arrOf st).extract sb (sb + k2)).size by omega) sdx sdy hf hl' fun out st' hp so S=>?_)
  refine wpS_bind (wpS_modify (wpS_bind (wpS_get (wpS_pure ?_))))
  have:=S.ok.fail
  show Q (failedOf st').isNone _
  rw [this]
  exact fin out st' hp so S
end
end Tim
namespace Tim
open PySem PyProof.Rows
def G (arr:Array Keyed) (i:Nat):Keyed:=arr[i]?.getD (Value.none,Value.none)
theorem G_congr {a b:Array Keyed} {i j:Nat} (h:a[i]?=b[j]?):G a i=G b j:=by unfold G; rw [h]
theorem G_at {a:Array Keyed} {i:Nat} (h:i < a.size):a[i]=G a i:=by unfold G; rw [Array.getElem?_eq_getElem h]; rfl
section
variable {L:Keyed→Keyed→Bool}
def Srt (L:Keyed→Keyed→Bool) (arr:Array Keyed) (lo n:Nat):Prop:=∀ i j,lo≤i→i≤j→j < lo + n→L (G arr j) (G arr i)=false
def Dsc (L:Keyed→Keyed→Bool) (arr:Array Keyed) (lo n:Nat):Prop:=∀ i j,lo≤i→i≤j→j < lo + n→L (G arr i) (G arr j)=false
def Alk (L:Keyed→Keyed→Bool) (arr:Array Keyed) (i j:Nat):Prop:=∀ p q,i≤p→p < j→i≤q→q < j→L (G arr p) (G arr q)=false
theorem Srt.one (o:Ordr L) {arr:Array Keyed} {lo:Nat}:Srt L arr lo 1:=fun i j h1 h2 h3=>by
 have:i=j:=by omega
 subst this
 exact o.irr _
theorem Srt.snoc (o:Ordr L) {arr:Array Keyed} {lo n:Nat} (h1:1≤n) (h:Srt L arr lo n) (hl:L (G arr (lo + n)) (G arr (lo + n - 1))=false):Srt L arr lo (n + 1):=fun i j a b c=>by
 by_cases e:j < lo + n
 ·exact h i j a b e
 ·have ej:j=lo + n:=by omega
  subst ej
  by_cases e2:i=lo + n
  ·rw [e2]; exact o.irr _
  ·exact o.tr _ _ _ (h i (lo + n - 1) a (by omega) (by omega)) hl
theorem Dsc.snoc (o:Ordr L) {arr:Array Keyed} {lo n:Nat} (h1:1≤n) (h:Dsc L arr lo n) (hl:L (G arr (lo + n - 1)) (G arr (lo + n))=false):Dsc L arr lo (n + 1):=fun i j a b c=>by
 by_cases e:j < lo + n
 ·exact h i j a b e
 ·have ej:j=lo + n:=by omega
  subst ej
  by_cases e2:i=lo + n
  ·rw [e2]; exact o.irr _
  ·exact o.tr _ _ _ hl (h i (lo + n - 1) a (by omega) (by omega))
theorem G_mir {arr:Array Keyed} {i j:Nat} (hj:j≤arr.size) (k:Nat):G (mirror arr i j ((j - i) / 2)) k=if i≤k∧k < j then G arr (i + j - 1 - k) else G arr k:=by
 have e:=getElem?_mirror_all (i:=i) hj k
 by_cases h1:i≤k∧k < j
 ·rw [if_pos h1] at e ⊢; exact G_congr e
 ·rw [if_neg h1] at e ⊢; exact G_congr e
theorem Alk.mir (o:Ordr L) {arr:Array Keyed} {i j:Nat} (hj:j≤arr.size) (h:Alk L arr i j) (k:Nat):L (G (mirror arr i j ((j - i) / 2)) k) (G arr k)=false∧L (G arr k) (G (mirror arr i j ((j - i) / 2)) k)=false:=by
 rw [G_mir hj]
 split
 ·rename_i c
  exact ⟨h _ _ (by omega) (by omega) c.1 c.2,h _ _ c.1 c.2 (by omega) (by omega)⟩
 ·exact ⟨o.irr _,o.irr _⟩
theorem Dsc.like (o:Ordr L) {a b:Array Keyed} {lo n:Nat} (h:Dsc L a lo n) (e:∀ k,L (G b k) (G a k)=false∧L (G a k) (G b k)=false):Dsc L b lo n:=fun i j x y z =>
 o.tr _ _ _ (e j).2 (o.tr _ _ _ (h i j x y z) (e i).1)
theorem Dsc.rev {arr:Array Keyed} {lo n:Nat} (hj:lo + n≤arr.size) (h:Dsc L arr lo n):Srt L (mirror arr lo (lo + n) ((lo + n - lo) / 2)) lo n:=fun i j a b c=>by
 rw [G_mir hj,G_mir hj,if_pos (by omega),if_pos (by omega)]
 exact h _ _ (by omega) (by omega) (by omega)
theorem Srt.sd {arr:Array Keyed} {lo n:Nat} (hn:lo + n≤arr.size) (h:Srt L arr lo n):Sd L ((arr.toList.drop lo).take n):=by
 refine List.pairwise_iff_getElem.mpr fun i j hi hj hij=>?_
 rw [List.length_take] at hi hj
 rw [List.getElem_take,List.getElem_take,List.getElem_drop,List.getElem_drop,Array.getElem_toList,Array.getElem_toList,G_at,G_at]
 exact h _ _ (by omega) (by omega) (by omega)
end
def Low (lo:Nat) (a b:Array Keyed):Prop:=∀ p,p < lo→b[p]?=a[p]?
theorem Low.refl (lo:Nat) (a:Array Keyed):Low lo a a:=fun _ _=>rfl
theorem Low.trans {lo:Nat} {a b c:Array Keyed} (x:Low lo a b) (y:Low lo b c):Low lo a c:=fun p hp=>(y p hp).trans (x p hp)
theorem Low.mir {lo i j:Nat} {a:Array Keyed} (hi:lo≤i) (hj:j≤a.size):Low lo a (mirror a i j ((j - i) / 2)):=fun p hp=>by
 rw [getElem?_mirror_all hj,if_neg (by omega)]
theorem Low.take {lo:Nat} {a b:Array Keyed} (h:Low lo a b):b.toList.take lo=a.toList.take lo:=by
 apply List.ext_getElem?
 intro i
 rw [List.getElem?_take,List.getElem?_take]
 split
 ·rename_i c
  rw [Array.getElem?_toList,Array.getElem?_toList]
  exact h i c
 ·rfl
section
variable {prog:Program} {w:World} {A:Around} {E:Value→Shared→Prop} {s:Shared} {κ:SortKind} {a0:Array Keyed} {L:Keyed→Keyed→Bool}
theorem ltAt_L (hc:CmpL prog w A s κ a0 L) {i j:Nat} {st:SortSt} {Q:Option Bool→SortSt→Prop} (ok:Ok κ a0 st) (hi:i < a0.size) (hj:j < a0.size) (q:Q (some (L (G (arrOf st) i) (G (arrOf st) j))) st):wpS (model prog w) A E s (ltAt' i j) Q st:=by
 rw [ltAt'_eq]
 refine wpS_bind (wpS_get ?_)
 have h1:i < (arrOf st).size:=by rw [ok.perm.size_eq]; exact hi
 have h2:j < (arrOf st).size:=by rw [ok.perm.size_eq]; exact hj
 refine wpS_bind (elem_ok h1 (wpS_bind (elem_ok h2 ?_)))
 refine lt_L hc ok.kind (ok.perm.mem_iff.mp (Array.getElem_mem h1)) (ok.perm.mem_iff.mp (Array.getElem_mem h2)) ?_
 rw [G_at h1,G_at h2]
 exact q
theorem rev_L {i j:Nat} {st:SortSt} {Q:Unit→SortSt→Prop} (ok:Ok κ a0 st) (q:∀ st',Ok κ a0 st'→pendingOf st'=pendingOf st→arrOf st'=mirror (arrOf st) i j ((j - i) / 2)→Q () st'):wpS (model prog w) A E s (reverseSlice' i j) Q st:=by
 rw [reverseSlice'_eq]
 exact wpS_modify (q _ ⟨ok.kind,ok.fail,(mirror_perm _ _ _ _).trans ok.perm⟩ rfl rfl)
theorem bin_L (o:Ordr L) (hc:CmpL prog w A s κ a0 L) {lo n k0:Nat} {st:SortSt} {Q:Bool→SortSt→Prop} (ok:Ok κ a0 st) (hn:lo + n≤a0.size) (hk0:k0≤n) (sr:Srt L (arrOf st) lo k0)
  (q:∀ st',Ok κ a0 st'→pendingOf st'=pendingOf st→Srt L (arrOf st') lo n→Low lo (arrOf st) (arrOf st')→Q true st'):wpS (model prog w) A E s (binarySort' lo n k0) Q st:=by
 rw [binarySort'_eq]
 refine wpS_bind (wpS_mono (wpS_forRange (I:=fun k c st'=>c.1=none∧Ok κ a0 st'∧pendingOf st'=pendingOf st∧Srt L (arrOf st') lo (min k n)∧Low lo (arrOf st) (arrOf st')) (Q:=fun c st'=>c.1=none∧Ok κ a0 st'∧pendingOf st'=pendingOf st∧Srt L (arrOf st') lo n∧Low lo (arrOf st) (arrOf st')) ?step ?fin ⟨rfl,ok,rfl,?init,Low.refl _ _⟩) ?post)
 case init =>
  by_cases h:k0=0
  ·intro i j a b c
   have:i=j:=by omega
   subst this
   exact o.irr _
  ·rw [show min (max k0 1) n=k0 by omega]
   exact sr
 case fin =>
  rintro c st' ⟨h,ok',hp,sr',lw⟩
  rw [show min (max (max k0 1) n) n=n by omega] at sr'
  exact ⟨h,ok',hp,sr',lw⟩
 case post =>
  rintro ⟨c,u⟩ st' ⟨h,ok',hp,sr',lw⟩
  dsimp only at h ⊢
  subst h
  exact wpS_pure (q _ ok' hp sr' lw)
 case step =>
  rintro k c st1 hk1 hk ⟨_,ok1,hp1,sr1,lw1⟩
  rw [show min k n=k by omega] at sr1
  dsimp only
  refine wpS_bind (wpS_mono (wpS_forRange (I:=fun x c st'=>c.1=none∧(c.2.1≤c.2.2∧c.2.2≤k∧c.2.2 - c.2.1≤k - x∧(∀ i,i < c.2.1→L (G (arrOf st1) (lo + k)) (G (arrOf st1) (lo + i))=false)∧(∀ i,c.2.2≤i→i < k→L (G (arrOf st1) (lo + k)) (G (arrOf st1) (lo + i))=true))∧st'=st1)
   (Q:=fun c st'=>c.1=none∧(c.2.1≤k∧(∀ i,i < c.2.1→L (G (arrOf st1) (lo + k)) (G (arrOf st1) (lo + i))=false)∧(∀ i,c.2.1≤i→i < k→L (G (arrOf st1) (lo + k)) (G (arrOf st1) (lo + i))=true))∧st'=st1) ?step1 ?fin1 ⟨rfl,⟨Nat.zero_le _,Nat.le_refl _,Nat.le_refl _,fun i h=>absurd h (Nat.not_lt_zero _),fun i h1 h2=>by dsimp only at h1; omega⟩,rfl⟩) ?post1)
  case fin1 =>
   rintro ⟨c,l,r⟩ st2 ⟨h,⟨h1,h2,h3,h4,h5⟩,rfl⟩
   dsimp only at h h1 h2 h3 h4 h5 ⊢
   rw [Nat.zero_max] at h3
   have e:l=r:=by omega
   subst e
   exact ⟨h,⟨h2,h4,h5⟩,rfl⟩
  case step1 =>
   rintro j ⟨c,l,r⟩ st2 _ _ ⟨h,⟨h1,h2,h3,h4,h5⟩,rfl⟩
   dsimp only at h h1 h2 h3 h4 h5 ⊢
   split
   ·rename_i ge
    have e:l=r:=by omega
    subst e
    exact wpS_pure ⟨rfl,⟨h2,h4,h5⟩,rfl⟩
   ·refine wpS_bind (ltAt_L hc ok1 (by omega) (by omega) ?_)
    cases e:L (G (arrOf st2) (lo + k)) (G (arrOf st2) (lo + (l + r) / 2))
    ·exact wpS_pure ⟨rfl,⟨by dsimp only; omega,h2,by dsimp only; omega,fun i hi=>o.tr _ _ _ (sr1 (lo + i) (lo + (l + r) / 2) (by omega) (by dsimp only at hi; omega) (by omega)) e,h5⟩,rfl⟩
    ·exact wpS_pure ⟨rfl,⟨by dsimp only; omega,by dsimp only; omega,by dsimp only; omega,h4,fun i hi1 hi2=>by
      cases e2:L (G (arrOf st2) (lo + k)) (G (arrOf st2) (lo + i)) with
      | true=>rfl
      | false =>
       have:=o.tr _ _ _ (sr1 (lo + (l + r) / 2) (lo + i) (by omega) (by dsimp only at hi1; omega) (by omega)) e2
       rw [this] at e
       cases e⟩,rfl⟩
  case post1 =>
   rintro ⟨c,l,r⟩ st2 ⟨h,⟨h1,h2,h3⟩,rfl⟩
   dsimp only at h h1 h2 h3 ⊢
   subst h
   show wpS _ _ _ _ (do moveDown' (lo + k) (lo + l); pure (ForInStep.yield (none,()))) _ _
   rw [moveDown'_eq]
   have hks:lo + k < (arrOf st2).size:=by rw [ok1.perm.size_eq]; omega
   have gb:=fun x=>getElem?_bubble hks (lo + k - (lo + l)) (by omega) x
   refine wpS_bind (wpS_modify (wpS_pure ⟨rfl,⟨ok1.kind,ok1.fail,(bubble_perm _ _ _).trans ok1.perm⟩,hp1,?_,?_⟩))
   ·rw [show min (k + 1) n=k + 1 by omega]
    have Gb:∀ x,G (bubble (arrOf st2) (lo + k) (lo + k - (lo + l))) x=if x=lo + l then G (arrOf st2) (lo + k) else if lo + l < x∧x≤lo + k then G (arrOf st2) (x - 1) else G (arrOf st2) x:=fun x=>by
     have:=gb x
     rw [show lo + k - (lo + k - (lo + l))=lo + l by omega] at this
     by_cases c1:x=lo + l
     ·rw [if_pos c1] at this ⊢; exact G_congr this
     ·rw [if_neg c1] at this ⊢
      by_cases c2:lo + l < x∧x≤lo + k
      ·rw [if_pos c2] at this ⊢; exact G_congr this
      ·rw [if_neg c2] at this ⊢; exact G_congr this
    intro i j ai aij aj
    show L (G (bubble (arrOf st2) (lo + k) (lo + k - (lo + l))) j) (G (bubble (arrOf st2) (lo + k) (lo + k - (lo + l))) i)=false
    rw [Gb,Gb]
    by_cases ci:i=lo + l
    ·rw [if_pos ci]
     by_cases cj:j=lo + l
     ·rw [if_pos cj]; exact o.irr _
     ·rw [if_neg cj,if_pos (by omega)]
      have:=h3 (j - 1 - lo) (by omega) (by omega)
      rw [show lo + (j - 1 - lo)=j - 1 by omega] at this
      exact o.asym _ _ this
    ·rw [if_neg ci]
     by_cases ci2:lo + l < i∧i≤lo + k
     ·rw [if_pos ci2,if_neg (by omega),if_pos (by omega)]
      exact sr1 _ _ (by omega) (by omega) (by omega)
     ·rw [if_neg ci2]
      by_cases cj:j=lo + l
      ·rw [if_pos cj]
       have:=h2 (i - lo) (by omega)
       rw [show lo + (i - lo)=i by omega] at this
       exact this
      ·rw [if_neg cj]
       by_cases cj2:lo + l < j∧j≤lo + k
       ·rw [if_pos cj2]
        exact sr1 _ _ ai (by omega) (by omega)
       ·rw [if_neg cj2]
        exact sr1 _ _ ai aij (by omega)
   ·refine lw1.trans fun p hp=>?_
    show (bubble (arrOf st2) (lo + k) (lo + k - (lo + l)))[p]?=_
    rw [gb p,if_neg (by omega),if_neg (by omega)]
theorem count_L (o:Ordr L) (hc:CmpL prog w A s κ a0 L) {lo m:Nat} {st:SortSt} {Q:Option Nat→SortSt→Prop} (ok:Ok κ a0 st) (h1:1≤m) (h2:lo + m≤a0.size)
  (q:∀ n st',1≤n→n≤m→Ok κ a0 st'→pendingOf st'=pendingOf st→Srt L (arrOf st') lo n→Low lo (arrOf st) (arrOf st')→Q (some n) st'):wpS (model prog w) A E s (countRun' lo m) Q st:=by
 rw [countRun'_eq]
 dsimp only
 have sz:∀ {st':SortSt},Ok κ a0 st'→(arrOf st').size=a0.size:=fun ok=>ok.perm.size_eq
 refine wpS_bind (wpS_mono (wpS_forRange (I:=fun i c st'=>c.1=none∧(c.2=i∧1≤c.2∧Srt L (arrOf st) lo c.2)∧st'=st) (Q:=fun c st'=>c.1=none∧(1≤c.2∧c.2≤m∧Srt L (arrOf st) lo c.2∧(c.2=m∨L (G (arrOf st) (lo + c.2)) (G (arrOf st) (lo + c.2 - 1))=true))∧st'=st) ?step ?fin ⟨rfl,⟨rfl,Nat.le_refl _,Srt.one o⟩,rfl⟩) ?post)
 case fin =>
  rintro ⟨c,n⟩ st' ⟨h,⟨a,b,d⟩,rfl⟩
  dsimp only at h a b d ⊢
  exact ⟨h,⟨b,by omega,d,.inl (by omega)⟩,rfl⟩
 case step =>
  rintro i ⟨c,n⟩ st' _ hi ⟨h,⟨a,b,d⟩,rfl⟩
  dsimp only at h a b d ⊢
  subst a
  refine wpS_bind (ltAt_L hc ok (by omega) (by omega) ?_)
  cases e:L (G (arrOf st') (lo + n)) (G (arrOf st') (lo + n - 1))
  ·exact wpS_pure ⟨rfl,⟨rfl,by dsimp only; omega,d.snoc o b e⟩,rfl⟩
  ·exact wpS_pure ⟨rfl,⟨b,by dsimp only; omega,d,.inr e⟩,rfl⟩
 case post =>
  rintro ⟨c,n⟩ st1 ⟨h,⟨a,b,d,dl⟩,rfl⟩
  dsimp only at h a b d dl ⊢
  subst h
  dsimp only
  by_cases d1:(n == m)=true
  ·rw [if_pos d1]
   exact wpS_pure (q _ _ a b ok rfl d (Low.refl _ _))
  rw [if_neg d1]
  simp only [beq_iff_eq] at d1
  have dl:=dl.resolve_left d1
  obtain ⟨st0,hst0⟩:∃ st0,st0=st1:=⟨_,rfl⟩
  by_cases d2:n > 1
  case' pos =>
   rw [if_pos d2]
   refine wpS_bind (ltAt_L hc ok (by omega) (by omega) ?_)
   cases er:L (G (arrOf st1) lo) (G (arrOf st1) (lo + n - 1))
   case' true=>exact wpS_pure (q _ _ a b ok rfl d (Low.refl _ _))
   refine wpS_bind (rev_L ok fun st2 ok2 hp2 ea2=>?_)
   have alk:Alk L (arrOf st1) lo (lo + n):=fun p r p1 p2 r1 r2=>o.tr _ _ _ (d r (lo + n - 1) r1 (by omega) (by omega)) (o.tr _ _ _ er (d lo p (Nat.le_refl _) p1 p2))
   have dsc2:Dsc L (arrOf st2) lo (n + 1):=by
    have d0:Dsc L (arrOf st1) lo n:=fun i j a b c=>alk i j a (by omega) (by omega) c
    have d1':Dsc L (arrOf st1) lo (n + 1):=d0.snoc o a (o.asym _ _ dl)
    rw [ea2]
    exact d1'.like o (alk.mir o (by rw [sz ok]; omega))
   have lw2:Low lo (arrOf st1) (arrOf st2):=by
    rw [ea2]
    exact Low.mir (Nat.le_refl _) (by rw [sz ok]; omega)
  case' neg =>
   rw [if_neg d2]
   have ok2:=ok
   have hn1:n=1:=by omega
   have dsc2:Dsc L (arrOf st1) lo (n + 1):=by
    refine Dsc.snoc o a (fun i j x y z=>?_) (o.asym _ _ dl)
    have:i=j:=by omega
    subst this
    exact o.irr _
   have lw2:Low lo (arrOf st1) (arrOf st1):=Low.refl _ _
   generalize hst2:st1=st2 at ok2 dsc2
   have hp2:pendingOf st2=pendingOf st1:=by rw [hst2]
   have lw2:Low lo (arrOf st1) (arrOf st2):=by rw [hst2]; exact Low.refl _ _
  all_goals
   refine wpS_bind (wpS_lift (wpAny_rule ⟨rfl,?_⟩))
   refine wpS_bind (wpS_mono (wpS_forRange (I:=fun i c st'=>c.1=none∧(c.2.1=i∧1≤c.2.1∧c.2.2 + 1≤c.2.1∧Dsc L (arrOf st') lo c.2.1∧Alk L (arrOf st') (lo + c.2.1 - (c.2.2 + 1)) (lo + c.2.1))∧Ok κ a0 st'∧pendingOf st'=pendingOf st1∧Low lo (arrOf st1) (arrOf st'))
    (Q:=fun c st'=>c.1=none∧(1≤c.2.1∧c.2.1≤m∧c.2.2 + 1≤c.2.1∧Dsc L (arrOf st') lo c.2.1∧Alk L (arrOf st') (lo + c.2.1 - (c.2.2 + 1)) (lo + c.2.1))∧Ok κ a0 st'∧pendingOf st'=pendingOf st1∧Low lo (arrOf st1) (arrOf st')) ?step2 ?fin2 ⟨rfl,⟨rfl,by dsimp only; omega,by dsimp only; omega,dsc2,fun p r p1 p2 r1 r2=>by
     dsimp only at p1 p2 r1 r2
     have:p=r:=by omega
     subst this
     exact o.irr _⟩,ok2,hp2,lw2⟩) ?post2)
   case fin2 =>
    rintro ⟨c,k,neq⟩ st' ⟨h,⟨e1,e2,e3,e4⟩,r⟩
    dsimp only at h e1 e2 e3 e4 ⊢
    exact ⟨h,⟨e2,by omega,e3,e4⟩,r⟩
   case step2 =>
    rintro i ⟨c,k,neq⟩ st' _ hi ⟨h,⟨e1,e2,e3,e4,e5⟩,ok3,hp3,lw3⟩
    dsimp only at h e1 e2 e3 e4 e5 ⊢
    subst e1
    have one:∀ (ar:Array Keyed) (x:Nat),Alk L ar (lo + (x + 1) - (0 + 1)) (lo + (x + 1)):=fun ar x p r p1 p2 r1 r2=>by
     have:p=r:=by omega
     subst this
     exact o.irr _
    refine wpS_bind (ltAt_L hc ok3 (by omega) (by omega) ?_)
    cases es:L (G (arrOf st') (lo + k)) (G (arrOf st') (lo + k - 1))
    ·refine wpS_bind (ltAt_L hc ok3 (by omega) (by omega) ?_)
     cases el:L (G (arrOf st') (lo + k - 1)) (G (arrOf st') (lo + k))
     ·refine wpS_pure ⟨rfl,⟨rfl,by dsimp only; omega,by dsimp only; omega,e4.snoc o e2 el,fun p r p1 p2 r1 r2=>?_⟩,ok3,hp3,lw3⟩
      dsimp only at p1 p2 r1 r2
      have low:∀ x,lo + k - (neq + 1)≤x→x < lo + k→L (G (arrOf st') x) (G (arrOf st') (lo + k))=false∧L (G (arrOf st') (lo + k)) (G (arrOf st') x)=false:=fun x x1 x2 =>
       ⟨o.tr _ _ _ el (e5 x (lo + k - 1) x1 x2 (by omega) (by omega)),o.tr _ _ _ (e5 (lo + k - 1) x (by omega) (by omega) x1 x2) es⟩
      by_cases c1:p=lo + k
      ·by_cases c2:r=lo + k
       ·rw [c1,c2]; exact o.irr _
       ·rw [c1]; exact (low r (by omega) (by omega)).2
      ·by_cases c2:r=lo + k
       ·rw [c2]; exact (low p (by omega) (by omega)).1
       ·exact e5 p r (by omega) (by omega) (by omega) (by omega)
     ·exact wpS_pure ⟨rfl,⟨e2,by dsimp only; omega,e3,e4,e5⟩,ok3,hp3,lw3⟩
    ·dsimp only
     rw [if_pos rfl]
     have e6:Dsc L (arrOf st') lo (k + 1):=e4.snoc o e2 (o.asym _ _ es)
     split
     ·refine wpS_bind (rev_L ok3 fun st4 ok4 hp4 ea4=>wpS_pure ⟨rfl,⟨rfl,by dsimp only; omega,by dsimp only; omega,?_,one _ _⟩,ok4,hp4.trans hp3,?_⟩)
      ·dsimp only
       rw [ea4]
       exact e6.like o (e5.mir o (by rw [sz ok3]; omega))
      ·rw [ea4]
       exact lw3.trans (Low.mir (by omega) (by rw [sz ok3]; omega))
     ·exact wpS_pure ⟨rfl,⟨rfl,by dsimp only; omega,by dsimp only; omega,e6,one _ _⟩,ok3,hp3,lw3⟩
   case post2 =>
    rintro ⟨c,k,neq⟩ st' ⟨h,⟨e1,e2,e3,e4,e5⟩,ok3,hp3,lw3⟩
    dsimp only at h e1 e2 e3 e4 e5 ⊢
    subst h
    dsimp only
    by_cases d3:neq > 0
    case' pos =>
     rw [if_pos d3]
     refine wpS_bind (rev_L ok3 fun st4 ok4 hp4 ea4=>?_)
     have hp4:=hp4.trans hp3
     have dsc4:Dsc L (arrOf st4) lo k:=by
      rw [ea4]
      exact e4.like o (e5.mir o (by rw [sz ok3]; omega))
     have lw4:Low lo (arrOf st1) (arrOf st4):=by
      rw [ea4]
      exact lw3.trans (Low.mir (by omega) (by rw [sz ok3]; omega))
    case' neg =>
     rw [if_neg d3]
     have ok4:=ok3
     have hp4:=hp3
     have dsc4:=e4
     have lw4:=lw3
    all_goals
     refine wpS_bind (rev_L ok4 fun st5 ok5 hp5 ea5=>?_)
     have srt5:Srt L (arrOf st5) lo k:=by
      rw [ea5]
      exact dsc4.rev (by rw [sz ok4]; omega)
     have lw5:Low lo (arrOf st1) (arrOf st5):=by
      rw [ea5]
      exact lw4.trans (Low.mir (Nat.le_refl _) (by rw [sz ok4]; omega))
     refine wpS_bind (wpS_mono (wpS_forRange (I:=fun i c st'=>c.1=none∧(c.2=i∧1≤c.2∧Srt L (arrOf st5) lo c.2)∧st'=st5) (Q:=fun c st'=>c.1=none∧(1≤c.2∧c.2≤m∧Srt L (arrOf st5) lo c.2)∧st'=st5) ?step3 ?fin3 ⟨rfl,⟨rfl,e1,srt5⟩,rfl⟩) ?post3)
     case fin3 =>
      rintro ⟨c,n⟩ st' ⟨h,⟨a,b,d⟩,rfl⟩
      dsimp only at h a b d ⊢
      exact ⟨h,⟨b,by omega,d⟩,rfl⟩
     case step3 =>
      rintro i ⟨c,n⟩ st' _ hi ⟨h,⟨a,b,d⟩,rfl⟩
      dsimp only at h a b d ⊢
      subst a
      refine wpS_bind (ltAt_L hc ok5 (by omega) (by omega) ?_)
      cases e:L (G (arrOf st') (lo + n)) (G (arrOf st') (lo + n - 1))
      ·exact wpS_pure ⟨rfl,⟨rfl,by dsimp only; omega,d.snoc o b e⟩,rfl⟩
      ·exact wpS_pure ⟨rfl,⟨b,by dsimp only; omega,d⟩,rfl⟩
     case post3 =>
      rintro ⟨c,n⟩ st6 ⟨h,⟨a,b,d⟩,rfl⟩
      dsimp only at h a b d ⊢
      subst h
      exact wpS_pure (q _ _ a b ok5 (hp5.trans hp4) d lw5)
end
end Tim
namespace Tim
open PySem PyProof.Rows
theorem Chain.len:∀ {l:List (Nat×Nat×Nat)} {b e:Nat},Chain l b e→l.length + b≤e
 | [],_,_,h=>by have:_=_:=h; simp; omega
 | r::rest,b,e,h=>by
  have:=h.2.2.len
  have:=h.2.1
  rw [List.length_cons]
  omega
section
variable {prog:Program} {w:World} {A:Around} {E:Value→Shared→Prop} {s:Shared} {κ:SortKind} {a0:Array Keyed} {L:Keyed→Keyed→Bool}
theorem runs_L (o:Ordr L) (hc:CmpL prog w A s κ a0 L) {st:SortSt} {Q:Unit→SortSt→Prop} (ok:Ok κ a0 st) (hp:pendingOf st=#[]) (q:∀ st',Ok κ a0 st'→Sd L (arrOf st').toList→Q () st'):wpS (model prog w) A E s sortRuns' Q st:=by
 rw [sortRuns'_eq]
 refine wpS_bind (wpS_get ?_)
 have hs:(arrOf st).size=a0.size:=ok.perm.size_eq
 rw [hs]
 generalize minRun' a0.size a0.size 0=mr
 dsimp only
 refine wpS_bind (wpS_mono (wpS_forRange (I:=fun i c st'=>c.1=none∧(c.2≤a0.size∧i≤c.2)∧Ok κ a0 st'∧Chain (pendingOf st').toList 0 c.2∧RS L (pendingOf st').toList (arrOf st').toList)
  (Q:=fun c st'=>c.1=none∧c.2=a0.size∧Ok κ a0 st'∧Chain (pendingOf st').toList 0 c.2∧RS L (pendingOf st').toList (arrOf st').toList) ?step ?fin ⟨rfl,⟨Nat.zero_le _,Nat.zero_le _⟩,ok,by rw [hp]; rfl,by rw [hp]; trivial⟩) ?post)
 case fin =>
  rintro ⟨c,lo⟩ st1 ⟨h,⟨h1,h2⟩,r⟩
  dsimp only at h h1 h2 ⊢
  rw [Nat.zero_max] at h2
  exact ⟨h,by omega,r⟩
 case step =>
  rintro i ⟨c,lo⟩ st1 _ hi ⟨h,⟨hlo,hil⟩,ok1,ch1,rs1⟩
  dsimp only at h hlo hil ch1 ⊢
  by_cases d1:lo ≥ a0.size
  ·rw [if_pos d1]
   exact wpS_pure ⟨rfl,by dsimp only; omega,ok1,ch1,rs1⟩
  rw [if_neg d1]
  refine wpS_bind (count_L o hc ok1 (by omega) (by omega) fun n st2 n1 n2 ok2 hp2 sr2 lw2=>?_)
  dsimp only
  rw [← hp2] at ch1 rs1
  have rs2:RS L (pendingOf st2).toList (arrOf st2).toList:=rs1.same ch1 (by rw [Nat.sub_zero]; exact lw2.take)
  by_cases d2:n < minRun' a0.size a0.size 0
  case' pos =>
   rw [if_pos d2]
   refine wpS_bind (wpS_lift (wpAny_rule ⟨rfl,?_⟩))
   refine wpS_bind (bin_L o hc ok2 (by omega) (by omega) sr2 fun st3 ok3 hp3 sr3 lw3=>?_)
   rw [if_neg (by decide)]
   have N1:1≤min (a0.size - lo) (minRun' a0.size a0.size 0):=by omega
   have N2:lo + min (a0.size - lo) (minRun' a0.size a0.size 0)≤a0.size:=by omega
   have rs3:RS L (pendingOf st3).toList (arrOf st3).toList:=by
    rw [hp3]
    exact rs2.same ch1 (by rw [Nat.sub_zero]; exact lw3.take)
   have ch3:Chain (pendingOf st3).toList 0 lo:=by rw [hp3]; exact ch1
   generalize min (a0.size - lo) (minRun' a0.size a0.size 0)=N at N1 N2 sr3
  case' neg =>
   rw [if_neg d2]
   have N1:=n1
   have N2:lo + n≤a0.size:=by omega
   have ok3:=ok2
   have ch3:=ch1
   have rs3:=rs2
   have sr3:=sr2
   clear rs2 sr2 rs1 ch1 lw2 hp2
   generalize n=N at N1 N2 sr3
   generalize st2=st3 at ok3 ch3 rs3 sr3
  all_goals
   have sd3:Sd L (((arrOf st3).toList.drop lo).take N):=sr3.sd (by rw [ok3.perm.size_eq]; exact N2)
   refine wpS_bind (wpS_get ?_)
   cases hb:(pendingOf st3).back? with
   | none =>
    dsimp only
    refine wpS_bind (wpS_modify (wpS_pure ⟨rfl,⟨N2,by dsimp only; omega⟩,⟨ok3.kind,ok3.fail,ok3.perm⟩,?_,?_⟩))
    ·show Chain (Array.toList ((pendingOf st3).push (lo,N,0))) 0 (lo + N)
     rw [Array.toList_push]
     exact ch3.snoc N1
    ·show RS L (Array.toList ((pendingOf st3).push (lo,N,0))) (arrOf st3).toList
     rw [Array.toList_push]
     exact rs3.snoc ch3 (by rw [Nat.sub_zero]; exact sd3)
   | some r =>
    obtain ⟨s1,m1,z1⟩:=r
    dsimp only
    refine wpS_bind (wpS_mono (wpS_forRange (I:=fun _ c st'=>c.1=none∧Ok κ a0 st'∧Chain (pendingOf st').toList 0 lo∧RS L (pendingOf st').toList (arrOf st').toList∧(arrOf st').toList.drop lo=(arrOf st3).toList.drop lo) (Q:=fun c st'=>c.1=none∧Ok κ a0 st'∧Chain (pendingOf st').toList 0 lo∧RS L (pendingOf st').toList (arrOf st').toList∧(arrOf st').toList.drop lo=(arrOf st3).toList.drop lo) ?step2 (fun _ _ h=>h) ⟨rfl,ok3,ch3,rs3,rfl⟩) ?post2)
    case step2 =>
     rintro j ⟨c,u⟩ st4 _ hj ⟨h,ok4,ch4,rs4,dr4⟩
     dsimp only at h ⊢
     refine wpS_bind (wpS_get ?_)
     by_cases d3:(pendingOf st4).size > 1
     ·rw [if_pos d3,Array.getElem?_eq_getElem (by omega)]
      generalize (pendingOf st4)[(pendingOf st4).size - 2]=y
      obtain ⟨y1,y2,y3⟩:=y
      dsimp only
      split
      ·exact wpS_pure ⟨rfl,ok4,ch4,rs4,dr4⟩
      ·refine wpS_bind (mergeAt_L o hc ok4 ch4 rs4 hlo (by omega) fun st5 ok5 ch5 rs5 dr5 _=>?_)
       exact wpS_pure ⟨rfl,ok5,ch5,rs5,dr5.trans dr4⟩
     ·rw [if_neg d3]
      exact wpS_pure ⟨rfl,ok4,ch4,rs4,dr4⟩
    case post2 =>
     rintro ⟨c,u⟩ st4 ⟨h,ok4,ch4,rs4,dr4⟩
     dsimp only at h ⊢
     subst h
     dsimp only
     refine wpS_bind (wpS_modify (wpS_bind (wpS_modify (wpS_pure ⟨rfl,⟨N2,by dsimp only; omega⟩,⟨ok4.kind,ok4.fail,ok4.perm⟩,?_,?_⟩))))
     ·show Chain (Array.toList (Array.push (Array.modify (pendingOf st4) _ _) (lo,N,0))) 0 (lo + N)
      rw [Array.toList_push,Array.toList_modify]
      exact (ch4.mod _ _).snoc N1
     ·show RS L (Array.toList (Array.push (Array.modify (pendingOf st4) _ _) (lo,N,0))) (arrOf st4).toList
      rw [Array.toList_push,Array.toList_modify]
      refine (rs4.mod _ _).snoc (ch4.mod _ _) ?_
      rw [Nat.sub_zero,dr4]
      exact sd3
 case post =>
  rintro ⟨c,lo⟩ st1 ⟨h,hlo,ok1,ch1,rs1⟩
  dsimp only at h hlo ch1 ⊢
  subst h
  dsimp only
  subst hlo
  have pl:=ch1.len
  rw [Array.length_toList] at pl
  refine wpS_bind (wpS_mono (wpS_forRange (I:=fun j c st'=>c.1=none∧Ok κ a0 st'∧Chain (pendingOf st').toList 0 a0.size∧RS L (pendingOf st').toList (arrOf st').toList∧(pendingOf st').size + j≤a0.size)
   (Q:=fun c st'=>c.1=none∧Ok κ a0 st'∧Chain (pendingOf st').toList 0 a0.size∧RS L (pendingOf st').toList (arrOf st').toList∧(pendingOf st').size≤1) ?step3 ?fin3 ⟨rfl,ok1,ch1,rs1,by omega⟩) ?post3)
  case fin3 =>
   rintro ⟨c,u⟩ st4 ⟨h,ok4,ch4,rs4,z⟩
   rw [Nat.zero_max] at z
   exact ⟨h,ok4,ch4,rs4,by omega⟩
  case step3 =>
   rintro j ⟨c,u⟩ st4 _ hj ⟨h,ok4,ch4,rs4,z⟩
   dsimp only at h ⊢
   refine wpS_bind (wpS_get ?_)
   by_cases d3:(pendingOf st4).size≤1
   ·rw [if_pos d3]
    exact wpS_pure ⟨rfl,ok4,ch4,rs4,d3⟩
   ·rw [if_neg d3]
    refine wpS_bind (mergeAt_L o hc ok4 ch4 rs4 (Nat.le_refl _) ?_ fun st5 ok5 ch5 rs5 _ z5=>?_)
    ·exact ite_lt (by omega) (by omega)
    ·exact wpS_pure ⟨rfl,ok5,ch5,rs5,by omega⟩
  case post3 =>
   rintro ⟨c,u⟩ st4 ⟨h,ok4,ch4,rs4,z⟩
   dsimp only at h ⊢
   subst h
   refine wpS_pure (q _ ok4 ?_)
   have lz:(pendingOf st4).toList.length≤1:=by rw [Array.length_toList]; exact z
   have la:(arrOf st4).toList.length=a0.size:=by rw [Array.length_toList,ok4.perm.size_eq]
   generalize (pendingOf st4).toList=rs at ch4 rs4 lz
   match rs,ch4,rs4,lz with
   | [],c,_,_ =>
    have c:0=a0.size:=c
    have:(arrOf st4).toList=[]:=List.length_eq_zero_iff.mp (by omega)
    rw [this]
    exact List.Pairwise.nil
   | [r],c,rs,_ =>
    have c2:0 + r.2.1=a0.size:=c.2.2
    have:=rs.1
    rw [List.take_of_length_le (by omega)] at this
    exact this
   | _::_::_,_,_,l=>simp at l
end
end Tim
namespace L2
open PySem PySem.Calls PySem.Spec PyProof.Rows
def lexB (p q:Int×Int):Bool:=decide (p.1 < q.1) || (decide (p.1=q.1) && decide (p.2 < q.2))
theorem lexB_iff {p q:Int×Int}:lexB p q=true↔p.1 < q.1∨(p.1=q.1∧p.2 < q.2):=by
 unfold lexB
 simp
theorem lexB_not {p q:Int×Int}:lexB p q=false↔q.1 < p.1∨(p.1=q.1∧q.2≤p.2):=by
 rw [← Bool.not_eq_true,lexB_iff]
 omega
abbrev Ris (l:List (Int×Int)):Prop:=l.Pairwise fun x y=>lexB y x=false
section
variable {prog:Program} {w:World} {A:Around} {E:Value→Shared→Prop} {s:Shared}
theorem pr_ltS {x y:Value} {p q:Int×Int} {C:Bool→Shared→Prop} (hx:IsPr s.heap x p) (hy:IsPr s.heap y q) (h:C (lexB p q) s):wpAny (model prog w) A (keyLt' (tuples' true) x y) C E s:=by
 obtain ⟨a,o,t,u,n,rfl,h1,h2,h3⟩:=hx
 obtain ⟨a',o',t',u',n',rfl,h1',h2',h3'⟩:=hy
 refine PySem.W.kat_lt h1 h3 h1' h3' ?_
 show PySem.W.KatLex prog w A true _ C [(Value.int p.1 t,Value.int q.1 t'),(Value.int p.2 u,Value.int q.2 u')] 0 s
 refine PySem.W.kat_cons (SeqAt.EqAt.int_int _ _ _ _ prog w _ _ (PySem.W.kat_go (fun e=>PySem.W.kat_yes ?_) fun e=>PySem.W.kat_no (oneLt_int ?_)))
 ·have e:p.1=q.1:=by simpa using e
  refine PySem.W.kat_cons (SeqAt.EqAt.int_int _ _ _ _ prog w _ _ (PySem.W.kat_go (fun e2=>PySem.W.kat_yes (PySem.W.kat_nil ?_)) fun e2=>PySem.W.kat_no ?_))
  ·have e2:p.2=q.2:=by simpa using e2
   have:lexB p q=false:=lexB_not.mpr (by omega)
   rw [this] at h
   exact h
  ·refine PySem.W.kat_one _ _ (lt_int (show PySem.W.BoolBack C (.bool _) s from ?_))
   have:lexB p q=decide (p.2 < q.2):=by
    unfold lexB
    rw [decide_eq_true e,decide_eq_false (show ¬ p.1 < q.1 by omega)]
    rfl
   rw [this] at h
   exact h
 ·have e:¬ p.1=q.1:=by simpa using e
  have:lexB p q=decide (p.1 < q.1):=by
   unfold lexB
   rw [decide_eq_false e]
   simp
  rw [this] at h
  exact h
theorem IsPr.uniq {h:Heap} {v:Value} {p q:Int×Int} (x:IsPr h v p) (y:IsPr h v q):p=q:=by
 obtain ⟨a,o,t,u,n,rfl,h1,h2,h3⟩:=x
 obtain ⟨a',o',t',u',n',e,h1',h2',h3'⟩:=y
 cases e
 rw [h1] at h1'
 cases h1'
 rw [h3] at h3'
 injection h3' with e1 _
 have e1:=congrArg Array.toList e1
 have e2:p.1=q.1∧p.2=q.2:=by
  simp at e1
  exact ⟨e1.1.1,e1.2.1⟩
 exact Prod.ext e2.1 e2.2
theorem prOf_ex (h:Heap):∃ key:Value→Int×Int,∀ v q,IsPr h v q→key v=q:=by
 classical
 refine ⟨fun v=>if x:∃ q,IsPr h v q then x.choose else (0,0),fun v q x=>?_⟩
 have z:∃ q,IsPr h v q:=⟨q,x⟩
 dsimp only
 rw [dif_pos z]
 exact z.choose_spec.uniq x
def keyLt (key:Value→Int×Int) (x y:Keyed):Bool:=lexB (key x.1) (key y.1)
theorem keyLt_ord (key:Value→Int×Int):Tim.Ordr (keyLt key):=by
 constructor
 ·intro x y e
  unfold keyLt at e ⊢
  rw [lexB_iff] at e
  rw [lexB_not]
  omega
 ·intro x y z e1 e2
  unfold keyLt at e1 e2 ⊢
  rw [lexB_not] at e1 e2 ⊢
  omega
def OutS (ps:List (Int×Int)) (vs o:List Value):Prop:=∃ p:List Nat,p.Perm (List.range vs.length)∧o=p.map (fun i=>vs.getD i Value.none)∧Ris (p.map fun i=>ps.getD i (0,0))
theorem OutS.len {ps:List (Int×Int)} {vs o:List Value} (h:OutS ps vs o):o.length=vs.length:=by
 obtain ⟨p,hp,rfl,_⟩:=h
 rw [List.length_map,hp.length_eq,List.length_range]
theorem OutS.small {ps:List (Int×Int)} {vs:List Value} (h:vs.length < 2):OutS ps vs vs:=by
 obtain ⟨p,hp,e⟩:=Reord.refl vs
 refine ⟨p,hp,e,?_⟩
 have l:(p.map fun i=>ps.getD i (0,0)).length < 2:=by rw [List.length_map,hp.length_eq,List.length_range]; exact h
 generalize (p.map fun i=>ps.getD i (0,0))=l' at l
 match l',l with
 | [],_=>exact List.Pairwise.nil
 | [_],_=>exact List.pairwise_singleton _ _
 | _::_::_,l=>exact absurd l (by simp)
theorem pr_runS {vs:List Value} {ps:List (Int×Int)} (hp:Paired (IsPr s.heap) vs ps) (h2:2≤vs.length) :
  wpAny (model prog w) A (keyKind' vs.toArray) (fun κ t'=>t'=s ∧
   wpAny (model prog w) A ((sortRuns').run (SortSt.mk' κ (vs.toArray.zip vs.toArray) #[] 7 none)) (fun r t2=>t2=s∧failedOf r.2=none∧OutS ps vs ((arrOf r.2).map (·.2)).toList) (fun _ _=>False) s) (fun _ _=>False) s:=by
 obtain ⟨fs,kt,lf,hf⟩:=pr_tups hp
 obtain ⟨key,hkey⟩:=prOf_ex s.heap
 refine PySem.W.kat_kind (T:=.type "int") kt (by omega) (fun v hv=>?_) (by decide) ⟨rfl,?_⟩
 ·obtain ⟨i,t,rfl⟩:=hf v hv
  exact .now
 ·have mem:∀ x:Keyed,x∈vs.toArray.zip vs.toArray→x.1=x.2∧∃ q,IsPr s.heap x.1 q:=fun x hx=>by
   have hx':x∈vs.zip vs:=by
    have:=Array.mem_toList_iff.mpr hx
    simpa using this
   obtain ⟨e1,e2⟩:=mem_zip_self hx'
   obtain ⟨k,hk,e3⟩:=List.getElem_of_mem e2
   obtain ⟨y,_,z⟩:=Paired.get' (i:=k) (x:=x.1) hp (by rw [List.getElem?_eq_getElem hk,e3])
   exact ⟨e1,y,z⟩
  have hc:Tim.CmpL prog w A s (tuples' true) (vs.toArray.zip vs.toArray) (keyLt key):=fun x y hx hy E Q q=>by
   obtain ⟨_,p1,z1⟩:=mem x hx
   obtain ⟨_,p2,z2⟩:=mem y hy
   unfold keyLt at q
   rw [hkey _ _ z1,hkey _ _ z2] at q
   exact pr_ltS z1 z2 q
  refine Tim.runs_L (st:=SortSt.mk' (tuples' true) (vs.toArray.zip vs.toArray) #[] 7 none) (Q:=fun _ st=>failedOf st=none∧OutS ps vs ((arrOf st).map (·.2)).toList) (keyLt_ord key) hc ⟨rfl,rfl,Array.Perm.refl _⟩ rfl fun st' ok sd=>⟨ok.fail,?_⟩
  have pm:((arrOf st').map (·.2)).toList.Perm vs:=by
   have:=(Array.perm_iff_toList_perm.mp ok.perm).map (·.2)
   rw [Array.toList_map]
   refine this.trans (List.Perm.of_eq ?_)
   simp [List.map_snd_zip]
  obtain ⟨p,hpp,eo⟩:=Reord.of_perm pm
  refine ⟨p,hpp,eo,?_⟩
  -- the pairs of what lies now
  have s1:(((arrOf st').map (·.2)).toList.map (key)).Pairwise fun x y=>lexB y x=false:=by
   rw [Array.toList_map,List.map_map]
   refine List.pairwise_map.mpr ?_
   refine List.Pairwise.imp_of_mem (fun {x y} hx hy h=>?_) sd
   have m1:=(mem x (ok.perm.mem_iff.mp (Array.mem_toList_iff.mp hx))).1
   have m2:=(mem y (ok.perm.mem_iff.mp (Array.mem_toList_iff.mp hy))).1
   unfold keyLt at h
   show lexB (key y.2) (key x.2)=false
   rw [← m1,← m2]
   exact h
  have e2:((arrOf st').map (·.2)).toList.map (key)=p.map fun i=>ps.getD i (0,0):=by
   rw [eo,List.map_map]
   refine List.map_congr_left fun i hi=>?_
   have hi':i < vs.length:=by
    have:=hpp.mem_iff.mp hi
    simpa using this
   obtain ⟨y,hy,z⟩:=Paired.get' (i:=i) (x:=vs[i]) hp (List.getElem?_eq_getElem hi')
   show key (vs.getD i Value.none)=_
   rw [List.getD_eq_getElem?_getD,List.getElem?_eq_getElem hi',List.getD_eq_getElem?_getD,hy]
   exact hkey _ _ z
  rw [e2] at s1
  exact s1
end
section
variable {X:Cx}
theorem call_sorted_prsS:CallR X (.builtin "sorted") (fun xs H Q=>∃ (l:Addr) (ws:List V) (prs:List (Int×Int)),xs=[.ref l]∧H l=some (.lst ws)∧Ars H ws prs∧ws.length≤1000 ∧
  ∀ (D:Addr) (ws':List V) (prs':List (Int×Int)) (H':Hp),Same H H'→H' D=some (.lst ws')→Ars H' ws' prs'→prs'.Perm prs→Ris prs'→Q (.ref D) H'):=by
 intro pins s σ H xs us Q I r h
 obtain ⟨l,ws,prs,rfl,hl,ha,hn,q⟩:=h
 obtain ⟨u,rfl,ru⟩:=vals1 r
 cases ru
 obtain ⟨its,rv,pl,hz⟩:=I.list (SqL.of hl)
 have lv:ws.length=its.length:=rv.length
 have lp:ws.length=prs.length:=Paired.length ha
 have isp:∀ {t:Shared},(∀ b o,s.heap.get? b=some o→t.heap.get? b=some o)→Paired (IsPr t.heap) its prs:=by
  intro t kp
  refine Paired.of_get (by omega) fun j v y hv hy=>?_
  have hj:j < its.length:=(List.getElem?_eq_some_iff.mp hv).1
  have hj':j < ws.length:=by omega
  obtain ⟨c,e1,a,e2,e3⟩:=Paired.get' (i:=j) (x:=ws[j]) ha (by simp [hj'])
  rw [hy] at e1
  cases e1
  obtain ⟨w',e4,e5⟩:=rv.get (i:=j) (x:=ws[j]) (by simp [hj'])
  rw [hv] at e4
  cases e4
  rw [e2] at e5
  have e5:v=Value.ref a:=e5
  obtain ⟨jt,r3,⟨ot,g1,g2,n,g3⟩,_⟩:=I.tuple (SqT.of e3)
  obtain ⟨u1,u2,rfl,⟨t1,rfl⟩,⟨t2,rfl⟩⟩:=vals2' r3
  exact ⟨a,ot,t1,t2,n,e5,kp _ _ g1,g2,g3⟩
 refine Calls.call_function_entry kind_sorted plain_sorted entry_sorted (args_sorted1 _) ?_
 unfold Builtin.«sorted»
 refine wpAny_bind (m:=checkCount "sorted" 1 1 _) (wpAny_pure ?_)
 have sl:(1000000:Nat) < sizeLine:=by decide
 refine wpAny_bind (collect_list pl.isList ?_)
 refine wpAny_bind (wpAny_newList ?_)
 have hsz:((s.heap.push (seqObj "list" #[] 0)).update s.heap.objs.size (Obj.mapSeq (·++its.toArray))).objs.size=s.heap.objs.size + 1:=by
  rw [Heap.size_update,size_push']
 have hoL:(((s.heap.push (seqObj "list" #[] 0)).update s.heap.objs.size (Obj.mapSeq (·++its.toArray))).push (seqObj "list" its.toArray 0)).get? (s.heap.objs.size + 1)=some (seqObj "list" its.toArray 0):=by
  rw [← hsz]; exact Heap.get?_push_size _ rfl
 show wpAny _ _ _ _ _ { s with heap:=((s.heap.push (seqObj "list" #[] 0)).update s.heap.objs.size (Obj.mapSeq (·++its.toArray))).push (seqObj "list" its.toArray 0) }
 rw [hsz]
 have k0:∀ b o,s.heap.get? b=some o→(((s.heap.push (seqObj "list" #[] 0)).update s.heap.objs.size (Obj.mapSeq (·++its.toArray))).push (seqObj "list" its.toArray 0)).get? b=some o:=fun b o e=>by
  refine Heap.get?_push_of_some _ ?_
  rw [Heap.get?_update_ne _ _ _ _ (Nat.ne_of_lt (Heap.lt_size e))]
  exact Heap.get?_push_of_some _ e
 refine wpAny_bind (wpAny_holding (wpAny_call_entry slot_list_sort ⟨_,hoL,rfl⟩ entry_list_sort (sort_list (Out:=OutS prs its) hoL (by omega) (fun h2=>OutS.small (by omega)) (fun _ h=>h.len)
  (fun h2 t kp=>pr_runS (isp fun b o e=>kp b o (Nat.ne_of_lt (Nat.lt_succ_of_lt (Heap.lt_size e))) (k0 b o e)) h2) fun out ho=>⟨_,rfl,?_⟩) (args_list_sort _)))
 refine wpAny_pure ⟨_,rfl,?_⟩
 obtain ⟨c,hDo⟩:=sortedHeap_at (vs:=its) (out:=out) hoL
 have kp:∀ b o,s.heap.get? b=some o→(sortedHeap (((s.heap.push (seqObj "list" #[] 0)).update s.heap.objs.size (Obj.mapSeq (·++its.toArray))).push (seqObj "list" its.toArray 0)) (s.heap.objs.size + 1) its out).get? b=some o:=fun b o e=>by
  rw [sortedHeap_old (Nat.ne_of_lt (Nat.lt_succ_of_lt (Heap.lt_size e))) (by rw [size_push',hsz]; exact Nat.lt_succ_of_lt (Nat.lt_succ_of_lt (Heap.lt_size e)))]
  exact k0 b o e
 obtain ⟨p,hp,eo,ris⟩:=ho
 have I1:Inv X pins σ H { s with heap:=sortedHeap (((s.heap.push (seqObj "list" #[] 0)).update s.heap.objs.size (Obj.mapSeq (·++its.toArray))).push (seqObj "list" its.toArray 0)) (s.heap.objs.size + 1) its out }:=I.kept (t':=s.toks) kp
 have fp:FpOk X pins H (s.heap.objs.size + 1):=I.newFp fun b o e=>Nat.lt_succ_of_lt (Heap.lt_size e)
 have lt:∀ i∈p,i < its.length:=fun i hi=>by
  have:=hp.mem_iff.mp hi
  simpa using this
 have vals:Vals (p.map fun i=>ws.getD i .non) out.toList:=by
  rw [eo]
  refine Paired.of_map fun i hi=>?_
  have hi':=lt i hi
  obtain ⟨w',e4,e5⟩:=rv.get (i:=i) (x:=ws[i]'(by omega)) (by simp [lv,hi'])
  have a1:ws.getD i .non=ws[i]'(by omega):=by simp [lv,hi']
  have a2:its.getD i Value.none=w':=by rw [List.getD_eq_getElem?_getD,e4]; rfl
  rw [a1,a2]
  exact e5
 have new:ObjOk X.prog X.w (upd H (s.heap.objs.size + 1) (.lst (p.map fun i=>ws.getD i .non))) (sortedHeap (((s.heap.push (seqObj "list" #[] 0)).update s.heap.objs.size (Obj.mapSeq (·++its.toArray))).push (seqObj "list" its.toArray 0)) (s.heap.objs.size + 1) its out) (s.heap.objs.size + 1) (.lst (p.map fun i=>ws.getD i .non)):=by
  refine ⟨?_,out.toList,c,vals,by simpa using hDo⟩
  rw [List.length_map,hp.length_eq,List.length_range]
  omega
 refine ⟨.ref (s.heap.objs.size + 1),_,I1.adopt fp new,rfl,q _ _ (p.map fun i=>prs.getD i (0,0)) _ (Same.upd fp.1) upd_same (Paired.of_map fun i hi=>?_) ?_ ris⟩
 ·have hi':=lt i hi
  obtain ⟨c,e1,a,e2,e3⟩:=Paired.get' (i:=i) (x:=ws[i]'(by omega)) ha (by simp [lv,hi'])
  have a1:ws.getD i .non=ws[i]'(by omega):=by simp [lv,hi']
  have a2:prs.getD i (0,0)=c:=by rw [List.getD_eq_getElem?_getD,e1]; rfl
  rw [a1,a2]
  exact ⟨a,e2,by rw [upd_ne (ne_of_none e3 fp.1)]; exact e3⟩
 ·have e:(List.range its.length).map (fun i=>prs.getD i (0,0))=prs:=by
   apply List.ext_getElem
   ·simp
    omega
   ·intro i h1 h2
    simp [h2]
  have:=hp.map fun i=>prs.getD i (0,0)
  rw [e] at this
  exact this
end
end L2
namespace L2
open PySem PySem.Calls PySem.Spec PyProof.Rows
section
variable {X:Cx}
theorem call_sorted_prsDS (hc:X.calm=true):CallR X (.builtin "sorted") (fun xs H Q=>∃ (d:Addr) (kvs:List (List Key×V)) (prs:List (Int×Int)),xs=[.ref d]∧H d=some (.dT kvs)∧kvs.map (·.1)=prs.map prKey∧kvs.length≤1000 ∧
  ∀ (D:Addr) (ws:List V) (prs':List (Int×Int)) (H':Hp),Same H H'→H' D=some (.lst ws)→Ars H' ws prs'→prs'.Perm prs→Ris prs'→prs.Nodup→Q (.ref D) H'):=by
 intro pins s σ H xs us Q I r h
 obtain ⟨d,kvs,prs,rfl,hd,hk,hl,q⟩:=h
 obtain ⟨u,rfl,ru⟩:=vals1 r
 cases ru
 obtain ⟨z,hsys,xs',rel,o,es,ep,e1,e2,e3,e4,nd⟩:=(show ObjOk X.prog X.w H s.heap d (.dT kvs) from I.hok d _ hd)
 have l1:kvs.length=xs'.length:=Paired.length rel
 have l2:es.size=kvs.length:=by
  have:=congrArg List.length e4
  rw [Array.length_toList,List.length_map] at this
  omega
 have l3:prs.length=kvs.length:=by
  have:=congrArg List.length hk
  rw [List.length_map,List.length_map] at this
  exact this.symm
 -- the j-th key
 have key:∀ (j:Nat) (v:Value),(∃ e,es[j]?=some e∧v=e.key)→∃ a q,v=.ref a∧prs[j]?=some q∧H a=some (.tup [.int q.1,.int q.2]):=by
  rintro j v ⟨e,he,rfl⟩
  have he':es.toList[j]?=some e:=by simpa using he
  rw [e4,List.getElem?_map] at he'
  obtain ⟨x,hx,rfl⟩:=Option.map_eq_some_iff.mp he'
  have hj:j < kvs.length:=by
   have:=(List.getElem?_eq_some_iff.mp hx).1
   omega
  obtain ⟨y,hy,hy1,hy2,_⟩:=Paired.get' (i:=j) (x:=kvs[j]) rel (by simp [hj])
  rw [hx] at hy
  cases hy
  have hq:prs[j]?=some prs[j]:=by simp [l3,hj]
  have ek:(kvs.map (·.1))[j]?=(prs.map prKey)[j]?:=by rw [hk]
  rw [List.getElem?_map,List.getElem?_map,hq] at ek
  have ek:kvs[j].1=prKey prs[j]:=by simpa [hj] using ek
  refine ⟨x.2.1,prs[j],rfl,hq,?_⟩
  rw [hy2,ek]
  rfl
 have isp:∀ {t:Shared},(∀ b o,s.heap.get? b=some o→t.heap.get? b=some o)→∀ {vs:List Value},vs.length=es.size→(∀ (j:Nat) (v:Value),vs[j]?=some v→∃ e,es[j]?=some e∧v=e.key)→Paired (IsPr t.heap) vs prs:=by
  intro t kp vs lv pv
  refine Paired.of_get (by omega) fun j v y hv hy=>?_
  obtain ⟨a,q',rfl,hq,ha⟩:=key j v (pv j v hv)
  rw [hy] at hq
  cases hq
  obtain ⟨its,rv,⟨ot,g1,g2,n,g3⟩,_⟩:=I.tuple (SqT.of ha)
  obtain ⟨u1,u2,rfl,⟨t1,rfl⟩,⟨t2,rfl⟩⟩:=vals2' rv
  exact ⟨a,ot,t1,t2,n,rfl,kp _ _ g1,g2,g3⟩
 refine sorted_src (Out:=OutS prs) (raw_src hsys es ep) (I.ok.hd hc) ⟨o,e1,e2,e3⟩ (by omega) (fun vs h2=>OutS.small h2) (fun _ _ h=>h.len) (fun B vs lv pv h2 t kp=>pr_runS (isp kp lv pv) (by omega)) ?_
 intro D h' tk vs out c hD kp lv pv ho hDo
 obtain ⟨p,hp,eo,ris⟩:=ho
 have ek:∀ {l:List (List Key×V)} {r:List (List Key×Addr×Value)},Paired (fun (p:List Key×V) (q:List Key×Addr×Value)=>p.1=q.1∧H q.2.1=some (.tup (p.1.map kV))∧RelV p.2 q.2.2) l r→l.map (·.1)=r.map (·.1):=by
  intro l r h
  induction h with
  | nil=>rfl
  | cons a _ ih=>rw [List.map_cons,List.map_cons,ih,a.1]
 rw [← ek rel,hk] at nd
 have nd':prs.Nodup:=List.Pairwise.of_map prKey (fun a b h e=>h (by rw [e])) nd
 have I1:Inv X pins σ H { s with heap:=h',toks:=tk }:=I.kept kp
 have fp:=I.newFp hD
 have lt:∀ i∈p,i < vs.length:=fun i hi=>by
  have:=hp.mem_iff.mp hi
  simpa using this
 -- the addresses by places
 have addr:∀ i,∃ a:Addr,i < vs.length→vs.getD i Value.none=.ref a∧H a=some (.tup [.int (prs.getD i (0,0)).1,.int (prs.getD i (0,0)).2]):=fun i=>by
  by_cases hi:i < vs.length
  ·obtain ⟨a,q',ea,hq,ha⟩:=key i vs[i] (pv i _ (by simp [hi]))
   refine ⟨a,fun _=>⟨?_,?_⟩⟩
   ·rw [← ea]
    simp [hi]
   ·have e:prs.getD i (0,0)=q':=by
     rw [List.getD_eq_getElem?_getD,hq]
     rfl
    rw [e]
    exact ha
  ·exact ⟨0,fun z=>absurd z hi⟩
 obtain ⟨f,hf⟩:=Classical.axiomOfChoice addr
 have vals:Vals (p.map fun i=>V.ref (f i)) out.toList:=by
  rw [eo]
  exact Paired.of_map fun i hi=>(hf i (lt i hi)).1
 have new:ObjOk X.prog X.w (upd H D (.lst (p.map fun i=>V.ref (f i)))) h' D (.lst (p.map fun i=>V.ref (f i))):=by
  refine ⟨?_,out.toList,c,vals,by simpa using hDo⟩
  rw [List.length_map,hp.length_eq,List.length_range]
  exact Nat.le_of_lt (small1000 (by omega))
 refine ⟨.ref D,_,I1.adopt fp new,rfl,q D _ (p.map fun i=>prs.getD i (0,0)) _ (Same.upd fp.1) upd_same (Paired.of_map fun i hi=>⟨f i,rfl,?_⟩) ?_ ris nd'⟩
 ·have ha:=(hf i (lt i hi)).2
  rw [upd_ne (ne_of_none ha fp.1)]
  exact ha
 ·have e:(List.range vs.length).map (fun i=>prs.getD i (0,0))=prs:=by
   apply List.ext_getElem
   ·simp
    omega
   ·intro i h1 h2
    simp [h2]
  have:=hp.map fun i=>prs.getD i (0,0)
  rw [e] at this
  exact this
end
end L2
namespace L2
open PySem PySem.Calls PySem.Spec PyProof.Rows PySem.W
section
variable {X:Cx} {k i:Nat} {x:Str} {ps:List Str} {sp:Sp} {p pos:Pos} {e:Expr} {es:List Expr} {t:TA} {f:Addr} {fd:FuncData}
end
end L2
namespace L2
open PySem PySem.Calls PySem.Spec PyProof.Rows
section
variable {X:Cx} {A:Around}
end
end L2
namespace L2
open PySem PySem.Calls PySem.Spec PyProof.Rows
section
variable {X:Cx}
end
end L2
namespace L2
open PySem PySem.Spec PyProof.Rows
end L2
namespace L2
open PySem PySem.Calls PySem.Spec PyProof.Rows PySem.W
section
variable {X:Cx} {pos:Pos}
end
end L2
namespace Hk
open PySem L2 PySem.W
end Hk
namespace L2
open PySem PySem.Calls PySem.Spec PyProof.Rows PySem.W
section
variable {X:Cx} {e:Expr} {es:List Expr} {pos:Pos}
end
section
variable {X:Cx} {A:Around}
end
end L2
namespace L2
open PySem PySem.Spec PyProof.Rows
def Itd (d:Addr) (kvs:List (Key×V)) (o:Obj):It:=⟨fun i H=>i < kvs.length∧H d=some (.frz o (.dK kvs)),fun i H x H'=>H'=H∧∃ k v,kvs[i]?=some (k,v)∧x=kV k,fun i H=>i=kvs.length∧H d=some (.frz o (.dK kvs))⟩
theorem rel_key {k:Key} {u:Value} (h:keyIs k u=true):RelV (kV k) u:=by
 cases k with
 | inl i =>
  cases u with
  | int j t =>
   have e:j=i:=beq_iff_eq.mp (show (j == i)=true from h)
   subst e
   exact ⟨t,rfl⟩
  | _=>exact absurd h (by simp [keyIs,Value.isInt])
 | inr x =>
  cases u with
  | str y t =>
   have e:y=x:=beq_iff_eq.mp (show (y == x)=true from h)
   subst e
   exact ⟨t,rfl⟩
  | _=>exact absurd h (by simp [keyIs,Value.isStrOf])
theorem frz_at {P:Program} {w:World} {H:Hp} {h:Heap} {d:Addr} {kvs:List (Key×V)} {o:Obj} {es:Array DictEntry} {ep:Nat} (hok:HOk P w H h) (e:H d=some (.frz o (.dK kvs))) (he:o.data=.dict es ep):∃ vs,KV kvs vs∧h.DictAt (mixKind P w) d vs ep:=by
 obtain ⟨e1,z,y,vs,r,o',es',ep',e2,ex,ed,k,p,n⟩:=hok d _ e
 obtain rfl:o'=o:=Option.some.inj (e2.symm.trans e1)
 have q:Data.dict es' ep'=Data.dict es ep:=ed.symm.trans he
 cases q
 exact ⟨vs,r,o',es,e2,ex,ed,k,p,n⟩
theorem turn_dict {P:Program} {w:World} {K:PySem.W.Frag} {tg:Expr} (d it:Addr) (kvs:List (Key×V)) (o:Obj) (es:Array DictEntry) (ep:Nat) (he:o.data=.dict es ep):Turn P w K tg (Itd d kvs o) [it] it (fun i h=>h.IsKeyIter it d i kvs.length ep) where
 mem:=by simp
 obj:=fun i h st b hb=>by
  have e:b=it:=by simpa using hb
  subst e
  obtain ⟨o,e,c,d⟩:=st
  exact ⟨o,e,fun v z=>by rw [d] at z; cases z⟩
 keep:=fun i h h' st k=>st.at fun o e=>k it (by simp) o e
 item:=by
  intro X hP hw hK hc i pins s σ H E I hf st hg
  subst hP hw hK
  obtain ⟨hi,hd⟩:=hg
  obtain ⟨vs,r,dd⟩:=frz_at I.hok hd he
  have hl:kvs.length=vs.length:=Paired.length r
  obtain ⟨f0,f1,f2,f3,f4,f5⟩:=hf it (by simp)
  obtain ⟨q,e1,e2,_⟩:=Paired.get' r (i:=i) (x:=kvs[i]) (by simp [hi])
  obtain ⟨k,v⟩:=q
  rw [hl] at st
  refine wpAny_pyNext_dict_item st dd e1 fun key h' hkey st' sb=>?_
  have I1:Inv X pins σ H { s with heap:=h' }:=I.turned (t':=s.toks) (fun b o hb e=>(sb.2 b hb).trans e) f0 f1 f3 f4 f5
  obtain ⟨oi,ei,ci,di⟩:=id st'
  refine ⟨key,rfl,go_of (s:={ s with heap:=h' }) ei ci di (by decide) ⟨kV k,H,I1,rel_key hkey,⟨rfl,kvs[i].1,kvs[i].2,by simp [hi],by rw [e2]⟩,?_,fun b hb=>(hf b hb).1⟩⟩
  rw [hl]
  exact st'
 done:=by
  intro X hP hw hK hc i pins s σ H E I hf st hg
  subst hP hw hK
  obtain ⟨hi,hd⟩:=hg
  obtain ⟨vs,r,dd⟩:=frz_at I.hok hd he
  have hl:kvs.length=vs.length:=Paired.length r
  obtain ⟨f0,f1,f2,f3,f4,f5⟩:=hf it (by simp)
  rw [hl] at st
  exact wpAny_pyNext_dict_end (I.ok.hd hc) st dd (by simp; omega) fun h' eb=>⟨rfl,I.turned (t':=s.toks) (fun b o hb e=>eb b o hb e) f0 f1 f3 f4 f5⟩
 self:=fun _ _ _ _ _ st h=>wpAny_pyIter_keyiter st h
section
variable {X:Cx} {tg:Expr}
def iDict (tl:TE):TI:=fun σ H R=>tl σ H fun x H1=>∃ d kvs,x=.ref d∧H1 d=some (.dK kvs)∧∀ o,R (Itd d kvs o) (upd H1 d (.frz o (.dK kvs)))
theorem pi_dict {l:Expr} {tl:TE} (hl:PE X l tl):PI X tg l (iDict tl):=by
 intro pins s σ H R I h
 refine thn (hl pins s σ H _ I h) fun v s1 ⟨x,H1,I1,r1,q1⟩=>?_
 obtain ⟨d,kvs,e,hd,q⟩:=q1
 subst e
 cases r1
 obtain ⟨z,y,vs,r,o,es,ep,e2,ex,ed,k,p,n⟩:=I1.hok d _ hd
 have dd:s1.heap.DictAt (mixKind X.prog X.w) d vs ep:=⟨o,es,e2,ex,ed,k,p,n⟩
 have hlen:kvs.length=vs.length:=Paired.length r
 have I2:Inv X pins σ (upd H1 d (.frz o (.dK kvs))) { s1 with heap:=s1.heap,toks:=s1.toks }:=I1.write (x:=d) (e:=d) (by rw [hd]; trivial) (.inl rfl) (fun b u _ q=>q) ⟨o,e2⟩ ⟨e2,z,y,vs,r,o,es,ep,e2,ex,ed,k,p,n⟩
 refine wpAny_pyIter_dict y dd ?_
 refine ⟨s1.heap.objs.size,[s1.heap.objs.size],_,_,upd H1 d (.frz o (.dK kvs)),rfl,I2.kept (t':=s1.toks) fun b o e=>Heap.get?_push_of_some _ e,turn_dict d _ kvs o es ep ed,?_,fun b hb=>?_,q o⟩
 ·rw [hlen]
  exact ⟨_,Heap.get?_push_size _ rfl,rfl,rfl⟩
 ·have e:b=s1.heap.objs.size:=by simpa using hb
  subst e
  exact I2.fpOk (Nat.le_refl _) (I2.hok.fresh (Nat.le_refl _))
end
section
variable {g:TG} {tc:TT} {te:TE} {σ:St} {H:Hp} {R:List V→Hp→Prop}
theorem lc_dict {d:Addr} {kvs:List (Key×V)} {o:Obj} (Pv:Nat→List V→Hp→Prop) (h0:Pv 0 [] H) (hl:∀ i zs H,i≤kvs.length→Pv i zs H→H d=some (.frz o (.dK kvs))∧zs.length≤sizeLine) (hd:∀ zs H,Pv kvs.length zs H→R zs H)
  (hs:∀ i k v zs H,kvs[i]?=some (k,v)→i < kvs.length→Pv i zs H→g (kV k) σ H fun σ2 H2=>tc σ2 H2 fun b H3 =>
   if b=true then te σ2 H3 fun y H4=>∃ m',m' < kvs.length - i∧Wn kvs.length Pv (i + 1) m' (zs++[y]) H4 else ∃ m',m' < kvs.length - i∧Wn kvs.length Pv (i + 1) m' zs H3) :
  ∃ W:Nat→Nat→List V→Hp→Prop,(∃ m,W 0 m [] H)∧∀ i m ys H,W i m ys H→((Itd d kvs o).stop i H∧ys.length≤sizeLine∧R ys H) ∨
   ((Itd d kvs o).go i H∧ys.length≤sizeLine∧∀ x H',(Itd d kvs o).yld i H x H'→g x σ H' fun σ2 H2=>tc σ2 H2 fun b H3 =>
    if b=true then te σ2 H3 fun y H4=>∃ m',m' < m∧W (i + 1) m' (ys++[y]) H4 else ∃ m',m' < m∧W (i + 1) m' ys H3):=by
 refine lc_by kvs.length Pv h0 (fun zs H p=>?_) (fun i zs H hi p=>?_)
 ·obtain ⟨q,z⟩:=hl _ zs H (Nat.le_refl _) p
  exact ⟨⟨rfl,q⟩,z,hd zs H p⟩
 ·obtain ⟨q,z⟩:=hl i zs H (Nat.le_of_lt hi) p
  refine ⟨⟨hi,q⟩,z,fun x H' y=>?_⟩
  obtain ⟨e,k,v,y,e2⟩:=y
  subst e e2
  exact hs i k v zs _ y hi p
end
end L2
namespace L2
open PySem PySem.Calls PySem.Spec PyProof.Rows
section
variable {X:Cx}
def Tpi (H:Hp):List V→List (List Int)→Prop:=Paired fun (v:V) (ns:List Int)=>∃ p,v=.ref p∧H p=some (.tup (ns.map V.int))
end
end L2
namespace L2
open PySem PySem.Calls PySem.Spec PyProof.Rows
section
variable {X:Cx} {tg:Expr}
theorem pi_listK (K:PySem.W.Frag) {l:Expr} {tl:TE} (hl:PE X l tl) (hK:X.K=K:=by rfl):PI X tg l (iList K tl):=by
 subst hK
 exact pi_list hl
def rAll (K:PySem.W.Frag):List V→Hp→VK→Prop:=fun xs H Q=>∃ (l:Addr) (bs:List Bool),xs=[.ref l]∧SqL K H l (bs.map V.bl)∧Q (.bl (bs.all id)) H
theorem call_allK (K:PySem.W.Frag) (hc:X.calm=true) (hK:X.K=K:=by rfl):CallR X (.builtin "all") (rAll K):=by
 subst hK
 exact call_all_bl hc
end
end L2
namespace L2
open PySem PySem.Calls PySem.Spec PyProof.Rows
def lexL:List Int→List Int→Bool
 | [],[]=>false
 | [],_::_=>true
 | _::_,[]=>false
 | a::x,b::y=>if a=b then lexL x y else decide (a < b)
theorem lexL_asy:∀ x y:List Int,lexL x y=true→lexL y x=false
 | [],[],h=>by cases h
 | [],_::_,_=>rfl
 | _::_,[],h=>by cases h
 | a::x,b::y,h=>by
  have h:(if a=b then lexL x y else decide (a < b))=true:=h
  show (if b=a then lexL y x else decide (b < a))=false
  by_cases e:a=b
  ·rw [if_pos e] at h
   rw [if_pos e.symm]
   exact lexL_asy x y h
  ·rw [if_neg e] at h
   rw [if_neg (fun z=>e z.symm)]
   have:=of_decide_eq_true h
   exact decide_eq_false (by omega)
theorem lexL_tot:∀ x y:List Int,lexL x y=false→lexL y x=false→x=y
 | [],[],_,_=>rfl
 | [],_::_,h,_=>by cases h
 | _::_,[],_,h=>by cases h
 | a::x,b::y,h,g=>by
  have h:(if a=b then lexL x y else decide (a < b))=false:=h
  have g:(if b=a then lexL y x else decide (b < a))=false:=g
  by_cases e:a=b
  ·rw [if_pos e] at h
   rw [if_pos e.symm] at g
   rw [e,lexL_tot x y h g]
  ·rw [if_neg e] at h
   rw [if_neg (fun z=>e z.symm)] at g
   have h:=of_decide_eq_false h
   have g:=of_decide_eq_false g
   omega
theorem lexL_tr:∀ x y z:List Int,lexL y x=false→lexL z y=false→lexL z x=false
 | [],[],[],_,_=>rfl
 | [],[],_::_,_,_=>rfl
 | [],_::_,[],_,h=>by cases h
 | [],_::_,_::_,_,_=>rfl
 | _::_,[],_,h,_=>by cases h
 | _::_,_::_,[],_,h=>by cases h
 | a::x,b::y,c::z,h,g=>by
  have h:(if b=a then lexL y x else decide (b < a))=false:=h
  have g:(if c=b then lexL z y else decide (c < b))=false:=g
  show (if c=a then lexL z x else decide (c < a))=false
  by_cases e:b=a
  ·rw [if_pos e] at h
   by_cases e2:c=b
   ·rw [if_pos e2] at g
    rw [if_pos (e2.trans e)]
    exact lexL_tr x y z h g
   ·rw [if_neg e2] at g
    rw [if_neg (fun w=>e2 (w.trans e.symm))]
    have g:=of_decide_eq_false g
    exact decide_eq_false (by omega)
  ·rw [if_neg e] at h
   have h:=of_decide_eq_false h
   by_cases e2:c=b
   ·rw [if_neg (fun w=>e (e2.symm.trans w))]
    exact decide_eq_false (by omega)
   ·rw [if_neg e2] at g
    have g:=of_decide_eq_false g
    rw [if_neg (by omega)]
    exact decide_eq_false (by omega)
abbrev RisL (l:List (List Int)):Prop:=l.Pairwise fun x y=>lexL y x=false
abbrev StcL (l:List (List Int)):Prop:=l.Pairwise fun x y=>lexL x y=true
theorem risL_strict:∀ {l:List (List Int)},RisL l→l.Nodup→StcL l
 | [],_,_=>List.Pairwise.nil
 | a::l,h,n=>by
  obtain ⟨h1,h2⟩:=List.pairwise_cons.mp h
  obtain ⟨n1,n2⟩:=List.nodup_cons.mp n
  refine List.pairwise_cons.mpr ⟨fun y hy=>?_,risL_strict h2 n2⟩
  cases e:lexL a y with
  | true=>rfl
  | false=>exact absurd (lexL_tot a y e (h1 y hy)) (fun z=>n1 (z ▸ hy))
def IsTp (h:Heap) (v:Value) (ns:List Int):Prop:=∃ a o us n,v=.ref a∧h.get? a=some o∧o.cls=.type "tuple"∧o.data=.seq (List.toArray us) n∧Vals (ns.map V.int) us
theorem vals_ints_inj:∀ {ns ms:List Int} {us:List Value},Vals (ns.map V.int) us→Vals (ms.map V.int) us→ns=ms
 | [],[],_,_,_=>rfl
 | [],_::_,_,.nil,h=>by cases h
 | _::_,[],_,h,.nil=>by cases h
 | _::_,_::_,_,.cons r t,.cons r' t'=>by
  obtain ⟨_,e⟩:=r
  obtain ⟨_,e'⟩:=r'
  rw [e] at e'
  injection e' with e1 _
  rw [e1,vals_ints_inj t t']
section
variable {prog:Program} {w:World} {A:Around} {E:Value→Shared→Prop} {s:Shared}
theorem lex_ints {C:Bool→Shared→Prop}:∀ (ns ms:List Int) (us vs:List Value) (i:Nat),Vals (ns.map V.int) us→Vals (ms.map V.int) vs→C (lexL ns ms) s→PySem.W.KatLex prog w A true (decide (ns.length < ms.length)) C (us.zip vs) i s
 | [],[],_,_,_,.nil,.nil,h=>PySem.W.kat_nil h
 | [],_::_,_,_,_,.nil,.cons _ _,h=>PySem.W.kat_nil (by rw [show decide (List.length [] < List.length (_::_))=true from by simp]; exact h)
 | _::_,[],_,_,_,.cons _ _,.nil,h=>PySem.W.kat_nil h
 | a::x,b::y,_,_,i,.cons r t,.cons r' t',h=>by
  obtain ⟨t1,rfl⟩:=r
  obtain ⟨t2,rfl⟩:=r'
  have h:C (if a=b then lexL x y else decide (a < b)) s:=h
  refine PySem.W.kat_cons (SeqAt.EqAt.int_int _ _ _ _ prog w _ _ (PySem.W.kat_go (fun e=>PySem.W.kat_yes ?_) fun e=>PySem.W.kat_no ?_))
  ·have e:a=b:=by simpa using e
   rw [if_pos e] at h
   have ih:=lex_ints x y _ _ (i + 1) t t' h
   have:decide ((a::x).length < (b::y).length)=decide (x.length < y.length):=by simp
   rw [this]
   exact ih
  ·have e:¬ a=b:=by simpa using e
   rw [if_neg e] at h
   cases i with
   | zero=>exact oneLt_int h
   | succ i=>exact PySem.W.kat_one _ _ (lt_int (show PySem.W.BoolBack C (.bool _) s from h))
theorem tp_lt {x y:Value} {p q:List Int} {C:Bool→Shared→Prop} (hx:IsTp s.heap x p) (hy:IsTp s.heap y q) (h:C (lexL p q) s):wpAny (model prog w) A (keyLt' (tuples' true) x y) C E s:=by
 obtain ⟨a,o,us,n,rfl,h1,h2,h3,h4⟩:=hx
 obtain ⟨a',o',us',n',rfl,h1',h2',h3',h4'⟩:=hy
 refine PySem.W.kat_lt h1 h3 h1' h3' ?_
 have l1:us.length=p.length:=by rw [← h4.length,List.length_map]
 have l2:us'.length=q.length:=by rw [← h4'.length,List.length_map]
 show PySem.W.KatLex prog w A true (decide (us.length < us'.length)) C (us.zip us') 0 s
 rw [l1,l2]
 exact lex_ints p q us us' 0 h4 h4' h
theorem IsTp.uniq {h:Heap} {v:Value} {p q:List Int} (x:IsTp h v p) (y:IsTp h v q):p=q:=by
 obtain ⟨a,o,us,n,rfl,h1,h2,h3,h4⟩:=x
 obtain ⟨a',o',us',n',e,h1',h2',h3',h4'⟩:=y
 cases e
 rw [h1] at h1'
 cases h1'
 rw [h3] at h3'
 injection h3' with e1 _
 have e1:=congrArg Array.toList e1
 simp at e1
 subst e1
 exact vals_ints_inj h4 h4'
theorem tpOf_ex (h:Heap):∃ key:Value→List Int,∀ v q,IsTp h v q→key v=q:=by
 classical
 refine ⟨fun v=>if x:∃ q,IsTp h v q then x.choose else [],fun v q x=>?_⟩
 have z:∃ q,IsTp h v q:=⟨q,x⟩
 dsimp only
 rw [dif_pos z]
 exact z.choose_spec.uniq x
def keyLtT (key:Value→List Int) (x y:Keyed):Bool:=lexL (key x.1) (key y.1)
theorem keyLtT_ord (key:Value→List Int):Tim.Ordr (keyLtT key):=⟨fun x y e=>lexL_asy _ _ e,fun x y z e1 e2=>lexL_tr _ _ _ e1 e2⟩
def OutT (ps:List (List Int)) (vs o:List Value):Prop:=∃ p:List Nat,p.Perm (List.range vs.length)∧o=p.map (fun i=>vs.getD i Value.none)∧RisL (p.map fun i=>ps.getD i [])
theorem OutT.len {ps:List (List Int)} {vs o:List Value} (h:OutT ps vs o):o.length=vs.length:=by
 obtain ⟨p,hp,rfl,_⟩:=h
 rw [List.length_map,hp.length_eq,List.length_range]
theorem OutT.small {ps:List (List Int)} {vs:List Value} (h:vs.length < 2):OutT ps vs vs:=by
 obtain ⟨p,hp,e⟩:=Reord.refl vs
 refine ⟨p,hp,e,?_⟩
 have l:(p.map fun i=>ps.getD i []).length < 2:=by rw [List.length_map,hp.length_eq,List.length_range]; exact h
 generalize (p.map fun i=>ps.getD i [])=l' at l
 match l',l with
 | [],_=>exact List.Pairwise.nil
 | [_],_=>exact List.pairwise_singleton _ _
 | _::_::_,l=>exact absurd l (by simp)
theorem tp_tups:∀ {vs:List Value} {ps:List (List Int)},Paired (IsTp s.heap) vs ps→(∀ q∈ps,q≠[])→∃ fs,PySem.W.KatTups s.heap vs fs∧fs.length=vs.length∧∀ v∈fs,∃ i t,v=Value.int i t
 | _,_,.nil,_=>⟨[],PySem.W.KatTups.nil,rfl,fun v hv=>by cases hv⟩
 | _,q::_,.cons h r,ne=>by
  obtain ⟨fs,k,l,z⟩:=tp_tups r fun q hq=>ne q (List.mem_cons_of_mem _ hq)
  obtain ⟨a,o,us,n,rfl,h1,h2,h3,h4⟩:=h
  have hq:=ne q List.mem_cons_self
  match q,hq,us,h4,h3 with
  | [],hq,_,_,_=>exact absurd rfl hq
  | i::_,_,u::us',.cons r _,h3 =>
   obtain ⟨t,rfl⟩:=r
   refine ⟨Value.int i t::fs,PySem.W.KatTups.cons h1 h2 h3 (by simp) k,by simp [l],fun v hv=>?_⟩
   rcases List.mem_cons.mp hv with rfl | hv
   ·exact ⟨_,_,rfl⟩
   ·exact z v hv
theorem tp_run {vs:List Value} {ps:List (List Int)} (hp:Paired (IsTp s.heap) vs ps) (hne:∀ q∈ps,q≠[]) (h2:2≤vs.length) :
  wpAny (model prog w) A (keyKind' vs.toArray) (fun κ t'=>t'=s ∧
   wpAny (model prog w) A ((sortRuns').run (SortSt.mk' κ (vs.toArray.zip vs.toArray) #[] 7 none)) (fun r t2=>t2=s∧failedOf r.2=none∧OutT ps vs ((arrOf r.2).map (·.2)).toList) (fun _ _=>False) s) (fun _ _=>False) s:=by
 obtain ⟨fs,kt,lf,hf⟩:=tp_tups hp hne
 obtain ⟨key,hkey⟩:=tpOf_ex s.heap
 refine PySem.W.kat_kind (T:=.type "int") kt (by omega) (fun v hv=>?_) (by decide) ⟨rfl,?_⟩
 ·obtain ⟨i,t,rfl⟩:=hf v hv
  exact .now
 ·have mem:∀ x:Keyed,x∈vs.toArray.zip vs.toArray→x.1=x.2∧∃ q,IsTp s.heap x.1 q:=fun x hx=>by
   have hx':x∈vs.zip vs:=by
    have:=Array.mem_toList_iff.mpr hx
    simpa using this
   obtain ⟨e1,e2⟩:=mem_zip_self hx'
   obtain ⟨k,hk,e3⟩:=List.getElem_of_mem e2
   obtain ⟨y,_,z⟩:=Paired.get' (i:=k) (x:=x.1) hp (by rw [List.getElem?_eq_getElem hk,e3])
   exact ⟨e1,y,z⟩
  have hc:Tim.CmpL prog w A s (tuples' true) (vs.toArray.zip vs.toArray) (keyLtT key):=fun x y hx hy E Q q=>by
   obtain ⟨_,p1,z1⟩:=mem x hx
   obtain ⟨_,p2,z2⟩:=mem y hy
   unfold keyLtT at q
   rw [hkey _ _ z1,hkey _ _ z2] at q
   exact tp_lt z1 z2 q
  refine Tim.runs_L (st:=SortSt.mk' (tuples' true) (vs.toArray.zip vs.toArray) #[] 7 none) (Q:=fun _ st=>failedOf st=none∧OutT ps vs ((arrOf st).map (·.2)).toList) (keyLtT_ord key) hc ⟨rfl,rfl,Array.Perm.refl _⟩ rfl fun st' ok sd=>⟨ok.fail,?_⟩
  have pm:((arrOf st').map (·.2)).toList.Perm vs:=by
   have:=(Array.perm_iff_toList_perm.mp ok.perm).map (·.2)
   rw [Array.toList_map]
   refine this.trans (List.Perm.of_eq ?_)
   simp [List.map_snd_zip]
  obtain ⟨p,hpp,eo⟩:=Reord.of_perm pm
  refine ⟨p,hpp,eo,?_⟩
  -- the pairs of what lies now
  have s1:(((arrOf st').map (·.2)).toList.map (key)).Pairwise fun x y=>lexL y x=false:=by
   rw [Array.toList_map,List.map_map]
   refine List.pairwise_map.mpr ?_
   refine List.Pairwise.imp_of_mem (fun {x y} hx hy h=>?_) sd
   have m1:=(mem x (ok.perm.mem_iff.mp (Array.mem_toList_iff.mp hx))).1
   have m2:=(mem y (ok.perm.mem_iff.mp (Array.mem_toList_iff.mp hy))).1
   unfold keyLtT at h
   show lexL (key y.2) (key x.2)=false
   rw [← m1,← m2]
   exact h
  have e2:((arrOf st').map (·.2)).toList.map (key)=p.map fun i=>ps.getD i []:=by
   rw [eo,List.map_map]
   refine List.map_congr_left fun i hi=>?_
   have hi':i < vs.length:=by
    have:=hpp.mem_iff.mp hi
    simpa using this
   obtain ⟨y,hy,z⟩:=Paired.get' (i:=i) (x:=vs[i]) hp (List.getElem?_eq_getElem hi')
   show key (vs.getD i Value.none)=_
   rw [List.getD_eq_getElem?_getD,List.getElem?_eq_getElem hi',List.getD_eq_getElem?_getD,hy]
   exact hkey _ _ z
  rw [e2] at s1
  exact s1
end
section
variable {X:Cx}
theorem call_sorted_tps:CallR X (.builtin "sorted") (fun xs H Q=>∃ (l:Addr) (ws:List V) (prs:List (List Int)),xs=[.ref l]∧H l=some (.lst ws)∧Tpi H ws prs∧(∀ q∈prs,q≠[])∧ws.length≤10000 ∧
  ∀ (D:Addr) (ws':List V) (prs':List (List Int)) (H':Hp),Same H H'→H D=none→H' D=some (.lst ws')→Tpi H' ws' prs'→prs'.Perm prs→RisL prs'→Q (.ref D) H'):=by
 intro pins s σ H xs us Q I r h
 obtain ⟨l,ws,prs,rfl,hl,ha,hne,hn,q⟩:=h
 obtain ⟨u,rfl,ru⟩:=vals1 r
 cases ru
 obtain ⟨its,rv,pl,hz⟩:=I.list (SqL.of hl)
 have lv:ws.length=its.length:=rv.length
 have lp:ws.length=prs.length:=Paired.length ha
 have isp:∀ {t:Shared},(∀ b o,s.heap.get? b=some o→t.heap.get? b=some o)→Paired (IsTp t.heap) its prs:=by
  intro t kp
  refine Paired.of_get (by omega) fun j v y hv hy=>?_
  have hj:j < its.length:=(List.getElem?_eq_some_iff.mp hv).1
  have hj':j < ws.length:=by omega
  obtain ⟨c,e1,a,e2,e3⟩:=Paired.get' (i:=j) (x:=ws[j]) ha (by simp [hj'])
  rw [hy] at e1
  cases e1
  obtain ⟨w',e4,e5⟩:=rv.get (i:=j) (x:=ws[j]) (by simp [hj'])
  rw [hv] at e4
  cases e4
  rw [e2] at e5
  have e5:v=Value.ref a:=e5
  obtain ⟨jt,r3,⟨ot,g1,g2,n,g3⟩,_⟩:=I.tuple (SqT.of e3)
  exact ⟨a,ot,jt,n,e5,kp _ _ g1,g2,g3,r3⟩
 refine Calls.call_function_entry kind_sorted plain_sorted entry_sorted (args_sorted1 _) ?_
 unfold Builtin.«sorted»
 refine wpAny_bind (m:=checkCount "sorted" 1 1 _) (wpAny_pure ?_)
 have sl:(1000000:Nat) < sizeLine:=by decide
 refine wpAny_bind (collect_list pl.isList ?_)
 refine wpAny_bind (wpAny_newList ?_)
 have hsz:((s.heap.push (seqObj "list" #[] 0)).update s.heap.objs.size (Obj.mapSeq (·++its.toArray))).objs.size=s.heap.objs.size + 1:=by
  rw [Heap.size_update,size_push']
 have hoL:(((s.heap.push (seqObj "list" #[] 0)).update s.heap.objs.size (Obj.mapSeq (·++its.toArray))).push (seqObj "list" its.toArray 0)).get? (s.heap.objs.size + 1)=some (seqObj "list" its.toArray 0):=by
  rw [← hsz]; exact Heap.get?_push_size _ rfl
 show wpAny _ _ _ _ _ { s with heap:=((s.heap.push (seqObj "list" #[] 0)).update s.heap.objs.size (Obj.mapSeq (·++its.toArray))).push (seqObj "list" its.toArray 0) }
 rw [hsz]
 have k0:∀ b o,s.heap.get? b=some o→(((s.heap.push (seqObj "list" #[] 0)).update s.heap.objs.size (Obj.mapSeq (·++its.toArray))).push (seqObj "list" its.toArray 0)).get? b=some o:=fun b o e=>by
  refine Heap.get?_push_of_some _ ?_
  rw [Heap.get?_update_ne _ _ _ _ (Nat.ne_of_lt (Heap.lt_size e))]
  exact Heap.get?_push_of_some _ e
 refine wpAny_bind (wpAny_holding (wpAny_call_entry slot_list_sort ⟨_,hoL,rfl⟩ entry_list_sort (sort_list (Out:=OutT prs its) hoL (by omega) (fun h2=>OutT.small (by omega)) (fun _ h=>h.len)
  (fun h2 t kp=>tp_run (isp fun b o e=>kp b o (Nat.ne_of_lt (Nat.lt_succ_of_lt (Heap.lt_size e))) (k0 b o e)) hne h2) fun out ho=>⟨_,rfl,?_⟩) (args_list_sort _)))
 refine wpAny_pure ⟨_,rfl,?_⟩
 obtain ⟨c,hDo⟩:=sortedHeap_at (vs:=its) (out:=out) hoL
 have kp:∀ b o,s.heap.get? b=some o→(sortedHeap (((s.heap.push (seqObj "list" #[] 0)).update s.heap.objs.size (Obj.mapSeq (·++its.toArray))).push (seqObj "list" its.toArray 0)) (s.heap.objs.size + 1) its out).get? b=some o:=fun b o e=>by
  rw [sortedHeap_old (Nat.ne_of_lt (Nat.lt_succ_of_lt (Heap.lt_size e))) (by rw [size_push',hsz]; exact Nat.lt_succ_of_lt (Nat.lt_succ_of_lt (Heap.lt_size e)))]
  exact k0 b o e
 obtain ⟨p,hp,eo,ris⟩:=ho
 have I1:Inv X pins σ H { s with heap:=sortedHeap (((s.heap.push (seqObj "list" #[] 0)).update s.heap.objs.size (Obj.mapSeq (·++its.toArray))).push (seqObj "list" its.toArray 0)) (s.heap.objs.size + 1) its out }:=I.kept (t':=s.toks) kp
 have fp:FpOk X pins H (s.heap.objs.size + 1):=I.newFp fun b o e=>Nat.lt_succ_of_lt (Heap.lt_size e)
 have lt:∀ i∈p,i < its.length:=fun i hi=>by
  have:=hp.mem_iff.mp hi
  simpa using this
 have vals:Vals (p.map fun i=>ws.getD i .non) out.toList:=by
  rw [eo]
  refine Paired.of_map fun i hi=>?_
  have hi':=lt i hi
  obtain ⟨w',e4,e5⟩:=rv.get (i:=i) (x:=ws[i]'(by omega)) (by simp [lv,hi'])
  have a1:ws.getD i .non=ws[i]'(by omega):=by simp [lv,hi']
  have a2:its.getD i Value.none=w':=by rw [List.getD_eq_getElem?_getD,e4]; rfl
  rw [a1,a2]
  exact e5
 have new:ObjOk X.prog X.w (upd H (s.heap.objs.size + 1) (.lst (p.map fun i=>ws.getD i .non))) (sortedHeap (((s.heap.push (seqObj "list" #[] 0)).update s.heap.objs.size (Obj.mapSeq (·++its.toArray))).push (seqObj "list" its.toArray 0)) (s.heap.objs.size + 1) its out) (s.heap.objs.size + 1) (.lst (p.map fun i=>ws.getD i .non)):=by
  refine ⟨?_,out.toList,c,vals,by simpa using hDo⟩
  rw [List.length_map,hp.length_eq,List.length_range]
  omega
 refine ⟨.ref (s.heap.objs.size + 1),_,I1.adopt fp new,rfl,q _ _ (p.map fun i=>prs.getD i []) _ (Same.upd fp.1) fp.1 upd_same (Paired.of_map fun i hi=>?_) ?_ ris⟩
 ·have hi':=lt i hi
  obtain ⟨c,e1,a,e2,e3⟩:=Paired.get' (i:=i) (x:=ws[i]'(by omega)) ha (by simp [lv,hi'])
  have a1:ws.getD i .non=ws[i]'(by omega):=by simp [lv,hi']
  have a2:prs.getD i []=c:=by rw [List.getD_eq_getElem?_getD,e1]; rfl
  rw [a1,a2]
  exact ⟨a,e2,by rw [upd_ne (ne_of_none e3 fp.1)]; exact e3⟩
 ·have e:(List.range its.length).map (fun i=>prs.getD i [])=prs:=by
   apply List.ext_getElem
   ·simp
    omega
   ·intro i h1 h2
    simp [h2]
  have:=hp.map fun i=>prs.getD i []
  rw [e] at this
  exact this
end
end L2
namespace L2
open PySem PySem.Spec PyProof.Rows
def Itr2 (n:Nat):It:=⟨fun i _=>i < n,fun i H x H'=>H'=H∧x=.int (2 * (i:Int)),fun i _=>n≤i⟩
theorem turn_range2 {P:Program} {w:World} {K:PySem.W.Frag} {tg:Expr} (it:Addr) (n:Nat):Turn P w K tg (Itr2 n) [it] it (fun i h=>IsRangeIter h it (0 + (i:Nat) * 2) ((n:Int) - (i:Nat)) 2) where
 mem:=by simp
 obj:=fun i h st b hb=>by
  have e:b=it:=by simpa using hb
  subst e
  exact ⟨_,st,fun v z=>by
   have z':Data.fields _=Data.cell v:=z
   cases z'⟩
 keep:=fun i h h' st k=>k it (by simp) _ st
 item:=by
  intro X hP hw hK hc i pins s σ H E I hf st hg
  subst hP hw hK
  obtain ⟨f0,f1,f2,f3,f4,f5⟩:=hf it (by simp)
  have W:=Walks.range (prog:=X.prog) (w:=X.w) (I.ok.hd hc) it 0 2 n
  refine W.item i s _ _ hg st fun v h' tk hv st' kk=>?_
  obtain ⟨t,rfl⟩:=hv
  have I1:Inv X pins σ H { s with heap:=h',toks:=tk }:=I.turned (fun b o hb e=>kk b o (by simpa using hb) e) f0 f1 f3 f4 f5
  refine ⟨_,rfl,go_of (s:={ s with heap:=h',toks:=tk }) (n:="range_iterator") st' rfl rfl (by decide) ⟨.int (2 * (i:Int)),H,I1,⟨t,?_⟩,⟨rfl,rfl⟩,st',fun b hb=>(hf b hb).1⟩⟩
  congr 1
  omega
 done:=by
  intro X hP hw hK hc i pins s σ H E I hf st hg
  subst hP hw hK
  obtain ⟨f0,f1,f2,f3,f4,f5⟩:=hf it (by simp)
  exact wpAny_pyNext_range_end (I.ok.hd hc) st (by have:n≤i:=hg; omega) fun h' eb=>⟨rfl,I.turned (t':=s.toks) (fun b o hb e=>eb b o hb e) f0 f1 f3 f4 f5⟩
 self:=fun _ _ _ _ _ st h=>wpAny_pyIter_rangeiter st h
section
variable {X:Cx} {tg:Expr}
theorem rangeSize_two (n:Nat) (j:Int) (h1:(n:Int)=(j + 1) / 2) (h0:0≤j):Builtin.Range.rangeSize 0 j 2=(n:Int):=by
 unfold Builtin.Range.rangeSize
 simp only [show (2:Int) > 0 by decide,if_true]
 split <;> omega
theorem small_two {j:Int} (h0:0≤j) (h1:j≤1000):Builtin.Range.small 0 j 2=true:=by
 unfold Builtin.Range.small
 rw [rangeSize_two ((j + 1) / 2).toNat j (by omega) h0]
 simp only [Builtin.Range.rangeFitsLong,Bool.and_eq_true,Bool.or_eq_true,decide_eq_true_eq,beq_iff_eq,show (2:Int) > 0 by decide,if_true]
 omega
def iRng3 (ta:TA):TI:=fun σ H R=>ta σ H fun vs H1=>∃ (j:Int) (n:Nat),vs=[.int 0,.int j,.int 2]∧0≤j∧j≤1000∧(n:Int)=(j + 1) / 2∧R (Itr2 n) H1
theorem pi_range3 {a b c:Expr} {ta:TA} {p pos:Pos} (hg:Gl X "range") (hm:X.mg "range"=none) (ha:PA X [a,b,c] ta) (hs:starEach [a,b,c] X.env=[(false,eval a X.env),(false,eval b X.env),(false,eval c X.env)]:=by rfl) (hs2:starEach [b,c] X.env=[(false,eval b X.env),(false,eval c X.env)]:=by rfl) :
  PI X tg (.Call (.Name "range" p) [a,b,c] [] pos) (iRng3 ta):=by
 intro pins s σ H R I h
 refine Call_ (ld_blt I hg hm boot_range (PyProof.Rows.callWith_type1 (thn (ha pos pins s σ H _ I h) fun us s1 ⟨vs,H1,I1,r1,q1⟩=>?_) (by rw [hs,hs2]) (by rw [hs2]; rfl)))
 obtain ⟨j,n,e,j0,j1,jn,q⟩:=q1
 subst e
 cases r1 with
 | cons r rr =>
  cases rr with
  | cons r' rr =>
   cases rr with
   | cons r'' rr =>
    cases rr
    obtain ⟨t,rfl⟩:=r
    obtain ⟨t',rfl⟩:=r'
    obtain ⟨t'',rfl⟩:=r''
    refine call_range_3 (by decide) ?_ (.inl (PyProof.noPylong_small (by omega)))
    refine wpAny_pyIter_range (IsRange.new ..) (small_two j0 j1) ?_
    have I2:Inv X pins σ H1 { s1 with heap:=s1.heap.push { cls:=.type "range",data:=.fields #[.int 0 t,.int j t',.int 2 t''] },toks:=s1.toks }:=I1.kept fun b o e=>Heap.get?_push_of_some _ e
    refine ⟨(s1.heap.push { cls:=.type "range",data:=.fields #[.int 0 t,.int j t',.int 2 t''] }).objs.size,[(s1.heap.push { cls:=.type "range",data:=.fields #[.int 0 t,.int j t',.int 2 t''] }).objs.size],_,_,H1,rfl,
     I2.kept (t':=s1.toks) fun b o e=>Heap.get?_push_of_some _ e,turn_range2 _ n,?_,fun b hb=>?_,q⟩
    ·have e1:0 + ((0:Nat):Int) * 2=0:=by simp
     have e2:((n:Nat):Int) - ((0:Nat):Int)=Builtin.Range.rangeSize 0 j 2:=by rw [rangeSize_two n j jn j0]; omega
     show IsRangeIter _ _ (0 + ((0:Nat):Int) * 2) (((n:Nat):Int) - ((0:Nat):Int)) 2
     rw [e1,e2]
     exact Heap.get?_push_size _ rfl
    ·have e:b=(s1.heap.push { cls:=.type "range",data:=.fields #[.int 0 t,.int j t',.int 2 t''] }).objs.size:=by simpa using hb
     subst e
     exact I2.fpOk (Nat.le_refl _) (I2.hok.fresh (Nat.le_refl _))
end
theorem for_range2 {n:Nat} {g:TG} {tb:TS} {D:Ends} {σ:St} {H:Hp} (Pv:Nat→St→Hp→Prop) (h0:Pv 0 σ H)
  (hs:∀ i σ H,i < n→Pv i σ H→g (.int (2 * (i:Int))) σ H fun σ2 H2=>tb { D with nx:=Pv (i + 1),ct:=Pv (i + 1),bk:=D.nx } σ2 H2) (hd:∀ σ H,Pv n σ H→D.nx σ H) :
  ∃ W:Nat→Nat→St→Hp→Prop,(∃ m,W 0 m σ H)∧∀ i m σ H,W i m σ H →
   ((Itr2 n).stop i H∧D.nx σ H)∨((Itr2 n).go i H∧∃ N:St→Hp→Prop,(∀ σ' H',N σ' H'→∃ m',m' < m∧W (i + 1) m' σ' H')∧∀ x H',(Itr2 n).yld i H x H'→g x σ H' fun σ2 H2=>tb { D with nx:=N,ct:=N,bk:=D.nx } σ2 H2):=by
 refine ⟨fun i m σ H=>m=n - i∧i≤n∧Pv i σ H,⟨n,by simp,Nat.zero_le _,h0⟩,?_⟩
 rintro i m σ H ⟨rfl,hi,p⟩
 by_cases hlt:i < n
 ·refine .inr ⟨hlt,Pv (i + 1),fun σ' H' p'=>⟨n - (i + 1),by omega,rfl,hlt,p'⟩,fun x H' y=>?_⟩
  obtain ⟨e,y⟩:=y
  subst e y
  exact hs i σ _ hlt p
 ·have e:i=n:=by omega
  subst e
  exact .inl ⟨Nat.le_refl _,hd σ H p⟩
end L2
namespace L2
open PySem PySem.Spec PyProof.Rows
section
variable {X:Cx} {N:List Str} {src:List (Option Nat)} {scope:Scope} {cl:List (Str×Addr)} {z:Str} {pins:List (Addr×Obj)} {σ:St} {H:Hp} {s:Shared}
end
end L2
namespace L2
open PySem PySem.Calls PySem.Spec PyProof.Rows
end L2
namespace L2
open PySem PySem.Calls PySem.Spec PyProof.Rows PySem.W
section
variable {X:Cx} {pos:Pos}
variable {b₀:Stmt} {sts suite:List Stmt} {i:Nat} {n c:Str} {pc hpos:Pos} {W:Addr} {tb:XK→TS} {th:TS}
end
section
variable {X:Cx}
def rEqTN (K:PySem.W.Frag):R2:=fun x y H Q=>∃ a b xs,x=.ref a∧y=.ref b∧SqT K H a xs∧SqT K H b []∧Q (.bl xs.isEmpty) H
theorem op_eqTN (hu:X.A.units < cLine):OpR X (compareOp .Eq) (rEqTN X.K):=by
 intro pins s σ H x y v u Q I rx ry h
 obtain ⟨a,b,xs,rfl,rfl,ha,hb,q⟩:=h
 cases rx
 cases ry
 obtain ⟨its,r1,p1,_⟩:=I.tuple ha
 obtain ⟨its2,r2,p2,_⟩:=I.tuple hb
 have e2:its2=[]:=by
  have:=r2.length
  exact List.length_eq_zero_iff.mp this.symm
 subst e2
 refine SeqAt.eq_tupleAt (e:=fun _=>true) p1 p2 hu (fun j h1 h2=>absurd h2 (by simp)) ⟨.bl _,H,I,rfl,?_⟩
 have e:xs.isEmpty=its.isEmpty:=by
  have:=r1.length
  cases xs <;> cases its <;> first | rfl | cases this
 rw [e] at q
 cases its with
 | nil=>simpa using q
 | cons x r=>simpa using q
end
end L2
namespace L2
open PySem PySem.Calls PySem.Spec PyProof.Rows
section
variable {X:Cx}
end
end L2
namespace PySem.SeqAt
open AutoSeq1 (wpAny_loadPart')
open MeetsSeq
section
variable {A:Around} {s:Shared}
end
end PySem.SeqAt
namespace L2
open PySem PySem.Calls PySem.Spec PyProof.Rows
section
variable {X:Cx}
end
end L2
namespace L2
open PySem PySem.Calls PySem.Spec PyProof.Rows
inductive Tr where
 | non | int (i:Int) | str (x:Str) | tup (l:List Tr) | lst (l:List Tr)
inductive IsV (K:PySem.W.Frag) (H:Hp) (R:V→Tr→Prop):V→Tr→Prop where
 | non:IsV K H R .non .non
 | bl (b:Bool):IsV K H R (.bl b) (.int (if b then 1 else 0))
 | int (i:Int):IsV K H R (.int i) (.int i)
 | str (x:Str):IsV K H R (.str x) (.str x)
 | tup {a:Addr} {xs:List V} {ts:List Tr} (q:SqT K H a xs) (p:Paired R xs ts):IsV K H R (.ref a) (.tup ts)
 | lst {a:Addr} {xs:List V} {ts:List Tr} (q:SqL K H a xs) (p:Paired R xs ts):IsV K H R (.ref a) (.lst ts)
def Is (K:PySem.W.Frag) (H:Hp):Nat→V→Tr→Prop
 | 0=>IsV K H fun _ _=>False
 | d + 1=>IsV K H (Is K H d)
theorem Is.int {K:PySem.W.Frag} {H:Hp} (i:Int):∀ {d:Nat},Is K H d (.int i) (.int i)
 | 0=>IsV.int i
 | _ + 1=>IsV.int i
theorem Is.tup {K:PySem.W.Frag} {H:Hp} {d:Nat} {a:Addr} {xs:List V} {ts:List Tr} (q:SqT K H a xs) (p:Paired (Is K H d) xs ts):Is K H (d + 1) (.ref a) (.tup ts):=IsV.tup q p
def tPr (q:Int×Int):Tr:=.tup [.int q.1,.int q.2]
theorem tPr_inj {p q:Int×Int} (h:tPr p=tPr q):p=q:=by
 obtain ⟨a,b⟩:=p
 obtain ⟨c,d⟩:=q
 simp only [tPr,Tr.tup.injEq,List.cons.injEq,Tr.int.injEq,and_true] at h
 rw [h.1,h.2]
def tPrs (l:List (Int×Int)):List Tr:=l.map tPr
theorem is_ars {K:PySem.W.Frag} {H:Hp} {d:Nat} {ws:List V} {prs:List (Int×Int)} (h:Ars H ws prs):Paired (Is K H (d + 1)) ws (tPrs prs):=by
 induction h with
 | nil=>exact .nil
 | cons a _ ih =>
  obtain ⟨r,rfl,e⟩:=a
  exact .cons (Is.tup (SqT.of e) (.cons (Is.int _) (.cons (Is.int _) .nil))) ih
theorem tr_eqbool_bool (a b:Bool):((a == b)=true)↔(Tr.int (if a then 1 else 0)=Tr.int (if b then 1 else 0)):=by cases a <;> cases b <;> simp
theorem tr_eqbool_int (a:Bool) (n:Int):(((if a then (1:Int) else 0) == n)=true)↔(Tr.int (if a then 1 else 0)=Tr.int n):=by simp
theorem tr_eqint_bool (n:Int) (a:Bool):((n == (if a then (1:Int) else 0))=true)↔(Tr.int n=Tr.int (if a then 1 else 0)):=by simp
theorem tr_eqint_int (m n:Int):((m == n)=true)↔(Tr.int m=Tr.int n):=by simp
theorem tr_eqstr (x y:Str):((x == y)=true)↔(Tr.str x=Tr.str y):=by simp
section
variable {X:Cx} {pins:List (Addr×Obj)} {s:Shared} {σ:St} {H:Hp} {A:Around} {R:V→Tr→Prop}
theorem sq_excl (I:Inv X pins σ H s) {a:Addr} {xs ys:List V} (h:SqT X.K H a xs) (g:SqL X.K H a ys):False:=by
 obtain ⟨_,_,⟨o,e,c,_⟩,_⟩:=I.tuple h
 obtain ⟨_,_,⟨o',n',e',c',_⟩,_⟩:=I.list g
 rw [e] at e'
 cases e'
 rw [c] at c'
 exact absurd c' (by decide)
theorem paired_fn {R':V→Tr→Prop} (hF:∀ x t t',R' x t→R' x t'→t=t'):∀ {xs:List V} {ts ts':List Tr},Paired R' xs ts→Paired R' xs ts'→ts=ts'
 | _,_,_,.nil,.nil=>rfl
 | _,_,_,.cons a r,.cons b q=>by rw [hF _ _ _ a b,paired_fn hF r q]
theorem isv_fn (I:Inv X pins σ H s) (hF:∀ x t t',R x t→R x t'→t=t') {x:V} {t t':Tr} (h:IsV X.K H R x t) (g:IsV X.K H R x t'):t=t':=by
 cases h with
 | non=>cases g; rfl
 | bl b=>cases g; rfl
 | int i=>cases g; rfl
 | str z=>cases g; rfl
 | tup q p =>
  cases g with
  | tup q' p' =>
   cases I.tuple_inj q q'
   rw [paired_fn hF p p']
  | lst q' p'=>exact (sq_excl I q q').elim
 | lst q p =>
  cases g with
  | lst q' p' =>
   cases I.list_inj q q'
   rw [paired_fn hF p p']
  | tup q' p'=>exact (sq_excl I q' q).elim
theorem is_fn (I:Inv X pins σ H s):∀ {d:Nat} {x:V} {t t':Tr},Is X.K H d x t→Is X.K H d x t'→t=t'
 | 0,_,_,_,h,g=>isv_fn I (fun _ _ _ z _=>z.elim) h g
 | d + 1,_,_,_,h,g=>isv_fn (R:=Is X.K H d) I (fun _ _ _ a b=>is_fn I a b) h g
theorem items_eq (hR:∀ x y t t' v u,R x t→R y t'→RelV x v→RelV y u→∃ b,(b=true↔t=t')∧SeqAt.EqAt A s v u b) {xs ys:List V} {its jts:List Value} {ts ts':List Tr} (r1:Vals xs its) (r2:Vals ys jts) (p1:Paired R xs ts) (p2:Paired R ys ts') :
  ∃ e:Nat→Bool,(∀ j (h1:j < its.toArray.size) (h2:j < jts.toArray.size),SeqAt.EqAt A s its.toArray[j] jts.toArray[j] (e j))∧∀ j,j < ts.length→j < ts'.length→(e j=true↔ts[j]?=ts'[j]?):=by
 have l1:xs.length=its.length:=r1.length
 have l2:ys.length=jts.length:=r2.length
 have l3:xs.length=ts.length:=Paired.length p1
 have l4:ys.length=ts'.length:=Paired.length p2
 have ex:∀ (j:Nat) (h1:j < its.toArray.size) (h2:j < jts.toArray.size),∃ b,(b=true↔ts[j]?=ts'[j]?)∧SeqAt.EqAt A s its.toArray[j] jts.toArray[j] b:=by
  intro j h1 h2
  have h1':j < its.length:=by simpa using h1
  have h2':j < jts.length:=by simpa using h2
  obtain ⟨v1,e1,q1⟩:=r1.get (i:=j) (x:=xs[j]) (by simp [show j < xs.length by omega])
  obtain ⟨v2,e2,q2⟩:=r2.get (i:=j) (x:=ys[j]) (by simp [show j < ys.length by omega])
  obtain ⟨t1,e3,q3⟩:=Paired.get' (i:=j) (x:=xs[j]) p1 (by simp [show j < xs.length by omega])
  obtain ⟨t2,e4,q4⟩:=Paired.get' (i:=j) (x:=ys[j]) p2 (by simp [show j < ys.length by omega])
  have e1':its[j]=v1:=by simpa [h1'] using e1
  have e2':jts[j]=v2:=by simpa [h2'] using e2
  obtain ⟨b,hb,he⟩:=hR _ _ _ _ _ _ q3 q4 q1 q2
  refine ⟨b,?_,?_⟩
  ·rw [e3,e4,hb]
   simp
  ·rw [List.getElem_toArray,List.getElem_toArray,e1',e2']
   exact he
 classical
 refine ⟨fun j=>if h:j < its.toArray.size∧j < jts.toArray.size then Classical.choose (ex j h.1 h.2) else false,fun j h1 h2=>?_,fun j h1 h2=>?_⟩
 ·dsimp only
  rw [dif_pos (⟨h1,h2⟩:j < its.toArray.size∧j < jts.toArray.size)]
  exact (Classical.choose_spec (ex j h1 h2)).2
 ·have k1:j < its.toArray.size:=by rw [List.size_toArray]; omega
  have k2:j < jts.toArray.size:=by rw [List.size_toArray]; omega
  dsimp only
  rw [dif_pos (⟨k1,k2⟩:j < its.toArray.size∧j < jts.toArray.size)]
  exact (Classical.choose_spec (ex j k1 k2)).1
theorem all_iff {e:Nat→Bool} {ts ts':List Tr} {n n':Nat} (l:ts.length=n) (l':ts'.length=n') (he:∀ j,j < ts.length→j < ts'.length→(e j=true↔ts[j]?=ts'[j]?)):((List.range (min n n')).all e && n == n')=true↔ts=ts':=by
 subst l l'
 rw [Bool.and_eq_true,beq_iff_eq,List.all_eq_true]
 constructor
 ·rintro ⟨h,hl⟩
  refine List.ext_getElem? fun j=>?_
  by_cases hj:j < ts.length
  ·exact (he j hj (by omega)).mp (h j (by rw [List.mem_range]; omega))
  ·rw [List.getElem?_eq_none (by omega),List.getElem?_eq_none (by omega)]
 ·rintro rfl
  refine ⟨fun j hj=>?_,rfl⟩
  rw [List.mem_range] at hj
  exact (he j (by omega) (by omega)).mpr rfl
theorem len_of {xs:List V} {its:List Value} {ts:List Tr} (r:Vals xs its) (p:Paired R xs ts):ts.length=its.toArray.size:=by
 rw [List.size_toArray,← r.length,Paired.length p]
section
variable (hu:A.units < cLine) (I:Inv X pins σ H s) (hR:∀ x y t t' v u,R x t→R y t'→RelV x v→RelV y u→∃ b,(b=true↔t=t')∧SeqAt.EqAt A.in1 s v u b) (hF:∀ x t t',R x t→R x t'→t=t')
include hu I hR hF
theorem rcat_tup {a b:Addr} {xs ys:List V} {ts ts':List Tr} (q1:SqT X.K H a xs) (q2:SqT X.K H b ys) (p1:Paired R xs ts) (p2:Paired R ys ts'):∃ k,(k=true↔Tr.tup ts=Tr.tup ts')∧SeqAt.RcAt A s (.ref a) (.ref b) k:=by
 obtain ⟨its,r1,pp1,_⟩:=I.tuple q1
 obtain ⟨jts,r2,pp2,_⟩:=I.tuple q2
 obtain ⟨e,he,hi⟩:=items_eq hR r1 r2 p1 p2
 refine ⟨_,?_,SeqAt.RcAt.tuples pp1 pp2 hu he⟩
 rw [all_iff (len_of r1 p1) (len_of r2 p2) hi,Tr.tup.injEq]
theorem rcat_lst {a b:Addr} {xs ys:List V} {ts ts':List Tr} (q1:SqL X.K H a xs) (q2:SqL X.K H b ys) (p1:Paired R xs ts) (p2:Paired R ys ts'):∃ k,(k=true↔Tr.lst ts=Tr.lst ts')∧SeqAt.RcAt A s (.ref a) (.ref b) k:=by
 obtain ⟨its,r1,pp1,_⟩:=I.list q1
 obtain ⟨jts,r2,pp2,_⟩:=I.list q2
 obtain ⟨e,he,hi⟩:=items_eq hR r1 r2 p1 p2
 have l1:=len_of r1 p1
 have l2:=len_of r2 p2
 by_cases c:its.toArray.size=jts.toArray.size
 ·refine ⟨_,?_,SeqAt.RcAt.lists pp1.isList pp2.isList c hu he⟩
  have:=all_iff l1 l2 hi
  rw [c,Nat.min_self,beq_self_eq_true,Bool.and_true] at this
  rw [c,this,Tr.lst.injEq]
 ·refine ⟨false,?_,SeqAt.RcAt.lists_lengths pp1.isList pp2.isList (by simpa using c) hu⟩
  simp only [Bool.false_eq_true,Tr.lst.injEq,false_iff]
  exact fun z=>c (by rw [← l1,← l2,z])
theorem eqat_tup {a b:Addr} {xs ys:List V} {ts ts':List Tr} (q1:SqT X.K H a xs) (q2:SqT X.K H b ys) (p1:Paired R xs ts) (p2:Paired R ys ts'):∃ k,(k=true↔Tr.tup ts=Tr.tup ts')∧SeqAt.EqAt A s (.ref a) (.ref b) k:=by
 by_cases c:a=b
 ·subst c
  cases I.tuple_inj q1 q2
  rw [paired_fn hF p1 p2]
  exact ⟨true,by simp,SeqAt.EqAt.same _⟩
 ·obtain ⟨k,hk,h⟩:=rcat_tup hu I hR hF q1 q2 p1 p2
  exact ⟨k,hk,SeqAt.EqAt.of_refs c h⟩
theorem eqat_lst {a b:Addr} {xs ys:List V} {ts ts':List Tr} (q1:SqL X.K H a xs) (q2:SqL X.K H b ys) (p1:Paired R xs ts) (p2:Paired R ys ts'):∃ k,(k=true↔Tr.lst ts=Tr.lst ts')∧SeqAt.EqAt A s (.ref a) (.ref b) k:=by
 by_cases c:a=b
 ·subst c
  cases I.list_inj q1 q2
  rw [paired_fn hF p1 p2]
  exact ⟨true,by simp,SeqAt.EqAt.same _⟩
 ·obtain ⟨k,hk,h⟩:=rcat_lst hu I hR hF q1 q2 p1 p2
  exact ⟨k,hk,SeqAt.EqAt.of_refs c h⟩
theorem eqAt_isv {x y:V} {t t':Tr} {v u:Value} (h:IsV X.K H R x t) (h':IsV X.K H R y t') (rx:RelV x v) (ry:RelV y u):∃ b,(b=true↔t=t')∧SeqAt.EqAt A s v u b:=by
 cases h with
 | non =>
  cases rx
  cases h' with
  | non =>
   cases ry
   exact ⟨_,by simp,SeqAt.EqAt.same _⟩
  | bl b2 =>
   cases ry
   exact ⟨false,by simp,SeqAt.EqAt.none_bool b2⟩
  | int n2 =>
   obtain ⟨w2,rfl⟩:=ry
   exact ⟨false,by simp,SeqAt.EqAt.none_int n2 w2⟩
  | str z2 =>
   obtain ⟨w2,rfl⟩:=ry
   exact ⟨false,by simp,SeqAt.EqAt.none_str z2 w2⟩
  | tup q2 p2 =>
   cases ry
   obtain ⟨its2,r2,pp2,_⟩:=I.tuple q2
   have I2:=pp2
   exact ⟨false,by simp,SeqAt.EqAt.none_tuple I2 hu⟩
  | lst q2 p2 =>
   cases ry
   obtain ⟨its2,r2,pp2,_⟩:=I.list q2
   have I2:=pp2.isList
   exact ⟨false,by simp,SeqAt.EqAt.none_list I2 hu⟩
 | bl b1 =>
  cases rx
  cases h' with
  | non =>
   cases ry
   exact ⟨false,by simp,SeqAt.EqAt.bool_none b1⟩
  | bl b2 =>
   cases ry
   exact ⟨_,tr_eqbool_bool b1 b2,SeqAt.EqAt.bool_bool b1 b2⟩
  | int n2 =>
   obtain ⟨w2,rfl⟩:=ry
   exact ⟨_,tr_eqbool_int b1 n2,SeqAt.EqAt.bool_int b1 n2 w2⟩
  | str z2 =>
   obtain ⟨w2,rfl⟩:=ry
   exact ⟨false,by simp,SeqAt.EqAt.bool_str b1 z2 w2⟩
  | tup q2 p2 =>
   cases ry
   obtain ⟨its2,r2,pp2,_⟩:=I.tuple q2
   have I2:=pp2
   exact ⟨false,by simp,SeqAt.EqAt.bool_tuple b1 I2 hu⟩
  | lst q2 p2 =>
   cases ry
   obtain ⟨its2,r2,pp2,_⟩:=I.list q2
   have I2:=pp2.isList
   exact ⟨false,by simp,SeqAt.EqAt.bool_list b1 I2 hu⟩
 | int n1 =>
  obtain ⟨w1,rfl⟩:=rx
  cases h' with
  | non =>
   cases ry
   exact ⟨false,by simp,SeqAt.EqAt.int_none n1 w1⟩
  | bl b2 =>
   cases ry
   exact ⟨_,tr_eqint_bool n1 b2,SeqAt.EqAt.int_bool n1 w1 b2⟩
  | int n2 =>
   obtain ⟨w2,rfl⟩:=ry
   exact ⟨_,tr_eqint_int n1 n2,SeqAt.EqAt.int_int n1 w1 n2 w2⟩
  | str z2 =>
   obtain ⟨w2,rfl⟩:=ry
   exact ⟨false,by simp,SeqAt.EqAt.int_str n1 w1 z2 w2⟩
  | tup q2 p2 =>
   cases ry
   obtain ⟨its2,r2,pp2,_⟩:=I.tuple q2
   have I2:=pp2
   exact ⟨false,by simp,SeqAt.EqAt.int_tuple n1 w1 I2 hu⟩
  | lst q2 p2 =>
   cases ry
   obtain ⟨its2,r2,pp2,_⟩:=I.list q2
   have I2:=pp2.isList
   exact ⟨false,by simp,SeqAt.EqAt.int_list n1 w1 I2 hu⟩
 | str z1 =>
  obtain ⟨w1,rfl⟩:=rx
  cases h' with
  | non =>
   cases ry
   exact ⟨false,by simp,SeqAt.EqAt.str_none z1 w1⟩
  | bl b2 =>
   cases ry
   exact ⟨false,by simp,SeqAt.EqAt.str_bool z1 w1 b2⟩
  | int n2 =>
   obtain ⟨w2,rfl⟩:=ry
   exact ⟨false,by simp,SeqAt.EqAt.str_int z1 w1 n2 w2⟩
  | str z2 =>
   obtain ⟨w2,rfl⟩:=ry
   exact ⟨_,tr_eqstr z1 z2,SeqAt.EqAt.str_str z1 w1 z2 w2⟩
  | tup q2 p2 =>
   cases ry
   obtain ⟨its2,r2,pp2,_⟩:=I.tuple q2
   have I2:=pp2
   exact ⟨false,by simp,SeqAt.EqAt.str_tuple z1 w1 I2 hu⟩
  | lst q2 p2 =>
   cases ry
   obtain ⟨its2,r2,pp2,_⟩:=I.list q2
   have I2:=pp2.isList
   exact ⟨false,by simp,SeqAt.EqAt.str_list z1 w1 I2 hu⟩
 | tup q1 p1 =>
  cases rx
  cases h' with
  | non =>
   cases ry
   obtain ⟨its1,r1,pp1,_⟩:=I.tuple q1
   have I1:=pp1
   exact ⟨false,by simp,SeqAt.EqAt.tuple_none I1 hu⟩
  | bl b2 =>
   cases ry
   obtain ⟨its1,r1,pp1,_⟩:=I.tuple q1
   have I1:=pp1
   exact ⟨false,by simp,SeqAt.EqAt.tuple_bool b2 I1 hu⟩
  | int n2 =>
   obtain ⟨w2,rfl⟩:=ry
   obtain ⟨its1,r1,pp1,_⟩:=I.tuple q1
   have I1:=pp1
   exact ⟨false,by simp,SeqAt.EqAt.tuple_int n2 w2 I1 hu⟩
  | str z2 =>
   obtain ⟨w2,rfl⟩:=ry
   obtain ⟨its1,r1,pp1,_⟩:=I.tuple q1
   have I1:=pp1
   exact ⟨false,by simp,SeqAt.EqAt.tuple_str z2 w2 I1 hu⟩
  | tup q2 p2 =>
   cases ry
   obtain ⟨its1,r1,pp1,_⟩:=I.tuple q1
   have I1:=pp1
   obtain ⟨its2,r2,pp2,_⟩:=I.tuple q2
   have I2:=pp2
   exact eqat_tup hu I hR hF q1 q2 p1 p2
  | lst q2 p2 =>
   cases ry
   obtain ⟨its1,r1,pp1,_⟩:=I.tuple q1
   have I1:=pp1
   obtain ⟨its2,r2,pp2,_⟩:=I.list q2
   have I2:=pp2.isList
   exact ⟨false,by simp,SeqAt.EqAt.tuple_list I1 I2 hu⟩
 | lst q1 p1 =>
  cases rx
  cases h' with
  | non =>
   cases ry
   obtain ⟨its1,r1,pp1,_⟩:=I.list q1
   have I1:=pp1.isList
   exact ⟨false,by simp,SeqAt.EqAt.list_none I1 hu⟩
  | bl b2 =>
   cases ry
   obtain ⟨its1,r1,pp1,_⟩:=I.list q1
   have I1:=pp1.isList
   exact ⟨false,by simp,SeqAt.EqAt.list_bool b2 I1 hu⟩
  | int n2 =>
   obtain ⟨w2,rfl⟩:=ry
   obtain ⟨its1,r1,pp1,_⟩:=I.list q1
   have I1:=pp1.isList
   exact ⟨false,by simp,SeqAt.EqAt.list_int n2 w2 I1 hu⟩
  | str z2 =>
   obtain ⟨w2,rfl⟩:=ry
   obtain ⟨its1,r1,pp1,_⟩:=I.list q1
   have I1:=pp1.isList
   exact ⟨false,by simp,SeqAt.EqAt.list_str z2 w2 I1 hu⟩
  | tup q2 p2 =>
   cases ry
   obtain ⟨its1,r1,pp1,_⟩:=I.list q1
   have I1:=pp1.isList
   obtain ⟨its2,r2,pp2,_⟩:=I.tuple q2
   have I2:=pp2
   exact ⟨false,by simp,SeqAt.EqAt.list_tuple I1 I2 hu⟩
  | lst q2 p2 =>
   cases ry
   obtain ⟨its1,r1,pp1,_⟩:=I.list q1
   have I1:=pp1.isList
   obtain ⟨its2,r2,pp2,_⟩:=I.list q2
   have I2:=pp2.isList
   exact eqat_lst hu I hR hF q1 q2 p1 p2
end
theorem eqAt_tr (I:Inv X pins σ H s):∀ (d:Nat) {A:Around} {x y:V} {t t':Tr} {v u:Value},A.units + d < cLine→Is X.K H d x t→Is X.K H d y t'→RelV x v→RelV y u→∃ b,(b=true↔t=t')∧SeqAt.EqAt A s v u b
 | 0,_,_,_,_,_,_,_,hu,h,h',rx,ry=>eqAt_isv hu I (fun _ _ _ _ _ _ z _ _ _=>z.elim) (fun _ _ _ z _=>z.elim) h h' rx ry
 | d + 1,A,_,_,_,_,_,_,hu,h,h',rx,ry=>eqAt_isv (show A.units < cLine by omega) I (fun _ _ _ _ _ _ a b ra rb=>eqAt_tr I d (A:=A.in1) (show A.units + 1 + d < cLine by omega) a b ra rb) (fun _ _ _ a b=>is_fn I a b) h h' rx ry
end
section
variable {X:Cx}
def rInTr (K:PySem.W.Frag) (d:Nat):R2:=fun x y H Q=>∃ p ys t ts,y=.ref p∧(SqL K H p ys∨SqT K H p ys)∧Is K H d x t∧Paired (Is K H d) ys ts∧∀ b,(b=true↔t∈ts)→Q (.bl b) H
theorem items_in {pins:List (Addr×Obj)} {s:Shared} {σ:St} {H:Hp} {A:Around} (I:Inv X pins σ H s) {d:Nat} (hu:A.units + d < cLine) {x:V} {v:Value} {t:Tr} {ys:List V} {ts:List Tr} {its:List Value} (h:Is X.K H d x t) (rx:RelV x v) (r:Vals ys its) (p:Paired (Is X.K H d) ys ts) :
  ∃ e:Value→Bool,(∀ y,y∈its→SeqAt.EqAt A s y v (e y))∧(∀ (j:Nat) (y:Value),its[j]?=some y→(e y=true↔ts[j]?=some t)):=by
 have l1:ys.length=its.length:=r.length
 have l2:ys.length=ts.length:=Paired.length p
 have ex:∀ y,y∈its→∃ b,(∀ j:Nat,its[j]?=some y→(b=true↔ts[j]?=some t))∧SeqAt.EqAt A s y v b:=by
  intro y hy
  obtain ⟨j,hj⟩:=List.mem_iff_getElem?.mp hy
  have one:∀ k:Nat,its[k]?=some y→∃ z tz,ts[k]?=some tz∧Is X.K H d z tz∧RelV z y:=fun k hk=>by
   have k1:k < its.length:=(List.getElem?_eq_some_iff.mp hk).1
   obtain ⟨v1,e1,q1⟩:=r.get (i:=k) (x:=ys[k]) (by simp [show k < ys.length by omega])
   obtain ⟨t1,e3,q3⟩:=Paired.get' (i:=k) (x:=ys[k]) p (by simp [show k < ys.length by omega])
   rw [hk] at e1
   cases e1
   exact ⟨ys[k],t1,e3,q3,q1⟩
  obtain ⟨z,tz,h1,h2,h3⟩:=one j hj
  obtain ⟨b,hb,he⟩:=eqAt_tr I d hu h2 h h3 rx
  refine ⟨b,fun k hk=>?_,he⟩
  obtain ⟨z',tz',h1',h2',h3'⟩:=one k hk
  have ez:tz'=tz:=by
   cases RelV.inj h3 h3'
   exact is_fn I h2' h2
  rw [h1',hb,ez]
  simp
 classical
 refine ⟨fun y=>if hy:y∈its then Classical.choose (ex y hy) else false,fun y hy=>?_,fun j y hj=>?_⟩
 ·dsimp only
  rw [dif_pos hy]
  exact (Classical.choose_spec (ex y hy)).2
 ·have hy:y∈its:=List.mem_of_getElem? hj
  dsimp only
  rw [dif_pos hy]
  exact (Classical.choose_spec (ex y hy)).1 j hj
theorem any_in {e:Value→Bool} {its:List Value} {ts:List Tr} {t:Tr} (l:its.length=ts.length) (h:∀ (j:Nat) (y:Value),its[j]?=some y→(e y=true↔ts[j]?=some t)):(its.toArray.any e=true)↔t∈ts:=by
 rw [List.any_toArray,List.any_eq_true]
 constructor
 ·rintro ⟨y,hy,ey⟩
  obtain ⟨j,hj⟩:=List.mem_iff_getElem?.mp hy
  exact List.mem_of_getElem? ((h j y hj).mp ey)
 ·intro ht
  obtain ⟨j,hj⟩:=List.mem_iff_getElem?.mp ht
  have k:j < its.length:=by
   have:=(List.getElem?_eq_some_iff.mp hj).1
   omega
  have hy:its[j]?=some its[j]:=by simp [k]
  exact ⟨its[j],List.getElem_mem k,(h j _ hy).mpr hj⟩
theorem op_inTr (d:Nat) (hu:X.A.units + 1 + d < cLine):OpR X (compareOp .In) (rInTr X.K d):=by
 intro pins s σ H x y v u Q I rx ry h
 obtain ⟨p,ys,t,ts,rfl,hq,h1,h2,q⟩:=h
 cases ry
 rcases hq with hq | hq
 ·obtain ⟨its,r,pl,_⟩:=I.list hq
  obtain ⟨e,he,hi⟩:=items_in I (A:=X.A.in1) hu h1 rx r h2
  refine SeqAt.in_listAt e pl.isList (fun y hy=>he y (by simpa using hy)) ⟨.bl _,H,I,rfl,q _ ?_⟩
  exact any_in (by rw [← r.length,Paired.length h2]) hi
 ·obtain ⟨its,r,pl,_⟩:=I.tuple hq
  obtain ⟨e,he,hi⟩:=items_in I (A:=X.A.in1) hu h1 rx r h2
  refine SeqAt.in_tupleAt e pl (fun y hy=>he y (by simpa using hy)) ⟨.bl _,H,I,rfl,q _ ?_⟩
  exact any_in (by rw [← r.length,Paired.length h2]) hi
end
end L2
namespace L2
open PySem PySem.Calls PySem.Spec PyProof.Rows
section
variable {X:Cx}
end
end L2
namespace PySem
open PySem.Spec PyProof.Rows
section
variable {prog:Program} {w:World} {A:Around} {E:Value→Shared→Prop} {s:Shared}
end
end PySem
namespace L2
open PySem PySem.Calls PySem.Spec PyProof.Rows
section
variable {X:Cx}
end
end L2
namespace L2
open PySem PySem.Calls PySem.Spec PyProof.Rows PySem.W
section
variable {X:Cx} {e:Expr} {pos:Pos} {te:TE}
end
end L2
namespace PySem
section
variable {prog:Program} {w:World} {A:Around} {R:Result→Shared→Prop} {I:Addr} {fp wr:List Addr} {G:Array GenState→Array GenState→Prop} {n:Nat} {P:Nat→Value→Prop} {St:Nat→Shared→Prop}
variable {K:Type} [DecidableEq K] {knd:KeyKind prog w K}
end
section
variable {prog:Program} {w:World} {A:Around} {E:Value→Shared→Prop} {s:Shared}
variable {K:Type} [DecidableEq K] {knd:KeyKind prog w K}
end
end PySem
namespace L2
open PySem PySem.Calls PySem.Spec PyProof.Rows PySem.W
section
variable {X:Cx}
end
end L2
namespace PySem
section
variable {prog:Program} {w:World} {A:Around} {R:Result→Shared→Prop} {I:Addr} {fp wr:List Addr} {G:Array GenState→Array GenState→Prop} {n:Nat} {P:Nat→Value→Prop} {St:Nat→Shared→Prop}
variable {K:Type} [DecidableEq K] {knd:KeyKind prog w K}
end
section
variable {prog:Program} {w:World} {A:Around} {E:Value→Shared→Prop} {s:Shared}
variable {K:Type} [DecidableEq K] {knd:KeyKind prog w K}
end
end PySem
namespace L2
open PySem PySem.Calls PySem.Spec PyProof.Rows PySem.W
section
variable {X:Cx}
end
end L2
namespace L2
open PySem PySem.Spec PyProof.Rows
section
variable {X:Cx} {es:List Expr} {kt:Nat} {tp:Pos}
end
section
variable {X:Cx}
end
end L2
namespace L2
open PySem PySem.Calls PySem.Spec PyProof.Rows PySem.W
section
variable {prog:Program} {w:World} {A:Around} {E:Value→Shared→Prop} {s:Shared}
end
end L2
namespace L2
open PySem PySem.Calls PySem.Spec PyProof.Rows PySem.W
section
variable {X:Cx} {pins:List (Addr×Obj)} {σ:St} {H:Hp} {s:Shared}
end
end L2
namespace L2.Hd
open L2 PySem PySem.Calls PySem.Spec PyProof.Rows PySem.W
section
variable {X:Cx} {tg:Expr}
end
section
variable {X:Cx} {N:List Str} {src:List (Option Nat)} {scope:Scope} {cl:List (Str×Addr)} {pins:List (Addr×Obj)} {σ:St} {H:Hp} {s:Shared}
end
end L2.Hd
namespace L2
open PySem PySem.Calls PySem.Spec PyProof.Rows PySem.W
section
variable {prog:Program} {w:World} {A:Around} {y:Addr} {ob:Obj}
end
section
variable {X:Cx}
end
end L2
namespace PySem
open PySem.Spec PyProof.Rows
section
variable {prog:Program} {w:World} {A:Around} {E:Value→Shared→Prop} {s:Shared} {y:Addr} {ob:Obj}
end
end PySem
namespace L2
open PySem PySem.Calls PySem.Spec PyProof.Rows PySem.W
section
variable {X:Cx}
end
section
variable {X:Cx} {k:Nat} {x:Str} {ps:List Str} {sp:Sp} {p pos:Pos} {e:Expr} {es:List Expr} {t:TA}
end
end L2
namespace L2
open PySem
section
variable {prog:Program} {w:World} {z TI TO i1 i2:Addr} {f1 f2:List Addr} {n1 n2:Nat} {P1 P2:Nat→Value→Prop} {S1 S2:Nat→Heap→Prop}
end
section
open PySem.Spec PyProof.Rows
variable {X:Cx} {nm:Str} {tp:Pos}
end
end L2
namespace L2
open PySem PySem.Spec PyProof.Rows
section
variable {prog:Program} {w:World} {A:Around} {R:Result→Shared→Prop} {it B:Addr} {fp wr:List Addr} {n:Nat} {P:Nat→Value→Prop} {St:Nat→Heap→Prop} {dn:Str} {dv:Value} {kf:Nat→Nat} {Ok:Heap→Prop}
end
section
variable {X:Cx}
end
end L2
namespace L2
open PySem PySem.Spec PyProof.Rows
section
variable {X:Cx}
end
end L2
namespace L2
open PySem
end L2
namespace L2
open PySem PySem.Calls PySem.Spec PyProof.Rows
section
variable {prog:Program} {w:World} {A:Around} {E:Value→Shared→Prop} {s:Shared} {d it:Addr} {es:Array (Int×Value)} {ep i slot:Nat} {t:SetTable}
end
end L2
namespace L2
open PySem PySem.Calls PySem.Spec PyProof.Rows
section
variable {prog:Program} {w:World} {K:Type} [DecidableEq K] {knd:KeyKind prog w K} {Sm:K→Prop} {A:Around} {E:Value→Shared→Prop} {s:Shared}
end
end L2
namespace L2
open PySem PySem.Calls PySem.Spec PyProof.Rows
section
variable {prog:Program} {w:World} {A:Around} {E:Value→Shared→Prop} {s:Shared} {d it:Addr} {es:Array (Int×Value)} {ep i slot:Nat} {t:SetTable}
end
end L2
namespace L2
open PySem PySem.Calls PySem.Spec PyProof.Rows
section
variable {prog:Program} {w:World} {K:Type} [DecidableEq K] {knd:KeyKind prog w K} {Sm:K→Prop} {A:Around} {E:Value→Shared→Prop} {s:Shared}
end
end L2
namespace L2
open PySem PySem.Calls PySem.Spec PyProof.Rows
section
variable {prog:Program} {w:World} {K:Type} [DecidableEq K] {knd:KeyKind prog w K} {Sm:K→Prop} {A:Around} {E:Value→Shared→Prop} {s:Shared}
end
section
variable {X:Cx}
end
end L2
namespace Hk
open PySem L2
def top (i:Nat):Stmt:=PySem.Challenge.pw_holdsets_k28_cases_by_anybody.main.body.getD i (.Pass ⟨0,0,0,0⟩)
def inCls (s:Stmt) (i:Nat):Stmt:=match s with
 | .ClassDef _ _ _ b _ _ _ _ _ _ _=>b.getD i (.Pass ⟨0,0,0,0⟩)
 | _=>.Pass ⟨0,0,0,0⟩
abbrev s_WebError_init:Stmt:=inCls (top 1) 0
abbrev s_NoPlace_init:Stmt:=inCls (top 2) 0
abbrev s_whole_good:Stmt:=top 12
abbrev s_place_good:Stmt:=top 13
abbrev s_pair_good:Stmt:=top 14
abbrev s_all_leads:Stmt:=top 15
abbrev s_marked:Stmt:=top 17
abbrev s_tied_arrows:Stmt:=top 18
abbrev s_fault_good:Stmt:=top 19
abbrev s_truths_good:Stmt:=top 21
abbrev s_places_with:Stmt:=top 22
abbrev s_refuse_no_beginning:Stmt:=top 24
abbrev s_tied_begun:Stmt:=top 25
abbrev s_lost_begun:Stmt:=top 26
abbrev s_paper_good:Stmt:=top 27
abbrev s_cases_good:Stmt:=top 28
abbrev s_law_cell_at:Stmt:=top 30
abbrev s_law_next:Stmt:=top 31
abbrev s_law_pen_of:Stmt:=top 32
abbrev s_law_draw:Stmt:=top 33
abbrev s_law_whole:Stmt:=top 34
abbrev s_law_kind_of:Stmt:=top 35
abbrev s_law_web_by:Stmt:=top 36
abbrev s_law_small_web:Stmt:=top 37
abbrev s_law_nexts:Stmt:=top 38
abbrev s_law_fault:Stmt:=top 39
abbrev s_law_all_sets:Stmt:=top 40
abbrev s_law_holds_of:Stmt:=top 41
abbrev s_law_beginning:Stmt:=top 42
abbrev s_law_odd_beginning:Stmt:=top 43
abbrev s_law_paper_of:Stmt:=top 44
abbrev s_law_paper_due:Stmt:=top 45
abbrev s_law_leaf:Stmt:=top 46
abbrev s_law_bent:Stmt:=top 47
abbrev s_law_right:Stmt:=top 48
abbrev s_law_refused:Stmt:=top 49
abbrev s_law:Stmt:=top 50
end Hk
namespace Hk
open PySem L2 PySem.W
section
variable {P:Program} {w:World} {K:Frag} {mg:Str→Option Value} {base:Heap}
structure FunD (K:Frag) (x qual:Str) (st:Stmt) (f:Addr) (fd:FuncData):Prop where
 ex:∃ (oc:Value) (od:Option Addr) (dV kV doc pm:Value) (an:Option Addr) (cdv ct:Value) (osl:Array (Option Value)),
  fd=fnOf x qual (defArgs st) (defBody st) (defScope st) dV kV doc pm an cdv ct∧K.lookup f=some ⟨oc,od,.func fd,osl⟩∧codeIn K cdv qual=true
theorem FunD.ok {x qual:Str} {st:Stmt} {f:Addr} {fd:FuncData} {N ps:List Str} {k:Nat} {sp:Sp} (F:FunD K x qual st f fd) (S:FnScope N ps (defScope st)) (len:∀ vs H Q E,sp vs H Q E→vs.length=ps.length)
  (hbody:∀ (cdv:Value) (A:Around) (outer:List Env) (s:Shared) (H:Hp) (vs:List V) (Q:VK) (E:XK),Room k (A.deeper (PyProof.Rows.envOfC qual (defScope st) s.heap.objs.size f cdv))→sp vs H Q E →
   ∃ t,PSs (cxOf CX0 P w K mg base N qual (defScope st) f cdv A outer s H E).nox (defBody st) t∧t { nx:=fun _ H'=>Q .non H',rt:=Q } (start N vs) H):FnOk P w K mg base CX0 (k + 1) f fd ps sp:=by
 obtain ⟨oc,od,dV,kV,doc,pm,an,cdv,ct,osl,rfl,lk,hcd⟩:=F.ex
 refine fn_of lk hcd S len fun A outer s H vs Q E hr hsp=>?_
 obtain ⟨t,h,q⟩:=hbody cdv A outer s H vs Q E hr hsp
 exact ⟨t,h.nox,q⟩
def spInitW (K:Frag):Sp:=fun vs H Q _=>∃ C bm y wd,vs=[.ref y,wd]∧XIn K C bm∧H y=some (isX C y)∧Q .non H
theorem ok_initW {f:Addr} {fd:FuncData} (F:FunD K "__init__" "WebError.__init__" s_WebError_init f fd) (fr:Free mg ["ValueError"]):FnOk P w K mg base CX0 1 f fd ["self","words"] (spInitW K):=by
 have sc:FnScope ["self","words"] ["self","words"] (defScope s_WebError_init):=⟨rfl,rfl,rfl,by decide +kernel,rfl,by decide +kernel,by decide +kernel⟩
 refine F.ok (N:=["self","words"]) sc (fun vs H Q E h=>?_) (fun cdv A outer s H vs Q E hr h=>?_)
 ·obtain ⟨C,bm,y,wd,rfl,_⟩:=h
  rfl
 ·obtain ⟨C,bm,y,wd,rfl,hC,hy,q⟩:=h
  have m1:=fr "ValueError" (by simp)
  refine ⟨_,pss_one (ps_expr (pe_vinit rfl m1 hC (pa_cons (pv 0) (pa_cons (pv 1) pa_nil)))),?_⟩
  exact ⟨_,rfl,_,rfl,y,[wd],rfl,(by show 1≤1000; decide),hy,q⟩
def spInit (K:Frag):Sp:=fun vs H Q _=>∃ C bm y,vs=[.ref y]∧XIn K C bm∧H y=some (isX C y)∧Q .non H
theorem hole_upd {H:Hp} {y:Addr} {o:HO} (h:H y=none):hole (upd H y o) y=H:=by
 funext b
 by_cases e:b=y
 ·subst e
  rw [hole_at,h]
 ·rw [hole_ne e,upd_ne e]
def EF:XK:=fun _ _ _=>False
theorem passF {X:Cx}:Passes (CXr P w) X EF:=fun _ _ _ _ _ _ _ ⟨_,_,_,_,_,_,h⟩=>h.elim
theorem ok_init_NoPlace {f fW CW:Addr} {fd fdW:FuncData} (F:FunD K "__init__" "NoPlace.__init__" s_NoPlace_init f fd) (hW:mg "WebError"=some (.ref CW)) (M:CMeth K CW "__init__" fW) (okW:FnOk P w K mg base CX0 1 fW fdW ["self","words"] (spInitW K)) (bW:Binds K fdW ["self","words"] []) :
  FnOk P w K mg base CX0 2 f fd ["self"] (spInit K):=by
 have sc:FnScope ["self"] ["self"] (defScope s_NoPlace_init):=⟨rfl,rfl,rfl,by decide +kernel,rfl,by decide +kernel,by decide +kernel⟩
 refine F.ok (N:=["self"]) sc (fun vs H Q E h=>?_) (fun cdv A outer s H vs Q E hr h=>?_)
 ·obtain ⟨C,bm,y,rfl,_⟩:=h
  rfl
 ·obtain ⟨C,bm,y,rfl,hC,hy,q⟩:=h
  refine ⟨_,pss_one (ps_expr (pe_cmeth rfl hW M okW hr bW pass0 (pa_cons (pv 0) (pa_cons pe_str pa_nil)))),?_⟩
  exact ⟨_,rfl,C,bm,y,_,rfl,hC,hy,q⟩
structure Kinds (mg:Str→Option Value) (c0 c1 c2 c3 c4 c5 c6 c7 c8:Addr):Prop where
 m0:mg "NoPlace"=some (.ref c0)
 m1:mg "NoHold"=some (.ref c1)
 m2:mg "NoArrow"=some (.ref c2)
 m3:mg "NoNumber"=some (.ref c3)
 m4:mg "NoRow"=some (.ref c4)
 m5:mg "NoWeb"=some (.ref c5)
 m6:mg "Ringed"=some (.ref c6)
 m7:mg "NoText"=some (.ref c7)
 m8:mg "TooGreat"=some (.ref c8)
structure KindOf (K:Frag) (C c0 c1 c2 c3 c4 c5 c6 c7 c8:Addr) (j:Nat):Prop where
 xi:XIs K C
 v:kitOne K (.ref C) (.type "ValueError")=some true
 k0:kitOne K (.ref C) (.ref c0)=some (decide (j=0))
 k1:kitOne K (.ref C) (.ref c1)=some (decide (j=1))
 k2:kitOne K (.ref C) (.ref c2)=some (decide (j=2))
 k3:kitOne K (.ref C) (.ref c3)=some (decide (j=3))
 k4:kitOne K (.ref C) (.ref c4)=some (decide (j=4))
 k5:kitOne K (.ref C) (.ref c5)=some (decide (j=5))
 k6:kitOne K (.ref C) (.ref c6)=some (decide (j=6))
 k7:kitOne K (.ref C) (.ref c7)=some (decide (j=7))
 k8:kitOne K (.ref C) (.ref c8)=some (decide (j=8))
def kindWords:List Str:=["place","hold","arrow","number","row","web","ringed","text","great"]
def spKind (K:Frag) (c0 c1 c2 c3 c4 c5 c6 c7 c8:Addr):Sp:=fun vs H Q _=>∃ (y C:Addr) (j:Nat),vs=[.ref y]∧(∃ dct,H y=some (isL C y dct))∧KindOf K C c0 c1 c2 c3 c4 c5 c6 c7 c8 j∧j < 9∧∀ H',Same H H'→Q (.str (kindWords.getD j "")) H'
theorem knH_kind {c0 c1 c2 c3 c4 c5 c6 c7 c8:Addr} (D:DefAt K mg "_law_kind_of" s_law_kind_of ["e"]) (fr:Free mg ["isinstance","ValueError"]) (M:Kinds mg c0 c1 c2 c3 c4 c5 c6 c7 c8):KnH P w K mg base 1 "_law_kind_of" ["e"] (spKind K c0 c1 c2 c3 c4 c5 c6 c7 c8):=by
 have sc:FnScope ["e","marks","words"] ["e"] (defScope s_law_kind_of):=⟨rfl,rfl,rfl,by decide +kernel,rfl,by decide +kernel,by decide +kernel⟩
 refine D.knH (N:=["e","marks","words"]) sc (fun vs H Q E h=>?_) (fun f cdv A outer s H vs Q hr h=>?_)
 ·obtain ⟨y,C,j,rfl,_⟩:=h
  rfl
 ·obtain ⟨y,C,j,rfl,⟨dct,hy⟩,F,hj,k⟩:=h
  have m1:=fr "isinstance" (by simp)
  have m2:=fr "ValueError" (by simp)
  have b4:4≤sizeLine:=by decide
  have b9:9≤sizeLine:=by decide
  refine ⟨_,pss_cons (ps_set (i:=1) sc.nd rfl (Or.inl rfl) (pe_lst (pa_cons (pe_callB call_isx rfl m1 boot_isi (pa_cons (pv 0) (pa_cons (pe_glob (v:=.ref c0) rfl M.m0 rfl) pa_nil))) (pa_cons (pe_callB call_isx rfl m1 boot_isi (pa_cons (pv 0) (pa_cons (pe_glob (v:=.ref c1) rfl M.m1 rfl) pa_nil))) (pa_cons (pe_callB call_isx rfl m1 boot_isi (pa_cons (pv 0) (pa_cons (pe_glob (v:=.ref c2) rfl M.m2 rfl) pa_nil))) (pa_cons (pe_callB call_isx rfl m1 boot_isi (pa_cons (pv 0) (pa_cons (pe_glob (v:=.ref c3) rfl M.m3 rfl) pa_nil))) pa_nil))))))
   (pss_cons (ps_set (i:=1) sc.nd rfl (Or.inl rfl) (pe_op op_cat (pv 1) (pe_lst (pa_cons (pe_callB call_isx rfl m1 boot_isi (pa_cons (pv 0) (pa_cons (pe_glob (v:=.ref c4) rfl M.m4 rfl) pa_nil))) (pa_cons (pe_callB call_isx rfl m1 boot_isi (pa_cons (pv 0) (pa_cons (pe_glob (v:=.ref c5) rfl M.m5 rfl) pa_nil))) (pa_cons (pe_callB call_isx rfl m1 boot_isi (pa_cons (pv 0) (pa_cons (pe_glob (v:=.ref c6) rfl M.m6 rfl) pa_nil))) (pa_cons (pe_callB call_isx rfl m1 boot_isi (pa_cons (pv 0) (pa_cons (pe_glob (v:=.ref c7) rfl M.m7 rfl) pa_nil))) pa_nil)))))))
   (pss_cons (ps_expr (pe_bm PySem.F.plainAttrs_list PySem.F.slot_list_append PySem.F.type_list_append mt_append (pv 1) (pa_cons (pe_callB call_isx rfl m1 boot_isi (pa_cons (pv 0) (pa_cons (pe_glob (v:=.ref c8) rfl M.m8 rfl) pa_nil))) pa_nil)))
   (pss_cons (ps_if (PW.pt (pw_or (pt_not (pt_call (pe_callB call_isxT rfl m1 boot_isi (pa_cons (pv 0) (pa_cons (pe_bltn (v:=.ty "ValueError") rfl m2 boot_VE rfl) pa_nil))))) (pw_or1 (pt_cmpR op_ne (pe_bm PySem.F.plainAttrs_list PySem.F.slot_list_count PySem.F.type_list_count mt_countB (pv 1) (pa_cons pe_bl pa_nil)) pe_int (nomark _))))) (pss_one (ps_ret pe_str)) pss_nil)
   (pss_cons (ps_set (i:=2) sc.nd rfl (Or.inl rfl) (pe_lst (pa_cons pe_str (pa_cons pe_str (pa_cons pe_str (pa_cons pe_str (pa_cons pe_str (pa_cons pe_str (pa_cons pe_str (pa_cons pe_str (pa_cons pe_str pa_nil)))))))))))
   (pss_one (ps_ret (pe_ix ix_list (pv 2) (pe_bm PySem.F.plainAttrs_list PySem.F.slot_list_index PySem.F.type_list_index mt_indexB (pv 1) (pa_cons pe_bl pa_nil)) (fun _ _=>rfl)))))))),?_⟩
  refine ⟨_,rfl,y,C,_,_,rfl,⟨dct,hy⟩,F.xi,⟨c0,rfl,F.k0⟩,_,rfl,y,C,_,_,rfl,⟨dct,hy⟩,F.xi,⟨c1,rfl,F.k1⟩,_,rfl,y,C,_,_,rfl,⟨dct,hy⟩,F.xi,⟨c2,rfl,F.k2⟩,_,rfl,y,C,_,_,rfl,⟨dct,hy⟩,F.xi,⟨c3,rfl,F.k3⟩,b4,fun l1 hl1=>?_⟩
  have s1:=Same.upd (o:=.lst [.bl (decide (j=0)),.bl (decide (j=1)),.bl (decide (j=2)),.bl (decide (j=3))]) hl1
  have hy1:=s1 _ _ hy
  refine ⟨_,rfl,_,rfl,y,C,_,_,rfl,⟨dct,hy1⟩,F.xi,⟨c4,rfl,F.k4⟩,_,rfl,y,C,_,_,rfl,⟨dct,hy1⟩,F.xi,⟨c5,rfl,F.k5⟩,_,rfl,y,C,_,_,rfl,⟨dct,hy1⟩,F.xi,⟨c6,rfl,F.k6⟩,_,rfl,y,C,_,_,rfl,⟨dct,hy1⟩,F.xi,⟨c7,rfl,F.k7⟩,b4,fun l2 hl2=>?_⟩
  have s2:=s1.trans (Same.upd (o:=.lst [.bl (decide (j=4)),.bl (decide (j=5)),.bl (decide (j=6)),.bl (decide (j=7))]) hl2)
  refine ⟨l1,l2,_,_,rfl,rfl,Same.upd hl2 _ _ upd_same,upd_same,(by show 8≤sizeLine; decide),fun l3 hl3=>?_⟩
  have s3:=s2.trans (Same.upd (o:=.lst ([.bl (decide (j=0)),.bl (decide (j=1)),.bl (decide (j=2)),.bl (decide (j=3))]++[.bl (decide (j=4)),.bl (decide (j=5)),.bl (decide (j=6)),.bl (decide (j=7))])) hl3)
  refine ⟨_,rfl,.inl ⟨rfl,_,SqL.of upd_same⟩,_,rfl,y,C,_,_,rfl,⟨dct,s3 _ _ hy⟩,F.xi,⟨c8,rfl,F.k8⟩,l3,_,_,rfl,rfl,upd_same,(by show 8 < sizeLine; decide),?_⟩
  have n3:H l3=none:=by
   cases e:H l3 with
   | none=>rfl
   | some o =>
    rw [s2 _ _ e] at hl3
    cases hl3
  have s4:Same H (upd (upd (upd (upd H l1 (.lst [.bl (decide (j=0)),.bl (decide (j=1)),.bl (decide (j=2)),.bl (decide (j=3))])) l2 (.lst [.bl (decide (j=4)),.bl (decide (j=5)),.bl (decide (j=6)),.bl (decide (j=7))])) l3 (.lst ([.bl (decide (j=0)),.bl (decide (j=1)),.bl (decide (j=2)),.bl (decide (j=3))]++[.bl (decide (j=4)),.bl (decide (j=5)),.bl (decide (j=6)),.bl (decide (j=7))]))) l3 (.lst (([.bl (decide (j=0)),.bl (decide (j=1)),.bl (decide (j=2)),.bl (decide (j=3))]++[.bl (decide (j=4)),.bl (decide (j=5)),.bl (decide (j=6)),.bl (decide (j=7))])++[.bl (decide (j=8))]))):=fun b o e=>by
   rw [upd_ne (ne_of_none e n3)]
   exact s3 _ _ e
  have hl4:(upd (upd (upd (upd H l1 (.lst [.bl (decide (j=0)),.bl (decide (j=1)),.bl (decide (j=2)),.bl (decide (j=3))])) l2 (.lst [.bl (decide (j=4)),.bl (decide (j=5)),.bl (decide (j=6)),.bl (decide (j=7))])) l3 (.lst ([.bl (decide (j=0)),.bl (decide (j=1)),.bl (decide (j=2)),.bl (decide (j=3))]++[.bl (decide (j=4)),.bl (decide (j=5)),.bl (decide (j=6)),.bl (decide (j=7))]))) l3 (.lst (([.bl (decide (j=0)),.bl (decide (j=1)),.bl (decide (j=2)),.bl (decide (j=3))]++[.bl (decide (j=4)),.bl (decide (j=5)),.bl (decide (j=6)),.bl (decide (j=7))])++[.bl (decide (j=8))]))) l3=some (.lst (((List.range 9).map fun i=>decide (j=i)).map V.bl)):=upd_same
  generalize upd (upd (upd (upd H l1 _) l2 _) l3 _) l3 _=H4 at s4 hl4
  refine ⟨_,rfl,y,C,"ValueError",true,rfl,⟨dct,s4 _ _ hy⟩,F.xi,F.v,_,rfl,iteF ?_⟩
  have cnt:((List.range 9).map fun i=>decide (j=i)).count true=1:=by
   have:j=0∨j=1∨j=2∨j=3∨j=4∨j=5∨j=6∨j=7∨j=8:=by omega
   rcases this with rfl | rfl | rfl | rfl | rfl | rfl | rfl | rfl | rfl <;> rfl
  refine ⟨_,rfl,.inl ⟨rfl,_,SqL.of hl4⟩,l3,_,true,rfl,rfl,hl4,rfl,_,rfl,?_⟩
  rw [cnt]
  refine iteF ⟨b9,fun l5 hl5=>?_⟩
  have s5:=s4.trans (Same.upd (o:=.lst [.str "place",.str "hold",.str "arrow",.str "number",.str "row",.str "web",.str "ringed",.str "text",.str "great"]) hl5)
  have hl45:=Same.upd (o:=.lst [.str "place",.str "hold",.str "arrow",.str "number",.str "row",.str "web",.str "ringed",.str "text",.str "great"]) hl5 _ _ hl4
  have jl:((List.range 9).map fun i=>decide (j=i))[j]?=some true:=by
   rw [List.getElem?_map,List.getElem?_range hj]
   simp
  have jn:∀ i,i < j→((List.range 9).map fun i=>decide (j=i))[i]?=some (!true):=fun i hi=>by
   rw [List.getElem?_map,List.getElem?_range (by omega)]
   have:¬ j=i:=by omega
   simp [this]
  refine ⟨_,rfl,_,rfl,.inl ⟨rfl,_,SqL.of hl45⟩,l3,_,true,j,rfl,rfl,hl45,jl,jn,by omega,?_⟩
  refine ⟨l5,_,(j:Int),.str (kindWords.getD j ""),rfl,rfl,SqL.of upd_same,atI_nat ?_,k _ s5⟩
  have:j=0∨j=1∨j=2∨j=3∨j=4∨j=5∨j=6∨j=7∨j=8:=by omega
  rcases this with rfl | rfl | rfl | rfl | rfl | rfl | rfl | rfl | rfl <;> rfl
end
end Hk
namespace Hk
open PySem L2
section
variable {P:Program} {w:World} {K:PySem.W.Frag} {mg:Str→Option Value} {base:Heap}
def spCell (K:PySem.W.Frag):Sp:=fun vs H Q _=>∃ (a:Addr) (ns:List Int) (k:Nat),vs=[.ref a,.int k]∧SqL K H a (ns.map V.int)∧∀ n:Int,Q (.int n) H
theorem kn_cell (D:DefAt K mg "_law_cell_at" s_law_cell_at ["script","k"]) (fr:Free mg ["len"]):Kn P w K mg base 1 "_law_cell_at" ["script","k"] (spCell K):=by
 have sc:FnScope ["script","k"] ["script","k"] (defScope s_law_cell_at):=⟨rfl,rfl,rfl,by decide +kernel,rfl,by decide +kernel,by decide +kernel⟩
 refine D.kn (N:=["script","k"]) sc (fun vs H Q E h=>?_) (fun f cdv A outer s H vs Q E hr h=>?_)
 ·obtain ⟨a,ns,k,rfl,_⟩:=h
  rfl
 ·obtain ⟨a,ns,k,rfl,hq,kk⟩:=h
  have m1:=fr "len" (by simp)
  refine ⟨_,pss_cons (ps_if (pt_cmpR op_lt (pv 1) (pe_callB call_len_seq rfl m1 PySem.boot_len (pa_cons (pv 0) pa_nil)) (nomark _)) (pss_one (ps_ret (pe_ix ix_list (pv 0) (pv 1) (fun _ _=>rfl)))) pss_nil) (pss_one (ps_ret pe_int)),?_⟩
  refine ⟨_,rfl,_,rfl,a,_,rfl,.inl hq,_,_,rfl,rfl,_,rfl,ite2 (fun h1=>?_) (fun h1=>?_)⟩
  ·have h2:k < ns.length:=by
    have:=of_decide_eq_true h1
    rw [List.length_map] at this
    omega
   exact ⟨_,rfl,_,rfl,a,_,_,V.int ns[k],rfl,rfl,hq,atI_nat (by simp [h2]),kk _⟩
  ·exact kk 0
def spNext:Sp:=fun vs H Q _=>∃ n:Int,vs=[.int n]∧∀ r:Int,Q (.int r) H
theorem kn_next (D:DefAt K mg "_law_next" s_law_next ["seed"]):Kn P w K mg base 1 "_law_next" ["seed"] spNext:=by
 have sc:FnScope ["seed"] ["seed"] (defScope s_law_next):=⟨rfl,rfl,rfl,by decide +kernel,rfl,by decide +kernel,by decide +kernel⟩
 refine D.kn (N:=["seed"]) sc (fun vs H Q E h=>?_) (fun f cdv A outer s H vs Q E hr h=>?_)
 ·obtain ⟨n,rfl,_⟩:=h
  rfl
 ·obtain ⟨n,rfl,kk⟩:=h
  refine ⟨_,pss_cons (ps_set (i:=0) sc.nd rfl (Or.inl rfl) (pe_op op_mod (pe_op op_add (pv 0) pe_int) pe_int))
   (pss_one (ps_ret (pe_op op_mod (pe_op op_add (pe_op op_add (pe_op op_mul (pv 0) (pv 0)) (pe_op op_mul pe_int (pv 0))) pe_int) pe_int))),?_⟩
  refine ⟨_,rfl,_,_,rfl,rfl,_,_,rfl,rfl,(by show (0:Int) < 2147483647; decide),?_⟩
  have b1:0≤(n + 7919) % 2147483647:=Int.emod_nonneg _ (by decide)
  have b2:(n + 7919) % 2147483647 < 2147483647:=Int.emod_lt_of_pos _ (by decide)
  refine ⟨_,rfl,_,rfl,_,_,rfl,rfl,.inl ⟨by omega,by omega⟩,_,rfl,_,_,rfl,rfl,.inl ⟨by decide,by decide⟩,_,_,rfl,rfl,_,_,rfl,rfl,_,_,rfl,rfl,(by show (0:Int) < 2147483629; decide),kk _⟩
def PenAt (H:Hp) (p:Addr):Prop:=∃ a b c:Int,H p=some (.lst [.int a,.int b,.int c])
def spPen:Sp:=fun vs H Q _=>∃ n:Int,vs=[.int n]∧∀ (p:Addr) (H':Hp),Same H H'→H p=none→PenAt H' p→Q (.ref p) H'
theorem kn_pen (D:DefAt K mg "_law_pen_of" s_law_pen_of ["cell"]) (fr:Free mg ["max","int"]):Kn P w K mg base 1 "_law_pen_of" ["cell"] spPen:=by
 have sc:FnScope ["cell","left"] ["cell"] (defScope s_law_pen_of):=⟨rfl,rfl,rfl,by decide +kernel,rfl,by decide +kernel,by decide +kernel⟩
 refine D.kn (N:=["cell","left"]) sc (fun vs H Q E h=>?_) (fun f cdv A outer s H vs Q E hr h=>?_)
 ·obtain ⟨n,rfl,_⟩:=h
  rfl
 ·obtain ⟨n,rfl,kk⟩:=h
  have m1:=fr "max" (by simp)
  have m2:=fr "int" (by simp)
  refine ⟨_,pss_cons (ps_set (i:=1) sc.nd rfl (Or.inl rfl) (pe_callB (call_max2 rfl) rfl m1 boot_fmax (pa_cons (pv 0) (pa_cons (pe_op op_sub pe_int (pv 0)) pa_nil))))
   (pss_one (ps_ret (pe_lst (pa_cons (pv 1) (pa_cons (pe_callTy call_int1 rfl m2 boot_tint (pa_cons (pe_cmpR op_ge (pv 1) (pe_op op_pow pe_int pe_int) (nomark _)) pa_nil)) (pa_cons (pe_op op_mod (pv 1) pe_int) pa_nil)))))),?_⟩
  refine ⟨_,rfl,_,rfl,_,_,rfl,rfl,_,_,rfl,?_⟩
  refine ⟨_,rfl,_,rfl,_,_,rfl,rfl,⟨by decide,by decide,by decide⟩,_,_,rfl,rfl,.inr ⟨_,rfl,?_⟩⟩
  refine ⟨_,rfl,_,_,rfl,rfl,(by show (0:Int) < 1000003; decide),?_,fun p hp=>?_⟩
  ·show 3≤sizeLine
   decide
  ·exact kk p _ (Same.upd hp) hp ⟨_,_,_,upd_same⟩
theorem log_small {m:Int} (h0:0 < m) (h1:m≤1000000000000000000000000000000000000000000000000000000000000):m.natAbs.log2 < 9000:=by
 have h2:m.natAbs < 2 ^ 200:=by
  have:(2:Nat) ^ 200=1606938044258990275541962092341162602522202993782792835301376:=by decide +kernel
  rw [this]
  omega
 have:=(Nat.log2_lt (n:=m.natAbs) (k:=200) (by omega)).mpr h2
 omega
def spDraw:Sp:=fun vs H Q _=>∃ (p:Addr) (m:Int),vs=[.ref p,.int m]∧PenAt H p∧0 < m∧m≤1000000000000000000000000000000000000000000000000000000000000∧∀ (r:Int) (H':Hp),0≤r→r < m→SameBut p H H'→PenAt H' p→Q (.int r) H'
theorem kn_draw (D:DefAt K mg "_law_draw" s_law_draw ["pen","many"]) (kx:Kn P w K mg base 1 "_law_next" ["seed"] spNext):Kn P w K mg base 2 "_law_draw" ["pen","many"] spDraw:=by
 have sc:FnScope ["pen","many","found"] ["pen","many"] (defScope s_law_draw):=⟨rfl,rfl,rfl,by decide +kernel,rfl,by decide +kernel,by decide +kernel⟩
 refine D.kn (N:=["pen","many","found"]) sc (fun vs H Q E h=>?_) (fun f cdv A outer s H vs Q E hr h=>?_)
 ·obtain ⟨p,m,rfl,_⟩:=h
  rfl
 ·obtain ⟨p,m,rfl,⟨a,b,c,hp⟩,h0,h1,kk⟩:=h
  have lg:=log_small h0 h1
  refine ⟨_,pss_cons (ps_if (pt_cmpR op_eq (pe_ix ix_list (pv 0) pe_int (fun _ _=>rfl)) pe_int (nomark _))
    (pss_cons (ps_set (i:=2) sc.nd rfl (Or.inl rfl) (pe_op op_mod (pe_ix ix_list (pv 0) pe_int (fun _ _=>rfl)) (pv 1)))
    (pss_cons (ps_asg (pe_op op_fdivW (pe_ix ix_list (pv 0) pe_int (fun _ _=>rfl)) (pv 1)) (pg_sub (pv 0) pe_int set_list)) (pss_one (ps_ret (pv 2))))) pss_nil)
   (pss_cons (ps_asg (pe_kn kx hr (pa_cons (pe_op op_add (pe_kn kx hr (pa_cons (pe_ix ix_list (pv 0) pe_int (fun _ _=>rfl)) pa_nil)) pe_int) pa_nil)) (pg_sub (pv 0) pe_int set_list))
   (pss_one (ps_ret (pe_op op_mod (pe_op op_fdiv (pe_ix ix_list (pv 0) pe_int (fun _ _=>rfl)) pe_int) (pv 1))))),?_⟩
  refine ⟨_,rfl,p,_,_,_,rfl,rfl,SqL.of hp,rfl,rfl,_,rfl,ite2 (fun h2=>?_) (fun h2=>?_)⟩
  ·refine ⟨_,rfl,p,_,_,_,rfl,rfl,SqL.of hp,rfl,_,rfl,_,_,rfl,rfl,h0,?_⟩
   refine ⟨_,rfl,p,_,_,_,rfl,rfl,SqL.of hp,rfl,_,rfl,_,_,rfl,rfl,⟨h0,lg⟩,?_⟩
   refine ⟨_,rfl,p,_,_,0,rfl,rfl,hp,rfl,?_⟩
   refine ⟨_,rfl,kk _ _ (Int.emod_nonneg _ (by omega)) (Int.emod_lt_of_pos _ h0) SameBut.upd ⟨_,_,_,upd_same⟩⟩
  ·refine ⟨_,rfl,p,_,_,_,rfl,rfl,SqL.of hp,rfl,_,rfl,fun r1=>?_⟩
   refine ⟨_,_,rfl,rfl,_,rfl,fun r2=>?_⟩
   refine ⟨_,rfl,p,_,_,2,rfl,rfl,hp,rfl,?_⟩
   refine ⟨_,rfl,p,_,_,_,rfl,rfl,SqL.of upd_same,rfl,_,_,rfl,rfl,⟨by decide,by decide⟩,_,rfl,_,_,rfl,rfl,h0,?_⟩
   exact kk _ _ (Int.emod_nonneg _ (by omega)) (Int.emod_lt_of_pos _ h0) SameBut.upd ⟨_,_,_,upd_same⟩
theorem PenAt.mono {H H':Hp} {p:Addr} (s:Same H H') (h:PenAt H p):PenAt H' p:=by
 obtain ⟨x,y,z,e⟩:=h
 exact ⟨x,y,z,s _ _ e⟩
theorem pen_tup {H:Hp} {p q:Addr} {xs:List V} (hp:PenAt H p) (hq:H q=some (.tup xs)):q≠p:=by
 obtain ⟨a,b,c,e⟩:=hp
 exact ne_of hq e (by intro z; cases z)
theorem Web.but {H H':Hp} {a t p:Addr} {m:Int} {vs:List V} {ars:List (Int×Int)} (h:Web H a t m vs ars) (hp:PenAt H p) (s:SameBut p H H'):Web H' a t m vs ars :=
 ⟨s _ _ (pen_tup hp h.top) h.top,s _ _ (pen_tup hp h.arr) h.arr,Paired.mapP h.ars fun _ _ ⟨q,e,z⟩=>⟨q,e,s _ _ (pen_tup hp z) z⟩,h.len,h.mb⟩
def GoodA (m:Int) (prs:List (Int×Int)):Prop:=∀ q∈prs,0≤q.1∧q.1 < m∧0≤q.2∧q.2 < m∧q.1≠q.2
def DT (H:Hp) (d:Addr) (m:Int) (n:Nat):Prop:=∃ (kvs:List (List Key×V)) (prs:List (Int×Int)),H d=some (.dT kvs)∧kvs.map (·.1)=prs.map prKey∧GoodA m prs∧kvs.length≤n
theorem DT.put {H:Hp} {d b:Addr} {m:Int} {n:Nat} {x y:Int} (h:DT H d m n) (hb:H b=none) (hn:n≤1000) (g:0≤x∧x < m∧0≤y∧y < m∧x≠y) (v:V) :
  ∃ H4,DPut (upd H b (.tup [.int x,.int y])) d (.ref b) v H4∧DT H4 d m (n + 1)∧∀ c o,c≠d→H c=some o→H4 c=some o:=by
 obtain ⟨kvs,prs,e1,e2,e3,e4⟩:=h
 have ne:d≠b:=ne_of_none e1 hb
 have ed:(upd H b (.tup [.int x,.int y])) d=some (.dT kvs):=by rw [upd_ne ne]; exact e1
 have eb:(upd H b (.tup [.int x,.int y])) b=some (.tup ((prKey (x,y)).map kV)):=upd_same
 refine ⟨_,DPut.t (k:=prKey (x,y)) ed eb (small1000 (by omega)),?_,fun c o hc e=>?_⟩
 ·by_cases hv:valV kvs (prKey (x,y))=none
  ·refine ⟨_,prs++[(x,y)],upd_same,?_,fun q hq=>?_,?_⟩
   ·rw [putK_new v hv,List.map_append,List.map_append,e2]
    rfl
   ·rcases List.mem_append.mp hq with h | h
    ·exact e3 q h
    ·rw [List.mem_singleton] at h
     subst h
     exact g
   ·exact Nat.le_trans (length_putK _ _ _) (Nat.succ_le_succ e4)
  ·refine ⟨_,prs,upd_same,?_,e3,Nat.le_trans (length_putK _ _ _) (Nat.succ_le_succ e4)⟩
   have ha:(kvs.any fun kv=>decide (kv.1=prKey (x,y)))=true:=by
    rw [valV_any]
    cases q:valV kvs (prKey (x,y)) with
    | none=>exact absurd q hv
    | some _=>rfl
   unfold putK
   rw [if_pos ha,List.map_map,← e2]
   refine List.map_congr_left fun kv _=>?_
   show (if kv.1=prKey (x,y) then (kv.1,v) else kv).1=kv.1
   split <;> rfl
 ·rw [upd_ne hc,upd_ne (ne_of_none e hb)]
  exact e
theorem DT.keep {H H':Hp} {d p:Addr} {m:Int} {n:Nat} (h:DT H d m n) (hp:PenAt H p) (s:SameBut p H H'):DT H' d m n:=by
 obtain ⟨kvs,prs,e1,r⟩:=h
 obtain ⟨a,b,c,e⟩:=hp
 exact ⟨kvs,prs,s _ _ (ne_of e1 e (by intro z; cases z)) e1,r⟩
theorem DT.mono {H:Hp} {d:Addr} {m:Int} {n k:Nat} (h:DT H d m n) (hk:n≤k):DT H d m k:=by
 obtain ⟨kvs,prs,e1,e2,e3,e4⟩:=h
 exact ⟨kvs,prs,e1,e2,e3,Nat.le_trans e4 hk⟩
def spWebBy:Sp:=fun vs H Q _=>∃ (p:Addr) (most:Int),vs=[.ref p,.int most]∧PenAt H p∧1≤most∧most≤40 ∧
 ∀ (a t:Addr) (m:Int) (us:List V) (ars:List (Int×Int)) (H':Hp),SameBut p H H'→PenAt H' p→Web H' a t m us ars→1≤m→m≤most→GoodA m ars→Q (.ref a) H'
theorem cut200 {xs:List V} (h:xs.length≤200):cutV xs none (some 200)=xs:=by
 unfold cutV
 show (xs.drop 0).take (min 200 xs.length - 0)=xs
 rw [List.drop_zero]
 exact List.take_of_length_le (by omega)
theorem gname_in {i:Nat} {v:V} {σ:St} {H:Hp} {Q:St→Hp→Prop} (h:Q (σ.set i (some v)) H):gName i v σ H Q:=h
theorem seq_inv {a R:TS} {D:Ends} {σ:St} {H:Hp} (Inv:St→Hp→Prop) (h:∀ D':Ends,(∀ σ H,Inv σ H→D'.nx σ H)→a D' σ H) (hk:∀ σ H,Inv σ H→R D σ H):tSeq a R D σ H:=h _ hk
end
end Hk
namespace Hk
open PySem L2
theorem newp {H:Hp} {p q:Addr} (hp:PenAt H p) (hq:H q=none):q≠p:=fun e=>by
 obtain ⟨_,_,_,z⟩:=hp
 rw [e,z] at hq
 cases hq
end Hk
namespace Hk
open PySem L2
section
variable {P:Program} {w:World} {K:PySem.W.Frag} {mg:Str→Option Value} {base:Heap}
def spWhole:Sp:=fun vs H Q _=>∃ x T,vs=[x]∧Dat H x T∧Q (.bl (isI x)) H
theorem kn_whole (D:DefAt K mg "whole_good" s_whole_good ["thing"]) (fr:Free mg ["isinstance","int","bool"]):Kn P w K mg base 1 "whole_good" ["thing"] spWhole:=by
 refine D.kn (N:=["thing"]) ⟨rfl,rfl,rfl,by decide +kernel,rfl,by decide +kernel,by decide +kernel⟩ (fun vs H Q E h=>?_) (fun f cdv A outer s H vs Q E hr h=>?_)
 ·obtain ⟨x,T,rfl,_⟩:=h
  rfl
 ·obtain ⟨x,T,rfl,d,k⟩:=h
  have m1:=fr "isinstance" (by simp)
  have m2:=fr "int" (by simp)
  have m3:=fr "bool" (by simp)
  refine ⟨_,pss_one (ps_ret (pe_and (pe_callB call_isi rfl m1 boot_isi (pa_cons (pv 0) (pa_cons (pe_bltn (v:=.ty "int") rfl m2 boot_tint rfl) pa_nil)))
   (pe_one (pe_not (pe_callB call_isi rfl m1 boot_isi (pa_cons (pv 0) (pa_cons (pe_bltn (v:=.ty "bool") rfl m3 boot_tbool rfl) pa_nil))))))),?_⟩
  refine ⟨x,rfl,x,"int",T,rfl,d,by simp,_,rfl,ite2 (fun h1=>?_) (fun h1=>?_)⟩
  ·refine ⟨x,rfl,x,"bool",T,rfl,d,by simp,_,rfl,?_⟩
   cases d <;> first | exact k | exact absurd h1 (by decide)
  ·cases d <;> first | exact k | exact absurd (by decide) h1
def spPlace:Sp:=fun vs H Q _=>∃ a m y x T,vs=[.ref a,x]∧H a=some (.tup [.int m,y])∧Dat H x T∧Q (.bl (plG m x)) H
theorem kn_place (D:DefAt K mg "place_good" s_place_good ["web","thing"]) (kw:Kn P w K mg base 1 "whole_good" ["thing"] spWhole):Kn P w K mg base 2 "place_good" ["web","thing"] spPlace:=by
 refine D.kn (N:=["web","thing"]) ⟨rfl,rfl,rfl,by decide +kernel,rfl,by decide +kernel,by decide +kernel⟩ (fun vs H Q E h=>?_) (fun f cdv A outer s H vs Q E hr h=>?_)
 ·obtain ⟨a,m,y,x,T,rfl,_⟩:=h
  rfl
 ·obtain ⟨a,m,y,x,T,rfl,ha,d,k⟩:=h
  refine ⟨_,pss_one (ps_ret (pe_and (pe_kn kw hr (pa_cons (pv 1) pa_nil)) (pe_one (pe_chain op_le op_lt pe_int (pv 1) (pe_ix ix_tup (pv 0) pe_int (fun _ _=>rfl)))))),?_⟩
  refine ⟨x,rfl,x,T,rfl,d,_,rfl,?_⟩
  cases d with
  | int i =>
   refine iteT ?_
   refine ⟨_,rfl,_,_,rfl,rfl,_,rfl,ite2 (fun h1=>?_) (fun h1=>?_)⟩
   ·refine ⟨_,rfl,a,_,_,_,rfl,rfl,SqT.of ha,rfl,_,_,rfl,rfl,?_⟩
    have e:plG m (.int i)=decide (i < m):=by simp [plG,of_decide_eq_true h1]
    rw [e] at k
    exact k
   ·have e:plG m (.int i)=false:=by
     have h1:¬ 0≤i:=by simpa using h1
     simp [plG,h1]
    rw [e] at k
    exact k
  | _=>exact iteF k
theorem smallN {n:Nat} (h:n≤100000):n < sizeLine:=Nat.lt_of_le_of_lt h (by decide)
def MK (kvs:List (Key×V)) (l:List Int):Prop:=∀ n:Int,(valV kvs (Sum.inl n)).isSome=decide (n∈l)
theorem MK.put {kvs:List (Key×V)} {l:List Int} (h:MK kvs l) (k:Int) (v:V):MK (putK kvs (Sum.inl k) v) (l++[k]):=fun n=>by
 rw [valV_put]
 by_cases e:n=k
 ·subst e
  simp
 ·have e':¬ (Sum.inl n:Key)=Sum.inl k:=fun z=>e (Sum.inl.inj z)
  rw [if_neg e',h n]
  simp [e]
def spMarked:Sp:=fun vs H Q _=>∃ (p:Addr) (ns:List Int),vs=[.ref p]∧H p=some (.tup (ns.map V.int))∧ns.length≤1000∧∀ (d:Addr) (kvs:List (Key×V)) (H':Hp),Same H H'→H d=none→H' d=some (.dK kvs)→MK kvs ns→kvs.length≤ns.length→Q (.ref d) H'
theorem kn_marked (D:DefAt K mg "marked" s_marked ["places"]):Kn P w K mg base 1 "marked" ["places"] spMarked:=by
 have sc:FnScope ["places","marks","place"] ["places"] (defScope s_marked):=⟨rfl,rfl,rfl,by decide +kernel,rfl,by decide +kernel,by decide +kernel⟩
 refine D.kn (N:=["places","marks","place"]) sc (fun vs H Q E h=>?_) (fun f cdv A outer s H vs Q E hr h=>?_)
 ·obtain ⟨p,ns,rfl,_⟩:=h
  rfl
 ·obtain ⟨p,ns,rfl,hp,hz,k⟩:=h
  have hu:=hu_of hr
  refine ⟨_,pss_cons (ps_set (i:=1) sc.nd rfl (Or.inl rfl) pe_dnewK) (pss_cons (ps_for PassesOwn.never rfl (pi_tup (pv 0)) (pg_name (i:=2) sc.nd rfl (Or.inl rfl)) (pss_one (ps_dput hu (pv 1) (pv 2) pe_bl rfl))) (pss_one (ps_ret (pv 1)))),?_⟩
  intro d hd
  have hp1:(upd H d (.dK [])) p=some (.tup (ns.map V.int)):=by rw [upd_ne (ne_of_none hp hd)]; exact hp
  refine ⟨_,rfl,p,rfl,⟨_,SqT.of hp1⟩,for_tup (K:=K) (xs:=ns.map V.int) (fun i σ H2=>∃ (kvs:List (Key×V)) (v:Option V),σ=[some (.ref p),some (.ref d),v]∧Same H H2∧H2 d=some (.dK kvs)∧MK kvs (ns.take i)∧kvs.length≤i)
   ⟨[],none,rfl,Same.upd hd,upd_same,fun n=>by simp [valV],Nat.le_refl _⟩ (fun i σ H2 _ ⟨_,_,_,s2,_⟩=>SqT.of (s2 _ _ hp)) ?_ ?_⟩
  ·rintro i y σ H2 hi ⟨kvs,v,rfl,s2,hd2,mk,hl⟩
   rw [List.getElem?_map] at hi
   obtain ⟨x,e1,rfl⟩:=Option.map_eq_some_iff.mp hi
   have hil:i < ns.length:=(List.getElem?_eq_some_iff.mp e1).1
   refine ⟨_,rfl,_,rfl,d,_,rfl,DPut.k (k:=Sum.inl x) hd2 (small1000 (by omega)),?_⟩
   refine ⟨_,_,rfl,fun b o e=>?_,upd_same,?_,Nat.le_trans (length_putK _ _ _) (Nat.succ_le_succ hl)⟩
   ·rw [upd_ne (ne_of_none e hd)]
    exact s2 _ _ e
   ·rw [take_snoc _ _ _ e1]
    exact mk.put x _
  ·rintro σ H2 ⟨kvs,v,rfl,s2,hd2,mk,hl⟩
   rw [List.length_map] at mk hl
   rw [List.take_of_length_le (Nat.le_refl _)] at mk
   exact ⟨_,rfl,k d kvs H2 s2 hd hd2 mk hl⟩
def both (ns:List Int) (q:Int×Int):Bool:=decide (q.1∈ns) && decide (q.2∈ns)
def spTied:Sp:=fun vs H Q _=>∃ (a t:Addr) (m:Int) (us:List V) (ars:List (Int×Int)) (p:Addr) (ns:List Int),vs=[.ref a,.ref p]∧Web H a t m us ars∧H p=some (.tup (ns.map V.int))∧ns.length≤1000 ∧
 ∀ (l:Addr) (ws:List V) (H':Hp),Same H H'→H' l=some (.lst ws)→Ars H' ws (ars.filter (both ns))→Q (.ref l) H'
theorem arsLen {H:Hp} {us:List V} {ars:List (Int×Int)} (h:Ars H us ars):us.length=ars.length:=Paired.length h
theorem filter_snoc {α:Type} (f:α→Bool) (l:List α) (i:Nat) (x:α) (h:l[i]?=some x):(l.take (i + 1)).filter f=(l.take i).filter f++(if f x=true then [x] else []):=by
 rw [take_snoc _ _ _ h,List.filter_append,List.filter_cons,List.filter_nil]
theorem kn_tied (D:DefAt K mg "tied_arrows" s_tied_arrows ["web","places"]) (km:Kn P w K mg base 1 "marked" ["places"] spMarked):Kn P w K mg base 2 "tied_arrows" ["web","places"] spTied:=by
 have sc:FnScope ["web","places","inside"] ["web","places"] (defScope s_tied_arrows):=⟨rfl,rfl,rfl,by decide +kernel,rfl,by decide +kernel,by decide +kernel⟩
 refine D.kn (N:=["web","places","inside"]) sc (fun vs H Q E h=>?_) (fun f cdv A outer s H vs Q E hr h=>?_)
 ·obtain ⟨a,t,m,us,ars,p,ns,rfl,_⟩:=h
  rfl
 ·obtain ⟨a,t,m,us,ars,p,ns,rfl,W,hp,hz,k⟩:=h
  have hu:=hu_of hr
  have nd:(["arrow","inside"]:List Str).Nodup:=by decide +kernel
  refine ⟨_,pss_cons (ps_set (i:=2) sc.nd rfl (Or.inr rfl) (pe_kn km hr (pa_cons (pv 1) pa_nil)))
   (pss_one (ps_ret (pe_lc (N:=["arrow","inside"]) (src:=[none,some 2]) rfl ⟨rfl,rfl,rfl,rfl,⟨⟨rfl,rfl⟩,trivial⟩,rfl,rfl,rfl⟩ (gown_name (i:=0) rfl) (pi_tup (pe_ix ix_tup (pv 0) pe_int (fun _ _=>rfl)))
    (fun C s H fp=>⟨pg_name (i:=0) nd rfl (Or.inl rfl),pifs_one (PW.pt (pw_and (pt_cmp (pc_din hu (pe_ix (r:=rIxT K) ix_tup (pv 0) pe_int (fun _ _=>rfl)) (pv 1))) (pw_and1 (pt_cmp (pc_din hu (pe_ix (r:=rIxT K) ix_tup (pv 0) pe_int (fun _ _=>rfl)) (pv 1)))))),pv 0⟩)))),?_⟩
  refine ⟨_,rfl,p,ns,rfl,hp,hz,fun d kvs H1 s1 hd hd1 mk hl=>?_⟩
  have W1:=W.mono s1
  have lu:=arsLen W.ars
  refine ⟨_,rfl,a,_,_,_,rfl,rfl,SqT.of W1.top,rfl,t,rfl,⟨_,SqT.of W1.arr⟩,lc_tup (xs:=us) (fun i zs H'=>Same H1 H'∧Ars H1 zs ((ars.take i).filter (both ns))) ⟨Same.refl _,.nil⟩ ?_ ?_ ?_⟩
  ·rintro i zs H' hi ⟨s2,hz'⟩
   refine ⟨SqT.of (s2 _ _ W1.arr),?_⟩
   have:=arsLen hz'
   have h2:((ars.take i).filter (both ns)).length≤(ars.take i).length:=List.length_filter_le _ _
   rw [List.length_take] at h2
   have h3:=W.len
   exact Nat.le_of_lt (small1000 (by omega))
  ·rintro zs H' ⟨s2,hz'⟩ l hl'
   rw [lu,List.take_of_length_le (Nat.le_refl _)] at hz'
   exact k l zs _ ((s1.trans s2).trans (Same.upd hl')) upd_same (hz'.mono (s2.trans (Same.upd hl')))
  ·rintro i x zs H' h1 hi ⟨s2,hz'⟩
   obtain ⟨q,e1,r,rfl,hr'⟩:=Paired.get' W1.ars h1
   have g1:DGet H' d (.int q.1) (valV kvs (Sum.inl q.1)):=DGet.k (k:=Sum.inl q.1) (s2 _ _ hd1)
   have g2:DGet H' d (.int q.2) (valV kvs (Sum.inl q.2)):=DGet.k (k:=Sum.inl q.2) (s2 _ _ hd1)
   refine ⟨_,rfl,r,_,_,_,rfl,rfl,SqT.of (s2 _ _ hr'),rfl,_,rfl,d,_,rfl,g1,_,rfl,?_⟩
   rw [mk q.1]
   have fin:∀ b:Bool,both ns q=b→if b=true then ∃ m',m' < us.length - i∧Wn us.length (fun i zs H'=>Same H1 H'∧Ars H1 zs ((ars.take i).filter (both ns))) (i + 1) m' (zs++[.ref r]) H' else ∃ m',m' < us.length - i∧Wn us.length (fun i zs H'=>Same H1 H'∧Ars H1 zs ((ars.take i).filter (both ns))) (i + 1) m' zs H':=by
    intro b hb
    cases b with
    | true =>
     refine iteT (nx hi ⟨s2,?_⟩)
     rw [filter_snoc _ _ _ _ e1,if_pos hb]
     exact Paired.snoc hz' ⟨r,rfl,hr'⟩
    | false =>
     refine iteF (nx hi ⟨s2,?_⟩)
     rw [filter_snoc _ _ _ _ e1,if_neg (by rw [hb]; decide),List.append_nil]
     exact hz'
   refine ite2 (fun h2=>?_) (fun h2=>?_)
   ·refine ⟨_,rfl,r,_,_,_,rfl,rfl,SqT.of (s2 _ _ hr'),rfl,_,rfl,d,_,rfl,g2,_,rfl,?_⟩
    rw [mk q.2]
    have:=fin (decide (q.2∈ns)) (by unfold both; rw [h2]; rfl)
    refine ite2 (fun h3=>?_) (fun h3=>?_)
    ·rw [if_pos h3] at this
     exact ⟨_,rfl,this⟩
    ·rw [if_neg h3] at this
     exact this
   ·have:=fin false (by unfold both; rw [Bool.eq_false_iff.mpr h2]; rfl)
    exact this
def heldB (ars:List (Int×Int)) (ns:List Int) (k:Int):Bool:=decide (k∈ns) || ars.any fun q=>decide (q.1=k) && decide (q.2∈ns)
def plw (bs:List Bool) (b:Bool) (i:Nat):List Int:=((List.range i).filter fun j=>decide (bs[j]?=some b)).map fun (j:Nat)=>(j:Int)
theorem plw_succ (bs:List Bool) (b:Bool) (i:Nat):plw bs b (i + 1)=plw bs b i++(if bs[i]?=some b then [(i:Int)] else []):=by
 unfold plw
 rw [List.range_succ,List.filter_append,List.map_append]
 by_cases h:bs[i]?=some b
 ·simp [h]
 ·simp [h]
theorem plw_mem {bs:List Bool} {b:Bool} {i:Nat} {n:Int}:n∈plw bs b i↔∃ j:Nat,j < i∧bs[j]?=some b∧n=(j:Int):=by
 unfold plw
 rw [List.mem_map]
 constructor
 ·rintro ⟨j,hj,rfl⟩
  rw [List.mem_filter,List.mem_range] at hj
  exact ⟨j,hj.1,of_decide_eq_true hj.2,rfl⟩
 ·rintro ⟨j,hj,hb,rfl⟩
  exact ⟨j,List.mem_filter.mpr ⟨List.mem_range.mpr hj,decide_eq_true hb⟩,rfl⟩
theorem plw_len (bs:List Bool) (b:Bool) (i:Nat):(plw bs b i).length≤i:=by
 unfold plw
 rw [List.length_map]
 refine Nat.le_trans (List.length_filter_le _ _) ?_
 rw [List.length_range]
 exact Nat.le_refl _
theorem plw_up (bs:List Bool) (b:Bool) (i:Nat):(plw bs b i).Pairwise (· < ·):=by
 unfold plw
 rw [List.pairwise_map]
 exact (List.Pairwise.filter _ List.pairwise_lt_range).imp fun h=>by omega
def spPlw:Sp:=fun vs H Q _=>∃ (p:Addr) (bs:List Bool) (b:Bool),vs=[.ref p,.bl b]∧H p=some (.tup (bs.map V.bl))∧bs.length≤1000∧∀ (q:Addr) (H':Hp),Same H H'→H' q=some (.tup ((plw bs b bs.length).map V.int))→Q (.ref q) H'
theorem kn_plw (D:DefAt K mg "places_with" s_places_with ["truths","wanted"]) (fr:Free mg ["tuple","enumerate"]):Kn P w K mg base 1 "places_with" ["truths","wanted"] spPlw:=by
 have sc:FnScope ["truths","wanted"] ["truths","wanted"] (defScope s_places_with):=⟨rfl,rfl,rfl,by decide +kernel,rfl,by decide +kernel,by decide +kernel⟩
 refine D.kn (N:=["truths","wanted"]) sc (fun vs H Q E h=>?_) (fun f cdv A outer s H vs Q E hr h=>?_)
 ·obtain ⟨p,bs,b,rfl,_⟩:=h
  rfl
 ·obtain ⟨p,bs,b,rfl,hp,hz,k⟩:=h
  have m1:=fr "tuple" (by simp)
  have m2:=fr "enumerate" (by simp)
  have nd:(["place","truth","wanted"]:List Str).Nodup:=by decide +kernel
  refine ⟨_,pss_one (ps_ret (pe_callTy call_tuple_of rfl m1 boot_ttuple (pa_cons (pe_lc (N:=["place","truth","wanted"]) (src:=[none,none,some 1]) rfl ⟨rfl,rfl,rfl,rfl,⟨⟨rfl,rfl⟩,trivial⟩,rfl,rfl,rfl⟩ (gown_pair (i:=0) (j:=1) rfl rfl)
   (pi_enum rfl m2 (pa_cons (pv 0) pa_nil))
   (fun C s H fp=>⟨pg_tup (n:=2) rfl (pgs_cons (pg_name (i:=0) nd rfl (Or.inl rfl)) (pgs_cons (pg_name (i:=1) nd rfl (Or.inl rfl)) pgs_nil)),pifs_one (pt_cmpR op_eq (pv 1) (pv 2) (nomark _)),pv 0⟩)) pa_nil))),?_⟩
  refine ⟨_,rfl,p,_,rfl,hp,lc_enum (xs:=bs.map V.bl) (fun i zs H'=>Same H H'∧zs=(plw bs b i).map V.int) ⟨Same.refl _,rfl⟩ ?_ ?_ ?_⟩
  ·rintro i zs H' hi ⟨s2,rfl⟩
   refine ⟨s2 _ _ hp,?_⟩
   rw [List.length_map] at hi
   rw [List.length_map]
   have:=plw_len bs b i
   exact Nat.le_of_lt (small1000 (by omega))
  ·rintro zs H' ⟨s2,rfl⟩ l hl
   rw [List.length_map]
   refine ⟨l,_,rfl,.inl ⟨SqL.of upd_same,fun t ht=>k t _ ((s2.trans (Same.upd hl)).trans (Same.upd ht)) upd_same⟩⟩
  ·rintro i v zs H' q h1 hi ⟨s2,rfl⟩ hq
   rw [List.getElem?_map] at h1
   obtain ⟨x,e1,rfl⟩:=Option.map_eq_some_iff.mp h1
   refine ⟨q,_,rfl,SqT.of upd_same,rfl,_,_,rfl,_,_,rfl,rfl,?_⟩
   refine ⟨_,rfl,_,rfl,rfl,_,rfl,?_⟩
   have hx:decide (V.bl x=V.bl b)=decide (bs[i]?=some b):=by
    rw [e1]
    simp
   rw [hx]
   refine ite2 (fun h2=>?_) (fun h2=>?_)
   ·refine ⟨_,rfl,nx hi ⟨s2.trans (Same.upd hq),?_⟩⟩
    rw [plw_succ,if_pos (of_decide_eq_true h2),List.map_append]
    rfl
   ·refine nx hi ⟨s2.trans (Same.upd hq),?_⟩
    rw [plw_succ,if_neg (fun z=>h2 (decide_eq_true z)),List.append_nil]
def ldI (ars:List (Int×Int)) (p:Int):List Int:=(ars.filter fun q=>decide (q.1=p)).map (·.2)
theorem ldI_len (ars:List (Int×Int)) (p:Int):(ldI ars p).length≤ars.length:=by
 unfold ldI
 rw [List.length_map]
 exact List.length_filter_le _ _
structure LL (H:Hp) (l:Addr) (rows:List Addr) (f:Nat→List Int):Prop where
 top:H l=some (.lst (rows.map V.ref))
 row:∀ i r,rows[i]?=some r→H r=some (.lst ((f i).map V.int))
theorem LL.mono {H H':Hp} {l:Addr} {rows:List Addr} {f:Nat→List Int} (h:LL H l rows f) (s:Same H H'):LL H' l rows f:=⟨s _ _ h.top,fun i r e=>s _ _ (h.row i r e)⟩
def spAllLeads:Sp:=fun vs H Q _=>∃ (a t:Addr) (m:Int) (us:List V) (ars:List (Int×Int)),vs=[.ref a]∧Web H a t m us ars∧GoodA m ars ∧
 ∀ (l:Addr) (rows:List Addr) (H':Hp),Same H H'→rows.length=m.toNat→LL H' l rows (fun i=>ldI ars i)→Q (.ref l) H'
theorem kn_allleads (D:DefAt K mg "all_leads" s_all_leads ["web"]) (fr:Free mg ["range"]):Kn P w K mg base 1 "all_leads" ["web"] spAllLeads:=by
 have sc:FnScope ["web","leads","a","b"] ["web"] (defScope s_all_leads):=⟨rfl,rfl,rfl,by decide +kernel,rfl,by decide +kernel,by decide +kernel⟩
 refine D.kn (N:=["web","leads","a","b"]) sc (fun vs H Q E h=>?_) (fun f cdv A outer s H vs Q E hr h=>?_)
 ·obtain ⟨a,t,m,us,ars,rfl,_⟩:=h
  rfl
 ·obtain ⟨a,t,m,us,ars,rfl,W,ga,kk⟩:=h
  have m1:=fr "range" (by simp)
  have nd:(["place"]:List Str).Nodup:=by decide +kernel
  refine ⟨_,pss_cons (ps_setlc (i:=1) (N:=["place"]) (src:=[none]) sc.nd rfl rfl rfl rfl ⟨rfl,rfl,rfl,rfl,trivial,rfl,rfl,rfl⟩ (gown_name (i:=0) rfl) (pi_range1 rfl m1 (pa_cons (pe_ix ix_tup (pv 0) pe_int (fun _ _=>rfl)) pa_nil)) (fun C s H fp=>⟨pg_name (i:=0) nd rfl (Or.inl rfl),pifs_nil,pe_lst pa_nil⟩))
   (pss_cons (ps_for PassesOwn.never rfl (pi_tup (pe_ix ix_tup (pv 0) pe_int (fun _ _=>rfl))) (pg_tup (n:=2) rfl (pgs_cons (pg_name (i:=2) sc.nd rfl (Or.inl rfl)) (pgs_cons (pg_name (i:=3) sc.nd rfl (Or.inl rfl)) pgs_nil)))
    (pss_one (ps_expr (pe_bm PySem.F.plainAttrs_list PySem.F.slot_list_append PySem.F.type_list_append mt_append (pe_ix ix_list (pv 1) (pv 2) (fun _ _=>rfl)) (pa_cons (pv 3) pa_nil)))))
   (pss_one (ps_ret (pv 1)))),?_⟩
  have hm:=W.mb
  have c0:0≤sizeLine:=by decide
  refine ⟨_,rfl,a,_,_,_,rfl,rfl,SqT.of W.top,rfl,m,rfl,by omega,by omega,lc_range0 (fun i zs H'=>∃ rows:List Addr,zs=rows.map V.ref∧rows.length=i∧Same H H'∧(∀ r∈rows,H r=none∧H' r=some (.lst []))∧rows.Nodup) ⟨[],rfl,rfl,Same.refl _,fun r hr=>(nomatch hr),List.nodup_nil⟩ ?_ ?_ ?_⟩
  ·rintro i zs H' hi ⟨rows,rfl,rfl,_⟩
   rw [List.length_map]
   exact Nat.le_of_lt (small1000 (by omega))
  ·rintro zs H' ⟨rows,rfl,hl,s1,fresh,nodup⟩ l hl1
   have s2:=s1.trans (Same.upd (o:=.lst (rows.map V.ref)) hl1)
   have fresh2:∀ r∈rows,H r=none∧(upd H' l (.lst (rows.map V.ref))) r=some (.lst []):=fun r hr=>⟨(fresh r hr).1,Same.upd hl1 _ _ (fresh r hr).2⟩
   have hl2:(upd H' l (.lst (rows.map V.ref))) l=some (.lst (rows.map V.ref)):=upd_same
   have lr:∀ r∈rows,r≠l:=fun r hr=>ne_of_none (fresh r hr).2 hl1
   have hl0:H l=none:=by
    cases e:H l with
    | none=>rfl
    | some o=>rw [s1 _ _ e] at hl1; cases hl1
   generalize upd H' l (.lst (rows.map V.ref))=H2 at s2 fresh2 hl2
   have W2:=W.mono s2
   refine ⟨_,rfl,a,_,_,_,rfl,rfl,SqT.of W2.top,rfl,t,rfl,⟨_,SqT.of W2.arr⟩,for_tup (K:=K) (xs:=us) (fun k σ H3=>∃ (v2 v3:Option V),σ=[some (.ref a),some (.ref l),v2,v3]∧Same H H3∧LL H3 l rows (fun i=>ldI (ars.take k) i))
    ⟨none,none,rfl,s2,hl2,fun i r e=>(fresh2 r (List.mem_of_getElem? e)).2⟩ (fun i σ H3 _ ⟨_,_,_,s3,_⟩=>SqT.of (s3 _ _ W.arr)) ?_ ?_⟩
   ·rintro k y σ H3 hk ⟨v2,v3,rfl,s3,L⟩
    obtain ⟨q,e1,r,rfl,hr'⟩:=Paired.get' (W.mono s3).ars hk
    have g:=ga q (List.mem_of_getElem? e1)
    have hkl:k < us.length:=(List.getElem?_eq_some_iff.mp hk).1
    have hlu:=W.len
    obtain ⟨x,b⟩:=q
    obtain ⟨j,rfl⟩:∃ j:Nat,x=(j:Int):=⟨x.toNat,by have:=g.1; omega⟩
    have hj:j < rows.length:=by have:=g.2.1; show j < rows.length; rw [hl]; omega
    have er:rows[j]?=some rows[j]:=by simp [hj]
    have lj:=ldI_len (ars.take k) j
    rw [List.length_take] at lj
    refine ⟨r,_,rfl,SqT.of hr',rfl,_,_,rfl,_,_,rfl,rfl,?_⟩
    refine ⟨_,rfl,_,rfl,l,_,_,V.ref rows[j],rfl,rfl,SqL.of L.top,atI_nat (by rw [List.getElem?_map,er]; rfl),.inl ⟨rfl,_,SqL.of (L.row j _ er)⟩,_,rfl,rows[j],_,_,rfl,rfl,L.row j _ er,?_,?_⟩
    ·rw [List.length_map]
     exact small1000 (by omega)
    ·refine ⟨_,_,rfl,fun c o e=>?_,?_,fun i r' e'=>?_⟩
     ·rw [upd_ne (ne_of_none e (fresh _ (List.mem_of_getElem? er)).1)]
      exact s3 _ _ e
     ·rw [upd_ne (Ne.symm (lr _ (List.mem_of_getElem? er)))]
      exact L.top
     ·have ee:=take_snoc ars k _ e1
      by_cases hij:i=j
      ·subst hij
       rw [er] at e'
       cases e'
       rw [upd_same]
       unfold ldI
       rw [ee,List.filter_append,List.map_append,List.map_append]
       simp
      ·have ne:r'≠rows[j]:=by
        intro z
        have hi:i < rows.length:=(List.getElem?_eq_some_iff.mp e').1
        have:rows[i]=rows[j]:=by
         have:=(List.getElem?_eq_some_iff.mp e').2
         rw [this,z]
        have pw:=List.pairwise_iff_getElem.mp nodup
        rcases Nat.lt_or_gt_of_ne hij with lt | lt
        ·exact pw i j hi hj lt this
        ·exact pw j i hj hi lt this.symm
       rw [upd_ne ne,L.row i r' e']
       unfold ldI
       rw [ee,List.filter_append,List.map_append]
       have:¬ ((j:Int)=(i:Int)):=by omega
       simp [this]
   ·rintro σ H3 ⟨v2,v3,rfl,s3,L⟩
    refine ⟨_,rfl,kk l rows H3 s3 hl ?_⟩
    rw [arsLen W.ars,List.take_of_length_le (Nat.le_refl _)] at L
    exact L
  ·rintro i zs H' hi ⟨rows,rfl,hl,s1,fresh,nodup⟩
   refine ⟨c0,fun q hq=>nx hi ⟨rows++[q],?_,?_,s1.trans (Same.upd hq),fun r hr=>?_,?_⟩⟩
   ·rw [List.map_append]
    rfl
   ·rw [List.length_append]
    show rows.length + 1=i + 1
    omega
   ·rcases List.mem_append.mp hr with z | z
    ·exact ⟨(fresh r z).1,Same.upd hq _ _ (fresh r z).2⟩
    ·rw [List.mem_singleton] at z
     subst z
     refine ⟨?_,upd_same⟩
     cases e:H r with
     | none=>rfl
     | some o=>rw [s1 _ _ e] at hq; cases hq
   ·rw [List.nodup_append]
    refine ⟨nodup,by simp,fun x hx y hy=>?_⟩
    rw [List.mem_singleton] at hy
    subst hy
    exact ne_of_none (fresh x hx).2 hq
end
end Hk
namespace Hk
open PySem L2
structure Rise (ns:List Int) (m:Int):Prop where
 bd:∀ n∈ns,0≤n∧n < m
 up:ns.Pairwise (· < ·)
theorem up_len {m:Int}:∀ {ns:List Int} {lo:Int},(∀ n∈ns,lo≤n∧n < m)→ns.Pairwise (· < ·)→ns.length≤(m - lo).toNat
 | [],_,_,_=>Nat.zero_le _
 | a::r,lo,hb,hp=>by
  rw [List.pairwise_cons] at hp
  have h1:=hb a (by simp)
  have h2:=up_len (m:=m) (ns:=r) (lo:=a + 1) (fun n hn=>⟨hp.1 n hn,(hb n (by simp [hn])).2⟩) hp.2
  rw [List.length_cons]
  omega
theorem Rise.len {ns:List Int} {m:Int} (h:Rise ns m):ns.length≤m.toNat:=by
 have:=up_len h.bd h.up
 omega
theorem Rise.snoc {ns:List Int} {k:Int} (h:Rise ns k) (h0:0≤k):Rise (ns++[k]) (k + 1):=by
 refine ⟨fun n hn=>?_,?_⟩
 ·rcases List.mem_append.mp hn with z | z
  ·have:=h.bd n z
   omega
  ·rw [List.mem_singleton] at z
   omega
 ·rw [List.pairwise_append]
  refine ⟨h.up,List.pairwise_singleton _ _,fun x hx y hy=>?_⟩
  rw [List.mem_singleton] at hy
  subst hy
  exact (h.bd x hx).2
theorem Rise.mono {ns:List Int} {k j:Int} (h:Rise ns k) (hj:k≤j):Rise ns j:=⟨fun n hn=>by have:=h.bd n hn; omega,h.up⟩
end Hk
namespace Hk
open PySem L2
section
variable {P:Program} {w:World} {K:PySem.W.Frag} {mg:Str→Option Value} {base:Heap}
def spNexts:Sp:=fun vs H Q _=>∃ (a t:Addr) (m:Int) (us:List V) (ars:List (Int×Int)) (k:Int),vs=[.ref a,.int k]∧Web H a t m us ars ∧
 ∀ (l:Addr) (H':Hp),Same H H'→H' l=some (.lst (((ars.filter fun q=>decide (q.1=k)).map (·.2)).map V.int))→Q (.ref l) H'
theorem inV_int (k:Int) (ns:List Int):inV (.int k) (ns.map V.int)=decide (k∈ns):=by
 unfold inV
 induction ns with
 | nil=>simp
 | cons n r ih =>
  rw [List.map_cons,List.any_cons,ih]
  have:eqV (V.int n) (V.int k)=decide (k=n):=by
   show (n == k)=_
   by_cases h:k=n
   ·subst h; simp
   ·simp [h,Ne.symm h]
  rw [this]
  simp
theorem flat_ints (ns:List Int):(ns.map V.int).all flatV=true:=by
 rw [List.all_map]
 exact List.all_eq_true.mpr fun _ _=>rfl
theorem kn_nexts (D:DefAt K mg "_law_nexts" s_law_nexts ["web","place"]):Kn P w K mg base 1 "_law_nexts" ["web","place"] spNexts:=by
 have sc:FnScope ["web","place"] ["web","place"] (defScope s_law_nexts):=⟨rfl,rfl,rfl,by decide +kernel,rfl,by decide +kernel,by decide +kernel⟩
 refine D.kn (N:=["web","place"]) sc (fun vs H Q E h=>?_) (fun f cdv A outer s H vs Q E hr h=>?_)
 ·obtain ⟨a,t,m,us,ars,k,rfl,_⟩:=h
  rfl
 ·obtain ⟨a,t,m,us,ars,k,rfl,W,kk⟩:=h
  have nd:(["a","b","place"]:List Str).Nodup:=by decide +kernel
  refine ⟨_,pss_one (ps_ret (pe_lc (N:=["a","b","place"]) (src:=[none,none,some 1]) rfl ⟨rfl,rfl,rfl,rfl,⟨⟨rfl,rfl⟩,trivial⟩,rfl,rfl,rfl⟩ (gown_pair (i:=0) (j:=1) rfl rfl) (pi_tup (pe_ix ix_tup (pv 0) pe_int (fun _ _=>rfl)))
    (fun C s H fp=>⟨pg_tup (n:=2) rfl (pgs_cons (pg_name (i:=0) nd rfl (Or.inl rfl)) (pgs_cons (pg_name (i:=1) nd rfl (Or.inl rfl)) pgs_nil)),pifs_one (pt_cmpR op_eq (pv 0) (pv 2) (nomark _)),pv 1⟩))),?_⟩
  refine ⟨_,rfl,a,_,_,_,rfl,rfl,SqT.of W.top,rfl,t,rfl,⟨_,SqT.of W.arr⟩,lc_tup (xs:=us) (fun i zs H'=>Same H H'∧zs=(((ars.take i).filter fun q=>decide (q.1=k)).map (·.2)).map V.int) ⟨Same.refl _,rfl⟩ ?_ ?_ ?_⟩
  ·rintro i zs H' hi ⟨s2,rfl⟩
   refine ⟨SqT.of (s2 _ _ W.arr),?_⟩
   have h2:((ars.take i).filter fun q=>decide (q.1=k)).length≤(ars.take i).length:=List.length_filter_le _ _
   rw [List.length_take] at h2
   have h3:=W.len
   rw [List.length_map,List.length_map]
   exact Nat.le_of_lt (small1000 (by omega))
  ·rintro zs H' ⟨s2,rfl⟩ l hl'
   rw [arsLen W.ars,List.take_of_length_le (Nat.le_refl _)]
   exact kk l _ (s2.trans (Same.upd hl')) upd_same
  ·rintro i x zs H' h1 hi ⟨s2,rfl⟩
   obtain ⟨q,e1,r,rfl,hr'⟩:=Paired.get' W.ars h1
   refine ⟨r,_,rfl,SqT.of (s2 _ _ hr'),rfl,_,_,rfl,_,_,rfl,rfl,_,rfl,_,rfl,rfl,_,rfl,?_⟩
   have hq:decide (V.int q.1=V.int k)=decide (q.1=k):=by simp
   rw [hq]
   refine ite2 (fun h2=>?_) (fun h2=>?_)
   ·refine ⟨_,rfl,nx hi ⟨s2,?_⟩⟩
    rw [filter_snoc _ _ _ _ e1,if_pos h2,List.map_append,List.map_append]
    rfl
   ·refine nx hi ⟨s2,?_⟩
    rw [filter_snoc _ _ _ _ e1,if_neg h2,List.append_nil]
def faultB (m:Int) (ars:List (Int×Int)) (ns:List Int):Bool:=ars.any (both ns) || ((List.range m.toNat).map fun (k:Nat)=>(k:Int)).any fun k=>!heldB ars ns k
def spFault:Sp:=fun vs H Q _=>∃ (a t:Addr) (m:Int) (us:List V) (ars:List (Int×Int)) (p:Addr) (ns:List Int),vs=[.ref a,.ref p]∧Web H a t m us ars∧H p=some (.tup (ns.map V.int)) ∧
 ∀ (v:V) (H':Hp),Same H H'→(if faultB m ars ns=true then ∃ q,v=.ref q else v=.non)→Q v H'
theorem kn_fault (D:DefAt K mg "_law_fault" s_law_fault ["web","places"]) (fr:Free mg ["range"]) (kn:Kn P w K mg base 1 "_law_nexts" ["web","place"] spNexts):Kn P w K mg base 2 "_law_fault" ["web","places"] spFault:=by
 have sc:FnScope ["web","places","a","b","place"] ["web","places"] (defScope s_law_fault):=⟨rfl,rfl,rfl,by decide +kernel,rfl,by decide +kernel,by decide +kernel⟩
 refine D.kn (N:=["web","places","a","b","place"]) sc (fun vs H Q E h=>?_) (fun f cdv A outer s H vs Q E hr h=>?_)
 ·obtain ⟨a,t,m,us,ars,p,ns,rfl,_⟩:=h
  rfl
 ·obtain ⟨a,t,m,us,ars,p,ns,rfl,W,hp,kk⟩:=h
  have hu:=hu_of hr
  have m1:=fr "range" (by simp)
  have nd:(["b","places"]:List Str).Nodup:=by decide +kernel
  refine ⟨_,pss_cons (ps_for PassesOwn.never rfl (pi_tup (pe_ix ix_tup (pv 0) pe_int (fun _ _=>rfl))) (pg_tup (n:=2) rfl (pgs_cons (pg_name (i:=2) sc.nd rfl (Or.inl rfl)) (pgs_cons (pg_name (i:=3) sc.nd rfl (Or.inl rfl)) pgs_nil)))
    (pss_one (ps_if (PW.pt (pw_and (pt_cmpR op_in_seq (pv 2) (pv 1) rfl) (pw_and1 (pt_cmpR op_in_seq (pv 3) (pv 1) rfl)))) (pss_one (ps_ret (pe_tup (pa_cons pe_str (pa_cons (pv 2) (pa_cons (pv 3) pa_nil)))))) pss_nil)))
   (pss_cons (ps_for PassesOwn.never rfl (pi_range1 rfl m1 (pa_cons (pe_ix ix_tup (pv 0) pe_int (fun _ _=>rfl)) pa_nil)) (pg_name (i:=4) sc.nd rfl (Or.inl rfl))
    (pss_one (ps_if (PW.pt (pw_and (pt_cmpR op_notIn_seq (pv 4) (pv 1) rfl) (pw_and1 (pt_cmpR (op_eqNil (Nat.lt_of_succ_lt hu)) (pe_lc (N:=["b","places"]) (src:=[none,some 1]) rfl ⟨rfl,rfl,rfl,rfl,⟨⟨rfl,rfl⟩,trivial⟩,rfl,rfl,rfl⟩ (gown_name (i:=0) rfl) (pi_list (pe_kn kn hr (pa_cons (pv 0) (pa_cons (pv 4) pa_nil))))
      (fun C s H fp=>⟨pg_name (i:=0) nd rfl (Or.inl rfl),pifs_one (pt_cmpR (r:=rIn K false) op_in_seq (pv 0) (pv 1) rfl),pv 0⟩)) (pe_lst pa_nil) (nomark _))))) (pss_one (ps_ret (pe_tup (pa_cons pe_str (pa_cons (pv 4) pa_nil))))) pss_nil)))
   (pss_one (ps_ret pe_non))),?_⟩
  refine ⟨_,rfl,a,_,_,_,rfl,rfl,SqT.of W.top,rfl,t,rfl,⟨_,SqT.of W.arr⟩,for_tup (K:=K) (xs:=us) (fun i σ H2=>∃ (v2 v3:Option V),σ=[some (.ref a),some (.ref p),v2,v3,none]∧Same H H2∧(ars.take i).any (both ns)=false)
   ⟨none,none,rfl,Same.refl _,rfl⟩ (fun i σ H2 _ ⟨_,_,_,s2,_⟩=>SqT.of (s2 _ _ W.arr)) ?_ ?_⟩
  ·rintro i y σ H2 hi ⟨v2,v3,rfl,s2,hn⟩
   obtain ⟨q,e1,r,rfl,hr'⟩:=Paired.get' W.ars hi
   have nb:both ns q=false→(ars.take (i + 1)).any (both ns)=false:=fun hb=>by
    rw [take_snoc _ _ _ e1,List.any_append,hn]
    simp [hb]
   refine ⟨r,_,rfl,SqT.of (s2 _ _ hr'),rfl,_,_,rfl,_,_,rfl,rfl,_,rfl,_,rfl,p,_,rfl,.inr (SqT.of (s2 _ _ hp)),rfl,flat_ints ns,_,rfl,?_⟩
   show if inV (.int q.1) (ns.map V.int)=true then _ else _
   rw [inV_int]
   refine ite2 (fun h1=>?_) (fun h1=>?_)
   ·refine ⟨_,rfl,_,rfl,p,_,rfl,.inr (SqT.of (s2 _ _ hp)),rfl,flat_ints ns,_,rfl,?_⟩
    show if inV (.int q.2) (ns.map V.int)=true then _ else _
    rw [inV_int]
    refine ite2 (fun h2=>?_) (fun h2=>?_)
    ·refine ⟨_,rfl,_,rfl,(by show 3≤sizeLine; decide),fun c hc=>kk _ _ (s2.trans (Same.upd hc)) ?_⟩
     have hb:faultB m ars ns=true:=by
      unfold faultB
      rw [Bool.or_eq_true]
      refine .inl (List.any_eq_true.mpr ⟨q,List.mem_of_getElem? e1,?_⟩)
      unfold both
      rw [h1,h2]
      rfl
     rw [if_pos hb]
     exact ⟨c,rfl⟩
    ·exact ⟨_,_,rfl,s2,nb (by unfold both; rw [Bool.eq_false_iff.mpr h2,Bool.and_false])⟩
   ·exact ⟨_,_,rfl,s2,nb (by unfold both; rw [Bool.eq_false_iff.mpr h1,Bool.false_and])⟩
  ·rintro σ H2 ⟨v2,v3,rfl,s2,hn⟩
   rw [arsLen W.ars,List.take_of_length_le (Nat.le_refl _)] at hn
   have hm:=W.mb
   refine ⟨_,rfl,a,_,_,_,rfl,rfl,SqT.of (s2 _ _ W.top),rfl,m,rfl,by omega,by omega,for_range (fun i σ H3=>∃ v4,σ=[some (.ref a),some (.ref p),v2,v3,v4]∧Same H H3∧∀ k:Nat,k < i→heldB ars ns (k:Int)=true) ⟨none,rfl,s2,fun k hk=>absurd hk (Nat.not_lt_zero _)⟩ ?_ ?_⟩
   ·rintro i σ H3 hi ⟨v4,rfl,s3,hk⟩
    have keep:heldB ars ns (0 + (i:Int))=true→∀ k:Nat,k < i + 1→heldB ars ns (k:Int)=true:=fun hb k hk'=>by
     rcases Nat.lt_succ_iff_lt_or_eq.mp hk' with h | h
     ·exact hk k h
     ·subst h
      rw [Int.zero_add] at hb
      exact hb
    refine ⟨_,rfl,_,rfl,p,_,rfl,.inr (SqT.of (s3 _ _ hp)),rfl,flat_ints ns,_,rfl,?_⟩
    show if (!inV (.int (0 + i)) (ns.map V.int))=true then _ else _
    rw [inV_int]
    refine ite2 (fun h1=>?_) (fun h1=>?_)
    ·have h1':(0 + (i:Int)) ∉ ns:=by simpa using h1
     refine ⟨_,rfl,_,rfl,a,t,m,us,ars,_,rfl,W.mono s3,fun l H4 s4 hl=>?_⟩
     refine ⟨l,rfl,⟨_,SqL.of hl⟩,lc_list (xs:=((ars.filter fun q=>decide (q.1=0 + (i:Int))).map (·.2)).map V.int) (fun j zs H'=>Same H4 H'∧zs=((((ars.filter fun q=>decide (q.1=0 + (i:Int))).map (·.2)).take j).filter fun b=>decide (b∈ns)).map V.int) ⟨Same.refl _,rfl⟩ ?_ ?_ ?_⟩
     ·rintro j zs H' hj ⟨s5,rfl⟩
      refine ⟨SqL.of (s5 _ _ hl),?_⟩
      have h2:=List.length_filter_le (fun b=>decide (b∈ns)) (((ars.filter fun q=>decide (q.1=0 + (i:Int))).map (·.2)).take j)
      rw [List.length_take,List.length_map] at h2
      have h3:=List.length_filter_le (fun q:Int×Int=>decide (q.1=0 + (i:Int))) ars
      have h4:=W.len
      have h5:=arsLen W.ars
      rw [List.length_map]
      exact Nat.le_of_lt (small1000 (by omega))
     ·rintro zs H' ⟨s5,rfl⟩ l2 hl2
      rw [List.length_map,List.take_of_length_le (Nat.le_refl _)]
      refine ⟨(by show 0≤sizeLine; decide),fun l3 hl3=>?_⟩
      refine ⟨l2,l3,_,rfl,rfl,SqL.of (Same.upd hl3 _ _ upd_same),SqL.of upd_same,_,rfl,ite2 (fun h2=>?_) (fun h2=>?_)⟩
      ·refine ⟨_,rfl,(by show 2≤sizeLine; decide),fun c hc=>kk _ _ ((((s3.trans s4).trans s5).trans ((Same.upd hl2).trans (Same.upd hl3))).trans (Same.upd hc)) ?_⟩
       have hb:faultB m ars ns=true:=by
        unfold faultB
        rw [Bool.or_eq_true]
        refine .inr (List.any_eq_true.mpr ⟨(i:Int),List.mem_map.mpr ⟨i,List.mem_range.mpr hi,rfl⟩,?_⟩)
        have h2':=List.isEmpty_iff.mp h2
        rw [List.map_eq_nil_iff,List.filter_eq_nil_iff] at h2'
        have:heldB ars ns (i:Int)=false:=by
         unfold heldB
         rw [Int.zero_add] at h1'
         rw [decide_eq_false h1',Bool.false_or,List.any_eq_false]
         rintro q hq hh
         rw [Bool.and_eq_true] at hh
         refine h2' q.2 (List.mem_map.mpr ⟨q,List.mem_filter.mpr ⟨hq,?_⟩,rfl⟩) hh.2
         rw [Int.zero_add]
         exact hh.1
        rw [this]
        rfl
       rw [if_pos hb]
       exact ⟨c,rfl⟩
      ·refine ⟨_,rfl,((s3.trans s4).trans s5).trans ((Same.upd hl2).trans (Same.upd hl3)),keep ?_⟩
       have h2':=fun z=>h2 (List.isEmpty_iff.mpr z)
       rw [List.map_eq_nil_iff,List.filter_eq_nil_iff] at h2'
       unfold heldB
       rw [Bool.or_eq_true]
       refine .inr ?_
       refine Decidable.byContradiction fun hc=>h2' fun b hb hbn=>hc ?_
       obtain ⟨q,hq,rfl⟩:=List.mem_map.mp hb
       obtain ⟨hq1,hq2⟩:=List.mem_filter.mp hq
       refine List.any_eq_true.mpr ⟨q,hq1,?_⟩
       rw [Bool.and_eq_true]
       exact ⟨hq2,hbn⟩
     ·rintro j x zs H' h2 hj ⟨s5,rfl⟩
      rw [List.getElem?_map] at h2
      obtain ⟨b,e1,rfl⟩:=Option.map_eq_some_iff.mp h2
      refine ⟨_,rfl,_,rfl,p,_,rfl,.inr (SqT.of (s5 _ _ (s4 _ _ (s3 _ _ hp)))),rfl,flat_ints ns,_,rfl,?_⟩
      show if inV (.int b) (ns.map V.int)=true then _ else _
      rw [inV_int]
      refine ite2 (fun h2=>?_) (fun h2=>?_)
      ·refine ⟨_,rfl,nx hj ⟨s5,?_⟩⟩
       rw [filter_snoc _ _ _ _ e1,if_pos h2,List.map_append]
       rfl
      ·refine nx hj ⟨s5,?_⟩
       rw [filter_snoc _ _ _ _ e1,if_neg h2,List.append_nil]
    ·refine ⟨_,rfl,s3,keep ?_⟩
     unfold heldB
     rw [Bool.or_eq_true]
     refine .inl ?_
     simpa using h1
   ·rintro σ H3 ⟨v4,rfl,s3,hk⟩
    refine kk _ _ s3 ?_
    have hb:¬ faultB m ars ns=true:=by
     unfold faultB
     rw [hn,Bool.false_or,List.any_eq_true]
     rintro ⟨k,hk1,hk2⟩
     obtain ⟨j,hj,rfl⟩:=List.mem_map.mp hk1
     rw [hk j (List.mem_range.mp hj)] at hk2
     cases hk2
    rw [if_neg hb]
end
end Hk
namespace Hk
open PySem L2 PySem.W
def mkv (ns:List Int):List (Key×V):=ns.map fun n=>(Sum.inl n,V.bl true)
theorem mkv_val (ns:List Int) (x:Int):valV (mkv ns) (Sum.inl x)=if x∈ns then some (.bl true) else none:=by
 induction ns with
 | nil=>simp [mkv,valV]
 | cons n r ih =>
  show valV ((Sum.inl n,V.bl true)::mkv r) (Sum.inl x)=_
  unfold valV at ih ⊢
  rw [List.find?_cons]
  by_cases e:n=x
  ·subst e
   simp
  ·rw [decide_eq_false (show ¬ (Sum.inl n:Key)=Sum.inl x from fun z=>e (Sum.inl.inj z)),ih]
   by_cases z:x∈r
   ·rw [if_pos z,if_pos (List.mem_cons_of_mem _ z)]
   ·rw [if_neg z,if_neg (fun w=>(List.mem_cons.mp w).elim (fun h=>e h.symm) z)]
def outs (bs:List Bool):List Int:=plw bs false bs.length
def lbL (ars:List (Int×Int)) (bs:List Bool):List Int:=(outs bs).filter fun p=>(ldI ars p).all fun b=>decide (b∈outs bs)
def tbL (ars:List (Int×Int)) (bs:List Bool):List (Int×Int):=ars.filter (both (plw bs true bs.length))
section
variable {P:Program} {w:World} {K:Frag} {mg:Str→Option Value} {base:Heap}
def spMarkedK:Sp:=fun vs H Q _=>∃ (p:Addr) (ns:List Int),vs=[.ref p]∧H p=some (.tup (ns.map V.int))∧ns.length≤1000∧ns.Nodup∧∀ (d:Addr) (H':Hp),Same H H'→H d=none→H' d=some (.dK (mkv ns))→Q (.ref d) H'
theorem kn_markedK (D:DefAt K mg "marked" s_marked ["places"]):Kn P w K mg base 1 "marked" ["places"] spMarkedK:=by
 have sc:FnScope ["places","marks","place"] ["places"] (defScope s_marked):=⟨rfl,rfl,rfl,by decide +kernel,rfl,by decide +kernel,by decide +kernel⟩
 refine D.kn (N:=["places","marks","place"]) sc (fun vs H Q E h=>?_) (fun f cdv A outer s H vs Q E hr h=>?_)
 ·obtain ⟨p,ns,rfl,_⟩:=h
  rfl
 ·obtain ⟨p,ns,rfl,hp,hz,nd,k⟩:=h
  have hu:=hu_of hr
  refine ⟨_,pss_cons (ps_set (i:=1) sc.nd rfl (Or.inl rfl) pe_dnewK) (pss_cons (ps_for PassesOwn.never rfl (pi_tup (pv 0)) (pg_name (i:=2) sc.nd rfl (Or.inl rfl)) (pss_one (ps_dput hu (pv 1) (pv 2) pe_bl rfl))) (pss_one (ps_ret (pv 1)))),?_⟩
  intro d hd
  have hp1:(upd H d (.dK [])) p=some (.tup (ns.map V.int)):=by rw [upd_ne (ne_of_none hp hd)]; exact hp
  refine ⟨_,rfl,p,rfl,⟨_,SqT.of hp1⟩,for_tup (K:=K) (xs:=ns.map V.int) (fun i σ H2=>∃ (v:Option V),σ=[some (.ref p),some (.ref d),v]∧Same H H2∧H2 d=some (.dK (mkv (ns.take i))))
   ⟨none,rfl,Same.upd hd,upd_same⟩ (fun i σ H2 _ ⟨_,_,s2,_⟩=>SqT.of (s2 _ _ hp)) ?_ ?_⟩
  ·rintro i y σ H2 hi ⟨v,rfl,s2,hd2⟩
   rw [List.getElem?_map] at hi
   obtain ⟨x,e1,rfl⟩:=Option.map_eq_some_iff.mp hi
   have hil:i < ns.length:=(List.getElem?_eq_some_iff.mp e1).1
   have hnew:x ∉ ns.take i:=fun hx=>by
    have:=nd
    rw [← List.take_append_drop i ns] at this
    have h3:=(List.nodup_append.mp this).2.2 x hx x (by
     have:ns.drop i=x::ns.drop (i + 1):=by
      rw [List.drop_eq_getElem_cons hil]
      rw [(List.getElem?_eq_some_iff.mp e1).2]
     rw [this]
     exact List.mem_cons_self)
    exact h3 rfl
   refine ⟨_,rfl,_,rfl,d,_,rfl,DPut.k (k:=Sum.inl x) hd2 (small1000 (by unfold mkv; rw [List.length_map,List.length_take]; omega)),?_⟩
   refine ⟨_,rfl,fun b o e=>?_,?_⟩
   ·rw [upd_ne (ne_of_none e hd)]
    exact s2 _ _ e
   ·rw [upd_same,putK_new _ (by rw [mkv_val,if_neg hnew]),take_snoc _ _ _ e1]
    unfold mkv
    rw [List.map_append]
    rfl
  ·rintro σ H2 ⟨v,rfl,s2,hd2⟩
   rw [List.length_map,List.take_of_length_le (Nat.le_refl _)] at hd2
   exact ⟨_,rfl,k d H2 s2 hd hd2⟩
structure WB (H:Hp) (a t c:Addr) (m:Int) (us:List V) (ars:List (Int×Int)) (bs:List Bool):Prop where
 web:Web H a t m us ars
 good:GoodA m ars
 at_:H c=some (.tup (bs.map V.bl))
 len:(bs.length:Int)≤m
theorem WB.mono {H H':Hp} {a t c:Addr} {m:Int} {us:List V} {ars:List (Int×Int)} {bs:List Bool} (h:WB H a t c m us ars bs) (s:Same H H'):WB H' a t c m us ars bs:=⟨h.web.mono s,h.good,s _ _ h.at_,h.len⟩
def spTB:Sp:=fun vs H Q _=>∃ (a t c:Addr) (m:Int) (us:List V) (ars:List (Int×Int)) (bs:List Bool),vs=[.ref a,.ref c]∧WB H a t c m us ars bs∧∀ (l:Addr) (ws:List V) (H':Hp),Same H H'→H' l=some (.lst ws)→Ars H' ws (tbL ars bs)→Q (.ref l) H'
theorem kn_tb (D:DefAt K mg "tied_begun" s_tied_begun ["web","begun"]) (kt:Kn P w K mg base 2 "tied_arrows" ["web","places"] spTied) (kp:Kn P w K mg base 1 "places_with" ["truths","wanted"] spPlw):Kn P w K mg base 3 "tied_begun" ["web","begun"] spTB:=by
 have sc:FnScope ["web","begun"] ["web","begun"] (defScope s_tied_begun):=⟨rfl,rfl,rfl,by decide +kernel,rfl,by decide +kernel,by decide +kernel⟩
 refine D.kn (N:=["web","begun"]) sc (fun vs H Q E h=>?_) (fun f cdv A outer s H vs Q E hr h=>?_)
 ·obtain ⟨a,t,c,m,us,ars,bs,rfl,_⟩:=h
  rfl
 ·obtain ⟨a,t,c,m,us,ars,bs,rfl,W,k⟩:=h
  have r1:=hr.mono (j:=1) (by decide)
  have hm:=W.web.mb
  have hl:=W.len
  have lp:=plw_len bs true bs.length
  refine ⟨_,(pss_one (ps_ret (pe_kn kt hr (pa_cons (pv 0) (pa_cons (pe_kn kp r1 (pa_cons (pv 1) (pa_cons pe_bl pa_nil))) pa_nil))))),?_⟩
  refine ⟨_,rfl,_,rfl,c,bs,true,rfl,W.at_,by omega,fun q H1 s1 hq=>?_⟩
  exact ⟨a,t,m,us,ars,q,plw bs true bs.length,rfl,W.web.mono s1,hq,by omega,fun l ws H' s' hl' ar=>k l ws H' (s1.trans s') hl' ar⟩
def spLB:Sp:=fun vs H Q _=>∃ (a t c:Addr) (m:Int) (us:List V) (ars:List (Int×Int)) (bs:List Bool),vs=[.ref a,.ref c]∧WB H a t c m us ars bs∧∀ (l:Addr) (H':Hp),Same H H'→H' l=some (.lst ((lbL ars bs).map V.int))→Q (.ref l) H'
theorem kn_lb (D:DefAt K mg "lost_begun" s_lost_begun ["web","begun"]) (fr:Free mg ["all"]) (ka:Kn P w K mg base 1 "all_leads" ["web"] spAllLeads) (km:Kn P w K mg base 1 "marked" ["places"] spMarkedK) (kp:Kn P w K mg base 1 "places_with" ["truths","wanted"] spPlw):Kn P w K mg base 2 "lost_begun" ["web","begun"] spLB:=by
 have sc:FnScope ["web","begun","leads","out"] ["web","begun"] (defScope s_lost_begun):=⟨rfl,rfl,rfl,by decide +kernel,rfl,by decide +kernel,by decide +kernel⟩
 refine D.kn (N:=["web","begun","leads","out"]) sc (fun vs H Q E h=>?_) (fun f cdv A outer s H vs Q E hr h=>?_)
 ·obtain ⟨a,t,c,m,us,ars,bs,rfl,_⟩:=h
  rfl
 ·obtain ⟨a,t,c,m,us,ars,bs,rfl,W,k⟩:=h
  have hu:=hu_of hr
  have m1:=fr "all" (by simp)
  have hm:=W.web.mb
  have hl:=W.len
  have nd:(["place","out","leads"]:List Str).Nodup:=by decide +kernel
  have nd2:(["b","out"]:List Str).Nodup:=by decide +kernel
  refine ⟨_,(pss_cons (ps_set (i:=2) sc.nd rfl (Or.inr rfl) (pe_kn ka hr (pa_cons (pv 0) pa_nil))) (pss_cons (ps_set (i:=3) sc.nd rfl (Or.inr rfl) (pe_kn km hr (pa_cons (pe_kn kp hr (pa_cons (pv 1) (pa_cons pe_bl pa_nil))) pa_nil))) (pss_one (ps_ret (pe_lc (N:=["place","out","leads"]) (src:=[none,some 3,some 2]) rfl ⟨rfl,rfl,rfl,rfl,⟨⟨rfl,rfl⟩,⟨⟨rfl,rfl⟩,trivial⟩⟩,rfl,rfl,rfl⟩ (gown_name (i:=0) rfl) (pi_dict (pv 3)) (fun C s H fp=>⟨(pg_name (i:=0) nd rfl (Or.inl rfl)),(pifs_one (pt_call (pe_callB (call_allK K rfl) rfl m1 boot_fall (pa_cons (pe_lc (N:=["b","out"]) (src:=[none,some 1]) rfl ⟨rfl,rfl,rfl,rfl,⟨⟨rfl,rfl⟩,trivial⟩,rfl,rfl,rfl⟩ (gown_name (i:=0) rfl) (pi_listK K (pe_ix (r:=rIxL K) ix_list (pv 2) (pv 0) (fun _ _=>rfl))) (fun C s H fp=>⟨(pg_name (i:=0) nd2 rfl (Or.inl rfl)),pifs_nil,(pe_cmp (pc_din hu (pv 0) (pv 1)))⟩)) pa_nil)))),(pv 0)⟩)))))),?_⟩
  refine ⟨_,rfl,a,t,m,us,ars,rfl,W.web,W.good,fun ll rows H1 s1 lr LR=>?_⟩
  refine gname_in ?_
  dsimp only
  refine ⟨_,rfl,c,bs,false,rfl,s1 _ _ W.at_,by omega,fun q H2 s2 hq=>?_⟩
  have lo:=plw_len bs false bs.length
  refine ⟨q,outs bs,rfl,hq,by show (plw bs false bs.length).length≤1000; omega,(plw_up bs false bs.length).imp (fun {x y} h=>by omega),fun d H3 s3 hd2 hd3=>?_⟩
  refine gname_in ?_
  dsimp only
  have s13:=s1.trans (s2.trans s3)
  have hdN:H d=none:=by
   cases e:H d with
   | none=>rfl
   | some o=>rw [(s1.trans s2) _ _ e] at hd2; cases hd2
  refine ⟨_,rfl,d,_,rfl,hd3,fun o=>?_⟩
  have s4:Same H (upd H3 d (.frz o (.dK (mkv (outs bs))))):=fun b u e=>by
   rw [upd_ne (ne_of_none e hdN)]
   exact s13 _ _ e
  have LR4:LL (upd H3 d (.frz o (.dK (mkv (outs bs))))) ll rows (fun i=>ldI ars i):=by
   have L3:=LR.mono (s2.trans s3)
   have nl:∀ b u,H1 b=some u→b≠d:=fun b u e=>ne_of_none (s2 _ _ e) hd2
   exact ⟨by rw [upd_ne (nl _ _ LR.top)]; exact L3.top,fun i r e=>by rw [upd_ne (nl _ _ (LR.row i r e))]; exact L3.row i r e⟩
  have hd4:(upd H3 d (.frz o (.dK (mkv (outs bs))))) d=some (.frz o (.dK (mkv (outs bs)))):=upd_same
  generalize upd H3 d (.frz o (.dK (mkv (outs bs))))=H4 at s4 LR4 hd4
  have lmk:(mkv (outs bs)).length=(outs bs).length:=by unfold mkv; rw [List.length_map]
  have lou:(outs bs).length≤bs.length:=lo
  refine lc_dict (o:=o) (fun i zs H'=>Same H4 H'∧zs=(((outs bs).take i).filter fun p=>(ldI ars p).all fun b=>decide (b∈outs bs)).map V.int) ⟨Same.refl _,rfl⟩ ?_ ?_ ?_
  ·rintro i zs H' hi ⟨s5,rfl⟩
   refine ⟨s5 _ _ hd4,?_⟩
   rw [List.length_map]
   have:=List.length_filter_le (fun p=>(ldI ars p).all fun b=>decide (b∈outs bs)) ((outs bs).take i)
   rw [List.length_take] at this
   exact Nat.le_of_lt (small1000 (by omega))
  ·rintro zs H' ⟨s5,rfl⟩ l hl'
   rw [lmk,List.take_of_length_le (Nat.le_refl _)]
   exact k l _ (s4.trans (s5.trans (Same.upd hl'))) upd_same
  ·rintro i kk v zs H' hx hi ⟨s5,rfl⟩
   rw [lmk] at hi
   have hx':(mkv (outs bs))[i]?=some (Sum.inl (outs bs)[i],V.bl true):=by
    unfold mkv
    rw [List.getElem?_map,List.getElem?_eq_getElem hi]
    rfl
   rw [hx'] at hx
   cases hx
   have e1:(outs bs)[i]?=some (outs bs)[i]:=List.getElem?_eq_getElem hi
   generalize (outs bs)[i]=p at e1
   have fs:=filter_snoc (fun p=>(ldI ars p).all fun b=>decide (b∈outs bs)) (outs bs) i p e1
   obtain ⟨j,hj,hb,rfl⟩:=plw_mem.mp (List.mem_of_getElem? e1)
   have hjr:j < rows.length:=by omega
   have er:rows[j]?=some rows[j]:=List.getElem?_eq_getElem hjr
   generalize rows[j]=r at er
   have LR5:=LR4.mono s5
   have hrow:=LR5.row j r er
   have hd5:=s5 _ _ hd4
   have rl:(rows.map V.ref).length≤1000:=by rw [List.length_map]; omega
   have la:=ldI_len ars (j:Int)
   have la2:=arsLen W.web.ars
   have la3:=W.web.len
   refine ⟨_,rfl,_,rfl,ll,_,_,.ref r,rfl,rfl,SqL.of LR5.top,atI_nat (by rw [List.getElem?_map,er]; rfl),r,rfl,⟨_,SqL.of hrow⟩,lc_list0 (xs:=(ldI ars (j:Int)).map V.int) (fun n ys H6=>Same H' H6∧ys=(((ldI ars (j:Int)).take n).map fun b=>decide (b∈outs bs)).map V.bl) ⟨Same.refl _,rfl⟩ ?_ ?_ ?_⟩
   ·rintro n ys H6 hn ⟨s6,rfl⟩
    refine ⟨SqL.of (s6 _ _ hrow),?_⟩
    rw [List.length_map,List.length_map,List.length_take]
    exact Nat.le_of_lt (small1000 (by omega))
   ·rintro ys H6 ⟨s6,rfl⟩ y hy
    rw [List.length_map,List.take_of_length_le (Nat.le_refl _)]
    refine ⟨y,_,rfl,SqL.of upd_same,_,rfl,?_⟩
    have ea:(((ldI ars (j:Int)).map fun b=>decide (b∈outs bs)).all id)=(ldI ars (j:Int)).all fun b=>decide (b∈outs bs):=by rw [List.all_map]; rfl
    rw [ea]
    have s56:=s5.trans (s6.trans (Same.upd (o:=.lst (((ldI ars (j:Int)).map fun b=>decide (b∈outs bs)).map V.bl)) hy))
    refine ite2 (fun c=>?_) (fun c=>?_)
    ·rw [if_pos c] at fs
     refine ⟨_,rfl,nx (by rw [lmk]; exact hi) ⟨s6.trans (Same.upd hy) |> s5.trans,?_⟩⟩
     rw [fs,List.map_append]
     rfl
    ·rw [if_neg c,List.append_nil] at fs
     refine nx (by rw [lmk]; exact hi) ⟨s6.trans (Same.upd hy) |> s5.trans,?_⟩
     rw [fs]
   ·rintro n x ys H6 hx2 hn ⟨s6,rfl⟩
    rw [List.getElem?_map] at hx2
    obtain ⟨b,e2,rfl⟩:=Option.map_eq_some_iff.mp hx2
    refine ⟨_,rfl,_,rfl,d,_,rfl,.inl ⟨_,Sum.inl b,.inr ⟨o,s6 _ _ hd5⟩,rfl,rfl⟩,nx hn ⟨s6,?_⟩⟩
    rw [take_snoc _ _ _ e2,List.map_append,List.map_append,mkv_val]
    by_cases z:b∈outs bs
    ·rw [if_pos z]
     simp [z]
    ·rw [if_neg z]
     simp [z]
end
end Hk
namespace Hk
open PySem L2
theorem paired_snoc {α β:Type} {R:α→β→Prop} {x:α} {y:β}:∀ {xs:List α} {ys:List β},Paired R xs ys→R x y→Paired R (xs++[x]) (ys++[y])
 | _,_,.nil,h=>.cons h .nil
 | _,_,.cons a r,h=>.cons a (paired_snoc r h)
def Tps (H:Hp):List V→List (List Int)→Prop:=Paired fun v ns=>∃ q,v=V.ref q∧H q=some (.tup (ns.map V.int))
theorem Tps.mono {H H':Hp} {ws:List V} {l:List (List Int)} (s:Same H H') (h:Tps H ws l):Tps H' ws l:=Paired.mapP h fun _ _ ⟨q,e,z⟩=>⟨q,e,s _ _ z⟩
theorem Tps.snoc {H:Hp} {ws:List V} {l:List (List Int)} {q:Addr} {ns:List Int} (h:Tps H ws l) (hq:H q=some (.tup (ns.map V.int))):Tps H (ws++[.ref q]) (l++[ns]):=paired_snoc h ⟨q,rfl,hq⟩
theorem Tps.len {H:Hp} {ws:List V} {l:List (List Int)} (h:Tps H ws l):ws.length=l.length:=Paired.length h
end Hk
namespace Hk
open PySem L2
section
variable {P:Program} {w:World} {K:PySem.W.Frag} {mg:Str→Option Value} {base:Heap}
def allS:Nat→List (List Int)
 | 0=>[[]]
 | k + 1=>allS k++(allS k).map fun ns=>ns++[(k:Int)]
theorem allS_rise:∀ {k:Nat} {ns:List Int},ns∈allS k→Rise ns (k:Int)
 | 0,ns,h=>by
  have:ns=[]:=by simpa [allS] using h
  subst this
  exact ⟨fun n hn=>(nomatch hn),List.Pairwise.nil⟩
 | k + 1,ns,h=>by
  rcases List.mem_append.mp h with z | z
  ·exact (allS_rise z).mono (by omega)
  ·obtain ⟨r,hr,rfl⟩:=List.mem_map.mp z
   have:=(allS_rise hr).snoc (by omega)
   exact this.mono (by omega)
theorem allS_all:∀ {k:Nat} {ns:List Int},Rise ns (k:Int)→ns∈allS k
 | 0,ns,h=>by
  cases ns with
  | nil=>simp [allS]
  | cons n r =>
   have:=h.bd n (by simp)
   omega
 | k + 1,ns,h=>by
  rcases List.eq_nil_or_concat ns with rfl | ⟨r,n,rfl⟩
  ·exact List.mem_append.mpr (.inl (allS_all ⟨fun n hn=>(nomatch hn),List.Pairwise.nil⟩))
  ·rw [List.concat_eq_append] at h ⊢
   have hu:=List.pairwise_append.mp h.up
   have hb:=h.bd n (by simp)
   by_cases e:n=(k:Int)
   ·subst e
    refine List.mem_append.mpr (.inr (List.mem_map.mpr ⟨r,allS_all ⟨fun x hx=>⟨(h.bd x (by simp [hx])).1,hu.2.2 x hx _ (by simp)⟩,hu.1⟩,rfl⟩))
   ·refine List.mem_append.mpr (.inl (allS_all ⟨fun x hx=>⟨(h.bd x hx).1,?_⟩,h.up⟩))
    rcases List.mem_append.mp hx with z | z
    ·have:=hu.2.2 x z n (by simp)
     omega
    ·have:x=n:=by simpa using z
     omega
theorem allS_len:∀ k:Nat,(allS k).length=2 ^ k
 | 0=>rfl
 | k + 1=>by
  show (allS k++(allS k).map _).length=_
  rw [List.length_append,List.length_map,allS_len k,Nat.pow_succ]
  omega
theorem Tps.app {H:Hp} {ws zs:List V} {l r:List (List Int)} (h:Tps H ws l) (g:Tps H zs r):Tps H (ws++zs) (l++r):=by
 induction h with
 | nil=>exact g
 | cons a _ ih=>exact .cons a ih
def spSetsX:Sp:=fun vs H Q _=>∃ m:Int,vs=[.int m]∧0≤m∧m≤12∧∀ (l:Addr) (ws:List V) (H':Hp),Same H H'→H' l=some (.lst ws)→Tps H' ws (allS m.toNat)→Q (.ref l) H'
theorem kn_setsx (D:DefAt K mg "_law_all_sets" s_law_all_sets ["many"]) (fr:Free mg ["range"]):Kn P w K mg base 1 "_law_all_sets" ["many"] spSetsX:=by
 have sc:FnScope ["many","found","place"] ["many"] (defScope s_law_all_sets):=⟨rfl,rfl,rfl,by decide +kernel,rfl,by decide +kernel,by decide +kernel⟩
 refine D.kn (N:=["many","found","place"]) sc (fun vs H Q E h=>?_) (fun f cdv A outer s H vs Q E hr h=>?_)
 ·obtain ⟨m,rfl,_⟩:=h
  rfl
 ·obtain ⟨m,rfl,h0,h1,kk⟩:=h
  have m1:=fr "range" (by simp)
  have nd:(["some","place"]:List Str).Nodup:=by decide +kernel
  refine ⟨_,pss_cons (ps_set (i:=1) sc.nd rfl (Or.inl rfl) (pe_lst (pa_cons (pe_tup pa_nil) pa_nil)))
   (pss_cons (ps_for PassesOwn.never rfl (pi_range1 rfl m1 (pa_cons (pv 0) pa_nil)) (pg_name (i:=2) sc.nd rfl (Or.inr rfl))
    (pss_one (ps_set (i:=1) sc.nd rfl (Or.inl rfl) (pe_op op_cat (pv 1) (pe_lc (N:=["some","place"]) (src:=[none,some 2]) rfl ⟨rfl,rfl,rfl,rfl,⟨⟨rfl,rfl⟩,trivial⟩,rfl,rfl,rfl⟩ (gown_name (i:=0) rfl) (pi_list (pv 1))
     (fun C s H fp=>⟨pg_name (i:=0) nd rfl (Or.inl rfl),pifs_nil,pe_op op_cat2 (pv 0) (pe_tup (pa_cons (pv 1) pa_nil))⟩))))))
   (pss_one (ps_ret (pv 1)))),?_⟩
  refine ⟨(by show 0≤sizeLine; decide),fun b hb=>⟨(by show 1≤sizeLine; decide),fun c hc=>?_⟩⟩
  have s0:Same H _:=(Same.upd (o:=.tup []) hb).trans (Same.upd (o:=.lst [.ref b]) hc)
  refine ⟨_,rfl,m,rfl,by omega,by omega,for_range (fun i σ H2=>∃ (l:Addr) (ws:List V) (v2:Option V),σ=[some (.int m),some (.ref l),v2]∧Same H H2∧H2 l=some (.lst ws)∧Tps H2 ws (allS i))
   ⟨c,[.ref b],none,rfl,s0,upd_same,.cons ⟨b,rfl,Same.upd hc _ _ upd_same⟩ .nil⟩ ?_ ?_⟩
  ·rintro i σ H2 hi ⟨l,ws,v2,rfl,s2,hl,hw⟩
   have hz:=hw.len
   rw [allS_len] at hz
   have hz16:ws.length≤2048:=by
    rw [hz]
    exact Nat.pow_le_pow_right (by decide) (show i≤11 by omega)
   refine ⟨_,rfl,_,rfl,l,rfl,⟨_,SqL.of hl⟩,lc_list0 (xs:=ws) (fun j zs H'=>Same H2 H'∧Tps H' zs (((allS i).take j).map fun ns=>ns++[(i:Int)])) ⟨Same.refl _,.nil⟩ ?_ ?_ ?_⟩
   ·rintro j zs H' hj ⟨s3,hzs⟩
    have:=hzs.len
    rw [List.length_map,List.length_take] at this
    exact ⟨SqL.of (s3 _ _ hl),Nat.le_of_lt (smallN (by omega))⟩
   ·rintro zs H' ⟨s3,hzs⟩ l2 hl2
    have hzl:=hzs.len
    rw [List.length_map,List.length_take] at hzl
    refine ⟨l,l2,ws,zs,rfl,rfl,Same.upd hl2 _ _ (s3 _ _ hl),upd_same,Nat.le_of_lt (smallN (by omega)),fun l4 hl4=>?_⟩
    have s4:Same H' _:=(Same.upd (o:=.lst zs) hl2).trans (Same.upd (o:=.lst (ws++zs)) hl4)
    refine ⟨l4,_,_,rfl,(s2.trans s3).trans s4,upd_same,?_⟩
    rw [List.take_of_length_le (by rw [← hw.len]; exact Nat.le_refl _)] at hzs
    exact (hw.mono (s3.trans s4)).app (hzs.mono s4)
   ·rintro j x zs H' h2 hj ⟨s3,hzs⟩
    obtain ⟨ns,e1,p,rfl,hp⟩:=Paired.get' hw h2
    have r:=allS_rise (List.mem_of_getElem? e1)
    refine ⟨_,rfl,_,rfl,(by show 1≤sizeLine; decide),fun q hq=>?_⟩
    refine ⟨p,q,_,_,rfl,rfl,Same.upd hq _ _ (s3 _ _ hp),upd_same,?_,fun g H5 s5 hg=>nx hj ⟨(s3.trans (Same.upd hq)).trans s5,?_⟩⟩
    ·have:=r.len
     rw [List.length_map]
     show ns.length + 1≤sizeLine
     exact Nat.le_of_lt (small1000 (by omega))
    ·rw [take_snoc _ _ _ e1,List.map_append]
     refine Tps.snoc (hzs.mono ((Same.upd hq).trans s5)) ?_
     rw [hg,List.map_append,Int.zero_add]
     rfl
  ·rintro σ H2 ⟨l,ws,v2,rfl,s2,hl,hw⟩
   exact ⟨_,rfl,kk l ws H2 s2 hl hw⟩
end
end Hk
namespace Hk
open PySem L2
theorem mem_outs {bs:List Bool} {n:Int}:n∈outs bs↔∃ j:Nat,j < bs.length∧bs[j]?=some false∧n=(j:Int):=plw_mem
theorem allS_nodup:∀ k,(allS k).Nodup
 | 0=>List.pairwise_singleton _ _
 | k + 1=>by
  have ih:=allS_nodup k
  refine List.nodup_append.mpr ⟨ih,List.Pairwise.map _ (fun a b h e=>h (List.append_cancel_right e)) ih,?_⟩
  intro a ha b hb e
  obtain ⟨c,_,rfl⟩:=List.mem_map.mp hb
  have r:=allS_rise ha
  have:=r.bd (k:Int) (by rw [e]; simp)
  omega
theorem no_empty {m:Int} {ars:List (Int×Int)} (hm:1≤m) {ns:List Int} (h:faultB m ars ns=false):ns≠[]:=by
 rintro rfl
 unfold faultB at h
 rw [Bool.or_eq_false_iff] at h
 have h2:=List.any_eq_false.mp h.2
 have:=h2 0 (List.mem_map.mpr ⟨0,List.mem_range.mpr (by omega),rfl⟩)
 apply this
 unfold heldB
 have:(ars.any fun q=>decide (q.1=0) && decide (q.2∈([]:List Int)))=false:=by
  rw [List.any_eq_false]
  intro q _
  simp
 rw [this]
 rfl
structure HoldsUp (m:Int) (ars:List (Int×Int)) (T:List (List Int)):Prop where
 st:StcL T
 mem:∀ ns,ns∈T↔Rise ns m∧faultB m ars ns=false
theorem HoldsUp.of_sets {m:Int} {ars:List (Int×Int)} {T:List (List Int)} (hm:0≤m) (hp:T.Perm ((allS m.toNat).filter fun ns=>!faultB m ars ns)) (r:RisL T):HoldsUp m ars T:=by
 refine ⟨risL_strict r (hp.symm.nodup ((allS_nodup _).filter _)),fun ns=>hp.mem_iff.trans ?_⟩
 rw [List.mem_filter]
 have en:((m.toNat:Nat):Int)=m:=by omega
 constructor
 ·rintro ⟨a,b⟩
  exact ⟨by have:=allS_rise a; rw [en] at this; exact this,by simpa using b⟩
 ·rintro ⟨a,b⟩
  exact ⟨allS_all (by rw [en]; exact a),by rw [b]; rfl⟩
end Hk
namespace Hk
open PySem L2 PySem.W
section
variable {P:Program} {w:World} {K:Frag} {mg:Str→Option Value} {base:Heap}
def spAH:Sp:=fun vs H Q _=>∃ (a t:Addr) (m:Int) (us:List V) (ars:List (Int×Int)),vs=[.ref a]∧Web H a t m us ars∧GoodA m ars∧1≤m∧m≤12 ∧
 ∀ (D:Addr) (ws:List V) (T:List (List Int)) (H':Hp),Same H H'→H D=none→H' D=some (.lst ws)→Tpi H' ws T→HoldsUp m ars T→ws.length≤4096→Q (.ref D) H'
theorem tpi_mono {H H':Hp} {ws:List V} {nss:List (List Int)} (h:Tpi H ws nss) (s:Same H H'):Tpi H' ws nss:=Paired.mapP h fun _ _ ⟨p,e,z⟩=>⟨p,e,s _ _ z⟩
theorem kn_lholds (D:DefAt K mg "_law_holds_of" s_law_holds_of ["web"]) (fr:Free mg ["sorted"]) (ks:Kn P w K mg base 1 "_law_all_sets" ["many"] spSetsX) (kf:Kn P w K mg base 2 "_law_fault" ["web","places"] spFault):Kn P w K mg base 3 "_law_holds_of" ["web"] spAH:=by
 have sc:FnScope ["web"] ["web"] (defScope s_law_holds_of):=⟨rfl,rfl,rfl,by decide +kernel,rfl,by decide +kernel,by decide +kernel⟩
 refine D.kn (N:=["web"]) sc (fun vs H Q E h=>?_) (fun f cdv A outer s H vs Q E hr h=>?_)
 ·obtain ⟨a,t,m,us,ars,rfl,_⟩:=h
  rfl
 ·obtain ⟨a,t,m,us,ars,rfl,W,ga,mm1,m12,kk⟩:=h
  have m1:=fr "sorted" (by simp)
  have r1:=hr.mono (j:=1) (by decide)
  have nd:(["some","web"]:List Str).Nodup:=by decide +kernel
  refine ⟨_,(pss_one (ps_ret (pe_callB call_sorted_tps rfl m1 boot_fsorted (pa_cons (pe_lc (N:=["some","web"]) (src:=[none,some 0]) rfl ⟨rfl,rfl,rfl,rfl,⟨⟨rfl,rfl⟩,trivial⟩,rfl,rfl,rfl⟩ (gown_name (i:=0) rfl) (pi_list (pe_kn ks r1 (pa_cons (pe_ix ix_tup (pv 0) pe_int (fun _ _=>rfl)) pa_nil))) (fun C s H fp=>⟨(pg_name (i:=0) nd rfl (Or.inl rfl)),(pifs_one (pt_cmpR op_isN (pe_kn kf hr (pa_cons (pv 1) (pa_cons (pv 0) pa_nil))) pe_non (nomark _))),(pv 0)⟩)) pa_nil)))),?_⟩
  refine ⟨_,rfl,a,_,_,_,rfl,rfl,SqT.of W.top,rfl,m,rfl,by omega,m12,fun l ws H1 s1 hl tp=>?_⟩
  have lw:ws.length=(allS m.toNat).length:=Paired.length tp
  have l4:ws.length≤4096:=by
   rw [lw,allS_len]
   exact Nat.le_trans (Nat.pow_le_pow_right (by decide) (show m.toNat≤12 by omega)) (by decide)
  refine ⟨l,rfl,⟨_,SqL.of hl⟩,lc_list (xs:=ws) (fun j zs H2=>Same H1 H2∧Tpi H2 zs (((allS m.toNat).take j).filter fun ns=>!faultB m ars ns)) ⟨Same.refl _,.nil⟩ ?_ ?_ ?_⟩
  ·rintro j zs H2 hj ⟨s2,tz⟩
   have e1:=Paired.length tz
   have e2:=List.length_filter_le (fun ns=>!faultB m ars ns) ((allS m.toNat).take j)
   rw [List.length_take] at e2
   exact ⟨SqL.of (s2 _ _ hl),Nat.le_of_lt (smallN (by omega))⟩
  ·rintro zs H2 ⟨s2,tz⟩ l2 hl2
   rw [lw,List.take_of_length_le (Nat.le_refl _)] at tz
   have lz:zs.length≤4096:=by
    have e1:=Paired.length tz
    have e2:=List.length_filter_le (fun ns=>!faultB m ars ns) (allS m.toNat)
    omega
   have s3:=s1.trans (s2.trans (Same.upd (o:=.lst zs) hl2))
   refine ⟨l2,zs,_,rfl,upd_same,tpi_mono tz (Same.upd hl2),fun q hq=>no_empty mm1 (by have:=(List.mem_filter.mp hq).2; simpa using this),by omega,fun D' ws' T H4 s4 hD0 hD tp' pm ris=>?_⟩
   have lws:ws'.length≤4096:=by
    have e1:=Paired.length tp'
    have e2:=pm.length_eq
    have e3:=Paired.length tz
    omega
   exact kk D' ws' T H4 (s3.trans s4) (s3.free hD0) hD tp' (HoldsUp.of_sets (by omega) pm ris) lws
  ·rintro j x zs H2 hx hj ⟨s2,tz⟩
   obtain ⟨ns,e1,p,rfl,hp⟩:=Paired.get' tp hx
   have fs:=filter_snoc (fun ns=>!faultB m ars ns) (allS m.toNat) j ns e1
   refine ⟨_,rfl,_,rfl,a,t,m,us,ars,p,ns,rfl,W.mono (s1.trans s2),s2 _ _ hp,fun v H3 s3 hv=>?_⟩
   by_cases hf:faultB m ars ns=true
   ·rw [if_pos hf] at hv
    obtain ⟨q,rfl⟩:=hv
    refine ⟨rfl,_,rfl,iteF (nx hj ⟨s2.trans s3,?_⟩)⟩
    rw [if_neg (by rw [hf]; decide),List.append_nil] at fs
    rw [fs]
    exact tpi_mono tz s3
   ·rw [if_neg hf] at hv
    subst hv
    refine ⟨rfl,_,rfl,iteT ⟨_,rfl,nx hj ⟨s2.trans s3,?_⟩⟩⟩
    rw [if_pos (by rw [Bool.eq_false_iff.mpr hf]; rfl)] at fs
    rw [fs]
    exact Paired.snoc (tpi_mono tz s3) ⟨p,rfl,(s2.trans s3) _ _ hp⟩
end
end Hk
namespace L2
open PySem PySem.Calls PySem.Spec PyProof.Rows
theorem call_sorted_prs1 {X:Cx} (hc:X.calm=true):CallR X (.builtin "sorted") (fun xs H Q=>∃ (d:Addr) (kvs:List (List Key×V)) (prs:List (Int×Int)),xs=[.ref d]∧H d=some (.dT kvs)∧kvs.map (·.1)=prs.map prKey∧kvs.length≤1000 ∧
  ∀ (D:Addr) (ws:List V) (prs':List (Int×Int)) (H':Hp),Same H H'→H' D=some (.lst ws)→Ars H' ws prs'→prs'.Perm prs→Q (.ref D) H') :=
 fun pins s σ H xs us Q I r ⟨d,kvs,prs,e1,e2,e3,e4,q⟩=>call_sorted_prsDS hc pins s σ H xs us Q I r ⟨d,kvs,prs,e1,e2,e3,e4,fun D ws prs' H' z1 z2 z3 z4 _ _=>q D ws prs' H' z1 z2 z3 z4⟩
end L2
namespace Hk
open PySem L2
section
variable {P:Program} {w:World} {K:PySem.W.Frag} {mg:Str→Option Value} {base:Heap}
theorem kn_webby (D:DefAt K mg "_law_web_by" s_law_web_by ["pen","most"]) (fr:Free mg ["range","tuple","sorted"]) (kd:Kn P w K mg base 2 "_law_draw" ["pen","many"] spDraw):Kn P w K mg base 3 "_law_web_by" ["pen","most"] spWebBy:=by
 have sc:FnScope ["pen","most","many","way","arrows","place","turn","a","b"] ["pen","most"] (defScope s_law_web_by):=⟨rfl,rfl,rfl,by decide +kernel,rfl,by decide +kernel,by decide +kernel⟩
 refine D.kn (N:=["pen","most","many","way","arrows","place","turn","a","b"]) sc (fun vs H Q E h=>?_) (fun f cdv A outer s H vs Q E hr h=>?_)
 ·obtain ⟨p,m,rfl,_⟩:=h
  rfl
 ·obtain ⟨p,most,rfl,hp,h1,h2,kk⟩:=h
  have hu:=hu_of hr
  have m1:=fr "range" (by simp)
  have m2:=fr "tuple" (by simp)
  have m3:=fr "sorted" (by simp)
  refine ⟨_,pss_cons (ps_set (i:=2) sc.nd rfl (Or.inl rfl) (pe_op op_add pe_int (pe_kn kd hr (pa_cons (pv 0) (pa_cons (pv 1) pa_nil)))))
   (pss_cons (ps_set (i:=3) sc.nd rfl (Or.inl rfl) (pe_kn kd hr (pa_cons (pv 0) (pa_cons pe_int pa_nil))))
   (pss_cons (ps_set (i:=4) sc.nd rfl (Or.inl rfl) pe_dnewT)
   (pss_cons (ps_if (pt_cmpR op_eq (pv 3) pe_int (nomark _)) (pss_one (ps_for PassesOwn.never rfl (pi_range1 rfl m1 (pa_cons (pv 2) pa_nil)) (pg_name (i:=5) sc.nd rfl (Or.inl rfl))
     (pss_one (ps_if (pt_cmpR op_gt (pv 2) pe_int (nomark _)) (pss_one (ps_dput hu (pv 4) (pe_tup (pa_cons (pv 5) (pa_cons (pe_op op_mod (pe_op op_add (pv 5) pe_int) (pv 2)) pa_nil))) pe_bl rfl)) pss_nil)))) pss_nil)
   (pss_cons (ps_for PassesOwn.never rfl (pi_range1 rfl m1 (pa_cons (pe_ix ix_list (pe_lst (pa_cons (pe_op op_fdiv (pv 2) pe_int) (pa_cons (pv 2) (pa_cons (pv 2) (pa_cons (pe_op op_mul pe_int (pv 2)) (pa_cons (pe_op op_mul pe_int (pv 2)) (pa_cons (pv 2) pa_nil))))))) (pv 3) (fun _ _=>rfl)) pa_nil)) (pg_name (i:=6) sc.nd rfl (Or.inl rfl))
    (pss_cons (ps_set (i:=7) sc.nd rfl (Or.inl rfl) (pe_kn kd hr (pa_cons (pv 0) (pa_cons (pv 2) pa_nil))))
    (pss_cons (ps_set (i:=8) sc.nd rfl (Or.inl rfl) (pe_kn kd hr (pa_cons (pv 0) (pa_cons (pv 2) pa_nil))))
    (pss_cons (ps_if (PW.pt (pw_and (pt_cmpR op_eq (pv 3) pe_int (nomark _)) (pw_and1 (pt_cmpR op_lt (pv 7) (pv 8) (nomark _))))) (pss_one (ps_par (i:=7) (j:=8) rfl sc.nd rfl rfl (by decide) rfl rfl (pa_cons (pv 8) (pa_cons (pv 7) pa_nil)) rfl)) pss_nil)
    (pss_one (ps_if (pt_cmpR op_ne (pv 7) (pv 8) (nomark _)) (pss_one (ps_dput hu (pv 4) (pe_tup (pa_cons (pv 7) (pa_cons (pv 8) pa_nil))) pe_bl rfl)) pss_nil))))))
   (pss_one (ps_ret (pe_tup (pa_cons (pv 2) (pa_cons (pe_callTy call_tuple_of rfl m2 boot_ttuple (pa_cons (pe_slice sl_list (pe_callB (call_sorted_prs1 rfl) rfl m3 boot_fsorted (pa_cons (pv 4) pa_nil)) po_none (po_some pe_int)) pa_nil)) pa_nil))))))))),?_⟩
  refine ⟨_,rfl,_,rfl,p,most,rfl,hp,by omega,by omega,fun r H1 r0 r1 s1 hp1=>?_⟩
  refine ⟨_,_,rfl,rfl,?_⟩
  refine ⟨_,rfl,p,6,rfl,hp1,by decide,by decide,fun way H2 w0 w1 s2 hp2=>?_⟩
  intro d hd
  have hm1:1≤1 + r∧1 + r≤40∧1 + r≤most:=by omega
  generalize hm:1 + r=m at hm1
  refine gname_in ?_
  dsimp only
  refine seq_inv (a:=tIfS _ _ _) (fun σ H3=>∃ (v5:Option V) (n0:Nat),σ=[some (.ref p),some (.int most),some (.int m),some (.int way),some (.ref d),v5,none,none,none]∧SameBut p H2 H3∧PenAt H3 p∧DT H3 d m n0∧n0≤(if way=0 then 40 else 0)) (fun D' hk=>?_) ?_
  ·rw [hm]
   have z0:SameBut p H2 (upd H2 d (.dT [])):=(Same.upd hd).but
   have pd:p≠d:=by
    obtain ⟨_,_,_,e⟩:=hp2
    exact ne_of_none e hd
   have z1:PenAt (upd H2 d (.dT [])) p:=by
    obtain ⟨a,b,c,e⟩:=hp2
    exact ⟨a,b,c,by rw [upd_ne pd]; exact e⟩
   have z2:DT (upd H2 d (.dT [])) d m 0:=⟨[],[],upd_same,rfl,fun q hq=>(nomatch hq),Nat.le_refl _⟩
   refine ⟨_,rfl,rfl,_,rfl,ite2 (fun hw=>?_) (fun hw=>?_)⟩
   ·have hw':way=0:=by
     have:=of_decide_eq_true hw
     exact V.int.inj this
    refine ⟨_,rfl,m,rfl,by omega,by omega,for_range (fun i σ H3=>∃ (v5:Option V),σ=[some (.ref p),some (.int most),some (.int m),some (.int way),some (.ref d),v5,none,none,none]∧SameBut p H2 H3∧PenAt H3 p∧DT H3 d m i) ?_ ?_ ?_⟩
    ·exact ⟨none,rfl,z0,z1,z2⟩
    ·rintro i σ H3 hi ⟨v5,rfl,s3,hp3,hd3⟩
     refine ⟨_,rfl,_,_,rfl,rfl,_,rfl,ite2 (fun hg=>?_) (fun hg=>?_)⟩
     ·have hg':1 < m:=of_decide_eq_true hg
      refine ⟨_,rfl,_,rfl,_,rfl,_,_,rfl,rfl,_,rfl,_,_,rfl,rfl,(by show (0:Int) < m; omega),(by show 2≤sizeLine; decide),fun b hb=>?_⟩
      have b1:(0 + (i:Int) + 1) % m < m:=Int.emod_lt_of_pos _ (by omega)
      have b2:0≤(0 + (i:Int) + 1) % m:=Int.emod_nonneg _ (by omega)
      have b3:(0 + (i:Int))≠(0 + (i:Int) + 1) % m:=by
       by_cases h:(i:Int) + 1 < m
       ·rw [Int.emod_eq_of_lt (by omega) (by omega)]
        omega
       ·have:(0 + (i:Int) + 1)=m:=by omega
        rw [this,Int.emod_self]
        omega
      obtain ⟨H4,g1,g2,g3⟩:=hd3.put hb (by omega) (x:=0 + i) (y:=(0 + i + 1) % m) ⟨by omega,by omega,b2,b1,b3⟩ (.bl true)
      refine ⟨d,H4,rfl,g1,_,rfl,?_,?_,g2⟩
      ·intro c o hc e
       by_cases hcd:c=d
       ·subst hcd
        rw [hd] at e
        cases e
       ·exact g3 c o hcd (s3 c o hc e)
      ·obtain ⟨x,y,z,e⟩:=hp3
       exact ⟨x,y,z,g3 _ _ pd e⟩
     ·exact ⟨_,rfl,s3,hp3,hd3.mono (Nat.le_succ _)⟩
    ·rintro σ H3 ⟨v5,rfl,s3,hp3,hd3⟩
     exact hk _ _ ⟨v5,m.toNat,rfl,s3,hp3,hd3,by rw [if_pos hw']; omega⟩
   ·exact hk _ _ ⟨none,0,rfl,z0,z1,z2,Nat.zero_le _⟩
  ·rintro σ H3 ⟨v5,n0,rfl,s3,hp3,hd3,hn⟩
   have pd:p≠d:=by
    obtain ⟨_,_,_,e⟩:=hp2
    exact ne_of_none e hd
   refine ⟨_,rfl,_,_,rfl,rfl,⟨by decide,by decide⟩,_,rfl,_,rfl,_,rfl,_,_,rfl,rfl,.inl ⟨by decide,by decide⟩,_,rfl,_,_,rfl,rfl,.inl ⟨by decide,by decide⟩,_,rfl,(by show 6≤sizeLine; decide),fun l hl=>?_⟩
   have ix:∃ k:Int,atI [V.int (m / 2),V.int m,V.int m,V.int (2 * m),V.int (3 * m),V.int m] way=some (V.int k)∧0≤k∧n0 + k.toNat≤130:=by
    have hw:way=0∨way=1∨way=2∨way=3∨way=4∨way=5:=by omega
    rcases hw with rfl | rfl | rfl | rfl | rfl | rfl
    ·rw [if_pos rfl] at hn
     exact ⟨m / 2,rfl,by omega,by omega⟩
    all_goals rw [if_neg (by decide)] at hn
    ·exact ⟨m,rfl,by omega,by omega⟩
    ·exact ⟨m,rfl,by omega,by omega⟩
    ·exact ⟨2 * m,rfl,by omega,by omega⟩
    ·exact ⟨3 * m,rfl,by omega,by omega⟩
    ·exact ⟨m,rfl,by omega,by omega⟩
   obtain ⟨k,hk1,hk2,hk3⟩:=ix
   have z0:SameBut p H2 (upd H3 l (.lst [V.int (m / 2),V.int m,V.int m,V.int (2 * m),V.int (3 * m),V.int m])):=s3.trans (Same.upd hl).but
   have z1:PenAt (upd H3 l (.lst [V.int (m / 2),V.int m,V.int m,V.int (2 * m),V.int (3 * m),V.int m])) p:=by
    obtain ⟨a,b,c,e⟩:=hp3
    exact ⟨a,b,c,Same.upd hl _ _ e⟩
   have z2:DT (upd H3 l (.lst [V.int (m / 2),V.int m,V.int m,V.int (2 * m),V.int (3 * m),V.int m])) d m (n0 + 0):=hd3.keep hp3 (Same.upd hl).but
   refine ⟨_,rfl,l,_,way,_,rfl,rfl,SqL.of upd_same,hk1,k,rfl,by omega,by omega,for_range (fun i σ H4=>∃ v6 v7 v8:Option V,σ=[some (.ref p),some (.int most),some (.int m),some (.int way),some (.ref d),v5,v6,v7,v8]∧SameBut p H2 H4∧PenAt H4 p∧DT H4 d m (n0 + i)) ⟨none,none,none,rfl,z0,z1,z2⟩ ?_ ?_⟩
   ·rintro i σ H4 hi ⟨v6,v7,v8,rfl,s4,hp4,hd4⟩
    refine ⟨_,rfl,_,rfl,p,m,rfl,hp4,by omega,by omega,fun a H5 a0 a1 s5 hp5=>?_⟩
    refine ⟨_,rfl,_,rfl,p,m,rfl,hp5,by omega,by omega,fun b H6 b0 b1 s6 hp6=>?_⟩
    refine gname_in ?_
    dsimp only
    have s46:=s5.trans s6
    refine seq_inv (a:=tIfS _ _ _) (fun σ H7=>H7=H6∧∃ (x y:Int),σ=[some (.ref p),some (.int most),some (.int m),some (.int way),some (.ref d),v5,some (.int (0 + i)),some (.int x),some (.int y)]∧0≤x∧x < m∧0≤y∧y < m) (fun D' hk=>?_) ?_
    ·refine ⟨_,rfl,rfl,_,rfl,ite2 (fun hg=>?_) (fun hg=>?_)⟩
     ·refine ⟨_,rfl,_,rfl,_,_,rfl,rfl,_,rfl,ite2 (fun hh=>?_) (fun hh=>?_)⟩
      ·exact ⟨_,rfl,_,rfl,_,_,rfl,hk _ _ ⟨rfl,b,a,rfl,b0,b1,a0,a1⟩⟩
      ·exact hk _ _ ⟨rfl,a,b,rfl,a0,a1,b0,b1⟩
     ·exact hk _ _ ⟨rfl,a,b,rfl,a0,a1,b0,b1⟩
    ·rintro σ H7 ⟨rfl,x,y,rfl,x0,x1,y0,y1⟩
     have hd6:=hd4.keep hp4 s46
     refine ⟨_,rfl,_,rfl,rfl,_,rfl,ite2 (fun hg=>?_) (fun hg=>?_)⟩
     ·have hxy:x≠y:=by
       intro z
       subst z
       simp at hg
      refine ⟨_,rfl,_,rfl,_,rfl,(by show 2≤sizeLine; decide),fun c hc=>?_⟩
      obtain ⟨H8,g1,g2,g3⟩:=hd6.put hc (by omega) (x:=x) (y:=y) ⟨x0,x1,y0,y1,hxy⟩ (.bl true)
      refine ⟨d,H8,rfl,g1,_,_,_,rfl,?_,?_,g2⟩
      ·intro e o he ee
       by_cases hed:e=d
       ·subst hed
        rw [hd] at ee
        cases ee
       ·exact g3 e o hed ((s4.trans s46) e o he ee)
      ·obtain ⟨x,y,z,e⟩:=hp6
       exact ⟨x,y,z,g3 _ _ pd e⟩
     ·exact ⟨_,_,_,rfl,s4.trans s46,hp6,hd6.mono (Nat.le_succ _)⟩
   ·rintro σ H4 ⟨v6,v7,v8,rfl,s4,hp4,hd4⟩
    obtain ⟨kvs,prs,e1,e2,e3,e4⟩:=hd4
    refine ⟨_,rfl,_,rfl,d,kvs,prs,rfl,e1,e2,by omega,fun L ws prs' H5 s5 hL ha hpm=>?_⟩
    have lw:ws.length≤130:=by
     have q1:=arsLen ha
     have q2:=hpm.length_eq
     have q3:kvs.length=prs.length:=by
      have:=congrArg List.length e2
      rwa [List.length_map,List.length_map] at this
     omega
    refine ⟨200,rfl,L,ws,rfl,SqL.of hL,fun q hq=>?_⟩
    rw [cut200 (by omega)]
    refine ⟨q,_,rfl,.inl ⟨SqL.of upd_same,fun t ht=>⟨(by show 2≤sizeLine; decide),fun g hg=>?_⟩⟩⟩
    have s6:Same H5 _:=((Same.upd (o:=.lst ws) hq).trans (Same.upd (o:=.tup ws) ht)).trans (Same.upd (o:=.tup [.int m,.ref t]) hg)
    refine kk g t m ws prs' _ (((s1.trans s2).trans s4).trans (s5.trans s6).but) ?_ ⟨upd_same,?_,ha.mono s6,by omega,by omega,by omega⟩ (by omega) (by omega) fun z hz=>e3 z (hpm.mem_iff.mp hz)
    ·obtain ⟨x,y,z,e⟩:=hp4
     exact ⟨x,y,z,s6 _ _ (s5 _ _ e)⟩
    ·exact Same.upd hg _ _ upd_same
end
end Hk
namespace Hk
open PySem L2 PySem.W
section
variable {P:Program} {w:World} {K:Frag} {mg:Str→Option Value} {base:Heap}
def spSmall:Sp:=fun vs H Q _=>∃ (p:Addr),vs=[.ref p]∧PenAt H p∧∀ (a t:Addr) (m:Int) (us:List V) (ars:List (Int×Int)) (H':Hp),SameBut p H H'→PenAt H' p→Web H' a t m us ars→1≤m→m≤12→GoodA m ars→Q (.ref a) H'
structure ArrL (H:Hp) (l:Addr) (m:Int) (n:Nat):Prop where
 ex:∃ (ws:List V) (ars:List (Int×Int)),H l=some (.lst ws)∧Ars H ws ars∧GoodA m ars∧ws.length≤n
theorem ArrL.keep {H H':Hp} {l p:Addr} {m:Int} {n:Nat} (h:ArrL H l m n) (hp:PenAt H p) (nl:l≠p) (s:SameBut p H H'):ArrL H' l m n:=by
 obtain ⟨ws,ars,e,ar,g,hl⟩:=h.ex
 exact ⟨ws,ars,s _ _ nl e,Paired.mapP ar fun _ _ ⟨q,e,z⟩=>⟨q,e,s _ _ (pen_tup hp z) z⟩,g,hl⟩
theorem ars_app2 {H:Hp} {ws zs:List V} {l r:List (Int×Int)} (h:Ars H ws l) (g:Ars H zs r):Ars H (ws++zs) (l++r):=by
 induction h with
 | nil=>exact g
 | cons a _ ih=>exact .cons a ih
theorem SameBut.fresh {p l:Addr} {H H':Hp} (s:SameBut p H H') (n:l≠p) (h:H' l=none):H l=none:=by
 cases e:H l with
 | none=>rfl
 | some o=>rw [s _ _ n e] at h; cases h
theorem goodA_app {m:Int} {x y:List (Int×Int)} (h:GoodA m x) (g:GoodA m y):GoodA m (x++y):=fun q hq=>(List.mem_append.mp hq).elim (h q) (g q)
theorem goodA_perm {m:Int} {x y:List (Int×Int)} (h:GoodA m x) (p:y.Perm x):GoodA m y:=fun q hq=>h q (p.mem_iff.mp hq)
theorem goodA_mono {m k:Int} {x:List (Int×Int)} (h:GoodA m x) (hk:m≤k):GoodA k x:=fun q hq=>by have:=h q hq; omega
theorem goodA_one {m x y:Int} (h:0≤x∧x < m∧0≤y∧y < m∧x≠y):GoodA m [(x,y)]:=fun q hq=>by
 rw [List.mem_singleton.mp hq]
 exact h
theorem kn_small (D:DefAt K mg "_law_small_web" s_law_small_web ["pen"]) (fr:Free mg ["range","tuple","sorted"]) (kd:Kn P w K mg base 2 "_law_draw" ["pen","many"] spDraw) (kb:Kn P w K mg base 3 "_law_web_by" ["pen","most"] spWebBy):Kn P w K mg base 4 "_law_small_web" ["pen"] spSmall:=by
 have sc:FnScope ["pen","way","arrows","many","place","more"] ["pen"] (defScope s_law_small_web):=⟨rfl,rfl,rfl,by decide +kernel,rfl,by decide +kernel,by decide +kernel⟩
 refine D.kn (N:=["pen","way","arrows","many","place","more"]) sc (fun vs H Q E h=>?_) (fun f cdv A outer s H vs Q E hr h=>?_)
 ·obtain ⟨p,rfl,_⟩:=h
  rfl
 ·obtain ⟨p,rfl,hp,kk⟩:=h
  have m1:=fr "range" (by simp)
  have m2:=fr "tuple" (by simp)
  have m3:=fr "sorted" (by simp)
  have r2:=hr.mono (j:=2) (by decide)
  have nd:(["place","many"]:List Str).Nodup:=by decide +kernel
  have c0:0≤sizeLine:=by decide
  have c2:2≤sizeLine:=by decide
  have c3:3≤sizeLine:=by decide
  refine ⟨_,(pss_cons (ps_set (i:=1) sc.nd rfl (Or.inl rfl) (pe_kn kd r2 (pa_cons (pv 0) (pa_cons pe_int pa_nil)))) (pss_cons (ps_if (pt_cmpR op_eq (pv 1) pe_int (nomark _)) (pss_cons (ps_set (i:=2) sc.nd rfl (Or.inl rfl) (pe_lst pa_nil)) (pss_cons (ps_set (i:=3) sc.nd rfl (Or.inr rfl) (pe_op op_mul pe_int (pe_op op_add pe_int (pe_kn kd r2 (pa_cons (pv 0) (pa_cons pe_int pa_nil)))))) (pss_cons (ps_for PassesOwn.never rfl (pi_range3 rfl m1 (pa_cons pe_int (pa_cons (pv 3) (pa_cons pe_int pa_nil)))) (pg_name (i:=4) sc.nd rfl (Or.inl rfl)) (pss_cons (ps_set (i:=2) sc.nd rfl (Or.inl rfl) (pe_op op_cat (pv 2) (pe_lst (pa_cons (pe_tup (pa_cons (pv 4) (pa_cons (pe_op op_add (pv 4) pe_int) pa_nil))) (pa_cons (pe_tup (pa_cons (pe_op op_add (pv 4) pe_int) (pa_cons (pv 4) pa_nil))) pa_nil))))) (pss_one (ps_if (PW.pt (pw_and (pt_cmpR op_gt (pv 4) pe_int (nomark _)) (pw_and1 (pt_cmpR op_eq (pe_kn kd r2 (pa_cons (pv 0) (pa_cons pe_int pa_nil))) pe_int (nomark _))))) (pss_one (ps_expr (pe_bm PySem.F.plainAttrs_list PySem.F.slot_list_append PySem.F.type_list_append mt_append (pv 2) (pa_cons (pe_tup (pa_cons (pv 4) (pa_cons (pe_kn kd r2 (pa_cons (pv 0) (pa_cons (pv 4) pa_nil))) pa_nil))) pa_nil)))) pss_nil)))) (pss_one (ps_ret (pe_tup (pa_cons (pv 3) (pa_cons (pe_callTy call_tuple_of rfl m2 boot_ttuple (pa_cons (pe_callB call_sorted_prsS rfl m3 boot_fsorted (pa_cons (pv 2) pa_nil)) pa_nil)) pa_nil)))))))) pss_nil) (pss_cons (ps_if (pt_cmpR op_eq (pv 1) pe_int (nomark _)) (pss_cons (ps_set (i:=3) sc.nd rfl (Or.inr rfl) (pe_ix ix_list (pe_lst (pa_cons pe_int (pa_cons pe_int (pa_cons pe_int pa_nil)))) (pe_kn kd r2 (pa_cons (pv 0) (pa_cons pe_int pa_nil))) (fun _ _=>rfl))) (pss_cons (ps_setlc (i:=2) (N:=["place","many"]) (src:=[none,some 3]) sc.nd rfl rfl rfl rfl ⟨rfl,rfl,rfl,rfl,⟨⟨rfl,rfl⟩,trivial⟩,rfl,rfl,rfl⟩ (gown_name (i:=0) rfl) (pi_range1 rfl m1 (pa_cons (pv 3) pa_nil)) (fun C s H fp=>⟨(pg_name (i:=0) nd rfl (Or.inl rfl)),pifs_nil,(pe_tup (pa_cons (pv 0) (pa_cons (pe_op op_mod (pe_op op_add (pv 0) pe_int) (pv 1)) pa_nil)))⟩)) (pss_cons (ps_set (i:=5) sc.nd rfl (Or.inl rfl) (pe_kn kd r2 (pa_cons (pv 0) (pa_cons pe_int pa_nil)))) (pss_cons (ps_for PassesOwn.never rfl (pi_range2 rfl m1 (pa_cons (pv 3) (pa_cons (pe_op op_add (pv 3) (pv 5)) pa_nil))) (pg_name (i:=4) sc.nd rfl (Or.inl rfl)) (pss_one (ps_expr (pe_bm PySem.F.plainAttrs_list PySem.F.slot_list_append PySem.F.type_list_append mt_append (pv 2) (pa_cons (pe_tup (pa_cons (pv 4) (pa_cons (pe_kn kd r2 (pa_cons (pv 0) (pa_cons (pv 4) pa_nil))) pa_nil))) pa_nil))))) (pss_one (ps_ret (pe_tup (pa_cons (pe_op op_add (pv 3) (pv 5)) (pa_cons (pe_callTy call_tuple_of rfl m2 boot_ttuple (pa_cons (pe_callB call_sorted_prsS rfl m3 boot_fsorted (pa_cons (pv 2) pa_nil)) pa_nil)) pa_nil))))))))) pss_nil) (pss_one (ps_ret (pe_kn kb hr (pa_cons (pv 0) (pa_cons pe_int pa_nil)))))))),?_⟩
  -- the end: a web of the arrows in a list
  have fin:∀ {HE:Hp} {l:Addr} {m:Int},SameBut p H HE→PenAt HE p→ArrL HE l m 900→1≤m→m≤12→∀ (D':Addr) (ws':List V) (prs':List (Int×Int)) (H':Hp),Same HE H'→H' D'=some (.lst ws')→Ars H' ws' prs'→GoodA m prs'→ws'.length≤900→∀ t',H' t'=none→∀ a',upd H' t' (.tup ws') a'=none→Q (.ref a') (upd (upd H' t' (.tup ws')) a' (.tup [.int m,.ref t'])):=fun {HE l m} sE hpE _ mm1 m12 D' ws' prs' H' s' hD ar ga lw t' ht' a' ha'=>by
   have s5:=(Same.upd (o:=.tup ws') ht').trans (Same.upd (o:=.tup [.int m,.ref t']) ha')
   exact kk a' t' m ws' prs' _ (sE.trans (s'.trans s5).but) (PenAt.mono (s'.trans s5) hpE) ⟨upd_same,Same.upd ha' _ _ upd_same,ar.mono s5,by omega,by omega⟩ mm1 m12 ga
  refine ⟨_,rfl,p,4,rfl,hp,by decide,by decide,fun way H1 w0 w4 s1 hp1=>?_⟩
  refine gname_in ?_
  dsimp only
  refine ⟨_,rfl,rfl,_,rfl,ite2 (fun c=>?_) (fun c=>?_)⟩
  ·-- tied both ways
   refine ⟨c0,fun l0 hl0=>?_⟩
   have t1:=Same.upd (o:=.lst []) hl0
   refine gname_in ?_
   dsimp only
   refine ⟨_,rfl,p,4,rfl,PenAt.mono t1 hp1,by decide,by decide,fun x H2 x0 x4 s2 hp2=>⟨_,_,rfl,rfl,_,_,rfl,rfl,(.inl ⟨by decide,by decide⟩),?_⟩⟩
   have s12:=s1.trans (t1.but.trans s2)
   have nl0:l0≠p:=newp hp1 hl0
   have a0:ArrL H2 l0 (2 * (1 + x)) 0:=⟨[],[],s2 _ _ nl0 upd_same,.nil,fun q hq=>(nomatch hq),Nat.le_refl _⟩
   refine gname_in ?_
   dsimp only
   refine ⟨_,rfl,2 * (1 + x),(1 + x).toNat,rfl,by omega,by omega,by omega,for_range2 (fun i σ H'=>∃ (l:Addr) (v4:Option V),σ=[some (.ref p),some (.int way),some (.ref l),some (.int (2 * (1 + x))),v4,none]∧SameBut p H H'∧PenAt H' p∧l≠p∧H l=none∧ArrL H' l (2 * (1 + x)) (3 * i)) ⟨l0,_,rfl,s12,hp2,nl0,SameBut.fresh s1 nl0 hl0,a0⟩ ?_ ?_⟩
   ·rintro i σ H' hi ⟨l,v4,rfl,s',hp',nl,hln,al⟩
    have hm:2 * (i:Int) + 1 < 2 * (1 + x):=by omega
    have i4:i < 4:=by omega
    obtain ⟨ws,ars,e,ar,ga,lw⟩:=al.ex
    refine ⟨_,rfl,_,rfl,_,rfl,_,_,rfl,rfl,c2,fun b1 hb1=>⟨_,rfl,_,_,rfl,rfl,_,rfl,c2,fun b2 hb2=>⟨c2,fun l2 hl2=>?_⟩⟩⟩
    have q1:=Same.upd (o:=.tup [.int (2 * (i:Int)),.int (2 * (i:Int) + 1)]) hb1
    have q2:=Same.upd (o:=.tup [.int (2 * (i:Int) + 1),.int (2 * (i:Int))]) hb2
    have q3:=Same.upd (o:=.lst [.ref b1,.ref b2]) hl2
    refine ⟨l,l2,ws,[.ref b1,.ref b2],rfl,rfl,(q1.trans (q2.trans q3)) _ _ e,upd_same,Nat.le_of_lt (smallN (by show ws.length + 2≤_; omega)),fun l3 hl3=>?_⟩
    have q4:=Same.upd (o:=.lst (ws++[.ref b1,.ref b2])) hl3
    have qq:=q1.trans (q2.trans (q3.trans q4))
    have hp4:=PenAt.mono qq hp'
    have nl3:l3≠p:=newp (PenAt.mono (q1.trans (q2.trans q3)) hp') hl3
    have s4:SameBut p H _:=s'.trans qq.but
    have hln3:H l3=none:=SameBut.fresh (s'.trans (q1.trans (q2.trans q3)).but) nl3 hl3
    have al4:ArrL (upd (upd (upd (upd H' b1 (.tup [.int (2 * (i:Int)),.int (2 * (i:Int) + 1)])) b2 (.tup [.int (2 * (i:Int) + 1),.int (2 * (i:Int))])) l2 (.lst [.ref b1,.ref b2])) l3 (.lst (ws++[.ref b1,.ref b2]))) l3 (2 * (1 + x)) (3 * i + 2):=by
     refine ⟨ws++[.ref b1,.ref b2],ars++[(2 * (i:Int),2 * (i:Int) + 1),(2 * (i:Int) + 1,2 * (i:Int))],upd_same,?_,?_,?_⟩
     ·exact ars_app2 (ar.mono qq) (.cons ⟨b1,rfl,(q2.trans (q3.trans q4)) _ _ upd_same⟩ (.cons ⟨b2,rfl,(q3.trans q4) _ _ upd_same⟩ .nil))
     ·refine goodA_app ga fun q hq=>?_
      rcases List.mem_cons.mp hq with z | z
      ·rw [z]; dsimp only; omega
      ·rw [List.mem_singleton.mp z]; dsimp only; omega
     ·rw [List.length_append]
      show ws.length + 2≤_
      omega
    generalize upd (upd (upd (upd H' b1 (.tup [.int (2 * (i:Int)),.int (2 * (i:Int) + 1)])) b2 (.tup [.int (2 * (i:Int) + 1),.int (2 * (i:Int))])) l2 (.lst [.ref b1,.ref b2])) l3 (.lst (ws++[.ref b1,.ref b2]))=H4 at hp4 s4 al4
    refine gname_in ?_
    dsimp only
    have less:∀ {HX:Hp},ArrL HX l3 (2 * (1 + x)) (3 * i + 2)→ArrL HX l3 (2 * (1 + x)) (3 * (i + 1)):=fun h=>by
     obtain ⟨a,b,c,d,e,f⟩:=h.ex
     exact ⟨a,b,c,d,e,by omega⟩
    refine ⟨_,rfl,_,_,rfl,rfl,_,rfl,ite2 (fun c1=>?_) (fun c1=>?_)⟩
    ·have c1:0 < 2 * (i:Int):=of_decide_eq_true c1
     refine ⟨_,rfl,p,2,rfl,hp4,by decide,by decide,fun y H5 y0 y1 s5 hp5=>⟨rfl,_,rfl,ite2 (fun c2'=>?_) (fun c2'=>?_)⟩⟩
     ·have al5:=al4.keep hp4 nl3 s5
      obtain ⟨ws5,ars5,e5,ar5,ga5,lw5⟩:=al5.ex
      refine ⟨_,rfl,.inl ⟨rfl,_,SqL.of e5⟩,_,rfl,_,rfl,_,rfl,p,2 * (i:Int),rfl,hp5,c1,by omega,fun z H6 z0 z1 s6 hp6=>⟨c2,fun b hb=>?_⟩⟩
      have al6:=al5.keep hp5 nl3 s6
      have q6:=Same.upd (o:=.tup [.int (2 * (i:Int)),.int z]) hb
      have e6:H6 l3=some (.lst ws5):=s6 _ _ nl3 e5
      refine ⟨l3,ws5,_,rfl,rfl,q6 _ _ e6,smallN (by omega),l3,_,rfl,fun b' o' nb e'=>?_,?_,nl3,hln3,ws5++[.ref b],ars5++[(2 * (i:Int),z)],upd_same,?_,?_,?_⟩
      ·rw [upd_ne (ne_of_none e' hln3)]
       exact q6 _ _ (s6 _ _ nb (s5 _ _ nb (s4 _ _ nb e')))
      ·obtain ⟨x',y',z',e'⟩:=PenAt.mono q6 hp6
       exact ⟨x',y',z',by rw [upd_ne (Ne.symm nl3)]; exact e'⟩
      ·have up:∀ (b':Addr) (ys:List V),H6 b'=some (.tup ys)→(upd (upd H6 b (.tup [.int (2 * (i:Int)),.int z])) l3 (.lst (ws5++[.ref b]))) b'=some (.tup ys):=fun b' ys e'=>by
        rw [upd_ne (ne_of e' e6 (fun z=>nomatch z))]
        exact q6 _ _ e'
       refine Paired.snoc (Paired.mapP ar5 fun _ _ ⟨r,e,z⟩=>⟨r,e,up _ _ (s6 _ _ (pen_tup hp5 z) z)⟩) ⟨b,rfl,?_⟩
       rw [upd_ne (fun z=>by rw [z] at hb; rw [e6] at hb; cases hb),upd_same]
      ·exact goodA_app ga5 (goodA_one ⟨by omega,by omega,z0,by omega,by omega⟩)
      ·rw [List.length_append]
       show ws5.length + 1≤_
       omega
     ·exact ⟨l3,_,rfl,s4.trans s5,hp5,nl3,hln3,less (al4.keep hp4 nl3 s5)⟩
    ·exact ⟨l3,_,rfl,s4,hp4,nl3,hln3,less al4⟩
   ·rintro σ H' ⟨l,v4,rfl,s',hp',nl,hln,al⟩
    obtain ⟨ws,ars,e,ar,ga,lw⟩:=al.ex
    refine ⟨_,rfl,_,rfl,l,ws,ars,rfl,e,ar,by omega,fun D' ws' T H4 s4 hD ar' pm ris=>⟨D',ws',rfl,.inl ⟨SqL.of hD,fun t' ht'=>⟨c2,fun a' ha'=>?_⟩⟩⟩⟩
    have lw':ws'.length≤900:=by have:=arsLen ar'; have:=arsLen ar; have:=pm.length_eq; omega
    exact fin s' hp' ⟨ws,ars,e,ar,ga,by omega⟩ (by omega) (by omega) D' ws' T H4 s4 hD ar' (goodA_perm ga pm) lw' t' ht' a' ha'
  ·refine ⟨_,rfl,rfl,_,rfl,ite2 (fun c=>?_) (fun c=>?_)⟩
   ·-- an odd ring
    refine ⟨c3,fun q hq=>⟨_,rfl,p,3,rfl,PenAt.mono (Same.upd hq) hp1,by decide,by decide,fun r H2 r0 r3 s2 hp2=>?_⟩⟩
    have nq:q≠p:=newp hp1 hq
    have hq2:H2 q=some (.lst [.int 3,.int 5,.int 7]):=s2 _ _ nq upd_same
    obtain ⟨m,g1,g2,ea⟩:∃ m:Int,3≤m∧m≤7∧atI [V.int 3,V.int 5,V.int 7] r=some (.int m):=by
     rcases (show r=0∨r=1∨r=2 by omega) with rfl | rfl | rfl
     ·exact ⟨3,by decide,by decide,rfl⟩
     ·exact ⟨5,by decide,by decide,rfl⟩
     ·exact ⟨7,by decide,by decide,rfl⟩
    have s12:=s1.trans ((Same.upd (o:=.lst [.int 3,.int 5,.int 7]) hq).but.trans s2)
    refine ⟨q,_,r,.int m,rfl,rfl,SqL.of hq2,ea,?_⟩
    refine gname_in ?_
    dsimp only
    refine ⟨_,rfl,m,rfl,by omega,by omega,lc_range0 (n:=m.toNat) (fun j zs H'=>Same H2 H'∧Ars H' zs ((List.range j).map fun (k:Nat)=>((k:Int),((k:Int) + 1) % m))) ⟨Same.refl _,.nil⟩ ?_ ?_ ?_⟩
    ·rintro j zs H' hj ⟨_,az⟩
     have:=arsLen az
     rw [List.length_map,List.length_range] at this
     exact Nat.le_of_lt (small1000 (by omega))
    ·rintro zs H' ⟨s3,az⟩ l hl
     have lz:zs.length=m.toNat:=by have:=arsLen az; rw [List.length_map,List.length_range] at this; exact this
     have gr:GoodA m ((List.range m.toNat).map fun (k:Nat)=>((k:Int),((k:Int) + 1) % m)):=fun z hz=>by
      obtain ⟨k,hk,rfl⟩:=List.mem_map.mp hz
      have hk:=List.mem_range.mp hk
      have e0:0≤((k:Int) + 1) % m:=Int.emod_nonneg _ (by omega)
      have e1:((k:Int) + 1) % m < m:=Int.emod_lt_of_pos _ (by omega)
      refine ⟨by omega,by omega,e0,e1,?_⟩
      dsimp only
      by_cases z:(k:Int) + 1 < m
      ·rw [Int.emod_eq_of_lt (by omega) z]
       omega
      ·have:(k:Int) + 1=m:=by omega
       rw [this,Int.emod_self]
       omega
     have q3:=Same.upd (o:=.lst zs) hl
     have hp3:=PenAt.mono (s3.trans q3) hp2
     have nl:l≠p:=newp (PenAt.mono s3 hp2) hl
     have hln:H l=none:=SameBut.fresh (s12.trans s3.but) nl hl
     have s3':SameBut p H _:=s12.trans (s3.trans q3).but
     have al:ArrL (upd H' l (.lst zs)) l m m.toNat:=⟨zs,_,upd_same,az.mono q3,gr,by omega⟩
     generalize upd H' l (.lst zs)=H3 at hp3 s3' al
     refine gname_in ?_
     dsimp only
     refine ⟨_,rfl,p,3,rfl,hp3,by decide,by decide,fun x H4 x0 x3 s4 hp4=>?_⟩
     have al4:=al.keep hp3 nl s4
     refine gname_in ?_
     dsimp only
     refine ⟨_,rfl,_,rfl,_,rfl,_,_,rfl,rfl,m,m + x,rfl,⟨by omega,by omega,by omega,by omega⟩,for_range (fun i σ H'=>∃ v4:Option V,σ=[some (.ref p),some (.int way),some (.ref l),some (.int m),v4,some (.int x)]∧SameBut p H H'∧PenAt H' p∧ArrL H' l (m + x) (m.toNat + i)) ⟨_,rfl,s3'.trans s4,hp4,?_⟩ ?_ ?_⟩
     ·obtain ⟨a,b,c,d,e,f⟩:=al4.ex
      exact ⟨a,b,c,d,goodA_mono e (by omega),by omega⟩
     ·rintro i σ H' hi ⟨v4,rfl,s',hp',al'⟩
      have hi:(i:Int) < x:=by omega
      obtain ⟨ws5,ars5,e5,ar5,ga5,lw5⟩:=al'.ex
      refine ⟨_,rfl,.inl ⟨rfl,_,SqL.of e5⟩,_,rfl,_,rfl,_,rfl,p,m + (i:Int),rfl,hp',by omega,by omega,fun z H6 z0 z1 s6 hp6=>⟨c2,fun b hb=>?_⟩⟩
      have q6:=Same.upd (o:=.tup [.int (m + (i:Int)),.int z]) hb
      have e6:H6 l=some (.lst ws5):=s6 _ _ nl e5
      refine ⟨l,ws5,_,rfl,rfl,q6 _ _ e6,smallN (by omega),_,rfl,fun b' o' nb e'=>?_,?_,ws5++[.ref b],ars5++[(m + (i:Int),z)],upd_same,?_,?_,?_⟩
      ·rw [upd_ne (ne_of_none e' hln)]
       exact q6 _ _ (s6 _ _ nb (s' _ _ nb e'))
      ·obtain ⟨x',y',z',e'⟩:=PenAt.mono q6 hp6
       exact ⟨x',y',z',by rw [upd_ne (Ne.symm nl)]; exact e'⟩
      ·have up:∀ (b':Addr) (ys:List V),H6 b'=some (.tup ys)→(upd (upd H6 b (.tup [.int (m + (i:Int)),.int z])) l (.lst (ws5++[.ref b]))) b'=some (.tup ys):=fun b' ys e'=>by
        rw [upd_ne (ne_of e' e6 (fun z=>nomatch z))]
        exact q6 _ _ e'
       refine Paired.snoc (Paired.mapP ar5 fun _ _ ⟨r,e,z⟩=>⟨r,e,up _ _ (s6 _ _ (pen_tup hp' z) z)⟩) ⟨b,rfl,?_⟩
       rw [upd_ne (fun z=>by rw [z] at hb; rw [e6] at hb; cases hb),upd_same]
      ·exact goodA_app ga5 (goodA_one ⟨by omega,by omega,z0,by omega,by omega⟩)
      ·rw [List.length_append]
       show ws5.length + 1≤_
       omega
     ·rintro σ H' ⟨v4,rfl,s',hp',al'⟩
      obtain ⟨ws,ars,e,ar,ga,lw⟩:=al'.ex
      refine ⟨_,rfl,_,rfl,_,_,rfl,rfl,_,rfl,l,ws,ars,rfl,e,ar,by omega,fun D' ws' T H4' s4' hD ar' pm ris=>⟨D',ws',rfl,.inl ⟨SqL.of hD,fun t' ht'=>⟨c2,fun a' ha'=>?_⟩⟩⟩⟩
      have lw':ws'.length≤900:=by have:=arsLen ar'; have:=arsLen ar; have:=pm.length_eq; omega
      exact fin s' hp' ⟨ws,ars,e,ar,ga,by omega⟩ (by omega) (by omega) D' ws' T H4' s4' hD ar' (goodA_perm ga pm) lw' t' ht' a' ha'
    ·rintro j zs H' hj ⟨s3,az⟩
     refine ⟨_,rfl,_,rfl,_,_,rfl,rfl,_,rfl,_,_,rfl,rfl,(by show (0:Int) < m; omega),c2,fun g hg=>nx hj ⟨s3.trans (Same.upd hg),?_⟩⟩
     rw [List.range_succ,List.map_append]
     refine Paired.snoc (az.mono (Same.upd hg)) ⟨g,rfl,?_⟩
     rw [upd_same,Int.zero_add]
   ·refine ⟨_,rfl,p,8,rfl,hp1,by decide,by decide,fun a t m us ars H' s' hp' W mm1 m8 ga=>?_⟩
    exact kk a t m us ars H' (s1.trans s') hp' W mm1 (by omega) ga
end
end Hk
namespace Hk
open PySem L2
section
variable {P:Program} {w:World} {K:PySem.W.Frag} {mg:Str→Option Value} {base:Heap}
theorem kn_lawWhole (D:DefAt K mg "_law_whole" s_law_whole ["found"]) (fr:Free mg ["isinstance","int","bool"]):Kn P w K mg base 1 "_law_whole" ["found"] spWhole:=by
 refine D.kn (N:=["found"]) ⟨rfl,rfl,rfl,by decide +kernel,rfl,by decide +kernel,by decide +kernel⟩ (fun vs H Q E h=>?_) (fun f cdv A outer s H vs Q E hr h=>?_)
 ·obtain ⟨x,T,rfl,_⟩:=h
  rfl
 ·obtain ⟨x,T,rfl,d,k⟩:=h
  have m1:=fr "isinstance" (by simp)
  have m2:=fr "int" (by simp)
  have m3:=fr "bool" (by simp)
  refine ⟨_,pss_one (ps_ret (pe_and (pe_callB call_isi rfl m1 boot_isi (pa_cons (pv 0) (pa_cons (pe_bltn (v:=.ty "int") rfl m2 boot_tint rfl) pa_nil)))
   (pe_one (pe_not (pe_callB call_isi rfl m1 boot_isi (pa_cons (pv 0) (pa_cons (pe_bltn (v:=.ty "bool") rfl m3 boot_tbool rfl) pa_nil))))))),?_⟩
  refine ⟨x,rfl,x,"int",T,rfl,d,by simp,_,rfl,ite2 (fun h1=>?_) (fun h1=>?_)⟩
  ·refine ⟨x,rfl,x,"bool",T,rfl,d,by simp,_,rfl,?_⟩
   cases d <;> first | exact k | exact absurd h1 (by decide)
  ·cases d <;> first | exact k | exact absurd (by decide) h1
end
end Hk
namespace Hk
open PySem L2 PySem.W
theorem huN {k j:Nat} {A:Around} (hr:Room k A) (h:j≤200):A.units + j < cLine:=by
 have:=hr.un
 omega
theorem none_same' {H H':Hp} {l:Addr} (s:Same H H') (h:H' l=none):H l=none:=by
 cases e:H l with
 | none=>rfl
 | some o=>rw [s _ _ e] at h; cases h
end Hk
namespace Hk
open PySem L2
section
variable {P:Program} {w:World} {K:PySem.W.Frag} {mg:Str→Option Value} {base:Heap}
theorem dat_but {H H':Hp} {p:Addr} {x:V} {T:String} (h:Dat H x T) (n:x≠.ref p) (s:SameBut p H H'):Dat H' x T:=by
 cases h with
 | non=>exact .non
 | bl b=>exact .bl b
 | int i=>exact .int i
 | str z=>exact .str z
 | lst e=>exact .lst (s _ _ (fun z=>n (by rw [z])) e)
 | tup e=>exact .tup (s _ _ (fun z=>n (by rw [z])) e)
 | dK e=>exact .dK (s _ _ (fun z=>n (by rw [z])) e)
theorem boot_tstr:bootBuiltins "str"=some (.type "str"):=by decide +kernel
end
end Hk
namespace Hk
open PySem L2
def Dp (p:Addr) (H:Hp):Nat→V→Prop
 | 0,v=>(∃ T,Dat H v T)∧v≠.ref p
 | n + 1,v=>(∃ q ys,v=.ref q∧H q=some (.tup ys)∧ys.length≤100000∧(∀ y∈ys,Dp p H n y)∧q≠p)∨∃ T,Dat H v T∧T≠"tuple"∧v≠.ref p
theorem Dp.but {p:Addr} {H H':Hp} (s:SameBut p H H'):∀ {n:Nat} {v:V},Dp p H n v→Dp p H' n v
 | 0,v,⟨⟨T,d⟩,n⟩=>⟨⟨T,dat_but d n s⟩,n⟩
 | n + 1,v,.inl ⟨q,ys,e,hq,l,a,ne⟩=>.inl ⟨q,ys,e,s _ _ ne hq,l,fun y hy=>Dp.but s (a y hy),ne⟩
 | n + 1,v,.inr ⟨T,d,t,ne⟩=>.inr ⟨T,dat_but d ne s,t,ne⟩
theorem Dp.mono {p:Addr} {H H':Hp} {n:Nat} {v:V} (h:Dp p H n v) (s:Same H H'):Dp p H' n v:=h.but s.but
theorem Dp.oth {p:Addr} {H:Hp} {v:V} {T:String} (d:Dat H v T) (h:T≠"tuple") (ne:v≠.ref p):∀ {n:Nat},Dp p H n v
 | 0=>⟨⟨_,d⟩,ne⟩
 | n + 1=>.inr ⟨_,d,h,ne⟩
def hoT:Option HO→Option (List V)
 | some (.tup ys)=>some ys
 | _=>none
def tupOf (H:Hp):V→Option (List V)
 | .ref p=>hoT (H p)
 | _=>none
theorem tupOf_tup {H:Hp} {q:Addr} {ys:List V} (h:H q=some (.tup ys)):tupOf H (.ref q)=some ys:=by show hoT (H q)=_; rw [h]; rfl
theorem tupOf_oth {H:Hp} {v:V} {T:String} (d:Dat H v T) (h:T≠"tuple"):tupOf H v=none:=by
 cases d with
 | lst e=>show hoT (H _)=_; rw [e]; rfl
 | tup e=>exact absurd rfl h
 | dK e=>show hoT (H _)=_; rw [e]; rfl
 | _=>rfl
def agL (m:Int):Option (List V)→Bool
 | some [.int a,.int b]=>(decide (0≤a) && decide (a < m)) && ((decide (0≤b) && decide (b < m)) && !decide (V.int a=V.int b))
 | _=>false
def agB (H:Hp) (m:Int) (v:V):Bool:=agL m (tupOf H v)
def prL:Option (List V)→Int×Int
 | some [.int a,.int b]=>(a,b)
 | _=>(0,0)
theorem agL_len {m:Int} {ys:List V} (h:¬ ys.length=2):agL m (some ys)=false:=by
 unfold agL
 split
 ·rename_i e
  injection e with e
  subst e
  exact absurd rfl h
 ·rfl
theorem agL_l {m:Int} {x y:V} (h:plG m x=false):agL m (some [x,y])=false:=by
 unfold agL
 split
 ·rename_i e
  injection e with e
  injection e with e1 e2
  subst e1
  show ((decide _ && decide _) && _)=false
  rw [show (decide _ && decide _)=false from h]
  rfl
 ·rfl
theorem agL_r {m:Int} {x y:V} (h:plG m y=false):agL m (some [x,y])=false:=by
 unfold agL
 split
 ·rename_i e
  injection e with e
  injection e with e1 e2
  injection e2 with e2 _
  subst e2
  rw [show (decide _ && decide _)=false from h]
  simp
 ·rfl
theorem isI_int {x:V} (h:isI x=true):∃ i:Int,x=.int i:=by
 cases x with
 | int i=>exact ⟨i,rfl⟩
 | _=>cases h
theorem plG_int {m:Int} {x:V} (h:plG m x=true):∃ a:Int,x=.int a:=by
 cases x with
 | int i=>exact ⟨i,rfl⟩
 | _=>cases h
theorem agL_two {m a b:Int} (h1:plG m (.int a)=true) (h2:plG m (.int b)=true):agL m (some [.int a,.int b])=!decide (V.int a=V.int b):=by
 show ((decide (0≤a) && decide (a < m)) && ((decide (0≤b) && decide (b < m)) && _))=_
 rw [show (decide (0≤a) && decide (a < m))=true from h1,show (decide (0≤b) && decide (b < m))=true from h2]
 rfl
theorem hoT_some {o:Option HO} {ys:List V} (h:hoT o=some ys):o=some (.tup ys):=by
 unfold hoT at h
 split at h
 ·cases h; rfl
 ·cases h
theorem agB_pair {H:Hp} {m:Int} {v:V} (h:agB H m v=true):∃ (q:Addr) (a b:Int),v=.ref q∧H q=some (.tup [.int a,.int b])∧prL (tupOf H v)=(a,b):=by
 unfold agB agL at h
 split at h
 ·rename_i a b e
  cases v with
  | ref q=>exact ⟨q,a,b,rfl,hoT_some e,by rw [e]; rfl⟩
  | _=>cases e
 ·cases h
end Hk
namespace Hk
open PySem L2 PySem.W
inductive Pap where
 | tied (a b:Int) | lost (p:Int) | cs (x y:Pap)
def ffP:List (Int×Int)→List Int→Option Pap
 | (a,b)::_,_=>some (.tied a b)
 | [],p::_=>some (.lost p)
 | [],[]=>none
def fbP (ars:List (Int×Int)) (bs:List Bool):Option Pap:=ffP (tbL ars bs) (lbL ars bs)
def pF (ars:List (Int×Int)):Nat→List Bool→Option Pap
 | 0,bs=>fbP ars bs
 | k + 1,bs=>match fbP ars bs with
  | some x=>some x
  | none=>match pF ars k (bs++[true]) with
   | none=>none
   | some x=>match pF ars k (bs++[false]) with
    | none=>none
    | some y=>some (.cs x y)
def GoodP (m:Int) (ars:List (Int×Int)):Pap→List Bool→Prop
 | .tied a b,bs=>(a,b)∈ars∧a∈plw bs true bs.length∧b∈plw bs true bs.length
 | .lost p,bs=>p∈outs bs∧∀ b∈ldI ars p,b∈outs bs
 | .cs x y,bs=>(bs.length:Int) < m∧GoodP m ars x (bs++[true])∧GoodP m ars y (bs++[false])
def dP:Pap→Nat
 | .tied _ _=>0
 | .lost _=>0
 | .cs x y=>max (dP x) (dP y) + 1
theorem fbP_good {m:Int} {ars:List (Int×Int)} {bs:List Bool} {x:Pap} (h:fbP ars bs=some x):GoodP m ars x bs∧dP x=0:=by
 unfold fbP at h
 cases e:tbL ars bs with
 | cons q r =>
  obtain ⟨a,b⟩:=q
  rw [e] at h
  cases h
  have hm:(a,b)∈tbL ars bs:=by rw [e]; exact List.mem_cons_self
  have h2:=List.mem_filter.mp hm
  have h3:=h2.2
  unfold both at h3
  rw [Bool.and_eq_true] at h3
  exact ⟨⟨h2.1,of_decide_eq_true h3.1,of_decide_eq_true h3.2⟩,rfl⟩
 | nil =>
  rw [e] at h
  cases e2:lbL ars bs with
  | cons p r =>
   rw [e2] at h
   cases h
   have hm:p∈lbL ars bs:=by rw [e2]; exact List.mem_cons_self
   have h2:=List.mem_filter.mp hm
   exact ⟨⟨h2.1,fun b hb=>of_decide_eq_true (List.all_eq_true.mp h2.2 b hb)⟩,rfl⟩
  | nil =>
   rw [e2] at h
   cases h
theorem pF_good {m:Int} {ars:List (Int×Int)}:∀ {k:Nat} {bs:List Bool} {x:Pap},pF ars k bs=some x→(bs.length:Int) + k≤m→GoodP m ars x bs∧dP x≤k
 | 0,bs,x,h,_=>by
  have:=fbP_good (m:=m) (show fbP ars bs=some x from h)
  exact ⟨this.1,by omega⟩
 | k + 1,bs,x,h,hl=>by
  unfold pF at h
  cases e:fbP ars bs with
  | some y =>
   rw [e] at h
   cases h
   have:=fbP_good (m:=m) e
   exact ⟨this.1,by omega⟩
  | none =>
   rw [e] at h
   dsimp only at h
   cases e1:pF ars k (bs++[true]) with
   | none =>
    rw [e1] at h
    cases h
   | some y =>
    rw [e1] at h
    dsimp only at h
    cases e2:pF ars k (bs++[false]) with
    | none =>
     rw [e2] at h
     cases h
    | some z =>
     rw [e2] at h
     cases h
     have h1:=pF_good e1 (by rw [List.length_append]; show ((bs.length + 1:Nat):Int) + k≤m; omega)
     have h2:=pF_good e2 (by rw [List.length_append]; show ((bs.length + 1:Nat):Int) + k≤m; omega)
     refine ⟨⟨by omega,h1.1,h2.1⟩,?_⟩
     show max (dP y) (dP z) + 1≤k + 1
     have:=h1.2
     have:=h2.2
     omega
end Hk
namespace Hk
open PySem L2 PySem.W
inductive Tg0 (H:Hp):V→Option (List V)→Prop where
 | oth {v:V} {T:String} (d:Dat H v T) (n:T≠"tuple"):Tg0 H v none
 | tup {q:Addr} {ys:List V} (hq:H q=some (.tup ys)) (l:ys.length≤100) (els:∀ y∈ys,∃ T,Dat H y T) (hd:∀ y,ys.head?=some y→(∃ i,y=.int i)∨∃ z,y=.str z):Tg0 H (.ref q) (some ys)
def Dp0 (H:Hp) (v:V):Prop:=(∃ q ys,v=.ref q∧H q=some (.tup ys)∧ys.length≤100000∧∀ y∈ys,∃ T,Dat H y T)∨∃ T,Dat H v T∧T≠"tuple"
theorem cut1W (us:List V):cutV us (some 1) none=us.drop 1:=by
 unfold cutV
 have:HT.sIx us.length 0 (some 1)=min 1 us.length:=HT.sIx_nat _ _ 1
 rw [this,HT.sIx_none]
 cases us with
 | nil=>rfl
 | cons a r =>
  rw [Nat.min_eq_left (by simp)]
  exact List.take_of_length_le (by simp)
theorem ag_is {m a b:Int} (h:agL m (some [.int a,.int b])=true):plG m (.int a)=true∧plG m (.int b)=true∧a≠b:=by
 cases h1:plG m (.int a) with
 | false=>rw [agL_l h1] at h; cases h
 | true =>
  cases h2:plG m (.int b) with
  | false=>rw [agL_r h2] at h; cases h
  | true =>
   refine ⟨rfl,rfl,fun e=>?_⟩
   rw [agL_two h1 h2,e] at h
   simp at h
def FF (m:Int) (prs:List (Int×Int)) (ls:List Int) (o:Option (List V)):Prop :=
 (∃ i j:Int,o=some [.str "tied",.int i,.int j]∧plG m (.int i)=true∧plG m (.int j)=true∧i≠j∧(i,j)∈prs)∨(∃ i:Int,o=some [.str "lost",.int i]∧plG m (.int i)=true∧i∈ls)
theorem ff_word {m:Int} {prs:List (Int×Int)} {ls:List Int} {w:V} {r:List V} (h:FF m prs ls (some (w::r))):w=.str "tied"∨w=.str "lost":=by
 rcases h with ⟨i,j,e,_⟩ | ⟨i,e,_⟩
 ·exact .inl (List.cons.inj (Option.some.inj e)).1
 ·exact .inr (List.cons.inj (Option.some.inj e)).1
theorem ff_tied {m:Int} {prs:List (Int×Int)} {ls:List Int} {r:List V}:FF m prs ls (some (.str "tied"::r))↔∃ i j:Int,r=[.int i,.int j]∧agL m (some [.int i,.int j])=true∧(i,j)∈prs:=by
 constructor
 ·rintro (⟨i,j,e,h1,h2,h3,h4⟩ | ⟨i,e,_⟩)
  ·refine ⟨i,j,(List.cons.inj (Option.some.inj e)).2,?_,h4⟩
   rw [agL_two h1 h2]
   simp [h3]
  ·exact absurd (List.cons.inj (Option.some.inj e)).1 (by decide)
 ·rintro ⟨i,j,rfl,h1,h2⟩
  obtain ⟨a,b,c⟩:=ag_is h1
  exact .inl ⟨i,j,rfl,a,b,c,h2⟩
theorem ff_lost {m:Int} {prs:List (Int×Int)} {ls:List Int} {r:List V}:FF m prs ls (some (.str "lost"::r))↔∃ i:Int,r=[.int i]∧plG m (.int i)=true∧i∈ls:=by
 constructor
 ·rintro (⟨i,j,e,_⟩ | ⟨i,e,h1,h2⟩)
  ·exact absurd (List.cons.inj (Option.some.inj e)).1 (by decide)
  ·exact ⟨i,(List.cons.inj (Option.some.inj e)).2,h1,h2⟩
 ·rintro ⟨i,rfl,h1,h2⟩
  exact .inr ⟨i,rfl,h1,h2⟩
theorem ff_non {m:Int} {prs:List (Int×Int)} {ls:List Int}:¬ FF m prs ls none:=by
 rintro (⟨_,_,e,_⟩ | ⟨_,e,_⟩) <;> cases e
theorem ff_nil {m:Int} {prs:List (Int×Int)} {ls:List Int}:¬ FF m prs ls (some []):=by
 rintro (⟨_,_,e,_⟩ | ⟨_,e,_⟩) <;> cases e
theorem no_of {p:Prop} (h:¬ p):(false=true↔p):=⟨fun z=>(nomatch z),fun z=>absurd z h⟩
section
variable {P:Program} {w:World} {K:Frag} {mg:Str→Option Value} {base:Heap}
def spPair:Sp:=fun vs H Q _=>∃ (a:Addr) (m:Int) (y x:V),vs=[.ref a,x]∧H a=some (.tup [.int m,y])∧Dp0 H x∧Q (.bl (agB H m x)) H
theorem kn_pair (D:DefAt K mg "pair_good" s_pair_good ["web","thing"]) (fr:Free mg ["isinstance","tuple","len"]) (kp:Kn P w K mg base 2 "place_good" ["web","thing"] spPlace):Kn P w K mg base 3 "pair_good" ["web","thing"] spPair:=by
 have sc:FnScope ["web","thing"] ["web","thing"] (defScope s_pair_good):=⟨rfl,rfl,rfl,by decide +kernel,rfl,by decide +kernel,by decide +kernel⟩
 refine D.kn (N:=["web","thing"]) sc (fun vs H Q E h=>?_) (fun f cdv A outer s H vs Q E hr h=>?_)
 ·obtain ⟨a,m,y,x,rfl,_⟩:=h
  rfl
 ·obtain ⟨a,m,y,x,rfl,ha,dp,kk⟩:=h
  have m1:=fr "isinstance" (by simp)
  have m2:=fr "tuple" (by simp)
  have m3:=fr "len" (by simp)
  refine ⟨_,pss_cons (ps_if (PW.pt (pw_or (pt_not (pt_call (pe_callB call_isi rfl m1 boot_isi (pa_cons (pv 1) (pa_cons (pe_bltn (v:=.ty "tuple") rfl m2 boot_ttuple rfl) pa_nil))))) (pw_or1 (pt_cmpR op_ne (pe_callB call_len_seq rfl m3 PySem.boot_len (pa_cons (pv 1) pa_nil)) pe_int (nomark _))))) (pss_one (ps_ret pe_bl)) pss_nil)
   (pss_one (ps_ret (pe_and (pe_kn kp hr (pa_cons (pv 0) (pa_cons (pe_ix ix_tup (pv 1) pe_int (fun _ _=>rfl)) pa_nil))) (pe_and (pe_kn kp hr (pa_cons (pv 0) (pa_cons (pe_ix ix_tup (pv 1) pe_int (fun _ _=>rfl)) pa_nil))) (pe_one (pe_cmpR op_ne (pe_ix ix_tup (pv 1) pe_int (fun _ _=>rfl)) (pe_ix ix_tup (pv 1) pe_int (fun _ _=>rfl)) (nomark _))))))),?_⟩
  rcases dp with ⟨q,ys,rfl,hq,hl,its⟩ | ⟨T,d,n⟩
  ·have eB:agB H m (.ref q)=agL m (some ys):=by unfold agB; rw [tupOf_tup hq]
   rw [eB] at kk
   refine ⟨_,rfl,_,"tuple",_,rfl,.tup hq,by simp,_,rfl,iteF ?_⟩
   refine ⟨_,rfl,q,_,rfl,.inr (SqT.of hq),rfl,_,rfl,ite2 (fun c=>?_) (fun c=>?_)⟩
   ·rw [agL_len] at kk
    ·exact kk
    ·intro z2
     rw [z2] at c
     exact absurd c (by decide)
   have l2:ys.length=2:=by
    by_cases e:ys.length=2
    ·exact e
    ·exact absurd (show _=true by simp; omega) c
   obtain ⟨x1,x2,rfl⟩:∃ x1 x2,ys=[x1,x2]:=match ys,l2 with | [x1,x2],_=>⟨x1,x2,rfl⟩
   obtain ⟨T1,d1⟩:=its x1 (by simp)
   obtain ⟨T2,d2⟩:=its x2 (by simp)
   refine ⟨_,rfl,_,rfl,q,_,_,_,rfl,rfl,SqT.of hq,rfl,a,m,y,x1,T1,rfl,ha,d1,_,rfl,?_⟩
   cases h1:plG m x1 with
   | false =>
    rw [agL_l h1] at kk
    exact iteF kk
   | true =>
    refine iteT ⟨_,rfl,_,rfl,q,_,_,_,rfl,rfl,SqT.of hq,rfl,a,m,y,x2,T2,rfl,ha,d2,_,rfl,?_⟩
    cases h2:plG m x2 with
    | false =>
     rw [agL_r h2] at kk
     exact iteF kk
    | true =>
     obtain ⟨i,rfl⟩:=plG_int h1
     obtain ⟨j,rfl⟩:=plG_int h2
     rw [agL_two h1 h2] at kk
     exact iteT ⟨_,rfl,q,_,_,_,rfl,rfl,SqT.of hq,rfl,_,rfl,q,_,_,_,rfl,rfl,SqT.of hq,rfl,rfl,kk⟩
  ·have eB:agB H m x=false:=by unfold agB; rw [tupOf_oth d n]; rfl
   rw [eB] at kk
   refine ⟨_,rfl,_,"tuple",_,rfl,d,by simp,_,rfl,?_⟩
   cases d with
   | tup h=>exact absurd rfl n
   | _=>exact iteT kk
def spFG:Sp:=fun vs H Q _=>∃ (a t:Addr) (m:Int) (us:List V) (ars:List (Int×Int)) (l l2:Addr) (ws:List V) (prs:List (Int×Int)) (ls:List Int) (x:V) (o:Option (List V)),vs=[.ref a,.ref l,.ref l2,x]∧Web H a t m us ars∧H l=some (.lst ws)∧Ars H ws prs∧H l2=some (.lst (ls.map V.int))∧Tg0 H x o ∧
 ∀ (b:Bool) (H':Hp),Same H H'→(b=true↔FF m prs ls o)→Q (.bl b) H'
theorem kn_fg (D:DefAt K mg "fault_good" s_fault_good ["web","tied","lost","thing"]) (fr:Free mg ["isinstance","len","tuple"]) (kp:Kn P w K mg base 2 "place_good" ["web","thing"] spPlace) (kq:Kn P w K mg base 3 "pair_good" ["web","thing"] spPair):Kn P w K mg base 4 "fault_good" ["web","tied","lost","thing"] spFG:=by
 have sc:FnScope ["web","tied","lost","thing","word","ends"] ["web","tied","lost","thing"] (defScope s_fault_good):=⟨rfl,rfl,rfl,by decide +kernel,rfl,by decide +kernel,by decide +kernel⟩
 refine D.kn (N:=["web","tied","lost","thing","word","ends"]) sc (fun vs H Q E h=>?_) (fun f cdv A outer s H vs Q E hr h=>?_)
 ·obtain ⟨a,t,m,us,ars,l,l2,ws,prs,ls,x,o,rfl,_⟩:=h
  rfl
 ·obtain ⟨a,t,m,us,ars,l,l2,ws,prs,ls,x,o,rfl,W,hl,ar,hl2,tg,kk⟩:=h
  have hu:=hu_of hr
  have hu2:=huN (j:=2) hr (by decide)
  have r2:=hr.mono (j:=2) (by decide)
  have m_isinstance:=fr "isinstance" (by simp)
  have m_len:=fr "len" (by simp)
  have m_tuple:=fr "tuple" (by simp)
  refine ⟨_,(pss_cons (ps_if (PW.pt (pw_or (pt_not (pt_call (pe_callB call_isi rfl m_isinstance boot_isi (pa_cons (pv 3) (pa_cons (pe_bltn (v:=.ty "tuple") rfl m_tuple boot_ttuple rfl) pa_nil))))) (pw_or1 (pt_cmpR (op_eqTN (Nat.lt_of_succ_lt hu)) (pv 3) (pe_tup pa_nil) (nomark _))))) (pss_one (ps_ret pe_bl)) pss_nil) (pss_cons (ps_set (i:=4) sc.nd rfl (Or.inl rfl) (pe_ix ix_tup (pv 3) pe_int (fun _ _=>rfl))) (pss_cons (ps_set (i:=5) sc.nd rfl (Or.inl rfl) (pe_slice sl_tup2 (pv 3) (po_some pe_int) po_none)) (pss_cons (ps_if (pt_cmpR op_eq (pv 4) pe_str (nomark _)) (pss_one (ps_ret (pe_and (pe_kn kq (hr.mono (by decide)) (pa_cons (pv 0) (pa_cons (pv 5) pa_nil))) (pe_one (pe_cmpR (op_inTr 1 hu2) (pv 5) (pv 1) rfl))))) pss_nil) (pss_cons (ps_if (PW.pt (pw_and (pt_cmpR op_eq (pv 4) pe_str (nomark _)) (pw_and1 (pt_cmpR op_eq (pe_callB call_len_seq rfl m_len PySem.boot_len (pa_cons (pv 5) pa_nil)) pe_int (nomark _))))) (pss_one (ps_ret (pe_and (pe_kn kp r2 (pa_cons (pv 0) (pa_cons (pe_ix ix_tup (pv 5) pe_int (fun _ _=>rfl)) pa_nil))) (pe_one (pe_cmpR op_in_seq (pe_ix ix_tup (pv 5) pe_int (fun _ _=>rfl)) (pv 2) rfl))))) pss_nil) (pss_one (ps_ret pe_bl))))))),?_⟩
  cases tg with
  | oth d n =>
   refine ⟨_,rfl,_,"tuple",_,rfl,d,by simp,_,rfl,?_⟩
   cases d with
   | tup h=>exact absurd rfl n
   | _=>exact iteT (kk false H (Same.refl _) (no_of ff_non))
  | tup hq ly els hd =>
   rename_i q ys
   refine ⟨_,rfl,_,"tuple",_,rfl,.tup hq,by simp,_,rfl,iteF ?_⟩
   refine ⟨_,rfl,(by show 0≤sizeLine; decide),fun e he=>?_⟩
   have s1:=Same.upd (o:=.tup []) he
   refine ⟨q,e,ys,rfl,rfl,SqT.of (s1 _ _ hq),SqT.of upd_same,_,rfl,ite2 (fun c=>?_) (fun c=>?_)⟩
   ·rw [List.isEmpty_iff.mp c] at kk
    exact kk false _ s1 (no_of ff_nil)
   obtain ⟨w0,r,rfl⟩:∃ w0 r,ys=w0::r:=by
    cases ys with
    | nil=>exact absurd rfl c
    | cons w0 r=>exact ⟨w0,r,rfl⟩
   refine ⟨_,rfl,q,_,_,w0,rfl,rfl,SqT.of (s1 _ _ hq),atI_nat (j:=0) rfl,?_⟩
   refine ⟨_,rfl,1,rfl,q,_,rfl,s1 _ _ hq,fun u H2 s2 hu'=>?_⟩
   rw [cut1W] at hu'
   replace hu':H2 u=some (.tup r):=hu'
   have s12:=s1.trans s2
   have W2:=W.mono s12
   have els2:∀ y∈r,∃ T,Dat H2 y T:=fun y hy=>(els y (List.mem_cons_of_mem _ hy)).imp fun _ d=>d.mono s12
   have sw:∀ z:Str,scal w0 (.str z)=true:=by
    intro z
    rcases hd w0 rfl with ⟨i,rfl⟩ | ⟨z,rfl⟩ <;> rfl
   refine ⟨_,rfl,sw _,_,rfl,ite2 (fun c1=>?_) (fun c1=>?_)⟩
   ·have ew:w0=.str "tied":=of_decide_eq_true c1
    subst ew
    refine ⟨_,rfl,_,rfl,a,m,_,.ref u,rfl,W2.top,.inl ⟨u,r,rfl,hu',(by rw [List.length_cons] at ly; omega),els2⟩,_,rfl,?_⟩
    have eB:agB H2 m (.ref u)=agL m (some r):=by unfold agB; rw [tupOf_tup hu']
    cases h1:agB H2 m (.ref u) with
    | false =>
     refine iteF (kk false _ s12 (no_of fun z=>?_))
     obtain ⟨i,j,rfl,z1,_⟩:=ff_tied.mp z
     rw [eB,z1] at h1
     cases h1
    | true =>
     obtain ⟨q2,i,j,e1,e2,_⟩:=agB_pair h1
     cases e1
     rw [hu'] at e2
     injection e2 with e2
     injection e2 with e2
     subst e2
     rw [eB] at h1
     refine iteT ⟨_,rfl,_,rfl,l,ws,.tup [.int i,.int j],tPrs prs,rfl,.inl (SqL.of (s12 _ _ hl)),Is.tup (SqT.of hu') (.cons (Is.int _) (.cons (Is.int _) .nil)),is_ars (d:=0) (ar.mono s12),fun b hb=>kk b _ s12 ?_⟩
     rw [hb,ff_tied]
     constructor
     ·intro z
      obtain ⟨q3,hq3,e3⟩:=List.mem_map.mp z
      have e3:tPr q3=tPr (i,j):=e3
      rw [tPr_inj e3] at hq3
      exact ⟨i,j,rfl,h1,hq3⟩
     ·rintro ⟨i',j',e3,_,z⟩
      cases e3
      exact List.mem_map.mpr ⟨(i,j),z,rfl⟩
   ·have ew:w0≠.str "tied":=fun z=>c1 (decide_eq_true z)
    refine ⟨_,rfl,sw _,_,rfl,ite2 (fun c2=>?_) (fun c2=>?_)⟩
    ·have e2:w0=.str "lost":=of_decide_eq_true c2
     subst e2
     refine ⟨_,rfl,u,_,rfl,.inr (SqT.of hu'),rfl,_,rfl,ite2 (fun c3=>?_) (fun c3=>?_)⟩
     ·have l1:r.length=1:=by
       have:=of_decide_eq_true c3
       injection this with this
       omega
      obtain ⟨x1,rfl⟩:∃ x1,r=[x1]:=match r,l1 with | [x1],_=>⟨x1,rfl⟩
      obtain ⟨T1,d1⟩:=els2 x1 (by simp)
      refine ⟨_,rfl,_,rfl,u,_,_,_,rfl,rfl,SqT.of hu',rfl,a,m,_,x1,T1,rfl,W2.top,d1,_,rfl,?_⟩
      cases h1:plG m x1 with
      | false =>
       refine iteF (kk false _ s12 (no_of fun z=>?_))
       obtain ⟨i,e,z1,_⟩:=ff_lost.mp z
       cases e
       rw [z1] at h1
       cases h1
      | true =>
       obtain ⟨i,rfl⟩:=plG_int h1
       refine iteT ⟨_,rfl,u,_,_,_,rfl,rfl,SqT.of hu',rfl,_,rfl,l2,_,rfl,.inl (SqL.of (s12 _ _ hl2)),rfl,flat_ints ls,?_⟩
       show Q (.bl (inV (.int i) (ls.map V.int))) H2
       rw [inV_int]
       refine kk _ _ s12 ?_
       rw [ff_lost,decide_eq_true_iff]
       exact ⟨fun z=>⟨i,rfl,h1,z⟩,fun ⟨j,e,_,z⟩=>by cases e; exact z⟩
     ·refine kk false _ s12 (no_of fun z=>?_)
      obtain ⟨i,rfl,_⟩:=ff_lost.mp z
      exact c3 rfl
    ·have e2:w0≠.str "lost":=fun z=>c2 (decide_eq_true z)
     exact kk false _ s12 (no_of fun z=>(ff_word z).elim ew e2)
end
end Hk
namespace Hk
open PySem L2 PySem.W
section
variable {P:Program} {w:World} {K:Frag} {mg:Str→Option Value} {base:Heap}
def isB:V→Bool
 | .bl _=>true
 | _=>false
def boolsOf (ys:List V):List Bool:=ys.filterMap fun y=>match y with | .bl b=>some b | _=>none
theorem bools_of_all:∀ {ys:List V},ys.all isB=true→ys=(boolsOf ys).map V.bl
 | [],_=>rfl
 | y::r,h=>by
  rw [List.all_cons,Bool.and_eq_true] at h
  cases y with
  | bl b =>
   show V.bl b::r=V.bl b::(boolsOf r).map V.bl
   rw [← bools_of_all h.2]
  | _=>exact absurd h.1 (by simp [isB])
theorem boolsOf_map (bs:List Bool):boolsOf (bs.map V.bl)=bs:=by
 induction bs with
 | nil=>rfl
 | cons b r ih=>show b::boolsOf (r.map V.bl)=b::r; rw [ih]
def trG:Option (List V)→Bool
 | none=>false
 | some ys=>ys.all isB
def spTruths:Sp:=fun vs H Q _=>∃ x o,vs=[x]∧Thing H x o∧∀ H',Same H H'→Q (.bl (trG o)) H'
theorem kn_truths (D:DefAt K mg "truths_good" s_truths_good ["thing"]) (fr:Free mg ["isinstance","tuple","all","bool"]):Kn P w K mg base 1 "truths_good" ["thing"] spTruths:=by
 refine D.kn (N:=["thing"]) ⟨rfl,rfl,rfl,by decide +kernel,rfl,by decide +kernel,by decide +kernel⟩ (fun vs H Q E h=>?_) (fun f cdv A outer s H vs Q E hr h=>?_)
 ·obtain ⟨x,o,rfl,_⟩:=h
  rfl
 ·obtain ⟨x,o,rfl,th,k⟩:=h
  have m1:=fr "isinstance" (by simp)
  have m2:=fr "tuple" (by simp)
  have m3:=fr "all" (by simp)
  have m4:=fr "bool" (by simp)
  have nd:(["truth"]:List Str).Nodup:=by decide +kernel
  refine ⟨_,pss_one (ps_ret (pe_and (pe_callB call_isi rfl m1 boot_isi (pa_cons (pv 0) (pa_cons (pe_bltn (v:=.ty "tuple") rfl m2 boot_ttuple rfl) pa_nil)))
   (pe_one (pe_callB (call_all_bl rfl) rfl m3 boot_fall (pa_cons (pe_lc (N:=["truth"]) (src:=[none]) (cl:=[]) rfl ⟨rfl,rfl,rfl,rfl,trivial,rfl,rfl,rfl⟩ (gown_name (i:=0) rfl)
    (pi_tup (pv 0)) (fun C s H fp=>⟨pg_name (i:=0) nd rfl (Or.inl rfl),pifs_nil,pe_callB call_isi rfl m1 boot_isi (pa_cons (pv 0) (pa_cons (pe_bltn (v:=.ty "bool") rfl m4 boot_tbool rfl) pa_nil))⟩)) pa_nil))))),?_⟩
  cases th with
  | oth d n =>
   refine ⟨_,rfl,_,"tuple",_,rfl,d,by simp,_,rfl,?_⟩
   rename_i T
   have e:kitB T "tuple"=false:=by
    unfold kitB
    simp [n]
   rw [e]
   exact iteF (k H (Same.refl H))
  | tup hp ty z =>
   refine ⟨_,rfl,_,"tuple",_,rfl,.tup hp,by simp,_,rfl,iteT ?_⟩
   rename_i p ys
   refine ⟨_,rfl,p,rfl,⟨ys,SqT.of hp⟩,lc_tup0 (xs:=ys) (fun i zs H'=>Same H H'∧zs=(ys.take i).map fun q=>V.bl (isB q)) ⟨Same.refl _,rfl⟩ ?_ ?_ ?_⟩
   ·rintro i zs H' hi ⟨s2,rfl⟩
    refine ⟨SqT.of (s2 _ _ hp),?_⟩
    rw [List.length_map,List.length_take]
    omega
   ·rintro zs H' ⟨s2,rfl⟩ l hl
    refine ⟨l,ys.map isB,rfl,SqL.of ?_,?_⟩
    ·rw [upd_same,List.take_of_length_le (Nat.le_refl _),List.map_map]
     rfl
    ·have e:(ys.map isB).all id=trG (some ys):=by
      rw [List.all_map]
      rfl
     rw [e]
     exact k _ (s2.trans (Same.upd hl))
   ·rintro i x zs H' h1 hi ⟨s2,rfl⟩
    obtain ⟨T,d⟩:=ty x (List.mem_of_getElem? h1)
    refine ⟨_,rfl,x,"bool",T,rfl,d.mono s2,by simp,nx hi ⟨s2,?_⟩⟩
    have e:kitB T "bool"=isB x:=by
     cases d <;> rfl
    rw [take_snoc _ _ _ h1,List.map_append,e]
    rfl
def bgG (m:Int):Option (List V)→Bool
 | none=>false
 | some ys=>ys.all isB && decide ((ys.length:Int)≤m)
def spRNB (CN:Addr):Sp:=fun vs H Q E=>∃ a m y x o,vs=[.ref a,x]∧H a=some (.tup [.int m,y])∧Thing H x o∧∀ H',Same H H'→(if bgG m o=true then Q .non H' else E (.ref CN) none H')
theorem knx_rnb {CN fN:Addr} {bm:List Value} {fdN:FuncData} (D:DefAt K mg "refuse_no_beginning" s_refuse_no_beginning ["web","thing"]) (fr:Free mg ["len"]) (kt:Kn P w K mg base 1 "truths_good" ["thing"] spTruths) (M:XMk K CN fN bm) (hN:mg "NoPlace"=some (.ref CN))
  (okN:FnOk P w K mg base CX0 2 fN fdN ["self"] (spInit K)) (bN:Binds K fdN ["self"] []):KnX P w K mg base 4 "refuse_no_beginning" ["web","thing"] (spRNB CN):=by
 have sc:FnScope ["web","thing"] ["web","thing"] (defScope s_refuse_no_beginning):=⟨rfl,rfl,rfl,by decide +kernel,rfl,by decide +kernel,by decide +kernel⟩
 refine D.knx (N:=["web","thing"]) sc (fun vs H Q E h=>?_) (fun f cdv A outer s H vs Q E hr h=>?_)
 ·obtain ⟨a,m,y,x,o,rfl,_⟩:=h
  rfl
 ·obtain ⟨a,m,y,x,o,rfl,ha,th,k⟩:=h
  have m1:=fr "len" (by simp)
  have r1:=hr.mono (j:=1) (by decide)
  refine ⟨_,pss_one (ps_if (PW.pt (pw_or (pt_not (pt_call (pe_kn kt r1 (pa_cons (pv 1) pa_nil)))) (pw_or1 (pt_cmpR op_gt (pe_callB call_len_seq rfl m1 PySem.boot_len (pa_cons (pv 1) pa_nil)) (pe_ix ix_tup (pv 0) pe_int (fun _ _=>rfl)) (nomark _))))) (pss_one (ps_raiseD M.toXIn (pe_xmake0 M okN hr rfl hN bN pass0))) pss_nil),?_⟩
  have bad:∀ (H1:Hp),Same H H1→¬ bgG m o=true→E (.ref CN) none H1:=fun H1 s1 h1=>by
   have kk:=k H1 s1
   rw [if_neg h1] at kk
   exact kk
  refine ⟨_,rfl,x,o,rfl,th,fun H1 s1=>⟨_,rfl,ite2 (fun h1=>?_) (fun h1=>?_)⟩⟩
  ·have h1':¬ bgG m o=true:=by
    have h1:¬ trG o=true:=by simpa using h1
    cases o with
    | none=>exact fun z=>(nomatch z)
    | some ys =>
     intro z
     have z:(ys.all isB && _)=true:=z
     rw [Bool.and_eq_true] at z
     exact h1 z.1
   refine ⟨Nat.zero_le _,fun z hz hn=>⟨CN,bm,z,rfl,M.toXIn,upd_same,⟨rfl,z,none,rfl,upd_same,hn,?_⟩⟩⟩
   rw [hole_upd hz]
   exact bad H1 s1 h1'
  ·have h1':trG o=true:=by simpa using h1
   cases th with
   | oth d n=>cases h1'
   | tup hp ty z =>
    rename_i p ys
    refine ⟨_,rfl,p,ys,rfl,.inr (SqT.of (s1 _ _ hp)),_,rfl,a,_,_,_,rfl,rfl,SqT.of (s1 _ _ ha),rfl,_,m,rfl,rfl,_,rfl,ite2 (fun h2=>?_) (fun h2=>?_)⟩
    ·have h2:m < (ys.length:Int):=of_decide_eq_true h2
     have hb:¬ bgG m (some ys)=true:=fun z=>by
      have z:(ys.all isB && decide ((ys.length:Int)≤m))=true:=z
      rw [Bool.and_eq_true] at z
      have:=of_decide_eq_true z.2
      omega
     refine ⟨Nat.zero_le _,fun z hz hn=>⟨CN,bm,z,rfl,M.toXIn,upd_same,⟨rfl,z,none,rfl,upd_same,hn,?_⟩⟩⟩
     rw [hole_upd hz]
     exact bad H1 s1 hb
    ·have h2:¬ m < (ys.length:Int):=fun z=>h2 (decide_eq_true z)
     have kk:=k H1 s1
     have hb:bgG m (some ys)=true:=by
      show (ys.all isB && decide ((ys.length:Int)≤m))=true
      rw [Bool.and_eq_true]
      exact ⟨h1',decide_eq_true (by omega)⟩
     rw [if_pos hb] at kk
     exact kk
end
end Hk
namespace Hk
open PySem L2 PySem.W
def IsP (H:Hp):Pap→V→Prop
 | .tied a b,v=>∃ q,v=.ref q∧H q=some (.tup [.str "tied",.int a,.int b])
 | .lost p,v=>∃ q,v=.ref q∧H q=some (.tup [.str "lost",.int p])
 | .cs x y,v=>∃ q v1 v2,v=.ref q∧H q=some (.tup [.str "cases",v1,v2])∧IsP H x v1∧IsP H y v2
theorem IsP.mono {H H':Hp} (s:Same H H'):∀ {x:Pap} {v:V},IsP H x v→IsP H' x v
 | .tied _ _,_,⟨q,e,h⟩=>⟨q,e,s _ _ h⟩
 | .lost _,_,⟨q,e,h⟩=>⟨q,e,s _ _ h⟩
 | .cs _ _,_,⟨q,v1,v2,e,h,h1,h2⟩=>⟨q,v1,v2,e,s _ _ h,IsP.mono s h1,IsP.mono s h2⟩
theorem IsP.ref {H:Hp}:∀ {x:Pap} {v:V},IsP H x v→∃ q,v=.ref q
 | .tied _ _,_,⟨q,e,_⟩=>⟨q,e⟩
 | .lost _,_,⟨q,e,_⟩=>⟨q,e⟩
 | .cs _ _,_,⟨q,_,_,e,_⟩=>⟨q,e⟩
def tellsP (H:Hp) (Q:VK):Option Pap→Prop
 | some x=>∀ (v:V) (H':Hp),Same H H'→IsP H' x v→Q v H'
 | none=>∀ H',Same H H'→Q .non H'
theorem WB.app {H H':Hp} {a t c q:Addr} {m:Int} {us:List V} {ars:List (Int×Int)} {bs:List Bool} (h:WB H a t c m us ars bs) (s:Same H H') {x:Bool} (hq:H' q=some (.tup (bs.map V.bl++[.bl x]))) (lt:(bs.length:Int) < m):WB H' a t q m us ars (bs++[x]) :=
 ⟨h.web.mono s,h.good,by rw [hq,List.map_append]; rfl,by rw [List.length_append]; show ((bs.length + 1:Nat):Int)≤m; omega⟩
theorem plG_in {m i:Int} (h0:0≤i) (h1:i < m):plG m (.int i)=true:=by
 show (decide (0≤i) && decide (i < m))=true
 simp [h0,h1]
theorem mem_tb {ars:List (Int×Int)} {bs:List Bool} {a b:Int}:(a,b)∈tbL ars bs↔(a,b)∈ars∧a∈plw bs true bs.length∧b∈plw bs true bs.length:=by
 unfold tbL both
 rw [List.mem_filter,Bool.and_eq_true,decide_eq_true_iff,decide_eq_true_iff]
theorem mem_lb {ars:List (Int×Int)} {bs:List Bool} {p:Int}:p∈lbL ars bs↔p∈outs bs∧∀ b∈ldI ars p,b∈outs bs:=by
 unfold lbL
 rw [List.mem_filter,List.all_eq_true]
 exact and_congr_right fun _=>⟨fun h b hb=>of_decide_eq_true (h b hb),fun h b hb=>decide_eq_true (h b hb)⟩
theorem thing_bls {H:Hp} {q:Addr} {bs:List Bool} (hq:H q=some (.tup (bs.map V.bl))) (hl:bs.length≤1000):Thing H (.ref q) (some (bs.map V.bl)):=by
 refine .tup hq (fun y hy=>?_) ?_
 ·obtain ⟨n,_,rfl⟩:=List.mem_map.mp hy
  exact ⟨_,.bl n⟩
 ·rw [List.length_map]
  exact Nat.le_of_lt (small1000 hl)
theorem bgG_bls {m:Int} {bs:List Bool} (h:(bs.length:Int)≤m):bgG m (some (bs.map V.bl))=true:=by
 show ((bs.map V.bl).all isB && decide (((bs.map V.bl).length:Int)≤m))=true
 rw [Bool.and_eq_true]
 refine ⟨?_,decide_eq_true (by rw [List.length_map]; exact h)⟩
 rw [List.all_map,List.all_eq_true]
 exact fun _ _=>rfl
end Hk
namespace Hk
open PySem L2 PySem.W
def inL (ns:List Int) (j:Nat):List Bool:=(List.range j).map fun (k:Nat)=>decide ((k:Int)∈ns)
theorem inL_succ (ns:List Int) (j:Nat):inL ns (j + 1)=inL ns j++[decide ((j:Int)∈ns)]:=by
 unfold inL
 rw [List.range_succ,List.map_append]
 rfl
theorem inL_len (ns:List Int) (j:Nat):(inL ns j).length=j:=by
 unfold inL
 rw [List.length_map,List.length_range]
section
variable {P:Program} {w:World} {K:Frag} {mg:Str→Option Value} {base:Heap}
end
end Hk
namespace Hk
open PySem L2 PySem.W
theorem dat_but' {H H':Hp} {p:Addr} {x:V} {T:String} (h:Dat H x T) (n:x≠.ref p) (s:SameBut p H H'):Dat H' x T:=by
 cases h with
 | non=>exact .non
 | bl b=>exact .bl b
 | int i=>exact .int i
 | str z=>exact .str z
 | lst e=>exact .lst (s _ _ (fun z=>n (by rw [z])) e)
 | tup e=>exact .tup (s _ _ (fun z=>n (by rw [z])) e)
 | dK e=>exact .dK (s _ _ (fun z=>n (by rw [z])) e)
inductive Ob (p:Addr) (m:Int) (H:Hp):V→Prop where
 | oth {v:V} {T:String} (d:Dat H v T) (n:T≠"tuple") (h:v≠.ref p):Ob p m H v
 | tup {q:Addr} {ys:List V} (hq:H q=some (.tup ys)) (ne:q≠p) (els:∀ y∈ys,(∃ T,Dat H y T)∧y≠.ref p) (l:ys.length≤1000) (bad:bgG m (some ys)=false):Ob p m H (.ref q)
theorem Ob.but {p:Addr} {m:Int} {H H':Hp} {v:V} (h:Ob p m H v) (s:SameBut p H H'):Ob p m H' v:=by
 cases h with
 | oth d n h=>exact .oth (dat_but' d h s) n h
 | tup hq ne els l bad=>exact .tup (s _ _ ne hq) ne (fun y hy=>⟨(els y hy).1.imp fun _ d=>dat_but' d (els y hy).2 s,(els y hy).2⟩) l bad
theorem Ob.mono {p:Addr} {m:Int} {H H':Hp} {v:V} (h:Ob p m H v) (s:Same H H'):Ob p m H' v:=h.but s.but
theorem Ob.thing {p:Addr} {m:Int} {H:Hp} {v:V} (h:Ob p m H v):∃ o,Thing H v o∧¬ bgG m o=true:=by
 cases h with
 | oth d n h=>exact ⟨none,.oth d n,fun z=>(nomatch z)⟩
 | tup hq ne els l bad=>exact ⟨some _,.tup hq (fun y hy=>(els y hy).1) (Nat.le_of_lt (small1000 l)),by rw [bad]; exact Bool.false_ne_true⟩
theorem bg_out {m:Int} {ys:List V} {y:V} (h:y∈ys) (hy:isB y=false):bgG m (some ys)=false:=by
 show (ys.all isB && decide ((ys.length:Int)≤m))=false
 have:ys.all isB=false:=by
  rw [Bool.eq_false_iff]
  intro z
  rw [List.all_eq_true] at z
  rw [z y h] at hy
  cases hy
 rw [this]
 rfl
def datBl (b:Bool) {H:Hp} {p:Addr}:(∃ T,Dat H (.bl b) T)∧V.bl b≠.ref p:=⟨⟨_,.bl b⟩,fun z=>(nomatch z)⟩
def datI (n:Int) {H:Hp} {p:Addr}:(∃ T,Dat H (.int n) T)∧V.int n≠.ref p:=⟨⟨_,.int n⟩,fun z=>(nomatch z)⟩
theorem pen_new' {H:Hp} {p q:Addr} (hp:PenAt H p) (hq:H q=none):q≠p:=by
 obtain ⟨_,_,_,e⟩:=hp
 exact Ne.symm (ne_of_none e hq)
section
variable {P:Program} {w:World} {K:Frag} {mg:Str→Option Value} {base:Heap}
def spOB:Sp:=fun vs H Q _=>∃ (p a t c:Addr) (m:Int) (us:List V) (ars:List (Int×Int)) (bs:List Bool),vs=[.ref p,.ref a,.ref c]∧PenAt H p∧WB H a t c m us ars bs∧m≤12∧∀ (v:V) (o:Option (List V)) (H':Hp),SameBut p H H'→PenAt H' p→Thing H' v o→¬ bgG m o=true→Q v H'
theorem kn_ob (D:DefAt K mg "_law_odd_beginning" s_law_odd_beginning ["pen","web","begun"]) (fr:Free mg ["list"]) (kd:Kn P w K mg base 2 "_law_draw" ["pen","many"] spDraw):Kn P w K mg base 3 "_law_odd_beginning" ["pen","web","begun"] spOB:=by
 have sc:FnScope ["pen","web","begun","odd"] ["pen","web","begun"] (defScope s_law_odd_beginning):=⟨rfl,rfl,rfl,by decide +kernel,rfl,by decide +kernel,by decide +kernel⟩
 refine D.kn (N:=["pen","web","begun","odd"]) sc (fun vs H Q E h=>?_) (fun f cdv A outer s H vs Q E hr h=>?_)
 ·obtain ⟨p,a,t,c,m,us,ars,bs,rfl,_⟩:=h
  rfl
 ·obtain ⟨p,a,t,q,m,us,ars,bs,rfl,hp,B,m12,kk⟩:=h
  have m_list:=fr "list" (by simp)
  refine ⟨_,(pss_cons (ps_set (i:=3) sc.nd rfl (Or.inl rfl) (pe_lst (pa_cons (pe_callTy call_list_of rfl m_list boot_tlist (pa_cons (pv 2) pa_nil)) (pa_cons (pe_op op_cat2 (pv 2) (pe_tup (pa_cons pe_non pa_nil))) (pa_cons (pe_op op_cat2 (pv 2) (pe_tup (pa_cons pe_int pa_nil))) (pa_cons (pe_op op_cat2 (pe_tup (pa_cons pe_int pa_nil)) (pv 2)) (pa_cons pe_non (pa_cons pe_bl (pa_cons pe_str (pa_cons pe_dnewK pa_nil)))))))))) (pss_one (ps_ret (pe_ix ix_list (pe_op op_cat (pv 3) (pe_lst (pa_cons (pe_op op_mulT (pe_tup (pa_cons pe_bl pa_nil)) (pe_op op_add (pe_ix ix_tup (pv 1) pe_int (fun _ _=>rfl)) pe_int)) (pa_cons (pe_tup (pa_cons pe_str pa_nil)) (pa_cons (pe_tup (pa_cons (pe_tup pa_nil) pa_nil)) (pa_cons pe_int pa_nil)))))) (pe_kn kd hr (pa_cons (pv 0) (pa_cons pe_int pa_nil))) (fun _ _=>rfl))))),?_⟩
  have c1:1≤sizeLine:=by decide
  have gl:=B.len
  have gm:=B.web.mb
  have hq:=B.at_
  have m0:0≤m:=by omega
  have cl:(bs.map V.bl).length + 1≤sizeLine:=by
   rw [List.length_map]
   exact Nat.le_of_lt (small1000 (by omega))
  have cl':1 + (bs.map V.bl).length≤sizeLine:=by omega
  have els:∀ {H1:Hp} {z y:V},((∃ T,Dat H1 z T)∧z≠.ref p)→y∈bs.map V.bl++[z]→(∃ T,Dat H1 y T)∧y≠.ref p:=fun {H1 z y} hz hy=>by
   rcases List.mem_append.mp hy with h | h
   ·obtain ⟨n,_,rfl⟩:=List.mem_map.mp h
    exact datBl n
   ·rw [List.mem_singleton] at h
    subst h
    exact hz
  -- list(begun)
  refine ⟨_,rfl,q,_,rfl,.inr (SqT.of hq),fun l0 hl0=>?_⟩
  have sA:=Same.upd (o:=.lst (bs.map V.bl)) hl0
  have o0:Ob p m (upd H l0 (.lst (bs.map V.bl))) (.ref l0):=.oth (.lst upd_same) (by decide) (fun z=>pen_new' hp hl0 (by cases z; rfl))
  have hqA:=sA _ _ hq
  have hpA:=hp.mono sA
  generalize upd H l0 (.lst (bs.map V.bl))=HA at sA o0 hqA hpA ⊢
  -- begun + (None,)
  refine ⟨_,rfl,c1,fun t1 ht1=>⟨q,t1,_,_,rfl,rfl,Same.upd ht1 _ _ hqA,upd_same,cl,fun a1 HB sB h1=>?_⟩⟩
  have sB':=(Same.upd ht1).trans sB
  have hpB:=hpA.mono sB'
  have hqB:=sB' _ _ hqA
  have o1:Ob p m HB (.ref a1):=.tup h1 (pen_tup hpB h1) (fun y hy=>els ⟨⟨_,.non⟩,fun z=>(nomatch z)⟩ hy) (by simp; omega) (bg_out (y:=.non) (by simp) rfl)
  -- begun + (1,)
  refine ⟨_,rfl,c1,fun t2 ht2=>⟨q,t2,_,_,rfl,rfl,Same.upd ht2 _ _ hqB,upd_same,cl,fun a2 HC sC h2=>?_⟩⟩
  have sC':=(Same.upd ht2).trans sC
  have hpC:=hpB.mono sC'
  have hqC:=sC' _ _ hqB
  have o2:Ob p m HC (.ref a2):=.tup h2 (pen_tup hpC h2) (fun y hy=>els (datI 1) hy) (by simp; omega) (bg_out (y:=.int 1) (by simp) rfl)
  -- (0,) + begun
  refine ⟨c1,fun t3 ht3=>⟨_,rfl,t3,q,_,_,rfl,rfl,upd_same,Same.upd ht3 _ _ hqC,cl',fun a3 HD sD h3=>?_⟩⟩
  have sD':=(Same.upd ht3).trans sD
  have hpD:=hpC.mono sD'
  have o3:Ob p m HD (.ref a3):=.tup h3 (pen_tup hpD h3) (fun y hy=>by
    rcases List.mem_append.mp hy with z | z
    ·rw [List.mem_singleton] at z
     subst z
     exact datI 0
    ·obtain ⟨n,_,rfl⟩:=List.mem_map.mp z
     exact datBl n) (by simp; omega) (bg_out (y:=.int 0) (by simp) rfl)
  -- {}
  refine fun d4 hd4=>?_
  have s4:=Same.upd (o:=.dK []) hd4
  have hpE:=hpD.mono s4
  have o4:Ob p m (upd HD d4 (.dK [])) (.ref d4):=.oth (.dK upd_same) (by decide) (fun z=>pen_new' hpD hd4 (by cases z; rfl))
  have o0E:=o0.mono (((sB'.trans sC').trans sD').trans s4)
  have o1E:=o1.mono ((sC'.trans sD').trans s4)
  have o2E:=o2.mono (sD'.trans s4)
  have o3E:=o3.mono s4
  have sE:Same H (upd HD d4 (.dK [])):=(((sA.trans sB').trans sC').trans sD').trans s4
  generalize upd HD d4 (.dK [])=HE at hpE o4 o0E o1E o2E o3E sE ⊢
  refine ⟨(by show 8≤sizeLine; decide),fun L hL=>?_⟩
  have oL:∀ v∈[V.ref l0,.ref a1,.ref a2,.ref a3,.non,.bl true,.str (Str.ofString ""),.ref d4],Ob p m HE v:=by
   intro v hv
   simp only [List.mem_cons,List.not_mem_nil,or_false] at hv
   rcases hv with rfl | rfl | rfl | rfl | rfl | rfl | rfl | rfl
   ·exact o0E
   ·exact o1E
   ·exact o2E
   ·exact o3E
   ·exact .oth .non (by decide) (fun z=>(nomatch z))
   ·exact .oth (.bl true) (by decide) (fun z=>(nomatch z))
   ·exact .oth (.str _) (by decide) (fun z=>(nomatch z))
   ·exact o4
  have hXl:[V.ref l0,.ref a1,.ref a2,.ref a3,.non,.bl true,.str (Str.ofString ""),.ref d4].length=8:=rfl
  generalize [V.ref l0,.ref a1,.ref a2,.ref a3,.non,.bl true,.str (Str.ofString ""),.ref d4]=XS at oL hXl ⊢
  have sF:Same HE (upd HE L (.lst XS)):=Same.upd hL
  have hpF:=hpE.mono sF
  have sHF:=sE.trans sF
  have hLF:(upd HE L (.lst XS)) L=some (.lst XS):=upd_same
  have oF:∀ v∈XS,Ob p m (upd HE L (.lst XS)) v:=fun v hv=>(oL v hv).mono sF
  generalize upd HE L (.lst XS)=HF at sF hpF sHF hLF oF ⊢
  have BF:=B.mono sHF
  -- (True,) * (web[0] + 1)
  refine ⟨_,rfl,c1,fun u1 hu1=>?_⟩
  have s5:=Same.upd (o:=.tup [.bl true]) hu1
  refine ⟨_,rfl,a,_,_,_,rfl,rfl,SqT.of (s5 _ _ BF.web.top),rfl,_,_,rfl,rfl,u1,m + 1,_,rfl,rfl,upd_same,by omega,by omega,(by show 1≤1000; decide),fun a5 HG sG h5=>?_⟩
  have s5G:=s5.trans sG
  have hpG:=hpF.mono s5G
  have o5:Ob p m HG (.ref a5):=by
   have l5:(List.replicate (m + 1).toNat [V.bl true]).flatten.length=(m + 1).toNat:=by rw [rep_len]; simp
   refine .tup h5 (pen_tup hpG h5) (fun y hy=>?_) (by omega) ?_
   ·obtain ⟨l,hl,hy⟩:=List.mem_flatten.mp hy
    rw [(List.mem_replicate.mp hl).2,List.mem_singleton] at hy
    subst hy
    exact datBl true
   ·show (_ && decide ((((List.replicate (m + 1).toNat [V.bl true]).flatten.length:Nat):Int)≤m))=false
    rw [decide_eq_false (by rw [l5]; omega),Bool.and_false]
  -- ('in',)
  refine ⟨c1,fun a6 h6=>?_⟩
  have s6:=Same.upd (o:=.tup [.str (Str.ofString "in")]) h6
  have hp6:=hpG.mono s6
  have o6:Ob p m (upd HG a6 (.tup [.str (Str.ofString "in")])) (.ref a6):=.tup upd_same (pen_new' hpG h6) (fun y hy=>by
    rw [List.mem_singleton] at hy
    subst hy
    exact ⟨⟨_,.str _⟩,fun z=>(nomatch z)⟩) (by show 1≤1000; decide) (bg_out (y:=.str (Str.ofString "in")) (by simp) rfl)
  -- ((),)
  refine ⟨(by show 0≤sizeLine; decide),fun e7 he7=>⟨c1,fun a7 h7=>?_⟩⟩
  have se:=Same.upd (o:=.tup []) he7
  have s7:=Same.upd (o:=.tup [.ref e7]) h7
  have hpe:=hp6.mono se
  have o7:Ob p m _ (.ref a7):=.tup upd_same (pen_new' hpe h7) (fun y hy=>by
    rw [List.mem_singleton] at hy
    subst hy
    exact ⟨⟨_,.tup (s7 _ _ upd_same)⟩,fun z=>pen_new' hp6 he7 (by cases z; rfl)⟩) (by show 1≤1000; decide) (bg_out (y:=.ref e7) (by simp) rfl)
  refine ⟨(by show 4≤sizeLine; decide),fun M hM=>?_⟩
  have sM:=Same.upd (o:=.lst [.ref a5,.ref a6,.ref a7,.int 0]) hM
  have hp7:=hpe.mono s7
  have sFM:=s5G.trans (s6.trans (se.trans (s7.trans sM)))
  refine ⟨L,M,XS,_,rfl,rfl,sFM _ _ hLF,upd_same,?_,fun N hN=>?_⟩
  ·rw [hXl]
   show 12≤sizeLine
   decide
  have sN:=Same.upd (o:=.lst (XS++[.ref a5,.ref a6,.ref a7,.int 0])) hN
  have nN:N≠p:=pen_new' (hp7.mono sM) hN
  have sMN:=sM.trans sN
  have oN:∀ v∈XS++[V.ref a5,.ref a6,.ref a7,.int 0],Ob p m (upd (upd (upd (upd (upd HG a6 (.tup [.str (Str.ofString "in")])) e7 (.tup [])) a7 (.tup [.ref e7])) M (.lst [.ref a5,.ref a6,.ref a7,.int 0])) N (.lst (XS++[.ref a5,.ref a6,.ref a7,.int 0]))) v:=by
   intro v hv
   rcases List.mem_append.mp hv with hv | hv
   ·exact (oF v hv).mono (sFM.trans sN)
   simp only [List.mem_cons,List.not_mem_nil,or_false] at hv
   rcases hv with rfl | rfl | rfl | rfl
   ·exact o5.mono (s6.trans (se.trans (s7.trans sMN)))
   ·exact o6.mono (se.trans (s7.trans sMN))
   ·exact o7.mono sMN
   ·exact .oth (.int 0) (by decide) (fun z=>(nomatch z))
  have hNN:(upd (upd (upd (upd (upd HG a6 (.tup [.str (Str.ofString "in")])) e7 (.tup [])) a7 (.tup [.ref e7])) M (.lst [.ref a5,.ref a6,.ref a7,.int 0])) N (.lst (XS++[.ref a5,.ref a6,.ref a7,.int 0]))) N=some (.lst (XS++[.ref a5,.ref a6,.ref a7,.int 0])):=upd_same
  have hpN:=(hp7.mono sM).mono sN
  have sAll:=sHF.trans (sFM.trans sN)
  generalize upd (upd (upd (upd (upd HG a6 (.tup [.str (Str.ofString "in")])) e7 (.tup [])) a7 (.tup [.ref e7])) M (.lst [.ref a5,.ref a6,.ref a7,.int 0])) N (.lst (XS++[.ref a5,.ref a6,.ref a7,.int 0]))=HN at oN hNN hpN sAll ⊢
  have hlen:(XS++[V.ref a5,.ref a6,.ref a7,.int 0]).length=12:=by rw [List.length_append,hXl]; rfl
  generalize XS++[V.ref a5,.ref a6,.ref a7,.int 0]=YS at oN hNN hlen ⊢
  refine ⟨_,rfl,p,12,rfl,hpN,by decide,by decide,fun k HO' k0 k1 sO hpO=>?_⟩
  have hkl:k.toNat < YS.length:=by rw [hlen]; omega
  refine ⟨N,_,k,YS[k.toNat],rfl,rfl,SqL.of (sO _ _ nN hNN),?_,?_⟩
  ·have ek:k=((k.toNat:Nat):Int):=by omega
   conv=>lhs; rw [ek]
   exact atI_nat (List.getElem?_eq_getElem hkl)
  ·obtain ⟨o,th,g1⟩:=((oN _ (List.getElem_mem hkl)).but sO).thing
   exact kk _ o _ (sAll.but.trans sO) hpO th g1
end
end Hk
namespace Hk
open PySem L2 PySem.W
theorem seq_invR {a R:TS} {D:Ends} {σ:St} {H:Hp} (Inv:St→Hp→Prop) (h:∀ D':Ends,D'.rt=D.rt→(∀ σ H,Inv σ H→D'.nx σ H)→a D' σ H) (hk:∀ σ H,Inv σ H→R D σ H):tSeq a R D σ H:=h _ rfl hk
section
variable {P:Program} {w:World} {K:Frag} {mg:Str→Option Value} {base:Heap}
def spBG:Sp:=fun vs H Q _=>∃ (p a t lh:Addr) (m:Int) (us:List V) (ars:List (Int×Int)) (ws:List V) (T:List (List Int)),vs=[.ref p,.ref a,.ref lh]∧PenAt H p∧Web H a t m us ars∧0≤m∧m≤12∧H lh=some (.lst ws)∧lh≠p∧Tpi H ws T∧ws.length≤4096 ∧
 ∀ (c:Addr) (bs:List Bool) (H':Hp),SameBut p H H'→PenAt H' p→H' c=some (.tup (bs.map V.bl))→(bs.length:Int)≤m→Q (.ref c) H'
theorem kn_bg (D:DefAt K mg "_law_beginning" s_law_beginning ["pen","web","holds"]) (fr:Free mg ["len","range","tuple"]) (kd:Kn P w K mg base 2 "_law_draw" ["pen","many"] spDraw):Kn P w K mg base 3 "_law_beginning" ["pen","web","holds"] spBG:=by
 have sc:FnScope ["pen","web","holds","size","hold"] ["pen","web","holds"] (defScope s_law_beginning):=⟨rfl,rfl,rfl,by decide +kernel,rfl,by decide +kernel,by decide +kernel⟩
 refine D.kn (N:=["pen","web","holds","size","hold"]) sc (fun vs H Q E h=>?_) (fun f cdv A outer s H vs Q E hr h=>?_)
 ·obtain ⟨p,a,t,lh,m,us,ars,ws,T,rfl,_⟩:=h
  rfl
 ·obtain ⟨p,a,t,lh,m,us,ars,ws,T,rfl,hp,W,m0,m12,hlh,nl,tp,lw,kk⟩:=h
  have hu:=hu_of hr
  have m_len:=fr "len" (by simp)
  have m_range:=fr "range" (by simp)
  have m_tuple:=fr "tuple" (by simp)
  have nd0:(["place","hold"]:List Str).Nodup:=by decide +kernel
  have nd1:(["place","hold"]:List Str).Nodup:=by decide +kernel
  have nd2:(["place","pen"]:List Str).Nodup:=by decide +kernel
  have nd3:(["place","pen"]:List Str).Nodup:=by decide +kernel
  refine ⟨_,(pss_cons (ps_set (i:=3) sc.nd rfl (Or.inl rfl) (pe_kn kd hr (pa_cons (pv 0) (pa_cons (pe_op op_add (pe_ix ix_tup (pv 1) pe_int (fun _ _=>rfl)) pe_int) pa_nil)))) (pss_cons (ps_if (PW.pt (pw_and (pt_cmpR (op_neNil (Nat.lt_of_succ_lt hu)) (pv 2) (pe_lst pa_nil) (nomark _)) (pw_and1 (pt_cmpR op_eq (pe_kn kd hr (pa_cons (pv 0) (pa_cons pe_int pa_nil))) pe_int (nomark _))))) (pss_cons (ps_set (i:=4) sc.nd rfl (Or.inr rfl) (pe_ix ix_list (pv 2) (pe_kn kd hr (pa_cons (pv 0) (pa_cons (pe_callB call_len_seq rfl m_len PySem.boot_len (pa_cons (pv 2) pa_nil)) pa_nil))) (fun _ _=>rfl))) (pss_one (ps_ret (pe_callTy call_tuple_of rfl m_tuple boot_ttuple (pa_cons (pe_lc (N:=["place","hold"]) (src:=[none,some 4]) rfl ⟨rfl,rfl,rfl,rfl,⟨⟨rfl,rfl⟩,trivial⟩,rfl,rfl,rfl⟩ (gown_name (i:=0) rfl) (pi_range1 rfl m_range (pa_cons (pv 3) pa_nil)) (fun C s H fp=>⟨(pg_name (i:=0) nd1 rfl (Or.inl rfl)),pifs_nil,(pe_cmpR (r:=rIn K false) op_in_seq (pv 0) (pv 1) rfl)⟩)) pa_nil))))) pss_nil) (pss_one (ps_ret (pe_callTy call_tuple_of rfl m_tuple boot_ttuple (pa_cons (pe_lc (N:=["place","pen"]) (src:=[none,some 0]) rfl ⟨rfl,rfl,rfl,rfl,⟨⟨rfl,rfl⟩,trivial⟩,rfl,rfl,rfl⟩ (gown_name (i:=0) rfl) (pi_range1 rfl m_range (pa_cons (pv 3) pa_nil)) (fun C s H fp=>⟨(pg_name (i:=0) nd3 rfl (Or.inl rfl)),pifs_nil,(pe_cmpR op_eq (pe_kn kd hr (pa_cons (pv 1) (pa_cons pe_int pa_nil))) pe_int (nomark _))⟩)) pa_nil)))))),?_⟩
  have lt:ws.length=T.length:=Paired.length tp
  refine ⟨_,rfl,_,rfl,a,_,_,_,rfl,rfl,SqT.of W.top,rfl,_,_,rfl,rfl,p,m + 1,rfl,hp,by omega,by omega,fun sz H1 z0 z1 s1 hp1=>?_⟩
  have hlh1:=s1 _ _ nl hlh
  have tp1:Tpi H1 ws T:=Paired.mapP tp fun _ _ ⟨q,e,z⟩=>⟨q,e,s1 _ _ (pen_tup hp z) z⟩
  refine gname_in ?_
  dsimp only
  refine seq_invR (a:=tIfS _ _ _) (fun σ H2=>σ=[some (.ref p),some (.ref a),some (.ref lh),some (.int sz),none]∧SameBut p H H2∧PenAt H2 p) (fun D' hrt hk=>?_) ?_
  ·refine ⟨_,rfl,(by show 0≤sizeLine; decide),fun e he=>?_⟩
   have s2:=Same.upd (o:=.lst []) he
   have s12:=s1.trans s2.but
   have hp2:=hp1.mono s2
   have hlh2:=s2 _ _ hlh1
   have tp2:=tpi_mono tp1 s2
   generalize hH2:upd H1 e (.lst [])=H2 at s2 s12 hp2 hlh2 tp2
   have he2:H2 e=some (.lst []):=by rw [← hH2]; exact upd_same
   refine ⟨lh,e,ws,rfl,rfl,SqL.of hlh2,SqL.of he2,_,rfl,ite2 (fun z=>?_) (fun z=>?_)⟩
   ·have hw:0 < ws.length:=by
     cases ws with
     | nil=>exact absurd z (by simp)
     | cons _ _=>simp
    refine ⟨_,rfl,p,2,rfl,hp2,by decide,by decide,fun r H3 _ _ s3 hp3=>⟨rfl,_,rfl,ite2 (fun _=>?_) (fun _=>?_)⟩⟩
    ·have hlh3:=s3 _ _ nl hlh2
     refine ⟨_,rfl,_,rfl,_,rfl,lh,_,rfl,.inl (SqL.of hlh3),p,_,rfl,hp3,by omega,by omega,fun r2 H4 q0 q1 s4 hp4=>?_⟩
     have hrl:r2.toNat < ws.length:=by omega
     have e1:ws[r2.toNat]?=some ws[r2.toNat]:=List.getElem?_eq_getElem hrl
     refine ⟨lh,_,r2,ws[r2.toNat],rfl,rfl,SqL.of (s4 _ _ nl hlh3),?_,?_⟩
     ·have ek:r2=((r2.toNat:Nat):Int):=by omega
      conv=>lhs; rw [ek]
      exact atI_nat e1
     generalize ws[r2.toNat]=x at e1
     obtain ⟨ns,_,q,rfl,hq⟩:=Paired.get' tp2 e1
     have hq4:=s4 _ _ (pen_tup hp3 (s3 _ _ (pen_tup hp2 hq) hq)) (s3 _ _ (pen_tup hp2 hq) hq)
     refine gname_in ?_
     dsimp only
     refine ⟨_,rfl,sz,rfl,by omega,by omega,lc_range (n:=sz.toNat) (fun j ys H5=>Same H4 H5∧ys=(inL ns j).map V.bl) ⟨Same.refl _,rfl⟩ ?_ ?_ ?_⟩
     ·rintro j ys H5 hj ⟨_,rfl⟩
      rw [List.length_map,inL_len]
      exact Nat.le_of_lt (small1000 (by omega))
     ·rintro ys H5 ⟨s5,rfl⟩ b hb
      refine ⟨b,_,rfl,.inl ⟨SqL.of upd_same,fun c hc=>?_⟩⟩
      show D'.rt (.ref c) _
      rw [show D'.rt=Q from hrt]
      refine kk c (inL ns sz.toNat) _ (((s12.trans s3).trans s4).trans (s5.trans ((Same.upd hb).trans (Same.upd hc))).but) ((hp4.mono s5).mono ((Same.upd hb).trans (Same.upd hc))) upd_same ?_
      rw [inL_len]
      omega
     ·rintro j ys H5 hj ⟨s5,rfl⟩
      refine ⟨_,rfl,_,rfl,q,_,rfl,.inr (SqT.of (s5 _ _ hq4)),rfl,all_flat_ints _,nx hj ⟨s5,?_⟩⟩
      rw [inL_succ,List.map_append]
      show _++[V.bl (inV (.int (0 + (j:Int))) (ns.map V.int))]=_
      rw [inV_int,Int.zero_add]
      rfl
    ·exact hk _ _ ⟨rfl,s12.trans s3,hp3⟩
   ·exact hk _ _ ⟨rfl,s12,hp2⟩
  ·rintro σ H2 ⟨rfl,s2,hp2⟩
   refine ⟨_,rfl,sz,rfl,by omega,by omega,lc_range (n:=sz.toNat) (fun j ys H5=>SameBut p H2 H5∧PenAt H5 p∧∃ bs:List Bool,ys=bs.map V.bl∧bs.length=j) ⟨SameBut.refl _ _,hp2,[],rfl,rfl⟩ ?_ ?_ ?_⟩
   ·rintro j ys H5 hj ⟨_,_,bs,rfl,e⟩
    rw [List.length_map,e]
    exact Nat.le_of_lt (small1000 (by omega))
   ·rintro ys H5 ⟨s5,hp5,bs,rfl,e⟩ b hb
    refine ⟨b,_,rfl,.inl ⟨SqL.of upd_same,fun c hc=>?_⟩⟩
    exact kk c bs _ ((s2.trans s5).trans ((Same.upd hb).trans (Same.upd hc)).but) (hp5.mono ((Same.upd hb).trans (Same.upd hc))) upd_same (by omega)
   ·rintro j ys H5 hj ⟨s5,hp5,bs,rfl,e⟩
    refine ⟨_,rfl,p,3,rfl,hp5,by decide,by decide,fun r H6 _ _ s6 hp6=>⟨rfl,nx hj ⟨s5.trans s6,hp6,bs++[decide (V.int r=V.int 0)],?_,?_⟩⟩⟩
    ·rw [List.map_append]
     rfl
    ·rw [List.length_append,e]
     rfl
end
end Hk
namespace Hk
open PySem L2 PySem.W
inductive TT where
 | oth | leaf (ys:List V) | cs (x y:TT)
def leafB (ars:List (Int×Int)) (bs:List Bool):List V→Bool
 | [.str w,.int i]=>decide (w=Str.ofString "lost") && decide (i∈lbL ars bs)
 | [.str w,.int i,.int j]=>decide (w=Str.ofString "tied") && decide ((i,j)∈tbL ars bs)
 | _=>false
def dueT (m:Int) (ars:List (Int×Int)):TT→List Bool→Bool
 | .oth,_=>false
 | .leaf ys,bs=>leafB ars bs ys
 | .cs x y,bs=>decide ((bs.length:Int) < m) && (dueT m ars x (bs++[true]) && dueT m ars y (bs++[false]))
def dT:TT→Nat
 | .oth=>0
 | .leaf _=>0
 | .cs x y=>max (dT x) (dT y) + 1
def IsT (p:Addr) (H:Hp):TT→V→Prop
 | .oth,v=>∃ T,Dat H v T∧T≠"tuple"∧v≠.ref p
 | .leaf ys,v=>∃ q,v=.ref q∧H q=some (.tup ys)∧q≠p∧ys.length≤10∧(∀ y∈ys,Dp p H 0 y)∧(∀ y,ys.head?=some y→(∃ i,y=.int i)∨∃ z,y=.str z)∧∀ v1 v2,ys≠[.str (Str.ofString "cases"),v1,v2]
 | .cs x y,v=>∃ q v1 v2,v=.ref q∧H q=some (.tup [.str (Str.ofString "cases"),v1,v2])∧q≠p∧IsT p H x v1∧IsT p H y v2
theorem IsT.but {p:Addr} {H H':Hp} (s:SameBut p H H'):∀ {x:TT} {v:V},IsT p H x v→IsT p H' x v
 | .oth,_,⟨T,d,n,h⟩=>⟨T,dat_but d h s,n,h⟩
 | .leaf _,_,⟨q,e,hq,ne,l,els,hd,nc⟩=>⟨q,e,s _ _ ne hq,ne,l,fun y hy=>Dp.but s (n:=0) (els y hy),hd,nc⟩
 | .cs _ _,_,⟨q,v1,v2,e,hq,ne,h1,h2⟩=>⟨q,v1,v2,e,s _ _ ne hq,ne,IsT.but s h1,IsT.but s h2⟩
theorem IsT.mono {p:Addr} {H H':Hp} (s:Same H H') {x:TT} {v:V} (h:IsT p H x v):IsT p H' x v:=h.but s.but
theorem IsT.dp {p:Addr} {H:Hp}:∀ {x:TT} {v:V},IsT p H x v→Dp p H 0 v
 | .oth,_,⟨T,d,n,h⟩=>Dp.oth (n:=0) d n h
 | .leaf _,_,⟨q,e,hq,ne,_⟩=>by subst e; exact ⟨⟨_,.tup hq⟩,fun z=>ne (by cases z; rfl)⟩
 | .cs _ _,_,⟨q,v1,v2,e,hq,ne,_⟩=>by subst e; exact ⟨⟨_,.tup hq⟩,fun z=>ne (by cases z; rfl)⟩
def topB (ars:List (Int×Int)) (bs:List Bool):TT→Bool
 | .leaf ys=>leafB ars bs ys
 | _=>false
theorem leafB_ff {m:Int} {ars:List (Int×Int)} {bs:List Bool} (ga:GoodA m ars) (gl:(bs.length:Int)≤m) {ys:List V}:FF m (tbL ars bs) (lbL ars bs) (some ys)↔leafB ars bs ys=true:=by
 constructor
 ·rintro (⟨i,j,e,_,_,_,h⟩ | ⟨i,e,_,h⟩)
  ·cases e
   simp [leafB,h]
  ·cases e
   simp [leafB,h]
 ·intro h
  unfold leafB at h
  split at h
  ·rename_i w i
   rw [Bool.and_eq_true] at h
   have h1:=of_decide_eq_true h.1
   have h2:=of_decide_eq_true h.2
   subst h1
   obtain ⟨jj,hj,_,ej⟩:=mem_outs.mp (mem_lb.mp h2).1
   exact .inr ⟨i,rfl,plG_in (by omega) (by omega),h2⟩
  ·rename_i w i j
   rw [Bool.and_eq_true] at h
   have h1:=of_decide_eq_true h.1
   have h2:=of_decide_eq_true h.2
   subst h1
   have g:=ga _ (mem_tb.mp h2).1
   exact .inl ⟨i,j,rfl,plG_in g.1 g.2.1,plG_in g.2.2.1 g.2.2.2.1,g.2.2.2.2,h2⟩
  ·cases h
def IsT0 (H:Hp):TT→V→Prop
 | .oth,v=>∃ T,Dat H v T∧T≠"tuple"
 | .leaf ys,v=>∃ q,v=.ref q∧H q=some (.tup ys)∧ys.length≤10∧(∀ y∈ys,∃ T,Dat H y T)∧(∀ y,ys.head?=some y→(∃ i,y=.int i)∨∃ z,y=.str z)∧∀ v1 v2,ys≠[.str (Str.ofString "cases"),v1,v2]
 | .cs x y,v=>∃ q v1 v2,v=.ref q∧H q=some (.tup [.str (Str.ofString "cases"),v1,v2])∧IsT0 H x v1∧IsT0 H y v2
theorem IsT.to0 {p:Addr} {H:Hp}:∀ {x:TT} {v:V},IsT p H x v→IsT0 H x v
 | .oth,_,⟨T,d,n,_⟩=>⟨T,d,n⟩
 | .leaf _,_,⟨q,e,hq,_,l,els,hd,nc⟩=>⟨q,e,hq,l,fun y hy=>(els y hy).1,hd,nc⟩
 | .cs _ _,_,⟨q,v1,v2,e,hq,_,h1,h2⟩=>⟨q,v1,v2,e,hq,IsT.to0 h1,IsT.to0 h2⟩
theorem IsT0.mono {H H':Hp} (s:Same H H'):∀ {x:TT} {v:V},IsT0 H x v→IsT0 H' x v
 | .oth,_,⟨T,d,n⟩=>⟨T,d.mono s,n⟩
 | .leaf _,_,⟨q,e,hq,l,els,hd,nc⟩=>⟨q,e,s _ _ hq,l,fun y hy=>(els y hy).imp fun _ d=>d.mono s,hd,nc⟩
 | .cs _ _,_,⟨q,v1,v2,e,hq,h1,h2⟩=>⟨q,v1,v2,e,s _ _ hq,IsT0.mono s h1,IsT0.mono s h2⟩
theorem IsT0.dat {H:Hp}:∀ {x:TT} {v:V},IsT0 H x v→∃ T,Dat H v T
 | .oth,_,⟨T,d,n⟩=>⟨T,d⟩
 | .leaf _,_,⟨q,e,hq,_⟩=>by subst e; exact ⟨_,.tup hq⟩
 | .cs _ _,_,⟨q,v1,v2,e,hq,_⟩=>by subst e; exact ⟨_,.tup hq⟩
theorem IsT0.tg {H:Hp} {m:Int} {ars:List (Int×Int)} {bs:List Bool} (ga:GoodA m ars) (gl:(bs.length:Int)≤m):∀ {x:TT} {v:V},IsT0 H x v→∃ o,Tg0 H v o∧(FF m (tbL ars bs) (lbL ars bs) o↔topB ars bs x=true)
 | .oth,_,⟨T,d,n⟩=>⟨none,.oth d n,⟨fun z=>absurd z ff_non,fun z=>(nomatch z)⟩⟩
 | .leaf ys,_,⟨q,e,hq,l,els,hd,nc⟩=>by
  subst e
  exact ⟨some ys,.tup hq (by omega) els hd,leafB_ff ga gl⟩
 | .cs x y,_,⟨q,v1,v2,e,hq,h1,h2⟩=>by
  subst e
  refine ⟨some [.str (Str.ofString "cases"),v1,v2],.tup hq (by show 3≤100; decide) (fun z hz=>?_) (fun z hz=>?_),⟨fun z=>?_,fun z=>(nomatch z)⟩⟩
  ·simp only [List.mem_cons,List.not_mem_nil,or_false] at hz
   rcases hz with rfl | rfl | rfl
   ·exact ⟨_,.str _⟩
   ·exact h1.dat
   ·exact h2.dat
  ·cases hz
   exact .inr ⟨_,rfl⟩
  ·exact absurd (ff_word z) (fun h=>h.elim (by decide) (by decide))
def ttP:Pap→TT
 | .tied a b=>.leaf [.str (Str.ofString "tied"),.int a,.int b]
 | .lost p=>.leaf [.str (Str.ofString "lost"),.int p]
 | .cs x y=>.cs (ttP x) (ttP y)
theorem dT_ttP:∀ x:Pap,dT (ttP x)=dP x
 | .tied _ _=>rfl
 | .lost _=>rfl
 | .cs x y=>by
  show max (dT (ttP x)) (dT (ttP y)) + 1=max (dP x) (dP y) + 1
  rw [dT_ttP x,dT_ttP y]
theorem isT_of_isP {p:Addr} {H:Hp} (hp:PenAt H p):∀ {x:Pap} {v:V},IsP H x v→IsT p H (ttP x) v
 | .tied a b,_,⟨q,e,h⟩=>⟨q,e,h,pen_tup hp h,by show 3≤10; decide,fun y hy=>by
   simp only [List.mem_cons,List.not_mem_nil,or_false] at hy
   rcases hy with rfl | rfl | rfl
   ·exact ⟨⟨_,.str _⟩,fun z=>(nomatch z)⟩
   ·exact ⟨⟨_,.int _⟩,fun z=>(nomatch z)⟩
   ·exact ⟨⟨_,.int _⟩,fun z=>(nomatch z)⟩,fun y hy=>by cases hy; exact .inr ⟨_,rfl⟩,fun v1 v2 z=>by cases z⟩
 | .lost i,_,⟨q,e,h⟩=>⟨q,e,h,pen_tup hp h,by show 2≤10; decide,fun y hy=>by
   simp only [List.mem_cons,List.not_mem_nil,or_false] at hy
   rcases hy with rfl | rfl
   ·exact ⟨⟨_,.str _⟩,fun z=>(nomatch z)⟩
   ·exact ⟨⟨_,.int _⟩,fun z=>(nomatch z)⟩,fun y hy=>by cases hy; exact .inr ⟨_,rfl⟩,fun v1 v2 z=>by cases z⟩
 | .cs x y,_,⟨q,v1,v2,e,h,h1,h2⟩=>⟨q,v1,v2,e,h,pen_tup hp h,isT_of_isP hp h1,isT_of_isP hp h2⟩
theorem isT0_of_isP {H:Hp}:∀ {x:Pap} {v:V},IsP H x v→IsT0 H (ttP x) v
 | .tied a b,_,⟨q,e,h⟩=>⟨q,e,h,by show 3≤10; decide,fun y hy=>by
   simp only [List.mem_cons,List.not_mem_nil,or_false] at hy
   rcases hy with rfl | rfl | rfl
   ·exact ⟨_,.str _⟩
   ·exact ⟨_,.int _⟩
   ·exact ⟨_,.int _⟩,fun y hy=>by cases hy; exact .inr ⟨_,rfl⟩,fun v1 v2 z=>by cases z⟩
 | .lost i,_,⟨q,e,h⟩=>⟨q,e,h,by show 2≤10; decide,fun y hy=>by
   simp only [List.mem_cons,List.not_mem_nil,or_false] at hy
   rcases hy with rfl | rfl
   ·exact ⟨_,.str _⟩
   ·exact ⟨_,.int _⟩,fun y hy=>by cases hy; exact .inr ⟨_,rfl⟩,fun v1 v2 z=>by cases z⟩
 | .cs x y,_,⟨q,v1,v2,e,h,h1,h2⟩=>⟨q,v1,v2,e,h,isT0_of_isP h1,isT0_of_isP h2⟩
end Hk
namespace Hk
open PySem L2 PySem.W
section
variable {P:Program} {w:World} {K:Frag} {mg:Str→Option Value} {base:Heap}
def spPT (fuel:Nat):Sp:=fun vs H Q _=>∃ (a t c:Addr) (m:Int) (us:List V) (ars:List (Int×Int)) (bs:List Bool) (v:V) (x:TT),vs=[.ref a,.ref c,v]∧WB H a t c m us ars bs∧IsT0 H x v∧dT x < fuel∧∀ H',Same H H'→Q (.bl (dueT m ars x bs)) H'
theorem kn_pt0 (D:DefAt K mg "paper_good" s_paper_good ["web","begun","thing"]):Kn P w K mg base 5 "paper_good" ["web","begun","thing"] (spPT 0):=by
 have sc:FnScope ["web","begun","thing"] ["web","begun","thing"] (defScope s_paper_good):=⟨rfl,rfl,rfl,by decide +kernel,rfl,by decide +kernel,by decide +kernel⟩
 refine D.kn (N:=["web","begun","thing"]) sc (fun vs H Q E h=>?_) (fun f cdv A outer s H vs Q E hr h=>?_)
 ·obtain ⟨a,t,c,m,us,ars,bs,v,x,rfl,_⟩:=h
  rfl
 ·obtain ⟨a,t,c,m,us,ars,bs,v,x,rfl,_,_,lt,_⟩:=h
  exact absurd lt (Nat.not_lt_zero _)
theorem kn_ptS {fuel:Nat} (D:DefAt K mg "paper_good" s_paper_good ["web","begun","thing"]) (fr:Free mg ["isinstance","len","tuple"]) (kf:Kn P w K mg base 4 "fault_good" ["web","tied","lost","thing"] spFG) (kt:Kn P w K mg base 3 "tied_begun" ["web","begun"] spTB) (kl:Kn P w K mg base 2 "lost_begun" ["web","begun"] spLB) (kg:Kn P w K mg base (fuel + 5) "paper_good" ["web","begun","thing"] (spPT fuel)):Kn P w K mg base (fuel + 5 + 1) "paper_good" ["web","begun","thing"] (spPT (fuel + 1)):=by
 have sc:FnScope ["web","begun","thing"] ["web","begun","thing"] (defScope s_paper_good):=⟨rfl,rfl,rfl,by decide +kernel,rfl,by decide +kernel,by decide +kernel⟩
 refine D.kn (N:=["web","begun","thing"]) sc (fun vs H Q E h=>?_) (fun f cdv A outer s H vs Q E hr h=>?_)
 ·obtain ⟨a,t,c,m,us,ars,bs,v,x,rfl,_⟩:=h
  rfl
 ·obtain ⟨a,t,c,m,us,ars,bs,v,x,rfl,B,it,lt,kk⟩:=h
  have hu:=hu_of hr
  have r4:=hr.mono (j:=4) (by omega)
  have r3:=hr.mono (j:=3) (by omega)
  have r2:=hr.mono (j:=2) (by omega)
  have rw':Room (fuel + 5) _:=hr
  have m_isinstance:=fr "isinstance" (by simp)
  have m_len:=fr "len" (by simp)
  have m_tuple:=fr "tuple" (by simp)
  refine ⟨_,(pss_cons (ps_if (pt_call (pe_kn kf r4 (pa_cons (pv 0) (pa_cons (pe_kn kt r3 (pa_cons (pv 0) (pa_cons (pv 1) pa_nil))) (pa_cons (pe_kn kl r2 (pa_cons (pv 0) (pa_cons (pv 1) pa_nil))) (pa_cons (pv 2) pa_nil)))))) (pss_one (ps_ret pe_bl)) pss_nil) (pss_cons (ps_if (PW.pt (pw_or (pt_not (pt_call (pe_callB call_isi rfl m_isinstance boot_isi (pa_cons (pv 2) (pa_cons (pe_bltn (v:=.ty "tuple") rfl m_tuple boot_ttuple rfl) pa_nil))))) (pw_or (pt_cmpR op_ne (pe_callB call_len_seq rfl m_len PySem.boot_len (pa_cons (pv 2) pa_nil)) pe_int (nomark _)) (pw_or (pt_cmpR op_ne (pe_ix ix_tup (pv 2) pe_int (fun _ _=>rfl)) pe_str (nomark _)) (pw_or1 (pt_cmpR op_ge (pe_callB call_len_seq rfl m_len PySem.boot_len (pa_cons (pv 1) pa_nil)) (pe_ix ix_tup (pv 0) pe_int (fun _ _=>rfl)) (nomark _))))))) (pss_one (ps_ret pe_bl)) pss_nil) (pss_one (ps_ret (pe_and (pe_kn kg rw' (pa_cons (pv 0) (pa_cons (pe_op op_cat2 (pv 1) (pe_tup (pa_cons pe_bl pa_nil))) (pa_cons (pe_ix ix_tup (pv 2) pe_int (fun _ _=>rfl)) pa_nil)))) (pe_one (pe_kn kg rw' (pa_cons (pv 0) (pa_cons (pe_op op_cat2 (pv 1) (pe_tup (pa_cons pe_bl pa_nil))) (pa_cons (pe_ix ix_tup (pv 2) pe_int (fun _ _=>rfl)) pa_nil)))))))))),?_⟩
  have c1:1≤sizeLine:=by decide
  have gl:=B.len
  have gm:=B.web.mb
  refine ⟨_,rfl,_,rfl,_,rfl,a,t,c,m,us,ars,bs,rfl,B,fun l1 ws H1 s1 h1 ar=>?_⟩
  refine ⟨_,rfl,_,rfl,a,t,c,m,us,ars,bs,rfl,B.mono s1,fun l2 H2 s2 h2=>?_⟩
  have s12:=s1.trans s2
  have B2:=B.mono s12
  have it2:=it.mono s12
  obtain ⟨o,tg,ff⟩:=it2.tg B.good gl
  refine ⟨_,rfl,a,t,m,us,ars,l1,l2,ws,tbL ars bs,lbL ars bs,v,o,rfl,B2.web,s2 _ _ h1,ar.mono s2,h2,tg,fun b H3 s3 hb=>⟨_,rfl,?_⟩⟩
  have s13:=s12.trans s3
  have B3:=B2.mono s3
  have hb:b=topB ars bs x:=by
   cases b with
   | true=>exact (ff.mp (hb.mp rfl)).symm
   | false =>
    cases hx:topB ars bs x with
    | false=>rfl
    | true=>exact absurd (hb.mpr (ff.mpr hx)) Bool.false_ne_true
  subst hb
  cases x with
  | oth =>
   obtain ⟨T,d,n⟩:=it2.mono s3
   refine iteF ⟨_,rfl,_,"tuple",_,rfl,d,by simp,_,rfl,?_⟩
   have e:kitB T "tuple"=false:=by
    unfold kitB
    simp [n]
   rw [e]
   exact iteT (kk H3 s13)
  | leaf ys =>
   obtain ⟨q,rfl,hq,ly,els,hd,nc⟩:=it2.mono s3
   refine ite2 (fun z=>?_) (fun z=>?_)
   ·have z:leafB ars bs ys=true:=z
    rw [show dueT m ars (.leaf ys) bs=leafB ars bs ys from rfl,z] at kk
    exact kk H3 s13
   ·have z:leafB ars bs ys=false:=Bool.eq_false_iff.mpr z
    rw [show dueT m ars (.leaf ys) bs=leafB ars bs ys from rfl,z] at kk
    have kk:=kk H3 s13
    refine ⟨_,rfl,_,"tuple",_,rfl,.tup hq,by simp,_,rfl,iteF ?_⟩
    refine ⟨_,rfl,q,_,rfl,.inr (SqT.of hq),rfl,_,rfl,ite2 (fun _=>kk) (fun c3=>?_)⟩
    have l3:ys.length=3:=by
     by_cases e:ys.length=3
     ·exact e
     ·exact absurd (show _=true by simp; omega) c3
    obtain ⟨w0,y1,y2,rfl⟩:∃ w0 y1 y2,ys=[w0,y1,y2]:=match ys,l3 with | [w0,y1,y2],_=>⟨w0,y1,y2,rfl⟩
    have sw:∀ z:Str,scal w0 (.str z)=true:=by
     intro z
     rcases hd w0 rfl with ⟨i,rfl⟩ | ⟨z,rfl⟩ <;> rfl
    refine ⟨_,rfl,q,_,_,w0,rfl,rfl,SqT.of hq,rfl,sw _,_,rfl,ite2 (fun _=>kk) (fun c4=>?_)⟩
    have ew:w0=.str (Str.ofString "cases"):=by
     by_cases e:w0=.str (Str.ofString "cases")
     ·exact e
     ·exact absurd (show (!decide (w0=.str (Str.ofString "cases")))=true by simp [e]) c4
    exact absurd (by rw [ew]) (nc y1 y2)
  | cs x y =>
   obtain ⟨q,v1,v2,rfl,hq3,i1,i2⟩:=it2.mono s3
   have lt:max (dT x) (dT y) + 1 < fuel + 1:=lt
   refine iteF ⟨_,rfl,_,"tuple",_,rfl,.tup hq3,by simp,_,rfl,iteF ?_⟩
   refine ⟨_,rfl,q,_,rfl,.inr (SqT.of hq3),rfl,_,rfl,iteF ?_⟩
   refine ⟨_,rfl,q,_,_,_,rfl,rfl,SqT.of hq3,rfl,rfl,_,rfl,iteF ?_⟩
   refine ⟨_,rfl,c,_,rfl,.inr (SqT.of B3.at_),_,rfl,a,_,_,_,rfl,rfl,SqT.of B3.web.top,rfl,_,m,rfl,rfl,_,rfl,ite2 (fun z=>?_) (fun z=>?_)⟩
   ·have z:m≤((bs.map V.bl).length:Int):=of_decide_eq_true z
    rw [List.length_map] at z
    have:dueT m ars (.cs x y) bs=false:=by
     show (decide ((bs.length:Int) < m) && _)=false
     rw [decide_eq_false (by omega),Bool.false_and]
    rw [this] at kk
    exact kk H3 s13
   have g1:(bs.length:Int) < m:=by
    have z:¬ m≤((bs.map V.bl).length:Int):=fun y=>z (decide_eq_true y)
    rw [List.length_map] at z
    omega
   have ed:dueT m ars (.cs x y) bs=(dueT m ars x (bs++[true]) && dueT m ars y (bs++[false])):=by
    show (decide ((bs.length:Int) < m) && _)=_
    rw [decide_eq_true g1,Bool.true_and]
   rw [ed] at kk
   refine ⟨_,rfl,_,rfl,c1,fun p1 hp1=>?_⟩
   have s4:=Same.upd (o:=.tup [.bl true]) hp1
   refine ⟨c,p1,_,_,rfl,rfl,s4 _ _ B3.at_,upd_same,?_,fun p2 H5 s5 hp2=>?_⟩
   ·rw [List.length_map]
    exact Nat.le_of_lt (small1000 (by show _ + 1≤_; omega))
   have s45:=s4.trans s5
   have hq5:=s45 _ _ hq3
   refine ⟨_,rfl,q,_,_,v1,rfl,rfl,SqT.of hq5,rfl,a,t,p2,m,us,ars,bs++[true],v1,x,rfl,B3.app s45 hp2 g1,i1.mono s45,by omega,fun H6 s6=>⟨_,rfl,?_⟩⟩
   have s46:=s45.trans s6
   cases e1:dueT m ars x (bs++[true]) with
   | false =>
    rw [e1,Bool.false_and] at kk
    exact iteF (kk _ (s13.trans s46))
   | true =>
    rw [e1,Bool.true_and] at kk
    refine iteT ?_
    have B6:=B3.mono s46
    refine ⟨_,rfl,_,rfl,c1,fun p3 hp3'=>?_⟩
    have s7:=Same.upd (o:=.tup [.bl false]) hp3'
    refine ⟨c,p3,_,_,rfl,rfl,s7 _ _ B6.at_,upd_same,?_,fun p4 H8 s8 hp4=>?_⟩
    ·rw [List.length_map]
     exact Nat.le_of_lt (small1000 (by show _ + 1≤_; omega))
    have s78:=s7.trans s8
    have s48:=s46.trans s78
    refine ⟨_,rfl,q,_,_,v2,rfl,rfl,SqT.of (s48 _ _ hq3),rfl,a,t,p4,m,us,ars,bs++[false],v2,y,rfl,B6.app s78 hp4 g1,i2.mono s48,by omega,fun H9 s9=>?_⟩
    exact kk _ (s13.trans (s48.trans s9))
theorem kn_ptA (D:DefAt K mg "paper_good" s_paper_good ["web","begun","thing"]) (fr:Free mg ["isinstance","len","tuple"]) (kf:Kn P w K mg base 4 "fault_good" ["web","tied","lost","thing"] spFG) (kt:Kn P w K mg base 3 "tied_begun" ["web","begun"] spTB) (kl:Kn P w K mg base 2 "lost_begun" ["web","begun"] spLB):∀ fuel:Nat,Kn P w K mg base (fuel + 5) "paper_good" ["web","begun","thing"] (spPT fuel)
 | 0=>kn_pt0 D
 | fuel + 1=>kn_ptS D fr kf kt kl (kn_ptA D fr kf kt kl fuel)
theorem kn_pt (D:DefAt K mg "paper_good" s_paper_good ["web","begun","thing"]) (fr:Free mg ["isinstance","len","tuple"]) (kf:Kn P w K mg base 4 "fault_good" ["web","tied","lost","thing"] spFG) (kt:Kn P w K mg base 3 "tied_begun" ["web","begun"] spTB) (kl:Kn P w K mg base 2 "lost_begun" ["web","begun"] spLB):Kn P w K mg base 20 "paper_good" ["web","begun","thing"] (spPT 15):=kn_ptA D fr kf kt kl 15
def spCGT (CN:Addr):Sp:=fun vs H Q E=>∃ (a t:Addr) (m:Int) (us:List V) (ars:List (Int×Int)) (y:V) (o:Option (List V)) (v:V) (x:TT),vs=[.ref a,y,v]∧Web H a t m us ars∧GoodA m ars∧Thing H y o∧IsT0 H x v∧dT x < 15∧(¬ bgG m o=true→∀ H',Same H H'→E (.ref CN) none H')∧(bgG m o=true→∀ bs,o=some (bs.map V.bl)→∀ H',Same H H'→Q (.bl (dueT m ars x bs)) H')
theorem bgG_is {m:Int} {ys:List V} (h:bgG m (some ys)=true):ys=(boolsOf ys).map V.bl∧((boolsOf ys).length:Int)≤m:=by
 have h:(ys.all isB && decide ((ys.length:Int)≤m))=true:=h
 rw [Bool.and_eq_true] at h
 have e:=bools_of_all h.1
 refine ⟨e,?_⟩
 have h2:=of_decide_eq_true h.2
 have:=congrArg List.length e
 rw [List.length_map] at this
 omega
theorem knx_cgt {CN:Addr} (D:DefAt K mg "cases_good" s_cases_good ["web","begun","thing"]) (kb:KnX P w K mg base 4 "refuse_no_beginning" ["web","thing"] (spRNB CN)) (kp:Kn P w K mg base 20 "paper_good" ["web","begun","thing"] (spPT 15)):KnX P w K mg base 21 "cases_good" ["web","begun","thing"] (spCGT CN):=by
 have sc:FnScope ["web","begun","thing"] ["web","begun","thing"] (defScope s_cases_good):=⟨rfl,rfl,rfl,by decide +kernel,rfl,by decide +kernel,by decide +kernel⟩
 refine D.knx (N:=["web","begun","thing"]) sc (fun vs H Q E h=>?_) (fun f cdv A outer s H vs Q E hr h=>?_)
 ·obtain ⟨a,t,m,us,ars,y,o,v,x,rfl,_⟩:=h
  rfl
 ·obtain ⟨a,t,m,us,ars,y,o,v,x,rfl,W,ga,th,it,dx,k2,k1⟩:=h
  have r4:=hr.mono (j:=4) (by decide)
  refine ⟨_,(pss_cons (ps_expr (pe_knx kb passR r4 (pa_cons (pv 0) (pa_cons (pv 1) pa_nil)))) (pss_one (ps_ret (pe_kn kp hr (pa_cons (pv 0) (pa_cons (pv 1) (pa_cons (pv 2) pa_nil))))))),?_⟩
  refine ⟨_,rfl,_,rfl,a,m,.ref t,y,o,rfl,W.top,th,fun H1 s1=>ite2 (fun h1=>?_) (fun h1=>k2 h1 H1 s1)⟩
  have kk:=k1 h1
  cases th with
  | oth d n=>exact absurd (show false=true from h1) Bool.false_ne_true
  | tup hq ty z =>
   rename_i q ys
   obtain ⟨e,el⟩:=bgG_is h1
   generalize boolsOf ys=bs at e el
   subst e
   exact ⟨_,rfl,_,rfl,_,rfl,a,t,q,m,us,ars,bs,v,x,rfl,⟨W.mono s1,ga,s1 _ _ hq,el⟩,it.mono s1,dx,fun H2 s2=>kk bs rfl H2 (s1.trans s2)⟩
end
end Hk
namespace Hk
open PySem L2 PySem.W
theorem leafB2 (ars:List (Int×Int)) (bs:List Bool) (w:Str) (i:Int):leafB ars bs [.str w,.int i]=(decide (w=Str.ofString "lost") && decide (i∈lbL ars bs)):=by simp [leafB]
theorem leafB3 (ars:List (Int×Int)) (bs:List Bool) (w:Str) (i j:Int):leafB ars bs [.str w,.int i,.int j]=(decide (w=Str.ofString "tied") && decide ((i,j)∈tbL ars bs)):=by simp [leafB]
theorem leaf_pl {m:Int} {ars:List (Int×Int)} {bs:List Bool} (ga:GoodA m ars) (gl:(bs.length:Int)≤m) {w0:V} {r:List V} (h:leafB ars bs (w0::r)=true):r.all (plG m)=true:=by
 rcases (leafB_ff ga gl).mpr h with ⟨i,j,e,h1,h2,_⟩ | ⟨i,e,h1,_⟩
 ·cases e
  simp [h1,h2]
 ·cases e
  simp [h1]
theorem leaf_len {ars:List (Int×Int)} {bs:List Bool} {ys:List V} (h:¬ (ys.length=2∨ys.length=3)):leafB ars bs ys=false:=by
 unfold leafB
 split
 ·exact absurd (.inl rfl) h
 ·exact absurd (.inr rfl) h
 ·rfl
theorem leaf_int {ars:List (Int×Int)} {bs:List Bool} {i:Int} {r:List V}:leafB ars bs (.int i::r)=false:=by
 unfold leafB
 split
 ·rename_i e
  cases e
 ·rename_i e
  cases e
 ·rfl
theorem leaf_word {ars:List (Int×Int)} {bs:List Bool} {w:Str} {r:List V} (h1:w≠Str.ofString "tied") (h2:w≠Str.ofString "lost"):leafB ars bs (.str w::r)=false:=by
 unfold leafB
 split
 ·rename_i e
  cases e
  simp [h2]
 ·rename_i e
  cases e
  simp [h1]
 ·rfl
section
variable {P:Program} {w:World} {K:Frag} {mg:Str→Option Value} {base:Heap}
theorem kn_ldt0 (D:DefAt K mg "_law_paper_due" s_law_paper_due ["web","begun","thing"]):Kn P w K mg base 2 "_law_paper_due" ["web","begun","thing"] (spPT 0):=by
 have sc:FnScope ["web","begun","thing","ins","outs"] ["web","begun","thing"] (defScope s_law_paper_due):=⟨rfl,rfl,rfl,by decide +kernel,rfl,by decide +kernel,by decide +kernel⟩
 refine D.kn (N:=["web","begun","thing","ins","outs"]) sc (fun vs H Q E h=>?_) (fun f cdv A outer s H vs Q E hr h=>?_)
 ·obtain ⟨a,t,c,m,us,ars,bs,v,x,rfl,_⟩:=h
  rfl
 ·obtain ⟨a,t,c,m,us,ars,bs,v,x,rfl,_,_,lt,_⟩:=h
  exact absurd lt (Nat.not_lt_zero _)
theorem kn_ldtS {fuel:Nat} (D:DefAt K mg "_law_paper_due" s_law_paper_due ["web","begun","thing"]) (fr:Free mg ["all","any","isinstance","len","range","str","tuple"]) (kw:Kn P w K mg base 1 "_law_whole" ["found"] spWhole) (kn:Kn P w K mg base 1 "_law_nexts" ["web","place"] spNexts) (kg:Kn P w K mg base (fuel + 2) "_law_paper_due" ["web","begun","thing"] (spPT fuel)):Kn P w K mg base (fuel + 2 + 1) "_law_paper_due" ["web","begun","thing"] (spPT (fuel + 1)):=by
 have sc:FnScope ["web","begun","thing","ins","outs"] ["web","begun","thing"] (defScope s_law_paper_due):=⟨rfl,rfl,rfl,by decide +kernel,rfl,by decide +kernel,by decide +kernel⟩
 refine D.kn (N:=["web","begun","thing","ins","outs"]) sc (fun vs H Q E h=>?_) (fun f cdv A outer s H vs Q E hr h=>?_)
 ·obtain ⟨a,t,c,m,us,ars,bs,v,x,rfl,_⟩:=h
  rfl
 ·obtain ⟨a,t,c,m,us,ars,bs,v,x,rfl,B,it,lt,kk⟩:=h
  have hu:=hu_of hr
  have r1:=hr.mono (j:=1) (by omega)
  have rw':Room (fuel + 2) _:=hr
  have m_all:=fr "all" (by simp)
  have m_any:=fr "any" (by simp)
  have m_isinstance:=fr "isinstance" (by simp)
  have m_len:=fr "len" (by simp)
  have m_range:=fr "range" (by simp)
  have m_str:=fr "str" (by simp)
  have m_tuple:=fr "tuple" (by simp)
  have nd0:(["one","web"]:List Str).Nodup:=by decide +kernel
  have nd1:(["one","web"]:List Str).Nodup:=by decide +kernel
  have nd2:(["place","begun"]:List Str).Nodup:=by decide +kernel
  have nd3:(["place","begun"]:List Str).Nodup:=by decide +kernel
  have nd4:(["b","outs"]:List Str).Nodup:=by decide +kernel
  have nd5:(["b","outs"]:List Str).Nodup:=by decide +kernel
  refine ⟨_,(pss_cons (ps_if (PW.pt (pw_or (pt_not (pt_call (pe_callB call_isi rfl m_isinstance boot_isi (pa_cons (pv 2) (pa_cons (pe_bltn (v:=.ty "tuple") rfl m_tuple boot_ttuple rfl) pa_nil))))) (pw_or (pt_cmpR op_notIn_seq (pe_callB call_len_seq rfl m_len PySem.boot_len (pa_cons (pv 2) pa_nil)) (pe_tup (pa_cons pe_int (pa_cons pe_int pa_nil))) rfl) (pw_or1 (pt_not (pt_call (pe_callB call_isi rfl m_isinstance boot_isi (pa_cons (pe_ix ix_tup (pv 2) pe_int (fun _ _=>rfl)) (pa_cons (pe_bltn (v:=.ty "str") rfl m_str boot_tstr rfl) pa_nil))))))))) (pss_one (ps_ret pe_bl)) pss_nil) (pss_cons (ps_if (pt_cmpR op_eq (pe_ix ix_tup (pv 2) pe_int (fun _ _=>rfl)) pe_str (nomark _)) (pss_cons (ps_if (PW.pt (pw_or (pt_cmpR op_ne (pe_callB call_len_seq rfl m_len PySem.boot_len (pa_cons (pv 2) pa_nil)) pe_int (nomark _)) (pw_or (pt_cmpR op_eq (pe_callB call_len_seq rfl m_len PySem.boot_len (pa_cons (pv 1) pa_nil)) (pe_ix ix_tup (pv 0) pe_int (fun _ _=>rfl)) (nomark _)) (pw_or1 (pt_not (pt_call (pe_kn kg rw' (pa_cons (pv 0) (pa_cons (pe_op op_cat2 (pv 1) (pe_tup (pa_cons pe_bl pa_nil))) (pa_cons (pe_ix ix_tup (pv 2) pe_int (fun _ _=>rfl)) pa_nil)))))))))) (pss_one (ps_ret pe_bl)) pss_nil) (pss_one (ps_ret (pe_kn kg rw' (pa_cons (pv 0) (pa_cons (pe_op op_cat2 (pv 1) (pe_tup (pa_cons pe_bl pa_nil))) (pa_cons (pe_ix ix_tup (pv 2) pe_int (fun _ _=>rfl)) pa_nil))))))) pss_nil) (pss_cons (ps_if (pt_not (pt_call (pe_callB (call_all_bl rfl) rfl m_all boot_fall (pa_cons (pe_lc (N:=["one","web"]) (src:=[none,some 0]) rfl ⟨rfl,rfl,rfl,rfl,⟨⟨rfl,rfl⟩,trivial⟩,rfl,rfl,rfl⟩ (gown_name (i:=0) rfl) (pi_tup (pe_slice sl_tup2 (pv 2) (po_some pe_int) po_none)) (fun C s H fp=>⟨(pg_name (i:=0) nd1 rfl (Or.inl rfl)),pifs_nil,(pe_and (pe_kn kw r1 (pa_cons (pv 0) pa_nil)) (pe_one (pe_chain op_le op_lt pe_int (pv 0) (pe_ix (r:=rIxT K) ix_tup (pv 1) pe_int (fun _ _=>rfl)))))⟩)) pa_nil)))) (pss_one (ps_ret pe_bl)) pss_nil) (pss_cons (ps_setlc (i:=3) (N:=["place","begun"]) (src:=[none,some 1]) sc.nd rfl rfl rfl rfl ⟨rfl,rfl,rfl,rfl,⟨⟨rfl,rfl⟩,trivial⟩,rfl,rfl,rfl⟩ (gown_name (i:=0) rfl) (pi_range1 rfl m_range (pa_cons (pe_callB call_len_seq rfl m_len PySem.boot_len (pa_cons (pv 1) pa_nil)) pa_nil)) (fun C s H fp=>⟨(pg_name (i:=0) nd2 rfl (Or.inl rfl)),(pifs_one (pt_val (pe_ix (r:=rIxT K) ix_tup (pv 1) (pv 0) (fun _ _=>rfl)))),(pv 0)⟩)) (pss_cons (ps_set (i:=4) sc.nd rfl (Or.inr rfl) (pe_lc (N:=["place","begun"]) (src:=[none,some 1]) rfl ⟨rfl,rfl,rfl,rfl,⟨⟨rfl,rfl⟩,trivial⟩,rfl,rfl,rfl⟩ (gown_name (i:=0) rfl) (pi_range1 rfl m_range (pa_cons (pe_callB call_len_seq rfl m_len PySem.boot_len (pa_cons (pv 1) pa_nil)) pa_nil)) (fun C s H fp=>⟨(pg_name (i:=0) nd3 rfl (Or.inl rfl)),(pifs_one (pt_not (pt_val (pe_ix (r:=rIxT K) ix_tup (pv 1) (pv 0) (fun _ _=>rfl))))),(pv 0)⟩))) (pss_cons (ps_if (PW.pt (pw_and (pt_cmpR op_eq (pe_ix ix_tup (pv 2) pe_int (fun _ _=>rfl)) pe_str (nomark _)) (pw_and1 (pt_cmpR op_eq (pe_callB call_len_seq rfl m_len PySem.boot_len (pa_cons (pv 2) pa_nil)) pe_int (nomark _))))) (pss_one (ps_ret (pe_and (pe_cmpR (op_inPrs hu) (pe_tup (pa_cons (pe_ix ix_tup (pv 2) pe_int (fun _ _=>rfl)) (pa_cons (pe_ix ix_tup (pv 2) pe_int (fun _ _=>rfl)) pa_nil))) (pe_ix ix_tup (pv 0) pe_int (fun _ _=>rfl)) rfl) (pe_and (pe_cmpR op_in_seq (pe_ix ix_tup (pv 2) pe_int (fun _ _=>rfl)) (pv 3) rfl) (pe_one (pe_cmpR op_in_seq (pe_ix ix_tup (pv 2) pe_int (fun _ _=>rfl)) (pv 3) rfl)))))) pss_nil) (pss_cons (ps_if (PW.pt (pw_or (pt_cmpR op_ne (pe_ix ix_tup (pv 2) pe_int (fun _ _=>rfl)) pe_str (nomark _)) (pw_or (pt_cmpR op_ne (pe_callB call_len_seq rfl m_len PySem.boot_len (pa_cons (pv 2) pa_nil)) pe_int (nomark _)) (pw_or1 (pt_cmpR op_notIn_seq (pe_ix ix_tup (pv 2) pe_int (fun _ _=>rfl)) (pv 4) rfl))))) (pss_one (ps_ret pe_bl)) pss_nil) (pss_one (ps_ret (pe_not (pe_callB (call_any_bl rfl) rfl m_any boot_fany (pa_cons (pe_lc (N:=["b","outs"]) (src:=[none,some 4]) rfl ⟨rfl,rfl,rfl,rfl,⟨⟨rfl,rfl⟩,trivial⟩,rfl,rfl,rfl⟩ (gown_name (i:=0) rfl) (pi_list (pe_kn kn r1 (pa_cons (pv 0) (pa_cons (pe_ix ix_tup (pv 2) pe_int (fun _ _=>rfl)) pa_nil)))) (fun C s H fp=>⟨(pg_name (i:=0) nd5 rfl (Or.inl rfl)),pifs_nil,(pe_cmpR (r:=rIn K true) op_notIn_seq (pv 0) (pv 1) rfl)⟩)) pa_nil)))))))))))),?_⟩
  have c1:1≤sizeLine:=by decide
  have c2:2≤sizeLine:=by decide
  have gm:=B.web.mb
  have gl:=B.len
  cases x with
  | oth =>
   obtain ⟨T,d,n⟩:=it
   refine ⟨_,rfl,_,"tuple",_,rfl,d,by simp,_,rfl,?_⟩
   have e:kitB T "tuple"=false:=by
    unfold kitB
    simp [n]
   rw [e]
   exact iteT (kk H (Same.refl _))
  | cs x y =>
   obtain ⟨q,v1,v2,rfl,hq,i1,i2⟩:=it
   have lt:max (dT x) (dT y) + 1 < fuel + 1:=lt
   refine ⟨_,rfl,_,"tuple",_,rfl,.tup hq,by simp,_,rfl,iteF ?_⟩
   refine ⟨_,rfl,q,_,rfl,.inr (SqT.of hq),(by show 2≤sizeLine; decide),fun u hu'=>?_⟩
   have s1:=Same.upd (o:=.tup [.int 2,.int 3]) hu'
   have hq1:=s1 _ _ hq
   have B1:=B.mono s1
   refine ⟨u,_,rfl,.inr (SqT.of upd_same),rfl,rfl,_,rfl,iteF ?_⟩
   generalize upd H u (.tup [.int 2,.int 3])=H3 at s1 hq1 B1 ⊢
   refine ⟨_,rfl,q,_,_,_,rfl,rfl,SqT.of hq1,atI_nat (j:=0) rfl,_,"str",_,rfl,.str _,by simp,_,rfl,iteF ?_⟩
   refine ⟨_,rfl,q,_,_,_,rfl,rfl,SqT.of hq1,rfl,rfl,_,rfl,iteT ?_⟩
   refine ⟨_,rfl,q,_,rfl,.inr (SqT.of hq1),rfl,_,rfl,iteF ?_⟩
   refine ⟨_,rfl,c,_,rfl,.inr (SqT.of B1.at_),_,rfl,a,_,_,_,rfl,rfl,SqT.of B1.web.top,rfl,rfl,_,rfl,ite2 (fun z=>?_) (fun z=>?_)⟩
   ·have z:=of_decide_eq_true z
    injection z with z
    rw [List.length_map] at z
    have:dueT m ars (.cs x y) bs=false:=by
     show (decide ((bs.length:Int) < m) && _)=false
     rw [decide_eq_false (by omega),Bool.false_and]
    rw [this] at kk
    exact kk H3 s1
   have g1:(bs.length:Int) < m:=by
    have z:¬ ((bs.map V.bl).length:Int)=m:=fun y=>z (decide_eq_true (by rw [y]))
    rw [List.length_map] at z
    omega
   have ed:dueT m ars (.cs x y) bs=(dueT m ars x (bs++[true]) && dueT m ars y (bs++[false])):=by
    show (decide ((bs.length:Int) < m) && _)=_
    rw [decide_eq_true g1,Bool.true_and]
   rw [ed] at kk
   refine ⟨_,rfl,_,rfl,c1,fun p1 hp1'=>?_⟩
   have s4:=Same.upd (o:=.tup [.bl true]) hp1'
   refine ⟨c,p1,_,_,rfl,rfl,s4 _ _ B1.at_,upd_same,?_,fun p2 H5 s5 hp2=>?_⟩
   ·rw [List.length_map]
    exact Nat.le_of_lt (small1000 (by show _ + 1≤_; omega))
   have s45:=s4.trans s5
   refine ⟨_,rfl,q,_,_,v1,rfl,rfl,SqT.of (s45 _ _ hq1),rfl,a,t,p2,m,us,ars,bs++[true],v1,x,rfl,B1.app s45 hp2 g1,(i1.mono s1).mono s45,by omega,fun H6 s6=>⟨_,rfl,?_⟩⟩
   have s46:=s45.trans s6
   cases e1:dueT m ars x (bs++[true]) with
   | false =>
    rw [e1,Bool.false_and] at kk
    exact iteT (kk _ (s1.trans s46))
   | true =>
    rw [e1,Bool.true_and] at kk
    refine iteF ?_
    have B6:=B1.mono s46
    refine ⟨_,rfl,_,rfl,c1,fun p3 hp3=>?_⟩
    have s7:=Same.upd (o:=.tup [.bl false]) hp3
    refine ⟨c,p3,_,_,rfl,rfl,s7 _ _ B6.at_,upd_same,?_,fun p4 H8 s8 hp4=>?_⟩
    ·rw [List.length_map]
     exact Nat.le_of_lt (small1000 (by show _ + 1≤_; omega))
    have s78:=s7.trans s8
    have s48:=s46.trans s78
    refine ⟨_,rfl,q,_,_,v2,rfl,rfl,SqT.of (s48 _ _ hq1),rfl,a,t,p4,m,us,ars,bs++[false],v2,y,rfl,B6.app s78 hp4 g1,(i2.mono s1).mono s48,by omega,fun H9 s9=>?_⟩
    exact kk _ (s1.trans (s48.trans s9))
  | leaf ys =>
   obtain ⟨q,rfl,hq,ly,els,hd,nc⟩:=it
   have kk:∀ H',Same H H'→Q (.bl (leafB ars bs ys)) H':=kk
   refine ⟨_,rfl,_,"tuple",_,rfl,.tup hq,by simp,_,rfl,iteF ?_⟩
   refine ⟨_,rfl,q,_,rfl,.inr (SqT.of hq),(by show 2≤sizeLine; decide),fun u hu'=>?_⟩
   have s1:=Same.upd (o:=.tup [.int 2,.int 3]) hu'
   have hq1:=s1 _ _ hq
   have B1:=B.mono s1
   refine ⟨u,_,rfl,.inr (SqT.of upd_same),rfl,rfl,_,rfl,?_⟩
   generalize upd H u (.tup [.int 2,.int 3])=H1 at s1 hq1 B1 ⊢
   show if (!inV (.int (ys.length:Nat)) ([2,3].map V.int))=true then _ else _
   rw [inV_int]
   refine ite2 (fun z=>?_) (fun z=>?_)
   ·rw [leaf_len (fun h=>by
     rcases h with h | h <;> (rw [h] at z; exact absurd z (by decide)))] at kk
    exact kk _ s1
   have len:ys.length=2∨ys.length=3:=by
    have:((ys.length:Int)∈([2,3]:List Int)):=by
     by_cases e:((ys.length:Int)∈([2,3]:List Int))
     ·exact e
     ·exact absurd (show (!decide _)=true by rw [decide_eq_false e]; rfl) z
    simp only [List.mem_cons,List.not_mem_nil,or_false] at this
    omega
   obtain ⟨w0,r,rfl⟩:∃ w0 r,ys=w0::r:=by
    cases ys with
    | nil=>exact absurd len (by decide)
    | cons w0 r=>exact ⟨w0,r,rfl⟩
   rcases hd w0 rfl with ⟨i,rfl⟩ | ⟨wd,rfl⟩
   ·refine ⟨_,rfl,q,_,_,_,rfl,rfl,SqT.of hq1,atI_nat (j:=0) rfl,_,"str",_,rfl,.int i,by simp,_,rfl,iteT ?_⟩
    rw [leaf_int] at kk
    exact kk _ s1
   refine ⟨_,rfl,q,_,_,_,rfl,rfl,SqT.of hq1,atI_nat (j:=0) rfl,_,"str",_,rfl,.str _,by simp,_,rfl,iteF ?_⟩
   refine ⟨_,rfl,q,_,_,_,rfl,rfl,SqT.of hq1,atI_nat (j:=0) rfl,rfl,_,rfl,ite2 (fun zc=>?_) (fun zc=>?_)⟩
   ·have ew:wd=Str.ofString "cases":=by
     have:=of_decide_eq_true zc
     injection this
    subst ew
    have l3:¬ (V.str (Str.ofString "cases")::r).length=3:=fun h=>by
     obtain ⟨y1,y2,rfl⟩:∃ y1 y2,r=[y1,y2]:=match r,h with | [y1,y2],_=>⟨y1,y2,rfl⟩
     exact nc y1 y2 rfl
    refine ⟨_,rfl,q,_,rfl,.inr (SqT.of hq1),rfl,_,rfl,ite2 (fun _=>?_) (fun z3=>?_)⟩
    ·rw [leaf_word (by decide) (by decide)] at kk
     exact kk _ s1
    ·exact absurd (show _=true by simp at l3 ⊢; omega) z3
   have nw:wd≠Str.ofString "cases":=fun e=>zc (decide_eq_true (by rw [e]))
   refine ⟨_,rfl,1,rfl,q,_,rfl,hq1,fun u2 H2 s2 hu2=>?_⟩
   rw [cut1W] at hu2
   replace hu2:H2 u2=some (.tup r):=hu2
   have B2:=B1.mono s2
   have hq2:=s2 _ _ hq1
   have s02:=s1.trans s2
   have rl:r.length=1∨r.length=2:=by rw [List.length_cons] at len; omega
   refine ⟨u2,rfl,⟨_,SqT.of hu2⟩,lc_tup0 (xs:=r) (fun i zs H'=>Same H2 H'∧zs=((r.take i).map (plG m)).map V.bl) ⟨Same.refl _,rfl⟩ ?_ ?_ ?_⟩
   ·rintro i zs H' hi ⟨s3,rfl⟩
    refine ⟨SqT.of (s3 _ _ hu2),?_⟩
    rw [List.length_map,List.length_map,List.length_take]
    exact Nat.le_of_lt (small1000 (by omega))
   rotate_left
   ·rintro i y zs H' h1 hi ⟨s3,rfl⟩
    obtain ⟨T,d⟩:=els y (List.mem_cons_of_mem _ (List.mem_of_getElem? h1))
    have sn:(r.take (i + 1)).map (plG m)=(r.take i).map (plG m)++[plG m y]:=by rw [take_snoc _ _ _ h1,List.map_append]; rfl
    refine ⟨_,rfl,y,T,rfl,d.mono (s02.trans s3),_,rfl,?_⟩
    cases hI:isI y with
    | false =>
     refine iteF (nx hi ⟨s3,?_⟩)
     have:plG m y=false:=by
      cases hg:plG m y with
      | false=>rfl
      | true =>
       obtain ⟨n,rfl⟩:=plG_int hg
       cases hI
     rw [sn,this,List.map_append]
     rfl
    | true =>
     obtain ⟨n,rfl⟩:=isI_int hI
     refine iteT ⟨_,rfl,0,n,rfl,rfl,_,rfl,ite2 (fun z0=>?_) (fun z0=>?_)⟩
     ·refine ⟨_,rfl,a,_,_,_,rfl,rfl,SqT.of (s3 _ _ B2.web.top),rfl,n,m,rfl,rfl,nx hi ⟨s3,?_⟩⟩
      rw [sn,show plG m (.int n)=(decide (0≤n) && decide (n < m)) from rfl,z0,Bool.true_and,List.map_append]
      rfl
     ·refine nx hi ⟨s3,?_⟩
      rw [sn,show plG m (.int n)=(decide (0≤n) && decide (n < m)) from rfl,Bool.eq_false_iff.mpr z0,Bool.false_and,List.map_append]
      rfl
   rintro zs H3 ⟨s3,rfl⟩ l3 hl3
   rw [List.take_of_length_le (Nat.le_refl _)]
   refine ⟨l3,r.map (plG m),rfl,SqL.of upd_same,_,rfl,?_⟩
   have ea:(r.map (plG m)).all id=r.all (plG m):=by rw [List.all_map]; rfl
   rw [ea]
   have s4:=Same.upd (o:=.lst ((r.map (plG m)).map V.bl)) hl3
   have s24:=s3.trans s4
   have B4:=B2.mono s24
   have hq4:=s24 _ _ hq2
   have s14:=s02.trans s24
   generalize upd H3 l3 (.lst ((r.map (plG m)).map V.bl))=H4 at s24 B4 hq4 s14 s4 ⊢
   cases hall:r.all (plG m) with
   | false =>
    have:leafB ars bs (.str wd::r)=false:=by
     cases hb:leafB ars bs (.str wd::r) with
     | false=>rfl
     | true=>rw [leaf_pl B.good gl hb] at hall; cases hall
    rw [this] at kk
    exact iteT (kk _ s14)
   | true =>
    refine iteF ?_
    rcases rl with rl | rl
    ·obtain ⟨y1,rfl⟩:∃ y1,r=[y1]:=match r,rl with | [y1],_=>⟨y1,rfl⟩
     obtain ⟨i,rfl⟩:=plG_int (show plG m y1=true by simpa using hall)
     -- ins
     refine ⟨_,rfl,c,_,rfl,.inr (SqT.of B4.at_),_,rfl,(by rw [List.length_map]; omega),(by rw [List.length_map]; omega),?_⟩
     rw [show (((bs.map V.bl).length:Nat):Int).toNat=bs.length by rw [List.length_map]; omega]
     refine lc_range (n:=bs.length) (fun j ys H5=>Same H4 H5∧ys=(plw bs true j).map V.int) ⟨Same.refl _,rfl⟩ ?_ ?_ ?_
     ·rintro j ys H5 hj ⟨_,rfl⟩
      rw [List.length_map]
      have:=plw_len bs true j
      exact Nat.le_of_lt (small1000 (by omega))
     rotate_left
     ·rintro j ys H5 hj ⟨s5,rfl⟩
      have ej:bs[j]?=some bs[j]:=List.getElem?_eq_getElem hj
      have ev:(bs.map V.bl)[j]?=some (.bl bs[j]):=by rw [List.getElem?_map,ej]; rfl
      generalize bs[j]=b at ej ev
      refine ⟨_,rfl,_,rfl,c,_,_,.bl b,rfl,rfl,SqT.of (s5 _ _ B4.at_),?_,_,rfl,?_⟩
      ·rw [Int.zero_add]
       exact atI_nat ev
      have sn:=plw_succ bs true j
      cases b with
      | true =>
       rw [if_pos ej] at sn
       refine iteT ⟨_,rfl,nx hj ⟨s5,?_⟩⟩
       rw [sn,List.map_append,Int.zero_add]
       rfl
      | false =>
       rw [if_neg (by rw [ej]; decide),List.append_nil] at sn
       refine iteF (nx hj ⟨s5,?_⟩)
       rw [sn]
     rintro ys H5 ⟨s5,rfl⟩ li hli
     have s6:=Same.upd (o:=.lst ((plw bs true bs.length).map V.int)) hli
     have s46:=s5.trans s6
     have B6:=B4.mono s46
     have hq6:=s46 _ _ hq4
     have hli6:(upd H5 li (.lst ((plw bs true bs.length).map V.int))) li=some (.lst ((plw bs true bs.length).map V.int)):=upd_same
     have s16:=s14.trans s46
     generalize upd H5 li (.lst ((plw bs true bs.length).map V.int))=H6 at s46 B6 hq6 hli6 s16 s6 ⊢
     -- outs
     refine ⟨_,rfl,c,_,rfl,.inr (SqT.of B6.at_),_,rfl,(by rw [List.length_map]; omega),(by rw [List.length_map]; omega),?_⟩
     rw [show (((bs.map V.bl).length:Nat):Int).toNat=bs.length by rw [List.length_map]; omega]
     refine lc_range (n:=bs.length) (fun j ys H5=>Same H6 H5∧ys=(plw bs false j).map V.int) ⟨Same.refl _,rfl⟩ ?_ ?_ ?_
     ·rintro j ys H5 hj ⟨_,rfl⟩
      rw [List.length_map]
      have:=plw_len bs false j
      exact Nat.le_of_lt (small1000 (by omega))
     rotate_left
     ·rintro j ys H5 hj ⟨s5,rfl⟩
      have ej:bs[j]?=some bs[j]:=List.getElem?_eq_getElem hj
      have ev:(bs.map V.bl)[j]?=some (.bl bs[j]):=by rw [List.getElem?_map,ej]; rfl
      generalize bs[j]=b at ej ev
      refine ⟨_,rfl,_,rfl,c,_,_,.bl b,rfl,rfl,SqT.of (s5 _ _ B6.at_),?_,_,rfl,?_⟩
      ·rw [Int.zero_add]
       exact atI_nat ev
      have sn:=plw_succ bs false j
      cases b with
      | false =>
       rw [if_pos ej] at sn
       refine iteT ⟨_,rfl,nx hj ⟨s5,?_⟩⟩
       rw [sn,List.map_append,Int.zero_add]
       rfl
      | true =>
       rw [if_neg (by rw [ej]; decide),List.append_nil] at sn
       refine iteF (nx hj ⟨s5,?_⟩)
       rw [sn]
     rintro ys H7 ⟨s7,rfl⟩ lo hlo
     refine gname_in ?_
     dsimp only
     have s8:=Same.upd (o:=.lst ((plw bs false bs.length).map V.int)) hlo
     have s68:=s7.trans s8
     have B8:=B6.mono s68
     have hq8:=s68 _ _ hq6
     have hli8:=s68 _ _ hli6
     have hlo8:(upd H7 lo (.lst ((plw bs false bs.length).map V.int))) lo=some (.lst ((outs bs).map V.int)):=upd_same
     have s18:=s16.trans s68
     generalize upd H7 lo (.lst ((plw bs false bs.length).map V.int))=H8 at s68 B8 hq8 hli8 hlo8 s18 s8 ⊢
     refine ⟨_,rfl,q,_,_,_,rfl,rfl,SqT.of hq8,rfl,rfl,_,rfl,ite2 (fun _=>⟨_,rfl,q,_,rfl,.inr (SqT.of hq8),rfl,_,rfl,iteF ?_⟩) (fun _=>?_)⟩
     ·refine ⟨_,rfl,q,_,_,_,rfl,rfl,SqT.of hq8,rfl,rfl,_,rfl,ite2 (fun zl=>?_) (fun zl=>?_)⟩
      ·have nl:wd≠Str.ofString "lost":=fun e=>by
        rw [e] at zl
        exact absurd zl (by decide)
       have eL:leafB ars bs [.str wd,.int i]=false:=by
        rw [leafB2,decide_eq_false nl,Bool.false_and]
       rw [eL] at kk
       exact kk _ s18
      have ew:wd=Str.ofString "lost":=by
       by_cases e:wd=Str.ofString "lost"
       ·exact e
       ·exact absurd (show (!decide (V.str wd=V.str (Str.ofString "lost")))=true by simp [e]) zl
      subst ew
      have eL:leafB ars bs [.str (Str.ofString "lost"),.int i]=(decide (i∈outs bs) && (ldI ars i).all fun b=>decide (b∈outs bs)):=by
       rw [leafB2,decide_eq_true rfl,Bool.true_and]
       cases hx:(decide (i∈outs bs) && (ldI ars i).all fun b=>decide (b∈outs bs)) with
       | true =>
        rw [Bool.and_eq_true,List.all_eq_true] at hx
        exact decide_eq_true (mem_lb.mpr ⟨of_decide_eq_true hx.1,fun b hb=>of_decide_eq_true (hx.2 b hb)⟩)
       | false =>
        refine decide_eq_false fun h=>?_
        have h:=mem_lb.mp h
        rw [Bool.eq_false_iff] at hx
        refine hx ?_
        rw [Bool.and_eq_true,List.all_eq_true]
        exact ⟨decide_eq_true h.1,fun b hb=>decide_eq_true (h.2 b hb)⟩
      rw [eL] at kk
      refine ⟨_,rfl,q,_,rfl,.inr (SqT.of hq8),rfl,_,rfl,iteF ?_⟩
      refine ⟨_,rfl,q,_,_,_,rfl,rfl,SqT.of hq8,rfl,_,rfl,lo,_,rfl,.inl (SqL.of hlo8),rfl,flat_ints _,_,rfl,?_⟩
      show if (!inV (.int i) ((outs bs).map V.int))=true then _ else _
      rw [inV_int]
      refine ite2 (fun x1=>?_) (fun x1=>?_)
      ·have x1:decide (i∈outs bs)=false:=by simpa using x1
       rw [x1,Bool.false_and] at kk
       exact kk _ s18
      have x1:decide (i∈outs bs)=true:=by simpa using x1
      rw [x1,Bool.true_and] at kk
      refine ⟨_,rfl,_,rfl,q,_,_,_,rfl,rfl,SqT.of hq8,rfl,a,t,m,us,ars,i,rfl,B8.web,fun ln H9 s9 hln=>?_⟩
      have hln:H9 ln=some (.lst ((ldI ars i).map V.int)):=hln
      have la:=ldI_len ars i
      have la2:=arsLen B.web.ars
      have la3:=B.web.len
      refine ⟨ln,rfl,⟨_,SqL.of hln⟩,lc_list0 (xs:=(ldI ars i).map V.int) (fun n ys H'=>Same H9 H'∧ys=(((ldI ars i).take n).map fun b=>!decide (b∈outs bs)).map V.bl) ⟨Same.refl _,rfl⟩ ?_ ?_ ?_⟩
      ·rintro n ys H' hn ⟨s10,rfl⟩
       refine ⟨SqL.of (s10 _ _ hln),?_⟩
       rw [List.length_map,List.length_map,List.length_take]
       exact Nat.le_of_lt (small1000 (by omega))
      ·rintro ys H' ⟨s10,rfl⟩ lz hlz
       rw [List.length_map,List.take_of_length_le (Nat.le_refl _)]
       refine ⟨lz,_,rfl,SqL.of upd_same,⟨_,rfl,?_⟩⟩
       have ea:(!(((ldI ars i).map fun b=>!decide (b∈outs bs)).any id))=(ldI ars i).all fun b=>decide (b∈outs bs):=by
        rw [List.any_map,List.all_eq_not_any_not]
        rfl
       show Q (.bl (!(((ldI ars i).map fun b=>!decide (b∈outs bs)).any id))) _
       rw [ea]
       exact kk _ (s18.trans (s9.trans (s10.trans (Same.upd hlz))))
      ·rintro n y ys H' h1 hn ⟨s10,rfl⟩
       rw [List.getElem?_map] at h1
       obtain ⟨b,e1,rfl⟩:=Option.map_eq_some_iff.mp h1
       refine ⟨_,rfl,_,rfl,lo,_,rfl,.inl (SqL.of (s10 _ _ (s9 _ _ hlo8))),rfl,all_flat_ints _,nx hn ⟨s10,?_⟩⟩
       show _++[V.bl (!inV (.int b) ((outs bs).map V.int))]=_
       rw [inV_int,take_snoc _ _ _ e1,List.map_append,List.map_append]
       rfl
     ·refine ⟨_,rfl,q,_,_,_,rfl,rfl,SqT.of hq8,rfl,rfl,_,rfl,ite2 (fun zl=>?_) (fun zl=>?_)⟩
      ·have nl:wd≠Str.ofString "lost":=fun e=>by
        rw [e] at zl
        exact absurd zl (by decide)
       have eL:leafB ars bs [.str wd,.int i]=false:=by
        rw [leafB2,decide_eq_false nl,Bool.false_and]
       rw [eL] at kk
       exact kk _ s18
      have ew:wd=Str.ofString "lost":=by
       by_cases e:wd=Str.ofString "lost"
       ·exact e
       ·exact absurd (show (!decide (V.str wd=V.str (Str.ofString "lost")))=true by simp [e]) zl
      subst ew
      have eL:leafB ars bs [.str (Str.ofString "lost"),.int i]=(decide (i∈outs bs) && (ldI ars i).all fun b=>decide (b∈outs bs)):=by
       rw [leafB2,decide_eq_true rfl,Bool.true_and]
       cases hx:(decide (i∈outs bs) && (ldI ars i).all fun b=>decide (b∈outs bs)) with
       | true =>
        rw [Bool.and_eq_true,List.all_eq_true] at hx
        exact decide_eq_true (mem_lb.mpr ⟨of_decide_eq_true hx.1,fun b hb=>of_decide_eq_true (hx.2 b hb)⟩)
       | false =>
        refine decide_eq_false fun h=>?_
        have h:=mem_lb.mp h
        rw [Bool.eq_false_iff] at hx
        refine hx ?_
        rw [Bool.and_eq_true,List.all_eq_true]
        exact ⟨decide_eq_true h.1,fun b hb=>decide_eq_true (h.2 b hb)⟩
      rw [eL] at kk
      refine ⟨_,rfl,q,_,rfl,.inr (SqT.of hq8),rfl,_,rfl,iteF ?_⟩
      refine ⟨_,rfl,q,_,_,_,rfl,rfl,SqT.of hq8,rfl,_,rfl,lo,_,rfl,.inl (SqL.of hlo8),rfl,flat_ints _,_,rfl,?_⟩
      show if (!inV (.int i) ((outs bs).map V.int))=true then _ else _
      rw [inV_int]
      refine ite2 (fun x1=>?_) (fun x1=>?_)
      ·have x1:decide (i∈outs bs)=false:=by simpa using x1
       rw [x1,Bool.false_and] at kk
       exact kk _ s18
      have x1:decide (i∈outs bs)=true:=by simpa using x1
      rw [x1,Bool.true_and] at kk
      refine ⟨_,rfl,_,rfl,q,_,_,_,rfl,rfl,SqT.of hq8,rfl,a,t,m,us,ars,i,rfl,B8.web,fun ln H9 s9 hln=>?_⟩
      have hln:H9 ln=some (.lst ((ldI ars i).map V.int)):=hln
      have la:=ldI_len ars i
      have la2:=arsLen B.web.ars
      have la3:=B.web.len
      refine ⟨ln,rfl,⟨_,SqL.of hln⟩,lc_list0 (xs:=(ldI ars i).map V.int) (fun n ys H'=>Same H9 H'∧ys=(((ldI ars i).take n).map fun b=>!decide (b∈outs bs)).map V.bl) ⟨Same.refl _,rfl⟩ ?_ ?_ ?_⟩
      ·rintro n ys H' hn ⟨s10,rfl⟩
       refine ⟨SqL.of (s10 _ _ hln),?_⟩
       rw [List.length_map,List.length_map,List.length_take]
       exact Nat.le_of_lt (small1000 (by omega))
      ·rintro ys H' ⟨s10,rfl⟩ lz hlz
       rw [List.length_map,List.take_of_length_le (Nat.le_refl _)]
       refine ⟨lz,_,rfl,SqL.of upd_same,⟨_,rfl,?_⟩⟩
       have ea:(!(((ldI ars i).map fun b=>!decide (b∈outs bs)).any id))=(ldI ars i).all fun b=>decide (b∈outs bs):=by
        rw [List.any_map,List.all_eq_not_any_not]
        rfl
       show Q (.bl (!(((ldI ars i).map fun b=>!decide (b∈outs bs)).any id))) _
       rw [ea]
       exact kk _ (s18.trans (s9.trans (s10.trans (Same.upd hlz))))
      ·rintro n y ys H' h1 hn ⟨s10,rfl⟩
       rw [List.getElem?_map] at h1
       obtain ⟨b,e1,rfl⟩:=Option.map_eq_some_iff.mp h1
       refine ⟨_,rfl,_,rfl,lo,_,rfl,.inl (SqL.of (s10 _ _ (s9 _ _ hlo8))),rfl,all_flat_ints _,nx hn ⟨s10,?_⟩⟩
       show _++[V.bl (!inV (.int b) ((outs bs).map V.int))]=_
       rw [inV_int,take_snoc _ _ _ e1,List.map_append,List.map_append]
       rfl
    ·obtain ⟨y1,y2,rfl⟩:∃ y1 y2,r=[y1,y2]:=match r,rl with | [y1,y2],_=>⟨y1,y2,rfl⟩
     have h12:plG m y1=true∧plG m y2=true:=by simpa using hall
     obtain ⟨i,rfl⟩:=plG_int h12.1
     obtain ⟨j,rfl⟩:=plG_int h12.2
     -- ins
     refine ⟨_,rfl,c,_,rfl,.inr (SqT.of B4.at_),_,rfl,(by rw [List.length_map]; omega),(by rw [List.length_map]; omega),?_⟩
     rw [show (((bs.map V.bl).length:Nat):Int).toNat=bs.length by rw [List.length_map]; omega]
     refine lc_range (n:=bs.length) (fun j ys H5=>Same H4 H5∧ys=(plw bs true j).map V.int) ⟨Same.refl _,rfl⟩ ?_ ?_ ?_
     ·rintro j ys H5 hj ⟨_,rfl⟩
      rw [List.length_map]
      have:=plw_len bs true j
      exact Nat.le_of_lt (small1000 (by omega))
     rotate_left
     ·rintro j ys H5 hj ⟨s5,rfl⟩
      have ej:bs[j]?=some bs[j]:=List.getElem?_eq_getElem hj
      have ev:(bs.map V.bl)[j]?=some (.bl bs[j]):=by rw [List.getElem?_map,ej]; rfl
      generalize bs[j]=b at ej ev
      refine ⟨_,rfl,_,rfl,c,_,_,.bl b,rfl,rfl,SqT.of (s5 _ _ B4.at_),?_,_,rfl,?_⟩
      ·rw [Int.zero_add]
       exact atI_nat ev
      have sn:=plw_succ bs true j
      cases b with
      | true =>
       rw [if_pos ej] at sn
       refine iteT ⟨_,rfl,nx hj ⟨s5,?_⟩⟩
       rw [sn,List.map_append,Int.zero_add]
       rfl
      | false =>
       rw [if_neg (by rw [ej]; decide),List.append_nil] at sn
       refine iteF (nx hj ⟨s5,?_⟩)
       rw [sn]
     rintro ys H5 ⟨s5,rfl⟩ li hli
     have s6:=Same.upd (o:=.lst ((plw bs true bs.length).map V.int)) hli
     have s46:=s5.trans s6
     have B6:=B4.mono s46
     have hq6:=s46 _ _ hq4
     have hli6:(upd H5 li (.lst ((plw bs true bs.length).map V.int))) li=some (.lst ((plw bs true bs.length).map V.int)):=upd_same
     have s16:=s14.trans s46
     generalize upd H5 li (.lst ((plw bs true bs.length).map V.int))=H6 at s46 B6 hq6 hli6 s16 s6 ⊢
     -- outs
     refine ⟨_,rfl,c,_,rfl,.inr (SqT.of B6.at_),_,rfl,(by rw [List.length_map]; omega),(by rw [List.length_map]; omega),?_⟩
     rw [show (((bs.map V.bl).length:Nat):Int).toNat=bs.length by rw [List.length_map]; omega]
     refine lc_range (n:=bs.length) (fun j ys H5=>Same H6 H5∧ys=(plw bs false j).map V.int) ⟨Same.refl _,rfl⟩ ?_ ?_ ?_
     ·rintro j ys H5 hj ⟨_,rfl⟩
      rw [List.length_map]
      have:=plw_len bs false j
      exact Nat.le_of_lt (small1000 (by omega))
     rotate_left
     ·rintro j ys H5 hj ⟨s5,rfl⟩
      have ej:bs[j]?=some bs[j]:=List.getElem?_eq_getElem hj
      have ev:(bs.map V.bl)[j]?=some (.bl bs[j]):=by rw [List.getElem?_map,ej]; rfl
      generalize bs[j]=b at ej ev
      refine ⟨_,rfl,_,rfl,c,_,_,.bl b,rfl,rfl,SqT.of (s5 _ _ B6.at_),?_,_,rfl,?_⟩
      ·rw [Int.zero_add]
       exact atI_nat ev
      have sn:=plw_succ bs false j
      cases b with
      | false =>
       rw [if_pos ej] at sn
       refine iteT ⟨_,rfl,nx hj ⟨s5,?_⟩⟩
       rw [sn,List.map_append,Int.zero_add]
       rfl
      | true =>
       rw [if_neg (by rw [ej]; decide),List.append_nil] at sn
       refine iteF (nx hj ⟨s5,?_⟩)
       rw [sn]
     rintro ys H7 ⟨s7,rfl⟩ lo hlo
     refine gname_in ?_
     dsimp only
     have s8:=Same.upd (o:=.lst ((plw bs false bs.length).map V.int)) hlo
     have s68:=s7.trans s8
     have B8:=B6.mono s68
     have hq8:=s68 _ _ hq6
     have hli8:=s68 _ _ hli6
     have hlo8:(upd H7 lo (.lst ((plw bs false bs.length).map V.int))) lo=some (.lst ((outs bs).map V.int)):=upd_same
     have s18:=s16.trans s68
     generalize upd H7 lo (.lst ((plw bs false bs.length).map V.int))=H8 at s68 B8 hq8 hli8 hlo8 s18 s8 ⊢
     refine ⟨_,rfl,q,_,_,_,rfl,rfl,SqT.of hq8,rfl,rfl,_,rfl,ite2 (fun zt=>?_) (fun zt=>?_)⟩
     ·have ew:wd=Str.ofString "tied":=by
       have:=of_decide_eq_true zt
       injection this
      subst ew
      refine ⟨_,rfl,q,_,rfl,.inr (SqT.of hq8),rfl,_,rfl,iteT ?_⟩
      have eL:leafB ars bs [.str (Str.ofString "tied"),.int i,.int j]=(decide ((i,j)∈ars) && (decide (i∈plw bs true bs.length) && decide (j∈plw bs true bs.length))):=by
       rw [leafB3,decide_eq_true rfl,Bool.true_and,decide_eq_decide.mpr (mem_tb (ars:=ars) (bs:=bs) (a:=i) (b:=j)),Bool.decide_and,Bool.decide_and]
      rw [eL] at kk
      refine ⟨_,rfl,q,_,_,_,rfl,rfl,SqT.of hq8,rfl,_,rfl,q,_,_,_,rfl,rfl,SqT.of hq8,rfl,c2,fun z hz=>?_⟩
      have s9:=Same.upd (o:=.tup [.int i,.int j]) hz
      have B9:=B8.mono s9
      have hq9:=s9 _ _ hq8
      have hli9:=s9 _ _ hli8
      have kk:=kk _ (s18.trans s9)
      refine ⟨_,rfl,a,_,_,_,rfl,rfl,SqT.of B9.web.top,rfl,z,t,(i,j),us,ars,rfl,rfl,upd_same,B9.web.arr,B9.web.ars,_,rfl,ite2 (fun x1=>?_) (fun x1=>?_)⟩
      ·rw [x1,Bool.true_and] at kk
       refine ⟨_,rfl,q,_,_,_,rfl,rfl,SqT.of hq9,rfl,_,rfl,li,_,rfl,.inl (SqL.of hli9),rfl,flat_ints _,_,rfl,?_⟩
       show if inV (.int i) ((plw bs true bs.length).map V.int)=true then _ else _
       rw [inV_int]
       refine ite2 (fun x2=>?_) (fun x2=>?_)
       ·rw [x2,Bool.true_and] at kk
        refine ⟨_,rfl,q,_,_,_,rfl,rfl,SqT.of hq9,rfl,_,rfl,li,_,rfl,.inl (SqL.of hli9),rfl,flat_ints _,?_⟩
        show Q (.bl (inV (.int j) ((plw bs true bs.length).map V.int))) _
        rw [inV_int]
        exact kk
       ·rw [Bool.eq_false_iff.mpr x2,Bool.false_and] at kk
        exact kk
      ·rw [Bool.eq_false_iff.mpr x1,Bool.false_and] at kk
       exact kk
     ·have nt:wd≠Str.ofString "tied":=fun e=>zt (decide_eq_true (by rw [e]))
      have eL:leafB ars bs [.str wd,.int i,.int j]=false:=by
       rw [leafB3,decide_eq_false nt,Bool.false_and]
      rw [eL] at kk
      have kk:=kk _ s18
      refine ⟨_,rfl,q,_,_,_,rfl,rfl,SqT.of hq8,rfl,rfl,_,rfl,ite2 (fun _=>kk) (fun _=>?_)⟩
      exact ⟨_,rfl,q,_,rfl,.inr (SqT.of hq8),rfl,_,rfl,iteT kk⟩
theorem kn_ldtA (D:DefAt K mg "_law_paper_due" s_law_paper_due ["web","begun","thing"]) (fr:Free mg ["all","any","isinstance","len","range","str","tuple"]) (kw:Kn P w K mg base 1 "_law_whole" ["found"] spWhole) (kn:Kn P w K mg base 1 "_law_nexts" ["web","place"] spNexts):∀ fuel:Nat,Kn P w K mg base (fuel + 2) "_law_paper_due" ["web","begun","thing"] (spPT fuel)
 | 0=>kn_ldt0 D
 | fuel + 1=>kn_ldtS D fr kw kn (kn_ldtA D fr kw kn fuel)
theorem kn_ldt (D:DefAt K mg "_law_paper_due" s_law_paper_due ["web","begun","thing"]) (fr:Free mg ["all","any","isinstance","len","range","str","tuple"]) (kw:Kn P w K mg base 1 "_law_whole" ["found"] spWhole) (kn:Kn P w K mg base 1 "_law_nexts" ["web","place"] spNexts):Kn P w K mg base 17 "_law_paper_due" ["web","begun","thing"] (spPT 15):=kn_ldtA D fr kw kn 15
end
end Hk
namespace Hk
open PySem L2 PySem.W
theorem filt_first {α:Type} {f:α→Bool} {l:List α} {i:Nat} {x:α} (h:l[i]?=some x) (h0:(l.take i).filter f=[]) (hx:f x=true):∃ r,l.filter f=x::r:=by
 have hi:=(List.getElem?_eq_some_iff.mp h).1
 refine ⟨(l.drop (i + 1)).filter f,?_⟩
 conv=>lhs; rw [← List.take_append_drop i l]
 rw [List.filter_append,h0,List.nil_append,List.drop_eq_getElem_cons hi,(List.getElem?_eq_some_iff.mp h).2,List.filter_cons,if_pos hx]
theorem pF_some {ars:List (Int×Int)} {bs:List Bool} {x:Pap} (h:fbP ars bs=some x):∀ k,pF ars k bs=some x
 | 0=>h
 | k + 1=>by
  unfold pF
  rw [h]
section
variable {P:Program} {w:World} {K:Frag} {mg:Str→Option Value} {base:Heap}
def spPF (fuel:Nat):Sp:=fun vs H Q _=>∃ (a t c:Addr) (m:Int) (us:List V) (ars:List (Int×Int)) (bs:List Bool),vs=[.ref a,.ref c]∧WB H a t c m us ars bs∧m.toNat - bs.length < fuel∧tellsP H Q (pF ars (m.toNat - bs.length) bs)
theorem kn_po0 (D:DefAt K mg "_law_paper_of" s_law_paper_of ["web","begun"]):Kn P w K mg base 2 "_law_paper_of" ["web","begun"] (spPF 0):=by
 have sc:FnScope ["web","begun","ins","outs","a","b","place","first","second"] ["web","begun"] (defScope s_law_paper_of):=⟨rfl,rfl,rfl,by decide +kernel,rfl,by decide +kernel,by decide +kernel⟩
 refine D.kn (N:=["web","begun","ins","outs","a","b","place","first","second"]) sc (fun vs H Q E h=>?_) (fun f cdv A outer s H vs Q E hr h=>?_)
 ·obtain ⟨a,t,c,m,us,ars,bs,rfl,_⟩:=h
  rfl
 ·obtain ⟨a,t,c,m,us,ars,bs,rfl,_,lt,_⟩:=h
  exact absurd lt (Nat.not_lt_zero _)
theorem kn_poS {fuel:Nat} (D:DefAt K mg "_law_paper_of" s_law_paper_of ["web","begun"]) (fr:Free mg ["any","len","range"]) (kn:Kn P w K mg base 1 "_law_nexts" ["web","place"] spNexts) (kg:Kn P w K mg base (fuel + 2) "_law_paper_of" ["web","begun"] (spPF fuel)):Kn P w K mg base (fuel + 2 + 1) "_law_paper_of" ["web","begun"] (spPF (fuel + 1)):=by
 have sc:FnScope ["web","begun","ins","outs","a","b","place","first","second"] ["web","begun"] (defScope s_law_paper_of):=⟨rfl,rfl,rfl,by decide +kernel,rfl,by decide +kernel,by decide +kernel⟩
 refine D.kn (N:=["web","begun","ins","outs","a","b","place","first","second"]) sc (fun vs H Q E h=>?_) (fun f cdv A outer s H vs Q E hr h=>?_)
 ·obtain ⟨a,t,c,m,us,ars,bs,rfl,_⟩:=h
  rfl
 ·obtain ⟨a,t,c,m,us,ars,bs,rfl,B,lt,kk⟩:=h
  have r1:=hr.mono (j:=1) (by omega)
  have rw':Room (fuel + 2) _:=hr
  have m_any:=fr "any" (by simp)
  have m_len:=fr "len" (by simp)
  have m_range:=fr "range" (by simp)
  have nd0:(["place","begun"]:List Str).Nodup:=by decide +kernel
  have nd1:(["place","begun"]:List Str).Nodup:=by decide +kernel
  have nd2:(["b","outs"]:List Str).Nodup:=by decide +kernel
  have nd3:(["b","outs"]:List Str).Nodup:=by decide +kernel
  refine ⟨_,(pss_cons (ps_setlc (i:=2) (N:=["place","begun"]) (src:=[none,some 1]) sc.nd rfl rfl rfl rfl ⟨rfl,rfl,rfl,rfl,⟨⟨rfl,rfl⟩,trivial⟩,rfl,rfl,rfl⟩ (gown_name (i:=0) rfl) (pi_range1 rfl m_range (pa_cons (pe_callB call_len_seq rfl m_len PySem.boot_len (pa_cons (pv 1) pa_nil)) pa_nil)) (fun C s H fp=>⟨(pg_name (i:=0) nd0 rfl (Or.inl rfl)),(pifs_one (pt_val (pe_ix (r:=rIxT K) ix_tup (pv 1) (pv 0) (fun _ _=>rfl)))),(pv 0)⟩)) (pss_cons (ps_set (i:=3) sc.nd rfl (Or.inr rfl) (pe_lc (N:=["place","begun"]) (src:=[none,some 1]) rfl ⟨rfl,rfl,rfl,rfl,⟨⟨rfl,rfl⟩,trivial⟩,rfl,rfl,rfl⟩ (gown_name (i:=0) rfl) (pi_range1 rfl m_range (pa_cons (pe_callB call_len_seq rfl m_len PySem.boot_len (pa_cons (pv 1) pa_nil)) pa_nil)) (fun C s H fp=>⟨(pg_name (i:=0) nd1 rfl (Or.inl rfl)),(pifs_one (pt_not (pt_val (pe_ix (r:=rIxT K) ix_tup (pv 1) (pv 0) (fun _ _=>rfl))))),(pv 0)⟩))) (pss_cons (ps_for PassesOwn.never rfl (pi_tup (pe_ix ix_tup (pv 0) pe_int (fun _ _=>rfl))) (pg_tup (n:=2) rfl (pgs_cons (pg_name (i:=4) sc.nd rfl (Or.inl rfl)) (pgs_cons (pg_name (i:=5) sc.nd rfl (Or.inl rfl)) pgs_nil))) (pss_one (ps_if (PW.pt (pw_and (pt_cmpR op_in_seq (pv 4) (pv 2) rfl) (pw_and1 (pt_cmpR op_in_seq (pv 5) (pv 2) rfl)))) (pss_one (ps_ret (pe_tup (pa_cons pe_str (pa_cons (pv 4) (pa_cons (pv 5) pa_nil)))))) pss_nil))) (pss_cons (ps_for PassesOwn.never rfl (pi_list (pv 3)) (pg_name (i:=6) sc.nd rfl (Or.inl rfl)) (pss_one (ps_if (pt_not (pt_call (pe_callB (call_any_bl rfl) rfl m_any boot_fany (pa_cons (pe_lc (N:=["b","outs"]) (src:=[none,some 3]) rfl ⟨rfl,rfl,rfl,rfl,⟨⟨rfl,rfl⟩,trivial⟩,rfl,rfl,rfl⟩ (gown_name (i:=0) rfl) (pi_list (pe_kn kn r1 (pa_cons (pv 0) (pa_cons (pv 6) pa_nil)))) (fun C s H fp=>⟨(pg_name (i:=0) nd3 rfl (Or.inl rfl)),pifs_nil,(pe_cmpR (r:=rIn K true) op_notIn_seq (pv 0) (pv 1) rfl)⟩)) pa_nil)))) (pss_one (ps_ret (pe_tup (pa_cons pe_str (pa_cons (pv 6) pa_nil))))) pss_nil))) (pss_cons (ps_if (pt_cmpR op_eq (pe_callB call_len_seq rfl m_len PySem.boot_len (pa_cons (pv 1) pa_nil)) (pe_ix ix_tup (pv 0) pe_int (fun _ _=>rfl)) (nomark _)) (pss_one (ps_ret pe_non)) pss_nil) (pss_cons (ps_set (i:=7) sc.nd rfl (Or.inl rfl) (pe_kn kg rw' (pa_cons (pv 0) (pa_cons (pe_op op_cat2 (pv 1) (pe_tup (pa_cons pe_bl pa_nil))) pa_nil)))) (pss_cons (ps_if (pt_cmpR op_isN (pv 7) pe_non (nomark _)) (pss_one (ps_ret pe_non)) pss_nil) (pss_cons (ps_set (i:=8) sc.nd rfl (Or.inl rfl) (pe_kn kg rw' (pa_cons (pv 0) (pa_cons (pe_op op_cat2 (pv 1) (pe_tup (pa_cons pe_bl pa_nil))) pa_nil)))) (pss_cons (ps_if (pt_cmpR op_isN (pv 8) pe_non (nomark _)) (pss_one (ps_ret pe_non)) pss_nil) (pss_one (ps_ret (pe_tup (pa_cons pe_str (pa_cons (pv 7) (pa_cons (pv 8) pa_nil))))))))))))))),?_⟩
  have c1:1≤sizeLine:=by decide
  have c2:2≤sizeLine:=by decide
  have c3:3≤sizeLine:=by decide
  have gl:=B.len
  have gm:=B.web.mb
  have B4:=B
  have hq4:=B.at_
  have s14:Same H H:=Same.refl _
  -- ins
  refine ⟨_,rfl,c,_,rfl,.inr (SqT.of B4.at_),_,rfl,(by rw [List.length_map]; omega),(by rw [List.length_map]; omega),?_⟩
  rw [show (((bs.map V.bl).length:Nat):Int).toNat=bs.length by rw [List.length_map]; omega]
  refine lc_range (n:=bs.length) (fun j ys H5=>Same H H5∧ys=(plw bs true j).map V.int) ⟨Same.refl _,rfl⟩ ?_ ?_ ?_
  ·rintro j ys H5 hj ⟨_,rfl⟩
   rw [List.length_map]
   have:=plw_len bs true j
   exact Nat.le_of_lt (small1000 (by omega))
  rotate_left
  ·rintro j ys H5 hj ⟨s5,rfl⟩
   have ej:bs[j]?=some bs[j]:=List.getElem?_eq_getElem hj
   have ev:(bs.map V.bl)[j]?=some (.bl bs[j]):=by rw [List.getElem?_map,ej]; rfl
   generalize bs[j]=b at ej ev
   refine ⟨_,rfl,_,rfl,c,_,_,.bl b,rfl,rfl,SqT.of (s5 _ _ B4.at_),?_,_,rfl,?_⟩
   ·rw [Int.zero_add]
    exact atI_nat ev
   have sn:=plw_succ bs true j
   cases b with
   | true =>
    rw [if_pos ej] at sn
    refine iteT ⟨_,rfl,nx hj ⟨s5,?_⟩⟩
    rw [sn,List.map_append,Int.zero_add]
    rfl
   | false =>
    rw [if_neg (by rw [ej]; decide),List.append_nil] at sn
    refine iteF (nx hj ⟨s5,?_⟩)
    rw [sn]
  rintro ys H5 ⟨s5,rfl⟩ li hli
  have s6:=Same.upd (o:=.lst ((plw bs true bs.length).map V.int)) hli
  have s46:=s5.trans s6
  have B6:=B4.mono s46
  have hq6:=s46 _ _ hq4
  have hli6:(upd H5 li (.lst ((plw bs true bs.length).map V.int))) li=some (.lst ((plw bs true bs.length).map V.int)):=upd_same
  have s16:=s14.trans s46
  generalize upd H5 li (.lst ((plw bs true bs.length).map V.int))=H6 at s46 B6 hq6 hli6 s16 s6 ⊢
  -- outs
  refine ⟨_,rfl,c,_,rfl,.inr (SqT.of B6.at_),_,rfl,(by rw [List.length_map]; omega),(by rw [List.length_map]; omega),?_⟩
  rw [show (((bs.map V.bl).length:Nat):Int).toNat=bs.length by rw [List.length_map]; omega]
  refine lc_range (n:=bs.length) (fun j ys H5=>Same H6 H5∧ys=(plw bs false j).map V.int) ⟨Same.refl _,rfl⟩ ?_ ?_ ?_
  ·rintro j ys H5 hj ⟨_,rfl⟩
   rw [List.length_map]
   have:=plw_len bs false j
   exact Nat.le_of_lt (small1000 (by omega))
  rotate_left
  ·rintro j ys H5 hj ⟨s5,rfl⟩
   have ej:bs[j]?=some bs[j]:=List.getElem?_eq_getElem hj
   have ev:(bs.map V.bl)[j]?=some (.bl bs[j]):=by rw [List.getElem?_map,ej]; rfl
   generalize bs[j]=b at ej ev
   refine ⟨_,rfl,_,rfl,c,_,_,.bl b,rfl,rfl,SqT.of (s5 _ _ B6.at_),?_,_,rfl,?_⟩
   ·rw [Int.zero_add]
    exact atI_nat ev
   have sn:=plw_succ bs false j
   cases b with
   | false =>
    rw [if_pos ej] at sn
    refine iteT ⟨_,rfl,nx hj ⟨s5,?_⟩⟩
    rw [sn,List.map_append,Int.zero_add]
    rfl
   | true =>
    rw [if_neg (by rw [ej]; decide),List.append_nil] at sn
    refine iteF (nx hj ⟨s5,?_⟩)
    rw [sn]
  rintro ys H7 ⟨s7,rfl⟩ lo hlo
  refine gname_in ?_
  dsimp only
  have s8:=Same.upd (o:=.lst ((plw bs false bs.length).map V.int)) hlo
  have s68:=s7.trans s8
  have B8:=B6.mono s68
  have hq8:=s68 _ _ hq6
  have hli8:=s68 _ _ hli6
  have hlo8:(upd H7 lo (.lst ((plw bs false bs.length).map V.int))) lo=some (.lst ((outs bs).map V.int)):=upd_same
  have s18:=s16.trans s68
  generalize upd H7 lo (.lst ((plw bs false bs.length).map V.int))=H8 at s68 B8 hq8 hli8 hlo8 s18 s8 ⊢
  refine ⟨_,rfl,a,_,_,_,rfl,rfl,SqT.of B8.web.top,rfl,t,rfl,⟨_,SqT.of B8.web.arr⟩,for_tup (K:=K) (xs:=us) (fun i σ H9=>∃ v4 v5:Option V,σ=[some (.ref a),some (.ref c),some (.ref li),some (.ref lo),v4,v5,none,none,none]∧Same H8 H9∧(ars.take i).filter (both (plw bs true bs.length))=[]) ⟨none,none,rfl,Same.refl _,rfl⟩ (fun i σ H2 _ ⟨_,_,_,s2,_⟩=>SqT.of (s2 _ _ B8.web.arr)) ?_ ?_⟩
  ·rintro i y σ H9 hi ⟨v4,v5,rfl,s9,hn⟩
   obtain ⟨z,e1,r,rfl,hr'⟩:=Paired.get' B8.web.ars hi
   have nb:both (plw bs true bs.length) z=false→(ars.take (i + 1)).filter (both (plw bs true bs.length))=[]:=fun hb=>by
    rw [take_snoc _ _ _ e1,List.filter_append,hn]
    simp [hb]
   refine ⟨r,_,rfl,SqT.of (s9 _ _ hr'),rfl,_,_,rfl,_,_,rfl,rfl,_,rfl,_,rfl,li,_,rfl,.inl (SqL.of (s9 _ _ hli8)),rfl,flat_ints _,_,rfl,?_⟩
   show if inV (.int z.1) ((plw bs true bs.length).map V.int)=true then _ else _
   rw [inV_int]
   refine ite2 (fun h1=>?_) (fun h1=>?_)
   ·refine ⟨_,rfl,_,rfl,li,_,rfl,.inl (SqL.of (s9 _ _ hli8)),rfl,flat_ints _,_,rfl,?_⟩
    show if inV (.int z.2) ((plw bs true bs.length).map V.int)=true then _ else _
    rw [inV_int]
    refine ite2 (fun h2=>?_) (fun h2=>?_)
    ·refine ⟨_,rfl,_,rfl,c3,fun zz hzz=>?_⟩
     have hb:both (plw bs true bs.length) z=true:=by unfold both; rw [h1,h2]; rfl
     obtain ⟨rr,er⟩:=filt_first e1 hn hb
     have ef:fbP ars bs=some (.tied z.1 z.2):=by
      unfold fbP
      rw [show tbL ars bs=z::rr from er]
      rfl
     rw [pF_some ef] at kk
     exact kk (.ref zz) _ (s18.trans (s9.trans (Same.upd hzz))) ⟨zz,rfl,upd_same⟩
    ·exact ⟨_,_,rfl,s9,nb (by unfold both; rw [Bool.eq_false_iff.mpr h2,Bool.and_false])⟩
   ·exact ⟨_,_,rfl,s9,nb (by unfold both; rw [Bool.eq_false_iff.mpr h1,Bool.false_and])⟩
  rintro σ H9 ⟨v4,v5,rfl,s9,hn⟩
  rw [arsLen B.web.ars,List.take_of_length_le (Nat.le_refl _)] at hn
  have et:tbL ars bs=[]:=hn
  have B9:=B8.mono s9
  have hlo9:=s9 _ _ hlo8
  have lou:(outs bs).length≤bs.length:=plw_len bs false bs.length
  refine ⟨_,rfl,lo,rfl,⟨_,SqL.of hlo9⟩,for_list (K:=K) (xs:=(outs bs).map V.int) (fun i σ H10=>∃ v6:Option V,σ=[some (.ref a),some (.ref c),some (.ref li),some (.ref lo),v4,v5,v6,none,none]∧Same H9 H10∧((outs bs).take i).filter (fun p=>(ldI ars p).all fun b=>decide (b∈outs bs))=[]) ⟨none,rfl,Same.refl _,rfl⟩ (fun i σ H2 _ ⟨_,_,s2,_⟩=>SqL.of (s2 _ _ hlo9)) ?_ ?_⟩
  ·rintro i y σ H10 hi ⟨v6,rfl,s10,hf⟩
   rw [List.getElem?_map] at hi
   obtain ⟨pl,e1,rfl⟩:=Option.map_eq_some_iff.mp hi
   have B10:=B9.mono s10
   refine ⟨_,rfl,_,rfl,a,t,m,us,ars,pl,rfl,B10.web,fun ln H11 s11 hln=>?_⟩
   have hln:H11 ln=some (.lst ((ldI ars pl).map V.int)):=hln
   have la:=ldI_len ars pl
   have la2:=arsLen B.web.ars
   have la3:=B.web.len
   refine ⟨ln,rfl,⟨_,SqL.of hln⟩,lc_list0 (xs:=(ldI ars pl).map V.int) (fun n ys H'=>Same H11 H'∧ys=(((ldI ars pl).take n).map fun b=>!decide (b∈outs bs)).map V.bl) ⟨Same.refl _,rfl⟩ ?_ ?_ ?_⟩
   ·rintro n ys H' hn' ⟨s12,rfl⟩
    refine ⟨SqL.of (s12 _ _ hln),?_⟩
    rw [List.length_map,List.length_map,List.length_take]
    exact Nat.le_of_lt (small1000 (by omega))
   ·rintro ys H' ⟨s12,rfl⟩ lz hlz
    rw [List.length_map,List.take_of_length_le (Nat.le_refl _)]
    refine ⟨lz,_,rfl,SqL.of upd_same,_,rfl,?_⟩
    have ea:(!(((ldI ars pl).map fun b=>!decide (b∈outs bs)).any id))=(ldI ars pl).all fun b=>decide (b∈outs bs):=by
     rw [List.any_map,List.all_eq_not_any_not]
     rfl
    have s913:=s10.trans (s11.trans (s12.trans (Same.upd (o:=.lst (((ldI ars pl).map fun b=>!decide (b∈outs bs)).map V.bl)) hlz)))
    show if (!(((ldI ars pl).map fun b=>!decide (b∈outs bs)).any id))=true then _ else _
    rw [ea]
    refine ite2 (fun x1=>?_) (fun x1=>?_)
    ·refine ⟨_,rfl,c2,fun zz hzz=>?_⟩
     obtain ⟨rr,er⟩:=filt_first e1 hf x1
     have ef:fbP ars bs=some (.lost pl):=by
      unfold fbP
      rw [et,show lbL ars bs=pl::rr from er]
      rfl
     rw [pF_some ef] at kk
     exact kk (.ref zz) _ (s18.trans (s9.trans (s913.trans (Same.upd hzz)))) ⟨zz,rfl,upd_same⟩
    ·refine ⟨_,rfl,s913,?_⟩
     rw [take_snoc _ _ _ e1,List.filter_append,hf]
     simp only [List.nil_append,List.filter_cons,List.filter_nil]
     rw [if_neg x1]
   ·rintro n y ys H' h1 hn' ⟨s12,rfl⟩
    rw [List.getElem?_map] at h1
    obtain ⟨b,e2,rfl⟩:=Option.map_eq_some_iff.mp h1
    refine ⟨_,rfl,_,rfl,lo,_,rfl,.inl (SqL.of (s12 _ _ (s11 _ _ (s10 _ _ hlo9)))),rfl,all_flat_ints _,nx hn' ⟨s12,?_⟩⟩
    show _++[V.bl (!inV (.int b) ((outs bs).map V.int))]=_
    rw [inV_int,take_snoc _ _ _ e2,List.map_append,List.map_append]
    rfl
  rintro σ H1 ⟨v6,rfl,s10,hf⟩
  rw [List.length_map,List.take_of_length_le (Nat.le_refl _)] at hf
  have e:fbP ars bs=none:=by
   unfold fbP
   rw [et,show lbL ars bs=[] from hf]
   rfl
  have s1:Same H H1:=s18.trans (s9.trans s10)
  have B1:=B.mono s1
  refine ⟨_,rfl,c,_,rfl,.inr (SqT.of B1.at_),_,rfl,a,_,_,_,rfl,rfl,SqT.of B1.web.top,rfl,rfl,_,rfl,ite2 (fun z=>?_) (fun z=>?_)⟩
  ·have z:((bs.map V.bl).length:Int)=m:=by
    have:=of_decide_eq_true z
    injection this
   rw [List.length_map] at z
   rw [show m.toNat - bs.length=0 by omega] at kk
   rw [show pF ars 0 bs=none from e] at kk
   exact kk H1 s1
  ·have z:¬ ((bs.map V.bl).length:Int)=m:=fun y=>z (decide_eq_true (by rw [y]))
   rw [List.length_map] at z
   have lt':(bs.length:Int) < m:=by omega
   obtain ⟨k,ek⟩:∃ k,m.toNat - bs.length=k + 1:=⟨m.toNat - bs.length - 1,by omega⟩
   have ek1:∀ x:Bool,m.toNat - (bs++[x]).length=k:=fun x=>by
    rw [List.length_append]
    show m.toNat - (bs.length + 1)=k
    omega
   rw [ek] at kk
   unfold pF at kk
   rw [e] at kk
   dsimp only at kk
   refine ⟨_,rfl,_,rfl,c1,fun p1 hp1=>?_⟩
   have s2:=Same.upd (o:=.tup [.bl true]) hp1
   refine ⟨c,p1,_,_,rfl,rfl,s2 _ _ B1.at_,upd_same,?_,fun p2 H3 s3 hp2=>?_⟩
   ·rw [List.length_map]
    exact Nat.le_of_lt (small1000 (by show _ + 1≤_; omega))
   have s23:=s2.trans s3
   refine ⟨a,t,p2,m,us,ars,bs++[true],rfl,B1.app s23 hp2 lt',by rw [ek1]; omega,?_⟩
   rw [ek1]
   cases e1:pF ars k (bs++[true]) with
   | none =>
    intro H4 s4
    rw [e1] at kk
    dsimp only at kk
    exact ⟨_,rfl,rfl,_,rfl,iteT (kk H4 (s1.trans (s23.trans s4)))⟩
   | some x =>
    rw [e1] at kk
    dsimp only at kk
    intro v H4 s4 ip
    obtain ⟨q1,rfl⟩:=ip.ref
    refine ⟨_,rfl,rfl,_,rfl,iteF ?_⟩
    have s14:=s23.trans s4
    have B4:=B1.mono s14
    refine ⟨_,rfl,_,rfl,c1,fun p3 hp3=>?_⟩
    have s5:=Same.upd (o:=.tup [.bl false]) hp3
    refine ⟨c,p3,_,_,rfl,rfl,s5 _ _ B4.at_,upd_same,?_,fun p4 H6 s6 hp4=>?_⟩
    ·rw [List.length_map]
     exact Nat.le_of_lt (small1000 (by show _ + 1≤_; omega))
    have s56:=s5.trans s6
    refine ⟨a,t,p4,m,us,ars,bs++[false],rfl,B4.app s56 hp4 lt',by rw [ek1]; omega,?_⟩
    rw [ek1]
    cases e2:pF ars k (bs++[false]) with
    | none =>
     intro H7 s7
     rw [e2] at kk
     dsimp only at kk
     exact ⟨_,rfl,rfl,_,rfl,iteT (kk H7 (s1.trans (s14.trans (s56.trans s7))))⟩
    | some y =>
     rw [e2] at kk
     dsimp only at kk
     intro v2 H7 s7 ip2
     obtain ⟨q2,rfl⟩:=ip2.ref
     refine ⟨_,rfl,rfl,_,rfl,iteF ?_⟩
     refine ⟨_,rfl,_,rfl,c3,fun z hz=>?_⟩
     have s8:=Same.upd (o:=.tup [.str "cases",.ref q1,.ref q2]) hz
     exact kk (.ref z) _ (s1.trans (s14.trans (s56.trans (s7.trans s8)))) ⟨z,.ref q1,.ref q2,rfl,upd_same,ip.mono (s56.trans (s7.trans s8)),ip2.mono s8⟩
theorem kn_poA (D:DefAt K mg "_law_paper_of" s_law_paper_of ["web","begun"]) (fr:Free mg ["any","len","range"]) (kn:Kn P w K mg base 1 "_law_nexts" ["web","place"] spNexts):∀ fuel:Nat,Kn P w K mg base (fuel + 2) "_law_paper_of" ["web","begun"] (spPF fuel)
 | 0=>kn_po0 D
 | fuel + 1=>kn_poS D fr kn (kn_poA D fr kn fuel)
theorem kn_po (D:DefAt K mg "_law_paper_of" s_law_paper_of ["web","begun"]) (fr:Free mg ["any","len","range"]) (kn:Kn P w K mg base 1 "_law_nexts" ["web","place"] spNexts):Kn P w K mg base 15 "_law_paper_of" ["web","begun"] (spPF 13):=kn_poA D fr kn 13
end
end Hk
namespace Hk
open PySem L2 PySem.W
def scalV:V→Bool
 | .non=>true
 | .bl _=>true
 | .int _=>true
 | .str _=>true
 | _=>false
theorem scal_dp {p:Addr} {H:Hp}:∀ {y:V},scalV y=true→Dp p H 0 y
 | .non,_=>⟨⟨_,.non⟩,fun z=>(nomatch z)⟩
 | .bl b,_=>⟨⟨_,.bl b⟩,fun z=>(nomatch z)⟩
 | .int i,_=>⟨⟨_,.int i⟩,fun z=>(nomatch z)⟩
 | .str x,_=>⟨⟨_,.str x⟩,fun z=>(nomatch z)⟩
def headOk:List V→Bool
 | []=>true
 | .int _::_=>true
 | .str _::_=>true
 | _=>false
def AnyT (p:Addr) (H:Hp) (v:V):Prop:=∃ x,IsT p H x v∧dT x≤1
theorem AnyT.but {p:Addr} {H H':Hp} (s:SameBut p H H') {v:V} (h:AnyT p H v):AnyT p H' v:=h.imp fun _ z=>⟨z.1.but s,z.2⟩
theorem AnyT.mono {p:Addr} {H H':Hp} (s:Same H H') {v:V} (h:AnyT p H v):AnyT p H' v:=h.but s.but
theorem isLeaf {p q:Addr} {H:Hp} {ys:List V} (hp:PenAt H p) (hq:H q=some (.tup ys)) (hs:(ys.all scalV && decide (ys.length≤10))=true) (hh:headOk ys=true) (nc:∀ v1 v2,ys≠[.str (Str.ofString "cases"),v1,v2]):IsT p H (.leaf ys) (.ref q):=by
 rw [Bool.and_eq_true,List.all_eq_true] at hs
 refine ⟨q,rfl,hq,pen_tup hp hq,of_decide_eq_true hs.2,fun y hy=>scal_dp (hs.1 y hy),fun y hy=>?_,nc⟩
 cases ys with
 | nil=>cases hy
 | cons z r =>
  cases hy
  cases y with
  | int i=>exact .inl ⟨i,rfl⟩
  | str x=>exact .inr ⟨x,rfl⟩
  | _=>cases hh
theorem anyLeaf {p q:Addr} {H:Hp} {ys:List V} (hp:PenAt H p) (hq:H q=some (.tup ys)) (hs:(ys.all scalV && decide (ys.length≤10))=true) (hh:headOk ys=true) (nc:∀ v1 v2,ys≠[.str (Str.ofString "cases"),v1,v2]):AnyT p H (.ref q):=⟨.leaf ys,isLeaf hp hq hs hh nc,Nat.zero_le _⟩
theorem anyOth {p:Addr} {H:Hp} {v:V} {T:String} (d:Dat H v T) (n:T≠"tuple") (h:v≠.ref p):AnyT p H v:=⟨.oth,⟨T,d,n,h⟩,Nat.zero_le _⟩
theorem lostLeaf {p q:Addr} {H:Hp} {a:Int} (n:q≠p) (h:H q=some (.tup [.str (Str.ofString "lost"),.int a])):IsT p H (.leaf [.str (Str.ofString "lost"),.int a]) (.ref q) :=
 ⟨q,rfl,h,n,by show 2≤10; decide,fun y hy=>by
   simp only [List.mem_cons,List.not_mem_nil,or_false] at hy
   rcases hy with rfl | rfl
   ·exact scal_dp rfl
   ·exact scal_dp rfl,fun y hy=>by cases hy; exact .inr ⟨_,rfl⟩,fun v1 v2 z=>by cases z⟩
theorem anyCs {p q q1 q2:Addr} {H:Hp} {a b:Int} (n:q≠p) (h:H q=some (.tup [.str (Str.ofString "cases"),.ref q1,.ref q2])) (n1:q1≠p) (h1:H q1=some (.tup [.str (Str.ofString "lost"),.int a])) (n2:q2≠p) (h2:H q2=some (.tup [.str (Str.ofString "lost"),.int b])):AnyT p H (.ref q) :=
 ⟨.cs (.leaf [.str (Str.ofString "lost"),.int a]) (.leaf [.str (Str.ofString "lost"),.int b]),⟨q,.ref q1,.ref q2,rfl,h,n,lostLeaf n1 h1,lostLeaf n2 h2⟩,by show max 0 0 + 1≤1; decide⟩
section
variable {P:Program} {w:World} {K:Frag} {mg:Str→Option Value} {base:Heap}
def spLeaf:Sp:=fun vs H Q _=>∃ (p a t:Addr) (m:Int) (us:List V) (ars:List (Int×Int)),vs=[.ref p,.ref a]∧PenAt H p∧Web H a t m us ars∧1≤m∧m≤12∧∀ (v:V) (x:TT) (H':Hp),SameBut p H H'→PenAt H' p→IsT p H' x v→dT x≤1→Q v H'
theorem kn_leaf (D:DefAt K mg "_law_leaf" s_law_leaf ["pen","web"]) (kd:Kn P w K mg base 2 "_law_draw" ["pen","many"] spDraw):Kn P w K mg base 3 "_law_leaf" ["pen","web"] spLeaf:=by
 have sc:FnScope ["pen","web","a","b","odd"] ["pen","web"] (defScope s_law_leaf):=⟨rfl,rfl,rfl,by decide +kernel,rfl,by decide +kernel,by decide +kernel⟩
 refine D.kn (N:=["pen","web","a","b","odd"]) sc (fun vs H Q E h=>?_) (fun f cdv A outer s H vs Q E hr h=>?_)
 ·obtain ⟨p,a,t,m,us,ars,rfl,_⟩:=h
  rfl
 ·obtain ⟨p,a,t,m,us,ars,rfl,hp0,W0,m1,m12,kk⟩:=h
  refine ⟨_,(pss_cons (ps_set (i:=2) sc.nd rfl (Or.inl rfl) (pe_kn kd hr (pa_cons (pv 0) (pa_cons (pe_ix ix_tup (pv 1) pe_int (fun _ _=>rfl)) pa_nil)))) (pss_cons (ps_set (i:=3) sc.nd rfl (Or.inl rfl) (pe_kn kd hr (pa_cons (pv 0) (pa_cons (pe_ix ix_tup (pv 1) pe_int (fun _ _=>rfl)) pa_nil)))) (pss_cons (ps_set (i:=4) sc.nd rfl (Or.inl rfl) (pe_lst (pa_cons (pe_tup (pa_cons pe_str (pa_cons (pv 2) pa_nil))) (pa_cons (pe_tup (pa_cons pe_str (pa_cons (pv 2) (pa_cons (pv 3) pa_nil)))) (pa_cons (pe_tup (pa_cons pe_str (pa_cons (pe_ix ix_tup (pv 1) pe_int (fun _ _=>rfl)) pa_nil))) (pa_cons (pe_tup (pa_cons pe_str (pa_cons pe_bl pa_nil))) (pa_cons (pe_tup (pa_cons pe_str (pa_cons (pv 2) pa_nil))) (pa_cons (pe_tup (pa_cons pe_str (pa_cons (pv 2) (pa_cons (pv 3) pa_nil)))) pa_nil)))))))) (pss_cons (ps_set (i:=4) sc.nd rfl (Or.inl rfl) (pe_op op_cat (pv 4) (pe_lst (pa_cons (pe_lst (pa_cons pe_str (pa_cons (pv 2) pa_nil))) (pa_cons pe_non (pa_cons (pe_tup (pa_cons pe_str (pa_cons (pe_tup (pa_cons pe_str (pa_cons (pv 2) pa_nil))) (pa_cons (pe_tup (pa_cons pe_str (pa_cons (pv 3) pa_nil))) pa_nil)))) (pa_cons (pe_tup (pa_cons pe_str (pa_cons (pv 2) pa_nil))) (pa_cons (pe_tup pa_nil) (pa_cons pe_str (pa_cons pe_int pa_nil)))))))))) (pss_one (ps_ret (pe_ix ix_list (pe_op op_cat (pv 4) (pe_lst (pa_cons (pe_tup (pa_cons pe_str (pa_cons (pv 2) (pa_cons (pe_un un_neg pe_int) pa_nil)))) (pa_cons (pe_tup (pa_cons pe_str pa_nil)) (pa_cons (pe_tup (pa_cons (pv 2) (pa_cons (pv 3) pa_nil))) pa_nil))))) (pe_kn kd hr (pa_cons (pv 0) (pa_cons pe_int pa_nil))) (fun _ _=>rfl)))))))),?_⟩
  have c0:0≤sizeLine:=by decide
  have c1:1≤sizeLine:=by decide
  have c2:2≤sizeLine:=by decide
  have c3:3≤sizeLine:=by decide
  refine ⟨_,rfl,_,rfl,a,_,_,_,rfl,rfl,SqT.of W0.top,rfl,p,m,rfl,hp0,by omega,by omega,fun r1 H1 _ _ s01 hp1=>?_⟩
  have W1:=Hk.Web.but W0 hp0 s01
  refine ⟨_,rfl,_,rfl,a,_,_,_,rfl,rfl,SqT.of W1.top,rfl,p,m,rfl,hp1,by omega,by omega,fun r2 H2 _ _ s02 hp2=>?_⟩
  have W2:=Hk.Web.but W1 hp1 s02
  refine ⟨_,rfl,c2,fun q1 h1=>?_⟩
  have s1:=Same.upd (o:=.tup [.str (Str.ofString "lost"),.int r1]) h1
  have e1:(upd H2 q1 (.tup [.str (Str.ofString "lost"),.int r1])) q1=some (.tup [.str (Str.ofString "lost"),.int r1]):=upd_same
  have n1:=newp hp2 h1
  have hp_1:=hp2.mono s1
  have W_1:=W2.mono s1
  generalize upd H2 q1 (.tup [.str (Str.ofString "lost"),.int r1])=G1 at s1 e1 hp_1 W_1 ⊢
  refine ⟨_,rfl,_,rfl,c3,fun q2 h2=>?_⟩
  have s2:=Same.upd (o:=.tup [.str (Str.ofString "tied"),.int r1,.int r2]) h2
  have e2:(upd G1 q2 (.tup [.str (Str.ofString "tied"),.int r1,.int r2])) q2=some (.tup [.str (Str.ofString "tied"),.int r1,.int r2]):=upd_same
  have n2:=newp hp_1 h2
  have hp_2:=hp_1.mono s2
  have W_2:=W_1.mono s2
  generalize upd G1 q2 (.tup [.str (Str.ofString "tied"),.int r1,.int r2])=G2 at s2 e2 hp_2 W_2 ⊢
  refine ⟨_,rfl,a,_,_,_,rfl,rfl,SqT.of W_2.top,rfl,c2,fun q3 h3=>?_⟩
  have s3:=Same.upd (o:=.tup [.str (Str.ofString "lost"),.int m]) h3
  have e3:(upd G2 q3 (.tup [.str (Str.ofString "lost"),.int m])) q3=some (.tup [.str (Str.ofString "lost"),.int m]):=upd_same
  have n3:=newp hp_2 h3
  have hp_3:=hp_2.mono s3
  have W_3:=W_2.mono s3
  generalize upd G2 q3 (.tup [.str (Str.ofString "lost"),.int m])=G3 at s3 e3 hp_3 W_3 ⊢
  refine ⟨c2,fun q4 h4=>?_⟩
  have s4:=Same.upd (o:=.tup [.str (Str.ofString "lost"),.bl true]) h4
  have e4:(upd G3 q4 (.tup [.str (Str.ofString "lost"),.bl true])) q4=some (.tup [.str (Str.ofString "lost"),.bl true]):=upd_same
  have n4:=newp hp_3 h4
  have hp_4:=hp_3.mono s4
  have W_4:=W_3.mono s4
  generalize upd G3 q4 (.tup [.str (Str.ofString "lost"),.bl true])=G4 at s4 e4 hp_4 W_4 ⊢
  refine ⟨_,rfl,c2,fun q5 h5=>?_⟩
  have s5:=Same.upd (o:=.tup [.str (Str.ofString "tied"),.int r1]) h5
  have e5:(upd G4 q5 (.tup [.str (Str.ofString "tied"),.int r1])) q5=some (.tup [.str (Str.ofString "tied"),.int r1]):=upd_same
  have n5:=newp hp_4 h5
  have hp_5:=hp_4.mono s5
  have W_5:=W_4.mono s5
  generalize upd G4 q5 (.tup [.str (Str.ofString "tied"),.int r1])=G5 at s5 e5 hp_5 W_5 ⊢
  refine ⟨_,rfl,_,rfl,c3,fun q6 h6=>?_⟩
  have s6:=Same.upd (o:=.tup [.str (Str.ofString "lost"),.int r1,.int r2]) h6
  have e6:(upd G5 q6 (.tup [.str (Str.ofString "lost"),.int r1,.int r2])) q6=some (.tup [.str (Str.ofString "lost"),.int r1,.int r2]):=upd_same
  have n6:=newp hp_5 h6
  have hp_6:=hp_5.mono s6
  have W_6:=W_5.mono s6
  generalize upd G5 q6 (.tup [.str (Str.ofString "lost"),.int r1,.int r2])=G6 at s6 e6 hp_6 W_6 ⊢
  refine ⟨(by show 6≤sizeLine; decide),fun q7 h7=>?_⟩
  have s7:=Same.upd (o:=.lst [.ref q1,.ref q2,.ref q3,.ref q4,.ref q5,.ref q6]) h7
  have e7:(upd G6 q7 (.lst [.ref q1,.ref q2,.ref q3,.ref q4,.ref q5,.ref q6])) q7=some (.lst [.ref q1,.ref q2,.ref q3,.ref q4,.ref q5,.ref q6]):=upd_same
  have n7:=newp hp_6 h7
  have hp_7:=hp_6.mono s7
  have W_7:=W_6.mono s7
  generalize upd G6 q7 (.lst [.ref q1,.ref q2,.ref q3,.ref q4,.ref q5,.ref q6])=G7 at s7 e7 hp_7 W_7 ⊢
  refine ⟨_,rfl,_,rfl,c2,fun q8 h8=>?_⟩
  have s8:=Same.upd (o:=.lst [.str (Str.ofString "lost"),.int r1]) h8
  have e8:(upd G7 q8 (.lst [.str (Str.ofString "lost"),.int r1])) q8=some (.lst [.str (Str.ofString "lost"),.int r1]):=upd_same
  have n8:=newp hp_7 h8
  have hp_8:=hp_7.mono s8
  have W_8:=W_7.mono s8
  generalize upd G7 q8 (.lst [.str (Str.ofString "lost"),.int r1])=G8 at s8 e8 hp_8 W_8 ⊢
  refine ⟨_,rfl,c2,fun q9 h9=>?_⟩
  have s9:=Same.upd (o:=.tup [.str (Str.ofString "lost"),.int r1]) h9
  have e9:(upd G8 q9 (.tup [.str (Str.ofString "lost"),.int r1])) q9=some (.tup [.str (Str.ofString "lost"),.int r1]):=upd_same
  have n9:=newp hp_8 h9
  have hp_9:=hp_8.mono s9
  have W_9:=W_8.mono s9
  generalize upd G8 q9 (.tup [.str (Str.ofString "lost"),.int r1])=G9 at s9 e9 hp_9 W_9 ⊢
  refine ⟨_,rfl,c2,fun q10 h10=>?_⟩
  have s10:=Same.upd (o:=.tup [.str (Str.ofString "lost"),.int r2]) h10
  have e10:(upd G9 q10 (.tup [.str (Str.ofString "lost"),.int r2])) q10=some (.tup [.str (Str.ofString "lost"),.int r2]):=upd_same
  have n10:=newp hp_9 h10
  have hp_10:=hp_9.mono s10
  have W_10:=W_9.mono s10
  generalize upd G9 q10 (.tup [.str (Str.ofString "lost"),.int r2])=G10 at s10 e10 hp_10 W_10 ⊢
  refine ⟨c3,fun q11 h11=>?_⟩
  have s11:=Same.upd (o:=.tup [.str (Str.ofString "cases"),.ref q9,.ref q10]) h11
  have e11:(upd G10 q11 (.tup [.str (Str.ofString "cases"),.ref q9,.ref q10])) q11=some (.tup [.str (Str.ofString "cases"),.ref q9,.ref q10]):=upd_same
  have n11:=newp hp_10 h11
  have hp_11:=hp_10.mono s11
  have W_11:=W_10.mono s11
  generalize upd G10 q11 (.tup [.str (Str.ofString "cases"),.ref q9,.ref q10])=G11 at s11 e11 hp_11 W_11 ⊢
  refine ⟨_,rfl,c2,fun q12 h12=>?_⟩
  have s12:=Same.upd (o:=.tup [.str (Str.ofString "Lost"),.int r1]) h12
  have e12:(upd G11 q12 (.tup [.str (Str.ofString "Lost"),.int r1])) q12=some (.tup [.str (Str.ofString "Lost"),.int r1]):=upd_same
  have n12:=newp hp_11 h12
  have hp_12:=hp_11.mono s12
  have W_12:=W_11.mono s12
  generalize upd G11 q12 (.tup [.str (Str.ofString "Lost"),.int r1])=G12 at s12 e12 hp_12 W_12 ⊢
  refine ⟨c0,fun q13 h13=>?_⟩
  have s13:=Same.upd (o:=.tup []) h13
  have e13:(upd G12 q13 (.tup [])) q13=some (.tup []):=upd_same
  have n13:=newp hp_12 h13
  have hp_13:=hp_12.mono s13
  have W_13:=W_12.mono s13
  generalize upd G12 q13 (.tup [])=G13 at s13 e13 hp_13 W_13 ⊢
  refine ⟨(by show 7≤sizeLine; decide),fun q14 h14=>?_⟩
  have s14:=Same.upd (o:=.lst [.ref q8,.non,.ref q11,.ref q12,.ref q13,.str (Str.ofString "lost"),.int 0]) h14
  have e14:(upd G13 q14 (.lst [.ref q8,.non,.ref q11,.ref q12,.ref q13,.str (Str.ofString "lost"),.int 0])) q14=some (.lst [.ref q8,.non,.ref q11,.ref q12,.ref q13,.str (Str.ofString "lost"),.int 0]):=upd_same
  have n14:=newp hp_13 h14
  have hp_14:=hp_13.mono s14
  have W_14:=W_13.mono s14
  generalize upd G13 q14 (.lst [.ref q8,.non,.ref q11,.ref q12,.ref q13,.str (Str.ofString "lost"),.int 0])=G14 at s14 e14 hp_14 W_14 ⊢
  refine ⟨q7,q14,_,_,rfl,rfl,(s8.trans (s9.trans (s10.trans (s11.trans (s12.trans (s13.trans (s14))))))) _ _ e7,e14,(by show 13≤sizeLine; decide),fun q15 h15=>?_⟩
  have s15:=Same.upd (o:=.lst ([.ref q1,.ref q2,.ref q3,.ref q4,.ref q5,.ref q6]++[.ref q8,.non,.ref q11,.ref q12,.ref q13,.str (Str.ofString "lost"),.int 0])) h15
  have e15:(upd G14 q15 (.lst ([.ref q1,.ref q2,.ref q3,.ref q4,.ref q5,.ref q6]++[.ref q8,.non,.ref q11,.ref q12,.ref q13,.str (Str.ofString "lost"),.int 0]))) q15=some (.lst ([.ref q1,.ref q2,.ref q3,.ref q4,.ref q5,.ref q6]++[.ref q8,.non,.ref q11,.ref q12,.ref q13,.str (Str.ofString "lost"),.int 0])):=upd_same
  have n15:=newp hp_14 h15
  have hp_15:=hp_14.mono s15
  have W_15:=W_14.mono s15
  generalize upd G14 q15 (.lst ([.ref q1,.ref q2,.ref q3,.ref q4,.ref q5,.ref q6]++[.ref q8,.non,.ref q11,.ref q12,.ref q13,.str (Str.ofString "lost"),.int 0]))=G15 at s15 e15 hp_15 W_15 ⊢
  refine ⟨_,rfl,_,rfl,1,rfl,c3,fun q16 h16=>?_⟩
  have s16:=Same.upd (o:=.tup [.str (Str.ofString "tied"),.int r1,.int (-1)]) h16
  have e16:(upd G15 q16 (.tup [.str (Str.ofString "tied"),.int r1,.int (-1)])) q16=some (.tup [.str (Str.ofString "tied"),.int r1,.int (-1)]):=upd_same
  have n16:=newp hp_15 h16
  have hp_16:=hp_15.mono s16
  have W_16:=W_15.mono s16
  generalize upd G15 q16 (.tup [.str (Str.ofString "tied"),.int r1,.int (-1)])=G16 at s16 e16 hp_16 W_16 ⊢
  refine ⟨c1,fun q17 h17=>?_⟩
  have s17:=Same.upd (o:=.tup [.str (Str.ofString "cases")]) h17
  have e17:(upd G16 q17 (.tup [.str (Str.ofString "cases")])) q17=some (.tup [.str (Str.ofString "cases")]):=upd_same
  have n17:=newp hp_16 h17
  have hp_17:=hp_16.mono s17
  have W_17:=W_16.mono s17
  generalize upd G16 q17 (.tup [.str (Str.ofString "cases")])=G17 at s17 e17 hp_17 W_17 ⊢
  refine ⟨_,rfl,_,rfl,c2,fun q18 h18=>?_⟩
  have s18:=Same.upd (o:=.tup [.int r1,.int r2]) h18
  have e18:(upd G17 q18 (.tup [.int r1,.int r2])) q18=some (.tup [.int r1,.int r2]):=upd_same
  have n18:=newp hp_17 h18
  have hp_18:=hp_17.mono s18
  have W_18:=W_17.mono s18
  generalize upd G17 q18 (.tup [.int r1,.int r2])=G18 at s18 e18 hp_18 W_18 ⊢
  refine ⟨c3,fun q19 h19=>?_⟩
  have s19:=Same.upd (o:=.lst [.ref q16,.ref q17,.ref q18]) h19
  have e19:(upd G18 q19 (.lst [.ref q16,.ref q17,.ref q18])) q19=some (.lst [.ref q16,.ref q17,.ref q18]):=upd_same
  have n19:=newp hp_18 h19
  have hp_19:=hp_18.mono s19
  have W_19:=W_18.mono s19
  generalize upd G18 q19 (.lst [.ref q16,.ref q17,.ref q18])=G19 at s19 e19 hp_19 W_19 ⊢
  refine ⟨q15,q19,_,_,rfl,rfl,(s16.trans (s17.trans (s18.trans (s19)))) _ _ e15,e19,(by show 16≤sizeLine; decide),fun q20 h20=>?_⟩
  have s20:=Same.upd (o:=.lst (([.ref q1,.ref q2,.ref q3,.ref q4,.ref q5,.ref q6]++[.ref q8,.non,.ref q11,.ref q12,.ref q13,.str (Str.ofString "lost"),.int 0])++[.ref q16,.ref q17,.ref q18])) h20
  have e20:(upd G19 q20 (.lst (([.ref q1,.ref q2,.ref q3,.ref q4,.ref q5,.ref q6]++[.ref q8,.non,.ref q11,.ref q12,.ref q13,.str (Str.ofString "lost"),.int 0])++[.ref q16,.ref q17,.ref q18]))) q20=some (.lst (([.ref q1,.ref q2,.ref q3,.ref q4,.ref q5,.ref q6]++[.ref q8,.non,.ref q11,.ref q12,.ref q13,.str (Str.ofString "lost"),.int 0])++[.ref q16,.ref q17,.ref q18])):=upd_same
  have n20:=newp hp_19 h20
  have hp_20:=hp_19.mono s20
  have W_20:=W_19.mono s20
  generalize upd G19 q20 (.lst (([.ref q1,.ref q2,.ref q3,.ref q4,.ref q5,.ref q6]++[.ref q8,.non,.ref q11,.ref q12,.ref q13,.str (Str.ofString "lost"),.int 0])++[.ref q16,.ref q17,.ref q18]))=G20 at s20 e20 hp_20 W_20 ⊢
  have allA:∀ v∈(([.ref q1,.ref q2,.ref q3,.ref q4,.ref q5,.ref q6]++[.ref q8,.non,.ref q11,.ref q12,.ref q13,.str (Str.ofString "lost"),.int 0])++[.ref q16,.ref q17,.ref q18]:List V),AnyT p G20 v:=by
   intro v hv
   simp only [List.cons_append,List.nil_append,List.mem_cons,List.not_mem_nil,or_false] at hv
   rcases hv with rfl | rfl | rfl | rfl | rfl | rfl | rfl | rfl | rfl | rfl | rfl | rfl | rfl | rfl | rfl | rfl
   ·exact AnyT.mono (s2.trans (s3.trans (s4.trans (s5.trans (s6.trans (s7.trans (s8.trans (s9.trans (s10.trans (s11.trans (s12.trans (s13.trans (s14.trans (s15.trans (s16.trans (s17.trans (s18.trans (s19.trans (s20))))))))))))))))))) (anyLeaf hp_1 e1 rfl rfl (fun _ _ z=>by cases z))
   ·exact AnyT.mono (s3.trans (s4.trans (s5.trans (s6.trans (s7.trans (s8.trans (s9.trans (s10.trans (s11.trans (s12.trans (s13.trans (s14.trans (s15.trans (s16.trans (s17.trans (s18.trans (s19.trans (s20)))))))))))))))))) (anyLeaf hp_2 e2 rfl rfl (fun _ _ z=>by cases z))
   ·exact AnyT.mono (s4.trans (s5.trans (s6.trans (s7.trans (s8.trans (s9.trans (s10.trans (s11.trans (s12.trans (s13.trans (s14.trans (s15.trans (s16.trans (s17.trans (s18.trans (s19.trans (s20))))))))))))))))) (anyLeaf hp_3 e3 rfl rfl (fun _ _ z=>by cases z))
   ·exact AnyT.mono (s5.trans (s6.trans (s7.trans (s8.trans (s9.trans (s10.trans (s11.trans (s12.trans (s13.trans (s14.trans (s15.trans (s16.trans (s17.trans (s18.trans (s19.trans (s20)))))))))))))))) (anyLeaf hp_4 e4 rfl rfl (fun _ _ z=>by cases z))
   ·exact AnyT.mono (s6.trans (s7.trans (s8.trans (s9.trans (s10.trans (s11.trans (s12.trans (s13.trans (s14.trans (s15.trans (s16.trans (s17.trans (s18.trans (s19.trans (s20))))))))))))))) (anyLeaf hp_5 e5 rfl rfl (fun _ _ z=>by cases z))
   ·exact AnyT.mono (s7.trans (s8.trans (s9.trans (s10.trans (s11.trans (s12.trans (s13.trans (s14.trans (s15.trans (s16.trans (s17.trans (s18.trans (s19.trans (s20)))))))))))))) (anyLeaf hp_6 e6 rfl rfl (fun _ _ z=>by cases z))
   ·exact AnyT.mono (s9.trans (s10.trans (s11.trans (s12.trans (s13.trans (s14.trans (s15.trans (s16.trans (s17.trans (s18.trans (s19.trans (s20)))))))))))) (anyOth (.lst e8) (by decide) (fun z=>n8 (by cases z; rfl)))
   ·exact AnyT.mono (s9.trans (s10.trans (s11.trans (s12.trans (s13.trans (s14.trans (s15.trans (s16.trans (s17.trans (s18.trans (s19.trans (s20)))))))))))) (anyOth .non (by decide) (fun z=>(nomatch z)))
   ·exact AnyT.mono (s12.trans (s13.trans (s14.trans (s15.trans (s16.trans (s17.trans (s18.trans (s19.trans (s20))))))))) (anyCs n11 e11 n9 ((s10.trans s11) _ _ e9) n10 (s11 _ _ e10))
   ·exact AnyT.mono (s13.trans (s14.trans (s15.trans (s16.trans (s17.trans (s18.trans (s19.trans (s20)))))))) (anyLeaf hp_12 e12 rfl rfl (fun _ _ z=>by cases z))
   ·exact AnyT.mono (s14.trans (s15.trans (s16.trans (s17.trans (s18.trans (s19.trans (s20))))))) (anyLeaf hp_13 e13 rfl rfl (fun _ _ z=>by cases z))
   ·exact AnyT.mono (s14.trans (s15.trans (s16.trans (s17.trans (s18.trans (s19.trans (s20))))))) (anyOth (.str _) (by decide) (fun z=>(nomatch z)))
   ·exact AnyT.mono (s14.trans (s15.trans (s16.trans (s17.trans (s18.trans (s19.trans (s20))))))) (anyOth (.int 0) (by decide) (fun z=>(nomatch z)))
   ·exact AnyT.mono (s17.trans (s18.trans (s19.trans (s20)))) (anyLeaf hp_16 e16 rfl rfl (fun _ _ z=>by cases z))
   ·exact AnyT.mono (s18.trans (s19.trans (s20))) (anyLeaf hp_17 e17 rfl rfl (fun _ _ z=>by cases z))
   ·exact AnyT.mono (s19.trans (s20)) (anyLeaf hp_18 e18 rfl rfl (fun _ _ z=>by cases z))
  have hlen:(([.ref q1,.ref q2,.ref q3,.ref q4,.ref q5,.ref q6]++[.ref q8,.non,.ref q11,.ref q12,.ref q13,.str (Str.ofString "lost"),.int 0])++[.ref q16,.ref q17,.ref q18]:List V).length=16:=rfl
  generalize (([.ref q1,.ref q2,.ref q3,.ref q4,.ref q5,.ref q6]++[.ref q8,.non,.ref q11,.ref q12,.ref q13,.str (Str.ofString "lost"),.int 0])++[.ref q16,.ref q17,.ref q18]:List V)=XS at allA hlen e20
  have sAll:=(s1.trans (s2.trans (s3.trans (s4.trans (s5.trans (s6.trans (s7.trans (s8.trans (s9.trans (s10.trans (s11.trans (s12.trans (s13.trans (s14.trans (s15.trans (s16.trans (s17.trans (s18.trans (s19.trans (s20))))))))))))))))))))
  refine ⟨_,rfl,p,16,rfl,hp_20,by decide,by decide,fun k HO' k0 k1 sO hpO=>?_⟩
  have hkl:k.toNat < XS.length:=by rw [hlen]; omega
  refine ⟨q20,_,k,XS[k.toNat],rfl,rfl,SqL.of (sO _ _ n20 e20),?_,?_⟩
  ·have ek:k=((k.toNat:Nat):Int):=by omega
   conv=>lhs; rw [ek]
   exact atI_nat (List.getElem?_eq_getElem hkl)
  ·obtain ⟨x,it,dx⟩:=(allA _ (List.getElem_mem hkl)).but sO
   exact kk _ x _ ((s01.trans s02).trans (sAll.but.trans sO)) hpO it dx
end
end Hk
namespace Hk
open PySem L2 PySem.W
theorem IsP.but {H H':Hp} {p:Addr} (hp:PenAt H p) (s:SameBut p H H'):∀ {x:Pap} {v:V},IsP H x v→IsP H' x v
 | .tied _ _,_,⟨q,e,h⟩=>⟨q,e,s _ _ (pen_tup hp h) h⟩
 | .lost _,_,⟨q,e,h⟩=>⟨q,e,s _ _ (pen_tup hp h) h⟩
 | .cs _ _,_,⟨q,v1,v2,e,h,h1,h2⟩=>⟨q,v1,v2,e,s _ _ (pen_tup hp h) h,IsP.but hp s h1,IsP.but hp s h2⟩
def IsO (H:Hp) (fuel:Nat):Option Pap→V→Prop
 | none,v=>v=.non
 | some x,v=>IsP H x v∧dP x < fuel
section
variable {P:Program} {w:World} {K:Frag} {mg:Str→Option Value} {base:Heap}
def spBent (fuel:Nat):Sp:=fun vs H Q _=>∃ (p a t:Addr) (m:Int) (us:List V) (ars:List (Int×Int)) (v:V) (o:Option Pap),vs=[.ref p,.ref a,v]∧PenAt H p∧Web H a t m us ars∧1≤m∧m≤12∧0 < fuel∧IsO H fuel o v∧∀ (v':V) (x:TT) (H':Hp),SameBut p H H'→PenAt H' p→IsT p H' x v'→dT x≤fuel + 1→Q v' H'
theorem kn_bent0 (D:DefAt K mg "_law_bent" s_law_bent ["pen","web","paper"]):Kn P w K mg base 4 "_law_bent" ["pen","web","paper"] (spBent 0):=by
 have sc:FnScope ["pen","web","paper","way"] ["pen","web","paper"] (defScope s_law_bent):=⟨rfl,rfl,rfl,by decide +kernel,rfl,by decide +kernel,by decide +kernel⟩
 refine D.kn (N:=["pen","web","paper","way"]) sc (fun vs H Q E h=>?_) (fun f cdv A outer s H vs Q E hr h=>?_)
 ·obtain ⟨p,a,t,m,us,ars,v,o,rfl,_⟩:=h
  rfl
 ·obtain ⟨p,a,t,m,us,ars,v,o,rfl,_,_,_,_,lt,_⟩:=h
  exact absurd lt (Nat.not_lt_zero _)
theorem kn_bentS {fuel:Nat} (D:DefAt K mg "_law_bent" s_law_bent ["pen","web","paper"]) (fr:Free mg ["isinstance","list","tuple"]) (kd:Kn P w K mg base 2 "_law_draw" ["pen","many"] spDraw) (kl:Kn P w K mg base 3 "_law_leaf" ["pen","web"] spLeaf) (kg:Kn P w K mg base (fuel + 4) "_law_bent" ["pen","web","paper"] (spBent fuel)):Kn P w K mg base (fuel + 4 + 1) "_law_bent" ["pen","web","paper"] (spBent (fuel + 1)):=by
 have sc:FnScope ["pen","web","paper","way"] ["pen","web","paper"] (defScope s_law_bent):=⟨rfl,rfl,rfl,by decide +kernel,rfl,by decide +kernel,by decide +kernel⟩
 refine D.kn (N:=["pen","web","paper","way"]) sc (fun vs H Q E h=>?_) (fun f cdv A outer s H vs Q E hr h=>?_)
 ·obtain ⟨p,a,t,m,us,ars,v,o,rfl,_⟩:=h
  rfl
 ·obtain ⟨p,a,t,m,us,ars,v,o,rfl,hp,W,m1,m12,_,io,kk⟩:=h
  have r2:=hr.mono (j:=2) (by omega)
  have r3:=hr.mono (j:=3) (by omega)
  have rw':Room (fuel + 4) _:=hr
  have m_isinstance:=fr "isinstance" (by simp)
  have m_list:=fr "list" (by simp)
  have m_tuple:=fr "tuple" (by simp)
  refine ⟨_,(pss_cons (ps_if (PW.pt (pw_and (pt_call (pe_callB call_isi rfl m_isinstance boot_isi (pa_cons (pv 2) (pa_cons (pe_bltn (v:=.ty "tuple") rfl m_tuple boot_ttuple rfl) pa_nil)))) (pw_and1 (pt_cmpR op_eq (pe_ix ix_tup (pv 2) pe_int (fun _ _=>rfl)) pe_str (nomark _))))) (pss_cons (ps_set (i:=3) sc.nd rfl (Or.inl rfl) (pe_kn kd r2 (pa_cons (pv 0) (pa_cons pe_int pa_nil)))) (pss_cons (ps_if (pt_cmpR op_eq (pv 3) pe_int (nomark _)) (pss_one (ps_ret (pe_tup (pa_cons pe_str (pa_cons (pe_ix ix_tup (pv 2) pe_int (fun _ _=>rfl)) (pa_cons (pe_ix ix_tup (pv 2) pe_int (fun _ _=>rfl)) pa_nil)))))) pss_nil) (pss_cons (ps_if (pt_cmpR op_eq (pv 3) pe_int (nomark _)) (pss_one (ps_ret (pe_op op_cat2 (pv 2) (pe_tup (pa_cons (pe_ix ix_tup (pv 2) pe_int (fun _ _=>rfl)) pa_nil))))) pss_nil) (pss_cons (ps_if (pt_cmpR op_eq (pv 3) pe_int (nomark _)) (pss_one (ps_ret (pe_callTy call_list_of rfl m_list boot_tlist (pa_cons (pv 2) pa_nil)))) pss_nil) (pss_cons (ps_if (pt_cmpR op_eq (pv 3) pe_int (nomark _)) (pss_one (ps_ret (pe_slice sl_tup2 (pv 2) po_none (po_some pe_int)))) pss_nil) (pss_cons (ps_if (pt_cmpR op_lt (pv 3) pe_int (nomark _)) (pss_one (ps_ret (pe_tup (pa_cons pe_str (pa_cons (pe_kn kg rw' (pa_cons (pv 0) (pa_cons (pv 1) (pa_cons (pe_ix ix_tup (pv 2) pe_int (fun _ _=>rfl)) pa_nil)))) (pa_cons (pe_ix ix_tup (pv 2) pe_int (fun _ _=>rfl)) pa_nil)))))) pss_nil) (pss_one (ps_if (pt_cmpR op_lt (pv 3) pe_int (nomark _)) (pss_one (ps_ret (pe_tup (pa_cons pe_str (pa_cons (pe_ix ix_tup (pv 2) pe_int (fun _ _=>rfl)) (pa_cons (pe_kn kg rw' (pa_cons (pv 0) (pa_cons (pv 1) (pa_cons (pe_ix ix_tup (pv 2) pe_int (fun _ _=>rfl)) pa_nil)))) pa_nil)))))) pss_nil)))))))) pss_nil) (pss_one (ps_ret (pe_kn kl r3 (pa_cons (pv 0) (pa_cons (pv 1) pa_nil)))))),?_⟩
  have c1:1≤sizeLine:=by decide
  have c3:3≤sizeLine:=by decide
  refine seq_invR (a:=tIfS _ _ _) (fun σ H2=>∃ v3,σ=[some (.ref p),some (.ref a),some v,v3]∧SameBut p H H2∧PenAt H2 p) (fun D' hrt hk=>?_) ?_
  rotate_left
  ·rintro σ H2 ⟨v3,rfl,s2,hp2⟩
   exact ⟨_,rfl,_,rfl,p,a,t,m,us,ars,rfl,hp2,Hk.Web.but W hp s2,m1,m12,fun v' x H' s' hp' it dx=>kk v' x H' (s2.trans s') hp' it (by omega)⟩
  have hrt:D'.rt=Q:=hrt
  cases o with
  | none =>
   have io:v=.non:=io
   subst io
   exact ⟨_,rfl,_,"tuple",_,rfl,.non,by simp,_,rfl,iteF (hk _ _ ⟨_,rfl,SameBut.refl _ _,hp⟩)⟩
  | some z =>
   obtain ⟨ip,dz⟩:=io
   cases z with
   | tied i j =>
    obtain ⟨q,rfl,hq⟩:=ip
    refine ⟨_,rfl,_,"tuple",_,rfl,.tup hq,by simp,_,rfl,iteT ?_⟩
    exact ⟨_,rfl,q,_,_,_,rfl,rfl,SqT.of hq,rfl,rfl,_,rfl,iteF (hk _ _ ⟨_,rfl,SameBut.refl _ _,hp⟩)⟩
   | lost i =>
    obtain ⟨q,rfl,hq⟩:=ip
    refine ⟨_,rfl,_,"tuple",_,rfl,.tup hq,by simp,_,rfl,iteT ?_⟩
    exact ⟨_,rfl,q,_,_,_,rfl,rfl,SqT.of hq,rfl,rfl,_,rfl,iteF (hk _ _ ⟨_,rfl,SameBut.refl _ _,hp⟩)⟩
   | cs x y =>
    obtain ⟨q,v1,v2,rfl,hq,i1,i2⟩:=ip
    have dz:max (dP x) (dP y) + 1 < fuel + 1:=dz
    refine ⟨_,rfl,_,"tuple",_,rfl,.tup hq,by simp,_,rfl,iteT ?_⟩
    refine ⟨_,rfl,q,_,_,_,rfl,rfl,SqT.of hq,rfl,rfl,_,rfl,iteT ?_⟩
    refine ⟨_,rfl,p,9,rfl,hp,by decide,by decide,fun r H1 _ _ s1 hp1=>?_⟩
    have hq1:=s1 _ _ (pen_tup hp hq) hq
    have j1:=IsP.but hp s1 i1
    have j2:=IsP.but hp s1 i2
    have W1:=Hk.Web.but W hp s1
    have t1:=isT_of_isP hp1 j1
    have t2:=isT_of_isP hp1 j2
    have d1:=dT_ttP x
    have d2:=dT_ttP y
    have ret:∀ (v':V) (x:TT) (H':Hp),SameBut p H H'→PenAt H' p→IsT p H' x v'→dT x≤fuel + 2→D'.rt v' H':=fun v' x H' a b c d=>by
     rw [hrt]
     exact kk v' x H' a b c (by omega)
    have dp1:=t1.dp
    have dp2:=t2.dp
    -- 0
    refine ⟨_,rfl,rfl,_,rfl,ite2 (fun _=>?_) (fun _=>?_)⟩
    ·refine ⟨_,rfl,q,_,_,v2,rfl,rfl,SqT.of hq1,rfl,_,rfl,q,_,_,v1,rfl,rfl,SqT.of hq1,rfl,c3,fun z hz=>?_⟩
     have s2:=Same.upd (o:=.tup [.str (Str.ofString "cases"),v2,v1]) hz
     exact ret _ (.cs (ttP y) (ttP x)) _ (s1.trans s2.but) (hp1.mono s2) ⟨z,v2,v1,rfl,upd_same,newp hp1 hz,t2.mono s2,t1.mono s2⟩ (by show max _ _ + 1≤_; omega)
    -- 1
    refine ⟨_,rfl,rfl,_,rfl,ite2 (fun _=>?_) (fun _=>?_)⟩
    ·refine ⟨_,rfl,_,rfl,q,_,_,v1,rfl,rfl,SqT.of hq1,rfl,c1,fun z hz=>?_⟩
     have s2:=Same.upd (o:=.tup [v1]) hz
     refine ⟨q,z,_,_,rfl,rfl,s2 _ _ hq1,upd_same,(by show 4≤sizeLine; decide),fun z2 H3 s3 hz2=>?_⟩
     have s23:=s2.trans s3
     have hp3:=hp1.mono s23
     refine ret _ (.leaf [.str (Str.ofString "cases"),v1,v2,v1]) _ (s1.trans s23.but) hp3 ⟨z2,rfl,hz2,pen_tup hp3 hz2,by show 4≤10; decide,fun y hy=>?_,fun y hy=>by cases hy; exact .inr ⟨_,rfl⟩,fun _ _ z=>by cases z⟩ (Nat.zero_le _)
     simp only [List.mem_cons,List.not_mem_nil,or_false] at hy
     rcases hy with rfl | rfl | rfl | rfl
     ·exact scal_dp rfl
     ·exact Dp.mono (n:=0) dp1 s23
     ·exact Dp.mono (n:=0) dp2 s23
     ·exact Dp.mono (n:=0) dp1 s23
    -- 2
    refine ⟨_,rfl,rfl,_,rfl,ite2 (fun _=>?_) (fun _=>?_)⟩
    ·refine ⟨_,rfl,q,_,rfl,.inr (SqT.of hq1),fun z hz=>?_⟩
     have s2:=Same.upd (o:=.lst [.str (Str.ofString "cases"),v1,v2]) hz
     exact ret _ .oth _ (s1.trans s2.but) (hp1.mono s2) ⟨_,.lst upd_same,by decide,fun e=>newp hp1 hz (by cases e; rfl)⟩ (Nat.zero_le _)
    -- 3
    refine ⟨_,rfl,rfl,_,rfl,ite2 (fun _=>?_) (fun _=>?_)⟩
    ·refine ⟨_,rfl,2,rfl,q,_,rfl,hq1,fun z H3 s3 hz=>?_⟩
     have hz:H3 z=some (.tup [.str (Str.ofString "cases"),v1]):=hz
     have hp3:=hp1.mono s3
     refine ret _ (.leaf [.str (Str.ofString "cases"),v1]) _ (s1.trans s3.but) hp3 ⟨z,rfl,hz,pen_tup hp3 hz,by show 2≤10; decide,fun y hy=>?_,fun y hy=>by cases hy; exact .inr ⟨_,rfl⟩,fun _ _ z=>by cases z⟩ (Nat.zero_le _)
     simp only [List.mem_cons,List.not_mem_nil,or_false] at hy
     rcases hy with rfl | rfl
     ·exact scal_dp rfl
     ·exact Dp.mono (n:=0) dp1 s3
    -- below 6
    refine ⟨_,rfl,_,_,rfl,rfl,_,rfl,ite2 (fun _=>?_) (fun _=>?_)⟩
    ·refine ⟨_,rfl,_,rfl,_,rfl,q,_,_,v1,rfl,rfl,SqT.of hq1,rfl,p,a,t,m,us,ars,v1,some x,rfl,hp1,W1,m1,m12,by omega,⟨j1,by omega⟩,fun v' xx H3 s3 hp3 it dx=>?_⟩
     have hq3:=s3 _ _ (pen_tup hp1 hq1) hq1
     refine ⟨_,rfl,q,_,_,v2,rfl,rfl,SqT.of hq3,rfl,c3,fun z hz=>?_⟩
     have s4:=Same.upd (o:=.tup [.str (Str.ofString "cases"),v',v2]) hz
     exact ret _ (.cs xx (ttP y)) _ (s1.trans (s3.trans s4.but)) (hp3.mono s4) ⟨z,v',v2,rfl,upd_same,newp hp3 hz,it.mono s4,(t2.but s3).mono s4⟩ (by show max _ _ + 1≤_; omega)
    -- below 8
    refine ⟨_,rfl,_,_,rfl,rfl,_,rfl,ite2 (fun _=>?_) (fun _=>?_)⟩
    ·refine ⟨_,rfl,q,_,_,v1,rfl,rfl,SqT.of hq1,rfl,_,rfl,_,rfl,_,rfl,q,_,_,v2,rfl,rfl,SqT.of hq1,rfl,p,a,t,m,us,ars,v2,some y,rfl,hp1,W1,m1,m12,by omega,⟨j2,by omega⟩,fun v' xx H3 s3 hp3 it dx=>?_⟩
     refine ⟨c3,fun z hz=>?_⟩
     have s4:=Same.upd (o:=.tup [.str (Str.ofString "cases"),v1,v']) hz
     exact ret _ (.cs (ttP x) xx) _ (s1.trans (s3.trans s4.but)) (hp3.mono s4) ⟨z,v1,v',rfl,upd_same,newp hp3 hz,(t1.but s3).mono s4,it.mono s4⟩ (by show max _ _ + 1≤_; omega)
    exact hk _ _ ⟨_,rfl,s1,hp1⟩
theorem kn_bentA (D:DefAt K mg "_law_bent" s_law_bent ["pen","web","paper"]) (fr:Free mg ["isinstance","list","tuple"]) (kd:Kn P w K mg base 2 "_law_draw" ["pen","many"] spDraw) (kl:Kn P w K mg base 3 "_law_leaf" ["pen","web"] spLeaf):∀ fuel:Nat,Kn P w K mg base (fuel + 4) "_law_bent" ["pen","web","paper"] (spBent fuel)
 | 0=>kn_bent0 D
 | fuel + 1=>kn_bentS D fr kd kl (kn_bentA D fr kd kl fuel)
theorem kn_bent (D:DefAt K mg "_law_bent" s_law_bent ["pen","web","paper"]) (fr:Free mg ["isinstance","list","tuple"]) (kd:Kn P w K mg base 2 "_law_draw" ["pen","many"] spDraw) (kl:Kn P w K mg base 3 "_law_leaf" ["pen","web"] spLeaf):Kn P w K mg base 17 "_law_bent" ["pen","web","paper"] (spBent 13):=kn_bentA D fr kd kl 13
end
end Hk
namespace Hk
open PySem L2 PySem.W
theorem pa_ct {X:Cx} {es':List Expr} {k:Nat} {p:Pos} {es:List Expr} {te:TE} {t:TA} (ha:PE X (.Tuple es' k p) te) (hr:PA X es t):PA X (.Tuple es' k p::es) (tCons te t):=pa_cons ha hr (by rfl)
theorem pa_ci {X:Cx} {i:Int} {j:Nat} {p:Pos} {es:List Expr} {t:TA} (hr:PA X es t):PA X (.Constant (.int i) j p::es) (tCons (tC (.int i)) t):=pa_cons pe_int hr (by rfl)
def litR:Expr:=.Tuple [.Constant (.int 3) 0 ⟨259,12,259,13⟩,.Tuple [.Tuple [.Constant (.int 0) 0 ⟨259,17,259,18⟩,.Constant (.int 1) 0 ⟨259,20,259,21⟩] 0 ⟨259,16,259,22⟩,.Tuple [.Constant (.int 1) 0 ⟨259,25,259,26⟩,.Constant (.int 2) 0 ⟨259,28,259,29⟩] 0 ⟨259,24,259,30⟩,.Tuple [.Constant (.int 2) 0 ⟨259,33,259,34⟩,.Constant (.int 0) 0 ⟨259,36,259,37⟩] 0 ⟨259,32,259,38⟩] 0 ⟨259,15,259,39⟩] 0 ⟨259,11,259,40⟩
theorem pe_litR {X:Cx}:PE X litR (tTup (tCons (tC (.int 3)) (tCons (tTup (tCons (tTup (tCons (tC (.int 0)) (tCons (tC (.int 1)) tNil))) (tCons (tTup (tCons (tC (.int 1)) (tCons (tC (.int 2)) tNil))) (tCons (tTup (tCons (tC (.int 2)) (tCons (tC (.int 0)) tNil))) tNil)))) tNil))):=by
 unfold litR
 refine pe_tup ?_
 refine pa_ci ?_
 refine pa_ct ?_ ?_
 ·refine pe_tup ?_
  refine pa_ct ?_ ?_
  ·refine pe_tup ?_
   refine pa_ci ?_
   refine pa_ci ?_
   exact pa_nil
  refine pa_ct ?_ ?_
  ·refine pe_tup ?_
   refine pa_ci ?_
   refine pa_ci ?_
   exact pa_nil
  refine pa_ct ?_ ?_
  ·refine pe_tup ?_
   refine pa_ci ?_
   refine pa_ci ?_
   exact pa_nil
  exact pa_nil
 exact pa_nil
def st_litR:Stmt:=.Assign [.Name (Str.ofString "ring") ⟨259,4,259,8⟩] litR ⟨259,4,259,40⟩
theorem swap_litR (tg:Option Expr) (l:Nat) (env:Env):swapsWith litR tg l env=pure false:=by
 unfold litR
 rfl
theorem ps_litR {X:Cx} (hN:X.N.Nodup) (hi:X.N[1]?=some (Str.ofString "ring")) (hx:Loc X.env.scope (Str.ofString "ring")) (hf:X.fn (Str.ofString "ring")=true∨X.env.scope.names.lookup (Str.ofString "ring")=some .local):PS X st_litR (tAsg (tTup (tCons (tC (.int 3)) (tCons (tTup (tCons (tTup (tCons (tC (.int 0)) (tCons (tC (.int 1)) tNil))) (tCons (tTup (tCons (tC (.int 1)) (tCons (tC (.int 2)) tNil))) (tCons (tTup (tCons (tC (.int 2)) (tCons (tC (.int 0)) tNil))) tNil)))) tNil))) (gName 1)):=by
 unfold st_litR
 exact @ps_set X ⟨259,4,259,40⟩ 1 (Str.ofString "ring") litR _ ⟨259,4,259,8⟩ hN hi hx (@pe_litR X) (swap_litR _ _ _) hf
@[irreducible] def ringS:Stmt:=match defBody s_law with
 | s::_=>s
 | _=>.Pass ⟨0,0,0,0⟩
theorem ringS_eq:ringS=st_litR:=by kernel_rfl
theorem body_eq:defBody s_law=ringS::(defBody s_law).tail:=by kernel_rfl
theorem ps_ringS {X:Cx} (hN:X.N.Nodup) (hi:X.N[1]?=some (Str.ofString "ring")) (hx:Loc X.env.scope (Str.ofString "ring")) (hf:X.fn (Str.ofString "ring")=true∨X.env.scope.names.lookup (Str.ofString "ring")=some .local):PS X ringS (tAsg (tTup (tCons (tC (.int 3)) (tCons (tTup (tCons (tTup (tCons (tC (.int 0)) (tCons (tC (.int 1)) tNil))) (tCons (tTup (tCons (tC (.int 1)) (tCons (tC (.int 2)) tNil))) (tCons (tTup (tCons (tC (.int 2)) (tCons (tC (.int 0)) tNil))) tNil)))) tNil))) (gName 1)):=by
 rw [ringS_eq]
 exact @ps_litR X hN hi hx hf
end Hk
namespace Hk
open PySem L2 PySem.W
theorem WB.but {H H':Hp} {a t c p:Addr} {m:Int} {us:List V} {ars:List (Int×Int)} {bs:List Bool} (h:WB H a t c m us ars bs) (hp:PenAt H p) (s:SameBut p H H'):WB H' a t c m us ars bs :=
 ⟨Hk.Web.but h.web hp s,h.good,s _ _ (pen_tup hp h.at_) h.at_,h.len⟩
theorem bls_inj {a b:List Bool} (h:some (a.map V.bl)=some (b.map V.bl)):a=b:=by
 have:=congrArg boolsOf (Option.some.inj h)
 rwa [boolsOf_map,boolsOf_map] at this
theorem due_good {m:Int} {ars:List (Int×Int)}:∀ {x:Pap} {bs:List Bool},GoodP m ars x bs→dueT m ars (ttP x) bs=true
 | .tied a b,bs,h=>by
  show leafB ars bs [.str (Str.ofString "tied"),.int a,.int b]=true
  rw [leafB3,decide_eq_true rfl,decide_eq_true (mem_tb.mpr h)]
  rfl
 | .lost i,bs,h=>by
  show leafB ars bs [.str (Str.ofString "lost"),.int i]=true
  rw [leafB2,decide_eq_true rfl,decide_eq_true (mem_lb.mpr h)]
  rfl
 | .cs x y,bs,⟨h,h1,h2⟩=>by
  show (decide _ && (dueT m ars (ttP x) (bs++[true]) && dueT m ars (ttP y) (bs++[false])))=true
  rw [due_good h1,due_good h2,decide_eq_true h]
  rfl
theorem tellsP_of {H:Hp} {Q:VK} {o:Option Pap} {fuel:Nat} (h:∀ (v:V) (H':Hp),Same H H'→IsO H' fuel o v→Q v H') (hd:∀ x,o=some x→dP x < fuel):tellsP H Q o:=by
 cases o with
 | none=>exact fun H' s=>h .non H' s rfl
 | some x=>exact fun v H' s ip=>h v H' s ⟨ip,hd x rfl⟩
theorem isO_T {p:Addr} {H:Hp} (hp:PenAt H p) {fuel:Nat} {o:Option Pap} {v:V} (h:IsO H fuel o v):∃ x,IsT p H x v∧dT x≤fuel + 1:=by
 cases o with
 | none =>
  have h:v=.non:=h
  subst h
  exact ⟨.oth,⟨_,.non,by decide,fun z=>(nomatch z)⟩,Nat.zero_le _⟩
 | some x=>exact ⟨ttP x,isT_of_isP hp h.1,by rw [dT_ttP]; have:=h.2; omega⟩
theorem isO_but {p:Addr} {H H':Hp} (hp:PenAt H p) (s:SameBut p H H') {fuel:Nat} {o:Option Pap} {v:V} (h:IsO H fuel o v):IsO H' fuel o v:=by
 cases o with
 | none=>exact h
 | some x=>exact ⟨IsP.but hp s h.1,h.2⟩
section
variable {P:Program} {w:World} {K:Frag} {mg:Str→Option Value} {base:Heap}
def spR28:Sp:=fun vs H Q _=>∃ (a t c:Addr) (m:Int) (us:List V) (ars:List (Int×Int)) (bs:List Bool) (v:V) (x:TT),vs=[.ref a,.ref c,v]∧WB H a t c m us ars bs∧IsT0 H x v∧dT x < 15∧∀ H',Same H H'→Q (.bl true) H'
theorem kn_right28 {CN:Addr} (D:DefAt K mg "_law_right" s_law_right ["web","begun","thing"]) (fr:Free mg ["bool","isinstance"]) (kd:Kn P w K mg base 17 "_law_paper_due" ["web","begun","thing"] (spPT 15)) (kg:KnX P w K mg base 21 "cases_good" ["web","begun","thing"] (spCGT CN)):Kn P w K mg base 22 "_law_right" ["web","begun","thing"] spR28:=by
 have sc:FnScope ["web","begun","thing","due","found"] ["web","begun","thing"] (defScope s_law_right):=⟨rfl,rfl,rfl,by decide +kernel,rfl,by decide +kernel,by decide +kernel⟩
 refine D.kn (N:=["web","begun","thing","due","found"]) sc (fun vs H Q E h=>?_) (fun f cdv A outer s H vs Q E hr h=>?_)
 ·obtain ⟨a,t,c,m,us,ars,bs,v,x,rfl,_⟩:=h
  rfl
 ·obtain ⟨a,t,c,m,us,ars,bs,v,x,rfl,B,it,dx,kk⟩:=h
  have r17:=hr.mono (j:=17) (by decide)
  have r21:Room 21 _:=hr
  have m_bool:=fr "bool" (by simp)
  have m_isinstance:=fr "isinstance" (by simp)
  refine ⟨_,(pss_cons (ps_set (i:=3) sc.nd rfl (Or.inl rfl) (pe_kn kd r17 (pa_cons (pv 0) (pa_cons (pv 1) (pa_cons (pv 2) pa_nil))))) (pss_cons (ps_set (i:=4) sc.nd rfl (Or.inl rfl) (pe_knx kg (passF (P:=P) (w:=w)) r21 (pa_cons (pv 0) (pa_cons (pv 1) (pa_cons (pv 2) pa_nil))))) (pss_one (ps_ret (pe_and (pe_callB call_isi rfl m_isinstance boot_isi (pa_cons (pv 4) (pa_cons (pe_bltn (v:=.ty "bool") rfl m_bool boot_tbool rfl) pa_nil))) (pe_and (pe_cmpR op_eq (pv 4) (pv 3) (nomark _)) (pe_one (pe_cmpR op_eq (pe_knx kg (passF (P:=P) (w:=w)) r21 (pa_cons (pv 0) (pa_cons (pv 1) (pa_cons (pv 2) pa_nil)))) (pv 3) (nomark _))))))))),?_⟩
  have gl:=B.len
  have gm:=B.web.mb
  have gd:=B.good
  refine ⟨_,rfl,_,rfl,_,rfl,a,t,c,m,us,ars,bs,v,x,rfl,B,it,dx,fun H1 s1=>?_⟩
  have B1:=B.mono s1
  refine ⟨_,rfl,_,rfl,_,rfl,a,t,m,us,ars,.ref c,some (bs.map V.bl),v,x,rfl,B1.web,gd,thing_bls B1.at_ (by omega),it.mono s1,dx,fun h=>absurd (bgG_bls gl) h,fun _ bs' e' H2 s2=>?_⟩
  obtain rfl:=bls_inj e'
  have s12:=s1.trans s2
  have B2:=B.mono s12
  refine ⟨_,rfl,_,"bool",_,rfl,.bl _,by simp,_,rfl,iteT ?_⟩
  refine ⟨_,rfl,_,rfl,rfl,_,rfl,?_⟩
  rw [decide_eq_true rfl]
  refine iteT ⟨_,rfl,_,rfl,_,rfl,a,t,m,us,ars,.ref c,some (bs.map V.bl),v,x,rfl,B2.web,gd,thing_bls B2.at_ (by omega),it.mono s12,dx,fun h=>absurd (bgG_bls gl) h,fun _ bs' e' H3 s3=>?_⟩
  obtain rfl:=bls_inj e'
  refine ⟨_,rfl,rfl,?_⟩
  rw [decide_eq_true rfl]
  exact kk _ (s12.trans s3)
def spRefd28:Sp:=fun vs H Q _=>∃ (a t:Addr) (m:Int) (us:List V) (ars:List (Int×Int)) (x:V) (o:Option (List V)),vs=[.ref a,x]∧Web H a t m us ars∧GoodA m ars∧Thing H x o∧¬ bgG m o=true∧∀ H',Same H H'→Q (.bl true) H'
theorem kn_refused28 {CN CW c0 c1 c2 c3 c4 c5 c6 c7 c8:Addr} (D:DefAt K mg "_law_refused" s_law_refused ["web","thing"]) (kw:KnX P w K mg base 21 "cases_good" ["web","begun","thing"] (spCGT CN)) (kk:KnH P w K mg base 1 "_law_kind_of" ["e"] (spKind K c0 c1 c2 c3 c4 c5 c6 c7 c8))
  (hW:mg "WebError"=some (.ref CW)) (hx:exmOne K (.ref CN) (.ref CW)=some true) (F:KindOf K CN c0 c1 c2 c3 c4 c5 c6 c7 c8 0):Kn P w K mg base 22 "_law_refused" ["web","thing"] spRefd28:=by
 have sc:FnScope ["web","thing","e"] ["web","thing"] (defScope s_law_refused):=⟨rfl,rfl,rfl,by decide +kernel,rfl,by decide +kernel,by decide +kernel⟩
 refine D.kn (N:=["web","thing","e"]) sc (fun vs H Q E h=>?_) (fun f cdv A outer s H vs Q E hr h=>?_)
 ·obtain ⟨a,t,m,us,ars,x,o,rfl,_⟩:=h
  rfl
 ·obtain ⟨a,t,m,us,ars,x,o,rfl,W,ga,th,nb,k⟩:=h
  refine ⟨_,pss_cons (ps_try (i:=2) (psx_expr (pex_kn kw hr (pa_cons (pv 0) (pa_cons (pv 1) (pa_cons (pe_tup (pa_cons pe_str (pa_cons pe_int pa_nil))) pa_nil))))) rfl hW sc.nd rfl rfl (fun y=>pss_one (ps_ret (pe_cmpR op_eq (pe_knH kk ((hr.toH _).mono (by decide)) (pa_cons (pv 2) pa_nil)) pe_str (nomark _)))) rfl rfl) (pss_one (ps_ret pe_bl)),?_⟩
  refine ⟨_,rfl,_,rfl,(by show 2≤sizeLine; decide),fun e he=>?_⟩
  have s0:=Same.upd (o:=.tup [.str (Str.ofString "lost"),.int 0]) he
  refine ⟨a,t,m,us,ars,x,o,.ref e,.leaf [.str (Str.ofString "lost"),.int 0],rfl,W.mono s0,ga,th.mono s0,⟨e,rfl,upd_same,by show 2≤10; decide,fun y hy=>?_,fun y hy=>by cases hy; exact .inr ⟨_,rfl⟩,fun _ _ z=>by cases z⟩,by show 0 < 15; decide,fun _ H1 s1=>⟨CN,rfl,hx,fun y hy=>?_⟩,fun h=>absurd h nb⟩
  ·simp only [List.mem_cons,List.not_mem_nil,or_false] at hy
   rcases hy with rfl | rfl
   ·exact ⟨_,.str _⟩
   ·exact ⟨_,.int _⟩
  refine ⟨_,rfl,y,CN,0,rfl,⟨_,upd_same⟩,F,by decide,fun H2 s2=>⟨rfl,?_⟩⟩
  have:=k H2 (s0.trans (s1.trans ((Same.upd hy).trans s2)))
  rw [decide_eq_true (show V.str (kindWords.getD 0 "")=V.str "place" from rfl)]
  exact this
def spLaw (K:Frag):Sp:=fun vs H Q _=>∃ (a:Addr) (ns:List Int),vs=[.ref a]∧SqL K H a (ns.map V.int)∧ns.length≤63∧∀ H',Q (.bl true) H'
theorem ok_law {CN:Addr} {fl:Addr} {fd:FuncData} (F:Fun K "law" "law" s_law fl fd) 
  (kc:Kn P w K mg base 1 "_law_cell_at" ["script","k"] (spCell K)) (kp:Kn P w K mg base 1 "_law_pen_of" ["cell"] spPen) (ks:Kn P w K mg base 4 "_law_small_web" ["pen"] spSmall)
  (kh:Kn P w K mg base 3 "_law_holds_of" ["web"] spAH) (kb:Kn P w K mg base 3 "_law_beginning" ["pen","web","holds"] spBG) (ko:Kn P w K mg base 3 "_law_odd_beginning" ["pen","web","begun"] spOB)
  (ka:Kn P w K mg base 15 "_law_paper_of" ["web","begun"] (spPF 13)) (ke:Kn P w K mg base 17 "_law_bent" ["pen","web","paper"] (spBent 13)) (kl:Kn P w K mg base 3 "_law_leaf" ["pen","web"] spLeaf)
  (kr:Kn P w K mg base 22 "_law_right" ["web","begun","thing"] spR28) (kx:Kn P w K mg base 22 "_law_refused" ["web","thing"] spRefd28) (kf:KnX P w K mg base 21 "cases_good" ["web","begun","thing"] (spCGT CN)) :
  FnOk P w K mg base CX0 23 fl fd ["script"] (spLaw K):=by
 have sc:FnScope ["script","ring","cell","pen","web","holds","begun","paper","thing"] ["script"] (defScope s_law):=⟨rfl,rfl,rfl,by decide +kernel,rfl,by decide +kernel,by decide +kernel⟩
 refine F.ok (N:=["script","ring","cell","pen","web","holds","begun","paper","thing"]) sc (fun vs H Q E h=>?_) (fun cdv A outer s H vs Q E hr h=>?_)
 ·obtain ⟨a,ns,rfl,_⟩:=h
  rfl
 ·obtain ⟨a,ns,rfl,ha,hn,kk⟩:=h
  have r1:=hr.mono (j:=1) (by decide)
  have r3:=hr.mono (j:=3) (by decide)
  have r4:=hr.mono (j:=4) (by decide)
  have r15:=hr.mono (j:=15) (by decide)
  have r17:=hr.mono (j:=17) (by decide)
  have r21:=hr.mono (j:=21) (by decide)
  rw [body_eq]
  refine ⟨_,(pss_cons (@ps_ringS (cxOf CX0 P w K mg base ["script","ring","cell","pen","web","holds","begun","paper","thing"] "law" (defScope s_law) fl cdv A outer s H E).nox sc.nd rfl (Or.inl rfl) (Or.inr rfl)) (pss_cons (ps_if (pt_cmpR op_isnotB (pe_knx kf (passF (P:=P) (w:=w)) r21 (pa_cons (pv 1) (pa_cons (pe_tup pa_nil) (pa_cons (pe_kn ka r15 (pa_cons (pv 1) (pa_cons (pe_tup pa_nil) pa_nil))) pa_nil)))) pe_bl (nomark _)) (pss_one (ps_ret pe_bl)) pss_nil) (pss_cons (ps_for PassesOwn.never rfl (pi_list (pe_op op_cat (pe_lst (pa_cons (pe_kn kc r1 (pa_cons (pv 0) (pa_cons pe_int pa_nil))) pa_nil)) (pe_slice sl_list (pv 0) (po_some pe_int) (po_some pe_int)))) (pg_name (i:=2) sc.nd rfl (Or.inl rfl)) (pss_cons (ps_set (i:=3) sc.nd rfl (Or.inl rfl) (pe_kn kp r1 (pa_cons (pv 2) pa_nil))) (pss_cons (ps_set (i:=4) sc.nd rfl (Or.inl rfl) (pe_kn ks r4 (pa_cons (pv 3) pa_nil))) (pss_cons (ps_set (i:=5) sc.nd rfl (Or.inl rfl) (pe_kn kh r3 (pa_cons (pv 4) pa_nil))) (pss_one (ps_for PassesOwn.never rfl (pi_list (pe_lst (pa_cons (pe_tup pa_nil) (pa_cons (pe_kn kb r3 (pa_cons (pv 3) (pa_cons (pv 4) (pa_cons (pv 5) pa_nil)))) (pa_cons (pe_kn kb r3 (pa_cons (pv 3) (pa_cons (pv 4) (pa_cons (pe_lst pa_nil) pa_nil)))) pa_nil))))) (pg_name (i:=6) sc.nd rfl (Or.inl rfl)) (pss_cons (ps_set (i:=7) sc.nd rfl (Or.inl rfl) (pe_kn ka r15 (pa_cons (pv 4) (pa_cons (pv 6) pa_nil)))) (pss_cons (ps_for PassesOwn.never rfl (pi_list (pe_lst (pa_cons (pv 7) (pa_cons (pe_kn ke r17 (pa_cons (pv 3) (pa_cons (pv 4) (pa_cons (pv 7) pa_nil)))) (pa_cons (pe_kn ke r17 (pa_cons (pv 3) (pa_cons (pv 4) (pa_cons (pv 7) pa_nil)))) (pa_cons (pe_kn kl r3 (pa_cons (pv 3) (pa_cons (pv 4) pa_nil))) pa_nil)))))) (pg_name (i:=8) sc.nd rfl (Or.inl rfl)) (pss_one (ps_if (pt_not (pt_call (pe_kn kr hr (pa_cons (pv 4) (pa_cons (pv 6) (pa_cons (pv 8) pa_nil)))))) (pss_one (ps_ret pe_bl)) pss_nil))) (pss_one (ps_if (pt_not (pt_call (pe_kn kx hr (pa_cons (pv 4) (pa_cons (pe_kn ko r3 (pa_cons (pv 3) (pa_cons (pv 4) (pa_cons (pv 6) pa_nil)))) pa_nil))))) (pss_one (ps_ret pe_bl)) pss_nil)))))))))) (pss_one (ps_ret pe_bl))))),?_⟩
  have c0:0≤sizeLine:=by decide
  have c1:1≤sizeLine:=by decide
  have c2:2≤sizeLine:=by decide
  have c3:3≤sizeLine:=by decide
  refine ⟨c2,fun xrp1 hxrp1=>⟨c2,fun xrp2 hxrp2=>⟨c2,fun xrp3 hxrp3=>⟨c3,fun xrt hxrt=>⟨c2,fun xra hxra=>?_⟩⟩⟩⟩⟩
  have qxrp1:=Same.upd (o:=.tup [.int 0,.int 1]) hxrp1
  have qxrp2:=Same.upd (o:=.tup [.int 1,.int 2]) hxrp2
  have qxrp3:=Same.upd (o:=.tup [.int 2,.int 0]) hxrp3
  have qxrt:=Same.upd (o:=.tup [.ref xrp1,.ref xrp2,.ref xrp3]) hxrt
  have qxra:=Same.upd (o:=.tup [.int 3,.ref xrt]) hxra
  have kxrt:=qxra
  have kxrp3:=qxrt.trans kxrt
  have kxrp2:=qxrp3.trans kxrp3
  have kxrp1:=qxrp2.trans kxrp2
  have sH1:=qxrp1.trans kxrp1
  have WH1:Web _ xra xrt 3 [.ref xrp1,.ref xrp2,.ref xrp3] [(0,1),(1,2),(2,0)]:=⟨upd_same,kxrt _ _ upd_same,(.cons ⟨xrp1,rfl,kxrp1 _ _ upd_same⟩ (.cons ⟨xrp2,rfl,kxrp2 _ _ upd_same⟩ (.cons ⟨xrp3,rfl,kxrp3 _ _ upd_same⟩ .nil))),(by show 3≤1000; decide),by decide⟩
  generalize upd (upd (upd (upd (upd H xrp1 (.tup [.int 0,.int 1])) xrp2 (.tup [.int 1,.int 2])) xrp3 (.tup [.int 2,.int 0])) xrt (.tup [.ref xrp1,.ref xrp2,.ref xrp3])) xra (.tup [.int 3,.ref xrt])=H1 at sH1 WH1
  skip
  have g3:GoodA 3 [(0,1),(1,2),(2,0)]:=by
   intro q hq
   simp only [List.mem_cons,List.not_mem_nil,or_false] at hq
   rcases hq with rfl | rfl | rfl <;> decide
  -- the ring's paper
  refine ⟨_,rfl,c0,fun e0 he0=>⟨_,rfl,c0,fun e1 he1=>?_⟩⟩
  have q8:=Same.upd (o:=.tup []) he0
  have q9:=Same.upd (o:=.tup []) he1
  have q89:=q8.trans q9
  refine ⟨xra,xrt,e1,3,_,[(0,1),(1,2),(2,0)],[],rfl,⟨WH1.mono q89,g3,upd_same,by decide⟩,by decide,?_⟩
  have is:(pF [(0,1),(1,2),(2,0)] ((3:Int).toNat - ([]:List Bool).length) []).isSome=true:=by decide +kernel
  cases ep:pF [(0,1),(1,2),(2,0)] ((3:Int).toNat - ([]:List Bool).length) [] with
  | none =>
   rw [ep] at is
   cases is
  | some x0 =>
  intro v0 H2 s2 ip0
  have gp0:=pF_good (m:=3) ep (by decide)
  have s12:=q89.trans s2
  refine ⟨xra,xrt,3,_,[(0,1),(1,2),(2,0)],.ref e0,some (([]:List Bool).map V.bl),v0,ttP x0,rfl,WH1.mono s12,g3,thing_bls (bs:=[]) ((q9.trans s2) _ _ upd_same) (by decide),isT0_of_isP ip0,(by rw [dT_ttP]; have h:=gp0.2; have:(3:Int).toNat - ([]:List Bool).length=3:=rfl; omega),fun h=>absurd (bgG_bls (bs:=[]) (by decide)) h,fun _ bs' e' H3 s3=>?_⟩
  obtain rfl:bs'=[]:=(bls_inj e').symm
  rw [due_good gp0.1]
  refine ⟨true,true,rfl,rfl,_,rfl,iteF ?_⟩
  have ha:SqL K H3 a (ns.map V.int):=(sH1.trans (s12.trans s3)).seq ha
  clear he0 he1 q8 q9 q89 s2 s12 s3
  refine ⟨_,rfl,a,ns,0,rfl,ha,fun n0=>⟨c1,fun l1 hl1=>?_⟩⟩
  have ha3:SqL K _ a (ns.map V.int):=(Same.upd (o:=.lst [.int n0]) hl1).seq ha
  refine ⟨_,rfl,1,rfl,5,rfl,a,_,rfl,ha3,fun l2 hl2=>?_⟩
  refine ⟨l1,l2,_,_,rfl,rfl,Same.upd hl2 _ _ upd_same,upd_same,?_,fun M2 hM2=>?_⟩
  ·have:=cutV_length (ns.map V.int) (some 1) (some 5)
   rw [List.length_map] at this
   show 1 + _≤sizeLine
   exact Nat.le_of_lt (small1000 (by omega))
  have allInt:∀ v∈[V.int n0]++cutV (ns.map V.int) (some 1) (some 5),∃ n:Int,v=.int n:=by
   intro v hv
   rcases List.mem_append.mp hv with z | z
   ·exact ⟨n0,by simpa using z⟩
   ·unfold cutV at z
    obtain ⟨n,_,rfl⟩:=List.mem_map.mp (List.mem_of_mem_drop (List.mem_of_mem_take z))
    exact ⟨n,rfl⟩
  have hM3:(upd (upd (upd H3 l1 (.lst [.int n0])) l2 (.lst (cutV (ns.map V.int) (some 1) (some 5)))) M2 (.lst ([V.int n0]++cutV (ns.map V.int) (some 1) (some 5)))) M2=some (.lst ([V.int n0]++cutV (ns.map V.int) (some 1) (some 5))):=upd_same
  generalize upd (upd (upd H3 l1 (.lst [.int n0])) l2 (.lst (cutV (ns.map V.int) (some 1) (some 5)))) M2 (.lst ([V.int n0]++cutV (ns.map V.int) (some 1) (some 5)))=HF at hM3
  generalize [V.int n0]++cutV (ns.map V.int) (some 1) (some 5)=CS at hM3 allInt
  refine ⟨M2,rfl,⟨_,SqL.of hM3⟩,for_list (K:=K) (xs:=CS) (fun i σ H4=>∃ v1 v2 v3 v4 v5 v6 v7:Option V,σ=[some (.ref a),some (.ref xra),v1,v2,v3,v4,v5,v6,v7]∧Same HF H4) ⟨_,_,_,_,_,_,_,rfl,Same.refl _⟩ (fun i σ H2 _ ⟨_,_,_,_,_,_,_,_,s2⟩=>SqL.of (s2 _ _ hM3)) ?_ ?_⟩
  ·rintro i y σ H4 hi ⟨v1,v2,v3,v4,v5,v6,v7,rfl,s4⟩
   obtain ⟨n,rfl⟩:=allInt y (List.mem_of_getElem? hi)
   refine ⟨_,rfl,n,rfl,fun p H5 s5 hp4 hp5=>?_⟩
   have hFp:HF p=none:=none_same' s4 hp4
   have up:∀ {Hx:Hp},SameBut p H5 Hx→Same HF Hx:=fun {Hx} s b o e=>s _ _ (fun u=>by rw [u,hFp] at e; cases e) ((s4.trans s5) _ _ e)
   refine ⟨_,rfl,p,rfl,hp5,fun wa t m us ars H6 s6 hp6 W m1 m12 ga=>?_⟩
   refine ⟨_,rfl,wa,t,m,us,ars,rfl,W,ga,m1,m12,fun lh ws T H7 s7 hlh0 hlh tp HU lw=>?_⟩
   have W7:=W.mono s7
   have hp7:=hp6.mono s7
   have nlp:lh≠p:=newp hp6 hlh0
   -- the beginnings
   refine ⟨c0,fun e1 he1=>?_⟩
   have s8:=Same.upd (o:=.tup []) he1
   have he8:(upd H7 e1 (.tup [])) e1=some (.tup []):=upd_same
   have W8:=W7.mono s8
   have hp8:=hp7.mono s8
   have hlh8:=s8 _ _ hlh
   have tp8:=tpi_mono tp s8
   have k8:=s6.trans (s7.trans s8).but
   generalize upd H7 e1 (.tup [])=H8 at s8 he8 W8 hp8 hlh8 tp8 k8 ⊢
   refine ⟨_,rfl,_,rfl,_,rfl,p,wa,t,lh,m,us,ars,ws,T,rfl,hp8,W8,by omega,m12,hlh8,nlp,tp8,lw,fun e2 bs2 H9 s9 hp9 he2 lb2=>?_⟩
   have W9:=Hk.Web.but W8 hp8 s9
   have he9:=s9 _ _ (pen_tup hp8 he8) he8
   refine ⟨_,rfl,_,rfl,c0,fun le hle=>?_⟩
   have s10:=Same.upd (o:=.lst []) hle
   have hp10:=hp9.mono s10
   refine ⟨p,wa,t,le,m,us,ars,[],[],rfl,hp10,W9.mono s10,by omega,m12,upd_same,newp hp9 hle,.nil,by decide,fun e3 bs3 H11 s11 hp11 he3 lb3=>⟨c3,fun L hL=>?_⟩⟩
   have s12:=Same.upd (o:=.lst [.ref e1,.ref e2,.ref e3]) hL
   have s911:SameBut p H9 H11:=s10.but.trans s11
   have hp12:=hp11.mono s12
   have W12:=(Hk.Web.but W9 hp9 s911).mono s12
   have he1':=s12 _ _ (s911 _ _ (pen_tup hp9 he9) he9)
   have he2':=s12 _ _ (s911 _ _ (pen_tup hp9 he2) he2)
   have he3':=s12 _ _ he3
   have k12:=k8.trans (s9.trans (s911.trans s12.but))
   have nLp:L≠p:=newp hp11 hL
   have hL12:(upd H11 L (.lst [.ref e1,.ref e2,.ref e3])) L=some (.lst [.ref e1,.ref e2,.ref e3]):=upd_same
   have allB:∀ v∈[V.ref e1,.ref e2,.ref e3],∃ (c:Addr) (bs:List Bool),v=.ref c∧WB (upd H11 L (.lst [.ref e1,.ref e2,.ref e3])) wa t c m us ars bs:=by
    intro v hv
    simp only [List.mem_cons,List.not_mem_nil,or_false] at hv
    rcases hv with rfl | rfl | rfl
    ·exact ⟨e1,[],rfl,W12,ga,he1',by show ((0:Nat):Int)≤m; omega⟩
    ·exact ⟨e2,bs2,rfl,W12,ga,he2',lb2⟩
    ·exact ⟨e3,bs3,rfl,W12,ga,he3',lb3⟩
   generalize upd H11 L (.lst [.ref e1,.ref e2,.ref e3])=H12 at s12 hp12 W12 he1' he2' he3' k12 hL12 allB ⊢
   generalize [V.ref e1,.ref e2,.ref e3]=BS at hL12 allB
   refine ⟨L,rfl,⟨_,SqL.of hL12⟩,for_list (K:=K) (xs:=BS) (fun i σ H13=>∃ v5 v6 v7:Option V,σ=[some (.ref a),some (.ref xra),some (.int n),some (.ref p),some (.ref wa),some (.ref lh),v5,v6,v7]∧SameBut p H12 H13∧PenAt H13 p) ⟨_,_,_,rfl,SameBut.refl _ _,hp12⟩ (fun i σ H2 _ ⟨_,_,_,_,s2,_⟩=>SqL.of (s2 _ _ nLp hL12)) ?_ ?_⟩
   ·rintro j y σ H13 hj ⟨v5,v6,v7,rfl,s13,hp13⟩
    obtain ⟨c,bs,rfl,B0⟩:=allB y (List.mem_of_getElem? hj)
    have B13:=B0.but hp12 s13
    have gl:=B13.len
    -- the paper
    refine ⟨_,rfl,_,rfl,wa,t,c,m,us,ars,bs,rfl,B13,by omega,tellsP_of (fuel:=13) (fun v H14 s14 io=>?_) (fun x hx=>by have:=(pF_good (m:=m) hx (by omega)).2; omega)⟩
    have B14:=B13.mono s14
    have hp14:=hp13.mono s14
    refine ⟨_,rfl,_,rfl,_,rfl,_,rfl,p,wa,t,m,us,ars,v,_,rfl,hp14,B14.web,m1,m12,by decide,io,fun b1 x1 H15 s15 hp15 it1 d1=>?_⟩
    have B15:=B14.but hp14 s15
    refine ⟨_,rfl,_,rfl,_,rfl,p,wa,t,m,us,ars,v,_,rfl,hp15,B15.web,m1,m12,by decide,isO_but hp14 s15 io,fun b2 x2 H16 s16 hp16 it2 d2=>?_⟩
    have B16:=B15.but hp15 s16
    refine ⟨_,rfl,_,rfl,p,wa,t,m,us,ars,rfl,hp16,B16.web,m1,m12,fun b3 x3 H17 s17 hp17 it3 d3=>⟨(by show 4≤sizeLine; decide),fun L2 hL2=>?_⟩⟩
    have B17:=B16.but hp16 s17
    have s18:=Same.upd (o:=.lst [v,b1,b2,b3]) hL2
    have B18:=B17.mono s18
    have hp18:=hp17.mono s18
    have hL18:(upd H17 L2 (.lst [v,b1,b2,b3])) L2=some (.lst [v,b1,b2,b3]):=upd_same
    obtain ⟨x0,it0,d0⟩:=isO_T hp14 io
    have allT:∀ z∈[v,b1,b2,b3],∃ x,IsT0 (upd H17 L2 (.lst [v,b1,b2,b3])) x z∧dT x < 15:=by
     intro z hz
     simp only [List.mem_cons,List.not_mem_nil,or_false] at hz
     rcases hz with rfl | rfl | rfl | rfl
     ·exact ⟨x0,((((it0.but s15).but s16).but s17).mono s18).to0,by omega⟩
     ·exact ⟨x1,(((it1.but s16).but s17).mono s18).to0,by omega⟩
     ·exact ⟨x2,((it2.but s17).mono s18).to0,by omega⟩
     ·exact ⟨x3,(it3.mono s18).to0,by omega⟩
    have k18:SameBut p H13 (upd H17 L2 (.lst [v,b1,b2,b3])):=s14.but.trans (s15.trans (s16.trans (s17.trans s18.but)))
    generalize upd H17 L2 (.lst [v,b1,b2,b3])=H18 at s18 B18 hp18 hL18 allT k18 ⊢
    generalize [v,b1,b2,b3]=TS at hL18 allT
    refine ⟨L2,rfl,⟨_,SqL.of hL18⟩,for_list (K:=K) (xs:=TS) (fun i σ H19=>∃ v7:Option V,σ=[some (.ref a),some (.ref xra),some (.int n),some (.ref p),some (.ref wa),some (.ref lh),some (.ref c),some v,v7]∧Same H18 H19) ⟨_,rfl,Same.refl _⟩ (fun i σ H2 _ ⟨_,_,s2⟩=>SqL.of (s2 _ _ hL18)) ?_ ?_⟩
    ·rintro ii z σ H19 hii ⟨v7,rfl,s19⟩
     obtain ⟨x,it,dx⟩:=allT z (List.mem_of_getElem? hii)
     refine ⟨_,rfl,_,rfl,_,rfl,wa,t,c,m,us,ars,bs,z,x,rfl,B18.mono s19,it.mono s19,dx,fun H20 s20=>⟨_,rfl,iteF ?_⟩⟩
     exact ⟨_,rfl,s19.trans s20⟩
    rintro σ H19 ⟨v7,rfl,s19⟩
    have hp19:=hp18.mono s19
    have B19:=B18.mono s19
    refine ⟨_,rfl,_,rfl,_,rfl,_,rfl,p,wa,t,c,m,us,ars,bs,rfl,hp19,B19,m12,fun u o H20 s20 hp20 th nb=>?_⟩
    refine ⟨wa,t,m,us,ars,u,o,rfl,(B19.but hp19 s20).web,ga,th,nb,fun H21 s21=>⟨_,rfl,iteF ?_⟩⟩
    exact ⟨_,_,_,rfl,s13.trans (k18.trans (s19.but.trans (s20.trans s21.but))),hp20.mono s21⟩
   ·rintro σ H13 ⟨v5,v6,v7,rfl,s13,hp13⟩
    exact ⟨_,_,_,_,_,_,_,rfl,up (k12.trans s13)⟩
  ·rintro σ H4 ⟨v1,v2,v3,v4,v5,v6,v7,rfl,s4⟩
   exact kk H4
end
end Hk
namespace Hk
open PySem L2
structure DF (K:PySem.W.Frag) (x:Str) (st:Stmt):Prop where
 ex:∃ (f:Addr) (oc:Value) (od an:Option Addr) (osl:Array (Option Value)) (kV doc pm cdv ct:Value),PySem.W.nsIn K mainGlobals x=some (some (.ref f)) ∧
  K.lookup f=some ⟨oc,od,.func (PySem.W.fnOf x x (defArgs st) (defBody st) (defScope st) .none kV doc pm an cdv ct),osl⟩∧PySem.W.codeIn K cdv x=true∧PySem.W.keepIn K (.ref f)=true
theorem DF.of {K:PySem.W.Frag} {x:Str} {st:Stmt} {f:Addr} {oc:Value} {od an:Option Addr} {osl:Array (Option Value)} {kV doc pm cdv ct:Value} (a:PySem.W.nsIn K mainGlobals x=some (some (.ref f)))
  (l:K.lookup f=some ⟨oc,od,.func (PySem.W.fnOf x x (defArgs st) (defBody st) (defScope st) .none kV doc pm an cdv ct),osl⟩) (c:PySem.W.codeIn K cdv x=true) (k:PySem.W.keepIn K (.ref f)=true):DF K x st:=⟨⟨f,oc,od,an,osl,kV,doc,pm,cdv,ct,a,l,c,k⟩⟩
theorem DF.at {K:PySem.W.Frag} {h:Heap} {mg:Str→Option Value} {x:Str} {st:Stmt} {ps:List Str} (D:DF K x st) (X:K.In h) (G:h.Ns mainGlobals mg)
  (hb:∀ (kV doc pm:Value) (an:Option Addr) (cdv ct:Value) (us:List Value),us.length=ps.length→bindArgs (PySem.W.fnOf x x (defArgs st) (defBody st) (defScope st) .none kV doc pm an cdv ct) ⟨us,[]⟩=pure (ps.zip us)):DefAt K mg x st ps:=by
 obtain ⟨f,oc,od,an,osl,kV,doc,pm,cdv,ct,a,l,c,k⟩:=D.ex
 exact ⟨f,_,fun_mk l c k,PySem.W.mg_of X G a,(fun_mk l c k).binds hb⟩
theorem all_mk {P:Program} {w:World} {K:PySem.W.Frag} {h:Heap} {mg:Str→Option Value} {fa:Addr} (X:K.In h) (G:h.Ns mainGlobals mg) (hfa:mg "law"=some (.ref fa))
  {CW fW:Addr} {TW:Addr} {ocD xD:Value} {odD:Option Addr} {nD:Nat} {oslD:Array (Option Value)} {ocW kVW docW pmW cdvW ctW:Value} {odW anW:Option Addr} {oslW:Array (Option Value)} {c0:Addr} {c1:Addr} {c2:Addr} {c3:Addr} {c4:Addr} {c5:Addr} {c6:Addr} {c7:Addr} {c8:Addr} {fNoPlace NNoPlace:Addr} {nmNoPlace qNoPlace:Str} {bsNoPlace bmNoPlace subNoPlace:List Value} {hdNoPlace abNoPlace:Bool} {snNoPlace:List Str} {colNoPlace:Option Bool} {ddNoPlace:Option Addr} {k0NoPlace k1NoPlace k2NoPlace k3NoPlace k5NoPlace:Option Value} {ocNoPlace kVNoPlace docNoPlace pmNoPlace cdvNoPlace ctNoPlace:Value} {odNoPlace anNoPlace:Option Addr} {oslNoPlace:Array (Option Value)} (aW:PySem.W.nsIn K mainGlobals "WebError"=some (some (.ref CW))) (mW1:PySem.W.specialIn K (.ref CW) "__getattribute__"=some (some (.builtin "type.__getattribute__"))) (mW2:PySem.W.readsIn K CW (.type "type")=true) (mW3:PySem.W.findCls K (.ref CW) (.type "type") "__init__"=some (.val (.ref fW))) (mW4:PySem.W.keepIn K (.ref fW)=true) (lfW:K.lookup fW=some ⟨ocW,odW,.func (PySem.W.fnOf "__init__" "WebError.__init__" (defArgs s_WebError_init) (defBody s_WebError_init) (defScope s_WebError_init) (.ref TW) kVW docW pmW anW cdvW ctW),oslW⟩) (cfW:PySem.W.codeIn K cdvW "WebError.__init__"=true) (dW:K.lookup TW=some ⟨ocD,odD,.seq #[xD] nD,oslD⟩) (ac0:PySem.W.nsIn K mainGlobals "NoPlace"=some (some (.ref c0))) (ac1:PySem.W.nsIn K mainGlobals "NoHold"=some (some (.ref c1))) (ac2:PySem.W.nsIn K mainGlobals "NoArrow"=some (some (.ref c2))) (ac3:PySem.W.nsIn K mainGlobals "NoNumber"=some (some (.ref c3))) (ac4:PySem.W.nsIn K mainGlobals "NoRow"=some (some (.ref c4))) (ac5:PySem.W.nsIn K mainGlobals "NoWeb"=some (some (.ref c5))) (ac6:PySem.W.nsIn K mainGlobals "Ringed"=some (some (.ref c6))) (ac7:PySem.W.nsIn K mainGlobals "NoText"=some (some (.ref c7))) (ac8:PySem.W.nsIn K mainGlobals "TooGreat"=some (some (.ref c8))) (gsp:PySem.W.specialIn K (.builtin "object.__class__") "__get__"=some (some (.builtin "getset_descriptor.__get__"))) (gtk:PySem.W.takesIn K (.builtin "object.__class__")=some true) (lNoPlace:K.lookup c0=some (excClassObj nmNoPlace qNoPlace c0 NNoPlace bsNoPlace bmNoPlace hdNoPlace snNoPlace subNoPlace abNoPlace colNoPlace ddNoPlace k0NoPlace k1NoPlace k2NoPlace k3NoPlace k5NoPlace "ValueError.__new__")) (v0NoPlace:bmNoPlace.contains (.type "ValueError")=true) (v1NoPlace:bmNoPlace.contains (.type "BaseException")=true) (v2NoPlace:bmNoPlace.contains (.type "AttributeError")=false) (v3NoPlace:bmNoPlace.contains (.type "NameError")=false) (i1NoPlace:PySem.W.findIn K (.ref c0) "__init__"=some (some (.ref fNoPlace))) (i2NoPlace:PySem.W.isFn K (.ref fNoPlace)=true) (i3NoPlace:PySem.W.keepIn K (.ref c0)=true) (g1NoPlace:PySem.W.findIn K (.ref c0) "__getattribute__"=some (some (.builtin "BaseException.__getattribute__"))) (g2NoPlace:PySem.W.findIn K (.ref c0) "__getattr__"=some none) (g3NoPlace:PySem.W.subIn K (.ref c0) (.type "BaseException")=some true) (g4NoPlace:PySem.W.findIn K (.ref c0) "__class__"=some (some (.builtin "object.__class__"))) (g5NoPlace:PySem.W.mroIn K c0 (.type "object")=some true) (lfNoPlace:K.lookup fNoPlace=some ⟨ocNoPlace,odNoPlace,.func (PySem.W.fnOf "__init__" "NoPlace.__init__" (defArgs s_NoPlace_init) (defBody s_NoPlace_init) (defScope s_NoPlace_init) .none kVNoPlace docNoPlace pmNoPlace anNoPlace cdvNoPlace ctNoPlace),oslNoPlace⟩) (cfNoPlace:PySem.W.codeIn K cdvNoPlace "NoPlace.__init__"=true) (exNoPlace:PySem.W.exmOne K (.ref c0) (.ref CW)=some true) (kvNoPlace:PySem.W.kitOne K (.ref c0) (.type "ValueError")=some true) (kk0NoPlace:PySem.W.kitOne K (.ref c0) (.ref c0)=some true) (kk1NoPlace:PySem.W.kitOne K (.ref c0) (.ref c1)=some false) (kk2NoPlace:PySem.W.kitOne K (.ref c0) (.ref c2)=some false) (kk3NoPlace:PySem.W.kitOne K (.ref c0) (.ref c3)=some false) (kk4NoPlace:PySem.W.kitOne K (.ref c0) (.ref c4)=some false) (kk5NoPlace:PySem.W.kitOne K (.ref c0) (.ref c5)=some false) (kk6NoPlace:PySem.W.kitOne K (.ref c0) (.ref c6)=some false) (kk7NoPlace:PySem.W.kitOne K (.ref c0) (.ref c7)=some false) (kk8NoPlace:PySem.W.kitOne K (.ref c0) (.ref c8)=some false)
  (d0:DF K "whole_good" s_whole_good) (d1:DF K "place_good" s_place_good) (d2:DF K "pair_good" s_pair_good) (d3:DF K "all_leads" s_all_leads) (d4:DF K "marked" s_marked) (d6:DF K "tied_arrows" s_tied_arrows) (d7:DF K "fault_good" s_fault_good) (d8:DF K "truths_good" s_truths_good) (d9:DF K "places_with" s_places_with) (d10:DF K "refuse_no_beginning" s_refuse_no_beginning) (d11:DF K "tied_begun" s_tied_begun) (d12:DF K "lost_begun" s_lost_begun) (d13:DF K "paper_good" s_paper_good) (d14:DF K "cases_good" s_cases_good) (d15:DF K "_law_cell_at" s_law_cell_at) (d16:DF K "_law_next" s_law_next) (d17:DF K "_law_pen_of" s_law_pen_of) (d18:DF K "_law_draw" s_law_draw) (d19:DF K "_law_whole" s_law_whole) (d20:DF K "_law_kind_of" s_law_kind_of) (d21:DF K "_law_web_by" s_law_web_by) (d22:DF K "_law_small_web" s_law_small_web) (d23:DF K "_law_nexts" s_law_nexts) (d24:DF K "_law_fault" s_law_fault) (d25:DF K "_law_all_sets" s_law_all_sets) (d26:DF K "_law_holds_of" s_law_holds_of) (d27:DF K "_law_beginning" s_law_beginning) (d28:DF K "_law_odd_beginning" s_law_odd_beginning) (d29:DF K "_law_paper_of" s_law_paper_of) (d30:DF K "_law_paper_due" s_law_paper_due) (d31:DF K "_law_leaf" s_law_leaf) (d32:DF K "_law_bent" s_law_bent) (d33:DF K "_law_right" s_law_right) (d34:DF K "_law_refused" s_law_refused) (d35:DF K "law" s_law)
  (z0:PySem.W.nsIn K mainGlobals "ValueError"=some none) (z1:PySem.W.nsIn K mainGlobals "all"=some none) (z2:PySem.W.nsIn K mainGlobals "any"=some none) (z3:PySem.W.nsIn K mainGlobals "bool"=some none) (z4:PySem.W.nsIn K mainGlobals "enumerate"=some none) (z5:PySem.W.nsIn K mainGlobals "int"=some none) (z6:PySem.W.nsIn K mainGlobals "isinstance"=some none) (z7:PySem.W.nsIn K mainGlobals "len"=some none) (z8:PySem.W.nsIn K mainGlobals "list"=some none) (z9:PySem.W.nsIn K mainGlobals "max"=some none) (z10:PySem.W.nsIn K mainGlobals "range"=some none) (z11:PySem.W.nsIn K mainGlobals "sorted"=some none) (z12:PySem.W.nsIn K mainGlobals "str"=some none) (z13:PySem.W.nsIn K mainGlobals "tuple"=some none) :
  ∃ fd:FuncData,(∀ (s:Shared) (v:Value),BindsTo s fd ⟨[v],[]⟩ [("script",v)])∧∀ base:Heap,K.In base→base.Ns mainGlobals mg→FnOk P w K mg base CX0 23 fa fd ["script"] (spLaw K):=by
 have D0:=d0.at (ps:=["thing"]) X G fun _ _ _ _ _ _ us hl=>match us,hl with | [_],_=>rfl
 have D1:=d1.at (ps:=["web","thing"]) X G fun _ _ _ _ _ _ us hl=>match us,hl with | [_,_],_=>rfl
 have D2:=d2.at (ps:=["web","thing"]) X G fun _ _ _ _ _ _ us hl=>match us,hl with | [_,_],_=>rfl
 have D3:=d3.at (ps:=["web"]) X G fun _ _ _ _ _ _ us hl=>match us,hl with | [_],_=>rfl
 have D4:=d4.at (ps:=["places"]) X G fun _ _ _ _ _ _ us hl=>match us,hl with | [_],_=>rfl
 have D6:=d6.at (ps:=["web","places"]) X G fun _ _ _ _ _ _ us hl=>match us,hl with | [_,_],_=>rfl
 have D7:=d7.at (ps:=["web","tied","lost","thing"]) X G fun _ _ _ _ _ _ us hl=>match us,hl with | [_,_,_,_],_=>rfl
 have D8:=d8.at (ps:=["thing"]) X G fun _ _ _ _ _ _ us hl=>match us,hl with | [_],_=>rfl
 have D9:=d9.at (ps:=["truths","wanted"]) X G fun _ _ _ _ _ _ us hl=>match us,hl with | [_,_],_=>rfl
 have D10:=d10.at (ps:=["web","thing"]) X G fun _ _ _ _ _ _ us hl=>match us,hl with | [_,_],_=>rfl
 have D11:=d11.at (ps:=["web","begun"]) X G fun _ _ _ _ _ _ us hl=>match us,hl with | [_,_],_=>rfl
 have D12:=d12.at (ps:=["web","begun"]) X G fun _ _ _ _ _ _ us hl=>match us,hl with | [_,_],_=>rfl
 have D13:=d13.at (ps:=["web","begun","thing"]) X G fun _ _ _ _ _ _ us hl=>match us,hl with | [_,_,_],_=>rfl
 have D14:=d14.at (ps:=["web","begun","thing"]) X G fun _ _ _ _ _ _ us hl=>match us,hl with | [_,_,_],_=>rfl
 have D15:=d15.at (ps:=["script","k"]) X G fun _ _ _ _ _ _ us hl=>match us,hl with | [_,_],_=>rfl
 have D16:=d16.at (ps:=["seed"]) X G fun _ _ _ _ _ _ us hl=>match us,hl with | [_],_=>rfl
 have D17:=d17.at (ps:=["cell"]) X G fun _ _ _ _ _ _ us hl=>match us,hl with | [_],_=>rfl
 have D18:=d18.at (ps:=["pen","many"]) X G fun _ _ _ _ _ _ us hl=>match us,hl with | [_,_],_=>rfl
 have D19:=d19.at (ps:=["found"]) X G fun _ _ _ _ _ _ us hl=>match us,hl with | [_],_=>rfl
 have D20:=d20.at (ps:=["e"]) X G fun _ _ _ _ _ _ us hl=>match us,hl with | [_],_=>rfl
 have D21:=d21.at (ps:=["pen","most"]) X G fun _ _ _ _ _ _ us hl=>match us,hl with | [_,_],_=>rfl
 have D22:=d22.at (ps:=["pen"]) X G fun _ _ _ _ _ _ us hl=>match us,hl with | [_],_=>rfl
 have D23:=d23.at (ps:=["web","place"]) X G fun _ _ _ _ _ _ us hl=>match us,hl with | [_,_],_=>rfl
 have D24:=d24.at (ps:=["web","places"]) X G fun _ _ _ _ _ _ us hl=>match us,hl with | [_,_],_=>rfl
 have D25:=d25.at (ps:=["many"]) X G fun _ _ _ _ _ _ us hl=>match us,hl with | [_],_=>rfl
 have D26:=d26.at (ps:=["web"]) X G fun _ _ _ _ _ _ us hl=>match us,hl with | [_],_=>rfl
 have D27:=d27.at (ps:=["pen","web","holds"]) X G fun _ _ _ _ _ _ us hl=>match us,hl with | [_,_,_],_=>rfl
 have D28:=d28.at (ps:=["pen","web","begun"]) X G fun _ _ _ _ _ _ us hl=>match us,hl with | [_,_,_],_=>rfl
 have D29:=d29.at (ps:=["web","begun"]) X G fun _ _ _ _ _ _ us hl=>match us,hl with | [_,_],_=>rfl
 have D30:=d30.at (ps:=["web","begun","thing"]) X G fun _ _ _ _ _ _ us hl=>match us,hl with | [_,_,_],_=>rfl
 have D31:=d31.at (ps:=["pen","web"]) X G fun _ _ _ _ _ _ us hl=>match us,hl with | [_,_],_=>rfl
 have D32:=d32.at (ps:=["pen","web","paper"]) X G fun _ _ _ _ _ _ us hl=>match us,hl with | [_,_,_],_=>rfl
 have D33:=d33.at (ps:=["web","begun","thing"]) X G fun _ _ _ _ _ _ us hl=>match us,hl with | [_,_,_],_=>rfl
 have D34:=d34.at (ps:=["web","thing"]) X G fun _ _ _ _ _ _ us hl=>match us,hl with | [_,_],_=>rfl
 obtain ⟨f,oc,od,an,osl,kV,doc,pm,cdv,ct,a,l,c,k⟩:=d35.ex
 have e:=hfa.symm.trans (PySem.W.mg_of X G a)
 cases e
 have F:=fun_mk (st:=s_law) l c k
 have y0:=PySem.W.mg_none_of X G z0
 have y1:=PySem.W.mg_none_of X G z1
 have y2:=PySem.W.mg_none_of X G z2
 have y3:=PySem.W.mg_none_of X G z3
 have y4:=PySem.W.mg_none_of X G z4
 have y5:=PySem.W.mg_none_of X G z5
 have y6:=PySem.W.mg_none_of X G z6
 have y7:=PySem.W.mg_none_of X G z7
 have y8:=PySem.W.mg_none_of X G z8
 have y9:=PySem.W.mg_none_of X G z9
 have y10:=PySem.W.mg_none_of X G z10
 have y11:=PySem.W.mg_none_of X G z11
 have y12:=PySem.W.mg_none_of X G z12
 have y13:=PySem.W.mg_none_of X G z13
 have hW:=PySem.W.mg_of X G aW
 have MW:CMeth K CW "__init__" fW:=⟨mW1,mW2,mW3,mW4⟩
 have hc0:=PySem.W.mg_of X G ac0
 have hc1:=PySem.W.mg_of X G ac1
 have hc2:=PySem.W.mg_of X G ac2
 have hc3:=PySem.W.mg_of X G ac3
 have hc4:=PySem.W.mg_of X G ac4
 have hc5:=PySem.W.mg_of X G ac5
 have hc6:=PySem.W.mg_of X G ac6
 have hc7:=PySem.W.mg_of X G ac7
 have hc8:=PySem.W.mg_of X G ac8
 have kinds:Kinds mg c0 c1 c2 c3 c4 c5 c6 c7 c8:=⟨hc0,hc1,hc2,hc3,hc4,hc5,hc6,hc7,hc8⟩
 have M_NoPlace:XMk K c0 fNoPlace bmNoPlace:=⟨⟨⟨_,_,_,_,_,_,_,_,_,_,_,_,_,_,_,lNoPlace⟩,v0NoPlace,v1NoPlace,v2NoPlace,v3NoPlace⟩,i1NoPlace,i2NoPlace,i3NoPlace⟩
 have XI_NoPlace:XIs K c0:=⟨g1NoPlace,g2NoPlace,g3NoPlace,g4NoPlace,gsp,gtk,g5NoPlace,by unfold PySem.W.clsIn; rw [lNoPlace]; rfl⟩
 have kd_NoPlace:KindOf K c0 c0 c1 c2 c3 c4 c5 c6 c7 c8 0:=⟨XI_NoPlace,kvNoPlace,kk0NoPlace,kk1NoPlace,kk2NoPlace,kk3NoPlace,kk4NoPlace,kk5NoPlace,kk6NoPlace,kk7NoPlace,kk8NoPlace⟩
 refine ⟨PySem.W.fnOf "law" "law" (defArgs s_law) (defBody s_law) (defScope s_law) .none kV doc pm an cdv ct,fun s v=>.of_eq rfl,fun base _ _=>?_⟩
 have okW:=ok_initW (P:=P) (w:=w) (base:=base) (mg:=mg) (f:=fW) ⟨_,_,_,_,_,_,_,_,_,_,rfl,lfW,cfW⟩ (fun z hz=>by
   simp only [List.mem_cons,List.not_mem_nil,or_false] at hz
   rcases hz with rfl
   ·exact y0)
 have bW:Binds K (PySem.W.fnOf "__init__" "WebError.__init__" (defArgs s_WebError_init) (defBody s_WebError_init) (defScope s_WebError_init) (.ref TW) kVW docW pmW anW cdvW ctW) ["self","words"] []:=fun s us KX hl=>by
  rw [List.append_nil] at hl ⊢
  exact match us,hl with | [_,_],_=>.of_defaults rfl (KX _ _ dW) rfl rfl rfl
 have ok_NoPlace:=ok_init_NoPlace (P:=P) (w:=w) (base:=base) (mg:=mg) (f:=fNoPlace) ⟨_,_,_,_,_,_,_,_,_,_,rfl,lfNoPlace,cfNoPlace⟩ hW MW okW bW
 have b_NoPlace:Binds K (PySem.W.fnOf "__init__" "NoPlace.__init__" (defArgs s_NoPlace_init) (defBody s_NoPlace_init) (defScope s_NoPlace_init) .none kVNoPlace docNoPlace pmNoPlace anNoPlace cdvNoPlace ctNoPlace) ["self"] []:=Binds.all fun us hl=>match us,hl with | [_],_=>rfl
 have h_NoPlace:=hc0
 have ex_NoPlace:=exNoPlace
 have K0:=kn_whole (P:=P) (w:=w) (base:=base) D0 (fun z hz=>by
   simp only [List.mem_cons,List.not_mem_nil,or_false] at hz
   rcases hz with rfl | rfl | rfl
   ·exact y6
   ·exact y5
   ·exact y3) 
 have K1:=kn_place (P:=P) (w:=w) (base:=base) D1  K0
 have K2:=kn_pair (P:=P) (w:=w) (base:=base) D2 (fun z hz=>by
   simp only [List.mem_cons,List.not_mem_nil,or_false] at hz
   rcases hz with rfl | rfl | rfl
   ·exact y6
   ·exact y13
   ·exact y7) K1
 have K3:=kn_allleads (P:=P) (w:=w) (base:=base) D3 (fun z hz=>by
   simp only [List.mem_cons,List.not_mem_nil,or_false] at hz
   rcases hz with rfl
   ·exact y10) 
 have K4:=kn_marked (P:=P) (w:=w) (base:=base) D4  
 have K5:=kn_markedK (P:=P) (w:=w) (base:=base) D4  
 have K6:=kn_tied (P:=P) (w:=w) (base:=base) D6  K4
 have K7:=kn_fg (P:=P) (w:=w) (base:=base) D7 (fun z hz=>by
   simp only [List.mem_cons,List.not_mem_nil,or_false] at hz
   rcases hz with rfl | rfl | rfl
   ·exact y6
   ·exact y7
   ·exact y13) K1 K2
 have K8:=kn_truths (P:=P) (w:=w) (base:=base) D8 (fun z hz=>by
   simp only [List.mem_cons,List.not_mem_nil,or_false] at hz
   rcases hz with rfl | rfl | rfl | rfl
   ·exact y6
   ·exact y13
   ·exact y1
   ·exact y3) 
 have K9:=kn_plw (P:=P) (w:=w) (base:=base) D9 (fun z hz=>by
   simp only [List.mem_cons,List.not_mem_nil,or_false] at hz
   rcases hz with rfl | rfl
   ·exact y13
   ·exact y4) 
 have K10:=knx_rnb (P:=P) (w:=w) (base:=base) D10 (fun z hz=>by
   simp only [List.mem_cons,List.not_mem_nil,or_false] at hz
   rcases hz with rfl
   ·exact y7) K8 M_NoPlace h_NoPlace ok_NoPlace b_NoPlace
 have K11:=kn_tb (P:=P) (w:=w) (base:=base) D11  K6 K9
 have K12:=kn_lb (P:=P) (w:=w) (base:=base) D12 (fun z hz=>by
   simp only [List.mem_cons,List.not_mem_nil,or_false] at hz
   rcases hz with rfl
   ·exact y1) K3 K5 K9
 have K13:=kn_pt (P:=P) (w:=w) (base:=base) D13 (fun z hz=>by
   simp only [List.mem_cons,List.not_mem_nil,or_false] at hz
   rcases hz with rfl | rfl | rfl
   ·exact y6
   ·exact y7
   ·exact y13) K7 K11 K12
 have K14:=knx_cgt (P:=P) (w:=w) (base:=base) D14  K10 K13
 have K15:=kn_cell (P:=P) (w:=w) (base:=base) D15 (fun z hz=>by
   simp only [List.mem_cons,List.not_mem_nil,or_false] at hz
   rcases hz with rfl
   ·exact y7) 
 have K16:=kn_next (P:=P) (w:=w) (base:=base) D16  
 have K17:=kn_pen (P:=P) (w:=w) (base:=base) D17 (fun z hz=>by
   simp only [List.mem_cons,List.not_mem_nil,or_false] at hz
   rcases hz with rfl | rfl
   ·exact y9
   ·exact y5) 
 have K18:=kn_draw (P:=P) (w:=w) (base:=base) D18  K16
 have K19:=kn_lawWhole (P:=P) (w:=w) (base:=base) D19 (fun z hz=>by
   simp only [List.mem_cons,List.not_mem_nil,or_false] at hz
   rcases hz with rfl | rfl | rfl
   ·exact y6
   ·exact y5
   ·exact y3) 
 have K20:=knH_kind (P:=P) (w:=w) (base:=base) D20 (fun z hz=>by
   simp only [List.mem_cons,List.not_mem_nil,or_false] at hz
   rcases hz with rfl | rfl
   ·exact y6
   ·exact y0) kinds
 have K21:=kn_webby (P:=P) (w:=w) (base:=base) D21 (fun z hz=>by
   simp only [List.mem_cons,List.not_mem_nil,or_false] at hz
   rcases hz with rfl | rfl | rfl
   ·exact y10
   ·exact y13
   ·exact y11) K18
 have K22:=kn_small (P:=P) (w:=w) (base:=base) D22 (fun z hz=>by
   simp only [List.mem_cons,List.not_mem_nil,or_false] at hz
   rcases hz with rfl | rfl | rfl
   ·exact y10
   ·exact y13
   ·exact y11) K18 K21
 have K23:=kn_nexts (P:=P) (w:=w) (base:=base) D23  
 have K24:=kn_fault (P:=P) (w:=w) (base:=base) D24 (fun z hz=>by
   simp only [List.mem_cons,List.not_mem_nil,or_false] at hz
   rcases hz with rfl
   ·exact y10) K23
 have K25:=kn_setsx (P:=P) (w:=w) (base:=base) D25 (fun z hz=>by
   simp only [List.mem_cons,List.not_mem_nil,or_false] at hz
   rcases hz with rfl
   ·exact y10) 
 have K26:=kn_lholds (P:=P) (w:=w) (base:=base) D26 (fun z hz=>by
   simp only [List.mem_cons,List.not_mem_nil,or_false] at hz
   rcases hz with rfl
   ·exact y11) K25 K24
 have K27:=kn_bg (P:=P) (w:=w) (base:=base) D27 (fun z hz=>by
   simp only [List.mem_cons,List.not_mem_nil,or_false] at hz
   rcases hz with rfl | rfl | rfl
   ·exact y7
   ·exact y10
   ·exact y13) K18
 have K28:=kn_ob (P:=P) (w:=w) (base:=base) D28 (fun z hz=>by
   simp only [List.mem_cons,List.not_mem_nil,or_false] at hz
   rcases hz with rfl
   ·exact y8) K18
 have K29:=kn_po (P:=P) (w:=w) (base:=base) D29 (fun z hz=>by
   simp only [List.mem_cons,List.not_mem_nil,or_false] at hz
   rcases hz with rfl | rfl | rfl
   ·exact y2
   ·exact y7
   ·exact y10) K23
 have K30:=kn_ldt (P:=P) (w:=w) (base:=base) D30 (fun z hz=>by
   simp only [List.mem_cons,List.not_mem_nil,or_false] at hz
   rcases hz with rfl | rfl | rfl | rfl | rfl | rfl | rfl
   ·exact y1
   ·exact y2
   ·exact y6
   ·exact y7
   ·exact y10
   ·exact y12
   ·exact y13) K19 K23
 have K31:=kn_leaf (P:=P) (w:=w) (base:=base) D31  K18
 have K32:=kn_bent (P:=P) (w:=w) (base:=base) D32 (fun z hz=>by
   simp only [List.mem_cons,List.not_mem_nil,or_false] at hz
   rcases hz with rfl | rfl | rfl
   ·exact y6
   ·exact y8
   ·exact y13) K18 K31
 have K33:=kn_right28 (P:=P) (w:=w) (base:=base) D33 (fun z hz=>by
   simp only [List.mem_cons,List.not_mem_nil,or_false] at hz
   rcases hz with rfl | rfl
   ·exact y3
   ·exact y6) K30 K14
 have K34:=kn_refused28 (P:=P) (w:=w) (base:=base) D34  K14 K20 hW ex_NoPlace kd_NoPlace
 exact ok_law F  K15 K17 K22 K26 K27 K28 K29 K32 K31 K33 K34 K14
theorem walk {l:PySem.W.OpenLaw} {q:Program} {loose:List Str} {XP:(Str→Option Value)→Heap→Prop} {YP:World→Heap→Prop} {d:DefRec} {K:Params→PySem.W.Frag} (hn:l.most=some 63) (hdf:d.params.defaults=[])
  (hY:∀ (w:World) (h:Heap),YP w h→(K w.params).In h)
  (F:∀ (w:World) (mg:Str→Option Value) (fa:Addr) (h:Heap),(K w.params).In h→h.Ns mainGlobals mg→mg d.name=some (.ref fa) →
   ∃ fd:FuncData,(∀ (s:Shared) (u:Value),BindsTo s fd ⟨[u],[]⟩ [("script",u)])∧∀ base:Heap,(K w.params).In base→base.Ns mainGlobals mg→FnOk l.prog w (K w.params) mg base CX0 23 fa fd ["script"] (spLaw (K w.params))) :
  PySem.W.WalkO q loose XP YP l.row.toRowW d [] (fun f vs=>PySem.call f vs) :=
 L2.walk_of (n:=63) (k:=23) (x:="script") (CX:=fun _=>CX0) (sp:=fun w=>spLaw (K w.params)) hn (by decide) hdf ⟨rfl,by decide,by decide,rfl⟩ hY F (fun _ _ a ns hl _ hS=>⟨a,ns,rfl,hS,hl,fun _=>rfl⟩) fun _ _ _ _ _ z=>z
end Hk
open PySem PySem.W PyProof.Rows
set_option maxRecDepth 100000 in
set_option maxHeartbeats 0 in
theorem PySem.Challenge.cw_holdsets_k28_cases_by_anybody_holds : PySem.Challenge.rw_holdsets_k28_cases_by_anybody.Holds := by
 w_on; o_law; k_head; (case hw=>w_witness2)
 k_fill
 refine Hk.walk (l:=PySem.Challenge.rw_holdsets_k28_cases_by_anybody) rfl rfl (fun w h Y=>PySem.W.kIn_of Y) ?F
 case F =>
  intro w mg fa h KX G hmg
  refine' Hk.all_mk KX G hmg ?aW ?mW1 ?mW2 ?mW3 ?mW4 ?lfW ?cfW ?dW ?ac0 ?ac1 ?ac2 ?ac3 ?ac4 ?ac5 ?ac6 ?ac7 ?ac8 ?gsp ?gtk ?lNoPlace ?v0NoPlace ?v1NoPlace ?v2NoPlace ?v3NoPlace ?i1NoPlace ?i2NoPlace ?i3NoPlace ?g1NoPlace ?g2NoPlace ?g3NoPlace ?g4NoPlace ?g5NoPlace ?lfNoPlace ?cfNoPlace ?exNoPlace ?kvNoPlace ?kk0NoPlace ?kk1NoPlace ?kk2NoPlace ?kk3NoPlace ?kk4NoPlace ?kk5NoPlace ?kk6NoPlace ?kk7NoPlace ?kk8NoPlace ?d0 ?d1 ?d2 ?d3 ?d4 ?d6 ?d7 ?d8 ?d9 ?d10 ?d11 ?d12 ?d13 ?d14 ?d15 ?d16 ?d17 ?d18 ?d19 ?d20 ?d21 ?d22 ?d23 ?d24 ?d25 ?d26 ?d27 ?d28 ?d29 ?d30 ?d31 ?d32 ?d33 ?d34 ?d35 ?z0 ?z1 ?z2 ?z3 ?z4 ?z5 ?z6 ?z7 ?z8 ?z9 ?z10 ?z11 ?z12 ?z13
  (case aW=>k_is)
  (case mW1=>k_is)
  (case mW2=>k_is)
  (case mW3=>k_is)
  (case mW4=>k_is)
  (case lfW=>k_is)
  (case cfW=>k_is)
  (case dW=>k_is)
  (case ac0=>k_is)
  (case ac1=>k_is)
  (case ac2=>k_is)
  (case ac3=>k_is)
  (case ac4=>k_is)
  (case ac5=>k_is)
  (case ac6=>k_is)
  (case ac7=>k_is)
  (case ac8=>k_is)
  (case gsp=>k_is)
  (case gtk=>k_is)
  (case lNoPlace=>k_is)
  (case v0NoPlace=>decide +kernel)
  (case v1NoPlace=>decide +kernel)
  (case v2NoPlace=>decide +kernel)
  (case v3NoPlace=>decide +kernel)
  (case i1NoPlace=>k_is)
  (case i2NoPlace=>k_is)
  (case i3NoPlace=>k_is)
  (case g1NoPlace=>k_is)
  (case g2NoPlace=>k_is)
  (case g3NoPlace=>k_is)
  (case g4NoPlace=>k_is)
  (case g5NoPlace=>k_is)
  (case lfNoPlace=>k_is)
  (case cfNoPlace=>k_is)
  (case exNoPlace=>kts_exm)
  (case kvNoPlace=>kit_is)
  (case kk0NoPlace=>kit_is)
  (case kk1NoPlace=>kit_is)
  (case kk2NoPlace=>kit_is)
  (case kk3NoPlace=>kit_is)
  (case kk4NoPlace=>kit_is)
  (case kk5NoPlace=>kit_is)
  (case kk6NoPlace=>kit_is)
  (case kk7NoPlace=>kit_is)
  (case kk8NoPlace=>kit_is)
  (case d0=>refine' Hk.DF.of ?a ?l ?c ?k; (case a=>k_is); (case l=>k_is); (case c=>k_is); (case k=>k_is))
  (case d1=>refine' Hk.DF.of ?a ?l ?c ?k; (case a=>k_is); (case l=>k_is); (case c=>k_is); (case k=>k_is))
  (case d2=>refine' Hk.DF.of ?a ?l ?c ?k; (case a=>k_is); (case l=>k_is); (case c=>k_is); (case k=>k_is))
  (case d3=>refine' Hk.DF.of ?a ?l ?c ?k; (case a=>k_is); (case l=>k_is); (case c=>k_is); (case k=>k_is))
  (case d4=>refine' Hk.DF.of ?a ?l ?c ?k; (case a=>k_is); (case l=>k_is); (case c=>k_is); (case k=>k_is))
  (case d6=>refine' Hk.DF.of ?a ?l ?c ?k; (case a=>k_is); (case l=>k_is); (case c=>k_is); (case k=>k_is))
  (case d7=>refine' Hk.DF.of ?a ?l ?c ?k; (case a=>k_is); (case l=>k_is); (case c=>k_is); (case k=>k_is))
  (case d8=>refine' Hk.DF.of ?a ?l ?c ?k; (case a=>k_is); (case l=>k_is); (case c=>k_is); (case k=>k_is))
  (case d9=>refine' Hk.DF.of ?a ?l ?c ?k; (case a=>k_is); (case l=>k_is); (case c=>k_is); (case k=>k_is))
  (case d10=>refine' Hk.DF.of ?a ?l ?c ?k; (case a=>k_is); (case l=>k_is); (case c=>k_is); (case k=>k_is))
  (case d11=>refine' Hk.DF.of ?a ?l ?c ?k; (case a=>k_is); (case l=>k_is); (case c=>k_is); (case k=>k_is))
  (case d12=>refine' Hk.DF.of ?a ?l ?c ?k; (case a=>k_is); (case l=>k_is); (case c=>k_is); (case k=>k_is))
  (case d13=>refine' Hk.DF.of ?a ?l ?c ?k; (case a=>k_is); (case l=>k_is); (case c=>k_is); (case k=>k_is))
  (case d14=>refine' Hk.DF.of ?a ?l ?c ?k; (case a=>k_is); (case l=>k_is); (case c=>k_is); (case k=>k_is))
  (case d15=>refine' Hk.DF.of ?a ?l ?c ?k; (case a=>k_is); (case l=>k_is); (case c=>k_is); (case k=>k_is))
  (case d16=>refine' Hk.DF.of ?a ?l ?c ?k; (case a=>k_is); (case l=>k_is); (case c=>k_is); (case k=>k_is))
  (case d17=>refine' Hk.DF.of ?a ?l ?c ?k; (case a=>k_is); (case l=>k_is); (case c=>k_is); (case k=>k_is))
  (case d18=>refine' Hk.DF.of ?a ?l ?c ?k; (case a=>k_is); (case l=>k_is); (case c=>k_is); (case k=>k_is))
  (case d19=>refine' Hk.DF.of ?a ?l ?c ?k; (case a=>k_is); (case l=>k_is); (case c=>k_is); (case k=>k_is))
  (case d20=>refine' Hk.DF.of ?a ?l ?c ?k; (case a=>k_is); (case l=>k_is); (case c=>k_is); (case k=>k_is))
  (case d21=>refine' Hk.DF.of ?a ?l ?c ?k; (case a=>k_is); (case l=>k_is); (case c=>k_is); (case k=>k_is))
  (case d22=>refine' Hk.DF.of ?a ?l ?c ?k; (case a=>k_is); (case l=>k_is); (case c=>k_is); (case k=>k_is))
  (case d23=>refine' Hk.DF.of ?a ?l ?c ?k; (case a=>k_is); (case l=>k_is); (case c=>k_is); (case k=>k_is))
  (case d24=>refine' Hk.DF.of ?a ?l ?c ?k; (case a=>k_is); (case l=>k_is); (case c=>k_is); (case k=>k_is))
  (case d25=>refine' Hk.DF.of ?a ?l ?c ?k; (case a=>k_is); (case l=>k_is); (case c=>k_is); (case k=>k_is))
  (case d26=>refine' Hk.DF.of ?a ?l ?c ?k; (case a=>k_is); (case l=>k_is); (case c=>k_is); (case k=>k_is))
  (case d27=>refine' Hk.DF.of ?a ?l ?c ?k; (case a=>k_is); (case l=>k_is); (case c=>k_is); (case k=>k_is))
  (case d28=>refine' Hk.DF.of ?a ?l ?c ?k; (case a=>k_is); (case l=>k_is); (case c=>k_is); (case k=>k_is))
  (case d29=>refine' Hk.DF.of ?a ?l ?c ?k; (case a=>k_is); (case l=>k_is); (case c=>k_is); (case k=>k_is))
  (case d30=>refine' Hk.DF.of ?a ?l ?c ?k; (case a=>k_is); (case l=>k_is); (case c=>k_is); (case k=>k_is))
  (case d31=>refine' Hk.DF.of ?a ?l ?c ?k; (case a=>k_is); (case l=>k_is); (case c=>k_is); (case k=>k_is))
  (case d32=>refine' Hk.DF.of ?a ?l ?c ?k; (case a=>k_is); (case l=>k_is); (case c=>k_is); (case k=>k_is))
  (case d33=>refine' Hk.DF.of ?a ?l ?c ?k; (case a=>k_is); (case l=>k_is); (case c=>k_is); (case k=>k_is))
  (case d34=>refine' Hk.DF.of ?a ?l ?c ?k; (case a=>k_is); (case l=>k_is); (case c=>k_is); (case k=>k_is))
  (case d35=>refine' Hk.DF.of ?a ?l ?c ?k; (case a=>k_is); (case l=>k_is); (case c=>k_is); (case k=>k_is))
  (case z0=>k_is)
  (case z1=>k_is)
  (case z2=>k_is)
  (case z3=>k_is)
  (case z4=>k_is)
  (case z5=>k_is)
  (case z6=>k_is)
  (case z7=>k_is)
  (case z8=>k_is)
  (case z9=>k_is)
  (case z10=>k_is)
  (case z11=>k_is)
  (case z12=>k_is)
  (case z13=>k_is)
